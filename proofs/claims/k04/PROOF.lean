import PyProof.Rows.All
import Wide.All
import OpenK.AllK
import Wide.FinOn
import Lean
import PyProof.EqAt
import PyProof.EqKinds
import PyProof.TupleCall
import PyProof.ListMulAny
import PyProof.FactsAll.tuple
import KE.IntBitsLaws
import PyProof.NeKinds
import PyProof.FactsAll.tuple_2
import PyProof.SumWalkG
import PyProof.WalksMore
import PyProof.MinMaxWalk
import PyProof.Rows.SeqMore
import PyProof.FactsAll.tuple_3
import PyProof.StrCalls2
import PyProof.StrCalls3
import KE.KRevIter
import PyProof.FactsAll.range_2
import PyProof.EnumFor
import PyProof.TupleOfGen
import PyProof.ListRange
import PyProof.Rows.SetFrom
import PyProof.FactsAll.subtypes_4
import PyProof.TupleKey
import PyProof.IsRules
import PyProof.RangeFor
import PyProof.FactsAll.set_1
import PyProof.CollectIter
import PyProof.FactsAll.set_2
import KE.KSortAsk
import KE.KSortTup
import PyProof.DictWalks
import PyProof.DictRoadsH
import PyProof.CallStr
import PyProof.Rows.FStr
import PyProof.ToksMono
import PyProof.StrCalls6
import PyProof.ExcBaseAll.ValueError
import PyProof.Rows.TopTwo
import PyProof.ExcAttrAll.ValueError
import KE.KIsAll
import KE.KTryMore
import PyProof.InstStoreFacts
import PyProof.ExcInit
import PySem.Challenge.RW_pairwebs_k04_beside_and_refusals_of_webs
noncomputable section
set_option genSizeOfSpec false
set_option genSizeOf false
set_option compiler.extract_closed false
set_option bootstrap.genMatcherCode false
set_option backward.eqns.nonrecursive false
set_option backward.eqns.deepRecursiveSplit false
set_option Elab.async false
set_option linter.all false
set_option maxRecDepth 100000
set_option maxHeartbeats 16000000
namespace L2
end L2
namespace Py
end Py
open PySem renaming wpAny_bind->Za,wpAny_pure->Zd,wpAny_holding->ZE,mem_of_lookup->ZF,wpAny_mono->ZJ,wpAny_truthy_bool->ZR,wpAny_newObj_type->ZS,wpAny_call_entry->Z0,wpAny_callSpecial?_slot->Z1,wpAny_field->Z3,wpAny_seqItems->Z7,codeAny_builtin->Z9,Shared->Nm,Addr->Nn,Value->Np,Program->Nu,Heap->Ny,SetTable->NF,World->NG,Comprehension->NJ,wpAny_pyIter_list->NQ,wpAny_setState_of->NR,Around->NX,wpAny_pyIter_tuple->N2,sizeLine_eq->N5,NameKind->N6,Builtin->N8,FuncData->Ob,wpAny_Call_Name_kw->Og,Stmt->Oq,IsPair->Oz,wpAny_setField_rec->OG,wpAny_passesOwn->OJ,wpAny_standAt->OK,plainId_quiet->OL,codeAny_call_builtin->OT,codeAny_mono->OV,wpAny_typeOf->OW,wpAny_forIn_list->OX,wpAny_askSetting->OZ,wpAny_attempt->O3,call_meets->O_,wpAny_rule->O',wpAny_loadPart_at->Pq,wpAny_call->Pu,wpAny_ite->Pw,ClassData->Pz,wpAny_letGo->PD,wpAny_loadPart'->PM,wpAny_updateSeq->PN,CmpOp->PU,wpAny_setField->P7,IsZip->Qd,wpAny_storeSet_of->Qe,fits_of_scanBound->Qf,IsPart->Qh,filterMap_getElem?_range->Qj,ExceptHandler->Ql,PassesOwn->Qo,Result->Qz,wpAny_Call_method_late->QA,wpAny_execs_nil->QC,codeAny_of_tree->QE,wpAny_tryCatch->QN,wpAny_updateSeq_pair->QO,Keyword->QR,wpAny_setEntries_of->Q1,wpAny_onRaise->Q5,GenState->Rh,Operator->Rj,wpAny_sequenceKey->Rk,plainObj_wpAny_Assign_Attribute->Rw,noFill_tuple_add->Rx,wpAny_isInstance->RA,wpAny_alloc->RE,wpAny_of_eq->RF,BindsTo->RT,wpAny_newFunctionEnv_cells->R7,intKind_is->Sg,wpAny_runValue->Sj,isSubtype_type->Sk,wpAny_loadPart->Sl,seq_tuple_add->Su,wpAny_comprehension_free->Sx,wpAny_newList->SD,putSet_of->SM,concat_meets->SW,seqIndex_neg->SX,richCompare_meets_room->S8,ElemsOf->Tc,wpAny_mkText->Te,codeAny_call_function->Tj,wpAny_eqIsQuiet_tuple->Tp,builtinLookup_eq_fast->Tq
open PySem.Heap renaming get?_push_of_some->Zb,lt_size->Zj,get?_push_size->Zk,get?_update_other->ZH,get?_update_self->ZQ,SameBut->NY,size_push->Ou,FlyingW->O7,get?_none_of_le->Qs,push->Q3,MadeExcOf->Rv,IsTuple->RX,ExtBut->Sn,IsList->So,get?_update_ne->SG,get?_some_iff->SR,get?_push_at->Tf
open List renaming mem_cons_of_mem->Zc,mem_cons_self->Ze,getElem?_eq_getElem->Zf,getElem?_eq_some_iff->Zg,mem_cons->Zi,length_map->Zl,all_eq_true->Zm,length_append->Zn,mem_of_getElem?->Zo,getElem?_append_right->Zp,mem_map->Zq,getElem?_cons_zero->Zr,getElem?_cons_succ->Zs,size_toArray->Zv,getElem?_append_left->Zw,not_mem_nil->Zy,exists_cons_of_length_eq_add_one->Zz,mem_append_right->ZC,pairwise_cons->ZK,mem_iff_getElem->ZL,length_cons->ZM,mem_append->ZP,eq_nil_of_length_eq_zero->ZU,map_map->ZY,getElem?_map->Z2,mem_filterMap->Z5,mem_range->Z8,zip_cons_cons->Yb,map_cons->Yc,mem_append_left->Yd,getElem?_set_self->Yf,pairwise_map->Yh,zipWith->Nq,range->Nt,replicate->Nw,toArray->NA,length_take->NV,mem_singleton->NW,getElem?_set_ne->NZ,append_nil->N4,getD_eq_getElem?_getD->Oc,pairwise_iff_getElem->Oe,nodup_cons->Oh,length_nil->Oi,length->Oj,takeWhile_append_dropWhile->Oo,take_length->Ot,map_append->OB,all_cons->OC,nodup_append->OF,append_assoc->OH,perm_ext_iff_of_nodup->OM,getElem?_eq_none_iff->OQ,length_reverse->OR,map_drop->OU,forIn_cons->OY,set_cons_succ->O0,set_cons_zero->O1,zipWith_cons_cons->O4,length_singleton->Pf,getElem?_zipWith->Pg,contains_iff_mem->Ph,any_eq_true->Pj,lookup_cons->Pl,perm_middle->Pm,of_mem_zip->Ps,filter_sublist->Px,reverse_cons->PZ,zip_nil_left->P0,getElem?_take_of_lt->P2,map_take->P6,getElem?_replicate->P8,length_drop->P9,getD->P_,getElem_mem->P',mem_filter->Qg,foldl_cons->Qi,getElem?_eq_none->Qn,filterMap->Qv,nodup_nil->Qw,map_eq_cons_iff->Qx,replicate_succ->QD,mem_map_of_mem->QF,zip_nil_right->QL,take_sublist->QS,map->QV,mem_reverse->Q4,ext_getElem->Q7,take_left'->Rg,idxOf_lt_length_of_mem->Rn,drop_eq_getElem_cons->RB,filterMap_cons_some->RH,not_of_lt_findIdx->RU,take_of_length_le->RW,drop_eq_nil_of_le->RY,dropLast_eq_take->R_,getElem?_toArray->Sb,take_append_drop->Se,mem_iff_getElem?->Sm,set_append_left->Sr,filterMap_cons->Ss,zip_eq_zipWith->Sz,map_congr_left->SE,filter_eq_self->SH,map_filterMap->SN,getElem?_drop->SS,flatten_cons->S0,foldl_append->S9,drop_sublist->S_,getElem_drop->Ta,getElem_inj->Tg,zipIdx_cons->Tl,mem_nil_iff->Tu,zipWith_map->Tv
open Nat renaming le_refl->Zh,ne_of_lt->Zt,lt_of_lt_of_le->ZA,le_trans->ZD,lt_irrefl->ZO,zero_le->Ya,lt_succ_self->NL,le_of_succ_le->Om,le_of_lt->O8,ne_of_gt->O9,not_lt->Po,lt_succ_of_lt->P4,le_add_right->Qb,lt_of_lt_of_eq->QM,mod_lt->QP,lt_trans->QZ,le_add_left->Rq,add_assoc->RK,le_of_eq->R8,zero_add->Sa,le_succ->Sw,add_left_cancel->SK,lt_succ_of_le->Tn
open Bool renaming false_eq_true->Zu,and_eq_true->ZN,false_ne_true->ZT,true->Nk,false->Nl,eq_iff_iff->Of,not_eq_true'->O6,and_eq_true_iff->Pr,or_eq_true_iff->QG,eq_false_iff->QU,or_eq_true->Rb,not_true->RI,or_true->R0
open LawfulBEq renaming eq_of_beq->Zx
open Nat.succ renaming inj->ZB
open Array renaming length_toList->ZI,getElem?_eq_getElem->NH,getD_eq_getD_getElem?->NK,getElem?_eq_some_iff->NP,getElem?_toList->OD,getElem_toList->Qq,getD->Ro,ext'->Rp,toList_filterMap->RJ,getElem?_eq_none->RL,mem_toList_iff->Sd,range->Si,forIn_toList->SA,find?_toList->SF,getElem_mem->SJ,toList_push->SQ,toList_map->Td,size_push->To
open PySem.Heap.SameBut renaming update->ZZ,refl->RC
open PySem.Around renaming under_plainId->Z4,under->QK
open PyProof.Rows renaming slot_tuple_getitem->Yg,callWith_type1->N1,SortKind->Pp,AllBare->Qc,callWith_builtin1->Qt,IntsAre->QT,entry_tuple_getitem->QX,args_tuple_getitem->Q8,gt_int->Rl,IsTup->R6,tupleItemsOf_->Sv,subscriptTail_builtinR->SY
open Int renaming toNat_natCast->Yi,eq_ofNat_of_zero_le->Qa,emod_lt_of_pos->QQ,emod_nonneg->Rr,ofNat_le->R1,ofNat_lt->R3,natCast_nonneg->SU
open PySem.Value renaming none->Nr,ref->NB,type->N3,bool->OI,int->Pd,isInt_shape->PV,notImplemented->R9
open PySem.SetTable renaming below->Nv,insertAt->Nz,sizeAbove->NI,fill->PJ,toList_insertAt->PK,tooFull->PY,insertAt_perm->P5,fits->Rc,layClean->Sf,grown->SO,slot->Tb
open PySem.Builtin.SmallTypes renaming nextOf->NC,ownedTupleIsFree->NS,ownedTupleHandOut->PH
open PySem.Obj renaming mapSeq->ND,data_mapFields->Oy,putSet->PR,isFreed_of_fields->Qp,cls_mapFields->Q0,mapFields->RM
open PySem.NameKind renaming cell->NE,free->Pa
open PySem.Builtin.Slice renaming slicePlaces->NM,sliceAdjust->OA,sliceApplied->QI
open Option renaming map_eq_some_iff->NN,isSome_iff_exists->NU,bind_some->QW,getD_none->SI
open ForInStep renaming yield->NO
open PyProof.Rows.F renaming plain_set_update_loop->N7,entry_set_update_loop->O5
open PySem.SetTable.probe renaming go->N9
open Option.some renaming inj->N_
open PySem.Calls renaming spliced_cons->Oa,callWith_builtin->O2,evalArgs_plain->Pn,spliced_nil->PX,Constant_str->QH,Name_function_global->Ri,call_function_entry->Ru
open PySem.SetTable.layClean renaming free->Od
open PySem.Str renaming ofString->Ol
open PySem.Builtin.ObjectAttr renaming ownDictForStores->Ox,storeInDict->OO,storeInOwnDict->P1,bindTo->Qr,find->Tr,dataDescriptor?->Ts,newKeyGuard->Tt
open PySem.Builtin.Tuple renaming tupleExact->OE,tupleItemsOf->Pe,tupleCompareSizes->Qm
open PySem.SetTable.below renaming go->ON
open PySem.F renaming slot_tuple_iterator_next->OP,plain_min_loop->OS,slot_zip_next->Qu,entry_min_loop->Rm,args_tuple_iterator_next_1->Ry,entry_tuple_iterator_next->RG
open PySem.Builtin.Int renaming intBits->Pb
open True renaming intro->Pk
open PySem.Builtin.List renaming listTooLong->Pt,listExtendWith->QJ,listUpdate->Q2
open PySem.Builtin.Str renaming occurrences->PC
open List.Perm renaming eq_of_pairwise->PF
open PySem.Code renaming quiet_builtin->PL,isFrame->RS
open PySem.Shared renaming heap->PQ,TypeIs->Rt
open PySem.Builtin.Frozenset renaming updateFrom->Qk
open PySem.Bind renaming checkArgs->Qy
open PySem.Heap.IsList renaming push->QB
open PyProof.Rows.IsTup renaming new->QY
open Classical renaming byContradiction->Q6
open And renaming intro->Q9
open PySem.Heap.IsSliceOf renaming new->Q_
open PySem.AutoSeq1 renaming sub_tuple_tuple->Ra
open PySem.Sem renaming wp_mono->Rf
open PySem.EntryCells renaming newEntry->RD
open PySem.Manifest renaming signature?->RN
open PySem.Builtin.Getset_descriptor renaming descrGet->RO,descrGetter->RP,descrCheckInstance->RQ,descrNameAndClass->RR
open Sum renaming inl->R4,inr->R5
open PyProof.Rows.SortSt renaming mk'->Sq
open PySem.Txt renaming replace->Sy
open PySem.Builtin renaming bitAnd->SV,bitOr->Th
open PySem PySem.Spec PyProof.Rows L2 Py
abbrev Mg:=Str->Option Np
abbrev Vs:=Np->Nm->Prop
abbrev Fg:=PySem.W.Frag
abbrev Lp:=List (Nn×Obj)
abbrev Lq:=List (Int×Int)
abbrev Li:=List Int
abbrev La:=List Nn
abbrev Lv:=List Np
abbrev Ls:=List Str
abbrev Lx:=List Expr
abbrev Ov:=Option Np
abbrev Av:=Array Np
def ZG:=@decide_eq_false
def ZV:=@of_decide_eq_true
def ZW:=@decide_eq_true
def ZX:=@congrArg
def Z6:=@if_false
def Ye:=@or_false
variable {n t' tk mask wanted ep line np:Nat}{m:Int}{us its its' bm sub:Lv}{u cd doc pm cdv ct oc vl vu z cls a0 nameV:Np}{a it C f sl fa acc I pa fI:Nn}{o ob oe ox oI:Obj}{w:NG}{h h' h1 h2 base h0 h3:Ny}{α β:Type}{e tg iter r' value ce elt:Expr}{pq pins':Lp}{s s' s2:Nm}{g':Array Rh}{d' dr:PySem.Drawn}{ch fp μ μ' F wr μ1 μ0:La}{N ps loose N' sn:Ls}{M:Model}{A:NX}{E Q R E':Vs}{rest ifs:Lx}{y name nm qual pe:Str}{K:Fg}{st b0:Oq}{es es':Array (Int×Np)}{g:Int->Int->Int}{pos' apos p2 cpos pt2 p1 p3 p4 vp tp hp cp rp:Pos}{lo hi:Option Int}{op' op'':PU}{prog:Nu}{dx od dd:Option Nn}{mA mg mN:Mg}{env:Env}{kw:List (Str×Np)}{outer:List Env}{ks is:List Nat}{scope:Scope}{osl:Array (Ov)}{items:Av}{ns hs so:Li}{XP:(Mg)->Ny->Prop}{YP:NG->Ny->Prop}{tn:Nat->Ny->Prop}{cs:List (Li×Nn)}{ts:Lq}{cell bf:Str->Bool}{gens:List NJ}{fr:List (Option Nat)}{led hdct ab:Bool}{nb:Option (Str×Nat×Pos×Pos)}{col:Option Bool}
namespace L2
theorem jR(n:Nat){i:Int}(h:¬i<0):max 0 (min i n)=((min i.toNat n:Nat):Int):=by
 obtain⟨k,rfl⟩:=Qa (Int.not_lt.mp h);rw[Yi];rcases Nat.le_total k n with q|q
 ·rw[Nat.min_eq_left q,Int.min_eq_left (R1.mpr q)];exact Int.max_eq_right (SU _)
 ·rw[Nat.min_eq_right q,Int.min_eq_right (R1.mpr q)];exact Int.max_eq_right (SU _)
theorem jS(n:Nat){i:Int}(h:i<0):max 0 (min (i+n) n)=((i+n).toNat:Int):=by rw[Int.min_eq_left (by have:=Int.add_le_add_right (Int.le_of_lt h) n;rwa [Int.zero_add]at this),Int.toNat_eq_max,Int.max_comm]
theorem yr(i j:Nat):(if(i:Int)<j then((j:Int)-i-1)/1+1 else 0).toNat=j-i:=by
 by_cases h:i<j
 ·rw[if_pos (R3.mpr h),Int.ediv_one,Int.sub_add_cancel];exact Int.toNat_sub j i
 ·rw[if_neg (λq=>h (R3.mp q)),Nat.sub_eq_zero_of_le (Nat.le_of_not_lt h)];rfl
theorem jT(a b:Int):max a b=if b>a then b else a:=by
 rw[Int.max_def];by_cases h:a<b
 ·rw[if_pos (Int.le_of_lt h),if_pos h]
 ·by_cases e:a=b
  ·subst e;rw[if_pos (Int.le_refl _),if_neg h]
  ·rw[if_neg (λq=>e (Int.le_antisymm q (Int.not_lt.mp h))),if_neg h]
theorem sj{m:Nat}(h:m<n):((n:Int)-1+(m:Int)* -1).toNat=n-1-m:=by
 have e:((n-1-m:Nat):Int)=(n:Int)-1-m:=by rw[Int.ofNat_sub (Nat.le_sub_one_of_lt h),Int.ofNat_sub (Nat.succ_le_of_lt (Nat.lt_of_le_of_lt (Ya _) h))];rfl
 rw[Int.mul_neg,Int.mul_one,<-Int.sub_eq_add_neg,<-e,Yi]
abbrev Key:=Sum Int Str
noncomputable def qX:Key->Np->Bool
 | .inl k,v=>Value.isInt k v
 | .inr x,v=>Value.isStrOf x v
noncomputable def FP(w:NG):Key->Int
 | .inl k=>hashInt k
 | .inr x=>hashStr w x
theorem fF:∀{k:Key} {v:Np},qX k v=Nk->(∃i t,k=R4 i/\v=Pd i t)\/(∃x t,k=R5 x/\v=Value.str x t)
 | .inl i,v,h=>by obtain⟨t,e⟩:=PV h;exact .inl ⟨i,t,rfl,e⟩
 | .inr x,v,h=>by obtain⟨t,e⟩:=Value.isStrOf_shape h;exact .inr ⟨x,t,rfl,e⟩
theorem sm(a b:Int):decide ((R4 a:Key)=R4 b)=(a==b):=by lia
theorem sr(a b:Str):decide ((R5 a:Key)=R5 b)=decide (a=b):=by lia
theorem ss(a:Int)(b:Str):decide ((R4 a:Key)=R5 b)=Nl:=ZG λq=>nomatch q
theorem su(a:Str)(b:Int):decide ((R5 a:Key)=R4 b)=Nl:=ZG λq=>nomatch q
noncomputable def sv(prog:Nu)(w:NG):PySem.KeyKind prog w Key where
 is:=qX
 hash:=FP w
 inj:=λv a b ha hb=>by
  rcases fF ha with⟨i,t,rfl,rfl⟩| ⟨x,t,rfl,rfl⟩
  ·rcases fF hb with⟨j,u,rfl,e⟩| ⟨y,u,rfl,e⟩
   ·injection e with e1 _;rw[e1]
   ·exact nomatch e
  ·rcases fF hb with⟨j,u,rfl,e⟩| ⟨y,u,rfl,e⟩
   ·exact nomatch e
   ·injection e with e1 _;rw[e1]
 byValue:=λk v h=>by rcases fF h with⟨i,t,rfl,rfl⟩| ⟨x,t,rfl,rfl⟩<;>rfl
 pyHash:=λhv h=>by
  rcases fF hv with⟨i,t,rfl,rfl⟩| ⟨x,t,rfl,rfl⟩
  ·exact wpAny_pyHash_int h
  ·exact wpAny_pyHash_str h
 eqBool:=λhu hv h=>by
  rcases fF hu with⟨i,t,rfl,rfl⟩| ⟨x,t,rfl,rfl⟩
  ·rcases fF hv with⟨j,u,rfl,rfl⟩| ⟨y,u,rfl,rfl⟩
   ·rw[sm]at h;exact wpAny_eqBool_int h
   ·rw[ss]at h;exact SeqAt.EqAt.int_str i t y u _ _ _ _ h
  ·rcases fF hv with⟨j,u,rfl,rfl⟩| ⟨y,u,rfl,rfl⟩
   ·rw[su]at h;exact SeqAt.EqAt.str_int x t j u _ _ _ _ h
   ·rw[sr]at h;exact wpAny_eqBool_str h
 «strs»:=λk x t v h=>by
  rcases fF h with⟨i,u,rfl,e⟩| ⟨y,u,rfl,e⟩
  ·exact nomatch e
  ·injection e with e1 _
   subst e1;cases v<;>rfl
inductive V where
 |non|bl (b:Bool)|int (i:Int)|str (x:Str)|byt (b:Array UInt8)|flt (b:UInt64)|ref (a:Nn)|ty (n:String)
 deriving DecidableEq
noncomputable def RelV:V->Np->Prop
 | .non,u=>u=Nr
 | .bl b,u=>u=OI b
 | .int i,u=>∃t,u=Pd i t
 | .str x,u=>∃t,u=Value.str x t
 | .byt b,u=>∃t,u=Value.bytes b t
 | .flt b,u=>∃t,u=Value.float b t
 | .ref a,u=>u=NB a
 | .ty n,u=>u=N3 n
abbrev Vals:List V->Lv->Prop:=Paired RelV
theorem Vals.length{xs:List V}(r:Vals xs us):xs.length=us.length:=Paired.length r
theorem Vals.get:∀{xs:List V} {us:Lv} {i:Nat} {x:V},Vals xs us->xs[i]?=some x->∃u,us[i]?=some u/\RelV x u
 |_,_,_,_,.nil,e=>by simp_all
 |_,_,0,_,.cons r _,e=>by simp_all
 |_,_,i+1,x,.cons _ t,e=>by obtain⟨u,h,H⟩:=Vals.get t (by simpa using e);simp_all
theorem Vals.set{x:V}(r:RelV x u):∀{xs:List V} {us:Lv} (i:Nat),Vals xs us->Vals (xs.set i x) (us.set i u)
 |_,_,_,.nil=>.nil
 |_,_,0,.cons _ t=>.cons r t
 |_,_,i+1,.cons q t=>.cons q (Vals.set r i t)
theorem Vals.append:∀{xs ys:List V} {us w:Lv},Vals xs us->Vals ys w->Vals (xs++ys) (us++w)
 |_,_,_,_,.nil,s=>s
 |_,_,_,_,.cons r t,s=>.cons r (Vals.append t s)
theorem Vals.take:∀{xs:List V} {us:Lv} (n:Nat),Vals xs us->Vals (xs.take n) (us.take n)
 |_,_,0,_=>.nil
 |_,_,_+1,.nil=>.nil
 |_,_,n+1,.cons r t=>.cons r (Vals.take n t)
theorem Vals.drop:∀{xs:List V} {us:Lv} (n:Nat),Vals xs us->Vals (xs.drop n) (us.drop n)
 |_,_,0,r=>r
 |_,_,_+1,.nil=>.nil
 |_,_,n+1,.cons _ t=>Vals.drop n t
noncomputable def l4:Option V->Ov->Prop
 |some v,some u=>RelV v u
 |none,none=>True
 |_,_=>False
def KV{a:Type}:List (a×V)->List (a×Np)->Prop:=Paired λ(p:a×V) (q:a×Np)=>p.1=q.1/\RelV p.2 q.2
noncomputable def kV:Key->V
 | .inl i=>.int i
 | .inr x=>.str x
inductive HO where
 |lst (xs:List V)
 |tup (xs:List V)
 |dK (kvs:List (Key×V))|dT (kvs:List (List Key×V))
 |set (S:Int->Bool) (n:Nat)
 |ins (C dx:Nn) (fs:List (Str×V))
 |own (x:Nn)
 |xd (fs:List (Str×V))
 |met (f x:Nn)
 |rng (lo hi:Int)
 |frz (o:Obj) (u:HO)
 |tbl (ps:Av)
 |ext (φ:Ny->Prop)
abbrev Hp:=Nn->Option HO
noncomputable def aP(H:Hp)(a:Nn)(o:HO):Hp:=λb=>if b=a then some o else H b
theorem a8{H:Hp}{o:HO}:aP H a o a=some o:=by unfold aP;simp_all
theorem av{H:Hp}{b:Nn}{o:HO}(h:b≠a):aP H a o b=H b:=by unfold aP;rw[if_neg h]
theorem bT{H:Hp}{b:Nn}{o:HO}(h:H a=some o)(h':H b=none):a≠b:=by lia
def qY(h:Ny)(a:Nn):Prop:=∃o,h.get? a=some o/\o.dict=none
theorem qY.new(h:Ny)(items:Av):qY (h.push {cls:=.type "tuple",data:=.seq items}) h.objs.size:=⟨_,Zk _ rfl,rfl⟩
section
variable (P:Nu)(w:NG)
noncomputable def aQ(H:Hp)(h:Ny)(a:Nn):HO->Prop
 | .lst xs=>xs.length<=sizeLine/\∃(its:Lv) (n:Nat),Vals xs its/\h.get? a=some {cls:=.type "list",data:=.seq its.toArray n}
 | .tup xs=>xs.length<=sizeLine/\∃its:Lv,Vals xs its/\R6 h a its.toArray/\qY h a
 | .dK k=>k.length<=sizeLine/\(a==sysModules)=Nl/\∃vs,KV k vs/\h.DictOf (sv P w) a vs
 | .dT k=>k.length<=sizeLine/\(a==sysModules)=Nl/\∃xs:List (List Key×Nn×Np),
   Paired (λ(p:List Key×V) (q:List Key×Nn×Np)=>p.1=q.1/\H q.2.1=some (.tup (p.1.map kV))/\RelV p.2 q.2.2) k xs/\
   ∃o es ep,h.get? a=some o/\o.ExactDict/\o.data=.dict es ep/\es.toList=xs.map (entryOfKey (tupleKind (sv P w)))/\(xs.map (·.1)).Nodup
 | .set S n=>h.SetOf (intKind P w) a S n
 | .ins C dx fs=>H dx=some (.own a)/\fs.length<=1000/\dx≠a/\h.get? a=some (PySem.W.instObj C dx)/\
   ∃mA,h.Ns1 dx mA/\(∀f,l4 (fs.lookup f) (mA f))/\PySem.Within mA (fs.map (·.1))
 | .own _=>∃o,h.get? a=some o
 | .xd fs=>∃mA,h.Ns1 a mA/\∀f,l4 (fs.lookup f) (mA f)
 | .rng lo hi=>∃t u v,h.get? a=some {cls:=.type "range",data:=.fields #[.int lo t,.int hi u,.int 1 v]}
 | .frz o u=>h.get? a=some o/\aQ H h a u
 | .tbl ps=>h.get? a=some {cls:=.none,data:=.fields ps}
 | .met f x=>h.get? a=some (PySem.W.methodObj (.ref f) (.ref x))
 | .ext φ=>φ h/\(∃o,h.get? a=some o)/\∀h1 h2:Ny,φ h1->(∀o,h1.get? a=some o->h2.get? a=some o)->φ h2
def dY(H:Hp)(h:Ny):Prop:=∀a o,H a=some o->aQ P w H h a o
end
section
variable {P:Nu}{H H':Hp}{o:HO}
theorem aQ.lt(x:aQ P w H h a o):a<h.objs.size:=by
 cases o with
 |lst X=>obtain⟨_,_,_,_,e⟩:=x;exact Zj e
 |tup X=>obtain⟨_,_,_,p,_⟩:=x;exact p.lt
 |dK k=>obtain⟨_,_,_,_,o,_,_,e,_⟩:=x;exact Zj e
 |dT k=>obtain⟨_,_,_,_,o,_,_,e,_⟩:=x;exact Zj e
 |set S n=>obtain⟨o,_,_,_,e,_⟩:=x;exact Zj e
 |ins C d fs=>obtain⟨_,_,_,e,_⟩:=x;exact Zj e
 |own y=>obtain⟨_,e⟩:=x;exact Zj e
 |xd fs=>obtain⟨_,⟨_,_,_,e,_⟩,_⟩:=x;exact Zj e
 |rng lo b=>obtain⟨_,_,_,e⟩:=x;exact Zj e
 |frz O u=>obtain⟨e,_⟩:=x;exact Zj e
 |tbl c=>exact Zj (show h.get? a=some _ from x)
 |met f y=>exact Zj (show h.get? a=some _ from x)
 |ext g=>obtain⟨_,⟨_,e⟩,_⟩:=x;exact Zj e
theorem Paired.mapP{F G:α->β->Prop}:∀{l:List α} {L:List β},Paired F l L->(∀a b,F a b->G a b)->Paired G l L
 |_,_,.nil,_=>.nil
 |_,_,.cons r t,f=>.cons (f _ _ r) (Paired.mapP t f)
theorem aQ.stay(x:aQ P w H h a o)(k:∀b u,(b=a\/H b=some (.own a))->h.get? b=some u->h'.get? b=some u)
  (A:∀b,H b=some (.own a)->H' b=some (.own a)) (B:∀b xs,H b=some (.tup xs)->H' b=some (.tup xs)):aQ P w H' h' a o:=by
 induction o with
 |lst xs=>obtain⟨z,i,n,r,e⟩:=x;exact⟨z,_,n,r,k _ _ (.inl rfl) e⟩
 |tup xs=>obtain⟨z,i,r,⟨O,e,c⟩,D,l,j⟩:=x;exact⟨z,_,r,⟨_,k _ _ (.inl rfl) e,c⟩,_,k _ _ (.inl rfl) l,j⟩
 |dK K=>obtain⟨z,y,vs,r,O,g,E,e,c⟩:=x;exact⟨z,y,_,r,_,_,_,k _ _ (.inl rfl) e,c⟩
 |dT K=>obtain⟨z,y,xs,r,O,g,E,e,c⟩:=x;exact⟨z,y,_,Paired.mapP r λp q z=>⟨z.1,B _ _ z.2.1,z.2.2⟩,_,_,_,k _ _ (.inl rfl) e,c⟩
 |set S n=>obtain⟨O,g,E,t,e,c⟩:=x;exact⟨_,_,_,t,k _ _ (.inl rfl) e,c⟩
 |ins C G fs=>obtain⟨d,z,ne,e,M,⟨F,g,E,m,c⟩,r⟩:=x;exact⟨A _ d,z,ne,k _ _ (.inl rfl) e,_,⟨_,_,_,k _ _ (.inr d) m,c⟩,r⟩
 |own y=>obtain⟨O,e⟩:=x;exact⟨_,k _ _ (.inl rfl) e⟩
 |xd fs=>obtain⟨M,⟨F,g,E,e,c⟩,r⟩:=x;exact⟨_,⟨_,_,_,k _ _ (.inl rfl) e,c⟩,r⟩
 |rng lo J=>obtain⟨t,u,v,e⟩:=x;exact⟨t,u,v,k _ _ (.inl rfl) e⟩
 |frz O u I=>obtain⟨e,q⟩:=x;exact⟨k _ _ (.inl rfl) e,I q⟩
 |tbl L=>exact k a _ (.inl rfl) x
 |met f y=>exact k a _ (.inl rfl) x
 |ext N=>obtain⟨p,⟨o,e⟩,s⟩:=x;exact⟨s _ _ p λo q=>k _ _ (.inl rfl) q,⟨o,k _ _ (.inl rfl) e⟩,s⟩
theorem dY.lt(x:dY P w H h)(e:H a=some o):a<h.objs.size:=(x a o e).lt
theorem dY.fresh(x:dY P w H h)(e:h.objs.size<=a):H a=none:=by
 cases q:H a with
 |none=>rfl
 |some u=>exact absurd (ZA (x.lt q) e) (ZO _)
theorem dY.kept(x:dY P w H h)(k:∀b u,h.get? b=some u->h'.get? b=some u):dY P w H h':=λa o e=>
 (x a o e).stay (λb u _ q=>k b u q) (λ_ q=>q) λ_ _ q=>q
theorem dY.laid(x:dY P w H h)(k:∀b u,h.get? b=some u->h'.get? b=some u)(g:h.objs.size<=a)(new:aQ P w (aP H a o) h' a o):dY P w (aP H a o) h':=λb u e=>by
 have f:=x.fresh g;by_cases d:b=a
 ·subst d;rw[a8]at e;simp_all
 ·rw[av d]at e;exact(x b u e).stay (λc v _ q=>k c v q) (λc q=>by rw[av (bT q f)];exact q) λc X q=>by rw[av (bT q f)];exact q
end
def Rd(H:Hp)(a:Nn)(u:HO):Prop:=H a=some u\/∃o,H a=some (.frz o u)
theorem Rd.ok{P:Nu}{H:Hp}{u:HO}(r:Rd H a u)(x:dY P w H h):aQ P w H h a u:=by
 rcases r with r| ⟨o,r⟩
 ·exact x a u r
 ·obtain⟨_,q⟩:=x a _ r;exact q
noncomputable def Fp:Option HO->Prop
 |some (.lst _)=>True
 |some (.dK _)=>True
 |some (.dT _)=>True
 |some (.set _ _)=>True
 |some (.ins _ _ _)=>True
 |some (.ext _)=>True
 |_=>False
section
variable {P:Nu}{H:Hp}{x e:Nn}{o':HO}
theorem dY.write(ok:dY P w H h)(m:Fp (H x))(i:e=x\/H e=some (.own x))(k:∀b u,b≠e->h.get? b=some u->h'.get? b=some u)(a:∃u,h'.get? e=some u)
  (new:aQ P w (aP H x o') h' x o'):dY P w (aP H x o') h':=λb u q=>by
 have n:∀c y,H c=some (.own y)->c≠x:=λc y r z=>by subst z;rw[r]at m;exact m
 have N:∀c X,H c=some (.tup X)->c≠x:=λc X r z=>by subst z;rw[r]at m;exact m
 by_cases d:b=x
 ·subst d;rw[a8]at q;simp_all
 ·rw[av d]at q;by_cases f:b=e
  ·have Q:H b=some (.own x):=by lia
   rw[q]at Q;cases Q;obtain⟨v,j⟩:=a;exact⟨v,by lia⟩
  ·refine(ok b u q).stay (λc v g r=>k c v ?_ r) (λc r=>by rw[av (n c b r)];exact r) λc X r=>by rw[av (N c _ r)];exact r
   grind
end
structure Un (fs ex:La)(H H':Hp)(h h':Ny):Prop where
 keep:∀b o,h.get? b=some o->H b=none->b∉fs->b∉ex->h'.get? b=some o
 slot:∀b o,h.get? b=some o->H b=none->b∈fs->b∉ex->∃sl,h'.get? b=some {o with slots:=sl}
 free:∀b o,h.get? b=some o->H b=none->b∉ex->H' b=none
 there:∀b o,h.get? b=some o->b∉ex->∃o',h'.get? b=some o'
 tups:∀b xs,H b=some (.tup xs)->H' b=some (.tup xs)
 frzs:∀b o u,H b=some (.frz o u)->H' b=some (.frz o u)
 tbls:∀b ps,H b=some (.tbl ps)->∃more,H' b=some (.tbl (ps++more))
section
variable {fs fs' ex ex':La}{H H1 H2:Hp}{x e:Nn}{o:HO}
theorem Un.any(u:Un fs ex H H1 h h1){b:Nn}(q:h.get? b=some ob)(n:H b=none)(c:b∉ex):∃sl,h1.get? b=some {ob with slots:=sl}:=by
 by_cases a:b∈fs
 ·exact u.slot b _ q n a c
 ·exact⟨_,u.keep b _ q n a c⟩
theorem Un.kept(k:∀b u,h.get? b=some u->h'.get? b=some u):Un fs ex H H h h':=
 ⟨λb o q _ _ _=>k b _ q,λb o q _ _ _=>⟨_,k b _ q⟩,λ_ _ _ n _=>n,λb o q _=>⟨_,k b _ q⟩,λ_ _ q=>q,λ_ _ _ q=>q,λ_ p q=>⟨#[],by simp_all⟩⟩
theorem Un.refl:Un fs ex H H h h:=Un.kept λ_ _ q=>q
theorem Un.laid(k:∀b u,h.get? b=some u->h'.get? b=some u)(hp:h.objs.size<=a)(hn:H a=none):Un fs ex H (aP H a o) h h' where
 keep:=λb u q _ _ _=>k b u q
 slot:=λb u q _ _ _=>⟨_,k b u q⟩
 free:=λb u q n _=>by rw[av (Zt (ZA (Zj q) hp))];exact n
 there:=λb u q _=>⟨u,k b u q⟩
 tups:=λb xs q=>by rw[av (bT q hn)];exact q
 frzs:=λb u xs q=>by rw[av (bT q hn)];exact q
 tbls:=λb ps q=>⟨#[],by rw[av (bT q hn),q];simp⟩
theorem Un.write(m:Fp (H x))(g:e=x\/H e=some (.own x))(k:∀b u,b≠e->h.get? b=some u->h'.get? b=some u)(d:∃u,h'.get? e=some u):Un fs ex H (aP H x o) h h':=by
 have f:∀b,H b=none->b≠x:=λb n z=>by subst z;rw[n]at m;exact m
 have c:∀b,H b=none->b≠e:=λb n z=>by lia
 have a:∀b u,H b=some u->¬Fp (some u)->b≠x:=λb u q N z=>by lia
 refine⟨λb u q n _ _=>k b u (c b n) q,λb u q n _ _=>⟨_,k b u (c b n) q⟩,λb u q n _=>by rw[av (f b n)];exact n,λb u q _=>?_,
  λb X q=>by rw[av (a b _ q λz=>z)];exact q,λb u X q=>by rw[av (a b _ q λz=>z)];exact q,λb p q=>⟨#[],by rw[av (a b _ q λz=>z),q];simp⟩⟩
 grind
end
noncomputable def MT(h:Ny)(H:Hp):La:=(Nt h.objs.size).filter λa=>(H a).isSome
noncomputable def f7(h:Ny)(H:Hp):Ny:=PySem.W.hideAll h (MT h H)
theorem FQ(h:Ny)(H:Hp):(f7 h H).objs.size=h.objs.size:=PySem.W.hideAll_size _ _
theorem FR{H:Hp}{b:Nn}(e:h.get? b=some o)(n:H b=none):(f7 h H).get? b=some o:=
 PySem.W.hideAll_get _ e λa=>by have q:=(Qg.mp a).2;simp_all
theorem l5{H:Hp}{b:Nn}(e:(f7 h H).get? b=some o):h.get? b=some o/\H b=none:=by
 have E:=PySem.W.of_hideAll _ e;refine⟨E,?_⟩;cases q:H b with
 |none=>rfl
 |some x=>have z:(f7 h H).get? b=none:=PySem.W.hideAll_none _ (Qg.mpr ⟨Z8.mpr (Zj E),by simp[q]⟩);simp_all
structure Mod (K:Fg)(mg:Mg)(base:Ny):Prop where
 kin:K.In base
 glob:base.Ns mainGlobals mg
 blt:∃mb,base.Ns builtinsNs mb/\∀x:Str,x≠"__name__"->mb x=bootBuiltins x
 nolimit:base.NoLimit
structure Cx where
 prog:Nu
 w:NG
 K:Fg
 mg:Mg
 base:Ny
 A:NX
 N:Ls
 s₀:Nm
 H₀:Hp
 env:Env
 outer:List Env
 stack:List Env
 ex:La
 fn:Str->Bool
 calm:Bool
 pn:Lp
 xe:Vs
noncomputable def bG(l:List Env):La:=l.filterMap (·.frame)
abbrev Cx.fs(X:Cx):La:=bG X.outer
def yt(s:Scope)(x:Str):Prop:=s.names.lookup x=some .local\/s.names.lookup x=some .cell\/s.names.lookup x=some .free
def Loc(s:Scope)(x:Str):Prop:=s.names.lookup x=some .local\/s.names.lookup x=some .cell
def Look(env:Env)(h:Ny)(m:Mg)(x:Str)(u:Np):Prop:=
 (env.kindOf x=some .local/\m x=some u)\/((env.kindOf x=some .cell\/env.kindOf x=some .free)/\∃c,env.cells.lookup x=some c/\h.IsCell c (some u))
structure Cx.Ok (X:Cx):Prop where
 mod:Mod X.K X.mg X.base
 kind:X.env.scope.kind=.function
 glob:X.env.globals=mainGlobals
 blt:X.env.builtins=builtinsNs
 above:X.s₀.heap.objs.size<=X.env.locals
 inj:∀x y c,X.env.cells.lookup x=some c->X.env.cells.lookup y=some c->x=y
 has:∀x,(X.env.kindOf x=some .cell\/X.env.kindOf x=some .free)->∃c,X.env.cells.lookup x=some c
 cab:∀x c,X.fn x=Nk->X.env.cells.lookup x=some c->X.s₀.heap.objs.size<=c
 hd:X.calm=Nk->X.A.handled=none
 frames:X.A.frames=some X.stack
 stk:X.stack=X.outer\/(X.stack=X.env::X.outer/\X.env.frame=some X.env.locals)
 exf:∀b∈X.ex,b≠X.env.locals/\∀x c,X.env.cells.lookup x=some c->c≠b
 bs:∀b o,X.base.get? b=some o->X.s₀.heap.get? b=some o/\X.H₀ b=none
 bsz:X.base.objs.size<=X.s₀.heap.objs.size
 noex:∀b o,X.base.get? b=some o->b∉X.ex
 exfs:∀b∈X.ex,b∉X.fs
 funs:X.s₀.heap.FunFrames X.base X.outer
 frf:∀b∈X.fs,X.H₀ b=none
structure Inv (X:Cx)(pq:Lp)(σ:List (Option V))(H:Hp)(s:Nm):Prop where
 ok:X.Ok
 os:s.os=X.s₀.os
 bare:Qc s.gens
 base:Un X.fs X.ex X.H₀ H X.s₀.heap s.heap
 loc:∃m,s.heap.Ns X.env.locals m/\∀(i:Nat) (x:Str) (v:V),X.N[i]?=some x->σ[i]?=some (some v)->yt X.env.scope x->∃u,RelV v u/\Look X.env s.heap m x u
 cell:∀x c,X.env.cells.lookup x=some c->∃v,s.heap.IsCell c v
 free:H X.env.locals=none
 freeC:∀x c,X.env.cells.lookup x=some c->H c=none
 pin:∀p∈X.pn++pq,s.heap.get? p.1=some p.2/\H p.1=none/\p.1≠X.env.locals/\p.1∉X.fs/\∀v,p.2.data≠.cell v
 hok:dY X.prog X.w H s.heap
 len:σ.length=X.N.length
section
variable {X:Cx}{σ:List (Option V)}{H H':Hp}
theorem Cx.Ok.nofr(ok:X.Ok){b:Nn}(e:X.base.get? b=some o):b∉X.fs:=λh=>by have:=(ok.funs.mem h).1;simp_all
theorem Inv.bs(I:Inv X pq σ H s):∀b o,X.base.get? b=some o->s.heap.get? b=some o/\H b=none:=λb o e=>
 ⟨I.base.keep b o (I.ok.bs b o e).1 (I.ok.bs b o e).2 (I.ok.nofr e) (I.ok.noex b o e),I.base.free b o (I.ok.bs b o e).1 (I.ok.bs b o e).2 (I.ok.noex b o e)⟩
theorem Inv.bk(I:Inv X pq σ H s):∀b o,X.base.get? b=some o->s.heap.get? b=some o:=λb o e=>(I.bs b o e).1
theorem Inv.mod(I:Inv X pq σ H s):Mod X.K X.mg X.base:=I.ok.mod
theorem Inv.kIn(I:Inv X pq σ H s):X.K.In s.heap:=I.ok.mod.kin.keeps I.bk
theorem Inv.lt(I:Inv X pq σ H s):X.env.locals<s.heap.objs.size:=(by obtain⟨_,h,_⟩:=I.loc;exact(h.lt))
theorem Inv.sz(I:Inv X pq σ H s):X.s₀.heap.objs.size<=s.heap.objs.size:=ZD I.ok.above (O8 I.lt)
theorem Inv.nofs(I:Inv X pq σ H s)(h:s.heap.objs.size<=a):a∉X.fs:=λb=>by obtain⟨_,o,c,_⟩:=I.ok.funs.mem b;exact absurd (ZA (Zj c) (ZD I.sz h)) (ZO _)
theorem Inv.cne(I:Inv X pq σ H s):∀x c,X.env.cells.lookup x=some c->c≠X.env.locals:=λx c e z=>by obtain⟨v,o,f,d⟩:=I.cell x c e;obtain⟨m,⟨O,b,E,a,h,_⟩,_⟩:=I.loc;simp_all
theorem Inv.funs(I:Inv X pq σ H s):s.heap.FunFrames X.base X.outer:=by
 have all:∀(l:List _),(∀b∈bG l,b∈X.fs)->X.s₀.heap.FunFrames X.base l->s.heap.FunFrames X.base l:=by
  intro l
  induction l with
  |nil=>intro _ _;trivial
  |cons E r n=>intro d i;obtain⟨g,⟨L,o,c,j,k,f⟩,m⟩:=i;have h:=d L (by unfold bG;simp_all);obtain⟨sl,e⟩:=I.base.slot L o k (I.ok.frf L h) h λz=>I.ok.exfs L z h;exact⟨g,⟨L,_,c,j,e,f⟩,n (λb a=>d b (by unfold bG;simp only[Ss,c];exact Zc _ a)) m⟩
 exact all _ (λ_ a=>a) I.ok.funs
theorem Inv.stack(I:Inv X pq σ H s):s.heap.FunFrames X.base X.stack:=by
 rcases I.ok.stk with e| ⟨e,h⟩
 ·rw[e];exact I.funs
 ·rw[e];obtain⟨m,a,_⟩:=I.loc;exact .cons (by rw[I.ok.kind];decide) h a (Qs (ZD I.ok.bsz I.ok.above)) I.funs
theorem Inv.stkSub(I:Inv X pq σ H s):∀b∈bG X.stack,b∈X.env.locals::X.fs:=λb h=>by
 rcases I.ok.stk with e| ⟨e,a⟩
 ·simp_all
 ·rw[e]at h;unfold bG at h;rw[Ss,a]at h;exact h
theorem Inv.stkFree(I:Inv X pq σ H s):∀b∈bG X.stack,H b=none:=λb h=>by
 rcases Zi.mp (I.stkSub b h)with e|h
 ·rw[e];exact I.free
 ·obtain⟨_,o,a,_⟩:=I.ok.funs.mem h;exact I.base.free b o a (I.ok.frf b h) λz=>I.ok.exfs b z h
theorem Inv.step{g':Array Rh}{t':Nat}{d':PySem.Drawn}(I:Inv X pq σ H s)
  (a:∀b∈ch,(b∈X.ex\/X.s₀.heap.objs.size<=b)/\b≠X.env.locals/\(∀x c,X.env.cells.lookup x=some c->c≠b)/\∀p∈X.pn++pq,p.1≠b)
  (K:∀b o,b≠X.env.locals->b∉X.fs->b∉ch->s.heap.get? b=some o->H b=none->h'.get? b=some o)
  (S:∀b o,b≠X.env.locals->b∈X.fs->b∉ch->s.heap.get? b=some o->H b=none->∃sl,h'.get? b=some {o with slots:=sl}) (f:∀b o,b∉ch->s.heap.get? b=some o->H b=none->H' b=none)
  (t:∀b o,b∉ch->s.heap.get? b=some o->∃o',h'.get? b=some o')
  (B:∀b xs,H b=some (.tup xs)->H' b=some (.tup xs)) (F:∀b o u,H b=some (.frz o u)->H' b=some (.frz o u)) (T:∀b ps,H b=some (.tbl ps)->∃more,H' b=some (.tbl (ps++more)))
  (ns:∀m,s.heap.Ns X.env.locals m->h'.Ns X.env.locals m) (G:dY X.prog X.w H' h') (U:Qc g'):
  Inv X pq σ H' {s with heap:=h',gens:=g',drawn:=d',toks:=t'}:=by
 have A:∀b o,X.s₀.heap.get? b=some o->b≠X.env.locals:=λb o e=>Zt (ZA (Zj e) I.ok.above)
 have g:∀b o,X.s₀.heap.get? b=some o->b∉X.ex->b∉ch:=λb o e h j=>by
  rcases(a b j).1 with z|z
  ·exact h z
  ·exact absurd (ZA (Zj e) z) (ZO _)
 have C:∀x c,X.env.cells.lookup x=some c->∀v,s.heap.IsCell c v->h'.IsCell c v:=λx c e v ⟨o,w,D⟩=>by
  have N:c∉ch:=λz=>(a c z).2.2.1 x c e rfl;by_cases L:c∈X.fs
  ·obtain⟨sl,q⟩:=S c o (I.cne x c e) L N w (I.freeC x c e);exact⟨_,q,D⟩
  ·exact⟨o,K c o (I.cne x c e) L N w (I.freeC x c e),D⟩
 refine⟨I.ok,I.os,U,⟨λb o e n j h=>?_,λb o e n j h=>?_,λb o e n h=>?_,λb o e h=>?_,λb xs e=>B b xs (I.base.tups b xs e),λb o xs e=>F b o xs (I.base.frzs b o xs e),λb ps e=>?_⟩,?_,λx c e=>?_,?_,λx c e=>?_,λp O=>?_,G,I.len⟩
 ·exact K b o (A b o e) j (g b o e h) (I.base.keep b o e n j h) (I.base.free b o e n h)
 ·obtain⟨sl,E⟩:=I.base.slot b o e n j h;obtain⟨J,y⟩:=S b _ (A b o e) j (g b o e h) E (I.base.free b o e n h);exact⟨J,y⟩
 ·obtain⟨o',E⟩:=I.base.there b o e h;exact f b o' (g b o e h) E (I.base.free b o e n h)
 ·obtain⟨o',E⟩:=I.base.there b o e h;exact t b o' (g b o e h) E
 ·obtain⟨Y,E⟩:=I.base.tbls b ps e;obtain⟨Z,y⟩:=T b _ E;exact⟨Y++Z,by rw[y,Array.append_assoc]⟩
 ·obtain⟨m,W,V⟩:=I.loc;refine⟨m,ns m W,λi x v E y R=>?_⟩;obtain⟨u,r,l⟩:=V i x v E y R;refine⟨u,r,?_⟩;rcases l with l| ⟨k,c,e,z⟩
  ·exact .inl l
  ·exact .inr ⟨k,c,e,C x c e _ z⟩
 ·obtain⟨v,z⟩:=I.cell x c e;exact⟨v,C x c e v z⟩
 ·obtain⟨m,⟨o,_,_,w,_⟩,_⟩:=I.loc;exact f _ o (λz=>(a _ z).2.1 rfl) w I.free
 ·obtain⟨v,o,w,D⟩:=I.cell x c e;exact f c o (λz=>(a c z).2.2.1 x c e rfl) w (I.freeC x c e)
 ·obtain⟨e,n,ne,P,d⟩:=I.pin p O;have N:p.1∉ch:=λz=>(a p.1 z).2.2.2 p O rfl;exact⟨K p.1 p.2 ne P N e n,f p.1 p.2 N e n,ne,P,d⟩
theorem Inv.un{t':Nat}(I:Inv X pq σ H s)(u:Un X.fs [] H H' s.heap h')(c:dY X.prog X.w H' h'):Inv X pq σ H' {s with heap:=h',toks:=t'}:=by obtain⟨m,⟨o,l,k,f,r⟩,_⟩:=id I.loc;obtain⟨sl,i⟩:=u.any f I.free (by simp);exact I.step (ch:=[]) (λ_ z=>nomatch z) (λb o _ a _ e n=>u.keep b o e n a (by simp)) (λb o _ a _ e n=>u.slot b o e n a (by simp)) (λb o _ e n=>u.free b o e n (by simp)) (λb o _ e=>u.there b o e (by simp)) u.tups u.frzs u.tbls (λM j=>by obtain⟨O,g,E,h,R⟩:=j;rw[f]at h;cases h;exact⟨_,_,_,i,R⟩) c I.bare
theorem Inv.call{t':Nat}{d':PySem.Drawn}(I:Inv X pq σ H s)(u:Un (bG X.stack) ch H H' s.heap h')(g:dY X.prog X.w H' h')(q:Qc g')
  (a:∀b∈ch,(b∈X.ex\/X.s₀.heap.objs.size<=b)/\b≠X.env.locals/\(∀x c,X.env.cells.lookup x=some c->c≠b)/\∀p∈X.pn++pq,p.1≠b):
  Inv X pq σ H' {s with heap:=h',gens:=g',drawn:=d',toks:=t'}:=by
 obtain⟨m,⟨o,y,w,j,r⟩,_⟩:=id I.loc;obtain⟨sl,f⟩:=u.any j I.free λz=>(a _ z).2.1 rfl;exact I.step a (λb o f l h e n=>u.keep b o e n (λz=>(Zi.mp (I.stkSub b z)).elim f l) h) (λb o _ _ h e n=>u.any e n h) (λb o h e n=>u.free b o e n h) (λb o h e=>u.there b o e h) u.tups u.frzs u.tbls (λM v=>by obtain⟨O,k,E,d,R⟩:=v;rw[j]at d;cases d;exact⟨_,_,_,f,R⟩) g q
theorem Inv.turned{t':Nat}(I:Inv X pq σ H s)(k:∀b o,b≠it->s.heap.get? b=some o->h'.get? b=some o)(w:H it=none)(a:it≠X.env.locals)
  (h1:it∈X.ex\/X.s₀.heap.objs.size<=it) (g:∀x c,X.env.cells.lookup x=some c->c≠it) (i:∀p∈X.pn++pq,p.1≠it):Inv X pq σ H {s with heap:=h',toks:=t'}:=by
 have N:∀b u,H b=some u->b≠it:=λb u e z=>by rw[z,w]at e;cases e
 refine I.step (g':=s.gens) (d':=s.drawn) (ch:=[it]) (λb j=>?_) (λb o _ _ h e _=>k b o (λz=>h (by simp[z])) e) (λb o _ _ h e _=>⟨o.slots,k b o (λz=>h (by simp[z])) e⟩) (λ_ _ _ _ n=>n)
  (λb o h e=>⟨o,k b o (λz=>h (by simp[z])) e⟩) (λ_ _ e=>e) (λ_ _ _ e=>e) (λb P e=>⟨#[],by rw[e];simp⟩) (λm l=>?_) (λb u e=>?_) I.bare
 ·have e:b=it:=by simpa using j
  subst e;exact⟨h1,a,g,i⟩
 ·obtain⟨o,f,E,y,r⟩:=l;exact⟨o,f,E,k _ o (Ne.symm a) y,r⟩
 ·refine(I.hok b u e).stay (λc v h q=>k c v ?_ q) (λ_ q=>q) λ_ _ q=>q;rcases h with z|z
  ·rw[z];exact N b u e
  ·exact N c _ z
theorem Inv.tok(I:Inv X pq σ H s)(t:Nat):Inv X pq σ H {s with toks:=t}:=I.un Un.refl I.hok
theorem Inv.kept{t':Nat}(I:Inv X pq σ H s)(k:∀b u,s.heap.get? b=some u->h'.get? b=some u):Inv X pq σ H {s with heap:=h',toks:=t'}:=I.un (Un.kept k) (I.hok.kept k)
theorem Inv.laid{o:HO}{t':Nat}(I:Inv X pq σ H s)(k:∀b u,s.heap.get? b=some u->h'.get? b=some u)(h:s.heap.objs.size<=a)(new:aQ X.prog X.w (aP H a o) h' a o):
  Inv X pq σ (aP H a o) {s with heap:=h',toks:=t'}:=I.un (Un.laid k h (I.hok.fresh h)) (I.hok.laid k h new)
theorem Inv.write{x e:Nn}{o:HO}{t':Nat}(I:Inv X pq σ H s)(m:Fp (H x))(a:e=x\/H e=some (.own x))(k:∀b u,b≠e->s.heap.get? b=some u->h'.get? b=some u)(h:∃u,h'.get? e=some u)
  (new:aQ X.prog X.w (aP H x o) h' x o):Inv X pq σ (aP H x o) {s with heap:=h',toks:=t'}:=I.un (Un.write m a k h) (I.hok.write m a k h new)
theorem Inv.pins_of(I:Inv X pq σ H s)(h:∀p∈pins',s.heap.get? p.1=some p.2/\H p.1=none/\p.1≠X.env.locals/\p.1∉X.fs/\∀v,p.2.data≠.cell v):Inv X pins' σ H s:=
 ⟨I.ok,I.os,I.bare,I.base,I.loc,I.cell,I.free,I.freeC,λp a=>(ZP.mp a).elim (λz=>I.pin p (Yd _ z)) (h p),I.hok,I.len⟩
theorem yu(h:N.Nodup){i j:Nat}{x:Str}(a:N[i]?=some x)(b:N[j]?=some x):i=j:=by obtain⟨H,e⟩:=Zg.mp a;obtain⟨c,E⟩:=Zg.mp b;exact(Tg h).mp (e.trans E.symm)
theorem yv{M:Model}{A:NX}{E:Vs}{i:Nat}{x:Str}{v:V}{Q:Unit->Nm->Prop}(I:Inv X pq σ H s)(hN:X.N.Nodup)(P:X.N[i]?=some x)(w:Loc X.env.scope x)(r:RelV v u)
  (h:∀s',Inv X pq (σ.set i (some v)) H s'->(∃a,NY a s.heap s'.heap/\(a=X.env.locals\/X.env.cells.lookup x=some a))->Q () s') (hf:X.fn x=Nk\/X.env.scope.names.lookup x=some .local:=by first|exact .inl rfl|exact .inr rfl|assumption):wpAny M A (storeName X.env x u) Q E s:=by
 obtain⟨m,U,hl⟩:=id I.loc;have D:i<σ.length:=by rw[I.len];exact(Zg.mp P).1
 have cne:=I.cne
 have t:∀{a:Nn} {K:Ny},(∃o,s.heap.get? a=some o/\H a=none)->NY a s.heap K->dY X.prog X.w H K:=λ{a K} ha f b ob e=>by
  obtain⟨_,_,B⟩:=ha;refine(I.hok b ob e).stay (λc W l q=>(f.2 c ?_).trans q) (λ_ q=>q) λ_ _ q=>q;rintro rfl;rcases l with rfl|l
  ·rw[B]at e;cases e
  ·rw[B]at l;cases l
 rcases w with L|L
 ·refine wpAny_storeName_local L U (λK Y f=>?_) (by rw[I.ok.kind];rfl);obtain⟨oL,_,_,Z,_⟩:=id U;refine h _ ⟨I.ok,I.os,I.bare,⟨λb o e n F w=>?_,λb o e n F w=>?_,I.base.free,λb o e w=>?_,I.base.tups,I.base.frzs,I.base.tbls⟩,⟨_,Y,λj y v' g C T=>?_⟩,λy c e=>?_,I.free,I.freeC,λp hp=>?_,t ⟨oL,Z,I.free⟩ f,by simpa using I.len⟩ ⟨_,f,.inl rfl⟩
  ·exact(f.2 b (Zt (ZA (Zj e) I.ok.above))).trans (I.base.keep b o e n F w)
  ·obtain⟨sl,g⟩:=I.base.slot b o e n F w;exact⟨sl,(f.2 b (Zt (ZA (Zj e) I.ok.above))).trans g⟩
  ·obtain⟨o',g⟩:=I.base.there b o e w;exact⟨o',(f.2 b (Zt (ZA (Zj e) I.ok.above))).trans g⟩
  ·by_cases J:j=i
   ·subst J;rw[P]at g;cases g;rw[Yf D]at C;cases C;exact⟨u,r,.inl ⟨L,by simp⟩⟩
   ·rw[NZ (Ne.symm J)]at C;obtain⟨u',r',q⟩:=hl j y v' g C T;refine⟨u',r',?_⟩;rcases q with⟨k,e⟩| ⟨k,c,e,z⟩
    ·refine .inl ⟨k,?_⟩;have:y≠x:=λe=>J (yu hN g (e▸P));simp[this,e]
    ·exact .inr ⟨k,c,e,z.sameBut f (cne y c e)⟩
  ·obtain⟨W,z⟩:=I.cell y c e;exact⟨W,z.sameBut f (cne y c e)⟩
  ·obtain⟨e,n,ne,nf,d⟩:=I.pin p hp;exact⟨(f.2 p.1 ne).trans e,n,ne,nf,d⟩
 ·have G:X.fn x=Nk:=by grind
  obtain⟨c,l⟩:=I.ok.has x (.inl L);obtain⟨W,z⟩:=I.cell x c l;refine wpAny_storeName_cell I.ok.kind L l z (λK N f=>?_);obtain⟨oc,R,hocd⟩:=id z;refine h {s with heap:=K} ⟨I.ok,I.os,I.bare,⟨λb o e n F w=>?_,λb o e n F w=>?_,I.base.free,λb o e w=>?_,I.base.tups,I.base.frzs,I.base.tbls⟩,⟨m,U.sameBut f (Ne.symm (cne x c l)),λj y v' g C T=>?_⟩,λy S e=>?_,I.free,I.freeC,λp hp=>?_,t ⟨oc,R,I.freeC x c l⟩ f,by simpa using I.len⟩ ⟨c,f,.inr l⟩
  ·exact(f.2 b (Zt (ZA (Zj e) (I.ok.cab x c G l)))).trans (I.base.keep b o e n F w)
  ·obtain⟨sl,g⟩:=I.base.slot b o e n F w;exact⟨sl,(f.2 b (Zt (ZA (Zj e) (I.ok.cab x c G l)))).trans g⟩
  ·obtain⟨o',g⟩:=I.base.there b o e w;exact⟨o',(f.2 b (Zt (ZA (Zj e) (I.ok.cab x c G l)))).trans g⟩
  ·by_cases J:j=i
   ·subst J;rw[P]at g;cases g;rw[Yf D]at C;cases C;exact⟨u,r,.inr ⟨.inl L,c,l,N⟩⟩
   ·rw[NZ (Ne.symm J)]at C;obtain⟨u',r',q⟩:=hl j y v' g C T;refine⟨u',r',?_⟩;rcases q with q| ⟨k,S,e,z'⟩
    ·exact .inl q
    ·refine .inr ⟨k,S,e,z'.sameBut f ?_⟩;rintro rfl;exact J (yu hN g (I.ok.inj _ _ _ e l▸P))
  ·by_cases O:S=c
   ·subst O;exact⟨_,N⟩
   ·obtain⟨w2,z2⟩:=I.cell y S e;exact⟨w2,z2.sameBut f O⟩
  ·obtain⟨e,n,ne,nf,d⟩:=I.pin p hp;refine⟨(f.2 p.1 ?_).trans e,n,ne,nf,d⟩;intro q;rw[q,R]at e;exact d W (by grind)
theorem l6{M:Model}{A:NX}{E:Vs}{i:Nat}{x:Str}{v:V}{Q:Unit->Nm->Prop}(I:Inv X pq σ H s)(b:X.N.Nodup)(d:X.N[i]?=some x)(e:Loc X.env.scope x)(r:RelV v u)
  (h:∀s',Inv X pq (σ.set i (some v)) H s'->Q () s') (c:X.fn x=Nk\/X.env.scope.names.lookup x=some .local:=by first|exact .inl rfl|exact .inr rfl|assumption):wpAny M A (storeName X.env x u) Q E s:=
 yv I b d e r (λs' a _=>h _ a) c
theorem Inv.call'(I:Inv X pq σ H s)(e:s'.os=s.os)(u:Un (bG X.stack) ch H H' s.heap s'.heap)(a:dY X.prog X.w H' s'.heap)(d:Qc s'.gens)
  (h:∀b∈ch,(b∈X.ex\/X.s₀.heap.objs.size<=b)/\b≠X.env.locals/\(∀x c,X.env.cells.lookup x=some c->c≠b)/\∀p∈X.pn++pq,p.1≠b):Inv X pq σ H' s':=by
 obtain⟨f,g,D,t,o⟩:=s';subst(e);exact I.call u a d h
end
abbrev XK:=Np->Option Nn->Hp->Prop
abbrev St:=List (Option V)
abbrev VK:=V->Hp->Prop
abbrev TE:=St->Hp->VK->Prop
abbrev TT:=St->Hp->(Bool->Hp->Prop)->Prop
abbrev TA:=St->Hp->(List V->Hp->Prop)->Prop
set_option genInjectivity false in
structure Ends where
 nx:St->Hp->Prop
 rt:VK
 bk:St->Hp->Prop:=λ_ _=>False
 ct:St->Hp->Prop:=λ_ _=>False
abbrev TS:=Ends->St->Hp->Prop
def EP(X:Cx)(p:Lp)(σ:St)(Q:VK)(u:Np)(s:Nm):Prop:=∃v H',Inv X p σ H' s/\RelV v u/\Q v H'
def TP(X:Cx)(p:Lp)(σ:St)(Q:Bool->Hp->Prop)(b:Bool)(s:Nm):Prop:=∃H',Inv X p σ H' s/\Q b H'
def AP(X:Cx)(p:Lp)(σ:St)(Q:List V->Hp->Prop)(u:Lv)(s:Nm):Prop:=∃vs H',Inv X p σ H' s/\Vals vs u/\Q vs H'
def SP(X:Cx)(p:Lp)(D:Ends)(f:Flow)(s:Nm):Prop:=
 match f with
 | .next=>∃σ' H',Inv X p σ' H' s/\D.nx σ' H'
 | .brk=>∃σ' H',Inv X p σ' H' s/\D.bk σ' H'
 | .cont=>∃σ' H',Inv X p σ' H' s/\D.ct σ' H'
 | .ret u=>∃v σ' H',Inv X p σ' H' s/\RelV v u/\D.rt v H'
def PE(X:Cx)(e:Expr)(t:TE):Prop:=
 ∀(pq:Lp) (s:Nm) (σ:St) (H:Hp) (Q:VK),Inv X pq σ H s->t σ H Q->wpAny (model X.prog X.w) X.A (eval e X.env) (EP X pq σ Q) X.xe s
def PT(X:Cx)(e:Expr)(t:TT):Prop:=
 ∀(pq:Lp) (s:Nm) (σ:St) (H:Hp) (Q:Bool->Hp->Prop),Inv X pq σ H s->t σ H Q->wpAny (model X.prog X.w) X.A (isTrue e X.env (eval e X.env)) (TP X pq σ Q) X.xe s
def PW(X:Cx)(e:Expr)(t:TT):Prop:=
 ∀(whole:Sem Np) (pq:Lp) (s:Nm) (σ:St) (H:Hp) (Q:Bool->Hp->Prop),Inv X pq σ H s->t σ H Q->wpAny (model X.prog X.w) X.A (isTrue e X.env whole) (TP X pq σ Q) X.xe s
theorem PW.pt{X:Cx}{t:TT}(h:PW X e t):PT X e t:=h _
def PA(X:Cx)(es:Lx)(t:TA):Prop:=
 ∀(pos:Pos) (pq:Lp) (s:Nm) (σ:St) (H:Hp) (Q:List V->Hp->Prop),Inv X pq σ H s->t σ H Q->wpAny (model X.prog X.w) X.A (spliced (backTo pos (starEach es X.env))) (AP X pq σ Q) X.xe s
def PS(X:Cx)(st:Oq)(t:TS):Prop:=
 ∀(pq:Lp) (s:Nm) (σ:St) (H:Hp) (D:Ends),Inv X pq σ H s->t D σ H->wpAny (model X.prog X.w) X.A (exec st X.env) (SP X pq D) X.xe s
def ec(X:Cx)(st:List Oq)(t:TS):Prop:=
 ∀(pq:Lp) (s:Nm) (σ:St) (H:Hp) (D:Ends),Inv X pq σ H s->t D σ H->wpAny (model X.prog X.w) X.A (execs st X.env) (SP X pq D) X.xe s
theorem aO{t:Sem α}{Q b:α->Nm->Prop}(h:wpAny M A t Q E s)(H:∀a s,Q a s->b a s):wpAny M A t b E s:=ZJ h H λ_ _ x=>x
section
variable {X:Cx}
noncomputable def l7(i:Nat):TE:=λσ H Q=>∃v,σ[i]?=some (some v)/\Q v H
noncomputable def tC(v:V):TE:=λ_ H Q=>Q v H
theorem jU{i:Nat}{x:Str}{pos:Pos}(j:X.N[i]?=some x)(p:yt X.env.scope x)(f:(x==("__debug__":Str))=Nl:=by decide)(d:(x==("__classdict__":Str))=Nl:=by decide):PE X (.Name x pos) (l7 i):=by
 intro P s q H Q I h;obtain⟨v,e,h⟩:=h;obtain⟨m,o,k⟩:=I.loc;obtain⟨u,r,l⟩:=k i x v j e p;have fin:EP X _ _ Q u s:=⟨v,H,I,r,h⟩;rcases l with⟨b,n⟩| ⟨b,c,g,a⟩
 ·exact wpAny_Name (wpAny_loadName_local I.ok.kind b o n fin) f
 ·rcases b with b|b
  ·exact wpAny_Name (wpAny_loadName_cell I.ok.kind b g a fin) f
  ·exact wpAny_Name (wpAny_loadName_free I.ok.kind b g a fin d) f
theorem jV{i j pos}:PE X (.Constant (.int i) j pos) (tC (.int i)):=λ_ _ _ H _ I h=>wpAny_Constant_int ⟨.int i,H,I.tok _,⟨_,rfl⟩,h⟩
theorem qZ{b j pos}:PE X (.Constant (.bool b) j pos) (tC (.bl b)):=λ_ _ _ H _ I h=>Constant_bool ⟨.bl b,H,I,rfl,h⟩
theorem sw{j pos}:PE X (.Constant .none j pos) (tC .non):=λ_ _ _ H _ I h=>Constant_none ⟨.non,H,I,rfl,h⟩
theorem iL{x j pos}:PE X (.Constant (.str x) j pos) (tC (.str x)):=λ_ _ _ H _ I h=>QH ⟨.str x,H,I.tok _,⟨_,rfl⟩,h⟩
def Gl(X:Cx)(x:Str):Prop:=X.env.kindOf x=some .globalImplicit
theorem iM{E:Vs}{σ:St}{H:Hp}{x:Str}{pos:Pos}(I:Inv X pq σ H s)(b:Gl X x)(c:X.mg x=some u)(h:Q u s)
  (a:(x==("__debug__":Str))=Nl:=by decide):wpAny (model X.prog X.w) X.A (eval (.Name x pos) X.env) Q E s:=
 Ri I.ok.kind b (Calls.loadGlobal_global (by rw[I.ok.glob];exact I.mod.glob.keeps I.bk) c h) a
theorem f8{E:Vs}{σ:St}{H:Hp}{x:Str}{pos:Pos}(I:Inv X pq σ H s)(d:Gl X x)(e:X.mg x=none)(g:bootBuiltins x=some u)(h:Q u s)
  (f:x≠"__name__":=by decide) (c:(x==("__debug__":Str))=Nl:=by decide):wpAny (model X.prog X.w) X.A (eval (.Name x pos) X.env) Q E s:=by
 obtain⟨m,a,b⟩:=I.mod.blt;exact Ri I.ok.kind d (Calls.loadGlobal_builtin (by rw[I.ok.glob];exact I.mod.glob.keeps I.bk) e (by rw[I.ok.blt];exact a.keeps I.bk) ((b x f).trans g) h) c
theorem yw{x:Str}{v:V}{pos:Pos}(b:Gl X x)(c:X.mg x=some u)(r:RelV v u)(a:(x==("__debug__":Str))=Nl:=by decide):PE X (.Name x pos) (tC v):=
 λ_ _ _ H _ I h=>iM I b c ⟨v,H,I,r,h⟩ a
theorem yx{x:Str}{v:V}{pos:Pos}(b:Gl X x)(c:X.mg x=none)(e:bootBuiltins x=some u)(r:RelV v u)(d:x≠"__name__":=by decide)(a:(x==("__debug__":Str))=Nl:=by decide):PE X (.Name x pos) (tC v):=
 λ_ _ _ H _ I h=>f8 I b c e ⟨v,H,I,r,h⟩ d a
variable {a b:Expr}{ta tb:TE}{pos:Pos}
noncomputable def tB(t:TE):TT:=λσ H Q=>t σ H λx H1=>∃c,x=.bl c/\Q c H1
theorem sx{t:TE}(h:PE X e t)(b:∀w,isTrue e X.env w=(do let v <-w;standAt e.pos;holding [v] (truthy v)):=by intro _;rfl):PT X e (tB t):=by intro p s f H Q I hw;refine isTrue_plain (aO (h p s f H _ I hw) λv S ⟨x,H1,a,r,c⟩=>?_) (b _);obtain⟨d,rfl,q⟩:=c;cases r;exact ZR ⟨H1,a,q⟩
variable {tA tB':TT}
noncomputable def FU(t u:TT):TT:=λσ H Q=>t σ H λc H1=>if c=Nk then u σ H1 Q else Q Nl H1
noncomputable def MU(t u:TT):TT:=λσ H Q=>t σ H λc H1=>if c=Nk then Q Nk H1 else u σ H1 Q
noncomputable def FV(t:TT):TT:=λσ H Q=>t σ H λc H1=>Q (!c) H1
theorem l8(b:PT X a tA):PW X (.BoolOp .And [a] pos) tA:=by
 intro w p s d H Q I h;refine isTrue_and (aO (b _ s _ H Q I h) λc S e=>?_);cases c with
 |true=>exact isTrue_and_nil e
 |false=>exact e
theorem jW(b:PT X a tA):PW X (.BoolOp .Or [a] pos) tA:=by
 intro w p s d H Q I h;refine isTrue_or (aO (b _ s _ H Q I h) λc S e=>?_);cases c with
 |false=>exact isTrue_or_nil e
 |true=>exact e
theorem sy(e:PT X a tA)(f:PW X (.BoolOp .And (b::rest) pos) tB'):PW X (.BoolOp .And (a::b::rest) pos) (FU tA tB'):=by
 intro w p s g H Q I h;refine isTrue_and (aO (e _ s _ H _ I h) λc S z=>?_);obtain⟨_,d,q⟩:=z;cases c with
 |true=>exact f _ _ _ _ _ Q d q
 |false=>exact⟨_,d,q⟩
theorem q8(e:PT X a tA)(f:PW X (.BoolOp .Or (b::rest) pos) tB'):PW X (.BoolOp .Or (a::b::rest) pos) (MU tA tB'):=by
 intro w p s g H Q I h;refine isTrue_or (aO (e _ s _ H _ I h) λc S z=>?_);obtain⟨_,d,q⟩:=z;cases c with
 |true=>exact⟨_,d,q⟩
 |false=>exact f _ _ _ _ _ Q d q
theorem jX(b:PT X a tA):PT X (.UnaryOp .Not a pos) (FV tA):=by intro p s c H Q I h;exact isTrue_not (b _ s _ H _ I h)
noncomputable def yy(t tb:TE):TE:=λσ H Q=>t σ H λx H1=>∃c,x=.bl c/\if c=Nk then tb σ H1 Q else Q (.bl Nl) H1
noncomputable def FW(t tb:TE):TE:=λσ H Q=>t σ H λx H1=>∃c,x=.bl c/\if c=Nk then Q (.bl Nk) H1 else tb σ H1 Q
theorem jY{op}{t:TE}(h:PE X a t):PE X (.BoolOp op [a] pos) t:=λp s b H Q I hw=>BoolOp_one (h _ s _ H Q I hw)
theorem sG(e:PE X a ta)(f:PE X (.BoolOp .And (b::rest) pos) tb):PE X (.BoolOp .And (a::b::rest) pos) (yy ta tb):=by
 intro p s g H Q I h;refine BoolOp_and (aO (e _ s _ H _ I h) λv S z=>?_);obtain⟨x,_,d,r,q⟩:=z;obtain⟨c,rfl,q⟩:=q;subst r;refine ZR ?_;cases c with
 |true=>exact f _ _ _ _ Q d q
 |false=>exact⟨.bl _,_,d,rfl,q⟩
theorem yz(e:PE X a ta)(f:PE X (.BoolOp .Or (b::rest) pos) tb):PE X (.BoolOp .Or (a::b::rest) pos) (FW ta tb):=by
 intro p s g H Q I h;refine BoolOp_or (aO (e _ s _ H _ I h) λv S z=>?_);obtain⟨x,_,d,r,q⟩:=z;obtain⟨c,rfl,q⟩:=q;subst r;refine ZR ?_;cases c with
 |false=>exact f _ _ _ _ Q d q
 |true=>exact⟨.bl _,_,d,rfl,q⟩
noncomputable def MV(t:TT)(T tb:TE):TE:=λσ H Q=>t σ H λc H1=>if c=Nk then T σ H1 Q else tb σ H1 Q
theorem FX{c:Expr}(i:PT X c tA)(f:PE X a ta)(g:PE X b tb):PE X (.IfExp c a b pos) (MV tA ta tb):=by
 intro p s j H Q I h;refine wpAny_IfExp (aO (i _ s _ H _ I h) λd S z=>?_);obtain⟨_,e,q⟩:=z;cases d with
 |true=>exact f _ _ _ _ Q e q
 |false=>exact g _ _ _ _ Q e q
end
def c8(K:Fg)(H:Hp)(a:Nn)(xs:List V):Prop:=
 Rd H a (.lst xs)\/
  ∃(o:Obj) (its:Av) (n:Nat),K.lookup a=some o/\o.cls=.type "list"/\o.dict=none/\o.data=.seq its n/\its.size<=sizeLine/\Vals xs its.toList
def b4(K:Fg)(H:Hp)(a:Nn)(xs:List V):Prop:=
 Rd H a (.tup xs)\/
  ∃(o:Obj) (its:Av) (n:Nat),K.lookup a=some o/\o.cls=.type "tuple"/\o.dict=none/\o.data=.seq its n/\its.size<=sizeLine/\Vals xs its.toList
noncomputable def FY:Np->Option V
 | .none=>some .non
 | .bool b=>some (.bl b)
 | .int i _=>some (.int i)
 | .str x _=>some (.str x)
 | .bytes b _=>some (.byt b)
 | .float b _=>some (.flt b)
 | .ref a=>some (.ref a)
 | .type n=>some (.ty n)
 |_=>none
theorem RelV.abs{x:V}(r:RelV x u):FY u=some x:=by
 cases x with
 |non=>cases r;rfl
 |bl _=>cases r;rfl
 |int _=>obtain⟨t,rfl⟩:=r;rfl
 |str _=>obtain⟨t,rfl⟩:=r;rfl
 |byt _=>obtain⟨t,rfl⟩:=r;rfl
 |flt _=>obtain⟨t,rfl⟩:=r;rfl
 |ref _=>cases r;rfl
 |ty _=>cases r;rfl
theorem RelV.inj{x y:V}(r:RelV x u)(q:RelV y u):x=y:=N_ (r.abs.symm.trans q.abs)
theorem Vals.inj:∀{xs ys:List V} {us:Lv},Vals xs us->Vals ys us->xs=ys
 |_,_,_,.nil,.nil=>rfl
 |_,_,_,.cons r t,.cons R T=>by rw[r.inj R,Vals.inj t T]
section
variable {X:Cx}{σ:St}{H:Hp}{xs ys:List V}
theorem c8.of(h:H a=some (.lst xs)):c8 K H a xs:=.inl (.inl h)
theorem b4.of(h:H a=some (.tup xs)):b4 K H a xs:=.inl (.inl h)
theorem Inv.list(I:Inv X pq σ H s)(h:c8 X.K H a xs):∃its:Lv,Vals xs its/\PlainL s.heap a its.toArray/\xs.length<=sizeLine:=by
 rcases h with h| ⟨o,its,n,c,b,hd,d,f,r⟩
 ·obtain⟨z,its,n,r,e⟩:=h.ok I.hok;exact⟨_,r,⟨_,n,e,rfl,rfl,rfl⟩,z⟩
 ·refine⟨_,r,⟨o,n,I.kIn a o c,b,hd,by simp_all⟩,?_⟩;have e:=r.length;simp_all
theorem Inv.tuple(I:Inv X pq σ H s)(h:b4 X.K H a xs):∃its:Lv,Vals xs its/\R6 s.heap a its.toArray/\xs.length<=sizeLine:=by
 rcases h with h| ⟨o,its,n,c,b,_,d,f,r⟩
 ·obtain⟨z,its,r,p,_⟩:=h.ok I.hok;exact⟨_,r,p,z⟩
 ·refine⟨_,r,⟨o,I.kIn a o c,b,n,by simp_all⟩,?_⟩;have e:=r.length;simp_all
theorem Inv.noD(I:Inv X pq σ H s)(h:b4 X.K H a xs):qY s.heap a:=by
 rcases h with h| ⟨o,i,n,c,d,b,e,f,r⟩
 ·obtain⟨z,i,r,p,q⟩:=h.ok I.hok;exact q
 ·exact⟨o,I.kIn a o c,b⟩
theorem Inv.list_inj(I:Inv X pq σ H s)(h:c8 X.K H a xs)(h':c8 X.K H a ys):xs=ys:=by
 obtain⟨b,r,⟨o,n,e,_,_,d⟩,_⟩:=I.list h;obtain⟨i,R,⟨O,N,E,_,_,D⟩,_⟩:=I.list h';have:b=i:=by simp_all
 subst this;exact r.inj R
theorem Inv.tuple_inj(I:Inv X pq σ H s)(h:b4 X.K H a xs)(h':b4 X.K H a ys):xs=ys:=by
 obtain⟨b,r,⟨o,e,_,n,d⟩,_⟩:=I.tuple h;obtain⟨i,R,⟨O,E,_,N,D⟩,_⟩:=I.tuple h';have:b=i:=by simp_all
 subst this;exact r.inj R
end
section
variable {X:Cx}{σ:St}{H:Hp}
end
section
variable {X:Cx}{rest:List Oq}{t u:TS}{te:TE}{pos:Pos}
noncomputable def q9:TS:=λD σ H=>D.nx σ H
noncomputable def FZ(t u:TS):TS:=λD σ H=>t {D with nx:=u D} σ H
theorem fG:ec X [] q9:=λ_ _ a H _ I h=>QC ⟨_,H,I,h⟩
theorem c9(h1:PS X st t)(b:ec X rest u):ec X (st::rest) (FZ t u):=by
 intro p s e H D I h;refine wpAny_execs_cons (aO (h1 _ s _ H _ I h) λf S q=>?_);cases f with
 |next=>obtain⟨c,d,a,q⟩:=q;exact b _ _ _ _ D a q
 |ret v=>exact q
 |brk=>exact q
 |cont=>exact q
noncomputable def sH:TS:=λD σ H=>D.bk σ H
noncomputable def yA:TS:=λD σ H=>D.ct σ H
theorem l9:PS X (.Pass pos) q9:=λ_ _ a H _ I h=>wpAny_Pass ⟨_,H,I,h⟩
theorem F0:PS X (.Break pos) sH:=λ_ _ a H _ I h=>wpAny_Break ⟨_,H,I,h⟩
theorem F1:PS X (.Continue pos) yA:=λ_ _ a H _ I h=>wpAny_Continue ⟨_,H,I,h⟩
theorem Inv.quiet{σ:St}{H:Hp}(I:Inv X pq σ H s):interactive X.env=Nl:=by simp[interactive,I.ok.kind]
noncomputable def yB(t:TE):TS:=λD σ H=>t σ H λ_ H1=>D.nx σ H1
theorem l_(b:PE X e te)(hs:swapsWith e none pos.line X.env=pure Nl:=by rfl):PS X (.Expr e pos) (yB te):=by intro p s c H D I h;exact wpAny_Expr_any (aO (b _ s _ H _ I h) λv S z=>by obtain⟨x,_,a,_,q⟩:=z;exact(⟨_,_,a,q⟩)) I.quiet hs
noncomputable def F2(t:TE):TS:=λD σ H=>t σ H D.rt
theorem jZ(b:PE X e te):PS X (.Return (some e) pos) (F2 te):=by intro p s c H D I h;exact wpAny_Return_some (aO (b _ s _ H _ I h) λv S z=>by obtain⟨x,_,a,r,q⟩:=z;exact(⟨x,_,_,a,r,q⟩))
noncomputable def yC:TS:=λD _ H=>D.rt .non H
theorem l':PS X (.Return none pos) yC:=λ_ _ a H _ I h=>wpAny_Return_none ⟨.non,_,H,I,rfl,h⟩
noncomputable def F3(c:TT)(t u:TS):TS:=λD σ H=>c σ H λb H1=>if b=Nk then t D σ H1 else u D σ H1
theorem ir{c:Expr}{a b:List Oq}{T:TT}(i:PT X c T)(f:ec X a t)(g:ec X b u):PS X (.If c a b pos) (F3 T t u):=by
 intro p s j H D I h;refine wpAny_If (aO (i _ s _ H _ I h) λd S z=>?_);obtain⟨_,e,q⟩:=z;cases d with
 |true=>exact f _ _ _ _ D e q
 |false=>exact g _ _ _ _ D e q
noncomputable def sI:TS:=λ_ _ _=>False
theorem sJ{s:List Oq}:ec X s sI:=λ_ _ _ _ _ _ h=>h.elim
end
abbrev TG:=V->St->Hp->(St->Hp->Prop)->Prop
abbrev q_:=List V->St->Hp->(St->Hp->Prop)->Prop
def PG(X:Cx)(target:Expr)(t:TG):Prop:=
 ∀(pq:Lp) (s:Nm) (σ:St) (H:Hp) (v:V) (u:Np) (Q:St->Hp->Prop),Inv X pq σ H s->RelV v u->t v σ H Q->
  wpAny (model X.prog X.w) X.A (assign target X.env u) (λ_ s'=>∃σ' H',Inv X pq σ' H' s'/\Q σ' H') X.xe s
def yD(X:Cx)(ts:Lx)(t:q_):Prop:=
 ∀(pq:Lp) (s:Nm) (σ:St) (H:Hp) (vs:List V) (us:Lv) (Q:St->Hp->Prop),Inv X pq σ H s->Vals vs us->t vs σ H Q->
  wpAny (model X.prog X.w) X.A (assignInOrder ((assignEach ts X.env).map (·.2)) us) (λ_ s'=>∃σ' H',Inv X pq σ' H' s'/\Q σ' H') X.xe s
abbrev ma:=V->V->V->Hp->(Hp->Prop)->Prop
def sK(X:Cx)(t:ma):Prop:=
 ∀(pq:Lp) (s:Nm) (σ:St) (H:Hp) (o i v:V) (O I u:Np) (Q:Hp->Prop),Inv X pq σ H s->RelV o O->RelV i I->RelV v u->t o i v H Q->
  wpAny (model X.prog X.w) X.A (setItem O I u) (λ_ s'=>∃H',Inv X pq σ H' s'/\Q H') X.xe s
section
variable {X:Cx}{pos:Pos}
noncomputable def dZ(i:Nat):TG:=λv σ H Q=>Q (σ.set i (some v)) H
theorem me{i:Nat}{x:Str}(b:X.N.Nodup)(d:X.N[i]?=some x)(e:Loc X.env.scope x)(c:X.fn x=Nk\/X.env.scope.names.lookup x=some .local:=by first|exact .inl rfl|exact .inr rfl|assumption):PG X (.Name x pos) (dZ i):=by intro p s f H v u Q I r h;exact wpAny_assign_Name (l6 I b d e r (λS a=>⟨_,H,a,h⟩) c)
noncomputable def yE:q_:=λvs σ H Q=>vs=[]/\Q σ H
noncomputable def rc(t:TG)(u:q_):q_:=λvs σ H Q=>∃v r,vs=v::r/\t v σ H λσ' H'=>u r σ' H' Q
theorem mf:yD X [] yE:=by intro p s a H vs u Q I r h;obtain⟨e,h⟩:=h;exact assignInOrder_nil ⟨_,H,I,h⟩
theorem F4{es:Lx}{t:TG}{u:q_}(h1:PG X e t)(b:yD X es u)
  (hs:(assignEach (e::es) X.env).map (·.2)=assign e X.env::(assignEach es X.env).map (·.2):=by rfl):yD X (e::es) (rc t u):=by
 intro p s c H vs U Q I r h;obtain⟨v,V,E,h⟩:=h;subst E;cases r with
 |cons r R=>rw[hs];exact assignInOrder_cons (aO (h1 _ s _ H _ _ _ I r h) λ_ S z=>by obtain⟨_,_,a,q⟩:=z;exact(b _ _ _ _ _ _ Q a R q))
noncomputable def yF(K:Fg)(n:Nat)(t:q_):TG:=λv σ H Q=>∃a xs,v=.ref a/\b4 K H a xs/\xs.length=n/\t xs σ H Q
theorem sL{es:Lx}{k:Nat}{t:q_}(d:X.calm=Nk)(h:yD X es t)
  (g:(assignEach es X.env).length=n:=by rfl) (c:(assignEach es X.env).findIdx? (·.1)=none:=by rfl):PG X (.Tuple es k pos) (yF X.K n t):=by
 intro P s w H v u Q I r hw;obtain⟨a,x,E,i,f,hw⟩:=hw;subst E;subst r;obtain⟨m,R,j,q⟩:=I.tuple i;exact assign_Tuple_tuple (I.ok.hd d) j (by simp[g,<-f,R.length]) c λp l=>h _ _ _ H _ _ Q (I.kept (t':=s.toks) λb o e=>l b o (Zt (Zj e)) e) (by omega) hw
noncomputable def F5(to T:TE)(t:ma):TG:=λv σ H Q=>to σ H λo H1=>T σ H1 λi H2=>t o i v H2 λa=>Q σ a
theorem sM{o i:Expr}{to T:TE}{t:ma}(f:PE X o to)(e:PE X i T)(hs:sK X t)
  (l:∀v,assign (.Subscript o i pos) X.env v=(do
   let O <-holding [v] (eval o X.env)
   let a <-holding [v,O] (eval i X.env)
   standAt pos
   holding [v,O,a] (setItem O a v)
   release [v,O,a] []):=by intro _;rfl):PG X (.Subscript o i pos) (F5 to T t):=by
 intro p s w H v u Q I r h;refine Za (ZE (aO (f _ s _ H _ I h) λO S z=>?_));obtain⟨x,_,b,R,q⟩:=z;exact Za (ZE (aO (e _ _ _ _ _ b q) λa m z=>z.elim λy z=>z.elim λ_ z=>z.elim λc z=>z.elim λk g=>Za (OK (Za (ZE (aO (hs _ _ _ _ x y v _ _ u _ c R k r g) λ_ n z=>by obtain⟨_,d,j⟩:=z;exact(wpAny_release ⟨_,_,d,j⟩)))))))
noncomputable def mi(t:TE)(g:TG):TS:=λD σ H=>t σ H λx H1=>g x σ H1 D.nx
theorem j1{t:TE}{g:TG}(b:PE X e t)(c:PG X tg g)(hs:swapsWithSole [tg] e pos.line X.env=pure Nl:=by rfl)(hw:swappedStores [tg] e X.env=pure none:=by rfl)
  (h1:(assignEach [tg] X.env).map (·.2)=[assign tg X.env]:=by rfl):PS X (.Assign [tg] e pos) (mi t g):=by
 intro p s f H D I h;refine wpAny_Assign_stores (aO (b _ s _ H _ I h) λv S z=>?_) hs hw;obtain⟨x,_,a,r,Q⟩:=z;rw[h1];exact aO (c _ _ _ _ x v _ a r Q) λ_ d q=>q
theorem j2{i:Nat}{x:Str}{t:TE}(c:X.N.Nodup)(g:X.N[i]?=some x)(j:Loc X.env.scope x)(d:PE X e t)(hs:swapsWith e (some (.Name x pos')) pos.line X.env=pure Nl:=by rfl)(f:X.fn x=Nk\/X.env.scope.names.lookup x=some .local:=by first|exact .inl rfl|exact .inr rfl|assumption):
  PS X (.Assign [.Name x pos'] e pos) (mi t (dZ i)):=by
 intro p s l H D I h;exact wpAny_Assign_Name (aO (d _ s _ H _ I h) λv S z=>by obtain⟨y,_,a,r,q⟩:=z;exact(l6 a c g j r (λk b=>⟨_,_,b,q⟩) f)) hs
end
section
variable {X:Cx}{pos:Pos}
noncomputable def sN(c:TT)(tb:TS):TS:=λD σ H=>∃W:Nat->St->Hp->Prop,(∃m,W m σ H)/\∀m σ H,W m σ H->
 c σ H λb H1=>if b=Nk then ∃N:St->Hp->Prop,(∀σ' H',N σ' H'->∃M,M<m/\W M σ' H')/\tb {D with nx:=N,ct:=N,bk:=D.nx} σ H1 else D.nx σ H1
theorem F6{c:Expr}{body:List Oq}{t:TT}{tb:TS}(i:Qo (model X.prog X.w) X.A X.env X.xe)(o:PT X c t)(m:ec X body tb):PS X (.While c body [] pos) (sN t tb):=by
 intro P s C H D I h;obtain⟨W,⟨M,w⟩,turn⟩:=h;refine wpAny_While (codeAny_whileLoop (λn S=>∃a e,Inv X _ a e S/\W n a e) ?_ _ ⟨_,H,I,w⟩);rintro n y ⟨u,H1,k,r⟩;refine OJ i (aO (o _ _ _ _ _ k (turn n _ _ r)) λb A z=>?_);obtain⟨_,g,q⟩:=z;cases b with
 |true=>
  obtain⟨N,x,q⟩:=q;refine OJ i (aO (m _ _ _ _ _ g q) λf B Q=>?_);cases f with
  |next=>
   obtain⟨d,j,l,p⟩:=Q
   grind
  |cont=>
   obtain⟨d,j,l,p⟩:=Q
   grind
  |brk=>exact Q
  |ret v=>exact Q
 |false=>exact QC ⟨_,_,g,q⟩
end
set_option genInjectivity false in
structure It where
 go:Nat->Hp->Prop
 yld:Nat->Hp->V->Hp->Prop
 stop:Nat->Hp->Prop
def dj(X:Cx)(P:Lp)(H:Hp)(b:Nn):Prop:=
 H b=none/\b≠X.env.locals/\b∉X.fs/\(b∈X.ex\/X.s₀.heap.objs.size<=b)/\(∀x c,X.env.cells.lookup x=some c->c≠b)/\∀p∈X.pn++P,p.1≠b
theorem Inv.fpOk{X:Cx}{σ:St}{H a:Hp}{b:Nn}(I:Inv X pq σ H s)(h:s.heap.objs.size<=b)(d:a b=none):dj X pq a b:=by
 refine⟨d,O9 (ZA I.lt h),I.nofs h,.inr (ZD I.sz h),λx c e z=>?_,λp f z=>?_⟩
 ·obtain⟨v,q⟩:=I.cell x c e;exact absurd (ZA q.lt (by simp_all)) (ZO _)
 ·exact absurd (ZA (Zj (I.pin p f).1) (by simp_all)) (ZO _)
structure Turn (P:Nu)(w:NG)(K:Fg)(tg:Expr)(J:It)(fp:La)(it:Nn)(tn:Nat->Ny->Prop):Prop where
 mem:it∈fp
 obj:∀i h,tn i h->∀b∈fp,∃o,h.get? b=some o/\∀v,o.data≠.cell v
 keep:∀i h h',tn i h->(∀b∈fp,∀o,h.get? b=some o->h'.get? b=some o)->tn i h'
 item:∀(X:Cx),X.prog=P->X.w=w->X.K=K->X.calm=Nk->∀(i:Nat) (pq:Lp) (s:Nm) (σ:St) (H:Hp) (E:Vs),Inv X pq σ H s->(∀b∈fp,dj X pq H b)->tn i s.heap->J.go i H->
  wpAny (model P w) X.A (pyNext (.ref it)) (λr s1=>∃u,r=some u/\
   wpAny (model P w) X.A (letOwnedTupleGo tg (.ref it) u) (λ_ s2=>∃x H',Inv X pq σ H' s2/\RelV x u/\J.yld i H x H'/\tn (i+1) s2.heap/\∀b∈fp,H' b=none) E s1) E s
 done:∀(X:Cx),X.prog=P->X.w=w->X.K=K->X.calm=Nk->∀(i:Nat) (pq:Lp) (s:Nm) (σ:St) (H:Hp) (E:Vs),Inv X pq σ H s->(∀b∈fp,dj X pq H b)->tn i s.heap->J.stop i H->
  wpAny (model P w) X.A (pyNext (.ref it)) (λr s1=>r=none/\Inv X pq σ H s1) E s
 self:∀(A:NX) (i:Nat) (s:Nm) (Q:Vs) (E:Vs),tn i s.heap->Q (.ref it) s->wpAny (model P w) A (pyIter (.ref it)) Q E s
abbrev TI:=St->Hp->(It->Hp->Prop)->Prop
def Fq(X:Cx)(p:Lp)(σ:St)(tg:Expr)(R:It->Hp->Prop)(i:Np)(s2:Nm):Prop:=
 ∃(it:Nn) (fp:La) (tn:Nat->Ny->Prop) (J:It) (H':Hp),i=.ref it/\Inv X p σ H' s2/\Turn X.prog X.w X.K tg J fp it tn/\tn 0 s2.heap/\(∀b∈fp,dj X p H' b)/\R J H'
def PI(X:Cx)(tg i:Expr)(w:TI):Prop:=
 ∀(pq:Lp) (s:Nm) (σ:St) (H:Hp) (R:It->Hp->Prop),Inv X pq σ H s->w σ H R->
  wpAny (model X.prog X.w) X.A (eval i X.env) (λv S=>wpAny (model X.prog X.w) X.A (pyIter v) (Fq X pq σ tg R) X.xe S) X.xe s
theorem j3{n:String}{vs:Av}{Q:Unit->Nm->Prop}(b:s.heap.get? it=some o)(H:o.cls=.type n)(a:o.data=.fields vs)
  (c:["enumerate","zip","dict_itemiterator","dict_reverseitemiterator","odict_iterator","itertools.zip_longest","itertools.pairwise"].contains n=Nl) (h:Q () s):wpAny M A (letOwnedTupleGo tg (.ref it) u) Q E s:=by
 cases tg<;>first
  |exact Zd h
  | (cases u<;>first
    |exact Zd h
    | (refine Za (wpAny_load b ?_)
       rw[H,a];show wpAny M A (if(["enumerate","zip","dict_itemiterator","dict_reverseitemiterator","odict_iterator","itertools.zip_longest","itertools.pairwise"].contains n&&vs[0]?==some _)=Nk then _ else _) Q E s;rw[if_neg (by lia)];exact Zd h))
noncomputable def Fs(K:Fg)(a:Nn):It:=
 ⟨λi H=>∃xs x,c8 K H a xs/\xs[i]?=some x,λi H x H'=>H'=H/\∀xs,c8 K H a xs->xs[i]?=some x,λi H=>∃xs,c8 K H a xs/\xs.length<=i⟩
noncomputable def F7(K:Fg)(a:Nn):It:=
 ⟨λi H=>∃xs x,b4 K H a xs/\xs[i]?=some x,λi H x H'=>H'=H/\∀xs,b4 K H a xs->xs[i]?=some x,λi H=>∃xs,b4 K H a xs/\xs.length<=i⟩
noncomputable def yG(l:Int)(n:Nat):It:=⟨λi _=>i<n,λi H x H'=>H'=H/\x=.int (l+i),λi _=>n<=i⟩
theorem F8{P:Nu}(a it:Nn):Turn P w K tg (Fs K a) [it] it (λi h=>h.IsListIter it a i) where
 mem:=by simp
 obj:=λi h st b hb=>by
  have e:=by simpa using hb
  obtain⟨o,e,c,d⟩:=st;simp_all
 keep:=λi h h' st k=>st.at λo e=>k _ (by simp) o e
 item:=by intro X hP hw hK hc i pq s σ H E I hf st hg;subst hP hw hK;obtain⟨xs,x,hq,hx⟩:=hg;obtain⟨its,rv,p,hz⟩:=I.list hq;obtain⟨u,hu,ru⟩:=rv.get hx;obtain⟨f0,f1,f2,f3,f4,f5⟩:=hf it (by simp);refine wpAny_pyNext_list_item st p.isList (by simpa using hu) λh' st' sb=>?_;obtain⟨o,e,c,d⟩:=id st';exact⟨u,rfl,j3 e c d (rfl) ⟨x,H,I.turned (t':=s.toks) (λb o hb e=>(sb.2 b hb).trans e) f0 f1 f3 f4 f5,ru,⟨rfl,λys hy=>by rw[I.list_inj hy hq];exact hx⟩,st',λb hb=>(hf b hb).1⟩⟩
 done:=by intro X hP hw hK hc i pq s σ H E I hf st hg;subst hP hw hK;obtain⟨xs,hq,hx⟩:=hg;obtain⟨its,rv,p,hz⟩:=I.list hq;obtain⟨f0,f1,f2,f3,f4,f5⟩:=hf it (by simp);have hl:=rv.length;exact wpAny_pyNext_list_end (I.ok.hd hc) st p.isList (by simp_all) λh' eb=>⟨rfl,I.turned (λb o hb e=>eb b o hb e) f0 f1 f3 f4 f5⟩
 self:=λ_ _ _ _ _ st h=>wpAny_pyIter_listiter st h
theorem F9{P:Nu}(a it:Nn):Turn P w K tg (F7 K a) [it] it (λi h=>h.IsTupleIter it a i) where
 mem:=by simp
 obj:=λi h st b hb=>by
  have e:=by simpa using hb
  obtain⟨o,e,c,d⟩:=st;simp_all
 keep:=λi h h' st k=>st.at λo e=>k _ (by simp) o e
 item:=by intro X hP hw hK hc i pq s σ H E I hf st hg;subst hP hw hK;obtain⟨xs,x,hq,hx⟩:=hg;obtain⟨its,rv,p,hz⟩:=I.tuple hq;obtain⟨u,hu,ru⟩:=rv.get hx;obtain⟨f0,f1,f2,f3,f4,f5⟩:=hf it (by simp);refine wpAny_pyNext_tuple_item st (show s.heap.IsTuple a _ from p) (by simpa using hu) λh' st' sb=>?_;obtain⟨o,e,c,d⟩:=id st';exact⟨u,rfl,j3 e c d (rfl) ⟨x,H,I.turned (t':=s.toks) (λb o hb e=>(sb.2 b hb).trans e) f0 f1 f3 f4 f5,ru,⟨rfl,λys hy=>by rw[I.tuple_inj hy hq];exact hx⟩,st',λb hb=>(hf b hb).1⟩⟩
 done:=by intro X hP hw hK hc i pq s σ H E I hf st hg;subst hP hw hK;obtain⟨xs,hq,hx⟩:=hg;obtain⟨its,rv,p,hz⟩:=I.tuple hq;obtain⟨f0,f1,f2,f3,f4,f5⟩:=hf it (by simp);have hl:=rv.length;exact wpAny_pyNext_tuple_end (I.ok.hd hc) st (show s.heap.IsTuple a _ from p) (by simp_all) λh' eb=>⟨rfl,I.turned (λb o hb e=>eb b o hb e) f0 f1 f3 f4 f5⟩
 self:=λ_ _ _ _ _ st h=>wpAny_pyIter_tupleiter st h
theorem F_{P:Nu}(it:Nn)(lo:Int)(n:Nat):Turn P w K tg (yG lo n) [it] it (λi h=>IsRangeIter h it (lo+(i:Nat)*1) ((n:Int)-(i:Nat)) 1) where
 mem:=by simp
 obj:=λi h st b hb=>by simp_all
 keep:=λi h h' st k=>k _ (by simp) _ st
 item:=by intro X hP hw hK hc i pq s σ H E I hf st hg;subst hP hw hK;obtain⟨f0,f1,f2,f3,f4,f5⟩:=hf it (by simp);refine(Walks.range (prog:=X.prog) (w:=X.w) (I.ok.hd hc) it lo 1 n).item i s _ _ hg st λv h' tk hv st' kk=>?_;obtain⟨t,rfl⟩:=hv;have I1:Inv X _ _ H {s with heap:=h',toks:=tk}:=I.turned (λb o hb e=>kk b o (by simp_all) e) f0 f1 f3 f4 f5;refine⟨_,rfl,j3 st' rfl rfl (rfl) ⟨.int _,H,I1,⟨t,?_⟩,⟨rfl,rfl⟩,st',λb hb=>(hf b hb).1⟩⟩;simp_all
 done:=by intro X hP hw hK hc i pq s σ H E I hf st hg;obtain⟨f0,f1,f2,f3,f4,f5⟩:=hf it (by simp);exact wpAny_pyNext_range_end (I.ok.hd hc) st (by have:n<=i:=hg;omega) λh' eb=>⟨rfl,I.turned (λb o hb e=>eb b o hb e) f0 f1 f3 f4 f5⟩
 self:=λ_ _ _ _ _ st h=>wpAny_pyIter_rangeiter st h
section
variable {X:Cx}
theorem yH{σ:St}{H:Hp}{R:It->Hp->Prop}{l h:Int}{t u v:Tok}{tk:Nat}(I:Inv X pq σ H s)(h1: -(2^62)<=l)(g:l<2^62)(i: -(2^62)<=h)(j:h<2^62)
  (q:R (yG l (h-l).toNat) H):wpAny (model X.prog X.w) X.A (pyIter (.ref s.heap.objs.size)) (Fq X pq σ tg R) E {s with heap:=s.heap.push {cls:=.type "range",data:=.fields #[.int l t,.int h u,.int 1 v]},toks:=tk}:=by
 refine wpAny_pyIter_range (IsRange.new ..) (small_one h1 g i j) ?_;have c:Inv X _ _ H {s with heap:=s.heap.push {cls:=.type "range",data:=.fields #[.int l t,.int h u,.int 1 v]},toks:=tk}:=I.kept λb o e=>Zb _ e
 refine⟨_,_,_,_,H,rfl,
  c.kept λb o e=>Zb _ e,F_ _ _ _,?_,λb k=>?_,q⟩
 ·have d:l+(0:Nat)*1=l:=by simp
  have f:(h-l).toNat-(0:Nat)=Builtin.Range.rangeSize l h 1:=by rw[rangeSize_one];grind
  rw[d,f];exact Zk _ rfl
 ·have e:b=(s.heap.push {cls:=.type "range",data:=.fields #[.int l t,.int h u,.int 1 v]}).objs.size:=by simp_all
  subst e;exact c.fpOk (Zh _) (c.hok.fresh (Zh _))
noncomputable def yI(t:TA):TI:=λσ H R=>t σ H λvs H1=>∃j:Int,vs=[.int j]/\ -(2^62)<=j/\j<2^62/\R (yG 0 j.toNat) H1
noncomputable def yJ(t:TA):TI:=λσ H R=>t σ H λvs H1=>∃i j:Int,vs=[.int i,.int j]/\(-(2^62)<=i/\i<2^62/\ -(2^62)<=j/\j<2^62)/\R (yG i (j-i).toNat) H1
theorem Ga{a:Expr}{T:TA}{p pos:Pos}(d:Gl X "range")(f:X.mg "range"=none)(c:PA X [a] T)(hs:starEach [a] X.env=[(Nl,eval a X.env)]:=by rfl):PI X tg (.Call (.Name "range" p) [a] [] pos) (yI T):=by
 intro P s l H R I h;refine Call_ (f8 I d f boot_range (N1 (aO (c _ _ s _ H _ I h) λu S z=>?_) hs rfl));obtain⟨_,_,b,i,Q⟩:=z;obtain⟨j,e,Q,g,q⟩:=Q;subst e;cases i with
 |cons r k=>cases k;obtain⟨t,rfl⟩:=r;exact call_range_1 (yH b (by simp) (by simp) Q g (by simp_all))
theorem Gb{a b:Expr}{T:TA}{p pos:Pos}(k:Gl X "range")(l:X.mg "range"=none)(g:PA X [a,b] T)(hs:starEach [a,b] X.env=[(Nl,eval a X.env),(Nl,eval b X.env)]:=by rfl)(c:starEach [b] X.env=[(Nl,eval b X.env)]:=by rfl):
  PI X tg (.Call (.Name "range" p) [a,b] [] pos) (yJ T):=by
 intro P s x H R I h;refine Call_ (f8 I k l boot_range (N1 (aO (g _ _ s _ H _ I h) λU S z=>?_) (by simp_all) (by rw[c];rfl)));obtain⟨_,_,f,v,Q⟩:=z;obtain⟨i,j,e,⟨Q,m,n,o⟩,q⟩:=Q;subst e;cases v with
 |cons r d=>
  cases d with
  |cons u d=>cases d;obtain⟨t,rfl⟩:=r;obtain⟨w,rfl⟩:=u;exact call_range_2 (yH f Q m n o q)
noncomputable def Gd(w:TI)(g:TG)(tb:TS):TS:=λD σ H=>w σ H λJ H1=>∃W:Nat->Nat->St->Hp->Prop,(∃m,W 0 m σ H1)/\∀i m σ H,W i m σ H->
 (J.stop i H/\D.nx σ H)\/(J.go i H/\∃N:St->Hp->Prop,(∀σ' H',N σ' H'->∃M,M<m/\W (i+1) M σ' H')/\∀x H',J.yld i H x H'->g x σ H' λa H2=>tb {D with nx:=N,ct:=N,bk:=D.nx} a H2)
noncomputable def mj(f:La)(h:Ny):Lp:=f.filterMap λb=>(h.get? b).map λo=>(b,o)
theorem ml{b:Nn}(H:b∈fp)(e:h.get? b=some o):(b,o)∈mj fp h:=Z5.mpr ⟨b,H,by simp_all⟩
theorem Ge{p:Nn×Obj}(H:p∈mj fp h):p.1∈fp/\h.get? p.1=some p.2:=by
 obtain⟨b,a,e⟩:=Z5.mp H;cases q:h.get? b with
 |none=>simp_all
 |some o=>
  grind
theorem Inv.pinned{σ:St}{H:Hp}(I:Inv X pq σ H s)(a:∀b∈fp,dj X pq H b)(d:∀b∈fp,∃o,s.heap.get? b=some o/\∀v,o.data≠.cell v):Inv X (pq++mj fp s.heap) σ H s:=
 I.pins_of λp c=>(ZP.mp c).elim (λz=>I.pin p (ZC _ z)) λz=>by
  obtain⟨h,e⟩:=Ge z;obtain⟨f0,f,F,_⟩:=a _ h
  grind
theorem Inv.unpinned{pl:Lp}{σ:St}{H:Hp}(I:Inv X (pq++pl) σ H s):Inv X pq σ H s:=I.pins_of λp h=>I.pin p (ZC _ (Yd _ h))
theorem sO{body:List Oq}{wi:TI}{g:TG}{tb:TS}{pos:Pos}(y:Qo (model X.prog X.w) X.A X.env X.xe)(Z:X.calm=Nk)(hi:PI X tg iter wi)(hg:PG X tg g)(k:ec X body tb)
  (hs:∀x,foldedSetIterable iter X.env x=pure x:=by intro _;rfl):PS X (.For tg iter body [] pos) (Gd wi g tb):=by
 intro P s σ H D I h;refine wpAny_For (aO (hi P s σ H _ I h) λv s1 h1=>aO h1 λitv s2 h2=>?_) hs;obtain⟨it,F,tn,J,H2,e,I2,T,O,Y,W,⟨m0,w0⟩,turn⟩:=h2;subst e;have S:∀{q:Hp},(∀b∈F,q b=none)->∀b∈F,dj X P q b:=λhn b k=>⟨hn b k,(Y b k).2⟩;refine codeAny_forLoop_any (λn s'=>∃i l q,Inv X P l q s'/\tn i s'.heap/\(∀b∈F,q b=none)/\W i n l q) ?_ m0 ⟨0,σ,H2,I2,O,λb k=>(Y b k).1,w0⟩;rintro n s3 ⟨i,p,E,V,C,w,w3⟩;rcases turn i n p E w3 with⟨stop,qn⟩| ⟨go,N,hN,step⟩
 ·refine OJ y (aO (T.done X rfl rfl rfl Z i P s3 p E X.xe V (S w) C stop) λr s4 z=>z.elim λL I4=>?_);subst L;exact QC ⟨p,E,I4,qn⟩
 ·refine OJ y (aO (T.item X rfl rfl rfl Z i P s3 p E X.xe V (S w) C go) λr s4 z=>?_);obtain⟨u,L,h4⟩:=z;subst L;refine OJ y (aO h4 λ_ s5 z=>?_);obtain⟨x,U,I5,r5,y5,t,K⟩:=z;have G:=I5.pinned (S K) (T.obj _ _ t);refine OJ y (aO (hg _ s5 p U x u _ G r5 (step x U y5)) λ_ s6 z=>?_);obtain⟨R,H6,I6,q6⟩:=z;refine OJ y (aO (k _ s6 R H6 _ I6 q6) λf M Q=>?_)
  have A:∀{a:St} {c:Hp},Inv X (P++mj F s5.heap) a c M->N a c->∃m,m<n/\∃i l q,Inv X P l q M/\tn i M.heap/\(∀b∈F,q b=none)/\W i m l q:=λ{a c} j B=>by obtain⟨m',hm,w7⟩:=hN a c B;refine⟨m',hm,i+1,a,c,j.unpinned,T.keep _ _ _ t λb k o e=>(j.pin (b,o) (ZC _ (ZC _ (ml k e)))).1,λb k=>?_,w7⟩;obtain⟨o,e,d⟩:=T.obj _ _ t b k;exact(j.pin (b,o) (ZC _ (ZC _ (ml k e)))).2.1
  cases f with
  |next=>obtain⟨a,c,j,B⟩:=Q;exact A j B
  |cont=>obtain⟨a,c,j,B⟩:=Q;exact A j B
  |brk=>obtain⟨a,c,j,Q⟩:=Q;exact⟨a,c,j.unpinned,Q⟩
  |ret v=>obtain⟨x7,a,c,j,r7,Q⟩:=Q;exact⟨x7,a,c,j.unpinned,r7,Q⟩
end
abbrev R2:=V->V->Hp->VK->Prop
def b9(X:Cx)(f:Np->Np->Sem Np)(r:R2):Prop:=
 ∀(pq:Lp) (s:Nm) (σ:St) (H:Hp) (x y:V) (v u:Np) (Q:VK),Inv X pq σ H s->RelV x v->RelV y u->r x y H Q->
  wpAny (model X.prog X.w) X.A (f v u) (EP X pq σ Q) X.xe s
def Gf(X:Cx)(f:Np->Sem Np)(r:V->Hp->VK->Prop):Prop:=
 ∀(pq:Lp) (s:Nm) (σ:St) (H:Hp) (x:V) (v:Np) (Q:VK),Inv X pq σ H s->RelV x v->r x H Q->
  wpAny (model X.prog X.w) X.A (f v) (EP X pq σ Q) X.xe s
def a9(X:Cx)(f:Np)(r:List V->Hp->VK->Prop):Prop:=
 ∀(pq:Lp) (s:Nm) (σ:St) (H:Hp) (xs:List V) (us:Lv) (Q:VK),Inv X pq σ H s->Vals xs us->r xs H Q->
  wpAny (model X.prog X.w) X.A (call f us) (EP X pq σ Q) X.xe s
def Gg(X:Cx)(r:V->Hp->(Bool->Hp->Prop)->Prop):Prop:=
 ∀(pq:Lp) (s:Nm) (σ:St) (H:Hp) (x:V) (v:Np) (Q:Bool->Hp->Prop),Inv X pq σ H s->RelV x v->r x H Q->
  wpAny (model X.prog X.w) X.A (truthy v) (TP X pq σ Q) X.xe s
noncomputable def Ft(r:R2)(t tb:TE):TE:=λσ H Q=>t σ H λx H1=>tb σ H1 λy H2=>r x y H2 Q
noncomputable def MW(r:V->Hp->VK->Prop)(t:TE):TE:=λσ H Q=>t σ H λx H1=>r x H1 Q
noncomputable def rI(C:Int->Int->Prop)(g:Int->Int->V):R2:=λx y H Q=>∃i j,x=.int i/\y=.int j/\C i j/\Q (g i j) H
noncomputable def mm(g:Int->Int->V):R2:=λx y H Q=>∃i j,x=.int i/\y=.int j/\Q (g i j) H
def rU(g:Int->V):V->Hp->VK->Prop:=λx H Q=>∃i,x=.int i/\Q (g i) H
section
variable {X:Cx}{a b c:Expr}{ta tb tc:TE}{pos:Pos}
theorem sP(g:PE X a ta)(i:PE X b tb){σ:St}{H:Hp}{R:V->V->Hp->Prop}(I:Inv X pq σ H s)
  (h:ta σ H λx H1=>tb σ H1 λy H2=>R x y H2)  {f:Np->Np->Sem Np}
  (j:∀v u s2 x y H2,Inv X pq σ H2 s2->RelV x v->RelV y u->R x y H2->wpAny (model X.prog X.w) X.A (f v u) Q X.xe s2):
  wpAny (model X.prog X.w) X.A (eval a X.env) (λv S=>wpAny (model X.prog X.w) X.A (eval b X.env) (λu c=>wpAny (model X.prog X.w) X.A (f v u) Q X.xe c) X.xe S) X.xe s:=by
 exact aO (g _ s _ H _ I h) λv m z=>z.elim λx z=>z.elim λ_ z=>z.elim λd z=>z.elim λr q=>aO (i _ _ _ _ _ d q) λu s2 z=>by obtain⟨y,_,e,l,k⟩:=z;exact(j v u _ x y _ e r l k)
theorem iu{o:Rj}{r:R2}(f:b9 X (binaryOp o) r)(d:PE X a ta)(e:PE X b tb):PE X (.BinOp a o b pos) (Ft r ta tb):=by intro p s j H Q I h;exact wpAny_BinOp (sP d e I h λv u S x y i c R g q=>f _ _ _ _ x y v u Q c R g q)
theorem yK{o:UnaryOp}{r:V->Hp->VK->Prop}(d:Gf X (unaryOp o) r)(c:PE X a ta):PE X (.UnaryOp o a pos) (MW r ta):=by intro p s e H Q I h;exact UnaryOp_ (aO (c _ s _ H _ I h) λv S z=>by obtain⟨x,_,b,R,q⟩:=z;exact(d _ _ _ _ x v Q b R q))
theorem sQ{f:Np->Np->Sem Np}{C:Int->Int->Prop}
  (r:∀(i j:Int) (t u:Tok) (s:Nm) (Q:Vs) (E:Vs),C i j->Q (.int (g i j) s.toks) {s with toks:=s.toks+1}->wpAny (model X.prog X.w) X.A (f (.int i t) (.int j u)) Q E s):
  b9 X f (rI C λi j=>.int (g i j)):=by
 intro p s d H x y v u Q I R b h;obtain⟨i,j,rfl,rfl,a,q⟩:=h;obtain⟨t,rfl⟩:=R;obtain⟨c,rfl⟩:=b;exact r i j t _ s _ _ a ⟨.int _,H,I.tok _,⟨_,rfl⟩,q⟩
theorem mq{f:Np->Np->Sem Np}
  (r:∀(i j:Int) (t u:Tok) (s:Nm) (Q:Vs) (E:Vs),Q (.int (g i j) s.toks) {s with toks:=s.toks+1}->wpAny (model X.prog X.w) X.A (f (.int i t) (.int j u)) Q E s):
  b9 X f (mm λi j=>.int (g i j)):=by
 intro p s c H x y v u Q I R a h;obtain⟨i,j,rfl,rfl,q⟩:=h;obtain⟨t,rfl⟩:=R;obtain⟨b,rfl⟩:=a;exact r i j t _ s _ _ ⟨.int _,H,I.tok _,⟨_,rfl⟩,q⟩
theorem sR{f:Np->Np->Sem Np}{g:Int->Int->Bool}
  (r:∀(i j:Int) (t u:Tok) (s:Nm) (Q:Vs) (E:Vs),Q (.bool (g i j)) s->wpAny (model X.prog X.w) X.A (f (.int i t) (.int j u)) Q E s):
  b9 X f (mm λi j=>.bl (g i j)):=by
 intro p s b H x y v u Q I R a h;obtain⟨i,j,rfl,rfl,q⟩:=h;obtain⟨t,rfl⟩:=R;obtain⟨T,rfl⟩:=a;exact r i j t _ s _ _ ⟨.bl _,H,I,rfl,q⟩
def Gh(i j:Int):Prop:=0<j/\j<1073741824
def Gi(i j:Int):Prop:=0<=j/\j<=1000000/\i.natAbs<2^64
noncomputable def sS(i j:Int):Prop:=(-(2^64)<i/\i<2^64)\/(-(2^64)<j/\j<2^64)
theorem sS.ok{i j:Int}(h:sS i j):IntMulOk i j:=by
 rcases h with⟨H,a⟩| ⟨H,a⟩
 ·exact .of_left (intBits_le_64 H a)
 ·exact .of_right (intBits_le_64 H a)
theorem sT:b9 X (binaryOp .Add) (mm λi j=>.int (i+j)):=mq λ_ _ _ _ _ _ _ q=>add_int q
theorem sU:b9 X (binaryOp .Sub) (mm λi j=>.int (i-j)):=mq λ_ _ _ _ _ _ _ q=>sub_int q
theorem sV:b9 X (binaryOp .Mult) (rI sS λi j=>.int (i*j)):=sQ λ_ _ _ _ _ _ _ h q=>mul_int q h.ok
theorem mr:b9 X (binaryOp .FloorDiv) (rI Gh λi j=>.int (i/j)):=sQ λi j _ _ _ _ _ h q=>by have H:=h.1;have a:=h.2;exact floordiv_int (by omega) (by grind) (.inl (PyProof.noPylong_small (by omega)))
theorem sW:b9 X (binaryOp .Mod) (rI (λ_ j=>0<j) λi j=>.int (i%j)):=sQ λi j _ _ _ _ _ h q=>by exact mod_int' (by lia) (by grind)
theorem sX:b9 X (binaryOp .Pow) (rI Gi λi j=>.int (i^j.toNat)):=sQ λ_ _ _ _ _ _ _ h q=>pow_int_small h.1 h.2.1 h.2.2 q
theorem sY:b9 X (binaryOp .RShift) (rI (λ_ j=>0<=j) λi j=>.int (i/2^j.toNat)):=sQ λi j _ _ _ _ _ h q=>
 rshift_int h (by grind)
theorem sZ:b9 X (binaryOp .BitAnd) (mm λi j=>.int (SV i j)):=mq λ_ _ _ _ _ _ _ q=>and_int q
theorem yL:b9 X (binaryOp .BitOr) (mm λi j=>.int (Th i j)):=mq λ_ _ _ _ _ _ _ q=>or_int q
theorem MX{f:Np->Sem Np}{g:Int->Int}
  (r:∀(i:Int) (t:Tok) (s:Nm) (Q:Vs) (E:Vs),Q (.int (g i) s.toks) {s with toks:=s.toks+1}->wpAny (model X.prog X.w) X.A (f (.int i t)) Q E s):
  Gf X f (rU λi=>.int (g i)):=by
 intro p s a H x v Q I R h;obtain⟨i,rfl,q⟩:=h;obtain⟨t,rfl⟩:=R;exact r i t s _ _ ⟨.int _,H,I.tok _,⟨_,rfl⟩,q⟩
theorem s9:Gf X (unaryOp .USub) (rU λi=>.int (-i)):=MX λ_ _ _ _ _ q=>neg_int q
end
noncomputable def yM:V->V->Bool
 | .non,.non=>Nk| .non,.int _=>Nk| .int _,.non=>Nk| .non,.bl _=>Nk| .bl _,.non=>Nk| .non,.str _=>Nk| .str _,.non=>Nk
 | .int _,.int _=>Nk| .bl _,.bl _=>Nk| .str _,.str _=>Nk| .byt _,.byt _=>Nk
 | .int _,.str _=>Nk| .str _,.int _=>Nk| .bl _,.str _=>Nk| .str _,.bl _=>Nk
 |_,_=>Nl
noncomputable def MY:R2:=λx y H Q=>yM x y=Nk/\Q (.bl (decide (x=y))) H
noncomputable def MZ:R2:=λx y H Q=>yM x y=Nk/\Q (.bl (!decide (x=y))) H
theorem yN{i j:Int}:decide (V.int i=V.int j)=(i==j):=by rw[Of];simp
theorem j4{i j:Bool}:decide (V.bl i=V.bl j)=(i==j):=by rw[Of];simp
theorem yO{i j:Str}:decide (V.str i=V.str j)=(i==j):=by rw[Of];simp
theorem yP{i j:Array UInt8}:decide (V.byt i=V.byt j)=(i.toList==j.toList):=by rw[Of];cases i;cases j;simp
section
variable {X:Cx}{a b c:Expr}{ta tb tc:TE}{pos:Pos}
theorem bg{σ:St}{H:Hp}{Q:VK}{k K:Bool}(I:Inv X pq σ H s)(q:Q (.bl k) H)(e:k=K):EP X pq σ Q (.bool K) s:=by subst e;exact⟨.bl k,H,I,rfl,q⟩
theorem rf:b9 X (compareOp .Eq) MY:=by
 intro p s b H x y v u Q I R r h;obtain⟨a,q⟩:=h;cases x with
 |non=>
  cases R;cases y with
  |non=>cases r;exact PySem.EqNone.eq_none_none (bg I q (by simp))
  |bl j=>cases r;exact PySem.EqNone.eq_none_bool (bg I q (by simp))
  |int j=>obtain⟨T,rfl⟩:=r;exact PySem.EqNone.eq_none_int (bg I q (by simp))
  |str j=>obtain⟨T,rfl⟩:=r;exact PySem.EqNone.eq_none_str (bg I q (by simp))
  |_=>exact absurd (show Nl=Nk from a) ZT
 |bl i=>
  cases R;cases y with
  |non=>cases r;exact PySem.EqNone.eq_bool_none (bg I q (by simp))
  |bl j=>cases r;exact eq_bool (bg I q j4)
  |str j=>obtain⟨T,rfl⟩:=r;exact PySem.EqMixed.eq_bool_str (bg I q (by simp))
  |_=>exact absurd (show Nl=Nk from a) ZT
 |int i=>
  obtain⟨t,rfl⟩:=R;cases y with
  |non=>cases r;exact PySem.EqNone.eq_int_none (bg I q (by simp))
  |int j=>obtain⟨T,rfl⟩:=r;exact eq_int (bg I q yN)
  |str j=>obtain⟨T,rfl⟩:=r;exact PySem.EqMixed.eq_int_str (bg I q (by simp))
  |_=>exact absurd (show Nl=Nk from a) ZT
 |str i=>
  obtain⟨t,rfl⟩:=R;cases y with
  |non=>cases r;exact PySem.EqNone.eq_str_none (bg I q (by simp))
  |bl j=>cases r;exact PySem.EqMixed.eq_str_bool (bg I q (by simp))
  |int j=>obtain⟨T,rfl⟩:=r;exact PySem.EqMixed.eq_str_int (bg I q (by simp))
  |str j=>obtain⟨T,rfl⟩:=r;exact eq_str (bg I q yO)
  |_=>exact absurd (show Nl=Nk from a) ZT
 |byt i=>
  obtain⟨t,rfl⟩:=R;cases y with
  |byt j=>obtain⟨T,rfl⟩:=r;exact PySem.W.eq_bytes (bg I q yP)
  |_=>exact absurd (show Nl=Nk from a) ZT
 |_=>cases y<;>exact absurd (show Nl=Nk from a) ZT
theorem yQ:b9 X (compareOp .NotEq) MZ:=by
 intro p s b H x y v u Q I R r h;obtain⟨a,q⟩:=h;cases x with
 |non=>
  cases R;cases y with
  |non=>cases r;exact PySem.EqNone.ne_none_none (bg I q (by simp))
  |bl j=>cases r;exact PySem.EqNone.ne_none_bool (bg I q (by simp))
  |int j=>obtain⟨T,rfl⟩:=r;exact PySem.EqNone.ne_none_int (bg I q (by simp))
  |str j=>obtain⟨T,rfl⟩:=r;exact PySem.EqNone.ne_none_str (bg I q (by simp))
  |_=>exact absurd (show Nl=Nk from a) ZT
 |bl i=>
  cases R;cases y with
  |non=>cases r;exact PySem.EqNone.ne_bool_none (bg I q (by simp))
  |bl j=>cases r;exact ne_bool (bg I q (ZX not j4))
  |str j=>obtain⟨T,rfl⟩:=r;exact PySem.EqMixed.ne_bool_str (bg I q (by simp))
  |_=>exact absurd (show Nl=Nk from a) ZT
 |int i=>
  obtain⟨t,rfl⟩:=R;cases y with
  |non=>cases r;exact PySem.EqNone.ne_int_none (bg I q (by simp))
  |int j=>obtain⟨T,rfl⟩:=r;exact ne_int (bg I q (ZX not yN))
  |str j=>obtain⟨T,rfl⟩:=r;exact PySem.EqMixed.ne_int_str (bg I q (by simp))
  |_=>exact absurd (show Nl=Nk from a) ZT
 |str i=>
  obtain⟨t,rfl⟩:=R;cases y with
  |non=>cases r;exact PySem.EqNone.ne_str_none (bg I q (by simp))
  |bl j=>cases r;exact PySem.EqMixed.ne_str_bool (bg I q (by simp))
  |int j=>obtain⟨T,rfl⟩:=r;exact PySem.EqMixed.ne_str_int (bg I q (by simp))
  |str j=>obtain⟨T,rfl⟩:=r;exact ne_str (bg I q (ZX not yO))
  |_=>exact absurd (show Nl=Nk from a) ZT
 |byt i=>
  obtain⟨t,rfl⟩:=R;cases y with
  |byt j=>obtain⟨T,rfl⟩:=r;exact PySem.W.ne_bytes (bg I q (ZX not yP))
  |_=>exact absurd (show Nl=Nk from a) ZT
 |_=>cases y<;>exact absurd (show Nl=Nk from a) ZT
theorem yR:b9 X (compareOp .LtE) (mm λi j=>.bl (decide (i<=j))):=sR λ_ _ _ _ _ _ _ q=>le_int q
theorem yS:b9 X (compareOp .Gt) (mm λi j=>.bl (decide (j<i))):=sR λ_ _ _ _ _ _ _ q=>gt_int q
theorem yT:b9 X (compareOp .GtE) (mm λi j=>.bl (decide (j<=i))):=sR λ_ _ _ _ _ _ _ q=>ge_int q
theorem Gj:b9 X (compareOp .In) (λx y H Q=>∃i j,x=.str i/\y=.str j/\Q (.bl (!(PC j i 0 j.length 1).isEmpty)) H):=by intro p s a H x y v u Q I r R h;obtain⟨i,j,rfl,rfl,q⟩:=h;obtain⟨t,rfl⟩:=r;obtain⟨T,rfl⟩:=R;exact in_str (bg I q rfl)
theorem s_:b9 X (compareOp .Is) (λx y H Q=>y=.non/\Q (.bl (decide (x=.non))) H):=by
 intro p s a H x y v u Q I r R h;obtain⟨rfl,q⟩:=h;subst R;refine is_none_gen (bg I q ?_)
 cases x<;>first
  |lia
  | (obtain⟨t,rfl⟩:=r;rfl)
theorem ms:b9 X (compareOp .IsNot) (λx y H Q=>y=.non/\Q (.bl (!decide (x=.non))) H):=by
 intro p s a H x y v u Q I r R h;obtain⟨rfl,q⟩:=h;subst R;refine isnot_none_gen (bg I q ?_)
 cases x<;>first
  |lia
  | (obtain⟨t,rfl⟩:=r;rfl)
theorem Gk:b9 X (compareOp .NotIn) (λx y H Q=>∃i j,x=.str i/\y=.str j/\Q (.bl (!(!(PC j i 0 j.length 1).isEmpty))) H):=by intro p s a H x y v u Q I r R h;obtain⟨i,j,rfl,rfl,q⟩:=h;obtain⟨t,rfl⟩:=r;obtain⟨T,rfl⟩:=R;exact notIn_str (bg I q rfl)
theorem mu{o:PU}{r:R2}(g:b9 X (compareOp o) r)(d:PE X a ta)(e:PE X b tb)(f:behindInMarks o b=Nl):PE X (.Compare a [o] [b] pos) (Ft r ta tb):=by intro p s k H Q I h;exact wpAny_Compare1 (sP d e I h λv u S x y j c R i q=>g _ _ _ _ x y v u Q c R i q) f
noncomputable def rg(t:TE):TT:=λσ H Q=>t σ H λx H'=>∃k,x=.bl k/\Q k H'
theorem mw{o:PU}{r:R2}(m:b9 X (compareOp o) r)(i:PE X a ta)(j:PE X b tb)(l:behindInMarks o b=Nl):PT X (.Compare a [o] [b] pos) (rg (Ft r ta tb)):=by
 intro P s C H Q I h
 refine wpAny_isTrue_Compare1 (aO (i _ s _ H _ I h) λv S Z=>Z.elim λx Z=>Z.elim λ_ Z=>Z.elim λd Z=>Z.elim λR q=>aO (j _ _ _ _ _ d q) λu A Z=>
  Z.elim λy Z=>Z.elim λ_ Z=>Z.elim λf Z=>Z.elim λt n=>aO (m _ _ _ _ x y v u _ f R t n) λc B Z=>?_) l
 obtain⟨z,_,g,w,k,e,p⟩:=Z;subst e;subst w;exact ZR ⟨_,g,p⟩
noncomputable def j5(r R:R2)(t tb T:TE):TE:=λσ H Q=>t σ H λx H1=>tb σ H1 λy H2=>r x y H2 λz a=>∃k,z=.bl k/\
 (if k=Nk then T σ a λw b=>R y w b Q else Q (.bl Nl) a)
theorem Gm{o:PU}{r R:R2}(A:b9 X (compareOp o) r)(f:b9 X (compareOp op') R)(n:PE X a ta)(p:PE X b tb)(t:PE X c tc)
  (w:lastMarks [o,op'] [b,c]=Nl:=by with_unfolding_all rfl):PE X (.Compare a [o,op'] [b,c] pos) (j5 r R ta tb tc):=by
 intro P s M H Q I h
 refine Compare_chain (aO (n _ s _ H _ I h) λv S Z=>Z.elim λx Z=>Z.elim λ_ Z=>Z.elim λj Z=>Z.elim λE B=>chain_link (aO (p _ _ _ _ _ j B) λu J Z=>
  Z.elim λy Z=>Z.elim λ_ Z=>Z.elim λl Z=>Z.elim λi C=>aO (A _ _ _ _ x y v u _ l E i C) λd K Z=>?_)) w
 obtain⟨z,_,g,F,k,e,q⟩:=Z;subst e;subst F;refine ZR ?_;cases k with
 |false=>exact ite_ff ⟨.bl _,_,g,rfl,q⟩
 |true=>exact ite_tt (chain_last (aO (t _ _ _ _ _ g q) λW L Z=>by obtain⟨_,_,m,G,D⟩:=Z;exact(f _ _ _ _ y _ u _ Q m i G D)))
theorem Gn{o:PU}{r R:R2}(C:b9 X (compareOp o) r)(f:b9 X (compareOp op') R)(t:PE X a ta)(w:PE X b tb)(A:PE X c tc)
  (B:lastMarks [o,op'] [b,c]=Nl:=by with_unfolding_all rfl):PT X (.Compare a [o,op'] [b,c] pos) (rg (j5 r R ta tb tc)):=by
 intro T s σ H Q I h
 refine isTrue_chain (aO (t _ s _ H _ I h) λv U Z=>Z.elim λx Z=>Z.elim λ_ Z=>Z.elim λj Z=>Z.elim λL F=>test_link (aO (w _ _ _ _ _ j F) λu V Z=>
  Z.elim λy Z=>Z.elim λ_ Z=>Z.elim λl Z=>Z.elim λi G=>aO (C _ _ _ _ x y v u _ l L i G) λd W Z=>?_)) B
 obtain⟨z,_,g,M,k,e,q⟩:=Z;subst e;subst M;refine ZR ?_;cases k with
 |false=>obtain⟨S,E,D⟩:=q;cases E;exact ite_ff ⟨_,g,D⟩
 |true=>refine ite_tt (test_last (aO (A _ _ _ _ _ g q) λw' Y Z=>Z.elim λ_ Z=>Z.elim λ_ Z=>Z.elim λm Z=>Z.elim λN J=>aO (f _ _ _ _ y _ u _ _ m i N J) λP s5 Z=>?_));obtain⟨_,_,n,O,_,p,K⟩:=Z;subst p;subst O;exact ZR ⟨_,n,K⟩
def iN(K:Fg)(x:V)(H:Hp)(k:Bool):Prop:=
 match x with
 | .non=>k=Nl
 | .bl b=>k=b
 | .int i=>k=(i !=0)
 | .str y=>y.length<=sizeLine/\k=((y.length:Int) !=0)
 | .byt y=>y.size<=sizeLine/\k=((y.size:Int) !=0)
 | .ref p=>(∃xs,c8 K H p xs/\k= !xs.isEmpty)\/(∃xs,b4 K H p xs/\k= !xs.isEmpty)\/∃a,H p=some (.dK a)/\k= !a.isEmpty
 |_=>False
theorem Gp{a:Type}{k:List (a×V)}{vs:List (a×Np)}(r:KV k vs):(!vs.isEmpty)= !k.isEmpty:=by cases r<;>rfl
theorem yU{xs:List V}(r:Vals xs its):(!its.toArray.isEmpty)= !xs.isEmpty:=by cases r<;>simp
theorem iO:(sizeLine:Nat)<2^63:=by decide
theorem j6:Gg X (λx H Q=>∃k,iN X.K x H k/\Q k H):=by
 intro u s w H x v Q I R h;obtain⟨k,e,q⟩:=h;have n:=iO;have o:sizeLine=16777216:=N5;cases x with
 |non=>cases R;subst(e);exact truthy_none ⟨H,I,q⟩
 |bl b=>cases R;have E:k=b:=e;subst E;exact ZR ⟨H,I,q⟩
 |int i=>obtain⟨t,rfl⟩:=R;subst(e);exact PySem.P.truthy_int ⟨H,I,q⟩
 |str y=>obtain⟨t,rfl⟩:=R;obtain⟨l,E⟩:y.length<=sizeLine/\k=((y.length:Int) !=0):=e;subst E;exact PySem.P.truthy_str (by omega) ⟨H,I.tok _,q⟩
 |byt y=>obtain⟨t,rfl⟩:=R;obtain⟨l,E⟩:y.size<=sizeLine/\k=((y.size:Int) !=0):=e;subst E;exact PySem.W.truthy_bytes (by omega) ⟨H,I.tok _,q⟩
 |ref p=>
  cases R;have E:(∃c,c8 X.K H p c/\k= !c.isEmpty)\/(∃c,b4 X.K H p c/\k= !c.isEmpty)\/∃K,H p=some (.dK K)/\k= !K.isEmpty:=e;rcases E with⟨c,d,E⟩| ⟨c,d,E⟩| ⟨K,d,E⟩
  ·subst E;obtain⟨f,r,P,g⟩:=I.list d;have a:=r.length;exact wpAny_truthy_list P.isList (by grind) ⟨H,I.tok _,by rw[yU r];exact q⟩
  ·subst E;obtain⟨f,r,P,g⟩:=I.tuple d;have a:=r.length;exact truthy_tuple P (by grind) ⟨H,I.tok _,by rw[yU r];exact q⟩
  ·subst E;obtain⟨g,j,vs,r,m⟩:K.length<=sizeLine/\(p==sysModules)=Nl/\∃vs,KV K vs/\s.heap.DictOf (sv X.prog X.w) p vs:=I.hok p _ d;have a:K.length=vs.length:=Paired.length r;exact wpAny_truthy_dict j m (by omega) ⟨H,I.tok _,by rw[Gp r];exact q⟩
 |_=>exact(show False from e).elim
theorem Gq(c:PE X a ta)(d:∀w,isTrue a X.env w=(do let v <-w;standAt a.pos;holding [v] (truthy v))):
  PT X a (λσ H Q=>ta σ H λx H'=>∃k,iN X.K x H' k/\Q k H'):=by
 intro p s σ H Q I h;exact isTrue_plain (aO (c _ s _ H _ I h) λv S z=>by obtain⟨x,_,b,r,q⟩:=z;exact(j6 _ _ _ _ x v Q b r q)) (d _)
theorem Gr:b9 X (binaryOp .Add) (λx y H Q=>∃i j,x=.str i/\y=.str j/\i.length+j.length<=sizeLine/\Q (.str (i++j)) H):=by intro p s c H x y v u Q I r R h;obtain⟨i,j,rfl,rfl,a,q⟩:=h;obtain⟨t,rfl⟩:=r;obtain⟨T,rfl⟩:=R;exact add_str (λT b=>⟨.str _,H,I.tok _,⟨_,rfl⟩,q⟩) a
theorem vals1{x:V}(r:Vals [x] us):∃u,us=[u]/\RelV x u:=by
 cases r with
 |cons a R=>cases R;simp_all
theorem vals2{x y:V}(r:Vals [x,y] us):∃u w,us=[u,w]/\RelV x u/\RelV y w:=by
 cases r with
 |cons b R=>
  cases R with
  |cons c a=>cases a;lia
theorem Gs(b:X.calm=Nk):a9 X (.builtin "max") (λxs H Q=>∃i j,xs=[.int i,.int j]/\Q (.int (if j>i then j else i)) H):=by
 intro p s e H xs U Q I r h;obtain⟨i,j,rfl,q⟩:=h;obtain⟨u,w,rfl,⟨t,rfl⟩,⟨T,rfl⟩⟩:=vals2 r;refine max_two_ints (I.ok.hd b) λc d k=>⟨_,H,I.kept k,?_,q⟩;by_cases a:j>i
 ·rw[if_pos a,if_pos a];exact⟨_,rfl⟩
 ·rw[if_neg a,if_neg a];exact⟨_,rfl⟩
theorem Gu(b:X.calm=Nk):a9 X (.builtin "min") (λxs H Q=>∃i j,xs=[.int i,.int j]/\Q (.int (if j<i then j else i)) H):=by
 intro p s e H xs U Q I r h;obtain⟨i,j,rfl,q⟩:=h;obtain⟨u,w,rfl,⟨t,rfl⟩,⟨T,rfl⟩⟩:=vals2 r;refine min_two_ints (I.ok.hd b) λc d k=>⟨_,H,I.kept k,?_,q⟩;by_cases a:j<i
 ·rw[if_pos a,if_pos a];exact⟨_,rfl⟩
 ·rw[if_neg a,if_neg a];exact⟨_,rfl⟩
theorem yV:a9 X (.type "int") (λxs H Q=>(∃i,xs=[.int i]/\Q (.int i) H)\/∃k,xs=[.bl k]/\Q (.int (if k then 1 else 0)) H):=by
 intro p s a H xs U Q I r h;rcases h with⟨i,rfl,q⟩| ⟨k,rfl,q⟩
 ·obtain⟨u,rfl,t,rfl⟩:=vals1 r;exact call_int_int ⟨.int i,H,I,⟨_,rfl⟩,q⟩
 ·obtain⟨u,rfl,R⟩:=vals1 r;subst R;exact call_int_bool ⟨.int _,H,I.tok _,⟨_,rfl⟩,q⟩
end
section
variable {x dx:Nn}{v:Np}
end
theorem l4.some_of{v:V}{o:Ov}(r:l4 (some v) o):∃u,o=some u/\RelV v u:=by
 cases o with
 |none=>exact(show False from r).elim
 |some u=>exact⟨u,rfl,r⟩
section
variable {P:Nu}{H H':Hp}{dx:Nn}{fs fs':List (Str×V)}
end
section
variable {X:Cx}{σ:St}{H:Hp}{dx:Nn}{fs:List (Str×V)}{f:Str}{v:V}
theorem mx{f:Str}{pos:Pos}(H:attributeBase e f env (eval e env)=eval e env)
  (h:wpAny (model prog w) A (eval e env) (λo S=>wpAny (model prog w) A (getAttr o f Nk) Q E S) E s):wpAny (model prog w) A (eval (.Attribute e f pos) env) Q E s:=
 Attribute_any_ h (by rw[arm_eval_Attribute,H])
end
section
variable {X:Cx}{o:Expr}{f:Str}{pos tpos:Pos}{ta tv:TE}
end
section
variable {X:Cx}{σ:St}{H:Hp}{c:Np}{b:Bool}
end
structure b5 (k:Nat)(A:NX):Prop where
 hd:A.handled=none
 dp:A.depth+3*k+5<recursionLimit
 un:A.units+16*k+200<cLine
 gd:A.guards=some []
theorem b5.mono{j k:Nat}(r:b5 k A)(h:j<=k):b5 j A:=⟨r.hd,by have:=r.dp;lia,by have:=r.un;lia,r.gd⟩
theorem b5.deeper{k:Nat}(r:b5 (k+1) A)(env:Env):b5 k (A.deeper env):=
 ⟨r.hd,by have:=r.dp;show A.depth+1+3*k+5<_;lia,by have:=r.un;show A.units+3+16*k+200<_;lia,r.gd⟩
theorem Gv:(A.under (.builtin "type.__call__" ⟨.ref C::us,kw⟩)).depth=A.depth+1:=by
 first|rfl|simp[QK,Code.weight,Code.isCreation,Code.isGuard,Code.isCaller,Code.frames,RS,guardIds]
theorem Gw:(A.under (.builtin "type.__call__" ⟨.ref C::us,kw⟩)).units=A.units+1:=by
 first|rfl|simp[QK,Code.cUnits,Code.frames,RS]
theorem b5.make{k:Nat}(r:b5 (k+1) A)(C:Nn)(u:Lv)(K:List (Str×Np)):b5 k (A.under (.builtin "type.__call__" ⟨.ref C::u,K⟩)):=
 ⟨r.hd,by have:=r.dp;rw[Gv];omega,by have:=r.un;rw[Gw];omega,by have:=r.gd;simp[QK,Code.guards,Code.isGuard,pushGuards,guardIds,this]⟩
theorem b5.depth{k:Nat}(r:b5 k A):A.depth<recursionLimit:=by have:=r.dp;lia
theorem b5.units{k:Nat}(r:b5 k A):A.units+64<cLine:=by have:=r.un;lia
noncomputable def tf:TA:=λ_ H Q=>Q [] H
noncomputable def eG(t:TE)(T:TA):TA:=λσ H Q=>t σ H λx H1=>T σ H1 λxs H2=>Q (x::xs) H2
section
variable {X:Cx}{es:Lx}{te:TE}{t:TA}{pos:Pos}
theorem e9:PA X [] tf:=λ_ _ _ _ H Q I h=>PX ⟨_,H,I,.nil,h⟩
theorem cS(c:PE X e te)(d:PA X es t)(hs:starEach (e::es) X.env=(Nl,eval e X.env)::starEach es X.env:=by rfl):PA X (e::es) (eG te t):=by intro pos p s i H Q I h;rw[hs];show wpAny _ _ (spliced ((Nl,eval e _)::backTo _ _)) _ _ s;exact Oa (aO (c _ s _ H _ I h) λu S z=>z.elim λx z=>z.elim λ_ z=>z.elim λa z=>z.elim λr q=>aO (d _ _ _ _ _ _ a q) λU g z=>by obtain⟨_,_,b,R,f⟩:=z;exact(⟨_,_,b,.cons r R,f⟩))
noncomputable def Gx(t:TA):TE:=λσ H Q=>t σ H λxs H1=>xs.length<=sizeLine/\∀p,H1 p=none->Q (.ref p) (aP H1 p (.tup xs))
noncomputable def Gy(t:TA):TE:=λσ H Q=>t σ H λxs H1=>xs.length<=sizeLine/\∀p,H1 p=none->Q (.ref p) (aP H1 p (.lst xs))
theorem ti{x1}(h:PA X es t):PE X (.Tuple es x1 pos) (Gx t):=by intro p s f H Q I d;refine wpAny_Tuple_spliced (aO (h _ _ s _ H _ I d) λU S Z=>Z.elim λ_ Z=>Z.elim λ_ Z=>Z.elim λa Z=>Z.elim λr Z=>Z.elim λz q=>⟨by rw[<-r.length];exact z,?_⟩);have c:=a.hok.fresh (Zh _);refine⟨.ref _,_,a.laid (λb u e=>Zb _ e) (Zh _) ?_,rfl,q _ c⟩;exact⟨z,_,r,⟨_,Zk _ rfl,rfl,_,rfl⟩,_,Zk _ rfl,rfl⟩
theorem f9(h:PA X es t):PE X (.List es pos) (Gy t):=by intro p s f H Q I d;refine wpAny_List_spliced (aO (h _ _ s _ H _ I d) λU S Z=>Z.elim λ_ Z=>Z.elim λ_ Z=>Z.elim λa Z=>Z.elim λr Z=>Z.elim λz q=>⟨by rw[<-r.length];exact z,?_⟩);have c:=a.hok.fresh (Zh _);refine⟨.ref _,_,a.laid (λb u e=>Zb _ e) (Zh _) ?_,rfl,q _ c⟩;exact⟨z,_,0,r,Zk _ rfl⟩
end
abbrev Sp:=List V->Hp->VK->XK->Prop
abbrev dk:=List Env->Hp->Nm->XK->Vs
structure hG (P:Nu)(w:NG)(K:Fg)(mg:Mg)(base:Ny)(A:NX)(outer:List Env)(s:Nm)(H:Hp):Prop where
 frames:A.frames=some outer
 mod:Mod K mg base
 bs:∀b o,base.get? b=some o->s.heap.get? b=some o/\H b=none
 bsz:base.objs.size<=s.heap.objs.size
 funs:s.heap.FunFrames base outer
 frf:∀b∈bG outer,H b=none
 hok:dY P w H s.heap
 bare:Qc s.gens
def CE(o:List Env)(P:Nu)(w:NG)(H:Hp)(s:Nm)(Q:VK)(u:Np)(S:Nm):Prop:=
 ∃v H',S.os=s.os/\Qc S.gens/\Un (bG o) [] H H' s.heap S.heap/\dY P w H' S.heap/\RelV v u/\Q v H'
def CR(CX:dk)(o:List Env)(P:Nu)(w:NG)(H:Hp)(s:Nm)(Q:VK)(E:XK)(r:Qz)(S:Nm):Prop:=
 match r with
 | .ok (.ret u)=>CE o P w H s Q u S
 | .ok _=>False
 | .error e=>CX o H s E e S
structure cI (P:Nu)(w:NG)(K:Fg)(mg:Mg)(base:Ny)(CX:dk)(k:Nat)(f:Nn)(fd:Ob)(ps:Ls)(sp:Sp):Prop where
 len:∀vs H Q E,sp vs H Q E->vs.length=ps.length
 run:∀(A:NX) (outer:List Env) (s:Nm) (H:Hp) (args:Args) (us:Lv) (vs:List V) (Q:VK) (E:XK),b5 k A->hG P w K mg base A outer s H->RT s fd args (ps.zip us)->Vals vs us->sp vs H Q E->
  codeAny (model P w) A (.call (.ref f) args) (CR CX outer P w H s Q E) s
theorem cI.mono{P:Nu}{CX:dk}{j k:Nat}{b:Ob}{sp:Sp}(F:cI P w K mg base CX j f b ps sp)(h:j<=k):
  cI P w K mg base CX k f b ps sp:=⟨F.len,λA o s H a u vs Q E c=>F.run A _ s H _ _ _ Q E (c.mono h)⟩
theorem cI.imp{P:Nu}{CX:dk}{k:Nat}{b:Ob}{sp S:Sp}(F:cI P w K mg base CX k f b ps sp)
  (h:∀vs H Q E,S vs H Q E->sp vs H Q E):cI P w K mg base CX k f b ps S:=
 ⟨λvs H Q E q=>F.len _ H Q E (h _ _ _ _ q),λA o s H a u vs Q E e d c i g=>F.run A _ s H _ _ _ Q E e d c i (h _ _ _ _ g)⟩
theorem hG.make{P:Nu}{H:Hp}(e:hG P w K mg base A outer s H)(C:Nn)(u:Lv)(k:List (Str×Np)):
  hG P w K mg base (A.under (.builtin "type.__call__" ⟨.ref C::u,k⟩)) outer s H:=⟨by first|exact e.frames| (simpa[QK,Code.envs,RS,pushEnvs]using e.frames),e.mod,e.bs,e.bsz,e.funs,e.frf,e.hok,e.bare⟩
section
variable {X:Cx}{σ:St}{H:Hp}
theorem Inv.env0(I:Inv X pq σ H s):hG X.prog X.w X.K X.mg X.base X.A X.stack s H:=
 ⟨I.ok.frames,I.ok.mod,I.bs,ZD I.ok.bsz I.sz,I.stack,I.stkFree,I.hok,I.bare⟩
theorem Inv.after{Q:VK}(I:Inv X pq σ H s)(h:CE X.stack X.prog X.w H s Q u s'):EP X pq σ Q u s':=by obtain⟨v,c,O,B,un,a,r,q⟩:=h;obtain⟨e,g,d,t,o⟩:=s';obtain rfl:o=s.os:=O;exact⟨v,_,I.call un a B λb z=>absurd z (by nofun),r,q⟩
end
noncomputable def yW(sp:Sp)(d:List V)(E:XK)(t:TA):TE:=λσ H Q=>t σ H λvs H1=>sp (vs++d) H1 Q E
def Binds(K:Fg)(f:Ob)(ps:Ls)(ds:Lv):Prop:=
 ∀(s:Nm) (us:Lv),K.In s.heap->(us++ds).length=ps.length->RT s f ⟨us,[]⟩ (ps.zip (us++ds))
theorem Binds.all{f:Ob}(h:∀us:Lv,us.length=ps.length->bindArgs f ⟨us,[]⟩=pure (ps.zip us)):Binds K f ps []:=λs us _ H=>by rw[N4]at H⊢;exact .of_eq (h _ H)
def j7(CX:dk)(X:Cx)(E:XK):Prop:=∀(pq:Lp) (σ:St) (H:Hp) (s:Nm) (e:Np) (s':Nm),Inv X pq σ H s->CX X.stack H s E e s'->X.xe e s'
section
variable {X:Cx}{CX:dk}{k:Nat}{fd:Ob}{sp:Sp}{dvs:List V}{ds:Lv}{E:XK}{x m:Str}{p pos:Pos}{o:Expr}{es:Lx}{ta:TE}{t:TA}
theorem tj{σ:St}{H:Hp}{Q:VK}{vs:List V}(F:cI X.prog X.w X.K X.mg X.base CX k f fd ps sp)(g:b5 k X.A)(c:Binds X.K fd ps ds)(d:Vals dvs ds)(i:j7 CX X E)
  (I:Inv X pq σ H s) (r:Vals vs us) (h:sp (vs++dvs) H Q E):wpAny (model X.prog X.w) X.A (call (.ref f) us) (EP X pq σ Q) X.xe s:=by
 have R:=r.append d;refine Pu (OV (F.run _ _ s H _ _ _ Q E g I.env0 (c s _ I.kIn (by rw[<-R.length];exact F.len _ _ _ _ h)) R h) λr S a=>?_);cases r with
 |error e=>exact i _ _ H s e _ I a
 |ok b=>
  cases b with
  |ret u=>exact I.after a
  |next=>exact False.elim a
  |brk=>exact False.elim a
  |cont=>exact False.elim a
theorem my(F:cI X.prog X.w X.K X.mg X.base CX k f fd ps sp)(o:b5 k X.A)(l:Gl X x)(n:X.mg x=some (.ref f))(m:PySem.W.keepIn X.K (.ref f)=Nk)(g:Binds X.K fd ps ds)(i:Vals dvs ds)(u:j7 CX X E)
  (d:PA X (e::es) t) (a:(x==("__debug__":Str))=Nl:=by decide) (j:starEach (e::es) X.env=(Nl,eval e X.env)::starEach es X.env:=by rfl) (b:(backTo pos (starEach es X.env)).any (·.1)=Nl:=by rfl):
  PE X (.Call (.Name x p) (e::es) [] pos) (yW sp dvs E t):=by
 intro P s v H Q I h;exact Og (iM I l n (PySem.W.callWith_K I.ok.mod.kin m (aO (d _ _ s _ H _ I h) λU S z=>by obtain⟨_,_,c,r,q⟩:=z;exact(⟨c.kIn,tj F o g i u c r q⟩)) j b) a)
end
section
variable {X:Cx}{CX:dk}{k:Nat}{fd:Ob}{ks:Ls}{sp:Sp}{E:XK}{x m:Str}{p pos kpos:Pos}{o:Expr}{es:Lx}{lY:List QR}{te ta:TE}{t tk:TA}{nm:Option Str}
variable {g:Lv->Lv->Lv}{gV:List V->List V->List V}
end
structure bv (N P:Ls)(sc:Scope):Prop where
 kind:sc.kind=.function
 co:sc.isCoroutine=Nl
 gen:sc.isGenerator=Nl
 nd:N.Nodup
 pre:N.take P.length=P
 par:∀x∈P,sc.names.lookup x=some .local\/sc.names.lookup x=some .cell
 nofree:∀y∈sc.names,y.2≠.free
theorem yX{kindOf:Str->Option N6}{x:Str}:∀{binds:List (Str×Np)} {m:Mg},(∀v,(x,v)∉binds)->bindL kindOf binds m x=m x
 | [],_,_=>rfl
 | (n,v)::r,m,h=>by
  dsimp only[bindL];rw[yX λw hw=>h w (Zc _ hw)];split
  ·grind
  ·rfl
theorem yY{kindOf:Str->Option N6}{x:Str}:∀{binds:List (Str×Np)} {m:Mg},(∀v,(x,v)∉binds)->bindC kindOf binds m x=m x
 | [],_,_=>rfl
 | (n,v)::r,m,h=>by
  unfold bindC;rw[yY λw hw=>h w (Zc _ hw)];split
  ·rfl
  grind
theorem yZ{kindOf:Str->Option N6}{x:Str}{v:Np}:∀{P:Ls} {vs:Lv} {i:Nat} {m:Mg},P.Nodup->P[i]?=some x->vs[i]?=some v->kindOf x=some .local->
  bindL kindOf (P.zip vs) m x=some v
 | [],_,_,_,_,h,_,_=>by trivial
 |_::_,[],_,_,_,_,h,_=>by trivial
 |p::P,w::vs,0,m,n,H,a,b=>by simp at H a;subst H;subst a;show bindL _ ((p,w)::P.zip _) m p=_;dsimp only[bindL];rw[yX λv c=>(Oh.mp n).1 (Ps c).1,if_pos b];simp
 |p::P,w::vs,i+1,m,n,H,a,b=>by unfold bindL;exact yZ (Oh.mp n).2 (by exact H) (by trivial) b
theorem y0{kindOf:Str->Option N6}{x:Str}{v:Np}:∀{P:Ls} {vs:Lv} {i:Nat} {m:Mg},P.Nodup->P[i]?=some x->vs[i]?=some v->kindOf x≠some .local->
  bindC kindOf (P.zip vs) m x=some v
 | [],_,_,_,_,h,_,_=>by simp_all
 |_::_,[],_,_,_,_,h,_=>by simp_all
 |p::P,w::vs,0,m,n,H,a,b=>by simp at H a;subst H;subst a;show bindC _ ((p,w)::P.zip _) m p=_;unfold bindC;rw[yY λv c=>(Oh.mp n).1 (Ps c).1,if_neg b];simp
 |p::P,w::vs,i+1,m,n,H,a,b=>by unfold bindC;exact y0 (Oh.mp n).2 (by simpa using H) (by simp_all) b
noncomputable def start(N:Ls)(vs:List V):St:=vs.map some++Nw (N.length-vs.length) none
noncomputable def eI(CX:dk)(P:Nu)(w:NG)(K:Fg)(mg:Mg)(base:Ny)(N:Ls)(qual:Str)(scope:Scope)(f:Nn)(cd:Np)(A:NX)(outer:List Env)(s:Nm)(H:Hp)(E:XK):Cx where
 prog:=P
 w:=w
 K:=K
 mg:=mg
 base:=base
 A:=A.deeper (envOfC qual scope s.heap.objs.size f cd)
 N:=N
 s₀:=s
 H₀:=H
 env:=envOfC qual scope s.heap.objs.size f cd
 outer:=outer
 stack:=envOfC qual scope s.heap.objs.size f cd::outer
 ex:=[]
 calm:=Nk
 fn:=λ_=>Nk
 pn:=[]
 xe:=λe s'=>wpAny (model P w) (A.deeper (envOfC qual scope s.heap.objs.size f cd)) (leaving (envOfC qual scope s.heap.objs.size f cd) e) (λ_ s''=>CX outer H s E e s'') (λe' s''=>CX outer H s E e' s'') s'
theorem y_{s:Scope}{x:Str}(h:s.names.lookup x=some .cell):∃c,(cellsFrom n s.names []).lookup x=some c:=by exact NU.mp (PySem.W.cellsFrom_some _ n [] (.inl h))
theorem za{CX:dk}{P:Nu}{D:Nm}{H:Hp}{E:XK}{vs:List V}
  (S:bv N ps scope) (G:A.handled=none) (e0:hG P w K mg base A outer s H) (L:vs.length=ps.length) (r:Vals vs us)
  (x:InCallC s s.heap.objs.size (bindL (envOfC qual scope s.heap.objs.size f cd).kindOf (ps.zip us) λ_=>none) (cellsFrom (s.heap.objs.size+1) scope.names []) (bindC (envOfC qual scope s.heap.objs.size f cd).kindOf (ps.zip us) λ_=>none) D):
  Inv (eI CX P w K mg base N qual scope f cd A outer s H E) [] (start N vs) H D:=by
 have I:ps.length<=N.length:=by have:=ZX Oj S.pre;rw[NV]at this;omega
 obtain⟨o,T,rfl,B⟩:=x.done;have j:∀b:Nn,b∉(eI CX P w K mg base N qual scope f cd A outer s H E).ex:=λb z=>absurd (show b∈([]:La)from z) (by simp)
 refine⟨⟨e0.mod,S.kind,rfl,rfl,Zh _,λy z c o d=>?_,λy g=>?_,λy c _ h=>?_,λ_=>G,Around.frames_deeper e0.frames,.inr ⟨rfl,rfl⟩,λb z=>absurd z (j b),e0.bs,e0.bsz,λb _ _=>j b,λb z=>absurd z (j b),e0.funs,e0.frf⟩,
  rfl,e0.bare,Un.kept B,⟨_,x.toInCall.ns,λi y v o d J=>?_⟩,λy c h=>⟨_,x.cell y c h⟩,e0.hok.fresh (Zh _),λy c h=>?_,λp l=>absurd (show p∈([]:Lp)from l) (by simp),e0.hok.kept B,?_⟩
 ·exact name_of_addr x.apart (ZF o) (ZF d)
 ·have g:scope.names.lookup y=some .cell\/scope.names.lookup y=some .free:=g;rcases g with g|g
  ·exact y_ g
  ·exact absurd rfl (S.nofree _ (ZF g))
 ·exact O8 (x.above y c (ZF h))
 ·have t:i<vs.length:=by
   unfold start at d;by_cases t:i<vs.length
   ·exact t
   ·rw[Zp (by simpa using t)]at d;rw[P8]at d;split at d<;>cases d
  have F:vs[i]?=some v:=by
   unfold start at d;rw[Zw (by simpa using t),Z2]at d;cases e:vs[i]? with
   |none=>rw[e]at d;cases d
   |some a=>rw[e]at d;cases d;rfl
  obtain⟨u,C,R⟩:=r.get F;have l:ps[i]?=some y:=by rw[<-S.pre,P2 (by omega)];exact o
  have m:ps.Nodup:=by rw[<-S.pre];exact S.nd.sublist (QS _ _)
  refine⟨u,R,?_⟩;rcases S.par y (Zo l)with k|k
  ·exact .inl ⟨k,yZ m l C k⟩
  ·obtain⟨c,e⟩:=y_ (n:=s.heap.objs.size+1) k;refine .inr ⟨.inl k,c,e,?_⟩;have q:=x.cell y c e;rw[y0 m l C (by show scope.names.lookup y≠_;rw[k];decide)]at q;exact q
 ·exact e0.hok.fresh (O8 (x.above y c (ZF h)))
 ·unfold start;show _=N.length;rw[Zn,Zl,List.length_replicate];omega
theorem rh{CX:dk}{P:Nu}{k:Nat}{p:Arguments}{body:List Oq}{D kV:Np}{an:Option Nn}
    {sp:Sp} (lk:K.lookup f=some ⟨oc,od,.func (PySem.W.fnOf name qual p body scope D kV doc pm an cdv ct),osl⟩) (j:PySem.W.codeIn K cdv qual=Nk) (S:bv N ps scope)
  (len:∀vs H Q E,sp vs H Q E->vs.length=ps.length)
  (h:∀(A:NX) (outer:List Env) (s:Nm) (H:Hp) (vs:List V) (Q:VK) (E:XK),b5 k (A.deeper (envOfC qual scope s.heap.objs.size f cdv))->sp vs H Q E->
   ∃t,ec (eI CX P w K mg base N qual scope f cdv A outer s H E) body t/\t {nx:=λ_ H'=>Q .non H',rt:=Q} (start N vs) H):
  cI P w K mg base CX (k+1) f (PySem.W.fnOf name qual p body scope D kV doc pm an cdv ct) ps sp:=by
 refine⟨len,λA outer s H m W vs Q E l g C r i=>?_⟩;have M:=len _ _ _ _ i;have KX:=g.mod.kin.keeps λb o e=>(g.bs b o e).1;have L:=g.mod.nolimit.keeps λb o e=>(g.bs b o e).1
 have c:∀y∈ps.zip W,scope.names.lookup y.1=some _\/(scope.names.lookup y.1=some _/\((cellsFrom (s.heap.objs.size+1) _ []).lookup y.1).isSome=Nk):=λZ U=>by obtain⟨n,v⟩:=Z;exact(by
  rcases S.par n (Ps U).1 with q|q
  ·exact .inl q
  ·exact .inr ⟨q,PySem.W.cellsFrom_some _ _ _ (.inl q)⟩)
 refine Tj l.depth (KX _ _ lk) rfl S.co S.gen rfl (PySem.W.codeRec_of KX j) (C _ _ _ _ ?_);refine R7 S.kind c λB G s1 x=>?_;subst G;refine⟨L.keeps x.toInCall.keep,codeAny_func ?_⟩;obtain⟨t,T,O⟩:=h A _ s H _ Q E (l.deeper _) i;have I:Inv (eI CX P w K _ _ N _ _ f _ A _ s H E) _ _ H _:=za S l.hd g M r x;refine ZJ (T _ _ _ H _ I O) (λF z d=>?_) λe z d=>d
 have fin:∀{a:St} {H':Hp} {v:V} {u:Np},Inv (eI CX P w K mg base N qual scope f cdv A _ s H E) [] a _ _->RelV v u->Q v H'->CE outer P w H s Q u z:=
  λ{a H' v u} J R q=>⟨v,_,J.os,J.bare,J.base,J.hok,R,q⟩
 cases F with
 |ret u=>obtain⟨v,a,H',J,R,q⟩:=d;exact fin J R q
 |next=>obtain⟨a,H',J,q⟩:=d;exact fin (v:=V.non) J rfl q
 |brk=>obtain⟨_,_,_,q⟩:=d;simp_all
 |cont=>obtain⟨_,_,_,q⟩:=d;simp_all
section
variable {X:Cx}{x:Str}{p pos:Pos}{es:Lx}{t:TA}{id T:String}{r:List V->Hp->VK->Prop}
noncomputable def Gz(r:List V->Hp->VK->Prop)(t:TA):TE:=λσ H Q=>t σ H λvs H1=>r vs H1 Q
theorem tm(f:a9 X (.builtin id) r)(i:Gl X x)(j:X.mg x=none)(l:bootBuiltins x=some (.builtin id))(d:PA X (e::es) t)(k:x≠"__name__":=by decide)(a:(x==("__debug__":Str))=Nl:=by decide)
  (g:starEach (e::es) X.env=(Nl,eval e X.env)::starEach es X.env:=by rfl) (b:(backTo pos (starEach es X.env)).any (·.1)=Nl:=by rfl):PE X (.Call (.Name x p) (e::es) [] pos) (Gz r t):=by
 intro P s m H Q I h;exact Og (f8 I i j l (Qt (aO (d _ _ s _ H _ I h) λu S z=>by obtain⟨_,_,c,R,q⟩:=z;exact(f _ _ _ _ _ _ Q c R q)) g b) k a)
theorem mz(f:a9 X (.type T) r)(i:Gl X x)(j:X.mg x=none)(l:bootBuiltins x=some (.type T))(d:PA X (e::es) t)(k:x≠"__name__":=by decide)(a:(x==("__debug__":Str))=Nl:=by decide)
  (g:starEach (e::es) X.env=(Nl,eval e X.env)::starEach es X.env:=by rfl) (b:(backTo pos (starEach es X.env)).any (·.1)=Nl:=by rfl):PE X (.Call (.Name x p) (e::es) [] pos) (Gz r t):=by
 intro P s m H Q I h;exact Og (f8 I i j l (N1 (aO (d _ _ s _ H _ I h) λu S ⟨_,_,c,R,q⟩=>f _ _ _ _ _ _ Q c R q) g b) k a)
end
end L2
namespace HT
section
open PySem.SeqAt
open PySem.AutoSeq1 (wpAny_loadPart')
open PySem.MeetsSeq PySem.MeetsSeq2 PySem.MeetsSeq3
end
theorem mB{t b:Nn}{vs W:Lv}(l:R6 s.heap t vs.toArray)(g:R6 s.heap b W.toArray)(p:vs≠[])
  (h1:W=[]->Q (.ref t) s) (o:W≠[]->Q (.ref s.heap.objs.size) {s with heap:=s.heap.push {cls:=.type "tuple",data:=.seq (vs++W).toArray}})
  (k:vs.length+W.length<=sizeLine):wpAny (model prog w) A (binaryOp .Add (.ref t) (.ref b)) Q E s:=by
 obtain⟨⟨cls,m,d,sl⟩,H,i,n,j⟩:=id l;obtain⟨⟨C,f,D,S⟩,h,a,N,c⟩:=id g;subst i j a c;by_cases hw:W=[]
 ·exact SW ⟨_,H,rfl⟩ ⟨_,h,rfl⟩ Rx Su PySem.F.slot_tuple_add PySem.F.entry_tuple_add (PySem.F.args_tuple_add_2 _ _)
   (tuple_addW1 t b _ _ n _ _ _ _ _ (by simp_all) (by simp_all)) ⟨H,h,h1 hw⟩
 ·refine SW ⟨_,H,rfl⟩ ⟨_,h,rfl⟩ Rx Su PySem.F.slot_tuple_add PySem.F.entry_tuple_add (PySem.F.args_tuple_add_2 _ _)
   (tuple_addW2 t b _ _ n _ _ _ _ _ (by simp_all) (by simp_all) (by simp_all)) ⟨H,h,?_⟩
  simp_all
noncomputable def bB(n d:Nat):Option Int->Nat
 |none=>d
 |some v=>if v<0 then(v+(n:Int)).toNat else min v.toNat n
theorem mC(n d k:Nat):bB n d (some (k:Int))=min k n:=rfl
theorem tq(n d:Nat)(h:d<=n)(o:Option Int):bB n d o<=n:=by
 cases o with
 |none=>exact h
 |some v=>
  show(if v<0 then(v+n).toNat else min _ n)<=n
  grind
theorem zb(v:Int)(n d:Nat):(if v<0 then max (v+(n:Int)) 0 else min v (n:Int))=((bB n d (some v):Nat):Int):=by
 show(if v<0 then max _ 0 else min v _)=((if v<0 then(v+(n)).toNat else min _ n):Nat)
 grind
theorem GA(l h:Option Int)(n:Nat):OA l h 1 (n:Int)=(((bB n 0 l:Nat):Int),((bB n n h:Nat):Int)):=by
 refine Prod.ext ?_ ?_
 ·cases l with
  |none=>rfl
  |some v=>exact zb v n 0
 ·cases h with
  |none=>rfl
  |some v=>exact zb v n n
theorem GB(i j:Nat):NM (i:Int) (j:Int) 1=j-i:=by
 unfold NM;have h:(1:Int)>0:=by omega
 rw[if_pos h];exact L2.yr i j
theorem tr{v:Np}{o:Option Int}{Q:Option Int->Nm->Prop}(p:Qh v o)(h:Q o s):wpAny (model prog w) A (Builtin.Slice.slicePartIndex v) Q E s:=by
 cases p with
 |none=>exact slicePart_none h
 |int i t=>exact slicePart_int h
theorem zc{Q:Int×Int×Nat->Nm->Prop}(hs:s.heap.IsSliceOf sl vl vu .none)(pl:Qh vl lo)(p:Qh vu hi)
  (h:Q (((bB n 0 lo:Nat):Int),1,bB n n hi-bB n 0 lo) s):wpAny (model prog w) A (QI (.ref sl) (pure (n:Int))) Q E s:=by
 obtain⟨o,a,b,H⟩:=id hs;refine Za (Za (Z3 a H rfl (Za (Z3 a H rfl (Za (Z3 a H rfl (Zd ?_)))))));refine Za (slicePart_none ?_);refine Za (tr pl (Za (tr p (Za (Zd ?_)))));show wpAny _ _ (match OA _ _ 1 n with| (lo,hi)=>pure (lo,(1:Int),NM lo hi 1)) _ _ s;rw[GA _ _ n];show wpAny _ _ (pure _) _ _ s;rw[GB];exact Zd h
theorem GC(xs:Av)(i k:Nat):((Nt k).filterMap λ(m:Nat)=>xs[((i:Int)+(m:Int)*1).toNat]?).toArray=((xs.toList.drop i).take k).toArray:=by
 have e:(λ(m:Nat)=>xs[((i:Int)+m*1).toNat]?)=λm=>xs[i+m]? :=by grind
 have:=pick_run xs i k;have E:((λx=>xs[x]?)∘λx=>i+x)=λm=>xs[i+m]? :=rfl;simp_all
theorem GD{t:Nn}(a:R6 s.heap t items)(hs:s.heap.IsSliceOf sl vl vu .none)(pl:Qh vl lo)(p:Qh vu hi)
  (hw:¬(bB items.size 0 lo=0/\bB items.size items.size hi=items.size))
  (h:Q (.ref s.heap.objs.size) {s with heap:=s.heap.push {cls:=.type "tuple",data:=.seq ((items.toList.drop (bB items.size 0 lo)).take (bB items.size items.size hi-bB items.size 0 lo)).toArray}})
  (f:items.size<=sizeLine):wpAny (model prog w) A (getItem (.ref t) (.ref sl)) Q E s:=by
 have H:sizeOk (.seq ((items.toList.drop (bB items.size 0 lo)).take (bB items.size items.size hi-bB items.size 0 lo)).toArray):=by show((items.toList.drop (bB items.size 0 lo)).take (bB items.size items.size hi-bB items.size 0 lo)).toArray.size<=sizeLine;rw[Zv,NV,P9,ZI];exact ZD (Nat.min_le_right _ _) (ZD (Nat.sub_le _ _) f)
 have j:bB items.size items.size hi<=items.size:=tq _ _ (Zh _) hi;obtain⟨o,e,c,i⟩:=id hs;have b:s.TypeIs (.ref sl) "slice":=⟨o,e,c⟩;unfold getItem
 try with_reducible refine ZE ?_
 first|refine Za (Zd ?_)|skip
 refine Za (Rk a.typeIs (by decide) ?_)
 refine Za (Z1 (name:=Ol "__getitem__") a.typeIs Yg
  (Z0 Yg a.typeIs QX ?_ (Q8 _ _)))
 show wpAny _ _ (Pe (.ref t)>>=_) _ _ s;refine Za (Sv a ?_);refine Za (OW b ?_);rw[if_pos (by decide)];refine Za (zc hs pl p ?_);have d:¬((((bB items.size 0 lo:Nat):Int)==0&&(1:Int)==1&&(bB items.size items.size hi-bB items.size 0 lo)==items.size)=Nk):=by intro q;rw[ZN,ZN]at q;have k:((bB items.size 0 lo:Nat):Int)=0:=Zx q.1.1;have l:bB items.size items.size hi-bB items.size 0 lo=items.size:=Zx q.2;exact hw ⟨by omega,by omega⟩
 show wpAny _ _ (if(((bB items.size 0 lo:Nat):Int)==0&&(1:Int)==1&&(bB items.size items.size hi-bB items.size 0 lo)==items.size)=Nk then _ else _) _ _ s;rw[if_neg d,GC]
 first
  |exact Za (m:=OE _) (ZS (Zd ⟨_,rfl,Zd h⟩) H)
  |exact Za (m:=OE _) (ZS (Za (Zd (Zd ⟨_,rfl,Zd h⟩))) H)
  |exact Za (Za (m:=OE _) (ZS (Zd (Zd ⟨_,rfl,Zd h⟩)) H))
  |exact Za (Za (m:=OE _) (ZS (Zd ⟨_,rfl,Zd h⟩) H))
end HT
namespace L2
abbrev TO:=St->Hp->(Option Int->Hp->Prop)->Prop
def PO(X:Cx)(e:Option Expr)(t:TO):Prop:=
 ∀(pq:Lp) (s:Nm) (σ:St) (H:Hp) (Q:Option Int->Hp->Prop),Inv X pq σ H s->t σ H Q->
  wpAny (model X.prog X.w) X.A (evalPart e X.env) (λu s'=>∃o H',Inv X pq σ H' s'/\Qh u o/\Q o H') X.xe s
noncomputable def mD:TO:=λ_ H Q=>Q none H
noncomputable def zd(t:TE):TO:=λσ H Q=>t σ H λx H1=>∃i,x=.int i/\Q (some i) H1
theorem GF:∀{us:Lv},Vals (ns.map V.int) us->QT us ns:=by
 induction ns with
 |nil=>intro us r;cases r;exact .nil
 |cons n ns i=>
  intro us r;cases r with
  |cons R a=>obtain⟨t,e⟩:=R;subst e;exact .cons n t (i a)
section
variable {X:Cx}{te:TE}{lo hi:Option Expr}{tl th:TO}{pos:Pos}
theorem mE:PO X none mD:=by intro p s a H Q I h;exact Zd ⟨_,H,I,.none,h⟩
theorem mF(h:PE X e te):PO X (some e) (zd te):=by intro p s c H Q I hw;refine aO (h _ s _ H _ I hw) λu S z=>?_;obtain⟨x,_,a,r,b⟩:=z;obtain⟨i,rfl,q⟩:=b;obtain⟨t,rfl⟩:=r;exact⟨_,_,a,.int i t,q⟩
def Fu(X:Cx)(r:V->Option Int->Option Int->Hp->VK->Prop):Prop:=
 ∀(pq:Lp) (s:Nm) (σ:St) (H:Hp) (x:V) (v vl vu:Np) (lo hi:Option Int) (sl:Nn) (Q:VK),Inv X pq σ H s->RelV x v->s.heap.IsSliceOf sl vl vu .none->Qh vl lo->Qh vu hi->r x lo hi H Q->
  ∃T id,typeLookup (.type T) "__getitem__"=pure (some (.builtin id))/\s.TypeIs v T/\wpAny (model X.prog X.w) X.A (getItem v (.ref sl)) (EP X pq σ Q) X.xe s
noncomputable def M0(r:V->Option Int->Option Int->Hp->VK->Prop)(t:TE)(b T:TO):TE:=λσ H Q=>t σ H λx H1=>b σ H1 λl H2=>T σ H2 λu a=>r x l u a Q
theorem GG{r:V->Option Int->Option Int->Hp->VK->Prop}(n:Fu X r)(j:PE X e te)(m:PO X lo tl)(p:PO X hi th):PE X (.Subscript e (.Slice lo hi none p2) pos) (M0 r te tl th):=by intro C s F H Q I h;refine Subscript_ (aO (j _ s _ H _ I h) λv D z=>?_);obtain⟨x,_,c,R,w⟩:=z;refine wpAny_Slice (aO (m _ _ _ _ _ c w) λB E z=>z.elim λl z=>z.elim λ_ z=>z.elim λd z=>z.elim λP y=>aO (p _ _ _ _ _ d y) λvu S z=>?_);obtain⟨u,_,f,t,A⟩:=z;refine Zd ?_;have g:Inv X _ _ _ {S with heap:=S.heap.push {cls:=.type "slice",data:=.fields #[B,vu,.none]}}:=f.kept λb O q=>Zb _ q;obtain⟨T,id,i,o,k⟩:=n _ _ _ _ x v _ _ l u _ Q g R (Q_ ..) P t A;exact tail_any o i k rfl
noncomputable def iP(xs:List V)(l h:Option Int):List V:=(xs.drop (HT.bB xs.length 0 l)).take (HT.bB xs.length xs.length h-HT.bB xs.length 0 l)
theorem ze(xs:List V)(l h:Option Int):(iP xs l h).length<=xs.length:=by unfold iP;rw[NV,P9];omega
def GH(K:Fg):V->Option Int->Option Int->Hp->VK->Prop:=λx lo hi H Q=>∃a xs,x=.ref a/\b4 K H a xs/\
 ¬(HT.bB xs.length 0 lo=0/\HT.bB xs.length xs.length hi=xs.length)/\∀p,H p=none->Q (.ref p) (aP H p (.tup (iP xs lo hi)))
theorem sl_tup:Fu X (GH X.K):=by
 intro m s t H x v V n l k sl Q I R e p P h;obtain⟨a,j,rfl,f,hw,q⟩:=h;cases R;obtain⟨i,r,d,g⟩:=I.tuple f;have c:i.toArray.size=j.length:=by exact r.length.symm
 refine⟨_,_,PyProof.Rows.slot_tuple_getitem.lookup,d.typeIs,?_⟩;refine HT.GD d e p P (by lia) ?_ (by lia);rw[c];refine⟨.ref _,_,I.laid (λb o q=>Zb _ q) (Zh _) ?_,rfl,q _ (I.hok.fresh (Zh _))⟩;exact⟨ZD (ze _ _ _) g,_,(r.drop _).take _,QY _ _,qY.new _ _⟩
noncomputable def zf(K:Fg):R2:=λx y H Q=>∃a b xs ys,x=.ref a/\y=.ref b/\b4 K H a xs/\b4 K H b ys/\xs≠[]/\xs.length+ys.length<=sizeLine/\
 (ys=[]->Q (.ref a) H)/\(ys≠[]->∀p,H p=none->Q (.ref p) (aP H p (.tup (xs++ys))))
theorem Vals.nil_iff{xs:List V}(r:Vals xs us):us=[]↔xs=[]:=by
 cases r with
 |nil=>simp
 |cons _ _=>simp
theorem mG:b9 X (binaryOp .Add) (zf X.K):=by intro n s A H x y v u Q I l m h;obtain⟨a,b,t,Y,rfl,rfl,c,d,e,f,j,k⟩:=h;subst l;subst m;obtain⟨g,R,p,_⟩:=I.tuple c;obtain⟨i,r,P,_⟩:=I.tuple d;refine HT.mB p P (λz=>e (R.nil_iff.mp z)) (λz=>⟨.ref a,H,I,rfl,j (r.nil_iff.mp z)⟩) (λz=>?_) (by rw[<-R.length,<-r.length];exact f);refine⟨.ref _,_,I.laid (λb o q=>Zb _ q) (Zh _) ?_,rfl,k (λw=>z (r.nil_iff.mpr w)) _ (I.hok.fresh (Zh _))⟩;exact⟨by simp_all,_,R.append r,QY _ _,qY.new _ _⟩
end
noncomputable def iQ(n:Nat)(i:Int):Option Nat:=if 0<=i then(if i<n then some i.toNat else none)else if-(n:Int)<=i then some (i+n).toNat else none
noncomputable def hH{a:Type}(xs:List a)(i:Int):Option a:=(iQ xs.length i).bind λj=>xs[j]?
theorem tt{i:Int}{j:Nat}(h:iQ n i=some j):seqIndex? i n=some j/\j<n/\ -(n:Int)<=i/\i<n:=by
 unfold iQ at h;by_cases a:0<=i
 ·rw[if_pos a]at h;by_cases H:i<n
  ·rw[if_pos H]at h;have e:=N_ h;exact⟨by rw[seqIndex_of a H,e],by lia,by lia,H⟩
  simp_all
 ·rw[if_neg a]at h;by_cases H: -n<=i
  ·rw[if_pos H]at h;have e:=N_ h;exact⟨by rw[SX (by simp_all) H,e],by lia,H,by lia⟩
  simp_all
theorem zg{xs:List α}{i:Int}{v:α}(h:hH xs i=some v):∃j,seqIndex? i xs.length=some j/\xs[j]?=some v/\j<xs.length/\ -(xs.length:Int)<=i/\i<xs.length:=by
 unfold hH at h;cases e:iQ xs.length i with
 |none=>simp_all
 |some j=>rw[e]at h;obtain⟨H,a,b,c⟩:=tt e;exact⟨j,H,h,a,b,c⟩
def zh(b:Expr):Prop:=∀o i,subscripted b Nl o i=operate [o,i] (getItem o i)
def zk(X:Cx)(r:R2):Prop:=
 ∀(value S:Expr) (pq:Lp) (s:Nm) (σ:St) (H:Hp) (x y:V) (v u:Np) (Q:VK),Inv X pq σ H s->RelV x v->RelV y u->r x y H Q->
  subscripted S Nl v u=operate [v,u] (getItem v u)->wpAny (model X.prog X.w) X.A (subscriptTail value S v u) (EP X pq σ Q) X.xe s
def jL(X:Cx)(id:String)(r:V->List V->Hp->VK->Prop):Prop:=
 ∀(pq:Lp) (s:Nm) (σ:St) (H:Hp) (x:V) (xs:List V) (v:Np) (us:Lv) (Q:VK),Inv X pq σ H s->RelV x v->Vals xs us->r x xs H Q->
  wpAny (model X.prog X.w) X.A (call (.builtin id) (v::us)) (EP X pq σ Q) X.xe s
section
variable {X:Cx}{a b:Expr}{ta tb:TE}{pos:Pos}
theorem rk{r:R2}(f:zk X r)(d:PE X a ta)(e:PE X b tb)(hs:zh b):PE X (.Subscript a b pos) (Ft r ta tb):=by intro p s j H Q I h;exact Subscript_ (sP d e I h λv u S x y i c R g q=>f a b _ _ _ _ x y v u Q c R g q (hs _ _))
noncomputable def GI(K:Fg):R2:=λx y H Q=>∃p xs i v,x=.ref p/\y=.int i/\c8 K H p xs/\hH xs i=some v/\Q v H
noncomputable def GJ(K:Fg):R2:=λx y H Q=>∃p xs i v,x=.ref p/\y=.int i/\b4 K H p xs/\hH xs i=some v/\Q v H
theorem zl:zk X (GI X.K):=by
 intro V S F s J H x y v u Q I n o h d;obtain⟨p,G,i,z,rfl,rfl,m,k,q⟩:=h;cases n;obtain⟨t,rfl⟩:=o;obtain⟨a,r,P,D⟩:=I.list m;obtain⟨j,c,e,A,f,g⟩:=zg k;obtain⟨w,E,R⟩:=r.get e;have B:=r.length;have C:=iO;have fin:EP X _ _ Q w s:=⟨z,H,I,R,q⟩;by_cases b:0<=i
 ·have l:i.toNat=j:=by
   rw[seqIndex_of b g]at c;simp_all
  exact item_listR P.isList b (by omega) (by simp_all) fin d
 ·have l:(i+a.toArray.size).toNat=j:=by
   rw[SX (by omega) f]at c;simp_all
  exact SY P.isList.typeIs slot_list_getitem.lookup
   (wpAny_getItem_list_neg P.isList (by omega) (by simp_all) (by omega) (by simp_all) ⟨rfl,fin⟩) d
theorem tw:zk X (GJ X.K):=by
 intro V S C s F H x y v u Q I f g h d;obtain⟨p,D,i,z,rfl,rfl,c,b,q⟩:=h;cases f;obtain⟨t,rfl⟩:=g;obtain⟨e,r,P,B⟩:=I.tuple c;obtain⟨j,k,a,l,m,n⟩:=zg b;obtain⟨w,E,R⟩:=r.get a;have o:=r.length;have A:=iO;have fin:EP X _ _ Q w s:=⟨z,H,I,R,q⟩
 exact SY P.typeIs slot_tuple_getitem.lookup
  (getItem_tuple (j:=j) P (by omega) (by omega) (by simp_all) (by simp_all) ⟨rfl,fin⟩) d
theorem GK(its:Lv)(n j:Nat)(u:Np):ND (·.setIfInBounds j u) {cls:=.type "list",data:=.seq its.toArray n}={cls:=.type "list",data:=.seq (its.set j u).toArray n}:=by simp[ND]
theorem Inv.lst{σ:St}{H:Hp}{p:Nn}{xs:List V}(I:Inv X pq σ H s)(h:H p=some (.lst xs)):
  ∃(its:Lv) (n:Nat),Vals xs its/\s.heap.get? p=some {cls:=.type "list",data:=.seq its.toArray n}/\xs.length<=sizeLine:=by
 obtain⟨z,its,n,r,e⟩:=I.hok p _ h;exact⟨_,n,r,e,z⟩
theorem Inv.lstUpd{σ:St}{H:Hp}{p:Nn}{xs y:List V}{its i:Lv}{n N:Nat}{f:Obj->Obj}(I:Inv X pq σ H s)(h:H p=some (.lst xs))
  (g:s.heap.get? p=some {cls:=.type "list",data:=.seq its.toArray n}) (c:f {cls:=.type "list",data:=.seq its.toArray n}={cls:=.type "list",data:=.seq i.toArray N}) (r:Vals y i) (j:y.length<=sizeLine) (t:Nat):
  Inv X pq σ (aP H p (.lst y)) {s with heap:=s.heap.update p f,toks:=t}:=by
 have e:(s.heap.update p f).get? p=some {cls:=.type "list",data:=.seq i.toArray N}:=by rw[ZQ f g (by rw[c]<;>rfl),c]
 refine I.write (by rw[h];trivial) (.inl rfl) (λb u d q=>(ZH _ _ (Ne.symm d)).trans q) ⟨_,e⟩ ?_;exact⟨j,_,_,r,e⟩
def zm:V->V->V->Hp->(Hp->Prop)->Prop:=λo i v H Q=>∃p xs k j,o=.ref p/\i=.int k/\H p=some (.lst xs)/\iQ xs.length k=some j/\Q (aP H p (.lst (xs.set j v)))
theorem GL:sK X zm:=by
 intro P s F H o i v O D u Q I x R y h;obtain⟨p,E,k,j,rfl,rfl,g,w,q⟩:=h;cases x;obtain⟨t,rfl⟩:=R;obtain⟨c,n,r,b,C⟩:=I.lst g;obtain⟨f,z,l,m⟩:=tt w;have A:=r.length;have B:=iO
 have d:=
  I.lstUpd g b (GK _ n j u) (r.set y j) (by simp_all) s.toks
 by_cases e:0<=k
 ·have a:k.toNat=j:=by
   rw[seqIndex_of e m]at f;simp_all
  exact PySem.W.ki_setAt b e (by omega) (by simp_all) (by rw[a];exact⟨_,d,q⟩)
 ·have a:(k+c.toArray.size).toNat=j:=by
   rw[SX (by omega) l]at f;simp_all
  exact PySem.W.ki_setBack b (by omega) (by simp_all) (by omega) (by rw[a];exact⟨_,d,q⟩)
theorem GN(l H:Option Int)(n:Nat):(sliceBounds l H none n).1=((HT.bB n 0 l:Nat):Int)/\(sliceBounds l H none n).2.1=((HT.bB n n H:Nat):Int)/\(sliceBounds l H none n).2.2=1:=by
 refine⟨?_,?_,rfl⟩
 ·cases l with
  |none=>simp[sliceBounds,HT.bB]
  |some i=>
   simp only[sliceBounds,HT.bB,SI,show(1:Int)>0 by decide,if_true];by_cases h:i<0
   ·simp only[h,if_true];exact jS n h
   ·simp only[h,Z6];exact jR n h
 ·cases H with
  |none=>simp[sliceBounds,HT.bB]
  |some i=>
   simp only[sliceBounds,HT.bB,SI,show(1:Int)>0 by decide,if_true];by_cases h:i<0
   ·simp only[h,if_true];exact jS n h
   ·simp only[h,Z6];exact jR n h
theorem GO(its:Lv)(l h:Option Int):slicePick its.toArray l h none=((its.drop (HT.bB its.length 0 l)).take (HT.bB its.length its.length h-HT.bB its.length 0 l)).toArray:=by obtain⟨H,a,b⟩:=GN _ _ _;unfold slicePick;rw[H,a,b];simp only[sliceRange_one,pick_run]<;>rfl
def GP(K:Fg):V->Option Int->Option Int->Hp->VK->Prop:=λx lo hi H Q=>∃a xs,x=.ref a/\c8 K H a xs/\∀p,H p=none->Q (.ref p) (aP H p (.lst (iP xs lo hi)))
theorem mH:Fu X (GP X.K):=by intro k s t H x v V m l j sl Q I R e p P h;obtain⟨a,n,rfl,f,q⟩:=h;subst R;obtain⟨i,r,d,g⟩:=I.list f;have c:=r.length;refine⟨_,_,slot_list_getitem.lookup,d.isList.typeIs,?_⟩;refine wpAny_getItem_list_slice d.isList e p P .none (by decide) ?_ (by simp_all);rw[GO,<-c];refine⟨.ref _,_,I.laid (λb o q=>Zb _ q) (Zh _) ?_,rfl,q _ (I.hok.fresh (Zh _))⟩;exact⟨ZD (ze _ _ _) g,_,0,(r.drop _).take _,Zk _ rfl⟩
theorem GQ:a9 X (.builtin "len") (λxs H Q=>∃p ys,xs=[.ref p]/\(c8 X.K H p ys\/b4 X.K H p ys)/\Q (.int ys.length) H):=by
 intro f s g H xs U Q I r h;obtain⟨p,ys,rfl,b,q⟩:=h;obtain⟨u,rfl,d⟩:=vals1 r;cases d;have e:=iO;rcases b with b|b
 ·obtain⟨i,R,P,c⟩:=I.list b;have a:=R.length;exact Calls.call_len_list P.isList (by grind) ⟨.int _,H,I.tok _,⟨s.toks+1,by simp_all⟩,q⟩
 ·obtain⟨i,R,P,c⟩:=I.tuple b;have a:=R.length;exact len_tuple P (by grind) ⟨.int _,H,I.tok _,⟨s.toks+1,by simp_all⟩,q⟩
theorem GR:a9 X (.builtin "len") (λxs H Q=>∃z,xs=[.str z]/\z.length<=sizeLine/\Q (.int z.length) H):=by intro p s c H xs U Q I r h;obtain⟨z,rfl,b,q⟩:=h;obtain⟨u,rfl,t,rfl⟩:=vals1 r;have a:=iO;exact len_str (by lia) ⟨.int _,H,I.tok _,⟨_,rfl⟩,q⟩
theorem GU:a9 X (.type "list") (λxs H Q=>∃p ys,xs=[.ref p]/\(c8 X.K H p ys\/b4 X.K H p ys)/\∀l,H l=none->Q (.ref l) (aP H l (.lst ys))):=by
 intro v s w H xs U Q I r h;obtain⟨p,ys,rfl,d,q⟩:=h;obtain⟨u,rfl,t⟩:=vals1 r;subst t
 have fin:∀(i:List _),Vals _ i->ys.length<=sizeLine->∀(a:Ny) (C:Nat),(∀b O,s.heap.get? b=some _->a.get? b=some _)->
   a.get? _=some _->EP X _ _ Q _ _:=λi R f a C k e=>
  ⟨.ref _,_,I.laid (t':=s.toks) k (Zh _) (show aQ _ _ _ _ _ (.lst _)from⟨f,_,C,R,e⟩),rfl,q _ (I.hok.fresh (Zh _))⟩
 rcases d with d|d
 ·obtain⟨i,R,P,f⟩:=I.list d;have c:=R.length;obtain⟨o,m,g,n,j⟩:=P.isList;exact call_list_seq p (.inl rfl) m g j (λa C k e=>fin _ R f _ _ k e) (by simp_all)
 ·obtain⟨i,R,P,f⟩:=I.tuple d;have c:=R.length;obtain⟨o,m,g,n,j⟩:=P;exact call_list_seq p (.inr rfl) m g j (λa C k e=>fin _ R f _ _ k e) (by simp_all)
theorem zn:a9 X (.type "tuple") (λxs H Q=>∃p ys,xs=[.ref p]/\((c8 X.K H p ys/\∀l,H l=none->Q (.ref l) (aP H l (.tup ys)))\/(b4 X.K H p ys/\Q (.ref p) H))):=by
 intro n s v H xs U Q I r h;obtain⟨p,ys,rfl,h⟩:=h;obtain⟨u,rfl,j⟩:=vals1 r;subst j;rcases h with⟨a,q⟩| ⟨a,q⟩
 ·obtain⟨i,R,P,f⟩:=I.list a;have d:=R.length;refine call_tuple_list P.isList (λm k=>?_) (by simp_all);have c:=I.kept (t':=s.toks) k
  have g:=
   c.laid (t':=s.toks) (λb o e=>Zb _ e) (Zh _) (show aQ _ _ _ _ _ (.tup _)from⟨f,_,R,QY _ _,qY.new _ _⟩)
  exact⟨.ref _,_,g,rfl,q _ (c.hok.fresh (Zh _))⟩
 ·obtain⟨i,R,P,f⟩:=I.tuple a;exact call_tuple_same P ⟨.ref p,H,I,rfl,q⟩
def zo(K:Fg)(T:String)(x:V)(H:Hp):Prop:=match x with
 | .str _=>T="str"
 | .int _=>T="int"
 | .ref p=>(T="list"/\∃xs,c8 K H p xs)\/(T="tuple"/\∃o,K.lookup p=some o/\o.cls=.type "tuple"/\o.dict=none)\/
   (T="dict"/\((∃k,H p=some (.dK k))\/∃k,H p=some (.dT k)))\/(T="set"/\∃S n,H p=some (.set S n))
 |_=>False
theorem j8{σ:St}{H:Hp}{T:String}{x:V}{v:Np}(I:Inv X pq σ H s)(r:RelV x v)(ty:zo X.K T x H):
  s.TypeIs v T/\∀a,v=.ref a->∃ob,s.heap.get? a=some ob/\ob.dict=none:=by
 cases x with
 |str z=>
  obtain⟨t,rfl⟩:=r;cases show T="str" from ty
  exact⟨typeIs_str s z t,λ_ e=>nomatch e⟩
 |int i=>
  obtain⟨t,rfl⟩:=r;cases show T="int" from ty
  exact⟨typeIs_int s i t,λ_ e=>nomatch e⟩
 |ref p=>
  cases r;rcases ty with⟨rfl,l,g⟩| ⟨rfl,o,h,f,d⟩| ⟨rfl,h⟩| ⟨rfl,S,n,h⟩
  ·obtain⟨j,_,P,_⟩:=I.list g;refine⟨P.isList.typeIs,λa e=>?_⟩;obtain⟨o,n,e,c,d,_⟩:=P;simp_all
  ·refine⟨⟨o,I.kIn p o h,f⟩,λa e=>?_⟩;cases e;exact⟨o,I.kIn _ o h,d⟩
  ·have z:∃o,s.heap.get? p=some o/\o.ExactDict:=by
    rcases h with⟨k,h⟩| ⟨k,h⟩
    ·obtain⟨_,_,_,_,o,_,_,e,E,_⟩:=I.hok p _ h;simp_all
    ·obtain⟨_,_,_,_,o,_,_,e,E,_⟩:=I.hok p _ h;simp_all
   obtain⟨o,e,E⟩:=z;refine⟨⟨o,e,E.1⟩,λa b=>?_⟩;cases b;exact⟨o,e,E.2.1⟩
  ·obtain⟨o,_,_,_,e,E,_⟩:=I.hok p _ h;refine⟨⟨o,e,E.1⟩,λa b=>?_⟩;cases b;exact⟨o,e,E.2.1⟩
 |_=>exact False.elim ty
noncomputable def GV(K:Fg)(T:String)(r:V->List V->Hp->VK->Prop)(to:TE):TE:=λσ H Q=>to σ H λx H1=>zo K T x H1/\r x [] H1 Q
noncomputable def Mp(K:Fg)(T:String)(r:V->List V->Hp->VK->Prop)(to:TE)(t:TA):TE:=λσ H Q=>to σ H λx H1=>zo K T x H1/\t σ H1 λxs H2=>r x xs H2 Q
variable {o:Expr}{es:Lx}{to:TE}{t:TA}{T id:String}{r:V->List V->Hp->VK->Prop}
theorem tx(p:PlainAttrs T)(S:Slot T name id)(c:typeOf (.builtin id)=pure (.type "method_descriptor"))(g:jL X id r)(i:PE X o to)
  (a:attributeBase o name X.env (eval o X.env)=eval o X.env:=by rfl) (b:(apos.endLine==cpos.line)=Nk:=by rfl):PE X (.Call (.Attribute o name apos) [] [] cpos) (GV X.K T r to):=by
 intro P s k H Q I h;refine wpAny_Call_method0_late a b (aO (i _ s _ H _ I h) λv j z=>?_);obtain⟨x,_,d,R,ty,q⟩:=z;obtain⟨e,f⟩:=j8 d R ty;exact⟨T,_,p,S,c,e,f,O2 rfl (PySem.evalArgs_none (g _ _ _ _ x _ v _ Q d R .nil q))⟩
theorem rm(P:PlainAttrs T)(S:Slot T name id)(f:typeOf (.builtin id)=pure (.type "method_descriptor"))(n:jL X id r)(p:PE X o to)(m:PA X (e::es) t)
  (a:attributeBase o name X.env (eval o X.env)=eval o X.env:=by rfl)
  (c:((backTo cpos (starEach (e::es) X.env)).all (λx=> !x.1)&&(backToKw cpos (keywordEach [] X.env)).all (λx=>x.1.isSome)
   &&decide ((e::es).length+([]:List QR).length+(if([]:List QR).isEmpty then 0 else 1)<30))=Nk:=by rfl)
  (b:(apos.endLine==cpos.line)=Nk:=by rfl) (hs:starEach (e::es) X.env=(Nl,eval e X.env)::starEach es X.env:=by rfl) (d:(backTo cpos (starEach es X.env)).any (·.1)=Nl:=by rfl):
  PE X (.Call (.Attribute o name apos) (e::es) [] cpos) (Mp X.K T r to t):=by
 intro y s C H Q I h;refine QA a c b rfl (aO (p _ s _ H _ I h) λv A z=>?_);obtain⟨x,_,g,R,ty,q⟩:=z;obtain⟨k,l⟩:=j8 g R ty;refine⟨T,_,P,S,f,k,l,?_⟩;have i:=m cpos _ _ _ _ _ g q;rw[hs]at i⊢;exact O2 (by assumption) (Pn (aO i λU B z=>by obtain⟨_,_,j,w,u⟩:=z;exact(n _ _ _ _ x _ v _ Q j R w u)))
end
def Fv(X:Cx)(id:String)(r:V->List V->Hp->VK->Prop):Prop:=
 ∀(pq:Lp) (s:Nm) (σ:St) (H:Hp) (x:V) (xs:List V) (v:Np) (us:Lv) (Q:VK),Inv X pq σ H s->RelV x v->Vals xs us->r x xs H Q->
  wpAny (model X.prog X.w) X.A (call (.builtin id) (v::us)) (EP X pq σ Q) X.xe s
theorem Vals.un{x:V}{xs:List V}(h:Vals (x::xs) us):∃u r,us=u::r/\RelV x u/\Vals xs r:=by
 cases h with
 |cons r t=>lia
theorem Vals.nul(h:Vals [] us):us=[]:=by cases h;rfl
theorem Vals.one{x:V}(h:Vals [x] us):∃u,us=[u]/\RelV x u:=by obtain⟨u,r,rfl,a,H⟩:=h.un;cases H.nul;lia
theorem Vals.two{x y:V}(h:Vals [x,y] us):∃u v,us=[u,v]/\RelV x u/\RelV y v:=by obtain⟨u,r,rfl,a,H⟩:=h.un;obtain⟨v,rfl,b⟩:=H.one;lia
theorem Vals.zero:∀{us:Lv},Vals [] us->us=[]
 |_,.nil=>rfl
theorem Vals.dropLast{xs:List V}(h:Vals xs us):Vals xs.dropLast us.dropLast:=by
 induction h with
 |nil=>exact .nil
 |cons r t i=>
  cases t with
  |nil=>exact .nil
  |cons q T=>exact .cons r i
theorem Vals.eraseIdx:∀{xs:List V} {us:Lv} (i:Nat),Vals xs us->Vals (xs.eraseIdx i) (us.eraseIdx i)
 |_,_,_,.nil=>.nil
 |_,_,0,.cons _ t=>t
 |_,_,i+1,.cons r t=>.cons r (Vals.eraseIdx i t)
theorem Vals.reverse{xs:List V}(h:Vals xs us):Vals xs.reverse us.reverse:=by
 induction h with
 |nil=>exact .nil
 |cons r t i=>rw[PZ,PZ];exact Vals.append i (.cons r .nil)
theorem Vals.rep{xs:List V}(h:Vals xs us):∀k:Nat,Vals (Nw k xs).flatten (Nw k us).flatten
 |0=>.nil
 |k+1=>by exact Vals.append h (Vals.rep h k)
theorem zp{a:Type}:∀(l:List a) (i:Nat),(l.eraseIdx i).length<=l.length
 | [],_=>Zh _
 |_::_,0=>Sw _
 |_::r,i+1=>Nat.succ_le_succ (zp r i)
theorem zr(its:Lv):∀(k:Nat) (acc:Lv),
  List.foldl (λx1 x2=>x1++x2) acc.toArray (Nw k its.toArray)=(acc++(Nw k its).flatten).toArray
 |0,acc=>by simp
 |k+1,acc=>by
  have e:acc.toArray++its.toArray=(acc++its).toArray:=by simp
  have E:acc++its++(Nw k its).flatten=acc++(Nw (k+1) its).flatten:=by grind
  rw[<-E,<-zr _ k _,<-e,QD,Qi]
section
variable {X:Cx}{σ:St}{H:Hp}{l b:Nn}{xs ys zs:List V}
theorem Inv.lset{its i:Lv}{n:Nat}{f:Av->Av}{t':Nat}(I:Inv X pq σ H s)(a:H l=some (.lst xs))
  (e:s.heap.get? l=some {cls:=.type "list",data:=.seq its.toArray n}) (c:f its.toArray=i.toArray) (g:Vals ys i) (j:ys.length<=sizeLine):
  Inv X pq σ (aP H l (.lst ys)) {s with heap:=s.heap.update l (ND f),toks:=t'}:=by
 have q:=PySem.IsL.update e f;rw[c]at q;refine I.write (by rw[a];exact trivial) (.inl rfl) (λB u b d=>(ZH _ _ (Ne.symm b)).trans d) ⟨_,q⟩ ?_;exact⟨j,_,_,g,q⟩
theorem Inv.lnew{t':Nat}(I:Inv X pq σ H s)(a:Vals ys its)(b:ys.length<=sizeLine):
  Inv X pq σ (aP H s.heap.objs.size (.lst ys)) {s with heap:=s.heap.push {cls:=.type "list",data:=.seq its.toArray},toks:=t'}:=
 I.laid (λ_ _ q=>Zb _ q) (Zh _) ⟨b,_,0,a,Zk _ rfl⟩
theorem Inv.fresh(I:Inv X pq σ H s):H s.heap.objs.size=none:=I.hok.fresh (Zh _)
theorem Inv.lstM(I:Inv X pq σ H s)(h:H l=some (.lst xs)):xs.length<=sizeLine/\∃(its:Lv) (n:Nat),Vals xs its/\xs.length=its.length/\s.heap.get? l=some {cls:=.type "list",data:=.seq its.toArray n}:=by obtain⟨z,its,n,r,e⟩:=I.hok l _ h;exact⟨z,_,n,r,r.length,e⟩
theorem zt(h:n<=sizeLine):Pt n=Nl:=by exact ZG (by omega)
end
section
variable {X:Cx}
def mI:V->List V->Hp->VK->Prop:=λx vs H Q=>∃l xs y,x=.ref l/\vs=[y]/\H l=some (.lst xs)/\xs.length<sizeLine/\Q .non (aP H l (.lst (xs++[y])))
theorem zu:Fv X "list.append" mI:=by intro p s j H x vs v U Q I c b h;obtain⟨l,g,y,rfl,rfl,a,f,q⟩:=h;cases c;obtain⟨u,rfl,R⟩:=b.one;obtain⟨z,i,n,r,d,e⟩:=I.lstM a;refine O_ F.slot_list_append ⟨_,e,rfl⟩ F.entry_list_append (F.args_list_append_2 _ _) (PySem.list_append l _ n u (by simp_all)) ⟨e,?_⟩;refine⟨.non,_,I.lset a e (by simp) (r.append (.cons R .nil)) ?_,rfl,q⟩;rw[Zn,Pf];omega
def mJ:V->List V->Hp->VK->Prop:=λx vs H Q=>∃l b xs zs,x=.ref l/\vs=[.ref b]/\H l=some (.lst xs)/\H b=some (.lst zs)/\xs.length+zs.length<=sizeLine/\Q .non (aP H l (.lst (xs++zs)))
theorem GW:Fv X "list.extend" mJ:=by
 intro P s A H x vs v U Q I o m h;obtain⟨l,b,w,y,rfl,rfl,f,g,t,q⟩:=h;cases o;obtain⟨u,rfl,k⟩:=m.one;cases k;obtain⟨z,c,n,r,p,e⟩:=I.lstM f;obtain⟨Z,i,N,R,j,E⟩:=I.lstM g;have d:c.toArray.size+i.toArray.size<=sizeLine:=by simp_all
 have a:¬(!c.toArray.isEmpty&&Pt (c.toArray.size+i.toArray.size))=Nk:=by rw[zt d];simp_all
 refine O_ F.slot_list_extend ⟨_,e,rfl⟩ F.entry_list_extend (F.args_list_extend_2 _ _)
  (AutoSeq1.list_extend_list_list_0 l _ n b _ _ a (by lia) (by omega)) ⟨e,E,?_⟩
 refine⟨.non,_,I.lset f e (by simp) (r.append R) ?_,rfl,q⟩;simp_all
def GX:V->List V->Hp->VK->Prop:=λx vs H Q=>∃l xs y,x=.ref l/\vs=[]/\H l=some (.lst xs)/\xs[xs.length-1]?=some y/\Q y (aP H l (.lst xs.dropLast))
theorem tz:Fv X "list.pop" GX:=by
 intro p s o H x vs v U Q I g f h;obtain⟨l,m,y,rfl,rfl,c,d,q⟩:=h;cases g;have a:=f.zero;subst a;obtain⟨z,i,n,r,j,e⟩:=I.lstM c;obtain⟨u,k,R⟩:=r.get d;have b:i.toArray[i.toArray.size-1]?=some u:=by simp_all
 refine O_ F.slot_list_pop ⟨_,e,rfl⟩ F.entry_list_pop (F.args_list_pop_1 _) (MeetsSeq.list_pop_last l _ n u b (by simp_all)) ⟨e,?_⟩;refine⟨y,_,I.lset c e ?_ r.dropLast ?_,R,q⟩
 ·simp_all
 ·rw[List.length_dropLast];omega
def tD:V->List V->Hp->VK->Prop:=λx vs H Q=>∃l xs i k y,x=.ref l/\vs=[.int i]/\H l=some (.lst xs)/\ -(2^63)<=i/\i<2^63/\seqIndex? i xs.length=some k/\xs[k]?=some y/\Q y (aP H l (.lst (xs.eraseIdx k)))
theorem GY:Fv X "list.pop" tD:=by
 intro P s B H x vs v U Q I m j h;obtain⟨l,o,i,k,y,rfl,rfl,a,b,c,p,d,q⟩:=h;cases m;obtain⟨u,rfl,g⟩:=j.one;obtain⟨t,rfl⟩:=g;obtain⟨z,f,n,r,A,e⟩:=I.lstM a;obtain⟨w,hw,R⟩:=r.get d
 refine O_ F.slot_list_pop ⟨_,e,rfl⟩ F.entry_list_pop (F.args_list_pop_2 _ _)
  (MeetsSeq.list_pop_at l _ n i t k w (fitsIndex_both b c) (by simp_all) (by simp_all) (by simp_all)) ⟨e,?_⟩
 refine⟨y,_,I.lset a e ?_ (r.eraseIdx k) ?_,R,q⟩
 ·simp_all
 ·have:=zp o k;omega
noncomputable def GZ:R2:=λx y H Q=>∃l b xs zs,x=.ref l/\y=.ref b/\H l=some (.lst xs)/\H b=some (.lst zs)/\xs.length+zs.length<=sizeLine/\∀p,H p=none->Q (.ref p) (aP H p (.lst (xs++zs)))
theorem mK:b9 X (binaryOp .Add) GZ:=by
 intro p s A H x y v u Q I j k h;obtain⟨l,b,t,w,rfl,rfl,f,d,o,q⟩:=h;subst j;subst k;obtain⟨z,a,n,r,m,e⟩:=I.lstM f;obtain⟨Z,i,N,R,g,E⟩:=I.lstM d;refine PySem.P.add_list e E ?_ (by simp_all);have c:a.toArray++i.toArray=(a++i).toArray:=by simp
 rw[c];exact⟨.ref _,_,I.lnew (r.append R) (by simp_all),rfl,q _ I.fresh⟩
noncomputable def G1:R2:=λx y H Q=>∃l k xs,x=.ref l/\y=.int k/\H l=some (.lst xs)/\ -(2^63)<=k/\k<2^63/\xs.length*k.toNat<=sizeLine/\
 ∀p,H p=none->Q (.ref p) (aP H p (.lst (Nw k.toNat xs).flatten))
theorem mL(xs:List α)(k:Nat):(Nw k xs).flatten.length=k*xs.length:=by simp_all
theorem tF:b9 X (binaryOp .Mult) G1:=by
 intro P s J H x y v u Q I R A h;obtain⟨l,k,G,rfl,rfl,p,j,o,w,q⟩:=h;cases R;obtain⟨t,rfl⟩:=A;obtain⟨z,i,n,r,D,e⟩:=I.lstM p;have f:i.toArray.size*k.toNat<=sizeLine:=by simp_all
 have c:¬i.toArray.size*k.toNat>(2^63-1)/8:=by
  have:(sizeLine)<=(2^63-1)/8:=by decide
  omega
 have d:¬(!Builtin.List.listFitsIndex k)=Nk:=by rw[fitsIndex_both j o];simp_all
 have b:¬Pt (i.toArray.size*k.toNat)=Nk:=by rw[zt f];simp_all
 have g:List.foldl (λB C=>B++C) #[] (Nw (if i.toArray.isEmpty=Nk then 0 else k.toNat) i.toArray)=(Nw k.toNat i).flatten.toArray:=by
  have f0:=λm=>by have:=zr i m [];omega
  cases i with
  |nil=>simp
  |cons a E=>simp_all
 refine wpAny_binaryOp_repeat_ref (by lia) ⟨_,e,rfl⟩ (λS=>typeIs_int _ k t) noFill_list_mul F.fills_int_mul F.slot_int_rmul repeat_list F.slot_int_index.lookup
  (O_ F.slot_int_rmul (typeIs_int s k t) F.entry_int_rmul (F.args_int_rmul_2 _ _) (int___rmul___int_list k t l _ n)
   ⟨e,rfl,⟨_,e,rfl⟩,O_ F.slot_list_mul ⟨_,e,rfl⟩ F.entry_list_mul (F.args_list_mul_2 _ _) (AutoListH.list___mul___list_int_3 l _ n k t d c b) ⟨e,?_⟩⟩)
 rw[g];exact⟨.ref _,_,I.lnew (r.rep _) (by rw[mL,Nat.mul_comm];exact w),rfl,q _ I.fresh⟩
end
set_option maxRecDepth 100000 in
section
variable {X:Cx}
end
end L2
namespace Att
open PySem PySem.W PySem.Calls PyProof.Rows
theorem G2{P:Params}:∀(ns:Li) (vs:Lv),WellAll P h vs (ns.map WData.int)->QT vs ns:=by
 intro ns
 induction ns with
 |nil=>intro vs w;cases w;exact .nil
 |cons n ns i=>
  intro vs w;cases w with
  |cons a b=>cases a;exact .cons _ _ (i _ b)
theorem G3{l:OpenLaw}(k:l.most=some n){P:Params}{A:List WData}{v:Lv}
  (H:l.row.toRowW.claim.pre A=Nk) (f:WellAll P h v A):
  ∃a vs ns,v=[NB a]/\A=[WData.list (ns.map WData.int)]/\h.get? a=some {cls:=.type "list",data:=.seq vs.toArray}/\QT vs ns/\ns.length<=n:=by
 obtain⟨d,r,rfl,g,i⟩:=hasAllW_cons (pre_splitW H).1;obtain rfl:=hasAllW_nil i;obtain⟨x,rfl,j⟩:=hasW_list g;obtain⟨ns,rfl⟩:=items_int j
 have c:ns.length<=n:=by
  have e:=by have e:=(holds_andW (pre_splitW H).2).1;rw[k]at e;exact e
  have o:=condW_of e (w_not (w_lt w_lit (w_len_list (w_arg rfl))));simp_all
 cases f with
 |cons w W=>
  cases W;cases w with
  |list m b=>exact⟨_,_,_,rfl,rfl,m,G2 _ _ b,c⟩
theorem G4(l:OpenLaw)(a:List WData):l.row.toRowW.claim.post a (.bool Nk) a=Nk:=
 postW_of
  (show WShape.has _ _ _=Nk by rfl)
  (show(WTm.eq _ _).value _ _=some _ from w_eq_bool (w_res rfl) w_lit) rfl
theorem G5{l:OpenLaw}{q:Nu}{d:DefRec}
  (C:l.most=some n) (g:d.params.defaults=[])
  (call:∀(w:NG) (S s:Nm) (mg m:Mg) (fa:Nn) (o:Obj) (pm cd doc:Np) (a:Nn) (vs:Lv) (ns:Li),
   Ground q loose [] XP w S mg m s.heap->YP w s.heap->
   s.heap.get? fa=some o->o.data=.func (docDef d.name d.params d.body d.scope pm cd doc)->s.heap.CodeRec cd d.name->mg d.name=some (.ref fa)->
   s.heap.get? a=some {cls:=.type "list",data:=.seq vs.toArray}->QT vs ns->ns.length<=n->s.gens= #[]->
   codeAny (model l.prog w) callerA (.call (.ref fa) ⟨[.ref a],[]⟩) (λr s'=>r=.ok (.ret (.bool Nk))/\OldK s.heap s'.heap/\s'.os=s.os/\Qc s'.gens) s):
  WalkO q loose XP YP l.row.toRowW d [] (λf vs=>PySem.call f vs):=by
 intro w S s mg m G Y fa o pm cd doc D kV E x e hD i y A v as c k I j z;obtain rfl:D=.none:=Dflts.none hD g;obtain rfl:kV=.none:=Dflts.noKw hD;obtain⟨a,vs,ns,rfl,rfl,b,h,H⟩:=G3 C c j;refine enter_call (OV (call w _ _ _ _ _ o _ _ _ a _ _ G Y E (fd_plain x) e i b h H y) λr s' F=>?_);obtain⟨rfl,p,t,u⟩:=F;exact⟨.inl ⟨_,_,_,rfl,λ_=>rfl,.bool _,G4 l _,λ_=>⟨List.Pairwise.nil,λ_ B=>nomatch B⟩⟩,p,t,u⟩
section
variable {K:Frag}
end
end Att
namespace L2
theorem zv:∀{vs:Lv} {ns:Li},QT vs ns->Vals (ns.map V.int) vs
 |_,_,.nil=>.nil
 |_,_,.cons n t h=>.cons ⟨t,rfl⟩ (zv h)
def mM(H:Hp):Prop:=∀b,H b=none\/∃o xs,H b=some (.frz o (.lst xs))
theorem G6{P:Nu}{w:NG}{M:Mg}{CX:dk}{k:Nat}{C:Nn}{R:Ob}{x:Str}{sp:Sp}{S:Nm}{vs:Lv}{ns:Li}
  (KX:K.In S.heap) (p:S.heap.Ns mainGlobals mg) (f:S.heap.Ns builtinsNs M) (I:∀x:Str,x≠"__name__"->M x=bootBuiltins x) (l:S.heap.NoLimit) (hg:S.gens= #[])
  (G:S.heap.get? a=some {cls:=.type "list",data:=.seq vs.toArray}) (U:QT vs ns) (hl:ns.length<=sizeLine) (hr:b5 k callerA)
  (F:∀base:Ny,K.In base->base.Ns mainGlobals mg->cI P w K mg base CX k C R [x] sp) (g:∀(s:Nm) (u:Np),RT s R ⟨[u],[]⟩ [(x,u)])
  (L:∀H:Hp,mM H->c8 K H a (ns.map V.int)->sp [.ref a] H (λv _=>v=.bl Nk) λ_ _ _=>False)
  (D:∀H e s',CX [] H S (λ_ _ _=>False) e s'->False):
  codeAny (model P w) callerA (.call (.ref C) ⟨[.ref a],[]⟩) (λr s'=>r=.ok (.ret (.bool Nk))/\OldK S.heap s'.heap/\s'.os=S.os/\Qc s'.gens) S:=by
 have rv:=zv U
 have c:∀H:Hp,mM H->c8 K H a (ns.map V.int)->dY P w H S.heap->(∀b,H b≠none->b=a)->(H a≠none->K.lookup a=none)->
   codeAny (model P w) callerA (.call (.ref C) ⟨[.ref a],[]⟩) (λr s'=>r=.ok (.ret (.bool Nk))/\OldK S.heap s'.heap/\s'.os=S.os/\Qc s'.gens) S:=by
  intro H T hS t hA hK;have B:∀{b:Nn} {o:Obj},S.heap.get? b=some o->H b=none->(f7 S.heap H).get? b=some o:=λe n=>FR e n;have O:∀{b:Nn} {o:Obj} {A:Array DictEntry} {E:Nat},S.heap.get? b=some o->o.data=.dict A E->H b=none:=λ{b o A E} e d=>by grind
  have N:∀{b:Nn} {m:Mg},S.heap.Ns b m->(f7 S.heap H).Ns b m:=λ{b m} zq=>by obtain⟨o,A,E,e,d,r⟩:=zq;exact(⟨o,A,E,B e (O e d),d,r⟩)
  have j:K.In (f7 S.heap H):=λb o e=>B (KX b o e) (by grind);have hM:Mod K mg (f7 S.heap H):=⟨j,N p,⟨M,N f,I⟩,(by obtain⟨mc,Y,Z⟩:=l;exact(⟨mc,N Y,Z⟩))⟩;refine OV ((F _ j (N p)).run callerA [] S H ⟨[.ref a],[]⟩ [.ref a] [.ref a] _ _ hr ⟨rfl,hM,λb o e=>l5 e,R8 (FQ _ _),trivial,λb f=>absurd (show b∈([]:La)from f) (by simp),t,.of_eq hg⟩ (g S (.ref a)) (.cons rfl .nil) (L H T hS)) λr s' h=>?_;cases r with
  |error e=>exact(D H e s' h).elim
  |ok X=>
   cases X with
   |next=>exact False.elim h
   |brk=>exact False.elim h
   |cont=>exact False.elim h
   |ret u=>
    obtain⟨v,H',os,i,un,y,r',q⟩:=h;subst(q);obtain rfl:u=OI Nk:=r';refine⟨rfl,OldK.of_keep λb o e=>?_,os,i⟩;cases q:H b with
    |none=>exact un.keep b o e q (by intro z;exact absurd (show b∈([]:La)from z) (by simp)) (by simp)
    |some u=>
     rcases T b with z| ⟨ob,xs,z⟩
     ·rw[q]at z;cases z
     ·obtain⟨Q,_⟩:=t b _ z;obtain⟨W,_⟩:=y b _ (un.frzs b ob _ z);rw[e]at Q;cases Q;exact W
 cases J:K.lookup a with
 |some o=>have e:=KX a o J;rw[G]at e;cases e;refine c (λ_=>none) (λ_=>.inl rfl) (.inr ⟨_,vs.toArray,_,J,rfl,rfl,rfl,by rw[Zv,U.length];exact hl,by grind⟩) (λb u z=>by grind) (λb z=>absurd rfl z) λz=>absurd rfl z
 |none=>
  refine c (λb=>if b=a then some _ else none) (λb=>?_) (.inl (.inr ⟨{cls:=.type "list",data:=.seq vs.toArray},if_pos rfl⟩)) (λb u z=>?_) (λb z=>?_) λ_=>J
  ·grind
  ·by_cases f:b=a
   ·cases(if_pos f).symm.trans z;subst f;exact⟨G,by grind,vs,_,rv,G⟩
   ·cases(if_neg f).symm.trans z
  simp_all
theorem mO{l:PySem.W.OpenLaw}{k:Nat}{q:Nu}{d:DefRec}{K:Params->Fg}{CX:NG->dk}{sp:NG->Sp}{x:Str}
  (J:l.most=some n) (p:n<=sizeLine) (j:d.params.defaults=[]) (L:b5 k callerA)
  (B:∀(w:NG) (h:Ny),YP w h->(K w.params).In h)
  (F:∀(w:NG) (mg:Mg) (fa:Nn) (h:Ny),(K w.params).In h->h.Ns mainGlobals mg->mg d.name=some (.ref fa)->
   ∃fd:Ob,(∀(s:Nm) (u:Np),RT s fd ⟨[u],[]⟩ [(x,u)])/\
    ∀base:Ny,(K w.params).In base->base.Ns mainGlobals mg->cI l.prog w (K w.params) mg base (CX w) k fa fd [x] (sp w))
  (r:∀(w:NG) (H:Hp) (a:Nn) (ns:Li),ns.length<=n->mM H->c8 (K w.params) H a (ns.map V.int)->sp w [.ref a] H (λv _=>v=.bl Nk) λ_ _ _=>False)
  (i:∀(w:NG) (H:Hp) (s:Nm) (e:Np) (s':Nm),CX w [] H s (λ_ _ _=>False) e s'->False):
  PySem.W.WalkO q loose XP YP l.row.toRowW d [] (λf vs=>PySem.call f vs):=by
 refine Att.G5 J j λw S t mg P fa o Q M D a vs ns G Y O N E m g c b I=>?_;have KX:=B w _ Y;obtain⟨fd,C,y⟩:=F w _ _ _ KX G.T.g m;exact G6 KX G.T.g G.T.b G.T.builtins G.T.nolimit I g c (ZD b p) L y C (λH z A=>r w H a _ b z A) λH e s'=>i w H _ e _
noncomputable def hJ(s:Oq):Arguments:=match s with
 | .FunctionDef _ a _ _ _ _ _ _ _ _=>a
 |_=>{posonlyargs:=[],args:=[],vararg:=none,kwonlyargs:=[],kw_defaults:=[],kwarg:=none,defaults:=[]}
noncomputable def bU(s:Oq):List Oq:=match s with
 | .FunctionDef _ _ b _ _ _ _ _ _ _=>b
 |_=>[]
noncomputable def bo(s:Oq):Scope:=match s with
 | .FunctionDef _ _ _ _ _ _ sc _ _ _=>sc
 |_=>{kind:=.function,names:=[],isGenerator:=Nl,isCoroutine:=Nl}
abbrev Fw:dk:=λ_ _ _ _ _ _=>False
abbrev E0:XK:=λ_ _ _=>False
structure mP (K:Fg)(x qual:Str)(st:Oq)(f:Nn)(fd:Ob):Prop where
 ex:∃(oc:Np) (od:Option Nn) (kV doc pm:Np) (an:Option Nn) (cdv ct:Np) (osl:Array (Ov)),
  fd=PySem.W.fnOf x qual (hJ st) (bU st) (bo st) .none kV doc pm an cdv ct/\K.lookup f=some ⟨oc,od,.func fd,osl⟩/\PySem.W.codeIn K cdv qual=Nk
 kp:PySem.W.keepIn K (.ref f)=Nk
section
variable {P:Nu}
theorem mP.binds{x:Str}{a:Ob}(F:mP K x qual st f a)
  (h:∀(kV doc pm:Np) (an:Option Nn) (cdv ct:Np) (us:Lv),us.length=ps.length->bindArgs (PySem.W.fnOf x qual (hJ st) (bU st) (bo st) .none kV doc pm an cdv ct) ⟨us,[]⟩=pure (ps.zip us)):Binds K a ps []:=by
 obtain⟨O,b,kV,doc,pm,an,cdv,ct,o,rfl,lk,H⟩:=F.ex;exact .all (h _ _ _ _ _ _)
theorem tH{x:Str}{an:Option Nn}{kV:Np}(l:K.lookup f=some ⟨oc,od,.func (PySem.W.fnOf x qual (hJ st) (bU st) (bo st) .none kV doc pm an cdv ct),osl⟩)
  (c:PySem.W.codeIn K cdv qual=Nk) (k:PySem.W.keepIn K (.ref f)=Nk):mP K x qual st f (PySem.W.fnOf x qual (hJ st) (bU st) (bo st) .none kV doc pm an cdv ct):=⟨⟨_,_,_,_,_,_,_,_,_,rfl,l,c⟩,k⟩
end
section
variable {X:Cx}
end
end L2
variable {H H' H1 H0 Hx:L2.Hp}{X:L2.Cx}{σ σ':L2.St}{v:L2.V}{ta te to:L2.TE}{tb:L2.St->L2.Hp->(L2.St->L2.Hp->Prop)->Prop}{tc:L2.TT}{wi:L2.TI}{r:L2.V->List L2.V->L2.Hp->L2.VK->Prop}{CX:L2.dk}{sp:L2.Sp}{u':L2.HO}{B:La->L2.Hp->Prop}
namespace Py
theorem aF{C:Prop}{a b c d:Sort _}{p q r:a->b->c->d->Prop}(h:∃x y z w,p x y z w/\q x y z w/\r x y z w)(k:∀x y z w,p x y z w->q x y z w->r x y z w->C):C:=by
 grind
theorem tJ{C:Prop}{a b c d e f g h i:Sort _}{p q r:a->b->c->d->e->f->g->h->i->Prop}(z:∃x1 x2 x3 x4 x5 x6 x7 x8 x9,p x1 x2 x3 x4 x5 x6 x7 x8 x9/\q x1 x2 x3 x4 x5 x6 x7 x8 x9/\r x1 x2 x3 x4 x5 x6 x7 x8 x9)(k:∀x1 x2 x3 x4 x5 x6 x7 x8 x9,p x1 x2 x3 x4 x5 x6 x7 x8 x9->q x1 x2 x3 x4 x5 x6 x7 x8 x9->r x1 x2 x3 x4 x5 x6 x7 x8 x9->C):C:=by grind
theorem ay{C:Prop}{a b c:Sort _}{p q r t:a->b->c->Prop}(h:∃x y z,p x y z/\q x y z/\r x y z/\t x y z)(k:∀x y z,p x y z->q x y z->r x y z->t x y z->C):C:=by
 grind
inductive D where
 |non|bl (b:Bool)|int (i:Int)|str (x:Str)
 |tup (xs:List D)|lst (xs:List D)|ref (n:Nat)|scr (xs:List D)
 |fn (x:Str)|dct|ty (n:String)|dks (ks:List (Li))
 deriving Inhabited
abbrev ae:=List (List D)
set_option genInjectivity false in
structure GS where
 mg:Mg
 F:La
noncomputable def tK(K:Fg)(H:Hp)(a:Nn)(vs:List V):Prop:=(∃o,H a=some (.frz o (.lst vs)))\/
 ∃(o:Obj) (its:Av) (n:Nat),K.lookup a=some o/\o.cls=.type "list"/\o.dict=none/\o.data=.seq its n/\its.size<=sizeLine/\Vals vs its.toList
theorem tK.sq{vs:List V}(h:tK K H a vs):c8 K H a vs:=by
 rcases h with⟨o,h⟩|h
 ·exact .inl (.inr ⟨o,h⟩)
 ·exact .inr h
noncomputable def hD(k:Li):Int:=reduceHash (Builtin.Tuple.tupleHashOf (k.map hashInt))
noncomputable def M1(h:Ny)(a:Nn)(cs:List (Li×Nn)):Prop:=(a==sysModules)=Nl/\∃o es ep,h.get? a=some o/\o.ExactDict/\o.data=.dict es ep/\es.toList=cs.map λc=>⟨hD c.1,.ref c.2,.bool Nk⟩
section
variable (K:Fg)(mg:GS)(μ:La)(H:Hp)
mutual
def Rep:D->V->Prop
 | .non,v=>v=.non
 | .bl b,v=>v=.bl b
 | .int i,v=>v=.int i
 | .str x,v=>v=.str x
 | .tup ds,v=>∃a vs,v=.ref a/\b4 K H a vs/\ai ds vs
 | .lst ds,v=>∃a vs,v=.ref a/\H a=some (.lst vs)/\(a∉μ/\a∉mg.F)/\ai ds vs
 | .scr ds,v=>∃a vs,v=.ref a/\tK K H a vs/\ai ds vs
 | .ref n,v=>∃a,v=.ref a/\μ[n]?=some a
 | .fn x,v=>∃a,v=.ref a/\mg.mg x=some (.ref a)
 | .dct,v=>∃a,v=.ref a/\H a=some (.dK [])
 | .ty n,v=>v=.ty n
 | .dks ks,v=>∃a cs,v=.ref a/\H a=some (.ext λh=>M1 h a cs)/\a∉mg.F/\(cs.map (·.1)=ks/\ks.Nodup)/\∀c∈cs,b4 K H c.2 (c.1.map V.int)
def ai:List D->List V->Prop
 | [],vs=>vs=[]
 |d::ds,vs=>∃w W,vs=w::W/\Rep d w/\ai ds W
end
end
structure aJ (K:Fg)(mg:GS)(μ:La)(S:ae)(H:Hp):Prop where
 live:∀a∈mg.F,∃o,H a=some o
 len:μ.length=S.length
 nd:μ.Nodup
 at_:∀(n:Nat) (a:Nn) (ds:List D),μ[n]?=some a->S[n]?=some ds->∃vs,H a=some (.lst vs)/\ai K mg μ H ds vs
structure Ext (μ:La)(H:Hp)(μ':La)(H':Hp):Prop where
 pre:∃r,μ'=μ++r
 keep:∀a o,H a=some o->((∀xs,o≠.lst xs)\/a∉μ)->H' a=some o
 there:∀a o,H a=some o->∃o',H' a=some o'
 fresh:∀a∈μ',a∈μ\/H a=none
section
variable {mg:GS}{μ'':La}{H'':Hp}
theorem Ext.refl:Ext μ H μ H:=⟨⟨[],by simp⟩,λ_ _ h _=>h,λ_ o h=>⟨o,h⟩,λ_ h=>.inl h⟩
theorem Ext.trans(a:Ext μ H μ' H')(b:Ext μ' H' μ'' H''):Ext μ H μ'' H'':=by
 obtain⟨r,e⟩:=a.pre;obtain⟨R,E⟩:=b.pre;refine⟨⟨r++R,by simp_all⟩,λx o h c=>?_,λx o h=>?_,λx h=>?_⟩
 ·refine b.keep x o (a.keep x o h c) ?_;rcases c with c|c
  ·exact .inl c
  ·refine .inr λz=>?_;rcases a.fresh x z with z|z
   ·exact c z
   simp_all
 ·obtain⟨o1,d⟩:=a.there x o h;exact b.there x _ d
 ·rcases b.fresh x h with h|h
  ·exact a.fresh x h
  ·refine .inr ?_;cases e:H x with
   |none=>rfl
   |some o=>obtain⟨o1,d⟩:=a.there x o e;simp_all
theorem Ext.sqT{vs:List V}(x:Ext μ H μ' H')(h:b4 K H a vs):b4 K H' a vs:=by
 rcases h with(h| ⟨o,h⟩)|h
 ·exact .inl (.inl (x.keep _ _ h (.inl λ_ z=>by lia)))
 ·exact .inl (.inr ⟨o,x.keep _ _ h (.inl λ_ z=>by lia)⟩)
 ·exact .inr h
theorem Ext.frz{vs:List V}(x:Ext μ H μ' H')(h:tK K H a vs):tK K H' a vs:=by
 rcases h with⟨o,h⟩|h
 ·exact .inl ⟨o,x.keep _ _ h (.inl λ_ z=>by lia)⟩
 ·exact .inr h
theorem Ext.lst{vs:List V}(x:Ext μ H μ' H')(h:H a=some (.lst vs))(b:a∉μ):H' a=some (.lst vs)/\a∉μ':=by
 refine⟨x.keep _ _ h (.inr b),λz=>?_⟩;rcases x.fresh a z with z|z
 ·exact b z
 simp_all
theorem Ext.get(x:Ext μ H μ' H')(h:μ[n]?=some a):μ'[n]?=some a:=by obtain⟨r,rfl⟩:=x.pre;rw[Zw (Zg.mp h).1];exact h
mutual
theorem Rep.mono(x:Ext μ H μ' H'):∀(d:D) (v:V),Rep K mg μ H d v->Rep K mg μ' H' d v
 | .non,_,h=>h
 | .bl _,_,h=>h
 | .int _,_,h=>h
 | .str _,_,h=>h
 | .tup _,v,h=>by obtain⟨a,vs,e,q,r⟩:=h;exact⟨a,_,e,x.sqT q,ai.mono x _ _ r⟩
 | .lst _,v,h=>by obtain⟨a,vs,e,q,n,r⟩:=h;exact⟨a,_,e,(x.lst q n.1).1,⟨(x.lst q n.1).2,n.2⟩,ai.mono x _ _ r⟩
 | .scr _,v,h=>by obtain⟨a,vs,e,q,r⟩:=h;exact⟨a,_,e,x.frz q,ai.mono x _ _ r⟩
 | .ref n,v,h=>by obtain⟨a,e,q⟩:=h;exact⟨a,e,x.get q⟩
 | .fn y,v,h=>h
 | .ty y,v,h=>h
 | .dct,v,h=>by obtain⟨a,e,q⟩:=h;exact⟨a,e,x.keep _ _ q (.inl λ_ z=>by trivial)⟩
 | .dks _,v,h=>by obtain⟨a,C,e,q,n,r,k⟩:=h;exact⟨a,_,e,x.keep _ _ q (.inl λ_ z=>by trivial),n,r,λc b=>x.sqT (k c b)⟩
theorem ai.mono(x:Ext μ H μ' H'):∀(ds:List D) (vs:List V),ai K mg μ H ds vs->ai K mg μ' H' ds vs
 | [],vs,h=>h
 |d::ds,vs,h=>by obtain⟨w,W,e,r,q⟩:=h;exact⟨w,_,e,Rep.mono x d w r,ai.mono x _ _ q⟩
end
theorem ai.length:∀{ds:List D} {vs:List V},ai K mg μ H ds vs->ds.length=vs.length
 | [],vs,h=>by subst h;rfl
 |d::ds,vs,h=>by obtain⟨w,W,rfl,r,q⟩:=h;simp[ai.length q]
theorem ai.get:∀{ds:List D} {vs:List V} {i:Nat} {d:D},ai K mg μ H ds vs->ds[i]?=some d->∃v,vs[i]?=some v/\Rep K mg μ H d v
 | [],vs,i,d,h,e=>by simp_all
 |c::ds,vs,i,d,h,e=>by
  obtain⟨w,W,rfl,r,q⟩:=h;cases i with
  |zero=>simp_all
  |succ i=>simpa using ai.get q (by simp_all)
theorem ai.of:∀{ds:List D} {vs:List V},ds.length=vs.length->(∀(i:Nat) d v,ds[i]?=some d->vs[i]?=some v->Rep K mg μ H d v)->ai K mg μ H ds vs
 | [],[],_,_=>rfl
 | [],_::_,h,_=>by trivial
 |_::_,[],h,_=>by trivial
 |d::ds,v::vs,h,k=>by exact⟨v,_,rfl,k 0 d v rfl rfl,ai.of (by simp_all) λi a e b c=>k (i+1) _ _ (by trivial) (by trivial)⟩
theorem ai.nil:ai K mg μ H [] []:=rfl
theorem ai.cons{d:D}{ds:List D}{vs:List V}(h:Rep K mg μ H d v)(t:ai K mg μ H ds vs):ai K mg μ H (d::ds) (v::vs):=by dsimp only[ai];lia
theorem ai.uncons{d:D}{ds:List D}{vs:List V}(h:ai K mg μ H (d::ds) vs):∃v w,vs=v::w/\Rep K mg μ H d v/\ai K mg μ H ds w:=by exact h
theorem ai.append:∀{ds es:List D} {vs w:List V},ai K mg μ H ds vs->ai K mg μ H es w->ai K mg μ H (ds++es) (vs++w)
 | [],es,vs,w,h,k=>by subst h;exact k
 |d::ds,es,vs,w,h,k=>by obtain⟨v,u,rfl,r,q⟩:=h.uncons;exact .cons r (ai.append q k)
theorem ai.take:∀{ds:List D} {vs:List V} (n:Nat),ai K mg μ H ds vs->ai K mg μ H (ds.take n) (vs.take n)
 | [],vs,n,h=>by subst h;simpa using ai.nil
 |d::ds,vs,0,h=>rfl
 |d::ds,vs,n+1,h=>by obtain⟨v,u,rfl,r,q⟩:=h.uncons;exact .cons r (ai.take n q)
theorem ai.drop:∀{ds:List D} {vs:List V} (n:Nat),ai K mg μ H ds vs->ai K mg μ H (ds.drop n) (vs.drop n)
 | [],vs,n,h=>by subst h;simpa using ai.nil
 |d::ds,vs,0,h=>h
 |d::ds,vs,n+1,h=>by obtain⟨v,u,rfl,r,q⟩:=h.uncons;exact ai.drop n q
theorem ai.reverse:∀{ds:List D} {vs:List V},ai K mg μ H ds vs->ai K mg μ H ds.reverse vs.reverse
 | [],vs,h=>by subst h;rfl
 |d::ds,vs,h=>by obtain⟨v,u,rfl,r,q⟩:=h.uncons;rw[PZ,PZ];exact ai.append (ai.reverse q) (.cons r .nil)
theorem ai.set:∀{ds:List D} {vs:List V} (i:Nat) {d:D} {v:V},ai K mg μ H ds vs->Rep K mg μ H d v->ai K mg μ H (ds.set i d) (vs.set i v)
 | [],vs,i,_,_,h,_=>by subst h;rfl
 |d::ds,vs,0,_,_,h,k=>by obtain⟨v,u,rfl,r,q⟩:=h.uncons;exact .cons k q
 |d::ds,vs,i+1,_,_,h,k=>by obtain⟨v,u,rfl,r,q⟩:=h.uncons;exact .cons r (ai.set i q k)
theorem Ext.laid{p:Nn}{o:HO}(b:H p=none):Ext μ H μ (aP H p o):=
 ⟨⟨[],by simp⟩,λa u h _=>by rw[av (bT h b)];exact h,λa u h=>⟨u,by rw[av (bT h b)];exact h⟩,λ_ h=>.inl h⟩
theorem aJ.notin{S:ae}{p:Nn}(s:aJ K mg μ S H)(b:H p=none):p∉μ:=λz=>by obtain⟨n,a,e⟩:=ZL.mp z;have E:S[n]?=some (S[n]'(by rw[<-s.len];exact a)):=Zf _;obtain⟨vs,h,_⟩:=s.at_ n p _ (by simp_all) E;simp_all
theorem aJ.notF{S:ae}{p:Nn}(s:aJ K mg μ S H)(a:H p=none):p∉mg.F:=λz=>by obtain⟨o,h⟩:=s.live p z;simp_all
theorem aJ.laid{S:ae}{p:Nn}{o:HO}(s:aJ K mg μ S H)(b:H p=none):aJ K mg μ S (aP H p o):=by refine⟨λa h=>(Ext.laid (μ:=μ) b).there a _ (s.live a h).choose_spec,s.len,s.nd,λn a D c d=>?_⟩;obtain⟨vs,h,r⟩:=s.at_ n a _ c d;exact⟨_,by rw[av (bT h b)];exact h,ai.mono (Ext.laid b) _ _ r⟩
theorem Ext.boxed{p:Nn}{o:HO}(b:H p=none):Ext μ H (μ++[p]) (aP H p o):=
 ⟨⟨_,rfl⟩,λa u h _=>by rw[av (bT h b)];exact h,λa u h=>⟨u,by rw[av (bT h b)];exact h⟩,λa h=>by
  grind⟩
theorem aJ.boxed{S:ae}{p:Nn}{ds:List D}{vs:List V}(s:aJ K mg μ S H)(e:H p=none)(r:ai K mg μ H ds vs):
  aJ K mg (μ++[p]) (S++[ds]) (aP H p (.lst vs)):=by
 have N:=s.notin e;refine⟨λa h=>(Ext.laid (μ:=μ) e).there a _ (s.live a h).choose_spec,by simp[s.len],?_,λn a g c d=>?_⟩
 ·rw[OF]
  exact⟨s.nd,by simp,λa i b j=>by
   have:b=p:=by simpa using j
   subst this;intro z;subst z;exact N i⟩
 ·by_cases f:n<μ.length
  ·rw[Zw f]at c;rw[Zw (by rw[<-s.len];exact f)]at d;obtain⟨w,h,q⟩:=s.at_ n a g c d;exact⟨w,by rw[av (bT h e)];exact h,ai.mono (Ext.boxed e) _ _ q⟩
  ·have k:=s.len;have E:n=μ.length:=by have:=(Zg.mp c).1;simp at this;omega
   subst E;rw[Zp (Zh _)]at c;rw[Zp (by omega)]at d;simp[k]at c d;subst c;subst d;exact⟨vs,a8,ai.mono (Ext.boxed e) _ _ r⟩
theorem Ext.wrote{xs:List V}{y:List V}(d:a∈μ)(h:H a=some (.lst xs)):Ext μ H μ (aP H a (.lst y)):=by
 refine⟨⟨[],by simp⟩,λb o e c=>?_,λb o e=>?_,λ_ h=>.inl h⟩
 ·have:b≠a:=by grind
  rw[av this];exact e
 ·by_cases z:b=a
  ·subst z;exact⟨_,a8⟩
  ·exact⟨o,by rw[av z];exact e⟩
theorem aJ.wrote{S:ae}{ds:List D}{xs vs:List V}(s:aJ K mg μ S H)(hn:μ[n]?=some a)(h:H a=some (.lst xs))(r:ai K mg μ H ds vs):
  aJ K mg μ (S.set n ds) (aP H a (.lst vs)):=by
 have ha:=Zo hn;have hl:=s.len;refine⟨λb hb=>(Ext.wrote ha h).there b _ (s.live b hb).choose_spec,by simp_all,s.nd,λm b es h1 h2=>?_⟩;by_cases e:m=n
 ·subst e;rw[hn]at h1;cases h1;rw[Yf (by grind)]at h2;cases h2;exact⟨_,a8,ai.mono (Ext.wrote ha h) _ _ r⟩
 ·rw[NZ (Ne.symm e)]at h2;obtain⟨ws,q,r'⟩:=s.at_ m b _ h1 h2;have:b≠a:=by rintro rfl;exact e (L2_nodup s.nd h1 hn)
  exact⟨_,by rw[av this];exact q,ai.mono (Ext.wrote ha h) _ _ r'⟩
where
 L2_nodup {l:List _} (nd:l.Nodup) {i j:Nat} {x:Nn} (a:l[i]?=some x) (b:l[j]?=some x):i=j:=by obtain⟨h1,e1⟩:=Zg.mp a;obtain⟨h2,e2⟩:=Zg.mp b;exact(Tg nd).mp (e1.trans e2.symm)
end
end Py
variable {xs ys ds:List Py.D}{T S S1 S' S2:Py.ae}{d:Py.D}{Γ:Str->Option Py.D}{O:Nn->List Py.D->List L2.V->L2.HO->Prop}{x2 x4 x5:Option Py.D}
namespace Py
open PySem.Sem (wp)
open PySem.Builtin
end Py
namespace Py
set_option genInjectivity false in
structure Exc where
 cls:Str
 fs:List D
inductive Res (α:Type) where
 |ok (a:α) (S:ae)
 |err (x:Exc) (S:ae)
 |fail
abbrev cm:Nat:=16777216
theorem mQ:sizeLine=cm:=N5
noncomputable def aR(K:Fg)(mg:GS)(μ:La)(H:Hp)(Q:VK):Res D->Prop
 | .ok d S'=>∀μ' H' v,Ext μ H μ' H'->aJ K mg μ' S' H'->Rep K mg μ' H' d v->Q v H'
 |_=>False
section
variable {mg:GS}{Q:VK}
theorem aR.now(w:aR K mg μ H Q (.ok d S))(s:aJ K mg μ S H)(r:Rep K mg μ H d v):Q v H:=w _ H v .refl s r
theorem aR.tup{vs:List V}(w:aR K mg μ H Q (.ok (.tup ds) S))(s:aJ K mg μ S H)(r:ai K mg μ H ds vs)(p:Nn)(h:H p=none):Q (.ref p) (aP H p (.tup vs)):=
 w _ _ _ (.laid h) (s.laid h) (by exact⟨p,_,rfl,b4.of a8,ai.mono (.laid h) _ _ r⟩)
theorem aR.lst{vs:List V}(w:aR K mg μ H Q (.ok (.lst ds) S))(s:aJ K mg μ S H)(r:ai K mg μ H ds vs)(p:Nn)(h:H p=none):Q (.ref p) (aP H p (.lst vs)):=
 w _ _ _ (.laid h) (s.laid h) (by exact⟨p,_,rfl,a8,⟨s.notin h,s.notF h⟩,ai.mono (.laid h) _ _ r⟩)
theorem aR.box{vs:List V}(w:aR K mg μ H Q (.ok (.ref S.length) (S++[ds])))(s:aJ K mg μ S H)(r:ai K mg μ H ds vs)(p:Nn)(h:H p=none):Q (.ref p) (aP H p (.lst vs)):=
 w _ _ _ (.boxed h) (s.boxed h r) (by exact⟨p,rfl,by rw[Zp (by rw[s.len];simp_all),s.len];simp⟩)
theorem aR.wrote{xs vs:List V}(w:aR K mg μ H Q (.ok d (S.set n ds)))(s:aJ K mg μ S H)(b:μ[n]?=some a)(h:H a=some (.lst xs))(r:ai K mg μ H ds vs)
  (R:Rep K mg μ H d v):Q v (aP H a (.lst vs)):=
 w _ _ _ (.wrote (Zo b) h) (s.wrote b h r) (Rep.mono (.wrote (Zo b) h) _ _ R)
noncomputable def c_(S:ae):D->Option (List D)
 | .lst xs=>some xs
 | .ref n=>S[n]?
 |_=>none
noncomputable def az(S:ae):D->Option (List D)
 | .lst xs=>some xs
 | .ref n=>S[n]?
 | .tup xs=>some xs
 | .scr xs=>some xs
 |_=>none
theorem cU(s:aJ K mg μ S H)(r:Rep K mg μ H d v)(e:c_ S d=some xs):∃a vs,v=.ref a/\H a=some (.lst vs)/\ai K mg μ H xs vs:=by
 cases d with
 |lst y=>
  cases e;dsimp only[Rep]at r
  grind
 |ref n=>obtain⟨a,E,h⟩:=r;obtain⟨vs,b,q⟩:=s.at_ n a _ h e;simp_all
 |_=>cases e
theorem fH(s:aJ K mg μ S H)(r:Rep K mg μ H d v)(e:az S d=some xs):∃a vs,v=.ref a/\(c8 K H a vs\/b4 K H a vs)/\ai K mg μ H xs vs:=by
 cases d with
 |lst y=>obtain⟨a,vs,E,h,q⟩:=cU s r (show c_ S (.lst y)=some xs from e);exact⟨a,vs,E,.inl (.of h),q⟩
 |ref n=>obtain⟨a,vs,E,h,q⟩:=cU s r (show c_ S (.ref n)=some xs from e);exact⟨a,vs,E,.inl (.of h),q⟩
 |tup y=>cases e;obtain⟨a,vs,e,h,q⟩:=r;exact⟨a,vs,e,.inr h,q⟩
 |scr y=>cases e;obtain⟨a,vs,e,h,q⟩:=r;exact⟨a,vs,e,.inl h.sq,q⟩
 |_=>cases e
theorem aG{i:Int}(r:Rep K mg μ H (.int i) v):v=.int i:=by exact r
theorem f_{i:Bool}(r:Rep K mg μ H (.bl i) v):v=.bl i:=by exact r
theorem dM{i:Str}(r:Rep K mg μ H (.str i) v):v=.str i:=by exact r
theorem hO(r:Rep K mg μ H .non v):v=.non:=by exact r
theorem bQ(r:Rep K mg μ H (.tup ds) v):∃a vs,v=.ref a/\b4 K H a vs/\ai K mg μ H ds vs:=by exact r
theorem bq{i:Int}:Rep K mg μ H (.int i) (.int i):=rfl
theorem cJ{i:Bool}:Rep K mg μ H (.bl i) (.bl i):=rfl
theorem fJ{i:Str}:Rep K mg μ H (.str i) (.str i):=rfl
theorem j9:Rep K mg μ H .non .non:=rfl
end
noncomputable def rD(K:Fg)(mg:Mg)(g:D->D->ae->Res D):R2:=λx y H Q=>∃F μ S d e,aJ K ⟨mg,F⟩ μ S H/\Rep K ⟨mg,F⟩ μ H d x/\Rep K ⟨mg,F⟩ μ H e y/\aR K ⟨mg,F⟩ μ H Q (g d e S)
noncomputable def e_(d e:D)(S:ae):Res D:=match d,e with
 | .int i,.int j=>.ok (.int (i+j)) S
 | .str x,.str y=>if x.length+y.length<=cm then .ok (.str (x++y)) S else .fail
 | .tup a,.tup b=>if a.length+b.length<=cm then .ok (.tup (a++b)) S else .fail
 |d,e=>match c_ S d,c_ S e with
  |some a,some b=>if a.length+b.length<=cm then .ok (.lst (a++b)) S else .fail
  |_,_=>.fail
noncomputable def iR(d e:D)(S:ae):Res D:=match d,e with
 | .int i,.int j=>.ok (.int (i-j)) S
 |_,_=>.fail
noncomputable def mR(d e:D)(S:ae):Res D:=match d,e with
 | .int i,.int j=>if(-(2^64)<i/\i<2^64)\/(-(2^64)<j/\j<2^64)then .ok (.int (i*j)) S else if Pb i<=100000/\Pb j<=100000 then .ok (.int (i*j)) S else .fail
 | .lst a,.int k=>if-(2^63)<=k/\k<2^63/\a.length*k.toNat<=cm then .ok (.lst (Nw k.toNat a).flatten) S else .fail
 |_,_=>.fail
theorem G7:b9 X (binaryOp .FloorDiv) (rI (λ_ j=>0<j/\j<2^100) λi j=>.int (i/j)):=sQ λi j _ _ _ _ _ h q=>by
 have a:(0:Int)<j:=h.1;have b:j<2^100:=h.2;refine floordiv_int (by omega) (by rw[Int.fdiv_eq_ediv_of_nonneg i (by omega)];exact q) (.inl (PyProof.noPylong_of_log2 ?_));have H:j.natAbs<2^100:=by omega
 exact QZ ((Nat.log2_lt (by omega)).mpr H) (by decide)
noncomputable def f'(d e:D)(S:ae):Res D:=match d,e with
 | .int i,.int j=>if 0<j/\j<1073741824 then .ok (.int (i/j)) S else if 0<j/\j<2^100 then .ok (.int (i/j)) S else .fail
 |_,_=>.fail
noncomputable def hU(d e:D)(S:ae):Res D:=match d,e with
 | .int i,.int j=>if 0<j then .ok (.int (i%j)) S else .fail
 |_,_=>.fail
noncomputable def tM(d e:D)(S:ae):Res D:=match d,e with
 | .int i,.int j=>if 0<=j/\j<=1000000/\i.natAbs<2^64 then .ok (.int (i^j.toNat)) S else .fail
 |_,_=>.fail
noncomputable def tN(d e:D)(S:ae):Res D:=match d,e with
 | .int i,.int j=>if 0<=j then .ok (.int (i/2^j.toNat)) S else .fail
 |_,_=>.fail
noncomputable def tO(d e:D)(S:ae):Res D:=match d,e with
 | .int i,.int j=>.ok (.int (SV i j)) S
 |_,_=>.fail
noncomputable def G8(d e:D)(S:ae):Res D:=match d,e with
 | .int i,.int j=>.ok (.int (Th i j)) S
 |_,_=>.fail
noncomputable def d0:Rj->D->D->ae->Res D
 | .Add=>e_| .Sub=>iR| .Mult=>mR| .FloorDiv=>f'| .Mod=>hU| .Pow=>tM| .RShift=>tN| .LShift=>λ_ _ _=>.fail | .BitAnd=>tO| .BitOr=>G8
 |_=>λ_ _ _=>.fail
theorem G9{t b:Nn}{W:Lv}(k:R6 s.heap t #[])(g:R6 s.heap b W.toArray)
  (h1:Q (.ref b) s):wpAny (model prog w) A (binaryOp .Add (.ref t) (.ref b)) Q E s:=by
 obtain⟨⟨cls,l,D,sl⟩,e,i,n,j⟩:=id k;obtain⟨⟨c,f,d,S⟩,h,H,N,a⟩:=id g;subst i j H a
 exact SW ⟨_,e,rfl⟩ ⟨_,h,rfl⟩ Rx Su PySem.F.slot_tuple_add PySem.F.entry_tuple_add (PySem.F.args_tuple_add_2 _ _)
   (tuple_addW0 t b _ _ n _ _ _ _ _ rfl) ⟨e,h,h1⟩
theorem G_:b9 X (binaryOp .Add) (λx y H Q=>∃a b ys,x=.ref a/\y=.ref b/\b4 X.K H a []/\b4 X.K H b ys/\Q (.ref b) H):=by intro j s l H x y v u Q I R g h;obtain⟨a,b,ys,rfl,rfl,c,d,q⟩:=h;subst R;subst g;obtain⟨f,r,p,_⟩:=I.tuple c;obtain⟨i,k,P,_⟩:=I.tuple d;have e:=r.zero;subst e;exact G9 p P ⟨.ref b,H,I,rfl,q⟩
theorem mS:b9 X (binaryOp .Mult) (rI (λi j=>Pb i<=100000/\Pb j<=100000) λi j=>.int (i*j)):=sQ λ_ _ _ _ _ _ _ h q=>PyProof.Rows.mul_int q (PySem.IntMulOk.of_le h.1 h.2 (by lia))
theorem G'(O:Rj):b9 X (binaryOp O) (rD X.K X.mg (d0 O)):=by
 intro P s g H x y v u Q I r R h;obtain⟨F,n,S,d,e,c,i,j,w⟩:=h;have D:=mQ;cases O with
 |Add=>
  replace w:aR X.K ⟨X.mg,F⟩ n H Q (e_ d e S):=w;unfold e_ at w;split at w
  ·have:=aG i;have:=aG j;subst x y
   exact sT P s g H _ _ v u Q I r R ⟨_,_,rfl,rfl,w.now c bq⟩
  ·have:=dM i;have:=dM j;subst x y
   split at w
   ·exact Gr P s g H _ _ v u Q I r R ⟨_,_,rfl,rfl,by omega,w.now c fJ⟩
   ·exact w.elim
  ·split at w
   ·obtain⟨a,vs,rfl,o,q⟩:=bQ i;obtain⟨b,W,rfl,l,z⟩:=bQ j;have L:=q.length;have A:=z.length;cases vs with
    |nil=>refine G_ P s g H _ _ v u Q I r R ⟨a,b,W,rfl,rfl,o,l,?_⟩;rename_i as bs _;have:as=[]:=ZU (by simpa using L);subst this;exact w.now c j
    |cons v0 vs=>
     refine mG P s g H _ _ v u Q I r R ⟨a,b,v0::vs,W,rfl,rfl,o,l,by simp,by omega,?_,?_⟩
     ·intro hw;subst hw;rename_i as bs _;have:bs=[]:=ZU (by simpa using A);subst this;rw[N4]at w;exact w.now c i
     ·intro _ p t;exact w.tup c (q.append z) p t
   ·exact w.elim
  ·split at w
   ·rename_i as bs E B;split at w
    ·obtain⟨a,vs,rfl,o,q⟩:=cU c i E;obtain⟨b,W,rfl,l,z⟩:=cU c j B;have L:=q.length;have A:=z.length;exact mK P s g H _ _ v u Q I r R ⟨a,b,vs,W,rfl,rfl,o,l,by omega,λp t=>w.lst c (q.append z) p t⟩
    ·exact w.elim
   ·exact w.elim
 |Sub=>
  replace w:aR X.K ⟨X.mg,F⟩ n H Q (iR d e S):=w;unfold iR at w;split at w
  ·have:=aG i;have:=aG j;subst x y
   exact sU P s g H _ _ v u Q I r R ⟨_,_,rfl,rfl,w.now c bq⟩
  ·exact w.elim
 |Mult=>
  replace w:aR X.K ⟨X.mg,F⟩ n H Q (mR d e S):=w;unfold mR at w;split at w
  ·have:=aG i;have:=aG j;subst x y
   split at w
   ·rename_i f;exact sV P s g H _ _ v u Q I r R ⟨_,_,rfl,rfl,f,w.now c bq⟩
   ·split at w
    ·rename_i f;exact mS P s g H _ _ v u Q I r R ⟨_,_,rfl,rfl,f,w.now c bq⟩
    ·exact w.elim
  ·split at w
   ·rename_i as k f;obtain⟨a,vs,rfl,o,q⟩:=cU c i rfl;have:=aG j;subst y;have L:=q.length;refine tF P s g H _ _ v u Q I r R ⟨a,k,vs,rfl,rfl,o,f.1,f.2.1,by rw[<-L];omega,λp t=>w.lst c ?_ p t⟩;generalize k.toNat=m;clear f w
    induction m with
    |zero=>simpa using ai.nil
    |succ m C=>rw[QD,QD,S0,S0];exact q.append C
   ·exact w.elim
  ·exact w.elim
 |FloorDiv=>
  replace w:aR X.K ⟨X.mg,F⟩ n H Q (f' d e S):=w;unfold f' at w;split at w
  ·have:=aG i;have:=aG j;subst x y
   split at w
   ·rename_i f;exact mr P s g H _ _ v u Q I r R ⟨_,_,rfl,rfl,f,w.now c bq⟩
   ·split at w
    ·rename_i f;exact G7 P s g H _ _ v u Q I r R ⟨_,_,rfl,rfl,f,w.now c bq⟩
    ·exact w.elim
  ·exact w.elim
 |Mod=>
  replace w:aR X.K ⟨X.mg,F⟩ n H Q (hU d e S):=w;unfold hU at w;split at w
  ·have:=aG i;have:=aG j;subst x y
   split at w
   ·rename_i f;exact sW P s g H _ _ v u Q I r R ⟨_,_,rfl,rfl,f,w.now c bq⟩
   ·exact w.elim
  ·exact w.elim
 |Pow=>
  replace w:aR X.K ⟨X.mg,F⟩ n H Q (tM d e S):=w;unfold tM at w;split at w
  ·have:=aG i;have:=aG j;subst x y
   split at w
   ·rename_i f;exact sX P s g H _ _ v u Q I r R ⟨_,_,rfl,rfl,f,w.now c bq⟩
   ·exact w.elim
  ·exact w.elim
 |RShift=>
  replace w:aR X.K ⟨X.mg,F⟩ n H Q (tN d e S):=w;unfold tN at w;split at w
  ·have:=aG i;have:=aG j;subst x y
   split at w
   ·rename_i f;exact sY P s g H _ _ v u Q I r R ⟨_,_,rfl,rfl,f,w.now c bq⟩
   ·exact w.elim
  ·exact w.elim
 |LShift=>exact w.elim
 |BitAnd=>
  replace w:aR X.K ⟨X.mg,F⟩ n H Q (tO d e S):=w;unfold tO at w;split at w
  ·have:=aG i;have:=aG j;subst x y
   exact sZ P s g H _ _ v u Q I r R ⟨_,_,rfl,rfl,w.now c bq⟩
  ·exact w.elim
 |BitOr=>
  replace w:aR X.K ⟨X.mg,F⟩ n H Q (G8 d e S):=w;unfold G8 at w;split at w
  ·have:=aG i;have:=aG j;subst x y
   exact yL P s g H _ _ v u Q I r R ⟨_,_,rfl,rfl,w.now c bq⟩
  ·exact w.elim
 |_=>exact w.elim
noncomputable def gb(d e:D)(S:ae):Res D:=match c_ S d,c_ S e with
 |some a,some b=>if a.length+b.length<=cm then .ok (.ref S.length) (S++[a++b])else .fail
 |_,_=>.fail
theorem zw:b9 X (binaryOp .Add) (rD X.K X.mg gb):=by
 intro P s z H x y v u Q I l m h;obtain⟨F,t,S,d,e,f,r,R,w⟩:=h;have n:=mQ;unfold gb at w;split at w
 ·rename_i as bs E i;split at w
  ·obtain⟨a,vs,rfl,j,q⟩:=cU f r E;obtain⟨b,W,rfl,c,g⟩:=cU f R i;have L:=q.length;have o:=g.length;exact mK _ s _ H _ _ v u Q I l m ⟨a,b,_,_,rfl,rfl,j,c,by omega,λp k=>w.box f (q.append g) p k⟩
  ·exact w.elim
 ·exact w.elim
end Py
variable {l:List (Str×(List Py.D->Py.ae->Py.Res Py.D))}{φ:List Py.D->Py.ae->Py.Res Py.D}
namespace Py
set_option genInjectivity false in
inductive Sh where
 |non|bl (b:Bool)|int (i:Int)|str (x:Str)|tup (xs:List D)|lst (xs:List D)
noncomputable def sh(S:ae):D->Option Sh
 | .non=>some .non
 | .bl b=>some (.bl b)
 | .int i=>some (.int i)
 | .str x=>some (.str x)
 | .tup xs=>some (.tup xs)
 | .lst xs=>some (.lst xs)
 | .ref n=>(S[n]?).map .lst
 |_=>none
noncomputable def bb:List (Option Bool)->Option Bool
 | []=>some Nk
 |o::r=>match o,bb r with
  |some b,some c=>some (b&&c)
  |_,_=>none
noncomputable def ye(f:D->D->Option Bool):Sh->Sh->Option Bool
 | .non,.non=>some Nk
 | .bl a,.bl b=>some (a==b)
 | .int a,.int b=>some (a==b)
 | .str a,.str b=>some (a==b)
 | .bl a,.int b=>some ((if a then 1 else 0)==b)
 | .int a,.bl b=>some (a==(if b then 1 else 0))
 | .tup a,.tup b=>(bb (Nq f a b)).map (· &&a.length==b.length)
 | .lst a,.lst b=>if a.length=b.length then bb (Nq f a b)else some Nl
 |_,_=>some Nl
noncomputable def b_(S:ae):Nat->D->D->Option Bool
 |0,_,_=>none
 |n+1,d,e=>match sh S d,sh S e with
  |some x,some y=>ye (b_ S n) x y
  |_,_=>none
noncomputable def eJ(l:List (Option Bool))(j:Nat):Bool:=match l[j]? with
 |some (some b)=>b
 |_=>Nk
theorem mT:∀(l:List (Option Bool)) (k:Bool),bb l=some k->(∀(j:Nat) o,l[j]?=some o->o=some (eJ l j))/\k=(Nt l.length).all (eJ l)
 | [],k,h=>by dsimp only[bb]at h;simp_all
 |o::r,k,h=>by
  dsimp only[bb]at h;split at h
  ·rename_i b c E;cases h;obtain⟨H,a⟩:=mT r c E;refine⟨λj o e=>?_,?_⟩
   ·cases j with
    |zero=>simp at e;subst e;rfl
    |succ j=>rw[H j o (by trivial)];rfl
   ·simp only[ZM,List.range_succ_eq_map,OC,List.all_map,a];rfl
  ·cases h
section
noncomputable def tQ(K:Fg)(mg:GS)(μ:La)(H:Hp)(s:Nm)(u:Np):Sh->Prop
 | .non=>u=.none
 | .bl b=>u=.bool b
 | .int i=>∃t,u=.int i t
 | .str x=>∃t,u=.str x t
 | .tup ds=>∃a its vs,u=.ref a/\s.heap.IsTuple a its.toArray/\Vals vs its/\ai K mg μ H ds vs
 | .lst ds=>∃a its vs,u=.ref a/\s.heap.IsList a its.toArray/\Vals vs its/\ai K mg μ H ds vs
theorem mU(I:Inv X pq σ H s)(c:aJ X.K ⟨X.mg,F⟩ μ S H){x:Sh}(r:Rep X.K ⟨X.mg,F⟩ μ H d v)(q:RelV v u)(e:sh S d=some x):tQ X.K ⟨X.mg,F⟩ μ H s u x:=by
 cases d with
 |non=>cases e;cases hO r;exact q
 |bl b=>cases e;cases f_ r;exact q
 |int b=>cases e;cases aG r;exact q
 |str b=>cases e;cases dM r;exact q
 |tup f=>cases e;obtain⟨a,vs,rfl,h,k⟩:=bQ r;cases q;obtain⟨i,R,p,_⟩:=I.tuple h;exact⟨a,_,_,rfl,p,R,k⟩
 |lst f=>cases e;obtain⟨a,vs,rfl,h,k⟩:=cU c r rfl;cases q;obtain⟨i,R,p,_⟩:=I.list (.of h);exact⟨a,_,_,rfl,p.isList,R,k⟩
 |ref n=>
  replace e:S[n]?.map _=some x:=e;cases E:S[n]? with
  |none=>simp_all
  |some f=>rw[E]at e;cases e;obtain⟨a,vs,rfl,h,k⟩:=cU c r E;subst q;obtain⟨i,R,p,_⟩:=I.list (.of h);exact⟨a,_,_,rfl,p.isList,R,k⟩
 |_=>cases e
def rn(A:NX)(s:Nm)(f:D->D->Option Bool)(K:Fg)(mg:GS)(μ:La)(H:Hp):Prop:=
 ∀d e v w u z k,Rep K mg μ H d v->RelV v u->Rep K mg μ H e w->RelV w z->f d e=some k->SeqAt.EqAt A s u z k
theorem zx{f:D->D->Option Bool}{mg:GS}(F:rn A s f K mg μ H){es:List D}{vs W:List V}{zs:Lv}(r:ai K mg μ H ds vs)(q:Vals vs us)(R:ai K mg μ H es W)(Q:Vals W zs){k:Bool}
  (h:bb (Nq f ds es)=some k):∀j (h1:j<us.toArray.size) (h2:j<zs.toArray.size),SeqAt.EqAt A s us.toArray[j] zs.toArray[j] (eJ (Nq f ds es) j):=by
 intro j h1 h2;have L:=r.length;have o:=R.length;have p:=q.length;have t:=Q.length
 have l:j<us.length:=by simpa using h1
 have m:j<zs.length:=by simpa using h2
 have a:ds[j]?=some (ds[j]'(by omega)):=Zf _;have b:es[j]?=some (es[j]'(by omega)):=Zf _;obtain⟨v,b1,c⟩:=r.get a;obtain⟨w,b2,C⟩:=R.get b;obtain⟨u,b3,d⟩:=q.get b1;obtain⟨z,B,g⟩:=Q.get b2
 have E:us.toArray[j]=u:=by have:=Zg.mp b3;obtain⟨_,e⟩:=this;simpa using e
 have i:zs.toArray[j]=z:=by have:=Zg.mp B;obtain⟨_,e⟩:=this;simpa using e
 rw[E,i];have n:(Nq f ds es)[j]?=some (f (ds[j]'(by omega)) (es[j]'(by omega))):=by rw[Pg,a,b]
 exact F _ _ v w u z _ c d C g ((mT _ _ h).1 j _ n)
theorem zy{f:D->D->Option Bool}{es:List D}{k:Bool}(h:bb (Nq f ds es)=some k)(m:Nat)(H:m=min ds.length es.length):(Nt m).all (eJ (Nq f ds es))=k:=by have:=(mT _ _ h).2;simp_all
open PySem.SeqAt
theorem M3{mg:GS}{f:D->D->Option Bool}(F:rn A.in1 s f K mg μ H)(c:A.units<cLine):∀{x y:Sh} {k:Bool},tQ K mg μ H s u x->tQ K mg μ H s z y->ye f x y=some k->
  RcAt A s u z k/\RcNeAt A s u z (!k):=by
 intro x y k j d h;cases x with
 |non=>
  cases j;cases y with
  |non=>cases d;cases h;exact⟨RcAt.none_none,RcNeAt.none_none⟩
  |bl b=>cases d;cases h;exact⟨RcAt.none_bool b,RcNeAt.none_bool b⟩
  |int b=>obtain⟨t,rfl⟩:=d;cases h;exact⟨RcAt.none_int b t,RcNeAt.none_int b t⟩
  |str b=>obtain⟨t,rfl⟩:=d;cases h;exact⟨RcAt.none_str b t,RcNeAt.none_str b t⟩
  |tup b=>obtain⟨a,e,vs,rfl,p,_⟩:=d;cases h;exact⟨RcAt.none_tuple p c,RcNeAt.none_tuple p c⟩
  |lst b=>obtain⟨a,e,vs,rfl,p,_⟩:=d;cases h;exact⟨RcAt.none_list p c,RcNeAt.none_list p c⟩
 |bl a=>
  cases j;cases y with
  |non=>cases d;cases h;exact⟨RcAt.bool_none a,RcNeAt.bool_none a⟩
  |bl b=>cases d;cases h;exact⟨RcAt.bool_bool a b,RcNeAt.bool_bool a b⟩
  |int b=>obtain⟨t,rfl⟩:=d;cases h;exact⟨RcAt.bool_int a b t,RcNeAt.bool_int a b t⟩
  |str b=>obtain⟨t,rfl⟩:=d;cases h;exact⟨RcAt.bool_str a b t,RcNeAt.bool_str a b t⟩
  |tup b=>obtain⟨_,e,vs,rfl,p,_⟩:=d;cases h;exact⟨RcAt.bool_tuple a p c,RcNeAt.bool_tuple a p c⟩
  |lst b=>obtain⟨_,e,vs,rfl,p,_⟩:=d;cases h;exact⟨RcAt.bool_list a p c,RcNeAt.bool_list a p c⟩
 |int a=>
  obtain⟨T,rfl⟩:=j;cases y with
  |non=>cases d;cases h;exact⟨RcAt.int_none a T,RcNeAt.int_none a T⟩
  |bl b=>cases d;cases h;exact⟨RcAt.int_bool a T b,RcNeAt.int_bool a T b⟩
  |int b=>obtain⟨t,rfl⟩:=d;cases h;exact⟨RcAt.int_int a T b t,RcNeAt.int_int a T b t⟩
  |str b=>obtain⟨t,rfl⟩:=d;cases h;exact⟨RcAt.int_str a T b t,RcNeAt.int_str a T b t⟩
  |tup b=>obtain⟨_,e,vs,rfl,p,_⟩:=d;cases h;exact⟨RcAt.int_tuple a T p c,RcNeAt.int_tuple a T p c⟩
  |lst b=>obtain⟨_,e,vs,rfl,p,_⟩:=d;cases h;exact⟨RcAt.int_list a T p c,RcNeAt.int_list a T p c⟩
 |str a=>
  obtain⟨T,rfl⟩:=j;cases y with
  |non=>cases d;cases h;exact⟨RcAt.str_none a T,RcNeAt.str_none a T⟩
  |bl b=>cases d;cases h;exact⟨RcAt.str_bool a T b,RcNeAt.str_bool a T b⟩
  |int b=>obtain⟨t,rfl⟩:=d;cases h;exact⟨RcAt.str_int a T b t,RcNeAt.str_int a T b t⟩
  |str b=>obtain⟨t,rfl⟩:=d;cases h;exact⟨RcAt.str_str a T b t,RcNeAt.str_str a T b t⟩
  |tup b=>obtain⟨_,e,vs,rfl,p,_⟩:=d;cases h;exact⟨RcAt.str_tuple a T p c,RcNeAt.str_tuple a T p c⟩
  |lst b=>obtain⟨_,e,vs,rfl,p,_⟩:=d;cases h;exact⟨RcAt.str_list a T p c,RcNeAt.str_list a T p c⟩
 |tup a=>
  obtain⟨G,I,V,rfl,P,q,r⟩:=j;cases y with
  |non=>cases d;cases h;exact⟨RcAt.tuple_none P c,RcNeAt.tuple_none P c⟩
  |bl b=>cases d;cases h;exact⟨RcAt.tuple_bool b P c,RcNeAt.tuple_bool b P c⟩
  |int b=>obtain⟨t,rfl⟩:=d;cases h;exact⟨RcAt.tuple_int b t P c,RcNeAt.tuple_int b t P c⟩
  |str b=>obtain⟨t,rfl⟩:=d;cases h;exact⟨RcAt.tuple_str b t P c,RcNeAt.tuple_str b t P c⟩
  |tup b=>
   obtain⟨n,i,v,rfl,g,Q,R⟩:=d;replace h:(bb (Nq f a b)).map (· &&a.length==b.length)=some k:=h;obtain⟨N,w,J⟩:=NN.mp h;have m:=zx F r q R Q w;have L:=r.length;have B:=R.length;have o:=q.length;have C:=Q.length
   have E:k=((Nt (min I.toArray.size i.toArray.size)).all (eJ (Nq f a b))&&I.toArray.size==i.toArray.size):=by rw[<-J,zy w _ (by grind),Zv,Zv,<-o,<-C,<-L,<-B]
   rw[E];exact⟨RcAt.tuples P g c m,RcNeAt.tuples P g c m⟩
  |lst b=>obtain⟨n,i,v,rfl,g,_⟩:=d;cases h;exact⟨RcAt.tuple_list P g c,RcNeAt.tuple_list P g c⟩
 |lst a=>
  obtain⟨G,I,V,rfl,P,q,r⟩:=j;cases y with
  |non=>cases d;cases h;exact⟨RcAt.list_none P c,RcNeAt.list_none P c⟩
  |bl b=>cases d;cases h;exact⟨RcAt.list_bool b P c,RcNeAt.list_bool b P c⟩
  |int b=>obtain⟨t,rfl⟩:=d;cases h;exact⟨RcAt.list_int b t P c,RcNeAt.list_int b t P c⟩
  |str b=>obtain⟨t,rfl⟩:=d;cases h;exact⟨RcAt.list_str b t P c,RcNeAt.list_str b t P c⟩
  |tup b=>obtain⟨n,i,v,rfl,g,_⟩:=d;cases h;exact⟨RcAt.list_tuple P g c,RcNeAt.list_tuple P g c⟩
  |lst b=>
   obtain⟨n,i,v,rfl,g,Q,R⟩:=d;have L:=r.length;have B:=R.length;have o:=q.length;have C:=Q.length
   replace h:(if a.length=b.length then bb (Nq f a b)else some Nl)=some k:=h;split at h
   ·rename_i M;have m:=zx F r q R Q h
    have E:k=(Nt I.toArray.size).all (eJ (Nq f a b)):=by rw[zy h _ (by rw[Zv,<-o,<-L];omega)]
    rw[E];have l:I.toArray.size=i.toArray.size:=by grind
    exact⟨RcAt.lists P g l c m,RcNeAt.lists P g l c m⟩
   ·rename_i M;cases h;have l:(I.toArray.size !=i.toArray.size)=Nk:=by grind
    exact⟨RcAt.lists_lengths P g l c,RcNeAt.lists_lengths P g l c⟩
theorem zA(I:Inv X pq σ H s)(sk:aJ X.K ⟨X.mg,F⟩ μ S H):∀(n:Nat) (d e:D) (v:V) (k:Bool),Rep X.K ⟨X.mg,F⟩ μ H d v->Rep X.K ⟨X.mg,F⟩ μ H e v->b_ S n d e=some k->k=Nk:=by
 intro n
 induction n with
 |zero=>intro d e v k _ _ h;cases h
 |succ n ih=>
  intro d e v k rd re h
  have L:∀(p E:List D) (vs:List V) (k:Bool),ai X.K ⟨X.mg,F⟩ μ H p vs->ai X.K ⟨X.mg,F⟩ μ H E vs->bb (Nq (b_ S n) p E)=some k->k=Nk:=by
   intro p
   induction p with
   |nil=>intro E vs k _ _ h;cases h;rfl
   |cons d p Z=>
    intro E vs k R r h;obtain⟨v,W,rfl,T,b1⟩:=R.uncons;cases E with
    |nil=>cases h;rfl
    |cons e E=>
     obtain⟨v',ws',q,G,b2⟩:=r.uncons;cases q;rw[O4]at h;unfold bb at h;split at h
     ·rename_i x y q K;cases h;rw[ih d e v x T G q,Z E W y b1 b2 K];rfl
     ·cases h
  unfold b_ at h;cases q:sh S d with
  |none=>rw[q]at h;cases h
  |some x=>
   cases K:sh S e with
   |none=>rw[q,K]at h;cases h
   |some y=>
    rw[q,K]at h;replace h:ye (b_ S n) x y=some k:=h
    obtain⟨u,ru⟩:∃u,RelV v u:=by
     cases v with
     |non=>exact⟨_,rfl⟩
     |bl b=>exact⟨_,rfl⟩
     |int i=>exact⟨.int i 0,0,rfl⟩
     |str x=>exact⟨.str x 0,0,rfl⟩
     |byt x=>exact⟨.bytes x 0,0,rfl⟩
     |flt x=>exact⟨.float x 0,0,rfl⟩
     |ref a=>exact⟨_,rfl⟩
     |ty n=>exact⟨_,rfl⟩
    have C:=mU I sk rd ru q;have f:=mU I sk re ru K
    have len:∀{p E:List D} {vs W:List V} {us:Lv},ai X.K ⟨X.mg,F⟩ μ H p vs->Vals vs us->ai X.K ⟨X.mg,F⟩ μ H E W->Vals W us->vs=W/\p.length=E.length:=λR O r Q=>by have:=O.inj Q;subst this;exact⟨rfl,R.length.trans r.length.symm⟩
    cases x with
    |non=>
     cases C;cases y with
     |non=>cases h;rfl
     |bl b=>cases f
     |int b=>obtain⟨t,z⟩:=f;cases z
     |str b=>obtain⟨t,z⟩:=f;cases z
     |tup b=>obtain⟨_,_,_,z,_⟩:=f;cases z
     |lst b=>obtain⟨_,_,_,z,_⟩:=f;cases z
    |bl a=>
     cases C;cases y with
     |non=>cases f
     |bl b=>cases f;cases h;simp
     |int b=>obtain⟨t,z⟩:=f;cases z
     |str b=>obtain⟨t,z⟩:=f;cases z
     |tup b=>obtain⟨_,_,_,z,_⟩:=f;cases z
     |lst b=>obtain⟨_,_,_,z,_⟩:=f;cases z
    |int a=>
     obtain⟨t',rfl⟩:=C;cases y with
     |non=>cases f
     |bl b=>cases f
     |int b=>obtain⟨t,z⟩:=f;cases z;cases h;simp
     |str b=>obtain⟨t,z⟩:=f;cases z
     |tup b=>obtain⟨_,_,_,z,_⟩:=f;cases z
     |lst b=>obtain⟨_,_,_,z,_⟩:=f;cases z
    |str a=>
     obtain⟨t',rfl⟩:=C;cases y with
     |non=>cases f
     |bl b=>cases f
     |int b=>obtain⟨t,z⟩:=f;cases z
     |str b=>obtain⟨t,z⟩:=f;cases z;cases h;simp
     |tup b=>obtain⟨_,_,_,z,_⟩:=f;cases z
     |lst b=>obtain⟨_,_,_,z,_⟩:=f;cases z
    |tup a=>
     obtain⟨T,m,A,rfl,N,O,R⟩:=C;cases y with
     |non=>cases f
     |bl b=>cases f
     |int b=>obtain⟨t,z⟩:=f;cases z
     |str b=>obtain⟨t,z⟩:=f;cases z
     |tup b=>
      obtain⟨G,j,B,z,P,Q,r⟩:=f;cases z
      have U:m=j:=by
       obtain⟨o,w,_,n,M⟩:=N;obtain⟨o',g,_,n',l⟩:=P;rw[w]at g;cases g;rw[M]at l;injection l with z _
       simpa using ZX Array.toList z
      subst U;obtain⟨rfl,Y⟩:=len R O r Q;replace h:(bb (Nq (b_ S n) a b)).map (· &&a.length==b.length)=some k:=h;obtain⟨k1,e3,e4⟩:=NN.mp h;rw[<-e4,L a b A k1 R r e3,Y];simp
     |lst b=>obtain⟨G,j,B,z,P,Q,r⟩:=f;cases z;obtain⟨o,w,c,n,M⟩:=N;obtain⟨o',g,J,n',l⟩:=P;rw[w]at g;cases g;rw[c]at J;exact absurd J (by decide)
    |lst a=>
     obtain⟨T,m,A,rfl,N,O,R⟩:=C;cases y with
     |non=>cases f
     |bl b=>cases f
     |int b=>obtain⟨t,z⟩:=f;cases z
     |str b=>obtain⟨t,z⟩:=f;cases z
     |tup b=>obtain⟨G,j,B,z,P,Q,r⟩:=f;cases z;obtain⟨o,w,c,n,M⟩:=N;obtain⟨o',g,J,n',l⟩:=P;rw[w]at g;cases g;rw[c]at J;exact absurd J (by decide)
     |lst b=>
      obtain⟨G,j,B,z,P,Q,r⟩:=f;cases z
      have U:m=j:=by
       obtain⟨o,w,_,n,M⟩:=N;obtain⟨o',g,_,n',l⟩:=P;rw[w]at g;cases g;rw[M]at l;injection l with z _
       simpa using ZX Array.toList z
      subst U;obtain⟨rfl,Y⟩:=len R O r Q;replace h:(if a.length=b.length then bb (Nq (b_ S n) a b)else some Nl)=some k:=h;rw[if_pos Y]at h;exact L a b A k R r h
theorem yf(I:Inv X pq σ H s)(G:aJ X.K ⟨X.mg,F⟩ μ S H):∀(n:Nat) (A:NX),A.units+n<cLine->∀d e v w u z k,Rep X.K ⟨X.mg,F⟩ μ H d v->RelV v u->Rep X.K ⟨X.mg,F⟩ μ H e w->RelV w z->b_ S n d e=some k->
  RcAt A s u z k/\RcNeAt A s u z (!k)/\EqAt A s u z k:=by
 intro n
 induction n with
 |zero=>intro A _ d e v w u z k _ _ _ _ h;cases h
 |succ n Z=>
  intro A hA d e v w u z k L R M B h;have o:=λ(D:v=w)=>zA I G (n+1) d e v k L (D▸M) h;unfold b_ at h;cases E:sh S d with
  |none=>rw[E]at h;cases h
  |some x=>
   cases C:sh S e with
   |none=>rw[E,C]at h;cases h
   |some y=>
    rw[E,C]at h;replace h:ye (b_ S n) x y=some k:=h;have j:=mU I G L R E;have f:=mU I G M B C;have Y:A.in1.units=A.units+1:=rfl;obtain⟨J,O⟩:=M3 (λd e v w u z k a b c Q h=>(Z A.in1 (by omega) d e v w u z k a b c Q h).2.2) (by omega) j f h;refine⟨J,O,?_⟩
    have r:∀{l b:Nn},u=.ref l->z=.ref b->EqAt A s u z k:=λ{l b} U W=>by
     subst U;subst W;by_cases K:l=b
     ·subst K
      have D:v=w:=by
       cases v<;>first| (cases R;done)|skip
       all_goals first| (obtain⟨_,q⟩:=R;cases q;done)|skip
       cases w<;>first| (cases B;done)|skip
       all_goals first| (obtain⟨_,q⟩:=B;cases q;done)|skip
       cases R;cases B;rfl
      rw[o D];exact EqAt.same _
     ·exact .of_refs K J
    have g:A.units<cLine:=by omega
    cases x with
    |non=>
     cases j;cases y with
     |non=>cases f;cases h;exact EqAt.same _
     |bl b=>cases f;cases h;exact EqAt.none_bool b
     |int b=>obtain⟨t,rfl⟩:=f;cases h;exact EqAt.none_int b t
     |str b=>obtain⟨t,rfl⟩:=f;cases h;exact EqAt.none_str b t
     |tup b=>obtain⟨a,i,vs,rfl,p,_⟩:=f;cases h;exact EqAt.none_tuple p g
     |lst b=>obtain⟨a,i,vs,rfl,p,_⟩:=f;cases h;exact EqAt.none_list p g
    |bl a=>
     cases j;cases y with
     |non=>cases f;cases h;exact EqAt.bool_none a
     |bl b=>cases f;cases h;exact EqAt.bool_bool a b
     |int b=>obtain⟨t,rfl⟩:=f;cases h;exact EqAt.bool_int a b t
     |str b=>obtain⟨t,rfl⟩:=f;cases h;exact EqAt.bool_str a b t
     |tup b=>obtain⟨_,i,vs,rfl,p,_⟩:=f;cases h;exact EqAt.bool_tuple a p g
     |lst b=>obtain⟨_,i,vs,rfl,p,_⟩:=f;cases h;exact EqAt.bool_list a p g
    |int a=>
     obtain⟨T,rfl⟩:=j;cases y with
     |non=>cases f;cases h;exact EqAt.int_none a T
     |bl b=>cases f;cases h;exact EqAt.int_bool a T b
     |int b=>obtain⟨t,rfl⟩:=f;cases h;exact EqAt.int_int a T b t
     |str b=>obtain⟨t,rfl⟩:=f;cases h;exact EqAt.int_str a T b t
     |tup b=>obtain⟨_,i,vs,rfl,p,_⟩:=f;cases h;exact EqAt.int_tuple a T p g
     |lst b=>obtain⟨_,i,vs,rfl,p,_⟩:=f;cases h;exact EqAt.int_list a T p g
    |str a=>
     obtain⟨T,rfl⟩:=j;cases y with
     |non=>cases f;cases h;exact EqAt.str_none a T
     |bl b=>cases f;cases h;exact EqAt.str_bool a T b
     |int b=>obtain⟨t,rfl⟩:=f;cases h;exact EqAt.str_int a T b t
     |str b=>obtain⟨t,rfl⟩:=f;cases h;exact EqAt.str_str a T b t
     |tup b=>obtain⟨_,i,vs,rfl,p,_⟩:=f;cases h;exact EqAt.str_tuple a T p g
     |lst b=>obtain⟨_,i,vs,rfl,p,_⟩:=f;cases h;exact EqAt.str_list a T p g
    |tup a=>
     obtain⟨N,m,V,rfl,P,_⟩:=j;cases y with
     |non=>cases f;cases h;exact EqAt.tuple_none P g
     |bl b=>cases f;cases h;exact EqAt.tuple_bool b P g
     |int b=>obtain⟨t,rfl⟩:=f;cases h;exact EqAt.tuple_int b t P g
     |str b=>obtain⟨t,rfl⟩:=f;cases h;exact EqAt.tuple_str b t P g
     |tup b=>obtain⟨_,i,vs,rfl,p,_⟩:=f;exact r rfl rfl
     |lst b=>obtain⟨_,i,vs,rfl,p,_⟩:=f;exact r rfl rfl
    |lst a=>
     obtain⟨N,m,V,rfl,P,_⟩:=j;cases y with
     |non=>cases f;cases h;exact EqAt.list_none P g
     |bl b=>cases f;cases h;exact EqAt.list_bool b P g
     |int b=>obtain⟨t,rfl⟩:=f;cases h;exact EqAt.list_int b t P g
     |str b=>obtain⟨t,rfl⟩:=f;cases h;exact EqAt.list_str b t P g
     |tup b=>obtain⟨_,i,vs,rfl,p,_⟩:=f;exact r rfl rfl
     |lst b=>obtain⟨_,i,vs,rfl,p,_⟩:=f;exact r rfl rfl
end
noncomputable def zB(_ _:D)(_:ae):Res D:=.fail
noncomputable def Mq(_ _:D):Option Bool:=none
noncomputable def Mr(_:D)(_ _:Option Int)(_:ae):Res D:=.fail
noncomputable def Ha(_ _:D)(_:ae):Res D:=.fail
noncomputable def zC(_:List D)(_:ae):Res D:=.fail
theorem j_{e:D}{k:Bool}(h:Mq d e=some k):∃x y,d=.str x/\e=.str y/\(!(PC y x 0 y.length 1).isEmpty)=k:=by cases h
theorem Hc:zk X (rD X.K X.mg zB):=by intro V a p s j H x y v u Q I c f h b;obtain⟨F,i,S,d,e,g,r,R,w⟩:=h;exact w.elim
theorem zD{xs:List V}{Q:VK}(I:L2.Inv X pq σ H s)(r:Vals xs us)(a:aJ X.K ⟨X.mg,F⟩ μ S H)(R:ai X.K ⟨X.mg,F⟩ μ H ds xs)(w:aR X.K ⟨X.mg,F⟩ μ H Q (zC ds S)):wpAny (model X.prog X.w) X.A (call (.type "int") us) (EP X pq σ Q) X.xe s:=w.elim
theorem Hd{x:V}{v:Np}{Q:VK}(I:L2.Inv X pq σ H s)(R:RelV x v)(hs:s.heap.IsSliceOf sl vl vu .none)(pl:Qh vl lo)(p:Qh vu hi)(a:aJ X.K ⟨X.mg,F⟩ μ S H)(r:Rep X.K ⟨X.mg,F⟩ μ H d x)(w:aR X.K ⟨X.mg,F⟩ μ H Q (Mr d lo hi S)):
  ∃T id,typeLookup (.type T) "__getitem__"=pure (some (.builtin id))/\s.TypeIs v T/\wpAny (model X.prog X.w) X.A (getItem v (.ref sl)) (EP X pq σ Q) X.xe s:=w.elim
noncomputable def yg(eq lt:D->D->Option Bool):List D->List D->Option Bool
 | [],[]=>some Nl
 | [],_::_=>some Nk
 |_::_,[]=>some Nl
 |a::as,b::bs=>match eq a b with
  |some Nk=>yg eq lt as bs
  |some Nl=>lt a b
  |none=>none
noncomputable def eD(S:ae):Nat->D->D->Option Bool
 |0,_,_=>none
 |n+1,.int a,.int b=>some (decide (a<b))
 |n+1,.tup a,.tup b=>yg (b_ S n) (eD S n) a b
 |_,_,_=>none
open PySem.SeqAt
def hV(A:NX)(s:Nm)(y x:Np)(b:Bool):Prop:=
 ∀(prog:Nu) (w:NG) (E:Vs) (Q:Vs),Q (.bool b) s->wpAny (model prog w) A (richCompare .Lt y x) Q E s
inductive c5 (A:NX)(s:Nm):Lv->Lv->Bool->Prop where
 |nn:c5 A s [] [] Nl
 |nc {w ws}:c5 A s [] (w::ws) Nk
 |cn {v vs}:c5 A s (v::vs) [] Nl
 |eq {v w vs ws k}:EqAt A s v w Nk->c5 A s vs ws k->c5 A s (v::vs) (w::ws) k
 |lt {v w vs ws k}:EqAt A s v w Nl->hV A s v w k->c5 A s (v::vs) (w::ws) k
section
open PySem.AutoSeq1 (wpAny_loadPart')
open PySem.MeetsSeq PySem.MeetsSeq2 PySem.MeetsSeq3
theorem He(l b:Nn)(items i:Av)(n N:Nat)(dd D:Option Nn)(sl B:Array (Ov))(k:Bool):
  Meets (N8.«tuple.__lt__» ⟨[.ref l,.ref b],[]⟩)
   (λA R s=>s.heap.get? l=some {cls:=.type "tuple",dict:=dd,data:=.seq items n,slots:=sl}/\s.heap.get? b=some {cls:=.type "tuple",dict:=D,data:=.seq i N,slots:=B}/\
    c5 A.in1 s items.toList i.toList k/\R (.ok (.ret (.bool k))) s):=
 .of_wp λp w A R s h=>by
  obtain⟨u,g,d,T,O⟩:=s;obtain⟨F,C,t,h⟩:=h;have I:=Ra
  wp_walk using PM F,PM C,OX _ (λr b S=>b.1=none/\S=⟨u,g,d,T,O⟩/\∃(vs W:Lv),r=vs.zip W/\
   c5 A.in1 ⟨u,g,d,T,O⟩ vs W k/\vs.length+i.size=W.length+items.size/\R (.ok (.ret (.bool k))) ⟨u,g,d,T,O⟩) _
  case turn=>
   rintro⟨y,x⟩ r b S ⟨e,rfl,vs,W,a,f,H,m⟩;cases f with
   |nn=>rw[P0]at a;cases a
   |nc=>rw[P0]at a;cases a
   |cn=>rw[QL]at a;cases a
   |eq o q=>
    rw[Yb]at a;injection a with j c
    injection j with z t
    subst z t;simp only[ZM]at H;refine Za (o p w _ _ ?_)
    wp_walk
    exact⟨rfl,rfl,_,_,c,q,by omega,m⟩
   |lt o q=>
    rw[Yb]at a;injection a with j c
    injection j with z t
    subst z t;refine Za (o p w _ _ ?_);have v:=λ(E:Vs) (Q:Vs)=>q p w E Q
    wp_walk using v
    exact⟨_,rfl,by simpa using m⟩
  case fin=>
   rintro⟨b1,b2⟩ S ⟨e,rfl,vs,W,a,f,H,m⟩;simp only at e;subst e
   have G:k=decide (items.size<i.size):=by
    cases f with
    |nn=>simp only[Oi]at H;exact(ZG (by omega)).symm
    |nc=>simp only[Oi,ZM]at H;exact(ZW (by omega)).symm
    |cn=>simp only[Oi,ZM]at H;exact(ZG (by omega)).symm
    |eq o q=>rw[Yb]at a;cases a
    |lt o q=>rw[Yb]at a;cases a
   rw[G]at m
   wp_walk
   exact⟨_,rfl,by simpa[Qm]using m⟩
  case h=>exact⟨rfl,rfl,items.toList,i.toList,rfl,t,by simp;omega,h⟩
end
theorem hV.tuples{l b:Nn}{vs W:Lv}{k:Bool}(m:s.heap.IsTuple l vs.toArray)(g:s.heap.IsTuple b W.toArray)(o:A.units<cLine)(r:c5 A.in1 s vs W k):hV A s (.ref l) (.ref b) k:=λp w E Q h=>by
 obtain⟨⟨cls,q,D,sl⟩,e,i,n,j⟩:=id m;obtain⟨⟨C,f,d,S⟩,H,a,N,c⟩:=id g;subst i j a c
 exact S8 ⟨_,e,rfl⟩ ⟨_,H,rfl⟩ PySem.F.slot_tuple_lt PySem.F.entry_tuple_lt (PySem.F.args_tuple_lt_2 _ _) (He l b _ _ n _ _ _ _ _ k)
  ⟨e,H,by omega,show OI k≠R9/\Q _ s from⟨(λx=>nomatch x),h⟩⟩ o
def zE(A:NX)(s:Nm)(y x:Np)(b:Bool):Prop:=
 ∀(prog:Nu) (w:NG) (E:Vs) (Q:Vs),Q (.bool b) s->wpAny (model prog w) A (richCompare .LtE y x) Q E s
inductive dn (A:NX)(s:Nm):Lv->Lv->Bool->Prop where
 |nl {ws}:dn A s [] ws Nk
 |cn {v vs}:dn A s (v::vs) [] Nl
 |eq {v w vs ws k}:EqAt A s v w Nk->dn A s vs ws k->dn A s (v::vs) (w::ws) k
 |le {v w vs ws k}:EqAt A s v w Nl->zE A s v w k->dn A s (v::vs) (w::ws) k
section
open PySem.AutoSeq1 (wpAny_loadPart')
open PySem.MeetsSeq PySem.MeetsSeq2 PySem.MeetsSeq3
theorem Hf(l b:Nn)(xs Y:Av)(n N:Nat)(dd D:Option Nn)(sl z:Array (Ov))(k:Bool):
  Meets (N8.«tuple.__le__» ⟨[.ref l,.ref b],[]⟩)
   (λA R s=>s.heap.get? l=some {cls:=.type "tuple",dict:=dd,data:=.seq xs n,slots:=sl}/\s.heap.get? b=some {cls:=.type "tuple",dict:=D,data:=.seq Y N,slots:=z}/\
    dn A.in1 s xs.toList Y.toList k/\R (.ok (.ret (.bool k))) s):=
 .of_wp λp w A R s h=>by
  obtain⟨t,g,d,T,O⟩:=s;obtain⟨C,B,q,h⟩:=h;have G:=Ra
  wp_walk using PM C,PM B,OX _ (λr b S=>b.1=none/\S=⟨t,g,d,T,O⟩/\∃(vs W:Lv),r=vs.zip W/\
   dn A.in1 ⟨t,g,d,T,O⟩ vs W k/\vs.length+Y.size=W.length+xs.size/\R (.ok (.ret (.bool k))) ⟨t,g,d,T,O⟩) _
  case turn=>
   rintro⟨y,x⟩ r b S ⟨e,rfl,vs,W,a,f,H,j⟩;cases f with
   |nl=>rw[P0]at a;cases a
   |cn=>rw[QL]at a;cases a
   |eq m o=>
    rw[Yb]at a;injection a with i c
    injection i with v q
    subst v q;simp only[ZM]at H;refine Za (m p w _ _ ?_)
    wp_walk
    exact⟨rfl,rfl,_,_,c,o,by omega,j⟩
   |le m o=>
    rw[Yb]at a;injection a with i c
    injection i with v q
    subst v q;refine Za (m p w _ _ ?_);have u:=λ(E:Vs) (Q:Vs)=>o p w E Q
    wp_walk using u
    exact⟨_,rfl,by simpa using j⟩
  case fin=>
   rintro⟨b1,b2⟩ S ⟨e,rfl,vs,W,a,f,H,j⟩;simp only at e;subst e
   have F:k=decide (xs.size<=Y.size):=by
    cases f with
    |nl=>simp only[Oi]at H;exact(ZW (by omega)).symm
    |cn=>simp only[Oi,ZM]at H;exact(ZG (by omega)).symm
    |eq m o=>rw[Yb]at a;cases a
    |le m o=>rw[Yb]at a;cases a
   rw[F]at j
   wp_walk
   exact⟨_,rfl,by simpa[Qm]using j⟩
  case h=>exact⟨rfl,rfl,xs.toList,Y.toList,rfl,q,by simp;omega,h⟩
end
theorem Hg{l b:Nn}{vs W:Lv}{k:Bool}(m:s.heap.IsTuple l vs.toArray)(g:s.heap.IsTuple b W.toArray)(o:A.units<cLine)(r:dn A.in1 s vs W k):zE A s (.ref l) (.ref b) k:=λp w E Q h=>by
 obtain⟨⟨cls,q,D,sl⟩,e,i,n,j⟩:=id m;obtain⟨⟨C,f,d,S⟩,H,a,N,c⟩:=id g;subst i j a c
 exact S8 ⟨_,e,rfl⟩ ⟨_,H,rfl⟩ PySem.F.slot_tuple_le PySem.F.entry_tuple_le (PySem.F.args_tuple_le_2 _ _) (Hf l b _ _ n _ _ _ _ _ k)
  ⟨e,H,by omega,show OI k≠R9/\Q _ s from⟨(λx=>nomatch x),h⟩⟩ o
noncomputable def zF:List D->List D->Option Bool
 | [],_=>some Nk
 |_::_,[]=>some Nl
 | .int a::as,.int b::bs=>if a=b then zF as bs else some (decide (a<=b))
 |_::_,_::_=>none
theorem ka{K:Fg}{mg:GS}{μ:La}{H:Hp}{A:NX}{s:Nm}:∀(ds es:List D) (vs W:List V) (us zs:Lv) (k:Bool),ai K mg μ H ds vs->Vals vs us->ai K mg μ H es W->Vals W zs->zF ds es=some k->dn A s us zs k
 | [],es,vs,W,us,zs,k,r,q,R,i,h=>by
  unfold ai at r;subst r;have:=q.zero;subst this
  cases h;exact .nl
 |d::ds,[],vs,W,us,zs,k,r,q,R,i,h=>by
  obtain⟨v,vs,rfl,l,b1⟩:=r.uncons;unfold ai at R;subst R;have:=i.zero;subst this
  cases q;have f:some Nl=some k:=by cases d<;>exact h
  cases f;exact .cn
 |d::ds,e::es,vs,W,us,zs,k,r,q,R,i,h=>by
  obtain⟨v,vs,rfl,l,b1⟩:=r.uncons;obtain⟨w,W,rfl,m,b2⟩:=R.uncons;cases d with
  |int a=>cases e with
   |int b=>
    have:=aG l;have:=aG m;subst v w
    cases q with
    |cons C d1=>cases i with
     |cons n d2=>
      obtain⟨t,rfl⟩:=C;obtain⟨T,rfl⟩:=n;have f:(if a=b then zF ds es else some (decide (a<=b)))=some k:=h;have g:=EqAt.int_int (A:=A) (s:=s) a t b T;by_cases c:a=b
      ·rw[if_pos c]at f;have j:(a==b)=Nk:=by simpa using c
       rw[j]at g;exact .eq g (ka ds es vs W _ _ k b1 d1 b2 d2 f)
      ·rw[if_neg c]at f;have j:(a==b)=Nl:=by simpa using c
       rw[j]at g;cases f;exact .le g λp w E Q o=>(PyProof.Rows.le_int o:wpAny (model p w) A (compareOp .LtE (.int _ t) (.int _ T)) Q E s)
   |_=>cases h
  |_=>
   have f:(none:Option Bool)=some k:=by cases e<;>exact h
   cases f
theorem tR(I:Inv X pq σ H s)(K:aJ X.K ⟨X.mg,F⟩ μ S H):∀(n:Nat) (A:NX),A.units+n<cLine->∀d e v w u z k,Rep X.K ⟨X.mg,F⟩ μ H d v->RelV v u->Rep X.K ⟨X.mg,F⟩ μ H e w->RelV w z->eD S n d e=some k->hV A s u z k:=by
 intro n
 induction n with
 |zero=>intro A _ d e v w u z k _ _ _ _ h;cases h
 |succ n Y=>
  intro A hA d e v w u z k y G B J h;have P:A.in1.units=A.units+1:=rfl
  have L:∀(f c:List D) (vs W:List V) (U Z:Lv),ai X.K ⟨X.mg,F⟩ μ H f vs->Vals vs U->ai X.K ⟨X.mg,F⟩ μ H c W->Vals W Z->yg (b_ S n) (eD S n) f c=some k->c5 A.in1 s U Z k:=by
   intro f
   induction f with
   |nil=>
    intro c vs W U Z R g r q h;unfold ai at R;subst R;have:=g.zero;subst this
    cases c with
    |nil=>unfold ai at r;subst r;have:=q.zero;subst this;cases h;exact .nn
    |cons e c=>obtain⟨w,W,rfl,_,_⟩:=r.uncons;cases q;cases h;exact .nc
   |cons d f x=>
    intro c vs W U Z R g r q h;obtain⟨v,vs,rfl,i,b1⟩:=R.uncons;cases g with
    |cons C d1=>
     cases c with
     |nil=>unfold ai at r;subst r;have:=q.zero;subst this;cases h;exact .cn
     |cons e c=>
      obtain⟨w,W,rfl,j,b2⟩:=r.uncons;cases q with
      |cons l d2=>
       unfold yg at h;split at h
       ·rename_i m;exact .eq (yf I K n A.in1 (by omega) d e v w _ _ Nk i C j l m).2.2 (x c vs W _ _ b1 d1 b2 d2 h)
       ·rename_i m;exact .lt (yf I K n A.in1 (by omega) d e v w _ _ Nl i C j l m).2.2 (Y A.in1 (by omega) d e v w _ _ k i C j l h)
       ·cases h
  unfold eD at h;split at h
  ·rename_i M;cases M
  ·have:=aG y;have:=aG B;subst v w
   obtain⟨t,rfl⟩:=G;obtain⟨t',rfl⟩:=J;cases h;exact λp w E Q T=>(PyProof.Rows.lt_int T:wpAny (model p w) A (compareOp .Lt (.int _ t) (.int _ t')) Q E s)
  ·rename_i n' f c o;cases o;obtain⟨a,vs,rfl,N,R⟩:=bQ y;obtain⟨b,W,rfl,O,r⟩:=bQ B;cases G;cases J;obtain⟨U,g,p1,_⟩:=I.tuple N;obtain⟨Z,q,p2,_⟩:=I.tuple O;exact hV.tuples p1 p2 (by omega) (L f c vs W U Z R g r q h)
  ·cases h
noncomputable def a_:Nat:=40
noncomputable def kb:D->Bool
 | .non=>Nk
 |_=>Nl
noncomputable def bw(o:Option Bool)(S:ae):Res D:=match o with
 |some k=>.ok (.bl k) S
 |none=>.fail
noncomputable def tU(l:List (Option Bool)):Option Bool:=(bb (l.map λo=>o.map not)).map not
noncomputable def ro(d e:D)(S:ae):Option Bool:=match az S e with
 |some xs=>tU (xs.map λy=>b_ S a_ y d)
 |none=>Mq d e
noncomputable def Fx(d e:D)(S:ae):Res D:=match d,e with
 | .int i,.int j=>.ok (.bl (decide (i<=j))) S
 | .tup a,.tup b=>bw (zF a b) S
 |_,_=>.fail
noncomputable def Hh(d e:D)(S:ae):Res D:=match d,e with
 | .int i,.int j=>.ok (.bl (decide (j<i))) S
 |_,_=>.fail
noncomputable def Hi(d e:D)(S:ae):Res D:=match d,e with
 | .int i,.int j=>.ok (.bl (decide (j<=i))) S
 |_,_=>.fail
noncomputable def Hj(d e:D)(S:ae):Res D:=match e with
 | .non=>.ok (.bl (kb d)) S
 |_=>.fail
noncomputable def tV(d e:D)(S:ae):Res D:=match e with
 | .non=>.ok (.bl (!kb d)) S
 |_=>.fail
noncomputable def ax(o:PU)(d e:D)(S:ae):Res D:=match o with
 | .Eq=>bw (b_ S a_ d e) S
 | .NotEq=>bw ((b_ S a_ d e).map not) S
 | .Lt=>bw (eD S a_ d e) S
 | .LtE=>Fx d e S
 | .Gt=>Hh d e S
 | .GtE=>Hi d e S
 | .In=>bw (ro d e S) S
 | .NotIn=>bw ((ro d e S).map not) S
 | .Is=>Hj d e S
 | .IsNot=>tV d e S
theorem zG{mg:GS}(r:Rep K mg μ H d v):decide (v=.non)=kb d:=by
 cases d with
 |non=>cases hO r;rfl
 |bl b=>cases f_ r;rfl
 |int b=>cases aG r;rfl
 |str b=>cases dM r;rfl
 |tup b=>obtain⟨a,vs,rfl,_⟩:=bQ r;rfl
 |lst b=>obtain⟨a,vs,rfl,_⟩:=r;rfl
 |ref b=>obtain⟨a,rfl,_⟩:=r;rfl
 |scr b=>obtain⟨a,vs,rfl,_⟩:=r;rfl
 |fn b=>obtain⟨a,rfl,_⟩:=r;rfl
 |dct=>obtain⟨a,rfl,_⟩:=r;rfl
 |dks b=>obtain⟨a,_,rfl,_⟩:=r;rfl
 |ty n=>subst r;rfl
theorem fK{mg:GS}{Q:VK}{o:Option Bool}(w:aR K mg μ H Q (bw o S))(s:aJ K mg μ S H):∃k,o=some k/\Q (.bl k) H:=by
 cases o with
 |none=>exact w.elim
 |some k=>exact⟨k,rfl,w.now s cJ⟩
theorem zH{l:List (Option Bool)}{k:Bool}(h:tU l=some k):(∀o∈l,o.isSome=Nk)/\k=l.any (λo=>o==some Nk):=by
 obtain⟨K,e,E⟩:=NN.mp h;subst E;clear h
 induction l generalizing K with
 |nil=>cases e;simp_all
 |cons o r i=>
  rw[Yc]at e;unfold bb at e;split at e
  ·simp_all
  ·cases e
theorem rx(I:Inv X pq σ H s)(O:aJ X.K ⟨X.mg,F⟩ μ S H)(hu:A.units+64<cLine){e:D}{w:V}{k:Bool}(rd:Rep X.K ⟨X.mg,F⟩ μ H d v)(ru:RelV v u)(re:Rep X.K ⟨X.mg,F⟩ μ H e w)(rz:RelV w z)
  (l:(az S e).isSome=Nk) (h:ro d e S=some k):∃(a:Nn) (its:Lv) (f:Np->Bool),z=.ref a/\(s.heap.IsList a its.toArray\/s.heap.IsTuple a its.toArray)/\(∀y∈its.toArray,EqAt A.in1 s y u (f y))/\its.toArray.any f=k:=by
 unfold ro at h;split at h
 ·rename_i i G;obtain⟨a,vs,rfl,l,r⟩:=fH O re G;cases rz
  obtain⟨its,q,Z⟩:∃its,Vals vs its/\(s.heap.IsList a its.toArray\/s.heap.IsTuple a its.toArray):=by
   rcases l with l|l
   ·obtain⟨its,q,p,_⟩:=I.list l;exact⟨its,q,.inl p.isList⟩
   ·obtain⟨its,q,p,_⟩:=I.tuple l;exact⟨its,q,.inr p⟩
  have W:A.in1.units=A.units+1:=rfl;have t:a_=40:=rfl;obtain⟨P,Q⟩:=zH h
  classical
  have at_:∀(j:Nat) (x:D) (y:Np),i[j]?=some x->its[j]?=some y->∀b,b_ S a_ x d=some b->EqAt A.in1 s y u b:=λj x y L B b m=>by obtain⟨v',R,T⟩:=r.get L;obtain⟨y',N,U⟩:=q.get R;rw[B]at N;cases N;exact(yf I O a_ A.in1 (by omega) x d v' v _ u b T U rd ru m).2.2
  have len:i.length=its.length:=r.length.trans q.length;refine⟨a,its,λy=>decide (∃(j:Nat) (x:D),its[j]?=some y/\i[j]?=some x/\b_ S a_ x d=some Nk),rfl,Z,λy B=>?_,?_⟩
  ·obtain⟨j,K,J⟩:=ZL.mp (show y∈its by simpa using B);have g:its[j]?=some y:=by rw[Zf K,J]
   have c:i[j]?=some (i[j]'(by omega)):=Zf _;by_cases n:∃(j:Nat) (x:D),its[j]?=some y/\i[j]?=some x/\b_ S a_ x d=some Nk
   ·obtain⟨j',x',M,C,E⟩:=id n;show EqAt A.in1 s y u (decide (∃(j:Nat) (x:D),its[j]?=some y/\i[j]?=some x/\b_ S a_ x d=some Nk));rw[ZW n];exact at_ j' x' y C M Nk E
   ·show EqAt A.in1 s y u (decide (∃(j:Nat) (x:D),its[j]?=some y/\i[j]?=some x/\b_ S a_ x d=some Nk));rw[ZG n];obtain⟨b,m⟩:=NU.mp (P (b_ S a_ (i[j]'(by omega)) d) (Zq.mpr ⟨_,Zo c,rfl⟩));cases b with
    |false=>exact at_ j _ y c g Nl m
    |true=>exact absurd ⟨j,_,g,c,m⟩ n
  ·rw[Q];apply Of.mpr;rw[List.any_toArray,Pj,Pj];constructor
   ·rintro⟨y,B,t⟩;obtain⟨j,x,M,C,E⟩:=ZV t;exact⟨some Nk,Zq.mpr ⟨x,Zo C,E⟩,rfl⟩
   ·rintro⟨o,Y,t⟩;obtain⟨x,L,rfl⟩:=Zq.mp Y;obtain⟨j,K,J⟩:=ZL.mp L;have c:i[j]?=some x:=by rw[Zf K,J]
    have g:its[j]?=some (its[j]'(by omega)):=Zf _;exact⟨_,Zo g,ZW ⟨j,x,g,c,by simpa using t⟩⟩
 ·rename_i G;rw[G]at l;cases l
theorem dq(O:PU)(D:X.A.units+64<cLine):b9 X (compareOp O) (rD X.K X.mg (ax O)):=by
 intro p s l H x y v u Q I g i h;obtain⟨F,z,S,d,e,c,r,R,w⟩:=h;have hd:a_=40:=rfl;have fin:∀{k:Bool},Q (.bl k) H->EP X p l Q (.bool k) s:=λ{k} q=>⟨.bl k,H,I,rfl,q⟩;cases O with
 |Eq=>obtain⟨k,E,q⟩:=fK (o:=b_ S a_ d e) w c;exact(yf I c a_ X.A (by omega) d e x y v u k r g R i E).1 X.prog X.w _ _ (fin q)
 |NotEq=>obtain⟨k,E,q⟩:=fK (o:=(b_ S a_ d e).map not) w c;obtain⟨K,m,rfl⟩:=NN.mp E;exact(yf I c a_ X.A (by omega) d e x y v u K r g R i m).2.1 X.prog X.w _ _ (fin q)
 |Lt=>obtain⟨k,E,q⟩:=fK (o:=eD S a_ d e) w c;exact tR I c a_ X.A (by omega) d e x y v u k r g R i E X.prog X.w _ _ (fin q)
 |LtE=>
  replace w:aR X.K ⟨X.mg,F⟩ z H Q (Fx d e S):=w;unfold Fx at w;split at w
  ·have:=aG r;have:=aG R;subst x y
   exact yR p s l H _ _ v u Q I g i ⟨_,_,rfl,rfl,w.now c cJ⟩
  ·rename_i as bs;obtain⟨k,E,q⟩:=fK (o:=zF as bs) w c;obtain⟨a,vs,rfl,G,T⟩:=bQ r;obtain⟨b,W,rfl,J,U⟩:=bQ R;cases g;cases i;obtain⟨V,M,P,_⟩:=I.tuple G;obtain⟨zs,N,L,_⟩:=I.tuple J;exact Hg P L (by omega) (ka as bs vs W V zs k T M U N E) X.prog X.w _ _ (fin q)
  ·exact w.elim
 |Gt=>
  replace w:aR X.K ⟨X.mg,F⟩ z H Q (Hh d e S):=w;unfold Hh at w;split at w
  ·have:=aG r;have:=aG R;subst x y
   exact yS p s l H _ _ v u Q I g i ⟨_,_,rfl,rfl,w.now c cJ⟩
  ·exact w.elim
 |GtE=>
  replace w:aR X.K ⟨X.mg,F⟩ z H Q (Hi d e S):=w;unfold Hi at w;split at w
  ·have:=aG r;have:=aG R;subst x y
   exact yT p s l H _ _ v u Q I g i ⟨_,_,rfl,rfl,w.now c cJ⟩
  ·exact w.elim
 |In=>
  obtain⟨k,E,q⟩:=fK (o:=ro d e S) w c;cases t:az S e with
  |some Z=>
   obtain⟨a,C,f,rfl,j,n,rfl⟩:=rx I c (A:=X.A) D r g R i (by rw[t];rfl) E;rcases j with j|j
   ·exact in_listAt f j n (fin q)
   ·exact in_tupleAt f j n (fin q)
  |none=>obtain⟨Y,y',rfl,rfl,B⟩:=j_ (by unfold ro at E;rw[t]at E;exact E);cases dM r;cases dM R;exact Gj p s l H _ _ v u Q I g i ⟨_,_,rfl,rfl,by rw[B];exact q⟩
 |NotIn=>
  obtain⟨k,E,q⟩:=fK (o:=(ro d e S).map not) w c;obtain⟨K,m,rfl⟩:=NN.mp E;cases t:az S e with
  |some Z=>
   obtain⟨a,C,f,rfl,j,n,rfl⟩:=rx I c (A:=X.A) D r g R i (by rw[t];rfl) m;rcases j with j|j
   ·exact notIn_listAt f j n (fin q)
   ·exact notIn_tupleAt f j n (fin q)
  |none=>obtain⟨Y,y',rfl,rfl,B⟩:=j_ (by unfold ro at m;rw[t]at m;exact m);cases dM r;cases dM R;exact Gk p s l H _ _ v u Q I g i ⟨_,_,rfl,rfl,by rw[B];exact q⟩
 |Is=>
  replace w:aR X.K ⟨X.mg,F⟩ z H Q (Hj d e S):=w;unfold Hj at w;split at w
  ·cases hO R;exact s_ p s l H _ _ v u Q I g i ⟨rfl,by rw[zG r];exact w.now c cJ⟩
  ·exact w.elim
 |IsNot=>
  replace w:aR X.K ⟨X.mg,F⟩ z H Q (tV d e S):=w;unfold tV at w;split at w
  ·cases hO R;exact ms p s l H _ _ v u Q I g i ⟨rfl,by rw[zG r];exact w.now c cJ⟩
  ·exact w.elim
end Py
namespace Py
def rC(K:Fg)(mg:Mg)(g:List D->ae->Res D):List V->Hp->VK->Prop:=λxs H Q=>∃F μ S ds,aJ K ⟨mg,F⟩ μ S H/\ai K ⟨mg,F⟩ μ H ds xs/\aR K ⟨mg,F⟩ μ H Q (g ds S)
theorem ai.one{mg:GS}{vs:List V}(r:ai K mg μ H [d] vs):∃v,vs=[v]/\Rep K mg μ H d v:=by obtain⟨v,w,rfl,h,t⟩:=r.uncons;unfold ai at t;simp_all
theorem ai.two{mg:GS}{e:D}{vs:List V}(r:ai K mg μ H [d,e] vs):∃v w,vs=[v,w]/\Rep K mg μ H d v/\Rep K mg μ H e w:=by obtain⟨v,W,rfl,h,t⟩:=r.uncons;obtain⟨w,rfl,a⟩:=t.one;lia
theorem mV{mg:GS}{vs:List V}{i:Int}(r:ai K mg μ H ds vs)(h:hH ds i=some d):∃v,hH vs i=some v/\Rep K mg μ H d v:=by
 unfold hH at h⊢;rw[<-r.length];cases e:iQ _ i with
 |none=>simp_all
 |some j=>rw[e]at h;exact r.get h
noncomputable def bR(d e:D)(S:ae):Res D:=match az S d,e with
 |some xs,.int i=>match hH xs i with
  |some y=>.ok y S
  |none=>.fail
 |_,_=>zB d e S
theorem Hk:zk X (rD X.K X.mg bR):=by
 intro V b p s k H x y v u Q I R j h c;obtain⟨F,t,S,d,e,g,n,o,w⟩:=h;unfold bR at w;split at w
 ·rename_i A i E;split at w
  ·rename_i Y q;obtain⟨a,vs,rfl,f,r⟩:=fH g n E;cases aG o;obtain⟨z,l,m⟩:=mV r q;rcases f with f|f
   ·exact zl V b p s k H _ _ v u Q I R j ⟨a,vs,i,z,rfl,rfl,f,l,w.now g m⟩ c
   ·exact tw V b p s k H _ _ v u Q I R j ⟨a,vs,i,z,rfl,rfl,f,l,w.now g m⟩ c
  ·exact w.elim
 ·exact Hc V b p s k H _ _ v u Q I R j ⟨F,t,S,_,_,g,n,o,w⟩ c
noncomputable def fL(ds:List D)(S:ae):Res D:=match ds with
 | [.str x]=>if x.length<=cm then .ok (.int x.length) S else .fail
 | [d]=>match az S d with
  |some xs=>.ok (.int xs.length) S
  |none=>.fail
 |_=>.fail
theorem zI:a9 X (.builtin "len") (rC X.K X.mg fL):=by
 intro p s j H g u Q I r h;obtain⟨F,i,S,D,c,R,w⟩:=h;unfold fL at w;split at w
 ·split at w
  ·obtain⟨v,rfl,b⟩:=R.one;cases dM b;exact GR _ s _ H _ _ Q I r ⟨_,rfl,by trivial,w.now c bq⟩
  ·exact w.elim
 ·split at w
  ·rename_i x e;obtain⟨v,rfl,b⟩:=R.one;obtain⟨a,vs,rfl,d,f⟩:=fH c b e;refine GQ _ s _ H _ _ Q I r ⟨a,_,rfl,d,?_⟩;rw[<-f.length];exact w.now c bq
  ·exact w.elim
 ·exact w.elim
noncomputable def kc(ds:List D)(S:ae):Res D:=match ds with
 | [.tup xs]=>.ok (.tup xs) S
 | [d]=>match az S d with
  |some xs=>.ok (.tup xs) S
  |none=>.fail
 |_=>.fail
theorem zJ{mg:GS}(s:aJ K mg μ S H)(r:Rep K mg μ H d v)(e:az S d=some xs)(b:∀ys,d≠.tup ys):∃a vs,v=.ref a/\c8 K H a vs/\ai K mg μ H xs vs:=by
 cases d with
 |lst ys=>obtain⟨a,vs,E,h,q⟩:=cU s r (show c_ S _=some _ from e);exact⟨a,_,E,.of h,q⟩
 |ref n=>obtain⟨a,vs,E,h,q⟩:=cU s r (show c_ S _=some _ from e);exact⟨a,_,E,.of h,q⟩
 |tup ys=>simp_all
 |scr ys=>cases e;obtain⟨a,vs,e,h,q⟩:=r;exact⟨a,_,e,h.sq,q⟩
 |_=>cases e
theorem mW:a9 X (.type "tuple") (rC X.K X.mg kc):=by
 intro P s m H k u Q I r h;obtain⟨F,l,S,D,f,g,w⟩:=h;unfold kc at w;split at w
 ·obtain⟨v,rfl,b⟩:=g.one;obtain⟨a,vs,rfl,c,R⟩:=bQ b;exact zn _ s _ H _ _ Q I r ⟨a,_,rfl,.inr ⟨c,w.now f b⟩⟩
 ·rename_i d i;split at w
  ·rename_i x e;obtain⟨v,rfl,b⟩:=g.one;obtain⟨a,vs,rfl,c,R⟩:=zJ f b e λy z=>i y (by omega);exact zn _ s _ H _ _ Q I r ⟨a,_,rfl,.inl ⟨c,λp j=>w.tup f R p j⟩⟩
  ·exact w.elim
 ·exact w.elim
noncomputable def ke(box:Bool)(ds:List D)(S:ae):Res D:=match ds with
 | [d]=>match az S d with
  |some xs=>if box then .ok (.ref S.length) (S++[xs])else .ok (.lst xs) S
  |none=>.fail
 |_=>.fail
theorem tX(box:Bool):a9 X (.type "list") (rC X.K X.mg (ke box)):=by
 intro P s k H i u Q I r h;obtain⟨F,j,S,D,b,g,w⟩:=h;unfold ke at w;split at w
 ·split at w
  ·rename_i x e;obtain⟨v,rfl,f⟩:=g.one;obtain⟨a,vs,rfl,d,R⟩:=fH b f e;refine GU _ s _ H _ _ Q I r ⟨a,_,rfl,d,λp c=>?_⟩;split at w
   ·exact w.box b R p c
   ·exact w.lst b R p c
  ·exact w.elim
 ·exact w.elim
noncomputable def intD(ds:List D)(S:ae):Res D:=match ds with
 | [.int i]=>.ok (.int i) S
 | [.bl b]=>.ok (.int (if b then 1 else 0)) S
 |_=>zC ds S
theorem zK:a9 X (.type "int") (rC X.K X.mg intD):=by
 intro p s c H x u Q I r h;obtain⟨F,e,S,d,b,R,w⟩:=h;unfold intD at w;split at w
 ·obtain⟨v,rfl,a⟩:=R.one;cases aG a;exact yV p s c H _ u Q I r (.inl ⟨_,rfl,w.now b bq⟩)
 ·obtain⟨v,rfl,a⟩:=R.one;cases f_ a;exact yV p s c H _ u Q I r (.inr ⟨_,rfl,w.now b bq⟩)
 ·exact zD I r b R w
noncomputable def tY(ds:List D)(S:ae):Res D:=match ds with
 | [.int i,.int j]=>.ok (.int (if j<i then j else i)) S
 |_=>.fail
noncomputable def tZ(ds:List D)(S:ae):Res D:=match ds with
 | [.int i,.int j]=>.ok (.int (if j>i then j else i)) S
 |_=>.fail
theorem zL(a:X.calm=Nk):a9 X (.builtin "min") (rC X.K X.mg tY):=by
 intro p s f H x u Q I r h;obtain⟨F,e,S,d,c,R,w⟩:=h;unfold tY at w;split at w
 ·obtain⟨v,W,rfl,b,hw⟩:=R.two;cases aG b;cases aG hw;exact Gu a _ s _ H _ _ Q I r ⟨_,_,rfl,w.now c bq⟩
 ·exact w.elim
theorem zM(a:X.calm=Nk):a9 X (.builtin "max") (rC X.K X.mg tZ):=by
 intro p s f H x u Q I r h;obtain⟨F,e,S,d,c,R,w⟩:=h;unfold tZ at w;split at w
 ·obtain⟨v,W,rfl,b,hw⟩:=R.two;cases aG b;cases aG hw;exact Gs a _ s _ H _ _ Q I r ⟨_,_,rfl,w.now c bq⟩
 ·exact w.elim
noncomputable def bc(S:ae):D->Option Bool
 | .non=>some Nl
 | .bl b=>some b
 | .int i=>some (i !=0)
 | .str x=>if x.length<=cm then some ((x.length:Int) !=0)else none
 |d=>(az S d).map λxs=> !xs.isEmpty
theorem ry{mg:GS}{k:Bool}(j:aJ K mg μ S H)(r:Rep K mg μ H d v)(e:bc S d=some k):iN K v H k:=by
 have seq:∀(x:List D),az S d=some x->k= !x.isEmpty->iN K v H k:=λx f E=>by
  obtain⟨a,vs,rfl,c,q⟩:=fH j r f;have i:=q.length;have g:x.isEmpty=vs.isEmpty:=by cases x<;>cases vs<;>simp at i⊢
  rw[g]at E;rcases c with c|c
  ·exact .inl ⟨_,c,E⟩
  ·exact .inr (.inl ⟨_,c,E⟩)
 have s:(az S d).map _=some k->iN K v H k:=λh=>by obtain⟨x,f,E⟩:=NN.mp h;exact seq _ f E.symm
 cases d with
 |non=>cases hO r;cases e;rfl
 |bl b=>cases f_ r;cases e;rfl
 |int b=>cases aG r;cases e;rfl
 |str b=>
  cases dM r;replace e:(if b.length<=cm then some _ else none)=some k:=e;split at e
  ·cases e;exact⟨by trivial,rfl⟩
  ·cases e
 |tup b=>exact s e
 |lst b=>exact s e
 |ref b=>exact s e
 |scr b=>exact s e
 |fn b=>exact s e
 |dct=>exact s e
 |dks b=>exact s e
 |ty b=>exact s e
noncomputable def ba(xs:List D)(l h:Option Int):List D:=(xs.drop (HT.bB xs.length 0 l)).take (HT.bB xs.length xs.length h-HT.bB xs.length 0 l)
theorem zN{mg:GS}{vs:List V}(r:ai K mg μ H ds vs):ai K mg μ H (ba ds lo hi) (iP vs lo hi):=by unfold ba iP;rw[r.length];exact(r.drop _).take _
noncomputable def mX(d:D)(l h:Option Int)(S:ae):Res D:=match d with
 | .tup xs=>.ok (.tup (ba xs l h)) S
 |d=>match az S d with
  |some xs=>.ok (.lst (ba xs l h)) S
  |none=>Mr d l h S
def M4(K:Fg)(mg:Mg):V->Option Int->Option Int->Hp->VK->Prop:=λx lo hi H Q=>∃F μ S d,aJ K ⟨mg,F⟩ μ S H/\Rep K ⟨mg,F⟩ μ H d x/\aR K ⟨mg,F⟩ μ H Q (mX d lo hi S)
theorem Hl{t:Nn}(H:R6 s.heap t items)(hs:s.heap.IsSliceOf sl vl vu .none)(pl:Qh vl lo)(p:Qh vu hi)
  (hw:HT.bB items.size 0 lo=0/\HT.bB items.size items.size hi=items.size) (h:Q (.ref t) s):wpAny (model prog w) A (getItem (.ref t) (.ref sl)) Q E s:=by
 obtain⟨o,b,a,c⟩:=id hs;unfold getItem
 try with_reducible refine ZE ?_
 refine Za (Rk H.typeIs (rfl) ?_)
 refine Za (Z1 H.typeIs Yg
  (Z0 Yg H.typeIs QX ?_ (Q8 _ _)))
 show wpAny _ _ (Pe _>>=_) _ _ s;refine Za (Sv H ?_);refine Za (OW ⟨_,b,a⟩ ?_);refine Za (HT.zc hs pl p ?_);show wpAny _ _ (if(((HT.bB _ 0 _:Nat):Int)==0&&(1)==1&&(HT.bB _ _ _-HT.bB _ 0 _)==items.size)=Nk then _ else _) _ _ s;rw[if_pos (by simp_all)];exact Za (Za (OW H.typeIs (Zd (Za (O' (Zd ⟨_,rfl,Zd h⟩))))))
theorem Hm:Fu X (M4 X.K X.mg):=by
 intro y s B H x v V A l g sl Q I m j P k h;obtain⟨F,G,S,d,c,R,w⟩:=h;unfold mX at w;split at w
 ·rename_i q;obtain⟨a,vs,rfl,i,r⟩:=bQ R;have t:=r.length;by_cases f:HT.bB vs.length 0 l=0/\HT.bB vs.length vs.length g=vs.length
  ·cases m;obtain⟨o,D,u,E⟩:=I.tuple i;have b:o.toArray.size=vs.length:=by rw[Zv];exact D.length.symm
   refine⟨"tuple",_,PyProof.Rows.slot_tuple_getitem.lookup,u.typeIs,?_⟩;refine Hl u j P k (by rw[b];exact f) ⟨.ref a,H,I,rfl,?_⟩;have e:ba q l g=q:=by unfold ba;rw[t,f.1,f.2];simp[<-t]
   rw[e]at w;exact w.now c R
  ·exact sl_tup y s B H _ v V A l g sl Q I m j P k ⟨a,vs,rfl,i,f,λp n=>w.tup c (zN r) p n⟩
 ·rename_i d C;split at w
  ·rename_i q e;obtain⟨a,vs,rfl,i,r⟩:=zJ c R e (λY z=>C Y z);exact mH y s B H _ v V A l g sl Q I m j P k ⟨a,vs,rfl,i,λp n=>w.lst c (zN r) p n⟩
  ·exact Hd I m j P k c R w
noncomputable def t4(S:ae):D->Option String
 | .non=>some "NoneType"
 | .bl _=>some "bool"
 | .int _=>some "int"
 | .str _=>some "str"
 | .tup _=>some "tuple"
 | .lst _=>some "list"
 | .ref n=>(S[n]?).map λ_=>"list"
 | .scr _=>some "list"
 | .dct=>some "dict"
 |_=>none
noncomputable def kf(t c:String):Option Bool:=
 if ["NoneType","bool","int","str","tuple","list","dict"].contains t&&["bool","int","str","tuple","list","dict"].contains c then some (t==c||(t=="bool"&&c=="int"))else none
theorem mY{t c:String}{b:Bool}(h:kf t c=some b):PySem.W.kitOne K (.type t) (.type c)=some b:=by
 unfold kf at h;split at h
 ·rename_i H;simp at H;cases h;obtain⟨a,d⟩:=H;rcases a with rfl|rfl|rfl|rfl|rfl|rfl|rfl<;>rcases d with rfl|rfl|rfl|rfl|rfl|rfl<;>first|rfl|decide+kernel
 ·cases h
noncomputable def bJ(ds:List D)(S:ae):Res D:=match ds with
 | [d,.ty c]=>match t4 S d with
  |some t=>bw (kf t c) S
  |none=>.fail
 |_=>.fail
theorem Hn:a9 X (.builtin "isinstance") (rC X.K X.mg bJ):=by
 intro P s B H V us Q I r h;obtain⟨F,μ,S,W,m,N,w⟩:=h;unfold bJ at w;split at w
 ·rename_i d c;split at w
  ·rename_i t E;obtain⟨b,J,q⟩:=fK w m;obtain⟨v,z,rfl,g,x⟩:=N.two;have k:z=.ty c:=by unfold Rep at x;exact x
   subst k;obtain⟨u,y,rfl,R,U⟩:=r.two;cases U;have e:=mY (K:=X.K) J;have fin:∀T,EP X P B Q (.bool b) {s with toks:=T}:=λT=>⟨.bl b,H,I.tok _,rfl,q⟩
   have lst:∀a vs,v=.ref a->c8 X.K H a vs->t="list"->wpAny (model X.prog X.w) X.A (call _ [u,.type c]) (EP X P B Q) X.xe s:=λa vs L f E=>by subst L;subst E;cases R;obtain⟨l,O,M,_⟩:=I.list f;obtain⟨o,i,j,_⟩:=M.isList;exact PySem.W.kia_one PySem.W.kitx_list I.kIn ⟨o,i,j⟩ e (λz=>nomatch z) fin
   cases d with
   |non=>cases hO g;cases R;cases E;exact PySem.W.kia_one PySem.W.kitx_none I.kIn Pk e (λz=>nomatch z) fin
   |bl b=>cases f_ g;cases R;cases E;exact PySem.W.kia_one PySem.W.kitx_bool I.kIn Pk e (λz=>nomatch z) fin
   |int b=>cases aG g;obtain⟨t,rfl⟩:=R;cases E;exact PySem.W.kia_one PySem.W.kitx_int I.kIn Pk e (λz=>nomatch z) fin
   |str b=>cases dM g;obtain⟨t,rfl⟩:=R;cases E;exact PySem.W.kia_one PySem.W.kitx_str I.kIn Pk e (λz=>nomatch z) fin
   |tup b=>obtain⟨a,vs,rfl,f,_⟩:=bQ g;cases R;cases E;obtain⟨l,O,p,_⟩:=I.tuple f;obtain⟨o,i,j,_⟩:=p;exact PySem.W.kia_one PySem.W.kitx_tuple I.kIn ⟨o,i,j⟩ e (λz=>nomatch z) fin
   |lst b=>obtain⟨a,vs,rfl,f,_⟩:=cU m g rfl;cases E;exact lst a vs rfl (.of f) rfl
   |ref n=>obtain⟨V,C,D⟩:=NN.mp E;obtain⟨a,vs,rfl,f,_⟩:=cU m g C;exact lst a vs rfl (.of f) D.symm
   |scr b=>obtain⟨a,vs,rfl,f,_⟩:=g;cases E;exact lst a vs rfl f.sq rfl
   |dct=>obtain⟨a,rfl,G⟩:=g;cases R;cases E;obtain⟨_,_,vs,_,p⟩:=(show aQ X.prog X.w H s.heap a (.dK [])from I.hok a _ G);obtain⟨o,Z,Y,i,j,_⟩:=p;exact PySem.W.kia_one PySem.W.kitx_dict I.kIn ⟨o,i,j.1⟩ e (λz=>nomatch z) fin
   |fn b=>cases E
   |ty b=>cases E
   |dks b=>cases E
  ·exact w.elim
 ·exact w.elim
noncomputable def fv:D->Option Bool
 | .bl b=>some b
 |_=>none
noncomputable def iS(ds:List D)(S:ae):Res D:=match ds with
 | [d]=>match az S d with
  |some xs=>bw (bb (xs.map fv)) S
  |none=>.fail
 |_=>.fail
noncomputable def t5(ds:List D)(S:ae):Res D:=match ds with
 | [d]=>match az S d with
  |some xs=>bw (tU (xs.map fv)) S
  |none=>.fail
 |_=>.fail
theorem zO{mg:GS}{vs:List V}(r:ai K mg μ H xs vs)(q:Vals vs its)(h:∀(j:Nat) o,(xs.map fv)[j]?=some o->o=some (eJ (xs.map fv) j)):
  ∀(i:Nat) v,its.toArray[i]?=some v->v=.bool (eJ (xs.map fv) i):=λi v l=>by
 have L:=r.length;have p:=q.length
 have a:=by simpa using l
 have n:=(Zg.mp a).1;have m:xs[i]?=some (xs[i]'(by omega)):=Zf _;obtain⟨w,g,e⟩:=r.get m;obtain⟨u,f,k⟩:=q.get g;rw[a]at f;cases f;have c:=h i (fv (xs[i]'(by omega))) (by simp_all);revert e c;generalize xs[i]'(by omega)=d;intro e c;cases d with
 |bl b=>
  cases f_ e;have:=by simpa[fv]using c
  rw[<-this];exact k
 |_=>cases c
theorem kg(C:X.calm=Nk)(I:Inv X pq σ H s)(M:aJ X.K ⟨X.mg,F⟩ μ S H)(G:Rep X.K ⟨X.mg,F⟩ μ H d v)(J:RelV v u)(e:az S d=some xs)
  (h:∀(j:Nat) o,(xs.map fv)[j]?=some o->o=some (eJ (xs.map fv) j)) (b:Bool->Bool) {Q:VK} {fb:Nat->Bool} (q:Q (.bl (fb xs.length)) H):
  wpAny (model X.prog X.w) X.A.in1 (pyIter u) (λit g=>∃I fp wr n P St,it=.ref I/\Walks X.prog X.w X.A.in1 I fp wr n P St/\St 0 g.heap/\TruthOf X.prog X.w X.A.in1 P (eJ (xs.map fv))/\
   ∀h' tk,(∀b o,b∉wr->g.heap.get? b=some o->h'.get? b=some o)->EP X pq σ Q (.bool (fb n)) {g with heap:=h',toks:=tk}) X.xe s:=by
 obtain⟨a,vs,rfl,m,r⟩:=fH M G e;cases J;have y:X.A.in1.handled=none:=I.ok.hd C;rcases m with m|m
 ·obtain⟨c,R,p,D⟩:=I.list m;have B:=zO r R h;refine NQ p.isList ?_;have k:a≠s.heap.objs.size:=by obtain⟨o,f,_⟩:=p.isList;exact Zt (Zj f)
  refine⟨_,_,_,_,_,_,rfl,Walks.list y s.heap.objs.size a k c.toArray,⟨⟨_,Zk _ rfl,rfl,rfl⟩,QB p.isList _⟩,?_,λh' tk K=>?_⟩
  ·intro i v L A E w l;rw[B i v w];exact ZR l
  ·have t:c.toArray.size=xs.length:=by rw[Zv,<-R.length,<-r.length]
   rw[t];refine⟨.bl _,H,I.kept (h':=h') (t':=tk) λb o f=>K b o ?_ (Zb _ f),rfl,q⟩;intro z;have Z:b=s.heap.objs.size:=by simpa using z
   exact absurd (Zj f) (by rw[Z];exact ZO _)
 ·obtain⟨c,R,p,D⟩:=I.tuple m;have B:=zO r R h;refine N2 (show s.heap.IsTuple a c.toArray from p) ?_;have k:a≠s.heap.objs.size:=by obtain⟨o,f,_⟩:=p;exact Zt (Zj f)
  refine⟨_,_,_,_,_,_,rfl,Walks.tuple y s.heap.objs.size a k c.toArray,⟨⟨_,Zk _ rfl,rfl,rfl⟩,by obtain⟨o,f,r⟩:=p;exact⟨o,Zb _ f,r⟩⟩,?_,λh' tk K=>?_⟩
  ·intro i v L A E w l;rw[B i v w];exact ZR l
  ·have t:c.toArray.size=xs.length:=by rw[Zv,<-R.length,<-r.length]
   rw[t];refine⟨.bl _,H,I.kept (h':=h') (t':=tk) λb o f=>K b o ?_ (Zb _ f),rfl,q⟩;intro z;have Z:b=s.heap.objs.size:=by simpa using z
   exact absurd (Zj f) (by rw[Z];exact ZO _)
theorem zP(t:X.calm=Nk):a9 X (.builtin "all") (rC X.K X.mg iS):=by
 intro C s K H G U Q I r h;obtain⟨F,J,S,D,b,R,w⟩:=h;unfold iS at w;split at w
 ·split at w
  ·rename_i d Y e;obtain⟨k,E,q⟩:=fK w b;obtain⟨v,rfl,x⟩:=R.one;obtain⟨u,rfl,y⟩:=r.one;obtain⟨p,a⟩:=mT _ _ E;have hw:=kg t I b x y e p id (Q:=Q) (fb:=λn=>(Nt n).all (eJ (Y.map fv))) (by rw[Zl]at a;rw[<-a];exact q);exact call_all_walk (ZJ hw (λit c Z=>by obtain⟨f,o,W,n,P,g,A,i,j,l,m⟩:=Z;exact(⟨f,o,W,n,P,g,_,A,i,j,l,m⟩)) λ_ _ z=>z)
  ·exact w.elim
 ·exact w.elim
theorem zQ(D:X.calm=Nk):a9 X (.builtin "any") (rC X.K X.mg t5):=by
 intro Y s σ H xs us Q I r h;obtain⟨F,μ,S,O,g,R,w⟩:=h;unfold t5 at w;split at w
 ·split at w
  ·rename_i d y e;obtain⟨k,E,q⟩:=fK w g;obtain⟨v,rfl,K⟩:=R.one;obtain⟨u,rfl,L⟩:=r.one;obtain⟨x,B⟩:=zH E
   have C:∀(j:Nat) o,(y.map _)[j]?=some o->o=some (eJ (y.map fv) j):=λj o a=>by
    have:=x o (Zo a);cases o with
    |none=>cases this
    |some b=>simp[eJ,a]
   have W:k=(Nt y.length).any (eJ (y.map fv)):=by
    rw[B];apply Of.mpr;rw[Pj,Pj];constructor
    ·rintro⟨o,a,G⟩;obtain⟨j,J,T⟩:=ZL.mp a;have c:(y.map fv)[j]?=some o:=by grind
     grind
    ·rintro⟨j,J,G⟩;have f:j<(y.map fv).length:=by grind
     have c:=Zf f
     grind
   exact call_any_walk (ZJ (kg D I g K L e C id (Q:=Q) (fb:=λn=>(Nt n).any (eJ (y.map fv))) (by lia)) (λit i Z=>by obtain⟨M,V,wr,n,P,N,A,l,m,p,t⟩:=Z;exact(⟨_,_,_,n,P,_,_,A,l,m,p,t⟩)) λ_ _ z=>z)
  ·exact w.elim
 ·exact w.elim
def rM(K:Fg)(mg:Mg)(g:D->List D->ae->Res D):V->List V->Hp->VK->Prop:=λx xs H Q=>∃F μ S d ds,aJ K ⟨mg,F⟩ μ S H/\Rep K ⟨mg,F⟩ μ H d x/\ai K ⟨mg,F⟩ μ H ds xs/\aR K ⟨mg,F⟩ μ H Q (g d ds S)
theorem kh{mg:GS}(s:aJ K mg μ S H)(r:Rep K mg μ H (.ref n) v)(e:S[n]?=some xs):∃a vs,v=.ref a/\μ[n]?=some a/\H a=some (.lst vs)/\ai K mg μ H xs vs:=by obtain⟨a,rfl,h⟩:=r;obtain⟨vs,b,q⟩:=s.at_ n a _ h e;exact⟨a,_,rfl,h,b,q⟩
noncomputable def ki(d:D)(ds:List D)(S:ae):Res D:=match d,ds with
 | .ref n,[y]=>match S[n]? with
  |some xs=>if xs.length<cm then .ok .non (S.set n (xs++[y]))else .fail
  |none=>.fail
 |_,_=>.fail
theorem Ho:jL X "list.append" (rM X.K X.mg ki):=by
 intro p s t H x o v u Q I k j h;obtain⟨F,q,S,d,D,c,i,R,w⟩:=h;have l:=mQ;unfold ki at w;split at w
 ·split at w
  ·rename_i n y Y e;split at w
   ·obtain⟨a,vs,rfl,f,b,r⟩:=kh c i e;obtain⟨z,rfl,g⟩:=R.one;have m:=r.length;exact zu _ s _ H _ _ v _ Q I k j ⟨a,_,z,rfl,rfl,b,by simp_all,w.wrote c f b (r.append (.cons g .nil)) j9⟩
   ·exact w.elim
  ·exact w.elim
 ·exact w.elim
noncomputable def t6(d:D)(ds:List D)(S:ae):Res D:=match d,ds with
 | .ref n,[y]=>match S[n]?,c_ S y with
  |some xs,some ys=>if xs.length+ys.length<=cm then .ok .non (S.set n (xs++ys))else .fail
  |_,_=>.fail
 |_,_=>.fail
theorem Hq:jL X "list.extend" (rM X.K X.mg t6):=by
 intro P s C H x A v u Q I p o h;obtain⟨F,B,S,d,D,c,m,R,w⟩:=h;have q:=mQ;unfold t6 at w;split at w
 ·split at w
  ·rename_i n y Y Z e E;split at w
   ·obtain⟨a,vs,rfl,k,f,r⟩:=kh c m e;obtain⟨z,rfl,l⟩:=R.one;obtain⟨b,W,rfl,i,g⟩:=cU c l E;have t:=r.length;have j:=g.length;exact GW _ s _ H _ _ v _ Q I p o ⟨a,b,_,_,rfl,rfl,f,i,by simp_all,w.wrote c k f (r.append g) j9⟩
   ·exact w.elim
  ·exact w.elim
 ·exact w.elim
theorem ai.dropLast{mg:GS}{vs:List V}(r:ai K mg μ H ds vs):ai K mg μ H ds.dropLast vs.dropLast:=by rw[R_,R_,r.length];exact r.take _
noncomputable def t7(d:D)(ds:List D)(S:ae):Res D:=match d,ds with
 | .ref n,[]=>match S[n]? with
  |some xs=>match xs[xs.length-1]? with
   |some y=>.ok y (S.set n xs.dropLast)
   |none=>.fail
  |none=>.fail
 |_,_=>.fail
theorem zR:jL X "list.pop" (rM X.K X.mg t7):=by
 intro p s q H x m v u Q I l k h;obtain⟨F,o,S,d,D,f,j,R,w⟩:=h;unfold t7 at w;split at w
 ·split at w
  ·rename_i n Y e;split at w
   ·rename_i y E;obtain⟨a,vs,rfl,i,c,r⟩:=kh f j e;subst R;obtain⟨z,b,g⟩:=r.get E;rw[r.length]at b;exact tz _ s _ H _ _ v _ Q I l k ⟨a,_,z,rfl,rfl,c,b,w.wrote f i c r.dropLast g⟩
   ·exact w.elim
  ·exact w.elim
 ·exact w.elim
noncomputable def iT(d e f:D)(S:ae):Option ae:=match d,e with
 | .ref n,.int i=>match S[n]? with
  |some xs=>match iQ xs.length i with
   |some j=>some (S.set n (xs.set j f))
   |none=>none
  |none=>none
 |_,_=>none
noncomputable def Hr(K:Fg)(mg:Mg):ma:=λo i v H Q=>∃F μ S d e f,aJ K ⟨mg,F⟩ μ S H/\Rep K ⟨mg,F⟩ μ H d o/\Rep K ⟨mg,F⟩ μ H e i/\Rep K ⟨mg,F⟩ μ H f v/\
 ∃S',iT d e f S=some S'/\∀μ' H',Ext μ H μ' H'->aJ K ⟨mg,F⟩ μ' S' H'->Q H'
theorem zS:sK X (Hr X.K X.mg):=by
 intro P s C H o i v O A u Q I x t y h;obtain⟨F,B,S,d,e,f,l,R,p,q,z,E,w⟩:=h;unfold iT at E;split at E
 ·split at E
  ·rename_i n k _ Y m;split at E
   ·rename_i j c;cases E;obtain⟨a,vs,rfl,g,b,r⟩:=kh l R m;cases aG p;rw[r.length]at c;exact GL _ s _ H _ _ v _ _ u Q I x t y ⟨a,_,k,j,rfl,rfl,b,c,w _ _ (.wrote (Zo g) b) (l.wrote g b (r.set j q))⟩
   trivial
  trivial
 trivial
noncomputable def cb(env:Env):List (Str×N6)->List (Str×Nn)->List (Str×Nn)
 | [],cs=>cs
 | (n,k)::r,cs=>cb env r (if k== .free then(match env.cells.lookup n with|some c=>(n,c)::cs|none=>cs)else cs)
theorem Hs(h:∀x∈scope.names,x.2=.free->∃c,env.cells.lookup x.1=some c):closureFor scope env=pure (cb env scope.names []):=by
 unfold closureFor
 have K:∀(l:List (Str×N6)) (C:List (Str×Nn)),(∀x∈l,x.2=.free->∃c,env.cells.lookup x.1=some c)->
   (forIn l C λx r=>(if(x.2==Pa)=Nk then do let c <-cellOf env x.1;pure (NO ((x.1,c)::r))else pure (NO r):Sem _))=pure (cb env l C):=by
  intro l
  induction l with
  |nil=>intro C _;rfl
  |cons x l i=>
   intro C a;obtain⟨n,k⟩:=x;rw[OY];unfold cb;by_cases e:k=.free
   ·subst e;obtain⟨c,d⟩:=a (n,.free) (by simp) rfl;have H:cellOf env n=pure c:=by unfold cellOf;rw[d]
    simp only[beq_self_eq_true,if_true,H,d];simp only[pure_bind];exact i _ λy b=>a y (Zc _ b)
   ·have f:(k==Pa)=Nl:=by simpa using e
    simp only[f,Zu,Z6,pure_bind];exact i _ λy b=>a y (Zc _ b)
 have:=K scope.names [] h
 first
  | (rw[<-this];rfl)
  | (simp only[bind_pure];exact this)
  | (show(do let r <-_;pure r)=_;rw[bind_pure];exact this)
theorem t8{env:Env}:∀(l:List (Str×N6)) (cs:List (Str×Nn)),(∀p∈cs,env.cells.lookup p.1=some p.2)->∀p∈cb env l cs,env.cells.lookup p.1=some p.2
 | [],cs,h,p,H=>h p H
 | (n,k)::r,cs,h,p,H=>by
  refine t8 r _ (λq a=>?_) p H
  grind
theorem zT{env:Env}:∀(l:List (Str×N6)) (cs:List (Str×Nn)),∀p∈cs,p∈cb env l cs
 | [],cs,p,h=>h
 | (n,k)::r,cs,p,h=>by
  refine zT r _ p ?_
  grind
theorem zU{env:Env}{x:Str}{c:Nn}(H:env.cells.lookup x=some c):∀(l:List (Str×N6)) (cs:List (Str×Nn)),(x,Pa)∈l->(x,c)∈cb env l cs
 | [],cs,h=>by simp_all
 | (n,k)::r,cs,h=>by
  rcases Zi.mp h with e|h
  ·refine zT r _ _ ?_;simp_all
  ·exact zU H r _ h
theorem zV{a:Type}{x:Str}{c:a}:∀{l:List (Str×a)},(x,c)∈l->∃d,l.lookup x=some d
 | [],h=>by simp_all
 | (n,d)::r,h=>by
  dsimp only[Pl];cases e:x==n with
  |true=>simp
  |false=>
   rcases Zi.mp h with E|h
   ·simp_all
   ·exact zV h
theorem zW{env:Env}:∀{N:List (Str×N6)} {x:Str} {k:N6},(N.map λ(n,k)=>if(k==Pa&&env.scope.kind== .function&&env.kindOf n==some .cell)then(n,NE)else(n,k)).lookup x=some k->
  ∃K,N.lookup x=some K/\(k=K\/(K=.free/\k=.cell))
 | [],_,_,h=>by trivial
 | (n,a)::r,x,k,h=>by
  have i:= @zW env r x k
  grind
theorem zX{env:Env}:∀{N:List (Str×N6)} {x:Str},N.lookup x=some .free->
  let m:=(N.map λ(n,k)=>if(k==Pa&&env.scope.kind== .function&&env.kindOf n==some .cell)then(n,NE)else(n,k))
  m.lookup x=some .cell\/m.lookup x=some .free
 | [],_,h=>by simp at h
 | (n,K)::r,x,h=>by
  have i:= @zX env r x;rw[Pl]at h;dsimp only;rw[Yc];by_cases H:(K==Pa&&env.scope.kind== .function&&env.kindOf n==some .cell)=Nk
  ·simp only[H,if_true,Pl];cases e:x==n with
   |true=>exact .inl rfl
   |false=>rw[e]at h;exact i h
  ·simp only[H,Zu,Z6,Pl];cases e:x==n with
   |true=>rw[e]at h;cases h;exact .inr rfl
   |false=>rw[e]at h;exact i h
theorem kj:∀(N:List (Str×N6)) (n:Nat) (a b:List (Str×Nn)),cellsFrom n N (a++b)=cellsFrom n N a++b
 | [],_,_,_=>rfl
 | (x,k)::r,n,a,b=>by
  show(if(k==NE)=Nk then cellsFrom _ r _ else cellsFrom n r _)=(if(k==NE)=Nk then cellsFrom _ r _ else cellsFrom n r a)++b;split
  ·exact kj r _ ((x,n)::a) b
  ·exact kj r n a b
theorem t9{x:Str}{c:Nn}:∀(N:List (Str×N6)) (n:Nat) (a:List (Str×Nn)),(x,c)∈cellsFrom n N a->(x,c)∈a\/(x,NE)∈N
 | [],_,_,h=>.inl h
 | (y,k)::r,n,a,h=>by
  replace h:(x,c)∈if(k==NE)=Nk then cellsFrom _ r _ else cellsFrom n r a:=h;split at h
  ·rcases t9 r _ _ h with h|h
   ·grind
   simp[*]
  ·rcases t9 r n _ h with h|h
   ·exact .inl h
   simp_all
theorem t_{M:Model}{A:NX}{E:Vs}:∀(n:List (Str×N6)) (cs:List (Str×Nn)) (s:Nm) (Q:List (Str×Nn)->Nm->Prop),Q (cellsFrom s.heap.objs.size n cs) {s with heap:=pushCells s.heap n}->
  wpAny M A (forIn n cs λx r=>match x with
   | (name,kind)=>if(kind==NE)=Nk then do
     let c <-alloc {cls:=N3 "cell",data:=Data.cell none}
     pure (NO ((name,c)::r))
    else pure (NO r)) Q E s
 | [],cs,s,Q,h=>by exact Zd h
 | (x,k)::r,cs,s,Q,h=>by
  rw[OY];have h:Q (if(k==NE)=Nk then cellsFrom (s.heap.objs.size+1) r ((x,s.heap.objs.size)::cs)else cellsFrom s.heap.objs.size r cs) {s with heap:=if(k==NE)=Nk then pushCells (s.heap.push {cls:=.type "cell",data:=.cell none}) r else pushCells s.heap r}:=h;cases a:(k==NE)with
  |true=>refine Za ?_;show wpAny M A (if(k==NE)=Nk then _ else _) _ _ _;rw[a];refine Za (RE (Zd ?_));refine t_ r _ {s with heap:=s.heap.push {cls:=.type "cell",data:=.cell none}} Q ?_;simp_all
  |false=>rw[a,if_neg (by simp)]at h;refine Za ?_;show wpAny M A (if(k==NE)=Nk then _ else _) _ _ _;rw[a];exact Zd (t_ r _ s Q h)
theorem Ht{M:Model}{A:NX}{E:Vs}{g:Nn}{c:List (Str×Nn)}{q:Str}{out:Env}{bl:Nn}{Q:Env->Nm->Prop}
  (h:Q ⟨scope,s.heap.objs.size,g,cellsFrom (s.heap.objs.size+1) scope.names c,q,none,out.code,out.frame,out.builtins⟩ {s with heap:=pushCells (s.heap.push {cls:=.type "dict",data:=.dict #[]}) scope.names}):
  wpAny M A (newFunctionEnv scope g c [] q none .none (some out) bl) Q E s:=by
 refine Za (RE (Za (t_ _ _ _ _ ?_)));refine Za (Zd (Zd ?_));simp_all
noncomputable def fM(X:Cx)(scope:Scope)(N:Ls)(C:Nn)(s0:Nm)(a:Hp)(f:La):Cx:=
 {X with N:=N,s₀:=s0,H₀:=a,env:=compEnvC scope (cellsFrom (C+1) scope.names (cb X.env scope.names [])) C X.env,outer:=X.stack,stack:=X.stack,ex:=f,fn:=λx=>scope.names.lookup x==some .cell,pn:=[],xe:=λ_ _=>False}
structure dN (X:Cx)(scope:Scope):Prop where
 kind:scope.kind=.function
 cel:∀y∈scope.names,y.2=.cell->scope.names.lookup y.1=some .cell
 loc:∀y∈scope.names,y.2=.local->scope.names.lookup y.1=some .local
 free:∀y∈scope.names,y.2=.free->X.env.kindOf y.1=some .cell\/X.env.kindOf y.1=some .free
theorem kl(I:Inv X pq σ H s){b:Nn}(h1:b≠X.env.locals)(h:b∉X.fs):b∉bG X.stack:=λz=>(Zi.mp (I.stkSub b z)).elim h1 h
theorem hW{x:Str}{c:Nn}(h:(cellsFrom n scope.names (cb X.env scope.names [])).lookup x=some c):(cellsFrom n scope.names []).lookup x=some c\/((cellsFrom n scope.names []).lookup x=none/\(cb X.env scope.names []).lookup x=some c):=by have e:=kj scope.names n [] (cb X.env scope.names []);rw[List.nil_append]at e;rw[e,List.lookup_append]at h;simp_all
theorem Hu{x:Str}{c:Nn}(h:(cellsFrom n scope.names []).lookup x=some c):(cellsFrom n scope.names (cb X.env scope.names [])).lookup x=some c:=by
 have e:=kj scope.names n [] (cb X.env scope.names [])
 grind
theorem zY{x:Str}{c:Nn}(h:(cellsFrom n scope.names []).lookup x=none)(H:(cb X.env scope.names []).lookup x=some c):(cellsFrom n scope.names (cb X.env scope.names [])).lookup x=some c:=by
 have e:=kj scope.names n [] (cb X.env scope.names [])
 grind
theorem Hv{m:Mg}{tk:Nat}(hc:X.calm=Nk)(I:Inv X pq σ H s)(S:dN X scope)(R:∀b∈fp,dj X pq H b)(T:∀b∈fp,∃o,s.heap.get? b=some o)
  (hn:h1.Ns s.heap.objs.size m) (old:∀b o,s.heap.get? b=some o->h1.get? b=some o) (f:CellsOk h1 (s.heap.objs.size+1) (cellsFrom (s.heap.objs.size+1) scope.names [])) (hl:σ'.length=N.length)
  (Z:∀(i:Nat) (v:V) (x:Str),N[i]?=some x->σ'[i]?=some (some v)->scope.names.lookup x=some .free/\∃j:Nat,X.N[j]?=some x/\σ[j]?=some (some v)):
  Inv (fM X scope N s.heap.objs.size s H fp) (X.pn++pq) σ' H {s with heap:=h1,toks:=tk}:=by
 have lt:∀{b:Nn} {o:Obj},s.heap.get? b=some o->b≠s.heap.objs.size:=λe=>Zt (Zj e);have C:∀x c,(cb X.env scope.names []).lookup x=some c->X.env.cells.lookup x=some c:=λx c h=>t8 scope.names [] (λ_ z=>nomatch z) (x,c) (ZF h);have a:∀x c,X.env.cells.lookup x=some c->c<s.heap.objs.size:=λx c h=>by obtain⟨v,q⟩:=I.cell x c h;exact q.lt
 have O:∀x c,(cellsFrom (s.heap.objs.size+1) scope.names []).lookup x=some c->h1.IsCell c none/\s.heap.objs.size+1<=c:=λx c h=>f.empty x c (ZF h)
 have G:∀x c,(cellsFrom (s.heap.objs.size+1) scope.names []).lookup x=some c->scope.names.lookup x=some .cell:=λx c h=>by
  rcases t9 scope.names _ _ (ZF h)with z|z
  ·cases z
  ·exact S.cel _ z rfl
 have E:∀x,scope.names.lookup x=some .free->(cellsFrom (s.heap.objs.size+1) scope.names []).lookup x=none/\∃c,(cb X.env scope.names []).lookup x=some c:=λx h=>by
  refine⟨?_,?_⟩
  ·cases z:(cellsFrom (s.heap.objs.size+1) scope.names []).lookup x with
   |none=>rfl
   |some c=>have:=G x c z;rw[h]at this;cases this
  ·have hm:=ZF h;obtain⟨c,w⟩:=I.ok.has x (S.free _ hm rfl);exact zV (zU w scope.names [] hm)
 have gE:∀x,((fM X scope N s.heap.objs.size s H fp).env.kindOf x=some .cell\/(fM X scope N s.heap.objs.size s H fp).env.kindOf x=some .free)->scope.names.lookup x=some .free\/scope.names.lookup x=some .cell:=λx h=>by
  have go:∀k,(k=NE\/k=.free)->(relabel scope X.env).names.lookup x=some k->scope.names.lookup x=some .free\/scope.names.lookup x=some .cell:=λk U h=>by
   obtain⟨k',h1,g⟩:=zW h;rcases g with rfl| ⟨rfl,_⟩
   ·rcases U with rfl|rfl
    ·exact .inr h1
    ·exact .inl h1
   ·exact .inl h1
  rcases h with h|h
  ·exact go _ (.inl rfl) h
  ·exact go _ (.inr rfl) h
 have A:∀x y c,(cellsFrom (s.heap.objs.size+1) scope.names []).lookup x=some c->(cellsFrom (s.heap.objs.size+1) scope.names []).lookup y=some c->x=y:=λx y c h1 g=>by
  have m1:=ZF h1;have m2:=ZF g;have ap:=f.apart;generalize cellsFrom (s.heap.objs.size+1) scope.names []=l at m1 m2 ap
  induction l with
  |nil=>cases m1
  |cons p l ih=>
   obtain⟨a1,a2⟩:=ZK.mp ap;rcases Zi.mp m1 with rfl|n1
   ·rcases Zi.mp m2 with z|n2
    ·injection z with z _;exact z.symm
    ·exact(a1 (y,c) n2 rfl).elim
   ·rcases Zi.mp m2 with rfl|n2
    ·exact(a1 (x,c) n1 rfl).elim
    ·exact ih n1 n2 a2
 refine⟨⟨I.ok.mod,?_,I.ok.glob,I.ok.blt,Zh _,λx y c h1 g=>?_,λx h=>?_,λx c h g=>?_,I.ok.hd,I.ok.frames,.inl rfl,λb B=>?_,I.bs,ZD I.ok.bsz I.sz,λb o e B=>?_,λb B=>?_,I.stack,I.stkFree⟩,
  rfl,I.bare,Un.kept old,⟨m,hn,λi x v e1 e2 e3=>?_⟩,λx c h=>?_,I.hok.fresh (Zh _),λx c h=>?_,λp hp=>?_,I.hok.kept old,hl⟩
 ·show(relabel scope X.env).kind=.function;unfold relabel;exact S.kind
 ·rcases hW h1 with z| ⟨_,z⟩<;>rcases hW g with Y| ⟨_,Y⟩
  ·exact A x y c z Y
  ·exact absurd (a _ _ (C _ _ Y)) (Po.mpr (Om (O _ _ z).2))
  ·exact absurd (a _ _ (C _ _ z)) (Po.mpr (Om (O _ _ Y).2))
  ·exact I.ok.inj x y c (C x c z) (C y c Y)
 ·rcases gE x h with h|h
  ·obtain⟨z,c,t⟩:=E x h;exact⟨c,zY z t⟩
  ·have:=PySem.W.cellsFrom_some (x:=x) scope.names (s.heap.objs.size+1) [] (.inl h);obtain⟨c,t⟩:=NU.mp this;exact⟨c,Hu t⟩
 ·have U:scope.names.lookup x=some .cell:=by simpa[fM]using h
  rcases hW g with z| ⟨z,_⟩
  ·exact Om (O _ _ z).2
  ·have:=PySem.W.cellsFrom_some (x:=x) scope.names (s.heap.objs.size+1) [] (.inl U);rw[z]at this;cases this
 ·obtain⟨f0,L,M,F,P,f5⟩:=R b B;obtain⟨o,D⟩:=T b B;refine⟨lt D,λx c h=>?_⟩;rcases hW h with z| ⟨_,z⟩
  ·exact λq=>absurd (Zj D) (Po.mpr (q▸Om (O _ _ z).2))
  ·exact P x c (C x c z)
 ·obtain⟨f0,L,M,F,P,f5⟩:=R b B;rcases F with F|F
  ·exact I.ok.noex b o e F
  ·exact absurd (Zj (I.ok.bs b o e).1) (Po.mpr F)
 ·obtain⟨f0,L,M,F,P,f5⟩:=R b B;exact kl I L M
 ·obtain⟨J,j,g2,g3⟩:=Z i v x e1 e2;obtain⟨m0,_,l0⟩:=I.loc
  have hv:yt X.env.scope x:=by
   rcases S.free _ (ZF J) rfl with q|q
   ·exact .inr (.inl q)
   ·exact .inr (.inr q)
  obtain⟨u,r,q⟩:=l0 j x v g2 g3 hv;refine⟨u,r,.inr ⟨zX J,?_⟩⟩;obtain⟨z,c,f⟩:=E x J;have w:=C x c f;refine⟨c,zY z f,?_⟩;have K:=S.free _ (ZF J) rfl;rcases q with⟨q,_⟩| ⟨_,c',q1,q2⟩
  ·rcases K with K|K
   ·rw[q]at K;cases K
   ·rw[q]at K;cases K
  ·rw[w]at q1;cases q1;obtain⟨o,D,Q⟩:=q2;exact⟨o,old _ _ D,Q⟩
 ·rcases hW h with z| ⟨_,z⟩
  ·exact⟨none,(O _ _ z).1⟩
  ·obtain⟨v,o,D,Q⟩:=I.cell x c (C x c z);exact⟨v,o,old _ _ D,Q⟩
 ·rcases hW h with z| ⟨_,z⟩
  ·exact I.hok.fresh (Om (O _ _ z).2)
  ·exact I.freeC x c (C x c z)
 ·have W:p∈X.pn++pq:=by simpa[fM]using hp
  obtain⟨e,n,ne,nf,d⟩:=I.pin p W;exact⟨old _ _ e,n,lt e,kl I ne nf,d⟩
theorem Hw(I:Inv X pq σ H s)(j:∀b∈fp,dj X pq H b)(i:C=s.heap.objs.size)(J:Inv (fM X scope N C s H fp) pins' σ' H' s')(hs:NY C s'.heap h'):
  Inv X pq σ H' {s' with heap:=h'}:=by
 have ne:∀{b:Nn} {o:Obj},s.heap.get? b=some o->b≠C:=λe=>by rw[i];exact Zt (Zj e)
 have B:=J.base
 have u:Un _ _ H _ _ _:=
  ⟨λb o e n h a=>(hs.2 b (ne e)).trans (B.keep b o e n h a),λb o e n h a=>by obtain⟨sl,q⟩:=B.slot b o e n h a;exact⟨_,(hs.2 b (ne e)).trans q⟩,B.free,
   λb o e a=>by obtain⟨t,q⟩:=B.there b o e a;exact⟨_,(hs.2 b (ne e)).trans q⟩,B.tups,B.frzs,B.tbls⟩
 have d:H' C=none:=J.free;have f:=λb O e=>by refine(J.hok b O e).stay (λc w r q=>(hs.2 c ?_).trans q) (λ_ q=>q) λ_ _ q=>q;lia
 exact I.call' J.os u f J.bare λb h=>by obtain⟨f0,F,k,l,m,p⟩:=j b h;trivial
def PB(X:Cx)(body:Sem Unit)(t:L2.St->Hp->(L2.St->Hp->Prop)->Prop):Prop:=
 ∀(pq:Lp) (s:Nm) (σ:L2.St) (H:Hp) (Q:L2.St->Hp->Prop),Inv X pq σ H s->t σ H Q->wpAny (model X.prog X.w) X.A body (λ_ s'=>∃σ' H',Inv X pq σ' H' s'/\Q σ' H') X.xe s
theorem gc{m:Sem α}{Q:α->Nm->Prop}(H:X.xe=λ_ _=>False)(h:wpAny M A m Q X.xe s):wpAny M A m Q E s:=by rw[H]at h;exact ZJ h (λ_ _ q=>q) λ_ _ z=>z.elim
noncomputable def iU:Expr->Bool
 | .ListComp .. =>Nk
 | .SetComp .. =>Nk
 |_=>Nl
theorem mZ(h:iU ce=Nk){d:Nat}{it a:Np}:(model prog w).den (.compLoop ce d it a env)=(compTurn ce d it a env).onRaise (λx=>do noteFrame x env;theTreesLotGoes x)/\A.under (.compLoop ce d it a env)=A/\(model prog w).den (.compStart ce d it a env)=(compStart ce d it a env).onRaise (λx=>do noteFrame x env;standAt theWindowsPlace)/\A.under (.compStart ce d it a env)=A:=by cases ce<;>first|exact⟨rfl,rfl,rfl,rfl⟩|cases h
theorem zZ{d:Nat}{c:Np}{p:Pos}{body:Sem Unit}{J:It}{g:TG}{R:Qz->Nm->Prop}{Fin:L2.St->Hp->Prop}
  (k:iU ce=Nk) (l:X.xe=λ_ _=>False) (P:X.calm=Nk)
  (D:compTurn ce d (.ref it) c X.env=(standAt p>>=λ_=>pyNext (.ref it)>>=λr=>match r with
   |none=>pure (.done .next)
   |some v=>letOwnedTupleGo tg (.ref it) v>>=λ_=>assign tg X.env v>>=λ_=>body>>=λ_=>again (.compLoop ce d (.ref it) c X.env)))
  (T:Turn X.prog X.w X.K tg J fp it tn) (hg:PG X tg g) (h:PB X body tb) (I:Inv X pq σ H s) (st:tn 0 s.heap) (Q:∀b∈fp,dj X pq H b)
  (W:∃W:Nat->Nat->L2.St->Hp->Prop,(∃m,W 0 m σ H)/\∀i m σ H,W i m σ H->
   (J.stop i H/\Fin σ H)\/(J.go i H/\∃Nx:L2.St->Hp->Prop,(∀σ' H',Nx σ' H'->∃M,M<m/\W (i+1) M σ' H')/\∀x H',J.yld i H x H'->g x σ H' λG H2=>tb G H2 Nx))
  (hR:∀s' σ' H',Inv X pq σ' H' s'->(∀b∈fp,H' b=none)->Fin σ' H'->R (.ok .next) s'):codeAny (model X.prog X.w) X.A (.compLoop ce d (.ref it) c X.env) R s:=by
 obtain⟨W,⟨m0,w0⟩,turn⟩:=W;have S:∀{H':Hp},(∀b∈fp,H' b=none)->∀b∈fp,dj X pq H' b:=λhn b h=>⟨hn b h,(Q b h).2⟩;refine codeAny_loop rfl (λn s'=>∃i σ' H',Inv X pq σ' H' s'/\tn i s'.heap/\(∀b∈fp,H' b=none)/\W i n σ' H') ?_ m0 ⟨0,σ,H,I,st,λb h=>(Q b h).1,w0⟩;rintro n V ⟨i,a,y,O,q,f,w3⟩;rw[(mZ (A:=X.A) k).1,(mZ (prog:=X.prog) (w:=X.w) k).2.1];refine wpAny_noted ?_;rw[D];refine Za (OK ?_);rcases turn i n a y w3 with⟨stop,qn⟩| ⟨go,Nx,hN,step⟩
 ·refine Za (gc l (aO (T.done X rfl rfl rfl P i pq V a y X.xe O (S f) q stop) λr Y z=>z.elim λE I4=>?_));subst E;exact Zd (hR Y a y I4 f qn)
 ·refine Za (gc l (aO (T.item X rfl rfl rfl P i pq V a y X.xe O (S f) q go) λr Y z=>?_));obtain⟨u,E,h4⟩:=z;subst E;refine Za (gc l (aO h4 λ_ s5 z=>?_));obtain⟨x,L,I5,r5,y5,j,F⟩:=z;have B:=I5.pinned (S F) (T.obj _ _ j);refine Za (gc l (aO (hg _ s5 a L x u _ B r5 (step x L y5)) λ_ s6 z=>?_));obtain⟨K,Z,I6,q6⟩:=z;refine Za (gc l (aO (h _ s6 K Z _ I6 q6) λ_ s7 z=>?_));obtain⟨t,N,C,n7⟩:=z;refine Zd ?_;obtain⟨M,hm,w7⟩:=hN t N n7;refine⟨rfl,M,hm,i+1,t,N,C.unpinned,T.keep _ _ _ j λb h o e=>(C.pin (b,o) (ZC _ (ZC _ (ml h e)))).1,λb h=>?_,w7⟩;obtain⟨o,e,d⟩:=T.obj _ _ j b h;exact(C.pin (b,o) (ZC _ (ZC _ (ml h e)))).2.1
theorem z0{R:Qz->Nm->Prop}{d:Nat}{it a:Np}{t i:Expr}{fs:Lx}(H:iU ce=Nk)(e:(clausesOf ce)[d]?=some ⟨t,i,fs,0⟩)
  (c:codeAny (model prog w) A (.compLoop ce d it a env) R s)
  (h:wpAny (model prog w) A (pyIter it) (λI s'=>codeAny (model prog w) A (.compLoop ce d I a env) R s') (notedBy (model prog w) A env λx s'=>R (.error x) s') s):
  codeAny (model prog w) A (.compStart ce d it a env) R s:=by
 refine QE ?_;rw[(mZ (A:=A) H).2.2.1,(mZ (prog:=prog) (w:=w) H).2.2.2];refine wpAny_notedAt ?_;unfold compStart;rw[e];refine Za (OZ (Pw ?_));split
 ·first
   |rfl
   |exact Zd (Q9 rfl c)
 ·first
   |exact Za (O' (Za (OK (Za (ZJ h (λI s' b=>Zd (Q9 rfl b)) λ_ _ x=>x)))))
   |lia
abbrev TU:=L2.St->Hp->(L2.St->Hp->Prop)->Prop
noncomputable def m5:List TT->(L2.St->Hp->(Bool->Hp->Prop)->Prop)
 | []=>λ_ H Q=>Q Nk H
 |t::r=>λσ H Q=>t σ H λb H1=>if b=Nk then m5 r σ H1 Q else Q Nl H1
noncomputable def z7(X:Cx):Lx->List TT->Prop
 | [],[]=>True
 |e::es,t::ts=>PT X e t/\z7 X es ts
 |_,_=>False
theorem z8{M:Model}{A:NX}{E:Vs}{env:Env}{Q:Bool->Nm->Prop}{s:Nm}:∀(ifs:Lx),Q Nl s->
  wpAny M A (forIn ifs Nl λc r=>if r=Nk then do let ok <-isTrue c env (eval c env);pure (NO ok)else pure (NO r)) Q E s
 | [],h=>Zd h
 |c::r,h=>by rw[OY];exact Za (Zd (z8 r h))
theorem z9:∀(ifs:Lx) (ts:List TT),z7 X ifs ts->∀(pq:Lp) (s:Nm) (σ:L2.St) (H:Hp) (Q:Bool->Hp->Prop),Inv X pq σ H s->m5 ts σ H Q->
  wpAny (model X.prog X.w) X.A (forIn ifs Nk λc r=>if r=Nk then do let ok <-isTrue c X.env (eval c X.env);pure (NO ok)else pure (NO r)) (TP X pq σ Q) X.xe s
 | [],[],_,pq,s,σ,H,Q,I,h=>Zd ⟨H,I,h⟩
 |e::E,t::ts,p,pq,s,σ,H,Q,I,h=>by
  rw[OY];refine Za (Za (aO (p.1 _ s _ H _ I h) λb S z=>z.elim λ_ z=>z.elim λa q=>Zd ?_));cases b with
  |true=>exact z9 _ _ p.2 _ _ _ _ Q a q
  |false=>exact z8 _ ⟨_,a,q⟩
 | [],_::_,p,_,_,_,_,_,_,_=>p.elim
 |_::_,[],p,_,_,_,_,_,_,_=>p.elim
noncomputable def z_(a:Nn)(t:TE):TU:=λσ H Q=>t σ H λv H1=>∃ys,H1 a=some (.lst ys)/\ys.length<sizeLine/\Q σ (aP H1 a (.lst (ys++[v])))
noncomputable def Aa(ts:List TT)(t:TU):TU:=λσ H Q=>m5 ts σ H λb H1=>if b=Nk then t σ H1 Q else Q σ H1
noncomputable def ua(w:TI)(g:TG)(tb:TU):TU:=λσ H Q=>w σ H λJ H1=>∃W:Nat->Nat->L2.St->Hp->Prop,(∃m,W 0 m σ H1)/\∀i m σ H,W i m σ H->
   (J.stop i H/\Q σ H)\/(J.go i H/\∃N:L2.St->Hp->Prop,(∀σ' H',N σ' H'->∃M,M<m/\W (i+1) M σ' H')/\∀x H',J.yld i H x H'->g x σ H' λa H2=>tb a H2 N)
noncomputable def km(o0:Nn->HO)(cs:L2.St->L2.St)(w:TI)(g:TG)(tb:Nn->TU):TE:=λσ H Q=>w σ H λJ H1=>∀acc,H1 acc=none->
 ∃W:Nat->Nat->L2.St->Hp->Prop,(∃m,W 0 m (cs σ) (aP H1 acc (o0 acc)))/\∀i m σ H,W i m σ H->
   (J.stop i H/\Q (.ref acc) H)\/(J.go i H/\∃N:L2.St->Hp->Prop,(∀σ' H',N σ' H'->∃M,M<m/\W (i+1) M σ' H')/\∀x H',J.yld i H x H'->g x σ H' λa H2=>tb acc a H2 N)
def m6(X:Cx)(scope:Scope)(N:Ls)(cs:L2.St->L2.St):Prop:=∀σ:L2.St,σ.length=X.N.length->(cs σ).length=N.length/\
 ∀(i:Nat) (v:V) (x:Str),N[i]?=some x->(cs σ)[i]?=some (some v)->scope.names.lookup x=some .free/\∃j:Nat,X.N[j]?=some x/\σ[j]?=some (some v)
theorem Ab(I:Inv X pq σ H s)(S:dN X scope):closureFor scope X.env=pure (cb X.env scope.names []):=
 Hs λx a h=>I.ok.has _ (S.free x a h)
theorem Hy(H:Ny)(d:Obj)(n:List (Str×N6)):CellsOk (pushCells (H.push d) n) (H.objs.size+1) (cellsFrom (H.objs.size+1) n []):=by have:=cellsFrom_ok n (H.push d) (H.objs.size+1) _ ⟨(λ_ _ h=>by cases h),.nil⟩ (by simp_all);simp_all
theorem Ac{D:List NJ}{ob:Obj}{o0:Nn->HO}{mk:Sem Np}{scope:Scope}{N:Ls}{cs:L2.St->L2.St}{J:It}{g:TG}{tb:Nn->TU}{R:Np->Nn->Qz->Nm->Prop}{Fin:V->Hp->Prop}
  {P:Lp} {σ:L2.St} {H:Hp}  {it:Nn} {f:La} {tn:Nat->Ny->Prop} {E:Vs} (B:iU ce=Nk) (Z:clausesOf ce=⟨tg,iter,ifs,0⟩::D) (hmk:∀{s:Nm} {Q:Vs},Q (.ref s.heap.objs.size) {s with heap:=s.heap.push ob}->wpAny (model X.prog X.w) X.A mk Q E s) (hob:aQ X.prog X.w (aP H s.heap.objs.size (o0 s.heap.objs.size)) (s.heap.push ob) s.heap.objs.size (o0 s.heap.objs.size)) (hc:X.calm=Nk) (sc:dN X scope) (hcs:m6 X scope N cs) (I:Inv X P σ H s) (T:Turn X.prog X.w X.K tg J f it tn) (st:tn 0 s.heap) (hf:∀b∈f,dj X P H b)
  (body:Nn->Env->Sem Unit)
  (heq:∀(acc:Nn) (env:Env),compTurn ce 0 (.ref it) (.ref acc) env=(standAt iter.pos>>=λ_=>pyNext (.ref it)>>=λr=>match r with
   |none=>pure (.done .next)
   |some v=>letOwnedTupleGo tg (.ref it) v>>=λ_=>assign tg env v>>=λ_=>body acc env>>=λ_=>again (.compLoop ce 0 (.ref it) (.ref acc) env)))
  (hin:∀(C:Nn) (s0:Nm) (H0:Hp) (f:La) (acc:Nn),PG (fM X scope N C s0 H0 f) tg g/\PB (fM X scope N C s0 H0 f) (body acc (fM X scope N C s0 H0 f).env) (tb acc))
  (W:∀acc,H acc=none->∃W:Nat->Nat->L2.St->Hp->Prop,(∃m,W 0 m (cs σ) (aP H acc (o0 acc)))/\∀i m σ H,W i m σ H->
   (J.stop i H/\Fin (.ref acc) H)\/(J.go i H/\∃Nx:L2.St->Hp->Prop,(∀σ' H',Nx σ' H'->∃m',m'<m/\W (i+1) m' σ' H')/\∀x H',J.yld i H x H'->g x σ H' λσ2 H2=>tb acc σ2 H2 Nx))
  (hR:∀(acc C:Nn) (s':Nm) (H':Hp) (m:Mg),s'.heap.Ns C m->C≠X.env.locals->(∀x c,X.env.cells.lookup x=some c->c≠C)->H' C=none->X.s₀.heap.objs.size<=C->(∀p∈X.pn++P,p.1≠C)->(∀h',NY C s'.heap h'->Inv X P σ H' {s' with heap:=h'})->Fin (.ref acc) H'->R (.ref acc) C (.ok .next) s'):
  wpAny (model X.prog X.w) X.A mk (λacc G=>wpAny (model X.prog X.w) X.A (newFunctionEnv scope X.env.globals (cb X.env scope.names []) [] X.env.qual none .none (some X.env)) (λl K=>
   codeAny (model X.prog X.w) X.A (.compStart ce 0 (.ref it) acc {l with scope:=relabel scope X.env}) (R acc l.locals) K) E G) E s:=by
 refine hmk (Ht ?_);have hfr:H s.heap.objs.size=none:=I.hok.fresh (Zh _);have n:Inv X P σ (aP H s.heap.objs.size (o0 s.heap.objs.size)) {s with heap:=s.heap.push ob,toks:=s.toks}:=I.laid (t':=s.toks) (λb o e=>Zb _ e) (Zh _) hob;have y:∀b∈f,∃o,s.heap.get? b=some o:=λb j=>by obtain⟨o,e,_⟩:=T.obj _ _ st b j;exact⟨o,e⟩
 have u:∀b∈f,dj X P (aP H s.heap.objs.size (o0 s.heap.objs.size)) b:=λb j=>by obtain⟨f0,Y⟩:=hf b j;obtain⟨o,w⟩:=y b j;exact⟨by rw[av (Zt (Zj w))];exact f0,Y⟩
 have F:∀b∈f,∃o,(s.heap.push ob).get? b=some o:=λb j=>by obtain⟨o,w⟩:=y b j;exact⟨o,Zb _ w⟩
 obtain⟨k1,k2⟩:=hcs σ I.len;obtain⟨a,M⟩:∃a,a=pushCells ((s.heap.push ob).push {cls:=.type "dict",data:=.dict #[]}) scope.names:=⟨_,rfl⟩;have O:∀b o,(s.heap.push ob).get? b=some o->a.get? b=some o:=λb o e=>by rw[M];exact pushCells_keeps _ _ _ _ (Zb _ e)
 have k:a.Ns (s.heap.push ob).objs.size λ_=>none:=by rw[M];exact⟨_,_,_,pushCells_keeps _ _ _ _ (Zk _ rfl),rfl,(λx h=>by simp at h),λ_=>rfl⟩
 have A:CellsOk a ((s.heap.push ob).objs.size+1) (cellsFrom ((s.heap.push ob).objs.size+1) scope.names []):=by rw[M];exact Hy _ _ _
 rw[<-M];have J0:=Hv (tk:=s.toks) (N:=N) (scope:=scope) (σ':=cs σ) hc n sc u F k O A k1 k2;have old:∀b o,s.heap.get? b=some o->a.get? b=some o:=λb o e=>O b o (Zb _ e);have S:tn 0 a:=T.keep _ _ _ st λb _ o e=>old b o e;have hlt:X.env.locals<(s.heap.push ob).objs.size:=n.lt
 have L:codeAny (model X.prog X.w) X.A (.compLoop ce 0 (.ref it) (.ref s.heap.objs.size) (fM X scope N (s.heap.push ob).objs.size {s with heap:=s.heap.push ob,toks:=s.toks} (aP H s.heap.objs.size (o0 s.heap.objs.size)) f).env)
   (R (.ref s.heap.objs.size) (s.heap.push ob).objs.size) {s with heap:=a,toks:=s.toks}:=by
  obtain⟨p1,p2⟩:=hin (s.heap.push ob).objs.size {s with heap:=s.heap.push ob,toks:=s.toks} (aP H s.heap.objs.size (o0 s.heap.objs.size)) f s.heap.objs.size;refine zZ (X:=fM X scope N _ _ _ f) (Fin:=λ_ H'=>Fin (.ref s.heap.objs.size) H') B rfl hc (heq _ _) T p1 p2 J0 S (λb j=>?_) ?_ ?_
  ·obtain⟨f0,Y,f2,f3,f4,f5⟩:=u b j;obtain⟨o,w⟩:=F b j;refine⟨f0,Zt (Zj w),kl n Y f2,.inl j,λx c h=>?_,λp hp=>f5 p (by simpa[fM]using hp)⟩;rcases hW h with z| ⟨_,z⟩
   ·exact λq=>absurd (Zj w) (Po.mpr (q▸Om (A.empty x c (ZF z)).2))
   ·exact f4 x c (t8 scope.names [] (λ_ z=>nomatch z) (x,c) (ZF z))
  ·exact W _ hfr
  ·intro s' σ' H' U _ fin;obtain⟨m,hm,_⟩:=id U.loc;refine hR _ _ s' H' m hm (O9 hlt) (λx c h z=>?_) U.free n.sz (λp hp z=>?_) (λh' hs'=>?_) fin
   ·obtain⟨v,q⟩:=n.cell x c h;exact absurd q.lt (by rw[z];exact ZO _)
   ·exact absurd (Zj (n.pin p hp).1) (by rw[z];exact ZO _)
   ·exact Hw n u rfl U hs'
 exact z0 B (by rw[Z];rfl) L (T.self _ 0 _ _ _ S L)
theorem m9{R:List NJ}{pos:Pos}{cs:L2.St->L2.St}{g:TG}{tb:Nn->TU}(n:X.calm=Nk)(S:dN X scope)(a:m6 X scope N cs)(o:PI X tg iter wi)(body:Nn->Env->Sem Unit)
  (b:∀(it acc:Nn) (env:Env),compTurn (.ListComp elt (⟨tg,iter,ifs,0⟩::R) scope pos) 0 (.ref it) (.ref acc) env=(standAt iter.pos>>=λ_=>pyNext (.ref it)>>=λr=>match r with
   |none=>pure (.done .next)
   |some v=>letOwnedTupleGo tg (.ref it) v>>=λ_=>assign tg env v>>=λ_=>body acc env>>=λ_=>again (.compLoop (.ListComp elt (⟨tg,iter,ifs,0⟩::R) scope pos) 0 (.ref it) (.ref acc) env)))
  (c:∀(C:Nn) (s0:Nm) (H0:Hp) (fp:La) (acc:Nn),PG (fM X scope N C s0 H0 fp) tg g/\PB (fM X scope N C s0 H0 fp) (body acc (fM X scope N C s0 H0 fp).env) (tb acc))
  (hs:∀x,foldedSetIterable iter X.env x=pure x:=by intro _;rfl):PE X (.ListComp elt (⟨tg,iter,ifs,0⟩::R) scope pos) (km (λ_=>.lst []) cs wi g tb):=by
 intro P s E H Q I h;refine Sx rfl hs (Ab I S) S.kind S.loc (ZJ (o _ s _ H _ I h) (λv A j=>ZJ j (λt B k=>?_) λ_ _ e=>e) λ_ _ e=>e);obtain⟨it,fp,D,J,w,e,i,T,f,F,W⟩:=k;subst e;refine Ac (o0:=λ_=>.lst _) rfl rfl (λq=>ZS q) ⟨Ya _,_,0,.nil,Zk _ rfl⟩ n S a i T f F _ (b _) c W ?_;intro acc C z u m p _ _ _ _ _ l fin;exact⟨m,p,λy d=>⟨.ref _,_,l _ d,rfl,fin⟩⟩
theorem m_{c:List NJ}{pos d p:Pos}{cs:L2.St->L2.St}{g:TG}{tb:Nn->TU}{x:Str}{j:Nat}(hc:X.calm=Nk)(hN:X.N.Nodup)(hj:X.N[j]?=some x)(Y:X.env.scope.names.lookup x=some .local)
  (L:swapsWith (.ListComp elt (⟨tg,iter,ifs,0⟩::c) scope pos) (some (.Name x p)) d.line X.env=pure Nk)
  (l:dN X scope) (B:m6 X scope N cs) (hi:PI X tg iter wi) (body:Nn->Env->Sem Unit)
  (E:∀(it acc:Nn) (env:Env),compTurn (.ListComp elt (⟨tg,iter,ifs,0⟩::c) scope pos) 0 (.ref it) (.ref acc) env=(standAt iter.pos>>=λ_=>pyNext (.ref it)>>=λr=>match r with
   |none=>pure (.done .next)
   |some v=>letOwnedTupleGo tg (.ref it) v>>=λ_=>assign tg env v>>=λ_=>body acc env>>=λ_=>again (.compLoop (.ListComp elt (⟨tg,iter,ifs,0⟩::c) scope pos) 0 (.ref it) (.ref acc) env)))
  (F:∀(C:Nn) (s0:Nm) (H0:Hp) (fp:La) (acc:Nn),PG (fM X scope N C s0 H0 fp) tg g/\PB (fM X scope N C s0 H0 fp) (body acc (fM X scope N C s0 H0 fp).env) (tb acc))
  (hs:∀x,foldedSetIterable iter X.env x=pure x:=by intro _;rfl):PS X (.Assign [.Name x p] (.ListComp elt (⟨tg,iter,ifs,0⟩::c) scope pos) d) (mi (km (λ_=>.lst []) cs wi g tb) (dZ j)):=by
 intro P s U H D I h;rw[exec_Assign_Name_used _ _ _ _ L];refine Za (OK (Za ?_));show wpAny _ X.A (do let _ <-comprehension (.ListComp elt (⟨tg,iter,ifs,0⟩::c) scope pos) scope X.env _ (newList []) Nl (eval iter X.env) (some (assign (.Name x p) X.env))) _ _ s
 refine Za (ZJ (Sx (use:=some (assign (.Name x p) X.env)) (Q:=λ_ S=>SP X P D .next S) rfl hs (Ab I l) l.kind l.loc
  (ZJ (hi P s U H _ I h) (λv s1 h1=>ZJ h1 (λitv s2 h2=>?_) λ_ _ e=>e) λ_ _ e=>e)) (λ_ S hq=>Zd (Zd hq)) λ_ _ e=>e)
 obtain⟨it,fp,tn,J,H2,e,Z,T,O,f2,W⟩:=h2;subst e;refine Ac (o0:=λ_=>.lst []) rfl rfl (λq=>ZS q) ⟨Ya _,[],0,.nil,Zk _ rfl⟩ (R:=λacc C=>compPost (model X.prog X.w) X.A X.xe (some (assign (.Name x p) X.env)) (λ_ S=>SP X P D .next S) acc C) (Fin:=λv k=>dZ j v U k D.nx) hc l B Z T O f2 body (E it) F W ?_;intro acc C S k m hm f i n t u hI fin;show wpAny _ X.A (assign (.Name x p) X.env (.ref acc)) _ _ S
 have I4:Inv X P U k S:=by have:=hI S.heap (.refl ..);simpa using this
 refine wpAny_assign_Name (yv I4 hN hj (.inl Y) (v:=.ref acc) rfl (λM I5 A=>?_) (.inr Y));obtain⟨a,K,y⟩:=A
 have w:C≠a:=by
  rcases y with rfl|y
  ·exact f
  ·exact λz=>i x a y z.symm
 refine⟨m,hm.sameBut K w,λV G=>?_⟩;exact⟨_,k,I5.turned (h':=V) (t':=M.toks) (it:=C) (λb o hb e=>(G.2 b hb).trans e) n f (.inr t) i u,fin⟩
theorem ai.eraseIdx{mg:GS}:∀{ds:List D} {vs:List V} (i:Nat),ai K mg μ H ds vs->ai K mg μ H (ds.eraseIdx i) (vs.eraseIdx i)
 | [],vs,i,h=>by subst h;rfl
 |d::ds,vs,0,h=>by obtain⟨v,u,rfl,r,q⟩:=h.uncons;exact q
 |d::ds,vs,i+1,h=>by obtain⟨v,u,rfl,r,q⟩:=h.uncons;exact .cons r (ai.eraseIdx i q)
noncomputable def ub(d:D)(ds:List D)(S:ae):Res D:=match d,ds with
 | .ref n,[.int i]=>match S[n]? with
  |some xs=>match iQ xs.length i with
   |some k=>match xs[k]? with
    |some y=>if xs.length<=cm then .ok y (S.set n (xs.eraseIdx k))else .fail
    |none=>.fail
   |none=>.fail
  |none=>.fail
 |_,_=>.fail
theorem ng:jL X "list.pop" (rM X.K X.mg ub):=by
 intro P s J H x C v U Q I t p h;obtain⟨F,G,S,d,D,c,m,R,w⟩:=h;unfold ub at w;split at w
 ·split at w
  ·rename_i n i _ Y e;split at w
   ·rename_i k f;split at w
    ·rename_i y E;split at w
     ·obtain⟨a,vs,rfl,l,b,r⟩:=kh c m e;obtain⟨V,rfl,o⟩:=R.one;cases aG o;obtain⟨z,g,j⟩:=r.get E;obtain⟨q,u,A,B⟩:=tt f;rw[r.length]at q;exact GY _ s _ H _ _ v _ Q I t p ⟨a,_,i,k,z,rfl,rfl,b,by lia,by lia,q,g,w.wrote c l b (r.eraseIdx k) j⟩
     ·exact w.elim
    ·exact w.elim
   ·exact w.elim
  ·exact w.elim
 ·exact w.elim
noncomputable def eK:List D->Option (Li)
 | []=>some []
 | .int i::r=>(eK r).map (i:: ·)
 |_=>none
theorem nh:∀{xs:List D} {ns:Li},eK xs=some ns->xs=ns.map D.int
 | [],ns,h=>by cases h;rfl
 |x::xs,ns,h=>by
  cases x with
  |int i=>
   dsimp only[eK]at h;cases e:eK xs with
   |none=>simp_all
   |some m=>rw[e]at h;cases h;rw[nh e];rfl
  |_=>cases h
noncomputable def uc(ds:List D)(S:ae):Res D:=match ds with
 | [d]=>match c_ S d with
  |some xs=>match eK xs with
   |some (n::ns)=>.ok (.int (ns.foldl max n)) S
   |_=>.fail
  |none=>(match d with
   | .tup xs=>(match eK xs with
    |some (n::ns)=>.ok (.int (ns.foldl max n)) S
    |_=>.fail)
   |_=>.fail)
 |ds=>tZ ds S
theorem Ad{lt:Int->Int->Bool}(H:∀a b,g a b=if lt b a=Nk then b else a)(n:Int)(ns:Li):∀k,k<=ns.length->(n::ns).getD (argBest (λi j=>lt ((n::ns).getD i 0) ((n::ns).getD j 0)) k) 0=(ns.take k).foldl g n:=by
 intro k
 induction k with
 |zero=>intro _;rfl
 |succ k I=>
  intro h;have e:ns.take (k+1)=ns.take k++[ns[k]]:=by simp_all
  have E:(n::ns).getD (k+1) 0=ns[k]:=by grind
  rw[e,S9,Qi,List.foldl_nil,H,argBest];lia
theorem iV:∀{its:Lv},Vals (ns.map V.int) its->∀i v,its.toArray[i]?=some v->∃t,v=Pd (ns.getD i 0) t:=λ{its} r i v b=>by
 have a:=r.length;simp only[Zl]at a;have h:its[i]?=some v:=by simpa using b
 have H:i<ns.length:=by rw[a];exact(Zg.mp h).1
 have E:(ns.map V.int)[i]?=some (.int ns[i]):=by rw[Z2,Zf H];rfl
 obtain⟨u,e,R⟩:=r.get E;rw[h]at e;cases e;obtain⟨t,rfl⟩:=R;exact⟨t,by simp[P_,Zf H]⟩
theorem ud{mg:GS}:∀(ns:Li) (vs:List V),ai K mg μ H (ns.map D.int) vs->vs=ns.map V.int:=by
 intro ns
 induction ns with
 |nil=>intro vs r;exact r
 |cons n ns i=>intro vs r;obtain⟨v,w,rfl,R,a⟩:=r.uncons;cases aG R;rw[i _ a];rfl
theorem ni(J:X.calm=Nk):a9 X (.builtin "max") (rC X.K X.mg uc):=by
 intro pq s σ H xs us Q I r h;obtain⟨F,μ,S,ds,A,rl,w⟩:=h;unfold uc at w;split at w
 ·rename_i d;obtain⟨v,rfl,rd⟩:=rl.one;obtain⟨u,rfl,ru⟩:=vals1 r;split at w
  ·rename_i ys e;split at w
   ·rename_i n N C;have t:=nh C;subst t;obtain⟨a,vs,rfl,P,W⟩:=cU A rd e;cases ru;have U:=ud _ vs W;subst U;have K:X.A.in1.handled=none:=I.ok.hd J;obtain⟨c,R,p,hz⟩:=I.list (.of P);have O:c.toArray.size=N.length+1:=by rw[Zv,<-R.length,Zl];rfl
    refine call_max_walk (NQ p.isList ?_);have f:a<s.heap.objs.size:=by obtain⟨o,k,_⟩:=p.isList;exact Zj k
    have m:a≠s.heap.objs.size:=Zt f;refine⟨_,_,_,_,_,_,λi j=>decide ((n::N).getD i 0>(n::N).getD j 0),rfl,Walks.list K s.heap.objs.size a m c.toArray,⟨⟨_,Zk _ rfl,rfl,rfl⟩,QB p.isList _⟩,?_,by omega,?_,λv y Z D V=>?_⟩
    ·intro b G;have x:∀o,(s.heap.push o).objs.size=s.heap.objs.size+1:=λo=>by simp[Q3]
     have l:b=s.heap.objs.size\/b=a:=by simpa using G
     refine QM ?_ (x _).symm;rcases l with h|h
     ·rw[h];exact NL _
     ·rw[h];exact P4 f
    ·intro i j vi vj Y B E L M q;obtain⟨t1,rfl⟩:=iV R i vi L;obtain⟨t2,rfl⟩:=iV R j vj M;exact(Rl q:wpAny (model X.prog X.w) X.A.in1 (compareOp .Gt _ _) B E Y)
    ·obtain⟨T,rfl⟩:=iV R _ v D;rw[O]at*;have:=Ad (g:=max) (lt:=λa b=>decide (a>b)) (λa b=>by simp only[decide_eq_true_eq];exact jT a b) n N N.length (Zh _);rw[Ot]at this;rw[show N.length+1-1=N.length from rfl,this];refine⟨.int (N.foldl max n),H,I.kept (h':=y) (t':=Z) λb o k=>V b o ?_ (Zb _ k),⟨T,rfl⟩,w μ H _ .refl A bq⟩;intro z;have z':b=s.heap.objs.size:=by simpa using z
     exact absurd (Zj k) (by rw[z'];exact ZO _)
   ·exact w.elim
  ·split at w
   ·split at w
    ·rename_i n N C;have t:=nh C;subst t;obtain⟨a,vs,rfl,P,W⟩:=bQ rd;cases ru;have U:=ud _ vs W;subst U;have K:X.A.in1.handled=none:=I.ok.hd J;obtain⟨c,R,p,hz⟩:=I.tuple P;have O:c.toArray.size=N.length+1:=by rw[Zv,<-R.length,Zl];rfl
     refine call_max_walk (N2 (show s.heap.IsTuple a c.toArray from p) ?_);have f:a<s.heap.objs.size:=by obtain⟨o,k,_⟩:=p;exact Zj k
     have m:a≠s.heap.objs.size:=Zt f;refine⟨_,_,_,_,_,_,λi j=>decide ((n::N).getD i 0>(n::N).getD j 0),rfl,Walks.tuple K s.heap.objs.size a m c.toArray,⟨⟨_,Zk _ rfl,rfl,rfl⟩,Heap.IsTuple.push (show s.heap.IsTuple a c.toArray from p) _⟩,?_,by omega,?_,λv y Z D V=>?_⟩
     ·intro b G;have x:∀o,(s.heap.push o).objs.size=s.heap.objs.size+1:=λo=>by simp[Q3]
      have l:b=s.heap.objs.size\/b=a:=by simpa using G
      refine QM ?_ (x _).symm;rcases l with h|h
      ·rw[h];exact NL _
      ·rw[h];exact P4 f
     ·intro i j vi vj Y B E L M q;obtain⟨t1,rfl⟩:=iV R i vi L;obtain⟨t2,rfl⟩:=iV R j vj M;exact(Rl q:wpAny (model X.prog X.w) X.A.in1 (compareOp .Gt _ _) B E Y)
     ·obtain⟨T,rfl⟩:=iV R _ v D;rw[O]at*;have:=Ad (g:=max) (lt:=λa b=>decide (a>b)) (λa b=>by simp only[decide_eq_true_eq];exact jT a b) n N N.length (Zh _);rw[Ot]at this;rw[show N.length+1-1=N.length from rfl,this];refine⟨.int (N.foldl max n),H,I.kept (h':=y) (t':=Z) λb o k=>V b o ?_ (Zb _ k),⟨T,rfl⟩,w μ H _ .refl A bq⟩;intro z;have z':b=s.heap.objs.size:=by simpa using z
      exact absurd (Zj k) (by rw[z'];exact ZO _)
    ·exact w.elim
   ·exact w.elim
 ·exact zM J pq s σ H xs us Q I r ⟨F,μ,S,_,A,rl,w⟩
theorem Ae:∀{ns:Li} {its:Lv},Vals (ns.map V.int) its->PyProof.Rows.IntsAre its ns
 | [],its,r=>by cases r;exact .nil
 |n::ns,its,r=>by
  cases r with
  |cons p q=>obtain⟨t,rfl⟩:=p;exact .cons _ _ (Ae q)
section
variable {R:Qz->Nm->Prop}{P:Nat->Np->Prop}{St:Nat->Ny->Prop}
def ko(prog:Nu)(w:NG)(A:NX)(P:Nat->Np->Prop)(b:Nat->Nat->Bool)(g:Array Rh)(d:PySem.Drawn)(o:OsState)(K:Ny->Prop):Prop:=
 ∀(i j:Nat) (v V:Np) (h:Ny) (tk:Nat) (Q E:Vs),K h->P i v->P j V->Q (.bool (b i j)) ⟨h,g,d,tk,o⟩->wpAny (model prog w) A (richCompare .Lt v V) Q E ⟨h,g,d,tk,o⟩
theorem Hz(W:Walks prog w A.in1 I fp wr n P St)(B:Nat->Nat->Bool){g:Array Rh}{O:OsState}{K:Ny->Prop}(X:ko prog w A.in1 P B g dr O K)(S:Nn)(C:S∉fp)
  (hK:∀h h',K h->(∀b o,b∉wr->b≠S->h.get? b=some o->h'.get? b=some o)->K h'):∀(k j:Nat) (h0:Ny) (M:Nat) (V:Np) (c:Nat),n-(j+1)=k->j+1<=n->St (j+1) h0->P (argBest B j) V->K h0->
   h0.get? S=some {cls:=.type "list",data:=.seq #[V,V] c}->
   (∀(v:Np) (h':Ny) (tk:Nat),P (argBest B (n-1)) v->(∀b o,b∉wr->b≠S->h0.get? b=some o->h'.get? b=some o)->R (.ok (.ret v)) ⟨h',g,dr,tk,O⟩)->
   codeAny (model prog w) A (.builtin "min.loop" ⟨[.ref I,.none,.ref S],[]⟩) R ⟨h0,g,dr,M,O⟩:=by
 have D:S∉wr:=λh=>C (W.sub S h);intro k
 induction k with
 |zero=>
  intro j h0 M V c Z Y t i x y G;have E:n=j+1:=by omega
  refine Z9 Rm ?_;rw[Z4 OS];refine Za (Z7 y rfl ?_);refine Za (QN (W.done _ _ _ (E▸t) λh' tk d=>?_));refine Za (PN (d S _ D y) rfl (Za (PD (Zd ?_))));refine G V _ tk ?_ λb o u H e=>?_
  ·rw[E];exact i
  ·exact(ZH _ _ (Ne.symm H)).trans (d b o u e)
 |succ k U=>
  intro j h0 M V c Z Y t i x y G;refine Z9 Rm ?_;rw[Z4 OS];refine Za (Z7 y rfl ?_);refine Za (QN (W.item (j+1) _ _ _ (by omega) t λv h' tk L l d=>?_));have r:=d S _ D y;have m:K h':=hK _ _ x λb o u _ e=>d b o u e;refine Za (Zd ?_);refine Za (QN (ZE (Za (X (j+1) (argBest B j) v V _ _ _ _ m L i (Za (ZE (ZR (Za (PD (Zd ?_))))))))));have f:(toString "min"++toString ".loop")="min.loop":=by decide
  have q:(Code.builtin "min.loop" ⟨[.ref I,.none,.ref S],[]⟩).quiet=Nk:=OL OS _;cases u:B (j+1) (argBest B j)with
  |true=>
   have Q:argBest B (j+1)=j+1:=by rw[argBest,u,if_pos rfl]
   refine Za (PN r rfl (Za (PD ?_)));rw[f];refine Zd ⟨q,?_⟩;refine U (j+1) (h'.update S (ND λ_=> #[v,v])) tk v c (by omega) (by omega) ?_ (by grind) ?_ ?_ λN J T p s=>?_
   ·refine W.frame _ _ _ l λb a o e=>?_;exact(ZH _ _ λz=>C (by rw[z];exact a)).trans e
   ·exact hK _ _ m λb o _ H e=>(ZH _ _ (Ne.symm H)).trans e
   ·exact ZQ (ND λ_=> #[v,v]) r rfl
   ·exact G N J T p λb o a H e=>s b o a H ((ZH _ _ (Ne.symm H)).trans (d b o a e))
  |false=>
   have Q:argBest B (j+1)=argBest B j:=by rw[argBest,u,if_neg (by decide)]
   refine Za (PD ?_);rw[f];refine Zd ⟨q,?_⟩;exact U (j+1) h' tk V c (by omega) (by omega) l (by rw[Q];exact i) m r λN J T p s=>G N J T p λb o a H e=>s b o a H (d b o a e)
theorem HA(W:Walks prog w A.in1 I fp wr n P St)(B:Nat->Nat->Bool){g:Array Rh}{O:OsState}{K:Ny->Prop}(E:ko prog w A.in1 P B g dr O K)(S:Nn)(d:S∉fp)
  (hK:∀h h',K h->(∀b o,b∉wr->b≠S->h.get? b=some o->h'.get? b=some o)->K h') (G:0<n)  {J:Nat} {c:Nat} (t:St 0 h0) (l:K h0)
  (u:h0.get? S=some {cls:=.type "list",data:=.seq #[] c})
  (y:∀(v:Np) (h':Ny) (tk:Nat),P (argBest B (n-1)) v->(∀b o,b∉wr->b≠S->h0.get? b=some o->h'.get? b=some o)->R (.ok (.ret v)) ⟨h',g,dr,tk,O⟩):
  codeAny (model prog w) A (.builtin "min.loop" ⟨[.ref I,.none,.ref S],[]⟩) R ⟨h0,g,dr,J,O⟩:=by
 refine Z9 Rm ?_;rw[Z4 OS];refine Za (Z7 u rfl ?_);refine Za (QN (W.item 0 _ _ _ G t λv h' tk p k f=>?_));have j:=f S _ (λh=>d (W.sub S h)) u;refine Za (Zd ?_);have i:(toString "min"++toString ".loop")="min.loop":=by decide
 have q:(Code.builtin "min.loop" ⟨[.ref I,.none,.ref S],[]⟩).quiet=Nk:=OL OS _;refine Za (PN j rfl ?_);rw[i];refine Zd ⟨q,?_⟩;obtain⟨C,r⟩:∃C,(h'.update S (ND λ_=> #[v,v])).get? S=some {cls:=.type "list",data:=.seq #[v,v] C}:=⟨_,ZQ (ND λ_=> #[v,v]) j rfl⟩;refine Hz W B E S d hK (n-1) 0 (h'.update S (ND λ_=> #[v,v])) tk v C (by omega) (by omega) ?_ p ?_ ?_ λV x T m s=>?_
 ·refine W.frame _ _ _ k λb H o e=>?_;exact(ZH _ _ λz=>d (by rw[z];exact H)).trans e
 ·exact hK _ _ (hK _ _ l λb o D _ e=>f b o D e) λb o _ a e=>(ZH _ _ (Ne.symm a)).trans e
 ·exact r
 ·exact y V x T m λb o H a e=>s b o H a ((ZH _ _ (Ne.symm a)).trans (f b o H e))
theorem HB{E:Vs}{s:Nm}{x:Np}{K:Ny->Prop}
  (h:wpAny (model prog w) A.in1 (pyIter x) (λit s2=>∃I fp wr n P St B,it=.ref I/\Walks prog w A.in1 I fp wr n P St/\St 0 s2.heap/\(∀b∈fp,b<s2.heap.objs.size)/\0<n/\ko prog w A.in1 P B s2.gens s2.drawn s2.os K/\K s2.heap/\
   (∀(S:Nn) h h',s2.heap.objs.size<=S->K h->(∀b o,b∉wr->b≠S->h.get? b=some o->h'.get? b=some o)->K h')/\
   ∀(v:Np) (h':Ny) (tk:Nat),P (argBest B (n-1)) v->(∀b o,b∉wr->s2.heap.get? b=some o->h'.get? b=some o)->Q v {s2 with heap:=h',toks:=tk}) E s):
  wpAny (model prog w) A (call (.builtin "min") [x]) Q E s:=by
 refine call_function_tree F.kind_min F.plain_min F.entry_min (F.args_min1 x) ?_;refine Za (RF rfl (Za (Zd (Za (ZJ h (λit s2 g=>?_) λ_ _ e=>e)))));obtain⟨I,fp,wr,n,P,St,B,rfl,W,d,c,q,l,H,hK,j⟩:=g;refine Za (ZS ?_);refine Zd ⟨OL OS _,?_⟩;refine HA W _ l _ (λp=>ZO _ (c _ p)) (λh h' k e=>hK _ h _ (Zh _) k e) q (W.frame 0 _ _ d λb _ o e=>Zb _ e) ?_ (Zk _ rfl) λv h' tk i m=>?_
 ·exact hK _ _ _ (Zh _) H λb o _ _ e=>Zb _ e
 ·exact j v _ _ i λb o a e=>m b o a (Zt (Zj e)) (Zb _ e)
end
noncomputable def ue(ds:List D)(S:ae):Res D:=match ds with
 | [d]=>match c_ S d with
  |some (x::xs)=>if((x::xs).all λa=>(x::xs).all λb=>(eD S a_ a b).isSome)=Nk then .ok (xs.foldl (λb y=>if eD S a_ y b=some Nk then y else b) x) S else .fail
  |_=>.fail
 |ds=>tY ds S
theorem nj(g:D->D->Bool)(x:D)(xs:List D):∀k,k<=xs.length->(x::xs).getD (argBest (λi j=>g ((x::xs).getD i .non) ((x::xs).getD j .non)) k) .non=(xs.take k).foldl (λb y=>if g y b=Nk then y else b) x/\argBest (λi j=>g ((x::xs).getD i .non) ((x::xs).getD j .non)) k<=k:=by
 intro k
 induction k with
 |zero=>intro _;exact⟨rfl,Zh _⟩
 |succ k I=>
  intro h;obtain⟨H,a⟩:=I (by omega);have e:xs.take (k+1)=xs.take k++[xs[k]]:=by rw[List.take_succ,Zf (by omega)];rfl
  have E:(x::xs).getD (k+1) .non=xs[k]:=by simp[P_,Zf (show k<xs.length by omega)]
  rw[e,S9,Qi,List.foldl_nil,<-H,argBest];rw[E];split
  ·exact⟨E,Zh _⟩
  ·exact⟨rfl,by omega⟩
theorem HC(hc:X.calm=Nk)(hu:X.A.units+64<cLine):a9 X (.builtin "min") (rC X.K X.mg ue):=by
 intro pq s σ H xs us Q I r h;obtain⟨F,μ,S,ds,N,rl,w⟩:=h;unfold ue at w;split at w
 ·rename_i d;obtain⟨v,rfl,rd⟩:=rl.one;obtain⟨u,rfl,ru⟩:=vals1 r;split at w
  ·rename_i y Y e;split at w
   ·rename_i t;obtain⟨a,vs,rfl,hq,rr⟩:=cU N rd e;cases ru;have hh:X.A.in1.handled=none:=I.ok.hd hc;obtain⟨c,rv,p,hz⟩:=I.list (.of hq);have l1:=rr.length;have l2:=rv.length;have hl:c.toArray.size=Y.length+1:=by rw[Zv,<-l2,<-l1];rfl
    have D:a<s.heap.objs.size:=by obtain⟨o,g,_⟩:=p.isList;exact Zj g
    have V:a≠s.heap.objs.size:=Zt D
    have at_:∀(i:Nat) (v:Np),c.toArray[i]?=some v->∃x z,(y::Y)[i]?=some x/\Rep X.K ⟨X.mg,F⟩ μ H x z/\RelV z v:=λi v hv=>by
     have E:c[i]?=some v:=by simpa using hv
     have hi:i<c.length:=(Zg.mp E).1;have e1:(y::Y)[i]?=some ((y::Y)[i]'(by omega)):=Zf _;obtain⟨z,e2,W⟩:=rr.get e1;obtain⟨v2,e3,r3⟩:=rv.get e2;rw[E]at e3;cases e3;exact⟨_,z,e1,W,r3⟩
    refine HB (K:=λh=>∀b o,s.heap.get? b=some o->h.get? b=some o) (NQ p.isList ?_);refine⟨_,_,_,_,_,_,λi j=>decide (eD S a_ ((y::Y).getD i .non) ((y::Y).getD j .non)=some Nk),rfl,Walks.list hh s.heap.objs.size a V c.toArray,⟨⟨_,Zk _ rfl,rfl,rfl⟩,QB p.isList _⟩,?_,by omega,?_,λb o g=>Zb _ g,?_,λv l T hP kp=>?_⟩
    ·intro b A;have n:∀o,(s.heap.push o).objs.size=s.heap.objs.size+1:=λo=>by simp[Q3]
     have R:b=s.heap.objs.size\/b=a:=by simpa using A
     refine QM ?_ (n _).symm;rcases R with h|h
     ·rw[h];exact NL _
     ·rw[h];exact P4 D
    ·intro i j vi vj l T Q' E' hk hi hj f;obtain⟨J,zi,ei,ri,qi⟩:=at_ i vi hi;obtain⟨L,zj,ej,rj,qj⟩:=at_ j vj hj;have gi:(y::Y).getD i .non=J:=by simp[P_,ei]
     have gj:(y::Y).getD j .non=L:=by simp[P_,ej]
     replace f:Q' (.bool (decide (eD S a_ ((y::Y).getD i .non) ((y::Y).getD j .non)=some Nk))) {s with heap:=l,toks:=T}:=f;rw[gi,gj]at f;have hs:(eD S a_ J L).isSome=Nk:=Zm.mp (Zm.mp t J (Zo ei)) L (Zo ej);obtain⟨k,C⟩:=NU.mp hs;have U:decide (eD S a_ J L=some Nk)=k:=by rw[C];cases k<;>rfl
     rw[U]at f;have I':Inv X pq σ H {s with heap:=l,toks:=T}:=I.kept (h':=l) (t':=T) hk;exact tR I' N a_ X.A.in1 (by show X.A.units+1+40<cLine;omega) J L zi zj vi vj k ri qi rj qj C X.prog X.w E' Q' f
    ·intro S' h l hS k e b o g;refine e b o ?_ ?_ (k b o g)
     ·intro z;have Z:b=s.heap.objs.size:=by simpa using z
      exact absurd (Zj g) (by rw[Z];exact ZO _)
     ·intro z;have n:∀o,(s.heap.push o).objs.size=s.heap.objs.size+1:=λo=>by simp[Q3]
      have P:s.heap.objs.size+1<=S':=ZD (R8 (n _).symm) hS;exact absurd (Zj g) (by rw[z];exact Po.mpr (Om P))
    ·have A:=nj (λa b=>decide (eD S a_ a b=some Nk)) y Y Y.length (Zh _);rw[Ot]at A;have O:c.toArray[argBest (λi j=>decide (eD S a_ ((y::Y).getD i .non) ((y::Y).getD j .non)=some Nk)) Y.length]?=some v:=by have:=hP;rw[hl]at this;exact this
     obtain⟨x,z,ex,W,qz⟩:=at_ _ v O;have gx:(y::Y).getD (argBest (λi j=>decide (eD S a_ ((y::Y).getD i .non) ((y::Y).getD j .non)=some Nk)) Y.length) .non=x:=by generalize argBest (λi j=>decide (eD S a_ ((y::Y).getD i .non) ((y::Y).getD j .non)=some Nk)) Y.length=q at ex;simp only[P_,ex,Option.getD_some]
     rw[gx]at A
     have m:Y.foldl (λb y=>if eD S a_ y b=some Nk then y else b) y=x:=by
      rw[A.1];congr 1;funext b y;by_cases M:eD S a_ y b=some Nk
      ·rw[if_pos M,if_pos (by simpa using M)]
      ·rw[if_neg M,if_neg (by simpa using M)]
     rw[m]at w;refine⟨z,H,I.kept (h':=l) (t':=T) λb o g=>kp b o ?_ (Zb _ g),qz,w μ H _ .refl N W⟩;intro q;have Z:b=s.heap.objs.size:=by simpa using q
     exact absurd (Zj g) (by rw[Z];exact ZO _)
   ·exact w.elim
  ·exact w.elim
 ·exact zL hc pq s σ H xs us Q I r ⟨F,μ,S,_,N,rl,w⟩
mutual
noncomputable def Af:D->Option PyData
 | .non=>some .none
 | .bl b=>some (.bool b)
 | .int i=>some (.int i)
 | .str x=>some (.str x)
 | .tup ds=>(dt ds).map .tuple
 | .lst ds=>(dt ds).map .list
 |_=>none
noncomputable def dt:List D->Option (List PyData)
 | []=>some []
 |d::ds=>match Af d,dt ds with
  |some p,some ps=>some (p::ps)
  |_,_=>none
end
mutual
theorem HD(I:Inv X pq σ H s):∀(d:D) (v:V) (u:Np) (p:PyData),Rep X.K ⟨X.mg,F⟩ μ H d v->RelV v u->Af d=some p->p.hasDict=Nl/\∃as,Reads s.heap u p as
 | .non,v,u,p,r,q,h=>by cases hO r;subst(q);cases h;exact⟨rfl,_,.none⟩
 | .bl b,v,u,p,r,q,h=>by cases f_ r;subst(q);cases h;exact⟨rfl,_,.bool b⟩
 | .int i,v,u,p,r,q,h=>by cases aG r;obtain⟨t,rfl⟩:=q;cases h;exact⟨rfl,_,.int i t⟩
 | .str x,v,u,p,r,q,h=>by cases dM r;obtain⟨t,rfl⟩:=q;cases h;exact⟨rfl,_,.str x t⟩
 | .tup c,v,u,p,r,q,h=>by
  obtain⟨a,vs,rfl,l,R⟩:=bQ r;subst(q);obtain⟨f,m,⟨o,g,j,n,k⟩,_⟩:=I.tuple l;have h:(dt c).map PyData.tuple=some p:=h;cases e:dt c with
  |none=>rw[e]at h;cases h
  |some P=>rw[e]at h;cases h;obtain⟨K,as,w⟩:=uf I c vs f P R m e;exact⟨K,as,.tuple g j k (by grind)⟩
 | .lst c,v,u,p,r,q,h=>by
  unfold Rep at r;obtain⟨a,vs,rfl,l,_,R⟩:=r;subst(q);obtain⟨f,m,y,_⟩:=I.list (.of l);obtain⟨o,g,j,n,k⟩:=y.isList;have h:(dt c).map PyData.list=some p:=h;cases e:dt c with
  |none=>rw[e]at h;cases h
  |some P=>rw[e]at h;cases h;obtain⟨K,as,w⟩:=uf I c vs f P R m e;exact⟨K,_,.list g j k (by simpa using w)⟩
 | .ref _,v,u,p,r,q,h=>by cases h
 | .scr _,v,u,p,r,q,h=>by cases h
 | .fn _,v,u,p,r,q,h=>by cases h
 | .dct,v,u,p,r,q,h=>by cases h
 | .dks _,v,u,p,r,q,h=>by cases h
 | .ty _,v,u,p,r,q,h=>by cases h
theorem uf(I:Inv X pq σ H s):∀(ds:List D) (vs:List V) (us:Lv) (ps:List PyData),ai X.K ⟨X.mg,F⟩ μ H ds vs->Vals vs us->dt ds=some ps->PyData.hasDictAll ps=Nl/\∃as,ReadsAll s.heap us ps as
 | [],vs,us,ps,r,q,h=>by unfold ai at r;subst r;cases q.zero;cases h;exact⟨rfl,_,.nil⟩
 |d::ds,vs,us,ps,r,q,h=>by
  obtain⟨w,W,rfl,R,f⟩:=r.uncons;obtain⟨u,U,rfl,Q,c⟩:=q.un;unfold dt at h;split at h
  ·rename_i p P e E;cases h;obtain⟨k,as,K⟩:=HD I d w u p R Q e;obtain⟨a,bs,b⟩:=uf I ds W U P f c E;exact⟨by show(PyData.hasDict p||PyData.hasDictAll P)=Nl;rw[k,a];rfl,_,.cons K b⟩
  ·cases h
end
noncomputable def eL{a:Type}:List Nat->List a->List (Option a)->List (Option a)
 |i::is,d::ds,ρ=>eL is ds (ρ.set i (some d))
 |_,_,ρ=>ρ
noncomputable def Ag(is:List Nat)(t:TA):TS:=λD σ H=>t σ H λvs H1=>vs.length=is.length/\D.nx (eL is.reverse vs.reverse σ) H1
theorem Ah{p:Lp}{H:Hp}{nm:Nat->Str}{E:Vs}{Q:Unit->Nm->Prop}(b:X.N.Nodup):∀{is:List Nat} {vs:List V} {us:Lv} {σ:L2.St} {s:Nm},(∀i∈is,X.N[i]?=some (nm i)/\X.env.scope.names.lookup (nm i)=some .local)->vs.length=is.length->Vals vs us->Inv X p σ H s->
  (∀s2,Inv X p (eL is vs σ) H s2->Q () s2)->wpAny (model X.prog X.w) X.A (assignInOrder (is.map λi=>bindName X.env (nm i)) us) Q E s
 | [],vs,us,σ,s,_,a,r,I,h=>by
  cases vs with
  |nil=>exact assignInOrder_nil (h s I)
  |cons _ _=>cases a
 |i::is,vs,us,σ,s,c,a,r,I,h=>by
  cases vs with
  |nil=>cases a
  |cons v vs=>obtain⟨u,U,rfl,f,R⟩:=r.un;obtain⟨G,g⟩:=c i Ze;exact assignInOrder_cons (wpAny_bindName (l6 I b G (.inl g) f (λs2 d=>Ah b (λj e=>c j (Zc _ e)) (ZB a) R d h) (.inr g)))
theorem nk{nm:Nat->Str}{ts es:Lx}{t:TA}{pos pt:Pos}{k k2}(y:X.calm=Nk)(w:X.N.Nodup)(z:∀i∈is,X.N[i]?=some (nm i)/\X.env.scope.names.lookup (nm i)=some .local)(C:is.length<=3)(x:PA X es t)
  (hw:swappedStores [.Tuple ts k pt] (.Tuple es k2 pt2) X.env=pure (some (is.map nm))) (hs:swapsWithSole [.Tuple ts k pt] (.Tuple es k2 pt2) pos.line X.env=pure Nl):
  PS X (.Assign [.Tuple ts k pt] (.Tuple es k2 pt2) pos) (Ag is t):=by
 intro p s g H D I h;rw[exec_Assign_arm];refine Za (OK ?_);rw[hs];refine Za (Zd ?_);rw[if_neg (by decide)];refine Za (Tuple_ (aO (x _ p s g H _ I h) λu S Z=>?_));obtain⟨vs,H1,j,r,q,Q⟩:=Z;have f:u.length=is.length:=by rw[<-r.length,q]
 refine ZS ?_ (by show u.toArray.size<=sizeLine;rw[Zv,f,N5];omega);have l:Inv X p g H1 {S with heap:=S.heap.push {cls:=.type "tuple",data:=.seq u.toArray}}:=j.kept (t':=S.toks) λb o e=>Zb _ e;rw[hw];refine Za (Zd ?_);show wpAny (model X.prog X.w) X.A (do rule "assign.swapped-stores";let items <-unpackItems (.ref S.heap.objs.size) (is.map nm).length none;assignInOrder ((is.map nm).reverse.map λn=>bindName X.env n) items.reverse;pure Flow.next) _ _ _;have B:(is.map nm).length=u.toArray.size:=by simp[f]
 rw[B];refine Za (O' (Za (unpackItems_tuple (items:=u.toArray) (I.ok.hd y) (QY S.heap _) λc a=>?_)));have m:=l.kept (h':=c) (t':=S.toks) λb o e=>a b o (Zt (Zj e)) e;have E:((is.map nm).reverse.map λn=>bindName X.env n)=is.reverse.map λi=>bindName X.env (nm i):=by rw[<-List.map_reverse,ZY];rfl
 rw[E];refine Za (Ah w (λi A=>z i (Q4.mp A)) (by rw[OR,OR,q]) r.reverse m λF v=>Zd ⟨_,H1,v,Q⟩)
open PySem.SeqAt PySem.MeetsSeq PySem.MeetsSeq2 PySem.MeetsSeq3
open PySem.AutoSeq1 (wpAny_loadPart')
theorem HE(f:Nat->β->Sem (ForInStep β))(I:Nat->β->Nm->Prop)(Q:β->Nm->Prop)
  (turn:∀i b s,i<n->I i b s->wpAny M A (f i b) (λr s'=>match r with| .yield B=>I (i+1) B s'| .done B=>Q B s') E s)
  (fin:∀b s,I n b s->Q b s) (b:β) (h:I 0 b s):wpAny M A (forIn [0:n] b f) Q E s:=by
 rw[Std.Legacy.Range.forIn_eq_forIn_range'];have d:[0:n].size=n:=by simp
 rw[d];refine OX f (λl c S=>∃i,i<=n/\l=List.range' i (n-i) 1/\I i c S) Q ?_ ?_ _ b ⟨0,Ya _,rfl,h⟩
 ·rintro x R c S ⟨i,j,e,g⟩
  have a:i<n:=by
   rcases Nat.lt_or_ge i n with H|H
   ·exact H
   simp_all
  obtain⟨m,k⟩:∃m,n-i=m+1:=⟨n-i-1,by lia⟩;rw[k]at e;obtain⟨rfl,rfl⟩:=List.cons.inj e;refine ZJ (turn x c _ a g) (λr o H=>?_) λ_ _ H=>H
  grind
 grind
theorem HF(l:Nn)(items:Av)(n:Nat)(dd:Option Nn)(sl:Array (Ov))(x:Np)(e:Np->Bool)(j:Nat)(z:j<items.size)(f:e items[j]=Nk)(k:∀m (B:m<items.size),m<j->e items[m]=Nl):
  Meets (N8.«tuple.index» ⟨[.ref l,x],[]⟩)
   (λA R s=>s.heap.get? l=some {cls:=.type "tuple",dict:=dd,data:=.seq items n,slots:=sl}/\(∀y,y∈items->EqAt A.in1 s y x (e y))/\R (.ok (.ret (.int j s.toks))) {s with toks:=s.toks+1}):=
 .of_wp λp w A R s h=>by
  obtain⟨v,g,d,T,O⟩:=s;obtain⟨u,r,h⟩:=h;have H:min items.size items.size=items.size:=Nat.min_self _
  wp_walk using PM u,HE (n:=min items.size items.size) _ (λi b S=>b.1=none/\S=⟨v,g,d,T,O⟩/\i<=j) _
  case turn=>
   rintro i b S c ⟨o,rfl,a⟩;rw[H]at c;rw[NH c];refine Za (r items[i] (SJ c) p w _ _ ?_);by_cases q:i=j
   ·subst q;rw[f]
    wp_walk
    exact⟨_,rfl,h⟩
   ·rw[k i c (by omega)]
    wp_walk
    exact⟨rfl,rfl,by omega⟩
  case fin=>rintro⟨b1,b2⟩ S ⟨o,rfl,a⟩;rw[H]at a;omega
  case h=>exact⟨rfl,rfl,Ya _⟩
theorem HG{prog:Nu}{w:NG}{A:NX}{E:Vs}{l:Nn}{vs:Lv}{k:Int}{t:Tok}(g:s.heap.IsTuple l vs.toArray)(H:QT vs ns)(f:k∈ns)
  (h:Q (.int (ns.idxOf k:Nat) s.toks) {s with toks:=s.toks+1}):wpAny (model prog w) A (call (.builtin "tuple.index") [.ref l,.int k t]) Q E s:=by
 obtain⟨⟨cls,D,d,sl⟩,c,j,n,o⟩:=id g;subst j o
 have i:vs.length=ns.length:=by
  clear g c h f
  induction H with
  |nil=>rfl
  |cons _ _ _ I=>simp[I]
 have q:=Rn f;have r:∀(m:Nat) (b:m<vs.length),isInt k vs[m]=decide (ns[m]'(by omega)=k):=by intro m b;obtain⟨v,e⟩:=H.int_at m _ (Zf _);rw[e,Oc,Zf _];rfl
 refine O_ PySem.F.slot_tuple_index ⟨_,c,rfl⟩ PySem.F.entry_tuple_index (PySem.F.args_tuple_index_2 _ _) (HF l _ n _ _ _ _ _ (by simp_all) ?_ ?_) ⟨c,λy u=>(eq_isInt k t H y (by simp_all)).at _ _,h⟩
 ·simp_all
 ·intro m b a;have p:=by simpa using b
  have:=RU a;simp_all
noncomputable def ug(d:D)(ds:List D)(S:ae):Res D:=match d,ds with
 | .tup xs,[.int k]=>match eK xs with
  |some ns=>if k∈ns then .ok (.int (ns.idxOf k:Nat)) S else .fail
  |none=>.fail
 |_,_=>.fail
theorem Ai:jL X "tuple.index" (rM X.K X.mg ug):=by
 intro P s G H x B v U Q I y m h;obtain⟨F,C,S,d,D,A,l,R,w⟩:=h;unfold ug at w;split at w
 ·split at w
  ·rename_i N E;split at w
   ·rename_i i;have c:=nh E;subst c;obtain⟨a,vs,rfl,g,r⟩:=bQ l;have j:=ud _ _ r;subst j;obtain⟨z,rfl,f⟩:=R.one;cases aG f;subst y;obtain⟨u,rfl,n⟩:=m.one;obtain⟨t,rfl⟩:=n;obtain⟨k,q,p,f⟩:=I.tuple g;exact HG p (Ae q) i ⟨.int _,H,I.kept λb o e=>e,⟨_,rfl⟩,w _ H _ .refl A bq⟩
   ·exact w.elim
  ·exact w.elim
 ·exact w.elim
end Py
namespace Py
section
variable {E:XK}{Φ:FT}
end
open Builtin.Str (occurrences partsBetween)
noncomputable def iW(x y:Str):D->ae->Res D
 | .str z,S=>if z.length<=10000/\(x==y)=Nl/\y.length<=10 then .ok (.str (Sy z x y)) S else .fail
 |_,_=>.fail
end Py
namespace Py
theorem HH(n:Nat):OA none none (-1) (n:Int)=((n:Int)-1,-1):=rfl
theorem HI(n:Nat):NM ((n:Int)-1) (-1) (-1)=n:=by
 unfold NM;have h:¬((-1:Int)>0):=by omega
 have e:(-(-1:Int))=1:=by omega
 simp only[h,Z6,e,Int.ediv_one];split<;>omega
theorem HJ{t:Tok}{Q:Int×Int×Nat->Nm->Prop}(hs:s.heap.IsSliceOf sl .none .none (.int (-1) t))
  (h:Q ((n:Int)-1,-1,n) s):wpAny (model prog w) A (QI (.ref sl) (pure (n:Int))) Q E s:=by
 obtain⟨o,a,b,H⟩:=id hs;refine Za (Za (Z3 a H rfl (Za (Z3 a H rfl (Za (Z3 a H rfl (Zd ?_)))))));refine Za (HT.tr (.int (-1) t) ?_);show wpAny _ _ (match OA none none (-1) (n)with| (lo,c)=>pure (lo,(-1),NM lo c (-1))) _ _ s;rw[HH n];show wpAny _ _ (pure _) _ _ s;rw[HI];exact Zd h
theorem Aj{a b:Type}{f g:a->Option b}:∀{l:List a},(∀x∈l,f x=g x)->l.filterMap f=l.filterMap g
 | [],_=>rfl
 |x::l,h=>by
  have t:=Aj λy H=>h y (Zc _ H)
  grind
theorem HK(xs:Av):((Nt xs.size).filterMap λ(m:Nat)=>xs[(((xs.size:Int)-1)+(m:Int)*(-1)).toNat]?).toArray=xs.toList.reverse.toArray:=by
 have h:=pick_run xs.toList.reverse.toArray 0 xs.size;rw[List.filterMap_map]at h;have e:xs.toList.reverse.toArray.toList.drop 0=xs.toList.reverse:=by simp
 rw[e,RW (by simp)]at h;rw[<-h];congr 1;refine Aj λm a=>?_;have H:m<xs.size:=Z8.1 a;have E:(((xs.size:Int)-1)+(m:Int)*(-1)).toNat=xs.size-1-m:=sj H;rw[E];show xs[xs.size-1-m]?=xs.toList.reverse.toArray[0+m]?;rw[Sa,Sb (xs:=xs.toList.reverse),List.getElem?_reverse (by simpa using H),ZI,OD]
theorem HL{prog:Nu}{w:NG}{A:NX}{E:Vs}{t:Nn}{u:Tok}(a:R6 s.heap t items)(hs:s.heap.IsSliceOf sl .none .none (.int (-1) u))
  (h:Q (.ref s.heap.objs.size) {s with heap:=s.heap.push {cls:=.type "tuple",data:=.seq items.toList.reverse.toArray}})
  (f:items.size<=sizeLine):wpAny (model prog w) A (getItem (.ref t) (.ref sl)) Q E s:=by
 have H:=by show items.toList.reverse.toArray.size<=sizeLine;simp_all
 obtain⟨o,c,b,e⟩:=id hs;unfold getItem
 try with_reducible refine ZE ?_
 refine Za (Rk a.typeIs (rfl) ?_)
 refine Za (Z1 a.typeIs Yg
  (Z0 Yg a.typeIs QX ?_ (Q8 _ _)))
 show wpAny _ _ (Pe _>>=_) _ _ s;refine Za (Sv a ?_);refine Za (OW ⟨_,c,b⟩ ?_);refine Za (HJ hs ?_);show wpAny _ _ (if((items.size:Int)-1==0&&(-1)==1&&items.size==items.size)=Nk then _ else _) _ _ s;rw[if_neg (by simp),HK]
 first
  |exact Za (ZS (Zd ⟨_,rfl,Zd h⟩) H)
  |rfl
  |rfl
  |lia
noncomputable def nq(d k:D)(S:ae):Res D:=match d,k with
 | .tup xs,.int i=>if i= -1 then .ok (.tup xs.reverse) S else .fail
 |_,_=>Ha d k S
def HM(K:Fg)(mg:Mg):V->V->Hp->VK->Prop:=λx y H Q=>∃F μ S d k,aJ K ⟨mg,F⟩ μ S H/\Rep K ⟨mg,F⟩ μ H d x/\Rep K ⟨mg,F⟩ μ H k y/\aR K ⟨mg,F⟩ μ H Q (nq d k S)
theorem uh{st:Expr}{ts:TE}{pos:Pos}(C:PE X e te)(hs:PE X st ts):PE X (.Subscript e (.Slice none none (some st) p2) pos) (λσ H Q=>te σ H λx H1=>ts σ H1 λy H2=>HM X.K X.mg x y H2 Q):=by
 intro p s σ H Q I h;refine Subscript_ (aO (C p s σ H _ I h) λv U z=>?_);obtain⟨x,H1,A,M,K⟩:=z;refine wpAny_Slice ?_;rw[evalPart_none,evalPart_some];refine Zd (Zd (aO (hs p U σ H1 _ A K) λvs c z=>?_));obtain⟨y,u,B,N,L⟩:=z;obtain⟨F,μ,S,d,k,V,P,T,w⟩:=L;unfold nq at w;split at w
 ·rename_i Z i;split at w
  ·rename_i D;subst D;have E:=aG T;subst E;obtain⟨t,rfl⟩:=N;obtain⟨a,W,rfl,G,r⟩:=bQ P;cases M;have j:Inv X p σ u {c with heap:=c.heap.push {cls:=.type "slice",data:=.fields #[.none,.none,.int (-1) t]}}:=B.kept (t':=c.toks) λb O q=>Zb _ q;obtain⟨l,R,m,n⟩:=j.tuple G;have g:l.toArray.size=W.length:=by rw[Zv];exact R.length.symm
   show wpAny (model X.prog X.w) X.A (subscriptTail e (.Slice none none (some st) p2) (.ref a) (.ref c.heap.objs.size)) (EP X p σ Q) X.xe {c with heap:=c.heap.push {cls:=.type "slice",data:=.fields #[.none,.none,.int (-1) t]}};refine tail_any (ops:=[.ref a,.ref c.heap.objs.size]) m.typeIs PyProof.Rows.slot_tuple_getitem.lookup (HL m (Q_ ..) ?_ (by rw[g];exact n)) (by with_unfolding_all rfl);refine⟨.ref _,_,j.laid (t':=c.toks) (o:=.tup W.reverse) (λb O q=>Zb _ q) (Zh _) ?_,rfl,w.tup V r.reverse _ (j.hok.fresh (Zh _))⟩;exact⟨by rw[OR];exact n,_,R.reverse,QY _ _,qY.new _ _⟩
  ·exact w.elim
 ·exact(show False from w).elim
section
open PySem.AutoSeq1 (wpAny_loadPart')
open PySem.MeetsSeq PySem.MeetsSeq2 PySem.MeetsSeq3
open PySem.AutoSeq1
end
set_option genInjectivity false in
inductive eE where
 |int|seq (t:eE)
 deriving DecidableEq
set_option genInjectivity false in
inductive jM where
 |len|tuple|list (box:Bool)|int|min|max|isinst|all|any|sum|repr|abs|str|sorted (box:Bool) (t:eE)
 deriving DecidableEq
inductive rA where
 |append|extend|pop|count|insert|index
 deriving DecidableEq
set_option genInjectivity false in
inductive CT where
 |var (i:Nat)
 |tup (ts:List CT)
set_option genInjectivity false in
inductive CE where
 |var (i:Nat)
 |lit (d:D)
 |glob (x:Str)
 |ty (n:String)
 |bin (op:Rj) (a b:CE)
 |catB (a b:CE)
 |neg (a:CE)
 |cmp (op:PU) (a b:CE)
 |chain (op op':PU) (a b c:CE)
 |chain3 (op op' op'':PU) (a b c d:CE)
 |band (a b:CE)
 |bor (a b:CE)
 |bnot (a:CE)
 |ite (c a b:CE)
 |tup (es:List CE)
 |lst (box:Bool) (es:List CE)
 |lstR (a b:CE) (l:Str) (c d:CE) (x y:Str) (es:List CE)
 |idx (a b:CE)
 |sl (a:CE) (lo hi:List CE)
 |call (f:Str) (es:List CE)
 |blt (b:jM) (es:List CE)
 |meth (m:rA) (o:CE) (es:List CE)
 |tix (o:CE) (es:List CE)
 |sset (a:CE)
 |comp (box:Bool) (N:Ls) (fr:List (Option Nat)) (tg:CT) (it:CE) (ifs:List CE) (body:CE)
 |emit (e:CE)
 |inner (tg:CT) (it:CE) (ifs:List CE) (body:CE)
 |seq (e:CE)
 |range (es:List CE)
 |zip (es:List CE)
 |dct
 |rev (a b:CE)
set_option genInjectivity false in
inductive CS where
 |asg (i:Nat) (e:CE)
 |asgT (t:CT) (e:CE)
 |par (is:List Nat) (es:List CE)
 |set (o i v:CE)
 |expr (e:CE)
 |ret (e:CE)
 |retN
 |pass
 |brk
 |cont
 |ite (c:CE) (a b:List CS)
 |for_ (t:CT) (it:CE) (body:List CS)
 |while_ (n:Nat) (c:CE) (body:List CS)
 |never
 |raise_ (x:Str) (es:List CE)
 |tryK (i:Nat) (body:List CS) (f:Str) (ys ws:Ls)
 |raiseI (x:Str) (es:List CE)
 |tryG (pre:Option Str) (g:Str) (i:Nat) (body:List CS) (f:Str) (ys ws:Ls)
abbrev bu:=List (Option D)
abbrev FT:=Str->Option (List D->ae->Res D)
noncomputable def Res.bind{b c:Type}(r:Res b)(f:b->ae->Res c):Res c:=match r with
 | .ok a S=>f a S
 | .err x S=>.err x S
 | .fail=>.fail
noncomputable def Res.noErr{b:Type}:Res b->Res b
 | .ok a S=>.ok a S
 |_=>.fail
noncomputable def aB{a:Type}(d:D)(f:Bool->Res a):Res a:=match d with
 | .bl k=>f k
 |_=>.fail
noncomputable def bH:List CT->List D->bu->Option bu
 | [],ds,ρ=>if ds.isEmpty=Nk then some ρ else none
 |t::ts,ds,ρ=>match t,ds with
  | .var i,d::ds=>bH ts ds (ρ.set i (some d))
  |_,_=>none
noncomputable def aS:CT->D->bu->Option bu
 | .var i,d,ρ=>some (ρ.set i (some d))
 | .tup ts,d,ρ=>match d with
  | .tup ds=>bH ts ds ρ
  |_=>none
noncomputable def du:List CT->List Nat
 | []=>[]
 |t::ts=>match t with
  | .var i=>i::du ts
  | .tup _=>du ts
noncomputable def slots:CT->List Nat
 | .var i=>[i]
 | .tup ts=>du ts
noncomputable def bV:bu->List Nat->Bool
 |ρ,is=>is.all λi=>match ρ[i]? with
  |some none=>Nk
  |_=>Nl
noncomputable def bp(t:CT)(d:D)(ρ:bu):Option bu:=if bV ρ (slots t)=Nk then aS t d ρ else none
set_option genInjectivity false in
inductive iX where
 |items (xs:List D)|live (f:Nat) (get:ae->Nat->Option (Option D))
noncomputable def aX(step:D->List D->ae->Res (List D)):List D->List D->ae->Res (List D)
 | [],acc,S=>.ok acc S
 |x::xs,acc,S=>(step x acc S).bind λa S'=>aX step xs a S'
noncomputable def c6(step:D->List D->ae->Res (List D))(get:ae->Nat->Option (Option D)):Nat->Nat->List D->ae->Res (List D)
 |0,_,_,_=>.fail
 |f+1,i,acc,S=>match get S i with
  |none=>.fail
  |some none=>.ok acc S
  |some (some x)=>(step x acc S).bind λa S'=>c6 step get f (i+1) a S'
noncomputable def cw(step:D->List D->ae->Res (List D))(its:iX)(a:List D)(S:ae):Res (List D):=match its with
 | .items xs=>aX step xs a S
 | .live f get=>c6 step get f 0 a S
noncomputable def nr(n:Nat):ae->Nat->Option (Option D):=λS i=>(S[n]?).map λxs=>xs[i]?
noncomputable def fc(S:ae):D->Option iX
 | .tup xs=>some (.items xs)
 | .lst xs=>some (.items xs)
 | .scr xs=>some (.items xs)
 | .ref n=>some (.live (((S[n]?).getD []).length+1) (nr n))
 |_=>none
noncomputable def nu:D->Option (List D)
 | .tup xs=>some xs
 | .lst xs=>some xs
 | .scr xs=>some xs
 |_=>none
noncomputable def nv(d e:D):ae->Nat->Option (Option D):=λS i=>match az S d,az S e with
 |some xs,some ys=>some (match xs[i]?,ys[i]? with
  |some x,some y=>some (.tup [x,y])
  |_,_=>none)
 |_,_=>none
noncomputable def eM:D->Bool
 | .tup _=>Nl
 |_=>Nk
noncomputable def dv(S:ae)(d e:D):Option iX:=match nu d,nu e with
  |some xs,some ys=>some (.items (Nq (λx y=>.tup [x,y]) xs ys))
  |_,_=>match az S d,az S e with
   |some xs,some ys=>some (.live (min xs.length ys.length+1) (nv d e))
   |_,_=>none
noncomputable def dO(l:Int):Nat->List D
 |0=>[]
 |n+1=>.int l::dO (l+1) n
noncomputable def iv:List D->Option (Option Int)
 | []=>some none
 | [.int i]=>some (some i)
 |_=>none
noncomputable def cV(ds:List D)(S:ae):Res (Option Int):=match iv ds with
 |some o=>.ok o S
 |none=>.fail
noncomputable def aA:eE->D->Bool
 | .int,.int _=>Nk
 | .seq t,.tup xs=>xs.all (aA t)
 |_,_=>Nl
noncomputable def bS(f:D->D->Bool):List D->List D->Bool
 | [],[]=>Nl
 | [],_::_=>Nk
 |_::_,[]=>Nl
 |x::xs,y::ys=>if f x y=Nk then Nk else if f y x=Nk then Nl else bS f xs ys
noncomputable def bW:eE->D->D->Bool
 | .int,.int i,.int j=>decide (i<j)
 | .seq t,.tup xs,.tup ys=>bS (bW t) xs ys
 |_,_,_=>Nl
noncomputable def dP(f:D->D->Bool)(x:D):List D->List D
 | []=>[x]
 |y::ys=>if f x y=Nk then x::y::ys else y::dP f x ys
noncomputable def eN(f:D->D->Bool)(xs:List D):List D:=xs.foldl (λacc x=>dP f x acc) []
noncomputable def bX:eE->Bool
 | .int=>Nk
 | .seq t=>bX t
noncomputable def fw:D->Bool
 | .tup []=>Nk
 |_=>Nl
noncomputable def gf:eE->List D->Bool
 | .int,_=>Nk
 | .seq t,xs=>bX t&&(xs.all λd=> !fw d)
noncomputable def kq(box:Bool)(t:eE)(ds:List D)(S:ae):Res D:=match ds with
 | [d]=>match az S d with
  |some xs=>if xs.all (aA t)=Nk/\xs.length<64/\gf t xs=Nk then(if box=Nk then .ok (.ref S.length) (S++[eN (bW t) xs])else .ok (.lst (eN (bW t) xs)) S)else .fail
  |none=>.fail
 |_=>.fail
noncomputable def cK:D->Option Int
 | .int i=>some i
 |_=>none
noncomputable def fx:D->Li
 | .tup ds=>ds.filterMap cK
 |_=>[]
noncomputable def kr(ks:List (Li)):List (Li):=ks.foldl (λacc k=>if acc.contains k=Nk then acc else acc++[k]) []
noncomputable def d9(ks:List (Li)):List D:=eN (bW (.seq .int)) ((kr ks).map λk=>D.tup (k.map D.int))
noncomputable def kt:D->Bool
 | .int n=>decide (0<=n)&&decide (n<8)
 |_=>Nl
noncomputable def cL(d:D)(S:ae):Res D:=match az S d with
 |some xs=>if xs.all kt=Nk then .ok (.lst (((Nt 8).filter λk:Nat=>(xs.filterMap cK).contains (k:Int)).map λk:Nat=>D.int k)) S else
  if xs.all (aA (.seq .int))=Nk/\xs.length<64/\(xs.all λd=> !fw d)=Nk then .ok (.lst (d9 (xs.map fx))) S else .fail
 |none=>.fail
noncomputable def cM:eE->Nat
 | .int=>1
 | .seq t=>cM t+1
noncomputable def ui:jM->Bool
 | .sorted _ t=>decide (cM t<=40)
 | .sum=>Nl
 | .repr=>Nl
 | .abs=>Nl
 |_=>Nk
noncomputable def uj(ds:List D)(S:ae):Res D:=match ds with
 | [.int k]=>if k.natAbs<2^64 then .ok (.str (toString k:String)) S else .fail
 |_=>.fail
noncomputable def aW:jM->List D->ae->Res D
 | .len=>fL| .tuple=>kc| .list b=>ke b| .int=>intD| .min=>ue| .max=>uc| .isinst=>bJ| .all=>iS| .any=>t5| .sum=>λ_ _=>.fail | .repr=>λ_ _=>.fail | .abs=>λ_ _=>.fail | .str=>uj
 | .sorted b t=>kq b t
noncomputable def nw(d:D)(ds:List D)(S:ae):Res D:=match ds with
 | []=>t7 d [] S
 |ds=>ub d ds S
noncomputable def gg:rA->D->List D->ae->Res D
 | .append=>ki| .extend=>t6| .pop=>nw| .count=>λ_ _ _=>.fail | .insert=>λ_ _ _=>.fail | .index=>λ_ _ _=>.fail
section
variable (Φ:FT)(Γ:Str->Option D)
mutual
noncomputable def aj:CE->bu->ae->Res D
 | .var i,ρ,S=>match ρ[i]? with
  |some (some d)=>.ok d S
  |_=>.fail
 | .dct,ρ,S=>.ok .dct S
 | .lit d,ρ,S=>.ok d S
 | .glob x,ρ,S=>match Γ x with
  |some d=>.ok d S
  |none=>.fail
 | .ty n,ρ,S=>.ok (.ty n) S
 | .bin op a b,ρ,S=>(aj a ρ S).bind λd S1=>(aj b ρ S1).bind λe S2=>(d0 op d e S2).noErr
 | .catB a b,ρ,S=>(aj a ρ S).bind λd S1=>(aj b ρ S1).bind λe S2=>(gb d e S2).noErr
 | .neg a,ρ,S=>(aj a ρ S).bind λd S1=>match d with
  | .int i=>.ok (.int (-i)) S1
  |_=>.fail
 | .cmp op a b,ρ,S=>(aj a ρ S).bind λd S1=>(aj b ρ S1).bind λe S2=>(ax op d e S2).noErr
 | .chain3 _ _ _ _ _ _ _,_,_=>.fail
 | .chain op op' a b c,ρ,S=>(aj a ρ S).bind λd S1=>(aj b ρ S1).bind λe S2=>(ax op d e S2).noErr.bind λk S3=>aB k λk=>if k=Nk then(aj c ρ S3).bind λf p=>(ax op' e f p).noErr else .ok (.bl Nl) S3
 | .band a b,ρ,S=>(aj a ρ S).bind λd S1=>aB d λk=>if k=Nk then aj b ρ S1 else .ok (.bl Nl) S1
 | .bor a b,ρ,S=>(aj a ρ S).bind λd S1=>aB d λk=>if k=Nk then .ok (.bl Nk) S1 else aj b ρ S1
 | .bnot a,ρ,S=>(aj a ρ S).bind λd S1=>match bc S1 d with
  |some k=>.ok (.bl (!k)) S1
  |none=>.fail
 | .ite c a b,ρ,S=>(am c ρ S).bind λk S1=>if k=Nk then aj a ρ S1 else aj b ρ S1
 | .tup es,ρ,S=>(ah es ρ S).bind λds S1=>.ok (.tup ds) S1
 | .lst box es,ρ,S=>(ah es ρ S).bind λds S1=>if box=Nk then .ok (.ref S1.length) (S1++[ds])else .ok (.lst ds) S1
 | .lstR a b l c d x y es,ρ,S=>((aj a ρ S).bind λd1 S1=>(((aj b ρ S1).bind λd S2=>(d0 .Add d (.str l) S2).noErr).bind λd2 S2=>((aj c ρ S2).bind λq S3=>(((aj d ρ S3).bind λz p=>(iW x y z p).noErr).bind λr p=>(ah es ρ p).bind λds g=>.ok (r::ds) g).bind λds g=>.ok (q::ds) g).bind λds g=>.ok (d2::ds) g).bind λds g=>.ok (d1::ds) g).bind λds g=>if ds.length<1000 then .ok (.lst ds) g else .fail
 | .rev a b,ρ,S=>(aj a ρ S).bind λd S1=>(aj b ρ S1).bind λe S2=>(nq d e S2).noErr
 | .idx a b,ρ,S=>(aj a ρ S).bind λd S1=>(aj b ρ S1).bind λe S2=>(bR d e S2).noErr
 | .sl a lo hi,ρ,S=>(aj a ρ S).bind λd S1=>((ah lo ρ S1).bind cV).bind λl S2=>((ah hi ρ S2).bind cV).bind λh S3=>(mX d l h S3).noErr
 | .call f es,ρ,S=>match Φ f with
  |some φ=>(ah es ρ S).bind λds S1=>φ ds S1
  |none=>.fail
 | .blt b es,ρ,S=>(ah es ρ S).bind λds S1=>(aW b ds S1).noErr
 | .meth m o es,ρ,S=>(aj o ρ S).bind λd S1=>match d with
  | .ref n=>(ah es ρ S1).bind λds S2=>(gg m (.ref n) ds S2).noErr
  |_=>.fail
 | .tix o es,ρ,S=>(aj o ρ S).bind λd S1=>match d with
  | .tup xs=>(ah es ρ S1).bind λds S2=>(ug (.tup xs) ds S2).noErr
  |_=>.fail
 | .sset a,ρ,S=>(aj a ρ S).bind λd S1=>(cL d S1).noErr
 | .comp box N fr tg it ifs body,ρ,S=>(aZ it ρ S).bind λits S1=>
   (cw (λx acc S2=>match bp tg x (fr.map λj=>j.bind λj=>(ρ[j]?).join)with
    |some ρ'=>(aT ifs ρ' S2).bind λk S3=>if k=Nk then bx body ρ' acc S3 else .ok acc S3
    |none=>.fail) its [] S1).noErr.bind λys g=>if box=Nk then .ok (.ref g.length) (g++[ys])else .ok (.lst ys) g
 | .emit _,_,_=>.fail
 | .inner _ _ _ _,_,_=>.fail
 | .seq _,_,_=>.fail
 | .range _,_,_=>.fail
 | .zip _,_,_=>.fail
noncomputable def am:CE->bu->ae->Res Bool
 | .band a b,ρ,S=>(am a ρ S).bind λk S1=>if k=Nk then am b ρ S1 else .ok Nl S1
 | .bor a b,ρ,S=>(am a ρ S).bind λk S1=>if k=Nk then .ok Nk S1 else am b ρ S1
 | .bnot a,ρ,S=>(am a ρ S).bind λk S1=>.ok (!k) S1
 | .cmp op a b,ρ,S=>(aj a ρ S).bind λd S1=>(aj b ρ S1).bind λe S2=>(ax op d e S2).noErr.bind λk S3=>aB k λk=>.ok k S3
 | .chain3 op op' op'' a b c d,ρ,S=>(aj a ρ S).bind λx S1=>(aj b ρ S1).bind λe S2=>(ax op x e S2).noErr.bind λk S3=>aB k λk=>if k=Nk then(aj c ρ S3).bind λf j=>(ax op' e f j).noErr.bind λk h=>aB k λk=>if k=Nk then(aj d ρ h).bind λg l=>(ax op'' f g l).noErr.bind λk m=>aB k λk=>.ok k m else .ok Nl h else .ok Nl S3
 | .chain op op' a b c,ρ,S=>(aj a ρ S).bind λd S1=>(aj b ρ S1).bind λe S2=>(ax op d e S2).noErr.bind λk S3=>aB k λk=>if k=Nk then(aj c ρ S3).bind λf j=>(ax op' e f j).noErr.bind λk h=>aB k λk=>.ok k h else .ok Nl S3
 | .var i,ρ,S=>match ρ[i]? with
  |some (some d)=>match bc S d with
   |some k=>.ok k S
   |none=>.fail
  |_=>.fail
 | .call f es,ρ,S=>match Φ f with
  |some φ=>(ah es ρ S).bind λds S1=>(φ ds S1).bind λd S2=>match bc S2 d with
   |some k=>.ok k S2
   |none=>.fail
  |none=>.fail
 | .blt b es,ρ,S=>(ah es ρ S).bind λds S1=>(aW b ds S1).noErr.bind λd S2=>match bc S2 d with
   |some k=>.ok k S2
   |none=>.fail
 | .lit d,ρ,S=>match bc S d with
   |some k=>.ok k S
   |none=>.fail
 |_,_,_=>.fail
noncomputable def ah:List CE->bu->ae->Res (List D)
 | [],_,S=>.ok [] S
 |e::es,ρ,S=>(aj e ρ S).bind λd S1=>(ah es ρ S1).bind λds S2=>.ok (d::ds) S2
noncomputable def aT:List CE->bu->ae->Res Bool
 | [],_,S=>.ok Nk S
 |e::es,ρ,S=>(am e ρ S).bind λk S1=>if k=Nk then aT es ρ S1 else .ok Nl S1
noncomputable def aZ:CE->bu->ae->Res iX
 | .seq e,ρ,S=>(aj e ρ S).bind λd S1=>match fc S1 d with
  |some xs=>.ok xs S1
  |none=>.fail
 | .range es,ρ,S=>(ah es ρ S).bind λds S1=>match ds with
  | [.int j]=>if-(2^62)<=j/\j<2^62 then .ok (.items (dO 0 j.toNat)) S1 else .fail
  | [.int i,.int j]=>if-(2^62)<=i/\i<2^62/\ -(2^62)<=j/\j<2^62 then .ok (.items (dO i (j-i).toNat)) S1 else .fail
  |_=>.fail
 | .zip es,ρ,S=>(ah es ρ S).bind λds S2=>match ds with
  | [d,e]=>(match dv S2 d e with
   |some its=>.ok its S2
   |none=>.fail)
  |_=>.fail
 |_,_,_=>.fail
noncomputable def bx:CE->bu->List D->ae->Res (List D)
 | .emit e,ρ,acc,S=>(aj e ρ S).bind λy S1=>if acc.length<cm then .ok (acc++[y]) S1 else .fail
 | .inner tg it ifs body,ρ,acc,S=>(aZ it ρ S).bind λits S1=>
   cw (λx acc S2=>match bp tg x ρ with
    |some ρ'=>(aT ifs ρ' S2).bind λk S3=>if k=Nk then bx body ρ' acc S3 else .ok acc S3
    |none=>.fail) its acc S1
 |_,_,_,_=>.fail
end
set_option genInjectivity false in
inductive Fl where
 |next(ρ:bu)|ret (d:D)|brk (ρ:bu)|cont (ρ:bu)
noncomputable def ee(step:D->bu->ae->Res Fl):List D->bu->ae->Res Fl
 | [],ρ,S=>.ok (.next ρ) S
 |x::xs,ρ,S=>(step x ρ S).bind λf S'=>match f with
  | .next ρ'=>ee step xs ρ' S'
  | .cont ρ'=>ee step xs ρ' S'
  | .brk ρ'=>.ok (.next ρ') S'
  | .ret d=>.ok (.ret d) S'
noncomputable def dw(step:D->bu->ae->Res Fl)(get:ae->Nat->Option (Option D)):Nat->Nat->bu->ae->Res Fl
 |0,_,_,_=>.fail
 |f+1,i,ρ,S=>match get S i with
  |none=>.fail
  |some none=>.ok (.next ρ) S
  |some (some x)=>(step x ρ S).bind λF S'=>match F with
    | .next ρ'=>dw step get f (i+1) ρ' S'
    | .cont ρ'=>dw step get f (i+1) ρ' S'
    | .brk ρ'=>.ok (.next ρ') S'
    | .ret d=>.ok (.ret d) S'
noncomputable def ny(step:D->bu->ae->Res Fl)(its:iX)(ρ:bu)(S:ae):Res Fl:=match its with
 | .items xs=>ee step xs ρ S
 | .live f get=>dw step get f 0 ρ S
noncomputable def nz(c:bu->ae->Res Bool)(step:bu->ae->Res Fl):Nat->bu->ae->Res Fl
 |0,_,_=>.fail
 |n+1,ρ,S=>(c ρ S).bind λk S1=>if k=Nk then(step ρ S1).bind λf S'=>match f with
   | .next ρ'=>nz c step n ρ' S'
   | .cont ρ'=>nz c step n ρ' S'
   | .brk ρ'=>.ok (.next ρ') S'
   | .ret d=>.ok (.ret d) S'
  else .ok (.next ρ) S1
mutual
noncomputable def aq:CS->bu->ae->Res Fl
 | .asg i e,ρ,S=>(aj Φ Γ e ρ S).bind λd S1=>.ok (.next (ρ.set i (some d))) S1
 | .asgT t e,ρ,S=>(aj Φ Γ e ρ S).bind λd S1=>match aS t d ρ with
  |some ρ'=>.ok (.next ρ') S1
  |none=>.fail
 | .par is es,ρ,S=>(ah Φ Γ es ρ S).bind λds S1=>if ds.length=is.length then .ok (.next (eL is.reverse ds.reverse ρ)) S1 else .fail
 | .set o i v,ρ,S=>(aj Φ Γ v ρ S).bind λf S1=>(aj Φ Γ o ρ S1).bind λd S2=>(aj Φ Γ i ρ S2).bind λe S3=>match iT d e f S3 with
  |some h=>.ok (.next ρ) h
  |none=>.fail
 | .expr e,ρ,S=>(aj Φ Γ e ρ S).bind λ_ S1=>.ok (.next ρ) S1
 | .ret e,ρ,S=>(aj Φ Γ e ρ S).bind λd S1=>.ok (.ret d) S1
 | .retN,_,S=>.ok (.ret .non) S
 | .pass,ρ,S=>.ok (.next ρ) S
 | .brk,ρ,S=>.ok (.brk ρ) S
 | .cont,ρ,S=>.ok (.cont ρ) S
 | .ite c a b,ρ,S=>(am Φ Γ c ρ S).bind λk S1=>if k=Nk then af a ρ S1 else af b ρ S1
 | .for_ t it body,ρ,S=>(aZ Φ Γ it ρ S).bind λxs S1=>ny (λx ρ S=>match aS t x ρ with
   |some ρ'=>af body ρ' S
   |none=>.fail) xs ρ S1
 | .while_ n c body,ρ,S=>nz (am Φ Γ c) (af body) n ρ S
 | .never,_,_=>.fail
 | .raise_ x es,ρ,S=>(ah Φ Γ es ρ S).bind λds S1=>if ds.length<=1000 then .err ⟨x,[]⟩ S1 else .fail
 | .tryK _ body _ ys w,ρ,S=>match af body ρ S with
  | .err x S'=>(match x.fs,(ys.zip w).lookup x.cls with
   | [],some r=>.ok (.ret (.str r)) S'
   |_,_=>.fail)
  |r=>r
 | .raiseI x es,ρ,S=>(ah Φ Γ es ρ S).bind λds S1=>(match ds with
  | [.int i,.int j]=>.err ⟨x,[.int i,.int j]⟩ S1
  |_=>.fail)
 | .tryG pre g _ body _ ys w,ρ,S=>match af body ρ S with
  | .err x S'=>(match(ys.zip w).lookup x.cls with
   |some r=>(if r=g then(match x.fs with
     | [.int i,.int j]=>.ok (.ret (.lst (pre.toList.map D.str++[.int i,.int j]))) S'
     |_=>.fail)else(match x.fs with
     | []=>.ok (.ret (.str r)) S'
     |_=>.fail))
   |_=>.fail)
  |r=>r
noncomputable def af:List CS->bu->ae->Res Fl
 | [],ρ,S=>.ok (.next ρ) S
 |c::cs,ρ,S=>(aq c ρ S).bind λf S1=>match f with
  | .next ρ'=>af cs ρ' S1
  |f=>.ok f S1
end
end
end Py
variable {body:List Py.CS}{Φ:Py.FT}{ρ ρ' r0:Py.bu}
namespace Py
def Ak(mg:Mg)(x:Exc)(cls:Np)(D:Option Nn)(H:Hp):Prop:=mg x.cls=some cls/\(x.fs=[]\/∃d i j,D=some d/\x.fs=[.int i,.int j]/\H d=some (.xd [("many",.int i),("most",.int j)]))
def uk(mg:Mg)(E:XK)(x:Exc)(H:Hp):Prop:=∀cls d,Ak mg x cls d H->E cls d H
noncomputable def ak{c d:Type}(K:Fg)(mg:GS)(E:XK)(Rel:La->Hp->c->d->Prop)(μ:La)(H:Hp)(Q:d->Hp->Prop):Res c->Prop
 | .ok a S'=>∀μ' H' b,Ext μ H μ' H'->aJ K mg μ' S' H'->Rel μ' H' a b->Q b H'
 | .err x S'=>∀μ' H',Ext μ H μ' H'->aJ K mg μ' S' H'->uk mg.mg E x H'
 | .fail=>False
section
variable {mg:GS}{E:XK}
theorem cB{Q:VK}{r:Res D}(w:ak K mg E (Rep K mg) μ H Q r.noErr):aR K mg μ H Q r:=by cases r<;>first|exact w|exact w.elim
theorem ak.ext{Rel:La->Hp->α->β->Prop}{Q:β->Hp->Prop}{r:Res α}(x:Ext μ H μ' H')(w:ak K mg E Rel μ H Q r):ak K mg E Rel μ' H' Q r:=by
 cases r with
 |ok d S=>exact λa b v X s R=>w _ _ v (x.trans X) s R
 |err y S=>exact λa b X s=>w _ _ (x.trans X) s
 |fail=>exact w
theorem ak.bind{c d:Type}{Rel:La->Hp->α->β->Prop}{R:La->Hp->c->d->Prop}{Q:d->Hp->Prop}{r:Res α}{f:α->ae->Res c}(w:ak K mg E R μ H Q (r.bind f)):
  ak K mg E Rel μ H (λb H'=>∃μ' S' a,Ext μ H μ' H'/\aJ K mg μ' S' H'/\Rel μ' H' a b/\ak K mg E R μ' H' Q (f a S')) r:=by
 cases r with
 |ok a S'=>exact λe g b x s r=>⟨_,_,a,x,s,r,ak.ext x (show ak K _ E _ _ H Q _ from w)⟩
 |err y S'=>exact w
 |fail=>exact w
theorem ak.mono{Rel:La->Hp->α->β->Prop}{Q c:β->Hp->Prop}{r:Res α}(w:ak K mg E Rel μ H Q r)(h:∀b H',Q b H'->c b H'):ak K mg E Rel μ H c r:=by
 cases r with
 |ok a S=>exact λd e b x s r=>h b _ (w _ _ b x s r)
 |err y S=>exact w
 |fail=>exact w
def aU(K:Fg)(mg:GS)(μ:La)(H:Hp)(ρ:bu)(σ:L2.St):Prop:=
 ρ.length=σ.length/\∀(i:Nat) (d:D),ρ[i]?=some (some d)->∃v,σ[i]?=some (some v)/\Rep K mg μ H d v
theorem aU.mono(x:Ext μ H μ' H')(h:aU K mg μ H ρ σ):aU K mg μ' H' ρ σ:=
 ⟨h.1,λi d e=>(by obtain⟨v,a,b⟩:=h.2 i d e;exact(⟨v,a,Rep.mono x _ _ b⟩))⟩
theorem aU.set{i:Nat}(h:aU K mg μ H ρ σ)(r:Rep K mg μ H d v):aU K mg μ H (ρ.set i (some d)) (σ.set i (some v)):=by
 refine⟨by simp[h.1],λj e a=>?_⟩;by_cases b:j=i
 ·subst b;have c:j<ρ.length:=by have:=(Zg.mp a).1;simpa using this
  rw[Yf c]at a;cases a;exact⟨v,Yf (by rw[<-h.1];exact c),r⟩
 ·rw[NZ (Ne.symm b)]at a⊢;exact h.2 j e a
end
section
variable (K:Fg)(mg:Mg)(E:XK)(Φ:FT)(Γ:Str->Option D)
noncomputable def tE(c:CE):TE:=λσ H Q=>∃F μ ρ S,aJ K ⟨mg,F⟩ μ S H/\aU K ⟨mg,F⟩ μ H ρ σ/\ak K ⟨mg,F⟩ E (Rep K ⟨mg,F⟩) μ H Q (aj Φ Γ c ρ S)
noncomputable def tT(c:CE):TT:=λσ H Q=>∃F μ ρ S,aJ K ⟨mg,F⟩ μ S H/\aU K ⟨mg,F⟩ μ H ρ σ/\ak K ⟨mg,F⟩ E (λ_ _ a b=>a=b) μ H Q (am Φ Γ c ρ S)
noncomputable def tL(cs:List CE):TA:=λσ H Q=>∃F μ ρ S,aJ K ⟨mg,F⟩ μ S H/\aU K ⟨mg,F⟩ μ H ρ σ/\ak K ⟨mg,F⟩ E (ai K ⟨mg,F⟩) μ H Q (ah Φ Γ cs ρ S)
end
theorem aM{t t':TE}(h:PE X e t)(w:∀σ H Q,t' σ H Q->t σ H Q):PE X e t':=λp s σ H Q I q=>h _ s _ H Q I (w _ H Q q)
theorem dy{t t':TT}(h:PT X e t)(w:∀σ H Q,t' σ H Q->t σ H Q):PT X e t':=λp s σ H Q I q=>h _ s _ H Q I (w _ H Q q)
theorem eO{e:Lx}{t t':TA}(h:PA X e t)(w:∀σ H Q,t' σ H Q->t σ H Q):PA X e t':=λpos p s σ H Q I q=>h _ _ s _ H Q I (w _ H Q q)
noncomputable def nA(s:List (Str×N6))(x:Str):Bool:=match s.lookup x with
 |some .local=>Nk|some .cell=>Nk|some .free=>Nk
 |_=>Nl
noncomputable def br(s:List (Str×N6))(x:Str):Bool:=s.lookup x==some .globalImplicit&& !(x==("__debug__":Str))&& !(x==("__name__":Str))
noncomputable def dz(x:Str):Bool:= !(x==("__debug__":Str))&& !(x==("__classdict__":Str))
noncomputable def bC:Expr->Bool
 | .Starred _ _=>Nl
 |_=>Nk
noncomputable def iw:D->Const->Bool
 | .non,.none=>Nk
 | .bl b,.bool c=>b==c
 | .int i,.int j=>i==j
 | .str x,.str y=>x==y
 |_,_=>Nl
noncomputable def hX:jM->Str
 | .len=>"len"| .tuple=>"tuple"| .list _=>"list"| .int=>"int"| .min=>"min"| .max=>"max"| .isinst=>"isinstance"| .all=>"all"| .any=>"any"| .sum=>"sum"| .repr=>"repr"| .abs=>"abs"| .str=>"str"| .sorted _ _=>"sorted"
noncomputable def ku:jM->Np
 | .len=>.builtin "len"| .tuple=>.type "tuple"| .list _=>.type "list"| .int=>.type "int"| .min=>.builtin "min"| .max=>.builtin "max"| .isinst=>.builtin "isinstance"| .all=>.builtin "all"| .any=>.builtin "any"| .sum=>.builtin "sum"| .repr=>.builtin "repr"| .abs=>.builtin "abs"| .str=>.type "str"| .sorted _ _=>.builtin "sorted"
theorem HN(b:jM):bootBuiltins (hX b)=some (ku b):=by
 cases b with
 |list box=>rfl
 |sorted box t=>rfl
 |_=>decide+kernel
noncomputable def iY:List String:=["int","bool","str","tuple","list","dict"]
theorem nB{n:String}(h:iY.contains n=Nk):bootBuiltins (Ol n)=some (.type n):=by simp[iY]at h;rcases h with rfl|rfl|rfl|rfl|rfl|rfl<;>decide+kernel
abbrev Sc:=List (Str×N6)
noncomputable def kx(N s:Sc):Sc:=N.map λ(n,k)=>if(k== .free&&s.lookup n==some .cell)then(n,.cell)else(n,k)
noncomputable def ul(n:Sc):Str->Bool:=λx=>n.lookup x==some .cell
noncomputable def HP(scope:Scope)(s:Sc):Bool:=scope.kind== .function&&scope.names.all λ(n,k)=>(k !=.cell||scope.names.lookup n==some .cell)&&(k !=.local||scope.names.lookup n==some .local)&&(k !=.free||(s.lookup n==some .cell||s.lookup n==some .free))
noncomputable def frB(n:Sc)(a N:Ls)(fr:List (Option Nat)):Bool:=fr.length==a.length&&(Nt a.length).all λi=>match fr[i]? with
 |some (some j)=>(match a[i]? with
  |some x=>n.lookup x==some .free&&N[j]?==some x
  |none=>Nl)
 |_=>Nk
noncomputable def iZ:Ls->Bool
 | []=>Nk
 |x::r=> !r.contains x&&iZ r
noncomputable def i6:Expr->Bool
 | .Slice _ _ _ _=>Nl
 |_=>Nk
theorem HQ{b:Expr}(h:i6 b=Nk):zh b:=by intro o i;cases b<;>first|rfl|cases h
noncomputable def nC:rA->Str
 | .append=>"append"| .extend=>"extend"| .pop=>"pop"| .count=>"count"| .insert=>"insert"| .index=>"index"
noncomputable def gh:Expr->Bool
 | .Name _ _=>Nk
 |_=>Nl
noncomputable def fy:Expr->Bool
 | .Tuple _ _ _=>Nk
 |_=>Nl
noncomputable def nD:Expr->Bool
 | .Set _ _ _=>Nl
 |_=>Nk
noncomputable def dE:Expr:=.Name "" ⟨0,0,0,0⟩
noncomputable def dG:NJ:=⟨dE,dE,[],0⟩
set_option genInjectivity false in
structure Nd where
 e0:Expr:=dE
 e1:Expr:=dE
 e2:Expr:=dE
 es:Lx:=[]
 lo:Option Expr:=none
 hi:Option Expr:=none
 gs:List NJ:=[]
 sc:Scope:=default
 k:Nat:=0
 pos:Pos:=⟨0,0,0,0⟩
noncomputable def vw:Expr->Nd
 | .BoolOp _ vs p=>{es:=vs,pos:=p}
 | .BinOp l _ r p=>{e0:=l,e1:=r,pos:=p}
 | .UnaryOp _ x p=>{e0:=x,pos:=p}
 | .IfExp t x y p=>{e0:=t,e1:=x,e2:=y,pos:=p}
 | .ListComp E g sc p=>{e0:=E,gs:=g,sc:=sc,pos:=p}
 | .SetComp E g sc p=>{e0:=E,gs:=g,sc:=sc,pos:=p}
 | .Compare l _ R p=>{e0:=l,es:=R,pos:=p}
 | .Call f xs ks p=>{e0:=f,es:=xs,e1:=(ks.headD ⟨none,dE,⟨0,0,0,0⟩⟩).value,e2:=.Name "" (ks.headD ⟨none,dE,⟨0,0,0,0⟩⟩).pos,pos:=p}
 | .Constant _ k p=>{k:=k,pos:=p}
 | .Attribute v _ p=>{e0:=v,pos:=p}
 | .Subscript v s p=>{e0:=v,e1:=s,pos:=p}
 | .Name _ p=>{pos:=p}
 | .List es p=>{es:=es,pos:=p}
 | .Tuple es k p=>{es:=es,k:=k,pos:=p}
 | .Slice l u s p=>{lo:=l,hi:=u,e2:=s.getD dE,pos:=p}
 | .Dict _ _ p=>{pos:=p}
 | .JoinedStr vs p=>{es:=vs,pos:=p}
 | .FormattedValue v _ _ p=>{e0:=v,pos:=p}
 |_=>{}
noncomputable def x3(e:Expr):Expr:=(vw e).es.tail.tail.tail.headD dE
noncomputable def Al:D->Const
 | .bl b=>.bool b
 | .int i=>.int i
 | .str x=>.str x
 |_=>.none
noncomputable def nE:CT->Bool
 | .tup _=>Nk
 |_=>Nl
noncomputable def ky:CE->Bool
 | .band _ _=>Nk
 |_=>Nl
noncomputable def gk:CE->Bool
 | .bor _ _=>Nk
 |_=>Nl
noncomputable def kz:CE->Bool
 | .comp .. =>Nk
 |_=>Nl
mutual
noncomputable def i7:CT->Ls->Expr->Expr
 | .var i,N,e=>.Name (N.getD i "") (vw e).pos
 | .tup ts,N,e=>.Tuple (fN ts N (vw e).es) (vw e).k (vw e).pos
noncomputable def fN:List CT->Ls->Lx->Lx
 | [],_,_=>[]
 |t::ts,N,es=>i7 t N (es.headD dE)::fN ts N es.tail
end
mutual
noncomputable def rB(c:Str->Bool)(N:Ls)(s:Sc):CT->Bool
 | .var i=>N[i]?==some (N.getD i "")&&(s.lookup (N.getD i "")==some .local||(c (N.getD i "")&&s.lookup (N.getD i "")==some .cell))
 | .tup ts=>um c N s ts
noncomputable def um(c:Str->Bool)(N:Ls)(s:Sc):List CT->Bool
 | []=>Nk
 |t::ts=>rB c N s t&&um c N s ts
end
mutual
noncomputable def aY:CE->Ls->Expr->Expr
 | .var i,N,e=>.Name (N.getD i "") (vw e).pos
 | .dct,_,e=>.Dict [] [] (vw e).pos
 | .rev a b,N,e=>.Subscript (aY a N (vw e).e0) (.Slice none none (some (aY b N (vw (vw e).e1).e2)) (vw (vw e).e1).pos) (vw e).pos
 | .lit d,_,e=>.Constant (Al d) (vw e).k (vw e).pos
 | .glob y,_,e=>.Name y (vw e).pos
 | .ty n,_,e=>.Name (Ol n) (vw e).pos
 | .bin op a b,N,e=>.BinOp (aY a N (vw e).e0) op (aY b N (vw e).e1) (vw e).pos
 | .catB a b,N,e=>.BinOp (aY a N (vw e).e0) .Add (aY b N (vw e).e1) (vw e).pos
 | .neg a,N,e=>.UnaryOp .USub (aY a N (vw e).e0) (vw e).pos
 | .cmp op a b,N,e=>.Compare (aY a N (vw e).e0) [op] [aY b N ((vw e).es.headD dE)] (vw e).pos
 | .chain3 op op' op'' a b c d,N,e=>.Compare (aY a N (vw e).e0) [op,op',op''] [aY b N ((vw e).es.headD dE),aY c N ((vw e).es.tail.headD dE),aY d N ((vw e).es.tail.tail.headD dE)] (vw e).pos
 | .chain op op' a b c,N,e=>.Compare (aY a N (vw e).e0) [op,op'] [aY b N ((vw e).es.headD dE),aY c N ((vw e).es.tail.headD dE)] (vw e).pos
 | .band a b,N,e=>.BoolOp .And (aY a N ((vw e).es.headD dE)::cond ((vw e).es.length==2) [aY b N ((vw e).es.tail.headD dE)] (vw (aY b N (.BoolOp .And (vw e).es.tail (vw e).pos))).es) (vw e).pos
 | .bor a b,N,e=>.BoolOp .Or (aY a N ((vw e).es.headD dE)::cond ((vw e).es.length==2) [aY b N ((vw e).es.tail.headD dE)] (vw (aY b N (.BoolOp .Or (vw e).es.tail (vw e).pos))).es) (vw e).pos
 | .bnot a,N,e=>.UnaryOp .Not (aY a N (vw e).e0) (vw e).pos
 | .ite c a b,N,e=>.IfExp (aY c N (vw e).e0) (aY a N (vw e).e1) (aY b N (vw e).e2) (vw e).pos
 | .tup es,N,e=>.Tuple (cC es N (vw e).es) (vw e).k (vw e).pos
 | .lst _ es,N,e=>.List (cC es N (vw e).es) (vw e).pos
 | .lstR a b l c d x y es,N,e=>.List (aY a N ((vw e).es.headD dE):: .BinOp (aY b N (vw ((vw e).es.tail.headD dE)).e0) .Add (.Constant (.str l) (vw (vw ((vw e).es.tail.headD dE)).e1).k (vw (vw ((vw e).es.tail.headD dE)).e1).pos) (vw ((vw e).es.tail.headD dE)).pos::aY c N ((vw e).es.tail.tail.headD dE):: .Call (.Attribute (aY d N (vw (vw (x3 e)).e0).e0) "replace" (vw (vw (x3 e)).e0).pos) [.Constant (.str x) (vw ((vw (x3 e)).es.headD dE)).k (vw ((vw (x3 e)).es.headD dE)).pos,.Constant (.str y) (vw ((vw (x3 e)).es.tail.headD dE)).k (vw ((vw (x3 e)).es.tail.headD dE)).pos] [] (vw (x3 e)).pos::cC es N (vw e).es.tail.tail.tail.tail) (vw e).pos
 | .idx a b,N,e=>.Subscript (aY a N (vw e).e0) (aY b N (vw e).e1) (vw e).pos
 | .sl a lo hi,N,e=>.Subscript (aY a N (vw e).e0) (.Slice (cC lo N (vw (vw e).e1).lo.toList).head? (cC hi N (vw (vw e).e1).hi.toList).head? none (vw (vw e).e1).pos) (vw e).pos
 | .call f es,N,e=>.Call (.Name f (vw (vw e).e0).pos) (cC es N (vw e).es) [] (vw e).pos
 | .blt b es,N,e=>.Call (.Name (hX b) (vw (vw e).e0).pos) (cC es N (vw e).es) [] (vw e).pos
 | .tix o es,N,e=>.Call (.Attribute (aY o N (vw (vw e).e0).e0) "index" (vw (vw e).e0).pos) (cC es N (vw e).es) [] (vw e).pos
 | .meth m o es,N,e=>.Call (.Attribute (aY o N (vw (vw e).e0).e0) (nC m) (vw (vw e).e0).pos) (cC es N (vw e).es) [] (vw e).pos
 | .sset a,N,e=>.Call (.Name "sorted" (vw (vw e).e0).pos) [.Call (.Name "set" (vw (vw ((vw e).es.headD dE)).e0).pos) [aY a N ((vw ((vw e).es.headD dE)).es.headD dE)] [] (vw ((vw e).es.headD dE)).pos] [] (vw e).pos
 | .comp _ N' _ tg it ifs body,N,e=>.ListComp (nF body N' (vw e).e0) (⟨i7 tg N' ((vw e).gs.headD dG).target,uq it N ((vw e).gs.headD dG).iter,cC ifs N' ((vw e).gs.headD dG).ifs,0⟩::uo body N' (vw e).gs.tail) (vw e).sc (vw e).pos
 | .emit _,_,e=>e
 | .inner _ _ _ _,_,e=>e
 | .seq _,_,e=>e
 | .range _,_,e=>e
 | .zip _,_,e=>e
noncomputable def nF:CE->Ls->Expr->Expr
 | .emit a,N,e=>aY a N e
 | .inner _ _ _ body,N,e=>nF body N e
 |_,_,e=>e
noncomputable def uo:CE->Ls->List NJ->List NJ
 | .inner tg it ifs body,N,g=>⟨i7 tg N (g.headD dG).target,uq it N (g.headD dG).iter,cC ifs N (g.headD dG).ifs,0⟩::uo body N g.tail
 |_,_,_=>[]
noncomputable def cC:List CE->Ls->Lx->Lx
 | [],_,_=>[]
 |c::cs,N,es=>aY c N (es.headD dE)::cC cs N es.tail
noncomputable def uq:CE->Ls->Expr->Expr
 | .seq c,N,e=>aY c N e
 | .range es,N,e=>.Call (.Name "range" (vw (vw e).e0).pos) (cC es N (vw e).es) [] (vw e).pos
 | .zip es,N,e=>.Call (.Name "zip" (vw (vw e).e0).pos) (cC es N (vw e).es) [] (vw e).pos
 |_,_,e=>e
end
mutual
noncomputable def bK:CE->Ls->Sc->Expr->Bool
 | .var i,N,sc,_=>N[i]?==some (N.getD i "")&&(nA sc (N.getD i "")&&dz (N.getD i ""))
 | .dct,_,_,_=>Nk
 | .rev a b,N,sc,e=>bK a N sc (vw e).e0&&bK b N sc (vw (vw e).e1).e2
 | .lit d,_,_,_=>iw d (Al d)
 | .glob y,_,sc,_=>br sc y
 | .ty n,_,sc,_=>br sc (Ol n)&&iY.contains n
 | .bin _ a b,N,sc,e=>bK a N sc (vw e).e0&&bK b N sc (vw e).e1
 | .catB a b,N,sc,e=>bK a N sc (vw e).e0&&bK b N sc (vw e).e1
 | .neg a,N,sc,e=>bK a N sc (vw e).e0
 | .cmp op a b,N,sc,e=>bK a N sc (vw e).e0&&(bK b N sc ((vw e).es.headD dE)&& !behindInMarks op (aY b N ((vw e).es.headD dE)))
 | .chain3 _ _ op'' a b c d,N,sc,e=>bK a N sc (vw e).e0&&(bK b N sc ((vw e).es.headD dE)&&(bK c N sc ((vw e).es.tail.headD dE)&&(bK d N sc ((vw e).es.tail.tail.headD dE)&& !behindInMarks op'' (aY d N ((vw e).es.tail.tail.headD dE)))))
 | .chain _ op' a b c,N,sc,e=>bK a N sc (vw e).e0&&(bK b N sc ((vw e).es.headD dE)&&(bK c N sc ((vw e).es.tail.headD dE)&& !behindInMarks op' (aY c N ((vw e).es.tail.headD dE))))
 | .band a b,N,sc,e=>bK a N sc ((vw e).es.headD dE)&&cond ((vw e).es.length==2) (bK b N sc ((vw e).es.tail.headD dE)) (ky b&&bK b N sc (.BoolOp .And (vw e).es.tail (vw e).pos))
 | .bor a b,N,sc,e=>bK a N sc ((vw e).es.headD dE)&&cond ((vw e).es.length==2) (bK b N sc ((vw e).es.tail.headD dE)) (gk b&&bK b N sc (.BoolOp .Or (vw e).es.tail (vw e).pos))
 | .bnot a,N,sc,e=>bK a N sc (vw e).e0
 | .ite c a b,N,sc,e=>bK c N sc (vw e).e0&&(bK a N sc (vw e).e1&&bK b N sc (vw e).e2)
 | .tup es,N,sc,e=>ff es N sc (vw e).es&&decide (es.length<1000)
 | .lst _ es,N,sc,e=>ff es N sc (vw e).es&&decide (es.length<1000)
 | .lstR a b _ c d _ _ es,N,sc,e=>bK a N sc ((vw e).es.headD dE)&&(bK b N sc (vw ((vw e).es.tail.headD dE)).e0&&(bK c N sc ((vw e).es.tail.tail.headD dE)&&(bK d N sc (vw (vw (x3 e)).e0).e0&&(ff es N sc (vw e).es.tail.tail.tail.tail&&(bC (aY a N ((vw e).es.headD dE))&&(bC (aY c N ((vw e).es.tail.tail.headD dE))&&(gh (aY d N (vw (vw (x3 e)).e0).e0)&&(vw (vw (x3 e)).e0).pos.endLine==(vw (x3 e)).pos.line)))))))
 | .idx a b,N,sc,e=>bK a N sc (vw e).e0&&(bK b N sc (vw e).e1&&i6 (aY b N (vw e).e1))
 | .sl a lo hi,N,sc,e=>bK a N sc (vw e).e0&&(ff lo N sc (vw (vw e).e1).lo.toList&&(ff hi N sc (vw (vw e).e1).hi.toList&&(decide (lo.length<2)&&decide (hi.length<2))))
 | .call f es,N,sc,e=>br sc f&&(ff es N sc (vw e).es&& !es.isEmpty)
 | .blt b es,N,sc,e=>br sc (hX b)&&(ff es N sc (vw e).es&&(!es.isEmpty&&ui b))
 | .tix o es,N,sc,e=>gh (aY o N (vw (vw e).e0).e0)&&((vw (vw e).e0).pos.endLine==(vw e).pos.line&&(bK o N sc (vw (vw e).e0).e0&&(ff es N sc (vw e).es&&decide (es.length=1))))
 | .meth m o es,N,sc,e=>gh (aY o N (vw (vw e).e0).e0)&&((vw (vw e).e0).pos.endLine==(vw e).pos.line&&(bK o N sc (vw (vw e).e0).e0&&(ff es N sc (vw e).es&&decide (es.length<20))))
 | .sset a,N,sc,e=>br sc "sorted"&&(br sc "set"&&(bK a N sc ((vw ((vw e).es.headD dE)).es.headD dE)&&bC (aY a N ((vw ((vw e).es.headD dE)).es.headD dE))))
 | .comp _ N' fr tg it ifs body,N,sc,e=>HP (vw e).sc sc&&(frB (vw e).sc.names N' N fr&&(iZ N'&&(rB (ul (vw e).sc.names) N' (kx (vw e).sc.names sc) tg&&(Am it N sc tg ((vw e).gs.headD dG).iter&&(nD (uq it N ((vw e).gs.headD dG).iter)&&(ff ifs N' (kx (vw e).sc.names sc) ((vw e).gs.headD dG).ifs&&Fy body Nl (ul (vw e).sc.names) N' (kx (vw e).sc.names sc) (vw e).gs.tail (vw e).e0))))))
 | .emit _,_,_,_=>Nl
 | .inner _ _ _ _,_,_,_=>Nl
 | .seq _,_,_,_=>Nl
 | .range _,_,_,_=>Nl
 | .zip _,_,_,_=>Nl
noncomputable def Fy:CE->Bool->(Str->Bool)->Ls->Sc->List NJ->Expr->Bool
 | .emit a,k,_,N,sc,_,e=> !k&&bK a N sc e
 | .inner tg it ifs body,k,cell,N,sc,g,e=>rB cell N sc tg&&(Am it N sc tg (g.headD dG).iter&&(nD (uq it N (g.headD dG).iter)&&(ff ifs N sc (g.headD dG).ifs&&Fy body k cell N sc g.tail e)))
 |_,_,_,_,_,_,_=>Nl
noncomputable def ff:List CE->Ls->Sc->Lx->Bool
 | [],_,_,_=>Nk
 |c::cs,N,sc,es=>bK c N sc (es.headD dE)&&(bC (aY c N (es.headD dE))&&ff cs N sc es.tail)
noncomputable def Am:CE->Ls->Sc->CT->Expr->Bool
 | .seq c,N,sc,_,e=>bK c N sc e
 | .range es,N,sc,_,e=>br sc "range"&&(ff es N sc (vw e).es&&(es.length==1||es.length==2))
 | .zip es,N,sc,t,e=>br sc "zip"&&(ff es N sc (vw e).es&&(es.length==2&&nE t))
 |_,_,_,_,_=>Nl
end
theorem aa{a b:Bool}(h:(a&&b)=Nk):a=Nk/\b=Nk:=Pr.mp h
theorem hY{p:Prop} [Decidable p] (h:decide p=Nk):p:=ZV h
theorem gm{a:Bool}(h:(!a)=Nk):a=Nl:=by lia
end Py
variable {sc:Py.Sc}
namespace Py
noncomputable def ur(K:Fg)(mg:Mg)(n:Nat)(a:List D->ae->Res D):Sp:=λvs H Q E=>vs.length=n/\∃F μ S ds,aJ K ⟨mg,F⟩ μ S H/\ai K ⟨mg,F⟩ μ H ds vs/\ak K ⟨mg,F⟩ E (Rep K ⟨mg,F⟩) μ H Q (a ds S)
structure bL (P:Nu)(w:NG)(K:Fg)(mg:Mg)(base:Ny)(CX:dk)(k:Nat)(f:Str)(φ:List D->ae->Res D):Prop where
 ex:∃fa fd ps,mg f=some (.ref fa)/\PySem.W.keepIn K (.ref fa)=Nk/\Binds K fd ps []/\cI P w K mg base CX k fa fd ps (ur K mg ps.length φ)/\∀ds S,φ ds S≠.fail->ds.length=ps.length
noncomputable def gq:Ls:=["len","tuple","list","int","min","max","isinstance","all","any","sorted","bool","str","dict","range","zip","set","sum","reversed","repr","abs","enumerate"]
structure Fz (P:Nu)(w:NG)(K:Fg)(mg:Mg)(base:Ny)(CX:dk)(Φ:FT)(Γ:Str->Option D)(k:Nat):Prop where
 fns:∀f φ,Φ f=some φ->bL P w K mg base CX k f φ
 gl:∀x d,Γ x=some d->∃v u,mg x=some u/\RelV v u/\∀F μ H,Rep K ⟨mg,F⟩ μ H d v
 bl:∀x∈gq,mg x=none
structure cG (X:Cx)(cell:Str->Bool)(N:Ls)(sc:Sc)(CX:dk)(E:XK)(Φ:FT)(Γ:Str->Option D)(k:Nat):Prop where
 n:X.N=N
 nd:N.Nodup
 sc:X.env.scope.names=sc
 kd:X.env.scope.kind=.function
 calm:X.calm=Nk
 room:b5 k X.A
 fn:∀x,cell x=Nk->X.fn x=Nk
 mod:Fz X.prog X.w X.K X.mg X.base CX Φ Γ k
 pass:j7 CX X E
 cx0:∀outer H s e s',CX outer H s E0 e s'->False
section
variable {E:XK}{k:Nat}{l r:Expr}{pos:Pos}{a b c:CE}
theorem rE{o:Rj}(h:PE X l (tE X.K X.mg E Φ Γ a))(c:PE X r (tE X.K X.mg E Φ Γ b)):PE X (.BinOp l o r pos) (tE X.K X.mg E Φ Γ (.bin o a b)):=
 aM (iu (G' _) h c) λy H Q z=>aF z λF t u S g e w=>
  ⟨F,_,_,S,g,e,(ak.bind w).mono λv H1 z=>ay z λk p d1 x s R W=>⟨F,_,_,_,s,e.mono x,(ak.bind W).mono λV n z=>ay z λm q d2 j f d i=>⟨F,_,_,_,_,f,Rep.mono j _ _ R,d,cB i⟩⟩⟩
theorem ut(h:PE X l (tE X.K X.mg E Φ Γ a))(c:PE X r (tE X.K X.mg E Φ Γ b)):PE X (.BinOp l .Add r pos) (tE X.K X.mg E Φ Γ (.catB a b)):=
 aM (iu zw h c) λu H Q z=>aF z λF q t S g e w=>
  ⟨F,_,_,S,g,e,(ak.bind w).mono λv H1 z=>ay z λk o d1 x s R W=>⟨F,_,_,_,s,e.mono x,(ak.bind W).mono λV n z=>ay z λm p d2 j f d i=>⟨F,_,_,_,_,f,Rep.mono j _ _ R,d,cB i⟩⟩⟩
theorem An{o:PU}(f:X.A.units+64<cLine)(h:PE X l (tE X.K X.mg E Φ Γ a))(c:PE X r (tE X.K X.mg E Φ Γ b))(d:behindInMarks o r=Nl):PE X (.Compare l [o] [r] pos) (tE X.K X.mg E Φ Γ (.cmp o a b)):=
 aM (mu (dq _ f) h c d) λB H Q z=>aF z λF y A S j e w=>
  ⟨F,_,_,S,j,e,(ak.bind w).mono λv H1 z=>ay z λn t d1 x s R W=>⟨F,_,_,_,s,e.mono x,(ak.bind W).mono λV q z=>ay z λp u d2 m i g k=>⟨F,_,_,_,_,i,Rep.mono m _ _ R,g,cB k⟩⟩⟩
theorem fO{mg:GS}{E:XK}{Rel:La->Hp->α->β->Prop}{Q:β->Hp->Prop}{f:Bool->Res α}
  (w:ak K mg E Rel μ H Q (aB d f)) (r:Rep K mg μ H d v):∃k,v=.bl k/\d=.bl k/\ak K mg E Rel μ H Q (f k):=by
 cases d with
 |bl k=>exact⟨k,f_ r,rfl,w⟩
 |_=>exact w.elim
theorem Ao{o:PU}(f:X.A.units+64<cLine)(h:PE X l (tE X.K X.mg E Φ Γ a))(c:PE X r (tE X.K X.mg E Φ Γ b))(d:behindInMarks o r=Nl):PT X (.Compare l [o] [r] pos) (tT X.K X.mg E Φ Γ (.cmp o a b)):=
 dy (mw (dq _ f) h c d) λO H Q z=>aF z λF M N S n e w=>
  ⟨F,_,_,S,n,e,(ak.bind w).mono λV H1 z=>ay z λv D d1 x s R W=>⟨F,_,_,_,s,e.mono x,(ak.bind W).mono λK B z=>ay z λy G d2 u j g p=>
   ⟨F,_,_,_,_,j,Rep.mono u _ _ R,g,cB ((ak.bind p).mono λL C z=>ay z λA I J x3 m i q=>by obtain⟨k,rfl,rfl,t⟩:=fO q i;exact⟨k,rfl,t _ _ k .refl m rfl⟩)⟩⟩⟩
theorem nG{o:PU}(h:X.A.units+64<cLine)(f:PE X l (tE X.K X.mg E Φ Γ a))(g:PE X r (tE X.K X.mg E Φ Γ b))(i:PE X r' (tE X.K X.mg E Φ Γ c))(j:behindInMarks op' r'=Nl):PE X (.Compare l [o,op'] [r,r'] pos) (tE X.K X.mg E Φ Γ (.chain o op' a b c)):=
 aM (Gm (dq _ h) (dq _ h) f g i j) λσ H Q z=>aF z λF μ ρ S v e w=>
  ⟨F,_,_,S,v,e,(ak.bind w).mono λZ H1 z=>ay z λG O d1 x q m y=>⟨F,_,_,_,q,e.mono x,(ak.bind y).mono λv2 L z=>ay z λI P d2 d t R A=>
   ⟨F,_,_,_,_,t,Rep.mono d _ _ m,R,cB ((ak.bind A).mono λv3 M z=>ay z λJ T V x3 s n B=>by
    obtain⟨k,rfl,rfl,W⟩:=fO B n;refine⟨k,rfl,?_⟩;cases k with
    |true=>exact⟨F,_,_,_,s,(e.mono x).mono (d.trans x3),(ak.bind W).mono λv4 N z=>ay z λK U Y D u p C=>⟨F,_,_,_,_,u,Rep.mono (x3.trans D) _ _ R,p,cB C⟩⟩
    |false=>exact W _ _ _ .refl s cJ)⟩⟩⟩
theorem nI{o:PU}(h:X.A.units+64<cLine)(f:PE X l (tE X.K X.mg E Φ Γ a))(g:PE X r (tE X.K X.mg E Φ Γ b))(i:PE X r' (tE X.K X.mg E Φ Γ c))(j:behindInMarks op' r'=Nl):PT X (.Compare l [o,op'] [r,r'] pos) (tT X.K X.mg E Φ Γ (.chain o op' a b c)):=
 dy (Gn (dq _ h) (dq _ h) f g i j) λσ H Q z=>aF z λF μ ρ S A e w=>
  ⟨F,_,_,S,A,e,(ak.bind w).mono λv1 H1 z=>ay z λL Z d1 x t m B=>⟨F,_,_,_,t,e.mono x,(ak.bind B).mono λv2 T z=>ay z λM S2 d2 d u R C=>
   ⟨F,_,_,_,_,u,Rep.mono d _ _ m,R,cB ((ak.bind C).mono λv3 U z=>ay z λN S3 d3 x3 s n D=>by
    obtain⟨k,rfl,rfl,W⟩:=fO D n;refine⟨k,rfl,?_⟩;cases k with
    |true=>exact⟨F,_,_,_,s,(e.mono x).mono (d.trans x3),(ak.bind W).mono λv4 V z=>ay z λO S4 d4 K v p G=>⟨F,_,_,_,_,v,Rep.mono (x3.trans K) _ _ R,p,cB ((ak.bind G).mono λv5 Y z=>ay z λP S5 d5 x5 y q I=>by obtain⟨k,rfl,rfl,J⟩:=fO I q;exact⟨k,rfl,J _ _ k .refl y rfl⟩)⟩⟩
    |false=>exact⟨_,rfl,W _ _ _ .refl s rfl⟩)⟩⟩⟩
theorem rF(h:PE X l (tE X.K X.mg E Φ Γ a))(c:PE X (.BoolOp .And (r::rest) pos) (tE X.K X.mg E Φ Γ b)):PE X (.BoolOp .And (l::r::rest) pos) (tE X.K X.mg E Φ Γ (.band a b)):=
 aM (sG h c) λn H Q z=>aF z λF j m S d e w=>
  ⟨F,_,_,S,d,e,(ak.bind w).mono λv H1 z=>ay z λg i d1 x s R f=>by
   obtain⟨k,rfl,rfl,W⟩:=fO f R;refine⟨k,rfl,?_⟩;cases k with
   |true=>exact⟨F,_,_,_,s,e.mono x,W⟩
   |false=>exact W _ _ _ .refl s cJ⟩
theorem Ap(h:PE X l (tE X.K X.mg E Φ Γ a))(c:PE X (.BoolOp .Or (r::rest) pos) (tE X.K X.mg E Φ Γ b)):PE X (.BoolOp .Or (l::r::rest) pos) (tE X.K X.mg E Φ Γ (.bor a b)):=
 aM (yz h c) λn H Q z=>aF z λF j m S d e w=>
  ⟨F,_,_,S,d,e,(ak.bind w).mono λv H1 z=>ay z λg i d1 x s R f=>by
   obtain⟨k,rfl,rfl,W⟩:=fO f R;refine⟨k,rfl,?_⟩;cases k with
   |true=>exact W _ _ _ .refl s cJ
   |false=>exact⟨F,_,_,_,s,e.mono x,W⟩⟩
theorem nJ(c:PE X l ta):PE X (.UnaryOp .Not l pos) (λσ H Q=>ta σ H λx H'=>∃k,iN X.K x H' k/\Q (.bl (!k)) H'):=by intro p s σ H Q I h;exact UnaryOp_ (aO (c _ s _ H _ I h) λv S z=>z.elim λx z=>z.elim λ_ z=>z.elim λa z=>z.elim λr z=>z.elim λk z=>z.elim λt q=>not_of (aO (j6 _ _ _ _ x v (λk H'=>Q (.bl !k) H') a r ⟨k,t,q⟩) λK e z=>by obtain⟨_,b,d⟩:=z;exact(⟨.bl _,_,b,rfl,d⟩)))
theorem Aq{mg:GS}{E:XK}{Rel:La->Hp->α->β->Prop}{Q:β->Hp->Prop}{f:Bool->Res α}
  (w:ak K mg E Rel μ H Q (match bc S d with|some k=>f k|none=>.fail)):∃k,bc S d=some k/\ak K mg E Rel μ H Q (f k):=by
 cases e:bc S d with
 |none=>rw[e]at w;exact w.elim
 |some k=>simp_all
theorem Ar(h:PE X l (tE X.K X.mg E Φ Γ a)):PE X (.UnaryOp .Not l pos) (tE X.K X.mg E Φ Γ (.bnot a)):=
 aM (nJ h) λm H Q z=>aF z λF i j S c b w=>⟨F,_,_,S,c,b,(ak.bind w).mono λv H1 z=>ay z λf g d1 x s r W=>by obtain⟨k,e,d⟩:=Aq W;exact⟨k,ry s r e,d _ _ _ .refl s cJ⟩⟩
theorem As(h:PE X l (tE X.K X.mg E Φ Γ a)):PE X (.UnaryOp .USub l pos) (tE X.K X.mg E Φ Γ (.neg a)):=
 aM (yK s9 h) λj H Q z=>aF z λF f g S b e w=>⟨F,_,_,S,b,e,(ak.bind w).mono λv H1 z=>ay z λc d d1 x s r W=>by
  cases d1 with
  |int i=>exact⟨i,aG r,W _ _ _ .refl s bq⟩
  |_=>exact W.elim⟩
theorem rG(h:PT X l (tT X.K X.mg E Φ Γ a))(f:PW X (.BoolOp .And (r::rest) pos) (tT X.K X.mg E Φ Γ b)):PW X (.BoolOp .And (l::r::rest) pos) (tT X.K X.mg E Φ Γ (.band a b)):=λm p s q H Q I z=>aF z λF n o S g e w=>
 sy h f _ _ s _ H Q I ⟨F,_,_,S,g,e,(ak.bind w).mono λk H1 z=>ay z λi j K x c d W=>by
  subst d;cases K with
  |true=>exact⟨F,_,_,_,c,e.mono x,W⟩
  |false=>exact W _ _ _ .refl c rfl⟩
theorem Au(h:PT X l (tT X.K X.mg E Φ Γ a))(f:PW X (.BoolOp .Or (r::rest) pos) (tT X.K X.mg E Φ Γ b)):PW X (.BoolOp .Or (l::r::rest) pos) (tT X.K X.mg E Φ Γ (.bor a b)):=λm p s q H Q I z=>aF z λF n o S g e w=>
 q8 h f _ _ s _ H Q I ⟨F,_,_,S,g,e,(ak.bind w).mono λk H1 z=>ay z λi j K x c d W=>by
  subst d;cases K with
  |true=>exact W _ _ _ .refl c rfl
  |false=>exact⟨F,_,_,_,c,e.mono x,W⟩⟩
theorem Aw(h:PT X l (tT X.K X.mg E Φ Γ a)):PT X (.UnaryOp .Not l pos) (tT X.K X.mg E Φ Γ (.bnot a)):=
 dy (jX h) λj H Q z=>aF z λF g i S c b w=>⟨F,_,_,S,c,b,(ak.bind w).mono λk H1 z=>ay z λd f K x s e W=>by subst e;exact W _ _ _ .refl s rfl⟩
theorem Ax{t x y:Expr}(i:PT X t (tT X.K X.mg E Φ Γ c))(h:PE X x (tE X.K X.mg E Φ Γ a))(g:PE X y (tE X.K X.mg E Φ Γ b)):PE X (.IfExp t x y pos) (tE X.K X.mg E Φ Γ (.ite c a b)):=
 aM (FX i h g) λp H Q z=>aF z λF n o S j e w=>⟨F,_,_,S,j,e,(ak.bind w).mono λk H1 z=>ay z λl m K d s f W=>by
  subst f;cases K with
  |true=>exact⟨F,_,_,_,s,e.mono d,W⟩
  |false=>exact⟨F,_,_,_,s,e.mono d,W⟩⟩
theorem Ay:PA X [] (tL X.K X.mg E Φ Γ []):=eO e9 λc H Q z=>aF z λF a b S s e w=>w _ H _ .refl s .nil
theorem cr{es:Lx}(h:bC e=Nk):starEach (e::es) env=(Nl,eval e env)::starEach es env:=by cases e<;>first|rfl|cases h
theorem uu{es:Lx}{cs:List CE}(c:bC e=Nk)(h:PE X e (tE X.K X.mg E Φ Γ a))(d:PA X es (tL X.K X.mg E Φ Γ cs)):PA X (e::es) (tL X.K X.mg E Φ Γ (a::cs)):=
 eO (cS h d (cr c)) λt H Q z=>aF z λF p q S g b w=>⟨F,_,_,S,g,b,(ak.bind w).mono λv H1 z=>ay z λk n d1 x s r W=>
  ⟨F,_,_,_,s,b.mono x,(ak.bind W).mono λvs m z=>ay z λl o D j f R i=>i _ _ _ .refl f (.cons (Rep.mono j _ _ r) R)⟩⟩
end
theorem nK:∀{cs:List CE} {N:Ls} {es:Lx},(cC cs N es).length=cs.length
 | [],N,es=>rfl
 |c::cs,N,es=>ZX _ nK
theorem fP:∀{cs:List CE} {N:Ls} {sc:Sc} {es:Lx},ff cs N sc es=Nk->∀e∈cC cs N es,bC e=Nk
 | [],N,sc,es,h,e,H=>absurd H Zy
 |c::cs,N,sc,es,h,e,H=>by
  rcases Zi.mp H with rfl|H
  ·exact(aa (aa h).2).1
  ·exact fP (aa (aa h).2).2 e H
theorem hZ:∀{es:Lx} {env:Env} {pos:Pos},(∀e∈es,bC e=Nk)->(backTo pos (starEach es env)).any (·.1)=Nl
 | [],env,pos,h=>rfl
 |e::es,env,pos,h=>by rw[cr (h e Ze)];show(Nl||(backTo _ _).any _)=Nl;rw[hZ λe H=>h e (Zc _ H)];rfl
theorem nL:∀{es:Lx} {env:Env} {pos:Pos},(∀e∈es,bC e=Nk)->(backTo pos (starEach es env)).all (λx=> !x.1)=Nk
 | [],env,pos,h=>rfl
 |e::es,env,pos,h=>by rw[cr (h e Ze)];show(!Nl&&(backTo _ _).all _)=Nk;rw[nL λe H=>h e (Zc _ H)];rfl
theorem uv:∀{cs:List CE} {ρ:bu} {S S':ae} {ds:List D},ah Φ Γ cs ρ S=.ok ds S'->ds.length=cs.length
 | [],ρ,S,S',ds,h=>by cases h;rfl
 |c::cs,ρ,S,S',ds,h=>by
  dsimp[ah]at h;cases e:aj _ _ c _ S with
  |ok d a=>
   rw[e]at h;cases E:ah Φ Γ cs ρ a with
   |ok f b=>simp only[Res.bind,E]at h;cases h;simp[uv E]
   |err x b=>simp only[Res.bind,E]at h;cases h
   |fail=>simp only[Res.bind,E]at h;cases h
  |err x a=>rw[e]at h;cases h
  |fail=>rw[e]at h;cases h
theorem HR{x:Str}{s:Scope}(hs:s.names=sc)(h:nA sc x=Nk):yt s x:=by unfold yt;unfold nA at h;lia
theorem fQ{x:Str}(h:dz x=Nk):(x==("__debug__":Str))=Nl/\(x==("__classdict__":Str))=Nl:=by
 unfold dz at h
 grind
theorem cN{x:Str}(h:br sc x=Nk):sc.lookup x=some .globalImplicit/\(x==("__debug__":Str))=Nl/\x≠"__name__":=by unfold br at h;simp_all
section
variable {E:XK}{k:Nat}{l r:Expr}{es:Lx}{pos:Pos}{a b c:CE}{cs:List CE}{x:Str}
theorem cG.gl(O:cG X cell N sc CX E Φ Γ k)(h:sc.lookup x=some .globalImplicit):Gl X x:=by show X.env.scope.names.lookup x=_;rw[O.sc];exact h
theorem rH(O:cG X cell N sc CX E Φ Γ k){i:Nat}(h1:(N[i]?==some x)=Nk)(c:nA sc x=Nk)(h:dz x=Nk):PE X (.Name x pos) (tE X.K X.mg E Φ Γ (.var i)):=by
 refine aM (jU (by rw[O.n];simpa using h1) (HR O.sc c) (fQ h).1 (fQ h).2) λj H Q z=>aF z λF f g S s b w=>?_;dsimp[aj]at w;split at w
 ·rename_i d e;obtain⟨v,a,r⟩:=b.2 i d e;exact⟨v,a,w _ H v .refl s r⟩
 ·exact w.elim
theorem kA{cn:Const}{j}(h:iw d cn=Nk):PE X (.Constant cn j pos) (tE X.K X.mg E Φ Γ (.lit d)):=by
 unfold iw at h;split at h
 ·exact aM sw λf H Q z=>aF z λF b c S s a w=>w _ H _ .refl s j9
 ·have e:=beq_iff_eq.mp h;subst e;exact aM qZ λf H Q z=>aF z λF b c S s a w=>w _ H _ .refl s cJ
 ·have e:=beq_iff_eq.mp h;subst e;exact aM jV λf H Q z=>aF z λF b c S s a w=>w _ H _ .refl s bq
 ·have e:=beq_iff_eq.mp h;subst e;exact aM iL λf H Q z=>aF z λF b c S s a w=>w _ H _ .refl s fJ
 ·cases h
theorem uw(O:cG X cell N sc CX E Φ Γ k)(h:br sc x=Nk):PE X (.Name x pos) (tE X.K X.mg E Φ Γ (.glob x)):=by
 obtain⟨a,b,i⟩:=cN h;cases e:Γ x with
 |none=>intro p s f H Q I ⟨F,_,_,S,_,_,w⟩;simp[aj]at w;rw[e]at w;exact w.elim
 |some d=>obtain⟨v,u,m,M,m3⟩:=O.mod.gl x d e;refine aM (yw (O.gl a) m M b) λf H Q z=>aF z λF j l S c g w=>?_;simp[aj]at w;rw[e]at w;exact w _ H v .refl c (m3 F _ H)
theorem nM{n:String}(h:iY.contains n=Nk):(Ol n)∈gq:=by simp[iY]at h;rcases h with rfl|rfl|rfl|rfl|rfl|rfl<;>decide+kernel
theorem HS(O:cG X cell N sc CX E Φ Γ k){n:String}(h:br sc (Ol n)=Nk)(a:iY.contains n=Nk):PE X (.Name (Ol n) pos) (tE X.K X.mg E Φ Γ (.ty n)):=by obtain⟨b,c,d⟩:=cN h;exact aM (yx (v:=.ty n) (O.gl b) (O.mod.bl _ (nM a)) (nB a) rfl d c) λi H Q z=>aF z λF f g S s e w=>w _ H _ .refl s rfl
theorem kB{mg:GS}{Q:List V->Hp->Prop}(h:cs.length<1000)(w:ak K mg E (ai K mg) μ H Q (ah Φ Γ cs ρ S)):ak K mg E (ai K mg) μ H (λvs H'=>vs.length<=sizeLine/\Q vs H') (ah Φ Γ cs ρ S):=by
 cases e:ah _ _ _ _ S with
 |ok d a=>rw[e]at w;intro b H' vs x s r;refine⟨?_,w _ _ _ x s r⟩;rw[<-r.length,uv e];exact O8 (ZA h (by decide))
 |err y a=>rw[e]at w;exact w
 |fail=>rw[e]at w;exact w
theorem Az{x1}(a:cs.length<1000)(h:PA X es (tL X.K X.mg E Φ Γ cs)):PE X (.Tuple es x1 pos) (tE X.K X.mg E Φ Γ (.tup cs)):=
 aM (ti h) λi H Q Z=>aF Z λF f g S d e w=>⟨F,_,_,S,d,e,(kB a (ak.bind w)).mono λvs H1 z=>by obtain⟨c,_,_,_,_,s,r,W⟩:=z;exact(⟨c,λp b=>by exact aR.tup (show aR _ _ _ _ Q _ from W) s r p b⟩)⟩
theorem AA{box:Bool}(b:cs.length<1000)(h:PA X es (tL X.K X.mg E Φ Γ cs)):PE X (.List es pos) (tE X.K X.mg E Φ Γ (.lst box cs)):=
 aM (f9 h) λi H Q Z=>aF Z λF f g S d e w=>⟨F,_,_,S,d,e,(kB b (ak.bind w)).mono λvs H1 z=>by obtain⟨c,_,_,_,_,s,r,W⟩:=z;exact(⟨c,λp a=>by
  cases box with
  |true=>exact aR.box (show aR _ _ _ _ Q _ from W) s r p a
  |false=>exact aR.lst (show aR _ _ _ _ Q _ from W) s r p a⟩)⟩
theorem AB:PE X (.Dict [] [] pos) (tE X.K X.mg E Φ Γ .dct):=λp s l H Q I z=>aF z λF j k S c d w=>by
 have a:=ZA I.mod.glob.lt (ZD I.ok.bsz I.sz);have h:=I.hok.fresh (Zh _);refine wpAny_Dict_empty ⟨.ref _,_,I.laid (o:=.dK []) (λb O q=>Zb _ q) (Zh _) ?_,rfl,?_⟩
 ·refine⟨Ya _,?_,_,.nil,_,_,_,Zk _ rfl,⟨rfl,rfl,rfl⟩,rfl,λe i=>by simp_all,.nil,.nil⟩;have g:mainGlobals=3:=rfl;have f:sysModules=1:=rfl;lia
 ·exact w _ _ _ (.laid h) (c.laid h) (by exact⟨_,rfl,a8⟩)
theorem AD(hs:i6 r=Nk)(h:PE X l (tE X.K X.mg E Φ Γ a))(c:PE X r (tE X.K X.mg E Φ Γ b)):PE X (.Subscript l r pos) (tE X.K X.mg E Φ Γ (.idx a b)):=
 aM (rk Hk h c (HQ hs)) λu H Q z=>aF z λF q t S g e w=>
  ⟨F,_,_,S,g,e,(ak.bind w).mono λv H1 z=>ay z λk o d1 x s R W=>⟨F,_,_,_,s,e.mono x,(ak.bind W).mono λV n z=>ay z λm p d2 j f d i=>⟨F,_,_,_,_,f,Rep.mono j _ _ R,d,cB i⟩⟩⟩
theorem AE(h:PE X l (tE X.K X.mg E Φ Γ a))(c:PE X r (tE X.K X.mg E Φ Γ b)):PE X (.Subscript l (.Slice none none (some r) p2) pos) (tE X.K X.mg E Φ Γ (.rev a b)):=
 aM (uh h c) λu H Q z=>aF z λF q t S g e w=>
  ⟨F,_,_,S,g,e,(ak.bind w).mono λv H1 z=>ay z λk o d1 x s R W=>⟨F,_,_,_,s,e.mono x,(ak.bind W).mono λV n z=>ay z λm p d2 j f d i=>⟨F,_,_,_,_,f,Rep.mono j _ _ R,d,cB i⟩⟩⟩
noncomputable def AF(K:Fg)(mg:Mg)(E:XK)(Φ:FT)(Γ:Str->Option D)(cs:List CE):TO:=λσ H Q=>∃F μ ρ S,aJ K ⟨mg,F⟩ μ S H/\aU K ⟨mg,F⟩ μ H ρ σ/\
 ak K ⟨mg,F⟩ E (λ_ _ o o'=>o=o') μ H Q ((ah Φ Γ cs ρ S).bind cV)
theorem nN:PO X none (AF X.K X.mg E Φ Γ []):=by intro p s b H Q I ⟨F,_,_,S,a,_,w⟩;exact mE _ s _ H Q I (w _ H _ .refl a rfl)
theorem nO(h:PE X e (tE X.K X.mg E Φ Γ a)):PO X (some e) (AF X.K X.mg E Φ Γ [a]):=by
 intro p s q H Q I ⟨F,l,c,S,j,f,w⟩;refine mF h _ s _ H Q I ⟨F,_,_,S,j,f,?_⟩
 have k:ak X.K ⟨X.mg,F⟩ E (λ_ _ o O=>o=O) l H Q ((aj Φ Γ a c S).bind λd b=>cV [d] b):=by
  have n:(ah Φ Γ [a] c S).bind cV=(aj Φ Γ a c S).bind λd b=>cV [d] b:=by dsimp only[ah];cases aj _ _ a _ S<;>rfl
  simp_all
 refine(ak.bind k).mono λv H1 z=>ay z λm b d x g r W=>?_;cases d with
 |int i=>exact⟨i,aG r,W _ _ _ .refl g rfl⟩
 |_=>exact W.elim
theorem HU{L h:Option Expr}{c ch:List CE}(g:PE X l (tE X.K X.mg E Φ Γ a))(j:PO X L (AF X.K X.mg E Φ Γ c))(i:PO X h (AF X.K X.mg E Φ Γ ch)):PE X (.Subscript l (.Slice L h none p2) pos) (tE X.K X.mg E Φ Γ (.sl a c ch)):=
 aM (GG Hm g j i) λM H Q z=>aF z λF J K S n e w=>⟨F,_,_,S,n,e,(ak.bind w).mono λV H1 z=>ay z λt B d1 x s r W=>⟨F,_,_,_,s,e.mono x,
  (ak.bind W).mono λo y z=>ay z λu C G b k d p=>⟨F,_,_,_,k,(e.mono x).mono b,(ak.bind p).mono λI A z=>ay z λv D O x3 m f q=>by subst d;subst f;exact⟨F,_,_,_,m,Rep.mono (b.trans x3) _ _ r,cB q⟩⟩⟩⟩
theorem kC(O:cG X cell N sc CX E Φ Γ k){f:Str}(h:br sc f=Nk)(a:∀x∈e::es,bC x=Nk)(i:PA X (e::es) (tL X.K X.mg E Φ Γ cs)):PE X (.Call (.Name f p2) (e::es) [] pos) (tE X.K X.mg E Φ Γ (.call f cs)):=by
 obtain⟨d,g,A⟩:=cN h;cases b:Φ f with
 |none=>intro P s t H Q I ⟨F,_,_,S,_,_,w⟩;simp[aj]at w;rw[b]at w;exact w.elim
 |some K=>obtain⟨v,y,B,m,M,m3,l,n⟩:=(O.mod.fns f _ b).ex;refine aM (my l O.room (O.gl d) m M m3 .nil O.pass i g (cr (a e Ze)) (hZ λx j=>a x (Zc _ j))) λt H Q Z=>aF Z λF G J S p c w=>?_;simp[aj]at w;rw[b]at w;refine⟨F,_,_,S,p,c,(ak.bind w).mono λvs H1 Z=>ay Z λq u D C o r W=>?_⟩;rw[N4];refine⟨?_,F,_,_,_,o,r,W⟩;rw[<-r.length];exact n _ _ λz=>by rw[z]at W;exact W
theorem rJ(O:cG X cell N sc CX E Φ Γ k){b:jM}(g:a9 X (ku b) (rC X.K X.mg (aW b)))(h:br sc (hX b)=Nk)(j:∀x∈e::es,bC x=Nk)(f:PA X (e::es) (tL X.K X.mg E Φ Γ cs)):PE X (.Call (.Name (hX b) p2) (e::es) [] pos) (tE X.K X.mg E Φ Γ (.blt b cs)):=by
 obtain⟨a,c,d⟩:=cN h
 have i:X.mg (hX b)=none:=O.mod.bl _ (by
  cases b with
  |list box=>show(Ol _)∈gq;decide+kernel
  |sorted box t=>show(Ol _)∈gq;decide+kernel
  |_=>decide+kernel)
 have K:PE X (.Call (.Name (hX b) p2) (e::es) [] pos) (Gz (rC X.K X.mg (aW b)) (tL X.K X.mg E Φ Γ cs)):=by
  have s:=cr (env:=X.env) (es:=es) (j e Ze);have m:=hZ (env:=X.env) (pos:=pos) λx q=>j x (Zc _ q);have l:=HN b;cases b with
  |tuple=>exact mz g (O.gl a) i l f d c s m
  |list box=>exact mz g (O.gl a) i l f d c s m
  |int=>exact mz g (O.gl a) i l f d c s m
  |str=>exact mz g (O.gl a) i l f d c s m
  |_=>exact tm g (O.gl a) i l f d c s m
 refine aM K λC H Q z=>aF z λF v A S u p w=>⟨F,v,A,S,u,p,(ak.bind w).mono λvs H1 z=>ay z λy o D B s r W=>⟨F,_,o,D,s,r,cB W⟩⟩
theorem HV{mg:GS}(s:aJ K mg μ S H)(r:Rep K mg μ H (.ref n) v):zo K "list" v H:=by
 obtain⟨a,rfl,h⟩:=r;have c:n<S.length:=by rw[<-s.len];exact(Zg.mp h).1
 obtain⟨vs,b,q⟩:=s.at_ n a _ h (Zf c);exact .inl ⟨rfl,_,.of b⟩
noncomputable def kD:rA->String
 | .append=>"list.append"| .extend=>"list.extend"| .pop=>"list.pop"| .count=>"list.count"| .insert=>"list.insert"| .index=>"list.index"
theorem kE(m:rA):jL X (kD m) (rM X.K X.mg (gg m)):=by
 cases m with
 |append=>exact Ho
 |count=>exact λ_ _ _ _ _ _ _ _ _ _ _ _ ⟨_,_,_,_,_,_,_,_,w⟩=>w.elim
 |insert=>exact λ_ _ _ _ _ _ _ _ _ _ _ _ ⟨_,_,_,_,_,_,_,_,w⟩=>w.elim
 |index=>exact λ_ _ _ _ _ _ _ _ _ _ _ _ ⟨_,_,_,_,_,_,_,_,w⟩=>w.elim
 |extend=>exact Hq
 |pop=>
  intro p s i H x f v u Q I b a h;obtain⟨F,g,S,d,D,c,R,r,w⟩:=h;cases D with
  |nil=>exact zR p s i H x f v u Q I b a ⟨F,g,S,d,[],c,R,r,w⟩
  |cons e E=>exact ng p s i H x f v u Q I b a ⟨F,g,S,d,e::E,c,R,r,w⟩
theorem AG(m:rA):Slot "list" (nC m) (kD m):=by
 cases m with
 |append=>exact PySem.F.slot_list_append
 |count=>exact PySem.F.slot_list_count
 |insert=>exact PySem.F.slot_list_insert
 |index=>exact PySem.F.slot_list_index
 |extend=>exact PySem.F.slot_list_extend
 |pop=>exact PySem.F.slot_list_pop
theorem AH(m:rA):typeOf (.builtin (kD m))=pure (.type "method_descriptor"):=by
 cases m with
 |append=>exact PySem.F.type_list_append
 |count=>exact PySem.F.type_list_count
 |insert=>exact PySem.F.type_list_insert
 |index=>exact PySem.F.type_list_index
 |extend=>exact PySem.F.type_list_extend
 |pop=>exact PySem.F.type_list_pop
theorem ux{m:rA}{o:Expr}(J:gh o=Nk)(y:(apos.endLine==pos.line)=Nk)(f:∀x∈es,bC x=Nk)(T:es.length<20)(j:cs.length=es.length)(A:PE X o (tE X.K X.mg E Φ Γ a))(I:PA X es (tL X.K X.mg E Φ Γ cs)):
  PE X (.Call (.Attribute o (nC m) apos) es [] pos) (tE X.K X.mg E Φ Γ (.meth m a cs)):=by
 have h:attributeBase o (nC m) X.env (eval o X.env)=eval o X.env:=by cases o<;>first|rfl|cases J
 have k:∀{F b d H1 c d1 Q v},aJ X.K ⟨X.mg,F⟩ b d H1->Rep X.K ⟨X.mg,F⟩ b H1 d1 v->ak X.K ⟨X.mg,F⟩ E (Rep X.K ⟨X.mg,F⟩) b H1 Q (match d1 with
   | .ref n=>(ah Φ Γ cs c d).bind λD i=>(gg m (.ref n) D i).noErr
   |_=>.fail)->zo X.K "list" v H1/\ak X.K ⟨X.mg,F⟩ E (ai X.K ⟨X.mg,F⟩) b H1 (λvs u=>rM X.K X.mg (gg m) v vs u Q) (ah Φ Γ cs c d):=by
  intro F b d H1 c d1 Q v s r W;cases d1 with
  |ref n=>exact⟨HV s r,(ak.bind W).mono λvs u z=>ay z λt i D O M R N=>⟨F,t,i,_,D,M,Rep.mono O _ _ r,R,cB N⟩⟩
  |_=>exact W.elim
 cases es with
 |nil=>have e:cs=[]:=ZU j;subst e;refine aM (tx PySem.F.plainAttrs_list (AG m) (AH m) (kE m) A h y) λP H Q z=>aF z λF q c S p g w=>⟨F,q,c,S,p,g,(ak.bind w).mono λv H1 z=>ay z λb d d1 B s r W=>?_⟩;obtain⟨K,l⟩:=k s r W;exact⟨K,l b H1 [] .refl s .nil⟩
 |cons e es=>
  refine aM (rm PySem.F.plainAttrs_list (AG m) (AH m) (kE m) A I h ?_ y (cr (f e Ze)) (hZ λx L=>f x (Zc _ L))) λP H Q z=>aF z λF q c S p g w=>⟨F,q,c,S,p,g,(ak.bind w).mono λv H1 z=>ay z λb d d1 B s r W=>?_⟩
  ·rw[nL f];have C:(backToKw pos (keywordEach [] X.env)).all (λx=>x.1.isSome)=Nk:=rfl;rw[C];simp only[Bool.true_and,decide_eq_true_eq];have G:(if([]:List QR).isEmpty then 0 else 1)=0:=rfl;rw[G];simp only[Oi];omega
  ·obtain⟨K,l⟩:=k s r W;exact⟨K,F,b,c,d,s,g.mono B,l⟩
theorem AI{id:String}{r:V->List V->Hp->VK->Prop}{o:Expr}{es:Lx}{t:TA}(S:Slot "tuple" name id)(j:typeOf (.builtin id)=pure (.type "method_descriptor"))(u:jL X id r)(w:PE X o to)(q:PA X (e::es) t)
  (c:attributeBase o name X.env (eval o X.env)=eval o X.env)
  (f:((backTo cpos (starEach (e::es) X.env)).all (λx=> !x.1)&&(backToKw cpos (keywordEach [] X.env)).all (λx=>x.1.isSome)
   &&decide ((e::es).length+([]:List QR).length+(if([]:List QR).isEmpty then 0 else 1)<30))=Nk)
  (d:(apos.endLine==cpos.line)=Nk) (hs:starEach (e::es) X.env=(Nl,eval e X.env)::starEach es X.env) (g:(backTo cpos (starEach es X.env)).any (·.1)=Nl):
  PE X (.Call (.Attribute o name apos) (e::es) [] cpos) (λσ H Q=>to σ H λx H1=>(∃a vs,x=.ref a/\b4 X.K H1 a vs)/\t σ H1 λxs H2=>r x xs H2 Q):=by
 intro P s σ H Q I h;refine QA c f d rfl (aO (w _ s _ H _ I h) λv D z=>?_);obtain⟨x,_,i,R,ty,A⟩:=z;obtain⟨a,vs,rfl,l⟩:=ty;subst R;obtain⟨y,_,⟨O,E,n,_⟩,_⟩:=i.tuple l;refine⟨_,_,PySem.F.plainAttrs_tuple,S,j,⟨_,E,n⟩,λb p=>by cases p;exact i.noD l,?_⟩;have k:=q cpos _ _ _ _ _ i A;rw[hs]at k⊢;exact O2 (by trivial) (Pn (aO k λU F z=>by obtain⟨_,_,m,C,B⟩:=z;exact(u _ _ _ _ (.ref a) _ _ _ Q m rfl C B)))
theorem AJ{o:Expr}(j:gh o=Nk)(i:(apos.endLine==pos.line)=Nk)(b:∀x∈es,bC x=Nk)(m:es.length=1)(k:PE X o (tE X.K X.mg E Φ Γ a))(g:PA X es (tL X.K X.mg E Φ Γ cs)):
  PE X (.Call (.Attribute o "index" apos) es [] pos) (tE X.K X.mg E Φ Γ (.tix a cs)):=by
 have h:attributeBase o "index" X.env (eval o X.env)=eval o X.env:=by cases o<;>first|rfl|cases j
 cases es with
 |nil=>cases m
 |cons e es=>
  refine aM (AI PySem.F.slot_tuple_index PySem.F.type_tuple_index Ai k g h ?_ i (cr (b e Ze)) (hZ λx l=>b x (Zc _ l))) λL H Q z=>aF z λF J K S p d w=>⟨F,_,_,S,p,d,(ak.bind w).mono λV H1 z=>ay z λv B d1 t s r W=>?_⟩
  ·rw[nL b];have c:(backToKw pos (keywordEach [] X.env)).all λx=>x.1.isSome=Nk:=rfl
   grind
  ·cases d1 with
   |tup I=>obtain⟨a,vs,c,f,G⟩:=bQ r;exact⟨⟨a,_,c,f⟩,F,_,_,_,s,d.mono t,(ak.bind W).mono λvs A z=>ay z λy C D u n R q=>⟨F,_,_,_,_,n,Rep.mono u _ _ r,R,cB q⟩⟩
   |_=>exact W.elim
end
theorem HW{t:Nn}{i:Nat}{x:Np}(h:s.heap.IsTupleIter it t i)(g:s.heap.IsTuple t items)(j:items[i]?=some x)
  (e:∀h',h'.IsTupleIter it t (i+1)->NY it s.heap h'->Q x {s with heap:=h'}):wpAny (model prog w) A (NC (.ref it)) Q E s:=by
 obtain⟨o,a,f,H⟩:=id h;obtain⟨O,c,_,nl,b⟩:=g;refine Za (Z1 h.typeIs OP (Z0 OP h.typeIs RG ?_ (Ry _)));show wpAny _ _ (field _ 0>>=_) _ _ s;refine Za (Z3 a H rfl ?_);refine Za (Z3 a H rfl ?_);refine Za (Z7 c b ?_);simp_all;exact Za (P7 a H (by simp) (Zd ⟨x,rfl,Zd (e _ ⟨_,ZQ _ a (Qp (Oy H _)),(Q0 ..).trans f,by rw[Oy H];rfl⟩ (ZZ ..))⟩))
theorem AK{t:Nn}{i:Nat}{Q:Vs}(g:A.handled=none)(h:s.heap.IsTupleIter it t i)(j:s.heap.IsTuple t items)(k:items[i]?=none)
  (f:∀h' e,Sn it s.heap h'->(∃o,h'.get? e=some o/\o.cls=.type "StopIteration")->E (.ref e) {s with heap:=h'}):wpAny (model prog w) A (NC (.ref it)) Q E s:=by
 obtain⟨o,b,l,H⟩:=id h;obtain⟨O,c,_,nl,a⟩:=j;refine Za (Z1 h.typeIs OP (Z0 OP h.typeIs RG ?_ (Ry _)));show wpAny _ _ (field (.ref it) 0>>=_) _ _ s;refine Za (Z3 b H (x:=.ref t) rfl ?_);refine Za (Z3 b H rfl ?_);refine Za (Z7 c a ?_);simp only[Yi,k];refine Za (O' (Za (P7 b H (by simp) ?_)));refine Za ?_;refine Za (m:=firstArgMember _ _) (RF (rfl) ?_);refine ZS ?_ (by size_fits);refine Za (wpAny_handled ?_)
 first|lia|rw[g]
 exact Za (Zd (wpAny_throw (f _ _ (((ZZ ..).extBut.push _).push _) ⟨_,Zk _ rfl,rfl⟩)))
def b6(b:Bool)(h:Ny)(l:Nn)(xs:Av):Prop:=match b with
 |true=>h.IsList l xs
 |false=>h.IsTuple l xs
def bI(b:Bool)(h:Ny)(it l:Nn)(i:Nat):Prop:=match b with
 |true=>h.IsListIter it l i
 |false=>h.IsTupleIter it l i
theorem b6.at{b:Bool}{l:Nn}{xs:Av}(q:b6 b h l xs)(k:∀o,h.get? l=some o->h'.get? l=some o):b6 b h' l xs:=by
 cases b with
 |true=>exact Heap.IsList.at q k
 |false=>obtain⟨o,e,r⟩:=q;exact⟨o,k o e,r⟩
theorem bI.at{b:Bool}{l:Nn}{i:Nat}(q:bI b h it l i)(k:∀o,h.get? it=some o->h'.get? it=some o):bI b h' it l i:=by
 cases b with
 |true=>exact Heap.IsListIter.at q k
 |false=>exact Heap.IsTupleIter.at q k
theorem bI.obj{b:Bool}{l:Nn}{i:Nat}(q:bI b h it l i):∃o,h.get? it=some o/\∀v,o.data≠.cell v:=by
 cases b with
 |true=>obtain⟨o,e,c,d⟩:=q;simp_all
 |false=>obtain⟨o,e,c,d⟩:=q;simp_all
theorem ix(d:A.handled=none)(b:Bool)(it l:Nn)(a:l≠it)(items:Av):
  Draws prog w A it [it,l] items.size (λi v=>items[i]?=some v) (λi h=>bI b h it l i/\b6 b h l items):=by
 cases b with
 |true=>exact Draws.list d _ l a _
 |false=>exact{
   live:=λ_ _ S=>(by obtain⟨o,ho,_⟩:=S.1;exact(⟨o,ho⟩))
   frame:=λ_ _ _ S f=>⟨S.1.at λo e=>f _ (by simp) o e,S.2.at λo e=>f l (by simp) o e⟩
   item:=λi s Q E m S j=>by exact HW S.1 S.2 (x:=items[i]) (by simp) λk H c=>j _ _ _ (by simp) ⟨H,S.2.at λo e=>c.extBut _ _ a e⟩ c
   done:=λs Q E S g=>AK d S.1 S.2 (by simp) g}
structure dQ (z TI TO i1 i2 l1 l2:Nn):Prop where
 TIz:TI≠z
 TOz:TO≠z
 i1z:i1≠z
 i2z:i2≠z
 TITO:TI≠TO
 TIi1:TI≠i1
 TIi2:TI≠i2
 TOi1:TO≠i1
 TOi2:TO≠i2
 i12:i1≠i2
 l1:l1≠z/\l1≠TO/\l1≠i1/\l1≠i2
 l2:l2≠z/\l2≠TO/\l2≠i1/\l2≠i2
theorem AL{prog:Nu}{w:NG}{b:Bool}{t:Nn}{i:Nat}{Q:Vs}(c:A.handled=none)(h:bI b s.heap it t i)(d:b6 b s.heap t items)(f:items[i]?=none)
  (H:∀h' e,Sn it s.heap h'->(∃o,h'.get? e=some o/\o.cls=.type "StopIteration")->E (.ref e) {s with heap:=h'}):wpAny (model prog w) A (NC (.ref it)) Q E s:=by
 cases b with
 |true=>exact wpAny_nextOf_list_end c h d f H
 |false=>exact AK c h d f H
section
variable {b1 b2:Bool}{z TI TO i1 i2 l1 l2:Nn}{k1 k2:Nat}{xs ys:Av}{a b:Np}
theorem uy(D:dQ z TI TO i1 i2 l1 l2)(hh:A.handled=none){x y:Np}
  (O:Qd s.heap z TI TO .none) (hTI:Oz s.heap TI (.ref i1) (.ref i2)) (hTO:Oz s.heap TO a b)
  (h1:bI b1 s.heap i1 l1 k1) (h2:bI b2 s.heap i2 l2 k2) (hl1:b6 b1 s.heap l1 xs) (hl2:b6 b2 s.heap l2 ys) (hx:xs[k1]?=some x) (hy:ys[k2]?=some y)
  (hQ:∀h',Qd h' z TI TO (rawInt s.heap.objs.size)->Oz h' TO x y->bI b1 h' i1 l1 (k1+1)->bI b2 h' i2 l2 (k2+1)->Oz h' s.heap.objs.size x y->h'.objs.size=s.heap.objs.size+1->
   (∀c o,c≠z->c≠TO->c≠i1->c≠i2->s.heap.get? c=some o->h'.get? c=some o)->∀tk,Q (.ref s.heap.objs.size) {s with heap:=h',toks:=tk}):
  wpAny (model prog w) A (N8.«zip.__next__» ⟨[.ref z],[]⟩) (λfin s'=>∃v,fin=.done (.ret v)/\Q v s') E s:=by
 have D1:=ix (prog:=prog) (w:=w) (A:=A) hh b1 i1 l1 D.l1.2.2.1 xs;have D2:=ix (prog:=prog) (w:=w) (A:=A) hh b2 i2 l2 D.l2.2.2.2 ys;have n1:k1<xs.size:=(NP.mp hx).1;have n2:k2<ys.size:=(NP.mp hy).1;show wpAny _ _ (field (.ref z) 2>>=_) _ _ _;refine Za (Z3 O rfl (x:=.bool Nl) rfl ?_);show wpAny _ _ (field (.ref z) 3>>=_) _ _ _;refine Za (Z3 O rfl (x:=.ref TI) rfl ?_);refine Za (Z7 hTI rfl ?_);show wpAny _ _ (NS (.ref z)>>=_) _ _ _;refine Za ?_;unfold NS;refine Za (Z3 O rfl (x:=.none) rfl (Zd ?_));simp only[if_true];refine Za (O' ?_);refine Za (Z3 O rfl (x:=.ref TO) rfl ?_);refine Za (OG O (by simp) λR q H=>?_);replace q:Qd R z TI TO .ellipsis:=q;refine Za ?_;simp only[Tl,List.zipIdx_nil,OY,List.forIn_nil];refine Za (Za (Q5 ?_));show wpAny _ _ (NC (.ref i1)>>=_) _ _ _;refine Za (D1.item k1 _ _ _ n1 ⟨h1.at λo e=>H.extBut _ _ D.i1z e,hl1.at λo e=>H.extBut _ _ D.l1.1 e⟩ λx' T tk M S d=>Zd ?_);rw[hx]at M;cases M;have t:Oz T TO a b:=d.extBut _ _ D.TOi1 (H.extBut _ _ D.TOz hTO);refine Za (Z7 t rfl ?_);refine Za (QO t λU k f=>?_);replace k:Oz U TO x b:=k;refine Za (PD (Zd ?_));refine Za (Za (Q5 ?_));show wpAny _ _ (NC (.ref i2)>>=_) _ _ _;refine Za (D2.item k2 _ _ _ n2 ⟨h2.at λo e=>f.extBut _ _ D.TOi2.symm (d.extBut _ _ D.i12.symm (H.extBut _ _ D.i2z e)),hl2.at λo e=>f.extBut _ _ D.l2.2.1 (d.extBut _ _ D.l2.2.2.1 (H.extBut _ _ D.l2.1 e))⟩ λy' V tk2 N K i=>Zd ?_);rw[hy]at N;cases N;have u:Oz V TO x b:=i.extBut _ _ D.TOi2 k;refine Za (Z7 u rfl ?_);refine Za (QO u λh g j=>?_);replace g:Oz h TO x y:=g;refine Za (PD (Zd (Zd ?_)));refine Za (Z7 g rfl ?_);refine Za (wpAny_newTuple ?_);have L:h.objs.size=s.heap.objs.size:=by rw[j.1,i.1,f.1,d.1,H.1]
 have C:Qd h z TI TO .ellipsis:=j.extBut _ _ D.TOz.symm (i.extBut _ _ D.i2z.symm (f.extBut _ _ D.TOz.symm (d.extBut _ _ D.i1z.symm q)));have I:∀c o,c≠z->c≠TO->c≠i1->c≠i2->s.heap.get? c=some o->h.get? c=some o:=λc o G X Y Z e=>j.extBut _ _ X (i.extBut _ _ Z (f.extBut _ _ X (d.extBut _ _ Y (H.extBut _ _ G e))));have g1:bI b1 h i1 l1 (k1+1):=S.1.at λo e=>j.extBut _ _ D.TOi1.symm (i.extBut _ _ D.i12 (f.extBut _ _ D.TOi1.symm e));have g2:bI b2 h i2 l2 (k2+1):=K.1.at λo e=>j.extBut _ _ D.TOi2.symm e;have F:z<h.objs.size:=Zj C;show wpAny _ _ (PH (.ref z) (.ref h.objs.size)>>=_) _ _ _;refine Za ?_;unfold PH;have J:Qd (h.push {cls:=.type "tuple",data:=.seq #[x,y]}) z TI TO .ellipsis:=Zb _ C;refine Za (OG J (by simp) λW r n=>?_);replace r:Qd W z TI TO (rawInt h.objs.size):=r;refine OG r (by simp) λm l p=>?_;replace l:Qd m z TI TO (rawInt h.objs.size):=l;have up:∀c o,c≠z->h.get? c=some o->m.get? c=some o:=λc o G e=>p.extBut _ _ G (n.extBut _ _ G (Zb _ e));have B:Oz m h.objs.size x y:=p.extBut _ _ (O9 F) (n.extBut _ _ (O9 F) (Zk _ rfl));have P:m.objs.size=h.objs.size+1:=by rw[p.1,n.1,Ou]
 rw[L]at l B P;refine Zd ⟨_,rfl,?_⟩;show Q (.ref h.objs.size) _;rw[L];exact hQ m l (up _ _ D.TOz g) (g1.at λo e=>up _ o D.i1z e) (g2.at λo e=>up _ o D.i2z e) B P (λc o G X Y Z e=>up c o G (I c o G X Y Z e)) _
theorem HX(D:dQ z TI TO i1 i2 l1 l2)(I:A.handled=none){Q:Fin->Nm->Prop}
  (v:Qd s.heap z TI TO .none) (K:Oz s.heap TI (.ref i1) (.ref i2)) (L:Oz s.heap TO a b)
  (h1:bI b1 s.heap i1 l1 k1) (Z:bI b2 s.heap i2 l2 k2) (u:b6 b1 s.heap l1 xs) (N:b6 b2 s.heap l2 ys) (t:xs[k1]?=none\/ys[k2]?=none)
  (P:∀h' e tk,(∀c o,c≠z->c≠TO->c≠i1->c≠i2->s.heap.get? c=some o->h'.get? c=some o)->(∃o,h'.get? e=some o/\o.cls=.type "StopIteration")->E (.ref e) {s with heap:=h',toks:=tk}):
  wpAny (model prog w) A (N8.«zip.__next__» ⟨[.ref z],[]⟩) Q E s:=by
 have W:=ix (prog:=prog) (w:=w) (A:=A) I b1 i1 l1 D.l1.2.2.1 xs;have D2:=ix (prog:=prog) (w:=w) (A:=A) I b2 i2 l2 D.l2.2.2.2 ys;show wpAny _ _ (field (.ref z) 2>>=_) _ _ _;refine Za (Z3 v rfl (x:=.bool Nl) rfl ?_);show wpAny _ _ (field (.ref z) 3>>=_) _ _ _;refine Za (Z3 v rfl (x:=.ref TI) rfl ?_);refine Za (Z7 K rfl ?_);show wpAny _ _ (NS (.ref z)>>=_) _ _ _;refine Za ?_;unfold NS;refine Za (Z3 v rfl (x:=.none) rfl (Zd ?_));simp only[if_true];refine Za (O' ?_);refine Za (Z3 v rfl (x:=.ref TO) rfl ?_);refine Za (OG v (by simp) λy f h=>?_);replace f:Qd y z TI TO .ellipsis:=f;refine Za ?_;simp only[Tl,List.zipIdx_nil,OY,List.forIn_nil];refine Za (Za (Q5 ?_));show wpAny _ _ (NC (.ref i1)>>=_) _ _ _;by_cases U:k1<xs.size
 ·have hy:ys[k2]?=none:=t.resolve_left (by simp[U]);refine Za (W.item k1 _ _ _ U ⟨h1.at λo e=>h.extBut _ _ D.i1z e,u.at λo e=>h.extBut _ _ D.l1.1 e⟩ λx p tk T S H=>Zd ?_);have i:Oz p TO a b:=H.extBut _ _ D.TOi1 (h.extBut _ _ D.TOz L);refine Za (Z7 i rfl ?_);refine Za (QO i λq G d=>?_);refine Za (PD (Zd ?_));refine Za (Za (Q5 ?_));show wpAny _ _ (NC (.ref i2)>>=_) _ _ _;refine Za (AL I (Z.at λo e=>d.extBut _ _ D.TOi2.symm (H.extBut _ _ D.i12.symm (h.extBut _ _ D.i2z e))) (N.at λo e=>d.extBut _ _ D.l2.2.1 (H.extBut _ _ D.l2.2.2.1 (h.extBut _ _ D.l2.1 e))) hy λB e k M=>?_);obtain⟨O,g,j⟩:=M;have n:Qd B z TI TO .ellipsis:=k _ _ D.i2z.symm (d.extBut _ _ D.TOz.symm (H.extBut _ _ D.i1z.symm f));have r:e≠z:=λx=>by subst x;rw[n]at g;cases g;simp at j
  exact OG n (by simp) λF _ l=>P F e _ (λc o C X J Y x=>l.extBut _ _ C (k _ _ Y (d.extBut _ _ X (H.extBut _ _ J (h.extBut _ _ C x))))) ⟨O,l.extBut _ _ r g,j⟩
 ·have T:xs[k1]?=none:=by simp;omega
  refine Za (AL I (h1.at λo e=>h.extBut _ _ D.i1z e) (u.at λo e=>h.extBut _ _ D.l1.1 e) T λp e H M=>?_);obtain⟨O,g,j⟩:=M;have m:Qd p z TI TO .ellipsis:=H _ _ D.i1z.symm f;have r:e≠z:=λx=>by subst x;rw[m]at g;cases g;simp at j
  exact OG m (by simp) λq _ d=>P q e _ (λc o C _ J _ x=>d.extBut _ _ C (H _ _ J (h.extBut _ _ C x))) ⟨O,d.extBut _ _ r g,j⟩
theorem HY(D:dQ z TI TO i1 i2 l1 l2)(v:A.handled=none){x y:Np}{Q:Ov->Nm->Prop}
  (i:Qd s.heap z TI TO .none) (h:Oz s.heap TI (.ref i1) (.ref i2)) (H:Oz s.heap TO a b)
  (h1:bI b1 s.heap i1 l1 k1) (r:bI b2 s.heap i2 l2 k2) (d:b6 b1 s.heap l1 xs) (e:b6 b2 s.heap l2 ys) (B:xs[k1]?=some x) (C:ys[k2]?=some y)
  (u:∀h',Qd h' z TI TO (rawInt s.heap.objs.size)->Oz h' TO x y->bI b1 h' i1 l1 (k1+1)->bI b2 h' i2 l2 (k2+1)->Oz h' s.heap.objs.size x y->h'.objs.size=s.heap.objs.size+1->
   (∀c o,c≠z->c≠TO->c≠i1->c≠i2->s.heap.get? c=some o->h'.get? c=some o)->∀tk,Q (some (.ref s.heap.objs.size)) {s with heap:=h',toks:=tk}):
  wpAny (model prog w) A (pyNext (.ref z)) Q E s:=by
 have f:s.TypeIs (.ref z) _:=⟨_,i,rfl⟩
 exact Za (O3 (Z1 f Qu
  (Z0 Qu f F.entry_zip_next (uy D (show A.in1.handled=none from v) i h H h1 r d e B C λh' j k l m n p q tk=>Zd (u _ j k l m n p q _)) (F.args_zip_next_1 _))))
theorem HZ(D:dQ z TI TO i1 i2 l1 l2)(q:A.handled=none){Q:Ov->Nm->Prop}
  (k:Qd s.heap z TI TO .none) (H:Oz s.heap TI (.ref i1) (.ref i2)) (d:Oz s.heap TO a b)
  (h1:bI b1 s.heap i1 l1 k1) (l:bI b2 s.heap i2 l2 k2) (f:b6 b1 s.heap l1 xs) (g:b6 b2 s.heap l2 ys) (h:xs[k1]?=none\/ys[k2]?=none)
  (m:∀h' tk,(∀c o,c≠z->c≠TO->c≠i1->c≠i2->s.heap.get? c=some o->h'.get? c=some o)->Q none {s with heap:=h',toks:=tk}):wpAny (model prog w) A (pyNext (.ref z)) Q E s:=by
 have i:s.TypeIs (.ref z) _:=⟨_,k,rfl⟩
 refine Za (O3 (Z1 i Qu
  (Z0 Qu i F.entry_zip_next (HX D (show A.in1.handled=none from q) k H d h1 l f g h λh' e tk r p=>?_) (F.args_zip_next_1 _))))
 obtain⟨o,u,n⟩:=p;exact Za (RA ⟨o,u,n⟩ isSubtype_stop (Zd (m _ _ r)))
end
noncomputable def gr(b:Bool)(l:Nn):Obj:={cls:=.type (match b with|true=>"list_iterator"|false=>"tuple_iterator"),data:=.fields #[.ref l,.int 0 0]}
noncomputable def AM(h:Ny)(b1:Bool)(l:Nn):Ny:=h.push (gr b1 l)
noncomputable def AN(h:Ny)(b1 b2:Bool)(l L:Nn):Ny:=(AM h b1 l).push (gr b2 L)
noncomputable def AO(h:Ny)(b1 b2:Bool)(l L:Nn):Ny:=(AN h b1 b2 l L).push {cls:=.type "tuple",data:=.seq #[.ref h.objs.size,.ref (AM h b1 l).objs.size]}
noncomputable def AQ(h:Ny)(b1 b2:Bool)(l L:Nn):Ny:=(AO h b1 b2 l L).push {cls:=.type "tuple",data:=.seq #[.none,.none]}
noncomputable def rK(h:Ny)(b1 b2:Bool)(l L:Nn):Ny:=(AQ h b1 b2 l L).push {cls:=.type "zip",data:=.fields #[.none,.bool Nl,.bool Nl,.ref (AN h b1 b2 l L).objs.size,.ref (AO h b1 b2 l L).objs.size]}
theorem nQ(b1 b2:Bool)(l L:Nn)(xs y:Av):
  Meets (N8.«zip.__new__» ⟨[.type "zip",.ref l,.ref L],[]⟩) (λ_ R s=>b6 b1 s.heap l xs/\b6 b2 s.heap L y/\R (.ok (.ret (.ref (AQ s.heap b1 b2 l L).objs.size))) {s with heap:=rK s.heap b1 b2 l L}):=
 .of_wp λp w A R s h=>by
  obtain⟨b,g,d,t,O⟩:=s;obtain⟨c,f,h⟩:=h;have j:=sub_zip;have H:b6 b2 (AM b b1 l) L y:=f.at λo e=>Zb _ e;cases b1 with
  |true=>
   have a:So (PQ ⟨b,g,d,t,O⟩) l xs:=c;cases b2 with
   |true=>
    have H:So (PQ ⟨b.push {cls:=.type "list_iterator",data:=.fields #[.ref l,.int 0 0]},g,d,t,O⟩) L y:=H
    wp_walk using NQ a,NQ H
    exact⟨_,rfl,h⟩
   |false=>
    have H:RX (PQ ⟨b.push {cls:=.type "list_iterator",data:=.fields #[.ref l,.int 0 0]},g,d,t,O⟩) L y:=H
    wp_walk using NQ a,N2 H
    exact⟨_,rfl,h⟩
  |false=>
   have a:RX (PQ ⟨b,g,d,t,O⟩) l xs:=c;cases b2 with
   |true=>
    have H:So (PQ ⟨b.push {cls:=.type "tuple_iterator",data:=.fields #[.ref l,.int 0 0]},g,d,t,O⟩) L y:=H
    wp_walk using N2 a,NQ H
    exact⟨_,rfl,h⟩
   |false=>
    have H:RX (PQ ⟨b.push {cls:=.type "tuple_iterator",data:=.fields #[.ref l,.int 0 0]},g,d,t,O⟩) L y:=H
    wp_walk using N2 a,N2 H
    exact⟨_,rfl,h⟩
theorem AR{b:Bool}{l:Nn}(e:h.get? it=some (gr b l)):bI b h it l 0:=by
 cases b with
 |true=>exact⟨_,e,rfl,rfl⟩
 |false=>exact⟨_,e,rfl,rfl⟩
theorem H7{b1 b2:Bool}{l L:Nn}{xs y:Av}(H:b6 b1 s.heap l xs)(a:b6 b2 s.heap L y)
  (h:∀h',Qd h' (s.heap.objs.size+4) (s.heap.objs.size+2) (s.heap.objs.size+3) .none->Oz h' (s.heap.objs.size+2) (.ref s.heap.objs.size) (.ref (s.heap.objs.size+1))->
   Oz h' (s.heap.objs.size+3) .none .none->bI b1 h' s.heap.objs.size l 0->bI b2 h' (s.heap.objs.size+1) L 0->h'.objs.size=s.heap.objs.size+5->
   (∀c o,s.heap.get? c=some o->h'.get? c=some o)->Q (.ref (s.heap.objs.size+4)) {s with heap:=h'}):
  wpAny (model prog w) A (call (.type "zip") [.ref l,.ref L]) Q E s:=by
 refine callType_new F.called_zip (by decide) (F.typeCall_zip_2 _ _) (F.newCall_zip_2 _ _) (λobj=>F.args_object_init_3 obj _ _) F.entry_zip_new (nQ b1 b2 l L xs y) ⟨H,a,?_⟩;have z:(AM s.heap b1 l).objs.size=s.heap.objs.size+1:=Ou ..;have Z:(AN s.heap b1 b2 l L).objs.size=s.heap.objs.size+2:=by unfold AN;rw[Ou,z]
 have b:(AO s.heap b1 b2 l L).objs.size=s.heap.objs.size+3:=by unfold AO;rw[Ou,Z]
 have d:(AQ s.heap b1 b2 l L).objs.size=s.heap.objs.size+4:=by unfold AQ;rw[Ou,b]
 have k:(rK s.heap b1 b2 l L).objs.size=s.heap.objs.size+5:=by unfold rK;rw[Ou,d]
 have g:(rK s.heap b1 b2 l L).get? (AQ s.heap b1 b2 l L).objs.size=some _:=Zk _ rfl;have f:(rK s.heap b1 b2 l L).get? (AO s.heap b1 b2 l L).objs.size=some _:=Zb _ (Zk _ rfl);have e:(rK s.heap b1 b2 l L).get? (AN s.heap b1 b2 l L).objs.size=some _:=Zb _ (Zb _ (Zk _ rfl));have G:(rK s.heap b1 b2 l L).get? (AM s.heap b1 l).objs.size=some (gr b2 L):=Zb _ (Zb _ (Zb _ (Zk _ (by cases b2<;>rfl))));have j:(rK s.heap b1 b2 l L).get? s.heap.objs.size=some (gr b1 l):=Zb _ (Zb _ (Zb _ (Zb _ (Zk _ (by cases b1<;>rfl)))));show _/\_;rw[Z,b,d]at g;rw[z,Z]at e;rw[b]at f;rw[z]at G;rw[d]
 exact⟨⟨_,g,rfl⟩,h _ g e f (AR j) (AR G) k λc o x=>
  Zb _ (Zb _ (Zb _ (Zb _ (Zb _ x))))⟩
def i8(b:Bool)(K:Fg)(H:Hp)(l:Nn)(xs:List V):Prop:=match b with
 |true=>c8 K H l xs
 |false=>b4 K H l xs
noncomputable def Ms(K:Fg)(b1 b2:Bool)(l L:Nn):It:=
 ⟨λi H=>∃xs ys x y,i8 b1 K H l xs/\i8 b2 K H L ys/\xs[i]?=some x/\ys[i]?=some y,
  λi H v H'=>∃T x y,v=.ref T/\H T=none/\H'=aP H T (.tup [x,y])/\(∀xs,i8 b1 K H l xs->xs[i]?=some x)/\(∀ys,i8 b2 K H L ys->ys[i]?=some y),
  λi H=>∃xs ys,i8 b1 K H l xs/\i8 b2 K H L ys/\(xs.length<=i\/ys.length<=i)⟩
theorem i9{b:Bool}{l:Nn}{xs:List V}(I:Inv X pq σ H s)(h:i8 b X.K H l xs):∃its,Vals xs its/\b6 b s.heap l its.toArray:=by
 cases b with
 |true=>obtain⟨its,r,p,_⟩:=I.list h;exact⟨_,r,p.isList⟩
 |false=>obtain⟨its,r,p,_⟩:=I.tuple h;exact⟨_,r,p⟩
theorem AS{b:Bool}{l:Nn}{xs y:List V}(I:Inv X pq σ H s)(h:i8 b X.K H l xs)(h':i8 b X.K H l y):xs=y:=by
 cases b with
 |true=>exact I.list_inj h h'
 |false=>exact I.tuple_inj h h'
theorem cW{b:Bool}{l c:Nn}{xs:List V}(I:Inv X pq σ H s)(h:i8 b X.K H l xs)(d:dj X pq H c):l≠c:=by
 have k:∀{o:Obj},X.K.lookup l=some o->l≠c:=λ{o} e=>by
  have E:=I.mod.kin l o e;rintro rfl;rcases d.2.2.2.1 with z|z
  ·exact I.ok.noex l o E z
  ·exact absurd (ZA (Zj E) (ZD I.ok.bsz z)) (ZO _)
 have a:∀{o:HO},H l=some o->l≠c:=λ{o} e=>by rintro rfl;rw[d.1]at e;cases e
 cases b with
 |true=>
  rcases h with(h| ⟨o,h⟩)| ⟨o,i,n,h,_⟩
  ·exact a h
  ·exact a h
  ·exact k h
 |false=>
  rcases h with(h| ⟨o,h⟩)| ⟨o,i,n,h,_⟩
  ·exact a h
  ·exact a h
  ·exact k h
theorem AU{t':Nat}(I:Inv X pq σ H s)(k:∀b o,b∉ch->s.heap.get? b=some o->h'.get? b=some o)(a:∀b∈ch,dj X pq H b):Inv X pq σ H {s with heap:=h',toks:=t'}:=by
 have N:∀b u,H b=some u->b∉ch:=λb u e z=>by rw[(a b z).1]at e;cases e
 refine I.step (λb f=>?_) (λb o _ _ h e _=>k b o h e) (λb o _ _ h e _=>⟨_,k b o h e⟩) (λ_ _ _ _ n=>n)
  (λb o h e=>⟨o,k b o h e⟩) (λ_ _ e=>e) (λ_ _ _ e=>e) (λb P e=>⟨#[],by trivial⟩) (λm g=>?_) (λb u e=>?_) I.bare
 ·obtain⟨_,F,_,l,p,w⟩:=a b f;trivial
 ·obtain⟨o,j,E,i,r⟩:=g;exact⟨o,_,_,k _ o (λz=>(a _ z).2.1 rfl) i,r⟩
 ·refine(I.hok b u e).stay (λc v h q=>k c v ?_ q) (λ_ q=>q) λ_ _ q=>q
  grind
def M5(b B:Bool)(z TI TO I c l L:Nn)(i:Nat)(h:Ny):Prop:=Qd h z TI TO .none/\Oz h TI (.ref I) (.ref c)/\(∃a b,Oz h TO a b)/\bI b h I l i/\bI B h c L i
theorem H8{P:Nu}{es:Lx}{x1}{pos:Pos}(b b':Bool)(z TI TO i1 i2 l1 l2:Nn)(n1:TI≠z)(n2:TO≠z)(n3:i1≠z)(n4:i2≠z)(n5:TI≠TO)(n6:TI≠i1)(n7:TI≠i2)(n8:TO≠i1)(n9:TO≠i2)(n10:i1≠i2):
  Turn P w K (.Tuple es x1 pos) (Ms K b b' l1 l2) [z,TI,TO,i1,i2] z (M5 b b' z TI TO i1 i2 l1 l2) where
 mem:=by simp
 obj:=λi h ⟨hz,hTI,⟨a,c,hTO⟩,h1,h2⟩ d hd=>by
  simp only[Zi,Zy,Ye]at hd;rcases hd with rfl|rfl|rfl|rfl|rfl
  ·exact⟨_,hz,λv q=>by have q':Data.fields _=Data.cell v:=q;cases q'⟩
  ·exact⟨_,hTI,λv q=>by grind⟩
  ·exact⟨_,hTO,λv q=>by grind⟩
  ·exact h1.obj
  ·exact h2.obj
 keep:=λi h h' ⟨hz,hTI,⟨a,c,hTO⟩,h1,h2⟩ k=>⟨k z (by simp) _ hz,k TI (by simp) _ hTI,⟨a,c,k TO (by simp) _ hTO⟩,h1.at λo e=>k i1 (by simp) o e,h2.at λo e=>k i2 (by simp) o e⟩
 item:=by
  intro X hP hw hK hc i pq s σ H E I hf st hg;subst hP hw hK;obtain⟨hz,hTI,⟨a,c,hTO⟩,h1,h2⟩:=st;obtain⟨xs,ys,x,y,q1,q2,ex,ey⟩:=hg;obtain⟨us,r1,s1⟩:=i9 I q1;obtain⟨ws,r2,s2⟩:=i9 I q2;obtain⟨u,eu,ru⟩:=r1.get ex;obtain⟨v,ev,rv⟩:=r2.get ey
  have Dp:dQ z TI TO i1 i2 l1 l2:=⟨n1,n2,n3,n4,n5,n6,n7,n8,n9,n10,⟨cW I q1 (hf z (by simp)),cW I q1 (hf TO (by simp)),cW I q1 (hf i1 (by simp)),cW I q1 (hf i2 (by simp))⟩,
   ⟨cW I q2 (hf z (by simp)),cW I q2 (hf TO (by simp)),cW I q2 (hf i1 (by simp)),cW I q2 (hf i2 (by simp))⟩⟩
  refine HY Dp (I.ok.hd hc) hz hTI hTO h1 h2 s1 s2 (x:=u) (y:=v) (by simpa using eu) (by simpa using ev) λh' a1 a2 a3 a4 a5 a6 kk tk=>?_;refine⟨_,rfl,?_⟩;refine wpAny_letOwnedTupleGo_zip (s:={s with heap:=h',toks:=tk}) a1 λh2' b1 sb=>?_;have hTn:H s.heap.objs.size=none:=I.hok.fresh (Zh _)
  have kk2:∀c o,c∉[z,TI,TO,i1,i2]->s.heap.get? c=some o->h2'.get? c=some o:=λc o hc e=>by simp only[Zi,Zy,Ye,not_or]at hc;exact(sb.2 c hc.1).trans (kk c o hc.1 hc.2.2.1 hc.2.2.2.1 hc.2.2.2.2 e)
  have hTz:∀c∈[z,TI,TO,i1,i2],s.heap.objs.size≠c:=λc hc e=>by
   obtain⟨o,q,_⟩:∃o,s.heap.get? c=some o/\True:=by
    simp only[Zi,Zy,Ye]at hc;rcases hc with rfl|rfl|rfl|rfl|rfl
    ·exact⟨_,hz,trivial⟩
    ·exact⟨_,hTI,trivial⟩
    ·exact⟨_,hTO,trivial⟩
    ·exact⟨_,h1.obj.choose_spec.1,trivial⟩
    ·exact⟨_,h2.obj.choose_spec.1,trivial⟩
   exact absurd (Zj q) (by rw[e];exact ZO _)
  have I2:Inv X pq σ (aP H s.heap.objs.size (.tup [x,y])) {s with heap:=h2',toks:=tk}:=by
   have Im:Inv X pq σ (aP H s.heap.objs.size (.tup [x,y])) {s with heap:=s.heap.push {cls:=.type "tuple",data:=.seq #[u,v]},toks:=s.toks}:=
    I.laid (λb o e=>Zb _ e) (Zh _) ⟨by show 2<=sizeLine;decide,[u,v],.cons ru (.cons rv .nil),⟨_,Zk _ rfl,rfl,_,rfl⟩,_,Zk _ rfl,rfl⟩
   refine AU (s:={s with heap:=s.heap.push {cls:=.type "tuple",data:=.seq #[u,v]},toks:=s.toks}) Im (ch:=[z,TI,TO,i1,i2]) (λb o hb e=>?_) λb hb=>?_
   ·rcases Heap.get?_push_cases e with⟨rfl,rfl⟩|e'
    ·exact(sb.2 _ (hTz z (by simp))).trans a5
    ·exact kk2 b o hb e'
   ·obtain⟨f0,f1⟩:=hf b hb;exact⟨by rw[av (λe=>hTz b hb e.symm)];exact f0,f1⟩
  refine⟨.ref s.heap.objs.size,aP H s.heap.objs.size (.tup [x,y]),I2,rfl,⟨s.heap.objs.size,x,y,rfl,hTn,rfl,λzs hq=>by rw[AS I hq q1];exact ex,λzs hq=>by rw[AS I hq q2];exact ey⟩,
   ⟨b1,(sb.2 TI n1).trans (kk TI _ n1 n5 n6 n7 hTI),⟨u,v,(sb.2 TO n2).trans a2⟩,a3.at λo e=>(sb.2 i1 n3).trans e,a4.at λo e=>(sb.2 i2 n4).trans e⟩,λc hc=>?_⟩
  rw[av (λe=>hTz c hc e.symm)];exact(hf c hc).1
 done:=by
  intro X hP hw hK hc i pq s σ H E I hf st hg;subst hP hw hK;obtain⟨hz,hTI,⟨a,c,hTO⟩,h1,h2⟩:=st;obtain⟨xs,ys,q1,q2,en⟩:=hg;obtain⟨us,r1,s1⟩:=i9 I q1;obtain⟨ws,r2,s2⟩:=i9 I q2;have hl1:=r1.length;have hl2:=r2.length
  have Dp:dQ z TI TO i1 i2 l1 l2:=⟨n1,n2,n3,n4,n5,n6,n7,n8,n9,n10,⟨cW I q1 (hf z (by simp)),cW I q1 (hf TO (by simp)),cW I q1 (hf i1 (by simp)),cW I q1 (hf i2 (by simp))⟩,
   ⟨cW I q2 (hf z (by simp)),cW I q2 (hf TO (by simp)),cW I q2 (hf i1 (by simp)),cW I q2 (hf i2 (by simp))⟩⟩
  refine HZ Dp (I.ok.hd hc) hz hTI hTO h1 h2 s1 s2 (en.elim (λen=>.inl (by simp;omega)) λen=>.inr (by simp;omega)) λh' tk kk=>?_;refine⟨rfl,AU I (ch:=[z,TI,TO,i1,i2]) (λc o hc e=>?_) hf⟩;simp only[Zi,Zy,Ye,not_or]at hc;exact kk c o hc.1 hc.2.2.1 hc.2.2.2.1 hc.2.2.2.2 e
 self:=λ_ _ _ _ _ st h=>wpAny_pyIter_zip st.1 h
structure c7 (K:Fg)(F:La)(μ:La)(H:Hp)(F':La)(μ':La)(H':Hp):Prop where
 tup:∀a vs,b4 K H a vs->b4 K H' a vs
 lst:∀a vs,H a=some (.lst vs)->a∉μ->a∉F->H' a=some (.lst vs)/\a∉μ'/\a∉F'
 frz:∀a vs,tK K H a vs->tK K H' a vs
 box:∀(n:Nat) a,μ[n]?=some a->μ'[n]?=some a
 dct:∀a,H a=some (.dK [])->H' a=some (.dK [])
 ext:∀a φ,H a=some (.ext φ)->a∉F->H' a=some (.ext φ)/\a∉F'
section
variable {F':La}
mutual
theorem Rep.chg(x:c7 K F μ H F' μ' H'):∀(d:D) (v:V),Rep K ⟨mg,F⟩ μ H d v->Rep K ⟨mg,F'⟩ μ' H' d v
 | .non,_,h=>h
 | .bl _,_,h=>h
 | .int _,_,h=>h
 | .str _,_,h=>h
 | .tup _,v,h=>by obtain⟨a,vs,e,q,r⟩:=h;exact⟨a,_,e,x.tup a _ q,ai.chg x _ _ r⟩
 | .lst _,v,h=>by obtain⟨a,vs,e,q,n,r⟩:=h;obtain⟨b,f,g⟩:=x.lst a _ q n.1 n.2;exact⟨a,_,e,b,⟨f,g⟩,ai.chg x _ _ r⟩
 | .scr _,v,h=>by obtain⟨a,vs,e,q,r⟩:=h;exact⟨a,_,e,x.frz a _ q,ai.chg x _ _ r⟩
 | .ref n,v,h=>by obtain⟨a,e,q⟩:=h;exact⟨a,e,x.box n a q⟩
 | .fn y,v,h=>h
 | .ty y,v,h=>h
 | .dct,v,h=>by obtain⟨a,e,q⟩:=h;exact⟨a,e,x.dct a q⟩
 | .dks _,v,h=>by obtain⟨a,C,e,q,n,r,k⟩:=h;obtain⟨b,f⟩:=x.ext a _ q n;exact⟨a,_,e,b,f,r,λc i=>x.tup _ _ (k c i)⟩
theorem ai.chg(x:c7 K F μ H F' μ' H'):∀(ds:List D) (vs:List V),ai K ⟨mg,F⟩ μ H ds vs->ai K ⟨mg,F'⟩ μ' H' ds vs
 | [],vs,h=>h
 |d::ds,vs,h=>by obtain⟨w,W,e,r,q⟩:=h;exact⟨w,_,e,Rep.chg x d w r,ai.chg x _ _ q⟩
end
theorem aU.chg(x:c7 K F μ H F' μ' H')(h:aU K ⟨mg,F⟩ μ H ρ σ):aU K ⟨mg,F'⟩ μ' H' ρ σ:=
 ⟨h.1,λi d e=>(by obtain⟨v,a,b⟩:=h.2 i d e;exact(⟨v,a,Rep.chg x _ _ b⟩))⟩
theorem c7.start{o:HO}(h:H acc=none):c7 K F μ H (acc::F) μ (aP H acc o):=by
 have x:Ext _ H μ (aP H _ o):=.laid h;refine⟨λa vs q=>x.sqT q,λa vs q b c=>⟨(x.lst q b).1,b,λz=>?_⟩,λa vs q=>x.frz q,λn a q=>q,λa q=>x.keep _ _ q (.inl λ_ z=>by trivial),λa d q c=>⟨x.keep _ _ q (.inl λ_ z=>by trivial),λz=>?_⟩⟩
 ·simp_all
 simp_all
noncomputable def iy:HO->Bool
 | .lst _=>Nk
 | .ext _=>Nk
 |_=>Nl
theorem c7.more{u:HO}(d:acc∈F)(h:H acc=some u)(f:iy u=Nk):c7 K F μ H F μ (aP H acc u'):=by
 have ne:∀{a:Nn} {o:HO},H a=some o->iy o=Nl->a≠acc:=λe n z=>by simp_all
 refine⟨λa vs q=>?_,λa vs q c b=>⟨?_,c,b⟩,λa vs q=>?_,λn a q=>q,λa q=>?_,λa g q b=>⟨by rw[av (show a≠acc from λz=>b (by simp_all))];exact q,b⟩⟩
 ·rcases q with(q| ⟨o,q⟩)|q
  ·exact .inl (.inl (by rw[av (ne q rfl)];exact q))
  ·exact .inl (.inr ⟨o,by rw[av (ne q rfl)];exact q⟩)
  ·exact .inr q
 ·have:a≠acc:=λz=>by simp_all
  rw[av this];exact q
 ·rcases q with⟨o,q⟩|q
  ·exact .inl ⟨o,by rw[av (ne q rfl)];exact q⟩
  ·exact .inr q
 ·rw[av (ne q rfl)];exact q
theorem c7.out:c7 K (acc::F) μ H F μ H:=
 ⟨λ_ _ q=>q,λa vs q b c=>⟨q,b,λz=>c (Zc _ z)⟩,λ_ _ q=>q,λ_ _ q=>q,λ_ q=>q,λ_ _ q h=>⟨q,λz=>h (Zc _ z)⟩⟩
theorem c7.outBox:c7 K (acc::F) μ H F (μ++[acc]) H:=by
 refine⟨λ_ _ q=>q,λa vs q c b=>⟨q,λz=>?_,λz=>b (Zc _ z)⟩,λ_ _ q=>q,λn a q=>?_,λ_ q=>q,λ_ _ q h=>⟨q,λz=>h (Zc _ z)⟩⟩
 ·rcases ZP.mp z with z|z
  ·exact c z
  ·have:a=acc:=by simpa using z
   subst this;exact b Ze
 ·rw[Zw (Zg.mp q).1];exact q
theorem aJ.start{o:HO}(s:aJ K ⟨mg,F⟩ μ S H)(h:H acc=none):aJ K ⟨mg,acc::F⟩ μ S (aP H acc o):=by
 have x:Ext μ H _ (aP H _ o):=.laid h;refine⟨λa b=>?_,s.len,s.nd,λn a D c d=>?_⟩
 ·rcases Zi.mp b with rfl|b
  ·exact⟨o,a8⟩
  ·obtain⟨O,q⟩:=s.live a b;exact x.there a _ q
 ·obtain⟨vs,q,r⟩:=s.at_ n a _ c d;exact⟨_,by rw[av (bT q h)];exact q,ai.chg (.start h) _ _ r⟩
theorem aJ.more{u:HO}(s:aJ K ⟨mg,F⟩ μ S H)(d:acc∈F)(i:acc∉μ)(h:H acc=some u)(g:iy u=Nk):aJ K ⟨mg,F⟩ μ S (aP H acc u'):=by
 refine⟨λa f=>?_,s.len,s.nd,λn a D b c=>?_⟩
 ·by_cases e:a=acc
  ·subst e;exact⟨_,a8⟩
  ·obtain⟨o,q⟩:=s.live a f;exact⟨_,by rw[av e];exact q⟩
 ·obtain⟨vs,q,r⟩:=s.at_ n a _ b c;have:a≠acc:=λz=>by grind
  exact⟨_,by rw[av this];exact q,ai.chg (.more d h g) _ _ r⟩
theorem aJ.out(s:aJ K ⟨mg,acc::F⟩ μ S H):aJ K ⟨mg,F⟩ μ S H:=
 ⟨λa c=>s.live a (Zc _ c),s.len,s.nd,λn a d h b=>by obtain⟨vs,q,r⟩:=s.at_ n a _ h b;exact⟨_,q,ai.chg .out _ _ r⟩⟩
theorem aJ.outBox{vs:List V}(s:aJ K ⟨mg,acc::F⟩ μ S H)(j:acc∉μ)(h:H acc=some (.lst vs))(r:ai K ⟨mg,acc::F⟩ μ H ys vs):aJ K ⟨mg,F⟩ (μ++[acc]) (S++[ys]) H:=by
 refine⟨λa e=>s.live a (Zc _ e),by simp[s.len],?_,λn a f c d=>?_⟩
 ·rw[OF]
  exact⟨s.nd,by simp,λa e b g=>by
   have:b=acc:=by simpa using g
   subst this;intro z;subst z;exact j e⟩
 ·have i:=s.len;by_cases k:n<μ.length
  ·rw[Zw k]at c;rw[Zw (by omega)]at d;obtain⟨w,q,R⟩:=s.at_ n a f c d;exact⟨w,q,ai.chg .outBox _ _ R⟩
  ·have E:n=μ.length:=by
    have:=(Zg.mp c).1;simp at this;omega
   subst E;rw[Zp (Zh _)]at c;rw[Zp (by omega)]at d;simp[i]at c d;subst c;subst d;exact⟨vs,h,ai.chg .outBox _ _ r⟩
theorem Ext.more{o:HO}(x:Ext μ H μ1 H1)(h:H acc=none):Ext μ H μ1 (aP H1 acc o):=
 ⟨x.pre,λa u e c=>by rw[av (bT e h)];exact x.keep a u e c,λa u e=>by rw[av (bT e h)];exact x.there a u e,x.fresh⟩
theorem Ext.outBox(x:Ext μ H μ1 H1)(h:H acc=none):Ext μ H (μ1++[acc]) H1:=by
 obtain⟨r,e⟩:=x.pre;refine⟨⟨r++[acc],by simp_all⟩,x.keep,x.there,λa b=>?_⟩;rcases ZP.mp b with b|b
 ·exact x.fresh a b
 simp_all
end
noncomputable def bi:iX->ae->Nat->Option (Option D)
 | .items xs=>λ_ i=>some xs[i]?
 | .live _ get=>get
def gu(K:Fg)(mg:GS)(J:It)(get:ae->Nat->Option (Option D))(μ:La)(H:Hp):Prop:=
 ∀(i:Nat) μ' S' H' F',c7 K mg.F μ H F' μ' H'->aJ K ⟨mg.mg,F'⟩ μ' S' H'->
  (∀x,get S' i=some (some x)->J.go i H'/\∀y H'',J.yld i H' y H''->Ext μ' H' μ' H''/\aJ K ⟨mg.mg,F'⟩ μ' S' H''/\Rep K ⟨mg.mg,F'⟩ μ' H'' x y)/\(get S' i=some none->J.stop i H')
noncomputable def tI(K:Fg)(mg:Mg)(E:XK)(Φ:FT)(Γ:Str->Option D)(c:CE):TI:=λσ H R=>∃F μ ρ S,aJ K ⟨mg,F⟩ μ S H/\aU K ⟨mg,F⟩ μ H ρ σ/\ak K ⟨mg,F⟩ E (λμ' H' its J=>gu K ⟨mg,F⟩ J (bi its) μ' H') μ H R (aZ Φ Γ c ρ S)
theorem c7.refl:c7 K F μ H F μ H:=⟨λ_ _ q=>q,λ_ _ q a b=>⟨q,a,b⟩,λ_ _ q=>q,λ_ _ q=>q,λ_ q=>q,λ_ _ q h=>⟨q,h⟩⟩
theorem c7.trans{d e c:La}{f:Hp}(a:c7 K F μ H d μ1 H1)(b:c7 K d μ1 H1 e c f):c7 K F μ H e c f:=
 ⟨λx vs q=>b.tup x _ (a.tup x _ q),λx vs q g i=>by obtain⟨p,P,j⟩:=a.lst x _ q g i;exact b.lst x _ p P j,λx vs q=>b.frz x _ (a.frz x _ q),λn x q=>b.box n x (a.box n x q),λx q=>b.dct x (a.dct x q),λx k q h=>by obtain⟨p,P⟩:=a.ext x _ q h;exact b.ext x _ p P⟩
theorem c7.of_ext{b:La}(x:Ext μ H μ' H')(d:∀a∈b,a∈F\/H a=none):c7 K F μ H b μ' H':=by
 refine⟨λa vs q=>x.sqT q,λa vs q c h=>⟨(x.lst q c).1,(x.lst q c).2,λz=>?_⟩,λa vs q=>x.frz q,λn a q=>x.get q,λa q=>x.keep _ _ q (.inl λ_ z=>by lia),λa e q h=>⟨x.keep _ _ q (.inl λ_ z=>by lia),λz=>?_⟩⟩<;>rcases d a z with z|z
 ·exact h z
 ·simp_all
 ·exact h z
 simp_all
section
variable {E:XK}{l:Expr}{pos:Pos}{c:CE}
theorem uz{R:It->Hp->Prop}{xs:List V}(I:Inv X pq σ H s)(c:c8 X.K H a xs)(q:R (Fs X.K a) H):wpAny (model X.prog X.w) X.A (pyIter (.ref a)) (Fq X pq σ tg R) E' s:=by
 obtain⟨i,r,p,d⟩:=I.list c;refine NQ p.isList ?_;refine⟨_,_,_,_,H,rfl,I.kept λb o e=>Zb _ e,F8 a _,⟨_,Zk _ rfl,rfl,rfl⟩,λb h=>?_,q⟩;have e:=by simpa using h
 subst e;exact I.fpOk (Zh _) (I.hok.fresh (Zh _))
theorem H9{R:It->Hp->Prop}{xs:List V}(I:Inv X pq σ H s)(c:b4 X.K H a xs)(q:R (F7 X.K a) H):wpAny (model X.prog X.w) X.A (pyIter (.ref a)) (Fq X pq σ tg R) E' s:=by
 obtain⟨i,r,p,d⟩:=I.tuple c;refine N2 (show s.heap.IsTuple a _ from p) ?_;refine⟨_,_,_,_,H,rfl,I.kept λb o e=>Zb _ e,F9 a _,⟨_,Zk _ rfl,rfl,rfl⟩,λb h=>?_,q⟩;have e:=by simpa using h
 subst e;exact I.fpOk (Zh _) (I.hok.fresh (Zh _))
theorem AV{mg:GS}{vs:List V}{i:Nat}(r:ai K mg μ H ds vs)(h:bi (.items ds) S i=some none):vs.length<=i:=by have a:=OQ.mp (by simpa[bi]using h);have b:=r.length;simp_all
theorem AW{mg:GS}{vs:List V}(h:∀F' μ' H',c7 K mg.F μ H F' μ' H'->c8 K H' a vs)(r:ai K mg μ H ds vs):gu K mg (Fs K a) (bi (.items ds)) μ H:=by intro i μ' S H' F' c s;refine⟨λy k=>?_,λj=>⟨_,h _ _ _ c,AV r j⟩⟩;obtain⟨v,d,g⟩:=r.get (by simpa[bi]using k);refine⟨⟨_,v,h _ _ _ c,d⟩,λz f b=>?_⟩;obtain⟨rfl,b⟩:=b;have e:=b _ (h _ _ _ c);rw[d]at e;cases e;exact⟨.refl,s,Rep.chg c _ _ g⟩
theorem H_{mg:GS}{vs:List V}(h:b4 K H a vs)(r:ai K mg μ H ds vs):gu K mg (F7 K a) (bi (.items ds)) μ H:=by intro i l S m F c s;refine⟨λy k=>?_,λj=>⟨_,c.tup _ _ h,AV r j⟩⟩;obtain⟨v,d,g⟩:=r.get (by simpa[bi]using k);refine⟨⟨_,v,c.tup _ _ h,d⟩,λz f b=>?_⟩;obtain⟨rfl,b⟩:=b;have e:=b _ (c.tup _ _ h);rw[d]at e;cases e;exact⟨.refl,s,Rep.chg c _ _ g⟩
theorem Ia{mg:GS}(g:μ[n]?=some a):gu K mg (Fs K a) (nr n) μ H:=by
 intro i o S p F C s;have f:n<S.length:=by rw[<-s.len];exact(Zg.mp (C.box _ _ g)).1
 have j:=Zf f;obtain⟨vs,b,r⟩:=s.at_ n a _ (C.box _ _ g) j;have f:=r.length;refine⟨λy h=>?_,λm=>⟨_,.of b,?_⟩⟩
 ·unfold nr at h;rw[j]at h;simp at h;obtain⟨v,d,l⟩:=r.get h;refine⟨⟨_,v,.of b,d⟩,λz k c=>?_⟩;obtain⟨rfl,c⟩:=c;have e:=c _ (.of b);rw[d]at e;cases e;exact⟨.refl,s,l⟩
 ·unfold nr at m;simp_all
theorem AX(y:PE X l (tE X.K X.mg E Φ Γ c)):PI X tg l (tI X.K X.mg E Φ Γ (.seq c)):=by
 intro P s K H R I h;obtain⟨F,G,J,S,B,t,w⟩:=h;refine aO (y P s K H _ I ⟨F,G,J,S,B,t,ak.bind w⟩) λu L Z=>?_;obtain⟨v,H1,j,k,e,q,d,M,b,g,W⟩:=Z;cases d with
 |tup D=>obtain⟨a,vs,rfl,f,r⟩:=bQ g;cases k;exact H9 j f (W e H1 _ .refl b (H_ f r))
 |lst D=>unfold Rep at g;obtain⟨a,vs,rfl,f,i,r⟩:=g;cases k;exact uz j (.of f) (W e H1 _ .refl b (AW (λo m p C=>.of (C.lst a vs f i.1 i.2).1) r))
 |scr D=>unfold Rep at g;obtain⟨a,vs,rfl,f,r⟩:=g;cases k;exact uz j f.sq (W e H1 _ .refl b (AW (λo m p C=>(C.frz a vs f).sq) r))
 |ref n=>
  have A:=g;unfold Rep at g;obtain⟨a,rfl,i⟩:=g;cases k;have z:n<q.length:=by rw[<-b.len];exact(Zg.mp i).1
  obtain⟨vs,x,r⟩:=b.at_ n a _ i (Zf z);exact uz j (.of x) (W e H1 _ .refl b (Ia i))
 |_=>exact W.elim
theorem AY(l:Int)(n:Nat):(dO l n).length=n:=by
 induction n generalizing l with
 |zero=>rfl
 |succ n i=>unfold dO;simp_all
theorem Ib(l:Int)(n i:Nat)(h:i<n):(dO l n)[i]?=some (.int (l+i)):=by
 induction n generalizing l i with
 |zero=>omega
 |succ n I=>
  unfold dO;cases i with
  |zero=>simp
  |succ i=>rw[Zs,I (l+1) i (by omega)];congr 2;omega
theorem AZ{mg:GS}(l:Int)(n:Nat):gu K mg (yG l n) (bi (.items (dO l n))) μ H:=by
 intro i d S e F C s;refine⟨λy h=>?_,λa=>?_⟩
 ·have h:=by simpa[bi]using h
  have a:=by have:=(Zg.mp h).1;rwa [AY]at this
  rw[Ib _ n i a]at h;cases h;refine⟨a,λz b c=>?_⟩;obtain⟨rfl,rfl⟩:=c;exact⟨.refl,s,bq⟩
 ·have:(dO l n)[i]?=none:=by simpa[bi]using a
  have:=OQ.mp this;rw[AY]at this;exact this
variable {k:Nat}{es:Lx}{cs:List CE}{a b:CE}{r:Expr}
theorem kF{mg:GS}{Q:List V->Hp->Prop}(w:ak K mg E (ai K mg) μ H Q (ah Φ Γ cs ρ S)):ak K mg E (ai K mg) μ H (λvs H'=>vs.length=cs.length/\Q vs H') (ah Φ Γ cs ρ S):=by
 cases e:ah _ _ _ _ S with
 |ok d a=>rw[e]at w;intro b H' vs x s r;refine⟨?_,w _ _ _ x s r⟩;rw[<-r.length,uv e]
 |err y a=>rw[e]at w;exact w
 |fail=>rw[e]at w;exact w
theorem Ic(O:cG X cell N sc CX E Φ Γ k)(h:br sc "range"=Nk)(i:bC l=Nk)(g:cs.length=1)(f:PA X [l] (tL X.K X.mg E Φ Γ cs)):PI X tg (.Call (.Name "range" p2) [l] [] pos) (tI X.K X.mg E Φ Γ (.range cs)):=by
 obtain⟨d,_,_⟩:=cN h;intro p s u H R I ⟨F,q,t,S,o,e,w⟩;refine Ga (O.gl d) (O.mod.bl _ (by decide+kernel)) f (by rw[cr i];rfl) p s u H R I ⟨F,q,t,S,o,e,(kF (ak.bind w)).mono λvs H1 z=>?_⟩;obtain⟨y,b,x,D,A,n,r,W⟩:=z;have a:=r.length;split at W
 ·rename_i j;split at W
  ·rename_i c;obtain⟨v,rfl,m⟩:=r.one;cases aG m;exact⟨j,rfl,c.1,c.2,W b H1 _ .refl n (AZ 0 j.toNat)⟩
  ·exact W.elim
 ·simp only[ZM,Oi]at a;omega
 ·exact W.elim
theorem Ie(O:cG X cell N sc CX E Φ Γ k)(h:br sc "range"=Nk)(o:bC l=Nk)(a:bC r=Nk)(g:cs.length=2)(f:PA X [l,r] (tL X.K X.mg E Φ Γ cs)):PI X tg (.Call (.Name "range" p2) [l,r] [] pos) (tI X.K X.mg E Φ Γ (.range cs)):=by
 obtain⟨d,_,_⟩:=cN h;intro P s u H R I ⟨F,_,_,S,t,e,w⟩;refine Gb (O.gl d) (O.mod.bl _ (by decide+kernel)) f (by rw[cr o,cr a];rfl) (by rw[cr a];rfl) _ s _ H R I ⟨F,_,_,S,t,e,(kF (ak.bind w)).mono λvs H1 ⟨_,_,_,_,_,q,c,W⟩=>?_⟩;have n:=c.length;split at W
 ·simp_all
 ·rename_i i j;split at W
  ·rename_i m;obtain⟨v,V,rfl,p,b⟩:=c.two;cases aG p;cases aG b;exact⟨i,j,rfl,m,W _ H1 _ .refl q (AZ i _)⟩
  ·exact W.elim
 ·exact W.elim
theorem A0{mg:GS}(s:aJ K mg μ S H)(r:Rep K mg μ H d v)(e:az S d=some xs):∃a,v=.ref a/\
  ∀μ' S' H' F',c7 K mg.F μ H F' μ' H'->aJ K ⟨mg.mg,F'⟩ μ' S' H'->∃ys vs,az S' d=some ys/\i8 (eM d) K H' a vs/\ai K ⟨mg.mg,F'⟩ μ' H' ys vs:=by
 cases d with
 |tup D=>obtain⟨a,vs,rfl,b,q⟩:=bQ r;exact⟨a,rfl,λμ' S' H' F' c f=>⟨_,_,rfl,c.tup _ _ b,ai.chg c _ _ q⟩⟩
 |lst D=>obtain⟨a,vs,rfl,b,h,q⟩:=r;exact⟨a,rfl,λμ' S' H' F' c f=>⟨_,_,rfl,c8.of (c.lst a _ b h.1 h.2).1,ai.chg c _ _ q⟩⟩
 |scr D=>obtain⟨a,vs,rfl,b,q⟩:=r;exact⟨a,rfl,λμ' S' H' F' c f=>⟨_,_,rfl,(c.frz a _ b).sq,ai.chg c _ _ q⟩⟩
 |ref n=>
  obtain⟨a,rfl,h⟩:=r;refine⟨a,rfl,λμ' S' H' F' c f=>?_⟩;have i:n<S'.length:=by rw[<-f.len];exact(Zg.mp (c.box _ _ h)).1
  obtain⟨vs,g,q⟩:=f.at_ n a _ (c.box _ _ h) (Zf _);exact⟨_,_,Zf i,c8.of g,q⟩
 |_=>cases e
theorem nR(h:nu d=some xs)(S:ae):az S d=some xs:=by unfold nu at h;split at h<;>first|exact h|cases h
theorem Ig{e:D}{its:iX}(h:dv S d e=some its):(∃xs ys,az S d=some xs/\az S e=some ys)/\∀S' i,(∃xs ys,az S' d=some xs/\az S' e=some ys)->bi its S' i=nv d e S' i:=by
 unfold dv at h;split at h
 ·rename_i xs ys E a;cases h;refine⟨⟨xs,ys,nR E S,nR a S⟩,λS' i _=>?_⟩;show some (Nq (λx y=>D.tup [x,y]) xs ys)[i]?=_;unfold nv;rw[nR E S',nR a S',Pg]
  show some _=some (match xs[i]?,ys[i]? with
   |some x,some y=>some (D.tup [x,y])
   |_,_=>none)
  cases xs[i]? <;>cases ys[i]? <;>rfl
 ·split at h
  ·rename_i xs ys E a;cases h;exact⟨⟨xs,ys,E,a⟩,λS' i _=>rfl⟩
  ·cases h
theorem Ih{mg:GS}{e:D}{u:V}{its:iX}(j:aJ K mg μ S H)(Z:Rep K mg μ H d v)(re:Rep K mg μ H e u)(h:dv S d e=some its):
  ∃a b,v=.ref a/\u=.ref b/\(∃vs,i8 (eM d) K H a vs)/\(∃vs,i8 (eM e) K H b vs)/\gu K mg (Ms K (eM d) (eM e) a b) (bi its) μ H:=by
 obtain⟨⟨xs,ys,N,O⟩,P⟩:=Ig h;obtain⟨a,rfl,B⟩:=A0 j Z N;obtain⟨b,rfl,G⟩:=A0 j re O;obtain⟨_,va,_,W,_⟩:=B μ S H mg.F .refl j;obtain⟨_,vb,_,X,_⟩:=G μ S H mg.F .refl j;refine⟨a,b,rfl,rfl,⟨va,W⟩,⟨vb,X⟩,λi f k m F C s=>?_⟩;obtain⟨x,vs,o,Q,R⟩:=B f k m F C s;obtain⟨Y,w,r,l,I⟩:=G f k m F C s;rw[P k i ⟨x,Y,o,r⟩];unfold nv;rw[o,r];have l1:=R.length;have l2:=I.length;refine⟨λy c=>?_,λc=>⟨vs,w,Q,l,?_⟩⟩
 ·have c:=N_ c;cases g1:x[i]? with
  |none=>rw[g1]at c;cases c
  |some p=>
   cases g2:Y[i]? with
   |none=>rw[g1,g2]at c;cases c
   |some q=>rw[g1,g2]at c;cases c;obtain⟨J,t,rp⟩:=R.get g1;obtain⟨L,A,rq⟩:=I.get g2;refine⟨⟨vs,w,J,L,Q,l,t,A⟩,λz M U=>?_⟩;obtain⟨T,x',y',rfl,g,rfl,z1,z2⟩:=U;have E:=z1 vs Q;rw[t]at E;cases E;have n:=z2 w l;rw[A]at n;cases n;refine⟨.laid g,s.laid g,?_⟩;unfold Rep;exact⟨T,[J,L],rfl,b4.of a8,.cons (Rep.mono (.laid g) _ _ rp) (.cons (Rep.mono (.laid g) _ _ rq) .nil)⟩
 grind
theorem yh{i j:Nat}(h:i≠j):n+i≠n+j:=λe=>h (SK e)
theorem uA{j:Nat}(h:0≠j):n≠n+j:=λe=>h (SK (n:=n) (by lia))
theorem rL{j:Nat}(h:0≠j):n+j≠n:=λe=>uA h e.symm
theorem Ii:bootBuiltins "zip"=some (.type "zip"):=by decide+kernel
theorem A1(O:cG X cell N sc CX E Φ Γ k)(h:br sc "zip"=Nk)(L:fy tg=Nk)(K:bC l=Nk)(n:bC r=Nk)(J:PA X [l,r] (tL X.K X.mg E Φ Γ cs)):PI X tg (.Call (.Name "zip" p2) [l,r] [] pos) (tI X.K X.mg E Φ Γ (.zip cs)):=by
 obtain⟨G,_,_⟩:=cN h;intro P s y H R I ⟨F,μ,ρ,S,sk,C,w⟩;refine Call_ (f8 I (O.gl G) (O.mod.bl _ (by decide+kernel)) Ii (N1 (aO (J pos P s y H _ I ⟨F,μ,ρ,S,sk,C,ak.bind w⟩) λus f zq=>?_) (cr K) (by rw[cr n];rfl)));obtain⟨vs,H1,g,rv,o,B,ds,x1,j,Z,W⟩:=zq;split at W
 ·rename_i d e;obtain⟨v,u,rfl,rd,re⟩:=Z.two;cases m:dv B d e with
  |none=>rw[m]at W;exact W.elim
  |some M=>
   rw[m]at W;obtain⟨a,b,rfl,rfl,⟨va,V⟩,⟨vb,Y⟩,ok⟩:=Ih j rd re m;cases rv with
   |cons p q=>
    cases q with
    |cons T U=>
     cases U;cases p;cases T;obtain⟨as,ra,sa⟩:=i9 g V;obtain⟨bs,rb,sb⟩:=i9 g Y;refine H7 sa sb λD z z2 z3 z4 z5 z6 Q=>?_;refine wpAny_pyIter_zip z ?_;have A:Inv X P y H1 {f with heap:=D}:=g.kept (t':=f.toks) Q;cases tg with
     |Tuple ts x1 tp=>
      refine⟨f.heap.objs.size+4,[f.heap.objs.size+4,f.heap.objs.size+2,f.heap.objs.size+3,f.heap.objs.size,f.heap.objs.size+1],_,_,H1,rfl,A,
       H8 (eM d) (eM e) (f.heap.objs.size+4) (f.heap.objs.size+2) (f.heap.objs.size+3) f.heap.objs.size (f.heap.objs.size+1) a b (yh (by decide)) (yh (by decide)) (uA (by decide)) (yh (by decide)) (yh (by decide)) (rL (by decide)) (yh (by decide)) (rL (by decide)) (yh (by decide)) (uA (by decide)),⟨z,z2,⟨_,_,z3⟩,z4,z5⟩,λc t=>?_,W o H1 _ .refl j ok⟩
      have i:f.heap.objs.size<=c:=by
       simp only[Zi,Zy,Ye]at t;rcases t with rfl|rfl|rfl|rfl|rfl
       ·exact Qb _ _
       ·exact Qb _ _
       ·exact Qb _ _
       ·exact Zh _
       ·exact Qb _ _
      exact g.fpOk i (g.hok.fresh i)
     |_=>cases L
 ·exact W.elim
end
noncomputable def eP(i:Lx)(env:Env):Sem Bool:=forIn i Nk (λc r=>if r=Nk then do let ok <-isTrue c env (eval c env);pure (NO ok)else pure (NO r))
noncomputable def bt(c:Expr)(e:Sem Unit)(g:List NJ)(d:Nat)(a:Np)(env:Env):Sem Unit:=match g[d+1]? with
 |some g'=>do
   let x <-eval g'.iter env
   standAt g'.iter.pos
   let x <-if g'.is_async !=0 then foldedIterable g'.iter x else foldedSetIterable g'.iter env x
   let _ <-runOwn (.compStart c (d+1) (<-holding [x] (if g'.is_async !=0 then asyncIter x else pyIter x)) a env) env
 |none=>e
noncomputable def uB(e:Expr)(a:Np)(env:Env):Sem Unit:=do let _ <-call (.builtin "list.append") [a,<-eval e env]
theorem Ij{C:Expr}{e:Sem Unit}{d:Nat}{it a:Np}{env:Env}{t i:Expr}{fs:Lx}(h:gens[d]?=some ⟨t,i,fs,0⟩):
  (do
    let some g:=gens[d]? |unsupported "internal:comprehension-depth"
    standAt (if g.is_async !=0 then C.pos else g.iter.pos)
    match <-if g.is_async !=0 then asyncNext it else pyNext it with
    |none=>pure (.done .next)
    |some v=>
     letOwnedTupleGo g.target it v
     assign g.target env v
     let mut ok:=Nk
     for c in g.ifs do
      if ok then ok <-isTrue c env (eval c env)
     if ok then
      match gens[d+1]? with
      |some g'=>
       let x <-eval g'.iter env
       standAt g'.iter.pos
       let x <-if g'.is_async !=0 then foldedIterable g'.iter x else foldedSetIterable g'.iter env x
       let _ <-runOwn (.compStart C (d+1) (<-holding [x] (if g'.is_async !=0 then asyncIter x else pyIter x)) a env) env
      |none=>e
     again (.compLoop C d it a env):Sem Fin)=(standAt i.pos>>=λ_=>pyNext it>>=λr=>match r with
   |none=>pure (.done .next)
   |some v=>letOwnedTupleGo t it v>>=λ_=>assign t env v>>=λ_=>(eP fs env>>=λok=>if ok=Nk then bt C e gens d a env else pure ())>>=λ_=>
    again (.compLoop C d it a env)):=by
 simp only[h];show(standAt i.pos>>=λ_=>pyNext it>>=_)=_;congr 1;funext _;congr 1;funext r;cases r with
 |none=>rfl
 |some v=>
  show(letOwnedTupleGo t it v>>=λ_=>assign t env v>>=λ_=>_>>=λok=>_)=_;congr 1;funext _;congr 1;funext _
  conv=>rhs;rw[bind_assoc]
  unfold eP;refine ZX (λk=>_>>=k) (funext λok=>?_);cases ok with
  |true=>
   unfold bt;cases gens[d+1]? with
   |none=>rfl
   |some g'=>
    by_cases H:(g'.is_async !=0)=Nk
    ·simp_all
    simp_all
  |false=>simp_all
section
variable {em:Sem Unit}{d:Nat}
theorem nS{fs:Lx}{ts:List TT}{t:TU}(e:z7 X fs ts)(c:PB X (bt ce em gens d (.ref acc) X.env) t):
  PB X (eP fs X.env>>=λok=>if ok=Nk then bt ce em gens d (.ref acc) X.env else pure ()) (Aa ts t):=by
 intro p s f H Q I h;refine Za (aO (z9 _ _ e _ s _ H _ I h) λb S z=>?_);obtain⟨_,a,q⟩:=z;cases b with
 |false=>exact Zd ⟨_,_,a,q⟩
 |true=>exact c _ _ _ _ Q a q
theorem nT(g:gens[d+1]?=none)(f:PE X elt te):PB X (bt ce (uB elt (.ref acc) X.env) gens d (.ref acc) X.env) (z_ acc te):=by intro p s l H Q I h;unfold bt;rw[g];exact Za (aO (f _ s _ H _ I h) λu S z=>z.elim λv z=>z.elim λ_ z=>z.elim λb z=>z.elim λr z=>z.elim λ_ z=>z.elim λe z=>z.elim λi q=>Za (aO (zu _ _ _ _ (.ref _) _ _ _ (λ_ a=>Q _ a) b rfl (.cons r .nil) ⟨_,_,v,rfl,rfl,e,i,q⟩) λ_ k z=>by obtain⟨_,_,c,_,j⟩:=z;exact(Zd ⟨_,_,c,j⟩)))
theorem Il{t i:Expr}{fs:Lx}{g:TG}{tb:TU}(b:iU ce=Nk)(k:clausesOf ce=gens)(m:∀it:Nn,compTurn ce (d+1) (.ref it) (.ref acc) X.env=(standAt i.pos>>=λ_=>pyNext (.ref it)>>=λr=>match r with
   |none=>pure (.done .next)
   |some v=>letOwnedTupleGo t (.ref it) v>>=λ_=>assign t X.env v>>=λ_=>(eP fs X.env>>=λok=>if ok=Nk then bt ce em gens (d+1) (.ref acc) X.env else pure ())>>=λ_=>again (.compLoop ce (d+1) (.ref it) (.ref acc) X.env))) (C:X.xe=λ_ _=>False) (A:X.calm=Nk) (o:gens[d+1]?=some ⟨t,i,fs,0⟩) (B:PI X t i wi) (hs:∀x,foldedSetIterable i X.env x=pure x) (n:PG X t g)
  (z:PB X (eP fs X.env>>=λok=>if ok=Nk then bt ce em gens (d+1) (.ref acc) X.env else pure ()) tb):PB X (bt ce em gens d (.ref acc) X.env) (ua wi g tb):=by
 intro P s N H Q I h;unfold bt;rw[o];refine Za (aO (B _ s _ H _ I h) λv K w=>Za (OK (Za ?_)));rw[hs];refine Zd (Za (ZE (aO w λD L y=>Za ?_)));obtain⟨it,G,M,J,E,e,u,T,S,F,W⟩:=y;subst e
 have l:codeAny _ _ _ (λr c=>match r with
   | .ok f=>∃a j,Inv X _ a j c/\Q a j
   | .error e=>cameBackBy (model X.prog X.w) X.A X.env X.xe e c) _:=
  zZ b C A (m _) T n z u S F W λc a j p _ q=>⟨_,_,p,q⟩
 refine wpAny_runOwn ?_;refine OV (z0 b (by rw[k];exact o) l (T.self _ 0 _ _ _ S l)) λr c q=>?_;cases r with
 |ok f=>exact Zd q
 |error e=>exact q
end
noncomputable def FA:List CT->q_
 | []=>yE
 |t::ts=>match t with
  | .var i=>rc (dZ i) (FA ts)
  | .tup _=>λ_ _ _ _=>False
noncomputable def rN(K:Fg):CT->TG
 | .var i=>dZ i
 | .tup ts=>yF K ts.length (FA ts)
section
variable {E:XK}{k:Nat}
theorem rO(O:cG X cell N sc CX E Φ Γ k){i:Nat}{p:Pos}(h:rB cell N sc (.var i)=Nk):PG X (.Name (N.getD i "") p) (dZ i):=by
 have H:=(aa h).1;have a:=(aa h).2;generalize N.getD i _=x at H a;simp at H a
 have b:L2.Loc X.env.scope x:=by unfold L2.Loc;rw[O.sc];lia
 refine me (by rw[O.n];exact O.nd) (by rw[O.n];exact H) b ?_;rcases a with z|z
 ·exact .inr (by rw[O.sc];exact z)
 ·exact .inl (O.fn x z.1)
theorem uC{env:Env}:∀{ts:List CT} {es:Lx},((assignEach (fN ts N es) env).length=ts.length/\(assignEach (fN ts N es) env).findIdx? (·.1)=none)
 | [],_=>⟨rfl,rfl⟩
 |t::ts,es=>by
  have i:=uC (env:=env) (ts:=ts) (es:=es.tail);have e:assignEach (fN (t::ts) N es) env=(Nl,assign (i7 t N (es.headD dE)) env)::assignEach (fN ts N es.tail) env:=by cases t<;>rfl
  simp_all
theorem rP(O:cG X cell N sc CX E Φ Γ k):∀{ts:List CT} {es:Lx},um cell N sc ts=Nk->yD X (fN ts N es) (FA ts)
 | [],es,h=>mf
 |t::ts,es,h=>by
  cases t with
  |tup _=>exact λ_ _ _ _ _ _ _ _ _ z=>z.elim
  |var i=>exact F4 (rO O (aa h).1) (rP O (aa h).2)
theorem kG(O:cG X cell N sc CX E Φ Γ k){t:CT}(h:rB cell N sc t=Nk):PG X (i7 t N e) (rN X.K t):=by
 cases t with
 |var i=>exact rO O h
 |tup T=>exact sL O.calm (rP O h) uC.1 uC.2
theorem rQ{F μ:La}{H:Hp}{K:Fg}{mg:Mg}{ρ':bu}{Q:L2.St->Hp->Prop}:∀{ts:List CT} {ds:List D} {vs:List V} {ρ:bu} {σ:L2.St},bH ts ds ρ=some ρ'->ai K ⟨mg,F⟩ μ H ds vs->aU K ⟨mg,F⟩ μ H ρ σ->(∀σ',aU K ⟨mg,F⟩ μ H ρ' σ'->Q σ' H)->FA ts vs σ H Q
 | [],ds,vs,ρ,σ,h,r,e,q=>by
  cases ds with
  |nil=>cases h;exact⟨r,q _ e⟩
  |cons _ _=>cases h
 |t::ts,ds,vs,ρ,σ,h,r,e,q=>by
  cases t with
  |tup _=>cases h
  |var i=>
   cases ds with
   |nil=>cases h
   |cons d ds=>obtain⟨v,w,rfl,R,a⟩:=r.uncons;exact⟨v,w,rfl,rQ h a (e.set R) q⟩
theorem uD{ρ':bu}:∀{ts:List CT} {ds:List D} {ρ:bu},bH ts ds ρ=some ρ'->ts.length=ds.length/\ρ'.length=ρ.length
 | [],ds,ρ,h=>by
  cases ds with
  |nil=>cases h;simp_all
  |cons _ _=>cases h
 |t::ts,ds,ρ,h=>by
  cases t with
  |tup _=>cases h
  |var i=>
   cases ds with
   |nil=>cases h
   |cons d ds=>have:=uD (ts:=ts) h;simp_all
theorem A2{ρ':bu}{j:Nat}:∀{ts:List CT} {ds:List D} {ρ:bu},bH ts ds ρ=some ρ'->(∀i∈du ts,i≠j)->ρ'[j]?=ρ[j]?
 | [],ds,ρ,h,H=>by
  cases ds with
  |nil=>cases h;rfl
  |cons _ _=>cases h
 |t::ts,ds,ρ,h,H=>by
  cases t with
  |tup _=>cases h
  |var i=>
   cases ds with
   |nil=>cases h
   |cons d ds=>rw[A2 (ts:=ts) h λk a=>H k (Zc _ a),NZ (H i Ze)]
theorem uE{Q:L2.St->Hp->Prop}{t:CT}(h:aS t d ρ=some ρ')(r:Rep K ⟨mg,F⟩ μ H d v)(e:aU K ⟨mg,F⟩ μ H ρ σ)
  (q:∀σ',aU K ⟨mg,F⟩ μ H ρ' σ'->Q σ' H):rN K t v σ H Q:=by
 cases t with
 |var i=>cases h;exact q _ (e.set r)
 |tup T=>
  cases d with
  |tup D=>obtain⟨a,vs,rfl,b,R⟩:=bQ r;exact⟨a,_,rfl,b,by rw[<-R.length];exact(uD h).1.symm,rQ h R e q⟩
  |_=>cases h
end
theorem Io{l:List Nat}{i:Nat}(h:bV ρ l=Nk)(H:i∈l):ρ[i]?=some none:=by
 dsimp only[bV]at h
 grind
theorem nU{t:CT}(h:aS t d ρ=some ρ'):ρ'.length=ρ.length/\∀j,(∀i∈slots t,i≠j)->ρ'[j]?=ρ[j]? :=by
 cases t with
 |var i=>cases h;exact⟨List.length_set,λj H=>NZ (H i Ze)⟩
 |tup T=>
  cases d with
  |tup D=>exact⟨(uD h).2,λj H=>A2 h H⟩
  |_=>cases h
theorem Ip{mg:GS}{t:CT}(h:bp t d ρ=some ρ')(E:aU K mg μ H ρ' σ):aU K mg μ H ρ σ:=by
 unfold bp at h;by_cases a:bV ρ (slots t)=Nk
 ·rw[if_pos a]at h;have g:=nU h;refine⟨by rw[<-E.1,g.1],λj D e=>E.2 j _ ?_⟩;rw[g.2 j λi b z=>by subst z;rw[Io a b]at e;cases e];exact e
 simp_all
theorem Iq{t:CT}(h:bp t d ρ=some ρ'):aS t d ρ=some ρ':=by unfold bp at h;simp_all
structure g6 (K:Fg)(mg:Mg)(F:La)(acc:Nn)(O:List D->List V->HO->Prop)(B:La->Hp->Prop)(μ0:La)(H0:Hp)(μ:La)(S:ae)(H:Hp)(ρ:bu)(σ:L2.St)(ds:List D)(vs:List V):Prop where
 n0:H0 acc=none
 ext:Ext μ0 H0 μ H
 sok:aJ K ⟨mg,acc::F⟩ μ S H
 nin:acc∉μ
 env:aU K ⟨mg,acc::F⟩ μ H ρ σ
 at_:∃o,H acc=some o/\O ds vs o
 rep:ai K ⟨mg,acc::F⟩ μ H ds vs
 b:B μ H
def i_(K:Fg)(F:La)(B:La->Hp->Prop):Prop:=∀μ H μ1 H1,B μ H->c7 K F μ H F μ1 H1->B μ1 H1
noncomputable def d_(K:Fg)(mg:Mg)(F:La)(a:Nn)(O:List D->List V->HO->Prop)(B:La->Hp->Prop)(b:La)(H:Hp)(ρ:bu)(Q:L2.St->Hp->Prop):Res (List D)->Prop
 | .ok d S'=>∀μ' H' σ' v,g6 K mg F a O B b H μ' S' H' ρ σ' d v->Q σ' H'
 |_=>False
noncomputable def tB(K:Fg)(mg:Mg)(O:Nn->List D->List V->HO->Prop)(Φ:FT)(Γ:Str->Option D)(c:CE)(a:Nn):TU:=λσ H Q=>∃F B μ0 H0 μ ρ S ds vs,i_ K (a::F) B/\g6 K mg F a (O a) B μ0 H0 μ S H ρ σ ds vs/\d_ K mg F a (O a) B μ0 H0 ρ Q (bx Φ Γ c ρ ds S)
noncomputable def fA(Φ:FT)(Γ:Str->Option D)(i:List CE)(body:CE)(ρ:bu)(ds:List D)(S:ae):Res (List D):=(aT Φ Γ i ρ S).bind λk S3=>if k=Nk then bx Φ Γ body ρ ds S3 else .ok ds S3
noncomputable def tC(K:Fg)(mg:Mg)(O:Nn->List D->List V->HO->Prop)(Φ:FT)(Γ:Str->Option D)(i:List CE)(c:CE)(a:Nn):TU:=λσ H Q=>∃F B μ0 H0 μ ρ S ds vs,i_ K (a::F) B/\g6 K mg F a (O a) B μ0 H0 μ S H ρ σ ds vs/\d_ K mg F a (O a) B μ0 H0 ρ Q (fA Φ Γ i c ρ ds S)
section
variable {O:List D->List V->HO->Prop}{vs:List V}
theorem g6.next(hB:i_ K (acc::F) B)(c:g6 K mg F acc O B μ0 H0 μ S H ρ σ ds vs)(x:Ext μ H μ1 H1)(s:aJ K ⟨mg,acc::F⟩ μ1 S1 H1):g6 K mg F acc O B μ0 H0 μ1 S1 H1 ρ σ ds vs where
 n0:=c.n0
 ext:=c.ext.trans x
 sok:=s
 nin:=λz=>by
  rcases x.fresh _ z with z|z
  ·exact c.nin z
  ·obtain⟨o,e,_⟩:=c.at_;simp_all
 env:=c.env.mono x
 at_:=(by obtain⟨o,e,h⟩:=c.at_;exact(⟨o,x.keep _ _ e (.inr c.nin),h⟩))
 rep:=ai.mono x _ _ c.rep
 b:=hB _ H _ _ c.b (.of_ext x λ_ z=>.inl z)
theorem g6.put{u:HO}(f:i_ K (acc::F) B)(c:g6 K mg F acc O B μ0 H0 μ S H ρ σ ds vs)(h:H acc=some u)(a:iy u=Nk)(r:Rep K ⟨mg,acc::F⟩ μ H d v)(g:O (ds++[d]) (vs++[v]) u'):g6 K mg F acc O B μ0 H0 μ S (aP H acc u') ρ σ (ds++[d]) (vs++[v]):=by
 have C:c7 K _ _ H (acc::F) μ (aP H _ u'):=.more Ze h a
 exact{
  n0:=c.n0
  ext:=c.ext.more c.n0
  sok:=c.sok.more Ze c.nin h a
  nin:=c.nin
  env:=c.env.chg C
  at_:=⟨_,a8,g⟩
  rep:=ai.append (ai.chg C _ _ c.rep) (.cons (Rep.chg C _ _ r) .nil)
  b:=f _ _ _ _ c.b C}
theorem Ir{E:XK}:∀{cs:List CE} {σ:L2.St} {Q:Bool->Hp->Prop},aJ X.K ⟨X.mg,F⟩ μ S H->aU X.K ⟨X.mg,F⟩ μ H ρ σ->ak X.K ⟨X.mg,F⟩ E (λ_ _ a b=>a=b) μ H Q (aT Φ Γ cs ρ S)->m5 (cs.map (tT X.K X.mg E Φ Γ)) σ H Q:=by
 intro cs
 induction cs generalizing μ H S with
 |nil=>exact λs e w=>w _ H _ .refl s rfl
 |cons c cs i=>
  intro σ Q s e w;refine⟨F,_,_,S,s,e,(ak.bind w).mono λk H1 z=>ay z λg h K x d f W=>?_⟩;subst f;cases K with
  |true=>exact i d (e.mono x) W
  |false=>exact W _ _ _ .refl d rfl
end
section
variable {E:XK}
theorem PB.weak{body:Sem Unit}{t t':TU}(h:PB X body t)(w:∀σ H Q,t' σ H Q->t σ H Q):PB X body t':=λp s σ H Q I q=>h _ s _ H Q I (w _ H Q q)
theorem Iu{vs:List V}{i:List CE}{c:CE}{Q:L2.St->Hp->Prop}
  (h:i_ K (acc::F) B) (st:g6 K mg F acc (O acc) B μ0 H0 μ S H ρ σ ds vs) (w:d_ K mg F acc (O acc) B μ0 H0 ρ Q (fA Φ Γ i c ρ ds S)):
  ak K ⟨mg,acc::F⟩ E (λ_ _ a b=>a=b) μ H (λb H1=>if b=Nk then tB K mg O Φ Γ c acc σ H1 Q else Q σ H1) (aT Φ Γ i ρ S):=by
 unfold fA at w;cases e:aT _ _ _ _ S with
 |ok k f=>
  rw[e]at w;intro j H1 b x s g;subst g;have d:=st.next h x s;cases k with
  |true=>exact⟨F,B,_,_,_,_,_,_,_,h,d,w⟩
  |false=>exact w _ _ _ _ d
 |err y f=>rw[e]at w;exact w.elim
 |fail=>rw[e]at w;exact w.elim
theorem uF{e:Sem Unit}{d:Nat}{fs:Lx}{i:List CE}{c:CE}(b:z7 X fs (i.map (tT X.K X.mg E Φ Γ)))(a:PB X (bt ce e gens d (.ref acc) X.env) (tB X.K X.mg O Φ Γ c acc)):
  PB X (eP fs X.env>>=λok=>if ok=Nk then bt ce e gens d (.ref acc) X.env else pure ()) (tC X.K X.mg O Φ Γ i c acc):=
 PB.weak (nS b a) λl H Q z=>tJ z λF B f g j k S D vs h s w=>Ir s.sok s.env (Iu h s w)
def oL(_:Nn)(_:List D)(vs:List V)(o:HO):Prop:=o=.lst vs
theorem uG{d:Nat}{c:CE}(k:gens[d+1]?=none)(j:PE X elt (tE X.K X.mg E Φ Γ c)):PB X (bt ce (uB elt (.ref acc) X.env) gens d (.ref acc) X.env) (tB X.K X.mg oL Φ Γ (.emit c) acc):=
 PB.weak (nT k j) λq H Q z=>tJ z λF B l n o p S D vs g b w=>by
  refine⟨_,_,_,S,b.sok,b.env,?_⟩;dsimp[bx]at w;cases e:aj _ _ c _ S with
  |ok y i=>
   rw[e]at w;intro m H1 v x s r;have a:=b.next g x s;have W:d_ _ _ F _ _ B _ _ _ Q (if D.length<cm then .ok _ _ else .fail):=w;by_cases h:D.length<cm
   ·rw[if_pos h]at W;obtain⟨_,f,rfl⟩:=a.at_;exact⟨_,f,by rw[<-a.rep.length];exact h,W _ _ _ _ (a.put g f rfl r rfl)⟩
   ·rw[if_neg h]at W;exact W.elim
  |err y i=>rw[e]at w;exact w.elim
  |fail=>rw[e]at w;exact w.elim
end
noncomputable def nV:iX->Nat
 | .items xs=>xs.length+1
 | .live f _=>f
theorem A3(step:D->List D->ae->Res (List D))(xs:List D):∀(n i:Nat) (acc:List D) (S:ae),i+n=xs.length->c6 step (λ_ i=>some xs[i]?) (n+1) i acc S=aX step (xs.drop i) acc S
 |0,i,acc,S,h=>by rw[RY (by omega)];dsimp only[c6];have:xs[i]?=none:=OQ.mpr (by omega);rw[this];rfl
 |n+1,i,acc,S,h=>by
  have H:i<xs.length:=by lia
  rw[RB H];dsimp only[c6];rw[Zf H];show(step _ _ S).bind _=(step _ _ S).bind _;congr 1;funext a b;exact A3 _ _ n _ _ _ (by grind)
theorem A4(step:D->List D->ae->Res (List D))(its:iX)(a:List D)(S:ae):cw step its a S=c6 step (bi its) (nV its) 0 a S:=by
 cases its with
 |items x=>exact(A3 _ _ _ 0 _ S (by omega)).symm
 |live f get=>rfl
noncomputable def eQ(Φ:FT)(Γ:Str->Option D)(tg:CT)(i:List CE)(body:CE)(ρ:bu):D->List D->ae->Res (List D):=λx acc S2=>match bp tg x ρ with
 |some ρ'=>fA Φ Γ i body ρ' acc S2
 |none=>.fail
theorem g6.back{a:La->Hp->Prop}{vs:List V}(c:g6 K mg F acc (O acc) B μ0 H0 μ S H ρ σ ds vs)(b:a μ H)(e:aU K ⟨mg,acc::F⟩ μ H ρ' σ'):g6 K mg F acc (O acc) a μ0 H0 μ S H ρ' σ' ds vs:=
 ⟨c.n0,c.ext,c.sok,c.nin,e,c.at_,c.rep,b⟩
theorem Iv{tg:CT}{i:List CE}{body:CE}{x:D}(h:bp tg x ρ=some ρ'):eQ Φ Γ tg i body ρ x ds S=fA Φ Γ i body ρ' ds S:=by unfold eQ;rw[h]
theorem Iw{tg:CT}{i:List CE}{body:CE}{x:D}(h:bp tg x ρ=none):eQ Φ Γ tg i body ρ x ds S=.fail:=by unfold eQ;rw[h]
theorem A5{j:La}{d:La}{k:Hp}{J:It}{get:ae->Nat->Option (Option D)}{tg:CT}{I:List CE}{body:CE}{Q:L2.St->Hp->Prop}(l:i_ K (acc::F) B)(ok:gu K ⟨mg,j⟩ J get d k)
        {vs:List V} (ch:c7 K j d k (acc::F) μ H) (st:g6 K mg F acc (O acc) B μ0 H0 μ S H ρ σ ds vs) (w:d_ K mg F acc (O acc) B μ0 H0 ρ Q (c6 (eQ Φ Γ tg I body ρ) get n 0 ds S)):
  ∃W:Nat->Nat->L2.St->Hp->Prop,(∃m,W 0 m σ H)/\∀i m σ H,W i m σ H->
   (J.stop i H/\Q σ H)\/(J.go i H/\∃Nx:L2.St->Hp->Prop,(∀σ' H',Nx σ' H'->∃M,M<m/\W (i+1) M σ' H')/\∀x H',J.yld i H x H'->rN K tg x σ H' λf H2=>tC K mg O Φ Γ I body acc f H2 Nx):=by
 refine⟨λi m σ H=>∃μ S ds vs,c7 K _ _ _ _ μ H/\g6 K _ F _ _ B _ _ μ S H _ σ ds vs/\d_ K _ F _ _ B _ _ _ Q (c6 _ _ m i ds S),⟨n,_,S,_,_,ch,st,w⟩,?_⟩;rintro i m σ H ⟨μ,S,ds,vs,ch,st,w⟩;cases m with
 |zero=>exact w.elim
 |succ m=>
  unfold c6 at w;obtain⟨u,v⟩:=ok i _ S H _ ch st.sok;cases e:get S i with
  |none=>rw[e]at w;exact w.elim
  |some o=>
   cases o with
   |none=>rw[e]at w;exact .inl ⟨v e,w _ H _ _ st⟩
   |some x=>
    rw[e]at w;obtain⟨G,Y⟩:=u x e;refine .inr ⟨G,_,λσ' H' q=>⟨m,NL m,q⟩,λy H' t=>?_⟩;obtain⟨X,A,R⟩:=Y y _ t;have b:=st.next l X A;have C:=ch.trans (.of_ext X λ_ z=>.inl z);have a:d_ K _ F _ _ B _ _ _ Q ((eQ _ _ _ _ _ _ x _ S).bind _):=w;cases E:bp _ x _ with
    |none=>rw[Iw E]at a;exact a.elim
    |some U=>
     rw[Iv E]at a;refine uE (Iq E) R b.env λf g=>?_;refine⟨F,λμ H=>B _ H/\c7 K _ _ _ _ _ H,_,_,_,_,S,_,_,λP Z T Hb q c=>⟨l _ _ _ _ q.1 c,q.2.trans c⟩,b.back ⟨b.b,C⟩ g,?_⟩;cases h:fA _ _ _ _ _ _ S with
     |ok r p=>rw[h]at a;intro N H2 σ' L s;exact⟨_,_,_,_,s.b.2,s.back s.b.1 (Ip E s.env),a⟩
     |err z p=>rw[h]at a;exact a.elim
     |fail=>rw[h]at a;exact a.elim
section
variable {E:XK}
theorem nW{a:Sem Unit}{d:Nat}{t i:Expr}{fs:Lx}{tg:CT}{it:CE}{I:List CE}{body:CE}(f:iU ce=Nk)(h:clausesOf ce=gens)(b:∀it:Nn,compTurn ce (d+1) (.ref it) (.ref acc) X.env=(standAt i.pos>>=λ_=>pyNext (.ref it)>>=λr=>match r with
   |none=>pure (.done .next)
   |some v=>letOwnedTupleGo t (.ref it) v>>=λ_=>assign t X.env v>>=λ_=>(eP fs X.env>>=λok=>if ok=Nk then bt ce a gens (d+1) (.ref acc) X.env else pure ())>>=λ_=>again (.compLoop ce (d+1) (.ref it) (.ref acc) X.env))) (p:X.xe=λ_ _=>False) (m:X.calm=Nk) (n:gens[d+1]?=some ⟨t,i,fs,0⟩)
  (o:PI X t i (tI X.K X.mg E Φ Γ it)) (hs:∀x,foldedSetIterable i X.env x=pure x) (c:PG X t (rN X.K tg))
  (l:PB X (eP fs X.env>>=λok=>if ok=Nk then bt ce a gens (d+1) (.ref acc) X.env else pure ()) (tC X.K X.mg O Φ Γ I body acc)):PB X (bt ce a gens d (.ref acc) X.env) (tB X.K X.mg O Φ Γ (.inner tg it I body) acc):=
 PB.weak (Il f h b p m n o hs c l) λL H Q z=>tJ z λF B u C G K S D vs j g w=>by
  refine⟨_,_,_,S,g.sok,g.env,?_⟩;dsimp[bx]at w;cases e:aZ _ _ _ _ S with
  |ok q k=>rw[e]at w;intro A H1 J x s ok;have W:d_ _ _ F _ _ B _ _ _ Q (cw _ _ _ _):=w;rw[A4]at W;exact A5 j ok .refl (g.next j x s) W
  |err y k=>rw[e]at w;exact w.elim
  |fail=>rw[e]at w;exact w.elim
noncomputable def gv(fr:List (Option Nat)):L2.St->L2.St:=λσ=>fr.map λj=>j.bind λj=>(σ[j]?).join
theorem uH{mg:GS}(c:aU K mg μ H ρ σ):aU K mg μ H (fr.map λj=>j.bind λj=>(ρ[j]?).join) (gv fr σ):=by
 refine⟨by simp[gv],λi d e=>?_⟩;rw[Z2]at e;cases b:fr[i]? with
 |none=>simp_all
 |some o=>
  rw[b]at e;have e:=N_ e;cases o with
  |none=>cases e
  |some j=>
   have E:ρ[j]?.join=some d:=e;cases a:ρ[j]? with
   |none=>simp_all
   |some o=>rw[a]at E;subst(E);obtain⟨v,f,k⟩:=c.2 j d a;exact⟨v,by unfold gv;simp_all,k⟩
theorem kH{tg0:Expr}{box:Bool}{tg:CT}{it:CE}{i:List CE}{body:CE}{Q:VK}(h:tE X.K X.mg E Φ Γ (.comp box N' fr tg it i body) σ H Q):
  km (λ_=>.lst []) (gv fr) (tI X.K X.mg E Φ Γ it) (rN X.K tg) (tC X.K X.mg oL Φ Γ i body) σ H Q:=by
 obtain⟨F,j,P,S,o,g,w⟩:=h;refine⟨F,_,_,S,o,g,?_⟩;refine ak.mono (ak.bind w) λJ H1 h A a=>?_;obtain⟨u,L,I,x,d,ok,r⟩:=h
 have p:g6 _ _ F _ (oL A) (λj H=>c7 X.K F _ _ _ j H) _ _ _ _ _ _ (gv fr _) _ _:={
  n0:=a
  ext:=.laid a
  sok:=d.start a
  nin:=d.notin a
  env:=(uH (g.mono x)).chg (.start a)
  at_:=⟨_,a8,rfl⟩
  rep:=.nil
  b:=.start a}
 refine A5 (n:=nV I) (λz G B K q c=>q.trans c) ok (.start a) p ?_;have W:ak _ _ E _ _ _ Q ((cw (eQ _ _ _ _ _ _) _ _ _).noErr.bind _):=r;rw[A4]at W;cases e:c6 _ _ _ 0 _ _ with
 |ok Y k=>
  rw[e]at W;intro t D C v s;have m:=d.notF a;obtain⟨_,f,rfl⟩:=s.at_;cases box with
  |false=>exact W _ _ _ s.ext s.sok.out ⟨_,_,rfl,f,⟨s.nin,m⟩,ai.chg .out _ _ s.rep⟩
  |true=>refine W _ _ _ (s.ext.outBox a) (s.sok.outBox s.nin f s.rep) ?_;unfold Rep;have M:=s.sok.len;simp_all
 |err y k=>rw[e]at W;exact W.elim
 |fail=>rw[e]at W;exact W.elim
end
noncomputable def cO(l:Bool):Obj:={cls:=.type "set",dict:=none,data:=.set #[] 0 (.fresh 0 0 l)}
def iz(xs:Array Nat):Prop:=∀i j (hi:i<xs.size) (h:j<xs.size),i<j->xs[i]<xs[j]
theorem Iy{xs:Array Nat}(h:iz xs)(j:Nat):∀(f lo hi:Nat),hi-lo<=f->lo<=hi->hi<=xs.size->(∀i (g:i<xs.size),i<lo->xs[i]<j)->(∀i (g:i<xs.size),hi<=i->j<=xs[i])->
  lo<=ON xs j f lo hi/\ON xs j f lo hi<=hi/\(∀i (g:i<xs.size),i<ON xs j f lo hi->xs[i]<j)/\(∀i (g:i<xs.size),ON xs j f lo hi<=i->j<=xs[i]):=by
 intro f
 induction f with
 |zero=>
  intro lo hi p r o k l;have:lo=hi:=by omega
  subst this;exact⟨Zh _,Zh _,k,l⟩
 |succ f I=>
  intro lo hi p r o k l;unfold ON;split
  ·rename_i t;have m:(lo+hi)/2<xs.size:=by omega
   have q:xs.getD ((lo+hi)/2) j=xs[(lo+hi)/2]:=by simp[Ro,m]
   dsimp only;rw[q];split
   ·rename_i g
    obtain⟨a,b,c,d⟩:=I ((lo+hi)/2+1) hi (by omega) (by omega) o (λi H n=>by
     by_cases e:i=(lo+hi)/2
     ·subst e;exact g
     ·exact QZ (h i _ H m (by omega)) g) l
    exact⟨by omega,b,c,d⟩
   ·rename_i g
    obtain⟨a,b,c,d⟩:=I lo ((lo+hi)/2) (by omega) (by omega) (by omega) k (λi H s=>by
     by_cases e:i=(lo+hi)/2
     ·subst e;omega
     ·exact ZD (by omega) (O8 (h _ i m H (by omega))))
    exact⟨a,by omega,c,d⟩
  ·have:lo=hi:=by omega
   subst this;exact⟨Zh _,Zh _,k,l⟩
theorem nX{xs:Array Nat}(h:iz xs)(j:Nat):Nv xs j<=xs.size/\(∀i (H:i<xs.size),i<Nv xs j->xs[i]<j)/\(∀i (H:i<xs.size),Nv xs j<=i->j<=xs[i]):=by
 obtain⟨_,b,c,d⟩:=Iy h j xs.size 0 _ (by simp) (by simp) (Zh _) λi _ h=>by simp_all λi H h=>by lia
 exact⟨b,c,d⟩
theorem Iz{xs:Array Nat}(h:iz xs){i:Nat}(d:i<xs.size):Nv xs (xs[i]+1)=i+1:=by
 obtain⟨a,b,c⟩:=nX h (xs[i]+1);have f:i<Nv xs (xs[i]+1):=by grind
 by_cases e:i+1<Nv xs (xs[i]+1)
 ·have H:i+1<xs.size:=by lia
  have:=b _ H e;have:=h i _ d H (by simp);lia
 ·lia
theorem IA(xs:Array Nat)(h:iz xs):Nv xs 0=0:=by
 obtain⟨a,b,c⟩:=nX h 0;by_cases e:0<Nv xs 0
 ·have:=b 0 (by lia) e;simp_all
 simp_all
theorem IB{xs:Array Nat}(h:iz xs){j:Nat}(r:∀i (n:i<xs.size),xs[i]≠j):iz (Nz xs (Nv xs j) j):=by
 obtain⟨a,b,c⟩:=nX h j;have q:(Nz xs (Nv xs j) j).toList=xs.toList.take (Nv xs j)++j::xs.toList.drop (Nv xs j):=by unfold Nz;simp;exact RW (by simp)
 have s:(xs.toList.take (Nv xs j)++j::xs.toList.drop (Nv xs j)).Pairwise (· < ·):=by
  have n:xs.toList.Pairwise (· < ·):=Oe.mpr λi k e g f=>by simpa using h i k (by simpa using e) (by simpa using g) f
  rw[List.pairwise_append];refine⟨n.sublist (QS _ _),ZK.mpr ⟨λy l=>?_,n.sublist (S_ _ _)⟩,λx o y l=>?_⟩
  ·obtain⟨i,e,rfl⟩:=ZL.mp l;rw[P9]at e;rw[Ta];have H:Nv xs j+i<xs.size:=by simpa using(by omega:Nv xs j+i<xs.toList.length)
   have p:=c _ H (by omega);have t:=r _ H;simp only[Qq];omega
  ·obtain⟨i,e,rfl⟩:=ZL.mp o;rw[NV]at e;rw[List.getElem_take];have H:i<xs.size:=by simpa using(by omega:i<xs.toList.length)
   have p:=b i H (by omega);simp only[Qq];rcases Zi.mp l with rfl|l
   ·exact p
   ·obtain⟨k,g,rfl⟩:=ZL.mp l;rw[P9]at g;rw[Ta];have m:Nv xs j+k<xs.size:=by simpa using(by omega:Nv xs j+k<xs.toList.length)
    have u:=c _ m (by omega);simp only[Qq];omega
 intro i k e g f;have d:(Nz xs (Nv xs j) j).size=(Nz xs (Nv xs j) j).toList.length:=by simp
 have:=Oe.mp (q▸s) i k (by rw[<-d];exact e) (by rw[<-d];exact g) f;simpa using this
theorem A6{l:List Nat}(h:l.Pairwise (· < ·)):iz l.toArray:=λi j a b H=>by have:=Oe.mp h i j (by omega) (by omega) H;trivial
theorem uI{c d:Type}(f:c->Option d):∀l:List c,((l.filterMap λj=>(f j).map (j, ·)).map (·.1)).Sublist l
 | []=>.slnil
 |a::l=>by
  cases e:f a with
  |none=>rw[List.filterMap_cons_none (by simp_all)];exact(uI f l).cons a
  |some b=>rw[RH (b:=(a,b)) (by simp_all)];exact(uI f l).cons₂ a
open SetTable (Probe runEnd leap bits turns)
noncomputable def nY(mask:Nat)(p:Probe):Probe:=
 if p.more>0 then{p with j:=p.j+1,more:=p.more-1}else
 {p with j:=(leap mask p.i p.perturb).1,more:=runEnd mask (leap mask p.i p.perturb).1-(leap mask p.i p.perturb).1,i:=(leap mask p.i p.perturb).1,perturb:=(leap mask p.i p.perturb).2}
theorem uJ(t:NF)(p:Probe):t.advance p=nY t.mask p:=rfl
noncomputable def pos(mask:Nat):Probe->Nat->Probe
 |p,0=>p
 |p,n+1=>pos mask (nY mask p) n
noncomputable def jN(mask i p:Nat):Probe:=⟨i,runEnd mask i-i,i,p,none⟩
noncomputable def eX(mask:Nat)(h:Int):Probe:=jN mask (bits h%(mask+1)) (bits h)
theorem ja{mask:Nat}:∀(m n:Nat) (p:Probe),pos mask p (m+n)=pos mask (pos mask p m) n
 |0,n,p=>by rw[Sa];rfl
 |m+1,n,p=>by rw[Nat.succ_add];exact ja m n _
theorem IC(p:Probe)(n:Nat):pos mask p (n+1)=nY mask (pos mask p n):=ja n 1 p
theorem nZ{mask i p:Nat}{d:Option Nat}:∀(k r j:Nat),k<=r->pos mask ⟨j,r,i,p,d⟩ k=⟨j+k,r-k,i,p,d⟩
 |0,r,j,_=>rfl
 |k+1,r,j,h=>by
  show pos _ _ k=_;have:nY mask ⟨j,r,i,p,d⟩=⟨j+1,r-1,i,p,d⟩:=by dsimp[nY];lia
  rw[this,nZ k _ _ (by lia)];lia
theorem run_next{i p r j:Nat}{d:Option Nat}:pos mask ⟨j,r,i,p,d⟩ (r+1)=⟨(leap mask i p).1,runEnd mask (leap mask i p).1-(leap mask i p).1,(leap mask i p).1,(leap mask i p).2,d⟩:=by rw[IC,nZ r r j (Zh _)];unfold nY;lia
noncomputable def cD(mask:Nat):Nat->Nat×Nat->Nat×Nat
 |0,x=>x
 |r+1,x=>cD mask r (leap mask x.1 x.2)
theorem n_{i:Nat}:runEnd mask i-i<=9:=by unfold runEnd;lia
theorem kI{mask:Nat}:∀(r:Nat) (x:Nat×Nat),∃n,n<=10*r/\pos mask (jN mask x.1 x.2) n=jN mask (cD mask r x).1 (cD mask r x).2
 |0,x=>⟨0,by simp,rfl⟩
 |r+1,x=>by obtain⟨n,h,e⟩:=kI r _;have:=n_ (mask:=mask) (i:=x.1);refine⟨runEnd mask x.1-x.1+1+n,by lia,?_⟩;rw[ja];show pos _ (pos _ ⟨_,_,_,_,_⟩ _) n=_;rw[run_next];exact e
theorem A7{mask:Nat}:∀(a b:Nat) (x:Nat×Nat),cD mask (a+b) x=cD mask b (cD mask a x)
 |0,b,x=>by rw[Sa];rfl
 |a+1,b,x=>by rw[Nat.succ_add];exact A7 a b _
theorem A8{mask:Nat}:∀(r:Nat) (x:Nat×Nat),x.1<=mask->(cD mask r x).1<=mask
 |0,x,h=>h
 |r+1,x,h=>A8 r _ (by show(x.1*5+1+x.2/32)%(mask+1)<=mask;have:=QP (x.1*5+1+x.2/32) (show 0<mask+1 by simp);lia)
theorem A9{mask:Nat}:∀(r:Nat) (x:Nat×Nat),(cD mask r x).2=x.2/32^r
 |0,x=>by simp[cD]
 |r+1,x=>by show(cD _ r _).2=_;rw[A9 r];show x.2/32/32^r=_;rw[Nat.div_div_eq_div_mul,Nat.pow_succ,Nat.mul_comm]
noncomputable def FC(m:Nat):Nat->Nat->Nat
 |0,i=>i
 |r+1,i=>FC m r ((i*5+1)%m)
noncomputable def A_(m:Nat):Nat->Nat->Nat
 |0,i=>1<<<i
 |r+1,i=>(1<<<i)|||A_ m r ((i*5+1)%m)
theorem Ba{i e:Nat}(h:(1<<<i).testBit e=Nk):i=e:=by rw[Nat.one_shiftLeft,Nat.testBit_two_pow]at h;simp_all
theorem Bb{m e:Nat}:∀(r i:Nat),(A_ m r i).testBit e=Nk->∃k,k<=r/\FC m k i=e
 |0,i,h=>⟨0,Zh _,Ba h⟩
 |r+1,i,h=>by
  dsimp only[A_]at h;rw[Nat.testBit_or,Rb]at h;rcases h with h|h
  ·exact⟨0,Ya _,Ba h⟩
  ·obtain⟨k,H,e⟩:=Bb r _ h;exact⟨k+1,by simp_all,e⟩
theorem og:∀mask∈[7,31,127],∀i∈Nt (mask+1),A_ (mask+1) mask i=2^(mask+1)-1:=by decide+kernel
theorem Bc{mask:Nat}:∀(r i:Nat),(cD mask r (i,0)).1=FC (mask+1) r i
 |0,i=>rfl
 |r+1,i=>by show(cD _ r (leap _ i 0)).1=FC _ r _;rw[<-Bc r];rfl
def ef(mask:Nat):Prop:=mask∈[7,31,127]
theorem rR(b:ef mask){i p e:Nat}(a:i<=mask)(g:p<2^64)(d:e<=mask):∃r,r<=mask+13/\(cD mask r (i,p)).1=e:=by
 have h:(cD mask 13 (i,p)).2=0:=by rw[A9];lia
 have c:=og _ b _ (Z8.mpr (Tn (A8 13 (i,p) a)))
 have H:(A_ (mask+1) mask (cD mask 13 (i,p)).1).testBit e=Nk:=by
  grind
 obtain⟨k,f,E⟩:=Bb _ _ H;refine⟨13+k,by omega,?_⟩;rw[A7,show cD _ _ _=((cD _ _ _).1,0)from Prod.ext rfl h,Bc];exact E
theorem Bd(h:Int):bits h<2^64:=by simp[bits];lia
theorem ID(b:ef mask){e:Nat}(H:e<=mask)(h:Int):∃n,n<10*turns mask/\(pos mask (eX mask h) n).j=e:=by obtain⟨r,d,E⟩:=rR b (i:=bits h%(mask+1)) (by have:=QP (bits h) (show 0<mask+1 by simp);lia) (Bd h) H;obtain⟨n,c,a⟩:=kI r (bits h%(mask+1),bits h);exact⟨n,by unfold turns;lia,by rw[show eX _ h=jN _ _ _ from rfl,a];exact E⟩
theorem uK{mask:Nat}:∀(n:Nat) {p:Probe},(pos mask p n).dummy=p.dummy
 |0,p=>rfl
 |n+1,p=>by show(pos _ _ n).dummy=_;rw[uK n];unfold nY;split<;>rfl
theorem uL:∀(m:Nat) (l:List Nat),l.length<m->∃e,e<m/\e∉l
 |0,l,h=>by simp_all
 |m+1,l,h=>by
  by_cases H:m∈l
  ·have a:(l.filter (· !=m)).length<l.length:=List.length_filter_lt_length_iff_exists.mpr ⟨m,H,by simp⟩;obtain⟨e,b,c⟩:=uL m (l.filter (· !=m)) (by lia)
   grind
  ·exact⟨m,NL m,H⟩
def Fd(mask:Nat)(P:Nat->Prop)(h:Int)(j:Nat):Prop:=∃n,(pos mask (eX mask h) n).j=j/\∀m,m<n->P (pos mask (eX mask h) m).j
theorem Fd.mono{P a:Nat->Prop}{h:Int}{j:Nat}(x:Fd mask P h j)(hs:∀y,P y->a y):Fd mask a h j:=by obtain⟨n,e,f⟩:=x;exact⟨n,e,λm H=>hs _ (f m H)⟩
theorem IE(H:ef mask){pl:List Nat}(j:pl.length<=mask)(h:Int):∃n,n<10*turns mask/\(pos mask (eX mask h) n).j∉pl/\∀m,m<n->(pos mask (eX mask h) m).j∈pl:=by
 obtain⟨e,g,c⟩:=uL (mask+1) pl (by omega);obtain⟨n,d,E⟩:=ID H (e:=e) (by omega) h
 have K:∀n,(pos mask (eX mask h) n).j∉pl->∃k,k<=n/\(pos mask (eX mask h) k).j∉pl/\∀m,m<k->(pos mask (eX mask h) m).j∈pl:=by
  intro n
  induction n using Nat.strongRecOn with
  |ind n i=>
   intro f;by_cases z:∃m,m<n/\(pos mask (eX mask h) m).j∉pl
   ·obtain⟨m,H,a⟩:=z;obtain⟨k,b,r⟩:=i m H a;exact⟨k,by omega,r⟩
   ·exact⟨n,Zh _,f,λm H=>Q6 λa=>z ⟨m,H,a⟩⟩
 obtain⟨k,b,r⟩:=K n (by rw[E];exact c);exact⟨k,by omega,r⟩
structure Tk (t:NF)(hs:Li):Prop where
 dum:t.dummies= #[]
 ris:iz t.place
 siz:t.place.size=hs.length
 msk:ef t.mask
 ful:t.tooFull=Nl
 fnd:∀x∈hs.zip t.place.toList,Fd t.mask (· ∈t.place.toList) x.1 x.2
theorem IG{xs:Array Nat}(h:iz xs){i:Nat}(H:i<xs.size):Nv xs xs[i]=i:=by
 obtain⟨a,b,c⟩:=nX h xs[i];have d:Nv xs xs[i]<=i:=by grind
 by_cases z:Nv xs xs[i]<i
 ·have:=h _ i (by omega) H z;have:=c _ (by omega) (Zh _);omega
 ·lia
theorem Be{t:NF}(h:iz t.place){i:Nat}(H:i<t.place.size):t.slot t.place[i]=.live i:=by unfold Tb;rw[IG h _];simp_all
theorem Bf{t:NF}(h:iz t.place){j:Nat}(H:j∈t.place.toList):∃i,∃hi:i<t.place.size,t.place[i]=j/\t.slot j=.live i:=by
 obtain⟨i,hi,e⟩:=ZL.mp H;have E:=by simpa using e
 exact⟨i,_,E,by rw[<-E];exact Be h _⟩
theorem Bg{t:NF}(h:t.dummies= #[]){j:Nat}(H:j∉t.place.toList):t.slot j=.empty:=by
 unfold Tb;dsimp only;rw[if_neg,h]
 ·rfl
 ·intro z;have:=Zx z;exact H (Sd.mpr (Array.mem_of_getElem? this))
theorem Tk.fits{t:NF}(x:Tk t hs):t.place.size<=t.mask/\t.fits hs.length=Nk:=by
 have h:=x.ful;unfold PY PJ at h;have H:t.place.size<=t.mask:=by lia
 refine⟨H,?_⟩;unfold Rc PJ;rw[x.siz,beq_self_eq_true];exact ZW (by rw[<-x.siz];grind)
theorem Bh{t:NF}{hashAt:Nat->Int}{h:Int}:∀(n f:Nat) (p:Probe),n<f->p.dummy=none->(∀m,m<n->∃i,t.slot (pos t.mask p m).j=.live i/\hashAt i≠h)->
  (t.slot (pos t.mask p n).j=.empty->N9 t hashAt h f p=some (.empty (pos t.mask p n).j none))/\
  (∀i,t.slot (pos t.mask p n).j=.live i->hashAt i=h->N9 t hashAt h f p=some (.candidate (pos t.mask p n).j i (pos t.mask p (n+1))))
 |0,f+1,p,_,b,_=>by
  constructor
  ·intro e;have e:t.slot p.j=.empty:=e;dsimp only[N9];rw[e,b];rfl
  ·intro i e H;have e:t.slot p.j=.live i:=e;dsimp only[N9];rw[e];dsimp;rw[if_pos (by simp_all)];rfl
 |n+1,f+1,p,g,b,c=>by
  obtain⟨i,H,a⟩:=c 0 (Nat.succ_pos n);have H:t.slot p.j=.live i:=H
  have step:N9 t hashAt h (f+1) p=N9 t hashAt h f (nY t.mask p):=by
   conv=>lhs;unfold N9
   rw[H];dsimp;rw[if_neg λz=>a (Zx z),uJ]
  rw[step];exact Bh n _ _ (by simp_all) (by rw[show(nY _ p).dummy=(pos _ p 1).dummy from rfl,uK];exact b) λm d=>c (m+1) (by simp_all)
theorem oh{a:List α}{b:List β}(c:a.length=b.length)(p:Nat)(x:α)(y:β){z:α×β}(H:z∈(a.take p++x::a.drop p).zip (b.take p++y::b.drop p)):z=(x,y)\/z∈a.zip b:=by
 rw[List.zip_append (by simp_all),Yb,ZP,Zi]at H;rcases H with h|h|h
 ·rw[Sz,<-List.take_zipWith]at h;exact .inr (List.mem_of_mem_take h)
 ·exact .inl h
 ·rw[Sz,<-List.drop_zipWith]at h;exact .inr (List.mem_of_mem_drop h)
theorem Tk.put{t:NF}(x:Tk t hs){h:Int}(d:(pos t.mask (eX t.mask h) n).j∉t.place.toList)(b:∀m,m<n->(pos t.mask (eX t.mask h) m).j∈t.place.toList):
  let r:=t.put (pos t.mask (eX t.mask h) n).j
  r.1.dummies= #[]/\iz r.1.place/\r.1.place.size=hs.length+1/\r.1.mask=t.mask/\r.1.led=t.led/\r.1.plain=t.plain/\r.2=Nv t.place (pos t.mask (eX t.mask h) n).j/\
  ∀z∈(hs.take r.2++h::hs.drop r.2).zip r.1.place.toList,Fd t.mask (· ∈r.1.place.toList) z.1 z.2:=by
 intro r;have f:r.1.place.toList=t.place.toList.take r.2++(pos _ _ n).j::t.place.toList.drop r.2:=PK _ _ _
 have H:∀y,y∈t.place.toList->y∈r.1.place.toList:=λy g=>by
  rw[<-Se r.2 t.place.toList]at g
  grind
 refine⟨?_,IB x.ris λi j e=>d (by grind),?_,rfl,rfl,rfl,rfl,λz a=>?_⟩
 ·show(if SetTable.has _ _ then _ else t.dummies)= #[];rw[x.dum];rfl
 ·show(Nz _ _ _).size=_;rw[<-ZI,(P5 _ _ _).length_eq,ZI,To,x.siz]
 ·rw[f]at a;rcases oh (by rw[<-x.siz,ZI]) _ _ _ a with rfl|a
  ·exact⟨n,rfl,λm c=>H _ (b m c)⟩
  ·exact(x.fnd z a).mono H
abbrev dA:=Array (Option Nat)
def oj(o:dA)(j:Nat):Prop:=∃q,o[j]?=some (some q)
theorem IH{o:dA}{j:Nat}(H:j<o.size)(h:(o.getD j (some 0)).isNone=Nl):oj o j:=by
 have:o.getD j (some 0)=o[j]:=by simp_all
 cases e:o[j]with
 |none=>simp_all
 |some q=>exact⟨q,by simp_all⟩
theorem II{o:dA}{j:Nat}(h:(o.getD j (some 0)).isNone=Nk):o[j]?=some none:=by
 by_cases H:j<o.size
 ·simp_all
 simp_all
theorem Bi{mask:Nat}{o:dA}(hs:o.size=mask+1):∀(f i p:Nat),i<=mask->
  (∃j n,Od mask o f i p=some j/\(pos mask (jN mask i p) n).j=j/\o[j]?=some none/\∀m,m<n->oj o (pos mask (jN mask i p) m).j)\/
  (Od mask o f i p=none/\∀r,r<f->oj o (cD mask r (i,p)).1)
 |0,i,p,v=>.inr ⟨rfl,λr h=>by omega⟩
 |f+1,i,p,v=>by
  have x:i+(runEnd mask i-i)=runEnd mask i/\runEnd mask i<=mask:=by unfold runEnd;split<;>omega
  have d:runEnd mask i+1-i=(runEnd mask i-i)+1:=by omega
  have O:∀k,k<=runEnd mask i-i->(o.getD (i+k) (some 0)).isNone=Nl->oj o (pos mask (jN mask i p) k).j:=λk b h=>by unfold jN;rw[nZ k _ i b];exact IH (j:=i+k) (by omega) h
  unfold Od;cases c:(Nt (runEnd mask i+1-i)).find? λk=>(o.getD (i+k) (some 0)).isNone with
  |some k=>
   obtain⟨s,t,u⟩:=List.find?_range_eq_some.mp c;have b:=Z8.mp t;refine .inl ⟨i+k,k,rfl,?_,II s,λm g=>O m (by omega) ?_⟩
   ·unfold jN;rw[nZ k _ i (by omega)]
   ·have:=u m g;simpa using this
  |none=>
   have H:=List.find?_eq_none.mp c;have o1:∀k,k<=runEnd mask i-i->oj o (pos mask (jN mask i p) k).j:=λk b=>O k b (by have:=H k (Z8.mpr (by omega));exact QU.mpr this);dsimp only;have w:(leap mask i p).1<=mask:=by show(i*5+1+p/32)%(mask+1)<=mask;have:=QP (i*5+1+p/32) (show 0<mask+1 by omega);omega
   have a:pos mask (jN mask i p) (runEnd mask i-i+1)=jN mask (leap mask i p).1 (leap mask i p).2:=run_next;rcases Bi hs f (leap mask i p).1 (leap mask i p).2 w with⟨j,n,e,E,l,q⟩| ⟨e,E⟩
   ·refine .inl ⟨j,(runEnd mask i-i+1)+n,e,by rw[ja,a];exact E,l,λm g=>?_⟩;by_cases z:m<=runEnd mask i-i
    ·exact o1 m z
    ·have:=q (m-(runEnd mask i-i+1)) (by omega);rw[<-a,<-ja]at this;rw[show runEnd mask i-i+1+(m-(runEnd mask i-i+1))=m by omega]at this;exact this
   ·refine .inr ⟨e,λr y=>?_⟩;cases r with
    |zero=>exact o1 0 (Ya _)
    |succ r=>exact E r (by omega)
structure Ow (mask:Nat)(hs:Li)(k:Nat)(ow:dA):Prop where
 sz:ow.size=mask+1
 ok:∀j q:Nat,ow[j]?=some (some q)->q<k/\∃h,hs[q]?=some h/\Fd mask (oj ow) h j
 all:∀q:Nat,q<k->∃j:Nat,ow[j]?=some (some q)
 inj:∀j j' q:Nat,ow[j]?=some (some q)->ow[j']?=some (some q)->j=j'
theorem Ow.hole{k:Nat}{o:dA}(x:Ow mask hs k o)(g:k<=mask):∃e,e<=mask/\o[e]?=some none:=by
 have b:∀q,∃j:Nat,q<k->o[j]?=some _:=λq=>by
  by_cases z:q<k
  ·obtain⟨j,e⟩:=x.all q z;exact⟨j,λ_=>e⟩
  ·exact⟨0,λh=>absurd h z⟩
 obtain⟨e,c,d⟩:=Py.uL (mask+1) ((Nt k).map _) (by grind);refine⟨e,by omega,?_⟩;have H:e<o.size:=by rw[x.sz];exact c
 rw[NH H];cases f:o[e]with
 |none=>rfl
 |some q=>
  exfalso;have E:o[e]?=some (some q):=by simp_all
  have a:=(x.ok e q E).1;exact d (Zq.mpr ⟨q,Z8.mpr a,(x.inj _ _ q E (Classical.choose_spec (b q) a)).symm⟩)
theorem Ow.add{k:Nat}(d:ef mask){o:dA}(x:Ow mask hs k o)(B:k<=mask){h:Int}(y:hs[k]?=some h):∃j,Od mask o (turns mask) (bits h%(mask+1)) (bits h)=some j/\Ow mask hs (k+1) (o.setIfInBounds j (some k)):=by
 have l:bits h%(mask+1)<=mask:=by have:=QP (bits h) (show 0<mask+1 by omega);omega
 rcases Bi x.sz (turns mask) (bits h%(mask+1)) (bits h) l with⟨j,n,f,c,E,p⟩| ⟨f,c⟩
 ·refine⟨j,f,?_⟩;have A:j<o.size:=(NP.mp E).1
  have g:∀i,(o.setIfInBounds j (some k))[i]?=if j=i then some (some k)else o[i]? :=λi=>by
   rw[Array.getElem?_setIfInBounds];split
   ·rename_i z;subst z;first|rfl|rw[if_pos A]
   ·rfl
  have O:∀i,oj o i->oj (o.setIfInBounds j (some k)) i:=λi ⟨q,b⟩=>by
   unfold oj;rw[g];split
   ·exact⟨k,rfl⟩
   ·exact⟨q,b⟩
  refine⟨by rw[Array.size_setIfInBounds];exact x.sz,λi q H=>?_,λq b=>?_,λi I q H a=>?_⟩
  ·rw[g]at H;split at H
   ·rename_i z;subst z;cases H;exact⟨NL _,h,y,n,c,λm d=>O _ (p m d)⟩
   ·obtain⟨C,s,u,v⟩:=x.ok i q H;exact⟨by omega,s,u,v.mono O⟩
  ·by_cases z:q=k
   ·subst z;exact⟨j,by rw[g,if_pos rfl]⟩
   ·obtain⟨i,H⟩:=x.all q (by omega);exact⟨i,by rw[g,if_neg (λe=>by rw[<-e,E]at H;cases H)];exact H⟩
  ·rw[g]at H a;split at H
   ·rename_i z;cases H;split at a
    ·rename_i Z;omega
    ·have:=(x.ok I k a).1;omega
   ·split at a
    ·cases a;have:=(x.ok i k H).1;omega
    ·exact x.inj i I q H a
 ·exfalso;obtain⟨e,w,t⟩:=x.hole B;obtain⟨r,D,E⟩:=rR d l (Bd h) w;obtain⟨q,b⟩:=c r (by unfold turns;omega);rw[E,t]at b;cases b
theorem Bj{mask:Nat}(H:ef mask){hs:Li}(a:hs.length<=mask):∀(rest d:Li) (ow:dA),hs=d++rest->Ow mask hs d.length ow->
  ∃o,rest.foldl (λacc h=>do
   let(owner,k) <-acc
   let j <-Od mask owner (turns mask) (bits h%(mask+1)) (bits h)
   pure (owner.setIfInBounds j (some k),k+1)) (some (ow,d.length))=some (o,hs.length)/\Ow mask hs hs.length o
 | [],d,ow,e,x=>by simp_all
 |h::rest,d,ow,e,x=>by obtain⟨j,E,y⟩:=x.add H (by grind) (h:=h) (by simp_all);have:=Bj H a rest (d++[h]) _ (by simp_all) (by rw[Zn];exact y);simp_all
theorem IJ(c:ef mask)(b:hs.length<=mask):∃ow,Sf mask hs.toArray=some ow/\Ow mask hs hs.length ow:=by
 have H:∀j q:Nat,(Array.replicate (mask+1) none)[j]?=some (some q)->False:=λj q h=>by grind
 have a:Ow mask hs ([]:Li).length _:=⟨by simp,λj q h=>(H j q h).elim,λq h=>by simp_all,λj J q h=>(H j q h).elim⟩;obtain⟨ow,e,x⟩:=Bj c b _ _ _ rfl a;dsimp only[Sf];simp_all
theorem Bk{mask:Nat}{P:Nat->Prop}{hs:Li}:∀(live:List (Nat×Nat)),(∀x∈live,∃h,hs[x.2]?=some h/\Fd mask P h x.1)->∀z∈(((live.map (·.2)).filterMap (hs[·]?)).zip (live.map (·.1))),Fd mask P z.1 z.2
 | [],_,z,H=>by simp_all
 |x::live,a,z,H=>by
  obtain⟨h,e,f⟩:=a x Ze;rw[Yc,RH e]at H;rcases Zi.mp H with rfl|H
  ·exact f
  ·exact Bk _ (λy b=>a y (Zc _ b)) z H
theorem IM{t:NF}(r:ef (NI wanted-1))(C:hs.length*5<(NI wanted-1)*3):
  ∃t' o,t.relaid hs.toArray wanted=some (t',o)/\o.toList.Perm (Nt hs.length)/\t'.led=t.led/\t'.plain=t.plain/\Tk t' (o.toList.filterMap (hs[·]?)):=by
 generalize f:NI wanted-1=mask at r C;obtain⟨O,e,x⟩:=IJ r (hs:=hs) (by omega)
 have H:∀y∈((Nt (mask+1)).filterMap λj=>(O.getD j none).map (j, ·)),O[y.1]?=some (some y.2):=λy m=>by
  obtain⟨j,d,E⟩:=Z5.mp m;have d:j<O.size:=by rw[x.sz];exact Z8.mp d
  have p:O.getD j none=O[j]:=by simp[Ro,d]
  rw[p]at E;cases i:O[j]with
  |none=>rw[i]at E;cases E
  |some q=>rw[i]at E;cases E;exact(NH d).trans (ZX some i)
 have c:∀j q:Nat,O[j]?=some (some q)->(j,q)∈((Nt (mask+1)).filterMap λj=>(O.getD j none).map (j, ·)):=λj q h=>by
  obtain⟨d,i⟩:=NP.mp h;refine Z5.mpr ⟨j,Z8.mpr (by rw[<-x.sz];exact d),?_⟩;have p:O.getD j none=O[j]:=by simp[Ro,d]
  rw[p,i];rfl
 have l:=uI (λj=>O.getD j none) (Nt (mask+1));have k:t.relaid hs.toArray wanted=some ({mask:=mask,place:=((((Nt (mask+1)).filterMap λj=>(O.getD j none).map (j, ·)).map (·.1)).toArray),dummies:= #[],finger:=t.finger,led:=t.led,moves:=t.movedTo mask,plain:=t.plain},(((Nt (mask+1)).filterMap λj=>(O.getD j none).map (j, ·)).map (·.2)).toArray):=by unfold SetTable.relaid SetTable.laid;rw[f,e];rfl
 rw[k];generalize((Nt (mask+1)).filterMap λj=>(O.getD j none).map (j, ·))=live at*;have g:=List.pairwise_lt_range.sublist l
 have P:(live.map (·.2)).Perm (Nt hs.length):=by
  refine(OM ?_ List.nodup_range).mpr λq=>?_
  ·rw[Yh]at g;unfold List.Nodup;rw[Yh];refine g.imp_of_mem λ{a b} v A w z=>?_;have n:=H b A;rw[<-z]at n;have:=x.inj _ _ _ (H a v) n;omega
  ·rw[Z8,Zq];constructor
   ·rintro⟨y,m,rfl⟩;exact(x.ok _ _ (H y m)).1
   ·intro s;obtain⟨j,d⟩:=x.all q s;exact⟨(j,q),c j q d,rfl⟩
 have G:live.length=hs.length:=by have:=P.length_eq;simpa using this
 have B:((live.map (·.2)).filterMap (hs[·]?)).length=hs.length:=by rw[(P.filterMap (hs[·]?)).length_eq];have:=Qj hs.toArray;simpa using ZX Oj this
 refine⟨_,_,rfl,P,rfl,rfl,rfl,A6 g,?_,r,?_,Bk live λy m=>?_⟩
 ·rw[B];simpa using G
 ·unfold PY PJ;refine ZG ?_;simp;omega
 ·obtain⟨_,h,u,n⟩:=x.ok _ _ (H y m);exact⟨h,u,n.mono λj ⟨q,s⟩=>Zq.mpr ⟨(j,q),c j q s,rfl⟩⟩
end Py
variable {ow:Py.dA}
namespace Py
noncomputable def fg(w:NG):Bool:=w.params.followText "set-order"
theorem IP(v:Np)(fin:R (.ref s.heap.objs.size) {s with heap:=s.heap.push (cO (!fg w))}):codeAny (model prog w) A (.call (.builtin "set.__new__") ⟨[.type "set",v],[]⟩) (wants R E) s:=by
 refine QE (Za (m:=checkBuiltinCall "set.__new__" ⟨[.type "set",v],[]⟩) (RF (F.newCall_set_1 v) (Zd ⟨OL F.plain_set_new _,Z9 F.entry_set_new ?_⟩)));rw[Z4 F.plain_set_new _];have S:=sub_set_self;unfold N8.«set.__new__» Builtin.Frozenset.newClass;cases s;dsimp only
 wp_walk
 exact OZ (Zd (Za (RE (Zd (Zd fin)))))
open SetTable (Probe turns)
abbrev cP(prog:Nu)(w:NG)(h:Ny)(k:Li)(a:Nn):Prop:=IsTupleKey (intKind prog w) h k a
abbrev hK(prog:Nu)(w:NG)(k:Li):Int:=tupleKeyHash (intKind prog w) k
theorem cP.kept{k:Li}(x:cP prog w h k a)(K:∀o,h.get? a=some o->h'.get? a=some o):cP prog w h' k a:=by obtain⟨o,items,n,g,r⟩:=x;exact⟨o,_,n,K o g,r⟩
theorem Bl{k:Li}{vs:Lv}(h:ItemsAre (intKind prog w) k vs):∀v∈vs,∃i t,v=.int i t:=by
 induction h with
 |nil=>simp_all
 |cons a _ I=>
  intro v H;rcases Zi.mp H with rfl|H
  ·obtain⟨t,b⟩:=PV a;simp_all
  simp_all
theorem Bm{k:Li}{Q:Bool->Nm->Prop}(x:cP prog w s.heap k a)(q:Q Nl s):wpAny (model prog w) A (ofAClassStatement 8 (.ref a)) Q E s:=by
 have c:=x.typeIs;obtain⟨o,items,n,f,_,d,e⟩:=x;have h:=Bl e;unfold ofAClassStatement;refine Za (OW c ?_);refine Za (Zd ?_);refine Za (Z7 f d ?_);refine Za ?_;rw[<-SA];refine OX _ (λR r S=>r.1=none/\S=s/\∀v∈R,∃i t,v=Pd i t) _ ?_ ?_ _ _ ⟨rfl,rfl,h⟩
 ·rintro v R r S ⟨H,rfl,b⟩;obtain⟨i,t,rfl⟩:=b v Ze;exact Zd ⟨rfl,rfl,λu g=>b u (Zc _ g)⟩
 ·rintro⟨j,l⟩ S ⟨H,rfl,_⟩;subst H;exact Zd q
theorem Bn{k:Li}{Q:Bool->Nm->Prop}(x:cP prog w s.heap k a)(q:Q Nk s):wpAny (model prog w) A (hashByValue 8 (.ref a)) Q E s:=by
 have c:=x.typeIs;obtain⟨o,items,n,f,_,d,e⟩:=x;have h:=Bl e;refine Za (wpAny_specialOf c F.slot_tuple_hash.lookup ?_);refine Za (Z7 f d ?_);refine Za ?_;rw[<-SA];refine OX _ (λR r S=>r.1=none/\S=s/\∀v∈R,∃i t,v=Pd i t) _ ?_ ?_ _ _ ⟨rfl,rfl,h⟩
 ·rintro v R r S ⟨H,rfl,b⟩;obtain⟨i,t,rfl⟩:=b v Ze;exact Zd ⟨rfl,rfl,λu g=>b u (Zc _ g)⟩
 ·rintro⟨j,l⟩ S ⟨H,rfl,_⟩;subst H;exact Zd q
theorem uM{k:Li}{b:Nn}(x:cP prog w s.heap k b)(l:Lv){Q:Bool->Nm->Prop}(e:∀v∈l,∃K a,v=.ref a/\cP prog w s.heap K a)(q:Q Nl s):wpAny (model prog w) A (searchCouldBeSeen (.ref b) l) Q E s:=by
 refine Za ?_;refine OX _ (λR r S=>r.1=none/\S=s/\∀v∈R,v∈l) _ ?_ ?_ _ _ ⟨rfl,rfl,λ_ h=>h⟩
 ·rintro v R r S ⟨c,rfl,d⟩;obtain⟨K,a,rfl,y⟩:=e v (d v Ze);have g:=λu f=>d u (Zc _ f);by_cases H:(b==a||carriedByValue (.ref b)&&carriedByValue (.ref a))=Nk
  ·rw[if_pos H];exact Zd ⟨rfl,rfl,g⟩
  ·rw[if_neg H];refine Za (Tp x ?_);refine Za (Tp y ?_);exact Za (Bm x (Za (Bm y (Zd ⟨rfl,rfl,g⟩))))
 ·rintro⟨i,j⟩ S ⟨c,rfl,_⟩;subst c;exact Zd q
end Py
namespace Py
open SetTable (Probe turns)
theorem Bo{t:NF}(f:iz t.place){hashAt:Nat->Int}{h:Int}{p:Nat->Probe}{n:Nat}(b:∀m,m<n->(p m).j∈t.place.toList):∀(d m:Nat),n-m=d->m<=n->
  ∃M,m<=M/\M<=n/\(∀i,m<=i->i<M->∃q,t.slot (p i).j=.live q/\hashAt q≠h)/\(M=n\/∃q,t.slot (p M).j=.live q/\hashAt q=h)
 |0,m,e,a=>⟨m,Zh _,a,λi c H=>by grind,.inl (by grind)⟩
 |d+1,m,e,a=>by
  obtain⟨q,_,_,l⟩:=Bf f (b m (by omega));by_cases z:hashAt q=h
  ·exact⟨m,Zh _,a,λi c H=>by lia,.inr ⟨q,l,z⟩⟩
  ·obtain⟨M,c,H,o,g⟩:=Bo f b d (m+1) (by grind) (by lia);refine⟨_,by lia,H,λi j k=>?_,g⟩
   grind
noncomputable def bj(prog:Nu)(w:NG)(c:Li×Nn):Int×Np:=(hK prog w c.1,.ref c.2)
theorem om:∀m∈[7,31,127],(m%2==0)=Nl:=by decide
theorem IQ{b:Nn}{t:NF}(g:s.heap.get? a=some o)(d:o.data=.set (cs.map (bj prog w)).toArray ep t)(x:Tk t (cs.map λc=>hK prog w c.1))(key:∀c∈cs,cP prog w s.heap c.1 c.2)
  {k:Li} (hx:cP prog w s.heap k b) (hu:A.units<cLine)  (hn:n<10*turns t.mask) (D:(pos t.mask (eX t.mask (hK prog w k)) n).j∉t.place.toList) (O:∀m,m<n->(pos t.mask (eX t.mask (hK prog w k)) m).j∈t.place.toList)
  {Q:SetFound->Nm->Prop} (T:k∈cs.map (·.1)->Q (.there none) s) (F:k∉cs.map (·.1)->Q (.free (pos t.mask (eX t.mask (hK prog w k)) n).j Nl) s):
  ∀(f m:Nat) (st:Option Probe),n-m<f->m<=n->st.getD (t.probeStart (hK prog w k))=pos t.mask (eX t.mask (hK prog w k)) m->(∀i,i<m->∀(q:Nat) (c),t.slot (pos t.mask (eX t.mask (hK prog w k)) i).j=.live q->cs[q]?=some c->c.1≠k)->
   wpAny (model prog w) A (setSearchFrom a (.ref b) (hK prog w k) Nk f st) Q E s:=by
 have hsz:(cs.map (bj prog w)).toArray.size=(cs.map λc=>hK prog w c.1).length:=by simp
 have P:t.fits (cs.map (bj prog w)).toArray.size=Nk:=by rw[hsz];exact x.fits.2
 have hpl:t.place.size=cs.length:=by rw[x.siz,Zl]
 have X:∀q:Nat,(cs.map (bj prog w)).toArray[q]?=cs[q]?.map (bj prog w):=λq=>by simp
 generalize hP:(λm=>pos t.mask (eX t.mask (hK prog w k)) m)=p;have H:∀m,pos t.mask (eX t.mask (hK prog w k)) m=p m:=λm=>congrFun hP m;intro f
 induction f with
 |zero=>intro m st h;omega
 |succ f ih=>
  intro m st hf hm hst Y;obtain⟨M,h1,h2,h3,h4⟩:=Bo (hashAt:=λi=>(((cs.map (bj prog w)).toArray[i]?).map (·.1)).getD 0) (h:=hK prog w k) x.ris (p:=p) (n:=n) (λm hm=>by rw[<-H];exact O m hm) (n-m) m rfl hm;have K:∀i,pos t.mask (p m) i=p (m+i):=λi=>by rw[<-H,<-H,ja]
  obtain⟨g1,g2⟩:=Bh (t:=t) (hashAt:=λi=>(((cs.map (bj prog w)).toArray[i]?).map (·.1)).getD 0) (h:=hK prog w k) (M-m) (10*turns t.mask) (p m) (by omega) (by rw[<-H,uK];rfl) (λi hi=>by rw[K];exact h3 (m+i) (by omega) (by omega));rw[K,show m+(M-m)=M by omega]at g1 g2;rw[K,show m+(M-m+1)=M+1 by omega]at g2;have U:∀(q:Nat) (c),cs[q]?=some c->(((cs.map (bj prog w)).toArray[q]?).map (·.1)).getD 0=hK prog w c.1:=λq c e=>by rw[X,e];rfl
  unfold setSearchFrom;refine Za (NR g d P ?_);dsimp only;refine Pw ?_;rw[if_neg (by unfold SetTable.gaveWay;rw[om _ x.msk];decide),hst,H];generalize hz:t.probe _ _ _=met;rcases h4 with rfl| ⟨q,I,hh⟩
  ·have V:t.slot (p M).j=.empty:=Bg x.dum (by rw[<-H];exact D);have e:met=some (.empty (p M).j none):=hz.symm.trans (g1 V);subst e;dsimp only;rw[H]at F;refine Zd (F λL=>?_);obtain⟨c,hc,rfl⟩:=Zq.mp L;obtain⟨q,I,e⟩:=ZL.mp hc;have hqp:q<t.place.size:=by omega
   have j:=Be x.ris hqp;have l:cs[q]?=some c:=by rw[Zf I,e]
   obtain⟨N,e0,f0⟩:=x.fnd (hK prog w c.1,t.place[q]) (by refine ZL.mpr ⟨q,by simp;omega,?_⟩;simp[e]);have e0:(p N).j=t.place[q]:=by rw[<-H];exact e0
   have hin:(p N).j∈t.place.toList:=by rw[e0];simp
   have hlt:N<M:=by
    by_cases z:N<M
    ·exact z
    ·by_cases zz:N=M
     ·subst zz;exact absurd (by rw[H];exact hin) D
     ·exact absurd (f0 M (by omega)) D
   rw[<-e0]at j;by_cases zz:N<m
   ·exact Y N zz q c (by rw[H];exact j) l rfl
   ·obtain⟨q',Z,C⟩:=h3 N (by omega) hlt;rw[j]at Z;cases Z;exact C (U q c l)
  ·have e:met=some (.candidate (p M).j q (p (M+1))):=hz.symm.trans (g2 q I hh);subst e;dsimp only
   have hmn:M<n:=by
    by_cases z:M=n
    ·subst z;rw[Bg x.dum (by rw[<-H];exact D)]at I;cases I
    ·omega
   obtain⟨q',hq1,hq2,hq3⟩:=Bf x.ris (O M hmn);rw[H,I]at hq3;cases hq3;have hqc:q<cs.length:=by omega
   obtain⟨c,l⟩:∃c,cs[q]?=some c:=⟨_,Zf hqc⟩;have G:=Zo l;have hy:=key c G;have W:(cs.map (bj prog w)).toArray[q]?=some (hK prog w c.1,.ref c.2):=by rw[X,l];rfl
   have R:wpAny (model prog w) A (do
     let some (_,y):=(cs.map (bj prog w)).toArray[q]? |unsupported "internal:set-entry"
     let u <-holding [y] (eqBool y (.ref b))
     let(es',_,t') <-setState a
     if Nk&&u then return SetFound.there none
     let some same:=t'.sameMemory t.moves t.mask|unsupported "set.changed-during-lookup:is-the-new-block-at-the-old-address"
     let S <-match(if same then t'.slot (p M).j else .empty)with
      | .live i'=>match es'[i']? with
       |some (_,y')=>do pure (if <-isSame y' y then some i' else none)
       |none=>pure none
      |_=>pure none
     match S with
     |none=>rule "set.search.anew";setSearchFrom a (.ref b) (hK prog w k) Nk f none
     |some i'=>if u then return .there (some i')else setSearchFrom a (.ref b) (hK prog w k) Nk f (some (p (M+1)))) Q E s:=by
    rw[W];dsimp only;refine Za (ZE (wpAny_eqBool_tuple hu hy hx ?_));refine Za (NR g d P ?_);dsimp only;by_cases L:c.1=k
    ·rw[ZW L];exact Zd (T (Zq.mpr ⟨c,G,L⟩))
    ·rw[ZG L];have hsm:t.sameMemory t.moves t.mask=some Nk:=by unfold SetTable.sameMemory;rw[if_pos (beq_self_eq_true _)]
     rw[hsm];dsimp only;simp only[Bool.and_false,Zu,Z6,if_true];rw[I];dsimp only;rw[W];dsimp only;refine Za (wpAny_isSame_ref_self (Za (Zd ?_)));rw[if_pos rfl];dsimp only;refine ih (M+1) (some (p (M+1))) (by omega) (by omega) (by rw[H];rfl) λi hi q' c' B r=>?_;rw[H]at B;by_cases z:i<m
     ·exact Y i z q' c' (by rw[H];exact B) r
     ·by_cases zz:i=M
      ·subst zz;rw[I]at B;cases B;rw[l]at r;cases r;exact L
      ·obtain⟨q2,J,C⟩:=h3 i (by omega) (by omega);rw[B]at J;cases J;rw[U _ _ r]at C;exact λe=>C (by rw[e])
   by_cases hl:t.led=Nk
   ·rw[hl];exact R
   ·rw[QU.mpr hl];refine Pw ?_;rw[if_pos (by decide)];refine Za (uM hx _ (λv hv=>?_) ?_)
    ·obtain⟨e,he,rfl⟩:=Zq.mp hv;have he2:=(Array.mem_filter.mp (Sd.mp he)).1;have he3:e∈cs.map (bj prog w):=by simpa using he2
     obtain⟨c2,r,rfl⟩:=Zq.mp he3;exact⟨c2.1,c2.2,rfl,key c2 r⟩
    ·exact R
end Py
namespace Py
open SetTable (Probe turns)
def IS(prog:Nu)(w:NG)(h:Ny)(a:Nn)(cs:List (Li×Nn)):Prop:=∃o ep t,h.get? a=some o/\o.ExactSet/\o.data=.set (cs.map (bj prog w)).toArray ep t/\t.led=(!fg w)/\t.plain=Nk/\Tk t (cs.map λc=>hK prog w c.1)
structure dB (prog:Nu)(w:NG)(h:Ny)(a:Nn)(cs:List (Li×Nn)):Prop where
 obj:IS prog w h a cs
 key:∀c∈cs,cP prog w h c.1 c.2
 nod:(cs.map (·.1)).Nodup
theorem dB.kept(x:dB prog w h a cs)(k:∀b o,h.get? b=some o->(b=a\/∃c∈cs,b=c.2)->h'.get? b=some o):dB prog w h' a cs:=by obtain⟨⟨o,E,t,g,r⟩,y,z⟩:=x;exact⟨⟨o,_,t,k a o g (.inl rfl),r⟩,λc H=>(y c H).kept λo e=>k _ o e (.inr ⟨c,H,rfl⟩),z⟩
theorem Bp{t t':NF}(g:h.get? a=some o)(E:o.ExactSet)(d:o.data=.set es ep t):
  ∃o',(h.update a (PR es' t')).get? a=some o'/\o'.ExactSet/\o'.data=.set es' (ep+1) t':=by
 have e:(h.update a (PR _ t')).get? a=some _:=ZQ _ g (by rw[SM es' _ d];rfl);rw[SM _ _ d]at e;exact⟨_,e,E,rfl⟩
theorem oo{t:NF}{Q:Unit->Nm->Prop}(g:s.heap.get? a=some o)(r:o.ExactSet)(d:o.data=.set (cs.map (bj prog w)).toArray ep t)(F:t.fits cs.length=Nk)
  (b:ef (NI wanted-1)) (v:cs.length*5<(NI wanted-1)*3) (hw:NI wanted<=128) (l:t.led=(!fg w)) (pl:t.plain=Nk)
  (fin:∀h' C,NY a s.heap h'->C.Perm cs->IS prog w h' a C->Q () {s with heap:=h'}):wpAny (model prog w) A (setRelay a wanted) Q E s:=by
 have f:t.fits (cs.map (bj prog w)).toArray.size=Nk:=by rw[Zv,Zl];exact F
 obtain⟨T,O,j,P,k,m,x⟩:=IM (t:=t) (hs:=cs.map λc=>hK prog w c.1) (wanted:=wanted) b (by rw[Zl];exact v);rw[Zl]at P;have p:(O.toList.filterMap (cs[·]?)).Perm cs:=by refine(P.filterMap _).trans (.of_eq ?_);have:=Qj cs.toArray;simpa using this
 have X:Tk T ((O.toList.filterMap (cs[·]?)).map λc=>hK prog w c.1):=by
  have:O.toList.filterMap ((cs.map λc=>hK prog w c.1)[·]?)=(O.toList.filterMap (cs[·]?)).map λc=>hK prog w c.1:=by rw[SN];exact ZX (Qv · _) (funext λi=>Z2)
  rw[<-this];exact x
 have n:O.filterMap ((cs.map (bj prog w)).toArray[·]?)=((O.toList.filterMap (cs[·]?)).map (bj prog w)).toArray:=by apply Rp;rw[RJ,SN];refine ZX (Qv · _) (funext λi=>?_);rw[Sb,Z2]
 have u:(cs.map (bj prog w)).toArray.map (·.1)=(cs.map λc=>hK prog w c.1).toArray:=by rw[List.map_toArray,ZY];rfl
 unfold setRelay;refine Za (NR g d f ?_);dsimp only;refine Pw ?_;rw[if_neg (by rw[N5];omega),u,j];refine Za ?_;show wpAny _ _ (if((O.filterMap ((cs.map (bj prog w)).toArray[·]?)).size !=(cs.map (bj prog w)).toArray.size)=Nk then _ else _) _ _ _;rw[n];generalize O.toList.filterMap (cs[·]?)=C at p X
 have h:(C.map (bj prog w)).toArray.size=(cs.map (bj prog w)).toArray.size:=by rw[Zv,Zv,Zl,Zl,p.length_eq]
 rw[h,bne_self_eq_false,if_neg (by decide)];refine Zd (Qe g d ?_ ?_)
 ·obtain⟨o1,G,e,d1⟩:=Bp (es':=(C.map (bj prog w)).toArray) (t':=T) g r d;exact fin _ C (ZZ ..) p ⟨o1,_,T,G,e,d1,k.trans l,m.trans pl,X⟩
 ·refine Qf ?_;rw[Zv,Zl,p.length_eq];unfold scanBound;have:=(by simpa[ef]using b:NI wanted-1=7\/NI wanted-1=31\/NI wanted-1=127);omega
theorem Bq{b:Nn}{k:Li}{Q:Bool->Nm->Prop}(x:dB prog w s.heap a cs)(hx:cP prog w s.heap k b)(hu:A.units<cLine)(few:cs.length<76)
  (fin:∀h' C r,NY a s.heap h'->dB prog w h' a C->(∀K,K∈C.map (·.1)↔K∈cs.map (·.1)\/K=k)->(∀c∈C,c∈cs\/c=(k,b))->C.length<=cs.length+1->Q r {s with heap:=h'}):
  wpAny (model prog w) A (setAddHashed a (.ref b) (hK prog w k)) Q E s:=by
 obtain⟨o,ep,t,g,ex,d,M,W,T⟩:=x.obj;have N:∀{K:Li} {Y:Nn},cP prog w s.heap K Y->Y≠a:=λ{K Y} y e=>by obtain⟨o',_,_,g',_,d',_⟩:=y;subst e;rw[g]at g';cases g';rw[d]at d';cases d'
 have F:t.fits (cs.map (bj prog w)).toArray.size=Nk:=by have:=T.fits.2;rw[Zl]at this;rw[Zv,Zl];exact this
 have hsz:t.place.size=cs.length:=by rw[T.siz,Zl]
 obtain⟨n,hn,J,B⟩:=IE T.msk (pl:=t.place.toList) (by rw[ZI];exact T.fits.1) (hK prog w k);have hmsk:=(by simpa[ef]using T.msk:t.mask=7\/t.mask=31\/t.mask=127);unfold setAddHashed setAddHashedIn;refine ZE (Za (NR g d F ?_));dsimp only;refine Pw ?_;rw[if_neg (show ¬byScan (.ref b) (cs.map (bj prog w)).toArray=Nk by unfold byScan;rw[show(NB b).scannable=Nl from rfl];simp)];unfold setSearch;refine Za (IQ g d T x.key hx hu hn J B (λhin=>?_) (λL=>?_) 100000 0 none (by unfold turns at hn;omega) (Ya _) rfl (λi hi=>by omega))
 ·exact Zd (fin s.heap cs Nl (RC ..) x (λK=>⟨.inl,λz=>z.elim id λe=>e▸hin⟩) (λc l=>.inl l) (Sw _))
 ·dsimp only;refine Za (NR g d F ?_);dsimp only;obtain⟨p1,p2,O,R,p5,V,p7,p8⟩:=T.put J B;generalize(pos t.mask (eX t.mask (hK prog w k)) n).j=j at*;rw[Zl]at O;refine Pw ?_;rw[if_pos (show(t.put j).1.plain=Nk from V.trans W)];refine Za (Bn hx ?_);simp only[if_true];generalize hput:t.put j=r at*;obtain⟨u,p⟩:=r;dsimp only at p1 p2 O R p5 V p7 p8⊢;have Z:Nz (cs.map (bj prog w)).toArray p (hK prog w k,NB b)=((cs.take p++(k,b)::cs.drop p).map (bj prog w)).toArray:=by apply Rp;rw[PK,OB,Yc,P6,OU];rfl
  have hhs:(cs.take p++(k,b)::cs.drop p).map (λc=>hK prog w c.1)=(cs.map λc=>hK prog w c.1).take p++hK prog w k::(cs.map λc=>hK prog w c.1).drop p:=by rw[OB,Yc,P6,OU]
  rw[<-hhs]at p8;rw[Z];have pm:(cs.take p++(k,b)::cs.drop p).Perm ((k,b)::cs):=by refine Pm.trans (.cons _ (.of_eq (Se p cs)))
  generalize cs.take p++(k,b)::cs.drop p=f at p8 pm⊢;have H:f.length=cs.length+1:=by rw[pm.length_eq,ZM]
  have jj:(f.map (bj prog w)).toArray.size<scanBound:=by rw[Zv,Zl];unfold scanBound;omega
  have G:(cs.map (bj prog w)).toArray.size=cs.length:=by simp
  refine Za (Qe g d ?_ (Qf jj));obtain⟨o1,g1,v,d1⟩:=Bp (es':=(f.map (bj prog w)).toArray) (t':=u) g ex d;have S:=ZZ s.heap a (PR (f.map (bj prog w)).toArray u)
  have D:∀h' C,NY a s.heap h'->C.Perm f->IS prog w h' a C->Q Nk {s with heap:=h'}:=λh' C X q ob=>by
   have P:=q.trans pm
   have pk:∀c∈C,c∈cs\/c=(k,b):=λc l=>by
    rcases Zi.mp (P.mem_iff.mp l)with e|e
    ·exact .inr e
    ·exact .inl e
   refine fin h' C Nk X ⟨ob,λc l=>?_,?_⟩ (λK=>?_) pk (by rw[P.length_eq];exact Zh _)
   ·have y:cP prog w s.heap c.1 c.2:=by
     rcases pk c l with e|e
     ·exact x.key c e
     ·rw[e];exact hx
    exact y.kept λo e=>by rw[X.2 c.2 (N y)];exact e
   ·refine((P.map (·.1)).nodup_iff).mpr ?_;rw[Yc,Oh];exact⟨L,x.nod⟩
   ·rw[(P.map (·.1)).mem_iff,Yc,Zi];exact Or.comm
  have h:u.fill=cs.length+1:=by unfold PJ;rw[O,p1];rfl
  cases U:u.tooFull with
  |false=>rw[if_neg (by decide)];refine Zd (D _ f S (.refl _) ⟨o1,_,u,g1,v,d1,p5.trans M,V.trans W,p1,p2,by rw[Zl,O,H],by rw[R];exact T.msk,U,by rw[R];exact p8⟩)
  |true=>
   rw[if_pos (by decide),G];refine Za ?_;have hfull:(cs.length+1)*5>=t.mask*3:=by unfold PY at U;rw[h,R]at U;exact ZV U
   have hnot:¬(cs.length*5>=t.mask*3):=by have:=T.ful;unfold PY PJ at this;rw[T.dum,hsz]at this;exact of_decide_eq_false this
   have I:u.fits f.length=Nk:=by
    unfold Rc;rw[h,O,H,R];have:cs.length+1<=t.mask:=by omega
    simp[this]
   have l:cs.length+1=5\/cs.length+1=19:=by omega
   refine oo (s:={s with heap:=s.heap.update a (PR (f.map (bj prog w)).toArray u)}) (cs:=f) g1 v d1 I ?_ ?_ ?_ (p5.trans M) (V.trans W) λh' C X q ob=>Zd (D h' C (S.trans X) q ob)
   ·rcases l with e|e<;>rw[e]<;>(unfold ef;decide+kernel)
   ·rw[H];rcases l with e|e<;>rw[e]<;>decide+kernel
   ·rcases l with e|e<;>rw[e]<;>decide+kernel
end Py
namespace Py
noncomputable def h_(e:Int×Np):Int:=match e.2 with
 | .int k _=>k
 |_=>0
section
theorem kJ{l:List (Int×Np)}(h:Tc (intKind prog w) l):∀e∈l,∃t,e.2=.int (h_ e) t:=λe H=>by obtain⟨⟨k,a,_⟩,_⟩:=h e H;obtain⟨t,b⟩:=PV a;refine⟨t,?_⟩;unfold h_;rw[b]
theorem uN{l:List (Int×Np)}(h:Tc (intKind prog w) l)(k:Int):(∃e∈l,(intKind prog w).is k e.2=Nk)↔k∈l.map h_:=by
 rw[Zq];constructor
 ·rintro⟨e,H,b⟩;obtain⟨t,a⟩:=PV b;exact⟨e,H,by unfold h_;rw[a]⟩
 ·rintro⟨e,H,rfl⟩;obtain⟨t,a⟩:=kJ h e H;exact⟨e,H,by rw[a];exact Sg _ _ _ _⟩
variable {R:Qz->Nm->Prop}{P:Nat->Np->Prop}{St:Nat->Ny->Prop}
end
noncomputable def cT(l:Bool)(ks:List Nat):NF:={mask:=if ks.length<=4 then 7 else 31,place:=ks.toArray,dummies:= #[],finger:=0,led:=l,moves:=if ks.length<=4 then 0 else 1,plain:=Nk}
noncomputable def oq:List Nat->List (List Nat)
 | []=>[[]]
 |a::l=>oq l++(oq l).map (a:: ·)
noncomputable def cQ(v:Nat)(ks:List Nat):List Nat:=ks.takeWhile (· <v)++v::ks.dropWhile (· <v)
noncomputable def tP(l:Bool)(v:Nat)(ks:List Nat):NF:=((cT l ks).put v).1
theorem uO:∀led:Bool,∀ks∈oq [0,1,2,3,4,5,6,7],∀v∈[0,1,2,3,4,5,6,7],v∉ks->
  (cT led ks).freeSlot (v:Int)=some (v,Nl)/\((cT led ks).put v).2=(ks.takeWhile (· <v)).length/\(tP led v ks).fits (ks.length+1)=Nk/\(tP led v ks).plain=Nk/\
  ((tP led v ks).tooFull=Nl->tP led v ks=cT led (cQ v ks))/\
  ((tP led v ks).tooFull=Nk->(tP led v ks).relaid ((cQ v ks).map λk:Nat=>(k:Int)).toArray (SO (ks.length+1))=some (cT led (cQ v ks),Si (ks.length+1))/\(cT led (cQ v ks)).fits (ks.length+1)=Nk/\coversAll (Si (ks.length+1)) (ks.length+1)=Nk):=by
 decide+kernel
abbrev p8:List (List Nat):=oq [0,1,2,3,4,5,6,7]
theorem jb:∀ks∈p8,ks.Pairwise (· < ·)/\(∀k∈ks,k<8)/\ks.length<=8/\(∀led:Bool,(cT led ks).fits ks.length=Nk)/\∀v∈[0,1,2,3,4,5,6,7],v∉ks->cQ v ks∈p8:=by decide+kernel
theorem Br:∀v∈[0,1,2,3,4,5,6,7],hashInt (v:Nat)=((v:Nat):Int):=by decide+kernel
theorem kK{v:Nat}(h:v<8):v∈[0,1,2,3,4,5,6,7]:=by exact(by decide:∀n:Fin 8,n.val∈[0,1,2,3,4,5,6,7]) ⟨v,h⟩
theorem kL(v:Nat)(ks:List Nat):ks.take (ks.takeWhile (· <v)).length=ks.takeWhile (· <v)/\ks.drop (ks.takeWhile (· <v)).length=ks.dropWhile (· <v):=by
 have h:ks.takeWhile _++ks.dropWhile (· <v)=ks:=Oo
 grind
noncomputable def kM(k:Nat):Int×Int:=((k:Int),(k:Int))
noncomputable def gw(e:Int×Np):Int×Int:=(e.1,h_ e)
theorem ot{v:Nat}{tok:Tok}(h:es.toList.map gw=ks.map kM):(Nz es (ks.takeWhile (· <v)).length ((v:Int),.int v tok)).toList.map gw=(cQ v ks).map kM:=by rw[PK,OB,Yc,P6,OU,h,<-P6,<-OU,(kL v _).1,(kL v _).2];unfold cQ;rw[OB];rfl
theorem IT(es:Array α):(Si es.size).filterMap (es[·]?)=es:=by apply Rp;rw[RJ,Array.toList_range];exact Qj _
theorem Bs{v:Nat}{x:Np}(b:ks∈p8)(d:v<8)(c:v∉ks)(hs:es.size=ks.length):layNew (cT led ks) es (v:Int) x=(Nz es (ks.takeWhile (· <v)).length ((v:Int),x),tP led v ks,Nl,Nl):=by
 obtain⟨h,H,a,_⟩:=uO _ _ b v (kK d) c;unfold layNew;rw[h];dsimp;have e:(Nz es ((cT led ks).put v).2 (v,x)).size=ks.length+1:=by rw[<-ZI,(P5 _ _ _).length_eq,ZI,To,hs]
 rw[e,<-H];unfold SetTable.orStandIn;rw[show((cT _ _).put v).1.fits _=Nk from a];rfl
theorem ou{e:Array (Int×Np)}{v:Nat}(i:ks∈p8)(l:v<8)(j:v∉ks)(h:e.toList.map gw=(cQ v ks).map kM)(f:(tP led v ks).tooFull=Nk):relayAll (tP led v ks) e (SO e.size)=(e,cT led (cQ v ks),Nl):=by
 obtain⟨_,_,_,_,_,a⟩:=uO _ _ i v (kK l) j;obtain⟨b,c,d⟩:=a f
 have H:e.size=ks.length+1:=by
  have:=ZX Oj h;simp only[Zl,Zl,ZI]at this;have m:(cQ v ks).length=ks.length+1:=by unfold cQ;rw[Zn,ZM,<-RK,<-Zn,Oo]
  simp_all
 have g:e.map (·.1)=((cQ v ks).map λk:Nat=>(k:Int)).toArray:=by apply Rp;rw[Td];have:=ZX (QV (·.1)) h;rw[ZY,ZY]at this;exact this
 dsimp only[relayAll];rw[g,H,b];dsimp;rw[<-H,IT,H,c,d];rfl
structure da (prog:Nu)(w:NG)(h:Ny)(a:Nn)(ks:List Nat)(es:Array (Int×Np)):Prop where
 obj:∃o ep,h.get? a=some o/\o.ExactSet/\o.data=.set es ep (cT (!fg w) ks)
 ent:es.toList.map gw=ks.map kM
 els:Tc (intKind prog w) es.toList
 pow:ks∈p8
theorem da.size(x:da prog w h a ks es):es.size=ks.length:=by have:=ZX Oj x.ent;simp_all
theorem da.kept(x:da prog w h a ks es)(k:∀o,h.get? a=some o->h'.get? a=some o):da prog w h' a ks es:=by obtain⟨⟨o,e,q,r⟩,z,Z,b⟩:=x;exact⟨⟨o,_,k o q,r⟩,z,Z,b⟩
theorem da.born(h:Ny):da prog w (h.push (cO (!fg w))) h.objs.size [] #[]:=⟨⟨_,0,Zk _ rfl,⟨rfl,rfl,rfl⟩,rfl⟩,rfl,λe H=>by simp_all,by decide+kernel⟩
theorem Bt{t t':NF}(g:h.get? a=some o)(E:o.ExactSet)(d:o.data=.set es ep t):
  ∃o',(h.update a (PR es' t')).get? a=some o'/\o'.ExactSet/\o'.data=.set es' (ep+1) t':=by
 have e:(h.update a (PR _ t')).get? a=some _:=ZQ _ g (by rw[SM es' _ d];rfl);rw[SM _ _ d]at e;exact⟨_,e,E,rfl⟩
theorem Bu{v:Nat}{tok:Tok}{Q:Bool->Nm->Prop}(x:da prog w s.heap a ks es)(u:v<8)
  (fin:∀h' K es' b,NY a s.heap h'->da prog w h' a K es'->(∀k,k∈K↔k∈ks\/k=v)->Q b {s with heap:=h'}):
  wpAny (model prog w) A (setAddHashed a (.int v tok) ((intKind prog w).hash v)) Q E s:=by
 obtain⟨⟨o,ep,g,W,d⟩,n,y,C⟩:=id x;have R:=x.size;obtain⟨_,low,len,t,more⟩:=jb ks C;have F:(cT (!fg w) ks).fits es.size=Nk:=by rw[R];exact t _
 have J:es.size<scanBound:=by rw[R];unfold scanBound;omega
 have B:(intKind prog w).is (v:Int) (.int v tok)=Nk:=Sg _ _ _ _
 have G:∀(b:Bool) (z:Nm) (D:Unit->Nm->Prop),D () z->wpAny (model prog w) A (match b with|true=>rule "set.scan.the-table-gave-way"|false=>pure ()) D E z:=λb z D q=>by
  cases b
  ·exact Zd q
  ·exact O' q
 have l:(∃e∈es.toList,(intKind prog w).is (v:Int) e.2=Nk)↔v∈ks:=by
  rw[uN y];have:=ZX (QV (·.2)) n;rw[ZY,ZY]at this;rw[show es.toList.map h_=ks.map λk:Nat=>(k:Int)from this,Zq];constructor
  ·rintro⟨k,B,e⟩;have:k=v:=by omega
   exact this▸B
  ·exact λh=>⟨v,h,rfl⟩
 have H:(intKind prog w).hash (v:Int)=(v:Int):=Br v (kK u);unfold setAddHashed setAddHashedIn;refine ZE (Za (NR g d F ?_));dsimp only;rw[byScan_of (knd:=intKind prog w) rfl J y,if_pos rfl];unfold setAddByScan;refine Za (Za (O' (Za (wpAny_setScan_of B g d F y ?_))));cases V:List.findIdx? (λe=>(intKind prog w).is (v:Int) e.2) es.toList with
 |some j=>obtain⟨Z,hp,_⟩:=List.findIdx?_eq_some_iff_getElem.mp V;have O:=l.mp ⟨_,P' Z,hp⟩;exact Zd (Zd (fin s.heap ks es Nl (RC a s.heap) x λk=>⟨.inl,λz=>z.elim id λe=>e▸O⟩))
 |none=>
  have N:v∉ks:=λz=>by obtain⟨e,Y,q⟩:=l.mpr z;have:=List.findIdx?_eq_none_iff.mp V e Y;rw[q]at this;cases this
  obtain⟨_,_,ft,pl,nf,fu⟩:=uO (!fg w) ks C v (kK u) N;have M:hashByValue 8 (.int v tok)=pure Nk:=hashByValue_scannable 8 rfl
  have i:∀k,k∈cQ v ks↔k∈ks\/k=v:=λk=>by
   unfold cQ;rw[ZP,Zi];have:ks.takeWhile (· <v)++ks.dropWhile (· <v)=ks:=Oo;rw[<-ZX (k∈ ·) this];rw[ZP];constructor
   ·rintro(h|h|h)
    ·exact .inl (.inl h)
    ·exact .inr h
    ·exact .inl (.inr h)
   ·rintro((h|h)|h)
    ·exact .inl h
    ·exact .inr (.inr h)
    ·exact .inr (.inl h)
  have c:=ot (v:=v) (tok:=tok) n;have m:Tc (intKind prog w) (Nz es (ks.takeWhile (· <v)).length ((v:Int),.int v tok)).toList:=by have p:=P5 es (ks.takeWhile (· <v)).length ((v:Int),Pd v tok);rw[SQ]at p;have q:=y.push B (x:=.int v tok) rfl;rw[H]at q;exact q.perm p
  have P:=more v (kK u) N;dsimp only;rw[H,Bs C u N R];generalize Nz es (ks.takeWhile (· <v)).length ((v:Int),Pd v tok)=f at c m⊢
  have jj:f.size<scanBound:=by
   have:=ZX Oj c;rw[Zl,Zl,ZI]at this;have h2:(cQ v ks).length=ks.length+1:=by unfold cQ;rw[Zn,ZM,<-RK,<-Zn,Oo]
   unfold scanBound;omega
  dsimp only;refine Za (G Nl s _ ?_);rw[if_pos pl];refine Za ?_;rw[M];refine Zd ?_;simp only[if_true];refine Za (Qe g d ?_ (Qf jj));obtain⟨o1,L,r,d1⟩:=Bt (es':=f) (t':=tP (!fg w) v ks) g W d;have S:=ZZ s.heap a (PR f (tP (!fg w) v ks));cases U:(tP (!fg w) v ks).tooFull with
  |true=>simp only[Bool.not_false,Bool.and_self,if_true];rw[ou C u N c U];refine Za (G Nl _ _ (Za (Qe L d1 (Zd (Zd ?_)) (Qf jj))));obtain⟨o2,X,I,d2⟩:=Bt (es':=f) (t':=cT (!fg w) (cQ v ks)) L r d1;exact fin _ _ f Nk (S.trans (ZZ _ a _)) ⟨⟨o2,_,X,I,d2⟩,c,m,P⟩ i
  |false=>simp only[Bool.not_false,Bool.and_false,Zu,Z6];rw[nf U]at d1;exact Zd (Zd (fin _ _ f Nk S ⟨⟨o1,_,L,r,d1⟩,c,m,P⟩ i))
section
variable {R:Qz->Nm->Prop}{P:Nat->Np->Prop}{St:Nat->Ny->Prop}
theorem uP(W:Walks prog w A.in1 I fp wr n P St)(S:Nn)(out:S∉fp)(val:Nat->Int)(H:∀i v,P i v->∃t,v=.int (val i) t)(low:∀i,i<n->0<=val i/\val i<8):
  ∀(k i:Nat) (s:Nm) (ks:List Nat) (es:Array (Int×Np)),n-i=k->i<=n->St i s.heap->da prog w s.heap S ks es->(∀k:Nat,k∈ks↔∃j,j<i/\val j=k)->
  (∀h' tk d es',(∀b o,b∉wr->b≠S->s.heap.get? b=some o->h'.get? b=some o)->da prog w h' S d es'->(∀k:Nat,k∈d↔∃j,j<n/\val j=k)->R (.ok (.ret .none)) {s with heap:=h',toks:=tk})->
  codeAny (model prog w) A (.builtin "set.update.loop" ⟨[.ref S,.ref I],[]⟩) R s:=by
 have L:S∉wr:=λz=>out (W.sub S z);intro k
 induction k with
 |zero=>
  intro i s ks es O Q a x y fin;obtain rfl:i=n:=by omega
  exact Z9 O5 (by rw[Z4 N7];exact Za (W.done s _ _ a λh' tk K=>Zd (fin h' tk ks es (λb o N _ e=>K b o N e) (x.kept λo e=>K S o L e) y)))
 |succ k Y=>
  intro i s ks es O Q a x y fin;have lt:i<n:=by omega
  refine Z9 O5 ?_;rw[Z4 N7];refine Za (W.item i s _ _ lt a λv h' tk Z c K=>?_);obtain⟨t,rfl⟩:=H i v Z;have x1:da prog w h' S ks es:=x.kept λo e=>K S o L e;obtain⟨u,J⟩:∃u:Nat,val i=(u:Int):=⟨(val i).toNat,by have:=low i lt;omega⟩;have p:u<8:=by have:=low i lt;omega
  refine Za (m:=holding [Pd (val i) t] (setAdd S (.int (val i) t))) (ZE ?_);unfold setAdd;refine ZE (Za ((intKind prog w).pyHash (k:=val i) (Sg _ _ _ _) ?_));rw[J];refine Bu (s:={s with heap:=h',toks:=tk+1}) x1 p λh2 f E b M x2 l=>?_
  have B:∀k:Nat,k∈f↔∃j,j<i+1/\val j=k:=λk=>by
   rw[l k,y k];constructor
   ·rintro(⟨j,X,e⟩|rfl)
    ·exact⟨j,by omega,e⟩
    ·exact⟨i,by omega,J⟩
   ·rintro⟨j,X,e⟩;by_cases z:j=i
    ·subst z;exact .inr (by omega)
    ·exact .inl ⟨j,by omega,e⟩
  refine Zd ⟨OL N7 _,Y (i+1) _ f E (by omega) lt (W.frame _ _ _ c λb U o e=>?_) x2 B λV D r g q x3 C=>?_⟩
  ·rw[M.2 b λz=>out (z▸U)];exact e
  ·refine fin V D r g (λb o N G e=>q b o N G ?_) x3 C;rw[M.2 b G];exact K b o N e
end
structure Bv (prog:Nu)(w:NG)(A:NX)(s:Nm)(vs:Av)(led:Bool)(Post:Ny->Prop):Prop where
 go:∀{I:Nn} {fp wr:La} {St:Nat->Ny->Prop} {R:Qz->Nm->Prop} (s':Nm),Walks prog w A.in1.in1.in1 I fp wr vs.size (λi v=>vs[i]?=some v) St->s.heap.objs.size∉fp->St 0 s'.heap->(∀b o,(s.heap.push (cO led)).get? b=some o->s'.heap.get? b=some o)->(∀b∈wr,s.heap.objs.size<b)->
   (∀h' tk,(∀b o,b∉wr->b≠s.heap.objs.size->s'.heap.get? b=some o->h'.get? b=some o)->Post h'->R (.ok (.ret .none)) {s' with heap:=h',toks:=tk})->codeAny (model prog w) A.in1.in1 (.builtin "set.update.loop" ⟨[.ref s.heap.objs.size,.ref I],[]⟩) R s'
theorem Bw{t:Nn}{vs:Av}{P:Ny->Prop}(hh:A.handled=none)(B:s.heap.IsList t vs\/s.heap.IsTuple t vs)
  (L:Bv prog w A s vs (!fg w) P)
  (h:∀(h':Ny) (tk:Nat),P h'->(∀b o,b<s.heap.objs.size->s.heap.get? b=some o->h'.get? b=some o)->Q (.ref s.heap.objs.size) {s with heap:=h',toks:=tk}):wpAny (model prog w) A (call (.type "set") [.ref t]) Q E s:=by
 obtain⟨c,tl,Z⟩:=F.called_set.mro;have U:=F.called_set.made;have hsub:=F.called_set.sub;refine Pu (QE ?_);show wpAny _ _ (callAny (.type "set") _) _ _ _;refine Zd ⟨PL _ (by decide+kernel),Z9 F.entry_type_call ?_⟩;rw[Around.under_plain (weight_type_call_type "set" [.ref t] []) rfl];have g1:=F.called_set.notType;have g2:=F.called_set.canCreate;have g3:=F.typeCall_set_1 (.ref t)
 repeat(any_goals (first|assumption|wp_step))
 refine OV (IP (.ref t) (E:=E) (R:=λobj S=>obj=.ref s.heap.objs.size/\S={s with heap:=s.heap.push (cO (!fg w))}) ⟨rfl,rfl⟩) λr S V=>?_;cases r with
 |error e=>exact V
 |ok fl=>
  cases fl with
  |ret obj=>
   obtain⟨rfl,rfl⟩:=V;generalize(!fg w)=l at L⊢;have hS:(s.heap.push (cO l)).get? s.heap.objs.size=some (cO l):=Zk _ rfl;have hT:Rt {s with heap:=s.heap.push (cO l)} (.ref s.heap.objs.size) "set":=⟨_,hS,rfl⟩;have hli:=F.called_set.init.lookup;have hbi:=F.called_set.init.bind (.ref s.heap.objs.size)
   repeat(any_goals (first|assumption|wp_step))
   refine OV (OT (R:=wants (λr q=>r=.none/\∃h' tk,q={s with heap:=h',toks:=tk}/\P h'/\
     (∀b o,b<s.heap.objs.size->s.heap.get? b=some o->h'.get? b=some o)) E) F.called_set.init.plain F.entry_set_init (check_set_init_1 hT ?_)) λJ q H=>?_
   ·have D:A.in1.in1.in1.handled=none:=by simp[hh]
    have W:(s.heap.push (cO l)).objs.size=s.heap.objs.size+1:=Ou ..;have G:t<s.heap.objs.size:=by rcases B with⟨_,d,_⟩| ⟨_,d,_⟩<;>exact Zj d
    have n:t≠(s.heap.push (cO l)).objs.size:=by rw[W];exact Zt (P4 G)
    have C:s.heap.objs.size∉[(s.heap.push (cO l)).objs.size,t]:=by rw[W];simp only[Zi,Zy,Ye,not_or];exact⟨Zt (NL _),O9 G⟩
    have x:∀b∈[(s.heap.push (cO l)).objs.size],s.heap.objs.size<b:=λb m=>by rw[W,NW]at m;rw[m];exact NL _
    have p:∀b,b<s.heap.objs.size->b∉[(s.heap.push (cO l)).objs.size]:=λb m z=>by have:=x b z;omega
    rcases B with B|B
    ·obtain⟨⟨I,a,y,O⟩,d,f,nl,g⟩:=B;simp only at f g;subst f;subst g;have k:(s.heap.push (cO l)).get? t=some {cls:=.type "list",dict:=a,data:=.seq vs nl,slots:=O}:=Zb _ d;have q1:=F.sub_list_set;have q2:=F.sub_list_frozenset;have q3:(N3 "list"==N3 "dict")=Nl:=by decide
     have j:(s.heap.push (cO l)).IsList t vs:=⟨_,k,rfl,nl,rfl⟩;unfold N8.«set.__init__» noKeywords Qk;generalize v:pyIter=PI
     wp_walk
     subst v;refine NQ j (Za (Sj ?_));exact L.go _ (Walks.list D _ t n vs) C ⟨⟨_,Zk _ rfl,rfl,rfl⟩,(j.push _)⟩ (λb o e=>Zb _ e) x λh' T X Y=>Zd (Zd ⟨rfl,h',T,rfl,Y,λb o m e=>X b o (p b m) (Zt m) (Zb _ (Zb _ e))⟩)
    ·obtain⟨⟨I,a,y,O⟩,d,f,nl,g⟩:=B;simp only at f g;subst f;subst g;have k:(s.heap.push (cO l)).get? t=some {cls:=.type "tuple",dict:=a,data:=.seq vs nl,slots:=O}:=Zb _ d;have q1:=F.sub_tuple_set;have q2:=F.sub_tuple_frozenset;have q3:(N3 "tuple"==N3 "dict")=Nl:=by decide
     have j:(s.heap.push (cO l)).IsTuple t vs:=⟨_,k,rfl,nl,rfl⟩;unfold N8.«set.__init__» noKeywords Qk;generalize v:pyIter=PI
     wp_walk
     subst v;refine N2 j (Za (Sj ?_));exact L.go _ (Walks.tuple D _ t n vs) C ⟨⟨_,Zk _ rfl,rfl,rfl⟩,(j.push _)⟩ (λb o e=>Zb _ e) x λh' T X Y=>Zd (Zd ⟨rfl,h',T,rfl,Y,λb o m e=>X b o (p b m) (Zt m) (Zb _ (Zb _ e))⟩)
   ·cases J with
    |error e=>exact H
    |ok u=>
     cases u with
     |ret r=>
      obtain⟨rfl,h',tk,rfl,M,N⟩:=H
      repeat(any_goals (first|assumption|wp_step))
      exact h _ _ M N
     |_=>exact H.elim
  |_=>exact V.elim
theorem IU{t:Nn}{vs:Av}(f:A.handled=none)(l:s.heap.IsList t vs\/s.heap.IsTuple t vs)(a:QT vs.toList ns)(low:∀n∈ns,0<=n/\n<8)
  (h:∀(h':Ny) (tk:Nat),(∃ks es,da prog w h' s.heap.objs.size ks es/\∀k:Nat,k∈ks↔(k:Int)∈ns)->
   (∀b o,b<s.heap.objs.size->s.heap.get? b=some o->h'.get? b=some o)->Q (.ref s.heap.objs.size) {s with heap:=h',toks:=tk}):wpAny (model prog w) A (call (.type "set") [.ref t]) Q E s:=by
 have c:vs.size=ns.length:=by exact a.length
 refine Bw f l ⟨λB W out S q m fin=>?_⟩ h;refine uP W _ out _ (λi v y=>a.int_at i v (by simp_all)) (λi j=>low _ (by simp_all)) _ 0 _ _ _ (by omega) (Ya _) S ((da.born _).kept λo e=>q _ o e) (λk=>⟨λz=>(by cases z),λZ=>Z.elim λi Z=>Z.elim λz _=>by omega⟩) λh' u r d K x p=>fin _ _ K ⟨_,_,x,λk=>(p k).trans ⟨λZ=>by obtain⟨i,z,e⟩:=Z;exact(by grind),λz=>by obtain⟨i,g,e⟩:=ZL.mp z;exact⟨i,by omega,by simp_all⟩⟩⟩
theorem dB.born(h:Ny):dB prog w (h.push (cO (!fg w))) h.objs.size []:=⟨⟨_,0,_,Zk _ rfl,⟨rfl,rfl,rfl⟩,rfl,rfl,rfl,rfl,λi j H=>absurd H (Nat.not_lt_zero _),rfl,Ze,rfl,λx b=>by simp_all⟩,λc a=>(by simp_all),.nil⟩
theorem uQ{R:Qz->Nm->Prop}{P:Nat->Np->Prop}{St:Nat->Ny->Prop}(W:Walks prog w A.in1 I fp wr n P St)(S:Nn)(out:S∉fp)(D:∀b∈wr,S<b)(val:Nat->Li×Nn)(p:∀i v,P i v->v=.ref (val i).2)(X:A.in1.units<cLine)(few:n<76):
  ∀(k i:Nat) (s:Nm) (cs:List (Li×Nn)),n-i=k->i<=n->St i s.heap->dB prog w s.heap S cs->(∀j,j<n->cP prog w s.heap (val j).1 (val j).2/\(val j).2<S)->(∀c∈cs,∃j,j<n/\c=val j)->(∀K,K∈cs.map (·.1)↔∃j,j<i/\(val j).1=K)->cs.length<=i->
  (∀h' tk C,(∀b o,b∉wr->b≠S->s.heap.get? b=some o->h'.get? b=some o)->dB prog w h' S C->(∀K,K∈C.map (·.1)↔∃j,j<n/\(val j).1=K)->(∀c∈C,∃j,j<n/\c=val j)->R (.ok (.ret .none)) {s with heap:=h',toks:=tk})->
  codeAny (model prog w) A (.builtin "set.update.loop" ⟨[.ref S,.ref I],[]⟩) R s:=by
 have Y:S∉wr:=λz=>out (W.sub S z);have low:∀b,b<S->b∉wr:=λb g z=>ZO _ (QZ g (D b z));intro k
 induction k with
 |zero=>
  intro i s cs Z e1 a x tup M G len fin;have L:∀c∈cs,c.2<S:=λc H=>let⟨j,h,e⟩:=M c H;e▸(tup j h).2
  obtain rfl:i=n:=by omega
  exact Z9 O5 (by rw[Z4 N7];exact Za (W.done s _ _ a λh' tk d=>Zd (fin h' tk cs (λb o N _ e=>d b o N e) (x.kept λb o e g=>d b o (by rcases g with rfl| ⟨c,H,rfl⟩;exact Y;exact low _ (L c H)) e) G M)))
 |succ k ih=>
  intro i s cs Z e1 a x tup M G len fin;have L:∀c∈cs,c.2<S:=λc H=>let⟨j,h,e⟩:=M c H;e▸(tup j h).2
  have lt:i<n:=by omega
  refine Z9 O5 ?_;rw[Z4 N7];refine Za (W.item i s _ _ lt a λv h' tk pv q d=>?_);obtain rfl:=p i v pv;have x1:dB prog w h' S cs:=x.kept λb o e g=>d b o (by rcases g with rfl| ⟨c,H,rfl⟩;exact Y;exact low _ (L c H)) e;have t:∀j,j<n->cP prog w h' (val j).1 (val j).2/\(val j).2<S:=λj h=>⟨(tup j h).1.kept λo e=>d _ o (low _ (tup j h).2) e,(tup j h).2⟩;refine Za (m:=holding [NB (val i).2] (setAdd S (.ref (val i).2))) (ZE ?_);unfold setAdd;refine ZE (Za (wpAny_pyHash_tuple X (t i lt).1 ?_));refine Bq (s:={s with heap:=h',toks:=tk+((val i).1.length+1)}) x1 (t i lt).1 X (by omega) λh2 f b Q x2 B r bY=>?_
  have J:∀K,K∈f.map (·.1)↔∃j,j<i+1/\(val j).1=K:=λK=>by
   rw[B K,G K];constructor
   ·rintro(⟨j,h,e⟩|rfl)
    ·exact⟨j,by omega,e⟩
    ·exact⟨i,by omega,rfl⟩
   ·rintro⟨j,h,e⟩;by_cases z:j=i
    ·subst z;exact .inr e.symm
    ·exact .inl ⟨j,by omega,e⟩
  refine Zd ⟨OL N7 _,ih (i+1) _ f (by omega) lt (W.frame _ _ _ q λb fb o e=>?_) x2 (λj h=>⟨(t j h).1.kept λo e=>?_,(t j h).2⟩) (λc H=>?_) J (by omega) λh3 U y E x3 O u=>?_⟩
  ·rw[Q.2 b λz=>out (z▸fb)];exact e
  ·rw[Q.2 _ (Zt (t j h).2)];exact e
  ·rcases r c H with z|z
   ·exact M c z
   ·exact⟨i,lt,z⟩
  ·refine fin h3 U y (λb o N V e=>E b o N V ?_) x3 O u;rw[Q.2 b V];exact d b o N e
theorem IV{t:Nn}{vs:Av}{ks:List (Li×Nn)}(G:A.handled=none)(N:A.units+64<cLine)(L:s.heap.IsList t vs\/s.heap.IsTuple t vs)(l:vs.toList=ks.map λc=>NB c.2)(J:∀c∈ks,cP prog w s.heap c.1 c.2)(F:ks.length<76)
  (h:∀(h':Ny) (tk:Nat),(∃cs,dB prog w h' s.heap.objs.size cs/\(∀u,u∈cs.map (·.1)↔u∈ks.map (·.1))/\∀c∈cs,c∈ks)->
   (∀b o,b<s.heap.objs.size->s.heap.get? b=some o->h'.get? b=some o)->Q (.ref s.heap.objs.size) {s with heap:=h',toks:=tk}):wpAny (model prog w) A (call (.type "set") [.ref t]) Q E s:=by
 have r:vs.size=ks.length:=by rw[<-ZI,l,Zl]
 have H:∀i,i<ks.length->ks.getD i ([],0)∈ks/\ks[i]?=some (ks.getD i ([],0)):=λi d=>by rw[Oc,Zf d];exact⟨P' d,rfl⟩
 refine Bw G L ⟨λO W out S x n fin=>?_⟩ h;refine uQ W s.heap.objs.size out n (λi=>ks.getD i ([],0)) (λi v M=>?_) (by show A.units+1+1+1<cLine;omega) (by omega) (vs.size-0) 0 _ [] (by omega) (Ya _) S ((dB.born s.heap).kept λb o e _=>x b o e) (λj I=>?_) (λc f=>by cases f) (λk=>⟨λz=>(by cases z),λZ=>Z.elim λi Z=>Z.elim λz _=>(by omega)⟩) (Zh _) λh' T C K X p m=>fin h' T K ⟨C,X,λk=>(p k).trans ⟨λZ=>Z.elim λi Z=>Z.elim λz e=>?_,λz=>?_⟩,λc f=>(by obtain⟨j,I,e⟩:=m c f;exact(e▸(H j (by omega)).1))⟩
 ·have a:vs.toList[i]?=some v:=by rw[OD];exact M
  rw[l,Z2]at a
  have d:i<ks.length:=by
   by_cases z:i<ks.length
   ·exact z
   ·rw[Qn (by omega)]at a;cases a
  rw[(H i d).2]at a;exact(N_ a).symm
 ·have y:=J _ (H j (by omega)).1;refine⟨y.kept λo e=>x _ o (Zb _ e),?_⟩;obtain⟨o,_,_,g,_⟩:=y;exact Zj g
 ·rw[<-e];exact Zq.mpr ⟨_,(H i (by omega)).1,rfl⟩
 ·obtain⟨c,f,e⟩:=Zq.mp z;obtain⟨i,d,D⟩:=ZL.mp f;refine⟨i,by omega,?_⟩;have:=(H i d).2;rw[Zf d,D]at this;rw[<-N_ this];exact e
theorem IW:bootBuiltins "set"=some (.type "set"):=by decide+kernel
theorem uR:∀{xs:List D},xs.all (aA .int)=Nk->xs=(xs.filterMap cK).map D.int
 | [],_=>rfl
 |x::xs,h=>by
  simp only[OC,ZN]at h;cases x with
  |int i=>simp[cK];rw[<-uR h.2]
  |_=>simp[aA]at h
theorem uS{K:Fg}{mg:GS}{μ:La}{H:Hp}:∀{ns:Li} {vs:List V},ai K mg μ H (ns.map D.int) vs->vs=ns.map V.int
 | [],vs,r=>by subst r;rfl
 |n::ns,vs,r=>by obtain⟨v,w,rfl,R,a⟩:=r.uncons;cases aG R;rw[uS a];rfl
theorem uT:∀(ks acc:List (Li)),acc.Nodup->(ks.foldl (λacc k=>if acc.contains k=Nk then acc else acc++[k]) acc).Nodup/\∀k,k∈ks.foldl (λacc k=>if acc.contains k=Nk then acc else acc++[k]) acc↔k∈acc\/k∈ks
 | [],acc,h=>⟨h,λk=>by simp⟩
 |x::ks,acc,h=>by
  rw[Qi];by_cases z:acc.contains x=Nk
  ·rw[if_pos z];obtain⟨a,b⟩:=uT ks acc h;refine⟨a,λk=>(b k).trans ?_⟩;have:x∈acc:=Ph.mp z;constructor
   ·rintro(h|h)
    ·exact .inl h
    ·exact .inr (Zc _ h)
   ·rintro(h|h)
    ·exact .inl h
    ·rcases Zi.mp h with rfl|h
     ·exact .inl this
     ·exact .inr h
  ·rw[if_neg z];have d:x∉acc:=λh=>z (Ph.mpr h);obtain⟨a,b⟩:=uT ks (acc++[x]) (OF.mpr ⟨h,by simp,λa c b H=>by simp at H;subst H;exact λe=>d (e▸c)⟩);refine⟨a,λk=>(b k).trans ?_⟩;simp[or_assoc]
theorem Bx(ks:List (Li)):(kr ks).Nodup/\∀k,k∈kr ks↔k∈ks:=by obtain⟨a,b⟩:=uT _ _ Qw;exact⟨a,λk=>(b k).trans (by simp)⟩
theorem By{prog:Nu}{w:NG}:∀{k:Li} {its:Lv},Vals (k.map V.int) its->ItemsAre (intKind prog w) k its
 | [],its,r=>by cases r;exact .nil
 |n::k,its,r=>by
  cases r with
  |cons h H=>obtain⟨t,rfl⟩:=h;exact .cons (Sg _ _ _ _) (By H)
theorem ov{k:Li}(I:Inv X pq σ H s)(h:b4 X.K H a (k.map V.int)):cP X.prog X.w s.heap k a:=by obtain⟨i,r,p,_⟩:=I.tuple h;obtain⟨o,g,c,n,d⟩:=p;exact⟨o,_,n,g,c,d,By r⟩
theorem Bz:∀{ks:List (Li×Nn)} {its:Lv},Vals (ks.map λc=>V.ref c.2) its->its=ks.map λc=>NB c.2
 | [],its,r=>by cases r;rfl
 |c::ks,its,r=>by
  cases r with
  |cons h H=>subst h;rw[Bz H];rfl
noncomputable def IX(K:Fg)(H:Hp)(p:Nn)(ks:List (Li×Nn)):Prop:=(c8 K H p (ks.map λc=>V.ref c.2)\/b4 K H p (ks.map λc=>V.ref c.2))/\(∀c∈ks,b4 K H c.2 (c.1.map V.int))/\ks.length<76
theorem oy{p:Nn}{ks:List (Li×Nn)}{E:Vs}{Q:Vs}(g:X.calm=Nk)(n:X.A.units+64<cLine)(I:Inv X pq σ H s)(h:IX X.K H p ks)
  (fin:∀h' tk cs,dB X.prog X.w h' s.heap.objs.size cs->(∀k,k∈cs.map (·.1)↔k∈ks.map (·.1))->(∀c∈cs,c∈ks)->Inv X pq σ H {s with heap:=h',toks:=tk}->(∀b o,s.heap.get? b=some o->h'.get? b=some o)->Q (.ref s.heap.objs.size) {s with heap:=h',toks:=tk}):wpAny (model X.prog X.w) X.A (call (.type "set") [.ref p]) Q E s:=by
 obtain⟨d,m,f⟩:=h
 obtain⟨i,r,P⟩:∃i,Vals _ i/\(s.heap.IsList p i.toArray\/s.heap.IsTuple p i.toArray):=by
  rcases d with d|d
  ·obtain⟨i,r,P,_⟩:=I.list d;exact⟨_,r,.inl P.isList⟩
  ·obtain⟨i,r,P,_⟩:=I.tuple d;exact⟨_,r,.inr P⟩
 exact IV (I.ok.hd g) n P (Bz r) (λc g=>ov I (m c g)) f λh' tk z K=>by obtain⟨_,x,j,l⟩:=z;exact(fin _ _ _ x j l (I.kept λb o e=>K b o (Zj e) e) λb o e=>K b o (Zj e) e)
theorem BA{K:Fg}{mg:GS}{μ:La}{H:Hp}:∀{xs:List D} {vs:List V},xs.all (aA (.seq .int))=Nk->ai K mg μ H xs vs->∃ks:List (Li×Nn),vs=(ks.map λc=>V.ref c.2)/\(∀c∈ks,b4 K H c.2 (c.1.map V.int))/\ks.map (·.1)=xs.map fx
 | [],vs,_,r=>by dsimp only[ai]at r;simp_all
 |x::xs,vs,h,r=>by
  simp only[OC,ZN]at h;obtain⟨v,w,rfl,R,f⟩:=r.uncons;obtain⟨ks,rfl,g,b⟩:=BA h.2 f;cases x with
  |tup d=>
   obtain⟨a,u,rfl,j,q⟩:=bQ R;rw[uR h.1]at q;have e:=uS q;refine⟨(d.filterMap _,a)::ks,rfl,λc i=>?_,by rw[Yc,b];rfl⟩
   grind
  |_=>simp[aA]at h
theorem uU(s:aJ K ⟨mg,F⟩ μ S H)(r:Rep K ⟨mg,F⟩ μ H d v)(e:az S d=some xs)(c:xs.all (aA (.seq .int))=Nk/\xs.length<76):∃p ks,v=.ref p/\IX K H p ks/\ks.map (·.1)=xs.map fx:=by obtain⟨a,vs,rfl,f,R⟩:=fH s r e;obtain⟨ks,rfl,b,h⟩:=BA c.1 R;refine⟨a,_,rfl,⟨f,b,?_⟩,h⟩;have:=ZX Oj h;rw[Zl,Zl]at this;omega
section
variable {R:Qz->Nm->Prop}{P:Nat->Np->Prop}{St:Nat->Ny->Prop}
end
theorem BB{a:Type}(f:Nat->Nat):∀(n k:Nat) (left:List a) (out:Array a),left.length=n->(pickOrder.go f n k left out).toList.Perm (out.toList++left)
 |0,k,left,out,h=>by have:=ZU h;subst this;unfold pickOrder.go;simp
 |n+1,k,left,out,h=>by
  have H:f k%left.length<left.length:=QP _ (by omega);unfold pickOrder.go;rw[Zf _];refine(BB f n _ _ _ (by grind)).trans ?_;rw[SQ,OH];refine List.Perm.append_left _ ?_;have:left=left.take (f k%left.length)++left[f k%left.length]::left.drop (f k%left.length+1):=by simp_all
  rw[List.eraseIdx_eq_take_drop_succ];refine List.Perm.trans ?_ (List.Perm.of_eq this.symm);rw[List.singleton_append];exact Pm.symm
theorem IY(f:Nat->Nat)(xs:Array α):(pickOrder f xs).toList.Perm xs.toList:=by have:=BB f xs.size 0 xs.toList #[] (by simp);simpa[pickOrder]using this
noncomputable def cy(w:NG)(a:Nn)(ep:Nat)(es:Array (Int×Np)):List (Int×Np):=if fg w=Nk then(pickOrder (w.params.setOrder a ep) es).toList else es.toList
noncomputable def bO(w:NG)(ks:List Nat):Nat->Nat
 |0=>0
 |i+1=>if fg w=Nk then 0 else ks.getD i 0+1
theorem kN(w:NG)(a:Nn)(ep:Nat)(es:Array (Int×Np)):(cy w a ep es).Perm es.toList:=by
 unfold cy;split
 ·exact IY _ _
 simp_all
structure TB (w:NG)(t:NF)(n:Nat):Prop where
 fit:t.fits n=Nk
 led:t.led=(!fg w)
 pl:t.plain=Nk
 ris:iz t.place
theorem TB.size{t:NF}(x:TB w t n):n=t.place.toList.length:=by have:=x.fit;unfold Rc at this;simp_all
theorem kO{t:NF}{i:Nat}{Q:Option (Np×Nat)->Nm->Prop}(T:TB w t es.size)(g:s.heap.get? a=some o)(d:o.data=.set es ep t)(p:i<=es.size)
  (fin:Q (((cy w a ep es)[i]?).map λe=>(e.2,bO w t.place.toList (i+1))) s):wpAny (model prog w) A (setNext a (bO w t.place.toList i) i ep) Q E s:=by
 have q:=T.size;have f:=T.fit;unfold setNext;refine Za (NR g d f ?_);dsimp only;refine Za (m:=setsByText) (Za (OZ (Zd ?_)));cases h:fg w with
 |true=>
  have H:w.params.followText "set-order"=Nk:=h;show wpAny _ _ (if(w.params.followText "set-order")=Nk then _ else _) _ _ _;rw[if_pos H];simp only[bne_self_eq_false,Zu,Z6];refine Za ?_;unfold setWalk;refine Za (NR g d f ?_);dsimp only;refine Za (m:=setsByText) (Za (OZ (Zd ?_)));show wpAny _ _ (if(w.params.followText "set-order")=Nk then _ else _) _ _ _;rw[if_pos H];refine Za (OZ (Zd (Zd ?_)));have j:cy w a ep es=(pickOrder (w.params.setOrder a ep) es).toList:=by unfold cy;rw[if_pos h]
  have k:bO w t.place.toList (i+1)=bO w t.place.toList i:=by
   cases i with
   |zero=>simp[bO,h]
   |succ i=>simp[bO,h]
  rw[j,k,OD]at fin;exact fin
 |false=>
  have H:w.params.followText "set-order"=Nl:=h;show wpAny _ _ (if(w.params.followText "set-order")=Nk then _ else _) _ _ _;rw[if_neg (by grind)];refine Pw ?_
  rw[if_neg (λz=>by have z:(!t.plain&&decide (es.size>1))=Nk:=z;rw[T.pl]at z;simp at z)];refine Za ?_;show wpAny _ _ (if(!t.led&& !es.isEmpty)=Nk then _ else pure ()) _ _ _;rw[if_neg (by rw[T.led,h];simp)];refine Zd (Zd ?_);have n:=T.ris;have j:cy w a ep es=es.toList:=by unfold cy;rw[if_neg (by grind)]
  have l:Nv t.place (bO w t.place.toList i)=i:=by
   cases i with
   |zero=>exact IA _ n
   |succ i=>
    have b:i<t.place.size:=by grind
    have e:bO w t.place.toList (i+1)=t.place[i]+1:=by show(if fg w=Nk then 0 else t.place.toList.getD i 0+1)=_;rw[h];simp[b]
    rw[e];exact Iz n _
  rw[j,OD]at fin;rw[l];by_cases b:i<es.size
  ·have c:i<t.place.size:=by grind
   have k:bO w t.place.toList (i+1)=t.place[i]+1:=by show(if fg w=Nk then 0 else t.place.toList.getD i 0+1)=_;rw[h];simp[c]
   rw[NH b]at fin⊢;rw[k]at fin;simpa[c]using fin
  ·rw[RL (by omega)]at fin⊢;exact fin
theorem jc:Slot "set_iterator" "__next__" "set_iterator.__next__":=.of (owner:="set_iterator") (n:="__next__") (by rw[typeLookup_type,Tq];kernel_rfl) (by decide+kernel) (by decide+kernel) (by decide+kernel) (by first|exact .inl (by decide+kernel)|exact .inr (by decide+kernel)) (by rw[Sk];kernel_rfl)
theorem BC:Slot "set_iterator" "__iter__" "set_iterator.__iter__":=.of (owner:="set_iterator") (n:="__iter__") (by rw[typeLookup_type,Tq];kernel_rfl) (by decide+kernel) (by decide+kernel) (by decide+kernel) (by first|exact .inl (by decide+kernel)|exact .inr (by decide+kernel)) (by rw[Sk];kernel_rfl)
theorem IZ:entryFor table "set_iterator.__iter__"=some N8.«dict_keyiterator.__iter__»:=entryFor_alias (id':="dict_keyiterator.__iter__") (rfl) rfl (by decide+kernel) (rfl)
theorem I7(v:Np):argsOk "set_iterator.__iter__" ⟨[v],[]⟩:=by kernel_rfl
theorem BD:entryFor table "set_iterator.__next__"=some N8.«set_iterator.__next__»:=entryFor_of_tree rfl
theorem BE(v:Np):argsOk "set_iterator.__next__" ⟨[v],[]⟩:=by kernel_rfl
theorem I8:entryFor table "set.__iter__"=some N8.«frozenset.__iter__»:=entryFor_alias (id':="frozenset.__iter__") (rfl) rfl (by decide+kernel) (rfl)
def kP(h:Ny)(it a:Nn)(sl i n ep:Nat):Prop:=∃o,h.get? it=some o/\o.cls=.type "set_iterator"/\o.data=.fields #[.int sl 0,.int i 0,.ref a,.int n 0,.int ep 0]
theorem uV{t:NF}(T:TB w t es.size)(g:s.heap.get? a=some o)(e:o.ExactSet)(d:o.data=.set es ep (t))
  (fin:Q (.ref s.heap.objs.size) {s with heap:=s.heap.push {cls:=.type "set_iterator",data:=.fields #[.int 0 0,.int 0 0,.ref a,.int es.size 0,.int ep 0]}}):wpAny (model prog w) A (pyIter (.ref a)) Q E s:=by
 have f:=T.fit;have ty:s.TypeIs (.ref a) _:=⟨o,g,e.1⟩;refine wpAny_pyIter_slot ty F.slot_set_iter (Z0 F.slot_set_iter ty I8 ?_ (F.args_set_iter_1 _));refine Za (Za (Zd (Zd ?_)));refine Za (Za (Q1 g d f (Zd ?_)));refine Za ?_;refine Za (NR g d f ?_);refine Za (Za (OZ (Zd (Zd ?_))))
 rw[if_neg (show ¬_ from λz=>by have z:(!(w.params.followText _)&&(!t.plain&&decide _))=Nk:=z;rw[T.pl]at z;simp at z)];exact Za (Zd (Za (wpAny_setEpoch_of g d f (Za (ZS (Zd ⟨_,rfl,_,_,⟨_,Zk _ rfl,rfl⟩,jc.lookup,fin⟩))))))
theorem oz{t:NF}{i:Nat}{e:Int×Np}{Q:Ov->Nm->Prop}(h:kP s.heap it a (bO w t.place.toList i) i es.size ep)(T:TB w t es.size)(g:s.heap.get? a=some o)(d:o.data=.set es ep (t))
  (f:(cy w a ep es)[i]?=some e) (fin:∀h',kP h' it a (bO w t.place.toList (i+1)) (i+1) es.size ep->NY it s.heap h'->Q (some e.2) {s with heap:=h'}):wpAny (model prog w) A (pyNext (.ref it)) Q E s:=by
 obtain⟨O,G,c,D⟩:=id h;have ty:s.TypeIs (.ref it) "set_iterator":=⟨O,G,c⟩
 have k:i<=es.size:=by have j:=(Zg.mp f).1;rw[(kN w a ep es).length_eq,ZI]at j;omega
 unfold pyNext;refine Za (O3 (Z1 ty jc (Z0 jc ty BD ?_ (BE _))));refine Za (Zd ?_);refine Za (wpAny_fieldsOf G D ?_);dsimp only;refine Za (Q1 g d T.fit ?_);rw[if_neg (by simp)];refine Za ?_;rw[Yi,Yi,Yi];refine kO T g d k ?_;rw[f];refine Za (P7 G D (by simp) ?_);have b:=ZQ (RM (·.setIfInBounds 0 (rawInt (bO w t.place.toList (i+1):Nat)))) G (Qp (Oy D _));have d1:=Oy D (·.setIfInBounds 0 (rawInt (bO w t.place.toList (i+1):Nat)));refine Za (P7 b d1 (by simp) ?_);refine Zd ⟨_,rfl,Zd (fin _ ⟨_,ZQ (RM (·.setIfInBounds 1 (rawInt ((i:Int)+1)))) b (Qp (Oy d1 _)),?_,?_⟩ ((ZZ _ it _).trans (ZZ _ it _)))⟩
 ·rw[Q0,Q0];exact c
 ·rw[Oy d1 (·.setIfInBounds 1 (rawInt ((i:Int)+1)))];simp[rawInt]
theorem uW{t:NF}{Q:Ov->Nm->Prop}(c:A.handled=none)(h:kP s.heap it a (bO w t.place.toList es.size) es.size es.size ep)(T:TB w t es.size)(g:s.heap.get? a=some o)(d:o.data=.set es ep (t))
  (fin:∀h',Sn it s.heap h'->Q none {s with heap:=h'}):wpAny (model prog w) A (pyNext (.ref it)) Q E s:=by
 obtain⟨O,G,C,D⟩:=id h;have ty:s.TypeIs (.ref it) "set_iterator":=⟨O,G,C⟩;unfold pyNext;refine Za (O3 (Z1 (name:=Ol "__next__") ty jc (Z0 jc ty BD ?_ (BE _))));unfold N8.«set_iterator.__next__»;refine Za (Zd ?_);refine Za (wpAny_fieldsOf G D ?_);dsimp only;refine Za (Q1 g d T.fit ?_);rw[if_neg (by simp)];refine Za ?_;rw[Yi,Yi,Yi];refine kO T g d (Zh _) ?_;rw[Qn (by rw[(kN w a ep es).length_eq,ZI];exact Zh _)];dsimp only[Option.map_none];refine Za (P7 G D (by simp) (Za ?_));simp only[newExc,newTuple];refine Za (ZS (Za (m:=firstArgMember _ _) (RF (a:=Nr) (by first|rfl| (simp only[firstArgMember];rfl)) (ZS ?_ (by size_fits)))) (by size_fits));simp only[raiseNew];refine Za (wpAny_handled ?_);rw[show A.in1.handled=none from c];refine Za (Zd (wpAny_throw ?_));exact Za (RA (T:="StopIteration") (b:=Nk) ⟨_,Zk _ rfl,rfl⟩ isSubtype_stop (Zd (fin _ (((ZZ ..).extBut.push _).push _))))
theorem Walks.setC(calm:A.handled=none)(hne:a≠it){t:NF}(T:TB w t es.size)(d:o.data=.set es ep (t)):
  Walks prog w A it [it,a] [it] es.size (λi v=>∃e,(cy w a ep es)[i]?=some e/\v=e.2) (λi h=>kP h it a (bO w t.place.toList i) i es.size ep/\h.get? a=some o) where
 sub:=λb hb=>by simp_all
 frame:=λi h h' st k=>by obtain⟨⟨oi,gi,ri⟩,g⟩:=st;exact⟨⟨_,k _ (by simp) _ gi,ri⟩,k a (by simp) o g⟩
 item:=λi s Q E hi st hQ=>by
  have hl:i<(cy w a ep es).length:=by rw[(kN w a _ _).length_eq];exact hi
  refine oz st.1 T st.2 d (Zf hl) λh' hit' sb=>?_;refine hQ _ _ _ ⟨_,Zf _,rfl⟩ ⟨hit',sb.extBut a o hne st.2⟩ λb o hb e=>sb.extBut b o (λh=>hb (by simp[h])) e
 done:=λs Q E st hQ=>uW calm st.1 T st.2 d λh' he=>hQ _ _ λb o hb e=>he b o (λh=>hb (by simp[h])) e
 self:=λi s Q E st hQ=>by obtain⟨⟨oi,gi,ci,di⟩,_⟩:=st;have ty:s.TypeIs (.ref _) _:=⟨_,gi,ci⟩;exact wpAny_pyIter_slot ty BC (Z0 BC ty IZ (Zd ⟨_,rfl,_,_,ty,jc.lookup,hQ⟩) (I7 _))
theorem BF{t:NF}{Q:Lv->Nm->Prop}(C:A.handled=none)(T:TB w t es.size)(g:s.heap.get? a=some o)(q:o.ExactSet)(d:o.data=.set es ep t)(few:es.size<1000)
  (fin:∀(h':Ny) (tk:Nat) (vs:Lv),(∀b o,s.heap.get? b=some o->h'.get? b=some o)->vs.Perm (es.toList.map (·.2))->Q vs {s with heap:=h',toks:=tk}):wpAny (model prog w) A (collect (.ref a)) Q E s:=by
 have N:=Zj g;unfold collect;refine Za (Sj (Z9 F.entry_proto_collect ?_));rw[Z4 F.plain_proto_collect];refine Za (m:=newList []) (ZS (Zd ⟨OL F.plain_list_iadd _,Z9 F.entry_list_iadd ?_⟩));rw[Z4 F.plain_list_iadd];generalize p:s.heap.objs.size=S;have z:(s.heap.push {cls:=.type "list",data:=.seq ([]:Lv).toArray}).get? S=some {cls:=.type "list",data:=.seq #[]}:=by rw[<-p];exact Zk _ rfl
 have G:(s.heap.push {cls:=.type "list",data:=.seq ([]:Lv).toArray}).get? a=some o:=Zb _ g;have D:∀b o,s.heap.get? b=some o->(s.heap.push {cls:=.type "list",data:=.seq ([]:Lv).toArray}).get? b=some o:=λ_ _ e=>Zb _ e;generalize s.heap.push {cls:=.type "list",data:=.seq ([]:Lv).toArray}=h at z G D⊢;have ty:Rt {s with heap:=h} (.ref a) "set":=⟨o,G,q.1⟩;show wpAny _ A.in1 (QJ (.ref S) (.ref a) (.ref S)) _ _ _;unfold QJ;refine Za (OW ty ?_)
 rw[if_neg (by
  have:S≠a:=by rw[<-p];exact O9 N
  simp[Builtin.List.listSameRef,this])]
 refine Za (uV T G q d ?_);have x:a<h.objs.size:=Zj G;have K:∀b o,h.get? b=some o->(h.push {cls:=.type "set_iterator",data:=.fields #[.int 0 0,.int 0 0,.ref a,.int es.size 0,.int ep 0]}).get? b=some o:=λ_ _ e=>Zb _ e;have k:kP (h.push {cls:=.type "set_iterator",data:=.fields #[.int 0 0,.int 0 0,.ref a,.int es.size 0,.int ep 0]}) h.objs.size a (bO w t.place.toList 0) 0 es.size ep:=⟨_,Zk _ rfl,rfl,rfl⟩;show wpAny _ A.in1 _ _ _ {s with heap:=h.push {cls:=.type "set_iterator",data:=.fields #[.int 0 0,.int 0 0,.ref a,.int es.size 0,.int ep 0]}};generalize h.push {cls:=.type "set_iterator",data:=.fields #[.int 0 0,.int 0 0,.ref a,.int es.size 0,.int ep 0]}=i at K k⊢;have f:Rt {s with heap:=i} (.ref a) "set":=⟨o,K a o G,q.1⟩;refine Za (ZE ?_);unfold Builtin.List.listLengthHint;refine Za (wpAny_specialOf f F.slot_set_len.lookup ?_);have sp:splitId "set.__len__"=some ("set","__len__"):=by decide+kernel
 dsimp only;rw[sp];dsimp only;refine Za (RA (b:=Nk) f (by rw[Sk];kernel_rfl) ?_);rw[if_neg (show ¬((!Nk)=Nk)by decide)];refine Pw ?_;rw[if_pos]
 rotate_left
 ·decide+kernel
 refine Za (OW f (Zd ?_));refine Pw ?_;rw[if_pos]
 rotate_left
 ·decide+kernel
 refine Za (O' ?_);have l:=K S _ z;refine Za (m:=Builtin.List.listTouch (.ref S)) (Za (m:=updateSeq S (·.push .none)) (PN l rfl ?_));have n:=ZQ (ND (·.push Nr)) l rfl;refine PN n rfl ?_;have B:=ZQ (ND (·.pop)) n rfl;have J:∀b o,b≠S->i.get? b=some o->((i.update S (ND (·.push Nr))).update S (ND (·.pop))).get? b=some o:=λb o U e=>(ZH _ _ (Ne.symm U)).trans ((ZH _ _ (Ne.symm U)).trans e);have u:a≠S:=by rw[<-p];exact Zt N
 have v:h.objs.size≠S:=O9 (Zj z);have out:S∉[h.objs.size,a]:=by grind
 have W:=(Walks.setC (A:=A.in1) (prog:=prog) (w:=w) (by simpa using C) (Zt x) (it:=h.objs.size) (o:=o) (ep:=ep) T d).toS;refine Zd ⟨OL F.plain_extend_loop _,codeAny_extend_loopS W (by rw[N5];omega) S out _ es.size 0 _ _ _ rfl (Ya _) ⟨?_,J a o u (K a o G)⟩ B ?_ λs' c c' mv r I=>?_⟩
 ·obtain⟨V,gi,ri⟩:=k;exact⟨V,J _ V v gi,ri⟩
 ·exact ItemsOf.nil _
 ·refine Za (wpAny_load r (Zd ?_));obtain⟨h',g',d',M,L⟩:=s';obtain⟨mh,mg,md,mo,_⟩:=mv;have Y:g'=s.gens:=mg;have eo:L=s.os:=mo;subst Y md eo;refine fin h' M _ (λb O e=>?_) ?_
  ·have hb:=Zj (D b O e);have y:=Zj e;have R:b≠S:=by rw[<-p];exact Zt y
   refine mh b O ?_ (J b O R (K b O (D b O e)));simp only[Zi,Zy,Ye,not_or];exact⟨R,Zt hb⟩
  ·have Z:c.toList=(cy w a ep es).map (·.2):=by
    refine List.ext_getElem? λj=>?_;rw[OD,Z2];have hz:(cy w a ep es).length=es.size:=by rw[(kN w a ep es).length_eq,ZI]
    by_cases P:j<c.size
    ·obtain⟨e,h,i⟩:=I.2 j _ (NH P);rw[NH P,h,i];rfl
    ·have h0:=I.1;rw[RL (by omega),Qn (by omega)];rfl
   rw[Z];exact(kN w a ep es).map _
open PySem PySem.W PyProof.Rows
noncomputable def aC{b:Type}(c:Nat->Nat->Bool):KasT b->b
 | .ret a=>a
 | .ask i j k=>aC c (k (c i j))
noncomputable def eY{a:Type}(n:Nat)(c:Nat->Nat->Bool):KasT a->Prop
 | .ret _=>True
 | .ask i j k=>i<n/\j<n/\eY n c (k (c i j))
theorem jd{a b:Type}(c:Nat->Nat->Bool)(f:a->KasT b):∀t:KasT a,aC c (t.bind f)=aC c (f (aC c t))
 | .ret _=>rfl
 | .ask i j k=>jd c f (k (c i j))
theorem gz{a d:Type}{n:Nat}{c:Nat->Nat->Bool}{f:a->KasT d}:∀{t:KasT a},eY n c t->eY n c (f (aC c t))->eY n c (t.bind f)
 | .ret _,_,h=>h
 | .ask i j k,H,b=>⟨H.1,H.2.1,gz H.2.2 b⟩
theorem Mt{a:Type}{n:Nat}{c:Nat->Nat->Bool}{cmp:Nat->Nat->(Bool->Nm->Prop)->Nm->Prop}{s:Nm}(h:∀i j C,i<n->j<n->C (c i j) s->cmp i j C s){G:a->Nm->Prop}:∀{t:KasT a},eY n c t->G (aC c t) s->t.kasWp cmp G s
 | .ret _,_,g=>g
 | .ask i j k,H,g=>h i j _ H.1 H.2.1 (Mt h H.2.2 g)
structure cX (n:Nat)(c:Nat->Nat->Bool):Prop where
 irr:∀i,i<n->c i i=Nl
 asym:∀i j,i<n->j<n->c i j=Nk->c j i=Nl
 ntr:∀i j k,i<n->j<n->k<n->c i j=Nl->c j k=Nl->c i k=Nl
structure eF (n:Nat)(p:Array Nat):Prop where
 size:p.size=n
 perm:p.Perm (Nt n).toArray
theorem eF.lt{p:Array Nat}(h:eF n p)(c:0<n)(k:Nat):p.getD k 0<n:=by
 unfold Ro;split
 ·rename_i a;have b:p[k]∈p:=SJ a;have H:p[k]∈(Nt n).toArray:=h.perm.mem_iff.mp b;simpa using H
 ·exact c
theorem BG{p q:Array Nat}{i j:Nat}(h:p[i]?=q[j]?):p.getD i 0=q.getD j 0:=by rw[NK,NK,h]
section
variable {c:Nat->Nat->Bool}
def Up(c:Nat->Nat->Bool)(p:Array Nat)(k:Nat):Prop:=∀i,i+1<k->c (p.getD (i+1) 0) (p.getD i 0)=Nl
def Dn(c:Nat->Nat->Bool)(p:Array Nat)(k:Nat):Prop:=∀i,i+1<k->c (p.getD i 0) (p.getD (i+1) 0)=Nl
theorem Up.all(o:cX n c)(H:0<n){p:Array Nat}(P:eF n p){k:Nat}(h:Up c p k):∀d i,i+d<k->c (p.getD (i+d) 0) (p.getD i 0)=Nl:=by
 intro d
 induction d with
 |zero=>intro i a;exact o.irr _ (P.lt H _)
 |succ d I=>intro i a;exact o.ntr _ (p.getD (i+d) 0) _ (P.lt H _) (P.lt H _) (P.lt H _) (h (i+d) (by omega)) (I i (by omega))
theorem Up.le(o:cX n c)(a:0<n){p:Array Nat}(P:eF n p){k:Nat}(h:Up c p k){i j:Nat}(H:i<=j)(b:j<k):c (p.getD j 0) (p.getD i 0)=Nl:=by have:=h.all o a P (j-i) i (by simp_all);simp_all
theorem oA{p:Array Nat}(P:eF n p)(i j:Nat):eF n (kas_rev p i j):=⟨by unfold kas_rev;rw[mirror_size];exact P.size,(mirror_perm _ _ _ _).trans P.perm⟩
theorem gA{p:Array Nat}(P:eF n p){i j k:Nat}(h:j<=n)(H:i<=k/\k<j):(kas_rev p i j).getD k 0=p.getD (i+j-1-k) 0:=BG (by unfold kas_rev;rw[getElem?_mirror_all (by rw[P.size];exact h),if_pos H])
theorem je{p:Array Nat}(P:eF n p){i j k:Nat}(h:j<=n)(H:¬(i<=k/\k<j)):(kas_rev p i j).getD k 0=p.getD k 0:=BG (by unfold kas_rev;rw[getElem?_mirror_all (by rw[P.size];exact h),if_neg H])
theorem uX(H:0<n){p:Array Nat}(P:eF n p):∀(f m:Nat),Up c p m->1<=m->eY n c (kas_asc p f m)/\m<=aC c (kas_asc p f m)/\aC c (kas_asc p f m)<=m+f/\Up c p (aC c (kas_asc p f m))/\
  (aC c (kas_asc p f m)<m+f->c (p.getD (aC c (kas_asc p f m)) 0) (p.getD (aC c (kas_asc p f m)-1) 0)=Nk)
 |0,m,h,g=>⟨trivial,Zh _,Zh _,h,λz=>absurd z (ZO _)⟩
 |f+1,m,h,g=>by
  unfold kas_asc;simp only[eY,aC];cases e:c (p.getD m 0) (p.getD (m-1) 0)with
  |true=>simp only[if_true,aC,eY,and_true];exact⟨⟨P.lt H _,P.lt H _⟩,Zh _,by lia,h,λ_=>e⟩
  |false=>
   simp only[Zu,Z6]
   have d:Up c p (m+1):=λi l=>by
    by_cases z:i+1<m
    ·exact h i z
    ·have:i=m-1:=by lia
     simp_all
   obtain⟨a,j,k,A,b⟩:=uX H P f (m+1) d (by omega);exact⟨⟨P.lt H _,P.lt H _,a⟩,by omega,by omega,A,λz=>b (by omega)⟩
def rS(c:Nat->Nat->Bool)(p:Array Nat)(i j:Nat):Prop:=∀a b,i<=a->a<j->i<=b->b<j->c (p.getD a 0) (p.getD b 0)=Nl
theorem BH{p:Array Nat}(P:eF n p){i j:Nat}(H:j<=n)(h:rS c p i j):rS c (kas_rev p i j) i j:=λa b d e f g=>by rw[gA P H ⟨d,e⟩,gA P H ⟨f,g⟩];exact h _ _ (by omega) (by omega) (by omega) (by omega)
theorem kQ(o:cX n c)(b:0<n){p:Array Nat}(P:eF n p){i j k:Nat}(H:j<=n)(f:k<=n)(h:Dn c p k)(e:rS c p i j):Dn c (kas_rev p i j) k:=λa d=>by
 by_cases Z:i<=a/\a<j
 ·by_cases z:i<=a+1/\a+1<j
  ·exact BH P H e a (a+1) Z.1 Z.2 z.1 z.2
  ·rw[gA P H Z,je P H z];have q:=e (i+j-1-a) a (by omega) (by omega) Z.1 Z.2;exact o.ntr _ _ _ (P.lt b _) (P.lt b _) (P.lt b _) q (h a d)
 ·by_cases z:i<=a+1/\a+1<j
  ·rw[je P H Z,gA P H z];have q:=e (a+1) (i+j-1-(a+1)) z.1 z.2 (by omega) (by omega);exact o.ntr _ _ _ (P.lt b _) (P.lt b _) (P.lt b _) (h a d) q
  ·rw[je P H Z,je P H z];exact h a d
theorem oB(o:cX n c)(H:0<n):∀(f:Nat) (p:Array Nat) (m q:Nat),eF n p->Dn c p m->rS c p (m-(q+1)) m->q+1<=m->m+f<=n->
  eY n c (kas_desc f p m q)/\eF n (aC c (kas_desc f p m q)).1/\Dn c (aC c (kas_desc f p m q)).1 (aC c (kas_desc f p m q)).2.1/\
   rS c (aC c (kas_desc f p m q)).1 ((aC c (kas_desc f p m q)).2.1-((aC c (kas_desc f p m q)).2.2+1)) (aC c (kas_desc f p m q)).2.1/\(aC c (kas_desc f p m q)).2.2+1<=(aC c (kas_desc f p m q)).2.1/\m<=(aC c (kas_desc f p m q)).2.1/\(aC c (kas_desc f p m q)).2.1<=m+f
 |0,p,m,q,P,h,e,u,L=>⟨trivial,P,h,e,u,Zh _,Zh _⟩
 |f+1,p,m,q,P,h,e,u,L=>by
  unfold kas_desc;simp only[eY,aC];cases E:c (p.getD m 0) (p.getD (m-1) 0)with
  |true=>
   simp only[if_true];have as:=o.asym _ _ (P.lt H _) (P.lt H _) E
   have fC:∀(d:Array Nat),eF n d->Dn c d m->c (d.getD (m-1) 0) (d.getD m 0)=Nl->Dn c d (m+1)/\rS c d (m+1-(0+1)) (m+1):=λd r D z=>⟨λi J=>by
    by_cases y:i+1<m
    ·exact D i y
    ·have:i=m-1:=by omega
     subst this;rw[show m-1+1=m by omega];exact z,λa b s t C F=>by
    have:a=m:=by omega
    have:b=m:=by omega
    subst a;subst b;exact o.irr _ (r.lt H _)⟩
   by_cases G:q>0
   ·rw[if_pos G];have r:=oA P (m-(q+1)) m;have D:=kQ o H P (by omega:m<=n) (by omega:m<=n) h e
    have z:c ((kas_rev p (m-(q+1)) m).getD (m-1) 0) ((kas_rev p (m-(q+1)) m).getD m 0)=Nl:=by rw[gA P (by omega) (by omega),je P (by omega) (by omega)];exact o.ntr _ (p.getD (m-1) 0) _ (P.lt H _) (P.lt H _) (P.lt H _) (e _ (m-1) (by omega) (by omega) (by omega) (by omega)) as
    obtain⟨K,v⟩:=fC _ r D z;obtain⟨A,g,j,k,l,w,x⟩:=oB o H f _ (m+1) 0 r K v (by omega) (by omega);exact⟨⟨P.lt H _,P.lt H _,A⟩,g,j,k,l,by omega,by omega⟩
   ·rw[if_neg G];obtain⟨K,v⟩:=fC p P h as;obtain⟨A,g,j,k,l,w,x⟩:=oB o H f p (m+1) 0 P K v (by omega) (by omega);exact⟨⟨P.lt H _,P.lt H _,A⟩,g,j,k,l,by omega,by omega⟩
  |false=>
   simp only[Zu,Z6,eY,aC];cases B:c (p.getD (m-1) 0) (p.getD m 0)with
   |true=>simp only[if_true,aC,eY,and_true];exact⟨⟨P.lt H _,P.lt H _,P.lt H _,P.lt H _⟩,P,h,e,u,Zh _,by omega⟩
   |false=>
    simp only[Zu,Z6]
    have D:Dn c p (m+1):=λi J=>by
     by_cases y:i+1<m
     ·exact h i y
     ·have:i=m-1:=by omega
      subst this;rw[show m-1+1=m by omega];exact B
    have I:rS c p (m+1-(q+1+1)) (m+1):=λa b s t C F=>by
     have R:∀a,m+1-(q+1+1)<=a->a<m+1->c (p.getD a 0) (p.getD (m-1) 0)=Nl:=λa s t=>by
      by_cases y:a=m
      ·subst y;exact E
      ·exact e a (m-1) (by omega) (by omega) (by omega) (by omega)
     have M:∀a,m+1-(q+1+1)<=a->a<m+1->c (p.getD (m-1) 0) (p.getD a 0)=Nl:=λa s t=>by
      by_cases y:a=m
      ·subst y;exact B
      ·exact e (m-1) a (by omega) (by omega) (by omega) (by omega)
     exact o.ntr _ _ _ (P.lt H _) (P.lt H _) (P.lt H _) (R a s t) (M b C F)
    obtain⟨A,g,j,k,l,w,x⟩:=oB o H f p (m+1) (q+1) P D I (by omega) (by omega);exact⟨⟨P.lt H _,P.lt H _,P.lt H _,P.lt H _,A⟩,g,j,k,l,by omega,by omega⟩
structure FD (n:Nat)(c:Nat->Nat->Bool)(r:Nat×Array Nat):Prop where
 pa:eF n r.2
 up:Up c r.2 r.1
 pos:1<=r.1
 le:r.1<=n
theorem BJ(e:0<n){p:Array Nat}(P:eF n p){m:Nat}(h:Dn c p m)(h1:1<=m)(H:m<=n):eY n c (kas_tail3 m n p)/\FD n c (aC c (kas_tail3 m n p)):=by
 have a:=oA P 0 m
 have u:Up c (kas_rev p 0 m) m:=λi j=>by
  rw[gA P H (by simp_all),gA P H (by lia)];have:=h (0+m-1-(i+1)) (by omega)
  rwa [show 0+m-1-(i+1)+1=0+m-1-i by grind]at this
 obtain⟨A,b,f,d,g⟩:=uX (c:=c) e a (n-m) m u h1;unfold kas_tail3;rw[jd];exact⟨gz A trivial,a,d,ZD h1 b,by show aC c (kas_asc (kas_rev p 0 m) (n-m) m)<=n;simp_all⟩
theorem BK(o:cX n c)(H:0<n){p:Array Nat}(P:eF n p){m:Nat}(h:Dn c p (m+1))(u:m+1<=n):eY n c (kas_descPart m n p)/\FD n c (aC c (kas_descPart m n p)):=by
 obtain⟨d,A,e,g,i,j,k⟩:=oB o H (n-(m+1)) p (m+1) 0 P h (λa b l q r s=>by
  have:a=b:=by omega
  subst this;exact o.irr _ (P.lt H _)) (by omega) (by omega)
 unfold kas_descPart;rw[jd];by_cases z:(aC c (kas_desc (n-(m+1)) p (m+1) 0)).2.2>0
 ·have f:=oA A ((aC c (kas_desc (n-(m+1)) p (m+1) 0)).2.1-((aC c (kas_desc (n-(m+1)) p (m+1) 0)).2.2+1)) (aC c (kas_desc (n-(m+1)) p (m+1) 0)).2.1;have D:=kQ o H A (by omega) (by omega:(aC c (kas_desc (n-(m+1)) p (m+1) 0)).2.1<=n) e g;have t:=BJ (c:=c) H f D (by omega) (by omega);rw[if_pos z];exact⟨gz d (by rw[if_pos z];exact t.1),t.2⟩
 ·have t:=BJ (c:=c) H A e (by omega) (by omega);rw[if_neg z];exact⟨gz d (by rw[if_neg z];exact t.1),t.2⟩
theorem I9(o:cX n c)(H:2<=n){p:Array Nat}(P:eF n p):eY n c (kas_count n p)/\FD n c (aC c (kas_count n p)):=by
 have h:0<n:=by omega
 obtain⟨j,d,w,A,l⟩:=uX (c:=c) h P (n-1) 1 (λi f=>by omega) (Zh 1);unfold kas_count;rw[jd];generalize s:aC c (kas_asc p (n-1) 1)=m at*
 have k:eY n c (if(m==n)=Nk then KasT.ret (m,p)else if m>1 then .ask (p.getD 0 0) (p.getD (m-1) 0) λc=>if c=Nk then .ret (m,p)else kas_descPart m n (kas_rev p 0 m)else kas_descPart m n p)/\
   FD n c (aC c (if(m==n)=Nk then KasT.ret (m,p)else if m>1 then .ask (p.getD 0 0) (p.getD (m-1) 0) λc=>if c=Nk then .ret (m,p)else kas_descPart m n (kas_rev p 0 m)else kas_descPart m n p)):=by
  by_cases e:(m==n)=Nk
  ·rw[if_pos e];exact⟨trivial,P,A,d,by show m<=n;omega⟩
  ·rw[if_neg e];have t:m≠n:=by simpa using e
   have G:=l (by omega);have as:=o.asym _ _ (P.lt h _) (P.lt h _) G;by_cases z:m>1
   ·rw[if_pos z];simp only[eY,aC];cases r:c (p.getD 0 0) (p.getD (m-1) 0)with
    |true=>simp only[if_true,eY,aC,and_true];exact⟨⟨P.lt h _,P.lt h _⟩,P,A,d,by show m<=n;omega⟩
    |false=>
     simp only[Zu,Z6];have eq:rS c p 0 m:=λa b _ H _ x=>by have R:=A.le o h P (Ya a) H;have u:=A.le o h P (show b<=m-1 by omega) (by omega);exact o.ntr _ (p.getD (m-1) 0) _ (P.lt h _) (P.lt h _) (P.lt h _) (o.ntr _ (p.getD 0 0) _ (P.lt h _) (P.lt h _) (P.lt h _) R r) u
     have g:=oA P 0 m;have E:=BH P (by omega:m<=n) eq
     have D:Dn c (kas_rev p 0 m) (m+1):=λi f=>by
      by_cases y:i+1<m
      ·exact E i (i+1) (by omega) (by omega) (by omega) y
      ·have:i=m-1:=by omega
       subst this;rw[gA P (by omega) (by omega),je P (by omega) (by omega),show m-1+1=m by omega];exact o.ntr _ (p.getD (m-1) 0) _ (P.lt h _) (P.lt h _) (P.lt h _) (eq _ (m-1) (by omega) (by omega) (by omega) (by omega)) as
     obtain⟨T,v⟩:=BK o h g D (by omega);exact⟨⟨P.lt h _,P.lt h _,T⟩,v⟩
   ·rw[if_neg z];have q:m=1:=by omega
    subst q;refine BK o h P (λi f=>?_) (by omega);have:i=0:=by omega
    subst this;exact as
 exact⟨gz j (by rw[s];exact k.1),k.2⟩
theorem uY(o:cX n c)(h:0<n){p:Array Nat}(P:eF n p){k:Nat}(u:Up c p k):∀(f l r:Nat),r<=k->l<=r->r-l<=f->(∀i,i<l->c (p.getD k 0) (p.getD i 0)=Nl)->(∀i,r<=i->i<k->c (p.getD k 0) (p.getD i 0)=Nk)->
  eY n c (kas_place p k f l r)/\aC c (kas_place p k f l r)<=k/\(∀i,i<aC c (kas_place p k f l r)->c (p.getD k 0) (p.getD i 0)=Nl)/\(∀i,aC c (kas_place p k f l r)<=i->i<k->c (p.getD k 0) (p.getD i 0)=Nk)
 |0,l,r,b,s,m,H,a=>by
  have:l=r:=by omega
  subst this;exact⟨trivial,b,H,a⟩
 |f+1,l,r,b,s,m,H,a=>by
  unfold kas_place;by_cases z:l>=r
  ·rw[if_pos z];have:l=r:=by omega
   subst this;exact⟨trivial,b,H,a⟩
  ·rw[if_neg z];simp only[eY,aC];cases E:c (p.getD k 0) (p.getD ((l+r)/2) 0)with
   |true=>
    simp only[if_true]
    have g:∀i,(l+r)/2<=i->i<k->c (p.getD k 0) (p.getD i 0)=Nk:=λi j q=>by
     cases e:c (p.getD k 0) (p.getD i 0)with
     |true=>rfl
     |false=>have:=o.ntr _ (p.getD i 0) _ (P.lt h _) (P.lt h _) (P.lt h _) e (u.le o h P j q);rw[E]at this;cases this
    obtain⟨b1,b2⟩:=uY o h P u f l ((l+r)/2) (by omega) (by omega) (by omega) H g;exact⟨⟨P.lt h _,P.lt h _,b1⟩,b2⟩
   |false=>
    simp only[Zu,Z6]
    have d:∀i,i<(l+r)/2+1->c (p.getD k 0) (p.getD i 0)=Nl:=λi j=>
     o.ntr _ (p.getD ((l+r)/2) 0) _ (P.lt h _) (P.lt h _) (P.lt h _) E (u.le o h P (by omega) (by omega))
    obtain⟨b1,b2⟩:=uY o h P u f ((l+r)/2+1) r b (by omega) (by omega) d a;exact⟨⟨P.lt h _,P.lt h _,b1⟩,b2⟩
theorem kR(o:cX n c)(H:0<n):∀(f:Nat) (p:Array Nat) (k:Nat),eF n p->Up c p k->k+f=n->eY n c (kas_bin f p k)/\eF n (aC c (kas_bin f p k))/\Up c (aC c (kas_bin f p k)) n
 |0,p,k,P,u,h=>by
  have:k=n:=by omega
  subst this;exact⟨trivial,P,u⟩
 |f+1,p,k,P,u,h=>by
  unfold kas_bin;rw[jd];obtain⟨A,m,g,j⟩:=uY o H P u k 0 k (Zh _) (Ya _) (by omega) (λi a=>absurd a (Nat.not_lt_zero _)) (λi q r=>by omega);generalize E:aC c (kas_place p k k 0 k)=l at*;have d:eF n (bubble p k (k-l)):=⟨by rw[bubble_size];exact P.size,(bubble_perm _ _ _).trans P.perm⟩
  have at_:∀i,(bubble p k (k-l)).getD i 0=if i=l then p.getD k 0 else if l<i/\i<=k then p.getD (i-1) 0 else p.getD i 0:=λi=>by
   have e:=getElem?_bubble (xs:=p) (src:=k) (by rw[P.size];omega) (k-l) (by omega) i;rw[show k-(k-l)=l by omega]at e;rw[NK,e];by_cases z:i=l
   ·rw[if_pos z,if_pos z,NK]
   ·rw[if_neg z,if_neg z];by_cases Z:l<i/\i<=k
    ·rw[if_pos Z,if_pos Z,NK]
    ·rw[if_neg Z,if_neg Z,NK]
  have U:Up c (bubble p k (k-l)) (k+1):=λi a=>by
   rw[at_,at_];by_cases z:i+1=l
   ·rw[if_pos z,if_neg (by omega),if_neg (by omega)];exact g i (by omega)
   ·rw[if_neg z];by_cases Z:l<i+1/\i+1<=k
    ·rw[if_pos Z];by_cases b:i=l
     ·rw[if_pos b];have:=j i (by omega) (by omega);rw[show i+1-1=i by omega];exact o.asym _ _ (P.lt H _) (P.lt H _) this
     ·rw[if_neg b,if_pos (by omega)];have:=u (i-1) (by omega)
      rwa [show i-1+1=i+1-1 by omega]at this
    ·rw[if_neg Z,if_neg (by omega),if_neg (by omega)];exact u i (by omega)
  obtain⟨b1,b2,b3⟩:=kR o H f (bubble p k (k-l)) (k+1) d U (by omega);exact⟨gz A (by rw[E];exact b1),b2,b3⟩
theorem oC(o:cX n c)(h:2<=n):eY n c (kas_sort n)/\eF n (aC c (kas_sort n))/\Up c (aC c (kas_sort n)) n:=by
 have P:eF n (NA (Nt n)):=⟨by simp,.refl _⟩;obtain⟨A,a⟩:=I9 o h P;unfold kas_sort;rw[jd];by_cases z:(aC c (kas_count n (NA (Nt n)))).1<n
 ·have e:max (aC c (kas_count n (NA (Nt n)))).1 1=(aC c (kas_count n (NA (Nt n)))).1:=Nat.max_eq_left a.pos;obtain⟨b1,b2,b3⟩:=kR o (by lia) (n-max (aC c (kas_count n (NA (Nt n)))).1 1) _ (max (aC c (kas_count n (NA (Nt n)))).1 1) a.pa (by rw[e];exact a.up) (by lia);rw[if_pos z];exact⟨gz A (by rw[if_pos z];exact b1),b2,b3⟩
 ·rw[if_neg z];have e:(aC c (kas_count n (NA (Nt n)))).1=n:=by have:=a.le;lia
  refine⟨gz A (by rw[if_neg z];trivial),a.pa,?_⟩;have:=a.up
  rwa [e]at this
end
end Py
section
set_option autoImplicit false
namespace Py
open PySem PySem.W PySem.Spec PyProof.Rows
noncomputable def bP(n:Nat)(c:Nat->Nat->Bool)(i:Nat):Nat:=((Nt n).filter λj=>c j i).length
section
variable {κ:Pp}
theorem oD{c:Nat->Nat->Bool}(o:cX its.length c)(f:∀i j,i<its.length->j<its.length->its.getD i Nr=its.getD j Nr->bP its.length c i=bP its.length c j)(e:2<=its.length)(H:its.length<64)
  (b:∀i j C,i<its.length->j<its.length->C (c i j) s->kas_ask prog w A κ its i j C s) {Q:SortSt->Nm->Prop}
  (h:∀(S:SortSt) (p:List Nat),failedOf S=none->(arrOf S).map (·.2)=NA (p.map λi=>its.getD i Nr)->p.Perm (Nt its.length)->p.Pairwise (λi j=>c j i=Nl)->Q S s):
  wpAny (model prog w) A ((sortRuns').run (Sq κ (its.toArray.zip its.toArray) #[] 7 none)) (λr s'=>Q r.2 s') E s:=by
 obtain⟨n,q,t⟩:=oC o e;have P:(aC c (kas_sort its.length)).toList.Perm (Nt its.length):=Array.perm_iff_toList_perm.mp q.perm
 have m:(aC c (kas_sort its.length)).toList.Pairwise (λi j=>c j i=Nl):=by
  rw[Oe];intro i j v x d;have l:(aC c (kas_sort its.length)).size=its.length:=q.size;have g:i<(aC c (kas_sort its.length)).size:=by omega
  have k:j<(aC c (kas_sort its.length)).size:=by omega
  have:=t.le o (by omega) q (O8 d) (by omega:j<its.length);simp_all
 have a:(kas_sort its.length).kasWp (kas_ask prog w A κ its) (λp s'=>p=aC c (kas_sort its.length)/\s'=s) s:=Mt b n ⟨rfl,rfl⟩
 have R:=kat_run (E:=E) (ks:=its) rfl e H (Q:=Q)
  (λp S s' y z Z u=>by obtain⟨rfl,rfl⟩:=u;exact h S _ Z (kat_snds rfl z) P m) a
 omega
end
end Py
end
namespace Py
structure ia (P:D->Prop)(f:D->D->Bool):Prop where
 irr:∀x,P x->f x x=Nl
 asym:∀x y,P x->P y->f x y=Nk->f y x=Nl
 ntr:∀x y z,P x->P y->P z->f x y=Nl->f y z=Nl->f x z=Nl
 tot:∀x y,P x->P y->f x y=Nl->f y x=Nl->x=y
section
variable {P:D->Prop}{f:D->D->Bool}
theorem BL(o:ia P f):∀(xs:List D),(∀x∈xs,P x)->bS f xs xs=Nl
 | [],_=>rfl
 |x::xs,h=>by dsimp only[bS];rw[o.irr x (h x Ze)];exact BL o _ λy H=>h y (Zc _ H)
theorem BM(o:ia P f):∀(xs ys:List D),(∀x∈xs,P x)->(∀x∈ys,P x)->bS f xs ys=Nk->bS f ys xs=Nl
 | [],[],_,_,h=>rfl
 | [],_::_,_,_,_=>rfl
 |_::_,[],_,_,h=>by cases h
 |x::xs,y::ys,a,b,h=>by
  dsimp only[bS]at h⊢;cases e:f x y with
  |true=>rw[o.asym x y (a x Ze) (b y Ze) e];rfl
  |false=>
   rw[e]at h;cases E:f y x with
   |true=>simp_all
   |false=>rw[E]at h;exact BM o _ _ (λz H=>a z (Zc _ H)) (λz H=>b z (Zc _ H)) h
theorem lex_tot(o:ia P f):∀(xs ys:List D),(∀x∈xs,P x)->(∀x∈ys,P x)->bS f xs ys=Nl->bS f ys xs=Nl->xs=ys
 | [],[],_,_,_,_=>rfl
 | [],_::_,_,_,h,_=>by cases h
 |_::_,[],_,_,_,h=>by cases h
 |x::xs,y::ys,b,c,h,H=>by
  dsimp only[bS]at h H;cases e:f x y with
  |true=>simp_all
  |false=>
   cases E:f y x with
   |true=>simp_all
   |false=>rw[e,E]at h H;rw[o.tot x y (b x Ze) (c y Ze) e E,lex_tot o _ _ (λz a=>b z (Zc _ a)) (λz a=>c z (Zc _ a)) h H]
theorem BN(o:ia P f):∀(xs ys zs:List D),(∀x∈xs,P x)->(∀x∈ys,P x)->(∀x∈zs,P x)->bS f xs ys=Nl->bS f ys zs=Nl->bS f xs zs=Nl
 | [],[],zs,_,_,_,_,h=>h
 | [],_::_,_,_,_,_,h,_=>by cases h
 |_::_,_,[],_,_,_,_,_=>rfl
 |x::xs,[],z::zs,_,_,_,_,h=>by cases h
 |x::xs,y::ys,z::zs,g,i,j,H,a=>by
  have p:=g x Ze;have b:=i y Ze;have c:=j z Ze;simp only[bS]at H a⊢;cases e:f x y with
  |true=>simp_all
  |false=>
   cases E:f y z with
   |true=>simp_all
   |false=>
    rw[e]at H;rw[E]at a;rw[o.ntr x y z p b c e E];cases d:f z x with
    |true=>rfl
    |false=>rw[o.ntr y z x b c p E d]at H;rw[o.ntr z x y c p b d e]at a;exact BN o _ _ _ (λw hw=>g w (Zc _ hw)) (λw hw=>i w (Zc _ hw)) (λw hw=>j w (Zc _ hw)) H a
end
theorem cY(h:aA .int d=Nk):∃i,d=.int i:=by cases d<;>first|lia| (simp[aA]at h)
theorem db{t:eE}(h:aA (.seq t) d=Nk):∃xs,d=.tup xs/\∀x∈xs,aA t x=Nk:=by
 cases d with
 |tup xs=>exact⟨_,rfl,λx H=>Zm.mp h x H⟩
 |_=>simp[aA]at h
theorem gB:∀(t:eE),bX t=Nk->ia (λd=>aA t d=Nk) (bW t)
 | .int,_=>by
  refine⟨λx h=>?_,λx y H a h=>?_,λx y z H a f b c=>?_,λx y H a b c=>?_⟩
  ·obtain⟨i,rfl⟩:=cY h;simp[bW]
  ·obtain⟨i,rfl⟩:=cY H;obtain⟨j,rfl⟩:=cY a;simp[bW]at h⊢;lia
  ·obtain⟨i,rfl⟩:=cY H;obtain⟨j,rfl⟩:=cY a;obtain⟨k,rfl⟩:=cY f;simp[bW]at b c⊢;lia
  ·obtain⟨i,rfl⟩:=cY H;obtain⟨j,rfl⟩:=cY a;simp[bW]at b c;grind
 | .seq t,h=>by
  have o:=gB t h;refine⟨λx h=>?_,λx y H a h=>?_,λx y z H a f b c=>?_,λx y H a b c=>?_⟩
  ·obtain⟨X,rfl,k⟩:=db h;exact BL o X k
  ·obtain⟨X,rfl,K⟩:=db H;obtain⟨Y,rfl,e⟩:=db a;exact BM o X Y K e h
  ·obtain⟨X,rfl,K⟩:=db H;obtain⟨Y,rfl,e⟩:=db a;obtain⟨Z,rfl,g⟩:=db f;exact BN o X Y Z K e g b c
  ·obtain⟨X,rfl,K⟩:=db H;obtain⟨Y,rfl,e⟩:=db a;exact ZX D.tup (lex_tot o X Y K e b c)
noncomputable def dL(t:eE)(d e:D):Bool:= !bW t d e&& !bW t e d
theorem I_{t:eE}(hs:bX t=Nk){e:D}(h1:aA t d=Nk)(H:aA t e=Nk)(h:dL t d e=Nk):d=e:=by unfold dL at h;simp at h;exact(gB t hs).tot d e h1 H h.1 h.2
theorem oE{f:D->D->Bool}{x y:D}:bS f (x::xs) (y::ys)=if f x y=Nk then Nk else if f y x=Nk then Nl else bS f xs ys:=rfl
theorem BO{t:eE}(hs:bX t=Nk):∀(xs ys:List D),(∀x∈xs,aA t x=Nk)->(∀x∈ys,aA t x=Nk)->dL (.seq t) (.tup xs) (.tup ys)=((Nq (dL t) xs ys).all id&&xs.length==ys.length)
 | [],[],_,_=>rfl
 | [],y::ys,_,_=>rfl
 |x::xs,[],_,_=>rfl
 |x::xs,y::ys,h,H=>by
  have i:=BO hs _ _ (λw hw=>h w (Zc _ hw)) λw hw=>H w (Zc _ hw);cases e:bW t x y with
  |true=>simp[dL,bW,bS,e]
  |false=>
   cases E:bW t y x with
   |true=>simp[dL,bW,bS,E]
   |false=>
    have a:dL t x y=Nk:=by simp[dL,e,E]
    have b:dL (.seq t) (.tup (x::xs)) (.tup (y::ys))=dL (.seq t) (.tup xs) (.tup ys):=by show(!bS _ _ _&& !bS _ _ _)=(!bS _ _ _&& !bS _ _ _);rw[oE,oE,e,E];rfl
    simp_all
theorem allO_map(f:D->D->Bool):∀(xs ys:List D) (g:D->D->Option Bool),(∀x∈xs,∀y∈ys,g x y=some (f x y))->bb (Nq g xs ys)=some ((Nq f xs ys).all id)
 | [],_,_,_=>rfl
 |_::_,[],_,_=>rfl
 |x::xs,y::ys,g,h=>by
  have i:=allO_map f _ _ g λa H b d=>h a (Zc _ H) b (Zc _ d)
  show(match g x y,bb _ with
   |some b,some c=>some _
   |_,_=>none)=_
  simp_all
theorem BP{t:eE}(hs:bX t=Nk){eq lt:D->D->Option Bool}:∀(xs ys:List D),(∀x∈xs,aA t x=Nk)->(∀x∈ys,aA t x=Nk)->(∀x∈xs,∀y∈ys,eq x y=some (dL t x y)/\lt x y=some (bW t x y))->yg eq lt xs ys=some (bS (bW t) xs ys)
 | [],[],_,_,_=>rfl
 | [],_::_,_,_,_=>rfl
 |_::_,[],_,_,_=>rfl
 |x::xs,y::ys,H,d,h=>by
  have i:=BP hs _ _ (λw hw=>H w (Zc _ hw)) (λw hw=>d w (Zc _ hw)) λa f b g=>h a (Zc _ f) b (Zc _ g);unfold yg;rw[oE];cases e:bW t x y with
  |true=>
   have E:dL t x y=Nl:=by simp[dL,e]
   simp_all
  |false=>
   cases c:bW t y x with
   |true=>
    have E:dL t x y=Nl:=by simp[dL,c]
    simp_all
   |false=>
    have E:dL t x y=Nk:=by simp[dL,e,c]
    simp_all
theorem Ja(S:ae):∀(t:eE),bX t=Nk->∀n,cM t<=n->∀d e,aA t d=Nk->aA t e=Nk->b_ S n d e=some (dL t d e)/\eD S n d e=some (bW t d e)
 | .int,_,0,h,_,_,_,_=>by simp[cM]at h
 | .int,_,n+1,_,d,e,a,b=>by obtain⟨i,rfl⟩:=cY a;obtain⟨j,rfl⟩:=cY b;refine⟨?_,rfl⟩;show some (i==j)=some (!decide (i<j)&& !decide (j<i));congr 1;lia
 | .seq t,H,0,h,_,_,_,_=>by simp[cM]at h
 | .seq t,H,n+1,h,d,e,a,b=>by obtain⟨X,rfl,k⟩:=db a;obtain⟨Y,rfl,K⟩:=db b;have I:=Ja S t H n (by simpa[cM]using h);refine⟨?_,BP (t:=t) H X Y k K λx c y f=>I x y (k x c) (K y f)⟩;show(bb (Nq (b_ S n) X Y)).map (· &&X.length==Y.length)=_;simp only[allO_map (dL t) X Y _ λx c y f=>(I x y (k x c) (K y f)).1,BO (t:=t) H X Y k K];rfl
theorem oF(f:D->D->Bool)(x:D):∀l,(dP f x l).Perm (x::l)
 | []=>.refl _
 |y::Y=>by
  unfold dP;split
  ·exact .refl _
  ·exact((oF f x _).cons y).trans (.swap _ _ _)
theorem uZ(f:D->D->Bool)(xs:List D):(eN f xs).Perm xs:=by
 have k:∀(xs a:List D),(xs.foldl (λa x=>dP f x a) a).Perm (a++xs):=by
  intro xs
  induction xs with
  |nil=>simp_all
  |cons x xs i=>intro a;exact(i _).trans (((oF f x _).append_right _).trans Pm.symm)
 simpa[eN]using k _ []
theorem BQ{P:D->Prop}{f:D->D->Bool}(o:ia P f)(x:D)(p:P x):∀l,(∀y∈l,P y)->l.Pairwise (λa b=>f b a=Nl)->(dP f x l).Pairwise (λa b=>f b a=Nl)
 | [],_,_=>by simp[dP]
 |y::j,d,h=>by
  simp[dP];have e:=d y Ze;obtain⟨g,i⟩:=ZK.mp h;split
  ·rename_i c;refine ZK.mpr ⟨λz H=>?_,h⟩;have Y:=o.asym x y p e c;rcases Zi.mp H with rfl|H
   ·exact Y
   ·exact o.ntr z y x (d z (Zc _ H)) e p (g z H) Y
  ·refine ZK.mpr ⟨λz H=>?_,BQ o x p _ (λw hw=>d w (Zc _ hw)) i⟩;rcases Zi.mp ((oF f x _).mem_iff.mp H)with rfl|H
   ·simp_all
   simp_all
theorem BR{P:D->Prop}{f:D->D->Bool}(o:ia P f)(xs:List D)(e:∀x∈xs,P x):(eN f xs).Pairwise (λa b=>f b a=Nl):=by
 have k:∀(xs A:List D),(∀x∈xs,P x)->(∀x∈A,P x)->A.Pairwise (λa b=>f b a=Nl)->(xs.foldl (λA x=>dP f x A) A).Pairwise λa b=>f b a=Nl:=by
  intro xs
  induction xs with
  |nil=>intro A _ _ h;exact h
  |cons x xs i=>
   intro A c d h;have p:=c x Ze;refine i _ (λy H=>c y (Zc _ H)) (λy H=>?_) (BQ o x p _ d h);rcases Zi.mp ((oF f x _).mem_iff.mp H)with rfl|H
   ·exact p
   simp_all
 exact k _ _ e (by simp) .nil
theorem BS{t:eE}(hs:bX t=Nk)(h:∀x∈xs,aA t x=Nk)(p:ys.Perm xs)(s:ys.Pairwise (λa b=>bW t b a=Nl)):ys=eN (bW t) xs:=by have o:=gB t hs;exact PF (λa b d e H c=>o.tot a b (h a (p.mem_iff.mp d)) (h b ((uZ _ _).mem_iff.mp e)) c H) s (BR o _ h) (p.trans (uZ _ _).symm)
open PySem PySem.W PySem.Spec PyProof.Rows
def ib(its:Lv)(c:Nat->Nat->Bool)(out:Lv):Prop:=∃p:List Nat,out=p.map (λi=>its.getD i Nr)/\p.Perm (Nt its.length)/\p.Pairwise (λi j=>c j i=Nl)
theorem BU{V:Nat}{c:Nat->Nat->Bool}{P:PySem.Fin->Nm->Prop}(B:s.heap.get? a=some (seqObj "list" its.toArray V))(D:its.length<64)
  (I:2<=its.length->∃κ:Pp,cX its.length c/\(∀i j,i<its.length->j<its.length->its.getD i Nr=its.getD j Nr->bP its.length c i=bP its.length c j)/\∀h':Ny,(∀b o,b≠a->s.heap.get? b=some o->h'.get? b=some o)->
   (∀(J:Pp->Nm->Prop),J κ {s with heap:=h'}->wpAny (model prog w) A (keyKind' its.toArray) J E {s with heap:=h'})/\
   ∀i j C,i<its.length->j<its.length->C (c i j) {s with heap:=h'}->kas_ask prog w A κ its i j C {s with heap:=h'})
  (M:∀h' q out,(∀b o,b≠a->s.heap.get? b=some o->h'.get? b=some o)->h'.get? a=some (seqObj "list" (NA out) q)->ib its c out->P (.done (.ret .none)) {s with heap:=h'}):
  wpAny (model prog w) A (N8.«list.sort» ⟨[.ref a],[]⟩) P E s:=by
 have l:its.length<=sizeLine:=by rw[N5];omega
 have Y:a<s.heap.objs.size:=Zj B;have W:=ZZ s.heap a (ND λ_=>(#[]:Av));obtain⟨u,x⟩:∃u,(s.heap.update a (ND λ_=>(#[]:Av))).get? a=some (seqObj "list" #[] u):=⟨_,get?_update_seq B λ_=> #[]⟩
 have k:∀b o,b≠a->s.heap.get? b=some o->(((s.heap.update a (ND λ_=>(#[]:Av))).push (seqObj "tuple" its.toArray 0)).push (seqObj "list" #[] 0)).get? b=some o:=λb o z e=>
  Zb _ (Zb _ ((W.2 b z).trans e))
 have m:(((s.heap.update a (ND λ_=>(#[]:Av))).push (seqObj "tuple" its.toArray 0)).push (seqObj "list" #[] 0)).get? a=some (seqObj "list" #[] u):=Zb _ (Zb _ x);rw[list_sort_plain];refine Za (listItems_at B rfl ?_);refine Za (listUpdate_at B rfl ?_ (by rw[Zv];exact l) (Ya _));refine Za (seqEpoch_at x rfl ?_);refine Za (wpAny_newTuple ?_ (by show its.length<=_;exact l));refine Za (SD ?_ (Ya _));refine ZE ?_;show wpAny (model prog w) A _ P E {s with heap:=((s.heap.update a (ND λ_=>(#[]:Av))).push (seqObj "tuple" its.toArray 0)).push (seqObj "list" #[] 0)};generalize((s.heap.update a (ND λ_=>(#[]:Av))).push (seqObj "tuple" its.toArray 0)).push (seqObj "list" #[] 0)=g at*
 have fin:∀(S:SortSt) (out:Lv),(arrOf S).map (·.2)=NA out->failedOf S=none->out.length=its.length->ib its c out->
   wpAny (model prog w) A (do
    let t:=(<-seqEpoch a) !=u
    Q2 (.ref a) λ_=>(arrOf S).map (·.2)
    if let some e:=failedOf S then rule "list.sort.comparison-raised";throw e
    if t then rule "list.sort.modified";raiseError "ValueError" "list modified during sort"
    ret .none) P E {s with heap:=g}:=by
  intro S out H v d F;have X:=ZZ g a (ND λ_=>NA out);obtain⟨q,G⟩:∃q,(g.update a (ND λ_=>NA out)).get? a=some (seqObj "list" (NA out) q):=⟨_,get?_update_seq m λ_=>NA out⟩;rw[H];refine Za (seqEpoch_at m rfl ?_);refine Za (listUpdate_at m rfl ?_ (Ya _) (by rw[Zv,d];exact Nat.le_succ_of_le l));rw[v];simp only[bne_self_eq_false,Zu,Z6];exact Zd (M _ q out (λb o z e=>(X.2 b z).trans (k b o z e)) G F)
 by_cases n:2<=its.length
 ·have f:¬its.toArray.size<2:=by rw[Zv];omega
  rw[if_neg f,if_neg f];obtain⟨κ,o,y,I⟩:=I n;obtain⟨T,U⟩:=I g k;refine Za (T _ ?_)
  have R:=oD (E:=E) o y n D U (Q:=λS L=>L={s with heap:=g}/\failedOf S=none/\∃out:Lv,(arrOf S).map (·.2)=NA out/\out.length=its.length/\ib its c out)
   (λS p v H K O=>⟨rfl,v,_,H,by rw[Zl,K.length_eq,List.length_range],p,rfl,K,O⟩)
  refine Za (ZJ R (λr L N=>?_) λ_ _ e=>e);obtain⟨⟨⟩,S⟩:=r;obtain⟨rfl,v,out,H,d,F⟩:=N;exact fin S _ H v d F
 ·have f:its.toArray.size<2:=by rw[Zv];omega
  rw[if_pos f,if_pos f];refine Za (Zd ?_)
  show wpAny (model prog w) A (do
    let t:=(<-seqEpoch a) !=u
    Q2 (.ref a) λ_=>(arrOf (Sq general' (its.toArray.zip its.toArray) #[] 7 none)).map (·.2)
    if let some e:=failedOf (Sq general' (its.toArray.zip its.toArray) #[] 7 none)then rule "list.sort.comparison-raised";throw e
    if t then rule "list.sort.modified";raiseError "ValueError" "list modified during sort"
    ret .none) P E {s with heap:=g}
  refine fin _ its ?_ rfl rfl ⟨Nt its.length,?_,.refl _,?_⟩
  ·show(its.toArray.zip its.toArray).map (·.2)=its.toArray;apply Array.toList_inj.mp;rw[Td,Array.toList_zip];exact List.map_snd_zip (Zh _)
  ·refine Q7 (by simp) λi g n=>?_;simp[g]
  ·match its,n with
   | [],_=>simp
   | [_],_=>simp
   |_::_::_,n=>simp at n
end Py
namespace Py
open PySem PySem.W PySem.Spec PyProof.Rows L2
theorem Jb{b:Bool}{l:Nn}{c:Nat->Nat->Bool}{Q:Vs}(x:b6 b s.heap l its.toArray)(g:its.length<64)
  (r:2<=its.length->∃κ:Pp,cX its.length c/\(∀i j,i<its.length->j<its.length->its.getD i Nr=its.getD j Nr->bP its.length c i=bP its.length c j)/\∀h':Ny,(∀b o,s.heap.get? b=some o->h'.get? b=some o)->
   (∀(E':Vs) (u:Pp->Nm->Prop),u κ {s with heap:=h'}->wpAny (model prog w) A.in1.in1 (keyKind' its.toArray) u E' {s with heap:=h'})/\
   ∀i j C,i<its.length->j<its.length->C (c i j) {s with heap:=h'}->kas_ask prog w A.in1.in1 κ its i j C {s with heap:=h'})
  (z:∀(h1 h':Ny) f out,(∀b o,s.heap.get? b=some o->h1.get? b=some o)->(∀b o,h1.get? b=some o->h'.get? b=some o)->h'.get? h1.objs.size=some (seqObj "list" (NA out) f)->ib its c out->Q (.ref h1.objs.size) {s with heap:=h'}):
  wpAny (model prog w) A (call (.builtin "sorted") [.ref l]) Q E s:=by
 refine Ru kind_sorted plain_sorted entry_sorted (args_sorted1 _) ?_;unfold N8.«sorted»;refine Za (m:=checkCount "sorted" 1 1 _) (Zd ?_);have H:its.length<=sizeLine:=by rw[N5];omega
 have d:its.toArray.size<=sizeLine:=by rw[Zv];exact H
 have G:∀h1:Ny,(∀b o,s.heap.get? b=some o->h1.get? b=some o)->wpAny (model prog w) A.in1 (do
   let l <-newList its
   let _ <-holding [l] (call (.builtin "list.sort") [l])
   ret l) (λfin F=>∃v,fin=.done (.ret v)/\Q v F) E {s with heap:=h1}:=by
  intro h1 k;refine Za (SD ?_ H);have a:(h1.push (seqObj "list" its.toArray 0)).get? h1.objs.size=some (seqObj "list" its.toArray 0):=Zk _ rfl;refine Za (ZE (Z0 slot_list_sort ⟨_,a,rfl⟩ entry_list_sort ?body (args_list_sort _)))
  case body=>
   refine BU (c:=c) (s:={s with heap:=h1.push (seqObj "list" its.toArray 0)}) a g (λy=>?_) λh' f out K e O=>?_
   ·obtain⟨κ,o,S,r⟩:=r y;refine⟨κ,o,S,λh' K=>?_⟩;obtain⟨B,D⟩:=r h' λb o e=>K b o (Zt (Zj (k b o e))) (Zb _ (k b o e));exact⟨B _,D⟩
   ·exact⟨_,rfl,Zd ⟨_,rfl,z h1 h' f out k (λb o e=>K b o (Zt (Zj e)) (Zb _ e)) e O⟩⟩
 cases b with
 |true=>obtain⟨o,t,p,n,q⟩:=x;exact Za (wpAny_collect_seq l (.inl rfl) t p q (λh1 k=>by simpa using G h1 k) d)
 |false=>obtain⟨o,t,p,n,q⟩:=x;exact Za (wpAny_collect_seq l (.inr rfl) t p q (λh1 k=>by simpa using G h1 k) d)
theorem Jc(I:Inv X pq σ H s)(a:aJ X.K ⟨X.mg,F⟩ μ S H){t:eE}(hs:bX t=Nk)(i:cM t<=40)(h:A.units+40<cLine){e:D}{b:V}(h1:aA t d=Nk)(g:aA t e=Nk)
  (r:Rep X.K ⟨X.mg,F⟩ μ H d v) (q:RelV v u) (R:Rep X.K ⟨X.mg,F⟩ μ H e b) (Q:RelV b z):PySem.SeqAt.EqAt A s u z (dL t d e)/\hV A s u z (bW t d e):=by
 obtain⟨c,f⟩:=Ja S t hs _ i d e h1 g;exact⟨(yf I a _ A h d e v _ u z _ r q R Q c).2.2,tR I a _ A h d e v _ u z _ r q R Q f⟩
theorem BV{prog:Nu}{w:NG}{A:NX}{Q:Bool->Nm->Prop}{t:eE}{b:Bool}(g:b=Nk->t=.int):∀(ds es:List D) (us zs:Lv) (i:Nat),(∀d∈ds,aA t d=Nk)->(∀e∈es,aA t e=Nk)->ds.length=us.length->es.length=zs.length->
  (∀(j:Nat) d e u z,ds[j]?=some d->es[j]?=some e->us[j]?=some u->zs[j]?=some z->PySem.SeqAt.EqAt A s u z (dL t d e)/\hV A s u z (bW t d e)/\(t=.int->∃a b ta tb,d=.int a/\e=.int b/\u=.int a ta/\z=.int b tb))->
  Q (bS (bW t) ds es) s->KatLex prog w A b (decide (us.length<zs.length)) Q (us.zip zs) i s
 | [],[],us,zs,i,_,_,L,l,_,q=>by have E:us=[]:=ZU L.symm;have f:zs=[]:=ZU l.symm;subst E;subst f;exact kat_nil q
 | [],e::es,us,zs,i,_,_,L,l,_,q=>by
  have E:us=[]:=ZU L.symm;subst E;have:decide (([]:Lv).length<zs.length)=Nk:=by grind
  rw[this,P0];exact kat_nil q
 |d::ds,[],us,zs,i,_,_,L,l,_,q=>by
  have E:zs=[]:=ZU l.symm;subst E;have:decide (us.length<([]:Lv).length)=Nl:=by simp
  rw[this,QL];exact kat_nil q
 |d::ds,e::es,[],zs,i,_,_,L,_,_,_=>by simp at L
 |d::ds,e::es,_::_,[],i,_,_,_,l,_,_=>by simp at l
 |d::ds,e::es,u::us,z::zs,i,I,J,L,l,h,q=>by
  obtain⟨M,O,P⟩:=h 0 d e u z rfl rfl rfl rfl;have G:decide ((u::us).length<(z::zs).length)=decide (us.length<zs.length):=by simp
  rw[G,Yb];refine kat_cons (M prog w _ _ ?_);rw[oE]at q
  have N:∀{k:Bool},bW t d e=k->dL t d e=Nl->Q k s->KatGo prog w A b (decide (us.length<zs.length)) Q u z (us.zip zs) i Nl s:=λ{k} n _ o=>by
   clear q;refine kat_no ?_;cases H:(b&&i==0)with
   |false=>exact kat_one u z (O prog w _ _ (by rw[n];exact o))
   |true=>simp only[ZN]at H;obtain⟨a,B,ta,tb,rfl,rfl,rfl,rfl⟩:=P (g H.1);have K:=g H.1;subst K;exact oneLt_int (by rw[show decide (a<B)=k from n];exact o)
  cases E:bW t d e with
  |true=>
   have c:dL t d e=Nl:=by simp[dL,E]
   rw[E]at q;rw[c];exact N E c (by simpa using q)
  |false=>
   cases f:bW t e d with
   |true=>
    have c:dL t d e=Nl:=by simp[dL,E,f]
    rw[E,f]at q;rw[c];exact N E c (by simpa using q)
   |false=>
    have c:dL t d e=Nk:=by simp[dL,E,f]
    rw[E,f]at q;rw[c];refine kat_yes (BV g ds es us zs (i+1) (λx m=>I x (Zc _ m)) (λx m=>J x (Zc _ m)) (by grind) (by simpa using l) (λj C F U Z p r v y=>h (j+1) C F U Z p r v y) (by simpa using q))
end Py
namespace Py
open PySem PySem.W PySem.Spec PyProof.Rows L2
end Py
namespace Py
open PySem PySem.W PySem.Spec PyProof.Rows L2
noncomputable def jf:eE->String
 | .int=>"int"
 |_=>"tuple"
theorem kS(I:Inv X pq σ H s){t:eE}(hs:bX t=Nk)(h:aA t d=Nk)(r:Rep X.K ⟨X.mg,F⟩ μ H d v)(q:RelV v u):Looks (model X.prog X.w) s.heap (typeOf u) (.type (jf t)):=by
 have tup:∀x,d=.tup x->Looks (model X.prog X.w) s.heap (typeOf u) (.type "tuple"):=by
  rintro x rfl;obtain⟨a,vs,rfl,c,_⟩:=bQ r;subst q;obtain⟨e,_,p,_⟩:=I.tuple c;obtain⟨o,b,f,_⟩:=p;have:=show Looks (model X.prog X.w) _ (typeOf (.ref a)) _ from(Looks.ld b).andThen .now
  simp_all
 cases t with
 |int=>obtain⟨i,rfl⟩:=cY h;cases aG r;obtain⟨T,rfl⟩:=q;exact(show Looks _ _ _ _ from .now)
 |seq t=>obtain⟨x,rfl,_⟩:=db h;exact tup _ rfl
theorem BW(I:Inv X pq σ H s){t:eE}(hs:bX t=Nk):∀(ys:List D) (vs:List V) (its:Lv),(∀d∈ys,aA (.seq t) d=Nk/\d≠.tup [])->ai X.K ⟨X.mg,F⟩ μ H ys vs->Vals vs its->
  ∃fs,KatTups s.heap its fs/\fs.length=its.length/\∀f∈fs,Looks (model X.prog X.w) s.heap (typeOf f) (.type (jf t))
 | [],vs,its,_,r,q=>by subst r;cases q;exact⟨_,KatTups.nil,rfl,λ_ h=>nomatch h⟩
 |d::ys,vs,its,h,r,q=>by
  obtain⟨v,O,rfl,A,B⟩:=r.uncons;cases q with
  |cons Q z=>
   obtain⟨fs,K,J,L⟩:=BW I hs _ _ _ (λe l=>h e (Zc _ l)) B z;obtain⟨i,G⟩:=h d Ze;obtain⟨c,rfl,y⟩:=db i;cases c with
   |nil=>simp_all
   |cons x c=>
    obtain⟨a,as,rfl,u,R⟩:=bQ A;cases Q;obtain⟨N,C,p,_⟩:=I.tuple u;obtain⟨w,W,rfl,E,_⟩:=R.uncons;cases C with
    |cons P M=>
     rename_i f U;obtain⟨o,m,j,n,k⟩:=p;refine⟨f::fs,KatTups.cons m j k (by simp) K,by simp_all,λg b=>?_⟩;rcases Zi.mp b with rfl|b
     ·exact kS I hs (y x Ze) E P
     simp_all
theorem Jd(I:Inv X pq σ H s)(sk:aJ X.K ⟨X.mg,F⟩ μ S H){t:eE}(hs:bX t=Nk)(hd:cM t<=40)(hu:A.units+42<cLine){e:D}{x:V}(h1:aA (.seq t) d=Nk)(h2:aA (.seq t) e=Nk)
  (r1:Rep X.K ⟨X.mg,F⟩ μ H d v) (q1:RelV v u) (r2:Rep X.K ⟨X.mg,F⟩ μ H e x) (q2:RelV x z) {C:Bool->Nm->Prop}  (hC:C (bW (.seq t) d e) s):wpAny (model X.prog X.w) A (keyLt' (tuples' (N3 (jf t) !=N3 "tuple")) u z) C E s:=by
 obtain⟨y,rfl,c⟩:=db h1;obtain⟨Y,rfl,f⟩:=db h2;obtain⟨a,as,rfl,ha,r⟩:=bQ r1;obtain⟨b,bs,rfl,h,rb⟩:=bQ r2;cases q1;cases q2;obtain⟨U,R,pa,_⟩:=I.tuple ha;obtain⟨Z,q,pb,_⟩:=I.tuple h;obtain⟨oa,P,_,na,L⟩:=pa;obtain⟨ob,T,_,nb,M⟩:=pb;refine kat_lt P L T M ?_;have l1:y.length=U.length:=by rw[r.length,R.length]
 have l2:Y.length=Z.length:=by rw[rb.length,q.length]
 have:=BV (prog:=X.prog) (w:=X.w) (A:=A) (s:=s) (Q:=C) (t:=t) (b:=(N3 (jf t) !=N3 "tuple")) (λh=>?_) y Y U Z 0 c f l1 l2 (λj d e u z g G W g4=>?_) hC
 ·simpa using this
 ·cases t with
  |int=>rfl
  |seq t=>exact absurd h (by show ¬((N3 "tuple" !=N3 "tuple")=Nk);decide)
 ·obtain⟨w1,N,K⟩:=r.get g;obtain⟨w2,O,m⟩:=rb.get G;obtain⟨u',k,n⟩:=R.get N;obtain⟨z',l,o⟩:=q.get O;rw[W]at k;cases k;rw[g4]at l;cases l;obtain⟨B,J⟩:=Jc I sk hs hd (A:=A) (by omega) (c d (Zo g)) (f e (Zo G)) K n m o;refine⟨B,J,λht=>?_⟩;subst ht;obtain⟨i,rfl⟩:=cY (c d (Zo g));obtain⟨j,rfl⟩:=cY (f e (Zo G));cases aG K;cases aG m;obtain⟨ta,rfl⟩:=n;obtain⟨tb,rfl⟩:=o;exact⟨i,j,ta,tb,rfl,rfl,rfl,rfl⟩
section
variable {t:eE}{vs:List V}
theorem kT(h:gf t ys=Nk):bX t=Nk:=by
 cases t with
 |int=>rfl
 |seq t=>unfold gf at h;simp only[ZN]at h;exact h.1
theorem Mu(h:∀y∈ys,aA t y=Nk)(r:ai X.K ⟨X.mg,F⟩ μ H ys vs)(a:Vals vs its):∀i,i<its.length->∃d v u,ys[i]?=some d/\vs[i]?=some v/\its[i]?=some u/\aA t d=Nk/\Rep X.K ⟨X.mg,F⟩ μ H d v/\RelV v u/\ys.getD i .non=d/\its.getD i Nr=u:=λi c=>by have l:=r.length;have L:=a.length;have e:ys[i]?=some ys[i]:=Zf _;obtain⟨v,E,k⟩:=r.get e;obtain⟨u,b,K⟩:=a.get E;simp_all
theorem BX(I:Inv X pq σ H s)(sk:aJ X.K ⟨X.mg,F⟩ μ S H)(hu:X.A.units+64<cLine)(O:cM t<=40)(n:∀y∈ys,aA t y=Nk)(A:gf t ys=Nk)(rr:ai X.K ⟨X.mg,F⟩ μ H ys vs)(hv:Vals vs its)(h2:2<=its.length):
  ∃κ:Pp,cX its.length (λi j=>bW t (ys.getD i .non) (ys.getD j .non))/\(∀i j,i<its.length->j<its.length->its.getD i Nr=its.getD j Nr->bP its.length (λi j=>bW t (ys.getD i .non) (ys.getD j .non)) i=bP its.length (λi j=>bW t (ys.getD i .non) (ys.getD j .non)) j)/\∀h':Ny,(∀b o,s.heap.get? b=some o->h'.get? b=some o)->
   (∀(E':Vs) (W:Pp->Nm->Prop),W κ {s with heap:=h'}->wpAny (model X.prog X.w) X.A.in1.in1 (keyKind' its.toArray) W E' {s with heap:=h'})/\
   ∀i j C,i<its.length->j<its.length->C (bW t (ys.getD i .non) (ys.getD j .non)) {s with heap:=h'}->kas_ask X.prog X.w X.A.in1.in1 κ its i j C {s with heap:=h'}:=by
 have Q:bX t=Nk:=kT A;have lo:=gB t Q;have at_:=Mu n rr hv
 have V:cX its.length (λi j=>bW t (ys.getD i .non) (ys.getD j .non)):=by
  have ty:∀i,i<its.length->aA t (ys.getD i .non)=Nk:=λi a=>by obtain⟨d,v,u,Z,e2,E,k1,k2,k3,k4,k5⟩:=at_ i a;rw[k4];exact k1
  exact⟨λi a=>lo.irr _ (ty i a),λi j a l=>lo.asym _ _ (ty i a) (ty j l),λi j k a l hk=>lo.ntr _ _ _ (ty i a) (ty j l) (ty k hk)⟩
 have p:∀i j,i<its.length->j<its.length->its.getD i Nr=its.getD j Nr->bP its.length (λi j=>bW t (ys.getD i .non) (ys.getD j .non)) i=bP its.length (λi j=>bW t (ys.getD i .non) (ys.getD j .non)) j:=λi j a l P=>by obtain⟨d,v,u,Z,e2,E,m,r,w,B,D⟩:=at_ i a;obtain⟨Y,v',u',K,L,M,g,G,c,e,f⟩:=at_ j l;rw[D,f]at P;subst P;have ev:v=v':=w.inj c;subst ev;have:=zA I sk 40 d Y v _ r G (Ja S t Q 40 O d Y m g).1;have hde:=I_ Q m g this;subst hde;unfold bP;simp only[B,e]
 have hu2:(X.A.in1.in1).units+42<cLine:=by show X.A.units+1+1+42<cLine;omega
 cases t with
 |int=>
  refine⟨oneType',V,p,λh' kp=>⟨λE' W q=>?_,λi j C a l N=>?_⟩⟩
  ·have J:Inv X pq σ H {s with heap:=h'}:=I.kept (t':=s.toks) kp;refine kas_kind (T:=.type "int") h2 (λu hu=>?_) (by decide) (by decide) q;obtain⟨i,a,rfl⟩:=ZL.mp hu;obtain⟨d,v,u,Z,e2,E,m,r,w,B,D⟩:=at_ i a;rw[Zf a]at E;cases E;exact kS (t:=.int) J rfl m r w
  ·obtain⟨d,v,u,Z,e2,E,m,r,w,B,D⟩:=at_ i a;obtain⟨Y,v',u',K,L,M,g,G,c,e,f⟩:=at_ j l;unfold kas_ask;rw[D,f];rw[B,e]at N;obtain⟨x,rfl⟩:=cY m;obtain⟨y,rfl⟩:=cY g;cases aG r;cases aG G;obtain⟨ta,rfl⟩:=w;obtain⟨tb,rfl⟩:=c;exact kat_lt_int N
 |seq t=>
  unfold gf at A;have R:=(Pr.mp A).2;have U:=R
  have hne:∀y∈ys,aA (.seq t) y=Nk/\y≠.tup []:=λy hy=>⟨n y hy,λz=>by have:=Zm.mp U y hy;rw[z]at this;cases this⟩;refine⟨tuples' (N3 (jf t) !=N3 "tuple"),V,p,λh' kp=>⟨λE' W q=>?_,λi j C a l N=>?_⟩⟩
  ·have J:Inv X pq σ H {s with heap:=h'}:=I.kept (t':=s.toks) kp;obtain⟨fs,f1,f2,f3⟩:=BW (t:=t) J Q ys vs its hne rr hv;exact kat_kind (T:=.type (jf t)) f1 (by omega) f3 (by simp) q
  ·have J:Inv X pq σ H {s with heap:=h'}:=I.kept (t':=s.toks) kp;obtain⟨d,v,u,Z,e2,E,m,r,w,B,D⟩:=at_ i a;obtain⟨Y,v',u',K,L,M,g,G,c,e,f⟩:=at_ j l;unfold kas_ask;rw[D,f];rw[B,e]at N;exact Jd (t:=t) J sk Q (by simp[cM]at O;omega) hu2 m g r w G c N
theorem BY(r:gf t ys=Nk)(a:∀y∈ys,aA t y=Nk)(R:ai X.K ⟨X.mg,F⟩ μ H ys vs)(x:Vals vs its){out:Lv}(O:ib its (λi j=>bW t (ys.getD i .non) (ys.getD j .non)) out):∃w,w.length=its.length/\ai X.K ⟨X.mg,F⟩ μ H (eN (bW t) ys) w/\Vals w out:=by
 have B:bX t=Nk:=kT r;have at_:=Mu a R x;have L:ys.length=vs.length:=R.length;have J:vs.length=its.length:=x.length;obtain⟨p,rfl,P,C⟩:=O;have u:∀i∈p,i<its.length:=λi z=>by simpa using P.mem_iff.mp z
 have m:p.length=its.length:=by rw[P.length_eq];simp
 have fin:ai X.K ⟨X.mg,F⟩ μ H (p.map λi=>ys.getD i .non) (p.map λi=>vs.getD i .non):=ai.of (by simp) λj d v b k=>by
  rw[Z2]at b k;cases o:p[j]? with
  |none=>rw[o]at b;cases b
  |some i=>
   rw[o]at b k;obtain⟨D,V,U,E,e,n,q,g,G,c,f⟩:=at_ i (u i (Zo o));cases b;cases k;show Rep X.K ⟨X.mg,F⟩ μ H (ys.getD i .non) (vs.getD i .non);rw[c];have:vs.getD i .non=V:=by simp[P_,e]
   rw[this];exact g
 have fin2:Vals (p.map λi=>vs.getD i .non) (p.map λi=>its.getD i Nr):=by
  have:∀(l:List Nat),(∀i∈l,i<its.length)->Vals (l.map λi=>vs.getD i .non) (l.map λi=>its.getD i Nr):=by
   intro l
   induction l with
   |nil=>exact λ_=>.nil
   |cons i l I=>
    intro h;obtain⟨D,V,U,E,e,n,q,g,G,c,f⟩:=at_ i (h i Ze);refine .cons ?_ (I λj A=>h j (Zc _ A));have:vs.getD i .non=V:=by simp[P_,e]
    show RelV (vs.getD i .non) (its.getD i Nr);rw[this,f];exact G
  exact this p u
 have s:(p.map λi=>ys.getD i .non)=eN (bW t) ys:=by
  refine BS B a ?_ ?_
  ·have:=P.map λi=>ys.getD i .non;refine this.trans (.of_eq ?_);refine Q7 (by simp;omega) λi b k=>?_;simp[k]
  ·rw[Yh];exact C
 rw[<-s];exact⟨_,by rw[Zl];exact m,fin,fin2⟩
end
theorem Je(V:X.A.units+64<cLine)(box:Bool)(t:eE)(A:cM t<=40):a9 X (.builtin "sorted") (rC X.K X.mg (kq box t)):=by
 intro P s E H xs us Q I r h;obtain⟨F,μ,S,ds,z,rl,w⟩:=h;unfold kq at w;split at w
 ·rename_i d;obtain⟨v,rfl,rd⟩:=rl.one;obtain⟨u,rfl,ru⟩:=vals1 r;split at w
  ·rename_i Y e;split at w
   ·rename_i T;obtain⟨B,N,o⟩:=T;have g:∀y∈Y,aA t y=Nk:=λy W=>Zm.mp B y W;obtain⟨a,vs,rfl,n,R⟩:=fH z rd e;cases ru
    obtain⟨b,f,U,x⟩:∃b f,b6 b s.heap a (NA f)/\Vals vs f:=by
     rcases n with n|n
     ·obtain⟨f,C,p,_⟩:=I.list n;exact⟨Nk,f,p.isList,C⟩
     ·obtain⟨f,C,p,_⟩:=I.tuple n;exact⟨Nl,f,p,C⟩
    refine Jb (c:=λi j=>bW t (Y.getD i .non) (Y.getD j .non)) U (by have:f.length=Y.length:=(R.length.trans x.length).symm;omega) (λM=>BX I z V A g o R x M) λq L J out Z k2 K O=>?_;obtain⟨ws,m,fin,fin2⟩:=BY (X:=X) o g R x O;have D:Inv X P E H {s with heap:=q}:=I.kept (t':=s.toks) Z;have G:Inv X P E (aP H q.objs.size (.lst ws)) {s with heap:=L}:=D.laid (t':=s.toks) k2 (Zh _) ⟨by have:f.length=Y.length:=(R.length.trans x.length).symm;rw[m,N5];omega,_,J,fin2,K⟩;have l:H q.objs.size=none:=D.hok.fresh (Zh _);refine⟨.ref q.objs.size,_,G,rfl,?_⟩;cases box with
    |true=>exact aR.box w z fin _ l
    |false=>exact aR.lst w z fin _ l
   ·exact w.elim
  ·exact w.elim
 ·exact w.elim
end Py
namespace Py
open PySem PySem.W PySem.Spec PyProof.Rows L2
noncomputable def kV(v:Np):Int:=match v with
 | .int k _=>k
 |_=>0
theorem Jf{f:α->β}:∀{l:List α} {us:List β},us.Perm (l.map f)->∃L:List α,L.Perm l/\us=L.map f:=λ{l us} p=>by
 generalize H:l.map f=m at p
 induction p generalizing l with
 |nil=>simp_all
 |cons x p d=>obtain⟨a,c,rfl,rfl,h⟩:=Qx.mp H;obtain⟨L,q,rfl⟩:=d h;exact⟨_,q.cons a,rfl⟩
 |swap x y k=>obtain⟨a,c,rfl,rfl,h⟩:=Qx.mp H;obtain⟨b,g,rfl,rfl,rfl⟩:=Qx.mp h;exact⟨_,List.Perm.swap _ _ _,rfl⟩
 |trans p q i I=>obtain⟨c,Q,e⟩:=I H;obtain⟨g,j,E⟩:=i e.symm;exact⟨_,j.trans Q,E⟩
theorem BZ{K:Fg}{mg:GS}{μ:La}{H:Hp}:∀ns:Li,ai K mg μ H (ns.map D.int) (ns.map V.int)
 | []=>.nil
 |n::ns=>.cons bq (BZ _)
theorem B0{K:Fg}{mg:GS}{μ:La}{H:Hp}:∀{cs:List (Li×Nn)},(∀c∈cs,b4 K H c.2 (c.1.map V.int))->ai K mg μ H (cs.map λc=>D.tup (c.1.map D.int)) (cs.map λc=>V.ref c.2)
 | [],_=>.nil
 |c::cs,h=>.cons (by exact⟨_,_,rfl,h c Ze,BZ _⟩) (B0 λd a=>h d (Zc _ a))
theorem B1:∀cs:List (Li×Nn),Vals (cs.map λc=>V.ref c.2) (cs.map λc=>NB c.2)
 | []=>.nil
 |c::cs=>.cons rfl (B1 _)
theorem B2(k:Li):aA (.seq .int) (.tup (k.map D.int))=Nk:=by show(k.map _).all _=Nk;rw[Zm];intro x h;obtain⟨i,_,rfl⟩:=Zq.mp h;rfl
theorem B3{a:Nn}{L:Lv}(H:∀{Q:Lv->Nm->Prop} {E':Vs},(∀(h':Ny) (tk:Nat) (vs:Lv),(∀b o,s.heap.get? b=some o->h'.get? b=some o)->vs.Perm L->Q vs {s with heap:=h',toks:=tk})->wpAny (model prog w) A.in1 (collect (.ref a)) Q E' s)(F:L.length<64)
  (d:∀(h1:Ny) (tk:Nat) (vs:Lv),(∀b o,s.heap.get? b=some o->h1.get? b=some o)->vs.Perm L->∃c,(2<=vs.length->∃κ:Pp,cX vs.length c/\(∀i j,i<vs.length->j<vs.length->vs.getD i Nr=vs.getD j Nr->bP vs.length c i=bP vs.length c j)/\∀h':Ny,(∀b o,h1.get? b=some o->h'.get? b=some o)->
   (∀(E':Vs) (l:Pp->Nm->Prop),l κ {s with heap:=h',toks:=tk}->wpAny (model prog w) A.in1.in1 (keyKind' vs.toArray) l E' {s with heap:=h',toks:=tk})/\
   ∀i j C,i<vs.length->j<vs.length->C (c i j) {s with heap:=h',toks:=tk}->kas_ask prog w A.in1.in1 κ vs i j C {s with heap:=h',toks:=tk})/\
   ∀(h':Ny) (g:Nat) (out:Lv),(∀b o,h1.get? b=some o->h'.get? b=some o)->h'.get? h1.objs.size=some (seqObj "list" out.toArray g)->ib vs c out->Q (.ref h1.objs.size) {s with heap:=h',toks:=tk}):
  wpAny (model prog w) A (call (.builtin "sorted") [.ref a]) Q E s:=by
 refine Ru kind_sorted plain_sorted entry_sorted (args_sorted1 _) ?_;unfold N8.«sorted»;refine Za (m:=checkCount "sorted" 1 1 _) (Zd (Za (H λh1 tk vs r p=>?_)));obtain⟨c,d,fin⟩:=d h1 tk vs r p;have k:vs.length<64:=by rw[p.length_eq];exact F
 have q:vs.length<=sizeLine:=by rw[N5];omega
 refine Za (SD ?_ q);have f:(h1.push (seqObj "list" vs.toArray 0)).get? h1.objs.size=some (seqObj "list" vs.toArray 0):=Zk _ rfl;refine Za (ZE (Z0 slot_list_sort ⟨_,f,rfl⟩ entry_list_sort ?body (args_list_sort _)))
 case body=>
  refine BU (c:=c) (s:={s with heap:=h1.push (seqObj "list" vs.toArray 0),toks:=tk}) f k (λn=>?_) λh' g out K e O=>?_
  ·obtain⟨κ,o,S,d⟩:=d n;refine⟨κ,o,S,λh' K=>?_⟩;obtain⟨u,v⟩:=d h' λb o e=>K b o (Zt (Zj e)) (Zb _ e);exact⟨u _,v⟩
  ·exact⟨_,rfl,Zd ⟨_,rfl,fin h' g out (λb o e=>K b o (Zt (Zj e)) (Zb _ e)) e O⟩⟩
theorem Jg{t:NF}{Q:Vs}(l:A.handled=none)(T:TB w t es.size)(g:s.heap.get? a=some o)(n:o.ExactSet)(d:o.data=.set es ep t)(f:es.size<64)
  (H:∀(h1:Ny) (tk:Nat) (vs:Lv),(∀b o,s.heap.get? b=some o->h1.get? b=some o)->vs.Perm (es.toList.map (·.2))->∃c,(2<=vs.length->∃κ:Pp,cX vs.length c/\(∀i j,i<vs.length->j<vs.length->vs.getD i Nr=vs.getD j Nr->bP vs.length c i=bP vs.length c j)/\∀h':Ny,(∀b o,h1.get? b=some o->h'.get? b=some o)->
   (∀(E':Vs) (k:Pp->Nm->Prop),k κ {s with heap:=h',toks:=tk}->wpAny (model prog w) A.in1.in1 (keyKind' vs.toArray) k E' {s with heap:=h',toks:=tk})/\
   ∀i j C,i<vs.length->j<vs.length->C (c i j) {s with heap:=h',toks:=tk}->kas_ask prog w A.in1.in1 κ vs i j C {s with heap:=h',toks:=tk})/\
   ∀(h':Ny) (m:Nat) (out:Lv),(∀b o,h1.get? b=some o->h'.get? b=some o)->h'.get? h1.objs.size=some (seqObj "list" out.toArray m)->ib vs c out->Q (.ref h1.objs.size) {s with heap:=h',toks:=tk}):
  wpAny (model prog w) A (call (.builtin "sorted") [.ref a]) Q E s:=
 B3 (λfin=>BF (by omega) T g n d (by lia) fin) (by rw[Zl];exact f) H
theorem Jh{t:NF}(c:A.handled=none)(T:TB w t es.size)(g:s.heap.get? a=some o)(I:o.ExactSet)(d:o.data=.set es ep t)(f:es.toList.map gw=ks.map kM)(n:Tc (intKind prog w) es.toList)(z:ks∈p8)
  (fin:∀(h1 h':Ny) (tk m:Nat) (out:Lv),(∀b o,s.heap.get? b=some o->h1.get? b=some o)->(∀b o,h1.get? b=some o->h'.get? b=some o)->h'.get? h1.objs.size=some (seqObj "list" out.toArray m)->(∀v∈out,∃t,v=.int (kV v) t)->out.map kV=ks.map (λk:Nat=>(k:Int))->Q (.ref h1.objs.size) {s with heap:=h',toks:=tk}):
  wpAny (model prog w) A (call (.builtin "sorted") [.ref a]) Q E s:=by
 obtain⟨R,low,len,_,_⟩:=jb ks z;have hs:es.size=ks.length:=by have:=ZX Oj f;rw[Zl,Zl,ZI]at this;exact this
 refine Jg c T g I d (by omega) λh1 tk vs U F=>?_;have K:es.toList.map h_=ks.map λk:Nat=>(k:Int):=by have:=ZX (QV (·.2)) f;rw[ZY,ZY]at this;exact this
 have g9:∀v∈vs,∃t,v=.int (kV v) t:=λv y=>by obtain⟨e,M,rfl⟩:=Zq.mp (F.mem_iff.mp y);obtain⟨t,x⟩:=kJ n e M;exact⟨t,by rw[x];rfl⟩
 have D:(vs.map kV).Perm (ks.map λk:Nat=>(k:Int)):=by refine(F.map kV).trans (.of_eq ?_);rw[<-K,ZY];exact SE λe _=>rfl
 have Z:vs.length<=8:=by have:=D.length_eq;rw[Zl,Zl]at this;omega
 have at_:∀i,i<vs.length->∃t,vs.getD i Nr=.int (kV (vs.getD i Nr)) t:=λi H=>g9 _ (by rw[Oc,Zf H];exact P' H);refine⟨λi j=>decide (kV (vs.getD i Nr)<kV (vs.getD j Nr)),λl=>?_,λh' m out V e O=>fin h1 h' tk m out U V e ?_ ?_⟩
 ·refine⟨oneType',⟨λi _=>by simp,λi j _ _ h=>?_,λi j k _ _ _ h g=>?_⟩,λi j _ _ h=>?_,λh' kp=>⟨λX Y q=>?_,λi j C H N r=>?_⟩⟩
  ·simp only[decide_eq_true_eq,decide_eq_false_iff_not]at h⊢;omega
  ·simp only[decide_eq_false_iff_not]at h g⊢;omega
  ·unfold bP;dsimp only;rw[h]
  ·refine kas_kind (T:=.type "int") l (λu S=>?_) (by decide) (by decide) q;obtain⟨t,x⟩:=g9 u S;rw[x];exact(show Looks (model prog w) h' (typeOf (.int (kV u) t)) (.type "int")from .now)
  ·unfold kas_ask;dsimp only at r;obtain⟨ta,J⟩:=at_ i H;obtain⟨tb,L⟩:=at_ j N;rw[J,L]at r⊢;exact kat_lt_int r
 ·obtain⟨p,rfl,P,_⟩:=O;intro v y;obtain⟨i,H,rfl⟩:=Zq.mp y;exact g9 _ (by have:=Z8.mp (P.mem_iff.mp H);rw[Oc,Zf this];exact P' this)
 ·obtain⟨p,rfl,P,z⟩:=O;have W:((p.map λi=>vs.getD i Nr).map kV).Perm (ks.map λk:Nat=>(k:Int)):=by refine List.Perm.trans ?_ D;refine((P.map λi=>vs.getD i Nr).map kV).trans (.of_eq (ZX (QV kV) ?_));refine Q7 (by simp) λi h1 l=>?_;simp[l]
  refine W.eq_of_pairwise (le:=(· <= ·)) (λa b _ _ h1 l=>Int.le_antisymm h1 l) ?_ ?_
  ·rw[Yh,Yh];refine z.imp λ{i j} h=>?_;simp only[decide_eq_false_iff_not]at h;omega
  ·rw[Yh];exact R.imp λh=>by omega
theorem Ji(c:A.handled=none)(x:da prog w s.heap a ks es)
  (fin:∀(h1 h':Ny) (tk C:Nat) (out:Lv),(∀b o,s.heap.get? b=some o->h1.get? b=some o)->(∀b o,h1.get? b=some o->h'.get? b=some o)->h'.get? h1.objs.size=some (seqObj "list" out.toArray C)->(∀v∈out,∃t,v=.int (kV v) t)->out.map kV=ks.map (λk:Nat=>(k:Int))->Q (.ref h1.objs.size) {s with heap:=h',toks:=tk}):
  wpAny (model prog w) A (call (.builtin "sorted") [.ref a]) Q E s:=by
 obtain⟨o,f,g,e,d⟩:=x.obj;exact Jh c ⟨by rw[x.size];exact(jb ks x.pow).2.2.2.1 _,rfl,rfl,A6 (jb ks x.pow).1⟩ g e d x.ent x.els x.pow fin
noncomputable def Jj(K:Fg)(mg:Mg)(v:V)(H:Hp)(Q:VK):Prop:=(∃(p:Nn) (ns:Li) (ks:List Nat),v=.ref p/\(c8 K H p (ns.map V.int)\/b4 K H p (ns.map V.int))/\(∀n∈ns,0<=n/\n<8)/\(∀k:Nat,k∈ks↔(k:Int)∈ns)/\ks.Pairwise (· < ·)/\∀l,H l=none->Q (.ref l) (aP H l (.lst (ks.map λk:Nat=>V.int k))))\/
 ∃F μ S p ks,aJ K ⟨mg,F⟩ μ S H/\v=.ref p/\IX K H p ks/\ks.length<64/\(∀c∈ks,c.1≠[])/\aR K ⟨mg,F⟩ μ H Q (.ok (.lst (d9 (ks.map (·.1)))) S)
theorem Jk{p:Nn}{ks:List (Li×Nn)}{E:Vs}(i:X.calm=Nk)(L:X.A.units+64<cLine)(I:Inv X pq σ H s)(Z:aJ X.K ⟨X.mg,F⟩ μ S H)(r:∀c∈ks,b4 X.K H c.2 (c.1.map V.int))(J:∀c∈ks,c.1≠[])(A:ks.length<64)
  (j:∀{Q:Lv->Nm->Prop} {E':Vs},(∀(h':Ny) (tk:Nat) (vs:Lv),(∀b o,s.heap.get? b=some o->h'.get? b=some o)->vs.Perm (cs.map λc=>NB c.2)->Q vs {s with heap:=h',toks:=tk})->wpAny (model X.prog X.w) X.A.in1 (collect (.ref p)) Q E' s) (N:(cs.map (·.1)).Nodup) (u:∀k,k∈cs.map (·.1)↔k∈ks.map (·.1)) (z:∀c∈cs,c∈ks)
  (fin:∀(h1 h':Ny) (tk q:Nat) (out:Lv) (w:List V),(∀b o,s.heap.get? b=some o->h1.get? b=some o)->(∀b o,h1.get? b=some o->h'.get? b=some o)->h'.get? h1.objs.size=some (seqObj "list" out.toArray q)->w.length<=76->ai X.K ⟨X.mg,F⟩ μ H (d9 (ks.map (·.1))) w->Vals w out->Q (.ref h1.objs.size) {s with heap:=h',toks:=tk}):
  wpAny (model X.prog X.w) X.A (call (.builtin "sorted") [.ref p]) Q E s:=by
 have G:cs.length<64:=by have h1:=N.length_le_of_subset λk r=>(u k).mp r;rw[Zl,Zl]at h1;omega
 refine B3 j (by rw[Zl];exact G) λh1 tk us K Y=>?_;have x:Inv X pq σ H {s with heap:=h1,toks:=tk}:=I.kept (t':=tk) K
 obtain⟨C,P,rfl⟩:∃C:List (Li×Nn),C.Perm cs/\us=C.map λc=>NB c.2:=by exact Jf Y
 have M:∀c∈C,c∈ks:=λc i=>z c (P.mem_iff.mp i);have R:ai X.K ⟨X.mg,F⟩ μ H (C.map λc=>D.tup (c.1.map D.int)) (C.map λc=>V.ref c.2):=B0 λc i=>r c (M c i);have v:Vals (C.map λc=>V.ref c.2) (C.map λc=>NB c.2):=B1 C
 have g:∀y∈(C.map λc=>D.tup (c.1.map D.int)),aA (.seq .int) y=Nk:=λy n=>by obtain⟨c,_,rfl⟩:=Zq.mp n;exact B2 c.1
 have m:gf (.seq .int) (C.map λc=>D.tup (c.1.map D.int))=Nk:=by
  show(Nk&&((C.map λc=>D.tup (c.1.map D.int)).all λd=> !fw d))=Nk;rw[Zm.mpr]
  ·rfl
  ·intro y n;obtain⟨c,i,rfl⟩:=Zq.mp n;have:=J c (M c i);cases h:c.1 with
   |nil=>exact absurd h this
   |cons a l=>rfl
 refine⟨_,λB=>BX x Z L (by decide) g m R v B,λh' q out U e O=>?_⟩;obtain⟨w,w1,w2,w3⟩:=BY (X:=X) m g R v O;refine fin h1 h' tk q out w K U e (by rw[w1,Zl,P.length_eq];omega) ?_ w3
 have:d9 (ks.map (·.1))=eN (bW (.seq .int)) (C.map λc=>D.tup (c.1.map D.int)):=by
  unfold d9;refine(BS (t:=.seq .int) rfl (λy n=>?_) ((uZ _ _).trans ?_) (BR (gB (.seq .int) rfl) _ g)).symm
  ·obtain⟨k,_,rfl⟩:=Zq.mp n;exact B2 k
  ·have W:(C.map (·.1)).Perm (kr (ks.map (·.1))):=by
    obtain⟨a,b⟩:=Bx (ks.map (·.1));refine(P.map _).trans ((OM N a).mpr λk=>(u k).trans (b k).symm)
   have:=W.map λk=>D.tup (k.map D.int);rw[ZY]at this;exact this
 rw[this];exact w2
theorem Jl{p:Nn}{ks:List (Li×Nn)}{E:Vs}(i:X.calm=Nk)(y:X.A.units+64<cLine)(I:Inv X pq σ H s)(z:aJ X.K ⟨X.mg,F⟩ μ S H)(h:∀c∈ks,b4 X.K H c.2 (c.1.map V.int))(u:∀c∈ks,c.1≠[])(f:ks.length<64)
  (x:dB X.prog X.w s.heap p cs) (a:∀k,k∈cs.map (·.1)↔k∈ks.map (·.1)) (n:∀c∈cs,c∈ks)
  (fin:∀(h1 h':Ny) (tk C:Nat) (out:Lv) (w:List V),(∀b o,s.heap.get? b=some o->h1.get? b=some o)->(∀b o,h1.get? b=some o->h'.get? b=some o)->h'.get? h1.objs.size=some (seqObj "list" out.toArray C)->w.length<=76->ai X.K ⟨X.mg,F⟩ μ H (d9 (ks.map (·.1))) w->Vals w out->Q (.ref h1.objs.size) {s with heap:=h',toks:=tk}):
  wpAny (model X.prog X.w) X.A (call (.builtin "sorted") [.ref p]) Q E s:=by
 obtain⟨o,A,t,g,q,d,l,P,m⟩:=x.obj;have r:=m.fits.2;have v:(cs.map (bj X.prog X.w)).toArray.size=cs.length:=by simp
 have B:=by have h1:=x.nod.length_le_of_subset λk h=>(a k).mp h;rw[Zl,Zl]at h1;omega
 refine Jk i y I z h u f (λfin=>BF (by simpa using I.ok.hd i) ⟨by simp_all,l,P,m.ris⟩ g q d (by lia) λh' tk vs k D=>fin _ _ _ k ?_) x.nod a n fin;have:(QV (λe=>e.2) (cs.map (bj X.prog X.w)).toArray.toList)=cs.map λc=>NB c.2:=by rw[ZY];rfl
 simp_all
theorem B4:∀{out:Lv} {ks:List Nat},(∀v∈out,∃t,v=.int (kV v) t)->out.map kV=ks.map (λk:Nat=>(k:Int))->Vals (ks.map λk:Nat=>V.int k) out
 | [],[],_,_=>.nil
 | [],_::_,_,h=>by cases h
 |_::_,[],_,h=>by cases h
 |v::out,k::ks,H,h=>by
  injection h with a b
  obtain⟨t,c⟩:=H v Ze;refine .cons ⟨t,?_⟩ (B4 (λv d=>H v (Zc _ d)) b);rw[c,a]
theorem Jm:∀{a b:List Nat},a.Pairwise (· < ·)->b.Pairwise (· < ·)->(∀k,k∈a↔k∈b)->a=b:=λ{a b} H c h=>by
 refine PF λx y _ _ H c=>by omega H c ?_
 exact(OM (H.imp λh=>Zt h) (c.imp λh=>Zt h)).mpr h
theorem Jn{z:Expr}(G:X.calm=Nk)(hu:X.A.units+64<cLine)(J:Gl X "sorted")(L:Gl X "set")(N:X.mg "sorted"=none)(O:X.mg "set"=none)(hb:bootBuiltins "sorted"=some (.builtin "sorted"))(U:bC z=Nk)(ha:PE X z ta):
  PE X (.Call (.Name "sorted" p1) [.Call (.Name "set" p2) [z] [] p3] [] p4) (λσ H Q=>ta σ H λx H1=>Jj X.K X.mg x H1 Q):=by
 intro A s σ H Q I h;have hs:=cr (env:=X.env) (es:=[]) U;refine Og (f8 I J N hb ?_ (by decide) (by decide));refine Qt ?_ rfl rfl;refine Oa ?_;refine Og (f8 I L O IW ?_ (by decide) (by decide));have hA:PA X [z] (eG ta tf):=cS ha e9 hs
 refine N1 (aO (hA p3 A s σ H (λvs H1=>match vs with
  | [x]=>Jj X.K X.mg x H1 Q
  |_=>False) I h) λus w zq=>?_) hs rfl
 obtain⟨vs,H1,l,r,q⟩:=zq
 match vs,q with
 | [v],.inr ⟨F,μ,S,p,ks,sk,e,d,D,U,q⟩=>subst e;obtain⟨u,rfl,ru⟩:=r.one;cases ru;refine oy G hu l d λh' T cs x e1 e2 y _=>?_;refine PX ?_;refine Jl G hu y sk d.2.1 U D x e1 e2 λf h2 j C out ws W Y g hl rw_ R=>?_;have m:Inv X A σ H1 {w with heap:=f,toks:=T}:=y.kept (t':=T) W;exact⟨.ref f.objs.size,aP H1 f.objs.size (.lst ws),m.laid (t':=j) Y (Zh _) ⟨by rw[N5];omega,out,C,R,g⟩,rfl,aR.lst q sk rw_ _ (m.hok.fresh (Zh _))⟩
 | [v],.inl ⟨p,Z,ks,e,d,low,hk,ris,q⟩=>
  subst e;obtain⟨u,rfl,ru⟩:=r.one;cases ru
  obtain⟨i,R,P⟩:∃i,Vals (Z.map V.int) i/\(w.heap.IsList p i.toArray\/w.heap.IsTuple p i.toArray):=by
   rcases d with d|d
   ·obtain⟨i,R,P,_⟩:=l.list d;exact⟨i,R,.inl P.isList⟩
   ·obtain⟨i,R,P,_⟩:=l.tuple d;exact⟨i,R,.inr P⟩
  have c:=l.ok.hd G;refine IU (vs:=i.toArray) (ns:=Z) c P (by simpa using GF R) low λh' T zq kp=>?_;obtain⟨K,es,x,M⟩:=zq;have y:Inv X A σ H1 {w with heap:=h',toks:=T}:=l.kept (t':=T) λb o e=>kp b o (Zj e) e;have E:K=ks:=Jm (jb K x.pow).1 ris λk=>(M k).trans (hk k).symm;subst E;refine PX ?_;refine Ji c x λf h2 j C out W Y g g9 ek=>?_;have m:Inv X A σ H1 {w with heap:=f,toks:=T}:=y.kept (t':=T) W
  have n:(K.map λk:Nat=>V.int k).length<=sizeLine:=by have:=(jb K x.pow).2.2.1;rw[Zl,N5];omega
  exact⟨.ref f.objs.size,aP H1 f.objs.size (.lst (K.map λk:Nat=>V.int k)),m.laid (t':=j) Y (Zh _) ⟨n,out,C,B4 g9 ek,g⟩,rfl,q _ (m.hok.fresh (Zh _))⟩
end Py
namespace Py
noncomputable def yi(kd:Bool)(e:Expr)(g:List NJ)(s:Scope)(p:Pos):Expr:=.ListComp e g s p
noncomputable def FE(kd:Bool)(e:Expr)(a:Np)(env:Env):Sem Unit:=uB e a env
def oK(X:Cx)(kd:Bool):Nn->List D->List V->HO->Prop:=oL
theorem u3{kd:Bool}{pos:Pos}{d:Nat}{it a:Np}{t i:Expr}{fs:Lx}(h:gens[d]?=some ⟨t,i,fs,0⟩):
  compTurn (yi kd elt gens scope pos) d it a env=(standAt i.pos>>=λ_=>pyNext it>>=λr=>match r with
   |none=>pure (.done .next)
   |some v=>letOwnedTupleGo t it v>>=λ_=>assign t env v>>=λ_=>(eP fs env>>=λok=>if ok=Nk then bt (yi kd elt gens scope pos) (FE kd elt a env) gens d a env else pure ())>>=λ_=>
    again (.compLoop (yi kd elt gens scope pos) d it a env)):=by cases kd<;>exact Ij h
section
variable {E:XK}
end
section
variable {E:XK}
end
section
variable {E:XK}{k:Nat}
theorem B5:a9 X (.type "str") (rC X.K X.mg uj):=by
 intro p s g H x U Q I r h;obtain⟨F,f,S,D,e,R,w⟩:=h;unfold uj at w;split at w
 ·rename_i k;split at w
  ·rename_i b;obtain⟨v,rfl,c⟩:=R.one;cases aG c;obtain⟨u,rfl,d⟩:=r.one;obtain⟨t,rfl⟩:=d;refine PySem.P.str_of_int ?_ ⟨.str _,H,I.kept λ_ _ z=>z,⟨_,rfl⟩,w _ H _ .refl e fJ⟩;by_cases a:k.natAbs=0
   ·simp[*]
   ·exact QZ ((Nat.log2_lt a).mpr b) (by simp)
  ·exact w.elim
 ·exact w.elim
theorem kU(O:cG X cell N sc CX E Φ Γ k)(b:jM)(h:ui b=Nk):a9 X (ku b) (rC X.K X.mg (aW b)):=by
 cases b with
 |len=>exact zI
 |tuple=>exact mW
 |list box=>exact tX box
 |int=>exact zK
 |min=>exact HC O.calm (by have:=O.room.un;omega)
 |max=>exact ni O.calm
 |isinst=>exact Hn
 |all=>exact zP O.calm
 |any=>exact zQ O.calm
 |sum=>cases h
 |repr=>cases h
 |abs=>cases h
 |str=>exact B5
 |sorted box t=>exact Je O.room.units box t (by unfold ui at h;simpa using h)
theorem u4:∀{l:Ls},iZ l=Nk->l.Nodup
 | [],_=>Qw
 |x::r,h=>by unfold iZ at h;simp at h;exact Oh.mpr ⟨h.1,u4 h.2⟩
theorem B6(O:cG X cell N sc CX E Φ Γ k)(h:HP scope sc=Nk):dN X scope:=by
 dsimp only[HP]at h;rw[ZN,beq_iff_eq]at h;obtain⟨a,b⟩:=h;refine⟨a,λy H z=>?_,λy H z=>?_,λy H z=>?_⟩
 ·grind
 ·grind
 ·have:=(λy H=>Zm.mp b y H) y H;rw[z]at this;simp at this;show X.env.scope.names.lookup _=_\/X.env.scope.names.lookup _=_;rw[O.sc];exact this
theorem B7(O:cG X cell N sc CX E Φ Γ k)(h:frB scope.names N' N fr=Nk):m6 X scope N' (gv fr):=by
 unfold frB at h;simp only[ZN,beq_iff_eq]at h;obtain⟨g,l⟩:=h;intro d n;refine⟨by simp[gv,g],λi v x c a=>?_⟩;have m:i<N'.length:=(Zg.mp c).1;have:=Zm.mp l i (Z8.mpr m);unfold gv at a;rw[Z2]at a;cases e:fr[i]? with
 |none=>rw[e]at a;cases a
 |some o=>
  rw[e]at a;cases o with
  |none=>cases a
  |some j=>
   rw[e]at this;simp only[c,ZN,beq_iff_eq]at this;have H:(d[j]?).join=some v:=N_ a;refine⟨this.1,j,by rw[O.n];exact this.2,?_⟩;cases b:d[j]? with
   |none=>rw[b]at H;cases H
   |some o=>rw[b]at H;have f:o=some v:=H;rw[f]
theorem oG(O:cG X cell N sc CX E Φ Γ k):(relabel scope X.env).names=kx scope.names sc:=by
 show scope.names.map _=scope.names.map _;congr 1;funext p;obtain⟨n,K⟩:=p;have e:X.env.kindOf n=sc.lookup n:=by show X.env.scope.names.lookup n=_;rw[O.sc]
 simp[e,O.kd,Bool.and_true]
theorem B8(O:cG X cell N sc CX E Φ Γ k)(hs:scope.kind=.function)(hn:iZ N'=Nk)(C:Nn)(s0:Nm)(H0:Hp)(fp:La):cG (fM X scope N' C s0 H0 fp) (ul scope.names) N' (kx scope.names sc) CX E0 Φ Γ k where
 n:=rfl
 nd:=u4 hn
 sc:=oG O
 kd:=hs
 calm:=O.calm
 room:=O.room
 fn:=λx z=>z
 mod:=O.mod
 pass:=λ_ _ _ _ _ _ _ z=>O.cx0 _ _ _ _ _ z
 cx0:=O.cx0
theorem oH{i:Expr}(h:nD i=Nk):∀x,foldedSetIterable i env x=pure x:=by intro x;cases i<;>first|rfl|cases h
theorem iA{e:Expr}{c:CE}(h:PE X e (tE X.K X.mg E Φ Γ c))(g:∀W,isTrue e X.env W=(do let v <-W;standAt e.pos;holding [v] (truthy v))){σ:L2.St}:
  PT X e (λσ H Q=>∃F μ ρ S,aJ X.K ⟨X.mg,F⟩ μ S H/\aU X.K ⟨X.mg,F⟩ μ H ρ σ/\ak X.K ⟨X.mg,F⟩ E (λ_ _ a b=>a=b) μ H Q ((aj Φ Γ c ρ S).bind λd S1=>match bc S1 d with|some k=>.ok k S1|none=>.fail)):=
 dy (Gq h g) λσ H Q z=>aF z λF μ ρ S i f w=>⟨F,_,_,S,i,f,(ak.bind w).mono λv H1 z=>ay z λm S1 d x s r j=>by obtain⟨k,e,l⟩:=Aq j;exact⟨k,ry s r e,l _ _ k .refl s rfl⟩⟩
theorem B9:∀{xs:List D},xs.all kt=Nk->xs.all (aA .int)=Nk/\∀n∈xs.filterMap cK,0<=n/\n<8
 | [],_=>⟨rfl,λn h=>by simp_all⟩
 |x::xs,h=>by
  simp only[OC,ZN]at h;obtain⟨c,b⟩:=B9 h.2;cases x with
  |int i=>
   have a:=h.1;simp[kt]at a;refine⟨by trivial,λn H=>?_⟩;rcases Zi.mp H with rfl|H
   ·exact a
   ·exact b n H
  |_=>cases h.1
theorem u5{Q:VK}(s:aJ K ⟨mg,F⟩ μ S H)(r:Rep K ⟨mg,F⟩ μ H d v)(w:aR K ⟨mg,F⟩ μ H Q (cL d S)):Jj K mg v H Q:=by
 unfold cL at w;split at w
 ·rename_i x e;split at w
  ·rename_i f;obtain⟨a,vs,rfl,m,R⟩:=fH s r e;clear e;obtain⟨u,low⟩:=B9 f;have g:=uR u;generalize x.filterMap cK=N at low g w;subst g;have B:=uS R;subst B;refine .inl ⟨a,N,(Nt 8).filter λk:Nat=>N.contains (k:Int),rfl,m,low,λk=>?_,List.pairwise_lt_range.sublist Px,λl A=>?_⟩
   ·rw[Qg,Z8,Ph];exact⟨λh=>h.2,λh=>⟨by have:=low _ h;omega,h⟩⟩
   ·have G:∀b:List Nat,ai K ⟨mg,F⟩ μ H (b.map λk:Nat=>D.int k) (b.map λk:Nat=>V.int k):=λb=>by
     induction b with
     |nil=>exact .nil
     |cons k b I=>exact .cons bq I
    exact aR.lst w s (G _) l A
  ·split at w
   ·rename_i f;obtain⟨p,b,rfl,m,E⟩:=uU s r e ⟨f.1,by omega⟩;refine .inr ⟨F,μ,S,p,b,s,rfl,m,by have:=ZX Oj E;rw[Zl,Zl]at this;omega,λc j=>?_,by rw[E];exact w⟩;have:c.1∈x.map fx:=by rw[<-E];exact QF j
    obtain⟨y,o,n⟩:=Zq.mp this;have q:=Zm.mp f.1 y o;have t:=Zm.mp f.2.2 y o;intro z;rw[z]at n;obtain⟨Z,rfl,C⟩:=db q;cases Z with
    |nil=>cases t
    |cons a l=>obtain⟨i,rfl⟩:=cY (C a Ze);cases n
   ·exact w.elim
 ·exact w.elim
theorem u6(O:cG X cell N sc CX E Φ Γ k){z:Expr}{a:CE}(h1:br sc "sorted"=Nk)(h:br sc "set"=Nk)(c:bC z=Nk)(b:PE X z (tE X.K X.mg E Φ Γ a)):PE X (.Call (.Name "sorted" p1) [.Call (.Name "set" p2) [z] [] p3] [] p4) (tE X.K X.mg E Φ Γ (.sset a)):=
 aM (Jn O.calm O.room.units (O.gl (cN h1).1) (O.gl (cN h).1) (O.mod.bl _ (by decide+kernel)) (O.mod.bl _ (by decide+kernel)) (rfl) c b) λm H Q Z=>aF Z λF j l S f e w=>
  ⟨F,_,_,S,f,e,(ak.bind w).mono λv H1 Z=>ay Z λg i d x s r W=>u5 s r (cB W)⟩
end
section
variable {E:XK}{k:Nat}
end
section
variable {a b c d:Expr}{tb tc td:TE}{pos:Pos}
noncomputable def oJ(r g R:R2)(t tb T h:TE):TT:=λσ H Q=>t σ H λx H1=>tb σ H1 λy H2=>r x y H2 λz a=>∃k,z=.bl k/\
 (if k=Nk then T σ a λw d=>g y w d λi b=>∃c,i=.bl c/\(if c=Nk then h σ b λv e=>R w v e λZ f=>∃K,Z=.bl K/\Q K f else Q Nl b)else Q Nl a)
theorem Jo{o:PU}{r w R:R2}(ho:b9 X (compareOp o) r)(i:b9 X (compareOp op') w)(g:b9 X (compareOp op'') R)(T:PE X a ta)(U:PE X b tb)(V:PE X c tc)(Y:PE X d td)
  (hm:lastMarks [o,op',op''] [b,c,d]=Nl):PT X (.Compare a [o,op',op''] [b,c,d] pos) (oJ r w R ta tb tc td):=by
 intro p s f H Q I h
 refine isTrue_chain (aO (T p s f H _ I h) λv s1 Z=>Z.elim λx Z=>Z.elim λH1 Z=>Z.elim λJ Z=>Z.elim λr1 q1=>test_link (aO (U p s1 f H1 _ J q1) λu s2 Z=>
  Z.elim λy Z=>Z.elim λD Z=>Z.elim λK Z=>Z.elim λA q2=>aO (ho p s2 f D x y v u _ K r1 A q2) λd s3 Z=>?_)) hm
 obtain⟨z,j,m,r3,k,e,q⟩:=Z;subst e;cases r3;refine ZR ?_;cases k with
 |false=>exact ite_ff ⟨j,m,q⟩
 |true=>
  refine ite_tt (test_link (aO (V p s3 f j _ m q) λW s4 Z=>Z.elim λC Z=>Z.elim λE Z=>Z.elim λL Z=>Z.elim λB q4=>aO (i p s4 f E y C u W _ L A B q4) λd' s5 Z=>?_));obtain⟨z2,l,n,r5,k2,P,t⟩:=Z;subst P;cases r5;refine ZR ?_;cases k2 with
  |false=>exact ite_ff ⟨l,n,t⟩
  |true=>refine ite_tt (test_last (aO (Y p s5 f l _ n t) λw2 s6 Z=>Z.elim λz3 Z=>Z.elim λF Z=>Z.elim λM Z=>Z.elim λr6 q6=>aO (g p s6 f F C z3 W w2 _ M B r6 q6) λO s7 Z=>?_));obtain⟨z4,G,N,r7,k3,S,q7⟩:=Z;subst S;cases r7;exact ZR ⟨G,N,q7⟩
end
section
variable {E:XK}{l r r2:Expr}{pos:Pos}{a b c d:CE}
theorem Jp{o:PU}(j:X.A.units+64<cLine)(T:PE X l (tE X.K X.mg E Φ Γ a))(U:PE X r (tE X.K X.mg E Φ Γ b))(V:PE X r' (tE X.K X.mg E Φ Γ c))(Y:PE X r2 (tE X.K X.mg E Φ Γ d))(Z:behindInMarks op'' r2=Nl):PT X (.Compare l [o,op',op''] [r,r',r2] pos) (tT X.K X.mg E Φ Γ (.chain3 o op' op'' a b c d)):=
 dy (Jo (dq o j) (dq op' j) (dq op'' j) T U V Y Z) λσ H Q z=>aF z λF μ i S sk g w=>
  ⟨F,μ,i,S,sk,g,(ak.bind w).mono λv1 H1 z=>ay z λp J d1 x s1 r1 w1=>⟨F,p,i,J,s1,g.mono x,(ak.bind w1).mono λv2 H2 z=>ay z λq K d2 n s2 r2 w2=>
   ⟨F,q,K,d1,d2,s2,Rep.mono n _ _ r1,r2,cB ((ak.bind w2).mono λv3 C z=>ay z λe L d3 x3 v r3 w3=>by
    obtain⟨k,rfl,rfl,W⟩:=fO w3 r3;refine⟨k,rfl,?_⟩;cases k with
    |true=>
     rw[if_pos rfl]at W⊢
     exact⟨F,e,i,L,v,(g.mono x).mono (n.trans x3),(ak.bind W).mono λv4 H4 z=>ay z λs M D A s4 R w5=>⟨F,s,M,d2,D,s4,Rep.mono (x3.trans A) _ _ r2,R,cB ((ak.bind w5).mono λv5 G z=>ay z λf N d5 B y r5 w6=>by
      obtain⟨k,rfl,rfl,h⟩:=fO w6 r5;refine⟨k,rfl,?_⟩;cases k with
      |true=>rw[if_pos rfl]at h⊢;exact⟨F,f,i,N,y,(((g.mono x).mono (n.trans x3)).mono A).mono B,(ak.bind h).mono λv6 H6 z=>ay z λt O P x6 s6 r6 w8=>⟨F,t,O,D,P,s6,Rep.mono (B.trans x6) _ _ R,r6,cB ((ak.bind w8).mono λv7 I z=>ay z λu S7 d7 x7 s7 r7 w9=>by obtain⟨k,rfl,rfl,m⟩:=fO w9 r7;exact⟨k,rfl,m u I k .refl s7 rfl⟩)⟩⟩
      |false=>rw[if_neg (by decide)]at h⊢;exact h f G _ .refl y rfl)⟩⟩
    |false=>rw[if_neg (by decide)]at W⊢;exact W e C _ .refl v rfl)⟩⟩⟩
end
theorem B_{l:Expr}{op x k p pos}
  (h:wpAny M A (eval (.BinOp l op (.Constant (.str x) k p) pos) env) Q E s):wpAny M A (eval (.BinOp l op (.Constant (.str x) k p) pos) env) (λv s'=>1<=s'.toks/\Q v s') E s:=by
 intro b f c;have d:=h b f c;simp only[eval_BinOp,Sem.wp_bind',Sem.wp_holding]at d⊢;exact Rf M b _ (λa P S H=>Rf M b _ (λ_ _ _ x=>x) (λ_ _ _ x=>x.2) _ _ (Sem.wp_toks M b 1 _ _ _ _ _ (Rq _ _) H)) (λ_ _ _ e=>e) _ _ d
theorem Mv{t:Sem α}{Q b:α->Nm->Prop}(c:1<=s.toks)(h:wpAny M A t Q E s)(H:∀a s',Q a s'->1<=s'.toks->b a s'):wpAny M A t b E s:=
 ZJ (wpAny_toks_of c h) (λa s' x=>H a s' x.2 x.1) (λ_ _ x=>x.2)
def FF(X:Cx)(es:Lx)(t:TA):Prop:=
 ∀(pos:Pos) (pq:Lp) (s:Nm) (σ:L2.St) (H:Hp) (Q:List V->Hp->Prop),L2.Inv X pq σ H s->1<=s.toks->t σ H Q->wpAny (model X.prog X.w) X.A (spliced (backTo pos (starEach es X.env))) (AP X pq σ Q) X.xe s
def Mw(X:Cx)(e:Expr)(t:TE):Prop:=
 ∀(pq:Lp) (s:Nm) (σ:L2.St) (H:Hp) (Q:VK),L2.Inv X pq σ H s->1<=s.toks->t σ H Q->wpAny (model X.prog X.w) X.A (eval e X.env) (EP X pq σ Q) X.xe s
section
variable {E:XK}{es:Lx}{t:TA}{pos:Pos}{a b c d:CE}{cs:List CE}
theorem Jq(g:PE X e te)(j:FF X es t)(hs:starEach (e::es) X.env=(Nl,eval e X.env)::starEach es X.env):FF X (e::es) (eG te t):=by intro pos p s b H Q I i h;rw[hs];show wpAny _ _ (spliced ((Nl,eval e X.env)::backTo pos (starEach es X.env))) _ _ s;refine Oa (Mv i (g p s b H _ I h) λu S z a=>?_);obtain⟨x,H1,d,r,q⟩:=z;exact aO (j pos p S b H1 _ d a q) λU m z=>by obtain⟨l,c,f,R,k⟩:=z;exact(⟨x::l,c,f,.cons r R,k⟩)
theorem Jr{l:Expr}{op x k p pos}(f:PE X (.BinOp l op (.Constant (.str x) k p) pos) te)(g:FF X es t):PA X (.BinOp l op (.Constant (.str x) k p) pos::es) (eG te t):=by intro pos P s b H Q I h;refine Oa (aO (B_ (f P s b H _ I h)) λu S z=>?_);obtain⟨a,x,H1,d,r,q⟩:=z;exact aO (g pos P S b H1 _ d a q) λU m z=>by obtain⟨j,c,e,R,i⟩:=z;exact(⟨x::j,c,e,.cons r R,i⟩)
theorem Js(f:Mw X e te)(i:PA X es t)(hs:starEach (e::es) X.env=(Nl,eval e X.env)::starEach es X.env):FF X (e::es) (eG te t):=by intro pos p s a H Q I g h;rw[hs];show wpAny _ _ (spliced ((Nl,eval e X.env)::backTo pos (starEach es X.env))) _ _ s;refine Oa (aO (f p s a H _ I g h) λu S z=>?_);obtain⟨x,H1,c,r,q⟩:=z;exact aO (i pos p S a H1 _ c q) λU l z=>by obtain⟨k,b,d,R,j⟩:=z;exact(⟨x::k,b,d,.cons r R,j⟩)
noncomputable def tG(X:Cx)(E:XK)(r:bu->ae->Res D):TE:=λσ H Q=>∃F μ ρ S,aJ X.K ⟨X.mg,F⟩ μ S H/\aU X.K ⟨X.mg,F⟩ μ H ρ σ/\ak X.K ⟨X.mg,F⟩ E (Rep X.K ⟨X.mg,F⟩) μ H Q (r ρ S)
theorem oM{o:Expr}{m:Str}(h:gh o=Nk):attributeBase o m env (eval o env)=eval o env:=by cases o<;>first|rfl|cases h
theorem oN{o:Expr}{x:Str}{j J:Nat}(A:gh o=Nk)(u:(apos.endLine==pos.line)=Nk)(B:PE X o (tE X.K X.mg E Φ Γ a)):
  Mw X (.Call (.Attribute o "replace" apos) [.Constant (.str x) j p1,.Constant (.str y) J p2] [] pos) (tG X E λρ S=>(aj Φ Γ a ρ S).bind λd S1=>(iW x y d S1).noErr):=by
 intro P s L H Q I p Z;obtain⟨F,e,ρ,S,D,l,w⟩:=Z
 have n:=B P s L H (λv H1=>∃F e S z,aJ X.K ⟨X.mg,F⟩ e S H1/\v=.str z/\ak X.K ⟨X.mg,F⟩ E (Rep X.K ⟨X.mg,F⟩) e H1 Q (iW x y (.str z) S).noErr) I ⟨F,e,ρ,S,D,l,(ak.bind w).mono λV H1 Z=>ay Z λc S1 d1 G f r W=>by
  cases d1 with
  |str z=>cases dM r;exact⟨F,c,S1,z,f,rfl,W⟩
  |_=>exact W.elim⟩
 refine QA (oM A) ?_ u rfl (Mv p n λv f C q=>?_)
 ·rfl
 ·obtain⟨G,H1,g,r,M,c,S1,z,K,m,W⟩:=C;subst m;obtain⟨t,rfl⟩:=r;refine⟨"str","str.replace",PySem.F.plainAttrs_str,PySem.F.slot_str_replace,PySem.F.type_str_replace,typeIs_str _ _ _,(λb i=>nomatch i),?_⟩;refine O2 rfl (Pn ?_);show wpAny _ _ (spliced [(Nl,eval (.Constant (.str x) j p1) X.env),(Nl,eval (.Constant (.str y) J p2) X.env)]) _ _ _;refine Oa (QH (Oa (QH (PX ?_))));by_cases h:z.length<=10000/\(x==y)=Nl/\y.length<=10
  ·rw[show iW x y (.str z) S1=.ok (.str (Sy z x y)) S1 from if_pos h]at W;refine SC.replace (by lia) (by lia) (by lia) h.2.1 ?_ λT k=>⟨.str (Sy z x y),H1,g.tok _,⟨T,rfl⟩,W c H1 _ .refl K fJ⟩;have N:(z.length+1)*y.length<=10001*10:=Nat.mul_le_mul (by omega) h.2.2;omega
  ·rw[show iW x y (.str z) S1=.fail from if_neg h]at W;exact(show False from W).elim
noncomputable def Mx(X:Cx)(E:XK)(r:bu->ae->Res (List D)):TA:=λσ H Q=>∃F μ ρ S,aJ X.K ⟨X.mg,F⟩ μ S H/\aU X.K ⟨X.mg,F⟩ μ H ρ σ/\ak X.K ⟨X.mg,F⟩ E (ai X.K ⟨X.mg,F⟩) μ H Q (r ρ S)
noncomputable def gC(p:bu->ae->Res D)(r:bu->ae->Res (List D)):bu->ae->Res (List D):=λρ S=>(p ρ S).bind λd S1=>(r ρ S1).bind λds S2=>.ok (d::ds) S2
theorem oO{p:bu->ae->Res D}{r:bu->ae->Res (List D)}{t:TA}(g:∀H Q,Mx X E r σ H Q->t σ H Q){Q:List V->Hp->Prop}(h:Mx X E (gC p r) σ H Q):eG (tG X E p) t σ H Q:=aF h λF n c S k e w=>
 ⟨F,n,c,S,k,e,(ak.bind w).mono λv H1 z=>ay z λa f d1 x s R W=>
  g _ _ ⟨F,a,c,f,s,e.mono x,(ak.bind W).mono λvs d z=>ay z λb o q m j i l=>l b d _ .refl j (.cons (Rep.mono m _ _ R) i)⟩⟩
theorem u8{g m i j:Expr}{l x:Str}{P:Pos}{J K L:Nat}(h1:bC g=Nk)(t:bC i=Nk)(u:gh j=Nk)(C:(apos.endLine==p3.line)=Nk)
  (v:PE X g (tE X.K X.mg E Φ Γ a)) (A:PE X m (tE X.K X.mg E Φ Γ b)) (h:PE X i (tE X.K X.mg E Φ Γ c)) (B:PE X j (tE X.K X.mg E Φ Γ d)) (I:PA X es (tL X.K X.mg E Φ Γ cs)):
  PE X (.List (g:: .BinOp m .Add (.Constant (.str l) J P) p4::i:: .Call (.Attribute j "replace" apos) [.Constant (.str x) K p1,.Constant (.str y) L p2] [] p3::es) pos) (tE X.K X.mg E Φ Γ (.lstR a b l c d x y cs)):=by
 refine aM (f9 (cS v (Jr (rE (a:=b) (b:=.lit (.str l)) A (kA (by unfold iw;exact beq_self_eq_true l))) (Jq h (Js (oN u C B) I (cr rfl)) (cr t))) (cr h1))) λT H Q z=>?_;obtain⟨F,n,e,S,N,s,w⟩:=z;have O:ak X.K ⟨X.mg,F⟩ E (Rep X.K ⟨X.mg,F⟩) n H Q ((gC (aj Φ Γ a) (gC (aj Φ Γ (.bin .Add b (.lit (.str l)))) (gC (aj Φ Γ c) (gC (λe S=>(aj Φ Γ d e S).bind λd f=>(iW x y d f).noErr) (ah Φ Γ cs)))) e S).bind λD o=>if D.length<1000 then .ok (.lst D) o else .fail):=w;refine oO (λ_ _=>oO λ_ _=>oO λ_ _=>oO λ_ _ q=>q) ⟨F,n,e,S,N,s,(ak.bind (Rel:=ai X.K ⟨X.mg,F⟩) O).mono λvs H1 z=>?_⟩;obtain⟨k,f,D,R,M,r,W⟩:=z;by_cases h:D.length<1000
 ·rw[if_pos h]at W;refine⟨by rw[<-r.length];exact O8 (ZA h (by decide)),λp G=>aR.lst (show aR X.K ⟨X.mg,F⟩ k H1 Q (.ok (.lst D) f)from W) M r p G⟩
 ·rw[if_neg h]at W;exact W.elim
end
theorem oP{E:XK}{c:CE}(h:∀ρ S,am Φ Γ c ρ S=.fail):PW X e (tT X.K X.mg E Φ Γ c):=λW p s f H Q I z=>aF z λF d ρ S b a w=>by rw[h]at w;exact w.elim
theorem B'{l:List α}{d:Nat}{x:α}{r:List α}(h:l.drop d=x::r):l[d]?=some x:=by have:=ZX (λl=>l[0]?) h;simpa using this
theorem Jt{l:List α}{d:Nat}(h:l.drop d=[]):l[d]?=none:=by simp_all
theorem Ju{l:List α}{d:Nat}{x:α}{r:List α}(h:l.drop d=x::r):l.drop (d+1)=r:=by
 have:(l.drop d).drop 1=r:=by simp_all
 rwa [List.drop_drop]at this
section
variable {E:XK}{a b:CE}{l x y:Expr}{pos:Pos}{n:Bool}
theorem u9(h:PE X l (tE X.K X.mg E Φ Γ a))(h1:n=Nk->PE X x (tE X.K X.mg E Φ Γ b))(H:n=Nl->∃r rest,y=.BoolOp .And (r::rest) pos/\PE X y (tE X.K X.mg E Φ Γ b)):PE X (.BoolOp .And (l::cond n [x] (vw y).es) pos) (tE X.K X.mg E Φ Γ (.band a b)):=by
 cases n with
 |true=>exact rF h (jY (h1 rfl))
 |false=>obtain⟨r,rest,rfl,q⟩:=H rfl;exact rF h q
theorem Ca(h:PE X l (tE X.K X.mg E Φ Γ a))(h1:n=Nk->PE X x (tE X.K X.mg E Φ Γ b))(H:n=Nl->∃r rest,y=.BoolOp .Or (r::rest) pos/\PE X y (tE X.K X.mg E Φ Γ b)):PE X (.BoolOp .Or (l::cond n [x] (vw y).es) pos) (tE X.K X.mg E Φ Γ (.bor a b)):=by
 cases n with
 |true=>exact Ap h (jY (h1 rfl))
 |false=>obtain⟨r,rest,rfl,q⟩:=H rfl;exact Ap h q
theorem Cb(h:PT X l (tT X.K X.mg E Φ Γ a))(h1:n=Nk->PT X x (tT X.K X.mg E Φ Γ b))(H:n=Nl->∃r rest,y=.BoolOp .And (r::rest) pos/\PW X y (tT X.K X.mg E Φ Γ b)):PW X (.BoolOp .And (l::cond n [x] (vw y).es) pos) (tT X.K X.mg E Φ Γ (.band a b)):=by
 cases n with
 |true=>exact rG h (l8 (h1 rfl))
 |false=>obtain⟨r,rest,rfl,q⟩:=H rfl;exact rG h q
theorem kW(h:PT X l (tT X.K X.mg E Φ Γ a))(h1:n=Nk->PT X x (tT X.K X.mg E Φ Γ b))(H:n=Nl->∃r rest,y=.BoolOp .Or (r::rest) pos/\PW X y (tT X.K X.mg E Φ Γ b)):PW X (.BoolOp .Or (l::cond n [x] (vw y).es) pos) (tT X.K X.mg E Φ Γ (.bor a b)):=by
 cases n with
 |true=>exact Au h (jW (h1 rfl))
 |false=>obtain⟨r,rest,rfl,q⟩:=H rfl;exact Au h q
theorem u_{es:Lx}(h:ky b=Nk):∃r rest,aY b N (.BoolOp .And es pos)=.BoolOp .And (r::rest) pos:=by
 unfold ky at h;split at h
 ·exact⟨_,_,rfl⟩
 ·cases h
theorem vc{es:Lx}(h:gk b=Nk):∃r rest,aY b N (.BoolOp .Or es pos)=.BoolOp .Or (r::rest) pos:=by
 unfold gk at h;split at h
 ·exact⟨_,_,rfl⟩
 ·cases h
theorem kX{tg:CT}(h:nE tg=Nk):fy (i7 tg N e)=Nk:=by
 cases tg with
 |var i=>cases h
 |tup t=>rfl
theorem fB{a b:Bool}(h:cond n a b=Nk)(z:n=Nk):a=Nk:=by lia
theorem cz{a b:Bool}(h:cond n a b=Nk)(z:n=Nl):b=Nk:=by lia
end
def M6(c:CE):Prop:=∀{X:Cx} {cell:Str->Bool} {N:Ls} {sc:Sc} {CX:dk} {E:XK} {Φ:FT} {Γ:Str->Option D} {k:Nat} {e:Expr},cG X cell N sc CX E Φ Γ k->bK c N sc e=Nk->PE X (aY c N e) (tE X.K X.mg E Φ Γ c)
def My(c:CE):Prop:=∀{X:Cx} {cell:Str->Bool} {N:Ls} {sc:Sc} {CX:dk} {E:XK} {Φ:FT} {Γ:Str->Option D} {k:Nat} {e:Expr},cG X cell N sc CX E Φ Γ k->bK c N sc e=Nk->PT X (aY c N e) (tT X.K X.mg E Φ Γ c)
def Mz(c:CE):Prop:=∀{X:Cx} {cell:Str->Bool} {N:Ls} {sc:Sc} {CX:dk} {E:XK} {Φ:FT} {Γ:Str->Option D} {k:Nat} {e:Expr},cG X cell N sc CX E Φ Γ k->bK c N sc e=Nk->(ky c||gk c)=Nk->PW X (aY c N e) (tT X.K X.mg E Φ Γ c)
def MA(c:CE):Prop:=∀{X:Cx} {cell:Str->Bool} {N:Ls} {sc:Sc} {CX:dk} {E:XK} {Φ:FT} {Γ:Str->Option D} {k:Nat} {tg:CT} {t e:Expr},cG X cell N sc CX E Φ Γ k->Am c N sc tg e=Nk->(nE tg=Nk->fy t=Nk)->PI X t (uq c N e) (tI X.K X.mg E Φ Γ c)
def MB(c:CE):Prop:=∀{X:Cx} {cell:Str->Bool} {N:Ls} {sc:Sc} {CX:dk} {E:XK} {Φ:FT} {Γ:Str->Option D} {k:Nat} {kd:Bool} {e:Expr} {gens g:List NJ} {scope:Scope} {pos:Pos} {d:Nat} {acc:Nn},cG X cell N sc CX E Φ Γ k->X.xe=(λ_ _=>False)->gens.drop (d+1)=uo c N g->Fy c kd cell N sc g e=Nk->
  PB X (bt (yi kd (nF c N e) gens scope pos) (FE kd (nF c N e) (.ref acc) X.env) gens d (.ref acc) X.env) (tB X.K X.mg (oK X kd) Φ Γ c acc)
theorem Cc{c:CE}(z:∀Φ Γ ρ S,am Φ Γ c ρ S=.fail):My c:=λ_ _=>(oP λ_ _=>z _ _ _ _).pt
theorem Cd{c:CE}(z:(ky c||gk c)=Nl):Mz c:=λ_ _ h=>by rw[z]at h;cases h
theorem Ce{c:CE}(z:∀N sc tg e,Am c N sc tg e=Nl):MA c:=λ_ h _=>by rw[z]at h;cases h
theorem Cf{c:CE}(z:∀kd N sc cell g e,Fy c kd cell N sc g e=Nl):MB c:=λ_ _ _ h=>by rw[z]at h;cases h
mutual
theorem aL(c:CE):M6 c:=by
 intro X L N sc CX E Φ Γ k e O h;cases c with
 |var i=>exact rH O (aa h).1 (aa (aa h).2).1 (aa (aa h).2).2
 |dct=>exact AB
 |rev a b=>exact AE (aL a O (aa h).1) (aL b O (aa h).2)
 |lit d=>exact kA h
 |glob y=>exact uw O h
 |ty n=>exact HS O (aa h).1 (aa h).2
 |bin op a b=>exact rE (aL a O (aa h).1) (aL b O (aa h).2)
 |catB a b=>exact ut (aL a O (aa h).1) (aL b O (aa h).2)
 |neg a=>exact As (aL a O h)
 |cmp op a b=>exact An O.room.units (aL a O (aa h).1) (aL b O (aa (aa h).2).1) (gm (aa (aa h).2).2)
 |chain op J a b c=>exact nG O.room.units (aL a O (aa h).1) (aL b O (aa (aa h).2).1) (aL c O (aa (aa (aa h).2).2).1) (gm (aa (aa (aa h).2).2).2)
 |band a b=>exact u9 (aL a O (aa h).1) (λz=>aL b O (fB (aa h).2 z)) λz=>by obtain⟨r,R,q⟩:=u_ (pos:=(vw e).pos) (N:=N) (es:=(vw e).es.tail) (aa (cz (aa h).2 z)).1;exact⟨r,R,q,aL b O (aa (cz (aa h).2 z)).2⟩
 |bor a b=>exact Ca (aL a O (aa h).1) (λz=>aL b O (fB (aa h).2 z)) λz=>by obtain⟨r,R,q⟩:=vc (pos:=(vw e).pos) (N:=N) (es:=(vw e).es.tail) (aa (cz (aa h).2 z)).1;exact⟨r,R,q,aL b O (aa (cz (aa h).2 z)).2⟩
 |bnot a=>exact Ar (aL a O h)
 |ite c a b=>exact Ax (dR c O (aa h).1) (aL a O (aa (aa h).2).1) (aL b O (aa (aa h).2).2)
 |tup j=>exact Az (hY (aa h).2) (dc j O (aa h).1)
 |lst box j=>exact AA (hY (aa h).2) (dc j O (aa h).1)
 |lstR a b l c d x y j=>have M:=(aa h).2;have P:=(aa M).2;have T:=(aa P).2;have U:=(aa T).2;have V:=(aa U).2;have W:=(aa V).2;have Y:=(aa W).2;exact u8 (aa V).1 (aa W).1 (aa Y).1 (aa Y).2 (aL a O (aa h).1) (aL b O (aa M).1) (aL c O (aa P).1) (aL d O (aa T).1) (dc j O (aa U).1)
 |idx a b=>exact AD (aa (aa h).2).2 (aL a O (aa h).1) (aL b O (aa (aa h).2).1)
 |sl a lo hi=>exact HU (aL a O (aa h).1) (kY lo O (aa (aa h).2).1 (hY (aa (aa (aa (aa h).2).2).2).1)) (kY hi O (aa (aa (aa h).2).2).1 (hY (aa (aa (aa (aa h).2).2).2).2))
 |call f j=>
  have G:=dc j O (aa (aa h).2).1;cases j with
  |nil=>cases(aa (aa h).2).2
  |cons c u=>exact kC O (aa h).1 (fP (cs:=c::u) (aa (aa h).2).1) G
 |blt b j=>
  have G:=dc j O (aa (aa h).2).1;cases j with
  |nil=>cases(aa (aa (aa h).2).2).1
  |cons c u=>exact rJ O (kU O b (aa (aa (aa h).2).2).2) (aa h).1 (fP (cs:=c::u) (aa (aa h).2).1) G
 |chain3 op J Z a b c d=>exact λpq s σ H Q I zz=>aF zz λF μ ρ S sk en w=>w.elim
 |tix o j=>have t:=(aa (aa (aa (aa h).2).2).2).1;exact AJ (aa h).1 (aa (aa h).2).1 (fP t) (by rw[nK];exact hY (aa (aa (aa (aa h).2).2).2).2) (aL o O (aa (aa (aa h).2).2).1) (dc j O t)
 |meth m o j=>have t:=(aa (aa (aa (aa h).2).2).2).1;exact ux (aa h).1 (aa (aa h).2).1 (fP t) (by rw[nK];exact hY (aa (aa (aa (aa h).2).2).2).2) nK.symm (aL o O (aa (aa (aa h).2).2).1) (dc j O t)
 |sset a=>exact u6 O (aa h).1 (aa (aa h).2).1 (aa (aa (aa h).2).2).2 (aL a O (aa (aa (aa h).2).2).1)
 |comp box K fr tg it v body=>
  obtain⟨h1,h⟩:=aa h;obtain⟨h2,h⟩:=aa h;obtain⟨h3,h⟩:=aa h;obtain⟨t,h⟩:=aa h;obtain⟨h5,h⟩:=aa h;obtain⟨h6,h⟩:=aa h;obtain⟨h7,h8⟩:=aa h;have B:=B6 O h1
  refine aM (m9 (N:=K) (g:=rN X.K tg) (tb:=tC X.K X.mg oL Φ Γ v body) O.calm B (B7 O h2) (oS it O h5 kX) (λA p=>eP _ p>>=λok=>if ok=Nk then bt (yi Nl _ _ _ _) (FE Nl _ _ p) (_::_) 0 (.ref A) p else pure ())
   (λit A p=>u3 (kd:=Nl) rfl) (λC s0 H0 fp A=>?_) (oH h6)) λσ H Q q=>kH (tg0:=i7 tg K ((vw e).gs.headD dG).target) q
  have D:=B8 O B.kind h3 C s0 H0 fp;exact⟨kG D t,uF (oR v D h7) (vd body (kd:=Nl) D rfl rfl h8)⟩
 |emit e=>cases h
 |inner a b c d=>cases h
 |seq a=>cases h
 |range a=>cases h
 |zip a=>cases h
theorem dR(c:CE):My c:=by
 cases c with
 |var i=>
  intro X C N s n E j l k e O h;refine dy (iA (σ:=[]) (rH O (aa h).1 (aa (aa h).2).1 (aa (aa h).2).2) λ_=>rfl) λD H Q Z=>aF Z λF B m S A v w=>⟨F,B,m,S,A,v,?_⟩;cases t:m[i]? with
  |none=>simp only[am,t]at w;exact w.elim
  |some o=>
   cases o with
   |none=>simp only[am,t]at w;exact w.elim
   |some d=>simp only[am,t]at w;simp only[aj,t];exact w
 |lit d=>intro X C N s n E j l k e O h;exact dy (iA (Φ:=j) (Γ:=l) (σ:=[]) (kA h) λ_=>rfl) λD H Q Z=>aF Z λF B m S A v w=>⟨F,B,m,S,A,v,w⟩
 |call f x=>
  intro X C N s n E j l k e O h;have J:=dc x O (aa (aa h).2).1;cases x with
  |nil=>cases(aa (aa h).2).2
  |cons c p=>
   refine dy (iA (σ:=[]) (kC O (aa h).1 (fP (cs:=c::p) (aa (aa h).2).1) J) λ_=>rfl) λD H Q Z=>aF Z λF B m S A v w=>⟨F,B,m,S,A,v,?_⟩;simp only[am]at w;simp only[aj];cases t:j f with
   |none=>rw[t]at w;exact w
   |some M=>
    rw[t]at w;show ak _ _ _ _ _ _ _ (((ah j l (c::p) m S).bind λI G=>M I G).bind _);cases u:ah j l (c::p) m S with
    |ok I G=>rw[u]at w;exact w
    |err y G=>rw[u]at w;exact w
    |fail=>rw[u]at w;exact w
 |blt b x=>
  intro X C N s n E j l k e O h;have J:=dc x O (aa (aa h).2).1;cases x with
  |nil=>cases(aa (aa (aa h).2).2).1
  |cons c p=>
   refine dy (iA (σ:=[]) (rJ O (kU O b (aa (aa (aa h).2).2).2) (aa h).1 (fP (cs:=c::p) (aa (aa h).2).1) J) λ_=>rfl) λD H Q Z=>aF Z λF B m S A v w=>⟨F,B,m,S,A,v,?_⟩;simp only[am]at w;simp only[aj];cases u:ah j l (c::p) m S with
   |ok I G=>rw[u]at w;exact w
   |err y G=>rw[u]at w;exact w
   |fail=>rw[u]at w;exact w
 |cmp op a b=>intro X C N s n E j l k e O h;exact Ao O.room.units (aL a O (aa h).1) (aL b O (aa (aa h).2).1) (gm (aa (aa h).2).2)
 |chain3 op K L a b c d=>intro X C N s n E j l k e O h;exact Jp O.room.units (aL a O (aa h).1) (aL b O (aa (aa h).2).1) (aL c O (aa (aa (aa h).2).2).1) (aL d O (aa (aa (aa (aa h).2).2).2).1) (gm (aa (aa (aa (aa h).2).2).2).2)
 |chain op K a b c=>intro X C N s n E j l k e O h;exact nI O.room.units (aL a O (aa h).1) (aL b O (aa (aa h).2).1) (aL c O (aa (aa (aa h).2).2).1) (gm (aa (aa (aa h).2).2).2)
 |band a b=>intro X C N s n E j l k e O h;exact(Cb (dR a O (aa h).1) (λz=>dR b O (fB (aa h).2 z)) λz=>by have g:=(aa (cz (aa h).2 z)).1;obtain⟨r,R,q⟩:=u_ (pos:=(vw e).pos) (N:=N) (es:=(vw e).es.tail) g;exact⟨r,R,q,oQ b O (aa (cz (aa h).2 z)).2 (by rw[g];rfl)⟩).pt
 |bor a b=>intro X C N s n E j l k e O h;exact(kW (dR a O (aa h).1) (λz=>dR b O (fB (aa h).2 z)) λz=>by have g:=(aa (cz (aa h).2 z)).1;obtain⟨r,R,q⟩:=vc (pos:=(vw e).pos) (N:=N) (es:=(vw e).es.tail) g;exact⟨r,R,q,oQ b O (aa (cz (aa h).2 z)).2 (by rw[g,R0])⟩).pt
 |bnot a=>intro X C N s n E j l k e O h;exact Aw (dR a O h)
 |_=>exact Cc λ_ _ _ _=>rfl
theorem oQ(c:CE):Mz c:=by
 cases c with
 |band a b=>intro X C N s d E j i k e O h H;exact Cb (dR a O (aa h).1) (λz=>dR b O (fB (aa h).2 z)) λz=>by have g:=(aa (cz (aa h).2 z)).1;obtain⟨r,R,q⟩:=u_ (pos:=(vw e).pos) (N:=N) (es:=(vw e).es.tail) g;exact⟨r,R,q,oQ b O (aa (cz (aa h).2 z)).2 (by rw[g];rfl)⟩
 |bor a b=>intro X C N s d E j i k e O h H;exact kW (dR a O (aa h).1) (λz=>dR b O (fB (aa h).2 z)) λz=>by have g:=(aa (cz (aa h).2 z)).1;obtain⟨r,R,q⟩:=vc (pos:=(vw e).pos) (N:=N) (es:=(vw e).es.tail) g;exact⟨r,R,q,oQ b O (aa (cz (aa h).2 z)).2 (by rw[g,R0])⟩
 |_=>exact Cd rfl
theorem dc(cs:List CE):∀{X:Cx} {cell:Str->Bool} {N:Ls} {sc:Sc} {CX:dk} {E:XK} {Φ:FT} {Γ:Str->Option D} {k:Nat} {es:Lx},cG X cell N sc CX E Φ Γ k->ff cs N sc es=Nk->PA X (cC cs N es) (tL X.K X.mg E Φ Γ cs):=by
 intro X cell N sc CX E Φ Γ k es O h;cases cs with
 |nil=>exact Ay
 |cons c cs=>exact uu (aa (aa h).2).1 (aL c O (aa h).1) (dc cs O (aa (aa h).2).2)
theorem kY(cs:List CE):∀{X:Cx} {cell:Str->Bool} {N:Ls} {sc:Sc} {CX:dk} {E:XK} {Φ:FT} {Γ:Str->Option D} {k:Nat} {es:Lx},cG X cell N sc CX E Φ Γ k->ff cs N sc es=Nk->cs.length<2->PO X (cC cs N es).head? (AF X.K X.mg E Φ Γ cs):=by
 intro X cell N sc CX E Φ Γ k es O h H;cases cs with
 |nil=>exact nN
 |cons c cs=>cases cs with
  |nil=>exact nO (aL c O (aa h).1)
  |cons _ _=>exact absurd H (by simp)
theorem oR(cs:List CE):∀{X:Cx} {cell:Str->Bool} {N:Ls} {sc:Sc} {CX:dk} {E:XK} {Φ:FT} {Γ:Str->Option D} {k:Nat} {es:Lx},cG X cell N sc CX E Φ Γ k->ff cs N sc es=Nk->z7 X (cC cs N es) (cs.map (tT X.K X.mg E Φ Γ)):=by
 intro X cell N sc CX E Φ Γ k es O h;cases cs with
 |nil=>trivial
 |cons c cs=>exact⟨dR c O (aa h).1,oR cs O (aa (aa h).2).2⟩
theorem oS(c:CE):MA c:=by
 cases c with
 |seq a=>intro X C N s m E o n k T t e O h l;exact AX (aL a O h)
 |range f=>
  intro X C N s m E o n k T t e O h l;have i:=(aa (aa h).2).1;have H:=(aa (aa h).2).2;have g:=fP i;have j:=dc f O i;cases f with
  |nil=>cases H
  |cons a f=>cases f with
   |nil=>exact Ic O (aa h).1 (g _ Ze) rfl j
   |cons b f=>cases f with
    |nil=>exact Ie O (aa h).1 (g _ Ze) (g _ (Zc _ Ze)) rfl j
    |cons d f=>cases H
 |zip f=>
  intro X C N s m E o n k T t e O h l;have i:=(aa (aa h).2).1;have H:=(aa (aa h).2).2;have g:=fP i;have j:=dc f O i;cases f with
  |nil=>cases(aa H).1
  |cons a f=>cases f with
   |nil=>cases(aa H).1
   |cons b f=>cases f with
    |nil=>exact A1 O (aa h).1 (l (aa H).2) (g _ Ze) (g _ (Zc _ Ze)) j
    |cons d f=>cases(aa H).1
 |_=>exact Ce λ_ _ _ _=>rfl
theorem vd(c:CE):MB c:=by
 cases c with
 |emit a=>
  intro X C N S e E q p k K f g G s pos d A O b H h;cases K with
  |true=>cases h
  |false=>exact uG (Jt H) (aL a O h)
 |inner t it i body=>intro X C N S e E q p k K f g G s pos d A O b H h;obtain⟨j,h⟩:=aa h;obtain⟨l,h⟩:=aa h;obtain⟨m,h⟩:=aa h;obtain⟨n,o⟩:=aa h;exact nW (by cases K<;>rfl) (by cases K<;>rfl) (λit=>u3 (B' H)) b O.calm (B' H) (oS it O l kX) (oH m) (kG O j) (uF (oR i O n) (vd body O b (Ju H) o))
 |_=>exact Cf λ_ _ _ _ _ _=>rfl
end
noncomputable def au(K:Fg)(mg:GS)(E:XK)(D:Ends)(μ:La)(H:Hp):Res Fl->Prop
 | .ok (.next ρ') S'=>∀μ' H' σ',Ext μ H μ' H'->aJ K mg μ' S' H'->aU K mg μ' H' ρ' σ'->D.nx σ' H'
 | .ok (.ret d) S'=>∀μ' H' v,Ext μ H μ' H'->aJ K mg μ' S' H'->Rep K mg μ' H' d v->D.rt v H'
 | .ok (.brk ρ') S'=>∀μ' H' σ',Ext μ H μ' H'->aJ K mg μ' S' H'->aU K mg μ' H' ρ' σ'->D.bk σ' H'
 | .ok (.cont ρ') S'=>∀μ' H' σ',Ext μ H μ' H'->aJ K mg μ' S' H'->aU K mg μ' H' ρ' σ'->D.ct σ' H'
 | .err x S'=>∀μ' H',Ext μ H μ' H'->aJ K mg μ' S' H'->uk mg.mg E x H'
 | .fail=>False
noncomputable def tS(K:Fg)(mg:Mg)(E:XK)(Φ:FT)(Γ:Str->Option D)(c:CS):TS:=λD σ H=>∃F μ ρ S,aJ K ⟨mg,F⟩ μ S H/\aU K ⟨mg,F⟩ μ H ρ σ/\au K ⟨mg,F⟩ E D μ H (aq Φ Γ c ρ S)
noncomputable def kZ(K:Fg)(mg:Mg)(E:XK)(Φ:FT)(Γ:Str->Option D)(cs:List CS):TS:=λD σ H=>∃F μ ρ S,aJ K ⟨mg,F⟩ μ S H/\aU K ⟨mg,F⟩ μ H ρ σ/\au K ⟨mg,F⟩ E D μ H (af Φ Γ cs ρ S)
section
variable {mg:GS}{E:XK}{D D':Ends}
theorem au.ext{r:Res Fl}(x:Ext μ H μ' H')(w:au K mg E D μ H r):au K mg E D μ' H' r:=by
 cases r with
 |ok f S=>
  cases f with
  |next a=>exact λm h s y=>w m h s (x.trans y)
  |ret d=>exact λm h s y=>w m h s (x.trans y)
  |brk a=>exact λm h s y=>w m h s (x.trans y)
  |cont a=>exact λm h s y=>w m h s (x.trans y)
 |err z S=>exact λm h y=>w m h (x.trans y)
 |fail=>exact w
theorem au.bind{Rel:La->Hp->α->β->Prop}{r:Res α}{f:α->ae->Res Fl}(w:au K mg E D μ H (r.bind f)):
  ak K mg E Rel μ H (λb H'=>∃μ' S' a,Ext μ H μ' H'/\aJ K mg μ' S' H'/\Rel μ' H' a b/\au K mg E D μ' H' (f a S')) r:=by
 cases r with
 |ok a S'=>exact λc d b x s r=>⟨_,_,a,x,s,r,au.ext x (show au K _ E D _ H _ from w)⟩
 |err y S'=>exact w
 |fail=>exact w
theorem au.seq{r:Res Fl}{f:bu->ae->Res Fl}{N:L2.St->Hp->Prop}(w:au K mg E D μ H (r.bind λF S1=>match F with
   | .next ρ'=>f ρ' S1
   |F=>.ok F S1)) (b:∀μ' H' σ' ρ' S',Ext μ H μ' H'->aJ K mg μ' S' H'->aU K mg μ' H' ρ' σ'->au K mg E D μ' H' (f ρ' S')->N σ' H'):au K mg E {D with nx:=N} μ H r:=by
 cases r with
 |ok F S=>
  cases F with
  |next a=>exact λm h s x k e=>b m h s _ S x k e (au.ext x (show au K _ E D _ H _ from w))
  |ret d=>exact w
  |brk a=>exact w
  |cont a=>exact w
 |err z S=>exact w
 |fail=>exact w
end
theorem bZ{t t':TS}(h:PS X st t)(w:∀D σ H,t' D σ H->t D σ H):PS X st t':=λp s σ H D I q=>h _ s _ H D I (w D _ H q)
theorem k6{st:List Oq}{t t':TS}(h:ec X st t)(w:∀D σ H,t' D σ H->t D σ H):ec X st t':=λp s σ H D I q=>h _ s _ H D I (w D _ H q)
noncomputable def fR:Expr->Bool
 | .ListComp .. =>Nl
 | .SetComp .. =>Nl
 | .DictComp .. =>Nl
 |_=>Nk
noncomputable def vf:Expr->Bool
 | .ListComp .. =>Nk
 |_=>Nl
noncomputable def vg(s:Sc)(x:Str):Bool:=s.lookup x==some .local||s.lookup x==some .cell
noncomputable def MC(s:Sc)(x:Str)(p:Pos)(v:Expr):Bool:=s.lookup x==some .local&&(p.line==(vw v).pos.line&& !((vw v).sc.names.any λ(n,k)=>n==x&&(k== .local||k== .cell)))
noncomputable def oU(s:Sc)(ts vs:Lx)(n:Ls):Bool:=(ts.length==2||ts.length==3)&&(vs.length==ts.length&&(!(vs.any fun| .Starred .. =>Nk|_=>Nl)&&((ts.filterMap fun
  | .Name id pos=>if s.lookup id==some .local&&pos.line==(ts.head?.map (·.pos.line)).getD 0 then some id else none
  |_=>none)==n&&(n.length==ts.length&&(n.eraseDups.length==n.length&&(!(vs.all (foldedForSure 8))&& !(vs.all (constantsAlone 8))))))))
theorem vh{ts vs:Lx}{n:Ls}{k K p p'}(h:oU sc ts vs n=Nk)(hs:env.scope.names=sc)(q:env.scope.kind=.function):swappedStores [.Tuple ts k p] (.Tuple vs K p') env=pure (some n):=by
 subst hs;unfold oU at h;obtain⟨i,h⟩:=aa h;obtain⟨a,h⟩:=aa h;obtain⟨j,h⟩:=aa h;obtain⟨b,h⟩:=aa h;obtain⟨H,h⟩:=aa h;obtain⟨c,h⟩:=aa h;obtain⟨l,m⟩:=aa h;have b:=Zx b;have H:=Zx H;have c:=Zx c;have a:=Zx a;have o:(env.blockKind !=.function)=Nl:=by unfold Env.blockKind;rw[q];rfl
 unfold swappedStores;have C:(!(ts.length==2||ts.length==3)||vs.length !=ts.length||env.blockKind !=.function)=Nl:=by rw[i,o,a];simp
 have d:=O6 _▸j;have f:=O6 _▸l;have g:=O6 _▸m;simp only[C];simp only[Zu,Z6];rw[if_neg (λz=>by have:=d.symm.trans z;cases this)];generalize e:Qv _ ts=L;have E:L=n:=e.symm.trans b;rw[E,f,g,H,c,H];simp
noncomputable def dS:Oq:=.Pass ⟨0,0,0,0⟩
set_option genInjectivity false in
structure M7 where
 e0:Expr:=dE
 e1:Expr:=dE
 a:List Oq:=[]
 b:List Oq:=[]
 pos:Pos:=⟨0,0,0,0⟩
 hp:Pos:=⟨0,0,0,0⟩
noncomputable def vs:Oq->M7
 | .Assign ts v p=>{e0:=ts.headD dE,e1:=v,pos:=p}
 | .AugAssign t _ v p=>{e0:=t,e1:=v,pos:=p}
 | .Expr v p=>{e0:=v,pos:=p}
 | .Return v p=>{e0:=v.getD dE,pos:=p}
 | .Pass p=>{pos:=p}
 | .Break p=>{pos:=p}
 | .Continue p=>{pos:=p}
 | .If t x y p=>{e0:=t,a:=x,b:=y,pos:=p}
 | .For t i x _ p=>{e0:=t,e1:=i,a:=x,pos:=p}
 | .While t x _ p=>{e0:=t,a:=x,pos:=p}
 | .Raise v _ p=>{e0:=v.getD dE,pos:=p}
 | .Try x [.ExceptHandler t _ y hp] _ _ p=>{e0:=t.getD dE,a:=x,b:=y,pos:=p,hp:=hp}
 |_=>{}
noncomputable def Cg(o i:CE)(N:Ls)(e:Expr):Expr:=.Subscript (aY o N (vw e).e0) (aY i N (vw e).e1) (vw e).pos
noncomputable def Ch(o i:CE)(N:Ls)(s:Sc)(e:Expr):Bool:=i6 (aY i N (vw e).e1)&&(bK o N s (vw e).e0&&bK i N s (vw e).e1)
noncomputable def FG(nb:Option (Str×Nat×Pos×Pos))(e:Expr):Expr:=match nb with
 |none=>e
 |some (x,k,p,q)=>.List [.Constant (.str x) k p,e] q
noncomputable def Ci(nb:Option (Str×Nat×Pos×Pos))(p n y:Str)(t np vp c r h:Pos):Ql:=.ExceptHandler (some (.Name p t)) (some n) [.Return (some (FG nb (.Call (.Name y np) [.Name n vp] [] c))) r] h
noncomputable def Cj(pre:Option (Str×Nat×Pos))(es:Lx):Lx:=match pre with
 |none=>es
 |some q=>.Constant (.str q.1) q.2.1 q.2.2::es
noncomputable def MD(pre:Option (Str×Nat×Pos))(g n y:Str)(k:Nat)(np vp c K t v p V P l r i:Pos):Oq:=
 .If (.Compare (.Call (.Name y np) [.Name n vp] [] c) [.Eq] [.Constant (.str g) k K] t) [.Return (some (.List (Cj pre [.Attribute (.Name n v) "many" p,.Attribute (.Name n V) "most" P]) l)) r] [] i
noncomputable def ME(pre:Option Str)(g n y:Str)(b b1:Oq):List Oq:=
 [MD (pre.map λx=>(x,(vw ((vw (vs ((vs b).a.headD dS)).e0).es.headD dE)).k,(vw ((vw (vs ((vs b).a.headD dS)).e0).es.headD dE)).pos)) g n y (vw ((vw (vs b).e0).es.headD dE)).k (vw (vw (vw (vs b).e0).e0).e0).pos (vw ((vw (vw (vs b).e0).e0).es.headD dE)).pos (vw (vw (vs b).e0).e0).pos (vw ((vw (vs b).e0).es.headD dE)).pos (vw (vs b).e0).pos
   (vw (vw ((vw (vs ((vs b).a.headD dS)).e0).es.getD pre.toList.length dE)).e0).pos (vw ((vw (vs ((vs b).a.headD dS)).e0).es.getD pre.toList.length dE)).pos (vw (vw ((vw (vs ((vs b).a.headD dS)).e0).es.getD (pre.toList.length+1) dE)).e0).pos (vw ((vw (vs ((vs b).a.headD dS)).e0).es.getD (pre.toList.length+1) dE)).pos
   (vw (vs ((vs b).a.headD dS)).e0).pos (vs ((vs b).a.headD dS)).pos (vs b).pos,
  .Return (some (.Call (.Name y (vw (vw (vs b1).e0).e0).pos) [.Name n (vw ((vw (vs b1).e0).es.headD dE)).pos] [] (vw (vs b1).e0).pos)) (vs b1).pos]
mutual
noncomputable def jg:CS->Ls->Oq->Oq
 | .asg i e,N,st=>.Assign [.Name (N.getD i "") (vw (vs st).e0).pos] (aY e N (vs st).e1) (vs st).pos
 | .asgT t e,N,st=>.Assign [i7 t N (vs st).e0] (aY e N (vs st).e1) (vs st).pos
 | .par is es,N,st=>.Assign [.Tuple (fN (is.map CT.var) N (vw (vs st).e0).es) (vw (vs st).e0).k (vw (vs st).e0).pos] (.Tuple (cC es N (vw (vs st).e1).es) (vw (vs st).e1).k (vw (vs st).e1).pos) (vs st).pos
 | .set o i v,N,st=>.Assign [Cg o i N (vs st).e0] (aY v N (vs st).e1) (vs st).pos
 | .expr e,N,st=>.Expr (aY e N (vs st).e0) (vs st).pos
 | .ret e,N,st=>.Return (some (aY e N (vs st).e0)) (vs st).pos
 | .retN,_,st=>.Return none (vs st).pos
 | .pass,_,st=>.Pass (vs st).pos
 | .brk,_,st=>.Break (vs st).pos
 | .cont,_,st=>.Continue (vs st).pos
 | .ite c a b,N,st=>.If (aY c N (vs st).e0) (cu a N (vs st).a) (cu b N (vs st).b) (vs st).pos
 | .for_ t it body,N,st=>.For (i7 t N (vs st).e0) (uq it N (vs st).e1) (cu body N (vs st).a) [] (vs st).pos
 | .while_ _ c body,N,st=>.While (aY c N (vs st).e0) (cu body N (vs st).a) [] (vs st).pos
 | .never,_,st=>st
 | .raise_ x es,N,st=>.Raise (some (.Call (.Name x (vw (vw (vs st).e0).e0).pos) (cC es N (vw (vs st).e0).es) [] (vw (vs st).e0).pos)) none (vs st).pos
 | .tryK i body f _ _,N,st=>.Try (cu body N (vs st).a) [Ci none "PairError" (N.getD i "") f (vw (vs st).e0).pos (vw (vw (vs ((vs st).b.headD dS)).e0).e0).pos (vw ((vw (vs ((vs st).b.headD dS)).e0).es.headD dE)).pos (vw (vs ((vs st).b.headD dS)).e0).pos (vs ((vs st).b.headD dS)).pos (vs st).hp] [] [] (vs st).pos
 | .raiseI x es,N,st=>.Raise (some (.Call (.Name x (vw (vw (vs st).e0).e0).pos) (cC es N (vw (vs st).e0).es) [] (vw (vs st).e0).pos)) none (vs st).pos
 | .tryG pre g i body f _ _,N,st=>.Try (cu body N (vs st).a) [.ExceptHandler (some (.Name "PairError" (vw (vs st).e0).pos)) (some (N.getD i "")) (ME pre g (N.getD i "") f ((vs st).b.headD dS) ((vs st).b.tail.headD dS)) (vs st).hp] [] [] (vs st).pos
noncomputable def cu:List CS->Ls->List Oq->List Oq
 | [],_,_=>[]
 |c::cs,N,st=>jg c N (st.headD dS)::cu cs N st.tail
end
noncomputable def k7:Expr->Bool
 | .Tuple xs _ _=>xs.all (foldedForSure 8)
 |_=>Nk
noncomputable def k8(s:Sc):Expr->Bool
 | .Tuple ts _ _=>ts.any fun
  | .Name id _=>s.lookup id==some .cell
  |_=>Nl
 |_=>Nl
mutual
noncomputable def vk:CS->Ls->Sc->Oq->Bool
 | .asg i e,N,sc,st=>N[i]?==some (N.getD i "")&&(vg sc (N.getD i "")&&(bK e N sc (vs st).e1&&(fR (aY e N (vs st).e1)||(kz e&&(sc.lookup (N.getD i "")==some .cell||MC sc (N.getD i "") (vw (vs st).e0).pos (aY e N (vs st).e1))))))
 | .asgT t e,N,sc,st=>nE t&&((k7 (aY e N (vs st).e1)||k8 sc (i7 t N (vs st).e0))&&(fR (aY e N (vs st).e1)&&(rB (λ_=>Nk) N sc t&&bK e N sc (vs st).e1)))
 | .par is es,N,sc,st=>is.all (λi=>N[i]?==some (N.getD i "")&&sc.lookup (N.getD i "")==some .local)&&(decide (is.length<=3)&&(ff es N sc (vw (vs st).e1).es&&oU sc (fN (is.map CT.var) N (vw (vs st).e0).es) (cC es N (vw (vs st).e1).es) (is.map λi=>N.getD i "")))
 | .set o i v,N,sc,st=>Ch o i N sc (vs st).e0&&(fR (aY v N (vs st).e1)&&bK v N sc (vs st).e1)
 | .expr e,N,sc,st=>fR (aY e N (vs st).e0)&&bK e N sc (vs st).e0
 | .ret e,N,sc,st=>bK e N sc (vs st).e0
 | .retN,_,_,_=>Nk
 | .pass,_,_,_=>Nk
 | .brk,_,_,_=>Nk
 | .cont,_,_,_=>Nk
 | .ite c a b,N,sc,st=>bK c N sc (vs st).e0&&(eg a N sc (vs st).a&&eg b N sc (vs st).b)
 | .for_ t it body,N,sc,st=>rB (λ_=>Nk) N sc t&&(Am it N sc t (vs st).e1&&(nD (uq it N (vs st).e1)&&eg body N sc (vs st).a))
 | .while_ _ c body,N,sc,st=>bK c N sc (vs st).e0&&eg body N sc (vs st).a
 | .never,_,_,_=>Nk
 | .raise_ x es,N,sc,st=>br sc x&&(ff es N sc (vw (vs st).e0).es&&(0<es.length&&(cC es N (vw (vs st).e0).es).all bC))
 | .tryK i body f _ _,N,sc,st=>N[i]?==some (N.getD i "")&&(sc.lookup (N.getD i "")==some .local&&(dz (N.getD i "")&&(br sc "PairError"&&(br sc f&&eg body N sc (vs st).a))))
 | .raiseI x es,N,sc,st=>br sc x&&(ff es N sc (vw (vs st).e0).es&&(0<es.length&&(cC es N (vw (vs st).e0).es).all bC))
 | .tryG _ _ i body f _ _,N,sc,st=>N[i]?==some (N.getD i "")&&(sc.lookup (N.getD i "")==some .local&&(dz (N.getD i "")&&(br sc "PairError"&&(br sc f&&eg body N sc (vs st).a))))
noncomputable def eg:List CS->Ls->Sc->List Oq->Bool
 | [],_,_,_=>Nk
 |c::cs,N,sc,st=>vk c N sc (st.headD dS)&&eg cs N sc st.tail
end
section
variable {E:XK}{k:Nat}{pos:Pos}
theorem jh{v:Expr}{o:Option Expr}(h:fR v=Nk):swapsWith v o line env=pure Nl:=by cases v<;>first|rfl|cases h
theorem Ck(O:cG X cell N sc CX E Φ Γ k):X.env.blockKind=.function:=by unfold Env.blockKind;rw[O.kd];rfl
theorem oV(O:cG X cell N sc CX E Φ Γ k){v:Expr}{x:Str}{p:Pos}(h:vf v=Nk)(H:sc.lookup x=some .cell):swapsWith v (some (.Name x p)) line X.env=pure Nl:=by
 have e:X.env.kindOf x=some .cell:=by show X.env.scope.names.lookup x=_;rw[O.sc];exact H
 cases v<;>first| (cases h)|skip
 show(pure _)=pure _;have a:(some NE==some NameKind.local)=Nl:=by rfl
 lia
theorem vm(O:cG X cell N sc CX E Φ Γ k){e:Expr}{g:List NJ}{p:Pos}{x:Str}(h:MC sc x p (.ListComp e g scope vp)=Nk):swapsWith (.ListComp e g scope vp) (some (.Name x p)) line X.env=pure Nk:=by
 obtain⟨d,h⟩:=aa h;obtain⟨H,a⟩:=aa h;have c:X.env.kindOf x=some .local:=by show X.env.scope.names.lookup x=_;rw[O.sc];simp_all
 show pure (X.env.blockKind== .function&&X.env.kindOf x==some _&&p.line==vp.line&& !_)=pure _;rw[Ck O,show(p.line==vp.line)=Nk from H];have b:(!scope.names.any _)=Nk:=a;lia
theorem vn(O:cG X (λ_=>Nk) N sc CX E Φ Γ k){x:Str}(h:vg sc x=Nk):L2.Loc X.env.scope x:=by unfold L2.Loc;rw[O.sc];unfold vg at h;simpa using h
theorem Cm{D:Ends}{i:Nat}{e:CE}(h:tS X.K X.mg E Φ Γ (.asg i e) D σ H):tE X.K X.mg E Φ Γ e σ H λv H1=>D.nx (σ.set i (some v)) H1:=by obtain⟨F,g,j,S,b,a,w⟩:=h;exact⟨F,_,_,S,b,a,(au.bind w).mono λv H1 z=>ay z λc f d x s r W=>W _ _ _ .refl s ((a.mono x).set r)⟩
theorem Jv{e:CE}(h:kz e=Nk):∃box N fr tg it ifs body,e=.comp box N fr tg it ifs body:=by
 unfold kz at h;split at h
 ·exact⟨_,_,_,_,_,_,_,rfl⟩
 ·cases h
theorem Cn(O:cG X (λ_=>Nk) N sc CX E Φ Γ k){i:Nat}{e:CE}(h:vk (.asg i e) N sc st=Nk):PS X (jg (.asg i e) N st) (tS X.K X.mg E Φ Γ (.asg i e)):=by
 obtain⟨d,h⟩:=aa h;obtain⟨p,h⟩:=aa h;obtain⟨m,b⟩:=aa h;have d:=beq_iff_eq.mp d
 have plain:swapsWith (aY e N (vs st).e1) (some (.Name (N.getD i "") (vw (vs st).e0).pos)) (vs st).pos.line X.env=pure Nl->PS X (jg (.asg i e) N st) (tS X.K X.mg E Φ Γ (.asg i e)):=λr=>
  bZ (j2 (i:=i) (by rw[O.n];exact O.nd) (by rw[O.n];exact d) (vn O p) (aL e O m) r (.inl (O.fn _ rfl))) λD L H q=>Cm q
 rcases QG.mp b with b|b
 ·exact plain (jh b)
 ·obtain⟨b,c⟩:=aa b;obtain⟨box,o,M,T,it,I,body,rfl⟩:=Jv b;rcases QG.mp c with c|c
  ·exact plain (oV O rfl (beq_iff_eq.mp c))
  ·have l:=vm O (line:=(vs st).pos.line) c;have t:X.env.scope.names.lookup (N.getD i "")=some .local:=by rw[O.sc];exact beq_iff_eq.mp (aa c).1
   obtain⟨K,h⟩:=aa m;obtain⟨u,h⟩:=aa h;obtain⟨v,h⟩:=aa h;obtain⟨w,h⟩:=aa h;obtain⟨x,h⟩:=aa h;obtain⟨y,h⟩:=aa h;obtain⟨z,B⟩:=aa h;have s:=B6 O K
   refine bZ (m_ (N:=o) (j:=i) (g:=rN X.K T) (tb:=tC X.K X.mg oL Φ Γ I body) O.calm (by rw[O.n];exact O.nd) (by rw[O.n];exact d) t l s (B7 O u) (oS it O x kX) (λA a=>eP _ a>>=λok=>if ok=Nk then bt (yi Nl _ _ _ _) (FE Nl _ _ a) (_::_) 0 (.ref A) a else pure ())
    (λit A a=>u3 (kd:=Nl) rfl) (λC S n F A=>?_) (oH y)) λD L H q=>kH (tg0:=.Name (N.getD i "") (vw (vs st).e0).pos) (Cm q)
   have f:=B8 O s.kind v C S n F;exact⟨kG f w,uF (oR I f z) (vd body (kd:=Nl) f rfl rfl B)⟩
end
def DK(h h':Ny):Prop:=∀(b:Nn) (o:Obj),h.objs[b]?=some o->∃o':Obj,h'.objs[b]?=some o'/\o'.dict=o.dict
theorem DK.refl:DK h h:=λ_ o e=>⟨o,e,rfl⟩
theorem DK.trans{h H a:Ny}(x:DK h H)(y:DK H a):DK h a:=λb o e=>
 let⟨d,c,q⟩:=x b o e
 let⟨O,E,Q⟩:=y b d c
 ⟨O,E,Q.trans q⟩
theorem DK.upd{f:Obj->Obj}(H:∀o,(f o).dict=o.dict):DK h (h.update a f):=λb o e=>by
 by_cases z:a=b
 ·subst z;exact⟨f o,by rw[Heap.objs_update_self,e];rfl,H o⟩
 ·refine⟨o,?_,rfl⟩;obtain⟨O,l⟩:=h;simp only[Heap.update]at e⊢;rw[Array.getElem?_modify,if_neg z];exact e
theorem DK.push{x:Obj}:DK h (h.push x):=λb o e=>by refine⟨o,?_,rfl⟩;obtain⟨O,l⟩:=h;simp only[Q3]at e⊢;have H:=(NP.mp e).1;rw[Array.getElem?_push_lt H];rw[NH H]at e;exact e
theorem DK.get(x:DK h h'){b:Nn}{O:Obj}(e:h.get? b=some o)(E:h'.get? b=some O):O.dict=o.dict:=by obtain⟨a,q,r⟩:=x b o (SR.mp e).1;rw[(SR.mp E).1]at q;cases q;exact r
def Gt{b:Type}(t:Sem b):Prop:=∀(M:Model) (Γ:PySem.Ctx) (Q:b->Pos->Nm->Prop) (E:Np->Pos->Nm->Prop) (p:Pos) (s:Nm),
 Sem.wp M Γ t Q E p s->Sem.wp M Γ t (λa p' s'=>Q a p' s'/\DK s.heap s'.heap) (λe p' s'=>E e p' s'/\DK s.heap s'.heap) p s
theorem cv{a:α}:Gt (pure a:Sem α):=λM b Q E p s h=>⟨h,.refl⟩
theorem fh{x:String}:Gt (PySem.unsupported x:Sem α):=λM a Q E p s h=>h.elim
theorem cc{m:Sem α}{f:α->Sem β}(c:Gt m)(H:∀a,Gt (f a)):Gt (m>>=f):=λM b Q E p s h=>by rw[Sem.wp_bind']at h⊢;exact Rf M b m (λa P S q=>Rf M b (f a) (λ_ _ _ r=>⟨r.1,q.2.trans r.2⟩) (λ_ _ _ r=>⟨r.1,q.2.trans r.2⟩) P S (H a M b Q E P S q.1)) (λ_ _ _ q=>q) p s (c M b _ E p s h)
theorem vo:Gt (load a):=λM b Q E p s h=>by obtain⟨o,e,q⟩:=h;exact⟨o,e,q,.refl⟩
theorem k9{f:Obj->Obj}(H:∀o,(f o).dict=o.dict):Gt (update a f):=λM b Q E p s h=>by obtain⟨e,q⟩:=h;exact⟨e,q,.upd H⟩
theorem Co:Gt (alloc o):=λM a Q E p s h=>⟨h,.push⟩
theorem vq:Gt stack:=λM a Q E p s h=>⟨h,.refl⟩
theorem vr{v:Np}{i:Nat}:Gt (field v i):=by
 unfold field fieldsOf;refine cc ?_ λvs=>?_
 ·cases v<;>first|exact fh|skip
  refine cc vo λo=>?_;split<;>first|exact cv|exact fh
 ·split<;>first|exact cv|exact fh
theorem Cp{v x:Np}{i:Nat}:Gt (setField v i x):=by
 unfold setField;cases v<;>first|exact fh|skip
 unfold updateField;refine cc vo λo=>?_;split
 ·split
  ·exact k9 λo=>by unfold RM;split<;>rfl
  ·exact fh
 ·exact fh
theorem oW{e:Np}{f:Option Nn}:Gt (setFlight e f):=by
 unfold setFlight;refine cc vr λt=>?_;split
 ·exact Cp
 ·exact cv
theorem Cq:∀l:List Env,Gt (readyFrames l)
 | []=>cv
 |e::O=>by
  unfold readyFrames;split
  ·refine cc vo λo=>?_;split
   ·exact cv
   ·refine cc ?_ λb=>cc ?_ λback=>cc (k9 λo=>rfl) λ_=>Cq O
    ·unfold behindIsImport;split
     ·exact cv
     ·split
      ·exact cv
      ·exact cc vr λ_=>cv
    ·unfold keptBack;split
     ·split
      ·exact cv
      ·refine cc ?_ λ_=>cv;unfold underTheClaimsCaller;exact cc vq λ_=>cv
     ·exact cv
  ·exact fh
theorem Jw:Gt (frameOf env):=by
 unfold PySem.frameOf;refine cc (by unfold frameEnvs;exact cc vq λ_=>cv) λl=>cc ?_ λr=>?_
 ·unfold frameObject;split
  ·exact cv
  ·exact cc (Cq _) λ_=>cv
 ·split
  ·exact cv
  ·exact fh
theorem Jx{h v w:Np}{pl:Lv}{f:Np}:Gt (RD h v w f .none pl):=by
 unfold RD newFields newObj newObjAsIs;dsimp only;generalize([h,v,w,f,Nr]++_).toArray=y;split
 ·exact cc fh λ_=>cc Co λ_=>cv
 ·exact cc Co λ_=>cv
theorem vt{e:Np}:Gt (noteFrame e env):=by
 unfold noteFrame entryPlaceOf
 repeat' first
  |exact cv
  |exact fh
  |exact vr
  |exact Cp
  |exact Jw
  |exact Jx
  |exact vq
  |refine cc ?_ λ_=>?_
  |split
theorem Cr{e:Np}:Gt (leaving env e):=cc vt λ_=>oW
section
variable {Q:α->Nm->Prop}
theorem Gt.any{t:Sem α}(g:Gt t)(h:wpAny M A t Q E s):wpAny M A t (λa s'=>Q a s'/\DK s.heap s'.heap) (λe s'=>E e s'/\DK s.heap s'.heap) s:=λb p H=>g M b _ _ p s (h b p H)
end
def yj(h:Ny)(H:Hp)(h':Ny)(e:Nn)(cls:Np)(dx:Option Nn):Prop:=
 ∃oe vs a0 T o ts,h'.get? e=some oe/\(oe.cls=cls/\vs[0]?=some a0)/\oe.data=.fields vs/\vs[1]?=some (.ref T)/\T≠e/\h'.get? T=some o/\o.data=.fields ts/\ts[3]?=some .none/\(h.get? e=none/\h.get? T=none)/\(H e=none/\H T=none)/\oe.dict=dx
noncomputable def bn(P:Nu)(w:NG):dk:=λouter H s E v s'=>∃e cls dx H',v=.ref e/\s'.os=s.os/\Qc s'.gens/\Un (bG outer) [] H H' s.heap s'.heap/\dY P w H' s'.heap/\E cls dx H'/\yj s.heap H' s'.heap e cls dx
theorem rT{P:Nu}(o:List Env)(H:Hp)(s:Nm)(e:Np)(S:Nm)(z:bn P w o H s E0 e S):False:=by obtain⟨_,_,_,_,_,_,_,_,_,q,_⟩:=z;exact q
theorem vx{P:Nu}{o:HO}(x:aQ P w H h a o):∃u,h.get? a=some u:=by
 cases o with
 |lst X=>obtain⟨_,_,_,_,e⟩:=x;exact⟨_,e⟩
 |tup X=>obtain⟨_,_,_,_,u,e,_⟩:=x;exact⟨_,e⟩
 |dK k=>obtain⟨_,_,_,_,o,_,_,e,_⟩:=x;exact⟨_,e⟩
 |dT k=>obtain⟨_,_,_,_,o,_,_,e,_⟩:=x;exact⟨_,e⟩
 |set S n=>obtain⟨o,_,_,_,e,_⟩:=x;exact⟨_,e⟩
 |ins C d fs=>obtain⟨_,_,_,e,_⟩:=x;exact⟨_,e⟩
 |own y=>obtain⟨_,e⟩:=x;exact⟨_,e⟩
 |xd fs=>obtain⟨_,⟨_,_,_,e,_⟩,_⟩:=x;exact⟨_,e⟩
 |rng lo b=>obtain⟨_,_,_,e⟩:=x;exact⟨_,e⟩
 |frz O u=>obtain⟨e,_⟩:=x;exact⟨_,e⟩
 |tbl p=>exact⟨_,show h.get? a=some _ from x⟩
 |met f y=>exact⟨_,show h.get? a=some _ from x⟩
 |ext c=>obtain⟨_,e,_⟩:=x;exact e
section
variable {s3:Nm}{e T:Nn}{B:Ny}{E:XK}
theorem Cs(I:Inv X pq σ H' s2)(G:X.ex=[])(L:X.stack=X.env::X.outer)(Q:∀b o,s2.heap.get? b=some o->b∉bG X.stack->b≠e->b≠T->B.get? b=some o)
  (A:X.s₀.heap.get? e=none/\X.s₀.heap.get? T=none) (w:H' e=none/\H' T=none) (P:O7 B X.outer e cls a0 h') (up:s2.heap.UpToSlots h') (q:E cls dx H') (F:∀o,h'.get? e=some o->o.dict=dx)
  (W:s3.os=s2.os) (Y:s3.gens=s2.gens) (C:s3.heap=h'):bn X.prog X.w X.outer X.H₀ X.s₀ E (.ref e) s3:=by
 have U:=I.base;rw[G]at U;have M:=I.stack;have m:∀b,b∈bG X.stack->∃o,s2.heap.get? b=some o/\∀vs,o.data≠.fields vs:=λb d=>(M.mem d).2;have n:∀b∈bG X.stack,H' b=none:=I.stkFree;have k:∀b o,s2.heap.get? b=some o->b∉bG X.stack->b≠e->b≠T->h'.get? b=some o:=λb o h H c g=>P.1 b o (Q b o h H c g);have old:∀b o,X.s₀.heap.get? b=some o->b≠e/\b≠T:=λb o h=>⟨λz=>(by rw[z,A.1]at h;cases h),λz=>(by rw[z,A.2]at h;cases h)⟩
 have nl:∀b o,X.s₀.heap.get? b=some o->b∉bG X.outer->b∉bG X.stack:=λb o h H c=>by
  rcases Zi.mp (I.stkSub b c)with z|z
  ·have:=Zj h;rw[z]at this;exact absurd this (Po.mpr I.ok.above)
  ·exact H z
 have N:∀b∈bG X.outer,b∈bG X.stack:=λb d=>by rw[L];obtain⟨en,h,H⟩:=Z5.mp d;exact Z5.mpr ⟨en,Zc _ h,H⟩
 have r:∀b o,s2.heap.get? b=some o->b≠e->b≠T->∃O,h'.get? b=some O:=λb o h H c=>by
  by_cases d:b∈bG X.stack
  ·obtain⟨o1,g,i⟩:=m b d;obtain⟨sl,l⟩:=up b o1 g i;exact⟨_,l⟩
  ·exact⟨o,k b o h d H c⟩
 have V:Un (bG X.outer) [] X.H₀ H' X.s₀.heap h':=by
  refine⟨λb o h H c g=>k b o (U.keep b o h H c g) (nl b o h c) (old b o h).1 (old b o h).2,λb o h H c g=>?_,U.free,λb o h H=>?_,U.tups,U.frzs,U.tbls⟩
  ·obtain⟨sl,i⟩:=U.slot b o h H c g;obtain⟨o1,l,x⟩:=m b (N b c);rw[i]at l;cases l;obtain⟨S,y⟩:=up b _ i x;exact⟨S,y⟩
  ·obtain⟨O,i⟩:=U.there b o h H;exact r b O i (old b o h).1 (old b o h).2
 have t:∀b u,H' b=some u->b∉bG X.stack/\b≠e/\b≠T:=λb u h=>
  ⟨λz=>(by rw[n b z]at h;cases h),λz=>(by rw[z,w.1]at h;cases h),λz=>(by rw[z,w.2]at h;cases h)⟩
 have K:dY X.prog X.w H' h':=λa o Z=>(I.hok a o Z).stay (λb u d h=>by
  have D:∃u,H' b=some u:=by rcases d with rfl|d<;>exact⟨_,by assumption⟩
  obtain⟨u',hu⟩:=D;obtain⟨t1,t2,t3⟩:=t b u' hu;exact k b u h t1 t2 t3) (λ_ q=>q) λ_ _ q=>q
 obtain⟨k1,k2,k3,R,vs,f,oT,ts,h,H,c,g,i,l,x,y,h9⟩:=P
 have gm:∀o,s2.heap.get? f=some o->f=T:=λo J=>by
  refine Q6 λhn=>?_;by_cases d:f∈bG X.stack
  ·obtain⟨o1,j,s⟩:=m f d;obtain⟨sl,v⟩:=up f o1 j s;rw[x]at v;cases v;exact s _ y
  ·rw[Q f o J d l hn]at i;cases i
 refine⟨e,cls,dx,H',rfl,by rw[W];exact I.os,by rw[Y];exact I.bare,by rw[C];exact V,by rw[C];exact K,q,?_⟩;rw[C];refine⟨R,vs,a0,f,oT,ts,h,H,c,g,l,x,y,h9,⟨A.1,?_⟩,⟨w.1,?_⟩,F R h⟩
 ·cases p:X.s₀.heap.get? f with
  |none=>rfl
  |some o=>obtain⟨O,j⟩:=U.there f o p (by simp);rw[gm O j,A.2]at p;cases p
 ·cases p:H' f with
  |none=>rfl
  |some u=>obtain⟨o,J⟩:=vx (I.hok f u p);rw[gm o J,w.2]at p;cases p
theorem Ct{l:List Env}(f:yj h0 Hx h e cls dx)(u:h.FunFrames base l):(∀o,h.get? e=some o->o.dict=dx)/\∃T a0,(h0.get? e=none/\h0.get? T=none)/\(Hx e=none/\Hx T=none)/\O7 (PySem.W.hideAll h (e::T::bG l)) l e cls a0 h:=by obtain⟨v,vs,a0,T,O,w,d,i,j,k,m,n,p,r,c,H⟩:=f;refine⟨λo g=>by rw[d]at g;cases g;exact H.2,T,a0,c,H.1,λb o q=>PySem.W.of_hideAll _ q,PySem.W.hideAll_none _ (by simp),PySem.W.funFrames_hide u (λE t a s=>?_),v,vs,T,O,w,d,i,j,k,PySem.W.hideAll_none _ (by simp),m,n,p,r⟩;exact Zc _ (Zc _ (Z5.mpr ⟨E,t,s⟩))
theorem Cu{l:List Env}:∀b o,h.get? b=some o->b∉bG l->b≠e->b≠T->(PySem.W.hideAll h (e::T::bG l)).get? b=some o:=λb o H a c d=>
 PySem.W.hideAll_get _ H λf=>by grind
theorem Cv{v:Np}(I:Inv X pq σ H s)(c:bn X.prog X.w X.stack H s E v s2)(a:X.ex=[]):∃e cls dx H',v=.ref e/\Inv X pq σ H' s2/\E cls dx H'/\yj s.heap H' s2.heap e cls dx:=by obtain⟨e,cls,dx,H',rfl,o,B,un,h,q,f⟩:=c;exact⟨e,cls,dx,H',rfl,I.call' o un h B (λb z=>absurd z (by simp)),q,f⟩
theorem yj.old(f:yj h0 Hx h e cls dx)(t:∀b o,h1.get? b=some o->∃o',h0.get? b=some o'):yj h1 Hx h e cls dx:=by
 obtain⟨r,vs,a,T,O,s,c,d,i,j,k,l,m,p,g,G⟩:=f
 have n:∀b,h0.get? b=none->h1.get? b=none:=λb H=>by
  cases q:h1.get? b with
  |none=>rfl
  |some o=>obtain⟨o',E⟩:=t b o q;rw[H]at E;cases E
 exact⟨r,vs,a,T,O,s,c,d,i,j,k,l,m,p,⟨n _ g.1,n _ g.2⟩,G⟩
end
section
variable {E:XK}
def jO(X:Cx)(E:XK):Prop:=X.ex=[]/\X.stack=X.env::X.outer/\X.env.frame=some X.env.locals/\X.xe=λe s'=>wpAny (model X.prog X.w) X.A (leaving X.env e) (λ_ s=>bn X.prog X.w X.outer X.H₀ X.s₀ E e s) (λa s=>bn X.prog X.w X.outer X.H₀ X.s₀ E a s) s'
theorem jO.of{P:Nu}{E:XK}:jO (eI (bn P w) P w K mg base N qual scope f cd A outer s H E) E:=
 ⟨rfl,rfl,rfl,rfl⟩
theorem jO.own(L:jO X E):Qo (model X.prog X.w) X.A X.env X.xe:=by rw[L.2.2.2];exact PassesOwn.leaving
theorem jO.pass(L:jO X E):j7 (bn X.prog X.w) X E:=by intro P G H s v k I c;obtain⟨a,h,w,j⟩:=L;obtain⟨e,cls,B,y,rfl,l,q,f⟩:=Cv I c a;have t:=f.old (h1:=X.s₀.heap) λb o u=>I.base.there b o u (by rw[a];simp);obtain⟨g,T,A,N,x,m⟩:=Ct t (h▸l.stack);rw[j];refine ZJ ((Cr (env:=X.env)).any (wpAny_leaves_onW (E:=λe S=>False) (Q:=λ_ S=>∃d,S={k with heap:=d}/\O7 (PySem.W.hideAll k.heap (e::T::bG (X.env::X.outer))) X.outer e cls A d/\k.heap.UpToSlots d) (by rw[I.ok.frames,h]) w m λd F up=>⟨d,rfl,F,up⟩)) (λ_ S z=>?_) λ_ _ z=>z.1.elim;obtain⟨⟨d,rfl,F,up⟩,D⟩:=z;obtain⟨O,p,_⟩:=m.there;exact Cs (T:=T) l a h (by rw[h];exact Cu) N x F up q (λo i=>(D.get p i).trans (g O p)) rfl rfl rfl
theorem jO.made{s0:Nm}{e C:Nn}{vs:Av}{a0:Np}(L:jO X E)(r:Inv X pq σ H0 s0)(M:s0.heap.get? e=none)(I:Inv X pq σ H s)(j:s.heap.get? e=some {cls:=.ref C,dict:=dx,data:=.fields vs})(h1:vs[1]?=some .none)(t:vs[0]?=some a0)(N:H e=none)(q:E (.ref C) dx H):X.xe (.ref e) s:=by
 obtain⟨i,h,x,n⟩:=L;rw[n]
 have ne:X.s₀.heap.get? e=none:=by
  cases y:X.s₀.heap.get? e with
  |none=>rfl
  |some o=>obtain⟨O,g⟩:=r.base.there e o y (by rw[i];simp);rw[M]at g;cases g
 have l:∀c∈X.env::X.outer,∀a,c.frame=some a->a∈e::bG (X.env::X.outer):=λc j a w=>Zc _ (Z5.mpr ⟨c,j,w⟩);have k:s.heap.FunFrames (PySem.W.hideAll s.heap (e::bG (X.env::X.outer))) (X.env::X.outer):=PySem.W.funFrames_hide (h▸I.stack) l;have f:(PySem.W.hideAll s.heap (e::bG (X.env::X.outer))).get? e=none:=PySem.W.hideAll_none _ (by simp);refine ZJ ((Cr (env:=X.env)).any (wpAny_leaving_firstW (E:=λe S=>False) (Q:=λ_ S=>∃d,S={s with heap:=d}/\Heap.LeftW (PySem.W.hideAll s.heap (e::bG (X.env::X.outer))) (X.env::X.outer) e (.ref C) a0 s.heap d) (by rw[I.ok.frames,h]) k x j (λb o z=>PySem.W.of_hideAll _ z) f rfl h1 t λd F=>⟨d,rfl,F⟩)) (λ_ S z=>?_) λ_ _ z=>z.1.elim;obtain⟨⟨d,rfl,F⟩,D⟩:=z;obtain⟨K,⟨_,_,A⟩,G,J⟩:=F;refine Cs (B:=PySem.W.hideAll s.heap (e::bG (X.env::X.outer))) (T:=e) (a0:=a0) I i h (λb o h1 u v _=>PySem.W.hideAll_get _ h1 λz=>?_) ⟨ne,ne⟩ ⟨N,N⟩ ⟨K,f,A,G⟩ J q (λo m=>(D.get j m)) rfl rfl rfl;rcases Zi.mp z with z|z
 ·exact v z
 ·exact u (by rw[h];exact z)
def gD(X:Cx)(E:XK):Prop:=∀(pq:Lp) (σ:L2.St) (H0 H:Hp) (s0 s:Nm) (e C:Nn) (dx:Option Nn) (vs:Av) (a0:Np),L2.Inv X pq σ H0 s0->s0.heap.get? e=none->L2.Inv X pq σ H s->s.heap.get? e=some {cls:=.ref C,dict:=dx,data:=.fields vs}->vs[1]?=some .none->vs[0]?=some a0->H e=none->E (.ref C) dx H->X.xe (.ref e) s
theorem gD.plain(M:gD X E){e:Nn}{a:Lv}(I:Inv X pq σ H s)(m:Rv s.heap h2 e (.ref C) a)(q:E (.ref C) none H):X.xe (.ref e) {s with heap:=h2}:=by
 have n:H e=none:=by
  cases d:H e with
  |none=>rfl
  |some u=>obtain⟨o,b⟩:=vx (I.hok e u d);rw[m.new]at b;cases b
 obtain⟨t,c,_⟩:=m.there;exact M pq σ H H s {s with heap:=h2} e C none _ _ I m.new (I.kept (t':=s.toks) m.keeps) c rfl rfl n q
theorem jO.all(L:jO X E):gD X E:=λ_ _ _ _ _ _ _ _ _ _ _ a n I b H h N q=>L.made a n I b H h N q
end
noncomputable def eh:Lv:=[.type "ValueError",.type "Exception",.type "BaseException",.type "object"]
section
variable {E:XK}{x:Str}
end
open PySem PySem.Spec PySem.Calls PyProof.Rows PySem.W
def vy(x C:Nn)(dx:Option Nn)(h:Ny):Prop:=∃ox,h.get? x=some ox/\ox.cls=.ref C/\ox.dict=dx/\notCls ox=Nk
theorem vy.type{x:Nn}(I:vy x C dx h):Looks M h (typeOf (.ref x)) (.ref C):=by obtain⟨o,H,a,_⟩:=I;exact a▸(Looks.ld H).andThen .now
theorem Cw{Q:Unit->Nm->Prop}{x:Nn}(L:Looks M s.heap (typeOf (.ref x)) (.ref C))(c:Looks M s.heap (isSubtype (.ref C) (.type "BaseException")) Nk)(a:Q () s):
  wpAny M A (checkBuiltinCall "BaseException.__getattribute__" ⟨[.ref x,nameV],[]⟩) Q E s:=by
 have f:builtinKind "BaseException.__getattribute__"=some .slot:=by decide+kernel
 have h:splitId "BaseException.__getattribute__"=some ("BaseException","__getattribute__"):=by decide+kernel
 have b:=PySem.F.args_bexc_ga (.ref x) nameV;obtain⟨i,g,d,t,o⟩:=s;simp only[checkBuiltinCall,f,h];refine Za ?_;unfold isInstance;refine Za (L.at (c.at ?_));simp only[RI,Zu,Z6];cases H:RN "BaseException.__getattribute__" with
 |none=>exact Zd a
 |some S=>simp only[argsOk,H]at b;have e:Qy "BaseException.__getattribute__" S ⟨[.ref x,nameV],[]⟩=pure ():=b;show wpAny M A (Qy "BaseException.__getattribute__" S ⟨[.ref x,nameV],[]⟩) Q E _;rw[e];exact Zd a
section
variable {x:Nn}
theorem oX{T:Np}{R:Qz->Nm->Prop}(X:K.In s.heap)(I:vy x C dx s.heap)(H:mroIn K C (.type "object")=some Nk)
  (h:R (.ok (.ret (.ref C))) s):codeAny (model prog w) A (.call (.builtin "getset_descriptor.__get__") ⟨[.builtin "object.__class__",.ref x,T],[]⟩) R s:=by
 obtain⟨b,g,d,t,o⟩:=s;have L:=I.type (M:=model prog w);have a:=looks_mroIn (M:=model prog w) X H;refine OT KF.slot_gs.plain KF.entry_gs (KF.slot_gs.check _ _ _ _ _ _ _ _ KF.type_class (KF.args_gs _ _ _) ?_);unfold N8.«getset_descriptor.__get__» RO;rw[dga_obj];refine Za (Zd ?_);unfold RP RQ RR isInstance;simp only[KF.owner_class]
 repeat lk
 refine⟨PL _ (by decide+kernel),Z9 KF.entry_class ?_⟩;unfold N8.«object.__class__» shownTypeOf
 repeat lk
 exact h
structure dC (K:Fg)(C:Nn):Prop where
 cls:∃cd,clsIn K C=some cd
 ga:findIn K (.ref C) "__getattribute__"=some (some (.builtin "BaseException.__getattribute__"))
 gn:findIn K (.ref C) "__getattr__"=some none
 at_:findIn K (.ref C) "__class__"=some (some (.builtin "object.__class__"))
 ob:mroIn K C (.type "object")=some Nk
 be:mroIn K C (.type "BaseException")=some Nk
 sp:specialIn K (.builtin "object.__class__") "__get__"=some (some (.builtin "getset_descriptor.__get__"))
 tk:takesIn K (.builtin "object.__class__")=some Nk
theorem Jy{Q:Ov->Nm->Prop}(Z:dC K C)(X:K.In s.heap)(I:vy x C dx s.heap)(h:Q (some (.ref C)) {s with toks:=s.toks+1}):wpAny (model prog w) A (getAttr? (.ref x) "__class__") Q E s:=by
 obtain⟨H,g,d,t,o⟩:=s;have L:=I.type (M:=model prog w);have b:=looks_findIn (M:=model prog w) X Z.ga;have L2:=looks_findIn (M:=model prog w) X Z.gn
 have c:Looks (model prog w) H (Tr (.ref x) (.ref C) "__class__") (.bind (.builtin "getset_descriptor.__get__") (.builtin "object.__class__")):=
  (looks_findIn (M:=model prog w) X Z.at_).andThen ((looks_specialIn X Z.sp).andThen
   ((show Looks (model prog w) H (Ts (some (.builtin "object.__class__")) (some (.builtin "getset_descriptor.__get__"))) (some (.builtin "getset_descriptor.__get__",.builtin "object.__class__"))from(looks_takesIn (M:=model prog w) X Z.tk).andThen .now).andThen (Looks.tag .now)))
 have e:=looks_mroIn (M:=model prog w) X Z.be;unfold getAttr? getAttrBy? getAttrBy;refine Za (Te (Za (O3 (ZE (Za (L.at (Za (b.at ?_))))))));show wpAny _ _ (getAttrByItsOwn _ _ _ _ _ _) _ _ _;unfold getAttrByItsOwn hookBefore;refine Za ?_;show wpAny _ _ (typeLookup (.ref C) "__getattr__") _ _ _;refine L2.at ?_;refine Za (O3 (ZE ?_));show wpAny _ _ (boundAndCalled _ _ _) _ _ _;unfold boundAndCalled;have a:bindSpecial (.builtin "BaseException.__getattribute__") (.ref x)=pure (.builtin "BaseException.__getattribute__",[.ref x]):=PySem.F.attr_ValueError.ga.bind _;rw[a];refine Za (Zd ?_);refine Pu (OT PySem.F.attr_ValueError.ga.plain PySem.F.entry_bexc_ga (Cw (s:=⟨H,g,d,t+1,o⟩) L e ?_));unfold N8.«object.__getattribute__»;refine Za (Zd ?_);refine Za (Zd ?_);refine Za (L.at (Za (c.at ?_)));show wpAny _ _ (Qr _ _ _ _) _ _ _;unfold Qr
 repeat(any_goals (first|assumption|wp_step))
 refine oX (s:=⟨H,g,d,t+1,o⟩) X I Z.ob ?_
 repeat(any_goals (first|assumption|wp_step))
theorem Jz(Z:dC K C):KitX K (.ref x) (.ref C) (vy x C dx) where
 ty:=λ_ _ _ I=>I.type
 it:=λ_ _ X _=>by
  obtain⟨cdD,hcD⟩:=Z.cls;unfold clsIn at hcD;split at hcD
  ·rename_i c' d' cd' sl' ho;intro A' Q' E' s' k q;unfold isType loadHead;exact Za (Sl (k _ _ (X _ _ ho)) (Zd q))
  ·cases hcD
 ne:=λh tp dd its n sl X htp=>by
  obtain⟨cdD,hcD⟩:=Z.cls;refine QU.mpr λq=>?_;have e:C=tp:=Value.ref.inj (beq_iff_eq.mp q);subst e;unfold clsIn at hcD;split at hcD
  ·rename_i c' d' cd' sl' ho;have z:=(X _ _ ho).symm.trans htp;cases z
  ·cases hcD
 ca:=λX I k=>Jy Z X I k
end
section
variable {x:Nn}
noncomputable def cE(x C:Nn)(dx:Option Nn):HO:=.ext (vy x C dx)
theorem oY{P:Nu}(i:vy x C dx h):aQ P w H h x (cE x C dx):=
 ⟨i,let⟨o,e,_⟩:=i;⟨o,e⟩,λa b ⟨o,e,c⟩ k=>⟨o,k o e,c⟩⟩
theorem Cy{D:Np}{b:Bool}(Z:dC X.K C)(e:kitOne X.K (.ref C) D=some b):a9 X (.builtin "isinstance") (λxs H Q=>∃v,xs=[.ref x,v]/\RelV v D/\(∀u,RelV v u->u=D)/\H x=some (cE x C dx)/\Q (.bl b) H):=by
 intro p s k H vs U Q I r h;obtain⟨v,rfl,j,a,c,q⟩:=h;cases r with
 |cons R d=>
  cases d with
  |cons f g=>cases g;cases R;rw[a _ f];obtain⟨i,_,_⟩:=(show aQ X.prog X.w H s.heap x (cE x C dx)from I.hok x _ c);exact kia_one (Jz Z) I.kIn i e (λz=>nomatch z) λt=>⟨.bl b,H,I.kept (t':=t) λb o e=>e,rfl,q⟩
end
end Py
namespace Py
open PySem PySem.Spec PySem.SeqAt PyProof.Rows L2
def Sub(H a:Hp):Prop:=∀b o,H b=some o->a b=some o
theorem Sub.refl:Sub H H:=λ_ _ h=>h
theorem Sub.laid{p:Nn}{o:HO}(s:Sub H H')(c:H' p=none):Sub H (aP H' p o):=λb u h=>by have a:=s b u h;rw[av (λz=>by rw[z,c]at a;cases a)];exact a
theorem vz:∀{bs:List Bool} {us:Lv},Vals (bs.map V.bl) us->us=bs.map OI
 | [],_,.nil=>rfl
 |b::bs,_,.cons r t=>by rw[vz t,show _=OI b from r];rfl
theorem Cz(bs:List Bool)(A:NX)(s:Nm):∀y,y∈(bs.map OI).toArray->EqAt A s y (.bool Nk) (isBoolOf Nk y):=λy h=>by obtain⟨b,_,rfl⟩:=Zq.mp (List.mem_toArray.mp h);exact EqAt.bool_bool b Nk
theorem JA:jL X "list.count" (λx xs H Q=>∃(l:Nn) (bs:List Bool),x=.ref l/\xs=[.bl Nk]/\H l=some (.lst (bs.map V.bl))/\Q (.int (bs.count Nk:Nat)) H):=by
 intro p s j H x xs v u Q I g d h;obtain⟨l,bs,rfl,rfl,c,q⟩:=h;subst g;cases d with
 |cons r R=>
  cases R;subst r;obtain⟨_,i,n,f,a⟩:=(show aQ X.prog X.w H s.heap l (.lst (bs.map V.bl))from I.hok l _ c);rw[vz f]at a;refine O_ PySem.F.slot_list_count ⟨_,a,rfl⟩ PySem.F.entry_list_count (PySem.F.args_list_count_2 _ _) (list_countAt l _ n none #[] (.bool Nk) (isBoolOf Nk)) ⟨a,Cz bs _ _,?_⟩;have e:List.countP (isBoolOf Nk) (bs.map OI).toArray.toList=bs.count Nk:=by rw[List.countP_map];rfl
  rw[e];exact⟨.int _,H,I.kept (t':=s.toks+1) λb o e=>e,⟨_,rfl⟩,q⟩
theorem JB:jL X "list.index" (λx xs H Q=>∃(l:Nn) (bs:List Bool),x=.ref l/\xs=[.bl Nk]/\H l=some (.lst (bs.map V.bl))/\Nk∈bs/\bs.length<1000/\Q (.int (bs.idxOf Nk:Nat)) H):=by
 intro P s z H x xs v U Q I u k h;obtain⟨l,bs,rfl,rfl,d,f,w,q⟩:=h;subst u;cases k with
 |cons r R=>
  cases R;subst r;obtain⟨_,j,n,t,c⟩:=(show aQ X.prog X.w H s.heap l (.lst (bs.map V.bl))from I.hok l _ d);rw[vz t]at c;have y:bs.idxOf Nk<bs.length:=Rn f;refine O_ PySem.F.slot_list_index ⟨_,c,rfl⟩ PySem.F.entry_list_index (PySem.F.args_list_index_2 _ _) (list_indexAt l _ n none #[] (.bool Nk) (isBoolOf Nk) (bs.idxOf Nk) (by simp_all) (by lia) ?_ ?_) ⟨c,Cz bs _ _,?_⟩
  ·simp[isBoolOf]
  ·intro m g a;have:=RU (p:=(· ==Nk)) (xs:=bs) (i:=m) a;simpa[isBoolOf]using this
  ·exact⟨.int _,H,I.kept (t':=s.toks+1) λb o e=>e,⟨_,rfl⟩,q⟩
noncomputable def ji(y:Str):CE:=.blt .isinst [.var 0,.glob y]
noncomputable def k_(y:Str):CE:=.lit (.str y)
noncomputable def gE(a b c d w v:Ls):List CS:=
 [.asg 1 (.lst Nl (a.map ji)),.asg 1 (.bin .Add (.var 1) (.lst Nl (b.map ji))),.asg 1 (.bin .Add (.var 1) (.lst Nl (c.map ji))),.asg 1 (.bin .Add (.var 1) (.lst Nl (d.map ji))),
  .ite (.bor (.bnot (ji "ValueError")) (.cmp .NotEq (.meth .count (.var 1) [.lit (.bl Nk)]) (.lit (.int 1)))) [.ret (.lit (.str "other"))] [],
  .asg 2 (.lst Nl (w.map k_)),.ret (.idx (.bin .Add (.var 2) (.lst Nl (v.map k_))) (.tix (.var 1) [.lit (.bl Nk)]))]
noncomputable def la(st:List Oq):Bool:=((st.drop 4).take 1).all (λs=>(vw (vs s).e0).es.length==2&&(vw (vw (vw ((vw (vs s).e0).es.tail.headD dE)).e0).e0).pos.endLine==(vw (vw ((vw (vs s).e0).es.tail.headD dE)).e0).pos.line)&&(st.length==7&&
 ((st.drop 6).take 1).all λs=>(vw (vw (vw (vs s).e0).e1).e0).pos.endLine==(vw (vw (vs s).e0).e1).pos.line)
structure KX (X:Cx)(N:Ls)(C:Nn)(bf:Str->Bool)(ys:Ls):Prop where
 n:X.N=N
 nd:N.Nodup
 len:N.length=3
 loc:∀(i:Nat) (y:Str),N[i]?=some y->X.env.scope.names.lookup y=some .local/\dz y=Nk
 fn:∀y,X.fn y=Nk
 isi:Gl X "isinstance"/\X.mg "isinstance"=none
 ve:Gl X "ValueError"/\X.mg "ValueError"=none
 kv:PySem.W.kitOne X.K (.ref C) (.type "ValueError")=some Nk
 z:dC X.K C
 cl:∀y∈ys,Gl X y/\(y==("__debug__":Str))=Nl/\∃D,X.mg y=some (.ref D)/\PySem.W.kitOne X.K (.ref C) (.ref D)=some (bf y)
section
variable {x:Nn}{ys:Ls}
theorem iB(O:KX X N C bf ys){i:Nat}(h:i<3):N[i]?=some (N.getD i ""):=by rw[Oc,Zf (by rw[O.len];exact h)];rfl
theorem gF(O:KX X N C bf ys){i:Nat}{pos:Pos}(H:i<3):PE X (.Name (N.getD i "") pos) (l7 i):=by obtain⟨a,h⟩:=O.loc i _ (iB O H);exact jU (by rw[O.n];exact iB O H) (.inl a) (fQ h).1 (fQ h).2
noncomputable def MF(x C:Nn)(dx:Option Nn)(b:Bool):TE:=λσ H Q=>σ[0]?=some (some (.ref x))/\H x=some (cE x C dx)/\Q (.bl b) H
theorem CA(O:KX X N C bf ys)(c:y∈ys):PE X (aY (ji y) N e) (MF x C dx (bf y)):=by obtain⟨g,G,D,a,b⟩:=O.cl y c;refine aM (tm (x:="isinstance") (Cy (x:=x) (dx:=dx) O.z b) O.isi.1 O.isi.2 (by decide+kernel) (cS (gF O (by decide)) (cS (yw (v:=.ref D) g a rfl G) e9))) λd H Q h=>?_;exact⟨_,h.1,.ref D,rfl,rfl,λu r=>r,h.2.1,h.2.2⟩
theorem CB(O:KX X N C bf ys):PE X (aY (ji "ValueError") N e) (MF x C dx Nk):=by refine aM (tm (x:="isinstance") (Cy (x:=x) (dx:=dx) O.z O.kv) O.isi.1 O.isi.2 (by decide+kernel) (cS (gF O (by decide)) (cS (yx (v:=.ty "ValueError") O.ve.1 O.ve.2 (by decide+kernel) rfl) e9))) λa H Q h=>?_;exact⟨_,h.1,.ty "ValueError",rfl,rfl,λu r=>r,h.2.1,h.2.2⟩
theorem lb(O:KX X N C bf ys):∀{zs:Ls} {es:Lx},(∀y∈zs,y∈ys)->PA X (cC (zs.map ji) N es) (λσ H Q=>σ[0]?=some (some (.ref x))/\H x=some (cE x C dx)/\Q ((zs.map bf).map V.bl) H)
 | [],es,_=>eO e9 λσ H Q h=>h.2.2
 |z::zs,es,a=>by refine eO (cS (CA (x:=x) (dx:=dx) O (a z Ze)) (lb O (es:=es.tail) λy b=>a y (Zc _ b))) λσ H Q h=>?_;exact⟨h.1,h.2.1,h.1,h.2.1,h.2.2⟩
theorem vA:∀{zs:Ls} {es:Lx},PA X (cC (zs.map k_) N es) (λσ H Q=>Q (zs.map V.str) H)
 | [],es=>eO e9 λσ H Q h=>h
 |z::zs,es=>eO (cS (iL (x:=z)) (vA (zs:=zs) (es:=es.tail))) λσ H Q h=>h
theorem lc{t t':TS}(h:PS X st t)(w:∀D σ H,t' D σ H->t D σ H):PS X st t':=λp s σ H D I q=>h p s σ H D I (w D σ H q)
def Mk(x C:Nn)(dx:Option Nn)(bs:List Bool)(σ:L2.St)(H:Hp):Prop:=σ.length=3/\σ[0]?=some (some (.ref x))/\H x=some (cE x C dx)/\∃p,σ[1]?=some (some (.ref p))/\H p=some (.lst (bs.map V.bl))
theorem lf(O:KX X N C bf ys){i:Nat}{p pos:Pos}(h:i<3)(H:PE X e te)(a:fR e=Nk):PS X (.Assign [.Name (N.getD i "") p] e pos) (mi te (dZ i)):=
 j2 (by rw[O.n];exact O.nd) (by rw[O.n];exact iB O h) (.inl (O.loc i _ (iB O h)).1) H (jh a) (.inl (O.fn _))
theorem oZ(O:KX X N C bf ys){a:Ls}(f:∀y∈a,y∈ys)(g:a.length<=1000):PS X (jg (.asg 1 (.lst Nl (a.map ji))) N st)
  (λD σ H=>(σ.length=3/\σ[0]?=some (some (.ref x))/\H x=some (cE x C dx))/\∀σ' H',Mk x C dx (a.map bf) σ' H'->Sub H H'->D.nx σ' H'):=
 lc (lf O (by decide) (f9 (lb (x:=x) (dx:=dx) O f)) rfl) λD σ H ⟨⟨b,c,h⟩,e⟩=>⟨c,h,by simp;exact ZD g (by decide),λp d=>e _ _ ⟨by simp[b],by simpa using c,by rw[av (bT h d)];exact h,p,by simp[b],a8⟩ (Sub.refl.laid d)⟩
theorem vB(O:KX X N C bf ys){a:Ls}(bs:List Bool)(m:∀y∈a,y∈ys)(f:bs.length+a.length<=1000):PS X (jg (.asg 1 (.bin .Add (.var 1) (.lst Nl (a.map ji)))) N st)
  (λD σ H=>Mk x C dx bs σ H/\∀σ' H',Mk x C dx (bs++a.map bf) σ' H'->Sub H H'->D.nx σ' H'):=
 lc (lf O (by decide) (iu mK (gF O (i:=1) (by decide)) (f9 (lb (x:=x) (dx:=dx) O m))) rfl) λD σ H ⟨⟨c,d,h,p,l,e⟩,k⟩=>⟨_,l,d,h,by simp;exact ZD (ZD (Rq _ _) f) (by decide),λq b=>
  ⟨p,q,bs.map V.bl,(a.map bf).map V.bl,rfl,rfl,by rw[av (bT e b)];exact e,a8,by simp;exact ZD f (by decide),λr g=>by
   have j:aP H q (.lst ((a.map bf).map V.bl)) x=some (cE x C dx):=by rw[av (bT h b)];exact h
   exact k _ _ ⟨by simp[c],by simpa using d,by rw[av (bT j g)];exact j,r,by simp[c],by rw[a8,OB]⟩ ((Sub.refl.laid b).laid g)⟩⟩
theorem jj(h:bC e=Nk):((backTo cpos (starEach [e] env)).all (λx=> !x.1)&&(backToKw cpos (keywordEach [] env)).all (λx=>x.1.isSome)&&decide ([e].length+([]:List QR).length+(if([]:List QR).isEmpty then 0 else 1)<30))=Nk:=by rw[nL (es:=[e]) (λx H=>by rw[NW.mp H];exact h)];rfl
theorem lg(O:KX X N C bf ys){id:String}{p:Pos}{j}(s:Slot "list" name id)(h:typeOf (.builtin id)=pure (.type "method_descriptor"))(a:jL X id r)(H:(apos.endLine==cpos.line)=Nk):
  PE X (.Call (.Attribute (.Name (N.getD 1 "") vp) name apos) [.Constant (.bool Nk) j p] [] cpos) (Mp X.K "list" r (l7 1) (eG (L2.tC (.bl Nk)) tf)):=
 rm PySem.F.plainAttrs_list s h a (gF O (by decide)) (cS qZ e9) rfl (jj rfl) H rfl rfl
theorem vC(O:KX X N C bf ys)(bs:List Bool)(g:bs.count Nk=1)(a:(vw (vs st).e0).es.length=2)(i:((vw (vw (vw ((vw (vs st).e0).es.tail.headD dE)).e0).e0).pos.endLine==(vw (vw ((vw (vs st).e0).es.tail.headD dE)).e0).pos.line)=Nk):
  PS X (jg (.ite (.bor (.bnot (ji "ValueError")) (.cmp .NotEq (.meth .count (.var 1) [.lit (.bl Nk)]) (.lit (.int 1)))) [.ret (.lit (.str "other"))] []) N st) (λD σ H=>Mk x C dx bs σ H/\D.nx σ H):=by
 have e:aY (.bor (.bnot (ji "ValueError")) (.cmp .NotEq (.meth .count (.var 1) [.lit (.bl Nk)]) (.lit (.int 1)))) N (vs st).e0=.BoolOp .Or [aY (.bnot (ji "ValueError")) N ((vw (vs st).e0).es.headD dE),aY (.cmp .NotEq (.meth .count (.var 1) [.lit (.bl Nk)]) (.lit (.int 1))) N ((vw (vs st).e0).es.tail.headD dE)] (vw (vs st).e0).pos:=by show Expr.BoolOp _ (_::cond ((vw (vs st).e0).es.length==2) _ _) _=_;rw[a];rfl
 show PS X (.If (aY (.bor _ _) N (vs st).e0) (cu [_] N _) [] _) _;rw[e];refine lc (ir (PW.pt (q8 (jX (sx (CB (x:=x) (dx:=dx) O))) (jW (mw yQ (lg O PySem.F.slot_list_count PySem.F.type_list_count JA i) jV rfl)))) (sJ) fG) λD σ H ⟨⟨j,b,c,p,d,h⟩,f⟩=>?_;refine⟨b,c,Nk,rfl,_,d,.inl ⟨rfl,_,.of h⟩,p,bs,rfl,rfl,h,rfl,?_⟩;rw[g];exact⟨_,rfl,f⟩
theorem o4(O:KX X N C bf ys)(bs:List Bool){w:Ls}(g:w.length<=1000):PS X (jg (.asg 2 (.lst Nl (w.map k_))) N st)
  (λD σ H=>Mk x C dx bs σ H/\∀σ' H',(Mk x C dx bs σ' H'/\∃q,σ'[2]?=some (some (.ref q))/\H' q=some (.lst (w.map V.str)))->Sub H H'->D.nx σ' H'):=
 lc (lf O (by decide) (f9 vA) rfl) λD σ H ⟨⟨a,d,b,p,f,c⟩,e⟩=>⟨by simp;exact ZD g (by decide),λq h=>e _ _ ⟨⟨by simp[a],by simpa using d,by rw[av (bT b h)];exact b,p,by simpa using f,by rw[av (bT c h)];exact c⟩,q,by simp[a],a8⟩ (Sub.refl.laid h)⟩
theorem CC(O:KX X N C bf ys)(bs:List Bool){w v:Ls}{r:Str}(o:Nk∈bs)(c:bs.length<1000)(j:(w++v)[bs.idxOf Nk]?=some r)(hw:w.length+v.length<=1000)
  (n:((vw (vw (vw (vs st).e0).e1).e0).pos.endLine==(vw (vw (vs st).e0).e1).pos.line)=Nk):PS X (jg (.ret (.idx (.bin .Add (.var 2) (.lst Nl (v.map k_))) (.tix (.var 1) [.lit (.bl Nk)]))) N st)
  (λD σ H=>(Mk x C dx bs σ H/\∃q,σ[2]?=some (some (.ref q))/\H q=some (.lst (w.map V.str)))/\∀H',Sub H H'->D.rt (.str r) H'):=by
 refine lc (jZ (rk zl (iu mK (gF O (i:=2) (by decide)) (f9 vA)) (lg O PySem.F.slot_list_index PySem.F.type_list_index JB n) (λ_ _=>rfl))) λD σ H ⟨⟨⟨s,t,u,p,l,d⟩,q,m,f⟩,k⟩=>?_;refine⟨_,m,by simp;exact ZD (ZD (Rq _ _) hw) (by decide),λa h=>⟨q,a,w.map V.str,v.map V.str,rfl,rfl,by rw[av (bT f h)];exact f,a8,by simp;exact ZD hw (by decide),λb g=>?_⟩⟩
 have e:aP (aP H a (.lst (v.map V.str))) b (.lst (w.map V.str++v.map V.str)) p=some (.lst (bs.map V.bl)):=by
  have:aP H a (.lst (v.map V.str)) p=some (.lst (bs.map V.bl)):=by rw[av (bT d h)];exact d
  rw[av (bT this g)];exact this
 refine⟨_,l,.inl ⟨rfl,_,.of e⟩,p,bs,rfl,rfl,e,o,c,b,w.map V.str++v.map V.str,_,_,rfl,rfl,.of a8,?_,k _ ((Sub.refl.laid h).laid g)⟩;have y:=(Zg.mp j).1;unfold hH iQ;rw[<-OB];simp only[Zl];rw[if_pos (by omega),if_pos (by omega)];show(QV V.str (w++v))[_]?=_;rw[Z2,Yi,j];rfl
theorem vD(O:KX X N C bf ys){a b c d w v:Ls}{r:Str}{st:List Oq}(e:ys=a++b++c++d)(f:ys.length<1000)(hw:w.length+v.length<=1000)(h1:(ys.map bf).count Nk=1)(q:(w++v)[(ys.map bf).idxOf Nk]?=some r)(n:la st=Nk):
  ec X (cu (gE a b c d w v) N st) (λD σ H=>(σ.length=3/\σ[0]?=some (some (.ref x))/\H x=some (cE x C dx))/\∀H',Sub H H'->D.rt (.str r) H'):=by
 obtain⟨K,k⟩:=aa n;obtain⟨k,i⟩:=aa k;have k:=Zx k;obtain⟨B,st,rfl⟩:=Zz (show st.length=6+1 from k);obtain⟨F,st,rfl⟩:=Zz (show st.length=5+1 from ZB k);obtain⟨G,st,rfl⟩:=Zz (show st.length=4+1 from ZB (ZB k));obtain⟨J,st,rfl⟩:=Zz (show st.length=3+1 from ZB (ZB (ZB k)));obtain⟨S,st,rfl⟩:=Zz (show st.length=2+1 from ZB (ZB (ZB (ZB k))));obtain⟨L,st,rfl⟩:=Zz (show st.length=1+1 from ZB (ZB (ZB (ZB (ZB k)))));obtain⟨Q,st,rfl⟩:=Zz (show st.length=0+1 from ZB (ZB (ZB (ZB (ZB (ZB k))))));have K:((vw (vs S).e0).es.length==2&&_)=Nk:=(aa (show(_&&Nk)=Nk from K)).1;have i:=(aa (show(_&&Nk)=Nk from i)).1;obtain⟨K,t⟩:=aa K;have j:a.length+b.length+c.length+d.length<1000:=by rw[e]at f;simpa[RK]using f
 have p:Nk∈ys.map bf:=List.count_pos_iff.mp (by omega);have E:ys.map bf=((a.map bf++b.map bf)++c.map bf)++d.map bf:=by rw[e];simp
 refine λP s σ H D I g=>c9 (oZ (x:=x) (dx:=dx) O (a:=a) (st:=B) (λy h=>by rw[e];simp[h]) (by omega)) (c9 (vB (x:=x) (dx:=dx) O (st:=F) (a.map bf) (λy h=>by rw[e];simp[h]) (by simp;omega)) (c9 (vB (x:=x) (dx:=dx) O (st:=G) (a.map bf++b.map bf) (λy h=>by rw[e];simp[h]) (by simp;omega))
  (c9 (vB (x:=x) (dx:=dx) O (st:=J) (a.map bf++b.map bf++c.map bf) (λy h=>by rw[e];simp[h]) (by simp;omega)) (c9 (vC (x:=x) (dx:=dx) O (ys.map bf) (st:=S) h1 (Zx K) t) (c9 (o4 (x:=x) (dx:=dx) O (ys.map bf) (w:=w) (st:=L) (by omega)) (c9 (CC (x:=x) (dx:=dx) O (ys.map bf) (w:=w) (v:=v) (r:=r) (st:=Q) p (by simpa using f) q hw i) fG)))))) P s σ H D I ?_
 obtain⟨g,hD⟩:=g;refine⟨g,λZ H1 M U=>⟨M,λσ2 H2 u R=>⟨u,λσ3 H3 m3 T=>⟨m3,λσ4 H4 m V=>?_⟩⟩⟩⟩;rw[<-E]at m;exact⟨m,m,λσ5 H5 A W=>⟨A,λl Y=>hD l λb o z=>Y b o (W b o (V b o (T b o (R b o (U b o z)))))⟩⟩
end
end Py
namespace Py
abbrev jP(X:Cx)(A:NX):Cx:={X with A:=A,calm:=Nl,xe:=λ_ _=>False}
theorem vE(I:L2.Inv X pq σ H s)(h:A.frames=X.A.frames):L2.Inv (jP X A) pq σ H s:=
 ⟨⟨I.ok.mod,I.ok.kind,I.ok.glob,I.ok.blt,I.ok.above,I.ok.inj,I.ok.has,I.ok.cab,(λz=>by cases z),h.trans I.ok.frames,I.ok.stk,I.ok.exf,I.ok.bs,I.ok.bsz,I.ok.noex,I.ok.exfs,I.ok.funs,I.ok.frf⟩,I.os,I.bare,I.base,I.loc,I.cell,I.free,I.freeC,I.pin,I.hok,I.len⟩
theorem CD(I:L2.Inv (jP X A) pq σ H s)(ok:X.Ok):L2.Inv X pq σ H s:=⟨ok,I.os,I.bare,I.base,I.loc,I.cell,I.free,I.freeC,I.pin,I.hok,I.len⟩
def jk(P:Nu)(w:NG)(K:Fg)(mg:Mg)(base:Ny)(f:Nn)(C:Nn)(r:Str):Prop:=
 ∀(A:NX) (outer:List Env) (s:Nm) (H:Hp) (e:Nn) (dx:Option Nn),A.depth<recursionLimit->hG P w K mg base A outer s H->H e=some (cE e C dx)->codeAny (model P w) A (.call (.ref f) ⟨[.ref e],[]⟩) (CR Fw outer P w H s (λv H'=>v=.str r/\Sub H H') E0) s
structure M8 (K:Fg)(mg:Mg)(C:Nn)(bf:Str->Bool)(ys:Ls):Prop where
 kv:PySem.W.kitOne K (.ref C) (.type "ValueError")=some Nk
 z:dC K C
 cl:∀y∈ys,∃D,mg y=some (.ref D)/\PySem.W.kitOne K (.ref C) (.ref D)=some (bf y)
noncomputable def lh(N Y:Ls)(s:Scope):Bool:=(N.length==3&&N.all (λy=>s.names.lookup y==some .local&&dz y))&&(br s.names "isinstance"&&(br s.names "ValueError"&&Y.all (λy=>br s.names y)))
theorem JC{P:Nu}{x e0:Str}{V:Ob}{a b c d wd v:Ls}{r:Str}
  (F:mP K x qual st f V) (S:bv N [e0] (bo st)) (hb:Binds K V [e0] []) (D:cu (gE a b c d wd v) N (bU st)=bU st) (hk:la (bU st)=Nk) (G:lh N (a++b++c++d) (bo st)=Nk)
  (R:M8 K mg C bf (a++b++c++d)) (hi:mg "isinstance"=none) (hv:mg "ValueError"=none) (hl:(a++b++c++d).length<1000) (hw:wd.length+v.length<=1000) (h1:((a++b++c++d).map bf).count Nk=1) (hr:(wd++v)[((a++b++c++d).map bf).idxOf Nk]?=some r):
  jk P w K mg base f C r:=by
 intro A g s H e U z E he;obtain⟨oc,od,kV,doc,pm,an,j,ct,osl,rfl,lk,t⟩:=F.ex;have k:K.In s.heap:=E.mod.kin.keeps λb o e=>(E.bs b o e).1;have T:s.heap.NoLimit:=E.mod.nolimit.keeps λb o e=>(E.bs b o e).1
 have l:∀y∈[e0].zip [NB e],(bo st).names.lookup y.1=some .local\/((bo st).names.lookup y.1=some .cell/\((cellsFrom (s.heap.objs.size+1) (bo st).names []).lookup y.1).isSome=Nk):=λ⟨n,v⟩ h=>by
  rcases S.par n (Ps h).1 with q|q
  ·exact .inl q
  ·exact .inr ⟨q,PySem.W.cellsFrom_some _ _ _ (.inl q)⟩
 refine Tj z (k _ _ lk) rfl S.co S.gen rfl (PySem.W.codeRec_of k t) (hb s [.ref e] k rfl _ _ _ _ ?_);refine R7 S.kind l λenv B Z x'=>?_;subst B;refine⟨T.keeps x'.toInCall.keep,codeAny_func ?_⟩;have I0:L2.Inv (eI Fw P w K mg base N qual (bo st) f j {A with handled:=none} g s H E0) [] (start N [.ref e]) H Z:=za S rfl ⟨E.frames,E.mod,E.bs,E.bsz,E.funs,E.frf,E.hok,E.bare⟩ rfl (.cons rfl .nil) x';have I:=vE (A:=A.deeper (envOfC qual (bo st) s.heap.objs.size f j)) I0 rfl;obtain⟨L,M⟩:=aa G;obtain⟨L,k3⟩:=aa L;obtain⟨M,Q⟩:=aa M;obtain⟨Q,Y⟩:=aa Q;have W:=Zx L;have gl:∀y,br (bo st).names y=Nk->(bo st).names.lookup y=some .globalImplicit/\(y==("__debug__":Str))=Nl:=λy h=>⟨(cN h).1,(cN h).2.1⟩
 have O:KX (jP (eI Fw P w K mg base N qual (bo st) f j {A with handled:=none} g s H E0) (A.deeper (envOfC qual (bo st) s.heap.objs.size f j))) N C bf (a++b++c++d):=
  ⟨rfl,S.nd,W,λi y h=>by have:=Zm.mp k3 y (Zo h);obtain⟨q1,q2⟩:=aa this;exact⟨Zx q1,q2⟩,λ_=>rfl,⟨(gl _ M).1,hi⟩,⟨(gl _ Q).1,hv⟩,R.kv,R.z,λy h=>⟨(gl y (Zm.mp Y y h)).1,(gl y (Zm.mp Y y h)).2,R.cl y h⟩⟩
 have X:=vD (x:=e) (dx:=U) O (st:=bU st) rfl hl hw h1 hr hk;rw[D]at X;refine ZJ (X [] Z (start N [.ref e]) H {nx:=λ_ _=>False,rt:=λv p=>v=.str r/\Sub H p} I ⟨⟨by simp[L2.start,W],by simp[L2.start],he⟩,λp h'=>⟨rfl,h'⟩⟩) (λfl s' m=>?_) λe s' m=>m.elim;cases fl with
 |ret u=>obtain⟨v,σ',p,J,rv,q⟩:=m;exact⟨v,p,J.os,J.bare,J.base,J.hok,rv,q⟩
 |next=>obtain⟨_,_,_,q⟩:=m;exact False.elim q
 |brk=>obtain⟨_,_,_,q⟩:=m;exact False.elim q
 |cont=>obtain⟨_,_,_,q⟩:=m;exact False.elim q
section
variable {e T:Nn}{B:Ny}
theorem CF(I:L2.Inv X pq σ H s)(f:L2.Inv X pq σ H' s2)(N:s.heap.get? e=none/\s.heap.get? T=none)(M:H' e=none/\H' T=none)(hB:∀b o,s2.heap.get? b=some o->b∉bG X.stack->b≠e->b≠T->B.get? b=some o)(st:B.StaysIn h3)(up:s2.heap.UpToSlots h3)
  (l:X.ex=[]) (J:X.stack=X.env::X.outer):L2.Inv X pq σ H' {s2 with heap:=h3,toks:=tk}:=by
 have K:∀b o,s2.heap.get? b=some o->b∉bG X.stack->b≠e->b≠T->h3.get? b=some o:=λb o h d h3 g=>st b o (hB b o h d h3 g);have A:∀b,b∈bG X.stack->∃o,s2.heap.get? b=some o/\∀vs,o.data≠.fields vs:=λb j=>(f.stack.mem j).2;have n:∀b∈bG X.stack,H' b=none:=f.stkFree;have U:=f.base;rw[l]at U;have O:∀b o,s.heap.get? b=some o->b≠e/\b≠T:=λb o h=>⟨λz=>(by rw[z,N.1]at h;cases h),λz=>(by rw[z,N.2]at h;cases h)⟩
 have old:∀b o,X.s₀.heap.get? b=some o->b≠e/\b≠T:=λb o h=>by obtain⟨D,d⟩:=I.base.there b o h (by rw[l];simp);exact O b D d
 have nl:∀b o,X.s₀.heap.get? b=some o->b∉bG X.outer->b∉bG X.stack:=λb o h d h3=>by
  rcases Zi.mp (f.stkSub b h3)with z|z
  ·have:=Zj h;rw[z]at this;exact absurd this (Po.mpr f.ok.above)
  ·exact d z
 have L:∀b∈bG X.outer,b∈bG X.stack:=λb j=>by rw[J];obtain⟨en,h,d⟩:=Z5.mp j;exact Z5.mpr ⟨en,Zc _ h,d⟩
 have w:∀b o,s2.heap.get? b=some o->b≠e->b≠T->∃D,h3.get? b=some D:=λb o h d h3=>by
  by_cases j:b∈bG X.stack
  ·obtain⟨o1,g,y⟩:=A b j;obtain⟨sl,E⟩:=up b o1 g y;exact⟨_,E⟩
  ·exact⟨o,K b o h j d h3⟩
 have t:∀b u,H' b=some u->b∉bG X.stack/\b≠e/\b≠T:=λb u h=>
  ⟨λz=>(by rw[n b z]at h;cases h),λz=>(by rw[z,M.1]at h;cases h),λz=>(by rw[z,M.2]at h;cases h)⟩
 have G:dY X.prog X.w H' h3:=λa o Z=>(f.hok a o Z).stay (λb u j h=>by
  have F:∃u,H' b=some u:=by rcases j with rfl|j<;>exact⟨_,by assumption⟩
  obtain⟨u',hu⟩:=F;obtain⟨t1,t2,t3⟩:=t b u' hu;exact K b u h t1 t2 t3) (λ_ q=>q) λ_ _ q=>q
 have C:∀c v,s2.heap.IsCell c v->h3.IsCell c v:=λc v zq=>by obtain⟨o,h,d⟩:=zq;exact(by obtain⟨sl,g⟩:=up c o h (λvs q=>by rw[d]at q;cases q);exact⟨_,g,d⟩)
 obtain⟨m,hm,hl⟩:=f.loc;refine⟨f.ok,f.os,f.bare,?_,⟨m,up.ns hm,λi x v h d h3=>?_⟩,λx c h=>?_,f.free,f.freeC,λp Q=>?_,G,f.len⟩
 ·rw[l];refine⟨λb o h d h3 g=>K b o (U.keep b o h d h3 g) (nl b o h h3) (old b o h).1 (old b o h).2,λb o h d h3 g=>?_,U.free,λb o h d=>?_,U.tups,U.frzs,U.tbls⟩
  ·obtain⟨sl,y⟩:=U.slot b o h d h3 g;obtain⟨o1,E,h7⟩:=A b (L b h3);rw[y]at E;cases E;obtain⟨S,h8⟩:=up b _ y h7;exact⟨S,h8⟩
  ·obtain⟨D,y⟩:=U.there b o h d;exact w b D y (old b o h).1 (old b o h).2
 ·obtain⟨u,r,q⟩:=hl i x v h d h3;refine⟨u,r,?_⟩;rcases q with⟨k,z⟩| ⟨k,c,z1,z2⟩
  ·exact .inl ⟨k,z⟩
  ·exact .inr ⟨k,c,z1,C c _ z2⟩
 ·obtain⟨v,hv⟩:=f.cell x c h;exact⟨v,C c v hv⟩
 ·obtain⟨p1,p2,R,V,p5⟩:=f.pin p Q;have W:=(I.pin p Q).1;refine⟨K p.1 p.2 p1 (λz=>?_) (O _ _ W).1 (O _ _ W).2,p2,R,V,p5⟩;rcases Zi.mp (f.stkSub p.1 z)with z|z
  ·exact R z
  ·exact V z
theorem CG{vs:Av}{ob:HO}(I:L2.Inv X pq σ H s)(t:X.ex=[])(r:X.s₀.heap.get? e=none)(y:∀p∈X.pn++pq,p.1≠e)(n:H e=none)(j:s.heap.get? e=some oe)(i:oe.data=.fields vs)(new:aQ X.prog X.w (aP H e ob) s.heap e ob):
  L2.Inv X pq σ (aP H e ob) s:=by
 obtain⟨m,w,F⟩:=id I.loc;have ne:∀b,H b≠none->b≠e:=λb d z=>d (by rw[z];exact n);refine⟨I.ok,I.os,I.bare,?_,I.loc,I.cell,?_,λx c h=>?_,λp k=>?_,λb u d=>?_,I.len⟩
 ·have U:=I.base;refine⟨U.keep,U.slot,λb o h a g=>?_,U.there,λb l h=>?_,λb o u h=>?_,λb C h=>?_⟩
  ·rw[av (λz=>by rw[z,r]at h;cases h)];exact U.free b o h a g
  ·have:=U.tups b l h;rw[av (ne b (by rw[this];simp))];exact this
  ·have:=U.frzs b o u h;rw[av (ne b (by rw[this];simp))];exact this
  ·obtain⟨m,this⟩:=U.tbls b C h;exact⟨m,by rw[av (ne b (by rw[this];simp))];exact this⟩
 ·obtain⟨o,D,E,h,a,_⟩:=w;rw[av (λz=>by rw[z,j]at h;cases h;rw[i]at a;cases a)];exact I.free
 ·obtain⟨v,o,a,g⟩:=I.cell x c h;rw[av (λz=>by rw[z,j]at a;cases a;rw[i]at g;cases g)];exact I.freeC x c h
 ·obtain⟨P,A,B⟩:=I.pin p k;exact⟨P,by rw[av (y p k)];exact A,B⟩
 ·by_cases f:b=e
  ·subst f;rw[a8]at d;cases d;exact new
  ·rw[av f]at d;exact(I.hok b u d).stay (λ_ _ _ q=>q) (λc q=>by rw[av (ne c (by rw[q];simp))];exact q) λc l q=>by rw[av (ne c (by rw[q];simp))];exact q
theorem JD{vs:Av}(I:L2.Inv X pq σ H s)(h:X.ex=[])(d:X.s₀.heap.get? e=none)(g:∀p∈X.pn++pq,p.1≠e)(c:H e=none)(b:s.heap.get? e=some oe)(f:oe.cls=.ref C)(a:oe.data=.fields vs):
  L2.Inv X pq σ (aP H e (cE e C oe.dict)) s:=CG I h d g c b a (oY ⟨oe,b,f,rfl,by unfold PySem.W.notCls;rw[a]⟩)
noncomputable def gG(H:Hp)(e:Nn):Hp:=λb=>if b=e then none else H b
theorem JE{g:Ny->Prop}(I:L2.Inv X pq σ H s)(l:H e=some (.ext g)):L2.Inv X pq σ (gG H e) s:=by
 have le:∀b,H b=none->gG H e b=none:=λb h=>by unfold gG;split<;>first|rfl|exact h
 have ne:∀b u,H b=some u->(∀g,u≠.ext g)->gG H e b=some u:=λb u h r=>by unfold gG;rw[if_neg (λz=>by rw[z,l]at h;cases h;exact r _ rfl)];exact h
 have U:=I.base;refine⟨I.ok,I.os,I.bare,⟨U.keep,U.slot,λb o a j k=>le b (U.free b o a j k),U.there,λb i a=>ne b _ (U.tups b i a) (λ_ z=>by cases z),λb o u a=>ne b _ (U.frzs b o u a) (λ_ z=>by cases z),λb w a=>?_⟩,I.loc,I.cell,le _ I.free,λx c a=>le _ (I.freeC x c a),λp n=>?_,λb u d=>?_,I.len⟩
 ·obtain⟨m,this⟩:=U.tbls b w a;exact⟨m,ne b _ this (λ_ z=>by cases z)⟩
 ·obtain⟨P,t,v⟩:=I.pin p n;exact⟨P,le _ t,v⟩
 ·have f:H b=some u:=by
   unfold gG at d;split at d
   ·cases d
   ·exact d
  exact(I.hok b u f).stay (λ_ _ _ q=>q) (λc q=>ne c _ q (λ_ z=>by cases z)) λc i q=>ne c _ q (λ_ z=>by cases z)
theorem JF{m:Mg}(I:L2.Inv X pq σ H s)(r:h3.Ns X.env.locals m)(hs:NY X.env.locals s.heap h3):L2.Inv X pq (Nw X.N.length none) H {s with heap:=h3,toks:=tk}:=by
 have low:∀b o,X.s₀.heap.get? b=some o->b≠X.env.locals:=λb o e=>Zt (ZA (Zj e) I.ok.above);refine⟨I.ok,I.os,I.bare,⟨λb o e n f h=>(hs.2 b (low b o e)).trans (I.base.keep b o e n f h),λb o e n f h=>?_,I.base.free,λb o e h=>?_,I.base.tups,I.base.frzs,I.base.tbls⟩,⟨m,r,λj y V E i B=>?_⟩,λy c e=>?_,I.free,I.freeC,λp u=>?_,λb w d=>?_,by simp⟩
 ·obtain⟨sl,E⟩:=I.base.slot b o e n f h;exact⟨sl,(hs.2 b (low b o e)).trans E⟩
 ·obtain⟨O,E⟩:=I.base.there b o e h;exact⟨O,(hs.2 b (low b o e)).trans E⟩
 ·rw[P8]at i;simp_all
 ·obtain⟨v,o,k,l⟩:=I.cell y c e;exact⟨v,o,(hs.2 c (I.cne y c e)).trans k,l⟩
 ·obtain⟨x,z,P,A⟩:=I.pin p u;exact⟨(hs.2 _ P).trans x,z,P,A⟩
 ·refine(I.hok b w d).stay (λc W a q=>(hs.2 c ?_).trans q) (λ_ q=>q) λ_ _ q=>q;rintro rfl;rcases a with rfl|a
  ·rw[I.free]at d;cases d
  ·rw[I.free]at a;cases a
end
section
variable {n:Str}{i:Nat}
theorem CH{x:Nn}{r:Str}{np pos:Pos}(K:jk X.prog X.w X.K X.mg X.base fa C r)(d:A.depth<recursionLimit)(l:Gl X y)(p:X.mg y=some (.ref fa))(m:PySem.W.keepIn X.K (.ref fa)=Nk)(c:(y==("__debug__":Str))=Nl)
  (q:X.N[i]?=some n) (o:X.env.scope.names.lookup n=some .local) (g:dz n=Nk):PE (jP X A) (.Call (.Name y np) [.Name n vp] [] pos) (λσ H Q=>(σ[i]?=some (some (.ref x))/\H x=some (cE x C dx))/\∀H',Sub H H'->Q (.str r) H'):=by
 intro P s σ H Q I h;refine Og (iM I l p ?_ c);refine PySem.W.callWith_K (h₀:=X.base) I.ok.mod.kin m (aO ((cS (jU (X:=jP X A) q (.inl o) (fQ g).1 (fQ g).2) e9) pos P s σ H (λG H1=>G=[.ref x]/\H1=H) I ⟨_,h.1.1,rfl,rfl⟩) λL S ⟨vs,H1,b,B,t,w⟩=>⟨b.kIn,?_⟩) rfl rfl;subst t w;cases B with
 |cons z R=>
  cases R;cases z;refine Pu (OV (K A X.stack S H1 x dx d b.env0 h.1.2) λD J a=>?_);cases D with
  |error e=>exact False.elim a
  |ok F=>
   cases F with
   |ret u=>obtain⟨v,f,k,R,E,U⟩:=b.after a;subst E;exact⟨_,f,k,R,h.2 f U⟩
   |next=>exact False.elim a
   |brk=>exact False.elim a
   |cont=>exact False.elim a
def RV(nb:Option (Str×Nat×Pos×Pos))(r:Str)(v:V)(H a:Hp):Prop:=match nb with
 |none=>v=.str r/\Sub H a
 |some (x,_)=>∃p H1,Sub H H1/\H1 p=none/\v=.ref p/\a=aP H1 p (.lst [.str x,.str r])
theorem RV.up{r:Str}{b:Hp}(h:RV nb r v H' b)(s:Sub H H'):RV nb r v H b:=by
 have t:∀{H1},Sub H' H1->Sub H H1:=λu a o e=>u a o (s a o e);cases nb with
 |none=>exact⟨h.1,t h.2⟩
 |some q=>obtain⟨p,H1,c,d⟩:=h;exact⟨p,H1,t c,d⟩
theorem JG{x:Nn}{r:Str}{np pos:Pos}(K:jk X.prog X.w X.K X.mg X.base fa C r)(b:A.depth<recursionLimit)(d:Gl X y)(g:X.mg y=some (.ref fa))(e:PySem.W.keepIn X.K (.ref fa)=Nk)(a:(y==("__debug__":Str))=Nl)
  (j:X.N[i]?=some n) (f:X.env.scope.names.lookup n=some .local) (c:dz n=Nk) (nb:Option (Str×Nat×Pos×Pos)):PE (jP X A) (FG nb (.Call (.Name y np) [.Name n vp] [] pos)) (λσ H Q=>(σ[i]?=some (some (.ref x))/\H x=some (cE x C dx))/\∀v H',RV nb r v H H'->Q v H'):=by
 have h:=CH (x:=x) (r:=r) (dx:=dx) (np:=np) (vp:=vp) (pos:=pos) (A:=A) K b d g e a j f c;cases nb with
 |none=>exact aM h λσ H Q q=>⟨q.1,λH' u=>q.2 _ _ ⟨rfl,u⟩⟩
 |some q=>exact aM (f9 (cS iL (cS h e9))) λσ H Q q=>⟨q.1,λH' u=>⟨(by show 2<=sizeLine;decide),λp c=>q.2 _ _ ⟨p,H',u,c,rfl,rfl⟩⟩⟩
noncomputable def EH(X:Cx)(b:List Oq)(i:Nat)(p:Nn)(D:Ends):XK:=λcls dx H'=>∃C,cls=.ref C/\PySem.W.exmOne X.K (.ref C) (.ref p)=some Nk/\∀e,H' e=none->∃t,ec (jP X (X.A.mark (some (.ref e)))) b t/\∀σ:L2.St,σ[i]?=some (some (.ref e))->t {nx:=λ_ _=>False,rt:=D.rt} σ (aP H' e (cE e C dx))
structure ic (X:Cx)(pe n y:Str)(i:Nat)(fa pa:Nn):Prop where
 ex:X.ex=[]
 st:X.stack=X.env::X.outer
 fr:X.env.frame=some X.env.locals
 dp:X.A.depth<recursionLimit
 gp:Gl X pe/\X.mg pe=some (.ref pa)/\(pe==("__debug__":Str))=Nl
 gy:Gl X y/\X.mg y=some (.ref fa)/\(y==("__debug__":Str))=Nl
 kp:PySem.W.keepIn X.K (.ref fa)=Nk
 nd:X.N.Nodup
 at_:X.N[i]?=some n
 nl:X.env.scope.names.lookup n=some .local
 np:dz n=Nk
 fn:X.fn n=Nk
noncomputable def CI(X:Cx)(p:Lp)(D:Ends)(h:Ql):Vs:=λe s=>wpAny (model X.prog X.w) X.A (noteFrame e X.env) (λ_ S=>wpAny (model X.prog X.w) X.A (setFlight e none) (λ_ a=>wpAny (model X.prog X.w) X.A (handleBy e X.env [h]) (SP X p D) X.xe a) X.xe S) X.xe s
theorem handled{e T:Nn}{B:Ny}{D:Ends}{bs:List Oq}(Z:ic X pe n y i fa pa)(I:L2.Inv X pq σ H s)(J:L2.Inv X pq σ H' s2)(m:s.heap.get? e=none/\s.heap.get? T=none)(j:H' e=none/\H' T=none)
  (P:∀b o,s2.heap.get? b=some o->b∉bG X.stack->b≠e->b≠T->B.get? b=some o)  (k:O7 B X.stack e cls a0 h3) (up:s2.heap.UpToSlots h3) (w:∀o,h3.get? e=some o->o.dict=dx) (q:EH X (b0::bs) i pa D cls dx H'):
  wpAny (model X.prog X.w) X.A (handleBy (.ref e) X.env [.ExceptHandler (some (.Name pe tp)) (some n) (b0::bs) hp]) (SP X pq D) X.xe {s2 with heap:=h3}:=by
 obtain⟨C,rfl,hm,hE⟩:=q;obtain⟨t,hs,G⟩:=hE e j.1
 have h0:X.s₀.heap.get? e=none:=by
  cases G:X.s₀.heap.get? e with
  |none=>rfl
  |some o=>obtain⟨o',c⟩:=I.base.there e o G (by rw[Z.ex];simp);rw[m.1]at c;cases c
 have r:L2.Inv X pq σ H' {s2 with heap:=h3,toks:=s2.toks}:=CF I J m j P k.1 up Z.ex Z.st;have d:(X.A.mark (some (.ref e))).frames=X.A.frames:=rfl;refine wpAny_handleBy_cons (codeAny_handlers_test ?_) (by intro q;cases q);refine iM (X:=jP X (X.A.mark (some (.ref e)))) (vE r d) Z.gp.1 Z.gp.2.1 ?_ Z.gp.2.2
 have LT:PySem.W.Looks (model X.prog X.w) h3 (typeOf (.ref e)) (.ref C):=by obtain⟨ob,h1,h2⟩:=k.there;exact h2▸(PySem.W.Looks.ld h1).andThen .now
 refine(PySem.W.exm_one (M:=model X.prog X.w) r.kIn LT hm).here ?_;refine codeAny_handlers_suite_as ?_;refine ZJ (oW.any (lands_againW (s:={s2 with heap:=h3}) (E:=λe S=>False) (Q:=λ_ S=>∃a,S={s2 with heap:=a}/\O7 B X.stack e (.ref C) a0 a/\h3.UpToSlots a) k λa F U=>⟨a,rfl,F,U⟩)) (λ_ S z=>?_) λ_ _ z=>z.1.elim;obtain⟨⟨a,rfl,F,U⟩,Y⟩:=z;have V:L2.Inv X pq σ H' {s2 with heap:=a,toks:=s2.toks}:=CF I J m j P F.1 (up.trans U) Z.ex Z.st;obtain⟨oe,vs,N,g2,g3,_⟩:=F.first;obtain⟨o3,O,_⟩:=k.there;have g5:oe.dict=dx:=(Y.get O N).trans (w o3 O)
 have pn:∀p∈X.pn++pq,p.1≠e:=λp hp z=>by have:=(I.pin p hp).1;rw[z,m.1]at this;cases this
 have K:=vE (A:=X.A.mark (some (.ref e))) (JD V Z.ex h0 pn j.1 N g2 g3) d;rw[g5]at K;refine l6 (X:=jP X (X.A.mark (some (.ref e)))) K Z.nd Z.at_ (.inl Z.nl) (v:=.ref e) rfl (λs6 W=>?_) (.inl Z.fn);refine ZJ (hs pq s6 _ _ {nx:=λ_ _=>False,rt:=D.rt} W (G _ (by rw[Yf (by rw[r.len];exact(Zg.mp Z.at_).1)]))) (λf s7 l=>?_) λ_ _ z=>z.elim;cases f with
 |ret u=>obtain⟨v,σ7,R,L,r7,u7⟩:=l;obtain⟨m7,x,_⟩:=L.loc;refine wpAny_nameGoes (env:=X.env) Z.nl x (by rw[I.ok.kind];rfl) λh8 m8 n8 s8=>?_;exact⟨_,_,R,JF (CD L I.ok) n8 s8,r7,u7⟩
 |next=>obtain⟨_,_,_,z⟩:=l;exact z.elim
 |brk=>obtain⟨_,_,_,z⟩:=l;exact z.elim
 |cont=>obtain⟨_,_,_,z⟩:=l;exact z.elim
theorem o5{r:Str}{D:Ends}{np:Pos}(Z:ic X pe n y i fa pa)(K:jk X.prog X.w X.K X.mg X.base fa C r)(f:PySem.W.exmOne X.K (.ref C) (.ref pa)=some Nk)(hD:∀v H'',RV nb r v H' H''->D.rt v H''):
  EH X [.Return (some (FG nb (.Call (.Name y np) [.Name n vp] [] cp))) rp] i pa D (.ref C) dx H':=by
 refine⟨C,rfl,f,λe c=>⟨_,c9 (jZ (JG (A:=X.A.mark (some (.ref e))) (x:=e) (dx:=dx) K Z.dp Z.gy.1 Z.gy.2.1 Z.kp Z.gy.2.2 Z.at_ Z.nl Z.np nb)) fG,λg H=>?_⟩⟩;refine⟨⟨H,a8⟩,λv a d=>hD v a (d.up λb o h=>?_)⟩;rw[av (λz=>by rw[z,c]at h;cases h)];exact h
end
abbrev XB(X:Cx)(pq:Lp)(D:Ends)(h:Ql):Cx:={X with xe:=CI X pq D h,pn:=X.pn++pq}
section
variable {D:Ends}{h:Ql}
theorem M9(ok:X.Ok):(XB X pq D h).Ok:=⟨ok.mod,ok.kind,ok.glob,ok.blt,ok.above,ok.inj,ok.has,ok.cab,ok.hd,ok.frames,ok.stk,ok.exf,ok.bs,ok.bsz,ok.noex,ok.exfs,ok.funs,ok.frf⟩
theorem CJ(ok:(XB X pq D h).Ok):X.Ok:=⟨ok.mod,ok.kind,ok.glob,ok.blt,ok.above,ok.inj,ok.has,ok.cab,ok.hd,ok.frames,ok.stk,ok.exf,ok.bs,ok.bsz,ok.noex,ok.exfs,ok.funs,ok.frf⟩
theorem JH(I:L2.Inv X pq σ H s):L2.Inv (XB X pq D h) [] σ H s:=⟨M9 I.ok,I.os,I.bare,I.base,I.loc,I.cell,I.free,I.freeC,λp a=>I.pin p (by simpa using a),I.hok,I.len⟩
theorem ie(I:L2.Inv (XB X pq D h) pins' σ H s):L2.Inv X pq σ H s:=⟨CJ I.ok,I.os,I.bare,I.base,I.loc,I.cell,I.free,I.freeC,λp a=>I.pin p (Yd _ a),I.hok,I.len⟩
theorem o6{f:Flow}(q:SP (XB X pq D h) pins' D f s):SP X pq D f s:=by
 cases f with
 |next=>obtain⟨a,H,I,q⟩:=q;exact⟨a,H,ie I,q⟩
 |brk=>obtain⟨a,H,I,q⟩:=q;exact⟨a,H,ie I,q⟩
 |cont=>obtain⟨a,H,I,q⟩:=q;exact⟨a,H,ie I,q⟩
 |ret u=>obtain⟨v,a,H,I,r,q⟩:=q;exact⟨v,a,H,ie I,r,q⟩
theorem rV:Qo (model X.prog X.w) X.A X.env (XB X pq D h).xe:=PassesOwn.looking
variable {n:Str}{i:Nat}{bs:List Oq}
abbrev o7(pe n:Str)(b0:Oq)(bs:List Oq)(tp hp:Pos):Ql:=.ExceptHandler (some (.Name pe tp)) (some n) (b0::bs) hp
theorem rW(Z:ic X pe n y i fa pa):j7 (bn X.prog X.w) (XB X pq D (o7 pe n b0 bs tp hp)) (EH X (b0::bs) i pa D):=by intro p M H s v a t c;have I:=ie t;obtain⟨e,cls,K,J,rfl,l,q,f⟩:=Cv I c Z.ex;obtain⟨k,T,A,N,C,m⟩:=Ct f l.stack;show CI X pq D _ (.ref e) a;unfold CI;refine ZJ (vt.any (wpAny_looks_onW (E:=λe S=>False) (Q:=λ_ S=>∃b,S={a with heap:=b}/\Heap.HeldW (PySem.W.hideAll a.heap (e::T::bG X.stack)) (X.env::X.outer) e cls A X.env.locals b/\a.heap.UpToSlots b) (by rw[I.ok.frames,Z.st]) Z.fr (Z.st▸m) λb h up=>⟨b,rfl,h,up⟩)) (λ_ S z=>?_) λ_ _ z=>z.1.elim;obtain⟨⟨b,rfl,h,up⟩,w⟩:=z;refine ZJ (oW.any (wpAny_landsW (s:={a with heap:=b}) (E:=λe S=>False) (Q:=λ_ S=>∃g,S={a with heap:=g}/\O7 (PySem.W.hideAll a.heap (e::T::bG X.stack)) (X.env::X.outer) e cls A g/\b.UpToSlots g) h λg F u=>⟨g,rfl,F,u⟩)) (λ_ S z=>?_) λ_ _ z=>z.1.elim;obtain⟨⟨g,rfl,F,u⟩,j⟩:=z;obtain⟨O,G,_⟩:=m.there;obtain⟨L,r,_⟩:=h.there;exact handled (s2:=a) (B:=PySem.W.hideAll a.heap (e::T::bG X.stack)) (a0:=A) Z I l N C Cu (Z.st▸F) (up.trans u) (λo x=>((j.get r x).trans (w.get G r)).trans (k O G)) q
theorem rX(Z:ic X pe n y i fa pa):gD (XB X pq D (o7 pe n b0 bs tp hp)) (EH X (b0::bs) i pa D):=by
 intro P σ Y H s0 s e C dx vs A l N v j k J t q;have w:=ie l;have I:=ie v;show CI X pq D _ (.ref e) _;unfold CI;have r:∀d∈X.env::X.outer,∀a,d.frame=some a->a∈e::bG (X.env::X.outer):=λd j a M=>Zc _ (Z5.mpr ⟨d,j,M⟩);have p:s.heap.FunFrames (PySem.W.hideAll s.heap (e::bG (X.env::X.outer))) (X.env::X.outer):=PySem.W.funFrames_hide (Z.st▸I.stack) r;have F:(PySem.W.hideAll s.heap (e::bG (X.env::X.outer))).get? e=none:=PySem.W.hideAll_none _ (by simp);refine ZJ (vt.any (show wpAny (model X.prog X.w) X.A (noteFrame (.ref e) X.env) (λ_ S=>∃h,S={s with heap:=h}/\Heap.NotedW (PySem.W.hideAll s.heap (e::bG (X.env::X.outer))) (X.env::X.outer) e (.ref C) A (rawInt X.env.locals) s.heap h) (λ_ _=>False) s from ?_)) (λ_ S z=>?_) λ_ _ z=>z.1.elim
 ·unfold noteFrame;simp only[Z.fr];refine Za (Z3 j rfl k ?_);rw[if_neg (by decide)];exact wpAny_entryW (by rw[I.ok.frames,Z.st]) p Z.fr j (λb o O=>PySem.W.of_hideAll _ O) F rfl (NP.mp k).1 J λh nt=>⟨h,rfl,nt⟩
 obtain⟨⟨h,rfl,U,V,K,W⟩,x⟩:=z;refine ZJ (oW.any (wpAny_landsW (s:={s with heap:=h}) (E:=λe S=>False) (Q:=λ_ S=>∃g,S={s with heap:=g}/\O7 (PySem.W.hideAll s.heap (e::bG (X.env::X.outer))) (X.env::X.outer) e (.ref C) A g/\h.UpToSlots g) ⟨U,F,V,K⟩ λg f u=>⟨g,rfl,f,u⟩)) (λ_ S z=>?_) λ_ _ z=>z.1.elim;obtain⟨⟨g,rfl,f,u⟩,m⟩:=z;obtain⟨o3,G,_⟩:=K.there;refine handled (s2:=s) (T:=e) (B:=PySem.W.hideAll s.heap (e::bG (X.env::X.outer))) (a0:=A) Z w I ⟨N,N⟩ ⟨t,t⟩ (λb o k L h _=>PySem.W.hideAll_get _ k λz=>?_) (Z.st▸f) (Heap.UpToSlots.trans W u) (λo R=>(m.get G R).trans (x.get j G)) q;rcases Zi.mp z with z|z
 ·exact h z
 ·exact L (by rw[Z.st];exact z)
theorem li{body:List Oq}{pos:Pos}{t:TS}(I:L2.Inv X pq σ H s)(d:ec (XB X pq D (o7 pe n b0 bs tp hp)) body t)(h:t D σ H):
  wpAny (model X.prog X.w) X.A (exec (.Try body [o7 pe n b0 bs tp hp] [] [] pos) X.env) (SP X pq D) X.xe s:=by
 refine wpAny_Try_except (ZJ (d [] s σ H D (JH I) h) (λf S q=>?_) λe S q=>q);have q:=o6 q;cases f with
 |next=>obtain⟨a,b,c,q⟩:=q;exact QC ⟨a,b,c,q⟩
 |brk=>exact q
 |cont=>exact q
 |ret u=>exact q
end
open PySem PySem.Spec PySem.Calls PyProof.Rows PySem.W
section
variable {x:Nn}
theorem JI{c:Pz}{od:Obj}{v:Np}(h1:clsIn K C=some c)(h:c.hasDict=Nk)(H:findIn K (.ref C) nm=some none)(a:lookIn nm od=some (some v)):findObj K C (some od) nm=some (.value v):=by unfold findObj W.ownOf;rw[h1,QW,H,QW];simp only[QW];rw[h,if_pos rfl];show Option.bind (lookIn nm od) _=_;rw[a];rfl
theorem o8{od:Obj}{c:Pz}{v:Np}{e:Bool}(Z:dC K C)(X:K.In s.heap)(I:InstAt s.heap x ox C (some od))(h1:clsIn K C=some c)(i:c.hasDict=Nk)
  (j:findIn K (.ref C) nm=some none) (k:lookIn nm od=some (some v)) (l:handedIn v=Nk) (h:Q v {s with toks:=s.toks+1}):wpAny (model prog w) A (getAttr (.ref x) nm e) Q E s:=by
 obtain⟨n,g,d,t,o⟩:=s;have L:=I.type (M:=model prog w);have a:=looks_findIn (M:=model prog w) X Z.ga;have L2:=looks_findIn (M:=model prog w) X Z.gn;have b:=looks_find (M:=model prog w) X I (JI h1 i j k);have f:=looks_mroIn (M:=model prog w) X Z.be;unfold getAttr getAttrBy;refine Za (Te (ZE (Za (L.at (Za (a.at ?_))))));show wpAny _ _ (getAttrByItsOwn _ _ _ _ _ _) _ _ _;unfold getAttrByItsOwn hookBefore;refine Za ?_;show wpAny _ _ (typeLookup (.ref C) "__getattr__") _ _ _;refine L2.at ?_;refine Za (O3 (ZE ?_))
 have m:∀y:Np,callGetattribute (.ref x) y (.builtin "BaseException.__getattribute__") e=boundAndCalled (.builtin "BaseException.__getattribute__") (.ref x) y:=λy=>by unfold callGetattribute;cases e<;>rfl
 rw[m];unfold boundAndCalled;have H:bindSpecial (.builtin "BaseException.__getattribute__") (.ref x)=pure (.builtin "BaseException.__getattribute__",[.ref x]):=PySem.F.attr_ValueError.ga.bind _;rw[H];refine Za (Zd ?_);refine Pu (OT PySem.F.attr_ValueError.ga.plain PySem.F.entry_bexc_ga (Cw (s:=⟨n,g,d,t+1,o⟩) L f ?_));unfold N8.«object.__getattribute__»;refine Za (Zd ?_);refine Za (Zd ?_);refine Za (L.at (Za (b.at ?_)));refine Zd ?_;show wpAny _ _ (handedOut v) _ _ _;rw[handedOut_of l];exact Zd h
end
end Py
namespace Py
structure FH (K:Fg)(C:Nn)(cd:Pz):Prop where
 z:dC K C
 cls:PySem.W.clsIn K C=some cd
 hd:cd.hasDict=Nk
 mn:PySem.W.findIn K (.ref C) "many"=some none
 mt:PySem.W.findIn K (.ref C) "most"=some none
noncomputable def rY(a b:Int):List (Str×V):=[("many",.int a),("most",.int b)]
section
variable {n:Str}{i:Nat}{cd:Pz}
theorem o9{es:Array DictEntry}{v:Np}(H:o.data=.dict es ep)(h:nsFind es nm=some v):PySem.W.lookIn nm o=some (some v):=by
 unfold PySem.W.lookIn;rw[H];unfold nsFind findBy at h;dsimp only;rw[<-SF]at h;cases e:es.toList.find? (λe=>e.key.isStr nm)with
 |none=>rw[e]at h;cases h
 |some x=>rw[e]at h;cases h;rfl
theorem lj{e d:Nn}{fs:List (Str×V)}{z:Int}{pos:Pos}(Z:dC X.K C)(h1:PySem.W.clsIn X.K C=some cd)(j:cd.hasDict=Nk)(l:PySem.W.findIn X.K (.ref C) nm=some none)(q:fs.lookup nm=some (.int z))
  (p:X.N[i]?=some n) (m:X.env.scope.names.lookup n=some .local) (b:dz n=Nk):PE (jP X A) (.Attribute (.Name n vp) nm pos) (λσ H Q=>(σ[i]?=some (some (.ref e))/\H e=some (cE e C (some d))/\H d=some (.xd fs))/\Q (.int z) H):=by
 intro P s σ H Q I h;refine mx rfl (aO (jU (X:=jP X A) p (.inl m) (fQ b).1 (fQ b).2 P s σ H (λv H1=>v=.ref e/\H1=H) I ⟨_,h.1.1,rfl,rfl⟩) λu S ⟨v,H1,a,r,B,D⟩=>?_);subst B D;obtain rfl:u=NB e:=r;obtain⟨⟨O,g,G,c,f⟩,_,_⟩:=(show aQ X.prog X.w H1 S.heap e (cE e C (some d))from a.hok e _ h.1.2.1);obtain⟨N,⟨o,J,F,K,w,L,M,x⟩,y⟩:=(show aQ X.prog X.w H1 S.heap d (.xd fs)from a.hok d _ h.1.2.2);have k:=y nm;rw[q]at k;obtain⟨u,E,R⟩:=k.some_of;obtain⟨T,rfl⟩:=(show ∃t,u=Pd z t from R);refine o8 (od:=o) (v:=.int z T) Z a.kIn ⟨g,G,f,by rw[c];exact K⟩ h1 j l (o9 w ((x nm).trans E)) rfl ?_;exact⟨.int z,H1,a.tok _,⟨T,rfl⟩,h.2⟩
noncomputable def vF(pre:Option (Str×Nat×Pos))(vs:List V):List V:=match pre with
 |none=>vs
 |some q=>.str q.1::vs
theorem vG{es:Lx}{t:TA}(pre:Option (Str×Nat×Pos))(h:PA X es t):PA X (Cj pre es) (λσ H Q=>t σ H λvs H1=>Q (vF pre vs) H1):=by
 cases pre with
 |none=>exact h
 |some q=>exact eO (cS (iL (x:=q.1)) h) λσ H Q z=>z
theorem JJ{pre:Option (Str×Nat×Pos)}{g:Str}{r:Str}{D:Ends}{k:Nat}{np J V O L I N v j R:Pos}(Z:ic X pe n y i fa pa)(K:jk X.prog X.w X.K X.mg X.base fa C r)(B:PySem.W.exmOne X.K (.ref C) (.ref pa)=some Nk)
  (t:r≠g->∀H'',Sub H' H''->D.rt (.str r) H'')
  (s:r=g->∃d a b cd,dx=some d/\H' d=some (.xd (rY a b))/\FH X.K C cd/\∀p H1,Sub H' H1->H1 p=none->D.rt (.ref p) (aP H1 p (.lst (vF pre [.int a,.int b])))):
  EH X [MD pre g n y k np vp cp J tp V p1 O p2 L rp I,.Return (some (.Call (.Name y N) [.Name n v] [] j)) R] i pa D (.ref C) dx H':=by
 refine⟨C,rfl,B,λe q=>?_⟩;have up:∀H,Sub (aP H' e (cE e C dx)) H->Sub H' H:=λH u b o c=>u b o (by rw[av (λz=>by rw[z,q]at c;cases c)];exact c);have P:∀{np vp cp:Pos},PE (jP X (X.A.mark (some (.ref e)))) (.Call (.Name y np) [.Name n vp] [] cp) _:=λ{np vp cp}=>CH (A:=X.A.mark (some (.ref e))) (x:=e) (dx:=dx) (np:=np) (vp:=vp) (pos:=cp) K Z.dp Z.gy.1 Z.gy.2.1 Z.kp Z.gy.2.2 Z.at_ Z.nl Z.np;by_cases f:r=g
 ·obtain⟨d,a,b,cd,rfl,w,G,F⟩:=s f;refine⟨_,c9 (ir (mw rf P (iL (x:=g)) rfl) (c9 (jZ (f9 (vG pre (cS (lj (A:=X.A.mark (some (.ref e))) (e:=e) (d:=d) (fs:=rY a b) (z:=a) G.z G.cls G.hd G.mn rfl Z.at_ Z.nl Z.np) (cS (lj (A:=X.A.mark (some (.ref e))) (e:=e) (d:=d) (fs:=rY a b) (z:=b) G.z G.cls G.hd G.mt rfl Z.at_ Z.nl Z.np) e9))))) fG) fG) sJ,λm h=>?_⟩;refine⟨⟨h,a8⟩,λH U=>⟨rfl,Nk,?_,?_⟩⟩
  ·rw[f];simp
  ·dsimp only;rw[if_pos rfl];have u:=up H U;have at_:m[i]?=some (some (.ref e))/\H e=some (cE e C (some d))/\H d=some (.xd (rY a b)):=⟨h,U e _ a8,u d _ w⟩;refine Q9 at_ (Q9 at_ (Q9 ?_ λp E=>F p H u E));cases pre<;>(show _<=sizeLine;simp[vF,N5])
 ·refine⟨_,c9 (ir (mw rf P (iL (x:=g)) rfl) sJ fG) (c9 (jZ P) fG),λm h=>?_⟩;refine⟨⟨h,a8⟩,λH U=>⟨rfl,Nl,?_,?_⟩⟩
  ·simp[f]
  ·dsimp only;rw[if_neg (by decide)];exact⟨⟨h,U e _ a8⟩,λl M=>t f l (up l λb o c=>M b o (U b o c))⟩
end
open PySem PySem.Spec PySem.Calls PyProof.Rows PySem.W
structure vH (K:Fg)(C P:Nn)(cd:Pz):Prop where
 cls:clsIn K C=some cd
 hd:cd.hasDict=Nk
 mro:cd.mro=.ref C:: .ref P::eh
 sa:findIn K (.ref C) "__setattr__"=some (some (.builtin "object.__setattr__"))
section
variable {x P:Nn}{cd:Pz}{v:Np}
theorem JK{Q:Unit->Nm->Prop}(L:Looks M s.heap (typeOf (.ref x)) (.ref C))(b:Looks M s.heap (isSubtype (.ref C) (.type "object")) Nk)(H:Q () s):
  wpAny M A (checkBuiltinCall "object.__setattr__" ⟨[.ref x,nameV,v],[]⟩) Q E s:=by
 have a:=PySem.F.store_ValueError.args (.ref x) nameV v;obtain⟨e,g,d,t,o⟩:=s;simp only[checkBuiltinCall,PySem.F.store_ValueError.kind,PySem.F.store_ValueError.split];refine Za ?_;unfold isInstance;refine Za (L.at (b.at ?_));simp only[RI,Zu,Z6];cases h:RN "object.__setattr__" with
 |none=>exact Zd H
 |some S=>simp only[argsOk,h]at a;have c:Qy "object.__setattr__" S ⟨[.ref x,nameV,v],[]⟩=pure ():=a;show wpAny M A (Qy "object.__setattr__" S ⟨[.ref x,nameV,v],[]⟩) Q E _;rw[c];exact Zd H
theorem CK{Q:Unit->Nm->Prop}(Z:dC K C)(T:vH K C P cd)(X:K.In s.heap)(L:∀M,Looks M s.heap (typeOf (.ref x)) (.ref C))(j:findIn K (.ref C) nm=some none)
  (h:∀(a:NX) (E':Vs) (tk:Tok),wpAny (model prog w) a (Ox (.ref x)) (λr s'=>∃d,r=some d/\wpAny (model prog w) a (OO d (.str nm tk) nm v) (λfin S=>fin=.done (.ret .none)/\Q () S) E' s') E' {s with toks:=s.toks+1}):
  wpAny (model prog w) A (setAttr (.ref x) nm v) Q E s:=by
 obtain⟨H,g,d,t,o⟩:=s;have L:=L (model prog w);have c:=looks_findIn (M:=model prog w) X T.sa;have L2:=looks_findIn (M:=model prog w) X j;have f:Looks (model prog w) H (mroOf (.ref C)) cd.mro:=(looks_clsIn X T.cls).andThen .now;have i:=looks_mroIn (M:=model prog w) X Z.ob;unfold setAttr callSpecial? specialOf;refine Za (Te (Za (Za (Za (L.at (c.at ?_))))));refine ZE (Za ?_);rw[PySem.F.store_ValueError.slot.bind (.ref x)];refine Zd (Za (Pu (OT PySem.F.store_ValueError.slot.plain PySem.F.store_ValueError.entry (JK (s:=⟨H,g,d,t+1,o⟩) L i ?_))));unfold N8.«object.__setattr__»;refine Za ?_;rw[refuse_eq];refine Za (L.at (Za (f.at ?_)));rw[T.mro,refuseLoop_ref,refuseLoop_ref,show refuseLoop (.ref x) "__setattr__" eh=pure ()from PySem.F.store_ValueError.passes (.ref x)];refine Zd ?_;refine Za (Zd ?_);refine Za (L.at ?_);refine Za (L2.at ?_);refine Za (Zd ?_);show wpAny _ _ (P1 (.ref x) (.ref C) (.str nm t) nm v Nl) _ _ _;unfold P1;refine Za (Zd ?_);rw[if_neg (by intro z;cases z)];refine Za (ZJ (h A.in1 _ t) (λr s' ⟨D,e,k⟩=>?_) λ_ _ z=>z);subst e;refine ZJ k (λfin S ⟨e,q⟩=>?_) λ_ _ z=>z;subst e;exact Zd (Zd q)
end
end Py
namespace Py
open PySem PySem.Spec PySem.Calls PyProof.Rows PySem.W
section
variable {x P D:Nn}{cd:Pz}{v:Np}{vs:Av}
theorem ll{Q:Fin->Nm->Prop}{tk:Tok}{ns:Ls}(e:s.heap.Ns1 D mA)(hw:Within mA ns)(j:ns.length<8)
  (h:∀h' t,h'.Ns1 D (λy=>if y=nm then some v else mA y)->NY D s.heap h'->Q (.done (.ret .none)) {s with heap:=h',toks:=t}):wpAny (model prog w) A (OO D (.str nm tk) nm v) Q E s:=by
 unfold OO Tt;refine Za (Zd (Za (wpAny_nsSet1 e λh' H f=>?_)));obtain⟨o,i,g,b,a,d⟩:=H.count (Within.cons nm v hw);refine Za (wpAny_lookBehind b (by rw[a];exact pastItsLine_dict (ZD d (by rw[ZM,N5];omega))) ?_);exact Zd (h h' _ H f)
theorem JL{Q:Unit->Nm->Prop}(Z:dC K C)(T:vH K C P cd)(X:K.In s.heap)(z:findIn K (.ref C) nm=some none)(j:s.heap.get? x=some ox)(i:ox.cls=.ref C)(n:ox.data=.fields vs)(m:ox.dict=none)
  (h:∀h' D a,s.heap.objs.size=D->h'.get? x=some {ox with dict:=some D}->h'.Ns1 D (λy=>if y=nm then some v else none)->(∀b o,b≠x->s.heap.get? b=some o->h'.get? b=some o)->Q () {s with heap:=h',toks:=a}):
  wpAny (model prog w) A (setAttr (.ref x) nm v) Q E s:=by
 refine CK Z T X (λM=>i▸(Looks.ld j).andThen .now) z λJ N W=>?_;obtain⟨H,g,d,t,V⟩:=s;have L:=looks_clsIn (M:=model prog w) X T.cls;unfold Ox instanceDict;refine Za (Sl j ?_);rw[i];refine Za (L.at ?_);rw[T.hd];obtain⟨S,U,I,O⟩:=ox;dsimp only at i n m;subst i n m;have f:x≠H.objs.size:=Zt (Zj j);have c:=Zb {cls:=.type "dict",data:=.dict #[]} j;refine Za (RE ?_);refine Za (wpAny_update c ?_);refine Zd ?_;refine⟨H.objs.size,rfl,?_⟩
 have k:((H.push {cls:=.type "dict",data:=.dict #[]}).update x λo=>{o with dict:=some H.objs.size}).get? H.objs.size=some {cls:=.type "dict",data:=.dict #[]}:=
  (SG _ _ _ _ f.symm).trans (Tf rfl rfl)
 have l:((H.push {cls:=.type "dict",data:=.dict #[]}).update x λo=>{o with dict:=some H.objs.size}).get? x=some ⟨.ref C,some H.objs.size,.fields vs,O⟩:=ZQ _ c rfl;refine ll (ns:=[]) (Heap.Ns1.of_empty ⟨_, #[],_,k,rfl,λe F=>absurd F (by simp),λ_=>rfl⟩) Within.nil (by decide) λh' a G r=>⟨rfl,?_⟩;refine h h' H.objs.size a ?_ ((r.2 x f).trans l) G λb o B q=>?_
 ·rfl
 ·exact(r.2 b (Zt (Zj q))).trans ((SG _ _ _ _ B).trans (Zb _ q))
theorem JM{Q:Unit->Nm->Prop}{ns:Ls}(Z:dC K C)(T:vH K C P cd)(X:K.In s.heap)(k:findIn K (.ref C) nm=some none)(f:s.heap.get? x=some ox)(c:ox.cls=.ref C)(j:ox.dict=some D)(n:s.heap.Ns1 D mA)(hw:Within mA ns)(m:ns.length<8)
  (h:∀h' a,h'.Ns1 D (λy=>if y=nm then some v else mA y)->(∀b o,b≠D->s.heap.get? b=some o->h'.get? b=some o)->Q () {s with heap:=h',toks:=a}):
  wpAny (model prog w) A (setAttr (.ref x) nm v) Q E s:=by
 refine CK Z T X (λM=>c▸(Looks.ld f).andThen .now) k λr u B=>?_;obtain⟨z,g,d,t,O⟩:=s;have L:=looks_clsIn (M:=model prog w) X T.cls;unfold Ox instanceDict;refine Za (Sl f ?_);rw[c];refine Za (L.at ?_);rw[T.hd,j];refine Zd ⟨D,rfl,?_⟩;exact ll n hw m λh' a H q=>⟨rfl,h h' a H λb o l p=>(q.2 b l).trans p⟩
end
end Py
namespace Py
open PySem PySem.Spec PySem.Calls PyProof.Rows PySem.W
section
variable {g:Array Rh}{d:PySem.Drawn}{t:Nat}{os:OsState}{N:Nn}{q:Str}{bs:Lv}{k0 k1 k2 k3 k5:Ov}{rest:Lv}
theorem JN{Q:Fin->Nm->Prop}(T:OwnTail h eh bm)(H:h.get? C=some (excClassObj nm q C N bs bm hdct sn sub ab col dd k0 k1 k2 k3 k5 "ValueError.__new__"))(u:h.Ns N mN)(s:mN "__init__"=some (.ref fI))(p:h.get? fI=some oI)(c:oI.cls=.type "function")(i:rest.length<=sizeLine)
  (v:∀h' e,Rv h h' e (.ref C) rest->wpAny (model prog w) A (call (.ref fI) (.ref e::rest)) (λr s'=>r=.none/\Q (.done (.ret (.ref e))) s') E ⟨h',g,d,t,os⟩):
  wpAny (model prog w) A (N8.«type.__call__» ⟨.ref C::rest,[]⟩) Q E ⟨h,g,d,t,os⟩:=by
 have F:=PySem.F.excBase_ValueError
 repeat(first|with_reducible refine Pq H ?_|with_reducible refine wpAny_madeBy_exc H ?_|wp_step)
 refine codeAny_call_builtin_code (PL _ F.quiet) (wpAny_check_new_subU F (by decide+kernel) T H ?_);refine codeAny_exc_new_subU F (by decide+kernel) F T H ?_ i;show wpAny _ _ _ _ _ _
 let o1:Obj:={cls:=.type "tuple",data:=.seq rest.toArray}
 let O:Obj:={cls:=.ref C,data:=.fields #[.ref h.objs.size,.none,.none,.none,.bool Nl,.none]}
 have k:∀b o,h.get? b=some o->((h.push o1).push O).get? b=some o:=λb o z=>Zb _ (Zb _ z);have a:=k _ _ H;have f:((h.push o1).push O).Ns N mN:=u.keeps k
 have j:((h.push o1).push O).get? (h.objs.size+1)=some O:=by
  have:=Zk (h.push o1) (o:=O) rfl
  rwa [Ou]at this
 have n:(NB C::bm).contains (.ref C)=Nk:=by simp
 have l:=T.keeps k;unfold isInstance
 repeat(first|with_reducible refine Pq j ?_| (with_reducible refine wpAny_isSubtype_exc a ?_;rw[n])|wp_step)
 show wpAny _ _ (typeLookup (.ref C) _) _ _ _;refine wpAny_typeLookup_tail a f l F.mroIs F.init.lookup ?_;rw[s];refine ZE (Za ?_);unfold bindSpecial;refine Za (OW (T:="function") ⟨_,k _ _ p,c⟩ ?_);rw[if_pos (by decide)];refine Zd (Za (ZJ (v _ (h.objs.size+1) ⟨k,Qs (Sw _),h.objs.size,j,Qs (Zh _),?_⟩) (λr s' i=>?_) λ_ _ z=>z))
 ·exact Zb _ (Tf rfl rfl)
 ·obtain⟨rfl,m⟩:=i
  wp_walk
  exact m
theorem JO(T:OwnTail h eh bm)(H:h.get? C=some (excClassObj nm q C N bs bm hdct sn sub ab col dd k0 k1 k2 k3 k5 "ValueError.__new__"))(i:h.Ns N mN)(c:mN "__init__"=some (.ref fI))(b:h.get? fI=some oI)(a:oI.cls=.type "function")(k:rest.length<=sizeLine)
  (j:∀h' e,Rv h h' e (.ref C) rest->wpAny (model prog w) (A.under (.builtin "type.__call__" ⟨.ref C::rest,[]⟩)) (call (.ref fI) (.ref e::rest)) (λr s'=>r=.none/\Q (.ref e) s') E ⟨h',g,d,t,os⟩):
  wpAny (model prog w) A (call (.ref C) rest) Q E ⟨h,g,d,t,os⟩:=by
 have F:=tc_lookup;have l:=tc_bind (.ref C);have m:(⟨h,g,d,t,os⟩:Nm).TypeIs (.ref C) "type":=⟨_,H,rfl⟩;refine Pu (QE ?_);show wpAny _ _ (callAny (.ref C) _) _ _ _
 repeat(any_goals (first|assumption|with_reducible refine Pq H ?_|wp_step))
 refine⟨rfl,codeAny_call_builtin_at (PL _ (by decide+kernel)) entry_typeCall (wpAny_check_type_call_sub H (JN T H i c b a k λh' e f=>?_))⟩;exact j h' e f
end
end Py
namespace Py
open PySem PySem.Spec PySem.Calls PyProof.Rows PySem.W
section
variable {N:Nn}{q:Str}{bs:Lv}{k0 k1 k2 k3 k5:Ov}{rest:Lv}
theorem JP{x:Sem Np}{Q:Flow->Nm->Prop}(H:bm.contains (.type "BaseException")=Nk)(j:A.handled=none)
  (h:wpAny (model prog w) A x (λv S=>∃e dx vs,v=.ref e/\S.heap.get? C=some (excClassObj nm q C N bs bm hdct sn sub ab col dd k0 k1 k2 k3 k5 "ValueError.__new__")/\
   S.heap.get? e=some {cls:=.ref C,dict:=dx,data:=.fields vs}/\vs[1]?=some .none/\E (.ref e) S) E s):wpAny (model prog w) A (raiseStmt env (some x) none) Q E s:=by
 have f:(NB C::bm).contains (.type "BaseException")=Nk:=by rw[List.contains_cons,H,R0]
 unfold raiseStmt;refine Za (ZJ h (λv S a=>?_) λ_ _ z=>z);obtain⟨e,dx,vs,rfl,b,i,k,c⟩:=a;obtain⟨l,g,d,t,o⟩:=S
 repeat(first|with_reducible refine Pq i ?_|with_reducible refine Pq b ?_| (with_reducible refine wpAny_isSubtype_exc b ?_;rw[f])|wp_step)
 rw[k];refine Zd ?_;rw[if_neg (by decide)];exact Zd (wpAny_raiseNew_none j c)
end
end Py
namespace Py
noncomputable def g7(e C:Nn)(vs:Av)(dx:Option Nn):HO:=.ext λh=>h.get? e=some {cls:=.ref C,dict:=dx,data:=.fields vs}
noncomputable def iC(d:Nn)(m:Mg):HO:=.ext λh=>h.Ns1 d m
theorem lm{P:Nu}{w:NG}{H:Hp}{e C:Nn}{vs:Av}{dx:Option Nn}(i:h.get? e=some {cls:=.ref C,dict:=dx,data:=.fields vs}):aQ P w H h e (g7 e C vs dx):=
 ⟨i,⟨_,i⟩,λa b z k=>k _ z⟩
theorem ln{P:Nu}{d:Nn}{m:Mg}(i:h.Ns1 d m):aQ P w H h d (iC d m):=
 ⟨i,let⟨o,_,_,e,_⟩:=i;⟨o,e⟩,λa b z k=>z.at k⟩
noncomputable def fC(f:Str)(v:Np)(m:Mg):Mg:=λy=>if y=f then some v else m y
section
variable {E:XK}{P e1:Nn}{cd:Pz}{pos p':Pos}{o:Expr}{tv:TE}{f:Str}{e:Nn}{vs:Av}
theorem CL(B:PE X o te)(L:PE X value tv)(hs:swapsWith value (some (.Attribute o f p')) pos.line X.env=pure Nl)(Z:dC X.K C)(T:vH X.K C P cd)(w:PySem.W.findIn X.K (.ref C) f=some none):
  PS X (.Assign [.Attribute o f p'] value pos) (λD σ H=>tv σ H λy H1=>te σ H1 λx H2=>∃(e:Nn) (vs:Av),x=.ref e/\H2 e=some (g7 e C vs none)/\∀d v,RelV y v->H2 d=none->D.nx σ (aP (aP H2 d (iC d (fC f v λ_=>none))) e (g7 e C vs (some d)))):=by
 intro p s σ H D I h;refine Rw (aO (L p s σ H _ I h) λu W ⟨y,H1,m,V,q⟩=>aO (B p W σ H1 _ m q) λQ S ⟨x,H2,g,U,e,vs,r,E,R⟩=>?_) hs;subst r;obtain rfl:Q=NB e:=U;obtain⟨G,_,_⟩:=(show aQ X.prog X.w H2 S.heap e (g7 e C vs none)from g.hok e _ E);refine JL Z T g.kIn w G rfl rfl rfl λi d t k K M N=>?_
 have A:H2 d=none:=by
  cases F:H2 d with
  |none=>rfl
  |some u=>have:=(g.hok d u F).lt;rw[<-k]at this;exact absurd this (ZO _)
 have c:d≠e:=λz=>by have:=Zj G;rw[<-z,<-k]at this;exact ZO _ this
 have J:L2.Inv X p σ (aP H2 d (iC d (fC f u λ_=>none))) {S with heap:=i.update e λ_=>{cls:=.ref C,dict:=none,data:=.fields vs},toks:=t}:=
  g.laid (λb O a=>by
   by_cases z:b=e
   ·subst z;rw[G]at a;cases a;exact ZQ _ K rfl
   ·exact(ZH _ _ (Ne.symm z)).trans (N b O z a)) (R8 k) (ln (M.at λO a=>(ZH _ _ (Ne.symm c)).trans a))
 have n:=J.write (x:=e) (e:=e) (o:=g7 e C vs (some d)) (t':=t) (h':=i) (by rw[av (Ne.symm c),E];exact Pk) (.inl rfl) (λb O z a=>by rwa [ZH _ _ (Ne.symm z)]at a) ⟨_,K⟩ (lm K);exact⟨σ,_,n,R d u V A⟩
theorem CM{m:Mg}{ns:Ls}(w:PE X o te)(B:PE X value tv)(hs:swapsWith value (some (.Attribute o f p')) pos.line X.env=pure Nl)(Z:dC X.K C)(T:vH X.K C P cd)(n:PySem.W.findIn X.K (.ref C) f=some none):
  PS X (.Assign [.Attribute o f p'] value pos) (λD σ H=>tv σ H λy H1=>te σ H1 λx H2=>∃(e d:Nn) (vs:Av) (m:Mg) (ns:Ls),x=.ref e/\H2 e=some (g7 e C vs (some d))/\H2 d=some (iC d m)/\Within m ns/\ns.length<8/\∀v,RelV y v->D.nx σ (aP H2 d (iC d (fC f v m)))):=by
 intro p s σ H D I h;refine Rw (aO (B p s σ H _ I h) λu M ⟨y,H1,g,L,q⟩=>aO (w p M σ H1 _ g q) λF S ⟨x,H2,a,R,e,d,vs,m,ns,j,i,E,hw,A,Q⟩=>?_) hs;subst j;obtain rfl:F=NB e:=R;obtain⟨G,_,_⟩:=(show aQ X.prog X.w H2 S.heap e (g7 e C vs (some d))from a.hok e _ i);obtain⟨l,_,_⟩:=(show aQ X.prog X.w H2 S.heap d (iC d m)from a.hok d _ E);refine JM Z T a.kIn n G rfl rfl l hw A λc t k K=>?_;have J:=a.write (x:=d) (e:=d) (o:=iC d (fC f u m)) (t':=t) (h':=c) (by rw[E];exact Pk) (.inl rfl) (λb O z r=>K b O z r) (let⟨o,_,_,e,_⟩:=k;⟨o,e⟩) (ln k);exact⟨σ,_,J,Q u L⟩
end
noncomputable def atS(nm:Str):Oq->Bool
 | .Assign [.Attribute (.Name s _) f _] (.Name v _) _=>s=="self"&&(f==nm&&v==nm)
 |_=>Nl
theorem CN(h:atS nm st=Nk):∃q Q c d,st=.Assign [.Attribute (.Name "self" q) nm Q] (.Name nm c) d:=by
 unfold atS at h;split at h
 ·obtain⟨a,H⟩:=aa h;obtain⟨H,b⟩:=aa H;obtain rfl:=Zx a;obtain rfl:=Zx H;obtain rfl:=Zx b;exact⟨_,_,_,_,rfl⟩
 ·cases h
noncomputable def gN:Ls:=["self","many","most"]
noncomputable def MG(s:Scope):Bool:=(s.kind== .function)&&(!s.isCoroutine&&(!s.isGenerator&&(gN.all (λx=>s.names.lookup x==some .local)&&s.names.all λy=>y.2 !=.free)))
theorem JQ{s:Scope}(h:MG s=Nk):bv gN gN s/\∀x∈gN,s.names.lookup x=some .local:=by obtain⟨b,h⟩:=aa h;obtain⟨c,h⟩:=aa h;obtain⟨d,h⟩:=aa h;obtain⟨H,e⟩:=aa h;have H:∀x∈gN,s.names.lookup x=some .local:=λx a=>Zx (Zm.mp H x a);exact⟨⟨Zx b,by simpa using c,by simpa using d,by decide,rfl,λx a=>.inl (H x a),λy f=>by simpa using Zm.mp e y f⟩,H⟩
noncomputable def JR(K:Fg)(f:Nn):Bool:=match K.lookup f with
 |some ⟨oc,_,.func fd,_⟩=>oc== .type "function"&&(PySem.W.codeIn K fd.code fd.qualname&&(fd.globals==mainGlobals&&(fd.closure.isEmpty&&(fd.defaults== .none&&(fd.builtins==builtinsNs&&(MG fd.scope&&(match fd.body with
   | .stmts [s,S]=>atS "many" s&&atS "most" S
   |_=>Nl)&&(match fd.params with
   | ⟨[],as,none,[],[],none,[]⟩=>as.map (·.arg)==gN
   |_=>Nl)))))))
 |_=>Nl
def JS(K:Fg)(f:Nn):Prop:=∃od osl name qual as q Q a b c d e g sc kV doc pm an cdv ct,as.map Arg.arg=gN/\K.lookup f=some ⟨.type "function",od,.func (PySem.W.fnOf name qual ⟨[],as,none,[],[],none,[]⟩ [.Assign [.Attribute (.Name "self" q) "many" Q] (.Name "many" a) b,.Assign [.Attribute (.Name "self" c) "most" d] (.Name "most" e) g] sc .none kV doc pm an cdv ct),osl⟩/\
 PySem.W.codeIn K cdv qual=Nk/\bv gN gN sc/\∀x∈gN,sc.names.lookup x=some .local
theorem JT(h:JR K fI=Nk):JS K fI:=by
 unfold JR at h;split at h
 ·rename_i G O F o l;obtain⟨e,h⟩:=aa h;obtain⟨f,h⟩:=aa h;obtain⟨g,h⟩:=aa h;obtain⟨H,h⟩:=aa h;obtain⟨i,h⟩:=aa h;obtain⟨j,h⟩:=aa h;obtain⟨h,b⟩:=aa h;obtain⟨k,a⟩:=aa h;obtain⟨n,q,p,body,B,gl,C,E,kV,d,P,an,c,r,D⟩:=F;dsimp only at e f g H i j k a b l;obtain rfl:=Zx e;obtain rfl:=Zx g;obtain rfl:=Zx i;obtain rfl:=Zx j;have H:C=[]:=by simpa using H
  subst H;split at a
  ·rename_i I s;obtain⟨A,m⟩:=aa a;obtain⟨Q,t,u,v,rfl⟩:=CN A;obtain⟨w,x,y,z,rfl⟩:=CN m;split at b
   ·obtain⟨s,S⟩:=JQ k;exact⟨O,o,n,q,_,Q,t,u,v,w,x,y,z,B,kV,d,P,an,c,r,Zx b,l,f,s,S⟩
   ·cases b
  ·cases a
 ·cases h
section
variable {P:Nu}{Q:Nn}{cd:Pz}{k:Nat}
noncomputable def M_(C:Nn):Sp:=λvs H Q E=>∃e a b w,vs=[.ref e,.int a,.int b]/\H e=some (g7 e C w none)/\∀d u v,RelV (.int a) u->RelV (.int b) v->H d=none->Q .non (aP (aP (aP H d (iC d (fC "many" u λ_=>none))) e (g7 e C w (some d))) d (iC d (fC "most" v (fC "many" u λ_=>none))))
theorem o_(I:JS K fI)(Z:dC K C)(T:vH K C Q cd)(h1:PySem.W.findIn K (.ref C) "many"=some none)(J:PySem.W.findIn K (.ref C) "most"=some none):∃fd,cI P w K mg base CX (k+1) fI fd gN (M_ C)/\Binds K fd gN []/\∃od osl,K.lookup fI=some ⟨.type "function",od,.func fd,osl⟩:=by
 obtain⟨od,osl,N,q,as,q0,q1,q2,q3,q4,q5,q6,q7,U,kV,G,pm,an,j,X,c,lk,l,S,L⟩:=I;refine⟨_,rh lk l S (λvs H Q E ⟨e,a,b,W,t,_⟩=>by rw[t];rfl) λA o s H vs Q E Y ⟨e,a,b,W,t,n,M⟩=>?_,Binds.all ?_,od,osl,lk⟩
 ·have g:∀{i:Nat} {x:Str} {p:Pos},gN[i]?=some x->PE (eI CX P w K mg base gN q U fI j A o s H E) (.Name x p) (l7 i):=λ{i x p} D=>by
   have y:=Zo D;have B:=fQ (Zm.mp (show gN.all dz=Nk by decide) x y);exact jU D (.inl (L x y)) B.1 B.2
  subst t;refine⟨_,c9 (CL (g (i:=0) rfl) (g (i:=1) rfl) rfl Z T h1) (c9 (CM (m:=λ_=>none) (ns:=[]) (g (i:=0) rfl) (g (i:=2) rfl) rfl Z T J) fG),?_⟩;have r:∀d,H d=none->e≠d:=λd f z=>by rw[z,f]at n;cases n
  refine⟨.int a,rfl,.ref e,rfl,e,W,rfl,n,λd u R f=>?_⟩;refine⟨.int b,rfl,.ref e,rfl,e,d,W,fC "many" u λ_=>none,["many"],rfl,a8,?_,Within.cons "many" u Within.nil,by decide,λv O=>M d u v R O f⟩;rw[av (Ne.symm (r d f)),a8]
 ·have h:=ZX Oj c;rw[Zl]at h;obtain⟨⟨F,n0,p0⟩,as,rfl⟩:=Zz (show as.length=2+1 from h);obtain⟨⟨b1,n1,p1⟩,as,rfl⟩:=Zz (show as.length=1+1 from ZB h);obtain⟨⟨b2,n2,p2⟩,as,rfl⟩:=Zz (show as.length=0+1 from ZB (ZB h));obtain rfl:as=[]:=List.length_eq_zero_iff.mp (ZB (ZB (ZB h)));have c:[F,b1,b2]=gN:=c;unfold gN at c⊢;cases c;intro V h
  match V,h with
  | [u0,u1,u2],_=>rfl
end
set_option genInjectivity false in
inductive Rz where
 |cls (x:Str)|kind (f:Str) (ys ws:Ls)|init (x:Str)|great (g:Str) (ys ws:Ls)
 deriving DecidableEq
noncomputable def Rz.need:Rz->Nat
 | .init _=>2
 |_=>0
mutual
noncomputable def MH:CS->List Rz
 | .raise_ x _=>[.cls x]
 | .tryK _ body f ys w=>.kind f ys w::dD body
 | .raiseI x _=>[.init x]
 | .tryG _ g _ body f ys w=>.kind f ys w:: .great g ys w::dD body
 | .ite _ a b=>dD a++dD b
 | .for_ _ _ body=>dD body
 | .while_ _ _ body=>dD body
 |_=>[]
noncomputable def dD:List CS->List Rz
 | []=>[]
 |c::cs=>MH c++dD cs
end
noncomputable def iD(K:Fg)(C f:Nn):Bool:=match K.lookup C with
 |some ⟨.type "type",_,.cls cd,sl⟩=>(match cd.mro,sl.toList with
  | .ref a::bm,[_,_,_,_,some (.builtin n),_]=>a==C&&(n=="ValueError.__new__"&&(!cd.hasDel&&(PySem.W.tailIn K eh bm&&(PySem.W.nsOkIn K cd.ns&&PySem.W.nsIn K cd.ns "__init__"==some (some (.ref f))))))
  |_,_=>Nl)
 |_=>Nl
noncomputable def XC(P:Nu)(w:NG)(K:Fg)(mg:Mg):Rz->Prop
 | .cls x=>∃C,mg x=some (.ref C)/\PySem.W.excIn K C eh "ValueError.__new__"=Nk
 | .kind f ys W=>∃fa pa,mg f=some (.ref fa)/\PySem.W.keepIn K (.ref fa)=Nk/\mg "PairError"=some (.ref pa)/\
   ∀x r,(ys.zip W).lookup x=some r->∀v,mg x=some v->∃C,v=.ref C/\PySem.W.exmOne K (.ref C) (.ref pa)=some Nk/\∀base,jk P w K mg base fa C r
 | .init x=>∃C P fI cd,mg x=some (.ref C)/\PySem.W.keepIn K (.ref C)=Nk/\FH K C cd/\vH K C P cd/\JS K fI/\iD K C fI=Nk
 | .great g ys W=>∀x,(ys.zip W).lookup x=some g->∀v,mg x=some v->∃C cd,v=.ref C/\FH K C cd
theorem pc{N:Nn}{n:Str}{v:Np}(X:K.In h)(G:h.Ns N mg)(e:PySem.W.nsIn K N n=some (some v)):mg n=some v:=by
 obtain⟨o,d,E,c,H,_,b⟩:=G;unfold PySem.W.nsIn at e;split at e
 ·rename_i q;have q:=X _ _ q;rw[c]at q;cases q;cases H;split at e
  ·rename_i a;cases e;rw[<-b];unfold nsFind findBy;rw[<-SF,a];rfl
  ·split at e<;>cases e
 ·cases e
theorem pd(X:K.In h)(q:iD K C fI=Nk):∃bm N nm Q bs c sn sub ab col dd k0 k1 k2 k3 k5 mN,h.get? C=some (excClassObj nm Q C N bs bm c sn sub ab col dd k0 k1 k2 k3 k5 "ValueError.__new__")/\h.Ns N mN/\mN "__init__"=some (.ref fI)/\OwnTail h eh bm:=by
 unfold iD at q;split at q
 ·rename_i dd j sl k;split at q
  ·rename_i s bm k0 k1 k2 k3 n k5 g i;obtain⟨p,q⟩:=aa q;obtain⟨r,q⟩:=aa q;obtain⟨H,q⟩:=aa q;obtain⟨m,q⟩:=aa q;obtain⟨b,a⟩:=aa q;obtain rfl:=Zx p;obtain rfl:=Zx r;obtain⟨nm,bs,M,o,Q,c,sn,sub,ab,col,d⟩:=j;dsimp only at g H b a;have H:d=Nl:=by simpa using H
   subst g H;have e:sl= #[k0,k1,k2,k3,some (.builtin "ValueError.__new__"),k5]:=by obtain⟨l⟩:=sl;simp only at i;rw[i]
   subst e;have f:=Heap.Ns.of_isNs (PySem.W.isNs_of_in X b);exact⟨bm,o,nm,Q,bs,c,sn,sub,ab,col,dd,k0,k1,k2,k3,k5,_,X _ _ k,f,pc X f (Zx a),PySem.W.tail_of_in X m⟩
  ·cases q
 ·cases q
theorem vI{x:Str}(X:K.In h)(e:mg x=some (.ref C))(q:PySem.W.excIn K C eh "ValueError.__new__"=Nk):OwnCls x C eh "ValueError.__new__" mg h:=by
 refine⟨e,?_⟩;unfold PySem.W.excIn at q;split at q
 ·rename_i D o sl t;split at q
  ·rename_i w B k g i j n m f y;simp only[ZN,beq_iff_eq,O6]at q;obtain⟨⟨⟨⟨⟨rfl,rfl⟩,H⟩,u⟩,a⟩,b⟩:=q;obtain⟨N,bs,M,v,Q,r,S,s,A,c,p⟩:=o;dsimp only at f H a b;subst f H;have d:sl= #[k,g,i,j,some (.builtin "ValueError.__new__"),m]:=by obtain⟨l⟩:=sl;simp_all
   subst d;exact⟨B,v,N,Q,bs,r,S,s,A,c,D,k,g,i,j,m,_,X _ _ t,.of_isNs (PySem.W.isNs_of_in X a),PySem.W.nsMap_none_of_in X a b,PySem.W.tail_of_in X u⟩
  ·cases q
 ·cases q
theorem Sub.ext(s:Sub H H'):Ext μ H μ H':=⟨⟨[],by simp⟩,λa o h _=>s a o h,λa o h=>⟨o,s a o h⟩,λ_ h=>.inl h⟩
theorem Sub.sok{mg:GS}(s:Sub H H')(k:aJ K mg μ S H):aJ K mg μ S H':=
 ⟨λa h=>(by obtain⟨o,e⟩:=k.live a h;exact(⟨o,s a o e⟩)),k.len,k.nd,λn a d b c=>(by obtain⟨vs,e,r⟩:=k.at_ n a d b c;exact(⟨vs,s a _ e,ai.mono s.ext _ _ r⟩))⟩
theorem pf{o i:Expr}{p:Pos}(h:i6 i=Nk):∀v,assign (.Subscript o i p) env v=(do
   let O <-holding [v] (eval o env)
   let I <-holding [v,O] (eval i env)
   standAt p
   holding [v,O,I] (setItem O I v)
   release [v,O,I] []):=by
 intro v;cases i<;>first|rfl|cases h
section
variable {E:XK}{k:Nat}{pos:Pos}
end
structure lp (X:Cx)(N:Ls)(sc:Sc)(CX:dk)(E:XK)(Φ:FT)(Γ:Str->Option D)(k:Nat):Prop where
 x:cG X (λ_=>Nk) N sc CX E Φ Γ k
 own:Qo (model X.prog X.w) X.A X.env X.xe
 cx:CX=bn X.prog X.w
 fr:X.ex=[]/\X.stack=X.env::X.outer/\X.env.frame=some X.env.locals
 made:gD X E
section
variable {E:XK}{k:Nat}{pos:Pos}
theorem rZ{a b:Type}{f:a->Option b}{x:a}(h:f x=none):∀{l:List a},x∈l->(l.filterMap f).length<l.length
 | [],H=>by simp_all
 |y::l,H=>by
  rcases Zi.mp H with rfl|H
  ·grind
  ·have:=rZ h H
   grind
theorem pg{v:Expr}(hs:env.scope.names=sc)(h1:fy tg=Nk)(H:(k7 v||k8 sc tg)=Nk):swappedStores [tg] v env=pure none:=by
 cases tg<;>first| (cases h1;done)|skip
 cases v<;>first|rfl|skip
 rename_i t _ _ u _ _;unfold swappedStores;simp only[];split
 ·rfl
 ·split
  ·rfl
  ·split
   ·rfl
   ·rename_i c;rcases QG.mp H with h|h
    ·have h:(List.all u (foldedForSure 8))=Nk:=h
     first|rfl|rw[if_pos h]
    ·exfalso
     have h:(t.any λx=>match x with
      | .Name id _=>sc.lookup id==some .cell
      |_=>Nl)=Nk:=h
     obtain⟨x,d,a⟩:=Pj.mp h;refine c ?_
     have b:=rZ (f:=λx=>match x with
      |Expr.Name id pos=>if env.kindOf id==some .local&&pos.line==(t.head?.map (·.pos.line)).getD 0 then some id else none
      |_=>none) (x:=x) (by
       cases x<;>first|rfl|skip
       rename_i id pos;have e:env.kindOf id=some .cell:=by show env.scope.names.lookup id=_;rw[hs];exact Zx a
       show(if(env.kindOf id==some .local&&_)=Nk then _ else _)=none;rw[e];rfl) d
     rw[Rb];exact .inl (bne_iff_ne.mpr (Zt b))
theorem JU(h1:fy tg=Nk):(assignEach [tg] env).map (·.2)=[assign tg env]:=by cases tg<;>first|rfl|cases h1
theorem CO{t v:Expr}(h:swapsWith v (some t) line env=pure Nl):swapsWithSole [t] v line env=pure Nl:=h
theorem CP{K:Fg}{mg:GS}{μ:La}{H:Hp}:∀{is:List Nat} {ds:List D} {vs:List V} {ρ:bu} {σ:L2.St},ai K mg μ H ds vs->aU K mg μ H ρ σ->aU K mg μ H (eL is ds ρ) (eL is vs σ)
 | [],ds,vs,ρ,σ,r,e=>by exact e
 |i::is,[],vs,ρ,σ,r,e=>by subst r;exact e
 |i::is,d::ds,vs,ρ,σ,r,e=>by obtain⟨v,w,rfl,R,a⟩:=r.uncons;unfold eL;exact CP a (e.set R)
theorem vJ(O:cG X (λ_=>Nk) N sc CX E Φ Γ k){t:CT}{e:CE}{v:Expr}(h1:fy (i7 t N tg)=Nk)(h:(k7 v||k8 sc (i7 t N tg))=Nk)(f:fR v=Nk)(g:rB (λ_=>Nk) N sc t=Nk)(i:PE X v (tE X.K X.mg E Φ Γ e)):PS X (.Assign [i7 t N tg] v pos) (tS X.K X.mg E Φ Γ (.asgT t e)):=
 bZ (j1 i (kG O g) (jh f) (pg O.sc h1 h) (JU h1)) λD u H z=>aF z λF p q S j c w=>by
  refine⟨F,_,_,S,j,c,(au.bind w).mono λv H1 z=>ay z λl o d x s r W=>?_⟩;cases a:aS t d _ with
  |none=>rw[a]at W;exact W.elim
  |some m=>rw[a]at W;exact uE a r (c.mono x) λn b=>W _ _ _ .refl s b
theorem CQ(O:cG X (λ_=>Nk) N sc CX E Φ Γ k){es:List CE}{ts xs:Lx}{pt:Pos}{K k2}(h1:is.all (λi=>N[i]?==some (N.getD i "")&&sc.lookup (N.getD i "")==some .local)=Nk)(h:is.length<=3)(a:oU sc ts xs (is.map λi=>N.getD i "")=Nk)(b:PA X xs (tL X.K X.mg E Φ Γ es)):
  PS X (.Assign [.Tuple ts K pt] (.Tuple xs k2 pt2) pos) (tS X.K X.mg E Φ Γ (.par is es)):=by
 refine bZ (nk O.calm (by rw[O.n];exact O.nd) (λi c=>?_) h b (vh a O.sc O.kd) (CO (jh rfl))) λD o H z=>aF z λF m n S f e w=>?_
 ·have:=Zm.mp h1 i c;rw[O.n,O.sc];lia
 ·refine⟨F,_,_,S,f,e,(au.bind w).mono λvs H1 z=>ay z λg j l x s r W=>?_⟩;split at W
  ·rename_i d;refine⟨by rw[<-r.length,d],?_⟩;exact W _ _ _ .refl s (CP r.reverse (e.mono x))
  ·exact W.elim
theorem CU{o i v:CE}{j b g:Expr}{p:Pos}(n:i6 b=Nk)(l:fR g=Nk)(q:PE X j (tE X.K X.mg E Φ Γ o))(m:PE X b (tE X.K X.mg E Φ Γ i))(r:PE X g (tE X.K X.mg E Φ Γ v)):PS X (.Assign [.Subscript j b p] g pos) (tS X.K X.mg E Φ Γ (.set o i v)):=
 bZ (j1 r (sM q m zS (pf n)) (CO (jh l)) rfl) λD σ H z=>aF z λF μ ρ S C a w=>by
  refine⟨F,_,_,S,C,a,(au.bind w).mono λvv H1 z=>ay z λJ Q f x u R G=>?_⟩;refine⟨F,_,_,_,u,a.mono x,(au.bind G).mono λZ N z=>ay z λK T d h y s I=>?_⟩;refine⟨F,_,_,_,y,(a.mono x).mono h,(au.bind I).mono λY O z=>ay z λL U e x3 A t W=>?_⟩;cases c:iT d e f _ with
  |none=>rw[c]at W;exact W.elim
  |some V=>rw[c]at W;exact⟨F,_,_,d,e,f,A,Rep.mono x3 _ _ s,t,Rep.mono (h.trans x3) _ _ R,_,c,λM P k B=>W _ _ _ k B ((((a.mono x).mono h).mono x3).mono k)⟩
theorem vK{e:CE}{v:Expr}(h:fR v=Nk)(b:PE X v (tE X.K X.mg E Φ Γ e)):PS X (.Expr v pos) (tS X.K X.mg E Φ Γ (.expr e)):=
 bZ (l_ b (jh h)) λD k H z=>aF z λF i j S c a w=>by exact⟨F,_,_,S,c,a,(au.bind w).mono λv H1 z=>ay z λf g d x s r W=>W _ _ _ .refl s (a.mono x)⟩
theorem CV{e:CE}{v:Expr}(h:PE X v (tE X.K X.mg E Φ Γ e)):PS X (.Return (some v) pos) (tS X.K X.mg E Φ Γ (.ret e)):=
 bZ (jZ h) λD j H z=>aF z λF g i S b a w=>by exact⟨F,_,_,S,b,a,(au.bind w).mono λv H1 z=>ay z λc f d x s r W=>W _ _ v .refl s r⟩
theorem vL:PS X (.Return none pos) (tS X.K X.mg E Φ Γ .retN):=bZ l' λD c H z=>aF z λF a b S s e w=>w _ H _ .refl s j9
theorem vM:PS X (.Pass pos) (tS X.K X.mg E Φ Γ .pass):=bZ l9 λD c H z=>aF z λF a b S s e w=>w _ H _ .refl s e
theorem CW:PS X (.Break pos) (tS X.K X.mg E Φ Γ .brk):=bZ F0 λD c H z=>aF z λF a b S s e w=>w _ H _ .refl s e
theorem vN:PS X (.Continue pos) (tS X.K X.mg E Φ Γ .cont):=bZ F1 λD c H z=>aF z λF a b S s e w=>w _ H _ .refl s e
theorem JV{c:CE}{a b:List CS}{t:Expr}{x y:List Oq}(i:PT X t (tT X.K X.mg E Φ Γ c))(h:ec X x (kZ X.K X.mg E Φ Γ a))(g:ec X y (kZ X.K X.mg E Φ Γ b)):PS X (.If t x y pos) (tS X.K X.mg E Φ Γ (.ite c a b)):=
 bZ (ir i h g) λD p H z=>aF z λF n o S j e w=>by
  refine⟨F,_,_,S,j,e,(au.bind w).mono λk H1 z=>ay z λl m K d s f W=>?_⟩;subst f;cases K with
  |true=>exact⟨F,_,_,_,s,e.mono d,W⟩
  |false=>exact⟨F,_,_,_,s,e.mono d,W⟩
theorem vO:ec X [] (kZ X.K X.mg E Φ Γ []):=k6 fG λD c H z=>aF z λF a b S s e w=>w _ H _ .refl s e
theorem ph{c:CS}{cs:List CS}{s:Oq}{st:List Oq}(h1:PS X s (tS X.K X.mg E Φ Γ c))(h:ec X st (kZ X.K X.mg E Φ Γ cs)):ec X (s::st) (kZ X.K X.mg E Φ Γ (c::cs)):=
 k6 (c9 h1 h) λD n H z=>aF z λF l m S b a w=>by exact⟨F,_,_,S,b,a,au.seq w λd i g f j x k e W=>⟨F,_,_,_,k,e,W⟩⟩
theorem CY{mg:GS}{D:Ends}{r:Res Fl}{f:bu->ae->Res Fl}{Nx:L2.St->Hp->Prop}(w:au K mg E D μ H (r.bind λF S'=>match F with
   | .next ρ'=>f ρ' S'
   | .cont ρ'=>f ρ' S'
   | .brk ρ'=>.ok (.next ρ') S'
   | .ret d=>.ok (.ret d) S')) (a:∀μ' H' σ' ρ' S',Ext μ H μ' H'->aJ K mg μ' S' H'->aU K mg μ' H' ρ' σ'->au K mg E D μ' H' (f ρ' S')->Nx σ' H'):au K mg E {D with nx:=Nx,ct:=Nx,bk:=D.nx} μ H r:=by
 cases r with
 |ok F S=>
  cases F with
  |next b=>exact λm h s x k e=>a m h s _ S x k e (au.ext x (show au K _ E D _ H _ from w))
  |ret d=>exact w
  |brk b=>exact w
  |cont b=>exact λm h s x k e=>a m h s _ S x k e (au.ext x (show au K _ E D _ H _ from w))
 |err z S=>exact w
 |fail=>exact w
theorem pi{c:CE}{t:Expr}{x:List Oq}(r:Qo (model X.prog X.w) X.A X.env X.xe)(p:PT X t (tT X.K X.mg E Φ Γ c))(o:ec X x (kZ X.K X.mg E Φ Γ body)):PS X (.While t x [] pos) (tS X.K X.mg E Φ Γ (.while_ n c body)):=
 bZ (F6 r p o) λD f H z=>aF z λF a b S s e w=>by
  refine⟨λm f H=>∃a b S,aJ _ _ a S H/\aU _ _ a H b f/\au _ _ E D a H (nz _ _ m b S),⟨n,_,_,S,s,e,w⟩,?_⟩;rintro m f H ⟨a,b,S,s,e,w⟩;cases m with
  |zero=>exact w.elim
  |succ m=>
   refine⟨F,_,_,S,s,e,(au.bind w).mono λk H1 z=>ay z λy C K i h l W=>?_⟩;subst l;cases K with
   |true=>exact⟨_,λg j q=>⟨m,NL m,q⟩,F,_,_,_,h,e.mono i,CY W λv j g A B x k d u=>⟨_,_,_,k,d,u⟩⟩
   |false=>exact W _ _ _ .refl h (e.mono i)
end
theorem vP(step:D->bu->ae->Res Fl)(xs:List D):∀(n i:Nat) (ρ:bu) (S:ae),i+n=xs.length->dw step (λ_ i=>some xs[i]?) (n+1) i ρ S=ee step (xs.drop i) ρ S
 |0,i,ρ,S,h=>by rw[RY (by omega)];unfold dw;have:xs[i]?=none:=OQ.mpr (by omega);rw[this];rfl
 |n+1,i,ρ,S,h=>by
  have H:i<xs.length:=by omega
  rw[RB H];unfold dw;rw[Zf H];show(step _ _ S).bind _=(step _ _ S).bind _;congr 1;funext f b;cases f with
  |next a=>exact vP _ _ n _ _ _ (by omega)
  |cont a=>exact vP _ _ n _ _ _ (by omega)
  |brk a=>rfl
  |ret d=>rfl
theorem pj(step:D->bu->ae->Res Fl)(its:iX)(ρ:bu)(S:ae):ny step its ρ S=dw step (bi its) (nV its) 0 ρ S:=by
 cases its with
 |items x=>exact(vP _ _ _ 0 _ S (by omega)).symm
 |live f get=>rfl
noncomputable def dF(Φ:FT)(Γ:Str->Option D)(t:CT)(body:List CS):D->bu->ae->Res Fl:=λx ρ S=>match aS t x ρ with
 |some ρ'=>af Φ Γ body ρ' S
 |none=>.fail
section
variable {E:XK}{k:Nat}{pos:Pos}
theorem CZ{t:CT}{it:CE}{i:Expr}{x:List Oq}(hp:Qo (model X.prog X.w) X.A X.env X.xe)(U:X.calm=Nk)(Z:PI X tg i (tI X.K X.mg E Φ Γ it))(V:PG X tg (rN X.K t))(hs:∀x,foldedSetIterable i X.env x=pure x)(T:ec X x (kZ X.K X.mg E Φ Γ body)):
  PS X (.For tg i x [] pos) (tS X.K X.mg E Φ Γ (.for_ t it body)):=
 bZ (sO hp U Z V T hs) λD u H zz=>aF zz λF b g S s r w=>by
  simp only[aq]at w;refine⟨F,b,g,S,s,r,ak.mono (Rel:=λp c I J=>gu X.K ⟨X.mg,F⟩ J (bi I) p c) (au.bind w) λJ H1 h=>?_⟩;obtain⟨j,M,I,x1,s1,ok,w1⟩:=h;have O:au X.K ⟨X.mg,F⟩ E D j H1 (ny (dF Φ Γ t body) I g M):=w1;rw[pj]at O;refine⟨λi m u H=>∃b g S,c7 X.K F j H1 F b H/\aJ X.K ⟨X.mg,F⟩ b S H/\aU X.K ⟨X.mg,F⟩ b H g u/\au X.K ⟨X.mg,F⟩ E D b H (dw (dF Φ Γ t body) (bi I) m i g S),⟨nV I,j,g,M,.refl,s1,r.mono x1,O⟩,?_⟩;rintro i m u H ⟨b,g,S,N,s,r,w⟩;cases m with
  |zero=>exact w.elim
  |succ m=>
   unfold dw at w;obtain⟨k1,k2⟩:=ok i b S H F N s;cases e:bi I S i with
   |none=>rw[e]at w;exact w.elim
   |some o=>
    cases o with
    |none=>rw[e]at w;exact .inl ⟨k2 e,w b H u .refl s r⟩
    |some y=>
     rw[e]at w;obtain⟨R,Y⟩:=k1 y e;refine .inr ⟨R,λl c=>∃b g S,c7 X.K F j H1 F b c/\aJ X.K ⟨X.mg,F⟩ b S c/\aU X.K ⟨X.mg,F⟩ b c g l/\au X.K ⟨X.mg,F⟩ E D b c (dw (dF Φ Γ t body) (bi I) m (i+1) g S),λl c q=>⟨m,NL m,q⟩,λv c hv=>?_⟩;obtain⟨L,s2,r2⟩:=Y v c hv;have C:c7 X.K F j H1 F b c:=N.trans (.of_ext L λ_ z=>.inl z);have w':=au.ext L w
     have w3:au X.K ⟨X.mg,F⟩ E D b c ((dF Φ Γ t body y g S).bind λQ n=>match Q with
      | .next a=>dw (dF Φ Γ t body) (bi I) m (i+1) a n
      | .cont a=>dw (dF Φ Γ t body) (bi I) m (i+1) a n
      | .brk a=>.ok (.next a) n
      | .ret d=>.ok (.ret d) n):=w'
     have W:=CY (f:=λa n=>dw (dF Φ Γ t body) (bi I) m (i+1) a n) (Nx:=λl c=>∃b g S,c7 X.K F j H1 F b c/\aJ X.K ⟨X.mg,F⟩ b S c/\aU X.K ⟨X.mg,F⟩ b c g l/\au X.K ⟨X.mg,F⟩ E D b c (dw (dF Φ Γ t body) (bi I) m (i+1) g S)) w3
      λp P l a n x3 k B K=>⟨p,a,n,C.trans (.of_ext x3 λ_ z=>.inl z),k,B,K⟩
     unfold dF at W;cases A:aS t y g with
     |none=>simp only[A]at W;exact W.elim
     |some a=>simp only[A]at W;exact uE A r2 (r.mono L) λσ2 G=>⟨F,b,a,S,s2,G,W⟩
end
section
variable {E:XK}{k:Nat}
def C0(P:Nu)(w:NG)(K:Fg)(mg:Mg)(k:Nat)(z:Rz):Prop:=XC P w K mg z/\z.need<=k
theorem po(O:lp X N sc CX E Φ Γ k){x:Str}{es:List CE}(h:vk (.raise_ x es) N sc st=Nk)(hx:XC X.prog X.w X.K X.mg (.cls x))(ha:PA X (cC es N (vw (vs st).e0).es) (tL X.K X.mg E Φ Γ es)):PS X (jg (.raise_ x es) N st) (tS X.K X.mg E Φ Γ (.raise_ x es)):=by
 obtain⟨h1,h⟩:=aa h;obtain⟨_,h⟩:=aa h;obtain⟨h2,h3⟩:=aa h;obtain⟨C,K,hq⟩:=hx;obtain⟨g1,g2,_⟩:=cN h1;intro pq s σ H D I zz;have own:=vI I.mod.kin K hq;cases es with
 |nil=>cases h2
 |cons e es=>
  have d:∀z∈cC (e::es) N (vw (vs st).e0).es,bC z=Nk:=Zm.mp h3;obtain⟨tl,N0,V,q,bs,a,Y,g,B,c,G,L,M,P,Q,R,U,hC,hN,o,T⟩:=own.obj;show wpAny _ _ (exec (.Raise (some (.Call (.Name x _) (aY e N _::cC es N _) [] _)) none _) X.env) _ _ s
  refine wpAny_Raise_call_subU (C:=C) (nm:=V) (q:=q) (N:=N0) (bs:=bs) (bm:=tl) (hdct:=a) (sn:=Y) (sub:=g) (ab:=B) (col:=c) (dd:=G) (k0:=L) (k1:=M) (k2:=P) (k3:=Q) (k5:=R)
   PySem.F.excBase_ValueError (bmB:=eh) (by decide+kernel) PySem.F.excBase_ValueError (mN:=U) (T.hasType (by decide+kernel)) (I.ok.hd O.x.calm) (hZ d) o (iM I (O.x.gl g1) own.bound ⟨rfl,?_⟩ g2)
  obtain⟨F,u,A,S,sk,en,w⟩:=zz;have J:=ha (vw (vs st).e0).pos pq s σ H (λt H1=>t.length<=sizeLine/\E (.ref C) none H1) I ⟨F,u,A,S,sk,en,?_⟩
  ·have he:=cr (env:=X.env) (es:=cC es N (vw (vs st).e0).es.tail) (d _ Ze);have b:wpAny _ _ (spliced (backTo _ (starEach (aY e N ((vw (vs st).e0).es.headD dE)::cC es N (vw (vs st).e0).es.tail) X.env))) _ _ s:=J;rw[he]at b⊢;refine Pn (ZJ b (λus Z f=>?_) λ_ _ y=>y);obtain⟨t,H1,i,r,z,q⟩:=f;exact⟨rfl,by rw[<-r.length];exact z,(i.bs _ _ hC).1,hN.keeps i.bk,T.keeps i.bk,λJ e m=>O.made.plain i m q⟩
  ·have W:au X.K ⟨X.mg,F⟩ E D u H ((ah Φ Γ (e::es) A S).bind λl j=>if l.length<=1000 then .err ⟨x,[]⟩ j else .fail):=w;cases n:ah Φ Γ (e::es) A S with
   |ok l j=>
    rw[n]at W;intro v H' t x1 s1 r1;have p:au X.K ⟨X.mg,F⟩ E D u H (if l.length<=1000 then .err ⟨x,[]⟩ j else .fail):=W;split at p
    ·rename_i hl;exact⟨by rw[<-r1.length];exact ZD hl (by decide),p v H' x1 s1 (.ref C) none ⟨K,.inl rfl⟩⟩
    ·exact p.elim
   |err y j=>rw[n]at W;exact W
   |fail=>rw[n]at W;exact W
noncomputable def MI(nb:Option (Str×Nat×Pos×Pos))(r:Str):D:=match nb with
 |none=>.str r
 |some (y,_)=>.lst [.str y,.str r]
noncomputable def iE(nb:Option (Str×Nat×Pos×Pos))(y w:Ls):Res Fl->Res Fl
 | .err x S'=>(match x.fs,(y.zip w).lookup x.cls with
  | [],some r=>.ok (.ret (MI nb r)) S'
  |_,_=>.fail)
 |r=>r
theorem vQ(O:lp X N sc CX E Φ Γ k){i:Nat}{f:Str}{y W:Ls}{np pos:Pos}(h:(N[i]?==some (N.getD i "")&&(sc.lookup (N.getD i "")==some .local&&(dz (N.getD i "")&&(br sc "PairError"&&(br sc f&&eg body N sc (vs st).a)))))=Nk)(hx:XC X.prog X.w X.K X.mg (.kind f y W))
  (Y:∀{X':Cx} {E':XK},X'.prog=X.prog->X'.w=X.w->X'.K=X.K->X'.mg=X.mg->lp X' N sc CX E' Φ Γ k->ec X' (cu body N (vs st).a) (kZ X'.K X'.mg E' Φ Γ body)):
  PS X (.Try (cu body N (vs st).a) [Ci nb "PairError" (N.getD i "") f tp np vp cp rp hp] [] [] pos) (λD σ H=>∃F μ ρ S,aJ X.K ⟨X.mg,F⟩ μ S H/\aU X.K ⟨X.mg,F⟩ μ H ρ σ/\au X.K ⟨X.mg,F⟩ E D μ H (iE nb y W (af Φ Γ body ρ S))):=by
 obtain⟨Q,h⟩:=aa h;obtain⟨R,h⟩:=aa h;obtain⟨T,h⟩:=aa h;obtain⟨U,h⟩:=aa h;obtain⟨V,h6⟩:=aa h;obtain⟨B,P,m1,m2,m3,m4⟩:=hx;obtain⟨J,K,_⟩:=cN U;obtain⟨L,M,_⟩:=cN V;have Z:ic X "PairError" (N.getD i "") f i B P:=⟨O.fr.1,O.fr.2.1,O.fr.2.2,O.x.room.depth,⟨O.x.gl J,m3,K⟩,⟨O.x.gl L,m1,M⟩,m2,by rw[O.x.n];exact O.x.nd,by rw[O.x.n];exact Zx Q,by rw[O.x.sc];exact Zx R,T,O.x.fn _ rfl⟩;intro pq s σ H D I zz;obtain⟨F,μ,ρ,S,sk,A,w⟩:=zz;refine li I (Y (X':=XB X pq D _) (E':=EH X [.Return (some (FG nb (.Call (.Name f np) [.Name (N.getD i "") vp] [] cp))) rp] i P D) rfl rfl rfl rfl ⟨⟨O.x.n,O.x.nd,O.x.sc,O.x.kd,O.x.calm,O.x.room,O.x.fn,O.x.mod,?_,O.x.cx0⟩,rV,O.cx,O.fr,rX Z⟩) ⟨F,μ,ρ,S,sk,A,?_⟩
 ·rw[O.cx];exact rW Z
 ·show au X.K ⟨X.mg,F⟩ (EH X _ i P D) D μ H (af Φ Γ body ρ S);cases e:af Φ Γ body ρ S with
  |ok G g=>rw[e]at w;cases G<;>exact w
  |fail=>rw[e]at w;exact w
  |err x g=>
   rw[e]at w;obtain⟨cls,fs⟩:=x;cases fs with
   |cons _ _=>exact False.elim w
   |nil=>
    cases c:(y.zip W).lookup cls with
    |none=>dsimp only[iE]at w;rw[c]at w;exact False.elim w
    |some r=>
     dsimp only[iE]at w;rw[c]at w;have m:au X.K ⟨X.mg,F⟩ E D μ H (.ok (.ret (MI nb r)) g):=w;intro a H' n l v j hv;obtain⟨C,o,t,z⟩:=m4 cls r c v hv.1;subst o;refine o5 Z (z _) t λv b u=>?_;cases nb with
     |none=>obtain⟨rfl,u⟩:=u;exact m a b (.str r) (n.trans u.ext) (u.sok l) fJ
     |some q=>obtain⟨p,H1,u,hp,rfl,rfl⟩:=u;have d:=u.sok l;exact m a _ _ ((n.trans u.ext).trans (.laid hp)) (d.laid hp) (by unfold Rep;exact⟨p,_,rfl,a8,⟨d.notin hp,d.notF hp⟩,.cons fJ (.cons fJ .nil)⟩)
theorem C1(O:lp X N sc CX E Φ Γ k){i:Nat}{f:Str}{y W:Ls}(h:vk (.tryK i body f y W) N sc st=Nk)(d:XC X.prog X.w X.K X.mg (.kind f y W))
  (c:∀{X':Cx} {E':XK},X'.prog=X.prog->X'.w=X.w->X'.K=X.K->X'.mg=X.mg->lp X' N sc CX E' Φ Γ k->ec X' (cu body N (vs st).a) (kZ X'.K X'.mg E' Φ Γ body)):PS X (jg (.tryK i body f y W) N st) (tS X.K X.mg E Φ Γ (.tryK i body f y W)):=by
 intro p s l H D I ⟨F,j,a,S,g,b,w⟩;refine vQ O (nb:=none) h d c p s l H D I ⟨F,j,a,S,g,b,?_⟩;have e:iE none y W (af Φ Γ body a S)=aq Φ Γ (.tryK i body f y W) a S:=rfl;trivial
theorem JW(O:lp X N sc CX E Φ Γ k){x:Str}{es:List CE}(h:vk (.raiseI x es) N sc st=Nk)(hx:C0 X.prog X.w X.K X.mg k (.init x))(ha:PA X (cC es N (vw (vs st).e0).es) (tL X.K X.mg E Φ Γ es)):PS X (jg (.raiseI x es) N st) (tS X.K X.mg E Φ Γ (.raiseI x es)):=by
 obtain⟨l,h⟩:=aa h;obtain⟨_,h⟩:=aa h;obtain⟨n,h3⟩:=aa h;obtain⟨⟨C,Q,fI,cd,hm,kp,G,T,IF,hb⟩,hk⟩:=hx;obtain⟨g1,g2,_⟩:=cN l;intro pq s σ H D I zz;obtain⟨F,μ,ρ,S,sk,en,w⟩:=zz;obtain⟨bm,N0,nm,qn,bs,V,sn,Y,ab,W,dd,k0,k1,k2,k3,k5,mN,hC,hN,hi,TL⟩:=pd I.mod.kin hb;obtain⟨fd,FI,BI,od,osl,lk⟩:=o_ (P:=X.prog) (w:=X.w) (mg:=X.mg) (base:=X.base) (CX:=Fw) (k:=0) IF G.z T G.mn G.mt;have hst:∀z∈cC es N (vw (vs st).e0).es,bC z=Nk:=Zm.mp h3;show wpAny _ _ (exec (.Raise (some (.Call (.Name x _) (cC es N _) [] _)) none _) X.env) _ _ s;rw[arm_exec_Raise];refine Za (OK (JP (C:=C) (nm:=nm) (q:=qn) (N:=N0) (bs:=bs) (bm:=bm) (hdct:=V) (sn:=sn) (sub:=Y) (ab:=ab) (col:=W) (dd:=dd) (k0:=k0) (k1:=k1) (k2:=k2) (k3:=k3) (k5:=k5) (TL.hasType (by decide+kernel)) (I.ok.hd O.x.calm) ?_));refine Za (ZJ (Q:=λv A=>∃e dx vs,v=NB e/\A.heap.get? C=some (excClassObj nm qn C N0 bs bm V sn Y ab W dd k0 k1 k2 k3 k5 "ValueError.__new__")/\A.heap.get? e=some {cls:=NB C,dict:=dx,data:=Data.fields vs}/\vs[1]?=some Nr/\X.xe (NB e) A) ?_ (λv s' q=>Za (OK (Zd q))) λ_ _ q=>q);refine Og (iM I (O.x.gl g1) hm ?_ g2);cases es with
 |nil=>cases n
 |cons e es=>
  have he:=cr (env:=X.env) (es:=cC es N (vw (vs st).e0).es.tail) (hst _ Ze);have hpl:=hZ (env:=X.env) (pos:=(vw (vs st).e0).pos) (es:=cC es N (vw (vs st).e0).es.tail) λz hz=>hst z (Zc _ hz);have h':=ha (vw (vs st).e0).pos pq s σ H (λws H1=>∃a b B L,ws=[.int a,.int b]/\Ext μ H B H1/\aJ X.K ⟨X.mg,F⟩ B L H1/\∀U H',Ext B H1 U H'->aJ X.K ⟨X.mg,F⟩ U L H'->uk X.mg E ⟨x,[.int a,.int b]⟩ H') I ⟨F,μ,ρ,S,sk,en,?_⟩
  ·refine PySem.W.callWith_K (h₀:=X.base) I.ok.mod.kin kp (aO h' λus s1 ⟨ws,H1,K,r,a,b,B,L,hw,x1,ss1,hE⟩=>⟨K.kIn,?_⟩) he hpl;subst hw;obtain⟨hh,g,d,t,os⟩:=s1;have hl:us.length<=sizeLine:=by rw[<-r.length];show 2<=sizeLine;decide
   refine JO (TL.keeps K.bk) (K.bs _ _ hC).1 (hN.keeps K.bk) hi (K.kIn _ _ lk) rfl hl λh' e m=>?_;obtain⟨t0,m1,m2,m3⟩:=m.there
   have nH:H1 e=none:=by
    cases R:H1 e with
    |none=>rfl
    |some u=>obtain⟨o,ho⟩:=vx (K.hok e u R);rw[m.new]at ho;cases ho
   have n0:X.s₀.heap.get? e=none:=by
    cases R:X.s₀.heap.get? e with
    |none=>rfl
    |some o=>obtain⟨o',h10⟩:=K.base.there e o R (by rw[O.fr.1];simp);rw[m.new]at h10;cases h10
   have np:∀p∈X.pn++pq,p.1≠e:=λp hp z=>by have:=(K.pin p hp).1;rw[z,m.new]at this;cases this
   have J:=K.kept (t':=t) m.keeps;have J2:=CG (ob:=g7 e C _ none) J O.fr.1 n0 np nH m1 rfl (lm m1);have hr:b5 1 (X.A.under (.builtin "type.__call__" ⟨.ref C::us,[]⟩)):=(O.x.room.mono hk).make C us []
   refine Pu (OV (FI.run _ X.stack _ _ _ (.ref e::us) [.ref e,.int a,.int b] (λv H2=>v=.non/\∃d u v,RelV (.int a) u/\RelV (.int b) v/\aP H1 e (g7 e C _ none) d=none/\H2=aP (aP (aP (aP H1 e (g7 e C _ none)) d (iC d (fC "many" u λ_=>none))) e (g7 e C _ (some d))) d (iC d (fC "most" v (fC "many" u λ_=>none)))) E0 hr (J2.env0.make C us []) (by
    have:=BI ⟨h',g,d,t,os⟩ (.ref e::us) J2.kIn (by rw[N4,ZM,<-r.length];rfl)
    rwa [N4]at this) (.cons rfl r) ⟨e,a,b,_,rfl,a8,λd u v ru rv V=>⟨rfl,d,u,v,ru,rv,V,rfl⟩⟩) λrs s' R=>?_)
   cases rs with
   |error z=>exact R.elim
   |ok fl=>
    cases fl with
    |ret u=>
     obtain⟨v,H2,I2,r2,ev,d,u1,v1,ru,rv,V,eH⟩:=J2.after R;subst ev eH;obtain rfl:u=Nr:=r2;have c:d≠e:=λz=>by rw[z,a8]at V;cases V
     have hd1:H1 d=none:=by rwa [av c]at V
     obtain⟨g1,_,_⟩:=(show aQ X.prog X.w _ s'.heap e (g7 e C _ (some d))from I2.hok e _ (by rw[av (Ne.symm c),a8]));obtain⟨g2,⟨od2,g3⟩,_⟩:=(show aQ X.prog X.w _ s'.heap d (iC d (fC "most" v1 (fC "many" u1 λ_=>none)))from I2.hok d _ a8);have I3:=I2.write (x:=d) (e:=d) (o:=.xd (rY a b)) (h':=s'.heap) (t':=s'.toks) (by rw[a8];exact Pk) (.inl rfl) (λb u _ h=>h) ⟨_,g3⟩ ⟨_,g2,λf=>?_⟩
     ·have I4:=JE (e:=e) I3 (by rw[av (Ne.symm c),av (Ne.symm c),a8];rfl)
      have eq:∀Z:Av,gG (aP (aP (aP (aP (aP H1 e (g7 e C Z none)) d (iC d (fC "many" u1 λ_=>none))) e (g7 e C Z (some d))) d (iC d (fC "most" v1 (fC "many" u1 λ_=>none)))) d (.xd (rY a b))) e=aP H1 d (.xd (rY a b)):=by
       intro Z;funext z;unfold gG;by_cases l:z=e
       ·rw[if_pos l,l,av (Ne.symm c),nH]
       ·rw[if_neg l];by_cases n:z=d
        ·rw[n,a8,a8]
        ·rw[av n,av n,av l,av n,av l,av n]
      rw[eq]at I4;have M:=O.made pq σ H1 _ _ s' e C (some d) #[NB t0,Nr,Nr,Nr,OI Nl,Nr] (.ref t0) K m.new I4 g1 rfl rfl (by rw[av (Ne.symm c),nH]) (hE B _ (.laid hd1) (ss1.laid hd1) (.ref C) (some d) ⟨hm,.inr ⟨d,a,b,rfl,rfl,a8⟩⟩);refine⟨rfl,?_⟩;exact⟨e,some d, #[NB t0,Nr,Nr,Nr,OI Nl,Nr],rfl,(I2.bs _ _ hC).1,g1,rfl,M⟩
     ·unfold fC rY;by_cases l:f="most"
      ·subst l;exact rv
      ·by_cases n:f="many"
       ·subst n;exact ru
       ·rw[if_neg l,if_neg n];have e1:(f==("many":Str))=Nl:=by simpa using n
        have e2:(f==("most":Str))=Nl:=by simpa using l
        simp only[List.lookup,e1,e2];exact Pk
    |next=>exact False.elim R
    |brk=>exact False.elim R
    |cont=>exact False.elim R
  ·have w':au X.K ⟨X.mg,F⟩ E D μ H ((ah Φ Γ (e::es) ρ S).bind λds L=>match ds with
    | [.int i,.int j]=>.err ⟨x,[.int i,.int j]⟩ L
    |_=>.fail):=w
   cases ed:ah Φ Γ (e::es) ρ S with
   |ok ds L=>
    rw[ed]at w';intro U H' ws x1 s1 r1
    have w2:au X.K ⟨X.mg,F⟩ E D μ H (match(generalizing:=false) ds with
     | [.int i,.int j]=>.err ⟨x,[.int i,.int j]⟩ L
     |_=>.fail):=w'
    split at w2
    ·rename_i i j;obtain⟨va,vb,rfl,ra,rb⟩:=r1.two;obtain rfl:=(show va=.int i from by unfold Rep at ra;exact ra);obtain rfl:=(show vb=.int j from by unfold Rep at rb;exact rb);exact⟨i,j,U,L,rfl,x1,s1,λμ2 H2 x2 s2=>w2 μ2 H2 (x1.trans x2) s2⟩
    ·exact w2.elim
   |err y L=>rw[ed]at w';exact w'
   |fail=>rw[ed]at w';exact w'
theorem pp(O:lp X N sc CX E Φ Γ k){pre:Option Str}{g:Str}{i:Nat}{f:Str}{y W:Ls}(h:vk (.tryG pre g i body f y W) N sc st=Nk)(hx:XC X.prog X.w X.K X.mg (.kind f y W))(hg:XC X.prog X.w X.K X.mg (.great g y W))
  (hb:∀{X':Cx} {E':XK},X'.prog=X.prog->X'.w=X.w->X'.K=X.K->X'.mg=X.mg->lp X' N sc CX E' Φ Γ k->ec X' (cu body N (vs st).a) (kZ X'.K X'.mg E' Φ Γ body)):PS X (jg (.tryG pre g i body f y W) N st) (tS X.K X.mg E Φ Γ (.tryG pre g i body f y W)):=by
 obtain⟨h1,h⟩:=aa h;obtain⟨h2,h⟩:=aa h;obtain⟨h3,h⟩:=aa h;obtain⟨h4,h⟩:=aa h;obtain⟨h5,h6⟩:=aa h;obtain⟨Y,P,m1,m2,m3,m4⟩:=hx;obtain⟨g1,g2,_⟩:=cN h4;obtain⟨g3,g4,_⟩:=cN h5;have Z:ic X "PairError" (N.getD i "") f i Y P:=⟨O.fr.1,O.fr.2.1,O.fr.2.2,O.x.room.depth,⟨O.x.gl g1,m3,g2⟩,⟨O.x.gl g3,m1,g4⟩,m2,by rw[O.x.n];exact O.x.nd,by rw[O.x.n];exact Zx h1,by rw[O.x.sc];exact Zx h2,h3,O.x.fn _ rfl⟩;intro pq s σ H D I zz;obtain⟨F,A,m,S,sk,V,w⟩:=zz;refine li I (hb (X':=XB X pq D _) (E':=EH X (ME pre g (N.getD i "") f ((vs st).b.headD dS) ((vs st).b.tail.headD dS)) i P D) rfl rfl rfl rfl ⟨⟨O.x.n,O.x.nd,O.x.sc,O.x.kd,O.x.calm,O.x.room,O.x.fn,O.x.mod,?_,O.x.cx0⟩,rV,O.cx,O.fr,rX Z⟩) ⟨F,A,m,S,sk,V,?_⟩
 ·rw[O.cx];exact rW Z
 ·show au X.K ⟨X.mg,F⟩ (EH X _ i P D) D A H (af Φ Γ body m S);have w:au X.K ⟨X.mg,F⟩ E D A H (aq Φ Γ (.tryG pre g i body f y W) m S):=w;rw[aq]at w;cases o:af Φ Γ body m S with
  |ok fl L=>rw[o]at w;cases fl<;>exact w
  |fail=>rw[o]at w;exact w
  |err x L=>
   rw[o]at w;obtain⟨cls,fs⟩:=x;dsimp only at w;cases e:(y.zip W).lookup cls with
   |none=>rw[e]at w;exact False.elim w
   |some r=>
    rw[e]at w;dsimp only at w;intro c H' K J v B t;obtain⟨C,Q,R,T⟩:=m4 cls r e v t.1;subst Q;refine JJ (pre:=pre.map _) Z (T _) R (λl n u=>?_) (λl=>?_)
    ·rw[if_neg l]at w;cases fs with
     |cons _ _=>exact False.elim w
     |nil=>exact w c n (.str r) (K.trans u.ext) (u.sok J) fJ
    ·rw[if_pos l]at w;obtain⟨C',M,U,G⟩:=hg cls (by rw[e,l]) _ t.1;cases U;split at w
     ·rename_i a b;obtain⟨_,q| ⟨d,a',b',rfl,q,hd⟩⟩:=t
      ·cases q
      ·cases q;refine⟨d,a,b,M,rfl,hd,G,λp H1 u j=>?_⟩;have z:=u.sok J;refine w c _ _ ((K.trans u.ext).trans (.laid j)) (z.laid j) ?_;unfold Rep;refine⟨p,_,rfl,a8,⟨z.notin j,z.notF j⟩,?_⟩;cases pre with
       |none=>exact .cons bq (.cons bq .nil)
       |some q=>exact .cons fJ (.cons bq (.cons bq .nil))
     ·exact False.elim w
end
mutual
theorem vR(c:CS):∀{X:Cx} {N:Ls} {sc:Sc} {CX:dk} {E:XK} {Φ:FT} {Γ:Str->Option D} {k:Nat} {st:Oq},lp X N sc CX E Φ Γ k->vk c N sc st=Nk->(∀z∈MH c,C0 X.prog X.w X.K X.mg k z)->PS X (jg c N st) (tS X.K X.mg E Φ Γ c):=by
 intro X N sc CX E Φ Γ k st O h d;cases c with
 |asg i e=>exact Cn O.x h
 |asgT t e=>exact vJ O.x (kX (aa h).1) ((aa (aa h).2).1) (aa (aa (aa h).2).2).1 (aa (aa (aa (aa h).2).2).2).1 (aL e O.x (aa (aa (aa (aa h).2).2).2).2)
 |par is l=>exact CQ O.x (aa h).1 (hY (aa (aa h).2).1) (aa (aa (aa h).2).2).2 (dc l O.x (aa (aa (aa h).2).2).1)
 |set o i v=>exact CU (aa (aa h).1).1 (aa (aa h).2).1 (aL o O.x (aa (aa (aa h).1).2).1) (aL i O.x (aa (aa (aa h).1).2).2) (aL v O.x (aa (aa h).2).2)
 |expr e=>exact vK (aa h).1 (aL e O.x (aa h).2)
 |ret e=>exact CV (aL e O.x h)
 |retN=>exact vL
 |pass=>exact vM
 |brk=>exact CW
 |cont=>exact vN
 |ite c a b=>exact JV (dR c O.x (aa h).1) (gH a O (aa (aa h).2).1 λz j=>d z (Yd _ j)) (gH b O (aa (aa h).2).2 λz j=>d z (ZC _ j))
 |for_ t it body=>exact CZ O.own O.x.calm (oS it O.x (aa (aa h).2).1 kX) (kG O.x (aa h).1) (oH (aa (aa (aa h).2).2).1) (gH body O (aa (aa (aa h).2).2).2 d)
 |while_ n c body=>exact pi O.own (dR c O.x (aa h).1) (gH body O (aa h).2 d)
 |never=>exact λP s K H D I Z=>aF Z λF G J S C B w=>w.elim
 |raise_ x l=>exact po O h (d _ Ze).1 (dc l O.x (aa (aa h).2).1)
 |tryK i body f Y W=>exact C1 O h (d _ Ze).1 λ{A y} p q r u m=>gH body m (aa (aa (aa (aa (aa h).2).2).2).2).2 λz j=>by rw[p,q,r,u];exact d z (Zc _ j)
 |raiseI x l=>exact JW O h (d _ Ze) (dc l O.x (aa (aa h).2).1)
 |tryG pre g i body f Y W=>exact pp O h (d _ Ze).1 (d _ (Zc _ Ze)).1 λ{A y} p q r u m=>gH body m (aa (aa (aa (aa (aa h).2).2).2).2).2 λz j=>by rw[p,q,r,u];exact d z (Zc _ (Zc _ j))
theorem gH(cs:List CS):∀{X:Cx} {N:Ls} {sc:Sc} {CX:dk} {E:XK} {Φ:FT} {Γ:Str->Option D} {k:Nat} {st:List Oq},lp X N sc CX E Φ Γ k->eg cs N sc st=Nk->(∀z∈dD cs,C0 X.prog X.w X.K X.mg k z)->ec X (cu cs N st) (kZ X.K X.mg E Φ Γ cs):=by
 intro X N sc CX E Φ Γ k st O h a;cases cs with
 |nil=>exact vO
 |cons c cs=>exact ph (vR c O (aa h).1 λz H=>a z (Yd _ H)) (gH cs O (aa h).2 λz H=>a z (ZC _ H))
end
mutual
noncomputable def a7(k:Nat):D->Bool
 | .tup xs=>bz k xs
 | .lst xs=>bz k xs
 | .scr xs=>bz k xs
 | .ref n=>decide (n<k)
 |_=>Nk
noncomputable def bz(k:Nat):List D->Bool
 | []=>Nk
 |x::xs=>a7 k x&&bz k xs
end
noncomputable def el(k:Nat)(d:D)(S':ae):Res D:=
 if(S'.take k).all (bz k)=Nk then
  (if a7 k d=Nk then .ok d (S'.take k)else match d with
   | .ref n=>(match S'[n]? with
    |some xs=>if bz k xs=Nk/\k<=n then .ok (.ref k) (S'.take k++[xs])else .fail
    |none=>.fail)
   |_=>.fail)
 else .fail
noncomputable def aD(Φ:FT)(Γ:Str->Option D)(body:List CS)(n np:Nat)(ds:List D)(S:ae):Res D:=
 if ds.length=np then
  (match af Φ Γ body (ds.map some++Nw (n-np) none) S with
  | .ok (.ret d) S'=>el S.length d S'
  | .ok (.next _) S'=>el S.length .non S'
  | .err x S'=>if(S'.take S.length).all (bz S.length)=Nk then .err x (S'.take S.length)else .fail
  |_=>.fail)
 else .fail
section
variable {mg:GS}{μ'':La}{k:Nat}
mutual
theorem Rep.low(b:∀n,n<k->μ''[n]?=μ'[n]?)(hs:∀a∈μ'',a∈μ'):∀(d:D) (v:V),a7 k d=Nk->Rep K mg μ' H d v->Rep K mg μ'' H d v
 | .non,_,_,h=>h
 | .bl _,_,_,h=>h
 | .int _,_,_,h=>h
 | .str _,_,_,h=>h
 | .tup _,v,l,h=>by obtain⟨a,vs,e,q,r⟩:=h;exact⟨a,_,e,q,ai.low b hs _ _ l r⟩
 | .lst _,v,l,h=>by obtain⟨a,vs,e,q,n,r⟩:=h;exact⟨a,_,e,q,⟨λz=>n.1 (hs a z),n.2⟩,ai.low b hs _ _ l r⟩
 | .scr _,v,l,h=>by obtain⟨a,vs,e,q,r⟩:=h;exact⟨a,_,e,q,ai.low b hs _ _ l r⟩
 | .ref n,v,l,h=>by dsimp only[Rep]at h⊢;dsimp only[a7]at l;simp_all
 | .fn y,v,_,h=>h
 | .ty y,v,_,h=>h
 | .dct,v,_,h=>h
 | .dks _,v,_,h=>h
theorem ai.low(b:∀n,n<k->μ''[n]?=μ'[n]?)(hs:∀a∈μ'',a∈μ'):∀(ds:List D) (vs:List V),bz k ds=Nk->ai K mg μ' H ds vs->ai K mg μ'' H ds vs
 | [],vs,_,h=>h
 |d::ds,vs,l,h=>by dsimp only[bz]at l;simp at l;obtain⟨w,W,e,r,q⟩:=h;exact⟨w,_,e,Rep.low b hs d w l.1 r,ai.low b hs _ _ l.2 q⟩
end
theorem Ext.cut(x:Ext μ H μ' H'):Ext μ H μ H':=⟨⟨[],by simp⟩,x.keep,x.there,λ_ h=>.inl h⟩
theorem aJ.cut(x:Ext μ H μ' H')(f:μ.length=k)(s:aJ K mg μ' S' H')(l:(S'.take k).all (bz k)=Nk):aJ K mg μ (S'.take k) H':=by obtain⟨r,rfl⟩:=x.pre;have g:=s.len;refine⟨s.live,by grind,(OF.mp s.nd).1,λn a D e h=>?_⟩;have c:=h;rw[P2 (by grind)]at h;obtain⟨vs,q,R⟩:=s.at_ n a _ (by grind) h;exact⟨_,q,ai.low λm i=>by grind (λb d=>Yd _ d) _ _ (Zm.mp l _ (Zo c)) R⟩
theorem C2{E:XK}{Q:VK}(x:Ext μ H μ' H')(u:μ.length=k)(s:aJ K mg μ' S' H')(r:Rep K mg μ' H' d v)(w:ak K mg E (Rep K mg) μ H Q (el k d S')):Q v H':=by
 unfold el at w;split at w
 ·rename_i y;split at w
  ·rename_i J;refine w μ H' v x.cut (aJ.cut x u s y) ?_;obtain⟨R,rfl⟩:=x.pre;exact Rep.low (k:=k) (λm l=>by rw[Zw (by omega)]) (λb f=>Yd _ f) _ _ J r
  ·split at w
   ·rename_i n M;split at w
    ·rename_i X N;split at w
     ·rename_i B;unfold Rep at r;obtain⟨a,rfl,p⟩:=r;obtain⟨vs,q,P⟩:=s.at_ n a X p N;have T:=aJ.cut x u s y;obtain⟨R,rfl⟩:=x.pre;have Ci:=OF.mp s.nd;have L:μ.length<=n:=by omega
      have e:a∈R:=by rw[Zp L]at p;exact Zo p
      have i:a∉μ:=λz=>Ci.2.2 a z a e rfl
      have t:H a=none:=by
       rcases x.fresh a (ZC _ e)with z|z
       ·exact absurd z i
       ·exact z
      have j:∀b∈μ++[a],b∈μ++R:=λb f=>by
       rcases ZP.mp f with z|z
       ·exact Yd _ z
       ·have:b=a:=by simpa using z
        subst this;exact ZC _ e
      have S:∀m,m<k->(μ++[a])[m]?=(μ++R)[m]? :=λm l=>by rw[Zw (by omega),Zw (by omega)]
      have A:=s.len;simp at A;refine w (μ++[a]) H' (.ref a) ⟨⟨[a],rfl⟩,x.keep,x.there,λb f=>?_⟩ ⟨s.live,?_,?_,λm b D g h=>?_⟩ ?_
      ·rcases ZP.mp f with z|z
       ·exact .inl z
       ·have:b=a:=by simpa using z
        subst this;exact .inr t
      ·rw[Zn,Zn,NV];simp;omega
      ·rw[OF]
       exact⟨Ci.1,by simp,λb f c I=>by
        have:c=a:=by simpa using I
        subst this;intro z;subst z;exact i f⟩
      ·by_cases l:m<μ.length
       ·rw[Zw l]at g;rw[Zw (by rw[NV];omega)]at h;have o:=h;rw[P2 (by omega)]at h;obtain⟨W,O,C⟩:=s.at_ m b D (by rw[Zw l];exact g) h;exact⟨W,O,ai.low (k:=k) S j _ _ (Zm.mp y D (Zo o)) C⟩
       ·have F:m=μ.length:=by
         have:=(Zg.mp g).1;simp at this;omega
        subst F;rw[Zp (Zh _)]at g;rw[Zp (by rw[NV];omega)]at h;have G:μ.length-(S'.take k).length=0:=by rw[NV];omega
        rw[G]at h;simp at g h;subst g;subst h;exact⟨vs,q,ai.low (k:=k) S j _ _ B.1 P⟩
      ·unfold Rep;exact⟨a,rfl,by rw[<-u,Zp (Zh _)];simp⟩
     ·exact w.elim
    ·exact w.elim
   ·exact w.elim
 ·exact w.elim
end
theorem JX{mg:GS}{vs:List V}(r:ai K mg μ H ds vs):aU K mg μ H (ds.map some++Nw (N.length-ds.length) none) (L2.start N vs):=by
 unfold L2.start;have c:=r.length;refine⟨by simp[c],λi d e=>?_⟩;by_cases h:i<ds.length
 ·rw[Zw (by simpa using h),Z2]at e;cases E:ds[i]? with
  |none=>rw[E]at e;cases e
  |some D=>rw[E]at e;cases e;obtain⟨v,a,b⟩:=r.get E;exact⟨v,by rw[Zw (by simp;omega),Z2,a];rfl,b⟩
 ·rw[Zp (by simpa using h),P8]at e;split at e<;>cases e
section
variable {P:Nu}{k:Nat}
theorem bL.mono{j:Nat}{f:Str}(F:bL P w K mg base CX j f φ)(h:j<=k):bL P w K mg base CX k f φ:=by obtain⟨c,d,p,m,M,m3,a,b⟩:=F.ex;exact⟨_,_,_,m,M,m3,a.mono h,b⟩
theorem C3{x:Str}{u:Ob}(F:mP K x qual st f u)(S:bv N ps (bo st))(M:Fz P w K mg base (bn P w) Φ Γ k)(R:cu body N (bU st)=bU st)(J:eg body N (bo st).names (bU st)=Nk)(V:∀z∈dD body,C0 P w K mg k z):
  cI P w K mg base (bn P w) (k+1) f u ps (ur K mg ps.length (aD Φ Γ body N.length ps.length)):=by
 obtain⟨oc,od,kV,G,pm,an,c,ct,X,rfl,lk,n⟩:=F.ex;refine rh lk n S (λvs H Q E h=>h.1) λA o s H vs Q E U h=>?_
 ·obtain⟨T,q,l,b,D,B,r,W⟩:=h;have L:jO (eI (bn P w) P w K mg base N qual (bo st) f c A o s H E) E:=jO.of;have O:lp (eI (bn P w) P w K mg base N qual (bo st) f c A o s H E) N (bo st).names (bn P w) E Φ Γ k:=⟨⟨rfl,S.nd,rfl,S.kind,rfl,U,λ_ _=>rfl,M,L.pass,rT⟩,L.own,rfl,⟨rfl,rfl,rfl⟩,L.all⟩;refine⟨_,R▸gH body O J V,q,l,D.map some++Nw (N.length-D.length) none,b,B,JX r,?_⟩;have g:D.length=ps.length:=by rw[r.length];exact T
  unfold aD at W;rw[if_pos g,<-g]at W;have a:l.length=b.length:=B.len;show au K ⟨mg,q⟩ E _ l H (af Φ Γ body (D.map some++Nw (N.length-D.length) none) b);cases e:af Φ Γ body (D.map some++Nw (N.length-D.length) none) b with
  |ok I t=>
   rw[e]at W;cases I with
   |next C=>exact λj m Z x i _=>C2 x a i j9 W
   |ret d=>exact λj m v x i Y=>C2 x a i Y W
   |brk C=>exact W.elim
   |cont C=>exact W.elim
  |err y t=>
   rw[e]at W;intro j m x i;by_cases p:(t.take b.length).all (bz b.length)=Nk
   ·simp only[p,if_true]at W;exact W l m x.cut (aJ.cut x a i p)
   ·simp only[p]at W;exact W.elim
  |fail=>rw[e]at W;exact W.elim
theorem M'{x:Str}{a:Ob}(F:mP K x qual st f a)(S:bv N ps (bo st))(g:mg x=some (.ref f))(b:Binds K a ps [])(M:Fz P w K mg base (bn P w) Φ Γ k)(e:cu body N (bU st)=bU st)(c:eg body N (bo st).names (bU st)=Nk)(i:∀z∈dD body,C0 P w K mg k z):
  bL P w K mg base (bn P w) (k+1) x (aD Φ Γ body N.length ps.length):=by
 refine⟨f,a,ps,g,F.kp,b,C3 F S M e c i,λd j H=>?_⟩;unfold aD at H;by_cases h:d.length=ps.length
 ·exact h
 ·rw[if_neg h]at H;exact absurd rfl H
theorem JY{x:Str}{b:Ob}(F:mP K x qual st f b)(S:bv N ps (bo st))(d:mg x=some (.ref f))(c:Binds K b ps []):bL P w K mg base (bn P w) k x (λ_ _=>.fail):=
 ⟨f,_,_,d,F.kp,c,⟨λvs H Q E h=>h.1,λA o s H a u vs Q E _ _ _ _ h=>by obtain⟨_,_,_,_,_,_,_,z⟩:=h;exact z.elim⟩,λ_ _ h=>absurd rfl h⟩
theorem er{P:Lv->Prop}(h:∀a,P [a]):∀us:Lv,us.length=1->P us:=λus H=>by obtain⟨a,rfl⟩:=List.length_eq_one_iff.mp H;exact h a
theorem bY{P:Lv->Prop}(h:∀a b,P [a,b]):∀us:Lv,us.length=2->P us:=λus H=>by
 cases us with
 |nil=>cases H
 |cons a us=>exact er (P:=λus=>P _) (h a) _ (ZB H)
theorem jl{P:Lv->Prop}(h:∀a b c,P [a,b,c]):∀us:Lv,us.length=3->P us:=λus H=>by
 cases us with
 |nil=>cases H
 |cons a us=>exact bY (P:=λus=>P _) (h a) _ (ZB H)
noncomputable def tbl(l:List (Str×(List D->ae->Res D))):FT:=λf=>l.lookup f
theorem MJ(h:∀p∈l,bL P w K mg base (bn P w) k p.1 p.2)(b:∀x d,Γ x=some d->∃v u,mg x=some u/\RelV v u/\∀F μ H,Rep K ⟨mg,F⟩ μ H d v)(a:∀x∈gq,mg x=none):Fz P w K mg base (bn P w) (tbl l) Γ k:=
 ⟨λf c e=>h _ (ZF e),b,a⟩
end
end Py
namespace K04
noncomputable def pr:Ls:=["NoWeb","NoPlace","NoPlaces","NoTie","NoNumber","NoPairing","NoWay","NoRing","NoArrows","NoSides","NoText","NoLine","NoDeed","TooGreat"]
noncomputable def lY:Ls:=["web","place","places","tie","number","pairing","way","ring","arrows","sides","text","line","deed","great"]
noncomputable def G0:Str->Option D:=λx=>[(("MOST_PLACES":Str),D.int 8)].lookup x
noncomputable def C4:Ls:=["thing"]
noncomputable def C5:List CS:=[.ret (.band (.blt .isinst [.var 0,.ty "int"]) (.bnot (.blt .isinst [.var 0,.ty "bool"])))]
noncomputable def JZ:FT:=tbl []
noncomputable def fi:List D->ae->Res D:=aD JZ G0 C5 C4.length 1
noncomputable def C6:Ls:=["thing","low","high"]
noncomputable def lq:List CS:=[.ret (.band (.call "is_number" [.var 0]) (.chain .LtE .LtE (.var 1) (.var 0) (.var 2)))]
noncomputable def C7:FT:=tbl [("is_number",fi)]
theorem pu:C7 "is_number"=some fi:=rfl
noncomputable def fS:List D->ae->Res D:=aD C7 G0 lq C6.length 3
noncomputable def C8:Ls:=["many","thing"]
noncomputable def lr:List CS:=[.ret (.call "is_number_from" [.var 1,.lit (.int 0),.bin .Sub (.var 0) (.lit (.int 1))])]
noncomputable def vS:FT:=tbl [("is_number_from",fS)]
theorem vT:vS "is_number_from"=some fS:=rfl
noncomputable def et:List D->ae->Res D:=aD vS G0 lr C8.length 2
noncomputable def vU:Ls:=["things"]
noncomputable def vV:List CS:=[.ret (.blt .all [.comp Nl ["one","other"] [none,none] (.tup [.var 0,.var 1]) (.zip [.var 0,.sl (.var 0) [.lit (.int 1)] []]) [] (.emit (.cmp .Lt (.var 0) (.var 1)))])]
noncomputable def J1:FT:=tbl []
noncomputable def cF:List D->ae->Res D:=aD J1 G0 vV vU.length 1
noncomputable def J3:Ls:=["many","thing"]
noncomputable def r8:CE:=.comp Nl ["place","many"] [none,some 0] (.var 0) (.seq (.var 1)) [] (.emit (.call "is_place" [.var 1,.var 0]))
noncomputable def ls:List CS:=[.ret (.band (.blt .isinst [.var 1,.ty "tuple"]) (.blt .all [r8]))]
noncomputable def jm:FT:=tbl [("is_place",et)]
theorem J4:jm "is_place"=some et:=rfl
noncomputable def dH:List D->ae->Res D:=aD jm G0 ls J3.length 2
noncomputable def C9:Ls:=["many","thing"]
noncomputable def jn:List CS:=[.ret (.band (.call "are_places" [.var 0,.var 1]) (.band (.cmp .Eq (.blt .len [.var 1]) (.lit (.int 2))) (.call "is_rising" [.var 1])))]
noncomputable def pw:FT:=tbl [("are_places",dH),("is_rising",cF)]
theorem px:pw "are_places"=some dH:=rfl
theorem C_:pw "is_rising"=some cF:=rfl
noncomputable def fT:List D->ae->Res D:=aD pw G0 jn C9.length 2
noncomputable def Dc:Ls:=["thing","many","ties"]
noncomputable def Dd:CE:=.bor (.bnot (.blt .isinst [.var 0,.ty "tuple"])) (.cmp .NotEq (.blt .len [.var 0]) (.lit (.int 2)))
noncomputable def J5:CE:=.bor (.bnot (.call "is_number_from" [.var 1,.lit (.int 1),.glob "MOST_PLACES"])) (.bnot (.blt .isinst [.var 2,.ty "tuple"]))
noncomputable def yk:CE:=.comp Nl ["tie","many"] [none,some 1] (.var 0) (.seq (.var 2)) [] (.emit (.call "is_tie" [.var 1,.var 0]))
noncomputable def jo:List CS:=[.ite Dd [.ret (.lit (.bl Nl))] [],.asgT (.tup [.var 1,.var 2]) (.var 0),.ite J5 [.ret (.lit (.bl Nl))] [],.ret (.band (.blt .all [yk]) (.call "is_rising" [.var 2]))]
noncomputable def de:FT:=tbl [("is_rising",cF),("is_number_from",fS),("is_tie",fT)]
theorem De:de "is_rising"=some cF:=rfl
theorem Dg:de "is_number_from"=some fS:=rfl
theorem Dh:de "is_tie"=some fT:=rfl
noncomputable def df:List D->ae->Res D:=aD de G0 jo Dc.length 1
noncomputable def vW:Ls:=["web","thing"]
noncomputable def vX:List CS:=[.ret (.band (.call "are_places" [.idx (.var 0) (.lit (.int 0)),.var 1]) (.call "is_rising" [.var 1]))]
noncomputable def vY:FT:=tbl [("are_places",dH),("is_rising",cF)]
theorem Di:vY "are_places"=some dH:=rfl
theorem J6:vY "is_rising"=some cF:=rfl
noncomputable def fj:List D->ae->Res D:=aD vY G0 vX vW.length 2
noncomputable def Dj:Ls:=["thing"]
noncomputable def vZ:List CS:=[.ite (.bnot (.call "is_web" [.var 0])) [.raise_ "NoWeb" [.lit (.str "this is no web")]] []]
noncomputable def Dk:FT:=tbl [("is_web",df)]
theorem Dl:Dk "is_web"=some df:=rfl
noncomputable def dg:List D->ae->Res D:=aD Dk G0 vZ Dj.length 1
noncomputable def Dm:Ls:=["web","thing"]
noncomputable def Dq:List CS:=[.ite (.bnot (.call "is_place" [.idx (.var 0) (.lit (.int 0)),.var 1])) [.raise_ "NoPlace" [.lit (.str "this is no place of the web")]] []]
noncomputable def Dr:FT:=tbl [("is_place",et)]
theorem J7:Dr "is_place"=some et:=rfl
noncomputable def py:List D->ae->Res D:=aD Dr G0 Dq Dm.length 2
noncomputable def Ds:Ls:=["web","thing"]
noncomputable def Dt:List CS:=[.ite (.bnot (.call "is_some" [.var 0,.var 1])) [.raise_ "NoPlaces" [.lit (.str "this is no rising tuple of places of the web")]] []]
noncomputable def Du:FT:=tbl [("is_some",fj)]
theorem J8:Du "is_some"=some fj:=rfl
noncomputable def pz:List D->ae->Res D:=aD Du G0 Dt Ds.length 2
noncomputable def J9:Ls:=["one","other"]
noncomputable def J_:List CS:=[.ret (.tup [.blt .min [.var 0,.var 1],.blt .max [.var 0,.var 1]])]
noncomputable def J':FT:=tbl []
noncomputable def Dv:List D->ae->Res D:=aD J' G0 J_ J9.length 2
noncomputable def Ka:Ls:=["web","one","other"]
noncomputable def Kb:List CS:=[.ret (.cmp .In (.call "tie_of" [.var 1,.var 2]) (.idx (.var 0) (.lit (.int 1))))]
noncomputable def Kc:FT:=tbl [("tie_of",Dv)]
noncomputable def v8:List D->ae->Res D:=aD Kc G0 Kb Ka.length 3
noncomputable def v9:Ls:=["web","place"]
noncomputable def v_:List CS:=[.expr (.call "must_be_web" [.var 0]),.expr (.call "must_be_place" [.var 0,.var 1]),.ret (.blt .tuple [.comp Nl ["other","web","place"] [none,some 0,some 1] (.var 0) (.range [.idx (.var 0) (.lit (.int 0))]) [.call "have_tie" [.var 1,.var 2,.var 0]] (.emit (.var 0))])]
noncomputable def wa:FT:=tbl [("must_be_web",dg),("must_be_place",py),("have_tie",v8)]
theorem Dw:wa "must_be_web"=some dg:=rfl
theorem Kd:wa "must_be_place"=some py:=rfl
noncomputable def gI:List D->ae->Res D:=aD wa G0 v_ v9.length 2
noncomputable def Ke:Ls:=["web","left","start","reached","waiting","here","fresh"]
noncomputable def Kf:List CS:=[.asg 3 (.lst Nk [.var 2]),.asg 4 (.lst Nk [.var 2]),.while_ 100 (.var 4) [.asg 5 (.meth .pop (.var 4) []),.asg 6 (.comp Nl ["place","reached","web","here"] [none,some 3,some 0,some 5] (.var 0) (.seq (.var 1)) [.band (.cmp .NotIn (.var 0) (.var 1)) (.call "have_tie" [.var 2,.var 3,.var 0])] (.emit (.var 0))),.expr (.meth .extend (.var 3) [.var 6]),.expr (.meth .extend (.var 4) [.var 6])],.ret (.blt .tuple [.blt (.sorted Nl (.int)) [.var 3]])]
noncomputable def Kg:FT:=tbl [("have_tie",v8)]
noncomputable def Dx:List D->ae->Res D:=aD Kg G0 Kf Ke.length 3
noncomputable def wb:Ls:=["web","some","left","found","place"]
noncomputable def wc:List CS:=[.expr (.call "must_be_web" [.var 0]),.expr (.call "must_be_some" [.var 0,.var 1]),.asg 2 (.comp Nl ["place","some"] [none,some 1] (.var 0) (.range [.idx (.var 0) (.lit (.int 0))]) [.cmp .NotIn (.var 0) (.var 1)] (.emit (.var 0))),.asg 3 (.lst Nk []),.for_ (.var 4) (.seq (.var 2)) [.ite (.bnot (.blt .any [.comp Nl ["piece","place"] [none,some 4] (.var 0) (.seq (.var 3)) [] (.emit (.cmp .In (.var 1) (.var 0)))])) [.expr (.meth .append (.var 3) [.call "piece_of" [.var 0,.var 2,.var 4]])] []],.ret (.var 3)]
noncomputable def we:FT:=tbl [("must_be_web",dg),("must_be_some",pz),("piece_of",Dx)]
theorem Dy:we "must_be_web"=some dg:=rfl
theorem Kh:we "must_be_some"=some pz:=rfl
noncomputable def fk:List D->ae->Res D:=aD we G0 wc wb.length 2
noncomputable def Dz:Ls:=["web"]
noncomputable def DA:List CS:=[.ret (.call "pieces_without" [.var 0,.tup []])]
noncomputable def DB:FT:=tbl [("pieces_without",fk)]
theorem Ki:DB "pieces_without"=some fk:=rfl
noncomputable def ig:List D->ae->Res D:=aD DB G0 DA Dz.length 1
noncomputable def wf:Ls:=["web","other","ahead","ties","behind","more","many","moved"]
noncomputable def r9:CE:=.comp Nl ["low","high","ahead"] [none,none,some 2] (.tup [.var 0,.var 1]) (.seq (.var 5)) [] (.emit (.tup [.bin .Add (.var 0) (.var 2),.bin .Add (.var 1) (.var 2)]))
noncomputable def jp:List CS:=[.expr (.call "must_be_web" [.var 0]),.expr (.call "must_be_web" [.var 1]),.asgT (.tup [.var 2,.var 3]) (.var 0),.asgT (.tup [.var 4,.var 5]) (.var 1),.asg 6 (.bin .Add (.var 2) (.var 4)),.ite (.cmp .Gt (.var 6) (.glob "MOST_PLACES")) [.raiseI "TooGreat" [.var 6,.glob "MOST_PLACES"]] [],.asg 7 (.blt .tuple [K04.r9]),.ret (.tup [.var 6,.bin .Add (.var 3) (.var 7)])]
noncomputable def gJ:FT:=tbl [("must_be_web",dg)]
theorem pA:gJ "must_be_web"=some dg:=rfl
noncomputable def fm:List D->ae->Res D:=aD gJ G0 jp wf.length 2
noncomputable def Kj:Ls:=["_law_script","_law_k"]
noncomputable def DC:List CS:=[.ite (.cmp .Lt (.var 1) (.blt .len [.var 0])) [.ret (.idx (.var 0) (.var 1))] [],.ret (.lit (.int 0))]
noncomputable def Kk:FT:=tbl []
noncomputable def jq:List D->ae->Res D:=aD Kk G0 DC Kj.length 2
noncomputable def wg:Ls:=["_law_cell_here"]
noncomputable def wh:List CS:=[.ret (.lst Nk [.var 0,.blt .int [.cmp .GtE (.var 0) (.bin .Pow (.lit (.int 10)) (.lit (.int 18)))]])]
noncomputable def wj:FT:=tbl []
noncomputable def jr:List D->ae->Res D:=aD wj G0 wh wg.length 1
noncomputable def wk:Ls:=["_law_pen_here","_law_many","_law_found"]
noncomputable def wl:List CS:=[.ite (.cmp .Eq (.idx (.var 0) (.lit (.int 1))) (.lit (.int 1))) [.asg 2 (.bin .Mod (.idx (.var 0) (.lit (.int 0))) (.var 1)),.set (.var 0) (.lit (.int 0)) (.bin .FloorDiv (.idx (.var 0) (.lit (.int 0))) (.var 1)),.ret (.var 2)] [],.set (.var 0) (.lit (.int 0)) (.bin .Mod (.bin .Add (.bin .Mult (.bin .Mod (.idx (.var 0) (.lit (.int 0))) (.lit (.int 2147483629))) (.lit (.int 48271))) (.lit (.int 11))) (.lit (.int 2147483629))),.ret (.bin .Mod (.bin .FloorDiv (.bin .Mod (.bin .Add (.bin .Mult (.idx (.var 0) (.lit (.int 0))) (.idx (.var 0) (.lit (.int 0)))) (.bin .Mult (.lit (.int 40692)) (.idx (.var 0) (.lit (.int 0))))) (.lit (.int 2147483647))) (.lit (.int 8))) (.var 1))]
noncomputable def Kl:FT:=tbl []
noncomputable def bM:List D->ae->Res D:=aD Kl G0 wl wk.length 2
noncomputable def DD:Ls:=["_law_many","_law_found","_law_one"]
noncomputable def DE:List CS:=[.asg 1 (.lst Nl []),.for_ (.var 2) (.range [.var 0]) [.asg 1 (.bin .Add (.var 1) (.comp Nl ["_law_other","_law_one"] [none,some 2] (.var 0) (.range [.bin .Add (.var 2) (.lit (.int 1)),.var 0]) [] (.emit (.tup [.var 1,.var 0]))))],.ret (.var 1)]
noncomputable def DF:FT:=tbl []
noncomputable def pB:List D->ae->Res D:=aD DF G0 DE DD.length 1
noncomputable def Km:Ls:=["_law_pen_here","_law_upto","_law_many","_law_way","_law_rest","_law_mids","_law_often"]
noncomputable def lu:List CS:=[.asg 2 (.bin .Sub (.bin .Sub (.bin .Add (.lit (.int 1)) (.var 1)) (.lit (.int 1))) (.bin .Mod (.idx (.lst Nl [.lit (.int 0),.lit (.int 0),.lit (.int 1),.lit (.int 0),.lit (.int 2),.lit (.int 1),.lit (.int 3),.lit (.int 4),.lit (.int 5),.lit (.int 6),.lit (.int 7),.lit (.int 0)]) (.call "_law_draw" [.var 0,.lit (.int 12)])) (.var 1))),.asg 3 (.call "_law_draw" [.var 0,.lit (.int 9)]),.ite (.band (.cmp .Eq (.var 3) (.lit (.int 0))) (.cmp .Gt (.var 2) (.lit (.int 2)))) [.ret (.tup [.var 2,.blt .tuple [.blt (.sorted Nl (.seq .int)) [.bin .Add (.comp Nl ["_law_k"] [none] (.var 0) (.range [.bin .Sub (.var 2) (.lit (.int 1))]) [] (.emit (.tup [.var 0,.bin .Add (.var 0) (.lit (.int 1))]))) (.lst Nl [.tup [.lit (.int 0),.bin .Sub (.var 2) (.lit (.int 1))]])]]])] [],.ite (.band (.cmp .Eq (.var 3) (.lit (.int 1))) (.cmp .Gt (.var 2) (.lit (.int 5)))) [.asg 4 (.bin .Add (.comp Nl ["_law_k"] [none] (.var 0) (.range [.lit (.int 3),.bin .Sub (.var 2) (.lit (.int 1))]) [] (.emit (.tup [.var 0,.bin .Add (.var 0) (.lit (.int 1))]))) (.lst Nl [.tup [.lit (.int 3),.bin .Sub (.var 2) (.lit (.int 1))],.tup [.lit (.int 2),.lit (.int 3)]])),.ret (.tup [.var 2,.blt .tuple [.blt (.sorted Nl (.seq .int)) [.bin .Add (.lst Nl [.tup [.lit (.int 0),.lit (.int 1)],.tup [.lit (.int 0),.lit (.int 2)],.tup [.lit (.int 1),.lit (.int 2)]]) (.var 4)]]])] [],.ite (.band (.cmp .Eq (.var 3) (.lit (.int 2))) (.cmp .Gt (.var 2) (.lit (.int 2)))) [.asg 5 (.bin .Add (.lit (.int 1)) (.call "_law_draw" [.var 0,.lit (.int 2)])),.ret (.tup [.var 2,.blt .tuple [.comp Nl ["_law_tie","_law_mids"] [none,some 5] (.var 0) (.seq (.call "_law_pairs" [.var 2])) [.chain .Lt .LtE (.idx (.var 0) (.lit (.int 0))) (.var 1) (.idx (.var 0) (.lit (.int 1)))] (.emit (.var 0))]])] [],.ite (.cmp .Eq (.var 3) (.lit (.int 3))) [.ret (.tup [.var 2,.blt .tuple [.blt (.sorted Nl (.seq .int)) [.comp Nl ["_law_place","_law_pen_here"] [none,some 0] (.var 0) (.range [.lit (.int 1),.var 2]) [] (.emit (.tup [.call "_law_draw" [.var 1,.var 0],.var 0]))]]])] [],.asg 6 (.idx (.lst Nl [.lit (.int 2),.lit (.int 3),.lit (.int 4),.lit (.int 6),.lit (.int 8)]) (.call "_law_draw" [.var 0,.lit (.int 5)])),.ret (.tup [.var 2,.blt .tuple [.comp Nl ["_law_tie","_law_pen_here","_law_often"] [none,some 0,some 6] (.var 0) (.seq (.call "_law_pairs" [.var 2])) [.cmp .Lt (.call "_law_draw" [.var 1,.lit (.int 8)]) (.var 2)] (.emit (.var 0))]])]
noncomputable def b7:FT:=tbl [("_law_draw",bM),("_law_pairs",pB)]
theorem ew:b7 "_law_draw"=some bM:=rfl
theorem pC:b7 "_law_pairs"=some pB:=rfl
noncomputable def ii:List D->ae->Res D:=aD b7 G0 lu Km.length 2
noncomputable def dU:Ls:=["_law_found","_law_due","_law_one","_law_other"]
noncomputable def ez:List CS:=[.ite (.cmp .Is (.var 1) (.lit (.non))) [.ret (.cmp .Is (.var 0) (.lit (.non)))] [],.ite (.blt .isinst [.var 1,.ty "bool"]) [.ret (.band (.blt .isinst [.var 0,.ty "bool"]) (.cmp .Eq (.var 0) (.var 1)))] [],.ite (.blt .isinst [.var 1,.ty "int"]) [.ret (.band (.blt .isinst [.var 0,.ty "int"]) (.band (.bnot (.blt .isinst [.var 0,.ty "bool"])) (.cmp .Eq (.var 0) (.var 1))))] [],.ite (.blt .isinst [.var 1,.ty "str"]) [.ret (.band (.blt .isinst [.var 0,.ty "str"]) (.cmp .Eq (.var 0) (.var 1)))] [],.ite (.bor (.cmp .NotEq (.blt .isinst [.var 1,.ty "list"]) (.blt .isinst [.var 0,.ty "list"])) (.cmp .NotEq (.blt .isinst [.var 1,.ty "tuple"]) (.blt .isinst [.var 0,.ty "tuple"]))) [.ret (.lit (.bl Nl))] [],.ite (.cmp .NotEq (.blt .len [.var 0]) (.blt .len [.var 1])) [.ret (.lit (.bl Nl))] [],.for_ (.tup [.var 2,.var 3]) (.zip [.var 0,.var 1]) [.ite (.bnot (.call "_law_same" [.var 2,.var 3])) [.ret (.lit (.bl Nl))] []],.ret (.lit (.bl Nk))]
noncomputable def bD:Nat->List D->ae->Res D
 |0=>λ_ _=>.fail
 |n+1=>aD (tbl [("_law_same",bD n)]) G0 ez dU.length 2
noncomputable def pE:List D->ae->Res D:=bD 6
noncomputable def Ko:Ls:=["_law_pen_here","_law_web_here","_law_many","_law_ties","_law_at","_law_odd","_law_rows","_law_turned","_law_some_here"]
noncomputable def fU(e:CE):CE:=.call "_law_draw" [.var 0,e]
noncomputable def js:List CE:=[.tup [.lit (.int 0),.lit (.int 0)],.tup [.lit (.int 1),.lit (.int 0)],.tup [.lit (.int 0),.var 2],.tup [.neg (.lit (.int 1)),.lit (.int 0)],.tup [.lit (.bl Nl),.lit (.bl Nk)],.tup [.lit (.int 0),.lit (.bl Nk)],.tup [.lit (.int 0)],.tup [.lit (.int 0),.lit (.int 1),.lit (.int 2)],.lst Nl [.lit (.int 0),.lit (.int 1)],.lit (.non),.lit (.str "01")]
noncomputable def jt:List CE:=[.tup [.bin .Sub (.var 2) (.lit (.int 1)),.bin .Sub (.var 2) (.lit (.int 1))],.tup [.lit (.int 0),.bin .Pow (.lit (.int 10)) (.lit (.int 30))],.tup [.lit (.int 0),.lit (.int 1)],.var 3]
noncomputable def sA:CE:=.sl (.var 3) [] [.var 4]
noncomputable def sB:CE:=.sl (.var 3) [.var 4] []
noncomputable def sC:CE:=.sl (.var 3) [.bin .Add (.var 4) (.lit (.int 1))] []
noncomputable def ju:List CE:=[.bin .Add (.bin .Add sA (.tup [.var 5])) sB,.bin .Add (.bin .Add sA (.tup [.var 5])) sC,.rev (.var 3) (.neg (.lit (.int 1)))]
noncomputable def jv:CE:=.bin .Add sA sC
noncomputable def sD:CE:=.sl (.var 3) [.var 4] [.bin .Add (.var 4) (.lit (.int 1))]
noncomputable def jw:List CE:=[.bin .Add (.bin .Add sA sD) sB,.blt (.list Nl) [.var 3],.bin .Add sB sA,.lit (.non),.tup [.var 3]]
noncomputable def sE:CE:=.sl (.var 3) [.bin .Add (.var 4) (.lit (.int 1))] [.bin .Add (.var 4) (.lit (.int 2))]
noncomputable def jx:CE:=.bin .Add sE sD
noncomputable def sF:CE:=.sl (.var 3) [.bin .Add (.var 4) (.lit (.int 2))] []
noncomputable def jy:CE:=.bin .Add (.bin .Add sA (.var 7)) sF
noncomputable def lv:List CE:=[.tup [.bin .Add (.var 2) (.lit (.int 1)),.var 3],.tup [.bin .Sub (.var 2) (.lit (.int 1)),.var 3],.tup [.lit (.bl Nk),.var 3],.tup [.lit (.int 9),.var 3],.tup [.lit (.int 0),.tup []],.tup [.lit (.non),.var 3],.lst Nl [.var 2,.var 3],.tup [.var 2]]
noncomputable def lw:List CE:=[.tup [.var 2,.var 3,.tup []],.tup [.blt .str [.var 2],.var 3],.tup [.var 3,.var 2],.var 3,.lit (.non),.var 2,.dct,.lit (.str "web"),.tup [.neg (.lit (.int 1)),.tup []]]
noncomputable def lx:CE:=.tup [.bin .Pow (.lit (.int 10)) (.lit (.int 30)),.tup []]
noncomputable def wm:List CS:=[.asgT (.tup [.var 2,.var 3]) (.var 1),.asg 4 (fU (.bin .Add (.blt .len [.var 3]) (.lit (.int 1)))),.asg 5 (.lst Nl js),.asg 5 (.idx (.bin .Add (.var 5) (.lst Nl jt)) (fU (.lit (.int 15)))),.asg 6 (.lst Nk ju),.expr (.meth .append (.var 6) [jv]),.asg 6 (.catB (.var 6) (.lst Nl jw)),.asg 7 jx,.expr (.meth .append (.var 6) [jy]),.ite (.cmp .Gt (fU (.lit (.int 3))) (.lit (.int 0))) [.ret (.tup [.var 2,.idx (.var 6) (fU (.lit (.int 10)))])] [],.asg 8 (.lst Nk lv),.asg 8 (.catB (.var 8) (.lst Nl lw)),.expr (.meth .append (.var 8) [lx]),.ret (.idx (.var 8) (fU (.lit (.int 18))))]
noncomputable def bA:FT:=tbl [("_law_draw",bM)]
theorem Kp:bA "_law_draw"=some bM:=rfl
noncomputable def ij:List D->ae->Res D:=aD bA G0 wm Ko.length 2
noncomputable def Kq:Ls:=["_law_found"]
noncomputable def Kr:List CS:=[.ret (.band (.blt .isinst [.var 0,.ty "int"]) (.bnot (.blt .isinst [.var 0,.ty "bool"])))]
noncomputable def Ks:FT:=tbl []
noncomputable def gK:List D->ae->Res D:=aD Ks G0 Kr Kq.length 1
noncomputable def Kt:Ls:=["_law_thing","_law_tie"]
noncomputable def yl:CE:=.idx (.var 0) (.lit (.int 0))
noncomputable def FJ:CE:=.chain .LtE .LtE (.lit (.int 1)) yl (.lit (.int 8))
noncomputable def ym:CE:=.bor (.bnot (.blt .isinst [.var 0,.ty "tuple"])) (.bor (.cmp .NotEq (.blt .len [.var 0]) (.lit (.int 2))) (.bor (.bnot (.call "_law_whole" [yl])) (.bnot FJ)))
noncomputable def g8:CE:=.idx (.var 0) (.lit (.int 1))
noncomputable def MK:CE:=.comp Nl ["_law_place"] [none] (.var 0) (.seq (.var 1)) [] (.emit (.call "_law_whole" [.var 0]))
noncomputable def Ku:CE:=.bor (.bnot (.blt .isinst [.var 1,.ty "tuple"])) (.bor (.cmp .NotEq (.blt .len [.var 1]) (.lit (.int 2))) (.bnot (.blt .all [MK])))
noncomputable def ML:CE:=.chain3 .LtE .Lt .Lt (.lit (.int 0)) (.idx (.var 1) (.lit (.int 0))) (.idx (.var 1) (.lit (.int 1))) yl
noncomputable def r_:List CS:=[.ite Ku [.ret (.lit (.bl Nl))] [],.ite (.bnot ML) [.ret (.lit (.bl Nl))] []]
noncomputable def pF:List CS:=[.ite ym [.ret (.lit (.bl Nl))] [],.ite (.bnot (.blt .isinst [g8,.ty "tuple"])) [.ret (.lit (.bl Nl))] [],.for_ (.var 1) (.seq g8) r_,.ret (.cmp .Eq (.blt (.list Nl) [g8]) (.sset g8))]
noncomputable def bE:FT:=tbl [("_law_whole",gK)]
theorem Kv:bE "_law_whole"=some gK:=rfl
noncomputable def eA:List D->ae->Res D:=aD bE G0 pF Kt.length 1
noncomputable def wn:Ls:=["_law_pen_here","_law_web_here","_law_thing"]
noncomputable def wo:List CS:=[.asg 2 (.call "_law_bent_web" [.var 0,.var 1]),.ret (.ite (.call "_law_is_web" [.var 2]) (.tup [.idx (.var 1) (.lit (.int 0)),.idx (.var 1) (.lit (.int 1)),.tup []]) (.var 2))]
noncomputable def wq:FT:=tbl [("_law_bent_web",ij),("_law_is_web",eA)]
theorem DG:wq "_law_bent_web"=some ij:=rfl
theorem DH:wq "_law_is_web"=some eA:=rfl
noncomputable def jz:List D->ae->Res D:=aD wq G0 wo wn.length 2
noncomputable def Kw:Ls:=["_law_pen_here","_law_many"]
noncomputable def Kx:List CE:=[.var 1,.neg (.lit (.int 1)),.lit (.bl Nk),.lit (.bl Nl),.lit (.non),.lit (.str "0"),.tup [.lit (.int 0)],.bin .Pow (.lit (.int 10)) (.lit (.int 30)),.lst Nl [.lit (.int 0)],.dct,.neg (.bin .Pow (.lit (.int 10)) (.lit (.int 20))),.bin .Add (.var 1) (.lit (.int 7))]
noncomputable def wt:List CS:=[.ret (.idx (.lst Nl Kx) (.call "_law_draw" [.var 0,.lit (.int 12)]))]
noncomputable def ik:FT:=tbl [("_law_draw",bM)]
theorem Ky:ik "_law_draw"=some bM:=rfl
noncomputable def jA:List D->ae->Res D:=aD ik G0 wt Kw.length 2
noncomputable def Kz:Ls:=["_law_pen_here","_law_many","_law_some_here","_law_at","_law_odd","_law_rows"]
noncomputable def DI:List CE:=[.var 1,.neg (.lit (.int 1)),.lit (.bl Nk),.lit (.non),.lit (.str "0"),.tup [.lit (.int 0)],.bin .Pow (.lit (.int 10)) (.lit (.int 30)),.call "_law_draw" [.var 0,.var 1]]
noncomputable def yn(l h:List CE):CE:=.sl (.var 2) l h
noncomputable def KA:CE:=.bin .Add (yn [] [.var 3]) (.tup [.var 4])
noncomputable def wu:List CE:=[.bin .Add KA (yn [.var 3] []),.bin .Add KA (yn [.bin .Add (.var 3) (.lit (.int 1))] []),.rev (.var 2) (.neg (.lit (.int 1))),.blt (.list Nl) [.var 2],.tup [.var 2],.lit (.non)]
noncomputable def wv:List CE:=[.bin .Add (.var 2) (yn [.neg (.lit (.int 1))] []),.lit (.int 0),.lit (.str "0"),.dct,.bin .Add (yn [.var 3] []) (yn [] [.var 3])]
noncomputable def ww:List CS:=[.asg 3 (.call "_law_draw" [.var 0,.bin .Add (.blt .len [.var 2]) (.lit (.int 1))]),.asg 4 (.idx (.lst Nl DI) (.call "_law_draw" [.var 0,.lit (.int 8)])),.asg 5 (.lst Nl wu),.ret (.idx (.bin .Add (.var 5) (.lst Nl wv)) (.call "_law_draw" [.var 0,.lit (.int 11)]))]
noncomputable def dI:FT:=tbl [("_law_draw",bM)]
theorem pG:dI "_law_draw"=some bM:=rfl
noncomputable def pH:List D->ae->Res D:=aD dI G0 ww Kz.length 3
noncomputable def KC:Ls:=["_law_many","_law_thing"]
noncomputable def DJ:CE:=.band (.call "_law_whole" [.var 0]) (.chain .LtE .Lt (.lit (.int 0)) (.var 0) (.var 1))
noncomputable def MM:CE:=.comp Nl ["_law_place","_law_many"] [none,some 0] (.var 0) (.seq (.var 1)) [] (.emit DJ)
noncomputable def KD:CE:=.bor (.bnot (.blt .isinst [.var 1,.ty "tuple"])) (.bnot (.blt .all [MM]))
noncomputable def wx:List CS:=[.ite KD [.ret (.lit (.bl Nl))] [],.ret (.cmp .Eq (.blt (.list Nl) [.var 1]) (.sset (.var 1)))]
noncomputable def fo:FT:=tbl [("_law_whole",gK)]
theorem DL:fo "_law_whole"=some gK:=rfl
noncomputable def jB:List D->ae->Res D:=aD fo G0 wx KC.length 2
noncomputable def wy:Ls:=["_law_pen_here","_law_many","_law_some_here","_law_thing"]
noncomputable def wz:List CS:=[.asg 3 (.call "_law_bent_places" [.var 0,.var 1,.var 2]),.ret (.ite (.call "_law_are_places" [.var 1,.var 3]) (.blt (.list Nl) [.var 2]) (.var 3))]
noncomputable def wA:FT:=tbl [("_law_bent_places",pH),("_law_are_places",jB)]
theorem DM:wA "_law_bent_places"=some pH:=rfl
theorem DN:wA "_law_are_places"=some jB:=rfl
noncomputable def il:List D->ae->Res D:=aD wA G0 wz wy.length 3
noncomputable def wB:Ls:=["_law_pen_here","_law_many","_law_often"]
noncomputable def DO:List CS:=[.asg 2 (.bin .Add (.lit (.int 1)) (.call "_law_draw" [.var 0,.lit (.int 3)])),.ret (.blt .tuple [.comp Nl ["_law_place","_law_pen_here","_law_often"] [none,some 0,some 2] (.var 0) (.range [.var 1]) [.cmp .Lt (.call "_law_draw" [.var 1,.lit (.int 4)]) (.var 2)] (.emit (.var 0))])]
noncomputable def pI:FT:=tbl [("_law_draw",bM)]
theorem DP:pI "_law_draw"=some bM:=rfl
noncomputable def jC:List D->ae->Res D:=aD pI G0 DO wB.length 2
noncomputable def KG:Ls:=["_law_way","_law_one","_law_other","_law_e"]
noncomputable def iF:List CS:=[.ite (.cmp .Eq (.var 0) (.lit (.int 0))) [.ret (.call "beside" [.var 1,.var 2])] [],.ite (.cmp .Eq (.var 0) (.lit (.int 1))) [.ret (.call "near" [.var 1,.var 2])] [],.ret (.ite (.cmp .Eq (.var 0) (.lit (.int 2))) (.call "pieces_without" [.var 1,.var 2]) (.call "pieces" [.var 1]))]
noncomputable def ly:List CS:=[.tryG (some "great") "great" 3 iF "_law_kinds" pr lY]
noncomputable def cf:FT:=tbl [("beside",fm),("near",gI),("pieces_without",fk),("pieces",ig)]
theorem KH:cf "beside"=some fm:=rfl
theorem KI:cf "near"=some gI:=rfl
theorem KJ:cf "pieces_without"=some fk:=rfl
theorem KL:cf "pieces"=some ig:=rfl
noncomputable def cZ:List D->ae->Res D:=aD cf G0 ly KG.length 3
noncomputable def KN:Ls:=["_law_one","_law_other","_law_many"]
noncomputable def KO:CE:=.comp Nl ["_law_a","_law_b","_law_one"] [none,none,some 0] (.tup [.var 0,.var 1]) (.seq (.idx (.var 1) (.lit (.int 1)))) [] (.emit (.tup [.bin .Add (.idx (.var 2) (.lit (.int 0))) (.var 0),.bin .Add (.idx (.var 2) (.lit (.int 0))) (.var 1)]))
noncomputable def wC:List CS:=[.asg 2 (.bin .Add (.idx (.var 0) (.lit (.int 0))) (.idx (.var 1) (.lit (.int 0)))),.ite (.cmp .Gt (.var 2) (.lit (.int 8))) [.ret (.lst Nl [.lit (.str "great"),.var 2,.lit (.int 8)])] [],.ret (.tup [.var 2,.bin .Add (.idx (.var 0) (.lit (.int 1))) (.blt .tuple [KO])])]
noncomputable def lz:FT:=tbl []
noncomputable def pJ:List D->ae->Res D:=aD lz G0 wC KN.length 2
noncomputable def iG:Ls:=["_law_script","_law_cell_here","_law_pen_here","_law_one","_law_other","_law_small","_law_two","_law_bad","_law_place","_law_some_here"]
noncomputable def wD:CE:=.bor (.cmp .NotEq (.call "_law_told" [.lit (.int 0),.tup [.lit (.int 4),.tup []],.tup [.lit (.int 4),.tup []]]) (.tup [.lit (.int 8),.tup []])) (.cmp .NotEq (.call "_law_told" [.lit (.int 0),.tup [.lit (.int 1),.tup []],.tup [.lit (.int 8),.tup []]]) (.lst Nl [.lit (.str "great"),.lit (.int 9),.lit (.int 8)]))
noncomputable def pK:CE:=.seq (.bin .Add (.lst Nl [.call "_law_cell" [.var 0,.lit (.int 0)]]) (.sl (.var 0) [.lit (.int 1)] [.lit (.int 6)]))
noncomputable def wP:List CE:=[.call "_law_web" [.var 2,.lit (.int 8)],.call "_law_web" [.var 2,.lit (.int 4)],.call "_law_web" [.var 2,.lit (.int 4)]]
noncomputable def tW:CE:=.seq (.lst Nl [.tup [.var 3,.var 4],.tup [.var 4,.var 5],.tup [.var 5,.var 4],.tup [.var 4,.var 3],.tup [.var 5,.tup [.bin .Sub (.bin .Sub (.lit (.int 9)) (.idx (.var 5) (.lit (.int 0)))) (.lit (.int 1)),.tup []]]])
noncomputable def yo(k:Int):CE:=.idx (.var 6) (.lit (.int k))
noncomputable def tB:List CS:=[.ite (.bnot (.call "_law_same" [.call "_law_told" [.lit (.int 0),yo 0,yo 1],.call "_law_both" [yo 0,yo 1]])) [.ret (.lit (.bl Nl))] []]
noncomputable def ne(i:Int)(p q:CE)(y:Str):CE:=.cmp .NotEq (.call "_law_told" [.lit (.int i),p,q]) (.lit (.str y))
noncomputable def b1:CE:=.bor (ne 0 (.var 7) (.var 7) "web") (.bor (ne 0 (.var 3) (.var 7) "web") (ne 3 (.var 7) (.lit .non) "web"))
noncomputable def m3:CE:=.idx (.var 3) (.lit (.int 0))
noncomputable def nP:List CE:=[.call "_law_no_place" [.var 2,m3],.call "_law_no_places" [.var 2,m3,.call "_law_some" [.var 2,m3]]]
noncomputable def b2:CE:=.bor (ne 1 (.var 7) (.var 8) "web") (ne 2 (.var 7) (.var 9) "web")
noncomputable def b3:CE:=.bor (ne 1 (.var 3) (.var 8) "place") (ne 2 (.var 3) (.var 9) "places")
noncomputable def lA:List CS:=[.asg 2 (.call "_law_pen" [.var 1]),.par [3,4,5] wP,.for_ (.var 6) tW tB,.asg 7 (.call "_law_no_web" [.var 2,.var 3]),.ite b1 [.ret (.lit (.bl Nl))] [],.par [8,9] nP,.ite b2 [.ret (.lit (.bl Nl))] [],.ite b3 [.ret (.lit (.bl Nl))] []]
noncomputable def eS:List CS:=[.ite wD [.ret (.lit (.bl Nl))] [],.for_ (.var 1) pK lA,.ret (.lit (.bl Nk))]
noncomputable def aI:FT:=tbl [("_law_pen",jr),("_law_no_web",jz),("_law_told",cZ),("_law_cell",jq),("_law_web",ii),("_law_no_place",jA),("_law_no_places",il),("_law_same",pE),("_law_some",jC),("_law_both",pJ)]
theorem KP:aI "_law_pen"=some jr:=rfl
theorem KQ:aI "_law_no_web"=some jz:=rfl
theorem KR:aI "_law_told"=some cZ:=rfl
theorem KS:aI "_law_cell"=some jq:=rfl
theorem KU:aI "_law_web"=some ii:=rfl
theorem KW:aI "_law_no_place"=some jA:=rfl
theorem KY:aI "_law_no_places"=some il:=rfl
theorem KZ:aI "_law_same"=some pE:=rfl
theorem K0:aI "_law_some"=some jC:=rfl
theorem K1:aI "_law_both"=some pJ:=rfl
noncomputable def lB:List D->ae->Res D:=aD aI G0 eS iG.length 1
end K04
namespace Py
noncomputable def eZ(K:Fg)(y:Str):Nn:=match PySem.W.nsIn K mainGlobals y with
 |some (some (.ref C))=>C
 |_=>0
noncomputable def eT(K:Fg)(y:Str):Bool:=match PySem.W.nsIn K mainGlobals y with
 |some (some (.ref _))=>Nk
 |_=>Nl
theorem jD(h:eT K y=Nk):PySem.W.nsIn K mainGlobals y=some (some (.ref (eZ K y))):=by
 unfold eT at h;unfold eZ;split at h
 ·omega
 ·cases h
noncomputable def DQ(K:Fg)(C:Nn):Bool:=(PySem.W.clsIn K C).isSome&&(PySem.W.findIn K (.ref C) "__getattribute__"==some (some (.builtin "BaseException.__getattribute__"))&&(PySem.W.findIn K (.ref C) "__getattr__"==some none&&
 (PySem.W.findIn K (.ref C) "__class__"==some (some (.builtin "object.__class__"))&&(PySem.W.mroIn K C (.type "object")==some Nk&&(PySem.W.mroIn K C (.type "BaseException")==some Nk&&PySem.W.kitOne K (.ref C) (.type "ValueError")==some Nk)))))
noncomputable def K2(K:Fg)(C:Nn):Bool:=DQ K C&&((match PySem.W.clsIn K C with
 |some cd=>cd.hasDict
 |none=>Nl)&&(PySem.W.findIn K (.ref C) "many"==some none&&(PySem.W.findIn K (.ref C) "most"==some none&&(PySem.W.specialIn K (.builtin "object.__class__") "__get__"==some (some (.builtin "getset_descriptor.__get__"))&&PySem.W.takesIn K (.builtin "object.__class__")==some Nk))))
noncomputable def DR(K:Fg)(C:Nn):Nn:=match PySem.W.clsIn K C with
 |some cd=>(match PySem.W.nsIn K cd.ns "__init__" with
  |some (some (.ref fI))=>fI
  |_=>0)
 |none=>0
noncomputable def DS(K:Fg):Rz->Bool
 | .init x=>eT K x&&(PySem.W.keepIn K (.ref (eZ K x))&&(K2 K (eZ K x)&&((match PySem.W.clsIn K (eZ K x)with
   |some cd=>cd.mro== .ref (eZ K x):: .ref (eZ K "PairError")::eh
   |none=>Nl)&&(PySem.W.findIn K (.ref (eZ K x)) "__setattr__"==some (some (.builtin "object.__setattr__"))&&(JR K (DR K (eZ K x))&&iD K (eZ K x) (DR K (eZ K x)))))))
 | .great g ys w=>ys.all λx=> !((ys.zip w).lookup x==some g)||(eT K x&&K2 K (eZ K x))
 | .cls x=>eT K x&&PySem.W.excIn K (eZ K x) eh "ValueError.__new__"
 | .kind _ ys _=>eT K "PairError"&&(PySem.W.specialIn K (.builtin "object.__class__") "__get__"==some (some (.builtin "getset_descriptor.__get__"))&&(PySem.W.takesIn K (.builtin "object.__class__")==some Nk&&(PySem.W.nsIn K mainGlobals "isinstance"==some none&&(PySem.W.nsIn K mainGlobals "ValueError"==some none&&
   ys.all λx=>eT K x&&(DQ K (eZ K x)&&(PySem.W.exmOne K (.ref (eZ K x)) (.ref (eZ K "PairError"))==some Nk&&ys.all λy=>PySem.W.kitOne K (.ref (eZ K x)) (.ref (eZ K y))==some (y==x)))))))
noncomputable def Na(y w:Ls):Bool:=decide (y.length<1000)&&(decide (w.length<=1000)&&y.all λx=>decide ((y.map (· ==x)).count Nk=1)&&decide (w[(y.map (· ==x)).idxOf Nk]?=(y.zip w).lookup x))
theorem DT{y w:Ls}{x r:Str}(h:(y.zip w).lookup x=some r):x∈y:=(Ps (ZF h)).1
section
variable {P:Nu}
theorem wE(X:K.In h)(G:h.Ns mainGlobals mg){x:Str}(H:DS K (.cls x)=Nk):XC P w K mg (.cls x):=
 ⟨eZ K x,PySem.W.mg_of X G (jD (aa H).1),(aa H).2⟩
theorem DU(h:K2 K C=Nk):∃cd,FH K C cd:=by obtain⟨P,h⟩:=aa h;obtain⟨p,h⟩:=aa h;obtain⟨f,h⟩:=aa h;obtain⟨g,h⟩:=aa h;obtain⟨z,Z⟩:=aa h;obtain⟨a,s⟩:=aa P;obtain⟨A,S⟩:=aa s;obtain⟨b,i⟩:=aa S;obtain⟨c,j⟩:=aa i;obtain⟨d,k⟩:=aa j;obtain⟨e,l⟩:=aa k;obtain⟨cd,H⟩:=NU.mp a;rw[H]at p;exact⟨cd,⟨⟨cd,H⟩,Zx A,Zx b,Zx c,Zx d,Zx e,Zx z,Zx Z⟩,H,p,Zx f,Zx g⟩
theorem pL(X:K.In h)(G:h.Ns mainGlobals mg){x:Str}(H:DS K (.init x)=Nk):XC P w K mg (.init x):=by obtain⟨b,H⟩:=aa H;obtain⟨d,H⟩:=aa H;obtain⟨e,H⟩:=aa H;obtain⟨a,H⟩:=aa H;obtain⟨f,H⟩:=aa H;obtain⟨i,j⟩:=aa H;obtain⟨c,g⟩:=DU e;rw[g.cls]at a;exact⟨eZ K x,_,_,c,PySem.W.mg_of X G (jD b),d,g,⟨g.cls,g.hd,Zx a,Zx f⟩,JT i,j⟩
theorem K3(X:K.In h)(G:h.Ns mainGlobals mg){g:Str}{y W:Ls}(f:DS K (.great g y W)=Nk):XC P w K mg (.great g y W):=λx H v e=>by have q:=Zm.mp f x (DT H);rw[H,beq_self_eq_true,RI,Bool.false_or]at q;obtain⟨b,d⟩:=aa q;have a:=PySem.W.mg_of X G (jD b);rw[e]at a;cases a;obtain⟨c,z⟩:=DU d;exact⟨_,c,rfl,z⟩
theorem pM(X:K.In h)(G:h.Ns mainGlobals mg){f e0:Str}{q:Ob}{a b c d wd v Y W:Ls}(E:DS K (.kind f Y W)=Nk)(hw:Na Y W=Nk)(F:mP K f f st fa q)(j:PySem.W.nsIn K mainGlobals f=some (some (.ref fa)))
  (S:bv N [e0] (bo st)) (A:Binds K q [e0] []) (i:cu (gE a b c d wd v) N (bU st)=bU st) (s:(la (bU st)&&lh N Y (bo st))=Nk) (g:Y=a++b++c++d) (D:W=wd++v):XC P w K mg (.kind f Y W):=by
 subst g;subst D;obtain⟨z1,m⟩:=aa E;obtain⟨z2,n⟩:=aa m;obtain⟨z3,o⟩:=aa n;obtain⟨z4,p⟩:=aa o;obtain⟨z5,e⟩:=aa p;obtain⟨w1,k⟩:=aa hw;obtain⟨w2,l⟩:=aa k;refine⟨fa,eZ K "PairError",PySem.W.mg_of X G j,F.kp,PySem.W.mg_of X G (jD z1),λx r t u C=>?_⟩;have z:=DT t;obtain⟨U,T⟩:=aa (Zm.mp e x z);obtain⟨V,q5⟩:=aa T;obtain⟨Z,q4⟩:=aa q5;obtain⟨I,s1⟩:=aa V;obtain⟨J,s2⟩:=aa s1;obtain⟨L,s3⟩:=aa s2;obtain⟨M,s4⟩:=aa s3;obtain⟨O,s5⟩:=aa s4;obtain⟨Q,R⟩:=aa s5;obtain⟨r1,r2⟩:=aa (Zm.mp l x z);have H:=PySem.W.mg_of X G (jD U);rw[C]at H;cases H
 refine⟨_,rfl,Zx Z,λB=>JC (bf:=λy=>y==x) F S A i (aa s).1 (aa s).2 ⟨Zx R,⟨NU.mp I,Zx J,Zx L,Zx M,Zx O,Zx Q,Zx z2,Zx z3⟩,λy g=>?_⟩
  (PySem.W.mg_none_of X G (Zx z4)) (PySem.W.mg_none_of X G (Zx z5)) (ZV w1) (by simpa using ZV w2) (ZV r1) (by rw[<-t];exact ZV r2)⟩
 exact⟨eZ K y,PySem.W.mg_of X G (jD (aa (Zm.mp e y g)).1),Zx (Zm.mp q4 y g)⟩
end
end Py
namespace K04
noncomputable def cA(i:Nat):Oq:=PySem.Challenge.pw_pairwebs_k04_beside_and_refusals_of_webs.main.body.getD i (.Pass ⟨0,0,0,0⟩)
def aE(K:Fg)(x:Str)(st:Oq):Prop:=∃f fd,PySem.W.nsIn K mainGlobals x=some (some (.ref f))/\mP K x x st f fd
theorem dm{x:Str}{an:Option Nn}{kV:Np}(a:PySem.W.nsIn K mainGlobals x=some (some (.ref f)))(l:K.lookup f=some ⟨oc,od,.func (PySem.W.fnOf x x (hJ st) (bU st) (bo st) .none kV doc pm an cdv ct),osl⟩)
  (c:PySem.W.codeIn K cdv x=Nk) (k:PySem.W.keepIn K (.ref f)=Nk):aE K x st:=⟨f,_,a,tH l c k⟩
noncomputable def pN(N P:Ls)(s:Scope):Bool:=(s.kind== .function)&& !s.isCoroutine&& !s.isGenerator&&iZ N&&(N.take P.length==P)&&P.all (λx=>s.names.lookup x==some .local||s.names.lookup x==some .cell)&&s.names.all (λy=>y.2 !=.free)
theorem pO{P:Ls}{s:Scope}(h:pN N P s=Nk):bv N P s:=by unfold pN at h;simp only[ZN,beq_iff_eq,Zm,Rb,bne_iff_ne,O6]at h;obtain⟨⟨⟨⟨⟨⟨H,a⟩,b⟩,c⟩,d⟩,e⟩,f⟩:=h;exact⟨H,a,b,u4 c,d,e,f⟩
noncomputable def RZ:List Rz:=[.cls "NoPlace",.cls "NoPlaces",.cls "NoWeb",.init "TooGreat",.kind "_law_kinds" pr lY,.great "great" pr lY]
structure En (P:Nu)(w:NG)(K:Fg)(mg:Mg)(h:Ny):Prop where
 X:K.In h
 G:h.Ns mainGlobals mg
 hg:∀x d,G0 x=some d->∃v u,mg x=some u/\RelV v u/\∀F μ H,Rep K ⟨mg,F⟩ μ H d v
 hb:∀x∈gq,mg x=none
 xc:∀z∈RZ,XC P w K mg z
section
variable {P:Nu}{k j:Nat}
theorem fe{x:Str}(E:En P w K mg h)(d:aE K x st)
  (e:∀(kV doc pm:Np) (an:Option Nn) (cdv ct:Np) (us:Lv),us.length=ps.length->bindArgs (PySem.W.fnOf x x (hJ st) (bU st) (bo st) .none kV doc pm an cdv ct) ⟨us,[]⟩=pure (ps.zip us))
  (H:∀p∈l,bL P w K mg base (bn P w) k p.1 p.2) (g:cu body N (bU st)=bU st) (S:(pN N ps (bo st)&&(eg body N (bo st).names (bU st)&&(dD body).all λz=>decide (z∈RZ)))=Nk) (i:((dD body).all λz=>decide (z.need<=k))=Nk:=by rfl):bL P w K mg base (bn P w) (k+1) x (aD (tbl l) G0 body N.length ps.length):=by
 obtain⟨f,j,a,F⟩:=d;have S:=Pr.mp S;have b:=Pr.mp S.2;exact M' F (pO S.1) (PySem.W.mg_of E.X E.G a) (F.binds e) (MJ H E.hg E.hb) g b.1 λz c=>⟨E.xc z (ZV (Zm.mp b.2 z c)),ZV (Zm.mp i z c)⟩
theorem f0{x:Str}(E:En P w K mg h)(d:aE K x st)(S:pN N ps (bo st)=Nk)
  (H:∀(kV doc pm:Np) (an:Option Nn) (cdv ct:Np) (us:Lv),us.length=ps.length->bindArgs (PySem.W.fnOf x x (hJ st) (bU st) (bo st) .none kV doc pm an cdv ct) ⟨us,[]⟩=pure (ps.zip us)):bL P w K mg base (bn P w) k x (λ_ _=>.fail):=by
 obtain⟨f,b,a,F⟩:=d;exact JY F (pO S) (PySem.W.mg_of E.X E.G a) (F.binds H)
theorem an:∀p∈([]:List (Str×(List D->ae->Res D))),bL P w K mg base (bn P w) k p.1 p.2:=λp h=>(Zy h).elim
theorem ac{x:Str}(F:bL P w K mg base (bn P w) j x φ)(H:j<=k)(r:∀p∈l,bL P w K mg base (bn P w) k p.1 p.2):∀p∈(x,φ)::l,bL P w K mg base (bn P w) k p.1 p.2:=λp a=>by
 rcases Zi.mp a with rfl|h
 ·exact F.mono H
 ·exact r p h
end
structure Df (K:Fg):Prop where
 d_is_number:aE K "is_number" (cA 18)
 d_is_number_from:aE K "is_number_from" (cA 19)
 d_is_place:aE K "is_place" (cA 20)
 d_is_rising:aE K "is_rising" (cA 21)
 d_are_places:aE K "are_places" (cA 22)
 d_is_tie:aE K "is_tie" (cA 23)
 d_is_web:aE K "is_web" (cA 24)
 d_is_some:aE K "is_some" (cA 25)
 d_must_be_web:aE K "must_be_web" (cA 26)
 d_must_be_place:aE K "must_be_place" (cA 27)
 d_must_be_some:aE K "must_be_some" (cA 28)
 d_tie_of:aE K "tie_of" (cA 29)
 d_have_tie:aE K "have_tie" (cA 30)
 d_near:aE K "near" (cA 31)
 d_piece_of:aE K "piece_of" (cA 32)
 d_pieces_without:aE K "pieces_without" (cA 33)
 d_pieces:aE K "pieces" (cA 34)
 d_beside:aE K "beside" (cA 36)
 d_law_cell:aE K "_law_cell" (cA 39)
 d_law_pen:aE K "_law_pen" (cA 40)
 d_law_draw:aE K "_law_draw" (cA 41)
 d_law_pairs:aE K "_law_pairs" (cA 42)
 d_law_web:aE K "_law_web" (cA 43)
 d_law_same:aE K "_law_same" (cA 44)
 d_law_bent_web:aE K "_law_bent_web" (cA 45)
 d_law_whole:aE K "_law_whole" (cA 46)
 d_law_is_web:aE K "_law_is_web" (cA 47)
 d_law_no_web:aE K "_law_no_web" (cA 48)
 d_law_no_place:aE K "_law_no_place" (cA 49)
 d_law_bent_places:aE K "_law_bent_places" (cA 50)
 d_law_are_places:aE K "_law_are_places" (cA 51)
 d_law_no_places:aE K "_law_no_places" (cA 52)
 d_law_some:aE K "_law_some" (cA 53)
 d_law_told:aE K "_law_told" (cA 54)
 d_law_both:aE K "_law_both" (cA 55)
 d_law:aE K "law" (cA 56)
 d_law_kinds:aE K "_law_kinds" (cA 38)
section
variable {P:Nu}(E9:En P w K mg h)(D9:Df K)
include E9 D9
theorem K4:bL P w K mg base (bn P w) 1 "is_number" fi:=fe (ps:=["thing"]) E9 D9.d_is_number (λ_ _ _ _ _ _=>er λ_=>rfl) an rfl (by decide+kernel)
theorem DV:bL P w K mg base (bn P w) 2 "is_number_from" fS:=fe (ps:=["thing","low","high"]) E9 D9.d_is_number_from (λ_ _ _ _ _ _=>jl λ_ _ _=>rfl) (ac (K4 E9 D9) (by decide) an) rfl (by decide+kernel)
theorem DW:bL P w K mg base (bn P w) 3 "is_place" et:=fe (ps:=["many","thing"]) E9 D9.d_is_place (λ_ _ _ _ _ _=>bY λ_ _=>rfl) (ac (DV E9 D9) (by decide) an) rfl (by decide+kernel)
theorem wF:bL P w K mg base (bn P w) 1 "is_rising" cF:=fe (ps:=["things"]) E9 D9.d_is_rising (λ_ _ _ _ _ _=>er λ_=>rfl) an rfl (by decide+kernel)
theorem DX:bL P w K mg base (bn P w) 4 "are_places" dH:=fe (ps:=["many","thing"]) E9 D9.d_are_places (λ_ _ _ _ _ _=>bY λ_ _=>rfl) (ac (DW E9 D9) (by decide) an) rfl (by decide+kernel)
theorem K5:bL P w K mg base (bn P w) 5 "is_tie" fT:=fe (ps:=["many","thing"]) E9 D9.d_is_tie (λ_ _ _ _ _ _=>bY λ_ _=>rfl) (ac (DX E9 D9) (by decide) (ac (wF E9 D9) (by decide) an)) rfl (by decide+kernel)
theorem K6:bL P w K mg base (bn P w) 6 "is_web" df:=fe (ps:=["thing"]) E9 D9.d_is_web (λ_ _ _ _ _ _=>er λ_=>rfl) (ac (wF E9 D9) (by decide) (ac (DV E9 D9) (by decide) (ac (K5 E9 D9) (by decide) an))) rfl (by decide+kernel)
theorem K7:bL P w K mg base (bn P w) 5 "is_some" fj:=fe (ps:=["web","thing"]) E9 D9.d_is_some (λ_ _ _ _ _ _=>bY λ_ _=>rfl) (ac (DX E9 D9) (by decide) (ac (wF E9 D9) (by decide) an)) rfl (by decide+kernel)
theorem wG:bL P w K mg base (bn P w) 7 "must_be_web" dg:=fe (ps:=["thing"]) E9 D9.d_must_be_web (λ_ _ _ _ _ _=>er λ_=>rfl) (ac (K6 E9 D9) (by decide) an) rfl (by decide+kernel)
theorem K8:bL P w K mg base (bn P w) 4 "must_be_place" py:=fe (ps:=["web","thing"]) E9 D9.d_must_be_place (λ_ _ _ _ _ _=>bY λ_ _=>rfl) (ac (DW E9 D9) (by decide) an) rfl (by decide+kernel)
theorem K9:bL P w K mg base (bn P w) 6 "must_be_some" pz:=fe (ps:=["web","thing"]) E9 D9.d_must_be_some (λ_ _ _ _ _ _=>bY λ_ _=>rfl) (ac (K7 E9 D9) (by decide) an) rfl (by decide+kernel)
theorem K_:bL P w K mg base (bn P w) 1 "tie_of" Dv:=fe (ps:=["one","other"]) E9 D9.d_tie_of (λ_ _ _ _ _ _=>bY λ_ _=>rfl) an rfl (by decide+kernel)
theorem DY:bL P w K mg base (bn P w) 2 "have_tie" v8:=fe (ps:=["web","one","other"]) E9 D9.d_have_tie (λ_ _ _ _ _ _=>jl λ_ _ _=>rfl) (ac (K_ E9 D9) (by decide) an) rfl (by decide+kernel)
theorem pP:bL P w K mg base (bn P w) 8 "near" gI:=fe (ps:=["web","place"]) E9 D9.d_near (λ_ _ _ _ _ _=>bY λ_ _=>rfl) (ac (wG E9 D9) (by decide) (ac (K8 E9 D9) (by decide) (ac (DY E9 D9) (by decide) an))) rfl (by decide+kernel)
theorem K':bL P w K mg base (bn P w) 3 "piece_of" Dx:=fe (ps:=["web","left","start"]) E9 D9.d_piece_of (λ_ _ _ _ _ _=>jl λ_ _ _=>rfl) (ac (DY E9 D9) (by decide) an) rfl (by decide+kernel)
theorem DZ:bL P w K mg base (bn P w) 8 "pieces_without" fk:=fe (ps:=["web","some"]) E9 D9.d_pieces_without (λ_ _ _ _ _ _=>bY λ_ _=>rfl) (ac (wG E9 D9) (by decide) (ac (K9 E9 D9) (by decide) (ac (K' E9 D9) (by decide) an))) rfl (by decide+kernel)
theorem Lb:bL P w K mg base (bn P w) 9 "pieces" ig:=fe (ps:=["web"]) E9 D9.d_pieces (λ_ _ _ _ _ _=>er λ_=>rfl) (ac (DZ E9 D9) (by decide) an) rfl (by decide+kernel)
theorem Lc:bL P w K mg base (bn P w) 8 "beside" fm:=fe (ps:=["web","other"]) E9 D9.d_beside (λ_ _ _ _ _ _=>bY λ_ _=>rfl) (ac (wG E9 D9) (by decide) an) rfl (by decide+kernel)
theorem D0:bL P w K mg base (bn P w) 1 "_law_cell" jq:=fe (ps:=["_law_script","_law_k"]) E9 D9.d_law_cell (λ_ _ _ _ _ _=>bY λ_ _=>rfl) an rfl (by decide+kernel)
theorem D3:bL P w K mg base (bn P w) 1 "_law_pen" jr:=fe (ps:=["_law_cell_here"]) E9 D9.d_law_pen (λ_ _ _ _ _ _=>er λ_=>rfl) an rfl (by decide+kernel)
theorem lC:bL P w K mg base (bn P w) 1 "_law_draw" bM:=fe (ps:=["_law_pen_here","_law_many"]) E9 D9.d_law_draw (λ_ _ _ _ _ _=>bY λ_ _=>rfl) an rfl (by decide+kernel)
theorem Ld:bL P w K mg base (bn P w) 1 "_law_pairs" pB:=fe (ps:=["_law_many"]) E9 D9.d_law_pairs (λ_ _ _ _ _ _=>er λ_=>rfl) an rfl (by decide+kernel)
theorem D4:bL P w K mg base (bn P w) 2 "_law_web" ii:=fe (ps:=["_law_pen_here","_law_upto"]) E9 D9.d_law_web (λ_ _ _ _ _ _=>bY λ_ _=>rfl) (ac (lC E9 D9) (by decide) (ac (Ld E9 D9) (by decide) an)) rfl (by decide+kernel)
theorem D5:∀n,bL P w K mg base (bn P w) (0+n) "_law_same" (bD n)
 |0=>f0 (N:=dU) (ps:=["_law_found","_law_due"]) E9 D9.d_law_same (by decide+kernel) (λ_ _ _ _ _ _=>bY λ_ _=>rfl)
 |n+1=>fe (ps:=["_law_found","_law_due"]) (k:=0+n) E9 D9.d_law_same (λ_ _ _ _ _ _=>bY λ_ _=>rfl) (ac (D5 n) (Zh _) an) rfl (by decide+kernel)
theorem D6:bL P w K mg base (bn P w) 6 "_law_same" pE:=D5 E9 D9 6
theorem Le:bL P w K mg base (bn P w) 2 "_law_bent_web" ij:=fe (ps:=["_law_pen_here","_law_web_here"]) E9 D9.d_law_bent_web (λ_ _ _ _ _ _=>bY λ_ _=>rfl) (ac (lC E9 D9) (by decide) an) rfl (by decide+kernel)
theorem D7:bL P w K mg base (bn P w) 1 "_law_whole" gK:=fe (ps:=["_law_found"]) E9 D9.d_law_whole (λ_ _ _ _ _ _=>er λ_=>rfl) an rfl (by decide+kernel)
theorem Lf:bL P w K mg base (bn P w) 2 "_law_is_web" eA:=fe (ps:=["_law_thing"]) E9 D9.d_law_is_web (λ_ _ _ _ _ _=>er λ_=>rfl) (ac (D7 E9 D9) (by decide) an) rfl (by decide+kernel)
theorem D8:bL P w K mg base (bn P w) 3 "_law_no_web" jz:=fe (ps:=["_law_pen_here","_law_web_here"]) E9 D9.d_law_no_web (λ_ _ _ _ _ _=>bY λ_ _=>rfl) (ac (Le E9 D9) (by decide) (ac (Lf E9 D9) (by decide) an)) rfl (by decide+kernel)
theorem D_:bL P w K mg base (bn P w) 2 "_law_no_place" jA:=fe (ps:=["_law_pen_here","_law_many"]) E9 D9.d_law_no_place (λ_ _ _ _ _ _=>bY λ_ _=>rfl) (ac (lC E9 D9) (by decide) an) rfl (by decide+kernel)
theorem Lg:bL P w K mg base (bn P w) 2 "_law_bent_places" pH:=fe (ps:=["_law_pen_here","_law_many","_law_some_here"]) E9 D9.d_law_bent_places (λ_ _ _ _ _ _=>jl λ_ _ _=>rfl) (ac (lC E9 D9) (by decide) an) rfl (by decide+kernel)
theorem Lh:bL P w K mg base (bn P w) 2 "_law_are_places" jB:=fe (ps:=["_law_many","_law_thing"]) E9 D9.d_law_are_places (λ_ _ _ _ _ _=>bY λ_ _=>rfl) (ac (D7 E9 D9) (by decide) an) rfl (by decide+kernel)
theorem Ea:bL P w K mg base (bn P w) 3 "_law_no_places" il:=fe (ps:=["_law_pen_here","_law_many","_law_some_here"]) E9 D9.d_law_no_places (λ_ _ _ _ _ _=>jl λ_ _ _=>rfl) (ac (Lg E9 D9) (by decide) (ac (Lh E9 D9) (by decide) an)) rfl (by decide+kernel)
theorem Eb:bL P w K mg base (bn P w) 2 "_law_some" jC:=fe (ps:=["_law_pen_here","_law_many"]) E9 D9.d_law_some (λ_ _ _ _ _ _=>bY λ_ _=>rfl) (ac (lC E9 D9) (by decide) an) rfl (by decide+kernel)
theorem Ec:bL P w K mg base (bn P w) 10 "_law_told" cZ:=fe (ps:=["_law_way","_law_one","_law_other"]) E9 D9.d_law_told (λ_ _ _ _ _ _=>jl λ_ _ _=>rfl) (ac (Lc E9 D9) (by decide) (ac (pP E9 D9) (by decide) (ac (DZ E9 D9) (by decide) (ac (Lb E9 D9) (by decide) an)))) rfl (by decide+kernel)
theorem Ed:bL P w K mg base (bn P w) 1 "_law_both" pJ:=fe (ps:=["_law_one","_law_other"]) E9 D9.d_law_both (λ_ _ _ _ _ _=>bY λ_ _=>rfl) an rfl (by decide+kernel)
theorem Lj:bL P w K mg base (bn P w) 11 "law" lB:=fe (ps:=["_law_script"]) E9 D9.d_law (λ_ _ _ _ _ _=>er λ_=>rfl) (ac (D3 E9 D9) (by decide) (ac (D8 E9 D9) (by decide) (ac (Ec E9 D9) (by decide) (ac (D0 E9 D9) (by decide) (ac (D4 E9 D9) (by decide) (ac (D_ E9 D9) (by decide) (ac (Ea E9 D9) (by decide) (ac (D6 E9 D9) (by decide) (ac (Eb E9 D9) (by decide) (ac (Ed E9 D9) (by decide) an)))))))))) rfl (by decide+kernel)
end
noncomputable def iH(K:Fg):Sp:=λvs H Q _=>∃(a:Nn) (ns:Li),vs=[.ref a]/\mM H/\c8 K H a (ns.map V.int)/\ns.length<=63/\∀H',Q (.bl Nk) H'
def Good(f:List D->ae->Res D):Prop:=∀ns:Li,ns.length<=63->∃S',f [.scr (ns.map D.int)] []=.ok (.bl Nk) S'
theorem Ee{K:Fg}{mg:GS}{μ:La}{H:Hp}:∀ns:Li,ai K mg μ H (ns.map D.int) (ns.map V.int)
 | []=>.nil
 |n::ns=>.cons bq (Ee ns)
theorem Ef{f:List D->ae->Res D}(g:Good f):∀vs H Q E,iH K vs H Q E->ur K mg 1 f vs H Q E:=by
 rintro vs H Q E ⟨a,N,rfl,i,j,d,q⟩;refine⟨rfl,[],[],[],[.scr (N.map D.int)],⟨λa h=>(by cases h),rfl,Qw,λn a l h=>(by cases h)⟩,.cons ?_ .nil,?_⟩
 ·unfold Rep;refine⟨a,N.map V.int,rfl,?_,Ee N⟩;rcases j with(h| ⟨o,h⟩)|h
  ·rcases i a with z| ⟨o,X,z⟩<;>rw[z]at h<;>cases h
  ·exact .inl ⟨o,h⟩
  ·exact .inr h
 ·obtain⟨S,e⟩:=g N d;rw[e];intro k c b x s r;unfold Rep at r;rw[r];exact q c
theorem wH{l:PySem.W.OpenLaw}(X:K.In h)(G:h.Ns mainGlobals mg)(m:mg "law"=some (.ref fa))(good:Good lB)(D:Df K)(Z:∀x∈gq,PySem.W.nsIn K mainGlobals x=some none)
  {j:Tok} (M:PySem.W.nsIn K mainGlobals "MOST_PLACES"=some (some (.int 8 j))) (y:RZ.all (DS K)=Nk):
  ∃fd:Ob,(∀(s:Nm) (v:Np),RT s fd ⟨[v],[]⟩ [("_law_script",v)])/\∀base:Ny,K.In base->base.Ns mainGlobals mg->cI l.prog w K mg base (bn l.prog w) 11 fa fd ["_law_script"] (iH K):=by
 have p:∀x d,G0 x=some d->∃v u,mg x=some u/\RelV v u/\∀F B H,Rep K ⟨mg,F⟩ B H d v:=λx d e=>by
  unfold G0 at e;rw[Pl]at e;split at e
  ·rename_i n;cases e;have o:x="MOST_PLACES":=by simpa using n
   subst o;exact⟨.int 8,_,PySem.W.mg_of X G M,⟨_,rfl⟩,λ_ _ _=>bq⟩
  cases e
 have r:=Zm.mp y
 have A:∀z∈RZ,XC l.prog w K mg z:=λz i=>by
  have g:=r z i;simp only[RZ,Zi,Tu,Ye]at i;rcases i with rfl|rfl|rfl|rfl|rfl|rfl
  ·exact wE X G g
  ·exact wE X G g
  ·exact wE X G g
  ·exact pL X G g
  ·obtain⟨f,fd,a,F⟩:=D.d_law_kinds;exact pM (e0:="_law_e") (N:=["_law_e","_law_found","_law_words"]) (a:=["NoWeb","NoPlace","NoPlaces","NoTie"]) (b:=["NoNumber","NoPairing","NoWay","NoRing"]) (c:=["NoArrows","NoSides","NoText","NoLine"]) (d:=["NoDeed","TooGreat"]) (wd:=["web","place","places","tie","number","pairing","way","ring","arrows","sides","text","line"]) (v:=["deed","great"]) X G g (by decide+kernel) F a (pO (by decide+kernel)) (F.binds λ_ _ _ _ _ _=>er λ_=>rfl) rfl (by decide+kernel) rfl rfl
  ·exact K3 X G g
 have E:En l.prog w K mg h:=⟨X,G,p,λx n=>PySem.W.mg_none_of X G (Z x n),A⟩;obtain⟨f,fd,a,F⟩:=D.d_law;have e:=m.symm.trans (PySem.W.mg_of X G a);cases e;have S:bv iG ["_law_script"] (bo (cA 56)):=pO (by decide+kernel);refine⟨fd,λs v=>?_,λbase _ _=>?_⟩
 ·obtain⟨L,P,kV,q,Q,an,C,I,O,rfl,lk,t⟩:=F.ex;exact .of_eq rfl
 ·exact cI.imp (C3 (k:=10) F S (MJ (ac (D3 E D) (by decide) (ac (D8 E D) (by decide) (ac (Ec E D) (by decide) (ac (D0 E D) (by decide) (ac (D4 E D) (by decide) (ac (D_ E D) (by decide) (ac (Ea E D) (by decide) (ac (D6 E D) (by decide) (ac (Eb E D) (by decide) (ac (Ed E D) (by decide) an)))))))))) p E.hb) rfl (by decide+kernel) λz i=>⟨E.xc z (ZV (Zm.mp (by decide+kernel:((dD eS).all λz=>decide (z∈RZ))=Nk) z i)),ZV (Zm.mp (by decide+kernel:((dD eS).all λz=>decide (z.need<=10))=Nk) z i)⟩) (Ef good)
mutual
theorem Eg{k:Nat}:∀(d:D),a7 0 d=Nk->a7 k d=Nk
 | .non,_=>rfl
 | .bl _,_=>rfl
 | .int _,_=>rfl
 | .str _,_=>rfl
 | .tup _,h=>by exact lD _ h
 | .lst _,h=>by exact lD _ h
 | .scr _,h=>by exact lD _ h
 | .ref n,h=>by dsimp only[a7]at h;simp at h
 | .fn y,_=>rfl
 | .ty y,_=>rfl
 | .dct,_=>rfl
 | .dks _,_=>rfl
theorem lD{k:Nat}:∀(ds:List D),bz 0 ds=Nk->bz k ds=Nk
 | [],_=>rfl
 |d::ds,h=>by dsimp only[bz]at h⊢;simp at h⊢;exact⟨Eg d h.1,lD _ h.2⟩
end
def Flat(S:ae):Prop:=∀xs∈S,bz 0 xs=Nk
theorem Flat.all{k:Nat}(h:Flat S):S.all (bz k)=Nk:=Zm.mpr λx H=>lD _ (h _ H)
theorem Flat.nil:Flat []:=λ_ h=>by cases h
theorem Flat.snoc(h:Flat S)(a:bz 0 xs=Nk):Flat (S++[xs]):=λy H=>by
 rcases ZP.mp H with z|z
 ·exact h _ z
 simp_all
theorem Flat.set(h:Flat S)(a:bz 0 xs=Nk):Flat (S.set n xs):=λy H=>by
 rcases List.mem_or_eq_of_mem_set H with z|z
 ·exact h _ z
 simp_all
theorem Eh{k:Nat}(h:Flat (S'.take k))(H:a7 0 d=Nk):el k d S'=.ok d (S'.take k):=by unfold el;rw[if_pos h.all,if_pos (Eg d H)]
theorem Lk(h:Flat S)(H:a7 0 d=Nk):el S.length d S=.ok d S:=by rw[Eh (by simp_all) H,Ot]
theorem wI{k:Nat}(a:S.length=k)(h:Flat S)(H:a7 0 d=Nk):el k d S=.ok d S:=by subst a;exact Lk h H
theorem wJ{step:D->List D->ae->Res (List D)}{S:ae}(g:D->Option D):∀(xs acc:List D),(∀x∈xs,∀acc,acc.length<cm->step x acc S=.ok (acc++(g x).toList) S)->acc.length+xs.length<=cm->aX step xs acc S=.ok (acc++xs.filterMap g) S
 | [],acc,_,_=>by simp[aX]
 |x::xs,acc,h,H=>by simp at H;simp[aX];rw[h x Ze _ (by lia)];unfold Res.bind;dsimp;rw[wJ g _ _ (λy a=>h y (Zc _ a)) (by grind)];cases e:g x<;>simp[e]
theorem Ll{l:List α}{f:α->Option Bool}(h:∀x∈l,f x=some Nk):bb (l.map f)=some Nk:=by
 induction l with
 |nil=>rfl
 |cons x l i=>unfold bb;simp_all
theorem allO_map{l:List α}{f:α->Bool}:bb (l.map λx=>some (f x))=some (l.all f):=by
 induction l with
 |nil=>rfl
 |cons x l i=>unfold bb;simp_all
noncomputable def aw(t:Int×Int):D:=.tup [.int t.1,.int t.2]
noncomputable def ag(ts:Lq):List D:=ts.map aw
noncomputable def ao(m:Int)(ts:Lq):D:=.tup [.int m,.tup (ag ts)]
theorem FK(t:Int×Int):a7 0 (aw t)=Nk:=rfl
theorem jE:∀(ts:Lq),bz 0 (ag ts)=Nk
 | []=>rfl
 |t::ts=>by show(a7 0 _&&bz 0 (ag _))=Nk;rw[jE _];rfl
theorem wK:∀(ns:Li),bz 0 (ns.map D.int)=Nk
 | []=>rfl
 |t::T=>by show(a7 0 _&&bz 0 _)=Nk;rw[wK _];rfl
theorem lE(m:Int)(ts:Lq):a7 0 (ao m ts)=Nk:=by show(Nk&&(bz 0 _&&Nk))=Nk;rw[jE];rfl
def aH(a b:Int×Int):Prop:=a.1<b.1\/(a.1=b.1/\a.2<b.2)
instance (a b:Int×Int):Decidable (aH a b):=by unfold aH;exact inferInstance
theorem wL(S:ae)(n:Nat)(a b:Int):b_ S (n+1) (.int a) (.int b)=some (a==b):=rfl
theorem pQ(S:ae)(n:Nat)(a b:Int×Int):b_ S (n+2) (aw a) (aw b)=some (decide (a=b)):=by
 have e:b_ S (n+2) (aw a) (aw b)=some _:=rfl;simp_all
 grind
theorem Ei(S:ae)(n:Nat)(a b:Int×Int):eD S (n+2) (aw a) (aw b)=some (decide (aH a b)):=by
 have e:eD S (n+2) (aw a) (aw b)=(match b_ S (n+1) (.int a.1) (.int b.1)with
  |some Nk=>(match b_ S (n+1) (.int a.2) (.int b.2)with
   |some Nk=>some Nl
   |some Nl=>some (decide (a.2<b.2))
   |none=>none)
  |some Nl=>some (decide (a.1<b.1))
  |none=>none):=rfl
 rw[e,wL,wL];obtain⟨A,c⟩:=a;obtain⟨b1,b2⟩:=b;unfold aH;dsimp only;by_cases h:A=b1
 ·subst h;by_cases H:c=b2
  ·subst H;simp
  ·have:(c==b2)=Nl:=by simpa using H
   simp[this]
 ·have:(A==b1)=Nl:=by simpa using h
  simp[this,h]
def aV(S:ae)(n:Nat):Prop:=∃a b,S[n]?=some [.int a,.int b]
theorem aV.set{m:Nat}{a b:Int}(h:aV S n):aV (S.set m [.int a,.int b]) n:=by
 obtain⟨x,y,h⟩:=h;by_cases e:m=n
 ·subst e;have H:=(Zg.mp h).1;exact⟨a,b,by rw[Yf H]⟩
 ·exact⟨x,y,by rw[NZ e];exact h⟩
theorem pR(o:Flat S)(c:aV S n)(H:0<m)(h1:m<1000):∃r a b,0<=r/\r<m/\bM [.ref n,.int m] S=.ok (.int r) (S.set n [.int a,.int b]):=by
 obtain⟨a,b,h⟩:=c;have j:=(Zg.mp h).1;have F:∀x y:Int,Flat (S.set n [.int x,.int y]):=λx y=>o.set rfl;have t:∀(r x y:Int),el S.length (.int r) (S.set n [.int x,.int y])=.ok (.int r) (S.set n [.int x,.int y]):=λr x y=>wI (by simp) (F x y) rfl;by_cases d:b=1
 ·subst d;refine⟨a%m,a/m,1,Rr _ (by omega),QQ _ H,?_⟩;rw[<-t];have q:m<1073741824:=by omega
  simp[bM,aD,wl,wk,af,aq,am,aj,ah,Res.bind,Res.noErr,aB,bR,az,h,hH,iQ,ax,bw,b_,sh,ye,a_,d0,hU,f',iT,H,q]
 ·have e:(b==1)=Nl:=by simpa using d
  have f:0<=(a%2147483629*48271+11)%2147483629:=Rr _ (by omega);have g:(a%2147483629*48271+11)%2147483629<2147483629:=QQ _ (by omega)
  have E:∀p:Int,(a%2147483629*48271+11)%2147483629=p->bM [.ref n,.int m] S=.ok (.int ((p*p+40692*p)%2147483647/8%m)) (S.set n [.int p,.int b]):=λp c=>by
   rw[c]at f g;have k: -(18446744073709551616:Int)<p:=by omega
   have l:p<(18446744073709551616:Int):=by omega
   have s:∀x,(S.set n x)[n]?=some x:=λx=>Yf j;have i:∀x y:List D,(S.set n x).set n y=S.set n y:=λx y=>List.set_set ..;clear j;rw[<-t];simp[bM,aD,wl,wk,af,aq,am,aj,ah,Res.bind,Res.noErr,aB,bR,az,h,hH,iQ,ax,bw,b_,sh,ye,a_,d0,hU,f',mR,e_,iT,H,e,d,s,i,c,k,l]
  exact⟨_,_,b,Rr _ (show m≠0 by omega),QQ _ H,E _ rfl⟩
structure cH (m:Int)(ts:Lq):Prop where
 lo:1<=m
 hi:m<=8
 ris:ts.Pairwise aH
 tie:∀t∈ts,0<=t.1/\t.1<t.2/\t.2<m
 few:ts.length<=28
theorem aN(c:ds.length=np)(h:af Φ Γ body (ds.map some++Nw (n-np) none) S=.ok (.ret d) S')(b:S'.length=S.length)(a:Flat S')(H:a7 0 d=Nk):aD Φ Γ body n np ds S=.ok d S':=by unfold aD;rw[if_pos c,h];exact wI b a H
theorem run_next(b:ds.length=np)(h:af Φ Γ body (ds.map some++Nw (n-np) none) S=.ok (.next ρ) S')(a:S'.length=S.length)(H:Flat S'):aD Φ Γ body n np ds S=.ok .non S':=by unfold aD;rw[if_pos b,h];exact wI a H rfl
theorem Lm(h:Flat S)(i:Int):fi [.int i] S=.ok (.bl Nk) S:=aN rfl rfl rfl h rfl
theorem wM(h:Flat S)(i l H:Int):fS [.int i,.int l,.int H] S=.ok (.bl (decide (l<=i/\i<=H))) S:=by refine aN rfl ?_ rfl h rfl;simp[lq,af,aq,aj,ah,Res.bind,Res.noErr,aB,pu,Lm h,ax,Fx];lia
theorem Ej(h:Flat S)(m i:Int):et [.int m,.int i] S=.ok (.bl (decide (0<=i/\i<m))) S:=by refine aN rfl ?_ rfl h rfl;have e:(i<=m-1)=(i<m):=propext (by lia);simp[lr,af,aq,aj,ah,Res.bind,Res.noErr,vT,wM h,d0,iR,e]
theorem wN{step:D->List D->ae->Res (List D)}(h:∀x∈xs,∀acc,acc.length<cm->step x acc S=.ok (acc++[.bl Nk]) S)(b:xs.length<=cm):aX step xs [] S=.ok (xs.map λ_=>D.bl Nk) S:=by rw[wJ (λ_=>some _) _ _ (λx a acc H=>h x a _ H) (by simp_all)];simp
theorem wO:iS [.lst (xs.map λ_=>D.bl Nk)] S=.ok (.bl Nk) S:=by unfold iS;simp only[az,ZY,show bb (xs.map (fv∘λx=>D.bl _))=some _ from Ll λx h=>rfl];rfl
theorem Ek(xs:List D):ba xs (some 1) none=xs.drop 1:=by
 unfold ba;have e:HT.bB xs.length 0 (some 1)=min 1 _:=rfl;have E:HT.bB xs.length _ none=xs.length:=rfl;rw[e,E];cases xs with
 |nil=>rfl
 |cons x r=>simp
theorem El(b:Flat S)(d:xs.length<=1000)(h:∀(i:Nat) x y,xs[i]?=some x->xs[i+1]?=some y->eD S a_ x y=some Nk):cF [.tup xs] S=.ok (.bl Nk) S:=by
 refine aN rfl ?_ rfl b rfl;have a:dv S (.tup xs) (.tup (xs.drop 1))=some (.items (Nq (λx y=>.tup [x,y]) xs (xs.drop 1))):=rfl;simp[vV,vU,af,aq,am,aj,ah,aZ,Res.bind,Res.noErr,aB,mX,cV,iv,aW];simp only[Ek xs,a,cw];rw[wN]
 ·simp only[Res.noErr,wO]
 ·intro z a A c;obtain⟨i,H⟩:=Sm.mp a;rw[Pg]at H;cases e:xs[i]? with
  |none=>rw[e]at H;cases H
  |some x=>
   cases E:(xs.drop 1)[i]? with
   |none=>rw[e,E]at H;cases H
   |some y=>rw[e,E]at H;cases H;rw[SS,Nat.add_comm]at E;simp[bp,bV,slots,du,aS,bH,aT,bx,aj,Res.bind,ax,h i x y e E,bw,Res.noErr];unfold cm at c;omega
 ·simp;unfold cm;omega
theorem Ln(H:Flat S)(e:ns.length<=1000)(h:∀n∈ns,0<=n/\n<m):dH [.int m,.tup (ns.map D.int)] S=.ok (.bl Nk) S:=by
 refine aN rfl ?_ rfl H rfl;have b:bJ [.tup (ns.map D.int),.ty "tuple"] S=.ok _ S:=rfl;simp[ls,af,aq,aj,ah,aZ,Res.bind,Res.noErr,aB,aW,b,fc,r8];simp only[cw];rw[wN]
 ·simp only[Res.noErr,wO]
 ·intro z c a d;obtain⟨n,f,rfl⟩:=Zq.mp c;simp[bp,bV,slots,aS,aT,bx,aj,ah,Res.bind,J4,Ej H m n];simp_all
 ·simp;lia
theorem Lo(H:Flat S){t:Int×Int}(h:0<=t.1/\t.1<t.2/\t.2<m):fT [.int m,aw t] S=.ok (.bl Nk) S:=by
 refine aN rfl ?_ rfl H rfl;have b:dH [.int m,aw t] S=.ok (.bl Nk) S:=Ln H (ns:=[t.1,t.2]) (by simp) (by intro n a;simp at a;rcases a with rfl|rfl<;>omega)
 have c:cF [aw t] S=.ok (.bl Nk) S:=El H (xs:=[.int t.1,.int t.2]) (by simp) (by
  intro i x y E e;have g:i=0:=by have:=(Zg.mp e).1;simp at this;omega
  subst g;simp at E e;subst E;subst e;show some (decide (t.1<t.2))=some Nk;simp[h.2.1])
 have d:aW .len [aw t] S=.ok (.int 2) S:=rfl;have f:ax .Eq (.int 2) (.int 2) S=.ok (.bl Nk) S:=rfl;simp[jn,C9,af,aq,am,aj,ah,Res.bind,Res.noErr,aB,px,C_,b,c,d,f]
theorem Em{i:Nat}{x:D}(h:(ag ts)[i]?=some x):∃t,ts[i]?=some t/\x=aw t:=by
 simp[ag]at h
 grind
theorem Lr(H:Flat S)(a:ts.length<=1000)(h:ts.Pairwise aH):cF [.tup (ag ts)] S=.ok (.bl Nk) S:=
 El H (by unfold ag;simpa using a) λi x y e E=>by obtain⟨t,f,rfl⟩:=Em e;obtain⟨u,F,rfl⟩:=Em E;rw[show eD S a_ _ _=some _ from Ei S _ t u];obtain⟨g,rfl⟩:=Zg.mp f;obtain⟨G,rfl⟩:=Zg.mp F;rw[ZW (Oe.mp h i _ _ _ (by omega))]
theorem Lu(h:Flat S)(W:cH m ts):df [ao m ts] S=.ok (.bl Nk) S:=by
 have l:=W.few;refine aN rfl ?_ rfl h rfl;have b:bJ [ao m ts,.ty "tuple"] S=.ok (.bl Nk) S:=rfl;have c:fL [ao m ts] S=.ok (.int 2) S:=rfl;have d:ax .NotEq (.int 2) (.int 2) S=.ok (.bl Nl) S:=rfl;have H:=wM h m 1 8;rw[ZW (⟨W.lo,W.hi⟩:1<=m/\m<=8)]at H;have e:bJ [.tup (ag ts),.ty "tuple"] S=.ok (.bl Nk) S:=rfl;have a:=Lr h (show ts.length<=1000 by omega) W.ris;have f:G0 "MOST_PLACES"=some (.int 8):=rfl;have g:aS (.tup [.var 1,.var 2]) (ao m ts) [some (ao m ts),none,none]=some _:=rfl;simp[jo,Dc,af,aq,am,aj,ah,aZ,Res.bind,Res.noErr,aB,aW,b,c,d,De,Dg,Dh,H,e,bc,a,f,g,fc,Dd,J5,yk];simp only[cw];rw[wN]
 ·simp only[Res.noErr,wO];simp[a]
 ·intro z k A i;obtain⟨t,j,rfl⟩:=Zq.mp k;simp[bp,bV,slots,du,aS,bH,aT,bx,aj,ah,Res.bind,Dh,Lo h (W.tie t j),Res.noErr];unfold cm at i;omega
 ·unfold ag cm;simp;omega
theorem Lw(h:Flat S)(W:cH m ts):dg [ao m ts] S=.ok .non S:=by refine run_next (ρ:=[some (ao m ts)]) rfl ?_ rfl h;simp[vZ,Dj,af,aq,am,aj,ah,Res.bind,Dl,Lu h W,bc]
theorem Eo{b:Type}{f e:b->D}{p:b->Bool}{step:D->List D->ae->Res (List D)}{S:ae}:∀(xs:List b) (acc:List D),(∀x∈xs,∀acc,acc.length<cm->step (f x) acc S=.ok (if p x=Nk then acc++[e x]else acc) S)->acc.length+xs.length<=cm->aX step (xs.map f) acc S=.ok (acc++(xs.filter p).map e) S
 | [],acc,_,_=>by simp[aX]
 |x::xs,acc,h,c=>by
  simp only[ZM]at c;simp only[Yc];unfold aX;rw[h x Ze acc (by omega)];unfold Res.bind;dsimp only;have i:=λa=>Eo (f:=f) (e:=e) (p:=p) (step:=step) xs a (λy d=>h y (Zc _ d));by_cases H:p x=Nk
  ·rw[if_pos H,i _ (by simp;omega)];simp[H]
  ·rw[if_neg H,i _ (by omega)];simp[H]
theorem pS{f e:α->D}{p:α->Bool}{step:D->List D->ae->Res (List D)}{xs:List α}(h:∀x∈xs,∀acc,acc.length<cm->step (f x) acc S=.ok (if p x=Nk then acc++[e x]else acc) S)(H:xs.length<=cm):aX step (xs.map f) [] S=.ok ((xs.filter p).map e) S:=by rw[Eo _ _ h (by simp_all)];simp
theorem bh{c:CS}{cs:List CS}(h:aq Φ Γ c ρ S=.ok (.next ρ') S'):af Φ Γ (c::cs) ρ S=af Φ Γ cs ρ' S':=by rw[af,h];rfl
theorem bF{c:CS}{cs:List CS}(h:aq Φ Γ c ρ S=.ok (.ret d) S'):af Φ Γ (c::cs) ρ S=.ok (.ret d) S':=by rw[af,h];rfl
theorem jF{t:CT}{it:CE}{its:iX}(h:aZ Φ Γ it ρ S=.ok its S1):aq Φ Γ (.for_ t it body) ρ S=ny (λx ρ S=>match aS t x ρ with
   |some ρ'=>af Φ Γ body ρ' S
   |none=>.fail) its ρ S1:=by
 rw[aq,h];rfl
theorem bN{i:Nat}{e:CE}{cs:List CS}(h:aj Φ Γ e ρ S=.ok d S'):af Φ Γ (.asg i e::cs) ρ S=af Φ Γ cs (ρ.set i (some d)) S':=
 bh (by rw[aq,h];rfl)
noncomputable def b8(l:Int):Nat->Li
 |0=>[]
 |n+1=>l::b8 (l+1) n
theorem wQ(l:Int)(n:Nat):dO l n=(b8 l n).map D.int:=by
 induction n generalizing l with
 |zero=>rfl
 |succ n i=>unfold dO b8;rw[i];rfl
theorem wR{l x:Int}:x∈b8 l n->l<=x/\x<l+n:=by
 induction n generalizing l with
 |zero=>intro h;cases h
 |succ n i=>
  intro h;unfold b8 at h;rcases Zi.mp h with rfl|h
  ·omega
  ·have:=i h;omega
theorem pT{l:Int}:(b8 l n).length=n:=by
 induction n generalizing l with
 |zero=>rfl
 |succ n i=>unfold b8;simp[i]
theorem wS(c:Flat S)(n:Nat)(i:Int):bD (n+1) [.int i,.int i] S=.ok (.bl Nk) S:=by
 refine aN rfl ?_ rfl c rfl;have h:bJ [.int i,.ty "bool"] S=.ok (.bl Nl) S:=rfl;have H:bJ [.int i,.ty "int"] S=.ok (.bl Nk) S:=rfl
 have a:ax .Eq (.int i) (.int i) S=.ok (.bl Nk) S:=by have:ax .Eq (.int i) (.int i) S=.ok (.bl (i==i)) S:=rfl;rw[this];simp
 have b:ax .Is (.int i) .non S=.ok (.bl Nl) S:=rfl;simp[ez,dU,af,aq,am,aj,ah,Res.bind,Res.noErr,aB,aW,h,H,a,b,bc]
noncomputable def insI(x:Int×Int):Lq->Lq
 | []=>[x]
 |y::ys=>if aH x y then x::y::ys else y::insI x ys
noncomputable def sortI(l:Lq):Lq:=l.foldl (λacc x=>insI x acc) []
theorem pU(a b:Int×Int):bW (.seq .int) (aw a) (aw b)=decide (aH a b):=by
 have e:bW (.seq .int) (aw a) (aw b)=(if decide (a.1<b.1)=Nk then Nk else if decide (b.1<a.1)=Nk then Nl else if decide (a.2<b.2)=Nk then Nk else if decide (b.2<a.2)=Nk then Nl else Nl):=rfl;rw[e];simp only[decide_eq_true_eq];by_cases h:aH a b
 ·rw[ZW h];unfold aH at h
  repeat' split
  all_goals first|rfl|omega
 ·rw[ZG h];unfold aH at h
  repeat' split
  all_goals first|rfl|omega
theorem Ep(x:Int×Int):∀l:Lq,dP (bW (.seq .int)) (aw x) (ag l)=ag (insI x l)
 | []=>rfl
 |y::Y=>by
  show(if bW _ _ _=Nk then aw x::aw y::ag _ else aw y::dP _ _ (ag _))=ag _;have e:insI x (y::Y)=if aH x y then x::y::Y else y::insI x _:=rfl;rw[pU,Ep x _,e];by_cases h:aH x y
  ·rw[ZW h,if_pos h];rfl
  ·rw[ZG h,if_neg h];rfl
theorem Er:∀(l acc:Lq),(ag l).foldl (λacc x=>dP (bW (.seq .int)) x acc) (ag acc)=ag (l.foldl (λacc x=>insI x acc) acc)
 | [],acc=>rfl
 |x::l,acc=>by show(ag l).foldl _ (dP _ _ _)=_;rw[Ep,Er l];rfl
theorem Es(l:Lq):eN (bW (.seq .int)) (ag l)=ag (sortI l):=Er l []
theorem pV(x:Int×Int):∀l,(insI x l).Perm (x::l)
 | []=>.refl _
 |y::Y=>by
  unfold insI;split
  ·exact .refl _
  ·exact((pV x _).cons y).trans (.swap x y _)
theorem Et:∀(l acc:Lq),(l.foldl (λacc x=>insI x acc) acc).Perm (l++acc)
 | [],acc=>.refl _
 |x::l,acc=>by exact(Et l _).trans (((pV x _).append_left l).trans Pm)
theorem wT(l:Lq):(sortI l).Perm l:=by have:=Et l [];rw[N4]at this;exact this
theorem lex_tot{x y:Int×Int}(h:¬aH x y)(n:x≠y):aH y x:=by
 unfold aH at h⊢
 grind
theorem Eu{x y z:Int×Int}(a:aH x y)(b:aH y z):aH x z:=by unfold aH at*;lia
theorem Ew(x:Int×Int):∀l,l.Pairwise aH->x∉l->(insI x l).Pairwise aH
 | [],_,_=>List.pairwise_singleton _ _
 |y::Y,h,n=>by
  obtain⟨a,b⟩:=ZK.mp h;unfold insI;by_cases e:aH x y
  ·rw[if_pos e];refine ZK.mpr ⟨λz H=>?_,h⟩;rcases Zi.mp H with rfl|H
   ·exact e
   ·exact Eu e (a z H)
  ·rw[if_neg e];refine ZK.mpr ⟨λz H=>?_,Ew x _ b λz=>n (Zc _ z)⟩;rcases Zi.mp ((pV x _).mem_iff.mp H)with rfl|H
   ·exact lex_tot e λz=>n (by simp_all)
   simp_all
theorem Ex:∀(l acc:Lq),acc.Pairwise aH->(l++acc).Nodup->(l.foldl (λacc x=>insI x acc) acc).Pairwise aH
 | [],acc,h,_=>h
 |x::l,acc,h,n=>by have N:=n;obtain⟨a,b⟩:=Oh.mp N;exact Ex l _ (Ew x _ h λz=>a (ZC _ z)) ((((pV x _).append_left l).trans Pm).nodup_iff.mpr N)
theorem Ey{l:Lq}(h:l.Nodup):(sortI l).Pairwise aH:=Ex l _ .nil (by simp_all)
theorem Ez{l:Lq}(H:az S d=some (ag l))(b:l.length<64):kq Nl (.seq .int) [d] S=.ok (.lst (ag (sortI l))) S:=by
 have e:(ag l).all (aA (.seq .int))=Nk:=by rw[Zm];intro x h;obtain⟨t,_,rfl⟩:=Zq.mp h;rfl
 have E:gf (.seq .int) (ag l)=Nk:=by
  have:((ag l).all λd=> !fw d)=Nk:=by rw[Zm];intro x h;obtain⟨t,_,rfl⟩:=Zq.mp h;rfl
  show(Nk&&((ag l).all λd=> !fw d))=Nk;rw[this];rfl
 have a:(ag l).length<64:=by unfold ag;rw[Zl];omega
 unfold kq;simp only[H];rw[if_pos ⟨e,a,E⟩,Es];rfl
theorem jG{l:Lq}(h1:1<=m)(h:m<=8)(a:l.Nodup)(c:∀t∈l,0<=t.1/\t.1<t.2/\t.2<m)(H:l.length<=28):cH m (sortI l):=
 ⟨h1,h,Ey a,λt b=>c t ((wT l).mem_iff.mp b),by rw[(wT l).length_eq];exact H⟩
noncomputable def fV(m:Nat):Lq:=(b8 0 m).flatMap λi=>(b8 (i+1) (m-1-i.toNat)).map λj=>(i,j)
theorem lF(h1:1<=m)(h:m<=8):m=1\/m=2\/m=3\/m=4\/m=5\/m=6\/m=7\/m=8:=by obtain⟨n,rfl⟩:=Qa (Int.le_trans (by decide) h1);exact(by decide:∀n:Fin 9,(1:Int)<=(n.val:Nat)->((n.val:Nat):Int)=1\/((n.val:Nat):Int)=2\/((n.val:Nat):Int)=3\/((n.val:Nat):Int)=4\/((n.val:Nat):Int)=5\/((n.val:Nat):Int)=6\/((n.val:Nat):Int)=7\/((n.val:Nat):Int)=8) ⟨n,Tn (R1.mp h)⟩ h1
theorem MN(h1:2<m)(H:m<=8):m=3\/m=4\/m=5\/m=6\/m=7\/m=8:=by
 rcases lF (Int.le_trans (by decide) h1) H with rfl|rfl|h
 ·exact absurd h1 (by decide)
 ·exact absurd h1 (by decide)
 ·exact h
theorem Ly(h1:1<=m)(h:m<=8):af DF G0 DE ([D.int m].map some++Nw (DD.length-1) none) S=.ok (.ret (.lst (ag (fV m.toNat)))) S:=by rcases lF h1 h with rfl|rfl|rfl|rfl|rfl|rfl|rfl|rfl<;>rfl
theorem pW(H:Flat S)(h1:1<=m)(h:m<=8):pB [.int m] S=.ok (.lst (ag (fV m.toNat))) S:=
 aN rfl (Ly h1 h) rfl H (jE _)
theorem EA(h1:1<=m)(h:m<=8):cH m (fV m.toNat):=by rcases lF h1 h with rfl|rfl|rfl|rfl|rfl|rfl|rfl|rfl<;>exact⟨by omega,by omega,by decide+kernel,by decide+kernel,by decide+kernel⟩
theorem pX{u:Lq}(W:cH m ts)(h:u.Sublist ts):cH m u:=
 ⟨W.lo,W.hi,W.ris.sublist h,λt H=>W.tie t (h.subset H),ZD h.length_le W.few⟩
def Drawn(n:Nat)(S S':ae):Prop:=∃a b:Int,S'=S.set n [.int a,.int b]
theorem Drawn.refl(h:aV S n):Drawn n S S:=by obtain⟨a,b,h⟩:=h;obtain⟨H,e⟩:=Zg.mp h;exact⟨a,b,by rw[<-e,List.set_getElem_self]⟩
theorem Drawn.trans(a:Drawn n S S1)(b:Drawn n S1 S2):Drawn n S S2:=by obtain⟨x,y,rfl⟩:=a;obtain⟨z,w,rfl⟩:=b;exact⟨z,w,by rw[List.set_set]⟩
theorem Drawn.flat(h:Drawn n S S')(H:Flat S):Flat S':=by obtain⟨a,b,rfl⟩:=h;exact H.set rfl
theorem Drawn.pen(h:Drawn n S S')(H:aV S n):aV S' n:=by obtain⟨a,b,rfl⟩:=h;exact H.set
theorem Drawn.len(h:Drawn n S S'):S'.length=S.length:=by obtain⟨a,b,rfl⟩:=h;simp
theorem cg(H:Flat S)(c:aV S n)(h:0<m)(h1:m<1000):∃r S',0<=r/\r<m/\Drawn n S S'/\bM [.ref n,.int m] S=.ok (.int r) S':=by obtain⟨r,a,b,x,y,e⟩:=pR H c h h1;exact⟨r,_,x,y,⟨a,b,rfl⟩,e⟩
theorem pY{n:Nat}{step:D->List D->ae->Res (List D)}{f:Int×Int->D}:∀(ts:Lq) (acc:List D) (S:ae),Flat S->aV S n->acc.length+ts.length<=1000->
  (∀t∈ts,∀acc S,Flat S->aV S n->acc.length<=1000->∃k S',Drawn n S S'/\step (f t) acc S=.ok (if k=Nk then acc++[f t]else acc) S')->
  ∃(us:Lq) (S':ae),us.Sublist ts/\Drawn n S S'/\aX step (ts.map f) acc S=.ok (acc++us.map f) S'
 | [],acc,S,b,H,_,_=>⟨[],S,.slnil,.refl H,by simp[aX]⟩
 |t::ts,acc,S,b,H,g,h=>by
  simp only[ZM]at g;obtain⟨k,a,d1,E⟩:=h t Ze acc S b H (by lia);rw[Yc];unfold aX;rw[E];cases k with
  |true=>obtain⟨us,c,s,d2,e⟩:=pY ts (acc++[f t]) a (d1.flat b) (d1.pen H) (by grind) λu d=>h u (Zc _ d);exact⟨t::us,c,s.cons_cons t,d1.trans d2,by show aX step (ts.map f) (acc++[f t]) a=_;simp_all⟩
  |false=>obtain⟨us,c,s,d2,e⟩:=pY ts acc a (d1.flat b) (d1.pen H) (by lia) λu d=>h u (Zc _ d);exact⟨us,c,s.cons t,d1.trans d2,by show aX step (ts.map f) acc a=_;rw[e]⟩
theorem wU{n:Nat}{step:D->List D->ae->Res (List D)}:∀(k:Nat) (lo:Int) (acc:List D) (S:ae),1<=lo->lo+k<=100->Flat S->aV S n->acc.length+k<=1000->
  (∀p:Int,1<=p->p<100->∀acc S,Flat S->aV S n->acc.length<=1000->∃r S',0<=r/\r<p/\Drawn n S S'/\step (.int p) acc S=.ok (acc++[aw (r,p)]) S')->
  ∃(us:Lq) (S':ae),us.map (·.2)=b8 lo k/\(∀t∈us,0<=t.1/\t.1<t.2/\lo<=t.2/\t.2<lo+k)/\Drawn n S S'/\aX step ((b8 lo k).map D.int) acc S=.ok (acc++ag us) S'
 |0,lo,acc,S,_,_,a,H,_,_=>⟨[],S,rfl,λt h=>(by cases h),.refl H,by simp[aX,b8,ag]⟩
 |k+1,lo,acc,S,f,g,a,H,i,h=>by
  obtain⟨r,c,R,j,d1,e⟩:=h lo f (by omega) acc S a H (by omega);obtain⟨us,d,s,v,d2,E⟩:=wU k (lo+1) (acc++[aw (r,lo)]) c (by omega) (by omega) (d1.flat a) (d1.pen H) (by simp;omega) h;refine⟨(r,lo)::us,d,?_,λt b=>?_,d1.trans d2,?_⟩
  ·simp_all;rfl
  ·rcases Zi.mp b with rfl|b
   ·dsimp only;omega
   ·have:=v t b;omega
  ·show aX step (D.int lo::(b8 (lo+1) k).map D.int) acc S=_;unfold aX;rw[e];show aX step _ (acc++[aw (r,lo)]) c=_;rw[E];simp[ag]
theorem EB{l:Int}:(b8 l n).Nodup:=by
 induction n generalizing l with
 |zero=>exact Qw
 |succ n i=>refine Oh.mpr ⟨λh=>?_,i⟩;have:=wR h;omega
theorem fW{c:CE}{a b:List CS}{k:Bool}(h:am Φ Γ c ρ S=.ok k S1):aq Φ Γ (.ite c a b) ρ S=if k=Nk then af Φ Γ a ρ S1 else af Φ Γ b ρ S1:=by rw[aq,h];rfl
theorem gL{tg:CT}{it:CE}{i:List CE}{body:CE}{a:ae}{its:iX}(h:aZ Φ Γ it ρ S=.ok its S1)
  (H:cw (λx acc S2=>match bp tg x (fr.map λj=>j.bind λj=>(ρ[j]?).join)with
    |some ρ'=>(aT Φ Γ i ρ' S2).bind λk S3=>if k=Nk then bx Φ Γ body ρ' acc S3 else .ok acc S3
    |none=>.fail) its [] S1=.ok ys a):aj Φ Γ (.comp Nl N fr tg it i body) ρ S=.ok (.lst ys) a:=by
 rw[aj,h];exact Eq.trans (ZX (λr=>Res.bind _ λys a=>if Nl=Nk then Res.ok (D.ref a.length) (a++[ys])else Res.ok (.lst ys) a) H) rfl
section
variable {S3:ae}{d2 r x y:D}{e a b:CE}
theorem al{i:Nat}(h:ρ[i]?=some (some d)):aj Φ Γ (.var i) ρ S=.ok d S:=by rw[aj,h]
theorem gM{k:jM}(h:aj Φ Γ e ρ S=.ok d S1)(H:aW k [d] S1=.ok r S2):aj Φ Γ (.blt k [e]) ρ S=.ok r S2:=by simp[aj,ah,h,Res.bind,H,Res.noErr]
theorem pZ(h1:aj Φ Γ a ρ S=.ok x S1)(h:aj Φ Γ b ρ S1=.ok y S2):aj Φ Γ (.tup [a,b]) ρ S=.ok (.tup [x,y]) S2:=by simp[aj,ah,h1,h,Res.bind]
theorem Lz{f:Str}(H:Φ f=some φ)(h1:aj Φ Γ a ρ S=.ok x S1)(h:φ [x] S1=.ok r S2):aj Φ Γ (.call f [a]) ρ S=.ok r S2:=by simp[aj,ah,H,h1,h,Res.bind]
theorem gO{f:Str}(c:Φ f=some φ)(h1:aj Φ Γ a ρ S=.ok x S1)(H:aj Φ Γ b ρ S1=.ok y S2)(h:φ [x,y] S2=.ok r S3):aj Φ Γ (.call f [a,b]) ρ S=.ok r S3:=by simp[aj,ah,c,h1,H,h,Res.bind]
theorem dJ(h:aj Φ Γ e ρ S=.ok d S1):aq Φ Γ (.ret e) ρ S=.ok (.ret d) S1:=by rw[aq,h];rfl
end
theorem eB{w k j:Int}(a:ρ[2]?=some (some (.int m)))(b:ρ[3]?=some (some (.int w))):am Φ Γ (.band (.cmp .Eq (.var 3) (.lit (.int k))) (.cmp .Gt (.var 2) (.lit (.int j)))) ρ S=.ok (decide (w=k/\j<m)) S:=by
 have e:ax .Eq (.int w) (.int k) S=.ok (.bl (w==k)) S:=rfl;have E:ax .Gt (.int m) (.int j) S=.ok (.bl (decide (j<m))) S:=rfl;by_cases h:w=k
 ·subst h;have H:(w==w)=Nk:=by simp
  rw[H]at e;simp[am,aj,Res.bind,Res.noErr,aB,a,b,e,E]
 ·have H:(w==k)=Nl:=by simpa using h
  rw[H]at e;simp[am,aj,Res.bind,Res.noErr,aB,a,b,e,E,h]
theorem p6{w k:Int}(h:ρ[3]?=some (some (.int w))):am Φ Γ (.cmp .Eq (.var 3) (.lit (.int k))) ρ S=.ok (decide (w=k)) S:=by have e:ax .Eq (.int w) (.int k) S=.ok (.bl (w==k)) S:=rfl;have E:(w==k)=decide (w=k):=rfl;simp[am,aj,Res.bind,Res.noErr,aB,h,e,E]
theorem gP{c:CE}{a:List CS}{cs:List CS}{P:Prop} [Decidable P] (h:am Φ Γ c ρ S=.ok (decide P) S)(H:¬P):af Φ Γ (.ite c a []::cs) ρ S=af Φ Γ cs ρ S:=
 bh (by rw[fW h,ZG H,if_neg ZT,af])
theorem gQ{c:CE}{a:List CS}{cs:List CS}{P:Prop} [Decidable P] (h:am Φ Γ c ρ S=.ok (decide P) S)(b:P)(H:af Φ Γ a ρ S=.ok (.ret d) S'):af Φ Γ (.ite c a []::cs) ρ S=.ok (.ret d) S':=
 bF (by rw[fW h,ZW b,if_pos rfl,H])
theorem EC{r:Int}(h:0<=r)(h1:r<12):∃v,0<=v/\v<8/\bR (.lst [.int 0,.int 0,.int 1,.int 0,.int 2,.int 1,.int 3,.int 4,.int 5,.int 6,.int 7,.int 0]) (.int r) S=.ok (.int v) S:=by
 obtain⟨n,rfl⟩:=Qa h;have H:n<12:=R3.mp h1;clear h h1
 match n,H with
 |0,_|1,_|2,_|3,_|4,_|5,_|6,_|7,_|8,_|9,_|10,_|11,_=>exact⟨_,by decide,by decide,rfl⟩
theorem ED{r:Int}(h:0<=r)(h1:r<5):∃v:Int,bR (.lst [.int 2,.int 3,.int 4,.int 6,.int 8]) (.int r) S=.ok (.int v) S:=by
 have:r=0\/r=1\/r=2\/r=3\/r=4:=by lia
 rcases this with rfl|rfl|rfl|rfl|rfl<;>exact⟨_,rfl⟩
noncomputable def sd(m:Nat):Lq:=(b8 0 (m-1)).map (λk=>(k,k+1))++[(0,(m:Int)-1)]
noncomputable def lG(m:Nat):Lq:=[(0,1),(0,2),(1,2)]++((b8 3 (m-4)).map (λk=>(k,k+1))++[(3,(m:Int)-1),(2,3)])
theorem wV(C:Flat S)(E:aV S n):∃m ts S',cH m ts/\Drawn n S S'/\ii [.ref n,.int 8] S=.ok (ao m ts) S':=by
 suffices h:∃m ts S',cH m ts/\Drawn n S S'/\af b7 G0 lu [some (.ref n),some (.int 8),none,none,none,none,none] S=.ok (.ret (ao m ts)) S' by obtain⟨m,ts,S',W,d,e⟩:=h;exact⟨m,ts,S',W,d,aN rfl e d.len (d.flat C) (lE m ts)⟩
 obtain⟨r,V,R,O,d1,e1⟩:=cg C E (m:=12) (by decide) (by decide);have G:=d1.flat C;have I:=d1.pen E;obtain⟨v,v0,v1,ev⟩:=EC (S:=V) R O;obtain⟨w,b,w0,w1,d2,e2⟩:=cg G I (m:=9) (by decide) (by decide);have H:=d2.flat G;have j:=d2.pen I;have D:=d1.trans d2;have hm:∃m:Int,1<=m/\m<=8/\1+8-1-v%8=m:=⟨8-v,by omega,by omega,by omega⟩;obtain⟨m,M,N,em⟩:=hm;unfold lu
 rw[bN (d:=.int m) (S':=V) (by simp[aj,ah,Res.bind,Res.noErr,ew,e1,ev,d0,e_,iR,hU];omega)];rw[bN (d:=.int w) (S':=b) (by simp[aj,ah,Res.bind,Res.noErr,ew,e2])];simp only[O0,O1];by_cases K:w=0/\2<m
 ·refine⟨m,sortI (sd m.toNat),b,?_,D,?_⟩
  ·have:=MN K.2 (by omega);rcases this with rfl|rfl|rfl|rfl|rfl|rfl<;>exact jG (by decide) (by decide) (by decide+kernel) (by decide+kernel) (by decide+kernel)
  ·refine gQ (eB rfl rfl) K ?_;have:=MN K.2 (by omega);rcases this with rfl|rfl|rfl|rfl|rfl|rfl<;>rfl
 rw[gP (eB rfl rfl) K];by_cases Z:w=1/\5<m
 ·refine⟨m,sortI (lG m.toNat),b,?_,D,?_⟩
  ·have:m=6\/m=7\/m=8:=by omega
   rcases this with rfl|rfl|rfl<;>exact jG (by decide) (by decide) (by decide+kernel) (by decide+kernel) (by decide+kernel)
  ·refine gQ (eB rfl rfl) Z ?_;have:m=6\/m=7\/m=8:=by omega
   rcases this with rfl|rfl|rfl<;>rfl
 rw[gP (eB rfl rfl) Z];have s:=EA M N;by_cases c3:w=2/\2<m
 ·obtain⟨q,a,q0,q1,B,F⟩:=cg H j (m:=2) (by decide) (by decide);have i:=B.flat H;refine⟨m,(fV m.toNat).filter (λt=>decide (t.1<1+q/\1+q<=t.2)),a,pX s Px,D.trans B,?_⟩;refine gQ (eB rfl rfl) c3 ?_;rw[bN (d:=.int (1+q)) (S':=a) (by simp[aj,ah,Res.bind,Res.noErr,ew,F,d0,e_])];refine bF ?_;simp[aq,aj,ah,aZ,Res.bind,Res.noErr,aB,aW,cw,pC,pW i M N,fc];unfold ag;rw[pS (f:=aw) (e:=aw) (p:=λt=>decide (t.1<1+q/\1+q<=t.2))]
  ·simp[Res.noErr,kc,az,ao,ag]
  ·intro t U A P;have c:A.length<16777216:=P;have x0:bR (aw t) (.int 0) a=.ok (.int t.1) a:=rfl;have x1:bR (aw t) (.int 1) a=.ok (.int t.2) a:=rfl;have X:ax .Lt (.int t.1) (.int (1+q)) a=.ok (.bl (decide (t.1<1+q))) a:=rfl;have x3:ax .LtE (.int (1+q)) (.int t.2) a=.ok (.bl (decide (1+q<=t.2))) a:=rfl;by_cases y1:t.1<1+q<;>by_cases y2:1+q<=t.2<;>simp[bp,bV,slots,du,aS,bH,aT,am,bx,aj,Res.bind,Res.noErr,aB,x0,x1,X,x3,y1,y2,c]
  ·have:=s.few;unfold cm;omega
 rw[gP (eB rfl rfl) c3];by_cases c4:w=3
 ·obtain⟨u,a,s3,v3,B,F⟩:=wU (n:=n) (step:=λx A b=>match bp (.var 0) x [none,some (.ref n)]with
    |some g=>(aT b7 G0 [] g b).bind λk a=>if k=Nk then bx b7 G0 (.emit (.tup [.call "_law_draw" [.var 1,.var 0],.var 0])) g A a else .ok A a
    |none=>.fail) (m-1).toNat 1 [] b (by decide) (by omega) H j (by simp;omega) (λp p0 p1 A S C E P=>by
     obtain⟨r,S',R,O,d,e⟩:=cg C E (m:=p) (by omega) (by omega);refine⟨r,S',R,O,d,?_⟩;have c:A.length<16777216:=by omega
     simp[bp,bV,slots,du,aS,bH,aT,bx,aj,ah,Res.bind,ew,e,aw,c])
  have hl:u.length=(m-1).toNat:=by have:=ZX Oj s3;simpa[pT]using this
  have hn:u.Nodup:=by
   have h:(u.map (·.2)).Nodup:=by rw[s3];exact EB
   exact(Yh.mp h).imp λz e=>z (by rw[e])
  refine⟨m,sortI u,a,jG M N hn (λt U=>by have:=v3 t U;omega) (by omega),D.trans B,?_⟩;refine gQ (p6 rfl) c4 (bF ?_);have L:aZ b7 G0 (.range [.lit (.int 1),.var 2]) [some (.ref n),some (.int 8),some (.int m),some (.int w),none,none,none] b=.ok (.items (dO 1 (m-1).toNat)) b:=by simp[aZ,ah,aj,Res.bind];omega
  have Q:aj b7 G0 (.comp Nl ["_law_place","_law_pen_here"] [none,some 0] (.var 0) (.range [.lit (.int 1),.var 2]) [] (.emit (.tup [.call "_law_draw" [.var 1,.var 0],.var 0]))) [some (.ref n),some (.int 8),some (.int m),some (.int w),none,none,none] b=.ok (.lst (ag u)) a:=by rw[wQ]at L;exact gL L F
  have J:=Ez (S:=a) (d:=.lst (ag u)) (l:=u) rfl (by omega);exact dJ (pZ (al rfl) (gM (gM Q J) rfl))
 rw[gP (p6 rfl) c4];obtain⟨q,a,q0,q1,B,F⟩:=cg H j (m:=5) (by decide) (by decide);have i:=B.flat H;have T:=B.pen j;obtain⟨o,eo⟩:=ED (S:=a) q0 q1;rw[bN (d:=.int o) (S':=a) (by simp[aj,ah,Res.bind,Res.noErr,ew,F,eo])];simp only[O0,O1]
 obtain⟨u,Y,s4,d4,e4⟩:=pY (n:=n) (f:=aw) (step:=λx A b=>match bp (.var 0) x [none,some (.ref n),some (.int o)]with
    |some g=>(aT b7 G0 [.cmp .Lt (.call "_law_draw" [.var 1,.lit (.int 8)]) (.var 2)] g b).bind λk a=>if k=Nk then bx b7 G0 (.emit (.var 0)) g A a else .ok A a
    |none=>.fail) (fV m.toNat) [] a i T (by have:=s.few;simp;omega) (λt U A S C E P=>by
     obtain⟨r,S',R,O,d,e⟩:=cg C E (m:=8) (by decide) (by decide);refine⟨decide (r<o),S',d,?_⟩;have X:ax .Lt (.int r) (.int o) S'=.ok (.bl (decide (r<o))) S':=rfl;have c:A.length<16777216:=by omega
     by_cases y:r<o<;>simp[bp,bV,slots,du,aS,bH,aT,am,bx,aj,ah,Res.bind,Res.noErr,aB,ew,e,X,y,c])
 refine⟨m,u,Y,pX s s4,(D.trans B).trans d4,bF ?_⟩
 have Q:aj b7 G0 (.comp Nl ["_law_tie","_law_pen_here","_law_often"] [none,some 0,some 6] (.var 0) (.seq (.call "_law_pairs" [.var 2])) [.cmp .Lt (.call "_law_draw" [.var 1,.lit (.int 8)]) (.var 2)] (.emit (.var 0))) [some (.ref n),some (.int 8),some (.int m),some (.int w),none,none,some (.int o)] a=.ok (.lst (ag u)) Y:=by
  have L:aZ b7 G0 (.seq (.call "_law_pairs" [.var 2])) [some (.ref n),some (.int 8),some (.int m),some (.int w),none,none,some (.int o)] a=.ok (.items ((fV m.toNat).map aw)) a:=by simp[aZ,ah,aj,Res.bind,pC,pW i M N,fc,ag]
  exact gL L e4
 exact dJ (pZ (al rfl) (gM Q rfl))
section
variable {A B:List D}
end
noncomputable def Kn(d:D):Prop:=(∃i,d=.int i)\/(∃b,d=.bl b)\/(∃x,d=.str x)\/d=.non\/(∃xs,d=.tup xs)\/∃xs,d=.lst xs
noncomputable def g9:D->Bool
 | .int _=>Nk
 |_=>Nl
noncomputable def f6(m:Int):D->Bool
 | .int i=>decide (0<=i/\i<m)
 |_=>Nl
theorem lH(H:Flat S)(h:Kn d):fi [d] S=.ok (.bl (g9 d)) S:=by
 refine aN rfl ?_ rfl H rfl;rcases h with⟨i,rfl⟩| ⟨b,rfl⟩| ⟨x,rfl⟩|rfl| ⟨X,rfl⟩| ⟨X,rfl⟩
 ·rfl
 ·rfl
 ·rfl
 ·rfl
 ·rfl
 rfl
theorem Kn.isI_or(h:Kn d):(∃i,d=.int i)\/(g9 d=Nl/\∀m,f6 m d=Nl):=by
 rcases h with h| ⟨b,rfl⟩| ⟨x,rfl⟩|rfl| ⟨X,rfl⟩| ⟨X,rfl⟩
 ·exact .inl h
 all_goals exact .inr ⟨rfl,λ_=>rfl⟩
theorem EE(H:Flat S)(m:Int)(h:Kn d):et [.int m,d] S=.ok (.bl (f6 m d)) S:=by
 rcases h.isI_or with⟨i,rfl⟩| ⟨a,e⟩
 ·exact K04.Ej H m i
 ·rw[e m];have b:=lH H h;rw[a]at b
  have c:∀l a:Int,fS [d,.int l,.int a] S=.ok (.bl Nl) S:=λl a=>by refine aN rfl ?_ rfl H rfl;simp[lq,af,aq,aj,ah,Res.bind,aB,pu,b]
  refine aN rfl ?_ rfl H rfl;show af vS G0 lr [some (.int m),some d] S=_;have f:d0 .Sub (.int m) (.int 1) S=.ok (.int (m-1)) S:=rfl;simp only[lr,af,aq,aj,ah,Res.bind,Res.noErr,vT,c,f,Zr,Zs]
theorem lI{f:D->Bool}:iS [.lst (ds.map λd=>.bl (f d))] S=.ok (.bl (ds.all f)) S:=by show bw (bb ((ds.map λd=>D.bl (f d)).map fv)) S=_;rw[ZY];have:bb (ds.map (fv∘λd=>D.bl (f d)))=some (ds.all f):=allO_map;rw[this];rfl
theorem EF{step:D->List D->ae->Res (List D)}(f:D->Bool)(h:∀x∈xs,∀acc,acc.length<cm->step x acc S=.ok (acc++[.bl (f x)]) S)(a:xs.length<=cm):aX step xs [] S=.ok (xs.map λx=>D.bl (f x)) S:=by rw[wJ (λx=>some (.bl (f x))) xs [] (λx b acc H=>h x b acc H) (by simpa using a)];simp
theorem wW{e:CE}{rs:List (Option D)}{it:CE}{f:D->Bool}(i:aZ Φ G0 it ρ S=.ok (.items ds) S)(k:fr.map (λj=>j.bind λj=>(ρ[j]?).join)=none::rs)(l:ds.length<=1000)(g:∀d∈ds,aj Φ G0 e (some d::rs) S=.ok (.bl (f d)) S):
  aj Φ G0 (.comp Nl N fr (.var 0) it [] (.emit e)) ρ S=.ok (.lst (ds.map λd=>.bl (f d))) S:=by
 refine gL i ?_;rw[k];refine EF f (λd c a b=>?_) (show ds.length<=16777216 by lia);have h:a.length<16777216:=b;have H:bp (.var 0) d (none::rs)=some (some d::rs):=rfl;rw[H];simp[aT,bx,Res.bind,g d c,h]
theorem wX{i:Nat}(h:ρ[i]?=some (some (.tup ds))):aZ Φ G0 (.seq (.var i)) ρ S=.ok (.items ds) S:=by simp[aZ,aj,h,Res.bind,fc]
theorem wY{e:CE}{f:D->Bool}(h:aj Φ G0 e ρ S=.ok (.lst (ds.map λd=>.bl (f d))) S):aj Φ G0 (.blt .all [e]) ρ S=.ok (.bl (ds.all f)) S:=by have H:aW .all [.lst (ds.map λd=>D.bl (f d))] S=.ok (.bl (ds.all f)) S:=lI;simp only[aj,ah,h,Res.bind,H,Res.noErr]
theorem EG:ls=[.ret (.band (.blt .isinst [.var 1,.ty "tuple"]) (.blt .all [r8]))]:=rfl
theorem p9(a:Flat S)(m:Int)(h:∀x∈xs,Kn x)(j:xs.length<=1000):dH [.int m,.tup xs] S=.ok (.bl (xs.all (f6 m))) S:=by
 refine aN rfl ?_ rfl a rfl;show af jm G0 ls [some (.int m),some (.tup xs)] S=_;have g:aW .isinst [.tup xs,.ty "tuple"] S=.ok (.bl Nk) S:=rfl
 have b:=wY (S:=S) (wW (S:=S) (Φ:=jm) (N:=["place","many"]) (fr:=[none,some 0]) (e:=.call "is_place" [.var 1,.var 0]) (ρ:=[some (.int m),some (.tup xs)]) (rs:=[some (.int m)]) (f:=f6 m) (wX (i:=1) rfl) rfl j λd c=>by have l:=EE a m (h d c);trivial);simp only[EG];refine bF ?_;generalize k:(CE.blt jM.all [r8])=q;have H:aj jm G0 q [some (.int m),some (.tup xs)] S=.ok (.bl (xs.all (f6 m))) S:=k▸b;simp only[aq,aj,ah,Res.bind,Res.noErr,g,aB,H,Zr,Zs,if_true]
def NT(d:D):Prop:=∀S,bJ [d,.ty "tuple"] S=.ok (.bl Nl) S
theorem EI(H:Flat S)(m:Int)(h:NT d):dH [.int m,d] S=.ok (.bl Nl) S:=by refine aN rfl ?_ rfl H rfl;show af jm G0 ls [some (.int m),some d] S=_;have a:aW .isinst [d,.ty "tuple"] S=.ok (.bl Nl) S:=h S;simp only[EG];refine bF ?_;simp only[aq,aj,ah,Res.bind,Res.noErr,a,aB,Zr,Zs,Zu,Z6,r8]
theorem p_(H:Flat S)(h:dH [.int m,d] S=.ok (.bl Nl) S):fT [.int m,d] S=.ok (.bl Nl) S:=by refine aN rfl ?_ rfl H rfl;simp[jn,af,aq,aj,ah,Res.bind,aB,px,h,r8]
theorem LA(H:Flat S)(h:∀x∈xs,Kn x)(d:xs.length<=1000)(f:xs.length≠2):fT [.int m,.tup xs] S=.ok (.bl Nl) S:=by
 have a:=p9 H m h d;cases e:xs.all (f6 m)with
 |false=>rw[e]at a;exact p_ H a
 |true=>
  refine aN rfl ?_ rfl H rfl;have b:aW .len [.tup xs] S=.ok (.int (xs.length:Nat)) S:=rfl
  have c:ax .Eq (.int (xs.length:Nat)) (.int 2) S=.ok (.bl Nl) S:=by
   have:ax .Eq (.int (xs.length:Nat)) (.int 2) S=.ok (.bl (((xs.length:Nat):Int)==2)) S:=rfl;have:¬(((xs.length:Nat):Int)=2):=by lia
   simp_all
  simp[jn,af,aq,aj,ah,Res.bind,Res.noErr,aB,px,a,b,c]
structure wZ (e:D):Prop where
 kn:Kn e
 tu:∀xs,e=.tup xs->(∀x∈xs,Kn x)/\xs.length<=1000/\(xs.length≠2\/xs.all g9=Nl)
theorem Kn.nt(h:Kn d):NT d\/∃xs,d=.tup xs:=by
 rcases h with⟨i,rfl⟩| ⟨b,rfl⟩| ⟨x,rfl⟩|rfl|h| ⟨xs,rfl⟩
 ·exact .inl λ_=>rfl
 ·exact .inl λ_=>rfl
 ·exact .inl λ_=>rfl
 ·exact .inl λ_=>rfl
 ·exact .inr h
 ·exact .inl λ_=>rfl
theorem LB(h:xs.all g9=Nl):xs.all (f6 m)=Nl:=by rw[List.all_eq_false]at h⊢;obtain⟨x,H,q⟩:=h;refine⟨x,H,λz=>q ?_⟩;cases x<;>first|rfl|cases z
theorem LC(a:Flat S)(m:Int){e:D}(h:wZ e):fT [.int m,e] S=.ok (.bl Nl) S:=by
 rcases h.kn.nt with g| ⟨x,rfl⟩
 ·exact p_ a (EI a m g)
 ·obtain⟨b,c,H⟩:=h.tu x rfl;by_cases d:x.length=2
  ·rcases H with H|H
   ·exact absurd d H
   ·have f:=p9 a m b c;rw[LB H]at f;exact p_ a f
  ·exact LA a b c d
theorem w4(j:Flat S)(g:D->D->Bool)(l:xs.length<=1000)(h:∀x∈xs,∀y∈xs,eD S a_ x y=some (g x y)):cF [.tup xs] S=.ok (.bl ((Nq g xs (xs.drop 1)).all id)) S:=by
 refine aN rfl ?_ rfl j rfl;have b:dv S (.tup xs) (.tup (xs.drop 1))=some (.items (Nq (λx y=>.tup [x,y]) xs (xs.drop 1))):=rfl;have f:=K04.Ek xs;simp[vV,vU,af,aq,am,aj,ah,aZ,Res.bind,Res.noErr,aB,mX,cV,iv,aW];simp only[f,b,cw]
 have a:(Nq g xs (xs.drop 1)).all id=(Nq (λx y=>D.tup [x,y]) xs (xs.drop 1)).all λd=>match d with
   | .tup [x,y]=>g x y
   |_=>Nl:=by
  generalize xs.drop 1=Y;clear b f l h
  induction xs generalizing Y with
  |nil=>rfl
  |cons x xs I=>
   cases Y with
   |nil=>rfl
   |cons y Y=>simp only[O4,OC,I Y,id]
 rw[EF (λd=>match d with
   | .tup [x,y]=>g x y
   |_=>Nl)]
 ·simp only[Res.noErr];rw[lI,<-a,List.drop_one]
 ·intro z b A k;obtain⟨i,H⟩:=Sm.mp b;rw[Pg]at H;cases e:xs[i]? with
  |none=>rw[e]at H;cases H
  |some x=>
   cases E:(xs.drop 1)[i]? with
   |none=>rw[e,E]at H;cases H
   |some y=>rw[e,E]at H;cases H;rw[SS,Nat.add_comm]at E;have c:=h x (Zo e) y (Zo E);simp[bp,bV,slots,du,aS,bH,aT,bx,aj,Res.bind,ax,c,bw,Res.noErr];unfold cm at k;omega
 ·simp;unfold cm;omega
noncomputable def eU(ps:Lq):Bool:=(Nq (λx y=>decide (aH x y)) ps (ps.drop 1)).all id
theorem EJ:∀ps:Lq,eU ps=Nk↔ps.Pairwise aH
 | []=>by decide
 | [x]=>by simp[eU]
 |x::y::ps=>by
  have i:=EJ (y::ps);have e:eU (x::y::ps)=(decide (aH x y)&&eU (y::ps)):=rfl;simp only[e,ZN,decide_eq_true_eq,i,ZK (a:=x)];constructor
  ·intro⟨H,b⟩;refine⟨λz h=>?_,b⟩;rcases Zi.mp h with rfl|h
   ·exact H
   ·exact K04.Eu H ((ZK.mp b).1 z h)
  simp_all
noncomputable def Nb:D->D->Bool
 | .tup [.int a,.int b],.tup [.int c,.int d]=>decide (aH (a,b) (c,d))
 |_,_=>Nl
theorem EK(H:Flat S){ps:Lq}(a:ps.length<=1000):cF [.tup (ag ps)] S=.ok (.bl (eU ps)) S:=by
 have h:=w4 H (xs:=ag ps) Nb (by unfold ag;simpa using a) λx b y c=>by obtain⟨t,_,rfl⟩:=Zq.mp b;obtain⟨u,_,rfl⟩:=Zq.mp c;exact K04.Ei S 38 t u
 rw[h];unfold ag eU;rw[<-OU,Tv];rfl
theorem LD(c:Flat S)(m:Int)(t:Int×Int):fT [.int m,aw t] S=.ok (.bl (decide (0<=t.1/\t.1<t.2/\t.2<m))) S:=by
 have h:=p9 c m (xs:=[.int t.1,.int t.2]) (by intro x H;simp at H;rcases H with rfl|rfl<;>exact .inl ⟨_,rfl⟩) (by simp);have g:[D.int t.1,D.int t.2].all (f6 m)=decide ((0<=t.1/\t.1<m)/\0<=t.2/\t.2<m):=by simp[f6]
 rw[g]at h;by_cases d:(0<=t.1/\t.1<m)/\0<=t.2/\t.2<m
 ·rw[ZW d]at h
  have e:=w4 c (xs:=[.int t.1,.int t.2]) (λx y=>match x,y with
   | .int a,.int b=>decide (a<b)
   |_,_=>Nl) (by simp) (by intro x H y f;simp at H f;rcases H with rfl|rfl<;>rcases f with rfl|rfl<;>rfl)
  have i:(Nq (λx y=>match x,y with
   |D.int a,D.int b=>decide (a<b)
   |_,_=>Nl) [D.int t.1,D.int t.2] ([D.int t.1,D.int t.2].drop 1)).all id=decide (t.1<t.2):=by simp
  rw[i]at e;refine aN rfl ?_ rfl c rfl;show af pw G0 jn [some (.int m),some (aw t)] S=_;have j:dH [.int m,aw t] S=.ok (.bl Nk) S:=h;have k:cF [aw t] S=.ok (.bl (decide (t.1<t.2))) S:=e;have l:aW .len [aw t] S=.ok (.int 2) S:=rfl;have n:ax .Eq (.int 2) (.int 2) S=.ok (.bl Nk) S:=rfl
  have E:decide (0<=t.1/\t.1<t.2/\t.2<m)=decide (t.1<t.2):=by apply decide_eq_decide.mpr;omega
  rw[E];simp only[jn,af,aq,am,aj,ah,Res.bind,Res.noErr,aB,px,C_,j,k,l,n,Zr,Zs,if_true]
 ·rw[ZG d]at h;rw[ZG (by omega)];exact p_ c h
def Item(e:D):Prop:=(∃t,e=aw t)\/wZ e
theorem EL(n:Nat):∀(a b:Lq),bb (Nq (b_ S (n+2)) (ag a) (ag b))=some (decide (a.take b.length=b.take a.length))
 | [],b=>by simp[ag,bb]
 |a::as,[]=>rfl
 |a::as,b::bs=>by
  have i:=EL n as bs;have e:Nq (b_ S (n+2)) (ag (a::as)) (ag (b::bs))=b_ S (n+2) (aw a) (aw b)::Nq (b_ S (n+2)) (ag as) (ag bs):=rfl;simp only[e,K04.pQ]
  show(match some (decide (a=b)),bb (Nq (b_ S (n+2)) (ag as) (ag bs))with
   |some b,some c=>some (b&&c)
   |_,_=>none)=_
  simp_all
theorem w_(a b:Lq)(h:a.length=b.length):ax .Eq (.lst (ag a)) (.lst (ag b)) S=.ok (.bl (decide (a=b))) S:=by show bw (if(ag a).length=(ag b).length then bb (Nq (b_ S (37+2)) (ag a) (ag b))else some Nl) S=_;rw[if_pos (by unfold ag;simpa using h),EL,h,Ot,<-h,Ot];rfl
theorem fq:∀{es:List D},(∀e∈es,a7 0 e=Nk)->bz 0 es=Nk
 | [],_=>rfl
 |e::es,h=>by show(a7 0 e&&bz 0 es)=Nk;rw[h e Ze,fq λx H=>h x (Zc _ H)];rfl
def It(e:D):Prop:=Item e/\a7 0 e=Nk
structure dh (d:D):Prop where
 is:NT d\/∃es,d=.tup es/\(∀e∈es,Item e)/\es.length<64
 lo:a7 0 d=Nk
theorem jH{es:List D}(a:es.length<64)(h:∀e∈es,It e):dh (.tup es):=⟨.inr ⟨es,rfl,λe H=>(h e H).1,a⟩,fq λe H=>(h e H).2⟩
theorem LF{es:List D}(h:∀e∈es,It e):dh (.lst es):=⟨.inl λ_=>rfl,fq λe H=>(h e H).2⟩
theorem fX(t:Int×Int):It (aw t):=⟨.inl ⟨t,rfl⟩,rfl⟩
theorem qa{e:D}(h:Kn e)(a:NT e)(H:a7 0 e=Nk):It e:=⟨.inr ⟨h,λx q=>by subst q;have:=a [];cases this⟩,H⟩
theorem jI(h:∀x∈xs,Kn x)(b:xs.length<=1000)(a:xs.length≠2\/xs.all g9=Nl)(H:a7 0 (.tup xs)=Nk):It (.tup xs):=⟨.inr ⟨.inr (.inr (.inr (.inr (.inl ⟨xs,rfl⟩)))),λy q=>by cases q;exact⟨h,b,a⟩⟩,H⟩
theorem jJ{r:Int}(H:az S d=some xs)(h:0<=r)(h1:r<(xs.length:Nat)):∃x∈xs,bR d (.int r) S=.ok x S:=by
 have:hH xs r=some xs[r.toNat]:=by simp[hH,iQ];simp_all
 unfold bR;simp_all
theorem qb{p q:List D}(h:p.length+q.length<=1000):d0 .Add (.tup p) (.tup q) S=.ok (.tup (p++q)) S:=by have e:d0 .Add (.tup p) (.tup q) S=if p.length+q.length<=cm then .ok _ S else .fail:=rfl;lia
theorem EM{p q:List D}(h:p.length+q.length<=1000):d0 .Add (.lst p) (.lst q) S=.ok (.lst (p++q)) S:=by
 have e:d0 .Add (.lst p) (.lst q) S=if p.length+q.length<=cm then .ok (.lst (p++q)) S else .fail:=rfl
 grind
theorem xa(l:List D)(L h:Option Int):(ba l L h).Sublist l:=(QS _ _).trans (S_ _ _)
theorem EN(l:List D)(L h:Option Int):(ba l L h).length<=l.length:=(xa l _ _).length_le
theorem lJ(l:List D):nq (.tup l) (.int (-1)) S=.ok (.tup l.reverse) S:=rfl
theorem sl_tup(l:List D)(L h:Option Int):mX (.tup l) L h S=.ok (.tup (ba l L h)) S:=rfl
end K04
namespace Py
abbrev Ti:=Int×Int
end Py
variable {G:List (List Py.Ti)}
namespace Pc
theorem EO:∀{l k:Li},l.Pairwise (· < ·)->k.Pairwise (· < ·)->(∀p,p∈l↔p∈k)->l=k
 | [],[],_,_,_=>rfl
 | [],y::k,_,_,h=>absurd ((h y).mpr Ze) (by simp)
 |x::l,[],_,_,h=>absurd ((h x).mp Ze) (by simp)
 |x::l,y::k,a,H,h=>by
  obtain⟨L,c⟩:=ZK.mp a;obtain⟨K,b⟩:=ZK.mp H
  have e:x=y:=by
   rcases Zi.mp ((h x).mp Ze)with z|z
   ·exact z
   ·rcases Zi.mp ((h y).mpr Ze)with w|w
    ·exact w.symm
    ·have:=K x z;have:=L y w;omega
  subst e;rw[EO c b λp=>⟨_,_⟩]
  ·grind
  grind
open K04
theorem LG{l:Int}:(b8 l n).Pairwise (· < ·):=by
 induction n generalizing l with
 |zero=>exact .nil
 |succ n i=>exact ZK.mpr ⟨λx h=>by have:=wR h;omega,i⟩
theorem LH{l x:Int}:x∈b8 l n↔l<=x/\x<l+n:=by
 refine⟨wR,λh=>?_⟩
 induction n generalizing l with
 |zero=>lia
 |succ n i=>
  simp only[b8]
  grind
section
variable {m:Nat}
end
end Pc
namespace K04
open Pc
theorem qc{A:List D}:(S++[A])[S.length]?=some A:=by simp
theorem LI{A B:List D}:(S++[A]).set S.length B=S++[B]:=by simp_all
theorem xb{n:Nat}{step:D->List D->ae->Res (List D)}:∀(xs:Li) (acc:List D) (S:ae),Flat S->aV S n->acc.length+xs.length<=1000->
  (∀x∈xs,∀acc S,Flat S->aV S n->acc.length<=1000->∃k S',Drawn n S S'/\step (.int x) acc S=.ok (if k=Nk then acc++[.int x]else acc) S')->
  ∃(us:Li) (S':ae),us.Sublist xs/\Drawn n S S'/\aX step (xs.map D.int) acc S=.ok (acc++us.map D.int) S'
 | [],acc,S,b,H,_,_=>⟨[],S,.slnil,.refl H,by simp[aX]⟩
 |t::T,acc,S,b,H,f,h=>by
  simp only[ZM]at f;obtain⟨k,a,d1,E⟩:=h t Ze acc S b H (by omega);simp only[Yc];unfold aX;rw[E];cases k with
  |true=>obtain⟨us,c,s,d2,e⟩:=xb T (acc++[.int t]) a (d1.flat b) (d1.pen H) (by simp;omega) λu d=>h u (Zc _ d);exact⟨t::us,c,s.cons_cons t,d1.trans d2,by show aX step (T.map D.int) (acc++[.int t]) a=_;rw[e];simp⟩
  |false=>obtain⟨us,c,s,d2,e⟩:=xb T acc a (d1.flat b) (d1.pen H) (by omega) λu d=>h u (Zc _ d);exact⟨us,c,s.cons t,d1.trans d2,by show aX step (T.map D.int) acc a=_;rw[e]⟩
structure EQ (m:Int)(so:Li):Prop where
 len:so.length<=8
 inn:∀p∈so,0<=p/\p<m
 ris:so.Pairwise (· < ·)
theorem qd(i:Flat S)(h:aV S n)(M:1<=m)(C:m<=8):∃so S',EQ m so/\Drawn n S S'/\jC [.ref n,.int m] S=.ok (.tup (so.map D.int)) S':=by
 obtain⟨r,b,R,G,d1,w⟩:=K04.cg i h (m:=3) (by decide) (by decide);have H:=d1.flat i;have l:=d1.pen h
 obtain⟨u,g,s,d2,z⟩:=xb (n:=n) (step:=λx a g=>match bp (.var 0) x [none,some (.ref n),some (.int (1+r))]with
    |some f=>(aT pI G0 [.cmp .Lt (.call "_law_draw" [.var 1,.lit (.int 4)]) (.var 2)] f g).bind λk o=>if k=Nk then bx pI G0 (.emit (.var 0)) f a o else .ok a o
    |none=>.fail) (b8 0 m.toNat) [] b H l (by rw[K04.pT];simp;omega) (λt B a S i h A=>by
     obtain⟨q,S',Q,F,d,e⟩:=K04.cg i h (m:=4) (by decide) (by decide);refine⟨decide (q<1+r),S',d,?_⟩;have v:bM [.ref n,.int 4] S=.ok (.int q) S':=e;have X:ax .Lt (.int q) (.int (1+r)) S'=.ok (.bl (decide (q<1+r))) S':=rfl;have j:a.length<16777216:=by omega
     by_cases y:q<1+r<;>simp[bp,bV,slots,du,aS,bH,aT,am,bx,aj,ah,Res.bind,Res.noErr,aB,DP,v,X,y,j])
 have c:=s.length_le;rw[K04.pT]at c;refine⟨u,g,⟨by omega,λp h=>by have:=LH.mp (s.subset h);omega,LG.sublist s⟩,d1.trans d2,aN rfl ?_ (d1.trans d2).len (d2.flat H) (K04.wK _)⟩;unfold DO;have E:bM [.ref n,.int 3] S=.ok (.int r) b:=w;refine(bN (d:=.int (1+r)) (S':=b) (by simp[wB,aj,ah,Res.bind,Res.noErr,DP,E,d0,e_])).trans ?_;refine bF (dJ (gM (d:=.lst (u.map D.int)) (S1:=g) ?_ rfl));refine gL (its:=.items ((b8 0 m.toNat).map D.int)) (S1:=b) ?_ z;simp[wB,aZ,ah,aj,Res.bind,K04.wQ];omega
theorem xf{step:D->bu->ae->Res Fl}(J:bu->ae->Prop):∀(xs:List D),(∀x∈xs,∀ρ S,J ρ S->∃ρ' S',J ρ' S'/\step x ρ S=.ok (.next ρ') S')->∀ρ S,J ρ S->∃ρ' S',J ρ' S'/\ee step xs ρ S=.ok (.next ρ') S'
 | [],_,ρ,S,j=>⟨_,S,j,rfl⟩
 |x::xs,h,ρ,S,j=>by obtain⟨c,f,a,e⟩:=h x Ze _ S j;obtain⟨d,g,b,E⟩:=xf J _ (λy H=>h y (Zc _ H)) _ _ a;refine⟨_,_,b,?_⟩;unfold ee;rw[e];exact E
theorem LJ{A:List D}(h:A.length<cm):ki (.ref T.length) [d] (T++[A])=.ok .non (T++[A++[d]]):=by unfold ki;simp only[qc,if_pos h,LI]
end K04
namespace K04
noncomputable def pD(p:List Ti):D:=.tup (ag p)
section
variable {T A:List (List D)}{a u b:Int}{ts c:List Ti}
end
theorem xg:∀n,bD n=K04.bD n
 |0=>rfl
 |n+1=>by
  show aD (tbl [("_law_same",bD n)]) G0 ez dU.length 2=aD (tbl [("_law_same",K04.bD n)]) K04.G0 K04.ez K04.dU.length 2;rw[xg n]
  all_goals rfl
theorem xh{S:ae}{step:D->bu->ae->Res Fl}{a b:Option D}:∀(xs:List D) (x y:Option D),(∀z∈xs,∀(x y:Option D),step (.tup [z,z]) [a,b,x,y] S=.ok (.next [a,b,some z,some z]) S)->∃X Y,ee step (Nq (λx y=>.tup [x,y]) xs xs) [a,b,x,y] S=.ok (.next [a,b,X,Y]) S
 | [],x,y,_=>⟨x,y,rfl⟩
 |z::xs,x,y,h=>by obtain⟨X,Y,e⟩:=xh xs (some z) (some z) λw hw=>h w (Zc _ hw);refine⟨X,Y,?_⟩;rw[O4];unfold ee;rw[h z Ze];exact e
theorem xi(t:Flat S)(v:∀z∈xs,bD n [z,z] S=.ok (.bl Nk) S):bD (n+1) [.tup xs,.tup xs] S=.ok (.bl Nk) S:=by
 show aD (tbl [("_law_same",bD n)]) G0 ez dU.length 2 _ S=_;refine aN rfl ?_ rfl t rfl;generalize h:D.tup xs=d;have i:bJ [d,.ty "bool"] S=.ok (.bl Nl) S:=by subst h;rfl
 have j:bJ [d,.ty "int"] S=.ok (.bl Nl) S:=by subst h;rfl
 have k:bJ [d,.ty "str"] S=.ok (.bl Nl) S:=by subst h;rfl
 have l:ax .Is d .non S=.ok (.bl Nl) S:=by subst h;rfl
 have m:bJ [d,.ty "list"] S=.ok (.bl Nl) S:=by subst h;rfl
 have o:bJ [d,.ty "tuple"] S=.ok (.bl Nk) S:=by subst h;rfl
 have p:ax .NotEq (.bl Nl) (.bl Nl) S=.ok (.bl Nl) S:=rfl;have q:ax .NotEq (.bl Nk) (.bl Nk) S=.ok (.bl Nl) S:=rfl;have r:fL [d] S=.ok (.int xs.length) S:=by subst h;simp[fL,az]
 have H:ax .NotEq (.int xs.length) (.int xs.length) S=.ok (.bl Nl) S:=by have:ax .NotEq (.int xs.length) (.int xs.length) S=.ok (.bl (!((xs.length:Int)==xs.length))) S:=rfl;rw[this];simp
 have g:dv S d d=some (.items (Nq (λx y=>.tup [x,y]) xs xs)):=by subst h;rfl
 unfold ez;refine(bh (ρ':=[some d,some d,none,none]) (S':=S) (by simp[dU,aq,af,am,aj,ah,Res.bind,Res.noErr,aB,aW,l])).trans ?_;refine(bh (ρ':=[some d,some d,none,none]) (S':=S) (by simp[aq,af,am,aj,ah,Res.bind,Res.noErr,aB,aW,i,bc])).trans ?_;refine(bh (ρ':=[some d,some d,none,none]) (S':=S) (by simp[aq,af,am,aj,ah,Res.bind,Res.noErr,aB,aW,j,bc])).trans ?_;refine(bh (ρ':=[some d,some d,none,none]) (S':=S) (by simp[aq,af,am,aj,ah,Res.bind,Res.noErr,aB,aW,k,bc])).trans ?_;refine(bh (ρ':=[some d,some d,none,none]) (S':=S) (by simp[aq,af,am,aj,ah,Res.bind,Res.noErr,aB,aW,m,o,p,q,bc])).trans ?_;refine(bh (ρ':=[some d,some d,none,none]) (S':=S) (by simp[aq,af,am,aj,ah,Res.bind,Res.noErr,aB,aW,r,H,bc])).trans ?_
 obtain⟨X,Y,e⟩:=xh (S:=S) (a:=some d) (b:=some d) (step:=λx A S=>match aS (.tup [.var 2,.var 3]) x A with
   |some c=>af (tbl [("_law_same",bD n)]) G0 [.ite (.bnot (.call "_law_same" [.var 2,.var 3])) [.ret (.lit (.bl Nl))] []] c S
   |none=>.fail) xs none none (λz w x y=>by have u:=v z w;simp[aS,bH,af,aq,am,aj,ah,Res.bind,tbl,u,bc])
 have s:aZ (tbl [("_law_same",bD n)]) G0 (.zip [.var 0,.var 1]) [some d,some d,none,none] S=.ok (.items (Nq (λx y=>.tup [x,y]) xs xs)) S:=by simp only[aZ,ah,aj,Res.bind,Zr,Zs,g]
 refine(bh (ρ':=[some d,some d,X,Y]) (S':=S) ((jF s).trans e)).trans ?_;rfl
theorem qe(h:Flat T)(n:Nat)(p:List Ti):bD (n+3) [pD p,pD p] T=.ok (.bl Nk) T:=
 xi h λz H=>by
  obtain⟨t,_,rfl⟩:=Zq.mp H;refine xi h λw hw=>?_;rw[xg];rcases Zi.mp hw with rfl|hw
  ·exact K04.wS h n _
  ·rw[NW.mp hw];exact K04.wS h n _
section
variable {u a r:Int}{ts:List Ti}
end
section
variable {u:Int}{ts:List Ti}
end
section
variable {A B C:List D}{P:List (List Ti)}
end
section
variable {ts:List Ti}{P:List (List Ti)}{x3:Option D}
end
section
variable {c t l w a b:Int}{x8 x9:Option D}
end
section
variable {ts:List Ti}
end
noncomputable def lK(ns:Li):D:=.tup (ns.map D.int)
theorem xj(ns:Li):a7 0 (lK ns)=Nk:=K04.wK _
theorem xk{e:CE}{tg:CT}{rs:α->bu}{it:CE}{ds:List α}{h:α->D}{f:α->D}(n:aZ Φ G0 it ρ S=.ok (.items (ds.map h)) S)(o:fr.map (λj=>j.bind λj=>(ρ[j]?).join)=r0)
  (l:∀d∈ds,bp tg (h d) r0=some (rs d)) (q:ds.length<=100000) (m:∀d∈ds,aj Φ G0 e (rs d) S=.ok (f d) S):aj Φ G0 (.comp Nl N fr tg it [] (.emit e)) ρ S=.ok (.lst (ds.map f)) S:=by
 refine gL n ?_;rw[o]
 have:=pS (p:=λ_=>Nk) (e:=f) (S:=S) (step:=λy a i=>match bp _ y _ with
    |some b=>(aT Φ G0 [] b i).bind λk c=>if k=Nk then bx Φ G0 (.emit e) b a c else .ok a c
    |none=>.fail) λd g a H=>by rw[l d g];simp[aT,bx,Res.bind,m d g,H] (show ds.length<=16777216 by lia)
 rw[SH.mpr λ_ _=>rfl]at this;exact this
theorem fY{b:jM}{e:CE}{r:D}(h:aj Φ G0 e ρ S=.ok d S)(H:aW b [d] S=.ok r S):aj Φ G0 (.blt b [e]) ρ S=.ok r S:=by simp[aj,ah,h,Res.bind,H,Res.noErr]
theorem allAt{ds:List α}{f:α->Bool}:aW .all [.lst (ds.map λd=>.bl (f d))] S=.ok (.bl (ds.all f)) S:=by show bw _ S=_;rw[ZY];have:bb (ds.map (fv∘λd=>D.bl (f d)))=some _:=allO_map;rw[this];rfl
theorem iI{b:jM}{es:List CE}{k:Bool}(h:aj Φ G0 (.blt b es) ρ S=.ok (.bl k) S):am Φ G0 (.blt b es) ρ S=.ok k S:=by
 simp only[aj]at h;dsimp only[am];cases e:ah _ _ _ _ S with
 |ok D a=>
  rw[e]at h;dsimp[Res.bind]at h⊢;cases E:aW b _ _ with
  |ok d c=>rw[E]at h;cases h;rfl
  |err x c=>rw[E]at h;cases h
  |fail=>rw[E]at h;cases h
 |err x a=>rw[e]at h;cases h
 |fail=>rw[e]at h;cases h
theorem lL{e:CE}(h:aj Φ G0 e ρ S=.ok d S)(H:fc S d=some (.items ds)):aZ Φ G0 (.seq e) ρ S=.ok (.items ds) S:=by rw[aZ,h];simp[Res.bind,H]
theorem lM{i:Nat}(h:ρ[i]?=some (some d)):aj Φ G0 (.var i) ρ S=.ok d S:=by simp[aj,h]
theorem ar:aj Φ G0 (.lit d) ρ S=.ok d S:=rfl
theorem cj{a b:CE}{x e:D}(h1:aj Φ G0 a ρ S=.ok d S1)(h:aj Φ G0 b ρ S1=.ok e S2)(H:bR d e S2=.ok x S2):aj Φ G0 (.idx a b) ρ S=.ok x S2:=by simp[aj,h1,h,Res.bind,H,Res.noErr]
theorem dV{o:Rj}{a b:CE}{x e:D}(h1:aj Φ G0 a ρ S=.ok d S1)(h:aj Φ G0 b ρ S1=.ok e S2)(H:d0 o d e S2=.ok x S2):aj Φ G0 (.bin o a b) ρ S=.ok x S2:=by simp[aj,h1,h,Res.bind,H,Res.noErr]
theorem lN{o:PU}{a b:CE}{x e:D}(h1:aj Φ G0 a ρ S=.ok d S1)(h:aj Φ G0 b ρ S1=.ok e S2)(H:ax o d e S2=.ok x S2):aj Φ G0 (.cmp o a b) ρ S=.ok x S2:=by simp[aj,h1,h,Res.bind,H,Res.noErr]
theorem xl{f:Str}{a b:CE}{x y:D}{k:Bool}(c:Φ f=some φ)(h1:aj Φ G0 a ρ S=.ok x S)(H:aj Φ G0 b ρ S=.ok y S)(h:φ [x,y] S=.ok (.bl k) S):am Φ G0 (.call f [a,b]) ρ S=.ok k S:=by simp[am,ah,c,h1,H,Res.bind,h,bc]
theorem bd{e:CE}{k:Bool}(h:am Φ G0 e ρ S=.ok k S):am Φ G0 (.bnot e) ρ S=.ok (!k) S:=by simp[am,h,Res.bind]
theorem gR{c:CE}{cs:List CS}(h:am Φ G0 c ρ S=.ok Nk S):af Φ G0 (.ite c [.ret (.lit (.bl Nl))] []::cs) ρ S=.ok (.ret (.bl Nl)) S:=by refine bF ?_;rw[fW h];rfl
theorem dW{c:CE}{cs:List CS}(h:am Φ G0 c ρ S=.ok Nl S):af Φ G0 (.ite c [.ret (.lit (.bl Nl))] []::cs) ρ S=af Φ G0 cs ρ S:=by refine bh ?_;rw[fW h];rfl
theorem c0{a b:CE}{x y:Bool}(h1:am Φ G0 a ρ S=.ok x S)(h:am Φ G0 b ρ S=.ok y S):am Φ G0 (.bor a b) ρ S=.ok (x||y) S:=by simp[am,Res.bind];lia
theorem eV{a b:CE}(h1:am Φ G0 a ρ S=.ok Nk S):am Φ G0 (.bor a b) ρ S=.ok Nk S:=by simp only[am,h1,Res.bind,if_true]
theorem jK{o:PU}{a b:CE}{e:D}{k:Bool}(h1:aj Φ G0 a ρ S=.ok d S)(h:aj Φ G0 b ρ S=.ok e S)(H:ax o d e S=.ok (.bl k) S):am Φ G0 (.cmp o a b) ρ S=.ok k S:=by simp[am,h1,h,Res.bind,H,Res.noErr,aB]
theorem qf{f:Str}{a:CE}{x:D}{k:Bool}(H:Φ f=some φ)(h1:aj Φ G0 a ρ S=.ok x S)(h:φ [x] S=.ok (.bl k) S):am Φ G0 (.call f [a]) ρ S=.ok k S:=by simp[am,ah,H,h1,Res.bind,h,bc]
theorem LK:fi=K04.fi:=rfl
noncomputable def gS(m:Int):D->Bool
 | .tup [.int a,.int b]=>decide (0<=a/\a<b/\b<m)
 |_=>Nl
theorem ER{e:D}(h:wZ e)(m:Int):gS m e=Nl:=by
 unfold gS;split
 ·obtain⟨_,_,q⟩:=h.tu _ rfl;rcases q with q|q
  ·exact absurd rfl q
  ·cases q
 ·rfl
theorem xm{m:Int}:∀{es:List D},es.all (gS m)=Nk->∃ps,es=ag ps
 | [],_=>⟨[],rfl⟩
 |e::es,h=>by
  simp only[OC,ZN]at h;obtain⟨ps,rfl⟩:=xm h.2;have H:=h.1;unfold gS at H;split at H
  ·rename_i a b;exact⟨(a,b)::ps,rfl⟩
  trivial
noncomputable def frB:D->Bool
 | .int i=>decide (1<=i/\i<=8)
 |_=>Nl
theorem qg(H:Flat S){a:D}(h:Kn a):fS [a,.int 1,.int 8] S=.ok (.bl (frB a)) S:=by
 rcases h.isI_or with⟨i,rfl⟩| ⟨b,d⟩
 ·exact K04.wM H i 1 8
 ·have c:=K04.lH H h;rw[b,<-LK]at c;have:frB a=Nl:=by cases a<;>first|rfl|cases b
  rw[this];refine aN rfl ?_ rfl H rfl;simp[lq,af,aq,aj,ah,Res.bind,aB,pu,c]
theorem cR{i:Nat}{k:Bool}(h:ρ[i]?=some (some d))(H:bJ [d,.ty "tuple"] S=.ok (.bl k) S):am Φ G0 (.blt .isinst [.var i,.ty "tuple"]) ρ S=.ok k S:=by have H:aW .isinst [d,.ty "tuple"] S=.ok (.bl k) S:=H;exact iI (by simp only[aj,ah,h,Res.bind,H,Res.noErr])
theorem gT{i:Nat}(h:ρ[i]?=some (some (.tup xs))):am Φ G0 (.cmp .NotEq (.blt .len [.var i]) (.lit (.int 2))) ρ S=.ok (!(decide (xs.length=2))) S:=by
 have H:aW .len [.tup xs] S=.ok (.int (xs.length:Nat)) S:=rfl;refine jK (fY (al h) H) ar ?_;have:ax .NotEq (.int (xs.length:Nat)) (.int 2) S=.ok (.bl (!(((xs.length:Nat):Int)==2))) S:=rfl;rw[this];have e:(((xs.length:Nat):Int)==2)=decide (xs.length=2):=by lia
 rw[e]
theorem xn:jo=[.ite Dd [.ret (.lit (.bl Nl))] [],.asgT (.tup [.var 1,.var 2]) (.var 0),.ite J5 [.ret (.lit (.bl Nl))] [],.ret (.band (.blt .all [yk]) (.call "is_rising" [.var 2]))]:=rfl
theorem lO(e:Flat S){a b:D}(h:Kn a):am de G0 (.call "is_number_from" [.var 1,.lit (.int 1),.glob "MOST_PLACES"]) [some d,some a,some b] S=.ok (frB a) S:=by have H:=qg e h;have c:G0 "MOST_PLACES"=some (.int 8):=rfl;simp only[am,aj,ah,Res.bind,Zs,Zr,c,Dg,H,bc]
theorem lP(H:Flat S)(h:am de G0 Dd [some d,none,none] S=.ok Nk S):df [d] S=.ok (.bl Nl) S:=by refine aN rfl ?_ rfl H rfl;show af de G0 jo [some d,none,none] S=_;rw[xn];exact gR h
theorem xo(H:Flat S)(h:NT d):df [d] S=.ok (.bl Nl) S:=lP H (eV (bd (cR rfl (h S))))
theorem ES(H:Flat S)(h:xs.length≠2):df [.tup xs] S=.ok (.bl Nl) S:=lP H (by have:=c0 (Φ:=de) (bd (cR (i:=0) (S:=S) (d:=.tup xs) (ρ:=[some (.tup xs),none,none]) (k:=Nk) rfl rfl)) (gT (i:=0) (xs:=xs) rfl);rw[ZG h]at this;exact this)
theorem ET{a b:D}{cs:List CS}:af de G0 (.ite Dd [.ret (.lit (.bl Nl))] []:: .asgT (.tup [.var 1,.var 2]) (.var 0)::cs) [some (.tup [a,b]),none,none] S=af de G0 cs [some (.tup [a,b]),some a,some b] S:=by have:=c0 (Φ:=de) (bd (cR (i:=0) (S:=S) (d:=.tup [a,b]) (ρ:=[some (.tup [a,b]),none,none]) (k:=Nk) rfl rfl)) (gT (i:=0) (xs:=[a,b]) rfl);refine(dW this).trans ?_;refine bh ?_;rw[aq,al (d:=.tup [a,b]) rfl];rfl
theorem EU(c:Flat S){a b:D}(f:Kn a)(h:frB a=Nl\/NT b):df [.tup [a,b]] S=.ok (.bl Nl) S:=by
 refine aN rfl ?_ rfl c rfl;show af de G0 jo [some (.tup [a,b]),none,none] S=_;simp only[xn,ET];have H:=lO (b:=b) (d:=.tup [a,b]) c f;refine gR ?_;cases e:frB a with
 |false=>rw[e]at H;exact eV (bd H)
 |true=>
  rw[e]at h H;rcases h with h|h
  ·cases h
  ·exact c0 (bd H) (bd (cR rfl (h S)))
theorem LL(H:Flat S){e:D}(h:Item e):fT [.int m,e] S=.ok (.bl (gS m e)) S:=by
 rcases h with⟨t,rfl⟩|h
 ·exact K04.LD H m t
 ·rw[ER h];exact K04.LC H m h
theorem qh(c:Flat S){es:List D}{k:Bool}(o:1<=m/\m<=8)(j:∀e∈es,Item e)(n:es.length<=1000)(l:es.all (gS m)=Nk->cF [.tup es] S=.ok (.bl k) S):df [.tup [.int m,.tup es]] S=.ok (.bl (es.all (gS m)&&k)) S:=by
 refine aN rfl ?_ rfl c rfl;show af de G0 jo [some (.tup [.int m,.tup es]),none,none] S=_;rw[xn,ET];have g:=lO (a:=.int m) (b:=.tup es) (d:=.tup [.int m,.tup es]) c (.inl ⟨m,rfl⟩);rw[show frB (.int m)=Nk from ZW o]at g;refine(dW (c0 (bd g) (bd (cR (k:=Nk) rfl rfl)))).trans ?_
 have H:aj de G0 (.blt .all [yk]) [some (.tup [.int m,.tup es]),some (.int m),some (.tup es)] S=.ok (.bl (es.all (gS m))) S:=wY (S:=S) (wW (S:=S) (rs:=[some (.int m)]) (f:=gS m) (wX rfl) rfl n λe i=>by have h:=LL c (m:=m) (j e i);trivial);show af de G0 [.ret (.band (.blt .all [yk]) (.call "is_rising" [.var 2]))] [some (.tup [.int m,.tup es]),some (.int m),some (.tup es)] S=_;refine bF (dJ ?_);generalize CE.blt .all [yk]=q at H⊢;cases e:es.all (gS m)with
 |false=>rw[e]at H;simp only[aj,H,Res.bind,aB,Zu,Z6,Bool.false_and]
 |true=>rw[e]at H;simp only[aj,ah,H,Res.bind,aB,De,l e,if_true,Bool.true_and,Zs,Zr]
theorem EV:pF=[.ite ym [.ret (.lit (.bl Nl))] [],.ite (.bnot (.blt .isinst [g8,.ty "tuple"])) [.ret (.lit (.bl Nl))] [],.for_ (.var 1) (.seq g8) r_,.ret (.cmp .Eq (.blt (.list Nl) [g8]) (.sset g8))]:=rfl
theorem lQ(H:Flat S)(h:am bE G0 ym [some d,none] S=.ok Nk S):eA [d] S=.ok (.bl Nl) S:=by refine aN rfl ?_ rfl H rfl;show af bE G0 pF [some d,none] S=_;rw[EV];exact gR h
theorem EW(H:Flat S)(h:NT d):eA [d] S=.ok (.bl Nl) S:=lQ H (eV (bd (cR rfl (h S))))
theorem xp(a:Flat S)(h:xs.length≠2):eA [.tup xs] S=.ok (.bl Nl) S:=lQ a (by have H:=gT (Φ:=bE) (S:=S) (ρ:=[some (.tup xs),none]) (i:=0) (xs:=xs) rfl;rw[ZG h]at H;exact c0 (bd (cR (k:=Nk) rfl rfl)) (eV H))
theorem qk(H:Flat S){a b:D}{x:Option D}(h:Kn a):am bE G0 (.call "_law_whole" [yl]) [some (.tup [a,b]),x] S=.ok (g9 a) S:=
 qf Kv (cj (al rfl) ar rfl) (K04.lH H h)
theorem lR(f:Flat S){a b:D}(h:Kn a):am bE G0 ym [some (.tup [a,b]),none] S=.ok (!(frB a)) S:=by
 have H:=qk (b:=b) (x:=none) f h
 have e:∀y,am bE G0 (.bor (.bnot (.call "_law_whole" [yl])) (.bnot FJ)) [some (.tup [a,b]),none] S=.ok y S->am bE G0 ym [some (.tup [a,b]),none] S=.ok y S:=λy j=>
  c0 (bd (cR (k:=Nk) rfl rfl)) (c0 (gT (xs:=[a,b]) rfl) j)
 refine e _ ?_;rcases h.isI_or with⟨i,rfl⟩| ⟨c,l⟩
 ·have g:am bE G0 FJ [some (.tup [.int i,b]),none] S=.ok (decide (1<=i/\i<=8)) S:=by
   have d1:aj bE G0 yl [some (.tup [.int i,b]),none] S=.ok (.int i) S:=cj (al rfl) ar rfl;have C:ax .LtE (.int 1) (.int i) S=.ok (.bl (decide (1<=i))) S:=rfl;have d:ax .LtE (.int i) (.int 8) S=.ok (.bl (decide (i<=8))) S:=rfl;unfold FJ;simp only[am,aj,d1,Res.bind,C,d,Res.noErr,aB];by_cases q:1<=i<;>simp[q]
  exact c0 (bd H) (bd g)
 ·rw[c]at H;have:frB a=Nl:=by cases a<;>first|rfl|cases c
  rw[this];exact eV (bd H)
theorem lS(c:Flat S){a b:D}(d:Kn a)(h:frB a=Nl\/NT b):eA [.tup [a,b]] S=.ok (.bl Nl) S:=by
 have H:=lR (b:=b) c d;cases e:frB a with
 |false=>rw[e]at H;exact lQ c H
 |true=>
  rw[e]at h H;rcases h with h|h
  ·cases h
  ·refine aN rfl ?_ rfl c rfl;refine(dW H).trans (gR (bd (k:=Nl) (iI ?_)));have f:aW .isinst [b,.ty "tuple"] S=.ok (.bl Nl) S:=h S;have d1:aj bE G0 g8 [some (.tup [a,b]),none] S=.ok b S:=cj (al rfl) ar rfl;show aj bE G0 (.blt .isinst [g8,.ty "tuple"]) [some (.tup [a,b]),none] S=_;simp only[aj,ah,d1,Res.bind,f,Res.noErr]
theorem LM{a b c d:CE}{i j k l:Int}(h1:aj Φ G0 a ρ S=.ok (.int i) S)(h:aj Φ G0 b ρ S=.ok (.int j) S)(H:aj Φ G0 c ρ S=.ok (.int k) S)(g:aj Φ G0 d ρ S=.ok (.int l) S):am Φ G0 (.chain3 .LtE .Lt .Lt a b c d) ρ S=.ok (decide (i<=j/\j<k/\k<l)) S:=by have C:ax .LtE (.int i) (.int j) S=.ok (.bl (decide (i<=j))) S:=rfl;have e:ax .Lt (.int j) (.int k) S=.ok (.bl (decide (j<k))) S:=rfl;have f:ax .Lt (.int k) (.int l) S=.ok (.bl (decide (k<l))) S:=rfl;simp only[am,h1,h,H,g,Res.bind,C,e,f,Res.noErr,aB];by_cases q:i<=j<;>by_cases Q:j<k<;>simp[q,Q]
theorem EX(a:Flat S)(h:∀x∈xs,Kn x)(c:xs.length<=1000):am bE G0 Ku [some d,some (.tup xs)] S=.ok (!(decide (xs.length=2)&&xs.all g9)) S:=by have H:aj bE G0 (.blt .all [MK]) [some d,some (.tup xs)] S=.ok (.bl (xs.all g9)) S:=wY (S:=S) (wW (S:=S) (rs:=[]) (f:=g9) (wX rfl) rfl c λd b=>by have e:gK [d] S=.ok (.bl (g9 d)) S:=K04.lH a (h d b);trivial);have:=c0 (bd (cR (Φ:=bE) (S:=S) (ρ:=[some d,some (.tup xs)]) (i:=1) (d:=.tup xs) (k:=Nk) rfl rfl)) (c0 (gT (i:=1) (xs:=xs) rfl) (bd (iI H)));refine Eq.trans this ?_;simp
theorem qm(b:Flat S){T e:D}(h:Item e):af bE G0 r_ [some (.tup [.int m,T]),some e] S=if gS m e=Nk then .ok (.next [some (.tup [.int m,T]),some e]) S else .ok (.ret (.bl Nl)) S:=by
 rcases h with⟨t,rfl⟩|h
 ·have a:am bE G0 Ku [some (.tup [.int m,T]),some (aw t)] S=.ok Nl S:=EX b (xs:=[.int t.1,.int t.2]) (by intro x c;simp at c;rcases c with rfl|rfl<;>exact .inl ⟨_,rfl⟩) (by simp);have H:am bE G0 ML [some (.tup [.int m,T]),some (aw t)] S=.ok (gS m (aw t)) S:=LM ar (cj (al rfl) ar rfl) (cj (al rfl) ar rfl) (cj (al rfl) ar rfl);refine(dW a).trans ?_;cases e:gS m (aw t)with
  |true=>rw[e]at H;exact(dW (bd H)).trans rfl
  |false=>rw[e]at H;exact gR (bd H)
 ·rw[ER h];refine gR ?_;rcases h.kn.nt with d| ⟨X,rfl⟩
  ·exact eV (bd (cR rfl (d S)))
  ·obtain⟨a,H,q⟩:=h.tu X rfl;refine(EX b a H).trans ?_;simp_all
theorem EY(a:Flat S){m:Int}{T:D}:∀(es:List D) (x:Option D),(∀e∈es,Item e)->if es.all (gS m)=Nk then ∃y,ee (λx ρ S=>match aS (.var 1) x ρ with
   |some ρ'=>af bE G0 r_ ρ' S
   |none=>.fail) es [some (.tup [.int m,T]),x] S=.ok (.next [some (.tup [.int m,T]),y]) S else ee (λx ρ S=>match aS (.var 1) x ρ with
   |some ρ'=>af bE G0 r_ ρ' S
   |none=>.fail) es [some (.tup [.int m,T]),x] S=.ok (.ret (.bl Nl)) S
 | [],x,_=>⟨x,rfl⟩
 |e::es,x,h=>by
  have H:=qm a (m:=m) (T:=T) (h e Ze);have i:=EY a (m:=m) (T:=T) es (some e) λz d=>h z (Zc _ d);have b:aS (.var 1) e [some (.tup [.int m,T]),x]=some [some (.tup [.int m,T]),some e]:=rfl;rw[OC];cases c:gS m e with
  |false=>rw[c]at H;unfold ee;rw[b];dsimp only;rw[H];rfl
  |true=>rw[c]at H;unfold ee;rw[b];dsimp only;rw[H];exact i
noncomputable def yp(t:Int×Int):Li:=[t.1,t.2]
theorem EZ:∀{l:List (Li)},(∀k∈l,∃t,k=yp t)->∃rs:Lq,l=rs.map yp
 | [],_=>⟨[],rfl⟩
 |k::l,h=>by obtain⟨t,rfl⟩:=h k Ze;obtain⟨rs,rfl⟩:=EZ λz H=>h z (Zc _ H);exact⟨t::rs,rfl⟩
theorem LN{ps:Lq}(s:ps.length<64):∃q,cL (.tup (ag ps)) S=.ok (.lst (ag q)) S/\q.Pairwise aH/\∀t,t∈q↔t∈ps:=by
 cases ps with
 |nil=>exact⟨[],rfl,.nil,λ_=>Iff.rfl⟩
 |cons p ps=>
  have g:(ag (p::ps)).map fx=(p::ps).map yp:=by unfold ag;rw[ZY];exact SE λt _=>rfl
  obtain⟨n,N⟩:=Bx ((p::ps).map yp);obtain⟨r,E⟩:=EZ (l:=kr ((p::ps).map yp)) λk i=>by obtain⟨t,_,e⟩:=Zq.mp ((N k).mp i);exact⟨t,e.symm⟩
  have j:r.Nodup:=by rw[E]at n;exact(Yh.mp n).imp λh e=>h (by rw[e])
  refine⟨sortI r,?_,K04.Ey j,λt=>?_⟩
  ·have C:(ag (p::ps)).all (aA (.seq .int))=Nk/\(ag (p::ps)).length<64/\((ag (p::ps)).all λd=> !fw d)=Nk:=by
    refine⟨Zm.mpr λx f=>?_,by unfold ag;rw[Zl];omega,Zm.mpr λx f=>?_⟩<;>
    ·obtain⟨t,_,rfl⟩:=Zq.mp f;rfl
   have m:cL (.tup (ag (p::ps))) S=.ok (.lst (d9 ((ag (p::ps)).map fx))) S:=by
    unfold cL
    first
     |exact(if_neg o).trans (if_pos C)
     |exact if_pos C
   rw[m,g];unfold d9;rw[E,ZY,<-K04.Es];rfl
  ·rw[(K04.wT r).mem_iff];have:=N (yp t);rw[E]at this;constructor
   ·intro h;obtain⟨u,H,e⟩:=Zq.mp (this.mp (QF h));obtain⟨a,b⟩:=u;obtain⟨c,d⟩:=t;cases e;exact H
   ·intro h;obtain⟨u,H,e⟩:=Zq.mp (this.mpr (QF h));obtain⟨a,b⟩:=u;obtain⟨c,d⟩:=t;cases e;exact H
theorem qo:∀{l k:Lq},l.Pairwise aH->k.Pairwise aH->(∀p,p∈l↔p∈k)->l=k:=λ{l k} H c h=>by
 refine PF (le:=aH) (λx y _ _ H c=>?_) H c ?_
 ·unfold aH at H c;lia
 ·have n:∀{l:Lq},l.Pairwise aH->l.Nodup:=λh=>h.imp λ{a b} h e=>by
   subst e;unfold aH at h;simp_all
  exact(OM (n H) (n c)).mpr h
theorem xq(a b:Lq):ax .Eq (.lst (ag a)) (.lst (ag b)) S=.ok (.bl (decide (a=b))) S:=by
 by_cases h:a.length=b.length
 ·exact K04.w_ a b h
 ·show bw (if(ag a).length=(ag b).length then bb (Nq (b_ S 39) (ag a) (ag b))else some Nl) S=_;rw[if_neg (by unfold ag;rw[Zl,Zl];exact h),ZG λe=>h (by rw[e])];rfl
theorem xr(f:Flat S){es:List D}(l:1<=m/\m<=8)(i:∀e∈es,Item e)(j:es.length<64):∃k,df [.tup [.int m,.tup es]] S=.ok (.bl k) S/\eA [.tup [.int m,.tup es]] S=.ok (.bl k) S:=by
 have v:am bE G0 ym [some (.tup [.int m,.tup es]),none] S=.ok Nl S:=by have:=lR (b:=.tup es) f (a:=.int m) (.inl ⟨m,rfl⟩);rw[show frB (.int m)=Nk from ZW l]at this;exact this
 have dT:∀x,aj bE G0 g8 [some (.tup [.int m,.tup es]),x] S=.ok (.tup es) S:=λx=>cj (al rfl) ar rfl;have w:am bE G0 (.bnot (.blt .isinst [g8,.ty "tuple"])) [some (.tup [.int m,.tup es]),none] S=.ok Nl S:=rfl;have q:aZ bE G0 (.seq g8) [some (.tup [.int m,.tup es]),none] S=.ok (.items es) S:=K04.lL (dT none) rfl;have H:=EY f (m:=m) (T:=.tup es) es none i
 have c:∀{F:Bool},af bE G0 [.for_ (.var 1) (.seq g8) r_,.ret (.cmp .Eq (.blt (.list Nl) [g8]) (.sset g8))] [some (.tup [.int m,.tup es]),none] S=.ok (.ret (.bl F)) S->eA [.tup [.int m,.tup es]] S=.ok (.bl F) S:=λ{F} h=>by refine aN rfl ?_ rfl f rfl;show af bE G0 pF [some (.tup [.int m,.tup es]),none] S=_;rw[EV];exact(dW v).trans ((dW w).trans h)
 cases g:es.all (gS m)with
 |false=>rw[g,if_neg (by decide)]at H;refine⟨Nl,?_,c (bF (Eq.trans (jF (t:=.var 1) (body:=r_) q) H))⟩;have:=qh f (k:=Nl) l i (by omega) (λz=>by rw[g]at z;cases z);rw[g]at this;exact this
 |true=>
  rw[g,if_pos rfl]at H;obtain⟨y,H⟩:=H;obtain⟨P,rfl⟩:=xm g;have n:P.length<64:=by unfold ag at j;rw[Zl]at j;exact j
  have B:=K04.EK (S:=S) f (ps:=P) (by omega);refine⟨eU P,?_,c ((bh (Eq.trans (jF (t:=.var 1) (body:=r_) q) H)).trans (bF (dJ ?_)))⟩
  ·have:=qh f (k:=eU P) l i (by omega) λ_=>B;rw[g]at this;exact this
  ·obtain⟨Q,s,E,u⟩:=LN (S:=S) n;have d1:=dT y
   have A:decide (P=Q)=eU P:=by rw[Of,decide_eq_true_eq,K04.EJ];exact⟨λe=>by rw[e];exact E,λh=>qo h E λp=>(u p).symm⟩
   refine lN (d:=.lst (ag P)) (e:=.lst (ag Q)) (S1:=S) (fY d1 rfl) ?_ (by rw[xq,A]);rw[aj];refine Eq.trans (ZX (λr=>Res.bind r λd o=>(cL d o).noErr) d1) ?_;show(cL (.tup (ag P)) S).noErr=_;rw[s];rfl
structure ck (d:D):Prop where
 is:NT d\/∃xs,d=.tup xs/\(xs.length≠2\/∃a b,xs=[a,b]/\Kn a/\(NT b\/∃es,b=.tup es/\(∀e∈es,Item e)/\es.length<64))
 lo:a7 0 d=Nk
theorem qp(b:Flat S)(ns:Li):∃c:Int,jq [.scr (ns.map D.int),.int 0] S=.ok (.int c) S:=by
 cases ns with
 |nil=>exact⟨0,aN rfl rfl rfl b rfl⟩
 |cons n ns=>
  refine⟨n,aN rfl ?_ rfl b rfl⟩;have h:fL [.scr ((n::ns).map D.int)] S=.ok (.int ((n::ns).map D.int).length) S:=rfl
  have H:ax .Lt (.int 0) (.int ((n::ns).map D.int).length) S=.ok (.bl Nk) S:=by have:ax .Lt (.int 0) (.int ((n::ns).map D.int).length) S=.ok (.bl (decide ((0:Int)<((n::ns).map D.int).length))) S:=rfl;simp_all
  have a:bR (.scr ((n::ns).map D.int)) (.int 0) S=.ok (.int n) S:=by
   unfold bR;have:hH ((n::ns).map D.int) 0=some (.int n):=by unfold hH iQ;simp
   simp only[az,this]
  generalize(n::ns).map D.int=x at h H a;simp[DC,af,aq,am,aj,ah,Res.bind,Res.noErr,aB,aW,h,H,a]
theorem xt(h:Flat S)(c:Int):∃b:Int,jr [.int c] S=.ok (.ref S.length) (S++[[.int c,.int b]]):=by refine⟨if decide ((10:Int)^18<=c)=Nk then 1 else 0,?_⟩;have e:af wj G0 wh ([D.int c].map some++Nw (wg.length-1) none) S=.ok (.ret (.ref S.length)) (S++[[.int c,.int (if decide ((10:Int)^18<=c)=Nk then 1 else 0)]]):=rfl;show aD wj G0 wh wg.length 1 [.int c] S=_;unfold aD;rw[if_pos (show [D.int c].length=1 from rfl),e];show el S.length (.ref S.length) _=_;unfold el;rw[Rg rfl,if_pos h.all,if_neg (by unfold a7;simp)];simp[bz,a7]
theorem LO:bM=K04.bM:=rfl
section
variable {l:List D}{a:Int}{k:Nat}{o:D}
theorem cq:ah Φ G0 [] ρ S=.ok [] S:=by rw[ah]
theorem aK{e:CE}{es:List CE}(h1:aj Φ G0 e ρ S=.ok d S)(h:ah Φ G0 es ρ S=.ok ds S):ah Φ G0 (e::es) ρ S=.ok (d::ds) S:=by simp only[ah,h1,h,Res.bind]
theorem ea{es:List CE}(h:ah Φ G0 es ρ S=.ok ds S):aj Φ G0 (.tup es) ρ S=.ok (.tup ds) S:=by simp only[aj,h,Res.bind]
theorem lZ{es:List CE}(h:ah Φ G0 es ρ S=.ok ds S):aj Φ G0 (.lst Nl es) ρ S=.ok (.lst ds) S:=by simp only[aj,h,Res.bind,Zu,Z6]
theorem MO{es:List CE}(h:ah Φ G0 es ρ S=.ok ds S):aj Φ G0 (.lst Nk es) ρ S=.ok (.ref S.length) (S++[ds]):=by simp only[aj,h,Res.bind,if_true]
theorem xu:aj Φ G0 (.neg (.lit (.int 1))) ρ S=.ok (.int (-1)) S:=by rw[aj];rfl
theorem o0:(ah Φ G0 [] ρ S).bind cV=.ok none S:=by rw[ah];rfl
theorem o1{e:CE}{i:Int}(h:aj Φ G0 e ρ S=.ok (.int i) S):(ah Φ G0 [e] ρ S).bind cV=.ok (some i) S:=by simp only[ah,h,Res.bind];rfl
theorem jQ{e:CE}{L H:List CE}{x y:Option Int}(h:aj Φ G0 e ρ S=.ok (.tup l) S)(h1:(ah Φ G0 L ρ S).bind cV=.ok x S)(c:(ah Φ G0 H ρ S).bind cV=.ok y S):aj Φ G0 (.sl e L H) ρ S=.ok (.tup (ba l x y)) S:=by rw[aj,h];show(((ah Φ G0 L ρ S).bind cV).bind λd b=>((ah Φ G0 H ρ b).bind cV).bind λh a=>(mX (.tup l) d h a).noErr)=_;rw[h1];show(((ah Φ G0 H ρ S).bind cV).bind λh a=>(mX (.tup l) x h a).noErr)=_;rw[c];rfl
theorem g_{e f:CE}{p q:List D}(h1:aj Φ G0 e ρ S=.ok (.tup p) S)(H:aj Φ G0 f ρ S=.ok (.tup q) S)(h:p.length+q.length<=1000):aj Φ G0 (.bin .Add e f) ρ S=.ok (.tup (p++q)) S:=dV h1 H (qb h)
theorem d1{e:CE}{i:Int}(h:aj Φ G0 e ρ S=.ok (.int i) S):aj Φ G0 (.bin .Add e (.lit (.int 1))) ρ S=.ok (.int (i+1)) S:=dV h ar rfl
theorem d2{e:CE}{i:Int}(h:aj Φ G0 e ρ S=.ok (.int i) S):aj Φ G0 (.bin .Add e (.lit (.int 2))) ρ S=.ok (.int (i+2)) S:=dV h ar rfl
theorem LP{e:CE}{i:Int}(h:aj Φ G0 e ρ S=.ok (.int i) S):aj Φ G0 (.bin .Sub e (.lit (.int 1))) ρ S=.ok (.int (i-1)) S:=dV h ar rfl
theorem FL:aj Φ G0 (.bin .Pow (.lit (.int 10)) (.lit (.int 30))) ρ S=.ok (.int (10^30)) S:=dV ar ar rfl
theorem E1{R:ae}(b:Flat (S++R))(d:aV S n){c:Int}(a:0<c)(h1:c<1000):∃r S',0<=r/\r<c/\Drawn n S S'/\bM [.ref n,.int c] (S++R)=.ok (.int r) (S'++R):=by obtain⟨x,y,H⟩:=d;have h:=(Zg.mp H).1;obtain⟨r,T,f,g,⟨u,v,rfl⟩,e⟩:=cg b (n:=n) ⟨x,y,by rw[Zw h];exact H⟩ a h1;exact⟨r,S.set n [.int u,.int v],f,g,⟨u,v,rfl⟩,by rw[LO,e,Sr _ _ h]⟩
theorem qq{R:ae}(H:Flat (S++R))(g:aV S n){e:CE}{c:Int}(h:0<c)(h1:c<1000)(i:ρ[0]?=some (some (.ref n)))(f:aj bA G0 e ρ (S++R)=.ok (.int c) (S++R)):∃r S',0<=r/\r<c/\Drawn n S S'/\aj bA G0 (fU e) ρ (S++R)=.ok (.int r) (S'++R):=by obtain⟨r,S',a,b,c,d⟩:=E1 H g h h1;exact⟨r,S',a,b,c,K04.gO Kp (al i) f d⟩
theorem qr(l:List D)(k:Nat):(ba l (some (k:Int)) (some ((k:Int)+1))).length<=1:=by
 have e:((k:Int)+1)=((k+1:Nat):Int):=by rfl
 rw[e];unfold ba;simp only[HT.mC,NV];omega
def IL(c:Nat)(xs:List D):Prop:=xs.length<=c/\∀e∈xs,It e
theorem IL.cut{c:Nat}(h:IL c l)(x y:Option Int):IL c (ba l x y):=⟨ZD (EN l x y) h.1,λe H=>h.2 e ((xa l x y).subset H)⟩
theorem IL.app{b c:Nat}(h:IL b xs)(h':IL c ys):IL (b+c) (xs++ys):=⟨by rw[Zn];have:=h.1;have:=h'.1;lia,λe H=>(ZP.mp H).elim (h.2 e) (h'.2 e)⟩
theorem IL.one(h:It o):IL 1 [o]:=⟨Zh _,λe H=>by rw[NW.mp H];exact h⟩
theorem IL.fine{c:Nat}(h:IL c l)(H:c<64):dh (.tup l):=jH (by have:=h.1;omega) h.2
theorem IL.at_(h:IL 28 l)(k:Nat):IL 1 (ba l (some (k:Int)) (some ((k:Int)+1))):=⟨qr l k,(h.cut _ _).2⟩
theorem LQ:wm=[.asgT (.tup [.var 2,.var 3]) (.var 1),.asg 4 (fU (.bin .Add (.blt .len [.var 3]) (.lit (.int 1)))),.asg 5 (.lst Nl js),.asg 5 (.idx (.bin .Add (.var 5) (.lst Nl jt)) (fU (.lit (.int 15)))),.asg 6 (.lst Nk ju),.expr (.meth .append (.var 6) [jv]),.asg 6 (.catB (.var 6) (.lst Nl jw)),.asg 7 jx,.expr (.meth .append (.var 6) [jy]),.ite (.cmp .Gt (fU (.lit (.int 3))) (.lit (.int 0))) [.ret (.tup [.var 2,.idx (.var 6) (fU (.lit (.int 10)))])] [],.asg 8 (.lst Nk lv),.asg 8 (.catB (.var 8) (.lst Nl lw)),.expr (.meth .append (.var 8) [lx]),.ret (.idx (.var 8) (fU (.lit (.int 18))))]:=rfl
theorem lT(H:ρ[2]?=some (some (.int m)))(j:ρ[3]?=some (some (.tup l)))(k:It (.tup l)):∃os q:List D,(∀e∈os++q,It e)/\os.length=11/\q.length=4/\ah Φ G0 js ρ S=.ok os S/\ah Φ G0 jt ρ S=.ok q S:=by
 have d:∀i:Int,Kn (.int i):=λi=>.inl ⟨i,rfl⟩;have f:∀i:Bool,Kn (.bl i):=λi=>.inr (.inl ⟨i,rfl⟩);refine⟨[aw (0,0),aw (1,0),aw (0,m),aw (-1,0),.tup [.bl Nl,.bl Nk],.tup [.int 0,.bl Nk],.tup [.int 0],.tup [.int 0,.int 1,.int 2],.lst [.int 0,.int 1],.non,.str "01"],[aw (m-1,m-1),aw (0,10^30),aw (0,1),.tup l],λe g=>?_,rfl,rfl,?_,?_⟩
 ·simp only[ZP,Zi,Zy,Ye]at g;rcases g with(rfl|rfl|rfl|rfl|rfl|rfl|rfl|rfl|rfl|rfl|rfl)| (rfl|rfl|rfl|rfl)
  ·exact fX _
  ·exact fX _
  ·exact fX _
  ·exact fX _
  ·exact jI (by intro x h;simp at h;rcases h with rfl|rfl<;>exact f _) (by simp) (.inr rfl) rfl
  ·exact jI (by intro x h;simp at h;rcases h with rfl|rfl;exact d _;exact f _) (by simp) (.inr rfl) rfl
  ·exact jI (by intro x h;simp at h;rcases h with rfl;exact d _) (by simp) (.inl (by simp)) rfl
  ·exact jI (by intro x h;simp at h;rcases h with rfl|rfl|rfl<;>exact d _) (by simp) (.inl (by simp)) rfl
  ·exact qa (.inr (.inr (.inr (.inr (.inr ⟨_,rfl⟩))))) (λ_=>rfl) rfl
  ·exact qa (.inr (.inr (.inr (.inl rfl)))) (λ_=>rfl) rfl
  ·exact qa (.inr (.inr (.inl ⟨_,rfl⟩))) (λ_=>rfl) rfl
  ·exact fX _
  ·exact fX _
  ·exact fX _
  ·exact k
 ·have t:∀{a b:CE} {x y:Int},aj Φ G0 a ρ S=.ok (.int x) S->aj Φ G0 b ρ S=.ok (.int y) S->aj Φ G0 (.tup [a,b]) ρ S=.ok (aw (x,y)) S:=λc H=>ea (aK c (aK H cq));exact aK (t ar ar) (aK (t ar ar) (aK (t ar (al H)) (aK (t xu ar) (aK (ea (aK ar (aK ar cq))) (aK (ea (aK ar (aK ar cq))) (aK (ea (aK ar cq)) (aK (ea (aK ar (aK ar (aK ar cq)))) (aK (lZ (aK ar (aK ar cq))) (aK ar (aK ar cq))))))))))
 ·have t:∀{a b:CE} {x y:Int},aj Φ G0 a ρ S=.ok (.int x) S->aj Φ G0 b ρ S=.ok (.int y) S->aj Φ G0 (.tup [a,b]) ρ S=.ok (aw (x,y)) S:=λc H=>ea (aK c (aK H cq));exact aK (t (LP (al H)) (LP (al H))) (aK (t ar FL) (aK (t ar ar) (aK (al j) cq)))
variable (h39:ρ[3]?=some (some (.tup l)))(h49:ρ[4]?=some (some (.int (k:Int))))(hl9:IL 28 l)
include h39 h49
theorem yq:aj Φ G0 sA ρ S=.ok (.tup (ba l none (some (k:Int)))) S:=jQ (al h39) o0 (o1 (al h49))
theorem LR:aj Φ G0 sB ρ S=.ok (.tup (ba l (some (k:Int)) none)) S:=jQ (al h39) (o1 (al h49)) o0
theorem MP:aj Φ G0 sC ρ S=.ok (.tup (ba l (some ((k:Int)+1)) none)) S:=jQ (al h39) (o1 (d1 (al h49))) o0
theorem E2:aj Φ G0 sD ρ S=.ok (.tup (ba l (some (k:Int)) (some ((k:Int)+1)))) S:=jQ (al h39) (o1 (al h49)) (o1 (d1 (al h49)))
theorem Nc:aj Φ G0 sE ρ S=.ok (.tup (ba l (some ((k+1:Nat):Int)) (some (((k+1:Nat):Int)+1)))) S:=by have:=jQ (al (Γ:=G0) (Φ:=Φ) (S:=S) h39) (o1 (d1 (al h49))) (o1 (d2 (al h49)));exact this
theorem Nf:aj Φ G0 sF ρ S=.ok (.tup (ba l (some ((k:Int)+2)) none)) S:=jQ (al h39) (o1 (d2 (al h49))) o0
include hl9
theorem E3(H:ρ[5]?=some (some o))(b:It o):∃rs:List D,(∀e∈rs,dh e)/\rs.length=3/\ah Φ G0 ju ρ S=.ok rs S:=by
 have a:=hl9.cut none (some (k:Int));have c:=hl9.cut (some (k:Int)) none;have C:=hl9.cut (some ((k:Int)+1)) none;have i:=a.app (.one b);refine⟨[_,_,.tup l.reverse],λe h=>?_,rfl,aK (g_ (g_ (yq h39 h49) (ea (aK (al H) cq)) (by have:=i.1;rw[Zn]at this;omega)) (LR h39 h49) (by have:=i.1;have:=c.1;omega)) (aK (g_ (g_ (yq h39 h49) (ea (aK (al H) cq)) (by have:=i.1;rw[Zn]at this;omega)) (MP h39 h49) (by have:=i.1;have:=C.1;omega)) (aK ?_ cq))⟩
 ·simp only[Zi,Zy,Ye]at h;rcases h with rfl|rfl|rfl
  ·exact(i.app c).fine (by omega)
  ·exact(i.app C).fine (by omega)
  ·exact jH (by rw[OR];have:=hl9.1;omega) λe h=>hl9.2 e (Q4.mp h)
 ·simp only[aj,h39,Res.bind,xu,K04.lJ,Res.noErr]
theorem LS:∃r,dh r/\aj Φ G0 jv ρ S=.ok r S:=by have i:=(hl9.cut none (some (k:Int))).app (hl9.cut (some ((k:Int)+1)) none);exact⟨_,i.fine (by omega),g_ (yq h39 h49) (MP h39 h49) (by have:=i.1;rw[Zn]at this;omega)⟩
theorem E4(H:It (.tup l)):∃rs:List D,(∀e∈rs,dh e)/\rs.length=5/\ah Φ G0 jw ρ S=.ok rs S:=by
 have i:=(hl9.cut none (some (k:Int))).app (hl9.at_ k);have c:=hl9.cut (some (k:Int)) none;have I:=c.app (hl9.cut none (some (k:Int)));refine⟨[_,.lst l,_,.non,.tup [.tup l]],λe h=>?_,rfl,aK (g_ (g_ (yq h39 h49) (E2 h39 h49) (by have:=i.1;rw[Zn]at this;omega)) (LR h39 h49) (by have:=i.1;have:=c.1;omega)) (aK (fY (al h39) rfl) (aK (g_ (LR h39 h49) (yq h39 h49) (by have:=I.1;rw[Zn]at this;omega)) (aK ar (aK (ea (aK (al h39) cq)) cq))))⟩;simp only[Zi,Zy,Ye]at h;rcases h with rfl|rfl|rfl|rfl|rfl
 ·exact(i.app c).fine (by omega)
 ·exact LF hl9.2
 ·exact I.fine (by omega)
 ·exact⟨.inl λ_=>rfl,rfl⟩
 ·exact jH (by simp) λe h=>by rw[NW.mp h];exact H
theorem LU:∃t,IL 2 t/\aj Φ G0 jx ρ S=.ok (.tup t) S:=by have i:=(hl9.at_ (k+1)).app (hl9.at_ k);exact⟨_,i,g_ (Nc h39 h49) (E2 h39 h49) (by have:=i.1;rw[Zn]at this;omega)⟩
theorem LV{t:List D}(h:ρ[7]?=some (some (.tup t)))(H:IL 2 t):∃r,dh r/\aj Φ G0 jy ρ S=.ok r S:=by have i:=(hl9.cut none (some (k:Int))).app H;have c:=hl9.cut (some ((k:Int)+2)) none;exact⟨_,(i.app c).fine (by omega),g_ (g_ (yq h39 h49) (al h) (by have:=i.1;rw[Zn]at this;omega)) (Nf h39 h49) (by have:=i.1;have:=c.1;omega)⟩
omit h39 h49 hl9
end
section
variable {l:List D}{a:Int}{k:Nat}{o:D}
theorem eC{a b:D}(H:Kn a)(l:a7 0 a=Nk)(h:dh b):ck (.tup [a,b]):=⟨.inr ⟨_,rfl,.inr ⟨a,b,rfl,H,h.is⟩⟩,by show(a7 0 a&&(a7 0 b&&Nk))=Nk;rw[l,h.lo];rfl⟩
theorem xv(h:xs.length≠2)(H:∀x∈xs,a7 0 x=Nk):ck (.tup xs):=⟨.inr ⟨_,rfl,.inl h⟩,fq H⟩
theorem gU(h:NT d)(H:a7 0 d=Nk):ck d:=⟨.inl h,H⟩
theorem gW(i:Int):Kn (.int i):=.inl ⟨i,rfl⟩
theorem xw(i:Int):dh (.int i):=⟨.inl λ_=>rfl,rfl⟩
theorem xx:dh (.tup []):=jH (by simp) λe h=>by cases h
theorem qs(h:ts.length<=28):ck (.tup (ag ts)):=by
 have l:a7 0 (.tup (ag ts))=Nk:=K04.jE ts;by_cases a:ts.length=2
 ·match ts,a with
  | [t,u],_=>refine eC (.inr (.inr (.inr (.inr (.inl ⟨_,rfl⟩))))) rfl (jH (by simp) λe H=>?_);simp only[Zi,Zy,Ye]at H;rcases H with rfl|rfl<;>exact qa (gW _) (λ_=>rfl) rfl
 ·exact⟨.inr ⟨_,rfl,.inl (by simp[ag];omega)⟩,l⟩
theorem xy(h1:1<=m)(h:m<=8):∃x,aW .str [.int m] S=.ok (.str x) S:=by refine⟨(toString m:String),?_⟩;show(if m.natAbs<2^64 then Res.ok (D.str (toString m:String)) S else .fail)=_;lia
variable (h29:ρ[2]?=some (some (.int m)))(h39:ρ[3]?=some (some (.tup (ag ts))))(hl9:ts.length<=28)
include h29 h39 hl9
theorem xz(h:dh (.tup (ag ts))):∃rs:List D,(∀e∈rs,ck e)/\rs.length=8/\ah Φ G0 lv ρ S=.ok rs S:=by
 have t:∀{a b:CE} {x y:D},aj Φ G0 a ρ S=.ok x S->aj Φ G0 b ρ S=.ok y S->aj Φ G0 (.tup [a,b]) ρ S=.ok (.tup [x,y]) S:=λd h29=>ea (aK d (aK h29 cq));refine⟨_,λe c=>?_,?_,aK (t (d1 (al h29)) (al h39)) (aK (t (LP (al h29)) (al h39)) (aK (t ar (al h39)) (aK (t ar (al h39)) (aK (t ar (ea cq)) (aK (t ar (al h39)) (aK (lZ (aK (al h29) (aK (al h39) cq))) (aK (ea (aK (al h29) cq)) cq)))))))⟩
 ·simp only[Zi,Zy,Ye]at c;rcases c with rfl|rfl|rfl|rfl|rfl|rfl|rfl|rfl
  ·exact eC (gW _) rfl h
  ·exact eC (gW _) rfl h
  ·exact eC (.inr (.inl ⟨_,rfl⟩)) rfl h
  ·exact eC (gW _) rfl h
  ·exact eC (gW _) rfl xx
  ·exact eC (.inr (.inr (.inr (.inl rfl)))) rfl h
  ·exact gU (λ_=>rfl) (fq λx H=>by simp only[Zi,Zy,Ye]at H;rcases H with rfl|rfl;rfl;exact h.lo)
  ·exact xv (by simp) λx H=>by rw[NW.mp H];rfl
 ·rfl
theorem xA(h1:1<=m)(d:m<=8)(H:dh (.tup (ag ts))):∃rs:List D,(∀e∈rs,ck e)/\rs.length=9/\ah Φ G0 lw ρ S=.ok rs S:=by
 have t:∀{a b:CE} {x y:D},aj Φ G0 a ρ S=.ok x S->aj Φ G0 b ρ S=.ok y S->aj Φ G0 (.tup [a,b]) ρ S=.ok (.tup [x,y]) S:=λh1 h29=>ea (aK h1 (aK h29 cq));obtain⟨x,h⟩:=xy (S:=S) h1 d;have f:aj Φ G0 .dct ρ S=.ok .dct S:=by rw[aj]
 refine⟨_,λe c=>?_,?_,aK (ea (aK (al h29) (aK (al h39) (aK (ea cq) cq)))) (aK (t (fY (al h29) h) (al h39)) (aK (t (al h39) (al h29)) (aK (al h39) (aK ar (aK (al h29) (aK f (aK ar (aK (t xu (ea cq)) cq))))))))⟩
 ·simp only[Zi,Zy,Ye]at c;rcases c with rfl|rfl|rfl|rfl|rfl|rfl|rfl|rfl|rfl
  ·exact xv (by simp) λx h=>by simp only[Zi,Zy,Ye]at h;rcases h with rfl|rfl|rfl;rfl;exact H.lo;rfl
  ·exact eC (.inr (.inr (.inl ⟨_,rfl⟩))) rfl H
  ·exact eC (.inr (.inr (.inr (.inr (.inl ⟨_,rfl⟩))))) H.lo (xw _)
  ·exact qs hl9
  ·exact gU (λ_=>rfl) rfl
  ·exact gU (λ_=>rfl) rfl
  ·exact gU (λ_=>rfl) rfl
  ·exact gU (λ_=>rfl) rfl
  ·exact eC (gW _) rfl xx
 ·rfl
omit h29 h39 hl9
theorem E5:∃r,ck r/\aj Φ G0 lx ρ S=.ok r S:=⟨_,eC (gW _) rfl xx,ea (aK FL (aK (ea cq) cq))⟩
theorem xB{b:Nat}{e:CE}{i:Nat}{A:List D}{r:D}(a:ρ[i]?=some (some (.ref S.length)))(H:aj bA G0 e ρ (S++[A])=.ok r (S++[A]))(c:A.length<=1000):aq bA G0 (.expr (.meth .append (.var i) [e])) ρ (S++[A])=.ok (.next ρ) (S++[A++[r]]):=by have h:=LJ (T:=S) (A:=A) (d:=r) (by lia);simp only[aq,aj,a,Res.bind,ah,H,gg,h,Res.noErr]
theorem E6{b:Nat}{i:Nat}{es:List CE}{A B:List D}(c:ρ[i]?=some (some (.ref b)))(H:S[b]?=some A)(a:ah bA G0 es ρ S=.ok B S)(hl9:A.length+B.length<=1000):aj bA G0 (.catB (.var i) (.lst Nl es)) ρ S=.ok (.ref S.length) (S++[A++B]):=by
 have h:gb (.ref b) (.lst B) S=.ok (.ref S.length) (S++[A++B]):=by
  have e:Py.c_ S (.ref b)=some A:=by simp[Py.c_,H]
  have E:Py.c_ S (.lst B)=some B:=rfl;unfold gb;rw[e,E];dsimp only;rw[if_pos (by show _<=16777216;omega)]
 simp only[aj,c,Res.bind,a,h,Res.noErr,Zu,Z6]
end
section
variable {l:List D}{a:Int}{k:Nat}{o:D}
theorem E7(H:Flat S)(b:aV S n){e:CE}{c:Int}(h:0<c)(h1:c<1000)(d:ρ[0]?=some (some (.ref n)))(a:aj bA G0 e ρ S=.ok (.int c) S):∃r S',0<=r/\r<c/\Drawn n S S'/\aj bA G0 (fU e) ρ S=.ok (.int r) S':=by have:=qq (R:=[]) (S:=S) (n:=n) (ρ:=ρ) (e:=e) (c:=c) (by rw[N4];exact H) b h h1 d (by rw[N4];exact a);simpa only[N4]using this
theorem LW{k:Nat}{R:ae}(c:ds.length=np)(h:af Φ Γ body (ds.map some++Nw (k-np) none) S=.ok (.ret d) (S'++R))(b:S'.length=S.length)(a:Flat S')(H:a7 0 d=Nk):aD Φ Γ body k np ds S=.ok d S':=by unfold aD;rw[if_pos c,h];show el S.length d (S'++R)=_;rw[<-b,K04.Eh (by rw[Rg rfl];exact a) H,Rg rfl]
theorem se{es:List D}(h:∀e∈es,dh e):bz 0 es=Nk:=fq λe H=>(h e H).lo
theorem sf{es:List D}(h:∀e∈es,ck e):bz 0 es=Nk:=fq λe H=>(h e H).lo
theorem qt{P:D->Prop}{A:List D}{r:D}(h:∀e∈A,P e)(a:P r):∀e∈A++[r],P e:=λe H=>by
 rcases ZP.mp H with H|H
 ·exact h e H
 ·rw[NW.mp H];exact a
theorem E8{P:D->Prop}{A B:List D}(h:∀e∈A,P e)(a:∀e∈B,P e):∀e∈A++B,P e:=λe H=>(ZP.mp H).elim (h e) (a e)
theorem xC(W:cH m ts)(X:Flat S)(Y:aV S n):∃S' R g x4 x5 x7,Drawn n S S'/\Flat (S'++R)/\(∀e∈g,dh e)/\g.length=10/\(S'++R)[S.length+1]?=some g/\R.length=2/\∀cs,af bA G0 (.asgT (.tup [.var 2,.var 3]) (.var 1):: .asg 4 (fU (.bin .Add (.blt .len [.var 3]) (.lit (.int 1)))):: .asg 5 (.lst Nl js):: .asg 5 (.idx (.bin .Add (.var 5) (.lst Nl jt)) (fU (.lit (.int 15)))):: .asg 6 (.lst Nk ju):: .expr (.meth .append (.var 6) [jv]):: .asg 6 (.catB (.var 6) (.lst Nl jw)):: .asg 7 jx:: .expr (.meth .append (.var 6) [jy])::cs) [some (.ref n),some (ao m ts),none,none,none,none,none,none,none] S=af bA G0 cs [some (.ref n),some (ao m ts),some (.int m),some (.tup (ag ts)),x4,x5,some (.ref (S.length+1)),x7,none] (S'++R):=by
 have hf:=W.few;have hL:(ag ts).length=ts.length:=by unfold ag;simp
 have hi:∀e∈ag ts,It e:=λe he=>by obtain⟨t,_,rfl⟩:=Zq.mp he;exact fX t
 have I:IL 28 (ag ts):=⟨by omega,hi⟩
 have q:It (.tup (ag ts)):=by
  cases ts with
  |nil=>exact jI (λx P=>by cases P) (by simp[ag]) (.inl (by simp[ag])) rfl
  |cons p r=>refine jI (λx P=>?_) (by omega) (.inr rfl) (K04.jE _);obtain⟨t,_,rfl⟩:=Zq.mp P;exact .inr (.inr (.inr (.inr (.inl ⟨_,rfl⟩))))
 have hw:ao m ts=.tup [.int m,.tup (ag ts)]:=rfl;generalize ao m ts=w at*;generalize ag ts=l at*;have s0:aq bA G0 (.asgT (.tup [.var 2,.var 3]) (.var 1)) [some (.ref n),some w,none,none,none,none,none,none,none] S=.ok (.next [some (.ref n),some w,some (.int m),some (.tup l),none,none,none,none,none]) S:=by rw[aq,al (d:=w) rfl,hw];rfl
 obtain⟨a,L,a0,a1,J,e1⟩:=E7 (ρ:=[some (.ref n),some w,some (.int m),some (.tup l),none,none,none,none,none]) (e:=.bin .Add (.blt .len [.var 3]) (.lit (.int 1))) X Y (c:=(l.length:Int)+1) (by omega) (by omega) rfl (d1 (fY (d:=.tup l) (r:=.int (l.length:Nat)) (al rfl) rfl));obtain⟨k,rfl⟩:∃k:Nat,a=(k:Int):=⟨a.toNat,by omega⟩;have z:=J.flat X;have C:=J.pen Y;obtain⟨D,Q,ho,ol,ql,eo,eq⟩:=lT (Φ:=bA) (S:=L) (ρ:=[some (.ref n),some w,some (.int m),some (.tup l),some (.int (k:Int)),none,none,none,none]) rfl rfl q;have eq:=lT (Φ:=bA) (S:=L) (ρ:=[some (.ref n),some w,some (.int m),some (.tup l),some (.int (k:Int)),some (.lst D),none,none,none]) rfl rfl q;obtain⟨os2,Q,N,ol2,ql,_,eq⟩:=eq;obtain⟨b,f,b0,b1,K,e2⟩:=E7 (ρ:=[some (.ref n),some w,some (.int m),some (.tup l),some (.int (k:Int)),some (.lst D),none,none,none]) (e:=.lit (.int 15)) z C (c:=15) (by omega) (by omega) rfl ar;have M:=K.flat z;have hp2:=K.pen C;obtain⟨O,s,e3⟩:=jJ (S:=f) (d:=.lst (D++Q)) (xs:=D++Q) (r:=b) rfl b0 (by rw[Zn];omega)
 have s:It O:=by
  rcases ZP.mp s with h|h
  ·exact ho O (Yd _ h)
  ·exact N O (ZC _ h)
 have s3:=cj (dV (al (Φ:=bA) (Γ:=G0) (S:=L) (ρ:=[some (.ref n),some w,some (.int m),some (.tup l),some (.int (k:Int)),some (.lst D),none,none,none]) (i:=5) rfl) (lZ eq) (EM (by omega))) e2 e3;obtain⟨u,f1,l1,e4⟩:=E3 (Φ:=bA) (S:=f) (l:=l) (k:=k) (o:=O) (ρ:=[some (.ref n),some w,some (.int m),some (.tup l),some (.int (k:Int)),some O,none,none,none]) rfl rfl I rfl s;obtain⟨E,f2,e5⟩:=LS (Φ:=bA) (S:=f++[u]) (l:=l) (k:=k) (ρ:=[some (.ref n),some w,some (.int m),some (.tup l),some (.int (k:Int)),some O,some (.ref f.length),none,none]) rfl rfl I;have s5:=xB (b:=0) (i:=6) (S:=f) (A:=u) rfl e5 (by omega);have y:=qt f1 f2;obtain⟨T,f3,l3,e6⟩:=E4 (Φ:=bA) (S:=f++[u++[E]]) (l:=l) (k:=k) (ρ:=[some (.ref n),some w,some (.int m),some (.tup l),some (.int (k:Int)),some O,some (.ref f.length),none,none]) rfl rfl I q;have s6:=E6 (i:=6) (b:=f.length) (S:=f++[u++[E]]) (A:=u++[E]) (B:=T) rfl qc e6 (by rw[Zn,Pf];omega);have F:=E8 y f3;have Z:(u++[E]++T).length=9:=by rw[Zn,Zn,Pf];omega
 generalize hA:u++[E]=A at*;generalize hB:A++T=B at*;have H:(f++[A]).length=S.length+1:=by rw[Zn,K.len,J.len];rfl
 obtain⟨t,ht,e7⟩:=LU (Φ:=bA) (S:=f++[A]++[B]) (l:=l) (k:=k) (ρ:=[some (.ref n),some w,some (.int m),some (.tup l),some (.int (k:Int)),some O,some (.ref (f++[A]).length),none,none]) rfl rfl I;obtain⟨G,U,e8⟩:=LV (Φ:=bA) (S:=f++[A]++[B]) (l:=l) (k:=k) (t:=t) (ρ:=[some (.ref n),some w,some (.int m),some (.tup l),some (.int (k:Int)),some O,some (.ref (f++[A]).length),some (.tup t),none]) rfl rfl I rfl ht;have s8:=xB (b:=0) (i:=6) (S:=f++[A]) (A:=B) rfl e8 (by omega);have V:Flat (f++[A]++[B++[G]]):=(M.snoc (se y)).snoc (se (qt F U));refine⟨f,[A,B++[G]],B++[G],some (.int (k:Int)),some O,some (.tup t),J.trans K,?_,qt F U,by rw[Zn,Pf];omega,?_,rfl,λcs=>?_⟩
 ·rw[OH]at V;exact V
 ·have:(f++[A]++[B++[G]])[(f++[A]).length]?=some (B++[G]):=qc;rw[H,OH]at this;exact this
 ·refine(bh s0).trans ?_;refine(bN e1).trans ((bN (lZ eo)).trans ((bN s3).trans ((bN (MO e4)).trans ((bh s5).trans ((bN s6).trans ((bN e7).trans ((bh s8).trans ?_)))))));rw[H,OH];rfl
end
section
variable {l:List D}{a:Int}{k:Nat}{o:D}
noncomputable def FN:CE:=.cmp .Gt (fU (.lit (.int 3))) (.lit (.int 0))
theorem xD(W:cH m ts)(U:Flat S)(hp:aV S n):∃d S',ck d/\Drawn n S S'/\ij [.ref n,ao m ts] S=.ok d S':=by
 have hf:=W.few;obtain⟨Z,R,j,X,k,l,f,hF,hr,hrl,O,hR,ha⟩:=xC W U hp;have V:=f.flat U;have p:=f.pen hp
 have fz:dh (.tup (ag ts)):=jH (by unfold ag;rw[Zl];omega) λe he=>by obtain⟨t,_,rfl⟩:=Zq.mp he;exact fX t
 obtain⟨g,a,g0,g1,h,e1⟩:=qq (R:=R) (ρ:=[some (.ref n),some (ao m ts),some (.int m),some (.tup (ag ts)),X,k,some (.ref (S.length+1)),l,none]) (e:=.lit (.int 3)) hF p (c:=3) (by omega) (by omega) rfl ar;have hS2:=h.flat V;have K:=h.pen p
 have I:Flat (a++R):=by obtain⟨u,v,e⟩:=h;have:Drawn n (Z++R) (a++R):=⟨u,v,by obtain⟨x,y,hx⟩:=p;rw[e,Sr _ _ (Zg.mp hx).1]⟩;exact this.flat hF
 have hk2:(a++R)[S.length+1]?=some j:=by rw[Zp (by rw[h.len,f.len];omega),h.len,f.len];rw[Zp (by rw[f.len];omega),f.len]at O;exact O
 have N:am bA G0 FN [some (.ref n),some (ao m ts),some (.int m),some (.tup (ag ts)),X,k,some (.ref (S.length+1)),l,none] (Z++R)=.ok (decide (0<g)) (a++R):=by have c1:ax .Gt (.int g) (.int 0) (a++R)=.ok (.bl (decide (0<g))) (a++R):=rfl;unfold FN;generalize fU (.lit (.int 3))=q at e1⊢;simp only[am,aj,e1,Res.bind,c1,Res.noErr,aB,js,jt,sA,sB,sC,ju,jv,sD,jw,sE,jx,sF,jy,lv,lw,lx]
 have fin:∀{d:D} {S' R':ae},ck d->Drawn n S S'->af bA G0 wm [some (.ref n),some (ao m ts),none,none,none,none,none,none,none] S=.ok (.ret d) (S'++R')->∃d S',ck d/\Drawn n S S'/\ij [.ref n,ao m ts] S=.ok d S':=λ{d S' R'} h1 T h3=>⟨d,S',h1,T,LW (R:=R') rfl h3 T.len (T.flat U) h1.lo⟩;rw[LQ,ha]at fin;generalize hw:ao m ts=w at*;cases hg:decide (0<g)with
 |true=>
  rw[hg]at N;obtain⟨b,G,P,b1,o,M⟩:=qq (R:=R) (ρ:=[some (.ref n),some w,some (.int m),some (.tup (ag ts)),X,k,some (.ref (S.length+1)),l,none]) (e:=.lit (.int 10)) I K (c:=10) (by omega) (by omega) rfl ar;have H:az (G++R) (.ref (S.length+1))=some j:=by show(G++R)[S.length+1]?=some j;rw[Zp (by rw[o.len,h.len,f.len];omega),o.len,h.len,f.len];rw[Zp (by rw[f.len];omega),f.len]at O;exact O
  obtain⟨r,z,Q⟩:=jJ H P (by omega);refine fin (R':=R) (eC (gW m) rfl (hr r z)) ((f.trans h).trans o) (bF ?_);show aq bA G0 (.ite FN [.ret (.tup [.var 2,.idx (.var 6) (fU (.lit (.int 10)))])] []) _ _=_;rw[fW N,if_pos rfl];refine bF (dJ ?_);generalize fU (.lit (.int 10))=q at M⊢;simp only[aj,ah,Res.bind,Zs,Zr,M,Q,Res.noErr,js,jt,sA,sB,sC,ju,jv,sD,jw,sE,jx,sF,jy,lv,lw,lx]
 |false=>
  rw[hg]at N;obtain⟨s,f1,l1,M⟩:=xz (Φ:=bA) (S:=a++R) (ρ:=[some (.ref n),some w,some (.int m),some (.tup (ag ts)),X,k,some (.ref (S.length+1)),l,none]) rfl rfl hf fz;obtain⟨E,f2,l2,Q⟩:=xA (Φ:=bA) (S:=a++R++[s]) (ρ:=[some (.ref n),some w,some (.int m),some (.tup (ag ts)),X,k,some (.ref (S.length+1)),l,some (.ref (a++R).length)]) rfl rfl hf W.lo W.hi fz;have s3:=E6 (i:=8) (b:=(a++R).length) (S:=a++R++[s]) (A:=s) (B:=E) rfl qc Q (by omega);obtain⟨r4,f4,e4⟩:=E5 (Φ:=bA) (S:=a++R++[s]++[s++E]) (ρ:=[some (.ref n),some w,some (.int m),some (.tup (ag ts)),X,k,some (.ref (S.length+1)),l,some (.ref (a++R++[s]).length)]);have Y:(s++E).length=17:=by rw[Zn];omega
  have s4:=xB (b:=0) (i:=8) (S:=a++R++[s]) (A:=s++E) rfl e4 (by omega);have F:=qt (E8 f1 f2) f4;have fl:Flat (a++R++[s]++[s++E++[r4]]):=(I.snoc (sf f1)).snoc (sf F);generalize hC:s++E++[r4]=C at*;have hCl:C.length=18:=by rw[<-hC,Zn,Y];rfl
  have J:(a++R++[s]).length=S.length+3:=by rw[Zn,Zn,h.len,f.len,hR];rfl
  have eR:a++R++[s]++[C]=a++(R++[s,C]):=by rw[OH,OH];rfl
  rw[eR]at fl;obtain⟨b,G,P,b1,o,e5⟩:=qq (R:=R++[s,C]) (ρ:=[some (.ref n),some w,some (.int m),some (.tup (ag ts)),X,k,some (.ref (S.length+1)),l,some (.ref (S.length+3))]) (e:=.lit (.int 18)) fl K (c:=18) (by omega) (by omega) rfl ar;have H:az (G++(R++[s,C])) (.ref (S.length+3))=some C:=by show(G++(R++[s,C]))[S.length+3]?=some C;rw[Zp (by rw[o.len,h.len,f.len];omega),o.len,h.len,f.len,Zp (by omega),hR,show S.length+3-S.length-2=1 by omega];rfl
  obtain⟨r,z,e6⟩:=jJ H P (by omega);refine fin (R':=R++[s,C]) (F r z) ((f.trans h).trans o) ?_;refine(bh (ρ':=[some (.ref n),some w,some (.int m),some (.tup (ag ts)),X,k,some (.ref (S.length+1)),l,none]) (S':=a++R) ?_).trans ?_
  ·show aq bA G0 (.ite FN [.ret (.tup [.var 2,.idx (.var 6) (fU (.lit (.int 10)))])] []) _ _=_;rw[fW N,if_neg (by decide)];rfl
  ·refine(bN (MO M)).trans ((bN s3).trans ((bh s4).trans ?_));rw[J,eR];exact bF (dJ (cj (al rfl) e5 e6))
end
section
variable {ts:List Ti}{k:Nat}
end
section
variable {ts:List Ti}{k:Nat}{x0 x1 x3 x6:Option D}
end
section
variable {ts p:List Ti}
end
section
variable {ts p:List Ti}
end
theorem E_:df=K04.df:=rfl
theorem LX:eA=K04.eA:=rfl
theorem LY:et=K04.et:=rfl
section
variable {w p:D}{ps:Lq}
theorem eW{x:Exc}(a:ds.length=np)(h:af Φ Γ body (ds.map some++Nw (n-np) none) S=.err x S)(H:Flat S):aD Φ Γ body n np ds S=.err x S:=by unfold aD;rw[if_pos a,h];dsimp only;rw[Ot,if_pos H.all]
abbrev sg:Exc:=⟨"NoWeb",[]⟩
theorem Fa(h:ck d):∃k,∀S,Flat S->df [d] S=.ok (.bl k) S/\eA [d] S=.ok (.bl k) S:=by
 rw[E_,LX];rcases h.is with h| ⟨x,rfl,h| ⟨a,b,rfl,c,h⟩⟩
 ·exact⟨Nl,λS H=>⟨xo H h,EW H h⟩⟩
 ·exact⟨Nl,λS H=>⟨ES H h,xp H h⟩⟩
 ·cases e:K04.frB a with
  |false=>exact⟨Nl,λS H=>⟨EU H c (.inl e),lS H c (.inl e)⟩⟩
  |true=>
   rcases h with h| ⟨E,rfl,i,g⟩
   ·exact⟨Nl,λS H=>⟨EU H c (.inr h),lS H c (.inr h)⟩⟩
   ·unfold K04.frB at e;split at e
    ·rename_i m;have j:=ZV e
     obtain⟨k,n⟩:∃k,∀S,Flat S->K04.df [.tup [.int m,.tup E]] S=.ok (.bl k) S:=by
      cases f:E.all (gS m)with
      |false=>exact⟨Nl,λS H=>by have:=qh H (k:=Nl) j i (by omega) (λz=>by rw[f]at z;cases z);rw[f]at this;exact this⟩
      |true=>
       obtain⟨p,rfl⟩:=xm f;have q:p.length<64:=by unfold ag at g;rw[Zl]at g;exact g
       exact⟨K04.eU p,λS H=>by have:=qh H (k:=K04.eU p) j i (by omega) λ_=>K04.EK H (by omega);rw[f]at this;exact this⟩
     refine⟨k,λS H=>⟨n S H,?_⟩⟩;obtain⟨K,l,o⟩:=xr H j i g;rw[n S H]at l;cases l;exact o
    ·cases e
def dX(d:D):Prop:=∀S,Flat S->df [d] S=.ok (.bl Nl) S
theorem LZ(H:Flat S)(h:dX d):dg [d] S=.err sg S:=by have e:=h S H;refine eW rfl ?_ H;simp[vZ,af,aq,am,aj,ah,Res.bind,Dl,e,bc]
variable {x:Exc}
variable {a b c:D}{i:Int}
theorem Ni:ax .Eq (.int i) (.int 0) S=.ok (.bl (i==0)) S:=rfl
theorem Nj:ax .Lt (.int i) (.int 6) S=.ok (.bl (decide (i<6))) S:=rfl
end
theorem L0:ij=K04.ij:=rfl
theorem L1:bM=K04.bM:=rfl
section
variable {ps:Lq}
theorem L3(W:cH m ts)(H:Flat S)(g:aV S n):∃d S',dX d/\Drawn n S S'/\jz [.ref n,ao m ts] S=.ok d S':=by
 obtain⟨d,a,b,D,e⟩:=K04.xD W H g;rw[<-L0]at e;have h:=D.flat H;obtain⟨k,c⟩:=Fa b;have E:=(c a h).2;have L:a7 0 (.tup (ag ts))=Nk:=K04.jE ts
 have F:ck (.tup [.int m,.tup (ag ts),.tup []]):=xv (by simp) λx f=>by
  simp only[Zi,Zy,Ye]at f;rcases f with rfl|rfl|rfl
  ·rfl
  ·exact L
  ·rfl
 have i:bR (ao m ts) (.int 0) a=.ok (.int m) a:=rfl;have I:bR (ao m ts) (.int 1) a=.ok (.tup (ag ts)) a:=rfl;generalize ao m ts=w at*;cases k with
 |false=>refine⟨d,a,λS H=>(c S H).1,D,aN rfl ?_ D.len h b.lo⟩;simp[wo,wn,af,aq,am,aj,ah,Res.bind,DG,DH,e,E,bc]
 |true=>refine⟨.tup [.int m,.tup (ag ts),.tup []],a,λS H=>by rw[E_];exact K04.ES H (by simp),D,aN rfl ?_ D.len h F.lo⟩;generalize ag ts=l at*;simp[wo,wn,af,aq,am,aj,ah,Res.bind,Res.noErr,DG,DH,e,E,i,I,bc]
def gX(m:Int)(d:D):Prop:=∀S,Flat S->et [.int m,d] S=.ok (.bl Nl) S
theorem qu(h:∀S,Flat S->fi [d] S=.ok (.bl Nl) S):gX m d:=λS H=>by
 have a:=h S H;have b:fS [d,.int 0,.int (m-1)] S=.ok (.bl Nl) S:=by refine aN rfl ?_ rfl H rfl;simp[lq,C6,af,aq,aj,ah,Res.bind,Res.noErr,aB,pu,a]
 have c:d0 .Sub (.int m) (.int 1) S=.ok (.int (m-1)) S:=rfl;refine aN rfl ?_ rfl H rfl;simp[lr,C8,af,aq,aj,ah,Res.bind,Res.noErr,vT,b,c]
theorem im(h:Kn d)(a:K04.f6 m d=Nl):gX m d:=λS H=>by rw[LY,K04.EE H m h,a]
theorem lU{i:Int}(h:¬(0<=i/\i<m)):gX m (.int i):=im (.inl ⟨i,rfl⟩) (ZG h)
theorem qv(H:Flat S):fi [.dct] S=.ok (.bl Nl) S:=by refine aN rfl ?_ rfl H rfl;have h:bJ [.dct,.ty "int"] S=.ok (.bl Nl) S:=rfl;simp[C5,C4,af,aq,aj,ah,Res.bind,Res.noErr,aB,aW,h]
theorem xE:wt=[.ret (.idx (.lst Nl Kx) (.call "_law_draw" [.var 0,.lit (.int 12)]))]:=rfl
theorem L4(h1:1<=m)(o:m<=8)(a:Flat S)(k:aV S n):∃d S',gX m d/\Drawn n S S'/\jA [.ref n,.int m] S=.ok d S':=by
 obtain⟨r,e,R,l,D,E⟩:=cg a k (m:=12) (by omega) (by omega);rw[<-L1]at E;have b:=D.flat a;have j:∀S,aj ik G0 .dct [some (.ref n),some (.int m)] S=.ok .dct S:=λS=>by rw[aj]
 have c:∀S,aj ik G0 (.neg (.bin .Pow (.lit (.int 10)) (.lit (.int 20)))) [some (.ref n),some (.int m)] S=.ok (.int (-(10^20))) S:=λS=>by have h:aj ik G0 (.bin .Pow (.lit (.int 10)) (.lit (.int 20))) [some (.ref n),some (.int m)] S=.ok (.int (10^20)) S:=dV ar ar rfl;rw[aj,h];rfl
 have g:aj ik G0 (.lst Nl Kx) [some (.ref n),some (.int m)] S=.ok (.lst [.int m,.int (-1),.bl Nk,.bl Nl,.non,.str "0",.tup [.int 0],.int (10^30),.lst [.int 0],.dct,.int (-(10^20)),.int (m+7)]) S:=
  lZ (aK (al rfl) (aK xu (aK ar (aK ar (aK ar (aK ar (aK (ea (aK ar cq)) (aK FL (aK (lZ (aK ar cq)) (aK (j S) (aK (c S) (aK (dV (al rfl) ar rfl) cq))))))))))))
 obtain⟨d,H,i⟩:=jJ (S:=e) (d:=.lst [.int m,.int (-1),.bl Nk,.bl Nl,.non,.str "0",.tup [.int 0],.int (10^30),.lst [.int 0],.dct,.int (-(10^20)),.int (m+7)]) rfl R (by simpa using l)
 have f:gX m d/\a7 0 d=Nk:=by
  simp only[Zi,Zy,Ye]at H;rcases H with rfl|rfl|rfl|rfl|rfl|rfl|rfl|rfl|rfl|rfl|rfl|rfl
  ·exact⟨lU (by omega),rfl⟩
  ·exact⟨lU (by omega),rfl⟩
  ·exact⟨im (.inr (.inl ⟨_,rfl⟩)) rfl,rfl⟩
  ·exact⟨im (.inr (.inl ⟨_,rfl⟩)) rfl,rfl⟩
  ·exact⟨im (.inr (.inr (.inr (.inl rfl)))) rfl,rfl⟩
  ·exact⟨im (.inr (.inr (.inl ⟨_,rfl⟩))) rfl,rfl⟩
  ·exact⟨im (.inr (.inr (.inr (.inr (.inl ⟨_,rfl⟩))))) rfl,rfl⟩
  ·exact⟨lU (by omega),rfl⟩
  ·exact⟨im (.inr (.inr (.inr (.inr (.inr ⟨_,rfl⟩))))) rfl,rfl⟩
  ·exact⟨qu λS a=>qv a,rfl⟩
  ·exact⟨lU (by omega),rfl⟩
  ·exact⟨lU (by omega),rfl⟩
 refine⟨d,e,f.1,D,aN rfl ?_ D.len b f.2⟩;show af ik G0 wt [some (.ref n),some (.int m)] S=_;rw[xE];exact bF (dJ (cj g (gO Ky (al rfl) ar E) i))
end
end K04
namespace Py
end Py
namespace K04
section
variable {w:D}{F:List (Li)}{a:Int}
end
section
variable {w:D}
end
section
variable {ts:List Ti}{G xs:List (Li)}{x:Li}
end
section
variable {c:Int}{ts:List Ti}{G xs:List (Li)}{x:Li}{x1 x3 x6 x7:Option D}
end
theorem qw:cF=K04.cF:=rfl
section
variable {ps:Lq}
noncomputable def io(ns:Li):Bool:=(Nq (λx y=>decide (x<y)) ns (ns.drop 1)).all id
theorem Fb:∀ns:Li,io ns=Nk↔ns.Pairwise (· < ·)
 | []=>by decide
 | [x]=>by simp[io]
 |x::y::ns=>by
  have i:=Fb (y::ns);have e:io (x::y::ns)=(decide (x<y)&&io (y::ns)):=rfl;simp only[e,ZN,decide_eq_true_eq,i,ZK (a:=x)];constructor
  ·intro⟨H,b⟩;refine⟨λz h=>?_,b⟩;rcases Zi.mp h with rfl|h
   ·exact H
   ·exact Int.lt_trans H ((ZK.mp b).1 z h)
  simp_all
noncomputable def Ng:D->D->Bool
 | .int a,.int b=>decide (a<b)
 |_,_=>Nl
theorem L5(H:Flat S)(c:ns.length<=1000):cF [lK ns] S=.ok (.bl (io ns)) S:=by
 rw[qw];have h:=K04.w4 H (xs:=ns.map D.int) Ng (by simpa using c) λx d y e=>by obtain⟨a,_,rfl⟩:=Zq.mp d;obtain⟨b,_,rfl⟩:=Zq.mp e;rfl
 refine h.trans ?_;rw[<-OU,Tv];rfl
theorem xF(ns:Li):(ns.map D.int).filterMap cK=ns:=by
 induction ns with
 |nil=>rfl
 |cons n ns i=>rw[Yc,show Qv cK (D.int n::ns.map D.int)=n::(ns.map D.int).filterMap cK from rfl,i]
end
section
variable {ps:Lq}
noncomputable def gY(ns:Li):Li:=((Nt 8).filter λk:Nat=>ns.contains (k:Int)).map λk:Nat=>(k:Int)
theorem Fc(ns:Li):(gY ns).Pairwise (· < ·):=by unfold gY;rw[Yh];exact(List.pairwise_lt_range.sublist Px).imp λh=>by omega
theorem qx(h:∀n∈ns,0<=n/\n<8):decide (ns=gY ns)=io ns:=by
 rw[Of,decide_eq_true_eq,Fb];constructor
 ·intro e;rw[e];exact Fc ns
 ·intro a;refine Pc.EO a (Fc ns) λp=>?_;unfold gY;rw[Zq];constructor
  ·intro H;have:=h p H;refine⟨p.toNat,Qg.mpr ⟨Z8.mpr (by simp_all),?_⟩,by omega⟩;rw[Ph,show((p.toNat:Nat):Int)=p by omega];exact H
  ·rintro⟨k,b,rfl⟩;simp_all
theorem qy(b:ns.length<=900)(h:∀n∈ns,0<=n/\n<8):cL (lK ns) S=.ok (.lst ((gY ns).map D.int)) S:=by
 have e:cL (lK ns) S=if(ns.map D.int).all kt=Nk then .ok (.lst (((Nt 8).filter λk:Nat=>((ns.map D.int).filterMap cK).contains (k:Int)).map λk:Nat=>D.int k)) S else _:=rfl;rw[e,if_pos,xF]
 ·unfold gY;rw[ZY];rfl
 ·refine Zm.mpr λx a=>?_;obtain⟨n,H,rfl⟩:=Zq.mp a;have:=h n H;simp[kt,this.1,this.2]
theorem Fe(k:Nat):∀a b:Li,a.length=b.length->bb (Nq (b_ S (k+1)) (a.map D.int) (b.map D.int))=some (decide (a=b))
 | [],[],_=>rfl
 | [],_::_,h=>by cases h
 |_::_,[],h=>by cases h
 |x::a,y::b,h=>by
  have i:=Fe k a b (by simpa using h);simp only[Yc,O4,K04.wL];dsimp only[bb];by_cases e:x=y
  ·simp_all
  simp_all
theorem L6(a b:Li):ax .Eq (.lst (a.map D.int)) (.lst (b.map D.int)) S=.ok (.bl (decide (a=b))) S:=by
 have e:ax .Eq (.lst (a.map D.int)) (.lst (b.map D.int)) S=bw (if(a.map D.int).length=(b.map D.int).length then bb (Nq (b_ S 39) (a.map D.int) (b.map D.int))else some Nl) S:=rfl;rw[e];by_cases h:a.length=b.length
 ·rw[if_pos (by simpa using h),Fe 38 a b h];rfl
 ·rw[if_neg (by simpa using h),ZG (λz=>h (ZX _ z))];rfl
end
open Pc
end K04
namespace K04
theorem xG:dH=K04.dH:=rfl
theorem L7:gK=K04.fi:=rfl
theorem qA:bM=K04.bM:=rfl
section
theorem xH:∀{xs:List D},xs.all (f6 m)=Nk->∃ns:Li,xs=ns.map D.int/\∀n∈ns,0<=n/\n<m
 | [],_=>⟨[],rfl,λ_ h=>by simp_all⟩
 |x::xs,h=>by
  simp only[OC,ZN]at h;obtain⟨ns,rfl,a⟩:=xH h.2;cases x with
  |int i=>exact⟨i::ns,rfl,λn H=>by
    rcases Zi.mp H with rfl|H
    ·exact ZV h.1
    ·exact a n H⟩
  |_=>cases h.1
noncomputable def L8(m:Int)(xs:List D):Bool:=xs.all (f6 m)&&io (xs.filterMap cK)
theorem iJ{k:Bool}(a:Flat S)(h:dH [.int m,d] S=.ok (.bl k) S){j:Bool}(b:k=Nk->cF [d] S=.ok (.bl j) S):fj [ao m ts,d] S=.ok (.bl (k&&j)) S:=by
 refine aN rfl ?_ rfl a rfl;have H:bR (ao m ts) (.int 0) S=.ok (.int m) S:=rfl;cases k with
 |false=>simp[vX,vW,af,aq,aj,ah,Res.bind,Res.noErr,H,Di,h,aB,r8]
 |true=>simp[vX,vW,af,aq,aj,ah,Res.bind,Res.noErr,H,Di,J6,h,b rfl,aB,r8]
theorem Ff(H:Flat S)(h:NT d):fj [ao m ts,d] S=.ok (.bl Nl) S:=iJ (j:=Nl) H (k:=Nl) (by rw[xG];exact K04.EI H m h) λz=>by cases z
theorem L9(H:Flat S)(h:∀x∈xs,Kn x)(a:xs.length<=900):fj [ao m ts,.tup xs] S=.ok (.bl (L8 m xs)) S:=by refine iJ H (by exact K04.p9 H m h (by lia)) λz=>?_;obtain⟨n,rfl,_⟩:=xH z;rw[xF];have:=L5 H (ns:=n) (by grind);exact this
theorem xI:wx=[.ite KD [.ret (.lit (.bl Nl))] [],.ret (.cmp .Eq (.blt (.list Nl) [.var 1]) (.sset (.var 1)))]:=rfl
theorem xJ(f:Flat S)(h:Kn d):aj fo G0 DJ [some d,some (.int m)] S=.ok (.bl (f6 m d)) S:=by
 have H:=K04.lH f h;rw[<-L7]at H;rcases h.isI_or with⟨i,rfl⟩| ⟨g,e⟩
 ·have q:∀a b:Int,ax .LtE (.int a) (.int b) S=.ok (.bl (decide (a<=b))) S:=λa b=>rfl;have Q:∀a b:Int,ax .Lt (.int a) (.int b) S=.ok (.bl (decide (a<b))) S:=λa b=>rfl;have c:gK [.int i] S=.ok (.bl Nk) S:=H
  have e:f6 m (.int i)=(decide (0<=i)&&decide (i<m)):=by show decide (0<=i/\i<m)=_;simp_all
  rw[e];simp only[DJ,aj,ah,Res.bind,Res.noErr,aB,DL,c,q,Q,Zr,Zs];cases decide (0<=i)<;>rfl
 ·rw[g]at H;rw[e];simp only[DJ,aj,ah,Res.bind,aB,DL,H,Zr,Zu,Z6]
theorem si{k:Bool}(h:bJ [d,.ty "tuple"] S=.ok (.bl k) S):am fo G0 (.bnot (.blt .isinst [.var 1,.ty "tuple"])) [some (.int m),some d] S=.ok (!k) S:=K04.cR (i:=1) rfl h|>bd
theorem xK(H:Flat S)(h:NT d):jB [.int m,d] S=.ok (.bl Nl) S:=by refine aN rfl ?_ rfl H rfl;show af fo G0 wx [some (.int m),some d] S=_;rw[xI];exact gR (eV (si (h S)))
theorem qB(d:Flat S)(s:m<=8)(h:∀x∈xs,Kn x)(t:xs.length<=900):jB [.int m,.tup xs] S=.ok (.bl (L8 m xs)) S:=by
 refine aN rfl ?_ rfl d rfl
 have o:aj fo G0 (.blt .all [MM]) [some (.int m),some (.tup xs)] S=.ok (.bl (xs.all (f6 m))) S:=
  fY (S:=S) (xk (S:=S) (Φ:=fo) (N:=["_law_place","_law_many"]) (fr:=[none,some 0]) (tg:=.var 0) (e:=DJ) (ds:=xs) (h:=id) (r0:=[none,some (.int m)]) (rs:=λe=>[some e,some (.int m)]) (f:=λe=>.bl (f6 m e)) (lL (lM (i:=1) rfl) (by rw[List.map_id];rfl)) rfl (λe _=>rfl) (by omega) λe p=>xJ d (h e p)) K04.allAt
 have H:am fo G0 KD [some (.int m),some (.tup xs)] S=.ok (!(xs.all (f6 m))) S:=c0 (si (k:=Nk) rfl) (bd (iI o));unfold L8;cases b:xs.all (f6 m)with
 |false=>rw[b]at H;exact gR H
 |true=>
  rw[b]at H;refine(dW H).trans (bF (dJ ?_));obtain⟨a,rfl,q⟩:=xH b;rw[xF];have g:∀n∈a,0<=n/\n<8:=λn h=>by have:=q n h;omega
  have l:aj fo G0 (.sset (.var 1)) [some (.int m),some (lK a)] S=.ok (.lst ((K04.gY a).map D.int)) S:=by show(cL (lK a) S).noErr=_;rw[qy (by simp_all) g];rfl
  have j:aj fo G0 (.blt (.list Nl) [.var 1]) [some (.int m),some (lK a)] S=.ok (.lst (a.map D.int)) S:=fY (lM (i:=1) rfl) rfl;have c:=L6 (S:=S) a (K04.gY a);rw[qx g]at c;exact lN j l c
structure fD (d:D):Prop where
 is:NT d\/∃xs,d=.tup xs/\(∀x∈xs,Kn x)/\xs.length<=900
 lo:a7 0 d=Nk
theorem xL(b:m<=8)(h:fD d):∃k,∀S,Flat S->fj [ao m ts,d] S=.ok (.bl k) S/\jB [.int m,d] S=.ok (.bl k) S:=by
 rcases h.is with h| ⟨x,rfl,h,a⟩
 ·exact⟨Nl,λS H=>⟨Ff H h,xK H h⟩⟩
 ·exact⟨_,λS H=>⟨L9 H h a,qB H b h a⟩⟩
def Ik(e:D):Prop:=Kn e/\a7 0 e=Nk
def IK(c:Nat)(xs:List D):Prop:=xs.length<=c/\∀e∈xs,Ik e
variable {l:List D}{o:D}{c b:Nat}
theorem IK.cut(h:IK c l)(x y:Option Int):IK c (ba l x y):=⟨ZD (EN l x y) h.1,λe H=>h.2 e ((xa l x y).subset H)⟩
theorem IK.app(h:IK b xs)(h':IK c ys):IK (b+c) (xs++ys):=⟨by rw[Zn];have:=h.1;have:=h'.1;lia,λe H=>(ZP.mp H).elim (h.2 e) (h'.2 e)⟩
theorem IK.one(h:Ik o):IK 1 [o]:=⟨Zh _,λe H=>by rw[NW.mp H];exact h⟩
theorem IK.fine(h:IK c l)(a:c<=900):fD (.tup l):=⟨.inr ⟨l,rfl,λe H=>(h.2 e H).1,by have:=h.1;omega⟩,fq λe H=>(h.2 e H).2⟩
theorem L_:ww=[.asg 3 (.call "_law_draw" [.var 0,.bin .Add (.blt .len [.var 2]) (.lit (.int 1))]),.asg 4 (.idx (.lst Nl DI) (.call "_law_draw" [.var 0,.lit (.int 8)])),.asg 5 (.lst Nl wu),.ret (.idx (.bin .Add (.var 5) (.lst Nl wv)) (.call "_law_draw" [.var 0,.lit (.int 11)]))]:=rfl
variable {a:Int}
theorem qC(b:ρ[2]?=some (some (.tup l)))(d:ρ[3]?=some (some (.int a)))(f:ρ[4]?=some (some o))(H:IK 8 l)(g:Ik o):∃rs,(∀e∈rs,fD e)/\rs.length=6/\ah Φ G0 wu ρ S=.ok rs S:=by
 have V:aj Φ G0 (.var 3) ρ S=.ok (.int a) S:=al d;have v:aj Φ G0 (.var 2) ρ S=.ok (.tup l) S:=al b;have k:=(H.cut none (some a)).app (IK.one g);have E:aj Φ G0 KA ρ S=.ok (.tup (ba l none (some a)++[o])) S:=g_ (jQ v o0 (o1 V)) (ea (aK (al f) cq)) (by have:=(H.cut none (some a)).1;simp only[ZM,Oi];omega);have A:∀x,IK 17 (ba l none (some a)++[o]++ba l x none):=λx=>k.app (H.cut x none);refine⟨[.tup (ba l none (some a)++[o]++ba l (some a) none),.tup (ba l none (some a)++[o]++ba l (some (a+1)) none),.tup l.reverse,.lst l,.tup [.tup l],.non],λe h=>?_,rfl,?_⟩
 ·simp only[Zi,Zy,Ye]at h;rcases h with rfl|rfl|rfl|rfl|rfl|rfl
  ·exact(A _).fine (by omega)
  ·exact(A _).fine (by omega)
  ·exact IK.fine (c:=8) ⟨by rw[OR];exact H.1,λe h=>H.2 e (Q4.mp h)⟩ (by omega)
  ·exact⟨.inl λ_=>rfl,fq λe h=>(H.2 e h).2⟩
  ·exact IK.fine (c:=1) (IK.one ⟨.inr (.inr (.inr (.inr (.inl ⟨_,rfl⟩)))),fq λe h=>(H.2 e h).2⟩) (by omega)
  ·exact⟨.inl λ_=>rfl,rfl⟩
 ·have z:∀x,(ba l none (some a)++[o]).length+(ba l x none).length<=1000:=λx=>by have:=k.1;have:=(H.cut x none).1;omega
  refine aK (g_ E (jQ v (o1 V) o0) (z _)) (aK (g_ E (jQ v (o1 (d1 V)) o0) (z _)) (aK ?_ (aK (fY v rfl) (aK (ea (aK v cq)) (aK ar cq)))));simp only[aj,b,Res.bind,xu,K04.lJ,Res.noErr]
theorem qD(c:ρ[2]?=some (some (.tup l)))(d:ρ[3]?=some (some (.int a)))(H:IK 8 l):∃rs,(∀e∈rs,fD e)/\rs.length=5/\ah Φ G0 wv ρ S=.ok rs S:=by
 have V:aj Φ G0 (.var 3) ρ S=.ok (.int a) S:=al d;have v:aj Φ G0 (.var 2) ρ S=.ok (.tup l) S:=al c;refine⟨[.tup (l++ba l (some (-1)) none),.int 0,.str "0",.dct,.tup (ba l (some a) none++ba l none (some a))],λe b=>?_,rfl,?_⟩
 ·simp only[Zi,Zy,Ye]at b;rcases b with rfl|rfl|rfl|rfl|rfl
  ·exact(H.app (H.cut _ _)).fine (by omega)
  ·exact⟨.inl λ_=>rfl,rfl⟩
  ·exact⟨.inl λ_=>rfl,rfl⟩
  ·exact⟨.inl λ_=>rfl,rfl⟩
  ·exact((H.cut _ _).app (H.cut _ _)).fine (by omega)
 ·have h:=H.1;refine aK (g_ v (jQ v (o1 xu) o0) (by have:=(H.cut (some (-1)) none).1;omega)) (aK ar (aK ar (aK (by rw[aj]) (aK (g_ (jQ v (o1 V) o0) (jQ v o0 (o1 V)) (by have:=(H.cut (some a) none).1;have:=(H.cut none (some a)).1;omega)) cq))))
theorem xM(H:ρ[0]?=some (some (.ref n)))(h1:ρ[1]?=some (some (.int m)))(M:1<=m)(i:m<=8)(f:Flat S)(g:aV S n):∃os S',(∀e∈os,Ik e)/\os.length=8/\Drawn n S S'/\aj dI G0 (.lst Nl DI) ρ S=.ok (.lst os) S':=by
 obtain⟨r,a,R,j,b,E⟩:=cg f g (m:=m) (by omega) (by omega);rw[<-qA]at E;refine⟨[.int m,.int (-1),.bl Nk,.non,.str "0",.tup [.int 0],.int (10^30),.int r],a,λe h=>?_,rfl,b,?_⟩
 ·simp only[Zi,Zy,Ye]at h;rcases h with rfl|rfl|rfl|rfl|rfl|rfl|rfl|rfl
  ·exact⟨.inl ⟨_,rfl⟩,rfl⟩
  ·exact⟨.inl ⟨_,rfl⟩,rfl⟩
  ·exact⟨.inr (.inl ⟨_,rfl⟩),rfl⟩
  ·exact⟨.inr (.inr (.inr (.inl rfl))),rfl⟩
  ·exact⟨.inr (.inr (.inl ⟨_,rfl⟩)),rfl⟩
  ·exact⟨.inr (.inr (.inr (.inr (.inl ⟨_,rfl⟩)))),rfl⟩
  ·exact⟨.inl ⟨_,rfl⟩,rfl⟩
  ·exact⟨.inl ⟨_,rfl⟩,rfl⟩
 ·have N:aj dI G0 (.neg (.lit (.int 1))) ρ S=.ok (.int (-1)) S:=xu;have t:aj dI G0 (.bin .Pow (.lit (.int 10)) (.lit (.int 30))) ρ S=.ok (.int (10^30)) S:=FL;have c:aj dI G0 (.call "_law_draw" [.var 0,.var 1]) ρ S=.ok (.int r) a:=gO pG (al H) (al h1) E;have T:aj dI G0 (.tup [.lit (.int 0)]) ρ S=.ok (.tup [.int 0]) S:=ea (aK ar cq);have v:aj dI G0 (.var 1) ρ S=.ok (.int m) S:=al h1;have l:∀d:D,aj dI G0 (.lit d) ρ S=.ok d S:=λd=>ar
  have e:ah dI G0 DI ρ S=.ok [.int m,.int (-1),.bl Nk,.non,.str "0",.tup [.int 0],.int (10^30),.int r] a:=by unfold DI;simp only[ah,N,t,c,T,v,l,Res.bind]
  simp only[aj,e,Res.bind,Zu,Z6]
theorem xN(m1:1<=m)(m8:m<=8)(Z:so.length<=8)(F:Flat S)(G:aV S n):∃d S',fD d/\Drawn n S S'/\pH [.ref n,.int m,lK so] S=.ok d S':=by have x:IK 8 (so.map D.int):=⟨by rw[Zl];exact Z,λe Y=>by obtain⟨i,_,rfl⟩:=Zq.mp Y;exact⟨.inl ⟨i,rfl⟩,rfl⟩⟩;unfold lK;generalize so.map D.int=l at*;have hll:=x.1;obtain⟨a,S1,a0,a1,q,E⟩:=cg F G (m:=(l.length:Nat)+1) (by omega) (by omega);rw[<-qA]at E;have h:=q.flat F;have k:=q.pen G;obtain⟨I,S2,ho,hol,s,M⟩:=xM (ρ:=[some (.ref n),some (.int m),some (.tup l),some (.int a),none,none]) (m:=m) rfl rfl m1 m8 h k;have H:=s.flat h;have p:=s.pen k;obtain⟨c,u,L,c1,t,B⟩:=cg H p (m:=8) (by omega) (by omega);rw[<-qA]at B;have b:=t.flat H;have z:=t.pen p;obtain⟨O,y,N⟩:=jJ (S:=u) (d:=.lst I) (xs:=I) (r:=c) rfl L (by omega);obtain⟨R,U,l1,P⟩:=qC (S:=u) (Φ:=dI) (ρ:=[some (.ref n),some (.int m),some (.tup l),some (.int a),some O,none]) (l:=l) (a:=a) (o:=O) rfl rfl rfl x (ho O y);obtain⟨J,V,l2,Q⟩:=qD (S:=u) (Φ:=dI) (ρ:=[some (.ref n),some (.int m),some (.tup l),some (.int a),some O,some (.lst R)]) (l:=l) (a:=a) rfl rfl x;obtain⟨g,v,W,g1,A,C⟩:=cg b z (m:=11) (by omega) (by omega);rw[<-qA]at C;have w:=A.flat b;obtain⟨d,X,T⟩:=jJ (S:=v) (d:=.lst (R++J)) (xs:=R++J) (r:=g) rfl W (by simp only[Zn];omega);have f:fD d:=(ZP.mp X).elim (U d) (V d);have hD:Drawn n S v:=((q.trans s).trans t).trans A;refine⟨d,v,f,hD,aN rfl ?_ hD.len w f.lo⟩;show af dI G0 ww [some (.ref n),some (.int m),some (.tup l),none,none,none] S=_;rw[L_];have j:aj dI G0 (.bin .Add (.blt .len [.var 2]) (.lit (.int 1))) [some (.ref n),some (.int m),some (.tup l),none,none,none] S=.ok (.int ((l.length:Nat)+1)) S:=d1 (fY (al (i:=2) rfl) rfl);refine(bN (gO pG (al rfl) j E)).trans ?_;refine(bN (cj M (gO pG (al rfl) ar B) N)).trans ?_;refine(bN (lZ P)).trans ?_;exact bF (dJ (cj (dV (al (i:=5) rfl) (lZ Q) (EM (by omega))) (gO pG (al rfl) ar C) T))
def qE(m:Int)(ts:Lq)(d:D):Prop:=∀S,Flat S->fj [ao m ts,d] S=.ok (.bl Nl) S
theorem L'(p:1<=m)(M:m<=8)(i:so.length<=8)(H:Flat S)(o:aV S n):∃d S',qE m ts d/\Drawn n S S'/\il [.ref n,.int m,lK so] S=.ok d S':=by
 obtain⟨d,b,c,a,e⟩:=xN p M i H o;have h:=a.flat H;obtain⟨k,f⟩:=xL (ts:=ts) M c;have E:=(f b h).2;have L:a7 0 (.lst (so.map D.int))=Nk:=K04.xj so;have g:aW (.list Nl) [lK so] b=.ok (.lst (so.map D.int)) b:=rfl;have j:NT (.lst (so.map D.int)):=λ_=>rfl;generalize so.map D.int=l at*;cases k with
 |false=>refine⟨d,b,λS H=>(f S H).1,a,aN rfl ?_ a.len h c.lo⟩;simp[wz,wy,af,aq,am,aj,ah,Res.bind,DM,DN,e,E,bc]
 |true=>refine⟨.lst l,b,λS H=>Ff H j,a,aN rfl ?_ a.len h L⟩;simp[wz,wy,af,aq,am,aj,ah,Res.bind,Res.noErr,DM,DN,e,E,g,bc]
end
section
variable {ts:List Ti}{k:Nat}
end
section
variable {a b:Int}{ts us p q r:List Ti}{A B:List (List Ti)}{k l:Nat}
noncomputable def sh(a:Int)(t:Ti):Ti:=(t.1+a,t.2+a)
noncomputable def qF(a:Int)(ts u:List Ti):List Ti:=ts++u.map (sh a)
end
end K04
namespace K04
theorem Fh(C:Flat S)(E:aV S n):∃m,m<=4/\∃ts S',cH m ts/\Drawn n S S'/\ii [.ref n,.int 4] S=.ok (ao m ts) S':=by
 suffices h:∃m,m<=4/\∃ts S',cH m ts/\Drawn n S S'/\af b7 G0 lu [some (.ref n),some (.int 4),none,none,none,none,none] S=.ok (.ret (ao m ts)) S' by obtain⟨m,U,ts,S',W,d,e⟩:=h;exact⟨m,U,ts,S',W,d,aN rfl e d.len (d.flat C) (lE m ts)⟩
 obtain⟨r,V,R,N,d1,e1⟩:=cg C E (m:=12) (by decide) (by decide);have G:=d1.flat C;have I:=d1.pen E;obtain⟨v,v0,v1,ev⟩:=EC (S:=V) R N;obtain⟨w,b,w0,w1,d2,e2⟩:=cg G I (m:=9) (by decide) (by decide);have H:=d2.flat G;have j:=d2.pen I;have D:=d1.trans d2;have hm:∃m:Int,1<=m/\m<=4/\1+4-1-v%4=m:=⟨4-v%4,by omega,by omega,by omega⟩;obtain⟨m,M,U,em⟩:=hm;have L:m<=8:=by omega
 refine⟨m,U,?_⟩;unfold lu;rw[bN (d:=.int m) (S':=V) (by simp[aj,ah,Res.bind,Res.noErr,ew,e1,ev,d0,e_,iR,hU];omega)];rw[bN (d:=.int w) (S':=b) (by simp[aj,ah,Res.bind,Res.noErr,ew,e2])];simp only[O0,O1];by_cases Z:w=0/\2<m
 ·refine⟨sortI (sd m.toNat),b,?_,D,?_⟩
  ·have:m=3\/m=4\/m=5\/m=6\/m=7\/m=8:=by omega
   rcases this with rfl|rfl|rfl|rfl|rfl|rfl<;>exact jG (by decide) (by decide) (by decide+kernel) (by decide+kernel) (by decide+kernel)
  ·refine gQ (eB rfl rfl) Z ?_;have:m=3\/m=4\/m=5\/m=6\/m=7\/m=8:=by omega
   rcases this with rfl|rfl|rfl|rfl|rfl|rfl<;>rfl
 rw[gP (eB rfl rfl) Z];by_cases c2:w=1/\5<m
 ·refine⟨sortI (lG m.toNat),b,?_,D,?_⟩
  ·have:m=6\/m=7\/m=8:=by omega
   rcases this with rfl|rfl|rfl<;>exact jG (by decide) (by decide) (by decide+kernel) (by decide+kernel) (by decide+kernel)
  ·refine gQ (eB rfl rfl) c2 ?_;have:m=6\/m=7\/m=8:=by omega
   rcases this with rfl|rfl|rfl<;>rfl
 rw[gP (eB rfl rfl) c2];have s:=EA M L;by_cases c3:w=2/\2<m
 ·obtain⟨q,a,q0,q1,B,F⟩:=cg H j (m:=2) (by decide) (by decide);have i:=B.flat H;refine⟨(fV m.toNat).filter (λt=>decide (t.1<1+q/\1+q<=t.2)),a,pX s Px,D.trans B,?_⟩;refine gQ (eB rfl rfl) c3 ?_;rw[bN (d:=.int (1+q)) (S':=a) (by simp[aj,ah,Res.bind,Res.noErr,ew,F,d0,e_])];refine bF ?_;simp[aq,aj,ah,aZ,Res.bind,Res.noErr,aB,aW,cw,pC,pW i M L,fc];unfold ag;rw[pS (f:=aw) (e:=aw) (p:=λt=>decide (t.1<1+q/\1+q<=t.2))]
  ·simp[Res.noErr,kc,az,ao,ag]
  ·intro t T A O;have c:A.length<16777216:=O;have x0:bR (aw t) (.int 0) a=.ok (.int t.1) a:=rfl;have x1:bR (aw t) (.int 1) a=.ok (.int t.2) a:=rfl;have X:ax .Lt (.int t.1) (.int (1+q)) a=.ok (.bl (decide (t.1<1+q))) a:=rfl;have x3:ax .LtE (.int (1+q)) (.int t.2) a=.ok (.bl (decide (1+q<=t.2))) a:=rfl;by_cases y1:t.1<1+q<;>by_cases y2:1+q<=t.2<;>simp[bp,bV,slots,du,aS,bH,aT,am,bx,aj,Res.bind,Res.noErr,aB,x0,x1,X,x3,y1,y2,c]
  ·have:=s.few;unfold cm;omega
 rw[gP (eB rfl rfl) c3];by_cases c4:w=3
 ·obtain⟨u,a,s3,v3,B,F⟩:=wU (n:=n) (step:=λx A b=>match bp (.var 0) x [none,some (.ref n)]with
    |some g=>(aT b7 G0 [] g b).bind λk a=>if k=Nk then bx b7 G0 (.emit (.tup [.call "_law_draw" [.var 1,.var 0],.var 0])) g A a else .ok A a
    |none=>.fail) (m-1).toNat 1 [] b (by decide) (by omega) H j (by simp;omega) (λp p0 p1 A S C E O=>by
     obtain⟨r,S',R,N,d,e⟩:=cg C E (m:=p) (by omega) (by omega);refine⟨r,S',R,N,d,?_⟩;have c:A.length<16777216:=by omega
     simp[bp,bV,slots,du,aS,bH,aT,bx,aj,ah,Res.bind,ew,e,aw,c])
  have hl:u.length=(m-1).toNat:=by have:=ZX Oj s3;simpa[pT]using this
  have hn:u.Nodup:=by
   have h:(u.map (·.2)).Nodup:=by rw[s3];exact EB
   exact(Yh.mp h).imp λz e=>z (by rw[e])
  refine⟨sortI u,a,jG M L hn (λt T=>by have:=v3 t T;omega) (by omega),D.trans B,?_⟩;refine gQ (p6 rfl) c4 (bF ?_);have K:aZ b7 G0 (.range [.lit (.int 1),.var 2]) [some (.ref n),some (.int 4),some (.int m),some (.int w),none,none,none] b=.ok (.items (dO 1 (m-1).toNat)) b:=by simp[aZ,ah,aj,Res.bind];omega
  have P:aj b7 G0 (.comp Nl ["_law_place","_law_pen_here"] [none,some 0] (.var 0) (.range [.lit (.int 1),.var 2]) [] (.emit (.tup [.call "_law_draw" [.var 1,.var 0],.var 0]))) [some (.ref n),some (.int 4),some (.int m),some (.int w),none,none,none] b=.ok (.lst (ag u)) a:=by rw[wQ]at K;exact gL K F
  have J:=Ez (S:=a) (d:=.lst (ag u)) (l:=u) rfl (by omega);exact dJ (pZ (al rfl) (gM (gM P J) rfl))
 rw[gP (p6 rfl) c4];obtain⟨q,a,q0,q1,B,F⟩:=cg H j (m:=5) (by decide) (by decide);have i:=B.flat H;have Q:=B.pen j;obtain⟨o,eo⟩:=ED (S:=a) q0 q1;rw[bN (d:=.int o) (S':=a) (by simp[aj,ah,Res.bind,Res.noErr,ew,F,eo])];simp only[O0,O1]
 obtain⟨u,Y,s4,d4,e4⟩:=pY (n:=n) (f:=aw) (step:=λx A b=>match bp (.var 0) x [none,some (.ref n),some (.int o)]with
    |some g=>(aT b7 G0 [.cmp .Lt (.call "_law_draw" [.var 1,.lit (.int 8)]) (.var 2)] g b).bind λk a=>if k=Nk then bx b7 G0 (.emit (.var 0)) g A a else .ok A a
    |none=>.fail) (fV m.toNat) [] a i Q (by have:=s.few;simp;omega) (λt T A S C E O=>by
     obtain⟨r,S',R,N,d,e⟩:=cg C E (m:=8) (by decide) (by decide);refine⟨decide (r<o),S',d,?_⟩;have X:ax .Lt (.int r) (.int o) S'=.ok (.bl (decide (r<o))) S':=rfl;have c:A.length<16777216:=by omega
     by_cases y:r<o<;>simp[bp,bV,slots,du,aS,bH,aT,am,bx,aj,ah,Res.bind,Res.noErr,aB,ew,e,X,y,c])
 refine⟨u,Y,pX s s4,(D.trans B).trans d4,bF ?_⟩
 have P:aj b7 G0 (.comp Nl ["_law_tie","_law_pen_here","_law_often"] [none,some 0,some 6] (.var 0) (.seq (.call "_law_pairs" [.var 2])) [.cmp .Lt (.call "_law_draw" [.var 1,.lit (.int 8)]) (.var 2)] (.emit (.var 0))) [some (.ref n),some (.int 4),some (.int m),some (.int w),none,none,some (.int o)] a=.ok (.lst (ag u)) Y:=by
  have K:aZ b7 G0 (.seq (.call "_law_pairs" [.var 2])) [some (.ref n),some (.int 4),some (.int m),some (.int w),none,none,some (.int o)] a=.ok (.items ((fV m.toNat).map aw)) a:=by simp[aZ,ah,aj,Res.bind,pC,pW i M L,fc,ag]
  exact gL K e4
 exact dJ (pZ (al rfl) (gM P rfl))
section
variable {a b:Int}{ts us p q:List Ti}{k:Nat}
end
end K04
namespace K04
theorem qG:dg=K04.dg:=rfl
theorem Ma:dg=K04.dg:=rfl
theorem Mb:et=K04.et:=rfl
theorem Mc:fj=K04.fj:=rfl
abbrev lV:Exc:=⟨"NoPlace",[]⟩
abbrev lW:Exc:=⟨"NoPlaces",[]⟩
abbrev great(a b:Int):Exc:=⟨"TooGreat",[.int a,.int b]⟩
section
variable {w p q:D}{a b:Int}{us:Lq}
theorem qH(H:Flat S)(h:dX d):dg [d] S=.err sg S:=by rw[qG];exact K04.LZ H h
theorem gZ(h:Flat S)(W:cH m ts):dg [ao m ts] S=.ok .non S:=by rw[Ma];exact K04.Lw h W
theorem qI(H:Flat S)(h:gX m d):py [ao m ts,d] S=.err lV S:=by have e:=h S H;rw[<-Mb]at e;have i:bR (ao m ts) (.int 0) S=.ok (.int m) S:=rfl;generalize ao m ts=w at*;refine eW rfl ?_ H;simp[Dq,Dm,af,aq,am,aj,ah,Res.bind,Res.noErr,J7,i,e,bc]
theorem qJ(H:Flat S)(h:qE m ts d):pz [ao m ts,d] S=.err lW S:=by have e:=h S H;rw[<-Mc]at e;generalize ao m ts=w at*;refine eW rfl ?_ H;simp[Dt,Ds,af,aq,am,aj,ah,Res.bind,Res.noErr,J8,e,bc]
theorem xO(H:Flat S)(h:dX d):gI [d,p] S=.err sg S:=by have e:=qH H h;refine eW rfl ?_ H;simp[v_,v9,af,aq,aj,ah,Res.bind,Dw,e]
theorem xP(H:Flat S)(W:cH m ts)(h:gX m d):gI [ao m ts,d] S=.err lV S:=by have e:=gZ H W;have E:=qI (ts:=ts) H h;generalize ao m ts=w at*;refine eW rfl ?_ H;simp[v_,v9,af,aq,aj,ah,Res.bind,Dw,Kd,e,E]
theorem Fi(H:Flat S)(h:dX d):fk [d,p] S=.err sg S:=by have e:=qH H h;refine eW rfl ?_ H;simp[wc,wb,af,aq,aj,ah,Res.bind,Dy,e]
theorem Md(H:Flat S)(W:cH m ts)(h:qE m ts d):fk [ao m ts,d] S=.err lW S:=by have e:=gZ H W;have E:=qJ H h;generalize ao m ts=w at*;refine eW rfl ?_ H;simp[wc,wb,af,aq,aj,ah,Res.bind,Dy,Kh,e,E]
theorem Me(H:Flat S)(h:dX d):ig [d] S=.err sg S:=by have e:=Fi (p:=.tup []) H h;refine eW rfl ?_ H;simp[DA,Dz,af,aq,aj,ah,Res.bind,Ki,e]
theorem xQ(H:Flat S)(h:dX d):fm [d,p] S=.err sg S:=by have e:=qH H h;refine eW rfl ?_ H;simp[jp,wf,af,aq,aj,ah,Res.bind,pA,e,r9]
theorem xR(H:Flat S)(W:cH m ts)(h:dX d):fm [ao m ts,d] S=.err sg S:=by have e:=gZ H W;have E:=qH H h;generalize ao m ts=w at*;refine eW rfl ?_ H;simp[jp,wf,af,aq,aj,ah,Res.bind,pA,e,E,r9]
theorem Fj:jp=[.expr (.call "must_be_web" [.var 0]),.expr (.call "must_be_web" [.var 1]),.asgT (.tup [.var 2,.var 3]) (.var 0),.asgT (.tup [.var 4,.var 5]) (.var 1),.asg 6 (.bin .Add (.var 2) (.var 4)),.ite (.cmp .Gt (.var 6) (.glob "MOST_PLACES")) [.raiseI "TooGreat" [.var 6,.glob "MOST_PLACES"]] [],.asg 7 (.blt .tuple [K04.r9]),.ret (.tup [.var 6,.bin .Add (.var 3) (.var 7)])]:=rfl
abbrev rb(a b:Int)(ts us:Lq)(x6 x7:Option D):bu:=[some (ao a ts),some (ao b us),some (.int a),some (.tup (ag ts)),some (.int b),some (.tup (ag us)),x6,x7]
theorem Fm{e:CE}(o:us.length<=28)(l:aZ Φ G0 (.seq e) ρ S=.ok (.items (us.map aw)) S){f:CE}{g:Int×Int->bu}(n:fr.map (λj=>j.bind λj=>(ρ[j]?).join)=r0)(H:∀t,bp (.tup [.var 0,.var 1]) (aw t) r0=some (g t))(i:∀t,aj Φ G0 f (g t) S=.ok (aw (sh a t)) S):
  aj Φ G0 (.comp Nl N fr (.tup [.var 0,.var 1]) (.seq e) [] (.emit f)) ρ S=.ok (.lst (ag (us.map (sh a)))) S:=by
 refine gL l ?_;rw[n]
 have:=pS (xs:=us) (f:=aw) (p:=λ_=>Nk) (e:=λt=>aw (sh a t)) (S:=S) (step:=λx A d=>match bp (.tup [.var 0,.var 1]) x r0 with
   |some b=>(aT Φ G0 [] b d).bind λk c=>if k=Nk then bx Φ G0 (.emit f) b A c else .ok A c
   |none=>.fail) (λt q A h=>by
  rw[H t];simp only[aT,Res.bind,if_true,bx,i t];rw[if_pos h]) (show us.length<=16777216 by omega)
 rw[SH.mpr (λ_ _=>rfl)]at this;have m:us.map (λt=>aw (sh a t))=ag (us.map (sh a)):=by unfold ag;rw[ZY];rfl
 rw[m]at this;exact this
theorem Fn(W:cH a ts)(V:cH b us):d0 .Add (.tup (ag ts)) (.tup (ag (us.map (sh a)))) S=.ok (.tup (ag (qF a ts us))) S:=by have w:=W.few;have v:=V.few;show(if(ag ts).length+(ag (us.map (sh a))).length<=cm then Res.ok (D.tup (ag ts++ag (us.map (sh a)))) S else .fail)=_;rw[if_pos (by unfold ag cm;simp;omega)];unfold qF ag;rw[OB]
theorem Fo(h:Flat S)(W:cH a ts)(V:cH b us){cs:List CS}:af gJ G0 (.expr (.call "must_be_web" [.var 0]):: .expr (.call "must_be_web" [.var 1]):: .asgT (.tup [.var 2,.var 3]) (.var 0):: .asgT (.tup [.var 4,.var 5]) (.var 1):: .asg 6 (.bin .Add (.var 2) (.var 4))::cs) [some (ao a ts),some (ao b us),none,none,none,none,none,none] S=af gJ G0 cs (rb a b ts us (some (.int (a+b))) none) S:=by have E:=gZ h W;have f:=gZ h V;rw[bh (ρ':=[some (ao a ts),some (ao b us),none,none,none,none,none,none]) (S':=S) (by simp only[aq,aj,ah,Res.bind,Zs,Zr,pA,E])];rw[bh (ρ':=[some (ao a ts),some (ao b us),none,none,none,none,none,none]) (S':=S) (by simp only[aq,aj,ah,Res.bind,Zs,Zr,pA,f])];rw[bh (ρ':=[some (ao a ts),some (ao b us),some (.int a),some (.tup (ag ts)),none,none,none,none]) (S':=S) rfl];rw[bh (ρ':=rb a b ts us none none) (S':=S) rfl];rw[bN (d:=.int (a+b)) (S':=S) rfl];rfl
theorem MQ{k:Bool}(h:decide (a+b>8)=k):am gJ G0 (.cmp .Gt (.var 6) (.glob "MOST_PLACES")) (rb a b ts us (some (.int (a+b))) none) S=.ok k S:=by have H:ax .Gt (.int (a+b)) (.int 8) S=.ok (.bl (decide (a+b>8))) S:=rfl;have c:G0 "MOST_PLACES"=some (.int 8):=rfl;rw[h]at H;simp only[am,aj,Res.bind,Zs,Zr,c,H,Res.noErr,aB]
theorem xS(H:Flat S)(W:cH a ts)(V:cH b us)(h:a+b<=8):fm [ao a ts,ao b us] S=.ok (ao (a+b) (qF a ts us)) S:=by
 refine aN rfl ?_ rfl H (K04.lE _ _);show af gJ G0 jp [some (ao a ts),some (ao b us),none,none,none,none,none,none] S=_;rw[Fj,Fo H W V];rw[bh (ρ':=rb a b ts us (some (.int (a+b))) none) (S':=S) (by rw[fW (MQ (ZG (by omega)))];rfl)]
 have e:aj gJ G0 K04.r9 (rb a b ts us (some (.int (a+b))) none) S=.ok (.lst (ag (us.map (sh a)))) S:=by refine Fm (r0:=[none,none,some (.int a)]) (g:=λt=>[some (.int t.1),some (.int t.2),some (.int a)]) V.few rfl rfl (λt=>rfl) λt=>?_;have o1:d0 .Add (.int t.1) (.int a) S=.ok (.int (t.1+a)) S:=rfl;have o:d0 .Add (.int t.2) (.int a) S=.ok (.int (t.2+a)) S:=rfl;simp only[aj,ah,Zs,Zr,o1,o,Res.noErr,Res.bind];rfl
 rw[bN (d:=.tup (ag (us.map (sh a)))) (S':=S) (by rw[aj,ah,e];rfl)];simp only[O0,O1];refine bF ?_;have f:=Fn (S:=S) W V;simp only[aj,aq,ah,Res.bind,Zs,Zr,f,Res.noErr];rfl
theorem Mf(H:Flat S)(W:cH a ts)(V:cH b us)(h:8<a+b):fm [ao a ts,ao b us] S=.err (great (a+b) 8) S:=by refine eW rfl ?_ H;show af gJ G0 jp [some (ao a ts),some (ao b us),none,none,none,none,none,none] S=_;rw[Fj,Fo H W V];have c:G0 "MOST_PLACES"=some (.int 8):=rfl;rw[af,aq,MQ (ZW h)];simp only[Res.bind,if_true,af,aq,ah,aj,Zs,Zr,c,r9]
end
section
variable {w p q:D}{a b i:Int}{us:Lq}{x:Exc}
theorem lX{a:Int}(h1:1<=a)(H:a<=8):cH a []:=⟨h1,H,.nil,(λ_ h=>nomatch h),by simp⟩
noncomputable def Mh(n:Int):D:=.lst [.str "great",.int n,.int 8]
noncomputable def fZ(a b:Int)(ts u:Lq):D:=if a+b<=8 then ao (a+b) (qF a ts u)else Mh (a+b)
theorem Mi:wC=[.asg 2 (.bin .Add (.idx (.var 0) (.lit (.int 0))) (.idx (.var 1) (.lit (.int 0)))),.ite (.cmp .Gt (.var 2) (.lit (.int 8))) [.ret (.lst Nl [.lit (.str "great"),.var 2,.lit (.int 8)])] [],.ret (.tup [.var 2,.bin .Add (.idx (.var 0) (.lit (.int 1))) (.blt .tuple [KO])])]:=rfl
theorem qK(j:Flat S)(W:cH a ts)(V:cH b us):pJ [ao a ts,ao b us] S=.ok (fZ a b ts us) S:=by
 have l:a7 0 (fZ a b ts us)=Nk:=by
  unfold fZ;split
  ·exact K04.lE _ _
  ·rfl
 refine aN rfl ?_ rfl j l;show af lz G0 wC [some (ao a ts),some (ao b us),none] S=_;have i:∀{c:Int} {vs:Lq},bR (ao c vs) (.int 0) S=.ok (.int c) S:=rfl;have I:∀{c:Int} {vs:Lq},bR (ao c vs) (.int 1) S=.ok (.tup (ag vs)) S:=rfl;rw[Mi];refine(bN (d:=.int (a+b)) (S':=S) (dV (cj (al rfl) ar i) (cj (al rfl) ar i) rfl)).trans ?_;have k:ax .Gt (.int (a+b)) (.int 8) S=.ok (.bl (decide (a+b>8))) S:=rfl;have H:am lz G0 (.cmp .Gt (.var 2) (.lit (.int 8))) [some (ao a ts),some (ao b us),some (.int (a+b))] S=.ok (decide (a+b>8)) S:=jK (al rfl) ar k;unfold fZ;by_cases h:a+b<=8
 ·rw[ZG (by omega)]at H;rw[if_pos h];refine(bh (ρ':=[some (ao a ts),some (ao b us),some (.int (a+b))]) (S':=S) ((fW H).trans rfl)).trans ?_
  have f:aj lz G0 KO [some (ao a ts),some (ao b us),some (.int (a+b))] S=.ok (.lst (ag (us.map (sh a)))) S:=by
   refine Fm (r0:=[none,none,some (ao a ts)]) (g:=λt=>[some (.int t.1),some (.int t.2),some (ao a ts)]) V.few ?_ rfl (λt=>rfl) λt=>?_
   ·have E:aj lz G0 (.idx (.var 1) (.lit (.int 1))) [some (ao a ts),some (ao b us),some (.int (a+b))] S=.ok (.tup (ag us)) S:=cj (al rfl) ar I;simp only[aZ,E,Res.bind];rfl
   ·have o1:d0 .Add (.int a) (.int t.1) S=.ok (.int (t.1+a)) S:=by rw[Int.add_comm];rfl
    have o:d0 .Add (.int a) (.int t.2) S=.ok (.int (t.2+a)) S:=by rw[Int.add_comm];rfl
    exact ea (aK (dV (cj (al rfl) ar i) (al rfl) o1) (aK (dV (cj (al rfl) ar i) (al rfl) o) cq))
  refine bF (dJ (ea (aK (al rfl) (aK (dV (cj (al rfl) ar I) (K04.gM f rfl) (Fn W V)) cq))))
 ·rw[ZW (by omega)]at H;rw[if_neg h];refine bF ((fW H).trans ?_);rw[if_pos rfl];exact bF (dJ (lZ (aK ar (aK (al rfl) (aK ar cq)))))
theorem xT:ly=[.tryG (some "great") "great" 3 iF "_law_kinds" pr lY]:=rfl
theorem ip(H:Flat S)(h:af cf G0 iF [some (.int i),some p,some q,none] S=.err x S)(b:x.fs=[])(a:(pr.zip lY).lookup x.cls=some y)(c:y≠"great"):cZ [.int i,p,q] S=.ok (.str y) S:=by refine aN rfl ?_ rfl H rfl;show af cf G0 ly [some (.int i),some p,some q,none] S=_;rw[xT];refine bF ?_;rw[aq,h];simp only[b,a,if_neg c]
theorem Mj(H:Flat S)(h:af cf G0 iF [some (.int i),some p,some q,none] S=.err (great m 8) S):cZ [.int i,p,q] S=.ok (Mh m) S:=by
 have a:(pr.zip lY).lookup ("TooGreat":Str)=some "great":=by decide+kernel
 refine aN rfl ?_ rfl H rfl;show af cf G0 ly [some (.int i),some p,some q,none] S=_;rw[xT];refine bF ?_;rw[aq,h];simp only[a,if_true];rfl
theorem qL(H:Flat S)(h:af cf G0 iF [some (.int i),some p,some q,none] S=.ok (.ret d) S)(a:a7 0 d=Nk):cZ [.int i,p,q] S=.ok d S:=by refine aN rfl ?_ rfl H a;show af cf G0 ly [some (.int i),some p,some q,none] S=_;rw[xT];refine bF ?_;rw[aq,h]
theorem qM{j:Int}:am cf G0 (.cmp .Eq (.var 0) (.lit (.int j))) [some (.int i),some p,some q,none] S=.ok (i==j) S:=jK (al rfl) ar rfl
theorem FO:af cf G0 iF [some (.int 0),some p,some q,none] S=(fm [p,q] S).bind λd S1=>.ok (.ret d) S1:=by
 have t:=qM (i:=0) (j:=0) (p:=p) (q:=q) (S:=S);rw[show((0:Int)==0)=Nk from rfl]at t;have e:aj cf G0 (.call "beside" [.var 1,.var 2]) [some (.int 0),some p,some q,none] S=fm [p,q] S:=by simp[aj,ah,Res.bind,KH,r9]
 unfold iF;simp only[af,aq,t,Res.bind,if_true,e,r9];cases fm [p,q] S<;>rfl
theorem MR:af cf G0 iF [some (.int 1),some p,some q,none] S=(gI [p,q] S).bind λd S1=>.ok (.ret d) S1:=by
 have t:=qM (i:=1) (j:=0) (p:=p) (q:=q) (S:=S);have T:=qM (i:=1) (j:=1) (p:=p) (q:=q) (S:=S);rw[show((1:Int)==0)=Nl from rfl]at t;rw[show((1:Int)==1)=Nk from rfl]at T;have e:aj cf G0 (.call "near" [.var 1,.var 2]) [some (.int 1),some p,some q,none] S=gI [p,q] S:=by simp[aj,ah,Res.bind,KI]
 unfold iF;simp only[af,aq,t,T,Res.bind,Zu,Z6,if_true,e];cases gI [p,q] S<;>rfl
theorem MS:af cf G0 iF [some (.int 2),some p,some q,none] S=(fk [p,q] S).bind λd S1=>.ok (.ret d) S1:=by
 have t:=qM (i:=2) (j:=0) (p:=p) (q:=q) (S:=S);have T:=qM (i:=2) (j:=1) (p:=p) (q:=q) (S:=S);have a:=qM (i:=2) (j:=2) (p:=p) (q:=q) (S:=S);rw[show((2:Int)==0)=Nl from rfl]at t;rw[show((2:Int)==1)=Nl from rfl]at T;rw[show((2:Int)==2)=Nk from rfl]at a
 have e:aj cf G0 (.ite (.cmp .Eq (.var 0) (.lit (.int 2))) (.call "pieces_without" [.var 1,.var 2]) (.call "pieces" [.var 1])) [some (.int 2),some p,some q,none] S=fk [p,q] S:=by rw[aj,a];simp[aj,ah,Res.bind,KJ]
 unfold iF;simp only[af,aq,t,T,Res.bind,Zu,Z6,e];cases fk [p,q] S<;>rfl
theorem Nh:af cf G0 iF [some (.int 3),some p,some q,none] S=(ig [p] S).bind λd S1=>.ok (.ret d) S1:=by
 have t:=qM (i:=3) (j:=0) (p:=p) (q:=q) (S:=S);have T:=qM (i:=3) (j:=1) (p:=p) (q:=q) (S:=S);have a:=qM (i:=3) (j:=2) (p:=p) (q:=q) (S:=S);rw[show((3:Int)==0)=Nl from rfl]at t;rw[show((3:Int)==1)=Nl from rfl]at T;rw[show((3:Int)==2)=Nl from rfl]at a
 have e:aj cf G0 (.ite (.cmp .Eq (.var 0) (.lit (.int 2))) (.call "pieces_without" [.var 1,.var 2]) (.call "pieces" [.var 1])) [some (.int 3),some p,some q,none] S=ig [p] S:=by rw[aj,a];simp[aj,ah,Res.bind,KL]
 unfold iF;simp only[af,aq,t,T,Res.bind,Zu,Z6,e];cases ig [p] S<;>rfl
theorem iq:(pr.zip lY).lookup sg.cls=some "web"/\(pr.zip lY).lookup lV.cls=some "place"/\(pr.zip lY).lookup lW.cls=some "places":=by decide+kernel
theorem xU(H:Flat S)(W:cH a ts)(V:cH b us):cZ [.int 0,ao a ts,ao b us] S=.ok (fZ a b ts us) S:=by
 unfold fZ;by_cases h:a+b<=8
 ·rw[if_pos h];exact qL H (by rw[FO,xS H W V h];rfl) (K04.lE _ _)
 ·rw[if_neg h];exact Mj H (by rw[FO,Mf H W V (by omega)];rfl)
theorem qN(H:Flat S)(h:dX d):cZ [.int 0,d,q] S=.ok (.str "web") S:=ip H (by rw[FO,xQ H h];rfl) rfl iq.1 (by decide)
theorem qO(H:Flat S)(W:cH m ts)(h:dX d):cZ [.int 0,ao m ts,d] S=.ok (.str "web") S:=ip H (by rw[FO,xR H W h];rfl) rfl iq.1 (by decide)
theorem qP(H:Flat S)(h:dX d):cZ [.int 1,d,q] S=.ok (.str "web") S:=ip H (by rw[MR,xO H h];rfl) rfl iq.1 (by decide)
theorem qQ(H:Flat S)(h:dX d):cZ [.int 2,d,q] S=.ok (.str "web") S:=ip H (by rw[MS,Fi H h];rfl) rfl iq.1 (by decide)
theorem qR(H:Flat S)(h:dX d):cZ [.int 3,d,q] S=.ok (.str "web") S:=ip H (by rw[Nh,Me H h];rfl) rfl iq.1 (by decide)
theorem xV(H:Flat S)(W:cH m ts)(h:gX m d):cZ [.int 1,ao m ts,d] S=.ok (.str "place") S:=ip H (by rw[MR,xP H W h];rfl) rfl iq.2.1 (by decide)
theorem xW(H:Flat S)(W:cH m ts)(h:qE m ts d):cZ [.int 2,ao m ts,d] S=.ok (.str "places") S:=ip H (by rw[MS,Md H W h];rfl) rfl iq.2.2 (by decide)
end
theorem qS:∀n,bD n=K04.bD n
 |0=>rfl
 |n+1=>by
  show aD (tbl [("_law_same",bD n)]) G0 ez dU.length 2=aD (tbl [("_law_same",K04.bD n)]) K04.G0 K04.ez K04.dU.length 2;rw[qS n]
  all_goals rfl
section
variable {a b:Int}{us:Lq}
theorem Ml(d:Flat S)(n:Nat)(y:Str):bD (n+1) [.str y,.str y] S=.ok (.bl Nk) S:=by
 show aD (tbl [("_law_same",bD n)]) G0 ez dU.length 2 _ S=_;refine aN rfl ?_ rfl d rfl;have h:bJ [.str y,.ty "bool"] S=.ok (.bl Nl) S:=rfl;have H:bJ [.str y,.ty "int"] S=.ok (.bl Nl) S:=rfl;have c:bJ [.str y,.ty "str"] S=.ok (.bl Nk) S:=rfl
 have a:ax .Eq (.str y) (.str y) S=.ok (.bl Nk) S:=by have:ax .Eq (.str y) (.str y) S=.ok (.bl (y==y)) S:=rfl;rw[this];simp
 have b:ax .Is (.str y) .non S=.ok (.bl Nl) S:=rfl;simp[ez,dU,af,aq,am,aj,ah,Res.bind,Res.noErr,aB,aW,h,H,a,b,c,bc]
theorem Mm(t:Flat S)(v:∀z∈xs,bD n [z,z] S=.ok (.bl Nk) S):bD (n+1) [.lst xs,.lst xs] S=.ok (.bl Nk) S:=by
 show aD (tbl [("_law_same",bD n)]) G0 ez dU.length 2 _ S=_;refine aN rfl ?_ rfl t rfl;generalize h:D.lst xs=d;have i:bJ [d,.ty "bool"] S=.ok (.bl Nl) S:=by subst h;rfl
 have j:bJ [d,.ty "int"] S=.ok (.bl Nl) S:=by subst h;rfl
 have k:bJ [d,.ty "str"] S=.ok (.bl Nl) S:=by subst h;rfl
 have l:ax .Is d .non S=.ok (.bl Nl) S:=by subst h;rfl
 have m:bJ [d,.ty "list"] S=.ok (.bl Nk) S:=by subst h;rfl
 have o:bJ [d,.ty "tuple"] S=.ok (.bl Nl) S:=by subst h;rfl
 have p:ax .NotEq (.bl Nl) (.bl Nl) S=.ok (.bl Nl) S:=rfl;have q:ax .NotEq (.bl Nk) (.bl Nk) S=.ok (.bl Nl) S:=rfl;have r:fL [d] S=.ok (.int xs.length) S:=by subst h;simp[fL,az]
 have H:ax .NotEq (.int xs.length) (.int xs.length) S=.ok (.bl Nl) S:=by have:ax .NotEq (.int xs.length) (.int xs.length) S=.ok (.bl (!((xs.length:Int)==xs.length))) S:=rfl;rw[this];simp
 have g:dv S d d=some (.items (Nq (λx y=>.tup [x,y]) xs xs)):=by subst h;rfl
 unfold ez;refine(bh (ρ':=[some d,some d,none,none]) (S':=S) (by simp[dU,aq,af,am,aj,ah,Res.bind,Res.noErr,aB,aW,l])).trans ?_;refine(bh (ρ':=[some d,some d,none,none]) (S':=S) (by simp[aq,af,am,aj,ah,Res.bind,Res.noErr,aB,aW,i,bc])).trans ?_;refine(bh (ρ':=[some d,some d,none,none]) (S':=S) (by simp[aq,af,am,aj,ah,Res.bind,Res.noErr,aB,aW,j,bc])).trans ?_;refine(bh (ρ':=[some d,some d,none,none]) (S':=S) (by simp[aq,af,am,aj,ah,Res.bind,Res.noErr,aB,aW,k,bc])).trans ?_;refine(bh (ρ':=[some d,some d,none,none]) (S':=S) (by simp[aq,af,am,aj,ah,Res.bind,Res.noErr,aB,aW,m,o,p,q,bc])).trans ?_;refine(bh (ρ':=[some d,some d,none,none]) (S':=S) (by simp[aq,af,am,aj,ah,Res.bind,Res.noErr,aB,aW,r,H,bc])).trans ?_
 obtain⟨X,Y,e⟩:=K04.xh (S:=S) (a:=some d) (b:=some d) (step:=λx A S=>match aS (.tup [.var 2,.var 3]) x A with
   |some c=>af (tbl [("_law_same",bD n)]) G0 [.ite (.bnot (.call "_law_same" [.var 2,.var 3])) [.ret (.lit (.bl Nl))] []] c S
   |none=>.fail) xs none none (λz w x y=>by have u:=v z w;simp[aS,bH,af,aq,am,aj,ah,Res.bind,tbl,u,bc])
 have s:aZ (tbl [("_law_same",bD n)]) G0 (.zip [.var 0,.var 1]) [some d,some d,none,none] S=.ok (.items (Nq (λx y=>.tup [x,y]) xs xs)) S:=by simp only[aZ,ah,aj,Res.bind,Zr,Zs,g]
 refine(bh (ρ':=[some d,some d,X,Y]) (S':=S) ((jF s).trans e)).trans ?_;rfl
theorem xX(h:Flat S)(n:Nat)(i:Int):bD (n+1) [.int i,.int i] S=.ok (.bl Nk) S:=by rw[qS,K04.xg];exact K04.wS h n i
theorem Mn(h:Flat S):pE [fZ a b ts us,fZ a b ts us] S=.ok (.bl Nk) S:=by
 show bD (5+1) _ S=_;unfold fZ;split
 ·rw[qS];refine K04.xi h λz H=>?_;simp only[Zi,Zy,Ye]at H;rcases H with rfl|rfl
  ·rw[<-qS];exact xX h 4 _
  ·exact K04.qe h 2 _
 ·refine Mm h λz H=>?_;simp only[Zi,Zy,Ye]at H;rcases H with rfl|rfl|rfl
  ·exact Ml h 4 _
  ·exact xX h 4 _
  ·exact xX h 4 _
end
theorem xY:ii=K04.ii:=rfl
theorem qT:jr=K04.jr:=rfl
theorem Mo:jq=K04.jq:=rfl
theorem xZ:jC=K04.jC:=rfl
theorem x_:jz=K04.jz:=rfl
theorem ya:jA=K04.jA:=rfl
theorem yb:il=K04.il:=rfl
theorem qU:eS=[.ite wD [.ret (.lit (.bl Nl))] [],.for_ (.var 1) pK lA,.ret (.lit (.bl Nk))]:=rfl
section
variable {w p q:D}{a b:Int}{us:Lq}
theorem iK{i:Int}{e f:CE}{x:D}(h1:aj aI G0 e ρ S=.ok p S)(H:aj aI G0 f ρ S=.ok q S)(h:cZ [.int i,p,q] S=.ok x S):aj aI G0 (.call "_law_told" [.lit (.int i),e,f]) ρ S=.ok x S:=by simp only[aj,ah,h1,H,Res.bind,KR,h,iF]
theorem neT{i:Int}{e f:CE}(h1:aj aI G0 e ρ S=.ok p S)(H:aj aI G0 f ρ S=.ok q S)(h:cZ [.int i,p,q] S=.ok (.str y) S):am aI G0 (ne i e f y) ρ S=.ok Nl S:=by refine jK (iK h1 H h) ar ?_;show Res.ok (D.bl (!(y==y))) S=_;simp
theorem qV(h:Flat S):am aI G0 wD ρ S=.ok Nl S:=by
 have w:∀{k:Int},aj aI G0 (.tup [.lit (.int k),.tup []]) ρ S=.ok (ao k []) S:=ea (aK ar (aK (ea cq) cq));have H:=xU h (lX (a:=4) (by decide) (by decide)) (lX (a:=4) (by decide) (by decide));have c:=xU h (lX (a:=1) (by decide) (by decide)) (lX (a:=8) (by decide) (by decide));have E:am aI G0 (.cmp .NotEq (.call "_law_told" [.lit (.int 0),.tup [.lit (.int 4),.tup []],.tup [.lit (.int 4),.tup []]]) (.tup [.lit (.int 8),.tup []])) ρ S=.ok Nl S:=jK (iK w w H) (w (k:=8)) rfl
 have b:am aI G0 (.cmp .NotEq (.call "_law_told" [.lit (.int 0),.tup [.lit (.int 1),.tup []],.tup [.lit (.int 8),.tup []]]) (.lst Nl [.lit (.str "great"),.lit (.int 9),.lit (.int 8)])) ρ S=.ok Nl S:=
  jK (iK w w c) (lZ (aK ar (aK ar (aK ar cq)))) (e:=Mh 9) rfl
 exact c0 E b
def fE(x:D):Prop:=∃a b ts us,cH a ts/\cH b us/\x=.tup [ao a ts,ao b us]
theorem yc(H:Flat S){s0 s s2 c d e f g i:Option D}{x:D}(h:fE x):af aI G0 tB [s0,s,s2,c,d,e,some x,f,g,i] S=.ok (.next [s0,s,s2,c,d,e,some x,f,g,i]) S:=by obtain⟨a,b,t,u,W,V,rfl⟩:=h;have T:aj aI G0 (yo 0) [s0,s,s2,c,d,e,some (.tup [ao a t,ao b u]),f,g,i] S=.ok (ao a t) S:=cj (al rfl) ar rfl;have j:aj aI G0 (yo 1) [s0,s,s2,c,d,e,some (.tup [ao a t,ao b u]),f,g,i] S=.ok (ao b u) S:=cj (al rfl) ar rfl;refine(dW (bd (k:=Nk) (xl KZ (iK T j (xU H W V)) (gO K1 T j (qK H W V)) (Mn H)))).trans rfl
theorem yd(hS:Flat S){s0 x3 x6 x7 x8 x9:Option D}(c:Int):∃y2 y3 y4 y5 y6 y7 y8 y9 S',Flat S'/\af aI G0 lA [s0,some (.int c),x2,x3,x4,x5,x6,x7,x8,x9] S=.ok (.next [s0,some (.int c),y2,y3,y4,y5,y6,y7,y8,y9]) S':=by
 obtain⟨b,eb⟩:=K04.xt hS c;rw[<-qT]at eb;have j:Flat (S++[[.int c,.int b]]):=hS.snoc rfl;have y:aV (S++[[.int c,.int b]]) S.length:=⟨c,b,by rw[Zp (Zh _)];simp⟩;obtain⟨m,t,S2,W,d2,e2⟩:=K04.wV j y;rw[<-xY]at e2;have k:=d2.flat j;have A:=d2.pen y;obtain⟨I,_,U,S3,V,d3,e3⟩:=K04.Fh k A;rw[<-xY]at e3;have o:=d3.flat k;have C:=d3.pen A;obtain⟨M,h24,vs,a,Z,d4,e4⟩:=K04.Fh o C;rw[<-xY]at e4;have i:=d4.flat o;have E:=d4.pen C;obtain⟨B,S5,H,d5,e5⟩:=K04.L3 W i E;rw[<-x_]at e5;have e:=d5.flat i;have F:=d5.pen E;obtain⟨N,S6,s,d6,e6⟩:=K04.L4 W.lo W.hi e F;rw[<-ya]at e6;have p:=d6.flat e;have G:=d6.pen F;obtain⟨so,S7,O,d7,e7⟩:=K04.qd p G W.lo W.hi;rw[<-xZ]at e7;have r:=d7.flat p;have Q:=d7.pen G;obtain⟨n,J,u,d8,L⟩:=K04.L' (ts:=t) W.lo W.hi O.len r Q;rw[<-yb]at L;change il [.ref S.length,.int m,.tup (so.map D.int)] S7=.ok n J at L;have f:=d8.flat r;have Wz:cH (9-M-1) []:=lX (by omega) (by have:=Z.lo;omega);have i0:∀T,bR (ao m t) (.int 0) T=.ok (.int m) T:=λT=>rfl;have j0:∀T,bR (ao M vs) (.int 0) T=.ok (.int M) T:=λT=>rfl;have o1:d0 .Sub (.int 9) (.int M) a=.ok (.int (9-M)) a:=rfl;have o2:d0 .Sub (.int (9-M)) (.int 1) a=.ok (.int (9-M-1)) a:=rfl;have q1:=qN (q:=B) e H;have q2:=qO e W H;have q3:=qR (q:=.non) e H;have q4:=qP (q:=N) f H;have q5:=qQ (q:=n) f H;have q6:=xV f W s;have q7:=xW f W u;have i1:fE (.tup [ao m t,ao I U]):=⟨_,_,_,_,W,V,rfl⟩;have i2:fE (.tup [ao I U,ao M vs]):=⟨_,_,_,_,V,Z,rfl⟩;have i3:fE (.tup [ao M vs,ao I U]):=⟨_,_,_,_,Z,V,rfl⟩;have i4:fE (.tup [ao I U,ao m t]):=⟨_,_,_,_,V,W,rfl⟩;have i5:fE (.tup [ao M vs,ao (9-M-1) []]):=⟨_,_,_,_,Z,Wz,rfl⟩;generalize R:ao (9-M-1) []=Y at*;generalize ao m t=w at*;generalize ao I U=v at*;generalize ao M vs=z at*;generalize D.tup (so.map D.int)=l at*
 obtain⟨g,T4,⟨⟨X,rfl⟩,P⟩,hf⟩:=xf (step:=λx K S=>match aS (.var 6) x K with
   |some g=>af aI G0 tB g S
   |none=>.fail) (λK T=>(∃x6,K=[s0,some (.int c),some (.ref S.length),some w,some v,some z,x6,x7,x8,x9])/\T=a) [.tup [w,v],.tup [v,z],.tup [z,v],.tup [v,w],.tup [z,Y]] (by rintro x hx K T ⟨⟨x6,rfl⟩,hT⟩;rw[hT];refine⟨[s0,some (.int c),some (.ref S.length),some w,some v,some z,some x,x7,x8,x9],a,⟨⟨_,rfl⟩,rfl⟩,?_⟩;refine yc i ?_;simp only[Zi,Zy,Ye]at hx;rcases hx with rfl|rfl|rfl|rfl|rfl<;>assumption) [s0,some (.int c),some (.ref S.length),some w,some v,some z,x6,x7,x8,x9] a ⟨⟨_,rfl⟩,rfl⟩
 rw[P]at hf;refine⟨some (.ref S.length),some w,some v,some z,X,some B,some N,some n,J,f,?_⟩;unfold lA;refine(bN (d:=.ref S.length) (S':=S++[[.int c,.int b]]) (Lz KP (al rfl) eb)).trans ?_;refine(bh (ρ':=[s0,some (.int c),some (.ref S.length),some w,some v,some z,x6,x7,x8,x9]) (S':=a) ?_).trans ?_
 ·have h:ah aI G0 wP [s0,some (.int c),some (.ref S.length),x3,x4,x5,x6,x7,x8,x9] (S++[[.int c,.int b]])=.ok [w,v,z] a:=by
   simp only[wP,aj,ah,Res.bind,Zr,Zs,KU,e2,e3,e4]
  show aq aI G0 _ [s0,some (.int c),some (.ref S.length),x3,x4,x5,x6,x7,x8,x9] _=_;rw[aq,h];rfl
 have hI:aZ aI G0 tW [s0,some (.int c),some (.ref S.length),some w,some v,some z,x6,x7,x8,x9] a=.ok (.items [.tup [w,v],.tup [v,z],.tup [z,v],.tup [v,w],.tup [z,Y]]) a:=by have h8:D.tup [.int (9-M-1),.tup []]=Y:=R;simp only[tW,aZ,aj,ah,Res.bind,Res.noErr,Zu,Z6,Zr,Zs,j0,o1,o2,h8];rfl
 refine(bh (ρ':=[s0,some (.int c),some (.ref S.length),some w,some v,some z,X,x7,x8,x9]) (S':=a) (by rw[jF hI];exact hf)).trans ?_;refine(bN (d:=B) (S':=S5) (gO KQ (al rfl) (al rfl) e5)).trans ?_;refine(dW (c0 (neT (al rfl) (al rfl) q1) (c0 (neT (al rfl) (al rfl) q2) (neT (al rfl) ar q3)))).trans ?_;refine(bh (ρ':=[s0,some (.int c),some (.ref S.length),some w,some v,some z,X,some B,some N,some n]) (S':=J) ?_).trans ?_
 ·have h:ah aI G0 nP [s0,some (.int c),some (.ref S.length),some w,some v,some z,X,some B,x8,x9] S5=.ok [N,n] J:=by
   simp only[nP,m3,aj,ah,Res.bind,Res.noErr,Zr,Zs,i0,KW,KY,K0,e6,e7,L]
  show aq aI G0 _ [s0,some (.int c),some (.ref S.length),some w,some v,some z,X,some B,x8,x9] _=_;rw[aq,h];rfl
 exact(dW (c0 (neT (al rfl) (al rfl) q4) (neT (al rfl) (al rfl) q5))).trans ((dW (c0 (neT (al rfl) (al rfl) q6) (neT (al rfl) (al rfl) q7))).trans rfl)
theorem qW(a:Flat S)(f:ns.length<=63){x:List (Option D)}:∃cs:Li,aZ aI G0 pK (some (.scr (ns.map D.int))::x) S=.ok (.items (cs.map D.int)) S:=by
 obtain⟨c,e⟩:=K04.qp a ns;rw[<-Mo]at e;obtain⟨cs,b,d⟩:∃cs:Li,ba (ns.map D.int) (some 1) (some 6)=cs.map D.int/\cs.length<=63:=by refine⟨(ns.drop _).take _,by unfold ba;rw[<-OU,<-P6],?_⟩;simp;omega
 refine⟨c::cs,?_⟩;have h:mX (.scr (ns.map D.int)) (some 1) (some 6) S=.ok (.lst (cs.map D.int)) S:=by rw[<-b];rfl
 have H:e_ (.lst [.int c]) (.lst (cs.map D.int)) S=.ok (.lst ([.int c]++cs.map D.int)) S:=by show(if 1+(cs.map D.int).length<=cm then Res.ok (D.lst ([.int c]++cs.map D.int)) S else .fail)=_;rw[if_pos (by unfold cm;simp;omega)]
 simp[pK,aZ,aj,ah,Res.bind,Res.noErr,KS,e,cV,iv,h,d0,H,fc]
end
theorem good:Good lB:=λn s=>by
 obtain⟨C,l⟩:=qW (S:=[]) Flat.nil s (x:=[none,none,none,none,none,none,none,none,none])
 obtain⟨a,k,_,r⟩:=xf (step:=λx j S=>match aS (.var 1) x j with
   |some a=>af aI G0 lA a S
   |none=>.fail) (λj S=>(∃m X x3 b d f g h i,j=[some (.scr (n.map D.int)),m,X,x3,b,d,f,g,h,i])/\Flat S) (C.map D.int) (by rintro x t j S ⟨⟨m,X,x3,b,d,f,g,h,i,rfl⟩,p⟩;obtain⟨c,_,rfl⟩:=Zq.mp t;obtain⟨y,Y,v,w,z,A,B,E,o,H,e⟩:=yd p (s0:=some (.scr (n.map D.int))) (x2:=X) (x3:=x3) (x4:=b) (x5:=d) (x6:=f) (x7:=g) (x8:=h) (x9:=i) c;exact⟨_,o,⟨⟨_,_,_,_,_,_,_,_,_,rfl⟩,H⟩,e⟩) [some (.scr (n.map D.int)),none,none,none,none,none,none,none,none,none] [] ⟨⟨_,_,_,_,_,_,_,_,_,rfl⟩,Flat.nil⟩
 have q:af aI G0 eS [some (.scr (n.map D.int)),none,none,none,none,none,none,none,none,none] []=.ok (.ret (.bl Nk)) k:=by rw[qU];refine(dW (qV Flat.nil)).trans ?_;refine(bh (ρ':=a) (S':=k) ?_).trans rfl;exact(jF l).trans r
 refine⟨[],?_⟩;show aD aI G0 eS iG.length 1 [.scr (n.map D.int)] []=_;unfold aD;rw[if_pos (show [D.scr (n.map D.int)].length=1 from rfl)];rw[show af aI G0 eS ([D.scr (n.map D.int)].map some++Nw (iG.length-1) none) []=_ from q];rfl
end K04
section
namespace K04
theorem walk{l:PySem.W.OpenLaw}{q:Nu}{d:DefRec}{K:Params->Fg}(i:l.most=some 63)(H:d.params.defaults=[])
  (e:∀(w:NG) (h:Ny),YP w h->(K w.params).In h)
  (F:∀(w:NG) (mg:Mg) (fa:Nn) (h:Ny),(K w.params).In h->h.Ns mainGlobals mg->mg d.name=some (.ref fa)->
   ∃fd:Ob,(∀(s:Nm) (u:Np),RT s fd ⟨[u],[]⟩ [("_law_script",u)])/\∀base:Ny,(K w.params).In base->base.Ns mainGlobals mg->cI l.prog w (K w.params) mg base (bn l.prog w) 11 fa fd ["_law_script"] (iH (K w.params))):
  PySem.W.WalkO q loose XP YP l.row.toRowW d [] (λf vs=>PySem.call f vs):=
 L2.mO (n:=63) (k:=11) (x:="_law_script") (CX:=λw=>bn l.prog w) (sp:=λw=>iH (K w.params)) i (by decide) H ⟨rfl,by decide,by decide,rfl⟩ e F (λ_ _ a N g b c=>⟨a,N,rfl,b,c,g,λ_=>rfl⟩) λ_ _ _ _ _ z=>rT _ _ _ _ _ z
end K04
namespace PySem.W.Fast
def tw2197342595278098057:=Nat
def tw7582045088858643264:=Nat
def tw7450403675698386460:=Nat
def tw16291640938360652270:=Nat
def tw3242255895476675058:=Nat
def tw1600686366670303620:=Nat
def tw8286971103160584656:=Nat
def tw15201066643003494851:=Nat
def tw11293347700567707671:=Nat
def tw14039925604704722772:=Nat
def tw11244513624102763862:=Nat
def tw2412773265385671409:=Nat
def tw17950327969141813367:=Nat
def tw9681095621397438775:=Nat
def tw4318538887425589876:=Nat
def tw2971502767865350208:=Nat
def tw17147919117408552497:=Nat
def tw13906860192839428992:=Nat
def tw11532979983104437934:=Nat
def tw13428348498968703870:=Nat
def tw3413995531392002758:=Nat
def tw2534032684499549222:=Nat
def tw13562657776555714448:=Nat
def tw9443514778372315141:=Nat
def tw14157139738151680453:=Nat
def tw12899273507299321722:=Nat
def tw415667398706380885:=Nat
def tw4693533035166877471:=Nat
def tw10084426809239082935:=Nat
def tw4054726314156426638:=Nat
def tw2663136276442014652:=Nat
def tw4635628620339557845:=Nat
def tw5169706850562956963:=Nat
def tw15507237064304807210:=Nat
def tw12787129590421127656:=Nat
def tw16521006844557940935:=Nat
def tw7776676746169083710:=Nat
def tw4759861088522195195:=Nat
def tw6986269523838910117:=Nat
def tw2036826885635435395:=Nat
def tw6972660063603070172:=Nat
def tw15717669314331701850:=Nat
def tw14530018454966451895:=Nat
def tw14965366459052481755:=Nat
def tw1662090325922879274:=Nat
def tw13087954938704058605:=Nat
def tw17077574614321649589:=Nat
def tw10718118346887231262:=Nat
def tw5293488898171009085:=Nat
def tw5659112040105668627:=Nat
def tw12504645162356303039:=Nat
def tw11800081268444880873:=Nat
def tw14388939530784800851:=Nat
def tw6959515194528932677:=Nat
def tw686876881518336725:=Nat
def tw207764236799588097:=Nat
def tw15351472386126034731:=Nat
def tw1667726896498313238:=Nat
def tw1437655229369517155:=Nat
def tw12093288370287301006:=Nat
def tw9848625015029869058:=Nat
def tw1924643706720531099:=Nat
def tw9779202716960826157:=Nat
def tw7650804978184275629:=Nat
def tw6087572277309255827:=Nat
def tw7347689262724595837:=Nat
def tw3389278035362024164:=Nat
def tw13078899397196506960:=Nat
def tw8607694881459373831:=Nat
def tw3782489552687351383:=Nat
def tw15181180194386619008:=Nat
def tw12961065857843265562:=Nat
def tw8848966723365943116:=Nat
def tw18202496833670020641:=Nat
def tw7425454982720043417:=Nat
def tw13999999190153681436:=Nat
def tw3074441026913456208:=Nat
def tw10103921293327293680:=Nat
def tw3266015876626089289:=Nat
def tw13911264720822930106:=Nat
def tw9561033626208372787:=Nat
def tw15937549514052241879:=Nat
def tw8276470080414144715:=Nat
def tw14241372962691206947:=Nat
def tw13309516795434452582:=Nat
def tw17554119794683127481:=Nat
def tw8173384318705021612:=Nat
def tw17218431826050675002:=Nat
def tw15119864068843692102:=Nat
def tw12750317310866511574:=Nat
def tw16454431650519512943:=Nat
def tw18280135559132307200:=Nat
def tw12373993295180512748:=Nat
def tw3839877779570355871:=Nat
def tw3373643110656446392:=Nat
def tw1598605095803893906:=Nat
def tw10063416104241504371:=Nat
def tw16024655652348162030:=Nat
def tw10269344889737878500:=Nat
def tw11080510803478230073:=Nat
def tw16190574421781873601:=Nat
def tw7174997119622600920:=Nat
def tw17450592148441472270:=Nat
def tw8832206377656024422:=Nat
def tw14481302251094337895:=Nat
def tw16715983130171340588:=Nat
def tw1699680132655344632:=Nat
def tw7824113145043299967:=Nat
def tw700946308097984241:=Nat
def tw6069994687550433372:=Nat
def tw14097067703375920915:=Nat
def tw12769958300503628998:=Nat
def tw11756942106728855341:=Nat
def tw4434520865088366319:=Nat
def tw517603959537553632:=Nat
def tw15912728884623345024:=Nat
def tw4128367611739696422:=Nat
def tw10944426241838223809:=Nat
def tw14841888874797439075:=Nat
def tw478795651950155904:=Nat
def tw10968080589822072862:=Nat
def tw13457819709836636214:=Nat
def tw8436234251987566778:=Nat
def tw2810275207900939520:=Nat
def tw17938069785923239736:=Nat
def tw12846491130575876942:=Nat
def tw16505972175608257880:=Nat
def tw1400502389870777941:=Nat
def tw5622804850773309093:=Nat
def tw16231049261218837323:=Nat
def tw1957563927311502251:=Nat
def tw5753244068862098126:=Nat
def tw9908677952878433847:=Nat
def tw12452376912876771043:=Nat
def tw7787820564350739369:=Nat
def tw5628984047807159100:=Nat
def tw2934775693232338386:=Nat
def tw284539881239896744:=Nat
def tw2283090369630033391:=Nat
def tw16594213124196533937:=Nat
def tw1507660527205818348:=Nat
def tw14328553879363270092:=Nat
def tw13933481459234595274:=Nat
def tw13650597366687044144:=Nat
def tw9432097016131097577:=Nat
def tw9198996041614632392:=Nat
def tw8115358238513524877:=Nat
def tw14677604867219085286:=Nat
def tw14273757686805027433:=Nat
def tw1270522357680022049:=Nat
def tw10708559367183162536:=Nat
def tw1349367760430493884:=Nat
def tw4505439732790588072:=Nat
def tw18015492206103991943:=Nat
def tw845641515297986001:=Nat
def tw7847174211960427398:=Nat
def tw5312314351048567099:=Nat
def tw14285490948109189908:=Nat
def tw7336361619248651253:=Nat
def tw14383558423963444250:=Nat
def tw4777748418479202360:=Nat
def tw17768430580275351634:=Nat
def tw17132393783695018107:=Nat
def tw2590011426465581416:=Nat
def tw10285587998939429960:=Nat
def tw1304707862665694911:=Nat
def tw10155651682857687956:=Nat
def tw9081755689694570083:=Nat
def tw12830324586864291405:=Nat
def tw6159928497933661470:=Nat
def tw14648686943328742463:=Nat
def tw17267167604456240990:=Nat
def tw3966929254618293846:=Nat
def tw2751595174252368900:=Nat
def tw5665526026880340129:=Nat
def tw16212136462361435705:=Nat
def tw15584416358265075667:=Nat
def tw16927695111714683113:=Nat
def tw10687830491250504457:=Nat
def tw1340527358059352600:=Nat
def tw16849965992954806457:=Nat
def tw12145183403586069399:=Nat
def tw5925546858214930117:=Nat
def tw492077199620795655:=Nat
def tw8603218522823822784:=Nat
def tw8100151520554281589:=Nat
def tw16456867357083300743:=Nat
def tw3032864835550395292:=Nat
def tw2243738152301567623:=Nat
def tw520197006261529425:=Nat
def tw16695142301396404795:=Nat
def tw2731345793403980203:=Nat
def tw15929455496085469274:=Nat
def tw2108886168936381217:=Nat
def tw1453103159015483201:=Nat
def tw16685833863320763585:=Nat
def tw11690808972502853656:=Nat
def tw17057369753831889729:=Nat
def tw15357197678574747423:=Nat
def tw4925778801986923972:=Nat
def tw5032356980444087072:=Nat
def tw16713031262244441180:=Nat
def tw17175274678900940783:=Nat
def tw2667539140148370418:=Nat
def tw9526190873547809875:=Nat
def tw14136483911840001692:=Nat
def tw936153795764916286:=Nat
def tw17819300888391599407:=Nat
def tw14457846616465530702:=Nat
def tw4288956353258496623:=Nat
def tw16322896499527388455:=Nat
def tw11426610546618642408:=Nat
def tw12643183261653861865:=Nat
def tw4921470038748115010:=Nat
def tw3501264544271226160:=Nat
def tw17761460991384906406:=Nat
def tw4274834942905438699:=Nat
def tw1151966748018138554:=Nat
def tw12642256914636510175:=Nat
def tw17912775757654782332:=Nat
def tw4042133710873538846:=Nat
def tw12820435827196241799:=Nat
def tw15966709791033618170:=Nat
def tw18213299916654448051:=Nat
def tw195117635338605080:=Nat
def tw15177884639936508961:=Nat
def tw16292524899781110872:=Nat
def tw13037800924744261590:=Nat
def tw6330512508351264705:=Nat
def tw8793317257035886674:=Nat
def tw2828676824202487590:=Nat
def tw12318645015709403080:=Nat
def tw7287579465413924477:=Nat
def tw135919319203632187:=Nat
def tw10776058072974343164:=Nat
def tw61124334683463464:=Nat
def tw1078894520860547889:=Nat
def tw11086887635299034358:=Nat
def tw701925523893664140:=Nat
def tw11449785329569000596:=Nat
def tw2645257508011003200:=Nat
def tw5441514659998949746:=Nat
def tw11297741486338769841:=Nat
def tw17307242192673351360:=Nat
def tw13209084176268554638:=Nat
def tw14207846434966231396:=Nat
def tw16030263772094341306:=Nat
def tw2167016621761456195:=Nat
def tw13106698425695283775:=Nat
def tw11712500549323478388:=Nat
def tw213466825567755311:=Nat
def tw920816953356931757:=Nat
def tw11707024293972191231:=Nat
def tw12252955314937030318:=Nat
def tw16075083429125712664:=Nat
def tw1969791301470379898:=Nat
def tw12425270643530175191:=Nat
def tw1294355162745748101:=Nat
def tw6611574500790748212:=Nat
def tw899570595262049080:=Nat
def tw15427184598570778032:=Nat
def tw11504280853852437763:=Nat
def tw8821827002542692158:=Nat
def tw3481875262065718719:=Nat
def tw3615272174206673856:=Nat
def tw2679249243517253950:=Nat
def tw12157054336746039326:=Nat
def tw16221077709614065408:=Nat
def tw18103686922735203148:=Nat
def tw14910750762046934566:=Nat
def tw3920828665006948101:=Nat
def tw13276809493854215150:=Nat
def tw17917477681393009891:=Nat
def tw13613220989122687272:=Nat
def tw5827565679599056477:=Nat
def tw7768082923774247325:=Nat
def tw601005951474544776:=Nat
def tw1063711283285518304:=Nat
def tw2234827509073602387:=Nat
def tw10795665993697805577:=Nat
def tw12094753513931966331:=Nat
def tw5816714205548875543:=Nat
def tw16224839213424559465:=Nat
def tw9744194451374237038:=Nat
def tw7849031858058153049:=Nat
def tw12822796572460312873:=Nat
def tw16241657607991752688:=Nat
def tw14068583697134322534:=Nat
def tw2374995700895757956:=Nat
def tw13471797599607961518:=Nat
def tw7253774081535585353:=Nat
def tw746808232891750879:=Nat
def tw16300917121732260126:=Nat
def tw14290502020607319518:=Nat
def tw8977405864565988960:=Nat
def tw2308763978183115450:=Nat
def tw17032026469296732295:=Nat
def tw12038018655788788685:=Nat
def tw16718670137208999500:=Nat
def tw6340647788565105058:=Nat
def tw9204565191881736691:=Nat
def tw6716755783015037559:=Nat
def tw2062470622721715242:=Nat
def tw1302913961754878099:=Nat
def tw10259316561676174702:=Nat
def tw1918698846038188431:=Nat
def tw18128254485233724528:=Nat
def tw16950937761059767004:=Nat
def tw13646740671131393446:=Nat
def tw10867947224902490642:=Nat
def tw8215072740313725791:=Nat
def tw1922635756151381629:=Nat
def tw11053912021346549968:=Nat
def tw7667972939217146132:=Nat
def tw8445142401453900979:=Nat
def tw1489163847806314597:=Nat
def tw618391232968365221:=Nat
def tw17456443279790773126:=Nat
def tw16759739448662650989:=Nat
def tw13445624933375983563:=Nat
def tw2726764927174083182:=Nat
def tw4691515330844830133:=Nat
def tw1971863470597488694:=Nat
def tw16313140365304730873:=Nat
def tw13181752348701767673:=Nat
end PySem.W.Fast
open PySem PySem.W PyProof.Rows
set_option maxRecDepth 100000 in
set_option maxHeartbeats 0 in
theorem PySem.Challenge.cw_pairwebs_k04_beside_and_refusals_of_webs_holds : PySem.Challenge.rw_pairwebs_k04_beside_and_refusals_of_webs.Holds := by
 w_on;o_law;k_head;(case hw=>w_witness2)
 k_fill
 refine K04.walk (l:=PySem.Challenge.rw_pairwebs_k04_beside_and_refusals_of_webs) rfl rfl (λw h Y=>PySem.W.kIn_of Y) ?F
 case F=>
  intro w mg fa h KX G hmg
  refine' K04.wH KX G hmg K04.good ⟨K04.dm ?_ ?_ ?_ ?_,K04.dm ?_ ?_ ?_ ?_,K04.dm ?_ ?_ ?_ ?_,K04.dm ?_ ?_ ?_ ?_,K04.dm ?_ ?_ ?_ ?_,K04.dm ?_ ?_ ?_ ?_,K04.dm ?_ ?_ ?_ ?_,K04.dm ?_ ?_ ?_ ?_,K04.dm ?_ ?_ ?_ ?_,K04.dm ?_ ?_ ?_ ?_,K04.dm ?_ ?_ ?_ ?_,K04.dm ?_ ?_ ?_ ?_,K04.dm ?_ ?_ ?_ ?_,K04.dm ?_ ?_ ?_ ?_,K04.dm ?_ ?_ ?_ ?_,K04.dm ?_ ?_ ?_ ?_,K04.dm ?_ ?_ ?_ ?_,K04.dm ?_ ?_ ?_ ?_,K04.dm ?_ ?_ ?_ ?_,K04.dm ?_ ?_ ?_ ?_,K04.dm ?_ ?_ ?_ ?_,K04.dm ?_ ?_ ?_ ?_,K04.dm ?_ ?_ ?_ ?_,K04.dm ?_ ?_ ?_ ?_,K04.dm ?_ ?_ ?_ ?_,K04.dm ?_ ?_ ?_ ?_,K04.dm ?_ ?_ ?_ ?_,K04.dm ?_ ?_ ?_ ?_,K04.dm ?_ ?_ ?_ ?_,K04.dm ?_ ?_ ?_ ?_,K04.dm ?_ ?_ ?_ ?_,K04.dm ?_ ?_ ?_ ?_,K04.dm ?_ ?_ ?_ ?_,K04.dm ?_ ?_ ?_ ?_,K04.dm ?_ ?_ ?_ ?_,K04.dm ?_ ?_ ?_ ?_,K04.dm ?_ ?_ ?_ ?_⟩ ?Z ?_ ?R
  case R=>kernel_rfl
  case Z=>intro x hx;simp only[Py.gq,Zi,Tu,Ye]at hx;rcases hx with rfl|rfl|rfl|rfl|rfl|rfl|rfl|rfl|rfl|rfl|rfl|rfl|rfl|rfl|rfl|rfl|rfl|rfl|rfl|rfl|rfl<;>k_is
  all_goals first|k_is|skip
end
