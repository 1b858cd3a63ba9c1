import PyProof.Rows.All
import Wide.All
import OpenK.AllK
import Wide.FinOn
import Lean
import PyProof.EqAt
import PyProof.EqKinds
import PyProof.TupleCall
import PyProof.ListMulAny
import PyProof.FactsAll.tuple
import KE.IntBitsLaws
import PyProof.NeKinds
import PyProof.FactsAll.tuple_2
import PyProof.SumWalkG
import PyProof.WalksMore
import PyProof.MinMaxWalk
import PyProof.Rows.SeqMore
import PyProof.FactsAll.tuple_3
import PyProof.StrCalls2
import PyProof.StrCalls3
import KE.KRevIter
import PyProof.FactsAll.range_2
import PyProof.EnumFor
import PyProof.TupleOfGen
import PyProof.ListRange
import PyProof.Rows.SetFrom
import PyProof.FactsAll.subtypes_4
import PyProof.TupleKey
import PyProof.IsRules
import PyProof.RangeFor
import PyProof.FactsAll.set_1
import PyProof.CollectIter
import PyProof.FactsAll.set_2
import KE.KSortAsk
import KE.KSortTup
import PyProof.DictWalks
import PyProof.DictRoadsH
import PyProof.CallStr
import PyProof.Rows.FStr
import PyProof.ToksMono
import PyProof.StrCalls6
import PyProof.ExcBaseAll.ValueError
import PyProof.Rows.TopTwo
import PyProof.ExcAttrAll.ValueError
import KE.KIsAll
import KE.KTryMore
import PyProof.InstStoreFacts
import PyProof.ExcInit
import PySem.Challenge.RW_pairwebs_k04_beside_and_refusals_of_webs
noncomputable section
set_option genSizeOfSpec false
set_option genSizeOf false
set_option compiler.extract_closed false
set_option bootstrap.genMatcherCode false
set_option backward.eqns.nonrecursive false
set_option backward.eqns.deepRecursiveSplit false
set_option Elab.async false
set_option linter.all false
set_option maxRecDepth 100000
set_option maxHeartbeats 16000000
namespace L2
end L2
namespace Py
end Py
open PySem renaming wpAny_bind->Za,wpAny_pure->Zd,wpAny_holding->ZB,mem_of_lookup->ZC,wpAny_mono->ZH,wpAny_truthy_bool->ZO,wpAny_newObj_type->ZP,wpAny_call_entry->ZY,wpAny_callSpecial?_slot->ZZ,wpAny_field->Z0,wpAny_seqItems->Z4,codeAny_builtin->Z5,Shared->Nl,Addr->Nm,Value->Nn,Program->Nt,Heap->Nw,SetTable->NE,World->NF,Comprehension->NH,wpAny_pyIter_list->NP,wpAny_setState_of->NQ,Around->NV,wpAny_pyIter_tuple->N2,sizeLine_eq->N5,Builtin->N7,FuncData->N_,NameKind->Oa,wpAny_Call_Name_kw->Of,Stmt->Om,IsPair->Oy,wpAny_setField_rec->OD,wpAny_passesOwn->OG,wpAny_standAt->OH,plainId_quiet->OI,codeAny_call_builtin->OS,codeAny_mono->OT,wpAny_typeOf->OU,wpAny_forIn_list->OV,wpAny_askSetting->OX,wpAny_attempt->O2,call_meets->O_,wpAny_rule->O',wpAny_loadPart_at->Po,wpAny_call->Pt,wpAny_ite->Pu,ClassData->Px,wpAny_letGo->PC,wpAny_loadPart'->PL,wpAny_updateSeq->PM,CmpOp->PR,wpAny_setField->P6,IsZip->P9,wpAny_storeSet_of->P_,fits_of_scanBound->P',IsPart->Qa,filterMap_getElem?_range->Qb,ExceptHandler->Qd,PassesOwn->Qf,Result->Qp,wpAny_Call_method_late->Qq,wpAny_execs_nil->Qs,codeAny_of_tree->Qu,wpAny_tryCatch->QE,wpAny_updateSeq_pair->QF,wpAny_setEntries_of->QQ,wpAny_onRaise->QU,GenState->Q6,Operator->Q8,Keyword->Q9,wpAny_sequenceKey->Q_,plainObj_wpAny_Assign_Attribute->Rm,noFill_tuple_add->Rn,wpAny_isInstance->Rp,wpAny_alloc->Ru,wpAny_of_eq->Rv,BindsTo->RK,wpAny_newFunctionEnv_cells->RW,intKind_is->R5,wpAny_runValue->R7,isSubtype_type->R8,wpAny_loadPart->R_,seq_tuple_add->Sj,wpAny_comprehension_free->Sm,wpAny_newList->Sr,putSet_of->SA,concat_meets->SJ,seqIndex_neg->SK,richCompare_meets_room->SO,ElemsOf->SV,wpAny_mkText->SX,codeAny_call_function->S9,wpAny_eqIsQuiet_tuple->Tf,builtinLookup_eq_fast->Tg
open PySem.Heap renaming get?_push_of_some->Zb,lt_size->Zf,get?_push_size->Zg,get?_update_other->ZF,get?_update_self->ZM,SameBut->NW,size_push->Oq,FlyingW->O6,get?_none_of_le->Qj,push->QS,MadeExcOf->Rl,IsTuple->RN,ExtBut->Sd,IsList->Se,get?_update_ne->Sv,get?_some_iff->SF,get?_push_at->SY
open List renaming mem_cons_of_mem->Zc,mem_cons_self->Ze,getElem?_eq_getElem->Zi,mem_cons->Zj,length_map->Zk,all_eq_true->Zl,getElem?_eq_some_iff->Zm,length_append->Zn,getElem?_cons_zero->Zo,mem_map->Zp,mem_of_getElem?->Zq,getElem?_cons_succ->Zr,size_toArray->Zu,not_mem_nil->Zw,exists_cons_of_length_eq_add_one->Zx,mem_append_right->ZD,pairwise_cons->ZI,mem_iff_getElem->ZJ,getElem?_append_right->ZK,mem_append->ZR,length_cons->ZS,eq_nil_of_length_eq_zero->ZT,map_map->ZW,mem_filterMap->Z3,zip_cons_cons->Z7,getElem?_set_self->Z8,pairwise_map->Ya,zipWith->Np,range->Nq,replicate->Nu,toArray->Nz,getElem?_append_left->NG,mem_append_left->NI,mem_singleton->NU,map_cons->NX,mem_range->NY,getElem?_set_ne->NZ,append_nil->N4,pairwise_iff_getElem->Od,nodup_cons->Og,length->Oh,takeWhile_append_dropWhile->Ol,take_length->Oo,all_cons->OA,nodup_append->OC,append_assoc->OE,getD_eq_getElem?_getD->OJ,perm_ext_iff_of_nodup->OK,length_take->OL,getElem?_eq_none_iff->OP,length_reverse->OQ,length_nil->OW,map_append->OY,set_cons_succ->OZ,set_cons_zero->O0,zipWith_cons_cons->O3,length_singleton->Pf,any_eq_true->Pg,perm_middle->Pj,map_drop->Pm,of_mem_zip->Pq,forIn_cons->Ps,filter_sublist->Pw,reverse_cons->PY,zip_nil_left->PZ,getElem?_map->P0,getElem?_take_of_lt->P2,nodup_nil->Qm,map_eq_cons_iff->Qn,replicate_succ->Qt,mem_map_of_mem->Qv,map_take->Qz,zip_nil_right->QC,take_sublist->QI,map->QK,mem_reverse->QT,getElem_mem->QV,ext_getElem->QW,mem_filter->QZ,take_left'->Q5,idxOf_lt_length_of_mem->Rc,drop_eq_getElem_cons->Rq,filterMap_cons_some->Rx,not_of_lt_findIdx->RL,take_of_length_le->RM,drop_eq_nil_of_le->RO,dropLast_eq_take->R0,take_append_drop->R3,getElem?_eq_none->R9,mem_iff_getElem?->Sa,getElem?_zipWith->Sb,set_append_left->Sg,filterMap_cons->Si,zip_eq_zipWith->So,map_congr_left->Ss,filter_eq_self->Sw,getElem?_drop->SG,flatten_cons->SN,foldl_append->SQ,drop_sublist->SR,getElem_inj->S0,length_drop->S_,lookup_cons->Ta,getD->Tb,zipIdx_cons->Tc,mem_nil_iff->Tn,zipWith_map->To
open Nat renaming le_refl->Zh,ne_of_lt->Zs,lt_of_lt_of_le->Zy,le_trans->ZA,lt_irrefl->ZL,zero_le->Z6,lt_succ_self->NK,le_of_succ_le->Oj,le_of_lt->O7,ne_of_gt->O9,not_lt->Pl,lt_succ_of_lt->P4,lt_of_lt_of_eq->QD,mod_lt->QG,lt_trans->QO,le_add_left->Rh,add_assoc->RB,le_of_eq->RX,zero_add->R1,le_succ->Sl,add_left_cancel->Sz,lt_succ_of_le->Td
open Bool renaming false_eq_true->Zt,and_eq_true->ZN,false_ne_true->ZQ,true->Nj,false->Nk,eq_iff_iff->Oe,not_eq_true'->O5,and_eq_true_iff->Pp,or_eq_true_iff->Qw,or_eq_true->Q2,not_true->Ry,or_true->RP,eq_false_iff->SU
open LawfulBEq renaming eq_of_beq->Zv
open Nat.succ renaming inj->Zz
open Array renaming length_toList->ZG,getD_eq_getD_getElem?->NJ,getElem?_eq_getElem->NO,getElem?_eq_some_iff->Ob,getElem?_toList->Pb,getD->Rf,ext'->Rg,toList_filterMap->RA,getElem?_eq_none->RC,range->R6,forIn_toList->Sq,find?_toList->Su,getElem_mem->Sy,toList_push->SE,toList_map->SW,size_push->Te
open PySem.Heap.SameBut renaming update->ZX,refl->Rr
open PySem.Around renaming under_plainId->Z1,under->QB
open PyProof.Rows renaming slot_tuple_getitem->Z9,callWith_type1->N1,SortKind->Pn,AllBare->P8,callWith_builtin1->Qk,IntsAre->QJ,entry_tuple_getitem->QM,args_tuple_getitem->QX,gt_int->Ra,IsTup->RU,tupleItemsOf_->Sk,subscriptTail_builtinR->SM
open Int renaming toNat_natCast->Yb,eq_ofNat_of_zero_le->P7,emod_lt_of_pos->QH,emod_nonneg->Ri,ofNat_le->RQ,ofNat_lt->RR,natCast_nonneg->SH
open PySem.Value renaming none->Nr,ref->NA,type->N3,bool->OF,int->Pd,isInt_shape->PU,notImplemented->RY
open PySem.SetTable renaming below->Nv,insertAt->Ny,sizeAbove->Ot,fill->PH,toList_insertAt->PJ,tooFull->PX,insertAt_perm->P5,fits->Q3,layClean->R4,grown->SD,slot->SS
open PySem.Builtin.SmallTypes renaming nextOf->NB,ownedTupleIsFree->NR,ownedTupleHandOut->PF
open PySem.Obj renaming mapSeq->NC,data_mapFields->Ox,putSet->PQ,isFreed_of_fields->Qh,cls_mapFields->QP,mapFields->RD
open PySem.NameKind renaming cell->ND,free->Qg
open PySem.Builtin.Slice renaming slicePlaces->NL,sliceAdjust->Oz,sliceApplied->Qy
open Option renaming map_eq_some_iff->NM,isSome_iff_exists->NS,bind_some->QL,getD_none->Sx
open ForInStep renaming yield->NN
open PyProof.Rows.F renaming plain_set_update_loop->N6,entry_set_update_loop->O4
open PySem.SetTable.probe renaming go->N8
open PySem.Calls renaming spliced_cons->N9,callWith_builtin->O1,evalArgs_plain->Pk,spliced_nil->PV,Constant_str->Qx,Name_function_global->Q7,call_function_entry->Rk
open PySem.SetTable.layClean renaming free->Oc
open PySem.Str renaming ofString->Oi
open PySem.Builtin.ObjectAttr renaming ownDictForStores->Ou,storeInDict->ON,storeInOwnDict->P1,bindTo->Qi,find->Th,dataDescriptor?->Tj,newKeyGuard->Tl
open PySem.Builtin.Tuple renaming tupleExact->OB,tupleItemsOf->Pe,tupleCompareSizes->Qe
open PySem.SetTable.below renaming go->OM
open PySem.F renaming slot_tuple_iterator_next->OO,plain_min_loop->OR,slot_zip_next->Ql,entry_min_loop->Rb,args_tuple_iterator_next_1->Ro,entry_tuple_iterator_next->Rw
open Option.some renaming inj->O8
open PySem.Builtin.Int renaming intBits->Pa
open True renaming intro->Ph
open PySem.Builtin.List renaming listTooLong->Pr,listExtendWith->QA,listUpdate->QR
open PySem.Builtin.Str renaming occurrences->Pz
open List.Perm renaming eq_of_pairwise->PD
open PySem.Code renaming quiet_builtin->PK,isFrame->RJ
open PySem.Shared renaming heap->PN,TypeIs->Rj
open PySem.Builtin.Frozenset renaming updateFrom->Qc
open PySem.Bind renaming checkArgs->Qo
open PySem.Heap.IsList renaming push->Qr
open PyProof.Rows.IsTup renaming new->QN
open And renaming intro->QY
open PySem.Heap.IsSliceOf renaming new->Q0
open PySem.AutoSeq1 renaming sub_tuple_tuple->Q1
open PySem.Sem renaming wp_mono->Q4
open PySem.EntryCells renaming newEntry->Rt
open PySem.Manifest renaming signature?->RE
open PySem.Builtin.Getset_descriptor renaming descrGet->RF,descrGetter->RG,descrCheckInstance->RH,descrNameAndClass->RI
open Sum renaming inl->RS,inr->RT
open PyProof.Rows.SortSt renaming mk'->Sf
open PySem.Txt renaming replace->Sn
open PySem.Builtin renaming bitAnd->SI,bitOr->S8
open PySem PySem.Spec PyProof.Rows L2 Py
abbrev Mg:=Str->Option Nn
abbrev Vs:=Nn->Nl->Prop
abbrev Fg:=PySem.W.Frag
abbrev Lp:=List (Nm×Obj)
abbrev Lq:=List (Int×Int)
abbrev Li:=List Int
abbrev La:=List Nm
abbrev Lv:=List Nn
abbrev Ls:=List Str
abbrev Lx:=List Expr
abbrev Ov:=Option Nn
abbrev Av:=Array Nn
def ZE:=@decide_eq_false
def ZU:=@of_decide_eq_true
def ZV:=@decide_eq_true
def Z2:=@congrArg
variable {n t' tk mask wanted ep line np:Nat}{m:Int}{us its its' bm sub:Lv}{u cd doc pm cdv ct oc vl vu z cls a0 nameV:Nn}{a it C f sl fa acc I pa fI:Nm}{o ob oe ox oI:Obj}{w:NF}{h h' h1 h2 base h0 h3:Nw}{α β:Type}{e tg iter r' value ce elt:Expr}{pq pins':Lp}{s s' s2:Nl}{g':Array Q6}{d' dr:PySem.Drawn}{ch fp μ μ' F wr μ1 μ0:La}{N ps loose N' sn:Ls}{M:Model}{A:NV}{E Q R E':Vs}{rest ifs:Lx}{y name nm qual pe:Str}{K:Fg}{st b0:Om}{es es':Array (Int×Nn)}{g:Int->Int->Int}{pos' apos p2 cpos pt2 p1 p3 p4 vp tp hp cp rp:Pos}{lo hi:Option Int}{op' op'':PR}{prog:Nt}{dx od dd:Option Nm}{mA mg mN:Mg}{env:Env}{kw:List (Str×Nn)}{outer:List Env}{ks is:List Nat}{scope:Scope}{osl:Array (Ov)}{items:Av}{ns hs so:Li}{XP:(Mg)->Nw->Prop}{YP:NF->Nw->Prop}{tn:Nat->Nw->Prop}{cs:List (Li×Nm)}{ts:Lq}{cell bf:Str->Bool}{gens:List NH}{fr:List (Option Nat)}{led hdct ab:Bool}{nb:Option (Str×Nat×Pos×Pos)}{col:Option Bool}
namespace L2
theorem jP(n:Nat){i:Int}(h:¬i<0):max 0 (min i n)=((min i.toNat n:Nat):Int):=by
 obtain⟨k,rfl⟩:=P7 (Int.not_lt.mp h);rw[Yb];rcases Nat.le_total k n with q|q
 ·rw[Nat.min_eq_left q,Int.min_eq_left (RQ.mpr q)];exact Int.max_eq_right (SH _)
 ·rw[Nat.min_eq_right q,Int.min_eq_right (RQ.mpr q)];exact Int.max_eq_right (SH _)
theorem jQ(n:Nat){i:Int}(h:i<0):max 0 (min (i+n) n)=((i+n).toNat:Int):=by rw[Int.min_eq_left (by have:=Int.add_le_add_right (Int.le_of_lt h) n;rwa [Int.zero_add]at this),Int.toNat_eq_max,Int.max_comm]
theorem yo(i j:Nat):(if(i:Int)<j then((j:Int)-i-1)/1+1 else 0).toNat=j-i:=by
 by_cases h:i<j
 ·rw[if_pos (RR.mpr h),Int.ediv_one,Int.sub_add_cancel];exact Int.toNat_sub j i
 ·rw[if_neg (λq=>h (RR.mp q)),Nat.sub_eq_zero_of_le (Nat.le_of_not_lt h)];rfl
theorem jR(a b:Int):max a b=if b>a then b else a:=by
 rw[Int.max_def];by_cases h:a<b
 ·rw[if_pos (Int.le_of_lt h),if_pos h]
 ·by_cases e:a=b
  ·subst e;rw[if_pos (Int.le_refl _),if_neg h]
  ·rw[if_neg (λq=>e (Int.le_antisymm q (Int.not_lt.mp h))),if_neg h]
theorem sd{m:Nat}(h:m<n):((n:Int)-1+(m:Int)* -1).toNat=n-1-m:=by
 have e:((n-1-m:Nat):Int)=(n:Int)-1-m:=by rw[Int.ofNat_sub (Nat.le_sub_one_of_lt h),Int.ofNat_sub (Nat.succ_le_of_lt (Nat.lt_of_le_of_lt (Z6 _) h))];rfl
 rw[Int.mul_neg,Int.mul_one,<-Int.sub_eq_add_neg,<-e,Yb]
abbrev Key:=Sum Int Str
noncomputable def qS:Key->Nn->Bool
 | .inl k,v=>Value.isInt k v
 | .inr x,v=>Value.isStrOf x v
noncomputable def FN(w:NF):Key->Int
 | .inl k=>hashInt k
 | .inr x=>hashStr w x
theorem fC:∀{k:Key} {v:Nn},qS k v=Nj->(∃i t,k=RS i/\v=Pd i t)\/(∃x t,k=RT x/\v=Value.str x t)
 | .inl i,v,h=>by obtain⟨t,e⟩:=PU h;exact .inl ⟨i,t,rfl,e⟩
 | .inr x,v,h=>by obtain⟨t,e⟩:=Value.isStrOf_shape h;exact .inr ⟨x,t,rfl,e⟩
theorem se(a b:Int):decide ((RS a:Key)=RS b)=(a==b):=by lia
theorem sf(a b:Str):decide ((RT a:Key)=RT b)=decide (a=b):=by lia
theorem sg(a:Int)(b:Str):decide ((RS a:Key)=RT b)=Nk:=ZE λq=>nomatch q
theorem si(a:Str)(b:Int):decide ((RT a:Key)=RS b)=Nk:=ZE λq=>nomatch q
noncomputable def sj(prog:Nt)(w:NF):PySem.KeyKind prog w Key where
 is:=qS
 hash:=FN w
 inj:=λv a b ha hb=>by
  rcases fC ha with⟨i,t,rfl,rfl⟩| ⟨x,t,rfl,rfl⟩
  ·rcases fC hb with⟨j,u,rfl,e⟩| ⟨y,u,rfl,e⟩
   ·injection e with e1 _;rw[e1]
   ·exact nomatch e
  ·rcases fC hb with⟨j,u,rfl,e⟩| ⟨y,u,rfl,e⟩
   ·exact nomatch e
   ·injection e with e1 _;rw[e1]
 byValue:=λk v h=>by rcases fC h with⟨i,t,rfl,rfl⟩| ⟨x,t,rfl,rfl⟩<;>rfl
 pyHash:=λhv h=>by
  rcases fC hv with⟨i,t,rfl,rfl⟩| ⟨x,t,rfl,rfl⟩
  ·exact wpAny_pyHash_int h
  ·exact wpAny_pyHash_str h
 eqBool:=λhu hv h=>by
  rcases fC hu with⟨i,t,rfl,rfl⟩| ⟨x,t,rfl,rfl⟩
  ·rcases fC hv with⟨j,u,rfl,rfl⟩| ⟨y,u,rfl,rfl⟩
   ·rw[se]at h;exact wpAny_eqBool_int h
   ·rw[sg]at h;exact SeqAt.EqAt.int_str i t y u _ _ _ _ h
  ·rcases fC hv with⟨j,u,rfl,rfl⟩| ⟨y,u,rfl,rfl⟩
   ·rw[si]at h;exact SeqAt.EqAt.str_int x t j u _ _ _ _ h
   ·rw[sf]at h;exact wpAny_eqBool_str h
 «strs»:=λk x t v h=>by
  rcases fC h with⟨i,u,rfl,e⟩| ⟨y,u,rfl,e⟩
  ·exact nomatch e
  ·injection e with e1 _
   subst e1;cases v<;>rfl
inductive V where
 |non|bl (b:Bool)|int (i:Int)|str (x:Str)|byt (b:Array UInt8)|flt (b:UInt64)|ref (a:Nm)|ty (n:String)
 deriving DecidableEq
def RelV:V->Nn->Prop
 | .non,u=>u=Nr
 | .bl b,u=>u=OF b
 | .int i,u=>∃t,u=Pd i t
 | .str x,u=>∃t,u=Value.str x t
 | .byt b,u=>∃t,u=Value.bytes b t
 | .flt b,u=>∃t,u=Value.float b t
 | .ref a,u=>u=NA a
 | .ty n,u=>u=N3 n
abbrev Vals:List V->Lv->Prop:=Paired RelV
theorem Vals.length{xs:List V}(r:Vals xs us):xs.length=us.length:=Paired.length r
theorem Vals.get:∀{xs:List V} {us:Lv} {i:Nat} {x:V},Vals xs us->xs[i]?=some x->∃u,us[i]?=some u/\RelV x u
 |_,_,_,_,.nil,e=>by simp_all
 |_,_,0,_,.cons r _,e=>by simp_all
 |_,_,i+1,x,.cons _ t,e=>by obtain⟨u,h,H⟩:=Vals.get t (by simpa using e);simp_all
theorem Vals.set{x:V}(r:RelV x u):∀{xs:List V} {us:Lv} (i:Nat),Vals xs us->Vals (xs.set i x) (us.set i u)
 |_,_,_,.nil=>.nil
 |_,_,0,.cons _ t=>.cons r t
 |_,_,i+1,.cons q t=>.cons q (Vals.set r i t)
theorem Vals.append:∀{xs ys:List V} {us w:Lv},Vals xs us->Vals ys w->Vals (xs++ys) (us++w)
 |_,_,_,_,.nil,s=>s
 |_,_,_,_,.cons r t,s=>.cons r (Vals.append t s)
theorem Vals.take:∀{xs:List V} {us:Lv} (n:Nat),Vals xs us->Vals (xs.take n) (us.take n)
 |_,_,0,_=>.nil
 |_,_,_+1,.nil=>.nil
 |_,_,n+1,.cons r t=>.cons r (Vals.take n t)
theorem Vals.drop:∀{xs:List V} {us:Lv} (n:Nat),Vals xs us->Vals (xs.drop n) (us.drop n)
 |_,_,0,r=>r
 |_,_,_+1,.nil=>.nil
 |_,_,n+1,.cons _ t=>Vals.drop n t
def lY:Option V->Ov->Prop
 |some v,some u=>RelV v u
 |none,none=>True
 |_,_=>False
def KV{a:Type}:List (a×V)->List (a×Nn)->Prop:=Paired λ(p:a×V) (q:a×Nn)=>p.1=q.1/\RelV p.2 q.2
def kV:Key->V
 | .inl i=>.int i
 | .inr x=>.str x
inductive HO where
 |lst (xs:List V)
 |tup (xs:List V)
 |dK (kvs:List (Key×V))|dT (kvs:List (List Key×V))
 |set (S:Int->Bool) (n:Nat)
 |ins (C dx:Nm) (fs:List (Str×V))
 |own (x:Nm)
 |xd (fs:List (Str×V))
 |met (f x:Nm)
 |rng (lo hi:Int)
 |frz (o:Obj) (u:HO)
 |tbl (ps:Av)
 |ext (φ:Nw->Prop)
abbrev Hp:=Nm->Option HO
noncomputable def aO(H:Hp)(a:Nm)(o:HO):Hp:=λb=>if b=a then some o else H b
theorem a7{H:Hp}{o:HO}:aO H a o a=some o:=by unfold aO;simp_all
theorem au{H:Hp}{b:Nm}{o:HO}(h:b≠a):aO H a o b=H b:=by unfold aO;rw[if_neg h]
theorem bR{H:Hp}{b:Nm}{o:HO}(h:H a=some o)(h':H b=none):a≠b:=by lia
def qT(h:Nw)(a:Nm):Prop:=∃o,h.get? a=some o/\o.dict=none
theorem qT.new(h:Nw)(items:Av):qT (h.push {cls:=.type "tuple",data:=.seq items}) h.objs.size:=⟨_,Zg _ rfl,rfl⟩
section
variable (P:Nt)(w:NF)
def aP(H:Hp)(h:Nw)(a:Nm):HO->Prop
 | .lst xs=>xs.length<=sizeLine/\∃(its:Lv) (n:Nat),Vals xs its/\h.get? a=some {cls:=.type "list",data:=.seq its.toArray n}
 | .tup xs=>xs.length<=sizeLine/\∃its:Lv,Vals xs its/\RU h a its.toArray/\qT h a
 | .dK k=>k.length<=sizeLine/\(a==sysModules)=Nk/\∃vs,KV k vs/\h.DictOf (sj P w) a vs
 | .dT k=>k.length<=sizeLine/\(a==sysModules)=Nk/\∃xs:List (List Key×Nm×Nn),
   Paired (λ(p:List Key×V) (q:List Key×Nm×Nn)=>p.1=q.1/\H q.2.1=some (.tup (p.1.map kV))/\RelV p.2 q.2.2) k xs/\
   ∃o es ep,h.get? a=some o/\o.ExactDict/\o.data=.dict es ep/\es.toList=xs.map (entryOfKey (tupleKind (sj P w)))/\(xs.map (·.1)).Nodup
 | .set S n=>h.SetOf (intKind P w) a S n
 | .ins C dx fs=>H dx=some (.own a)/\fs.length<=1000/\dx≠a/\h.get? a=some (PySem.W.instObj C dx)/\
   ∃mA,h.Ns1 dx mA/\(∀f,lY (fs.lookup f) (mA f))/\PySem.Within mA (fs.map (·.1))
 | .own _=>∃o,h.get? a=some o
 | .xd fs=>∃mA,h.Ns1 a mA/\∀f,lY (fs.lookup f) (mA f)
 | .rng lo hi=>∃t u v,h.get? a=some {cls:=.type "range",data:=.fields #[.int lo t,.int hi u,.int 1 v]}
 | .frz o u=>h.get? a=some o/\aP H h a u
 | .tbl ps=>h.get? a=some {cls:=.none,data:=.fields ps}
 | .met f x=>h.get? a=some (PySem.W.methodObj (.ref f) (.ref x))
 | .ext φ=>φ h/\(∃o,h.get? a=some o)/\∀h1 h2:Nw,φ h1->(∀o,h1.get? a=some o->h2.get? a=some o)->φ h2
def dV(H:Hp)(h:Nw):Prop:=∀a o,H a=some o->aP P w H h a o
end
section
variable {P:Nt}{H H':Hp}{o:HO}
theorem aP.lt(x:aP P w H h a o):a<h.objs.size:=by
 cases o with
 |lst X=>obtain⟨_,_,_,_,e⟩:=x;exact Zf e
 |tup X=>obtain⟨_,_,_,p,_⟩:=x;exact p.lt
 |dK k=>obtain⟨_,_,_,_,o,_,_,e,_⟩:=x;exact Zf e
 |dT k=>obtain⟨_,_,_,_,o,_,_,e,_⟩:=x;exact Zf e
 |set S n=>obtain⟨o,_,_,_,e,_⟩:=x;exact Zf e
 |ins C d fs=>obtain⟨_,_,_,e,_⟩:=x;exact Zf e
 |own y=>obtain⟨_,e⟩:=x;exact Zf e
 |xd fs=>obtain⟨_,⟨_,_,_,e,_⟩,_⟩:=x;exact Zf e
 |rng lo b=>obtain⟨_,_,_,e⟩:=x;exact Zf e
 |frz O u=>obtain⟨e,_⟩:=x;exact Zf e
 |tbl c=>exact Zf (show h.get? a=some _ from x)
 |met f y=>exact Zf (show h.get? a=some _ from x)
 |ext g=>obtain⟨_,⟨_,e⟩,_⟩:=x;exact Zf e
theorem Paired.mapP{F G:α->β->Prop}:∀{l:List α} {L:List β},Paired F l L->(∀a b,F a b->G a b)->Paired G l L
 |_,_,.nil,_=>.nil
 |_,_,.cons r t,f=>.cons (f _ _ r) (Paired.mapP t f)
theorem aP.stay(x:aP P w H h a o)(k:∀b u,(b=a\/H b=some (.own a))->h.get? b=some u->h'.get? b=some u)
  (A:∀b,H b=some (.own a)->H' b=some (.own a)) (B:∀b xs,H b=some (.tup xs)->H' b=some (.tup xs)):aP P w H' h' a o:=by
 induction o with
 |lst xs=>obtain⟨z,i,n,r,e⟩:=x;exact⟨z,_,n,r,k _ _ (.inl rfl) e⟩
 |tup xs=>obtain⟨z,i,r,⟨O,e,c⟩,D,l,j⟩:=x;exact⟨z,_,r,⟨_,k _ _ (.inl rfl) e,c⟩,_,k _ _ (.inl rfl) l,j⟩
 |dK K=>obtain⟨z,y,vs,r,O,g,E,e,c⟩:=x;exact⟨z,y,_,r,_,_,_,k _ _ (.inl rfl) e,c⟩
 |dT K=>obtain⟨z,y,xs,r,O,g,E,e,c⟩:=x;exact⟨z,y,_,Paired.mapP r λp q z=>⟨z.1,B _ _ z.2.1,z.2.2⟩,_,_,_,k _ _ (.inl rfl) e,c⟩
 |set S n=>obtain⟨O,g,E,t,e,c⟩:=x;exact⟨_,_,_,t,k _ _ (.inl rfl) e,c⟩
 |ins C G fs=>obtain⟨d,z,ne,e,M,⟨F,g,E,m,c⟩,r⟩:=x;exact⟨A _ d,z,ne,k _ _ (.inl rfl) e,_,⟨_,_,_,k _ _ (.inr d) m,c⟩,r⟩
 |own y=>obtain⟨O,e⟩:=x;exact⟨_,k _ _ (.inl rfl) e⟩
 |xd fs=>obtain⟨M,⟨F,g,E,e,c⟩,r⟩:=x;exact⟨_,⟨_,_,_,k _ _ (.inl rfl) e,c⟩,r⟩
 |rng lo J=>obtain⟨t,u,v,e⟩:=x;exact⟨t,u,v,k _ _ (.inl rfl) e⟩
 |frz O u I=>obtain⟨e,q⟩:=x;exact⟨k _ _ (.inl rfl) e,I q⟩
 |tbl L=>exact k a _ (.inl rfl) x
 |met f y=>exact k a _ (.inl rfl) x
 |ext N=>obtain⟨p,⟨o,e⟩,s⟩:=x;exact⟨s _ _ p λo q=>k _ _ (.inl rfl) q,⟨o,k _ _ (.inl rfl) e⟩,s⟩
theorem dV.lt(x:dV P w H h)(e:H a=some o):a<h.objs.size:=(x a o e).lt
theorem dV.fresh(x:dV P w H h)(e:h.objs.size<=a):H a=none:=by
 cases q:H a with
 |none=>rfl
 |some u=>exact absurd (Zy (x.lt q) e) (ZL _)
theorem dV.kept(x:dV P w H h)(k:∀b u,h.get? b=some u->h'.get? b=some u):dV P w H h':=λa o e=>
 (x a o e).stay (λb u _ q=>k b u q) (λ_ q=>q) λ_ _ q=>q
theorem dV.laid(x:dV P w H h)(k:∀b u,h.get? b=some u->h'.get? b=some u)(g:h.objs.size<=a)(new:aP P w (aO H a o) h' a o):dV P w (aO H a o) h':=λb u e=>by
 have f:=x.fresh g;by_cases d:b=a
 ·subst d;rw[a7]at e;simp_all
 ·rw[au d]at e;exact(x b u e).stay (λc v _ q=>k c v q) (λc q=>by rw[au (bR q f)];exact q) λc X q=>by rw[au (bR q f)];exact q
end
def Rd(H:Hp)(a:Nm)(u:HO):Prop:=H a=some u\/∃o,H a=some (.frz o u)
theorem Rd.ok{P:Nt}{H:Hp}{u:HO}(r:Rd H a u)(x:dV P w H h):aP P w H h a u:=by
 rcases r with r| ⟨o,r⟩
 ·exact x a u r
 ·obtain⟨_,q⟩:=x a _ r;exact q
def Fn:Option HO->Prop
 |some (.lst _)=>True
 |some (.dK _)=>True
 |some (.dT _)=>True
 |some (.set _ _)=>True
 |some (.ins _ _ _)=>True
 |some (.ext _)=>True
 |_=>False
section
variable {P:Nt}{H:Hp}{x e:Nm}{o':HO}
theorem dV.write(ok:dV P w H h)(m:Fn (H x))(i:e=x\/H e=some (.own x))(k:∀b u,b≠e->h.get? b=some u->h'.get? b=some u)(a:∃u,h'.get? e=some u)
  (new:aP P w (aO H x o') h' x o'):dV P w (aO H x o') h':=λb u q=>by
 have n:∀c y,H c=some (.own y)->c≠x:=λc y r z=>by subst z;rw[r]at m;exact m
 have N:∀c X,H c=some (.tup X)->c≠x:=λc X r z=>by subst z;rw[r]at m;exact m
 by_cases d:b=x
 ·subst d;rw[a7]at q;simp_all
 ·rw[au d]at q;by_cases f:b=e
  ·have Q:H b=some (.own x):=by lia
   rw[q]at Q;cases Q;obtain⟨v,j⟩:=a;exact⟨v,by lia⟩
  ·refine(ok b u q).stay (λc v g r=>k c v ?_ r) (λc r=>by rw[au (n c b r)];exact r) λc X r=>by rw[au (N c _ r)];exact r
   grind
end
structure Un (fs ex:La)(H H':Hp)(h h':Nw):Prop where
 keep:∀b o,h.get? b=some o->H b=none->b∉fs->b∉ex->h'.get? b=some o
 slot:∀b o,h.get? b=some o->H b=none->b∈fs->b∉ex->∃sl,h'.get? b=some {o with slots:=sl}
 free:∀b o,h.get? b=some o->H b=none->b∉ex->H' b=none
 there:∀b o,h.get? b=some o->b∉ex->∃o',h'.get? b=some o'
 tups:∀b xs,H b=some (.tup xs)->H' b=some (.tup xs)
 frzs:∀b o u,H b=some (.frz o u)->H' b=some (.frz o u)
 tbls:∀b ps,H b=some (.tbl ps)->∃more,H' b=some (.tbl (ps++more))
section
variable {fs fs' ex ex':La}{H H1 H2:Hp}{x e:Nm}{o:HO}
theorem Un.any(u:Un fs ex H H1 h h1){b:Nm}(q:h.get? b=some ob)(n:H b=none)(c:b∉ex):∃sl,h1.get? b=some {ob with slots:=sl}:=by
 by_cases a:b∈fs
 ·exact u.slot b _ q n a c
 ·exact⟨_,u.keep b _ q n a c⟩
theorem Un.kept(k:∀b u,h.get? b=some u->h'.get? b=some u):Un fs ex H H h h':=
 ⟨λb o q _ _ _=>k b _ q,λb o q _ _ _=>⟨_,k b _ q⟩,λ_ _ _ n _=>n,λb o q _=>⟨_,k b _ q⟩,λ_ _ q=>q,λ_ _ _ q=>q,λ_ p q=>⟨#[],by simp_all⟩⟩
theorem Un.refl:Un fs ex H H h h:=Un.kept λ_ _ q=>q
theorem Un.laid(k:∀b u,h.get? b=some u->h'.get? b=some u)(hp:h.objs.size<=a)(hn:H a=none):Un fs ex H (aO H a o) h h' where
 keep:=λb u q _ _ _=>k b u q
 slot:=λb u q _ _ _=>⟨_,k b u q⟩
 free:=λb u q n _=>by rw[au (Zs (Zy (Zf q) hp))];exact n
 there:=λb u q _=>⟨u,k b u q⟩
 tups:=λb xs q=>by rw[au (bR q hn)];exact q
 frzs:=λb u xs q=>by rw[au (bR q hn)];exact q
 tbls:=λb ps q=>⟨#[],by rw[au (bR q hn),q];simp⟩
theorem Un.write(m:Fn (H x))(g:e=x\/H e=some (.own x))(k:∀b u,b≠e->h.get? b=some u->h'.get? b=some u)(d:∃u,h'.get? e=some u):Un fs ex H (aO H x o) h h':=by
 have f:∀b,H b=none->b≠x:=λb n z=>by subst z;rw[n]at m;exact m
 have c:∀b,H b=none->b≠e:=λb n z=>by lia
 have a:∀b u,H b=some u->¬Fn (some u)->b≠x:=λb u q N z=>by lia
 refine⟨λb u q n _ _=>k b u (c b n) q,λb u q n _ _=>⟨_,k b u (c b n) q⟩,λb u q n _=>by rw[au (f b n)];exact n,λb u q _=>?_,
  λb X q=>by rw[au (a b _ q λz=>z)];exact q,λb u X q=>by rw[au (a b _ q λz=>z)];exact q,λb p q=>⟨#[],by rw[au (a b _ q λz=>z),q];simp⟩⟩
 grind
end
noncomputable def MS(h:Nw)(H:Hp):La:=(Nq h.objs.size).filter λa=>(H a).isSome
def fZ(h:Nw)(H:Hp):Nw:=PySem.W.hideAll h (MS h H)
theorem FO(h:Nw)(H:Hp):(fZ h H).objs.size=h.objs.size:=PySem.W.hideAll_size _ _
theorem FP{H:Hp}{b:Nm}(e:h.get? b=some o)(n:H b=none):(fZ h H).get? b=some o:=
 PySem.W.hideAll_get _ e λa=>by have q:=(QZ.mp a).2;simp_all
theorem lZ{H:Hp}{b:Nm}(e:(fZ h H).get? b=some o):h.get? b=some o/\H b=none:=by
 have E:=PySem.W.of_hideAll _ e;refine⟨E,?_⟩;cases q:H b with
 |none=>rfl
 |some x=>have z:(fZ h H).get? b=none:=PySem.W.hideAll_none _ (QZ.mpr ⟨NY.mpr (Zf E),by simp[q]⟩);simp_all
structure Mod (K:Fg)(mg:Mg)(base:Nw):Prop where
 kin:K.In base
 glob:base.Ns mainGlobals mg
 blt:∃mb,base.Ns builtinsNs mb/\∀x:Str,x≠"__name__"->mb x=bootBuiltins x
 nolimit:base.NoLimit
structure Cx where
 prog:Nt
 w:NF
 K:Fg
 mg:Mg
 base:Nw
 A:NV
 N:Ls
 s₀:Nl
 H₀:Hp
 env:Env
 outer:List Env
 stack:List Env
 ex:La
 fn:Str->Bool
 calm:Bool
 pn:Lp
 xe:Vs
def bE(l:List Env):La:=l.filterMap (·.frame)
abbrev Cx.fs(X:Cx):La:=bE X.outer
def yp(s:Scope)(x:Str):Prop:=s.names.lookup x=some .local\/s.names.lookup x=some .cell\/s.names.lookup x=some .free
def Loc(s:Scope)(x:Str):Prop:=s.names.lookup x=some .local\/s.names.lookup x=some .cell
def Look(env:Env)(h:Nw)(m:Mg)(x:Str)(u:Nn):Prop:=
 (env.kindOf x=some .local/\m x=some u)\/((env.kindOf x=some .cell\/env.kindOf x=some .free)/\∃c,env.cells.lookup x=some c/\h.IsCell c (some u))
structure Cx.Ok (X:Cx):Prop where
 mod:Mod X.K X.mg X.base
 kind:X.env.scope.kind=.function
 glob:X.env.globals=mainGlobals
 blt:X.env.builtins=builtinsNs
 above:X.s₀.heap.objs.size<=X.env.locals
 inj:∀x y c,X.env.cells.lookup x=some c->X.env.cells.lookup y=some c->x=y
 has:∀x,(X.env.kindOf x=some .cell\/X.env.kindOf x=some .free)->∃c,X.env.cells.lookup x=some c
 cab:∀x c,X.fn x=Nj->X.env.cells.lookup x=some c->X.s₀.heap.objs.size<=c
 hd:X.calm=Nj->X.A.handled=none
 frames:X.A.frames=some X.stack
 stk:X.stack=X.outer\/(X.stack=X.env::X.outer/\X.env.frame=some X.env.locals)
 exf:∀b∈X.ex,b≠X.env.locals/\∀x c,X.env.cells.lookup x=some c->c≠b
 bs:∀b o,X.base.get? b=some o->X.s₀.heap.get? b=some o/\X.H₀ b=none
 bsz:X.base.objs.size<=X.s₀.heap.objs.size
 noex:∀b o,X.base.get? b=some o->b∉X.ex
 exfs:∀b∈X.ex,b∉X.fs
 funs:X.s₀.heap.FunFrames X.base X.outer
 frf:∀b∈X.fs,X.H₀ b=none
structure Inv (X:Cx)(pq:Lp)(σ:List (Option V))(H:Hp)(s:Nl):Prop where
 ok:X.Ok
 os:s.os=X.s₀.os
 bare:P8 s.gens
 base:Un X.fs X.ex X.H₀ H X.s₀.heap s.heap
 loc:∃m,s.heap.Ns X.env.locals m/\∀(i:Nat) (x:Str) (v:V),X.N[i]?=some x->σ[i]?=some (some v)->yp X.env.scope x->∃u,RelV v u/\Look X.env s.heap m x u
 cell:∀x c,X.env.cells.lookup x=some c->∃v,s.heap.IsCell c v
 free:H X.env.locals=none
 freeC:∀x c,X.env.cells.lookup x=some c->H c=none
 pin:∀p∈X.pn++pq,s.heap.get? p.1=some p.2/\H p.1=none/\p.1≠X.env.locals/\p.1∉X.fs/\∀v,p.2.data≠.cell v
 hok:dV X.prog X.w H s.heap
 len:σ.length=X.N.length
section
variable {X:Cx}{σ:List (Option V)}{H H':Hp}
theorem Cx.Ok.nofr(ok:X.Ok){b:Nm}(e:X.base.get? b=some o):b∉X.fs:=λh=>by have:=(ok.funs.mem h).1;simp_all
theorem Inv.bs(I:Inv X pq σ H s):∀b o,X.base.get? b=some o->s.heap.get? b=some o/\H b=none:=λb o e=>
 ⟨I.base.keep b o (I.ok.bs b o e).1 (I.ok.bs b o e).2 (I.ok.nofr e) (I.ok.noex b o e),I.base.free b o (I.ok.bs b o e).1 (I.ok.bs b o e).2 (I.ok.noex b o e)⟩
theorem Inv.bk(I:Inv X pq σ H s):∀b o,X.base.get? b=some o->s.heap.get? b=some o:=λb o e=>(I.bs b o e).1
theorem Inv.mod(I:Inv X pq σ H s):Mod X.K X.mg X.base:=I.ok.mod
theorem Inv.kIn(I:Inv X pq σ H s):X.K.In s.heap:=I.ok.mod.kin.keeps I.bk
theorem Inv.lt(I:Inv X pq σ H s):X.env.locals<s.heap.objs.size:=(by obtain⟨_,h,_⟩:=I.loc;exact(h.lt))
theorem Inv.sz(I:Inv X pq σ H s):X.s₀.heap.objs.size<=s.heap.objs.size:=ZA I.ok.above (O7 I.lt)
theorem Inv.nofs(I:Inv X pq σ H s)(h:s.heap.objs.size<=a):a∉X.fs:=λb=>by obtain⟨_,o,c,_⟩:=I.ok.funs.mem b;exact absurd (Zy (Zf c) (ZA I.sz h)) (ZL _)
theorem Inv.cne(I:Inv X pq σ H s):∀x c,X.env.cells.lookup x=some c->c≠X.env.locals:=λx c e z=>by obtain⟨v,o,f,d⟩:=I.cell x c e;obtain⟨m,⟨O,b,E,a,h,_⟩,_⟩:=I.loc;simp_all
theorem Inv.funs(I:Inv X pq σ H s):s.heap.FunFrames X.base X.outer:=by
 have all:∀(l:List _),(∀b∈bE l,b∈X.fs)->X.s₀.heap.FunFrames X.base l->s.heap.FunFrames X.base l:=by
  intro l
  induction l with
  |nil=>intro _ _;trivial
  |cons E r n=>intro d i;obtain⟨g,⟨L,o,c,j,k,f⟩,m⟩:=i;have h:=d L (by unfold bE;simp_all);obtain⟨sl,e⟩:=I.base.slot L o k (I.ok.frf L h) h λz=>I.ok.exfs L z h;exact⟨g,⟨L,_,c,j,e,f⟩,n (λb a=>d b (by unfold bE;simp only[Si,c];exact Zc _ a)) m⟩
 exact all _ (λ_ a=>a) I.ok.funs
theorem Inv.stack(I:Inv X pq σ H s):s.heap.FunFrames X.base X.stack:=by
 rcases I.ok.stk with e| ⟨e,h⟩
 ·rw[e];exact I.funs
 ·rw[e];obtain⟨m,a,_⟩:=I.loc;exact .cons (by rw[I.ok.kind];decide) h a (Qj (ZA I.ok.bsz I.ok.above)) I.funs
theorem Inv.stkSub(I:Inv X pq σ H s):∀b∈bE X.stack,b∈X.env.locals::X.fs:=λb h=>by
 rcases I.ok.stk with e| ⟨e,a⟩
 ·simp_all
 ·rw[e]at h;unfold bE at h;rw[Si,a]at h;exact h
theorem Inv.stkFree(I:Inv X pq σ H s):∀b∈bE X.stack,H b=none:=λb h=>by
 rcases Zj.mp (I.stkSub b h)with e|h
 ·rw[e];exact I.free
 ·obtain⟨_,o,a,_⟩:=I.ok.funs.mem h;exact I.base.free b o a (I.ok.frf b h) λz=>I.ok.exfs b z h
theorem Inv.step{J:Array Q6}{t':Nat}{Q:PySem.Drawn}(I:Inv X pq σ H s)
  (a:∀b∈ch,(b∈X.ex\/X.s₀.heap.objs.size<=b)/\b≠X.env.locals/\(∀x c,X.env.cells.lookup x=some c->c≠b)/\∀p∈X.pn++pq,p.1≠b)
  (K:∀b o,b≠X.env.locals->b∉X.fs->b∉ch->s.heap.get? b=some o->H b=none->h'.get? b=some o)
  (S:∀b o,b≠X.env.locals->b∈X.fs->b∉ch->s.heap.get? b=some o->H b=none->∃sl,h'.get? b=some {o with slots:=sl}) (f:∀b o,b∉ch->s.heap.get? b=some o->H b=none->H' b=none)
  (t:∀b o,b∉ch->s.heap.get? b=some o->∃o',h'.get? b=some o')
  (T:∀b xs,H b=some (.tup xs)->H' b=some (.tup xs)) (F:∀b o u,H b=some (.frz o u)->H' b=some (.frz o u)) (O:∀b ps,H b=some (.tbl ps)->∃more,H' b=some (.tbl (ps++more)))
  (ns:∀m,s.heap.Ns X.env.locals m->h'.Ns X.env.locals m) (D:dV X.prog X.w H' h') (U:P8 J):
  Inv X pq σ H' {s with heap:=h',gens:=J,drawn:=Q,toks:=t'}:=by
 have y:∀b o,X.s₀.heap.get? b=some o->b≠X.env.locals:=λb o e=>Zs (Zy (Zf e) I.ok.above)
 have N:∀b o,X.s₀.heap.get? b=some o->b∉X.ex->b∉ch:=λb o e h g=>by
  rcases(a b g).1 with z|z
  ·exact h z
  ·exact absurd (Zy (Zf e) z) (ZL _)
 have C:∀x c,X.env.cells.lookup x=some c->∀v,s.heap.IsCell c v->h'.IsCell c v:=λx c e v Z=>by obtain⟨o,j,B⟩:=Z;exact(by
  have w:c∉ch:=λz=>(a c z).2.2.1 x c e rfl;by_cases L:c∈X.fs
  ·obtain⟨sl,q⟩:=S c o (I.cne x c e) L w j (I.freeC x c e);exact⟨_,q,B⟩
  ·exact⟨o,K c o (I.cne x c e) L w j (I.freeC x c e),B⟩)
 refine⟨I.ok,I.os,U,⟨λb o e n g h=>?_,λb o e n g h=>?_,λb o e n h=>?_,λb o e h=>?_,λb xs e=>T b xs (I.base.tups b xs e),λb o xs e=>F b o xs (I.base.frzs b o xs e),λb ps e=>?_⟩,?_,λx c e=>?_,?_,λx c e=>?_,λp Y=>?_,D,I.len⟩
 ·exact K b o (y b o e) g (N b o e h) (I.base.keep b o e n g h) (I.base.free b o e n h)
 ·obtain⟨sl,E⟩:=I.base.slot b o e n g h;obtain⟨G,A⟩:=S b _ (y b o e) g (N b o e h) E (I.base.free b o e n h);exact⟨G,A⟩
 ·obtain⟨o',E⟩:=I.base.there b o e h;exact f b o' (N b o e h) E (I.base.free b o e n h)
 ·obtain⟨o',E⟩:=I.base.there b o e h;exact t b o' (N b o e h) E
 ·obtain⟨m1,E⟩:=I.base.tbls b ps e
  grind
 ·obtain⟨m,W,V⟩:=I.loc;refine⟨m,ns m W,λi x v E A R=>?_⟩;obtain⟨u,r,l⟩:=V i x v E A R;refine⟨u,r,?_⟩;rcases l with l| ⟨k,c,e,z⟩
  ·exact .inl l
  ·exact .inr ⟨k,c,e,C x c e _ z⟩
 ·obtain⟨v,z⟩:=I.cell x c e;exact⟨v,C x c e v z⟩
 ·obtain⟨m,⟨o,_,_,j,_⟩,_⟩:=I.loc;exact f _ o (λz=>(a _ z).2.1 rfl) j I.free
 ·obtain⟨v,o,j,B⟩:=I.cell x c e;exact f c o (λz=>(a c z).2.2.1 x c e rfl) j (I.freeC x c e)
 ·obtain⟨e,n,ne,nf,d⟩:=I.pin p Y
  grind
theorem Inv.un{t':Nat}(I:Inv X pq σ H s)(u:Un X.fs [] H H' s.heap h')(c:dV X.prog X.w H' h'):Inv X pq σ H' {s with heap:=h',toks:=t'}:=by obtain⟨m,⟨o,l,k,f,r⟩,_⟩:=id I.loc;obtain⟨sl,i⟩:=u.any f I.free (by simp);exact I.step (ch:=[]) (λ_ z=>nomatch z) (λb o _ a _ e n=>u.keep b o e n a (by simp)) (λb o _ a _ e n=>u.slot b o e n a (by simp)) (λb o _ e n=>u.free b o e n (by simp)) (λb o _ e=>u.there b o e (by simp)) u.tups u.frzs u.tbls (λM j=>by obtain⟨O,g,E,h,R⟩:=j;rw[f]at h;cases h;exact⟨_,_,_,i,R⟩) c I.bare
theorem Inv.call{t':Nat}{D:PySem.Drawn}(I:Inv X pq σ H s)(u:Un (bE X.stack) ch H H' s.heap h')(g:dV X.prog X.w H' h')(q:P8 g')
  (a:∀b∈ch,(b∈X.ex\/X.s₀.heap.objs.size<=b)/\b≠X.env.locals/\(∀x c,X.env.cells.lookup x=some c->c≠b)/\∀p∈X.pn++pq,p.1≠b):
  Inv X pq σ H' {s with heap:=h',gens:=g',drawn:=D,toks:=t'}:=by
 obtain⟨m,⟨o,y,w,j,r⟩,_⟩:=id I.loc;obtain⟨sl,f⟩:=u.any j I.free λz=>(a _ z).2.1 rfl;exact I.step a (λb o f l h e n=>u.keep b o e n (λz=>(Zj.mp (I.stkSub b z)).elim f l) h) (λb o _ _ h e n=>u.any e n h) (λb o h e n=>u.free b o e n h) (λb o h e=>u.there b o e h) u.tups u.frzs u.tbls (λM v=>by obtain⟨O,k,E,d,R⟩:=v;rw[j]at d;cases d;exact⟨_,_,_,f,R⟩) g q
theorem Inv.turned{t':Nat}(I:Inv X pq σ H s)(k:∀b o,b≠it->s.heap.get? b=some o->h'.get? b=some o)(y:H it=none)(d:it≠X.env.locals)
  (h1:it∈X.ex\/X.s₀.heap.objs.size<=it) (j:∀x c,X.env.cells.lookup x=some c->c≠it) (l:∀p∈X.pn++pq,p.1≠it):Inv X pq σ H {s with heap:=h',toks:=t'}:=by
 refine I.step (ch:=[it]) (λb w=>?_) (λb o _ _ h e _=>k b o (λz=>h (by simp[z])) e) (λb o _ _ h e _=>⟨_,k b o (λz=>h (by simp[z])) e⟩) (λ_ _ _ _ n=>n)
  (λb o h e=>⟨o,k b o (λz=>h (by simp[z])) e⟩) (λ_ _ e=>e) (λ_ _ _ e=>e) (λb P e=>⟨#[],by simp_all⟩) (λm f=>?_) (λb u e=>?_) I.bare
 ·grind
 ·obtain⟨o,i,E,g,r⟩:=f;exact⟨o,_,_,k _ o (Ne.symm d) g,r⟩
 ·refine(I.hok b u e).stay (λc v h q=>k c v ?_ q) (λ_ q=>q) λ_ _ q=>q
  grind
theorem Inv.tok(I:Inv X pq σ H s)(t:Nat):Inv X pq σ H {s with toks:=t}:=I.un Un.refl I.hok
theorem Inv.kept{t':Nat}(I:Inv X pq σ H s)(k:∀b u,s.heap.get? b=some u->h'.get? b=some u):Inv X pq σ H {s with heap:=h',toks:=t'}:=I.un (Un.kept k) (I.hok.kept k)
theorem Inv.laid{o:HO}{t':Nat}(I:Inv X pq σ H s)(k:∀b u,s.heap.get? b=some u->h'.get? b=some u)(h:s.heap.objs.size<=a)(new:aP X.prog X.w (aO H a o) h' a o):
  Inv X pq σ (aO H a o) {s with heap:=h',toks:=t'}:=I.un (Un.laid k h (I.hok.fresh h)) (I.hok.laid k h new)
theorem Inv.write{x e:Nm}{o:HO}{t':Nat}(I:Inv X pq σ H s)(m:Fn (H x))(a:e=x\/H e=some (.own x))(k:∀b u,b≠e->s.heap.get? b=some u->h'.get? b=some u)(h:∃u,h'.get? e=some u)
  (new:aP X.prog X.w (aO H x o) h' x o):Inv X pq σ (aO H x o) {s with heap:=h',toks:=t'}:=I.un (Un.write m a k h) (I.hok.write m a k h new)
theorem Inv.pins_of(I:Inv X pq σ H s)(h:∀p∈pins',s.heap.get? p.1=some p.2/\H p.1=none/\p.1≠X.env.locals/\p.1∉X.fs/\∀v,p.2.data≠.cell v):Inv X pins' σ H s:=
 ⟨I.ok,I.os,I.bare,I.base,I.loc,I.cell,I.free,I.freeC,λp a=>(ZR.mp a).elim (λz=>I.pin p (NI _ z)) (h p),I.hok,I.len⟩
theorem yq(h:N.Nodup){i j:Nat}{x:Str}(a:N[i]?=some x)(b:N[j]?=some x):i=j:=by obtain⟨H,e⟩:=Zm.mp a;obtain⟨c,E⟩:=Zm.mp b;exact(S0 h).mp (e.trans E.symm)
theorem yr{M:Model}{A:NV}{E:Vs}{i:Nat}{x:Str}{v:V}{Q:Unit->Nl->Prop}(I:Inv X pq σ H s)(hN:X.N.Nodup)(P:X.N[i]?=some x)(w:Loc X.env.scope x)(r:RelV v u)
  (h:∀s',Inv X pq (σ.set i (some v)) H s'->(∃a,NW a s.heap s'.heap/\(a=X.env.locals\/X.env.cells.lookup x=some a))->Q () s') (hf:X.fn x=Nj\/X.env.scope.names.lookup x=some .local:=by first|exact .inl rfl|exact .inr rfl|assumption):wpAny M A (storeName X.env x u) Q E s:=by
 obtain⟨m,U,hl⟩:=id I.loc;have D:i<σ.length:=by rw[I.len];exact(Zm.mp P).1
 have cne:=I.cne
 have t:∀{a:Nm} {K:Nw},(∃o,s.heap.get? a=some o/\H a=none)->NW a s.heap K->dV X.prog X.w H K:=λ{a K} ha f b ob e=>by
  obtain⟨_,_,B⟩:=ha;refine(I.hok b ob e).stay (λc W l q=>(f.2 c ?_).trans q) (λ_ q=>q) λ_ _ q=>q;rintro rfl;rcases l with rfl|l
  ·rw[B]at e;cases e
  ·rw[B]at l;cases l
 rcases w with L|L
 ·refine wpAny_storeName_local L U (λK Y f=>?_) (by rw[I.ok.kind];rfl);obtain⟨oL,_,_,Z,_⟩:=id U;refine h _ ⟨I.ok,I.os,I.bare,⟨λb o e n F w=>?_,λb o e n F w=>?_,I.base.free,λb o e w=>?_,I.base.tups,I.base.frzs,I.base.tbls⟩,⟨_,Y,λj y v' g C T=>?_⟩,λy c e=>?_,I.free,I.freeC,λp hp=>?_,t ⟨oL,Z,I.free⟩ f,by simpa using I.len⟩ ⟨_,f,.inl rfl⟩
  ·exact(f.2 b (Zs (Zy (Zf e) I.ok.above))).trans (I.base.keep b o e n F w)
  ·obtain⟨sl,g⟩:=I.base.slot b o e n F w;exact⟨sl,(f.2 b (Zs (Zy (Zf e) I.ok.above))).trans g⟩
  ·obtain⟨o',g⟩:=I.base.there b o e w;exact⟨o',(f.2 b (Zs (Zy (Zf e) I.ok.above))).trans g⟩
  ·by_cases J:j=i
   ·subst J;rw[P]at g;cases g;rw[Z8 D]at C;cases C;exact⟨u,r,.inl ⟨L,by simp⟩⟩
   ·rw[NZ (Ne.symm J)]at C;obtain⟨u',r',q⟩:=hl j y v' g C T;refine⟨u',r',?_⟩;rcases q with⟨k,e⟩| ⟨k,c,e,z⟩
    ·refine .inl ⟨k,?_⟩;have:y≠x:=λe=>J (yq hN g (e▸P));simp[this,e]
    ·exact .inr ⟨k,c,e,z.sameBut f (cne y c e)⟩
  ·obtain⟨W,z⟩:=I.cell y c e;exact⟨W,z.sameBut f (cne y c e)⟩
  ·obtain⟨e,n,ne,nf,d⟩:=I.pin p hp;exact⟨(f.2 p.1 ne).trans e,n,ne,nf,d⟩
 ·have G:X.fn x=Nj:=by grind
  obtain⟨c,l⟩:=I.ok.has x (.inl L);obtain⟨W,z⟩:=I.cell x c l;refine wpAny_storeName_cell I.ok.kind L l z (λK N f=>?_);obtain⟨oc,R,hocd⟩:=id z;refine h {s with heap:=K} ⟨I.ok,I.os,I.bare,⟨λb o e n F w=>?_,λb o e n F w=>?_,I.base.free,λb o e w=>?_,I.base.tups,I.base.frzs,I.base.tbls⟩,⟨m,U.sameBut f (Ne.symm (cne x c l)),λj y v' g C T=>?_⟩,λy S e=>?_,I.free,I.freeC,λp hp=>?_,t ⟨oc,R,I.freeC x c l⟩ f,by simpa using I.len⟩ ⟨c,f,.inr l⟩
  ·exact(f.2 b (Zs (Zy (Zf e) (I.ok.cab x c G l)))).trans (I.base.keep b o e n F w)
  ·obtain⟨sl,g⟩:=I.base.slot b o e n F w;exact⟨sl,(f.2 b (Zs (Zy (Zf e) (I.ok.cab x c G l)))).trans g⟩
  ·obtain⟨o',g⟩:=I.base.there b o e w;exact⟨o',(f.2 b (Zs (Zy (Zf e) (I.ok.cab x c G l)))).trans g⟩
  ·by_cases J:j=i
   ·subst J;rw[P]at g;cases g;rw[Z8 D]at C;cases C;exact⟨u,r,.inr ⟨.inl L,c,l,N⟩⟩
   ·rw[NZ (Ne.symm J)]at C;obtain⟨u',r',q⟩:=hl j y v' g C T;refine⟨u',r',?_⟩;rcases q with q| ⟨k,S,e,z'⟩
    ·exact .inl q
    ·refine .inr ⟨k,S,e,z'.sameBut f ?_⟩;rintro rfl;exact J (yq hN g (I.ok.inj _ _ _ e l▸P))
  ·by_cases O:S=c
   ·subst O;exact⟨_,N⟩
   ·obtain⟨w2,z2⟩:=I.cell y S e;exact⟨w2,z2.sameBut f O⟩
  ·obtain⟨e,n,ne,nf,d⟩:=I.pin p hp;refine⟨(f.2 p.1 ?_).trans e,n,ne,nf,d⟩;intro q;rw[q,R]at e;exact d W (by grind)
theorem l4{M:Model}{A:NV}{E:Vs}{i:Nat}{x:Str}{v:V}{Q:Unit->Nl->Prop}(I:Inv X pq σ H s)(b:X.N.Nodup)(d:X.N[i]?=some x)(e:Loc X.env.scope x)(r:RelV v u)
  (h:∀s',Inv X pq (σ.set i (some v)) H s'->Q () s') (c:X.fn x=Nj\/X.env.scope.names.lookup x=some .local:=by first|exact .inl rfl|exact .inr rfl|assumption):wpAny M A (storeName X.env x u) Q E s:=
 yr I b d e r (λs' a _=>h _ a) c
theorem Inv.call'(I:Inv X pq σ H s)(e:s'.os=s.os)(u:Un (bE X.stack) ch H H' s.heap s'.heap)(a:dV X.prog X.w H' s'.heap)(d:P8 s'.gens)
  (h:∀b∈ch,(b∈X.ex\/X.s₀.heap.objs.size<=b)/\b≠X.env.locals/\(∀x c,X.env.cells.lookup x=some c->c≠b)/\∀p∈X.pn++pq,p.1≠b):Inv X pq σ H' s':=by
 obtain⟨f,g,D,t,o⟩:=s';subst(e);exact I.call u a d h
end
abbrev XK:=Nn->Option Nm->Hp->Prop
abbrev St:=List (Option V)
abbrev VK:=V->Hp->Prop
abbrev TE:=St->Hp->VK->Prop
abbrev TT:=St->Hp->(Bool->Hp->Prop)->Prop
abbrev TA:=St->Hp->(List V->Hp->Prop)->Prop
set_option genInjectivity false in
structure Ends where
 nx:St->Hp->Prop
 rt:VK
 bk:St->Hp->Prop:=λ_ _=>False
 ct:St->Hp->Prop:=λ_ _=>False
abbrev TS:=Ends->St->Hp->Prop
def EP(X:Cx)(p:Lp)(σ:St)(Q:VK)(u:Nn)(s:Nl):Prop:=∃v H',Inv X p σ H' s/\RelV v u/\Q v H'
def TP(X:Cx)(p:Lp)(σ:St)(Q:Bool->Hp->Prop)(b:Bool)(s:Nl):Prop:=∃H',Inv X p σ H' s/\Q b H'
def AP(X:Cx)(p:Lp)(σ:St)(Q:List V->Hp->Prop)(u:Lv)(s:Nl):Prop:=∃vs H',Inv X p σ H' s/\Vals vs u/\Q vs H'
def SP(X:Cx)(p:Lp)(D:Ends)(f:Flow)(s:Nl):Prop:=
 match f with
 | .next=>∃σ' H',Inv X p σ' H' s/\D.nx σ' H'
 | .brk=>∃σ' H',Inv X p σ' H' s/\D.bk σ' H'
 | .cont=>∃σ' H',Inv X p σ' H' s/\D.ct σ' H'
 | .ret u=>∃v σ' H',Inv X p σ' H' s/\RelV v u/\D.rt v H'
def PE(X:Cx)(e:Expr)(t:TE):Prop:=
 ∀(pq:Lp) (s:Nl) (σ:St) (H:Hp) (Q:VK),Inv X pq σ H s->t σ H Q->wpAny (model X.prog X.w) X.A (eval e X.env) (EP X pq σ Q) X.xe s
def PT(X:Cx)(e:Expr)(t:TT):Prop:=
 ∀(pq:Lp) (s:Nl) (σ:St) (H:Hp) (Q:Bool->Hp->Prop),Inv X pq σ H s->t σ H Q->wpAny (model X.prog X.w) X.A (isTrue e X.env (eval e X.env)) (TP X pq σ Q) X.xe s
def PW(X:Cx)(e:Expr)(t:TT):Prop:=
 ∀(whole:Sem Nn) (pq:Lp) (s:Nl) (σ:St) (H:Hp) (Q:Bool->Hp->Prop),Inv X pq σ H s->t σ H Q->wpAny (model X.prog X.w) X.A (isTrue e X.env whole) (TP X pq σ Q) X.xe s
theorem PW.pt{X:Cx}{t:TT}(h:PW X e t):PT X e t:=h _
def PA(X:Cx)(es:Lx)(t:TA):Prop:=
 ∀(pos:Pos) (pq:Lp) (s:Nl) (σ:St) (H:Hp) (Q:List V->Hp->Prop),Inv X pq σ H s->t σ H Q->wpAny (model X.prog X.w) X.A (spliced (backTo pos (starEach es X.env))) (AP X pq σ Q) X.xe s
def PS(X:Cx)(st:Om)(t:TS):Prop:=
 ∀(pq:Lp) (s:Nl) (σ:St) (H:Hp) (D:Ends),Inv X pq σ H s->t D σ H->wpAny (model X.prog X.w) X.A (exec st X.env) (SP X pq D) X.xe s
def d9(X:Cx)(st:List Om)(t:TS):Prop:=
 ∀(pq:Lp) (s:Nl) (σ:St) (H:Hp) (D:Ends),Inv X pq σ H s->t D σ H->wpAny (model X.prog X.w) X.A (execs st X.env) (SP X pq D) X.xe s
theorem aN{t:Sem α}{Q b:α->Nl->Prop}(h:wpAny M A t Q E s)(H:∀a s,Q a s->b a s):wpAny M A t b E s:=ZH h H λ_ _ x=>x
section
variable {X:Cx}
def l5(i:Nat):TE:=λσ H Q=>∃v,σ[i]?=some (some v)/\Q v H
def tC(v:V):TE:=λ_ H Q=>Q v H
theorem jS{i:Nat}{x:Str}{pos:Pos}(j:X.N[i]?=some x)(p:yp X.env.scope x)(f:(x==("__debug__":Str))=Nk:=by decide)(d:(x==("__classdict__":Str))=Nk:=by decide):PE X (.Name x pos) (l5 i):=by
 intro P s q H Q I h;obtain⟨v,e,h⟩:=h;obtain⟨m,o,k⟩:=I.loc;obtain⟨u,r,l⟩:=k i x v j e p;have fin:EP X _ _ Q u s:=⟨v,H,I,r,h⟩;rcases l with⟨b,n⟩| ⟨b,c,g,a⟩
 ·exact wpAny_Name (wpAny_loadName_local I.ok.kind b o n fin) f
 ·rcases b with b|b
  ·exact wpAny_Name (wpAny_loadName_cell I.ok.kind b g a fin) f
  ·exact wpAny_Name (wpAny_loadName_free I.ok.kind b g a fin d) f
theorem jT{i j pos}:PE X (.Constant (.int i) j pos) (tC (.int i)):=λ_ _ _ H _ I h=>wpAny_Constant_int ⟨.int i,H,I.tok _,⟨_,rfl⟩,h⟩
theorem qU{b j pos}:PE X (.Constant (.bool b) j pos) (tC (.bl b)):=λ_ _ _ H _ I h=>Constant_bool ⟨.bl b,H,I,rfl,h⟩
theorem sm{j pos}:PE X (.Constant .none j pos) (tC .non):=λ_ _ _ H _ I h=>Constant_none ⟨.non,H,I,rfl,h⟩
theorem iJ{x j pos}:PE X (.Constant (.str x) j pos) (tC (.str x)):=λ_ _ _ H _ I h=>Qx ⟨.str x,H,I.tok _,⟨_,rfl⟩,h⟩
def Gl(X:Cx)(x:Str):Prop:=X.env.kindOf x=some .globalImplicit
theorem iK{E:Vs}{σ:St}{H:Hp}{x:Str}{pos:Pos}(I:Inv X pq σ H s)(b:Gl X x)(c:X.mg x=some u)(h:Q u s)
  (a:(x==("__debug__":Str))=Nk:=by decide):wpAny (model X.prog X.w) X.A (eval (.Name x pos) X.env) Q E s:=
 Q7 I.ok.kind b (Calls.loadGlobal_global (by rw[I.ok.glob];exact I.mod.glob.keeps I.bk) c h) a
theorem f6{E:Vs}{σ:St}{H:Hp}{x:Str}{pos:Pos}(I:Inv X pq σ H s)(d:Gl X x)(e:X.mg x=none)(g:bootBuiltins x=some u)(h:Q u s)
  (f:x≠"__name__":=by decide) (c:(x==("__debug__":Str))=Nk:=by decide):wpAny (model X.prog X.w) X.A (eval (.Name x pos) X.env) Q E s:=by
 obtain⟨m,a,b⟩:=I.mod.blt;exact Q7 I.ok.kind d (Calls.loadGlobal_builtin (by rw[I.ok.glob];exact I.mod.glob.keeps I.bk) e (by rw[I.ok.blt];exact a.keeps I.bk) ((b x f).trans g) h) c
theorem yt{x:Str}{v:V}{pos:Pos}(b:Gl X x)(c:X.mg x=some u)(r:RelV v u)(a:(x==("__debug__":Str))=Nk:=by decide):PE X (.Name x pos) (tC v):=
 λ_ _ _ H _ I h=>iK I b c ⟨v,H,I,r,h⟩ a
theorem yu{x:Str}{v:V}{pos:Pos}(b:Gl X x)(c:X.mg x=none)(e:bootBuiltins x=some u)(r:RelV v u)(d:x≠"__name__":=by decide)(a:(x==("__debug__":Str))=Nk:=by decide):PE X (.Name x pos) (tC v):=
 λ_ _ _ H _ I h=>f6 I b c e ⟨v,H,I,r,h⟩ d a
variable {a b:Expr}{ta tb:TE}{pos:Pos}
def tB(t:TE):TT:=λσ H Q=>t σ H λx H1=>∃c,x=.bl c/\Q c H1
theorem sr{t:TE}(h:PE X e t)(b:∀w,isTrue e X.env w=(do let v <-w;standAt e.pos;holding [v] (truthy v)):=by intro _;rfl):PT X e (tB t):=by intro p s f H Q I hw;refine isTrue_plain (aN (h p s f H _ I hw) λv S ⟨x,H1,a,r,c⟩=>?_) (b _);obtain⟨d,rfl,q⟩:=c;cases r;exact ZO ⟨H1,a,q⟩
variable {tA tB':TT}
def FQ(t u:TT):TT:=λσ H Q=>t σ H λc H1=>if c=Nj then u σ H1 Q else Q Nk H1
def MT(t u:TT):TT:=λσ H Q=>t σ H λc H1=>if c=Nj then Q Nj H1 else u σ H1 Q
def FR(t:TT):TT:=λσ H Q=>t σ H λc H1=>Q (!c) H1
theorem l6(b:PT X a tA):PW X (.BoolOp .And [a] pos) tA:=by
 intro w p s d H Q I h;refine isTrue_and (aN (b _ s _ H Q I h) λc S e=>?_);cases c with
 |true=>exact isTrue_and_nil e
 |false=>exact e
theorem jU(b:PT X a tA):PW X (.BoolOp .Or [a] pos) tA:=by
 intro w p s d H Q I h;refine isTrue_or (aN (b _ s _ H Q I h) λc S e=>?_);cases c with
 |false=>exact isTrue_or_nil e
 |true=>exact e
theorem ss(e:PT X a tA)(f:PW X (.BoolOp .And (b::rest) pos) tB'):PW X (.BoolOp .And (a::b::rest) pos) (FQ tA tB'):=by
 intro w p s g H Q I h;refine isTrue_and (aN (e _ s _ H _ I h) λc S z=>?_);obtain⟨_,d,q⟩:=z;cases c with
 |true=>exact f _ _ _ _ _ Q d q
 |false=>exact⟨_,d,q⟩
theorem qV(e:PT X a tA)(f:PW X (.BoolOp .Or (b::rest) pos) tB'):PW X (.BoolOp .Or (a::b::rest) pos) (MT tA tB'):=by
 intro w p s g H Q I h;refine isTrue_or (aN (e _ s _ H _ I h) λc S z=>?_);obtain⟨_,d,q⟩:=z;cases c with
 |true=>exact⟨_,d,q⟩
 |false=>exact f _ _ _ _ _ Q d q
theorem jV(b:PT X a tA):PT X (.UnaryOp .Not a pos) (FR tA):=by intro p s c H Q I h;exact isTrue_not (b _ s _ H _ I h)
def yv(t tb:TE):TE:=λσ H Q=>t σ H λx H1=>∃c,x=.bl c/\if c=Nj then tb σ H1 Q else Q (.bl Nk) H1
def FU(t tb:TE):TE:=λσ H Q=>t σ H λx H1=>∃c,x=.bl c/\if c=Nj then Q (.bl Nj) H1 else tb σ H1 Q
theorem jW{op}{t:TE}(h:PE X a t):PE X (.BoolOp op [a] pos) t:=λp s b H Q I hw=>BoolOp_one (h _ s _ H Q I hw)
theorem su(e:PE X a ta)(f:PE X (.BoolOp .And (b::rest) pos) tb):PE X (.BoolOp .And (a::b::rest) pos) (yv ta tb):=by
 intro p s g H Q I h;refine BoolOp_and (aN (e _ s _ H _ I h) λv S z=>?_);obtain⟨x,_,d,r,q⟩:=z;obtain⟨c,rfl,q⟩:=q;subst r;refine ZO ?_;cases c with
 |true=>exact f _ _ _ _ Q d q
 |false=>exact⟨.bl _,_,d,rfl,q⟩
theorem yw(e:PE X a ta)(f:PE X (.BoolOp .Or (b::rest) pos) tb):PE X (.BoolOp .Or (a::b::rest) pos) (FU ta tb):=by
 intro p s g H Q I h;refine BoolOp_or (aN (e _ s _ H _ I h) λv S z=>?_);obtain⟨x,_,d,r,q⟩:=z;obtain⟨c,rfl,q⟩:=q;subst r;refine ZO ?_;cases c with
 |false=>exact f _ _ _ _ Q d q
 |true=>exact⟨.bl _,_,d,rfl,q⟩
def MU(t:TT)(T tb:TE):TE:=λσ H Q=>t σ H λc H1=>if c=Nj then T σ H1 Q else tb σ H1 Q
theorem FV{c:Expr}(i:PT X c tA)(f:PE X a ta)(g:PE X b tb):PE X (.IfExp c a b pos) (MU tA ta tb):=by
 intro p s j H Q I h;refine wpAny_IfExp (aN (i _ s _ H _ I h) λd S z=>?_);obtain⟨_,e,q⟩:=z;cases d with
 |true=>exact f _ _ _ _ Q e q
 |false=>exact g _ _ _ _ Q e q
end
def c6(K:Fg)(H:Hp)(a:Nm)(xs:List V):Prop:=
 Rd H a (.lst xs)\/
  ∃(o:Obj) (its:Av) (n:Nat),K.lookup a=some o/\o.cls=.type "list"/\o.dict=none/\o.data=.seq its n/\its.size<=sizeLine/\Vals xs its.toList
def bZ(K:Fg)(H:Hp)(a:Nm)(xs:List V):Prop:=
 Rd H a (.tup xs)\/
  ∃(o:Obj) (its:Av) (n:Nat),K.lookup a=some o/\o.cls=.type "tuple"/\o.dict=none/\o.data=.seq its n/\its.size<=sizeLine/\Vals xs its.toList
noncomputable def FW:Nn->Option V
 | .none=>some .non
 | .bool b=>some (.bl b)
 | .int i _=>some (.int i)
 | .str x _=>some (.str x)
 | .bytes b _=>some (.byt b)
 | .float b _=>some (.flt b)
 | .ref a=>some (.ref a)
 | .type n=>some (.ty n)
 |_=>none
theorem RelV.abs{x:V}(r:RelV x u):FW u=some x:=by
 cases x with
 |non=>cases r;rfl
 |bl _=>cases r;rfl
 |int _=>obtain⟨t,rfl⟩:=r;rfl
 |str _=>obtain⟨t,rfl⟩:=r;rfl
 |byt _=>obtain⟨t,rfl⟩:=r;rfl
 |flt _=>obtain⟨t,rfl⟩:=r;rfl
 |ref _=>cases r;rfl
 |ty _=>cases r;rfl
theorem RelV.inj{x y:V}(r:RelV x u)(q:RelV y u):x=y:=O8 (r.abs.symm.trans q.abs)
theorem Vals.inj:∀{xs ys:List V} {us:Lv},Vals xs us->Vals ys us->xs=ys
 |_,_,_,.nil,.nil=>rfl
 |_,_,_,.cons r t,.cons R T=>by rw[r.inj R,Vals.inj t T]
section
variable {X:Cx}{σ:St}{H:Hp}{xs ys:List V}
theorem c6.of(h:H a=some (.lst xs)):c6 K H a xs:=.inl (.inl h)
theorem bZ.of(h:H a=some (.tup xs)):bZ K H a xs:=.inl (.inl h)
theorem Inv.list(I:Inv X pq σ H s)(h:c6 X.K H a xs):∃its:Lv,Vals xs its/\PlainL s.heap a its.toArray/\xs.length<=sizeLine:=by
 rcases h with h| ⟨o,its,n,c,b,hd,d,f,r⟩
 ·obtain⟨z,its,n,r,e⟩:=h.ok I.hok;exact⟨_,r,⟨_,n,e,rfl,rfl,rfl⟩,z⟩
 ·refine⟨_,r,⟨o,n,I.kIn a o c,b,hd,by simp_all⟩,?_⟩;have e:=r.length;simp_all
theorem Inv.tuple(I:Inv X pq σ H s)(h:bZ X.K H a xs):∃its:Lv,Vals xs its/\RU s.heap a its.toArray/\xs.length<=sizeLine:=by
 rcases h with h| ⟨o,its,n,c,b,_,d,f,r⟩
 ·obtain⟨z,its,r,p,_⟩:=h.ok I.hok;exact⟨_,r,p,z⟩
 ·refine⟨_,r,⟨o,I.kIn a o c,b,n,by simp_all⟩,?_⟩;have e:=r.length;simp_all
theorem Inv.noD(I:Inv X pq σ H s)(h:bZ X.K H a xs):qT s.heap a:=by
 rcases h with h| ⟨o,i,n,c,d,b,e,f,r⟩
 ·obtain⟨z,i,r,p,q⟩:=h.ok I.hok;exact q
 ·exact⟨o,I.kIn a o c,b⟩
theorem Inv.list_inj(I:Inv X pq σ H s)(h:c6 X.K H a xs)(h':c6 X.K H a ys):xs=ys:=by
 obtain⟨b,r,⟨o,n,e,_,_,d⟩,_⟩:=I.list h;obtain⟨i,R,⟨O,N,E,_,_,D⟩,_⟩:=I.list h';have:b=i:=by simp_all
 subst this;exact r.inj R
theorem Inv.tuple_inj(I:Inv X pq σ H s)(h:bZ X.K H a xs)(h':bZ X.K H a ys):xs=ys:=by
 obtain⟨b,r,⟨o,e,_,n,d⟩,_⟩:=I.tuple h;obtain⟨i,R,⟨O,E,_,N,D⟩,_⟩:=I.tuple h';have:b=i:=by simp_all
 subst this;exact r.inj R
end
section
variable {X:Cx}{σ:St}{H:Hp}
end
section
variable {X:Cx}{rest:List Om}{t u:TS}{te:TE}{pos:Pos}
def qW:TS:=λD σ H=>D.nx σ H
def FX(t u:TS):TS:=λD σ H=>t {D with nx:=u D} σ H
theorem fD:d9 X [] qW:=λ_ _ a H _ I h=>Qs ⟨_,H,I,h⟩
theorem c7(h1:PS X st t)(b:d9 X rest u):d9 X (st::rest) (FX t u):=by
 intro p s e H D I h;refine wpAny_execs_cons (aN (h1 _ s _ H _ I h) λf S q=>?_);cases f with
 |next=>obtain⟨c,d,a,q⟩:=q;exact b _ _ _ _ D a q
 |ret v=>exact q
 |brk=>exact q
 |cont=>exact q
def sv:TS:=λD σ H=>D.bk σ H
def yx:TS:=λD σ H=>D.ct σ H
theorem l7:PS X (.Pass pos) qW:=λ_ _ a H _ I h=>wpAny_Pass ⟨_,H,I,h⟩
theorem FY:PS X (.Break pos) sv:=λ_ _ a H _ I h=>wpAny_Break ⟨_,H,I,h⟩
theorem FZ:PS X (.Continue pos) yx:=λ_ _ a H _ I h=>wpAny_Continue ⟨_,H,I,h⟩
theorem Inv.quiet{σ:St}{H:Hp}(I:Inv X pq σ H s):interactive X.env=Nk:=by simp[interactive,I.ok.kind]
def yy(t:TE):TS:=λD σ H=>t σ H λ_ H1=>D.nx σ H1
theorem l8(b:PE X e te)(hs:swapsWith e none pos.line X.env=pure Nk:=by rfl):PS X (.Expr e pos) (yy te):=by intro p s c H D I h;exact wpAny_Expr_any (aN (b _ s _ H _ I h) λv S z=>by obtain⟨x,_,a,_,q⟩:=z;exact(⟨_,_,a,q⟩)) I.quiet hs
def F0(t:TE):TS:=λD σ H=>t σ H D.rt
theorem jX(b:PE X e te):PS X (.Return (some e) pos) (F0 te):=by intro p s c H D I h;exact wpAny_Return_some (aN (b _ s _ H _ I h) λv S z=>by obtain⟨x,_,a,r,q⟩:=z;exact(⟨x,_,_,a,r,q⟩))
def yz:TS:=λD _ H=>D.rt .non H
theorem l9:PS X (.Return none pos) yz:=λ_ _ a H _ I h=>wpAny_Return_none ⟨.non,_,H,I,rfl,h⟩
def F1(c:TT)(t u:TS):TS:=λD σ H=>c σ H λb H1=>if b=Nj then t D σ H1 else u D σ H1
theorem ip{c:Expr}{a b:List Om}{T:TT}(i:PT X c T)(f:d9 X a t)(g:d9 X b u):PS X (.If c a b pos) (F1 T t u):=by
 intro p s j H D I h;refine wpAny_If (aN (i _ s _ H _ I h) λd S z=>?_);obtain⟨_,e,q⟩:=z;cases d with
 |true=>exact f _ _ _ _ D e q
 |false=>exact g _ _ _ _ D e q
def sw:TS:=λ_ _ _=>False
theorem sx{s:List Om}:d9 X s sw:=λ_ _ _ _ _ _ h=>h.elim
end
abbrev TG:=V->St->Hp->(St->Hp->Prop)->Prop
abbrev qX:=List V->St->Hp->(St->Hp->Prop)->Prop
def PG(X:Cx)(target:Expr)(t:TG):Prop:=
 ∀(pq:Lp) (s:Nl) (σ:St) (H:Hp) (v:V) (u:Nn) (Q:St->Hp->Prop),Inv X pq σ H s->RelV v u->t v σ H Q->
  wpAny (model X.prog X.w) X.A (assign target X.env u) (λ_ s'=>∃σ' H',Inv X pq σ' H' s'/\Q σ' H') X.xe s
def yA(X:Cx)(ts:Lx)(t:qX):Prop:=
 ∀(pq:Lp) (s:Nl) (σ:St) (H:Hp) (vs:List V) (us:Lv) (Q:St->Hp->Prop),Inv X pq σ H s->Vals vs us->t vs σ H Q->
  wpAny (model X.prog X.w) X.A (assignInOrder ((assignEach ts X.env).map (·.2)) us) (λ_ s'=>∃σ' H',Inv X pq σ' H' s'/\Q σ' H') X.xe s
abbrev l_:=V->V->V->Hp->(Hp->Prop)->Prop
def sy(X:Cx)(t:l_):Prop:=
 ∀(pq:Lp) (s:Nl) (σ:St) (H:Hp) (o i v:V) (O I u:Nn) (Q:Hp->Prop),Inv X pq σ H s->RelV o O->RelV i I->RelV v u->t o i v H Q->
  wpAny (model X.prog X.w) X.A (setItem O I u) (λ_ s'=>∃H',Inv X pq σ H' s'/\Q H') X.xe s
section
variable {X:Cx}{pos:Pos}
def dW(i:Nat):TG:=λv σ H Q=>Q (σ.set i (some v)) H
theorem l'{i:Nat}{x:Str}(b:X.N.Nodup)(d:X.N[i]?=some x)(e:Loc X.env.scope x)(c:X.fn x=Nj\/X.env.scope.names.lookup x=some .local:=by first|exact .inl rfl|exact .inr rfl|assumption):PG X (.Name x pos) (dW i):=by intro p s f H v u Q I r h;exact wpAny_assign_Name (l4 I b d e r (λS a=>⟨_,H,a,h⟩) c)
def yB:qX:=λvs σ H Q=>vs=[]/\Q σ H
noncomputable def qY(t:TG)(u:qX):qX:=λvs σ H Q=>∃v r,vs=v::r/\t v σ H λσ' H'=>u r σ' H' Q
theorem ma:yA X [] yB:=by intro p s a H vs u Q I r h;obtain⟨e,h⟩:=h;exact assignInOrder_nil ⟨_,H,I,h⟩
theorem F2{es:Lx}{t:TG}{u:qX}(h1:PG X e t)(b:yA X es u)
  (hs:(assignEach (e::es) X.env).map (·.2)=assign e X.env::(assignEach es X.env).map (·.2):=by rfl):yA X (e::es) (qY t u):=by
 intro p s c H vs U Q I r h;obtain⟨v,V,E,h⟩:=h;subst E;cases r with
 |cons r R=>rw[hs];exact assignInOrder_cons (aN (h1 _ s _ H _ _ _ I r h) λ_ S z=>by obtain⟨_,_,a,q⟩:=z;exact(b _ _ _ _ _ _ Q a R q))
def yC(K:Fg)(n:Nat)(t:qX):TG:=λv σ H Q=>∃a xs,v=.ref a/\bZ K H a xs/\xs.length=n/\t xs σ H Q
theorem sG{es:Lx}{k:Nat}{t:qX}(d:X.calm=Nj)(h:yA X es t)
  (g:(assignEach es X.env).length=n:=by rfl) (c:(assignEach es X.env).findIdx? (·.1)=none:=by rfl):PG X (.Tuple es k pos) (yC X.K n t):=by
 intro P s w H v u Q I r hw;obtain⟨a,x,E,i,f,hw⟩:=hw;subst E;subst r;obtain⟨m,R,j,q⟩:=I.tuple i;exact assign_Tuple_tuple (I.ok.hd d) j (by simp[g,<-f,R.length]) c λp l=>h _ _ _ H _ _ Q (I.kept (t':=s.toks) λb o e=>l b o (Zs (Zf e)) e) (by omega) hw
def F3(to T:TE)(t:l_):TG:=λv σ H Q=>to σ H λo H1=>T σ H1 λi H2=>t o i v H2 λa=>Q σ a
theorem sH{o i:Expr}{to T:TE}{t:l_}(f:PE X o to)(e:PE X i T)(hs:sy X t)
  (l:∀v,assign (.Subscript o i pos) X.env v=(do
   let O <-holding [v] (eval o X.env)
   let a <-holding [v,O] (eval i X.env)
   standAt pos
   holding [v,O,a] (setItem O a v)
   release [v,O,a] []):=by intro _;rfl):PG X (.Subscript o i pos) (F3 to T t):=by
 intro p s w H v u Q I r h;refine Za (ZB (aN (f _ s _ H _ I h) λO S z=>?_));obtain⟨x,_,b,R,q⟩:=z;exact Za (ZB (aN (e _ _ _ _ _ b q) λa m z=>z.elim λy z=>z.elim λ_ z=>z.elim λc z=>z.elim λk g=>Za (OH (Za (ZB (aN (hs _ _ _ _ x y v _ _ u _ c R k r g) λ_ n z=>by obtain⟨_,d,j⟩:=z;exact(wpAny_release ⟨_,_,d,j⟩)))))))
def me(t:TE)(g:TG):TS:=λD σ H=>t σ H λx H1=>g x σ H1 D.nx
theorem jY{t:TE}{g:TG}(b:PE X e t)(c:PG X tg g)(hs:swapsWithSole [tg] e pos.line X.env=pure Nk:=by rfl)(hw:swappedStores [tg] e X.env=pure none:=by rfl)
  (h1:(assignEach [tg] X.env).map (·.2)=[assign tg X.env]:=by rfl):PS X (.Assign [tg] e pos) (me t g):=by
 intro p s f H D I h;refine wpAny_Assign_stores (aN (b _ s _ H _ I h) λv S z=>?_) hs hw;obtain⟨x,_,a,r,Q⟩:=z;rw[h1];exact aN (c _ _ _ _ x v _ a r Q) λ_ d q=>q
theorem jZ{i:Nat}{x:Str}{t:TE}(c:X.N.Nodup)(g:X.N[i]?=some x)(j:Loc X.env.scope x)(d:PE X e t)(hs:swapsWith e (some (.Name x pos')) pos.line X.env=pure Nk:=by rfl)(f:X.fn x=Nj\/X.env.scope.names.lookup x=some .local:=by first|exact .inl rfl|exact .inr rfl|assumption):
  PS X (.Assign [.Name x pos'] e pos) (me t (dW i)):=by
 intro p s l H D I h;exact wpAny_Assign_Name (aN (d _ s _ H _ I h) λv S z=>by obtain⟨y,_,a,r,q⟩:=z;exact(l4 a c g j r (λk b=>⟨_,_,b,q⟩) f)) hs
end
section
variable {X:Cx}{pos:Pos}
def sI(c:TT)(tb:TS):TS:=λD σ H=>∃W:Nat->St->Hp->Prop,(∃m,W m σ H)/\∀m σ H,W m σ H->
 c σ H λb H1=>if b=Nj then ∃N:St->Hp->Prop,(∀σ' H',N σ' H'->∃M,M<m/\W M σ' H')/\tb {D with nx:=N,ct:=N,bk:=D.nx} σ H1 else D.nx σ H1
theorem F4{c:Expr}{body:List Om}{t:TT}{tb:TS}(i:Qf (model X.prog X.w) X.A X.env X.xe)(o:PT X c t)(m:d9 X body tb):PS X (.While c body [] pos) (sI t tb):=by
 intro P s C H D I h;obtain⟨W,⟨M,w⟩,turn⟩:=h;refine wpAny_While (codeAny_whileLoop (λn S=>∃a e,Inv X _ a e S/\W n a e) ?_ _ ⟨_,H,I,w⟩);rintro n y ⟨u,H1,k,r⟩;refine OG i (aN (o _ _ _ _ _ k (turn n _ _ r)) λb A z=>?_);obtain⟨_,g,q⟩:=z;cases b with
 |true=>
  obtain⟨N,x,q⟩:=q;refine OG i (aN (m _ _ _ _ _ g q) λf B Q=>?_);cases f with
  |next=>
   obtain⟨d,j,l,p⟩:=Q
   grind
  |cont=>
   obtain⟨d,j,l,p⟩:=Q
   grind
  |brk=>exact Q
  |ret v=>exact Q
 |false=>exact Qs ⟨_,_,g,q⟩
end
set_option genInjectivity false in
structure It where
 go:Nat->Hp->Prop
 yld:Nat->Hp->V->Hp->Prop
 stop:Nat->Hp->Prop
def dh(X:Cx)(P:Lp)(H:Hp)(b:Nm):Prop:=
 H b=none/\b≠X.env.locals/\b∉X.fs/\(b∈X.ex\/X.s₀.heap.objs.size<=b)/\(∀x c,X.env.cells.lookup x=some c->c≠b)/\∀p∈X.pn++P,p.1≠b
theorem Inv.fpOk{X:Cx}{σ:St}{H a:Hp}{b:Nm}(I:Inv X pq σ H s)(h:s.heap.objs.size<=b)(d:a b=none):dh X pq a b:=by
 refine⟨d,O9 (Zy I.lt h),I.nofs h,.inr (ZA I.sz h),λx c e z=>?_,λp f z=>?_⟩
 ·obtain⟨v,q⟩:=I.cell x c e;exact absurd (Zy q.lt (by simp_all)) (ZL _)
 ·exact absurd (Zy (Zf (I.pin p f).1) (by simp_all)) (ZL _)
structure Turn (P:Nt)(w:NF)(K:Fg)(tg:Expr)(J:It)(fp:La)(it:Nm)(tn:Nat->Nw->Prop):Prop where
 mem:it∈fp
 obj:∀i h,tn i h->∀b∈fp,∃o,h.get? b=some o/\∀v,o.data≠.cell v
 keep:∀i h h',tn i h->(∀b∈fp,∀o,h.get? b=some o->h'.get? b=some o)->tn i h'
 item:∀(X:Cx),X.prog=P->X.w=w->X.K=K->X.calm=Nj->∀(i:Nat) (pq:Lp) (s:Nl) (σ:St) (H:Hp) (E:Vs),Inv X pq σ H s->(∀b∈fp,dh X pq H b)->tn i s.heap->J.go i H->
  wpAny (model P w) X.A (pyNext (.ref it)) (λr s1=>∃u,r=some u/\
   wpAny (model P w) X.A (letOwnedTupleGo tg (.ref it) u) (λ_ s2=>∃x H',Inv X pq σ H' s2/\RelV x u/\J.yld i H x H'/\tn (i+1) s2.heap/\∀b∈fp,H' b=none) E s1) E s
 done:∀(X:Cx),X.prog=P->X.w=w->X.K=K->X.calm=Nj->∀(i:Nat) (pq:Lp) (s:Nl) (σ:St) (H:Hp) (E:Vs),Inv X pq σ H s->(∀b∈fp,dh X pq H b)->tn i s.heap->J.stop i H->
  wpAny (model P w) X.A (pyNext (.ref it)) (λr s1=>r=none/\Inv X pq σ H s1) E s
 self:∀(A:NV) (i:Nat) (s:Nl) (Q:Vs) (E:Vs),tn i s.heap->Q (.ref it) s->wpAny (model P w) A (pyIter (.ref it)) Q E s
abbrev TI:=St->Hp->(It->Hp->Prop)->Prop
def Fo(X:Cx)(p:Lp)(σ:St)(tg:Expr)(R:It->Hp->Prop)(i:Nn)(s2:Nl):Prop:=
 ∃(it:Nm) (fp:La) (tn:Nat->Nw->Prop) (J:It) (H':Hp),i=.ref it/\Inv X p σ H' s2/\Turn X.prog X.w X.K tg J fp it tn/\tn 0 s2.heap/\(∀b∈fp,dh X p H' b)/\R J H'
def PI(X:Cx)(tg i:Expr)(w:TI):Prop:=
 ∀(pq:Lp) (s:Nl) (σ:St) (H:Hp) (R:It->Hp->Prop),Inv X pq σ H s->w σ H R->
  wpAny (model X.prog X.w) X.A (eval i X.env) (λv S=>wpAny (model X.prog X.w) X.A (pyIter v) (Fo X pq σ tg R) X.xe S) X.xe s
theorem j1{n:String}{vs:Av}{Q:Unit->Nl->Prop}(b:s.heap.get? it=some o)(H:o.cls=.type n)(a:o.data=.fields vs)
  (c:["enumerate","zip","dict_itemiterator","dict_reverseitemiterator","odict_iterator","itertools.zip_longest","itertools.pairwise"].contains n=Nk) (h:Q () s):wpAny M A (letOwnedTupleGo tg (.ref it) u) Q E s:=by
 cases tg<;>first
  |exact Zd h
  | (cases u<;>first
    |exact Zd h
    | (refine Za (wpAny_load b ?_)
       rw[H,a];show wpAny M A (if(["enumerate","zip","dict_itemiterator","dict_reverseitemiterator","odict_iterator","itertools.zip_longest","itertools.pairwise"].contains n&&vs[0]?==some _)=Nj then _ else _) Q E s;rw[if_neg (by lia)];exact Zd h))
noncomputable def Fp(K:Fg)(a:Nm):It:=
 ⟨λi H=>∃xs x,c6 K H a xs/\xs[i]?=some x,λi H x H'=>H'=H/\∀xs,c6 K H a xs->xs[i]?=some x,λi H=>∃xs,c6 K H a xs/\xs.length<=i⟩
noncomputable def F5(K:Fg)(a:Nm):It:=
 ⟨λi H=>∃xs x,bZ K H a xs/\xs[i]?=some x,λi H x H'=>H'=H/\∀xs,bZ K H a xs->xs[i]?=some x,λi H=>∃xs,bZ K H a xs/\xs.length<=i⟩
noncomputable def yD(l:Int)(n:Nat):It:=⟨λi _=>i<n,λi H x H'=>H'=H/\x=.int (l+i),λi _=>n<=i⟩
theorem F6{P:Nt}(a it:Nm):Turn P w K tg (Fp K a) [it] it (λi h=>h.IsListIter it a i) where
 mem:=by simp
 obj:=λi h st b hb=>by
  have e:=by simpa using hb
  obtain⟨o,e,c,d⟩:=st;simp_all
 keep:=λi h h' st k=>st.at λo e=>k _ (by simp) o e
 item:=by intro X hP hw hK hc i pq s σ H E I hf st hg;subst hP hw hK;obtain⟨xs,x,hq,hx⟩:=hg;obtain⟨its,rv,p,hz⟩:=I.list hq;obtain⟨u,hu,ru⟩:=rv.get hx;obtain⟨f0,f1,f2,f3,f4,f5⟩:=hf it (by simp);refine wpAny_pyNext_list_item st p.isList (by simpa using hu) λh' st' sb=>?_;obtain⟨o,e,c,d⟩:=id st';exact⟨u,rfl,j1 e c d (rfl) ⟨x,H,I.turned (t':=s.toks) (λb o hb e=>(sb.2 b hb).trans e) f0 f1 f3 f4 f5,ru,⟨rfl,λys hy=>by rw[I.list_inj hy hq];exact hx⟩,st',λb hb=>(hf b hb).1⟩⟩
 done:=by intro X hP hw hK hc i pq s σ H E I hf st hg;subst hP hw hK;obtain⟨xs,hq,hx⟩:=hg;obtain⟨its,rv,p,hz⟩:=I.list hq;obtain⟨f0,f1,f2,f3,f4,f5⟩:=hf it (by simp);have hl:=rv.length;exact wpAny_pyNext_list_end (I.ok.hd hc) st p.isList (by simp_all) λh' eb=>⟨rfl,I.turned (λb o hb e=>eb b o hb e) f0 f1 f3 f4 f5⟩
 self:=λ_ _ _ _ _ st h=>wpAny_pyIter_listiter st h
theorem F7{P:Nt}(a it:Nm):Turn P w K tg (F5 K a) [it] it (λi h=>h.IsTupleIter it a i) where
 mem:=by simp
 obj:=λi h st b hb=>by
  have e:=by simpa using hb
  obtain⟨o,e,c,d⟩:=st;simp_all
 keep:=λi h h' st k=>st.at λo e=>k _ (by simp) o e
 item:=by intro X hP hw hK hc i pq s σ H E I hf st hg;subst hP hw hK;obtain⟨xs,x,hq,hx⟩:=hg;obtain⟨its,rv,p,hz⟩:=I.tuple hq;obtain⟨u,hu,ru⟩:=rv.get hx;obtain⟨f0,f1,f2,f3,f4,f5⟩:=hf it (by simp);refine wpAny_pyNext_tuple_item st (show s.heap.IsTuple a _ from p) (by simpa using hu) λh' st' sb=>?_;obtain⟨o,e,c,d⟩:=id st';exact⟨u,rfl,j1 e c d (rfl) ⟨x,H,I.turned (t':=s.toks) (λb o hb e=>(sb.2 b hb).trans e) f0 f1 f3 f4 f5,ru,⟨rfl,λys hy=>by rw[I.tuple_inj hy hq];exact hx⟩,st',λb hb=>(hf b hb).1⟩⟩
 done:=by intro X hP hw hK hc i pq s σ H E I hf st hg;subst hP hw hK;obtain⟨xs,hq,hx⟩:=hg;obtain⟨its,rv,p,hz⟩:=I.tuple hq;obtain⟨f0,f1,f2,f3,f4,f5⟩:=hf it (by simp);have hl:=rv.length;exact wpAny_pyNext_tuple_end (I.ok.hd hc) st (show s.heap.IsTuple a _ from p) (by simp_all) λh' eb=>⟨rfl,I.turned (λb o hb e=>eb b o hb e) f0 f1 f3 f4 f5⟩
 self:=λ_ _ _ _ _ st h=>wpAny_pyIter_tupleiter st h
theorem F8{P:Nt}(it:Nm)(lo:Int)(n:Nat):Turn P w K tg (yD lo n) [it] it (λi h=>IsRangeIter h it (lo+(i:Nat)*1) ((n:Int)-(i:Nat)) 1) where
 mem:=by simp
 obj:=λi h st b hb=>by simp_all
 keep:=λi h h' st k=>k _ (by simp) _ st
 item:=by intro X hP hw hK hc i pq s σ H E I hf st hg;subst hP hw hK;obtain⟨f0,f1,f2,f3,f4,f5⟩:=hf it (by simp);refine(Walks.range (prog:=X.prog) (w:=X.w) (I.ok.hd hc) it lo 1 n).item i s _ _ hg st λv h' tk hv st' kk=>?_;obtain⟨t,rfl⟩:=hv;have I1:Inv X _ _ H {s with heap:=h',toks:=tk}:=I.turned (λb o hb e=>kk b o (by simp_all) e) f0 f1 f3 f4 f5;refine⟨_,rfl,j1 st' rfl rfl (rfl) ⟨.int _,H,I1,⟨t,?_⟩,⟨rfl,rfl⟩,st',λb hb=>(hf b hb).1⟩⟩;simp_all
 done:=by intro X hP hw hK hc i pq s σ H E I hf st hg;obtain⟨f0,f1,f2,f3,f4,f5⟩:=hf it (by simp);exact wpAny_pyNext_range_end (I.ok.hd hc) st (by have:n<=i:=hg;omega) λh' eb=>⟨rfl,I.turned (λb o hb e=>eb b o hb e) f0 f1 f3 f4 f5⟩
 self:=λ_ _ _ _ _ st h=>wpAny_pyIter_rangeiter st h
section
variable {X:Cx}
theorem yE{σ:St}{H:Hp}{R:It->Hp->Prop}{l h:Int}{t u v:Tok}{tk:Nat}(I:Inv X pq σ H s)(h1: -(2^62)<=l)(g:l<2^62)(i: -(2^62)<=h)(j:h<2^62)
  (q:R (yD l (h-l).toNat) H):wpAny (model X.prog X.w) X.A (pyIter (.ref s.heap.objs.size)) (Fo X pq σ tg R) E {s with heap:=s.heap.push {cls:=.type "range",data:=.fields #[.int l t,.int h u,.int 1 v]},toks:=tk}:=by
 refine wpAny_pyIter_range (IsRange.new ..) (small_one h1 g i j) ?_;have c:Inv X _ _ H {s with heap:=s.heap.push {cls:=.type "range",data:=.fields #[.int l t,.int h u,.int 1 v]},toks:=tk}:=I.kept λb o e=>Zb _ e
 refine⟨_,_,_,_,H,rfl,
  c.kept λb o e=>Zb _ e,F8 _ _ _,?_,λb k=>?_,q⟩
 ·have d:l+(0:Nat)*1=l:=by simp
  have f:(h-l).toNat-(0:Nat)=Builtin.Range.rangeSize l h 1:=by rw[rangeSize_one];grind
  rw[d,f];exact Zg _ rfl
 ·have e:b=(s.heap.push {cls:=.type "range",data:=.fields #[.int l t,.int h u,.int 1 v]}).objs.size:=by simp_all
  subst e;exact c.fpOk (Zh _) (c.hok.fresh (Zh _))
def yF(t:TA):TI:=λσ H R=>t σ H λvs H1=>∃j:Int,vs=[.int j]/\ -(2^62)<=j/\j<2^62/\R (yD 0 j.toNat) H1
def yG(t:TA):TI:=λσ H R=>t σ H λvs H1=>∃i j:Int,vs=[.int i,.int j]/\(-(2^62)<=i/\i<2^62/\ -(2^62)<=j/\j<2^62)/\R (yD i (j-i).toNat) H1
theorem F9{a:Expr}{T:TA}{p pos:Pos}(d:Gl X "range")(f:X.mg "range"=none)(c:PA X [a] T)(hs:starEach [a] X.env=[(Nk,eval a X.env)]:=by rfl):PI X tg (.Call (.Name "range" p) [a] [] pos) (yF T):=by
 intro P s l H R I h;refine Call_ (f6 I d f boot_range (N1 (aN (c _ _ s _ H _ I h) λu S z=>?_) hs rfl));obtain⟨_,_,b,i,Q⟩:=z;obtain⟨j,e,Q,g,q⟩:=Q;subst e;cases i with
 |cons r k=>cases k;obtain⟨t,rfl⟩:=r;exact call_range_1 (yE b (by simp) (by simp) Q g (by simp_all))
theorem F_{a b:Expr}{T:TA}{p pos:Pos}(k:Gl X "range")(l:X.mg "range"=none)(g:PA X [a,b] T)(hs:starEach [a,b] X.env=[(Nk,eval a X.env),(Nk,eval b X.env)]:=by rfl)(c:starEach [b] X.env=[(Nk,eval b X.env)]:=by rfl):
  PI X tg (.Call (.Name "range" p) [a,b] [] pos) (yG T):=by
 intro P s x H R I h;refine Call_ (f6 I k l boot_range (N1 (aN (g _ _ s _ H _ I h) λU S z=>?_) (by simp_all) (by rw[c];rfl)));obtain⟨_,_,f,v,Q⟩:=z;obtain⟨i,j,e,⟨Q,m,n,o⟩,q⟩:=Q;subst e;cases v with
 |cons r d=>
  cases d with
  |cons u d=>cases d;obtain⟨t,rfl⟩:=r;obtain⟨w,rfl⟩:=u;exact call_range_2 (yE f Q m n o q)
def Ga(w:TI)(g:TG)(tb:TS):TS:=λD σ H=>w σ H λJ H1=>∃W:Nat->Nat->St->Hp->Prop,(∃m,W 0 m σ H1)/\∀i m σ H,W i m σ H->
 (J.stop i H/\D.nx σ H)\/(J.go i H/\∃N:St->Hp->Prop,(∀σ' H',N σ' H'->∃M,M<m/\W (i+1) M σ' H')/\∀x H',J.yld i H x H'->g x σ H' λa H2=>tb {D with nx:=N,ct:=N,bk:=D.nx} a H2)
noncomputable def mf(f:La)(h:Nw):Lp:=f.filterMap λb=>(h.get? b).map λo=>(b,o)
theorem mi{b:Nm}(H:b∈fp)(e:h.get? b=some o):(b,o)∈mf fp h:=Z3.mpr ⟨b,H,by simp_all⟩
theorem Gb{p:Nm×Obj}(H:p∈mf fp h):p.1∈fp/\h.get? p.1=some p.2:=by
 obtain⟨b,a,e⟩:=Z3.mp H;cases q:h.get? b with
 |none=>simp_all
 |some o=>
  grind
theorem Inv.pinned{σ:St}{H:Hp}(I:Inv X pq σ H s)(a:∀b∈fp,dh X pq H b)(d:∀b∈fp,∃o,s.heap.get? b=some o/\∀v,o.data≠.cell v):Inv X (pq++mf fp s.heap) σ H s:=
 I.pins_of λp c=>(ZR.mp c).elim (λz=>I.pin p (ZD _ z)) λz=>by
  obtain⟨h,e⟩:=Gb z;obtain⟨f0,f,F,_⟩:=a _ h
  grind
theorem Inv.unpinned{pl:Lp}{σ:St}{H:Hp}(I:Inv X (pq++pl) σ H s):Inv X pq σ H s:=I.pins_of λp h=>I.pin p (ZD _ (NI _ h))
theorem sJ{body:List Om}{wi:TI}{g:TG}{tb:TS}{pos:Pos}(y:Qf (model X.prog X.w) X.A X.env X.xe)(Z:X.calm=Nj)(hi:PI X tg iter wi)(hg:PG X tg g)(k:d9 X body tb)
  (hs:∀x,foldedSetIterable iter X.env x=pure x:=by intro _;rfl):PS X (.For tg iter body [] pos) (Ga wi g tb):=by
 intro P s σ H D I h;refine wpAny_For (aN (hi P s σ H _ I h) λv s1 h1=>aN h1 λitv s2 h2=>?_) hs;obtain⟨it,F,tn,J,H2,e,I2,T,O,Y,W,⟨m0,w0⟩,turn⟩:=h2;subst e;have S:∀{q:Hp},(∀b∈F,q b=none)->∀b∈F,dh X P q b:=λhn b k=>⟨hn b k,(Y b k).2⟩;refine codeAny_forLoop_any (λn s'=>∃i l q,Inv X P l q s'/\tn i s'.heap/\(∀b∈F,q b=none)/\W i n l q) ?_ m0 ⟨0,σ,H2,I2,O,λb k=>(Y b k).1,w0⟩;rintro n s3 ⟨i,p,E,V,C,w,w3⟩;rcases turn i n p E w3 with⟨stop,qn⟩| ⟨go,N,hN,step⟩
 ·refine OG y (aN (T.done X rfl rfl rfl Z i P s3 p E X.xe V (S w) C stop) λr s4 z=>z.elim λL I4=>?_);subst L;exact Qs ⟨p,E,I4,qn⟩
 ·refine OG y (aN (T.item X rfl rfl rfl Z i P s3 p E X.xe V (S w) C go) λr s4 z=>?_);obtain⟨u,L,h4⟩:=z;subst L;refine OG y (aN h4 λ_ s5 z=>?_);obtain⟨x,U,I5,r5,y5,t,K⟩:=z;have G:=I5.pinned (S K) (T.obj _ _ t);refine OG y (aN (hg _ s5 p U x u _ G r5 (step x U y5)) λ_ s6 z=>?_);obtain⟨R,H6,I6,q6⟩:=z;refine OG y (aN (k _ s6 R H6 _ I6 q6) λf M Q=>?_)
  have A:∀{a:St} {c:Hp},Inv X (P++mf F s5.heap) a c M->N a c->∃m,m<n/\∃i l q,Inv X P l q M/\tn i M.heap/\(∀b∈F,q b=none)/\W i m l q:=λ{a c} j B=>by obtain⟨m',hm,w7⟩:=hN a c B;refine⟨m',hm,i+1,a,c,j.unpinned,T.keep _ _ _ t λb k o e=>(j.pin (b,o) (ZD _ (ZD _ (mi k e)))).1,λb k=>?_,w7⟩;obtain⟨o,e,d⟩:=T.obj _ _ t b k;exact(j.pin (b,o) (ZD _ (ZD _ (mi k e)))).2.1
  cases f with
  |next=>obtain⟨a,c,j,B⟩:=Q;exact A j B
  |cont=>obtain⟨a,c,j,B⟩:=Q;exact A j B
  |brk=>obtain⟨a,c,j,Q⟩:=Q;exact⟨a,c,j.unpinned,Q⟩
  |ret v=>obtain⟨x7,a,c,j,r7,Q⟩:=Q;exact⟨x7,a,c,j.unpinned,r7,Q⟩
end
abbrev R2:=V->V->Hp->VK->Prop
def b8(X:Cx)(f:Nn->Nn->Sem Nn)(r:R2):Prop:=
 ∀(pq:Lp) (s:Nl) (σ:St) (H:Hp) (x y:V) (v u:Nn) (Q:VK),Inv X pq σ H s->RelV x v->RelV y u->r x y H Q->
  wpAny (model X.prog X.w) X.A (f v u) (EP X pq σ Q) X.xe s
def Gd(X:Cx)(f:Nn->Sem Nn)(r:V->Hp->VK->Prop):Prop:=
 ∀(pq:Lp) (s:Nl) (σ:St) (H:Hp) (x:V) (v:Nn) (Q:VK),Inv X pq σ H s->RelV x v->r x H Q->
  wpAny (model X.prog X.w) X.A (f v) (EP X pq σ Q) X.xe s
def a8(X:Cx)(f:Nn)(r:List V->Hp->VK->Prop):Prop:=
 ∀(pq:Lp) (s:Nl) (σ:St) (H:Hp) (xs:List V) (us:Lv) (Q:VK),Inv X pq σ H s->Vals xs us->r xs H Q->
  wpAny (model X.prog X.w) X.A (call f us) (EP X pq σ Q) X.xe s
def Ge(X:Cx)(r:V->Hp->(Bool->Hp->Prop)->Prop):Prop:=
 ∀(pq:Lp) (s:Nl) (σ:St) (H:Hp) (x:V) (v:Nn) (Q:Bool->Hp->Prop),Inv X pq σ H s->RelV x v->r x H Q->
  wpAny (model X.prog X.w) X.A (truthy v) (TP X pq σ Q) X.xe s
def Fq(r:R2)(t tb:TE):TE:=λσ H Q=>t σ H λx H1=>tb σ H1 λy H2=>r x y H2 Q
def MV(r:V->Hp->VK->Prop)(t:TE):TE:=λσ H Q=>t σ H λx H1=>r x H1 Q
def rI(C:Int->Int->Prop)(g:Int->Int->V):R2:=λx y H Q=>∃i j,x=.int i/\y=.int j/\C i j/\Q (g i j) H
def mj(g:Int->Int->V):R2:=λx y H Q=>∃i j,x=.int i/\y=.int j/\Q (g i j) H
def rU(g:Int->V):V->Hp->VK->Prop:=λx H Q=>∃i,x=.int i/\Q (g i) H
section
variable {X:Cx}{a b c:Expr}{ta tb tc:TE}{pos:Pos}
theorem sK(g:PE X a ta)(i:PE X b tb){σ:St}{H:Hp}{R:V->V->Hp->Prop}(I:Inv X pq σ H s)
  (h:ta σ H λx H1=>tb σ H1 λy H2=>R x y H2)  {f:Nn->Nn->Sem Nn}
  (j:∀v u s2 x y H2,Inv X pq σ H2 s2->RelV x v->RelV y u->R x y H2->wpAny (model X.prog X.w) X.A (f v u) Q X.xe s2):
  wpAny (model X.prog X.w) X.A (eval a X.env) (λv S=>wpAny (model X.prog X.w) X.A (eval b X.env) (λu c=>wpAny (model X.prog X.w) X.A (f v u) Q X.xe c) X.xe S) X.xe s:=by
 exact aN (g _ s _ H _ I h) λv m z=>z.elim λx z=>z.elim λ_ z=>z.elim λd z=>z.elim λr q=>aN (i _ _ _ _ _ d q) λu s2 z=>by obtain⟨y,_,e,l,k⟩:=z;exact(j v u _ x y _ e r l k)
theorem iq{o:Q8}{r:R2}(f:b8 X (binaryOp o) r)(d:PE X a ta)(e:PE X b tb):PE X (.BinOp a o b pos) (Fq r ta tb):=by intro p s j H Q I h;exact wpAny_BinOp (sK d e I h λv u S x y i c R g q=>f _ _ _ _ x y v u Q c R g q)
theorem yH{o:UnaryOp}{r:V->Hp->VK->Prop}(d:Gd X (unaryOp o) r)(c:PE X a ta):PE X (.UnaryOp o a pos) (MV r ta):=by intro p s e H Q I h;exact UnaryOp_ (aN (c _ s _ H _ I h) λv S z=>by obtain⟨x,_,b,R,q⟩:=z;exact(d _ _ _ _ x v Q b R q))
theorem sL{f:Nn->Nn->Sem Nn}{C:Int->Int->Prop}
  (r:∀(i j:Int) (t u:Tok) (s:Nl) (Q:Vs) (E:Vs),C i j->Q (.int (g i j) s.toks) {s with toks:=s.toks+1}->wpAny (model X.prog X.w) X.A (f (.int i t) (.int j u)) Q E s):
  b8 X f (rI C λi j=>.int (g i j)):=by
 intro p s d H x y v u Q I R b h;obtain⟨i,j,rfl,rfl,a,q⟩:=h;obtain⟨t,rfl⟩:=R;obtain⟨c,rfl⟩:=b;exact r i j t _ s _ _ a ⟨.int _,H,I.tok _,⟨_,rfl⟩,q⟩
theorem ml{f:Nn->Nn->Sem Nn}
  (r:∀(i j:Int) (t u:Tok) (s:Nl) (Q:Vs) (E:Vs),Q (.int (g i j) s.toks) {s with toks:=s.toks+1}->wpAny (model X.prog X.w) X.A (f (.int i t) (.int j u)) Q E s):
  b8 X f (mj λi j=>.int (g i j)):=by
 intro p s c H x y v u Q I R a h;obtain⟨i,j,rfl,rfl,q⟩:=h;obtain⟨t,rfl⟩:=R;obtain⟨b,rfl⟩:=a;exact r i j t _ s _ _ ⟨.int _,H,I.tok _,⟨_,rfl⟩,q⟩
theorem sM{f:Nn->Nn->Sem Nn}{g:Int->Int->Bool}
  (r:∀(i j:Int) (t u:Tok) (s:Nl) (Q:Vs) (E:Vs),Q (.bool (g i j)) s->wpAny (model X.prog X.w) X.A (f (.int i t) (.int j u)) Q E s):
  b8 X f (mj λi j=>.bl (g i j)):=by
 intro p s b H x y v u Q I R a h;obtain⟨i,j,rfl,rfl,q⟩:=h;obtain⟨t,rfl⟩:=R;obtain⟨T,rfl⟩:=a;exact r i j t _ s _ _ ⟨.bl _,H,I,rfl,q⟩
def Gf(i j:Int):Prop:=0<j/\j<1073741824
def Gg(i j:Int):Prop:=0<=j/\j<=1000000/\i.natAbs<2^64
noncomputable def sN(i j:Int):Prop:=(-(2^64)<i/\i<2^64)\/(-(2^64)<j/\j<2^64)
theorem sN.ok{i j:Int}(h:sN i j):IntMulOk i j:=by
 rcases h with⟨H,a⟩| ⟨H,a⟩
 ·exact .of_left (intBits_le_64 H a)
 ·exact .of_right (intBits_le_64 H a)
theorem sO:b8 X (binaryOp .Add) (mj λi j=>.int (i+j)):=ml λ_ _ _ _ _ _ _ q=>add_int q
theorem sP:b8 X (binaryOp .Sub) (mj λi j=>.int (i-j)):=ml λ_ _ _ _ _ _ _ q=>sub_int q
theorem sQ:b8 X (binaryOp .Mult) (rI sN λi j=>.int (i*j)):=sL λ_ _ _ _ _ _ _ h q=>mul_int q h.ok
theorem mm:b8 X (binaryOp .FloorDiv) (rI Gf λi j=>.int (i/j)):=sL λi j _ _ _ _ _ h q=>by have H:=h.1;have a:=h.2;exact floordiv_int (by omega) (by grind) (.inl (PyProof.noPylong_small (by omega)))
theorem sR:b8 X (binaryOp .Mod) (rI (λ_ j=>0<j) λi j=>.int (i%j)):=sL λi j _ _ _ _ _ h q=>by exact mod_int' (by lia) (by grind)
theorem sS:b8 X (binaryOp .Pow) (rI Gg λi j=>.int (i^j.toNat)):=sL λ_ _ _ _ _ _ _ h q=>pow_int_small h.1 h.2.1 h.2.2 q
theorem sT:b8 X (binaryOp .RShift) (rI (λ_ j=>0<=j) λi j=>.int (i/2^j.toNat)):=sL λi j _ _ _ _ _ h q=>
 rshift_int h (by grind)
theorem sU:b8 X (binaryOp .BitAnd) (mj λi j=>.int (SI i j)):=ml λ_ _ _ _ _ _ _ q=>and_int q
theorem yI:b8 X (binaryOp .BitOr) (mj λi j=>.int (S8 i j)):=ml λ_ _ _ _ _ _ _ q=>or_int q
theorem MW{f:Nn->Sem Nn}{g:Int->Int}
  (r:∀(i:Int) (t:Tok) (s:Nl) (Q:Vs) (E:Vs),Q (.int (g i) s.toks) {s with toks:=s.toks+1}->wpAny (model X.prog X.w) X.A (f (.int i t)) Q E s):
  Gd X f (rU λi=>.int (g i)):=by
 intro p s a H x v Q I R h;obtain⟨i,rfl,q⟩:=h;obtain⟨t,rfl⟩:=R;exact r i t s _ _ ⟨.int _,H,I.tok _,⟨_,rfl⟩,q⟩
theorem sV:Gd X (unaryOp .USub) (rU λi=>.int (-i)):=MW λ_ _ _ _ _ q=>neg_int q
end
noncomputable def yJ:V->V->Bool
 | .non,.non=>Nj| .non,.int _=>Nj| .int _,.non=>Nj| .non,.bl _=>Nj| .bl _,.non=>Nj| .non,.str _=>Nj| .str _,.non=>Nj
 | .int _,.int _=>Nj| .bl _,.bl _=>Nj| .str _,.str _=>Nj| .byt _,.byt _=>Nj
 | .int _,.str _=>Nj| .str _,.int _=>Nj| .bl _,.str _=>Nj| .str _,.bl _=>Nj
 |_,_=>Nk
def MX:R2:=λx y H Q=>yJ x y=Nj/\Q (.bl (decide (x=y))) H
def MY:R2:=λx y H Q=>yJ x y=Nj/\Q (.bl (!decide (x=y))) H
theorem yK{i j:Int}:decide (V.int i=V.int j)=(i==j):=by rw[Oe];simp
theorem j2{i j:Bool}:decide (V.bl i=V.bl j)=(i==j):=by rw[Oe];simp
theorem yL{i j:Str}:decide (V.str i=V.str j)=(i==j):=by rw[Oe];simp
theorem yM{i j:Array UInt8}:decide (V.byt i=V.byt j)=(i.toList==j.toList):=by rw[Oe];cases i;cases j;simp
section
variable {X:Cx}{a b c:Expr}{ta tb tc:TE}{pos:Pos}
theorem bd{σ:St}{H:Hp}{Q:VK}{k K:Bool}(I:Inv X pq σ H s)(q:Q (.bl k) H)(e:k=K):EP X pq σ Q (.bool K) s:=by subst e;exact⟨.bl k,H,I,rfl,q⟩
theorem qZ:b8 X (compareOp .Eq) MX:=by
 intro p s b H x y v u Q I R r h;obtain⟨a,q⟩:=h;cases x with
 |non=>
  cases R;cases y with
  |non=>cases r;exact PySem.EqNone.eq_none_none (bd I q (by simp))
  |bl j=>cases r;exact PySem.EqNone.eq_none_bool (bd I q (by simp))
  |int j=>obtain⟨T,rfl⟩:=r;exact PySem.EqNone.eq_none_int (bd I q (by simp))
  |str j=>obtain⟨T,rfl⟩:=r;exact PySem.EqNone.eq_none_str (bd I q (by simp))
  |_=>exact absurd (show Nk=Nj from a) ZQ
 |bl i=>
  cases R;cases y with
  |non=>cases r;exact PySem.EqNone.eq_bool_none (bd I q (by simp))
  |bl j=>cases r;exact eq_bool (bd I q j2)
  |str j=>obtain⟨T,rfl⟩:=r;exact PySem.EqMixed.eq_bool_str (bd I q (by simp))
  |_=>exact absurd (show Nk=Nj from a) ZQ
 |int i=>
  obtain⟨t,rfl⟩:=R;cases y with
  |non=>cases r;exact PySem.EqNone.eq_int_none (bd I q (by simp))
  |int j=>obtain⟨T,rfl⟩:=r;exact eq_int (bd I q yK)
  |str j=>obtain⟨T,rfl⟩:=r;exact PySem.EqMixed.eq_int_str (bd I q (by simp))
  |_=>exact absurd (show Nk=Nj from a) ZQ
 |str i=>
  obtain⟨t,rfl⟩:=R;cases y with
  |non=>cases r;exact PySem.EqNone.eq_str_none (bd I q (by simp))
  |bl j=>cases r;exact PySem.EqMixed.eq_str_bool (bd I q (by simp))
  |int j=>obtain⟨T,rfl⟩:=r;exact PySem.EqMixed.eq_str_int (bd I q (by simp))
  |str j=>obtain⟨T,rfl⟩:=r;exact eq_str (bd I q yL)
  |_=>exact absurd (show Nk=Nj from a) ZQ
 |byt i=>
  obtain⟨t,rfl⟩:=R;cases y with
  |byt j=>obtain⟨T,rfl⟩:=r;exact PySem.W.eq_bytes (bd I q yM)
  |_=>exact absurd (show Nk=Nj from a) ZQ
 |_=>cases y<;>exact absurd (show Nk=Nj from a) ZQ
theorem yN:b8 X (compareOp .NotEq) MY:=by
 intro p s b H x y v u Q I R r h;obtain⟨a,q⟩:=h;cases x with
 |non=>
  cases R;cases y with
  |non=>cases r;exact PySem.EqNone.ne_none_none (bd I q (by simp))
  |bl j=>cases r;exact PySem.EqNone.ne_none_bool (bd I q (by simp))
  |int j=>obtain⟨T,rfl⟩:=r;exact PySem.EqNone.ne_none_int (bd I q (by simp))
  |str j=>obtain⟨T,rfl⟩:=r;exact PySem.EqNone.ne_none_str (bd I q (by simp))
  |_=>exact absurd (show Nk=Nj from a) ZQ
 |bl i=>
  cases R;cases y with
  |non=>cases r;exact PySem.EqNone.ne_bool_none (bd I q (by simp))
  |bl j=>cases r;exact ne_bool (bd I q (Z2 not j2))
  |str j=>obtain⟨T,rfl⟩:=r;exact PySem.EqMixed.ne_bool_str (bd I q (by simp))
  |_=>exact absurd (show Nk=Nj from a) ZQ
 |int i=>
  obtain⟨t,rfl⟩:=R;cases y with
  |non=>cases r;exact PySem.EqNone.ne_int_none (bd I q (by simp))
  |int j=>obtain⟨T,rfl⟩:=r;exact ne_int (bd I q (Z2 not yK))
  |str j=>obtain⟨T,rfl⟩:=r;exact PySem.EqMixed.ne_int_str (bd I q (by simp))
  |_=>exact absurd (show Nk=Nj from a) ZQ
 |str i=>
  obtain⟨t,rfl⟩:=R;cases y with
  |non=>cases r;exact PySem.EqNone.ne_str_none (bd I q (by simp))
  |bl j=>cases r;exact PySem.EqMixed.ne_str_bool (bd I q (by simp))
  |int j=>obtain⟨T,rfl⟩:=r;exact PySem.EqMixed.ne_str_int (bd I q (by simp))
  |str j=>obtain⟨T,rfl⟩:=r;exact ne_str (bd I q (Z2 not yL))
  |_=>exact absurd (show Nk=Nj from a) ZQ
 |byt i=>
  obtain⟨t,rfl⟩:=R;cases y with
  |byt j=>obtain⟨T,rfl⟩:=r;exact PySem.W.ne_bytes (bd I q (Z2 not yM))
  |_=>exact absurd (show Nk=Nj from a) ZQ
 |_=>cases y<;>exact absurd (show Nk=Nj from a) ZQ
theorem yO:b8 X (compareOp .LtE) (mj λi j=>.bl (decide (i<=j))):=sM λ_ _ _ _ _ _ _ q=>le_int q
theorem yP:b8 X (compareOp .Gt) (mj λi j=>.bl (decide (j<i))):=sM λ_ _ _ _ _ _ _ q=>gt_int q
theorem yQ:b8 X (compareOp .GtE) (mj λi j=>.bl (decide (j<=i))):=sM λ_ _ _ _ _ _ _ q=>ge_int q
theorem Gh:b8 X (compareOp .In) (λx y H Q=>∃i j,x=.str i/\y=.str j/\Q (.bl (!(Pz j i 0 j.length 1).isEmpty)) H):=by intro p s a H x y v u Q I r R h;obtain⟨i,j,rfl,rfl,q⟩:=h;obtain⟨t,rfl⟩:=r;obtain⟨T,rfl⟩:=R;exact in_str (bd I q rfl)
theorem sW:b8 X (compareOp .Is) (λx y H Q=>y=.non/\Q (.bl (decide (x=.non))) H):=by
 intro p s a H x y v u Q I r R h;obtain⟨rfl,q⟩:=h;subst R;refine is_none_gen (bd I q ?_)
 cases x<;>first
  |lia
  | (obtain⟨t,rfl⟩:=r;rfl)
theorem mq:b8 X (compareOp .IsNot) (λx y H Q=>y=.non/\Q (.bl (!decide (x=.non))) H):=by
 intro p s a H x y v u Q I r R h;obtain⟨rfl,q⟩:=h;subst R;refine isnot_none_gen (bd I q ?_)
 cases x<;>first
  |lia
  | (obtain⟨t,rfl⟩:=r;rfl)
theorem Gi:b8 X (compareOp .NotIn) (λx y H Q=>∃i j,x=.str i/\y=.str j/\Q (.bl (!(!(Pz j i 0 j.length 1).isEmpty))) H):=by intro p s a H x y v u Q I r R h;obtain⟨i,j,rfl,rfl,q⟩:=h;obtain⟨t,rfl⟩:=r;obtain⟨T,rfl⟩:=R;exact notIn_str (bd I q rfl)
theorem mr{o:PR}{r:R2}(g:b8 X (compareOp o) r)(d:PE X a ta)(e:PE X b tb)(f:behindInMarks o b=Nk):PE X (.Compare a [o] [b] pos) (Fq r ta tb):=by intro p s k H Q I h;exact wpAny_Compare1 (sK d e I h λv u S x y j c R i q=>g _ _ _ _ x y v u Q c R i q) f
def q8(t:TE):TT:=λσ H Q=>t σ H λx H'=>∃k,x=.bl k/\Q k H'
theorem ms{o:PR}{r:R2}(m:b8 X (compareOp o) r)(i:PE X a ta)(j:PE X b tb)(l:behindInMarks o b=Nk):PT X (.Compare a [o] [b] pos) (q8 (Fq r ta tb)):=by
 intro P s C H Q I h
 refine wpAny_isTrue_Compare1 (aN (i _ s _ H _ I h) λv S Z=>Z.elim λx Z=>Z.elim λ_ Z=>Z.elim λd Z=>Z.elim λR q=>aN (j _ _ _ _ _ d q) λu A Z=>
  Z.elim λy Z=>Z.elim λ_ Z=>Z.elim λf Z=>Z.elim λt n=>aN (m _ _ _ _ x y v u _ f R t n) λc B Z=>?_) l
 obtain⟨z,_,g,w,k,e,p⟩:=Z;subst e;subst w;exact ZO ⟨_,g,p⟩
def j3(r R:R2)(t tb T:TE):TE:=λσ H Q=>t σ H λx H1=>tb σ H1 λy H2=>r x y H2 λz a=>∃k,z=.bl k/\
 (if k=Nj then T σ a λw b=>R y w b Q else Q (.bl Nk) a)
theorem Gj{o:PR}{r R:R2}(A:b8 X (compareOp o) r)(f:b8 X (compareOp op') R)(n:PE X a ta)(p:PE X b tb)(t:PE X c tc)
  (w:lastMarks [o,op'] [b,c]=Nk:=by with_unfolding_all rfl):PE X (.Compare a [o,op'] [b,c] pos) (j3 r R ta tb tc):=by
 intro P s M H Q I h
 refine Compare_chain (aN (n _ s _ H _ I h) λv S Z=>Z.elim λx Z=>Z.elim λ_ Z=>Z.elim λj Z=>Z.elim λE B=>chain_link (aN (p _ _ _ _ _ j B) λu J Z=>
  Z.elim λy Z=>Z.elim λ_ Z=>Z.elim λl Z=>Z.elim λi C=>aN (A _ _ _ _ x y v u _ l E i C) λd K Z=>?_)) w
 obtain⟨z,_,g,F,k,e,q⟩:=Z;subst e;subst F;refine ZO ?_;cases k with
 |false=>exact ite_ff ⟨.bl _,_,g,rfl,q⟩
 |true=>exact ite_tt (chain_last (aN (t _ _ _ _ _ g q) λW L Z=>by obtain⟨_,_,m,G,D⟩:=Z;exact(f _ _ _ _ y _ u _ Q m i G D)))
theorem Gk{o:PR}{r R:R2}(C:b8 X (compareOp o) r)(f:b8 X (compareOp op') R)(t:PE X a ta)(w:PE X b tb)(A:PE X c tc)
  (B:lastMarks [o,op'] [b,c]=Nk:=by with_unfolding_all rfl):PT X (.Compare a [o,op'] [b,c] pos) (q8 (j3 r R ta tb tc)):=by
 intro T s σ H Q I h
 refine isTrue_chain (aN (t _ s _ H _ I h) λv U Z=>Z.elim λx Z=>Z.elim λ_ Z=>Z.elim λj Z=>Z.elim λL F=>test_link (aN (w _ _ _ _ _ j F) λu V Z=>
  Z.elim λy Z=>Z.elim λ_ Z=>Z.elim λl Z=>Z.elim λi G=>aN (C _ _ _ _ x y v u _ l L i G) λd W Z=>?_)) B
 obtain⟨z,_,g,M,k,e,q⟩:=Z;subst e;subst M;refine ZO ?_;cases k with
 |false=>obtain⟨S,E,D⟩:=q;cases E;exact ite_ff ⟨_,g,D⟩
 |true=>refine ite_tt (test_last (aN (A _ _ _ _ _ g q) λw' Y Z=>Z.elim λ_ Z=>Z.elim λ_ Z=>Z.elim λm Z=>Z.elim λN J=>aN (f _ _ _ _ y _ u _ _ m i N J) λP s5 Z=>?_));obtain⟨_,_,n,O,_,p,K⟩:=Z;subst p;subst O;exact ZO ⟨_,n,K⟩
def iL(K:Fg)(x:V)(H:Hp)(k:Bool):Prop:=
 match x with
 | .non=>k=Nk
 | .bl b=>k=b
 | .int i=>k=(i !=0)
 | .str y=>y.length<=sizeLine/\k=((y.length:Int) !=0)
 | .byt y=>y.size<=sizeLine/\k=((y.size:Int) !=0)
 | .ref p=>(∃xs,c6 K H p xs/\k= !xs.isEmpty)\/(∃xs,bZ K H p xs/\k= !xs.isEmpty)\/∃a,H p=some (.dK a)/\k= !a.isEmpty
 |_=>False
theorem Gm{a:Type}{k:List (a×V)}{vs:List (a×Nn)}(r:KV k vs):(!vs.isEmpty)= !k.isEmpty:=by cases r<;>rfl
theorem yR{xs:List V}(r:Vals xs its):(!its.toArray.isEmpty)= !xs.isEmpty:=by cases r<;>simp
theorem iM:(sizeLine:Nat)<2^63:=by decide
theorem j4:Ge X (λx H Q=>∃k,iL X.K x H k/\Q k H):=by
 intro u s w H x v Q I R h;obtain⟨k,e,q⟩:=h;have n:=iM;have o:sizeLine=16777216:=N5;cases x with
 |non=>cases R;subst(e);exact truthy_none ⟨H,I,q⟩
 |bl b=>cases R;have E:k=b:=e;subst E;exact ZO ⟨H,I,q⟩
 |int i=>obtain⟨t,rfl⟩:=R;subst(e);exact PySem.P.truthy_int ⟨H,I,q⟩
 |str y=>obtain⟨t,rfl⟩:=R;obtain⟨l,E⟩:y.length<=sizeLine/\k=((y.length:Int) !=0):=e;subst E;exact PySem.P.truthy_str (by omega) ⟨H,I.tok _,q⟩
 |byt y=>obtain⟨t,rfl⟩:=R;obtain⟨l,E⟩:y.size<=sizeLine/\k=((y.size:Int) !=0):=e;subst E;exact PySem.W.truthy_bytes (by omega) ⟨H,I.tok _,q⟩
 |ref p=>
  cases R;have E:(∃c,c6 X.K H p c/\k= !c.isEmpty)\/(∃c,bZ X.K H p c/\k= !c.isEmpty)\/∃K,H p=some (.dK K)/\k= !K.isEmpty:=e;rcases E with⟨c,d,E⟩| ⟨c,d,E⟩| ⟨K,d,E⟩
  ·subst E;obtain⟨f,r,P,g⟩:=I.list d;have a:=r.length;exact wpAny_truthy_list P.isList (by grind) ⟨H,I.tok _,by rw[yR r];exact q⟩
  ·subst E;obtain⟨f,r,P,g⟩:=I.tuple d;have a:=r.length;exact truthy_tuple P (by grind) ⟨H,I.tok _,by rw[yR r];exact q⟩
  ·subst E;obtain⟨g,j,vs,r,m⟩:K.length<=sizeLine/\(p==sysModules)=Nk/\∃vs,KV K vs/\s.heap.DictOf (sj X.prog X.w) p vs:=I.hok p _ d;have a:K.length=vs.length:=Paired.length r;exact wpAny_truthy_dict j m (by omega) ⟨H,I.tok _,by rw[Gm r];exact q⟩
 |_=>exact(show False from e).elim
theorem Gn(c:PE X a ta)(d:∀w,isTrue a X.env w=(do let v <-w;standAt a.pos;holding [v] (truthy v))):
  PT X a (λσ H Q=>ta σ H λx H'=>∃k,iL X.K x H' k/\Q k H'):=by
 intro p s σ H Q I h;exact isTrue_plain (aN (c _ s _ H _ I h) λv S z=>by obtain⟨x,_,b,r,q⟩:=z;exact(j4 _ _ _ _ x v Q b r q)) (d _)
theorem Gp:b8 X (binaryOp .Add) (λx y H Q=>∃i j,x=.str i/\y=.str j/\i.length+j.length<=sizeLine/\Q (.str (i++j)) H):=by intro p s c H x y v u Q I r R h;obtain⟨i,j,rfl,rfl,a,q⟩:=h;obtain⟨t,rfl⟩:=r;obtain⟨T,rfl⟩:=R;exact add_str (λT b=>⟨.str _,H,I.tok _,⟨_,rfl⟩,q⟩) a
theorem vals1{x:V}(r:Vals [x] us):∃u,us=[u]/\RelV x u:=by
 cases r with
 |cons a R=>cases R;simp_all
theorem vals2{x y:V}(r:Vals [x,y] us):∃u w,us=[u,w]/\RelV x u/\RelV y w:=by
 cases r with
 |cons b R=>
  cases R with
  |cons c a=>cases a;lia
theorem Gq(b:X.calm=Nj):a8 X (.builtin "max") (λxs H Q=>∃i j,xs=[.int i,.int j]/\Q (.int (if j>i then j else i)) H):=by
 intro p s e H xs U Q I r h;obtain⟨i,j,rfl,q⟩:=h;obtain⟨u,w,rfl,⟨t,rfl⟩,⟨T,rfl⟩⟩:=vals2 r;refine max_two_ints (I.ok.hd b) λc d k=>⟨_,H,I.kept k,?_,q⟩;by_cases a:j>i
 ·rw[if_pos a,if_pos a];exact⟨_,rfl⟩
 ·rw[if_neg a,if_neg a];exact⟨_,rfl⟩
theorem Gr(b:X.calm=Nj):a8 X (.builtin "min") (λxs H Q=>∃i j,xs=[.int i,.int j]/\Q (.int (if j<i then j else i)) H):=by
 intro p s e H xs U Q I r h;obtain⟨i,j,rfl,q⟩:=h;obtain⟨u,w,rfl,⟨t,rfl⟩,⟨T,rfl⟩⟩:=vals2 r;refine min_two_ints (I.ok.hd b) λc d k=>⟨_,H,I.kept k,?_,q⟩;by_cases a:j<i
 ·rw[if_pos a,if_pos a];exact⟨_,rfl⟩
 ·rw[if_neg a,if_neg a];exact⟨_,rfl⟩
theorem yS:a8 X (.type "int") (λxs H Q=>(∃i,xs=[.int i]/\Q (.int i) H)\/∃k,xs=[.bl k]/\Q (.int (if k then 1 else 0)) H):=by
 intro p s a H xs U Q I r h;rcases h with⟨i,rfl,q⟩| ⟨k,rfl,q⟩
 ·obtain⟨u,rfl,t,rfl⟩:=vals1 r;exact call_int_int ⟨.int i,H,I,⟨_,rfl⟩,q⟩
 ·obtain⟨u,rfl,R⟩:=vals1 r;subst R;exact call_int_bool ⟨.int _,H,I.tok _,⟨_,rfl⟩,q⟩
end
section
variable {x dx:Nm}{v:Nn}
end
theorem lY.some_of{v:V}{o:Ov}(r:lY (some v) o):∃u,o=some u/\RelV v u:=by
 cases o with
 |none=>exact(show False from r).elim
 |some u=>exact⟨u,rfl,r⟩
section
variable {P:Nt}{H H':Hp}{dx:Nm}{fs fs':List (Str×V)}
end
section
variable {X:Cx}{σ:St}{H:Hp}{dx:Nm}{fs:List (Str×V)}{f:Str}{v:V}
theorem mu{f:Str}{pos:Pos}(H:attributeBase e f env (eval e env)=eval e env)
  (h:wpAny (model prog w) A (eval e env) (λo S=>wpAny (model prog w) A (getAttr o f Nj) Q E S) E s):wpAny (model prog w) A (eval (.Attribute e f pos) env) Q E s:=
 Attribute_any_ h (by rw[arm_eval_Attribute,H])
end
section
variable {X:Cx}{o:Expr}{f:Str}{pos tpos:Pos}{ta tv:TE}
end
section
variable {X:Cx}{σ:St}{H:Hp}{c:Nn}{b:Bool}
end
structure b4 (k:Nat)(A:NV):Prop where
 hd:A.handled=none
 dp:A.depth+3*k+5<recursionLimit
 un:A.units+16*k+200<cLine
 gd:A.guards=some []
theorem b4.mono{j k:Nat}(r:b4 k A)(h:j<=k):b4 j A:=⟨r.hd,by have:=r.dp;lia,by have:=r.un;lia,r.gd⟩
theorem b4.deeper{k:Nat}(r:b4 (k+1) A)(env:Env):b4 k (A.deeper env):=
 ⟨r.hd,by have:=r.dp;show A.depth+1+3*k+5<_;lia,by have:=r.un;show A.units+3+16*k+200<_;lia,r.gd⟩
theorem Gs:(A.under (.builtin "type.__call__" ⟨.ref C::us,kw⟩)).depth=A.depth+1:=by
 first|rfl|simp[QB,Code.weight,Code.isCreation,Code.isGuard,Code.isCaller,Code.frames,RJ,guardIds]
theorem Gu:(A.under (.builtin "type.__call__" ⟨.ref C::us,kw⟩)).units=A.units+1:=by
 first|rfl|simp[QB,Code.cUnits,Code.frames,RJ]
theorem b4.make{k:Nat}(r:b4 (k+1) A)(C:Nm)(u:Lv)(K:List (Str×Nn)):b4 k (A.under (.builtin "type.__call__" ⟨.ref C::u,K⟩)):=
 ⟨r.hd,by have:=r.dp;rw[Gs];omega,by have:=r.un;rw[Gu];omega,by have:=r.gd;simp[QB,Code.guards,Code.isGuard,pushGuards,guardIds,this]⟩
theorem b4.depth{k:Nat}(r:b4 k A):A.depth<recursionLimit:=by have:=r.dp;lia
theorem b4.units{k:Nat}(r:b4 k A):A.units+64<cLine:=by have:=r.un;lia
def sX:TA:=λ_ H Q=>Q [] H
def eC(t:TE)(T:TA):TA:=λσ H Q=>t σ H λx H1=>T σ H1 λxs H2=>Q (x::xs) H2
section
variable {X:Cx}{es:Lx}{te:TE}{t:TA}{pos:Pos}
theorem eW:PA X [] sX:=λ_ _ _ _ H Q I h=>PV ⟨_,H,I,.nil,h⟩
theorem cQ(c:PE X e te)(d:PA X es t)(hs:starEach (e::es) X.env=(Nk,eval e X.env)::starEach es X.env:=by rfl):PA X (e::es) (eC te t):=by intro pos p s i H Q I h;rw[hs];show wpAny _ _ (spliced ((Nk,eval e _)::backTo _ _)) _ _ s;exact N9 (aN (c _ s _ H _ I h) λu S z=>z.elim λx z=>z.elim λ_ z=>z.elim λa z=>z.elim λr q=>aN (d _ _ _ _ _ _ a q) λU g z=>by obtain⟨_,_,b,R,f⟩:=z;exact(⟨_,_,b,.cons r R,f⟩))
def Gv(t:TA):TE:=λσ H Q=>t σ H λxs H1=>xs.length<=sizeLine/\∀p,H1 p=none->Q (.ref p) (aO H1 p (.tup xs))
def Gw(t:TA):TE:=λσ H Q=>t σ H λxs H1=>xs.length<=sizeLine/\∀p,H1 p=none->Q (.ref p) (aO H1 p (.lst xs))
theorem sY{x1}(h:PA X es t):PE X (.Tuple es x1 pos) (Gv t):=by intro p s f H Q I d;refine wpAny_Tuple_spliced (aN (h _ _ s _ H _ I d) λU S Z=>Z.elim λ_ Z=>Z.elim λ_ Z=>Z.elim λa Z=>Z.elim λr Z=>Z.elim λz q=>⟨by rw[<-r.length];exact z,?_⟩);have c:=a.hok.fresh (Zh _);refine⟨.ref _,_,a.laid (λb u e=>Zb _ e) (Zh _) ?_,rfl,q _ c⟩;exact⟨z,_,r,⟨_,Zg _ rfl,rfl,_,rfl⟩,_,Zg _ rfl,rfl⟩
theorem f7(h:PA X es t):PE X (.List es pos) (Gw t):=by intro p s f H Q I d;refine wpAny_List_spliced (aN (h _ _ s _ H _ I d) λU S Z=>Z.elim λ_ Z=>Z.elim λ_ Z=>Z.elim λa Z=>Z.elim λr Z=>Z.elim λz q=>⟨by rw[<-r.length];exact z,?_⟩);have c:=a.hok.fresh (Zh _);refine⟨.ref _,_,a.laid (λb u e=>Zb _ e) (Zh _) ?_,rfl,q _ c⟩;exact⟨z,_,0,r,Zg _ rfl⟩
end
abbrev Sp:=List V->Hp->VK->XK->Prop
abbrev dj:=List Env->Hp->Nl->XK->Vs
structure g8 (P:Nt)(w:NF)(K:Fg)(mg:Mg)(base:Nw)(A:NV)(outer:List Env)(s:Nl)(H:Hp):Prop where
 frames:A.frames=some outer
 mod:Mod K mg base
 bs:∀b o,base.get? b=some o->s.heap.get? b=some o/\H b=none
 bsz:base.objs.size<=s.heap.objs.size
 funs:s.heap.FunFrames base outer
 frf:∀b∈bE outer,H b=none
 hok:dV P w H s.heap
 bare:P8 s.gens
def CE(o:List Env)(P:Nt)(w:NF)(H:Hp)(s:Nl)(Q:VK)(u:Nn)(S:Nl):Prop:=
 ∃v H',S.os=s.os/\P8 S.gens/\Un (bE o) [] H H' s.heap S.heap/\dV P w H' S.heap/\RelV v u/\Q v H'
def CR(CX:dj)(o:List Env)(P:Nt)(w:NF)(H:Hp)(s:Nl)(Q:VK)(E:XK)(r:Qp)(S:Nl):Prop:=
 match r with
 | .ok (.ret u)=>CE o P w H s Q u S
 | .ok _=>False
 | .error e=>CX o H s E e S
structure cH (P:Nt)(w:NF)(K:Fg)(mg:Mg)(base:Nw)(CX:dj)(k:Nat)(f:Nm)(fd:N_)(ps:Ls)(sp:Sp):Prop where
 len:∀vs H Q E,sp vs H Q E->vs.length=ps.length
 run:∀(A:NV) (outer:List Env) (s:Nl) (H:Hp) (args:Args) (us:Lv) (vs:List V) (Q:VK) (E:XK),b4 k A->g8 P w K mg base A outer s H->RK s fd args (ps.zip us)->Vals vs us->sp vs H Q E->
  codeAny (model P w) A (.call (.ref f) args) (CR CX outer P w H s Q E) s
theorem cH.mono{P:Nt}{CX:dj}{j k:Nat}{b:N_}{sp:Sp}(F:cH P w K mg base CX j f b ps sp)(h:j<=k):
  cH P w K mg base CX k f b ps sp:=⟨F.len,λA o s H a u vs Q E c=>F.run A _ s H _ _ _ Q E (c.mono h)⟩
theorem cH.imp{P:Nt}{CX:dj}{k:Nat}{b:N_}{sp S:Sp}(F:cH P w K mg base CX k f b ps sp)
  (h:∀vs H Q E,S vs H Q E->sp vs H Q E):cH P w K mg base CX k f b ps S:=
 ⟨λvs H Q E q=>F.len _ H Q E (h _ _ _ _ q),λA o s H a u vs Q E e d c i g=>F.run A _ s H _ _ _ Q E e d c i (h _ _ _ _ g)⟩
theorem g8.make{P:Nt}{H:Hp}(e:g8 P w K mg base A outer s H)(C:Nm)(u:Lv)(k:List (Str×Nn)):
  g8 P w K mg base (A.under (.builtin "type.__call__" ⟨.ref C::u,k⟩)) outer s H:=⟨by first|exact e.frames| (simpa[QB,Code.envs,RJ,pushEnvs]using e.frames),e.mod,e.bs,e.bsz,e.funs,e.frf,e.hok,e.bare⟩
section
variable {X:Cx}{σ:St}{H:Hp}
theorem Inv.env0(I:Inv X pq σ H s):g8 X.prog X.w X.K X.mg X.base X.A X.stack s H:=
 ⟨I.ok.frames,I.ok.mod,I.bs,ZA I.ok.bsz I.sz,I.stack,I.stkFree,I.hok,I.bare⟩
theorem Inv.after{Q:VK}(I:Inv X pq σ H s)(h:CE X.stack X.prog X.w H s Q u s'):EP X pq σ Q u s':=by obtain⟨v,c,O,B,un,a,r,q⟩:=h;obtain⟨e,g,d,t,o⟩:=s';obtain rfl:o=s.os:=O;exact⟨v,_,I.call un a B λb z=>absurd z (by nofun),r,q⟩
end
def yT(sp:Sp)(d:List V)(E:XK)(t:TA):TE:=λσ H Q=>t σ H λvs H1=>sp (vs++d) H1 Q E
def Binds(K:Fg)(f:N_)(ps:Ls)(ds:Lv):Prop:=
 ∀(s:Nl) (us:Lv),K.In s.heap->(us++ds).length=ps.length->RK s f ⟨us,[]⟩ (ps.zip (us++ds))
theorem Binds.all{f:N_}(h:∀us:Lv,us.length=ps.length->bindArgs f ⟨us,[]⟩=pure (ps.zip us)):Binds K f ps []:=λs us _ H=>by rw[N4]at H⊢;exact .of_eq (h _ H)
def j5(CX:dj)(X:Cx)(E:XK):Prop:=∀(pq:Lp) (σ:St) (H:Hp) (s:Nl) (e:Nn) (s':Nl),Inv X pq σ H s->CX X.stack H s E e s'->X.xe e s'
section
variable {X:Cx}{CX:dj}{k:Nat}{fd:N_}{sp:Sp}{dvs:List V}{ds:Lv}{E:XK}{x m:Str}{p pos:Pos}{o:Expr}{es:Lx}{ta:TE}{t:TA}
theorem sZ{σ:St}{H:Hp}{Q:VK}{vs:List V}(F:cH X.prog X.w X.K X.mg X.base CX k f fd ps sp)(g:b4 k X.A)(c:Binds X.K fd ps ds)(d:Vals dvs ds)(i:j5 CX X E)
  (I:Inv X pq σ H s) (r:Vals vs us) (h:sp (vs++dvs) H Q E):wpAny (model X.prog X.w) X.A (call (.ref f) us) (EP X pq σ Q) X.xe s:=by
 have R:=r.append d;refine Pt (OT (F.run _ _ s H _ _ _ Q E g I.env0 (c s _ I.kIn (by rw[<-R.length];exact F.len _ _ _ _ h)) R h) λr S a=>?_);cases r with
 |error e=>exact i _ _ H s e _ I a
 |ok b=>
  cases b with
  |ret u=>exact I.after a
  |next=>exact False.elim a
  |brk=>exact False.elim a
  |cont=>exact False.elim a
theorem mw(F:cH X.prog X.w X.K X.mg X.base CX k f fd ps sp)(o:b4 k X.A)(l:Gl X x)(n:X.mg x=some (.ref f))(m:PySem.W.keepIn X.K (.ref f)=Nj)(g:Binds X.K fd ps ds)(i:Vals dvs ds)(u:j5 CX X E)
  (d:PA X (e::es) t) (a:(x==("__debug__":Str))=Nk:=by decide) (j:starEach (e::es) X.env=(Nk,eval e X.env)::starEach es X.env:=by rfl) (b:(backTo pos (starEach es X.env)).any (·.1)=Nk:=by rfl):
  PE X (.Call (.Name x p) (e::es) [] pos) (yT sp dvs E t):=by
 intro P s v H Q I h;exact Of (iK I l n (PySem.W.callWith_K I.ok.mod.kin m (aN (d _ _ s _ H _ I h) λU S z=>by obtain⟨_,_,c,r,q⟩:=z;exact(⟨c.kIn,sZ F o g i u c r q⟩)) j b) a)
end
section
variable {X:Cx}{CX:dj}{k:Nat}{fd:N_}{ks:Ls}{sp:Sp}{E:XK}{x m:Str}{p pos kpos:Pos}{o:Expr}{es:Lx}{lW:List Q9}{te ta:TE}{t tk:TA}{nm:Option Str}
variable {g:Lv->Lv->Lv}{gV:List V->List V->List V}
end
structure bt (N P:Ls)(sc:Scope):Prop where
 kind:sc.kind=.function
 co:sc.isCoroutine=Nk
 gen:sc.isGenerator=Nk
 nd:N.Nodup
 pre:N.take P.length=P
 par:∀x∈P,sc.names.lookup x=some .local\/sc.names.lookup x=some .cell
 nofree:∀y∈sc.names,y.2≠.free
theorem yU{kindOf:Str->Option Oa}{x:Str}:∀{binds:List (Str×Nn)} {m:Mg},(∀v,(x,v)∉binds)->bindL kindOf binds m x=m x
 | [],_,_=>rfl
 | (n,v)::r,m,h=>by
  dsimp only[bindL];rw[yU λw hw=>h w (Zc _ hw)];split
  ·grind
  ·rfl
theorem yV{kindOf:Str->Option Oa}{x:Str}:∀{binds:List (Str×Nn)} {m:Mg},(∀v,(x,v)∉binds)->bindC kindOf binds m x=m x
 | [],_,_=>rfl
 | (n,v)::r,m,h=>by
  unfold bindC;rw[yV λw hw=>h w (Zc _ hw)];split
  ·rfl
  grind
theorem yW{kindOf:Str->Option Oa}{x:Str}{v:Nn}:∀{P:Ls} {vs:Lv} {i:Nat} {m:Mg},P.Nodup->P[i]?=some x->vs[i]?=some v->kindOf x=some .local->
  bindL kindOf (P.zip vs) m x=some v
 | [],_,_,_,_,h,_,_=>by trivial
 |_::_,[],_,_,_,_,h,_=>by trivial
 |p::P,w::vs,0,m,n,H,a,b=>by simp at H a;subst H;subst a;show bindL _ ((p,w)::P.zip _) m p=_;dsimp only[bindL];rw[yU λv c=>(Og.mp n).1 (Pq c).1,if_pos b];simp
 |p::P,w::vs,i+1,m,n,H,a,b=>by unfold bindL;exact yW (Og.mp n).2 (by exact H) (by trivial) b
theorem yX{kindOf:Str->Option Oa}{x:Str}{v:Nn}:∀{P:Ls} {vs:Lv} {i:Nat} {m:Mg},P.Nodup->P[i]?=some x->vs[i]?=some v->kindOf x≠some .local->
  bindC kindOf (P.zip vs) m x=some v
 | [],_,_,_,_,h,_,_=>by simp_all
 |_::_,[],_,_,_,_,h,_=>by simp_all
 |p::P,w::vs,0,m,n,H,a,b=>by simp at H a;subst H;subst a;show bindC _ ((p,w)::P.zip _) m p=_;unfold bindC;rw[yV λv c=>(Og.mp n).1 (Pq c).1,if_neg b];simp
 |p::P,w::vs,i+1,m,n,H,a,b=>by unfold bindC;exact yX (Og.mp n).2 (by simpa using H) (by simp_all) b
noncomputable def start(N:Ls)(vs:List V):St:=vs.map some++Nu (N.length-vs.length) none
noncomputable def eD(CX:dj)(P:Nt)(w:NF)(K:Fg)(mg:Mg)(base:Nw)(N:Ls)(qual:Str)(scope:Scope)(f:Nm)(cd:Nn)(A:NV)(outer:List Env)(s:Nl)(H:Hp)(E:XK):Cx where
 prog:=P
 w:=w
 K:=K
 mg:=mg
 base:=base
 A:=A.deeper (envOfC qual scope s.heap.objs.size f cd)
 N:=N
 s₀:=s
 H₀:=H
 env:=envOfC qual scope s.heap.objs.size f cd
 outer:=outer
 stack:=envOfC qual scope s.heap.objs.size f cd::outer
 ex:=[]
 calm:=Nj
 fn:=λ_=>Nj
 pn:=[]
 xe:=λe s'=>wpAny (model P w) (A.deeper (envOfC qual scope s.heap.objs.size f cd)) (leaving (envOfC qual scope s.heap.objs.size f cd) e) (λ_ s''=>CX outer H s E e s'') (λe' s''=>CX outer H s E e' s'') s'
theorem yY{s:Scope}{x:Str}(h:s.names.lookup x=some .cell):∃c,(cellsFrom n s.names []).lookup x=some c:=by exact NS.mp (PySem.W.cellsFrom_some _ n [] (.inl h))
theorem yZ{CX:dj}{P:Nt}{t:Nl}{H:Hp}{E:XK}{vs:List V}
  (S:bt N ps scope) (C:A.handled=none) (e0:g8 P w K mg base A outer s H) (I:vs.length=ps.length) (r:Vals vs us)
  (x:InCallC s s.heap.objs.size (bindL (envOfC qual scope s.heap.objs.size f cd).kindOf (ps.zip us) λ_=>none) (cellsFrom (s.heap.objs.size+1) scope.names []) (bindC (envOfC qual scope s.heap.objs.size f cd).kindOf (ps.zip us) λ_=>none) t):
  Inv (eD CX P w K mg base N qual scope f cd A outer s H E) [] (start N vs) H t:=by
 have D:ps.length<=N.length:=by have:=Z2 Oh S.pre;rw[OL]at this;omega
 obtain⟨j,T,rfl,m⟩:=x.done;have n:∀b:Nm,b∉(eD CX P w K mg base N qual scope f cd A outer s H E).ex:=λb z=>absurd (show b∈[]from z) (by simp)
 refine⟨⟨e0.mod,S.kind,rfl,rfl,Zh _,λy z c j l=>?_,λy d=>?_,λy c _ h=>?_,λ_=>C,Around.frames_deeper e0.frames,.inr ⟨rfl,rfl⟩,λb z=>absurd z (n b),e0.bs,e0.bsz,λb _ _=>n b,λb z=>absurd z (n b),e0.funs,e0.frf⟩,
  rfl,e0.bare,Un.kept m,⟨_,x.toInCall.ns,λi y v j l F=>?_⟩,λy c h=>⟨_,x.cell y c h⟩,e0.hok.fresh (Zh _),λy c h=>?_,λp a=>absurd (show p∈([])from a) (by simp),e0.hok.kept m,?_⟩
 ·exact name_of_addr x.apart (ZC j) (ZC l)
 ·rcases d with d|d
  ·exact yY d
  ·exact absurd rfl (S.nofree _ (ZC d))
 ·exact O7 (x.above y c (ZC h))
 ·have G:i<vs.length:=by
   unfold start at l
   grind
  have B:vs[i]?=some v:=by
   unfold start at l
   grind
  obtain⟨u,o,R⟩:=r.get B;have a:ps[i]?=some y:=by rw[<-S.pre,P2 (by omega)];exact j
  have g:ps.Nodup:=by rw[<-S.pre];exact S.nd.sublist (QI _ _)
  refine⟨u,R,?_⟩;rcases S.par y (Zq a)with k|k
  ·exact .inl ⟨k,yW g a o k⟩
  ·obtain⟨c,e⟩:=yY k;refine .inr ⟨.inl k,c,e,?_⟩;have q:=x.cell y c e;rw[yX g a o (by show scope.names.lookup y≠_;rw[k];decide)]at q;exact q
 ·exact e0.hok.fresh (O7 (x.above y c (ZC h)))
 ·unfold start;show _=N.length;simp_all
theorem q9{CX:dj}{P:Nt}{k:Nat}{p:Arguments}{body:List Om}{D kV:Nn}{an:Option Nm}
    {sp:Sp} (lk:K.lookup f=some ⟨oc,od,.func (PySem.W.fnOf name qual p body scope D kV doc pm an cdv ct),osl⟩) (j:PySem.W.codeIn K cdv qual=Nj) (S:bt N ps scope)
  (len:∀vs H Q E,sp vs H Q E->vs.length=ps.length)
  (h:∀(A:NV) (outer:List Env) (s:Nl) (H:Hp) (vs:List V) (Q:VK) (E:XK),b4 k (A.deeper (envOfC qual scope s.heap.objs.size f cdv))->sp vs H Q E->
   ∃t,d9 (eD CX P w K mg base N qual scope f cdv A outer s H E) body t/\t {nx:=λ_ H'=>Q .non H',rt:=Q} (start N vs) H):
  cH P w K mg base CX (k+1) f (PySem.W.fnOf name qual p body scope D kV doc pm an cdv ct) ps sp:=by
 refine⟨len,λA outer s H m W vs Q E l g C r i=>?_⟩;have M:=len _ _ _ _ i;have KX:=g.mod.kin.keeps λb o e=>(g.bs b o e).1;have L:=g.mod.nolimit.keeps λb o e=>(g.bs b o e).1
 have c:∀y∈ps.zip W,scope.names.lookup y.1=some _\/(scope.names.lookup y.1=some _/\((cellsFrom (s.heap.objs.size+1) _ []).lookup y.1).isSome=Nj):=λZ U=>by obtain⟨n,v⟩:=Z;exact(by
  rcases S.par n (Pq U).1 with q|q
  ·exact .inl q
  ·exact .inr ⟨q,PySem.W.cellsFrom_some _ _ _ (.inl q)⟩)
 refine S9 l.depth (KX _ _ lk) rfl S.co S.gen rfl (PySem.W.codeRec_of KX j) (C _ _ _ _ ?_);refine RW S.kind c λB G s1 x=>?_;subst G;refine⟨L.keeps x.toInCall.keep,codeAny_func ?_⟩;obtain⟨t,T,O⟩:=h A _ s H _ Q E (l.deeper _) i;have I:Inv (eD CX P w K _ _ N _ _ f _ A _ s H E) _ _ H _:=yZ S l.hd g M r x;refine ZH (T _ _ _ H _ I O) (λF z d=>?_) λe z d=>d
 have fin:∀{a:St} {H':Hp} {v:V} {u:Nn},Inv (eD CX P w K mg base N qual scope f cdv A _ s H E) [] a _ _->RelV v u->Q v H'->CE outer P w H s Q u z:=
  λ{a H' v u} J R q=>⟨v,_,J.os,J.bare,J.base,J.hok,R,q⟩
 cases F with
 |ret u=>obtain⟨v,a,H',J,R,q⟩:=d;exact fin J R q
 |next=>obtain⟨a,H',J,q⟩:=d;exact fin (v:=V.non) J rfl q
 |brk=>obtain⟨_,_,_,q⟩:=d;simp_all
 |cont=>obtain⟨_,_,_,q⟩:=d;simp_all
section
variable {X:Cx}{x:Str}{p pos:Pos}{es:Lx}{t:TA}{id T:String}{r:List V->Hp->VK->Prop}
def Gx(r:List V->Hp->VK->Prop)(t:TA):TE:=λσ H Q=>t σ H λvs H1=>r vs H1 Q
theorem s9(f:a8 X (.builtin id) r)(i:Gl X x)(j:X.mg x=none)(l:bootBuiltins x=some (.builtin id))(d:PA X (e::es) t)(k:x≠"__name__":=by decide)(a:(x==("__debug__":Str))=Nk:=by decide)
  (g:starEach (e::es) X.env=(Nk,eval e X.env)::starEach es X.env:=by rfl) (b:(backTo pos (starEach es X.env)).any (·.1)=Nk:=by rfl):PE X (.Call (.Name x p) (e::es) [] pos) (Gx r t):=by
 intro P s m H Q I h;exact Of (f6 I i j l (Qk (aN (d _ _ s _ H _ I h) λu S z=>by obtain⟨_,_,c,R,q⟩:=z;exact(f _ _ _ _ _ _ Q c R q)) g b) k a)
theorem mx(f:a8 X (.type T) r)(i:Gl X x)(j:X.mg x=none)(l:bootBuiltins x=some (.type T))(d:PA X (e::es) t)(k:x≠"__name__":=by decide)(a:(x==("__debug__":Str))=Nk:=by decide)
  (g:starEach (e::es) X.env=(Nk,eval e X.env)::starEach es X.env:=by rfl) (b:(backTo pos (starEach es X.env)).any (·.1)=Nk:=by rfl):PE X (.Call (.Name x p) (e::es) [] pos) (Gx r t):=by
 intro P s m H Q I h;exact Of (f6 I i j l (N1 (aN (d _ _ s _ H _ I h) λu S ⟨_,_,c,R,q⟩=>f _ _ _ _ _ _ Q c R q) g b) k a)
end
end L2
namespace HT
section
open PySem.SeqAt
open PySem.AutoSeq1 (wpAny_loadPart')
open PySem.MeetsSeq PySem.MeetsSeq2 PySem.MeetsSeq3
end
theorem my{t b:Nm}{vs W:Lv}(l:RU s.heap t vs.toArray)(g:RU s.heap b W.toArray)(p:vs≠[])
  (h1:W=[]->Q (.ref t) s) (o:W≠[]->Q (.ref s.heap.objs.size) {s with heap:=s.heap.push {cls:=.type "tuple",data:=.seq (vs++W).toArray}})
  (k:vs.length+W.length<=sizeLine):wpAny (model prog w) A (binaryOp .Add (.ref t) (.ref b)) Q E s:=by
 obtain⟨⟨cls,m,d,sl⟩,H,i,n,j⟩:=id l;obtain⟨⟨C,f,D,S⟩,h,a,N,c⟩:=id g;subst i j a c;by_cases hw:W=[]
 ·exact SJ ⟨_,H,rfl⟩ ⟨_,h,rfl⟩ Rn Sj PySem.F.slot_tuple_add PySem.F.entry_tuple_add (PySem.F.args_tuple_add_2 _ _)
   (tuple_addW1 t b _ _ n _ _ _ _ _ (by simp_all) (by simp_all)) ⟨H,h,h1 hw⟩
 ·refine SJ ⟨_,H,rfl⟩ ⟨_,h,rfl⟩ Rn Sj PySem.F.slot_tuple_add PySem.F.entry_tuple_add (PySem.F.args_tuple_add_2 _ _)
   (tuple_addW2 t b _ _ n _ _ _ _ _ (by simp_all) (by simp_all) (by simp_all)) ⟨H,h,?_⟩
  simp_all
noncomputable def bz(n d:Nat):Option Int->Nat
 |none=>d
 |some v=>if v<0 then(v+(n:Int)).toNat else min v.toNat n
theorem mz(n d k:Nat):bz n d (some (k:Int))=min k n:=rfl
theorem s_(n d:Nat)(h:d<=n)(o:Option Int):bz n d o<=n:=by
 cases o with
 |none=>exact h
 |some v=>
  show(if v<0 then(v+n).toNat else min _ n)<=n
  grind
theorem y0(v:Int)(n d:Nat):(if v<0 then max (v+(n:Int)) 0 else min v (n:Int))=((bz n d (some v):Nat):Int):=by
 show(if v<0 then max _ 0 else min v _)=((if v<0 then(v+(n)).toNat else min _ n):Nat)
 grind
theorem Gy(l h:Option Int)(n:Nat):Oz l h 1 (n:Int)=(((bz n 0 l:Nat):Int),((bz n n h:Nat):Int)):=by
 refine Prod.ext ?_ ?_
 ·cases l with
  |none=>rfl
  |some v=>exact y0 v n 0
 ·cases h with
  |none=>rfl
  |some v=>exact y0 v n n
theorem Gz(i j:Nat):NL (i:Int) (j:Int) 1=j-i:=by
 unfold NL;have h:(1:Int)>0:=by omega
 rw[if_pos h];exact L2.yo i j
theorem tf{v:Nn}{o:Option Int}{Q:Option Int->Nl->Prop}(p:Qa v o)(h:Q o s):wpAny (model prog w) A (Builtin.Slice.slicePartIndex v) Q E s:=by
 cases p with
 |none=>exact slicePart_none h
 |int i t=>exact slicePart_int h
theorem y_{Q:Int×Int×Nat->Nl->Prop}(hs:s.heap.IsSliceOf sl vl vu .none)(pl:Qa vl lo)(p:Qa vu hi)
  (h:Q (((bz n 0 lo:Nat):Int),1,bz n n hi-bz n 0 lo) s):wpAny (model prog w) A (Qy (.ref sl) (pure (n:Int))) Q E s:=by
 obtain⟨o,a,b,H⟩:=id hs;refine Za (Za (Z0 a H rfl (Za (Z0 a H rfl (Za (Z0 a H rfl (Zd ?_)))))));refine Za (slicePart_none ?_);refine Za (tf pl (Za (tf p (Za (Zd ?_)))));show wpAny _ _ (match Oz _ _ 1 n with| (lo,hi)=>pure (lo,(1:Int),NL lo hi 1)) _ _ s;rw[Gy _ _ n];show wpAny _ _ (pure _) _ _ s;rw[Gz];exact Zd h
theorem GA(xs:Av)(i k:Nat):((Nq k).filterMap λ(m:Nat)=>xs[((i:Int)+(m:Int)*1).toNat]?).toArray=((xs.toList.drop i).take k).toArray:=by
 have e:(λ(m:Nat)=>xs[((i:Int)+m*1).toNat]?)=λm=>xs[i+m]? :=by grind
 have:=pick_run xs i k;have E:((λx=>xs[x]?)∘λx=>i+x)=λm=>xs[i+m]? :=rfl;simp_all
theorem GB{t:Nm}(a:RU s.heap t items)(hs:s.heap.IsSliceOf sl vl vu .none)(pl:Qa vl lo)(p:Qa vu hi)
  (hw:¬(bz items.size 0 lo=0/\bz items.size items.size hi=items.size))
  (h:Q (.ref s.heap.objs.size) {s with heap:=s.heap.push {cls:=.type "tuple",data:=.seq ((items.toList.drop (bz items.size 0 lo)).take (bz items.size items.size hi-bz items.size 0 lo)).toArray}})
  (f:items.size<=sizeLine):wpAny (model prog w) A (getItem (.ref t) (.ref sl)) Q E s:=by
 have H:sizeOk (.seq ((items.toList.drop (bz items.size 0 lo)).take (bz items.size items.size hi-bz items.size 0 lo)).toArray):=by show((items.toList.drop (bz items.size 0 lo)).take (bz items.size items.size hi-bz items.size 0 lo)).toArray.size<=sizeLine;rw[Zu,OL,S_,ZG];exact ZA (Nat.min_le_right _ _) (ZA (Nat.sub_le _ _) f)
 have j:bz items.size items.size hi<=items.size:=s_ _ _ (Zh _) hi;obtain⟨o,e,c,i⟩:=id hs;have b:s.TypeIs (.ref sl) "slice":=⟨o,e,c⟩;unfold getItem
 try with_reducible refine ZB ?_
 first|refine Za (Zd ?_)|skip
 refine Za (Q_ a.typeIs (by decide) ?_)
 refine Za (ZZ (name:=Oi "__getitem__") a.typeIs Z9
  (ZY Z9 a.typeIs QM ?_ (QX _ _)))
 show wpAny _ _ (Pe (.ref t)>>=_) _ _ s;refine Za (Sk a ?_);refine Za (OU b ?_);rw[if_pos (by decide)];refine Za (y_ hs pl p ?_);have d:¬((((bz items.size 0 lo:Nat):Int)==0&&(1:Int)==1&&(bz items.size items.size hi-bz items.size 0 lo)==items.size)=Nj):=by intro q;rw[ZN,ZN]at q;have k:((bz items.size 0 lo:Nat):Int)=0:=Zv q.1.1;have l:bz items.size items.size hi-bz items.size 0 lo=items.size:=Zv q.2;exact hw ⟨by omega,by omega⟩
 show wpAny _ _ (if(((bz items.size 0 lo:Nat):Int)==0&&(1:Int)==1&&(bz items.size items.size hi-bz items.size 0 lo)==items.size)=Nj then _ else _) _ _ s;rw[if_neg d,GA]
 first
  |exact Za (m:=OB _) (ZP (Zd ⟨_,rfl,Zd h⟩) H)
  |exact Za (m:=OB _) (ZP (Za (Zd (Zd ⟨_,rfl,Zd h⟩))) H)
  |exact Za (Za (m:=OB _) (ZP (Zd (Zd ⟨_,rfl,Zd h⟩)) H))
  |exact Za (Za (m:=OB _) (ZP (Zd ⟨_,rfl,Zd h⟩) H))
end HT
namespace L2
abbrev TO:=St->Hp->(Option Int->Hp->Prop)->Prop
def PO(X:Cx)(e:Option Expr)(t:TO):Prop:=
 ∀(pq:Lp) (s:Nl) (σ:St) (H:Hp) (Q:Option Int->Hp->Prop),Inv X pq σ H s->t σ H Q->
  wpAny (model X.prog X.w) X.A (evalPart e X.env) (λu s'=>∃o H',Inv X pq σ H' s'/\Qa u o/\Q o H') X.xe s
def mB:TO:=λ_ H Q=>Q none H
def za(t:TE):TO:=λσ H Q=>t σ H λx H1=>∃i,x=.int i/\Q (some i) H1
theorem GC:∀{us:Lv},Vals (ns.map V.int) us->QJ us ns:=by
 induction ns with
 |nil=>intro us r;cases r;exact .nil
 |cons n ns i=>
  intro us r;cases r with
  |cons R a=>obtain⟨t,e⟩:=R;subst e;exact .cons n t (i a)
section
variable {X:Cx}{te:TE}{lo hi:Option Expr}{tl th:TO}{pos:Pos}
theorem mC:PO X none mB:=by intro p s a H Q I h;exact Zd ⟨_,H,I,.none,h⟩
theorem mD(h:PE X e te):PO X (some e) (za te):=by intro p s c H Q I hw;refine aN (h _ s _ H _ I hw) λu S z=>?_;obtain⟨x,_,a,r,b⟩:=z;obtain⟨i,rfl,q⟩:=b;obtain⟨t,rfl⟩:=r;exact⟨_,_,a,.int i t,q⟩
def Fs(X:Cx)(r:V->Option Int->Option Int->Hp->VK->Prop):Prop:=
 ∀(pq:Lp) (s:Nl) (σ:St) (H:Hp) (x:V) (v vl vu:Nn) (lo hi:Option Int) (sl:Nm) (Q:VK),Inv X pq σ H s->RelV x v->s.heap.IsSliceOf sl vl vu .none->Qa vl lo->Qa vu hi->r x lo hi H Q->
  ∃T id,typeLookup (.type T) "__getitem__"=pure (some (.builtin id))/\s.TypeIs v T/\wpAny (model X.prog X.w) X.A (getItem v (.ref sl)) (EP X pq σ Q) X.xe s
def MZ(r:V->Option Int->Option Int->Hp->VK->Prop)(t:TE)(b T:TO):TE:=λσ H Q=>t σ H λx H1=>b σ H1 λl H2=>T σ H2 λu a=>r x l u a Q
theorem GD{r:V->Option Int->Option Int->Hp->VK->Prop}(n:Fs X r)(j:PE X e te)(m:PO X lo tl)(p:PO X hi th):PE X (.Subscript e (.Slice lo hi none p2) pos) (MZ r te tl th):=by intro C s F H Q I h;refine Subscript_ (aN (j _ s _ H _ I h) λv D z=>?_);obtain⟨x,_,c,R,w⟩:=z;refine wpAny_Slice (aN (m _ _ _ _ _ c w) λB E z=>z.elim λl z=>z.elim λ_ z=>z.elim λd z=>z.elim λP y=>aN (p _ _ _ _ _ d y) λvu S z=>?_);obtain⟨u,_,f,t,A⟩:=z;refine Zd ?_;have g:Inv X _ _ _ {S with heap:=S.heap.push {cls:=.type "slice",data:=.fields #[B,vu,.none]}}:=f.kept λb O q=>Zb _ q;obtain⟨T,id,i,o,k⟩:=n _ _ _ _ x v _ _ l u _ Q g R (Q0 ..) P t A;exact tail_any o i k rfl
noncomputable def iN(xs:List V)(l h:Option Int):List V:=(xs.drop (HT.bz xs.length 0 l)).take (HT.bz xs.length xs.length h-HT.bz xs.length 0 l)
theorem zb(xs:List V)(l h:Option Int):(iN xs l h).length<=xs.length:=by unfold iN;rw[OL,S_];omega
def GF(K:Fg):V->Option Int->Option Int->Hp->VK->Prop:=λx lo hi H Q=>∃a xs,x=.ref a/\bZ K H a xs/\
 ¬(HT.bz xs.length 0 lo=0/\HT.bz xs.length xs.length hi=xs.length)/\∀p,H p=none->Q (.ref p) (aO H p (.tup (iN xs lo hi)))
theorem sl_tup:Fs X (GF X.K):=by
 intro m s t H x v V n l k sl Q I R e p P h;obtain⟨a,j,rfl,f,hw,q⟩:=h;cases R;obtain⟨i,r,d,g⟩:=I.tuple f;have c:i.toArray.size=j.length:=by exact r.length.symm
 refine⟨_,_,PyProof.Rows.slot_tuple_getitem.lookup,d.typeIs,?_⟩;refine HT.GB d e p P (by lia) ?_ (by lia);rw[c];refine⟨.ref _,_,I.laid (λb o q=>Zb _ q) (Zh _) ?_,rfl,q _ (I.hok.fresh (Zh _))⟩;exact⟨ZA (zb _ _ _) g,_,(r.drop _).take _,QN _ _,qT.new _ _⟩
def zc(K:Fg):R2:=λx y H Q=>∃a b xs ys,x=.ref a/\y=.ref b/\bZ K H a xs/\bZ K H b ys/\xs≠[]/\xs.length+ys.length<=sizeLine/\
 (ys=[]->Q (.ref a) H)/\(ys≠[]->∀p,H p=none->Q (.ref p) (aO H p (.tup (xs++ys))))
theorem Vals.nil_iff{xs:List V}(r:Vals xs us):us=[]↔xs=[]:=by
 cases r with
 |nil=>simp
 |cons _ _=>simp
theorem mE:b8 X (binaryOp .Add) (zc X.K):=by intro n s A H x y v u Q I l m h;obtain⟨a,b,t,Y,rfl,rfl,c,d,e,f,j,k⟩:=h;subst l;subst m;obtain⟨g,R,p,_⟩:=I.tuple c;obtain⟨i,r,P,_⟩:=I.tuple d;refine HT.my p P (λz=>e (R.nil_iff.mp z)) (λz=>⟨.ref a,H,I,rfl,j (r.nil_iff.mp z)⟩) (λz=>?_) (by rw[<-R.length,<-r.length];exact f);refine⟨.ref _,_,I.laid (λb o q=>Zb _ q) (Zh _) ?_,rfl,k (λw=>z (r.nil_iff.mpr w)) _ (I.hok.fresh (Zh _))⟩;exact⟨by simp_all,_,R.append r,QN _ _,qT.new _ _⟩
end
noncomputable def iO(n:Nat)(i:Int):Option Nat:=if 0<=i then(if i<n then some i.toNat else none)else if-(n:Int)<=i then some (i+n).toNat else none
noncomputable def g9{a:Type}(xs:List a)(i:Int):Option a:=(iO xs.length i).bind λj=>xs[j]?
theorem ti{i:Int}{j:Nat}(h:iO n i=some j):seqIndex? i n=some j/\j<n/\ -(n:Int)<=i/\i<n:=by
 unfold iO at h;by_cases a:0<=i
 ·rw[if_pos a]at h;by_cases H:i<n
  ·rw[if_pos H]at h;have e:=O8 h;exact⟨by rw[seqIndex_of a H,e],by lia,by lia,H⟩
  simp_all
 ·rw[if_neg a]at h;by_cases H: -n<=i
  ·rw[if_pos H]at h;have e:=O8 h;exact⟨by rw[SK (by simp_all) H,e],by lia,H,by lia⟩
  simp_all
theorem zd{xs:List α}{i:Int}{v:α}(h:g9 xs i=some v):∃j,seqIndex? i xs.length=some j/\xs[j]?=some v/\j<xs.length/\ -(xs.length:Int)<=i/\i<xs.length:=by
 unfold g9 at h;cases e:iO xs.length i with
 |none=>simp_all
 |some j=>rw[e]at h;obtain⟨H,a,b,c⟩:=ti e;exact⟨j,H,h,a,b,c⟩
def ze(b:Expr):Prop:=∀o i,subscripted b Nk o i=operate [o,i] (getItem o i)
def zf(X:Cx)(r:R2):Prop:=
 ∀(value S:Expr) (pq:Lp) (s:Nl) (σ:St) (H:Hp) (x y:V) (v u:Nn) (Q:VK),Inv X pq σ H s->RelV x v->RelV y u->r x y H Q->
  subscripted S Nk v u=operate [v,u] (getItem v u)->wpAny (model X.prog X.w) X.A (subscriptTail value S v u) (EP X pq σ Q) X.xe s
def jJ(X:Cx)(id:String)(r:V->List V->Hp->VK->Prop):Prop:=
 ∀(pq:Lp) (s:Nl) (σ:St) (H:Hp) (x:V) (xs:List V) (v:Nn) (us:Lv) (Q:VK),Inv X pq σ H s->RelV x v->Vals xs us->r x xs H Q->
  wpAny (model X.prog X.w) X.A (call (.builtin id) (v::us)) (EP X pq σ Q) X.xe s
section
variable {X:Cx}{a b:Expr}{ta tb:TE}{pos:Pos}
theorem q_{r:R2}(f:zf X r)(d:PE X a ta)(e:PE X b tb)(hs:ze b):PE X (.Subscript a b pos) (Fq r ta tb):=by intro p s j H Q I h;exact Subscript_ (sK d e I h λv u S x y i c R g q=>f a b _ _ _ _ x y v u Q c R g q (hs _ _))
def GG(K:Fg):R2:=λx y H Q=>∃p xs i v,x=.ref p/\y=.int i/\c6 K H p xs/\g9 xs i=some v/\Q v H
def GH(K:Fg):R2:=λx y H Q=>∃p xs i v,x=.ref p/\y=.int i/\bZ K H p xs/\g9 xs i=some v/\Q v H
theorem zg:zf X (GG X.K):=by
 intro V S F s J H x y v u Q I n o h d;obtain⟨p,G,i,z,rfl,rfl,m,k,q⟩:=h;cases n;obtain⟨t,rfl⟩:=o;obtain⟨a,r,P,D⟩:=I.list m;obtain⟨j,c,e,A,f,g⟩:=zd k;obtain⟨w,E,R⟩:=r.get e;have B:=r.length;have C:=iM;have fin:EP X _ _ Q w s:=⟨z,H,I,R,q⟩;by_cases b:0<=i
 ·have l:i.toNat=j:=by
   rw[seqIndex_of b g]at c;simp_all
  exact item_listR P.isList b (by omega) (by simp_all) fin d
 ·have l:(i+a.toArray.size).toNat=j:=by
   rw[SK (by omega) f]at c;simp_all
  exact SM P.isList.typeIs slot_list_getitem.lookup
   (wpAny_getItem_list_neg P.isList (by omega) (by simp_all) (by omega) (by simp_all) ⟨rfl,fin⟩) d
theorem tj:zf X (GH X.K):=by
 intro V S C s F H x y v u Q I f g h d;obtain⟨p,D,i,z,rfl,rfl,c,b,q⟩:=h;cases f;obtain⟨t,rfl⟩:=g;obtain⟨e,r,P,B⟩:=I.tuple c;obtain⟨j,k,a,l,m,n⟩:=zd b;obtain⟨w,E,R⟩:=r.get a;have o:=r.length;have A:=iM;have fin:EP X _ _ Q w s:=⟨z,H,I,R,q⟩
 exact SM P.typeIs slot_tuple_getitem.lookup
  (getItem_tuple (j:=j) P (by omega) (by omega) (by simp_all) (by simp_all) ⟨rfl,fin⟩) d
theorem GI(its:Lv)(n j:Nat)(u:Nn):NC (·.setIfInBounds j u) {cls:=.type "list",data:=.seq its.toArray n}={cls:=.type "list",data:=.seq (its.set j u).toArray n}:=by simp[NC]
theorem Inv.lst{σ:St}{H:Hp}{p:Nm}{xs:List V}(I:Inv X pq σ H s)(h:H p=some (.lst xs)):
  ∃(its:Lv) (n:Nat),Vals xs its/\s.heap.get? p=some {cls:=.type "list",data:=.seq its.toArray n}/\xs.length<=sizeLine:=by
 obtain⟨z,its,n,r,e⟩:=I.hok p _ h;exact⟨_,n,r,e,z⟩
theorem Inv.lstUpd{σ:St}{H:Hp}{p:Nm}{xs y:List V}{its i:Lv}{n N:Nat}{f:Obj->Obj}(I:Inv X pq σ H s)(h:H p=some (.lst xs))
  (g:s.heap.get? p=some {cls:=.type "list",data:=.seq its.toArray n}) (c:f {cls:=.type "list",data:=.seq its.toArray n}={cls:=.type "list",data:=.seq i.toArray N}) (r:Vals y i) (j:y.length<=sizeLine) (t:Nat):
  Inv X pq σ (aO H p (.lst y)) {s with heap:=s.heap.update p f,toks:=t}:=by
 have e:(s.heap.update p f).get? p=some {cls:=.type "list",data:=.seq i.toArray N}:=by rw[ZM f g (by rw[c]<;>rfl),c]
 refine I.write (by rw[h];trivial) (.inl rfl) (λb u d q=>(ZF _ _ (Ne.symm d)).trans q) ⟨_,e⟩ ?_;exact⟨j,_,_,r,e⟩
def zh:V->V->V->Hp->(Hp->Prop)->Prop:=λo i v H Q=>∃p xs k j,o=.ref p/\i=.int k/\H p=some (.lst xs)/\iO xs.length k=some j/\Q (aO H p (.lst (xs.set j v)))
theorem GJ:sy X zh:=by
 intro P s F H o i v O D u Q I x R y h;obtain⟨p,E,k,j,rfl,rfl,g,w,q⟩:=h;cases x;obtain⟨t,rfl⟩:=R;obtain⟨c,n,r,b,C⟩:=I.lst g;obtain⟨f,z,l,m⟩:=ti w;have A:=r.length;have B:=iM
 have d:=
  I.lstUpd g b (GI _ n j u) (r.set y j) (by simp_all) s.toks
 by_cases e:0<=k
 ·have a:k.toNat=j:=by
   rw[seqIndex_of e m]at f;simp_all
  exact PySem.W.ki_setAt b e (by omega) (by simp_all) (by rw[a];exact⟨_,d,q⟩)
 ·have a:(k+c.toArray.size).toNat=j:=by
   rw[SK (by omega) l]at f;simp_all
  exact PySem.W.ki_setBack b (by omega) (by simp_all) (by omega) (by rw[a];exact⟨_,d,q⟩)
theorem GK(l H:Option Int)(n:Nat):(sliceBounds l H none n).1=((HT.bz n 0 l:Nat):Int)/\(sliceBounds l H none n).2.1=((HT.bz n n H:Nat):Int)/\(sliceBounds l H none n).2.2=1:=by
 refine⟨?_,?_,rfl⟩
 ·cases l with
  |none=>simp[sliceBounds,HT.bz]
  |some i=>
   simp only[sliceBounds,HT.bz,Sx,show(1:Int)>0 by decide,if_true];by_cases h:i<0
   ·simp only[h,if_true];exact jQ n h
   ·simp only[h,if_false];exact jP n h
 ·cases H with
  |none=>simp[sliceBounds,HT.bz]
  |some i=>
   simp only[sliceBounds,HT.bz,Sx,show(1:Int)>0 by decide,if_true];by_cases h:i<0
   ·simp only[h,if_true];exact jQ n h
   ·simp only[h,if_false];exact jP n h
theorem GL(its:Lv)(l h:Option Int):slicePick its.toArray l h none=((its.drop (HT.bz its.length 0 l)).take (HT.bz its.length its.length h-HT.bz its.length 0 l)).toArray:=by obtain⟨H,a,b⟩:=GK _ _ _;unfold slicePick;rw[H,a,b];simp only[sliceRange_one,pick_run]<;>rfl
def GN(K:Fg):V->Option Int->Option Int->Hp->VK->Prop:=λx lo hi H Q=>∃a xs,x=.ref a/\c6 K H a xs/\∀p,H p=none->Q (.ref p) (aO H p (.lst (iN xs lo hi)))
theorem mF:Fs X (GN X.K):=by intro k s t H x v V m l j sl Q I R e p P h;obtain⟨a,n,rfl,f,q⟩:=h;subst R;obtain⟨i,r,d,g⟩:=I.list f;have c:=r.length;refine⟨_,_,slot_list_getitem.lookup,d.isList.typeIs,?_⟩;refine wpAny_getItem_list_slice d.isList e p P .none (by decide) ?_ (by simp_all);rw[GL,<-c];refine⟨.ref _,_,I.laid (λb o q=>Zb _ q) (Zh _) ?_,rfl,q _ (I.hok.fresh (Zh _))⟩;exact⟨ZA (zb _ _ _) g,_,0,(r.drop _).take _,Zg _ rfl⟩
theorem GO:a8 X (.builtin "len") (λxs H Q=>∃p ys,xs=[.ref p]/\(c6 X.K H p ys\/bZ X.K H p ys)/\Q (.int ys.length) H):=by
 intro f s g H xs U Q I r h;obtain⟨p,ys,rfl,b,q⟩:=h;obtain⟨u,rfl,d⟩:=vals1 r;cases d;have e:=iM;rcases b with b|b
 ·obtain⟨i,R,P,c⟩:=I.list b;have a:=R.length;exact Calls.call_len_list P.isList (by grind) ⟨.int _,H,I.tok _,⟨s.toks+1,by simp_all⟩,q⟩
 ·obtain⟨i,R,P,c⟩:=I.tuple b;have a:=R.length;exact len_tuple P (by grind) ⟨.int _,H,I.tok _,⟨s.toks+1,by simp_all⟩,q⟩
theorem GP:a8 X (.builtin "len") (λxs H Q=>∃z,xs=[.str z]/\z.length<=sizeLine/\Q (.int z.length) H):=by intro p s c H xs U Q I r h;obtain⟨z,rfl,b,q⟩:=h;obtain⟨u,rfl,t,rfl⟩:=vals1 r;have a:=iM;exact len_str (by lia) ⟨.int _,H,I.tok _,⟨_,rfl⟩,q⟩
theorem GQ:a8 X (.type "list") (λxs H Q=>∃p ys,xs=[.ref p]/\(c6 X.K H p ys\/bZ X.K H p ys)/\∀l,H l=none->Q (.ref l) (aO H l (.lst ys))):=by
 intro v s w H xs U Q I r h;obtain⟨p,ys,rfl,d,q⟩:=h;obtain⟨u,rfl,t⟩:=vals1 r;subst t
 have fin:∀(i:List _),Vals _ i->ys.length<=sizeLine->∀(a:Nw) (C:Nat),(∀b O,s.heap.get? b=some _->a.get? b=some _)->
   a.get? _=some _->EP X _ _ Q _ _:=λi R f a C k e=>
  ⟨.ref _,_,I.laid (t':=s.toks) k (Zh _) (show aP _ _ _ _ _ (.lst _)from⟨f,_,C,R,e⟩),rfl,q _ (I.hok.fresh (Zh _))⟩
 rcases d with d|d
 ·obtain⟨i,R,P,f⟩:=I.list d;have c:=R.length;obtain⟨o,m,g,n,j⟩:=P.isList;exact call_list_seq p (.inl rfl) m g j (λa C k e=>fin _ R f _ _ k e) (by simp_all)
 ·obtain⟨i,R,P,f⟩:=I.tuple d;have c:=R.length;obtain⟨o,m,g,n,j⟩:=P;exact call_list_seq p (.inr rfl) m g j (λa C k e=>fin _ R f _ _ k e) (by simp_all)
theorem zk:a8 X (.type "tuple") (λxs H Q=>∃p ys,xs=[.ref p]/\((c6 X.K H p ys/\∀l,H l=none->Q (.ref l) (aO H l (.tup ys)))\/(bZ X.K H p ys/\Q (.ref p) H))):=by
 intro n s v H xs U Q I r h;obtain⟨p,ys,rfl,h⟩:=h;obtain⟨u,rfl,j⟩:=vals1 r;subst j;rcases h with⟨a,q⟩| ⟨a,q⟩
 ·obtain⟨i,R,P,f⟩:=I.list a;have d:=R.length;refine call_tuple_list P.isList (λm k=>?_) (by simp_all);have c:=I.kept (t':=s.toks) k
  have g:=
   c.laid (t':=s.toks) (λb o e=>Zb _ e) (Zh _) (show aP _ _ _ _ _ (.tup _)from⟨f,_,R,QN _ _,qT.new _ _⟩)
  exact⟨.ref _,_,g,rfl,q _ (c.hok.fresh (Zh _))⟩
 ·obtain⟨i,R,P,f⟩:=I.tuple a;exact call_tuple_same P ⟨.ref p,H,I,rfl,q⟩
def zl(K:Fg)(T:String)(x:V)(H:Hp):Prop:=match x with
 | .str _=>T="str"
 | .int _=>T="int"
 | .ref p=>(T="list"/\∃xs,c6 K H p xs)\/(T="tuple"/\∃o,K.lookup p=some o/\o.cls=.type "tuple"/\o.dict=none)\/
   (T="dict"/\((∃k,H p=some (.dK k))\/∃k,H p=some (.dT k)))\/(T="set"/\∃S n,H p=some (.set S n))
 |_=>False
theorem j6{σ:St}{H:Hp}{T:String}{x:V}{v:Nn}(I:Inv X pq σ H s)(r:RelV x v)(ty:zl X.K T x H):
  s.TypeIs v T/\∀a,v=.ref a->∃ob,s.heap.get? a=some ob/\ob.dict=none:=by
 cases x with
 |str z=>
  obtain⟨t,rfl⟩:=r;cases show T="str" from ty
  exact⟨typeIs_str s z t,λ_ e=>nomatch e⟩
 |int i=>
  obtain⟨t,rfl⟩:=r;cases show T="int" from ty
  exact⟨typeIs_int s i t,λ_ e=>nomatch e⟩
 |ref p=>
  cases r;rcases ty with⟨rfl,l,g⟩| ⟨rfl,o,h,f,d⟩| ⟨rfl,h⟩| ⟨rfl,S,n,h⟩
  ·obtain⟨j,_,P,_⟩:=I.list g;refine⟨P.isList.typeIs,λa e=>?_⟩;obtain⟨o,n,e,c,d,_⟩:=P;simp_all
  ·refine⟨⟨o,I.kIn p o h,f⟩,λa e=>?_⟩;cases e;exact⟨o,I.kIn _ o h,d⟩
  ·have z:∃o,s.heap.get? p=some o/\o.ExactDict:=by
    rcases h with⟨k,h⟩| ⟨k,h⟩
    ·obtain⟨_,_,_,_,o,_,_,e,E,_⟩:=I.hok p _ h;simp_all
    ·obtain⟨_,_,_,_,o,_,_,e,E,_⟩:=I.hok p _ h;simp_all
   obtain⟨o,e,E⟩:=z;refine⟨⟨o,e,E.1⟩,λa b=>?_⟩;cases b;exact⟨o,e,E.2.1⟩
  ·obtain⟨o,_,_,_,e,E,_⟩:=I.hok p _ h;refine⟨⟨o,e,E.1⟩,λa b=>?_⟩;cases b;exact⟨o,e,E.2.1⟩
 |_=>exact False.elim ty
def GR(K:Fg)(T:String)(r:V->List V->Hp->VK->Prop)(to:TE):TE:=λσ H Q=>to σ H λx H1=>zl K T x H1/\r x [] H1 Q
def Mo(K:Fg)(T:String)(r:V->List V->Hp->VK->Prop)(to:TE)(t:TA):TE:=λσ H Q=>to σ H λx H1=>zl K T x H1/\t σ H1 λxs H2=>r x xs H2 Q
variable {o:Expr}{es:Lx}{to:TE}{t:TA}{T id:String}{r:V->List V->Hp->VK->Prop}
theorem tm(p:PlainAttrs T)(S:Slot T name id)(c:typeOf (.builtin id)=pure (.type "method_descriptor"))(g:jJ X id r)(i:PE X o to)
  (a:attributeBase o name X.env (eval o X.env)=eval o X.env:=by rfl) (b:(apos.endLine==cpos.line)=Nj:=by rfl):PE X (.Call (.Attribute o name apos) [] [] cpos) (GR X.K T r to):=by
 intro P s k H Q I h;refine wpAny_Call_method0_late a b (aN (i _ s _ H _ I h) λv j z=>?_);obtain⟨x,_,d,R,ty,q⟩:=z;obtain⟨e,f⟩:=j6 d R ty;exact⟨T,_,p,S,c,e,f,O1 rfl (PySem.evalArgs_none (g _ _ _ _ x _ v _ Q d R .nil q))⟩
theorem rc(P:PlainAttrs T)(S:Slot T name id)(f:typeOf (.builtin id)=pure (.type "method_descriptor"))(n:jJ X id r)(p:PE X o to)(m:PA X (e::es) t)
  (a:attributeBase o name X.env (eval o X.env)=eval o X.env:=by rfl)
  (c:((backTo cpos (starEach (e::es) X.env)).all (λx=> !x.1)&&(backToKw cpos (keywordEach [] X.env)).all (λx=>x.1.isSome)
   &&decide ((e::es).length+([]:List Q9).length+(if([]:List Q9).isEmpty then 0 else 1)<30))=Nj:=by rfl)
  (b:(apos.endLine==cpos.line)=Nj:=by rfl) (hs:starEach (e::es) X.env=(Nk,eval e X.env)::starEach es X.env:=by rfl) (d:(backTo cpos (starEach es X.env)).any (·.1)=Nk:=by rfl):
  PE X (.Call (.Attribute o name apos) (e::es) [] cpos) (Mo X.K T r to t):=by
 intro y s C H Q I h;refine Qq a c b rfl (aN (p _ s _ H _ I h) λv A z=>?_);obtain⟨x,_,g,R,ty,q⟩:=z;obtain⟨k,l⟩:=j6 g R ty;refine⟨T,_,P,S,f,k,l,?_⟩;have i:=m cpos _ _ _ _ _ g q;rw[hs]at i⊢;exact O1 (by assumption) (Pk (aN i λU B z=>by obtain⟨_,_,j,w,u⟩:=z;exact(n _ _ _ _ x _ v _ Q j R w u)))
end
def Ft(X:Cx)(id:String)(r:V->List V->Hp->VK->Prop):Prop:=
 ∀(pq:Lp) (s:Nl) (σ:St) (H:Hp) (x:V) (xs:List V) (v:Nn) (us:Lv) (Q:VK),Inv X pq σ H s->RelV x v->Vals xs us->r x xs H Q->
  wpAny (model X.prog X.w) X.A (call (.builtin id) (v::us)) (EP X pq σ Q) X.xe s
theorem Vals.un{x:V}{xs:List V}(h:Vals (x::xs) us):∃u r,us=u::r/\RelV x u/\Vals xs r:=by
 cases h with
 |cons r t=>lia
theorem Vals.nul(h:Vals [] us):us=[]:=by cases h;rfl
theorem Vals.one{x:V}(h:Vals [x] us):∃u,us=[u]/\RelV x u:=by obtain⟨u,r,rfl,a,H⟩:=h.un;cases H.nul;lia
theorem Vals.two{x y:V}(h:Vals [x,y] us):∃u v,us=[u,v]/\RelV x u/\RelV y v:=by obtain⟨u,r,rfl,a,H⟩:=h.un;obtain⟨v,rfl,b⟩:=H.one;lia
theorem Vals.zero:∀{us:Lv},Vals [] us->us=[]
 |_,.nil=>rfl
theorem Vals.dropLast{xs:List V}(h:Vals xs us):Vals xs.dropLast us.dropLast:=by
 induction h with
 |nil=>exact .nil
 |cons r t i=>
  cases t with
  |nil=>exact .nil
  |cons q T=>exact .cons r i
theorem Vals.eraseIdx:∀{xs:List V} {us:Lv} (i:Nat),Vals xs us->Vals (xs.eraseIdx i) (us.eraseIdx i)
 |_,_,_,.nil=>.nil
 |_,_,0,.cons _ t=>t
 |_,_,i+1,.cons r t=>.cons r (Vals.eraseIdx i t)
theorem Vals.reverse{xs:List V}(h:Vals xs us):Vals xs.reverse us.reverse:=by
 induction h with
 |nil=>exact .nil
 |cons r t i=>rw[PY,PY];exact Vals.append i (.cons r .nil)
theorem Vals.rep{xs:List V}(h:Vals xs us):∀k:Nat,Vals (Nu k xs).flatten (Nu k us).flatten
 |0=>.nil
 |k+1=>by exact Vals.append h (Vals.rep h k)
theorem zm{a:Type}:∀(l:List a) (i:Nat),(l.eraseIdx i).length<=l.length
 | [],_=>Zh _
 |_::_,0=>Sl _
 |_::r,i+1=>Nat.succ_le_succ (zm r i)
theorem zn(its:Lv):∀(k:Nat) (acc:Lv),
  List.foldl (λx1 x2=>x1++x2) acc.toArray (Nu k its.toArray)=(acc++(Nu k its).flatten).toArray
 |0,acc=>by simp
 |k+1,acc=>by
  have e:acc.toArray++its.toArray=(acc++its).toArray:=by simp
  have E:acc++its++(Nu k its).flatten=acc++(Nu (k+1) its).flatten:=by grind
  rw[<-E,<-zn _ k _,<-e,Qt,List.foldl_cons]
section
variable {X:Cx}{σ:St}{H:Hp}{l b:Nm}{xs ys zs:List V}
theorem Inv.lset{its i:Lv}{n:Nat}{f:Av->Av}{t':Nat}(I:Inv X pq σ H s)(a:H l=some (.lst xs))
  (e:s.heap.get? l=some {cls:=.type "list",data:=.seq its.toArray n}) (c:f its.toArray=i.toArray) (g:Vals ys i) (j:ys.length<=sizeLine):
  Inv X pq σ (aO H l (.lst ys)) {s with heap:=s.heap.update l (NC f),toks:=t'}:=by
 have q:=PySem.IsL.update e f;rw[c]at q;refine I.write (by rw[a];exact trivial) (.inl rfl) (λB u b d=>(ZF _ _ (Ne.symm b)).trans d) ⟨_,q⟩ ?_;exact⟨j,_,_,g,q⟩
theorem Inv.lnew{t':Nat}(I:Inv X pq σ H s)(a:Vals ys its)(b:ys.length<=sizeLine):
  Inv X pq σ (aO H s.heap.objs.size (.lst ys)) {s with heap:=s.heap.push {cls:=.type "list",data:=.seq its.toArray},toks:=t'}:=
 I.laid (λ_ _ q=>Zb _ q) (Zh _) ⟨b,_,0,a,Zg _ rfl⟩
theorem Inv.fresh(I:Inv X pq σ H s):H s.heap.objs.size=none:=I.hok.fresh (Zh _)
theorem Inv.lstM(I:Inv X pq σ H s)(h:H l=some (.lst xs)):xs.length<=sizeLine/\∃(its:Lv) (n:Nat),Vals xs its/\xs.length=its.length/\s.heap.get? l=some {cls:=.type "list",data:=.seq its.toArray n}:=by obtain⟨z,its,n,r,e⟩:=I.hok l _ h;exact⟨z,_,n,r,r.length,e⟩
theorem zo(h:n<=sizeLine):Pr n=Nk:=by exact ZE (by omega)
end
section
variable {X:Cx}
def mG:V->List V->Hp->VK->Prop:=λx vs H Q=>∃l xs y,x=.ref l/\vs=[y]/\H l=some (.lst xs)/\xs.length<sizeLine/\Q .non (aO H l (.lst (xs++[y])))
theorem zp:Ft X "list.append" mG:=by intro p s j H x vs v U Q I c b h;obtain⟨l,g,y,rfl,rfl,a,f,q⟩:=h;cases c;obtain⟨u,rfl,R⟩:=b.one;obtain⟨z,i,n,r,d,e⟩:=I.lstM a;refine O_ F.slot_list_append ⟨_,e,rfl⟩ F.entry_list_append (F.args_list_append_2 _ _) (PySem.list_append l _ n u (by simp_all)) ⟨e,?_⟩;refine⟨.non,_,I.lset a e (by simp) (r.append (.cons R .nil)) ?_,rfl,q⟩;rw[Zn,Pf];omega
def mH:V->List V->Hp->VK->Prop:=λx vs H Q=>∃l b xs zs,x=.ref l/\vs=[.ref b]/\H l=some (.lst xs)/\H b=some (.lst zs)/\xs.length+zs.length<=sizeLine/\Q .non (aO H l (.lst (xs++zs)))
theorem GU:Ft X "list.extend" mH:=by
 intro P s A H x vs v U Q I o m h;obtain⟨l,b,w,y,rfl,rfl,f,g,t,q⟩:=h;cases o;obtain⟨u,rfl,k⟩:=m.one;cases k;obtain⟨z,c,n,r,p,e⟩:=I.lstM f;obtain⟨Z,i,N,R,j,E⟩:=I.lstM g;have d:c.toArray.size+i.toArray.size<=sizeLine:=by simp_all
 have a:¬(!c.toArray.isEmpty&&Pr (c.toArray.size+i.toArray.size))=Nj:=by rw[zo d];simp_all
 refine O_ F.slot_list_extend ⟨_,e,rfl⟩ F.entry_list_extend (F.args_list_extend_2 _ _)
  (AutoSeq1.list_extend_list_list_0 l _ n b _ _ a (by lia) (by omega)) ⟨e,E,?_⟩
 refine⟨.non,_,I.lset f e (by simp) (r.append R) ?_,rfl,q⟩;simp_all
def GV:V->List V->Hp->VK->Prop:=λx vs H Q=>∃l xs y,x=.ref l/\vs=[]/\H l=some (.lst xs)/\xs[xs.length-1]?=some y/\Q y (aO H l (.lst xs.dropLast))
theorem tq:Ft X "list.pop" GV:=by
 intro p s o H x vs v U Q I g f h;obtain⟨l,m,y,rfl,rfl,c,d,q⟩:=h;cases g;have a:=f.zero;subst a;obtain⟨z,i,n,r,j,e⟩:=I.lstM c;obtain⟨u,k,R⟩:=r.get d;have b:i.toArray[i.toArray.size-1]?=some u:=by simp_all
 refine O_ F.slot_list_pop ⟨_,e,rfl⟩ F.entry_list_pop (F.args_list_pop_1 _) (MeetsSeq.list_pop_last l _ n u b (by simp_all)) ⟨e,?_⟩;refine⟨y,_,I.lset c e ?_ r.dropLast ?_,R,q⟩
 ·simp_all
 ·rw[List.length_dropLast];omega
def tr:V->List V->Hp->VK->Prop:=λx vs H Q=>∃l xs i k y,x=.ref l/\vs=[.int i]/\H l=some (.lst xs)/\ -(2^63)<=i/\i<2^63/\seqIndex? i xs.length=some k/\xs[k]?=some y/\Q y (aO H l (.lst (xs.eraseIdx k)))
theorem GW:Ft X "list.pop" tr:=by
 intro P s B H x vs v U Q I m j h;obtain⟨l,o,i,k,y,rfl,rfl,a,b,c,p,d,q⟩:=h;cases m;obtain⟨u,rfl,g⟩:=j.one;obtain⟨t,rfl⟩:=g;obtain⟨z,f,n,r,A,e⟩:=I.lstM a;obtain⟨w,hw,R⟩:=r.get d
 refine O_ F.slot_list_pop ⟨_,e,rfl⟩ F.entry_list_pop (F.args_list_pop_2 _ _)
  (MeetsSeq.list_pop_at l _ n i t k w (fitsIndex_both b c) (by simp_all) (by simp_all) (by simp_all)) ⟨e,?_⟩
 refine⟨y,_,I.lset a e ?_ (r.eraseIdx k) ?_,R,q⟩
 ·simp_all
 ·have:=zm o k;omega
def GX:R2:=λx y H Q=>∃l b xs zs,x=.ref l/\y=.ref b/\H l=some (.lst xs)/\H b=some (.lst zs)/\xs.length+zs.length<=sizeLine/\∀p,H p=none->Q (.ref p) (aO H p (.lst (xs++zs)))
theorem mI:b8 X (binaryOp .Add) GX:=by
 intro p s A H x y v u Q I j k h;obtain⟨l,b,t,w,rfl,rfl,f,d,o,q⟩:=h;subst j;subst k;obtain⟨z,a,n,r,m,e⟩:=I.lstM f;obtain⟨Z,i,N,R,g,E⟩:=I.lstM d;refine PySem.P.add_list e E ?_ (by simp_all);have c:a.toArray++i.toArray=(a++i).toArray:=by simp
 rw[c];exact⟨.ref _,_,I.lnew (r.append R) (by simp_all),rfl,q _ I.fresh⟩
def GY:R2:=λx y H Q=>∃l k xs,x=.ref l/\y=.int k/\H l=some (.lst xs)/\ -(2^63)<=k/\k<2^63/\xs.length*k.toNat<=sizeLine/\
 ∀p,H p=none->Q (.ref p) (aO H p (.lst (Nu k.toNat xs).flatten))
theorem mJ(xs:List α)(k:Nat):(Nu k xs).flatten.length=k*xs.length:=by simp_all
theorem tt:b8 X (binaryOp .Mult) GY:=by
 intro P s J H x y v u Q I R A h;obtain⟨l,k,G,rfl,rfl,p,j,o,w,q⟩:=h;cases R;obtain⟨t,rfl⟩:=A;obtain⟨z,i,n,r,D,e⟩:=I.lstM p;have f:i.toArray.size*k.toNat<=sizeLine:=by simp_all
 have c:¬i.toArray.size*k.toNat>(2^63-1)/8:=by
  have:(sizeLine)<=(2^63-1)/8:=by decide
  omega
 have d:¬(!Builtin.List.listFitsIndex k)=Nj:=by rw[fitsIndex_both j o];simp_all
 have b:¬Pr (i.toArray.size*k.toNat)=Nj:=by rw[zo f];simp_all
 have g:List.foldl (λB C=>B++C) #[] (Nu (if i.toArray.isEmpty=Nj then 0 else k.toNat) i.toArray)=(Nu k.toNat i).flatten.toArray:=by
  have f0:=λm=>by have:=zn i m [];omega
  cases i with
  |nil=>simp
  |cons a E=>simp_all
 refine wpAny_binaryOp_repeat_ref (by lia) ⟨_,e,rfl⟩ (λS=>typeIs_int _ k t) noFill_list_mul F.fills_int_mul F.slot_int_rmul repeat_list F.slot_int_index.lookup
  (O_ F.slot_int_rmul (typeIs_int s k t) F.entry_int_rmul (F.args_int_rmul_2 _ _) (int___rmul___int_list k t l _ n)
   ⟨e,rfl,⟨_,e,rfl⟩,O_ F.slot_list_mul ⟨_,e,rfl⟩ F.entry_list_mul (F.args_list_mul_2 _ _) (AutoListH.list___mul___list_int_3 l _ n k t d c b) ⟨e,?_⟩⟩)
 rw[g];exact⟨.ref _,_,I.lnew (r.rep _) (by rw[mJ,Nat.mul_comm];exact w),rfl,q _ I.fresh⟩
end
set_option maxRecDepth 100000 in
section
variable {X:Cx}
end
end L2
namespace Att
open PySem PySem.W PySem.Calls PyProof.Rows
theorem GZ{P:Params}:∀(ns:Li) (vs:Lv),WellAll P h vs (ns.map WData.int)->QJ vs ns:=by
 intro ns
 induction ns with
 |nil=>intro vs w;cases w;exact .nil
 |cons n ns i=>
  intro vs w;cases w with
  |cons a b=>cases a;exact .cons _ _ (i _ b)
theorem G1{l:OpenLaw}(k:l.most=some n){P:Params}{A:List WData}{v:Lv}
  (H:l.row.toRowW.claim.pre A=Nj) (f:WellAll P h v A):
  ∃a vs ns,v=[NA a]/\A=[WData.list (ns.map WData.int)]/\h.get? a=some {cls:=.type "list",data:=.seq vs.toArray}/\QJ vs ns/\ns.length<=n:=by
 obtain⟨d,r,rfl,g,i⟩:=hasAllW_cons (pre_splitW H).1;obtain rfl:=hasAllW_nil i;obtain⟨x,rfl,j⟩:=hasW_list g;obtain⟨ns,rfl⟩:=items_int j
 have c:ns.length<=n:=by
  have e:=by have e:=(holds_andW (pre_splitW H).2).1;rw[k]at e;exact e
  have o:=condW_of e (w_not (w_lt w_lit (w_len_list (w_arg rfl))));simp_all
 cases f with
 |cons w W=>
  cases W;cases w with
  |list m b=>exact⟨_,_,_,rfl,rfl,m,GZ _ _ b,c⟩
theorem G2(l:OpenLaw)(a:List WData):l.row.toRowW.claim.post a (.bool Nj) a=Nj:=
 postW_of
  (show WShape.has _ _ _=Nj by rfl)
  (show(WTm.eq _ _).value _ _=some _ from w_eq_bool (w_res rfl) w_lit) rfl
theorem G3{l:OpenLaw}{q:Nt}{d:DefRec}
  (C:l.most=some n) (g:d.params.defaults=[])
  (call:∀(w:NF) (S s:Nl) (mg m:Mg) (fa:Nm) (o:Obj) (pm cd doc:Nn) (a:Nm) (vs:Lv) (ns:Li),
   Ground q loose [] XP w S mg m s.heap->YP w s.heap->
   s.heap.get? fa=some o->o.data=.func (docDef d.name d.params d.body d.scope pm cd doc)->s.heap.CodeRec cd d.name->mg d.name=some (.ref fa)->
   s.heap.get? a=some {cls:=.type "list",data:=.seq vs.toArray}->QJ vs ns->ns.length<=n->s.gens= #[]->
   codeAny (model l.prog w) callerA (.call (.ref fa) ⟨[.ref a],[]⟩) (λr s'=>r=.ok (.ret (.bool Nj))/\OldK s.heap s'.heap/\s'.os=s.os/\P8 s'.gens) s):
  WalkO q loose XP YP l.row.toRowW d [] (λf vs=>PySem.call f vs):=by
 intro w S s mg m G Y fa o pm cd doc D kV E x e hD i y A v as c k I j z;obtain rfl:D=.none:=Dflts.none hD g;obtain rfl:kV=.none:=Dflts.noKw hD;obtain⟨a,vs,ns,rfl,rfl,b,h,H⟩:=G1 C c j;refine enter_call (OT (call w _ _ _ _ _ o _ _ _ a _ _ G Y E (fd_plain x) e i b h H y) λr s' F=>?_);obtain⟨rfl,p,t,u⟩:=F;exact⟨.inl ⟨_,_,_,rfl,λ_=>rfl,.bool _,G2 l _,λ_=>⟨List.Pairwise.nil,λ_ B=>nomatch B⟩⟩,p,t,u⟩
section
variable {K:Frag}
end
end Att
namespace L2
theorem zr:∀{vs:Lv} {ns:Li},QJ vs ns->Vals (ns.map V.int) vs
 |_,_,.nil=>.nil
 |_,_,.cons n t h=>.cons ⟨t,rfl⟩ (zr h)
def mK(H:Hp):Prop:=∀b,H b=none\/∃o xs,H b=some (.frz o (.lst xs))
theorem G4{P:Nt}{w:NF}{M:Mg}{CX:dj}{k:Nat}{C:Nm}{R:N_}{x:Str}{sp:Sp}{S:Nl}{vs:Lv}{ns:Li}
  (KX:K.In S.heap) (p:S.heap.Ns mainGlobals mg) (f:S.heap.Ns builtinsNs M) (I:∀x:Str,x≠"__name__"->M x=bootBuiltins x) (l:S.heap.NoLimit) (hg:S.gens= #[])
  (G:S.heap.get? a=some {cls:=.type "list",data:=.seq vs.toArray}) (U:QJ vs ns) (hl:ns.length<=sizeLine) (hr:b4 k callerA)
  (F:∀base:Nw,K.In base->base.Ns mainGlobals mg->cH P w K mg base CX k C R [x] sp) (g:∀(s:Nl) (u:Nn),RK s R ⟨[u],[]⟩ [(x,u)])
  (L:∀H:Hp,mK H->c6 K H a (ns.map V.int)->sp [.ref a] H (λv _=>v=.bl Nj) λ_ _ _=>False)
  (D:∀H e s',CX [] H S (λ_ _ _=>False) e s'->False):
  codeAny (model P w) callerA (.call (.ref C) ⟨[.ref a],[]⟩) (λr s'=>r=.ok (.ret (.bool Nj))/\OldK S.heap s'.heap/\s'.os=S.os/\P8 s'.gens) S:=by
 have rv:=zr U
 have c:∀H:Hp,mK H->c6 K H a (ns.map V.int)->dV P w H S.heap->(∀b,H b≠none->b=a)->(H a≠none->K.lookup a=none)->
   codeAny (model P w) callerA (.call (.ref C) ⟨[.ref a],[]⟩) (λr s'=>r=.ok (.ret (.bool Nj))/\OldK S.heap s'.heap/\s'.os=S.os/\P8 s'.gens) S:=by
  intro H T hS t hA hK;have B:∀{b:Nm} {o:Obj},S.heap.get? b=some o->H b=none->(fZ S.heap H).get? b=some o:=λe n=>FP e n;have O:∀{b:Nm} {o:Obj} {A:Array DictEntry} {E:Nat},S.heap.get? b=some o->o.data=.dict A E->H b=none:=λ{b o A E} e d=>by grind
  have N:∀{b:Nm} {m:Mg},S.heap.Ns b m->(fZ S.heap H).Ns b m:=λ{b m} zq=>by obtain⟨o,A,E,e,d,r⟩:=zq;exact(⟨o,A,E,B e (O e d),d,r⟩)
  have j:K.In (fZ S.heap H):=λb o e=>B (KX b o e) (by grind);have hM:Mod K mg (fZ S.heap H):=⟨j,N p,⟨M,N f,I⟩,(by obtain⟨mc,Y,Z⟩:=l;exact(⟨mc,N Y,Z⟩))⟩;refine OT ((F _ j (N p)).run callerA [] S H ⟨[.ref a],[]⟩ [.ref a] [.ref a] _ _ hr ⟨rfl,hM,λb o e=>lZ e,RX (FO _ _),trivial,λb f=>absurd (show b∈([]:La)from f) (by simp),t,.of_eq hg⟩ (g S (.ref a)) (.cons rfl .nil) (L H T hS)) λr s' h=>?_;cases r with
  |error e=>exact(D H e s' h).elim
  |ok X=>
   cases X with
   |next=>exact False.elim h
   |brk=>exact False.elim h
   |cont=>exact False.elim h
   |ret u=>
    obtain⟨v,H',os,i,un,y,r',q⟩:=h;subst(q);obtain rfl:u=OF Nj:=r';refine⟨rfl,OldK.of_keep λb o e=>?_,os,i⟩;cases q:H b with
    |none=>exact un.keep b o e q (by intro z;exact absurd (show b∈([]:La)from z) (by simp)) (by simp)
    |some u=>
     rcases T b with z| ⟨ob,xs,z⟩
     ·rw[q]at z;cases z
     ·obtain⟨Q,_⟩:=t b _ z;obtain⟨W,_⟩:=y b _ (un.frzs b ob _ z);rw[e]at Q;cases Q;exact W
 cases J:K.lookup a with
 |some o=>have e:=KX a o J;rw[G]at e;cases e;refine c (λ_=>none) (λ_=>.inl rfl) (.inr ⟨_,vs.toArray,_,J,rfl,rfl,rfl,by rw[Zu,U.length];exact hl,by grind⟩) (λb u z=>by grind) (λb z=>absurd rfl z) λz=>absurd rfl z
 |none=>
  refine c (λb=>if b=a then some _ else none) (λb=>?_) (.inl (.inr ⟨{cls:=.type "list",data:=.seq vs.toArray},if_pos rfl⟩)) (λb u z=>?_) (λb z=>?_) λ_=>J
  ·grind
  ·by_cases f:b=a
   ·cases(if_pos f).symm.trans z;subst f;exact⟨G,by grind,vs,_,rv,G⟩
   ·cases(if_neg f).symm.trans z
  simp_all
theorem mL{l:PySem.W.OpenLaw}{k:Nat}{q:Nt}{d:DefRec}{K:Params->Fg}{CX:NF->dj}{sp:NF->Sp}{x:Str}
  (J:l.most=some n) (p:n<=sizeLine) (j:d.params.defaults=[]) (L:b4 k callerA)
  (B:∀(w:NF) (h:Nw),YP w h->(K w.params).In h)
  (F:∀(w:NF) (mg:Mg) (fa:Nm) (h:Nw),(K w.params).In h->h.Ns mainGlobals mg->mg d.name=some (.ref fa)->
   ∃fd:N_,(∀(s:Nl) (u:Nn),RK s fd ⟨[u],[]⟩ [(x,u)])/\
    ∀base:Nw,(K w.params).In base->base.Ns mainGlobals mg->cH l.prog w (K w.params) mg base (CX w) k fa fd [x] (sp w))
  (r:∀(w:NF) (H:Hp) (a:Nm) (ns:Li),ns.length<=n->mK H->c6 (K w.params) H a (ns.map V.int)->sp w [.ref a] H (λv _=>v=.bl Nj) λ_ _ _=>False)
  (i:∀(w:NF) (H:Hp) (s:Nl) (e:Nn) (s':Nl),CX w [] H s (λ_ _ _=>False) e s'->False):
  PySem.W.WalkO q loose XP YP l.row.toRowW d [] (λf vs=>PySem.call f vs):=by
 refine Att.G3 J j λw S t mg P fa o Q M D a vs ns G Y O N E m g c b I=>?_;have KX:=B w _ Y;obtain⟨fd,C,y⟩:=F w _ _ _ KX G.T.g m;exact G4 KX G.T.g G.T.b G.T.builtins G.T.nolimit I g c (ZA b p) L y C (λH z A=>r w H a _ b z A) λH e s'=>i w H _ e _
noncomputable def g_(s:Om):Arguments:=match s with
 | .FunctionDef _ a _ _ _ _ _ _ _ _=>a
 |_=>{posonlyargs:=[],args:=[],vararg:=none,kwonlyargs:=[],kw_defaults:=[],kwarg:=none,defaults:=[]}
noncomputable def bS(s:Om):List Om:=match s with
 | .FunctionDef _ _ b _ _ _ _ _ _ _=>b
 |_=>[]
noncomputable def bi(s:Om):Scope:=match s with
 | .FunctionDef _ _ _ _ _ _ sc _ _ _=>sc
 |_=>{kind:=.function,names:=[],isGenerator:=Nk,isCoroutine:=Nk}
abbrev Fu:dj:=λ_ _ _ _ _ _=>False
abbrev E0:XK:=λ_ _ _=>False
structure mM (K:Fg)(x qual:Str)(st:Om)(f:Nm)(fd:N_):Prop where
 ex:∃(oc:Nn) (od:Option Nm) (kV doc pm:Nn) (an:Option Nm) (cdv ct:Nn) (osl:Array (Ov)),
  fd=PySem.W.fnOf x qual (g_ st) (bS st) (bi st) .none kV doc pm an cdv ct/\K.lookup f=some ⟨oc,od,.func fd,osl⟩/\PySem.W.codeIn K cdv qual=Nj
 kp:PySem.W.keepIn K (.ref f)=Nj
section
variable {P:Nt}
theorem mM.binds{x:Str}{a:N_}(F:mM K x qual st f a)
  (h:∀(kV doc pm:Nn) (an:Option Nm) (cdv ct:Nn) (us:Lv),us.length=ps.length->bindArgs (PySem.W.fnOf x qual (g_ st) (bS st) (bi st) .none kV doc pm an cdv ct) ⟨us,[]⟩=pure (ps.zip us)):Binds K a ps []:=by
 obtain⟨O,b,kV,doc,pm,an,cdv,ct,o,rfl,lk,H⟩:=F.ex;exact .all (h _ _ _ _ _ _)
theorem tw{x:Str}{an:Option Nm}{kV:Nn}(l:K.lookup f=some ⟨oc,od,.func (PySem.W.fnOf x qual (g_ st) (bS st) (bi st) .none kV doc pm an cdv ct),osl⟩)
  (c:PySem.W.codeIn K cdv qual=Nj) (k:PySem.W.keepIn K (.ref f)=Nj):mM K x qual st f (PySem.W.fnOf x qual (g_ st) (bS st) (bi st) .none kV doc pm an cdv ct):=⟨⟨_,_,_,_,_,_,_,_,_,rfl,l,c⟩,k⟩
end
section
variable {X:Cx}
end
end L2
variable {H H' H1 H0 Hx:L2.Hp}{X:L2.Cx}{σ σ':L2.St}{v:L2.V}{ta te to:L2.TE}{tb:L2.St->L2.Hp->(L2.St->L2.Hp->Prop)->Prop}{tc:L2.TT}{wi:L2.TI}{r:L2.V->List L2.V->L2.Hp->L2.VK->Prop}{CX:L2.dj}{sp:L2.Sp}{u':L2.HO}{B:La->L2.Hp->Prop}
namespace Py
theorem aE{C:Prop}{a b c d:Sort _}{p q r:a->b->c->d->Prop}(h:∃x y z w,p x y z w/\q x y z w/\r x y z w)(k:∀x y z w,p x y z w->q x y z w->r x y z w->C):C:=by
 grind
theorem tx{C:Prop}{a b c d e f g h i:Sort _}{p q r:a->b->c->d->e->f->g->h->i->Prop}(z:∃x1 x2 x3 x4 x5 x6 x7 x8 x9,p x1 x2 x3 x4 x5 x6 x7 x8 x9/\q x1 x2 x3 x4 x5 x6 x7 x8 x9/\r x1 x2 x3 x4 x5 x6 x7 x8 x9)(k:∀x1 x2 x3 x4 x5 x6 x7 x8 x9,p x1 x2 x3 x4 x5 x6 x7 x8 x9->q x1 x2 x3 x4 x5 x6 x7 x8 x9->r x1 x2 x3 x4 x5 x6 x7 x8 x9->C):C:=by grind
theorem ax{C:Prop}{a b c:Sort _}{p q r t:a->b->c->Prop}(h:∃x y z,p x y z/\q x y z/\r x y z/\t x y z)(k:∀x y z,p x y z->q x y z->r x y z->t x y z->C):C:=by
 grind
inductive D where
 |non|bl (b:Bool)|int (i:Int)|str (x:Str)
 |tup (xs:List D)|lst (xs:List D)|ref (n:Nat)|scr (xs:List D)
 |fn (x:Str)|dct|ty (n:String)|dks (ks:List (Li))
 deriving Inhabited
abbrev ae:=List (List D)
set_option genInjectivity false in
structure GS where
 mg:Mg
 F:La
noncomputable def tz(K:Fg)(H:Hp)(a:Nm)(vs:List V):Prop:=(∃o,H a=some (.frz o (.lst vs)))\/
 ∃(o:Obj) (its:Av) (n:Nat),K.lookup a=some o/\o.cls=.type "list"/\o.dict=none/\o.data=.seq its n/\its.size<=sizeLine/\Vals vs its.toList
theorem tz.sq{vs:List V}(h:tz K H a vs):c6 K H a vs:=by
 rcases h with⟨o,h⟩|h
 ·exact .inl (.inr ⟨o,h⟩)
 ·exact .inr h
noncomputable def hD(k:Li):Int:=reduceHash (Builtin.Tuple.tupleHashOf (k.map hashInt))
noncomputable def M0(h:Nw)(a:Nm)(cs:List (Li×Nm)):Prop:=(a==sysModules)=Nk/\∃o es ep,h.get? a=some o/\o.ExactDict/\o.data=.dict es ep/\es.toList=cs.map λc=>⟨hD c.1,.ref c.2,.bool Nj⟩
section
variable (K:Fg)(mg:GS)(μ:La)(H:Hp)
mutual
def Rep:D->V->Prop
 | .non,v=>v=.non
 | .bl b,v=>v=.bl b
 | .int i,v=>v=.int i
 | .str x,v=>v=.str x
 | .tup ds,v=>∃a vs,v=.ref a/\bZ K H a vs/\ai ds vs
 | .lst ds,v=>∃a vs,v=.ref a/\H a=some (.lst vs)/\(a∉μ/\a∉mg.F)/\ai ds vs
 | .scr ds,v=>∃a vs,v=.ref a/\tz K H a vs/\ai ds vs
 | .ref n,v=>∃a,v=.ref a/\μ[n]?=some a
 | .fn x,v=>∃a,v=.ref a/\mg.mg x=some (.ref a)
 | .dct,v=>∃a,v=.ref a/\H a=some (.dK [])
 | .ty n,v=>v=.ty n
 | .dks ks,v=>∃a cs,v=.ref a/\H a=some (.ext λh=>M0 h a cs)/\a∉mg.F/\(cs.map (·.1)=ks/\ks.Nodup)/\∀c∈cs,bZ K H c.2 (c.1.map V.int)
def ai:List D->List V->Prop
 | [],vs=>vs=[]
 |d::ds,vs=>∃w W,vs=w::W/\Rep d w/\ai ds W
end
end
structure aJ (K:Fg)(mg:GS)(μ:La)(S:ae)(H:Hp):Prop where
 live:∀a∈mg.F,∃o,H a=some o
 len:μ.length=S.length
 nd:μ.Nodup
 at_:∀(n:Nat) (a:Nm) (ds:List D),μ[n]?=some a->S[n]?=some ds->∃vs,H a=some (.lst vs)/\ai K mg μ H ds vs
structure Ext (μ:La)(H:Hp)(μ':La)(H':Hp):Prop where
 pre:∃r,μ'=μ++r
 keep:∀a o,H a=some o->((∀xs,o≠.lst xs)\/a∉μ)->H' a=some o
 there:∀a o,H a=some o->∃o',H' a=some o'
 fresh:∀a∈μ',a∈μ\/H a=none
section
variable {mg:GS}{μ'':La}{H'':Hp}
theorem Ext.refl:Ext μ H μ H:=⟨⟨[],by simp⟩,λ_ _ h _=>h,λ_ o h=>⟨o,h⟩,λ_ h=>.inl h⟩
theorem Ext.trans(a:Ext μ H μ' H')(b:Ext μ' H' μ'' H''):Ext μ H μ'' H'':=by
 obtain⟨r,e⟩:=a.pre;obtain⟨R,E⟩:=b.pre;refine⟨⟨r++R,by simp_all⟩,λx o h c=>?_,λx o h=>?_,λx h=>?_⟩
 ·refine b.keep x o (a.keep x o h c) ?_;rcases c with c|c
  ·exact .inl c
  ·refine .inr λz=>?_;rcases a.fresh x z with z|z
   ·exact c z
   simp_all
 ·obtain⟨o1,d⟩:=a.there x o h;exact b.there x _ d
 ·rcases b.fresh x h with h|h
  ·exact a.fresh x h
  ·refine .inr ?_;cases e:H x with
   |none=>rfl
   |some o=>obtain⟨o1,d⟩:=a.there x o e;simp_all
theorem Ext.sqT{vs:List V}(x:Ext μ H μ' H')(h:bZ K H a vs):bZ K H' a vs:=by
 rcases h with(h| ⟨o,h⟩)|h
 ·exact .inl (.inl (x.keep _ _ h (.inl λ_ z=>by lia)))
 ·exact .inl (.inr ⟨o,x.keep _ _ h (.inl λ_ z=>by lia)⟩)
 ·exact .inr h
theorem Ext.frz{vs:List V}(x:Ext μ H μ' H')(h:tz K H a vs):tz K H' a vs:=by
 rcases h with⟨o,h⟩|h
 ·exact .inl ⟨o,x.keep _ _ h (.inl λ_ z=>by lia)⟩
 ·exact .inr h
theorem Ext.lst{vs:List V}(x:Ext μ H μ' H')(h:H a=some (.lst vs))(b:a∉μ):H' a=some (.lst vs)/\a∉μ':=by
 refine⟨x.keep _ _ h (.inr b),λz=>?_⟩;rcases x.fresh a z with z|z
 ·exact b z
 simp_all
theorem Ext.get(x:Ext μ H μ' H')(h:μ[n]?=some a):μ'[n]?=some a:=by
 obtain⟨r,rfl⟩:=x.pre
 grind
mutual
theorem Rep.mono(x:Ext μ H μ' H'):∀(d:D) (v:V),Rep K mg μ H d v->Rep K mg μ' H' d v
 | .non,_,h=>h
 | .bl _,_,h=>h
 | .int _,_,h=>h
 | .str _,_,h=>h
 | .tup _,v,h=>by obtain⟨a,vs,e,q,r⟩:=h;exact⟨a,_,e,x.sqT q,ai.mono x _ _ r⟩
 | .lst _,v,h=>by obtain⟨a,vs,e,q,n,r⟩:=h;exact⟨a,_,e,(x.lst q n.1).1,⟨(x.lst q n.1).2,n.2⟩,ai.mono x _ _ r⟩
 | .scr _,v,h=>by obtain⟨a,vs,e,q,r⟩:=h;exact⟨a,_,e,x.frz q,ai.mono x _ _ r⟩
 | .ref n,v,h=>by obtain⟨a,e,q⟩:=h;exact⟨a,e,x.get q⟩
 | .fn y,v,h=>h
 | .ty y,v,h=>h
 | .dct,v,h=>by obtain⟨a,e,q⟩:=h;exact⟨a,e,x.keep _ _ q (.inl λ_ z=>by trivial)⟩
 | .dks _,v,h=>by obtain⟨a,C,e,q,n,r,k⟩:=h;exact⟨a,_,e,x.keep _ _ q (.inl λ_ z=>by trivial),n,r,λc b=>x.sqT (k c b)⟩
theorem ai.mono(x:Ext μ H μ' H'):∀(ds:List D) (vs:List V),ai K mg μ H ds vs->ai K mg μ' H' ds vs
 | [],vs,h=>h
 |d::ds,vs,h=>by obtain⟨w,W,e,r,q⟩:=h;exact⟨w,_,e,Rep.mono x d w r,ai.mono x _ _ q⟩
end
theorem ai.length:∀{ds:List D} {vs:List V},ai K mg μ H ds vs->ds.length=vs.length
 | [],vs,h=>by subst h;rfl
 |d::ds,vs,h=>by obtain⟨w,W,rfl,r,q⟩:=h;simp[ai.length q]
theorem ai.get:∀{ds:List D} {vs:List V} {i:Nat} {d:D},ai K mg μ H ds vs->ds[i]?=some d->∃v,vs[i]?=some v/\Rep K mg μ H d v
 | [],vs,i,d,h,e=>by simp_all
 |c::ds,vs,i,d,h,e=>by
  obtain⟨w,W,rfl,r,q⟩:=h;cases i with
  |zero=>simp_all
  |succ i=>simpa using ai.get q (by simp_all)
theorem ai.of:∀{ds:List D} {vs:List V},ds.length=vs.length->(∀(i:Nat) d v,ds[i]?=some d->vs[i]?=some v->Rep K mg μ H d v)->ai K mg μ H ds vs
 | [],[],_,_=>rfl
 | [],_::_,h,_=>by trivial
 |_::_,[],h,_=>by trivial
 |d::ds,v::vs,h,k=>by exact⟨v,_,rfl,k 0 d v rfl rfl,ai.of (by simp_all) λi a e b c=>k (i+1) _ _ (by trivial) (by trivial)⟩
theorem ai.nil:ai K mg μ H [] []:=rfl
theorem ai.cons{d:D}{ds:List D}{vs:List V}(h:Rep K mg μ H d v)(t:ai K mg μ H ds vs):ai K mg μ H (d::ds) (v::vs):=by dsimp only[ai];lia
theorem ai.uncons{d:D}{ds:List D}{vs:List V}(h:ai K mg μ H (d::ds) vs):∃v w,vs=v::w/\Rep K mg μ H d v/\ai K mg μ H ds w:=by exact h
theorem ai.append:∀{ds es:List D} {vs w:List V},ai K mg μ H ds vs->ai K mg μ H es w->ai K mg μ H (ds++es) (vs++w)
 | [],es,vs,w,h,k=>by subst h;exact k
 |d::ds,es,vs,w,h,k=>by obtain⟨v,u,rfl,r,q⟩:=h.uncons;exact .cons r (ai.append q k)
theorem ai.take:∀{ds:List D} {vs:List V} (n:Nat),ai K mg μ H ds vs->ai K mg μ H (ds.take n) (vs.take n)
 | [],vs,n,h=>by subst h;simpa using ai.nil
 |d::ds,vs,0,h=>rfl
 |d::ds,vs,n+1,h=>by obtain⟨v,u,rfl,r,q⟩:=h.uncons;exact .cons r (ai.take n q)
theorem ai.drop:∀{ds:List D} {vs:List V} (n:Nat),ai K mg μ H ds vs->ai K mg μ H (ds.drop n) (vs.drop n)
 | [],vs,n,h=>by subst h;simpa using ai.nil
 |d::ds,vs,0,h=>h
 |d::ds,vs,n+1,h=>by obtain⟨v,u,rfl,r,q⟩:=h.uncons;exact ai.drop n q
theorem ai.reverse:∀{ds:List D} {vs:List V},ai K mg μ H ds vs->ai K mg μ H ds.reverse vs.reverse
 | [],vs,h=>by subst h;rfl
 |d::ds,vs,h=>by obtain⟨v,u,rfl,r,q⟩:=h.uncons;rw[PY,PY];exact ai.append (ai.reverse q) (.cons r .nil)
theorem ai.set:∀{ds:List D} {vs:List V} (i:Nat) {d:D} {v:V},ai K mg μ H ds vs->Rep K mg μ H d v->ai K mg μ H (ds.set i d) (vs.set i v)
 | [],vs,i,_,_,h,_=>by subst h;rfl
 |d::ds,vs,0,_,_,h,k=>by obtain⟨v,u,rfl,r,q⟩:=h.uncons;exact .cons k q
 |d::ds,vs,i+1,_,_,h,k=>by obtain⟨v,u,rfl,r,q⟩:=h.uncons;exact .cons r (ai.set i q k)
theorem Ext.laid{p:Nm}{o:HO}(b:H p=none):Ext μ H μ (aO H p o):=
 ⟨⟨[],by simp⟩,λa u h _=>by rw[au (bR h b)];exact h,λa u h=>⟨u,by rw[au (bR h b)];exact h⟩,λ_ h=>.inl h⟩
theorem aJ.notin{S:ae}{p:Nm}(s:aJ K mg μ S H)(b:H p=none):p∉μ:=λz=>by obtain⟨n,a,e⟩:=ZJ.mp z;have E:S[n]?=some (S[n]'(by rw[<-s.len];exact a)):=Zi _;obtain⟨vs,h,_⟩:=s.at_ n p _ (by simp_all) E;simp_all
theorem aJ.notF{S:ae}{p:Nm}(s:aJ K mg μ S H)(a:H p=none):p∉mg.F:=λz=>by obtain⟨o,h⟩:=s.live p z;simp_all
theorem aJ.laid{S:ae}{p:Nm}{o:HO}(s:aJ K mg μ S H)(b:H p=none):aJ K mg μ S (aO H p o):=by refine⟨λa h=>(Ext.laid (μ:=μ) b).there a _ (s.live a h).choose_spec,s.len,s.nd,λn a D c d=>?_⟩;obtain⟨vs,h,r⟩:=s.at_ n a _ c d;exact⟨_,by rw[au (bR h b)];exact h,ai.mono (Ext.laid b) _ _ r⟩
theorem Ext.boxed{p:Nm}{o:HO}(b:H p=none):Ext μ H (μ++[p]) (aO H p o):=
 ⟨⟨_,rfl⟩,λa u h _=>by rw[au (bR h b)];exact h,λa u h=>⟨u,by rw[au (bR h b)];exact h⟩,λa h=>by
  grind⟩
theorem aJ.boxed{S:ae}{p:Nm}{ds:List D}{vs:List V}(s:aJ K mg μ S H)(c:H p=none)(r:ai K mg μ H ds vs):
  aJ K mg (μ++[p]) (S++[ds]) (aO H p (.lst vs)):=by
 have N:=s.notin c;refine⟨λa h=>(Ext.laid (μ:=μ) c).there a _ (s.live a h).choose_spec,by simp[s.len],?_,λn a g d e=>?_⟩
 ·rw[OC];exact⟨s.nd,by simp,λa i b j=>by grind⟩
 ·by_cases f:n<μ.length
  ·rw[NG f]at d;rw[NG (by rw[<-s.len];exact f)]at e;obtain⟨w,h,q⟩:=s.at_ n a _ d e;exact⟨_,by rw[au (bR h c)];exact h,ai.mono (Ext.boxed c) _ _ q⟩
  ·have E:n=μ.length:=by grind
   subst E;simp[s.len]at d e;subst d;subst e;exact⟨_,a7,ai.mono (Ext.boxed c) _ _ r⟩
theorem Ext.wrote{xs:List V}{y:List V}(d:a∈μ)(h:H a=some (.lst xs)):Ext μ H μ (aO H a (.lst y)):=by
 refine⟨⟨[],by simp⟩,λb o e c=>?_,λb o e=>?_,λ_ h=>.inl h⟩
 ·have:b≠a:=by grind
  rw[au this];exact e
 ·by_cases z:b=a
  ·subst z;exact⟨_,a7⟩
  ·exact⟨o,by rw[au z];exact e⟩
theorem aJ.wrote{S:ae}{ds:List D}{xs vs:List V}(s:aJ K mg μ S H)(hn:μ[n]?=some a)(h:H a=some (.lst xs))(r:ai K mg μ H ds vs):
  aJ K mg μ (S.set n ds) (aO H a (.lst vs)):=by
 have ha:=Zq hn;have hl:=s.len;refine⟨λb hb=>(Ext.wrote ha h).there b _ (s.live b hb).choose_spec,by simp_all,s.nd,λm b es h1 h2=>?_⟩;by_cases e:m=n
 ·subst e;rw[hn]at h1;cases h1;rw[Z8 (by grind)]at h2;cases h2;exact⟨_,a7,ai.mono (Ext.wrote ha h) _ _ r⟩
 ·rw[NZ (Ne.symm e)]at h2;obtain⟨ws,q,r'⟩:=s.at_ m b _ h1 h2;have:b≠a:=by rintro rfl;exact e (L2_nodup s.nd h1 hn)
  exact⟨_,by rw[au this];exact q,ai.mono (Ext.wrote ha h) _ _ r'⟩
where
 L2_nodup {l:List _} (nd:l.Nodup) {i j:Nat} {x:Nm} (a:l[i]?=some x) (b:l[j]?=some x):i=j:=by obtain⟨h1,e1⟩:=Zm.mp a;obtain⟨h2,e2⟩:=Zm.mp b;exact(S0 nd).mp (e1.trans e2.symm)
end
end Py
variable {xs ys ds:List Py.D}{T S S1 S' S2:Py.ae}{d:Py.D}{Γ:Str->Option Py.D}{O:Nm->List Py.D->List L2.V->L2.HO->Prop}{x2 x4 x5:Option Py.D}
namespace Py
open PySem.Sem (wp)
open PySem.Builtin
end Py
namespace Py
set_option genInjectivity false in
structure Exc where
 cls:Str
 fs:List D
inductive Res (α:Type) where
 |ok (a:α) (S:ae)
 |err (x:Exc) (S:ae)
 |fail
abbrev ck:Nat:=16777216
theorem mO:sizeLine=ck:=N5
def aQ(K:Fg)(mg:GS)(μ:La)(H:Hp)(Q:VK):Res D->Prop
 | .ok d S'=>∀μ' H' v,Ext μ H μ' H'->aJ K mg μ' S' H'->Rep K mg μ' H' d v->Q v H'
 |_=>False
section
variable {mg:GS}{Q:VK}
theorem aQ.now(w:aQ K mg μ H Q (.ok d S))(s:aJ K mg μ S H)(r:Rep K mg μ H d v):Q v H:=w _ H v .refl s r
theorem aQ.tup{vs:List V}(w:aQ K mg μ H Q (.ok (.tup ds) S))(s:aJ K mg μ S H)(r:ai K mg μ H ds vs)(p:Nm)(h:H p=none):Q (.ref p) (aO H p (.tup vs)):=
 w _ _ _ (.laid h) (s.laid h) (by exact⟨p,_,rfl,bZ.of a7,ai.mono (.laid h) _ _ r⟩)
theorem aQ.lst{vs:List V}(w:aQ K mg μ H Q (.ok (.lst ds) S))(s:aJ K mg μ S H)(r:ai K mg μ H ds vs)(p:Nm)(h:H p=none):Q (.ref p) (aO H p (.lst vs)):=
 w _ _ _ (.laid h) (s.laid h) (by exact⟨p,_,rfl,a7,⟨s.notin h,s.notF h⟩,ai.mono (.laid h) _ _ r⟩)
theorem aQ.box{vs:List V}(w:aQ K mg μ H Q (.ok (.ref S.length) (S++[ds])))(s:aJ K mg μ S H)(r:ai K mg μ H ds vs)(p:Nm)(h:H p=none):Q (.ref p) (aO H p (.lst vs)):=
 w _ _ _ (.boxed h) (s.boxed h r) (by exact⟨p,rfl,by rw[ZK (by rw[s.len];simp_all),s.len];simp⟩)
theorem aQ.wrote{xs vs:List V}(w:aQ K mg μ H Q (.ok d (S.set n ds)))(s:aJ K mg μ S H)(b:μ[n]?=some a)(h:H a=some (.lst xs))(r:ai K mg μ H ds vs)
  (R:Rep K mg μ H d v):Q v (aO H a (.lst vs)):=
 w _ _ _ (.wrote (Zq b) h) (s.wrote b h r) (Rep.mono (.wrote (Zq b) h) _ _ R)
noncomputable def c8(S:ae):D->Option (List D)
 | .lst xs=>some xs
 | .ref n=>S[n]?
 |_=>none
noncomputable def ay(S:ae):D->Option (List D)
 | .lst xs=>some xs
 | .ref n=>S[n]?
 | .tup xs=>some xs
 | .scr xs=>some xs
 |_=>none
theorem cR(s:aJ K mg μ S H)(r:Rep K mg μ H d v)(e:c8 S d=some xs):∃a vs,v=.ref a/\H a=some (.lst vs)/\ai K mg μ H xs vs:=by
 cases d with
 |lst y=>
  cases e;dsimp only[Rep]at r
  grind
 |ref n=>obtain⟨a,E,h⟩:=r;obtain⟨vs,b,q⟩:=s.at_ n a _ h e;simp_all
 |_=>cases e
theorem fE(s:aJ K mg μ S H)(r:Rep K mg μ H d v)(e:ay S d=some xs):∃a vs,v=.ref a/\(c6 K H a vs\/bZ K H a vs)/\ai K mg μ H xs vs:=by
 cases d with
 |lst y=>obtain⟨a,vs,E,h,q⟩:=cR s r (show c8 S (.lst y)=some xs from e);exact⟨a,vs,E,.inl (.of h),q⟩
 |ref n=>obtain⟨a,vs,E,h,q⟩:=cR s r (show c8 S (.ref n)=some xs from e);exact⟨a,vs,E,.inl (.of h),q⟩
 |tup y=>cases e;obtain⟨a,vs,e,h,q⟩:=r;exact⟨a,vs,e,.inr h,q⟩
 |scr y=>cases e;obtain⟨a,vs,e,h,q⟩:=r;exact⟨a,vs,e,.inl h.sq,q⟩
 |_=>cases e
theorem aF{i:Int}(r:Rep K mg μ H (.int i) v):v=.int i:=by exact r
theorem f8{i:Bool}(r:Rep K mg μ H (.bl i) v):v=.bl i:=by exact r
theorem dI{i:Str}(r:Rep K mg μ H (.str i) v):v=.str i:=by exact r
theorem hG(r:Rep K mg μ H .non v):v=.non:=by exact r
theorem bO(r:Rep K mg μ H (.tup ds) v):∃a vs,v=.ref a/\bZ K H a vs/\ai K mg μ H ds vs:=by exact r
theorem bo{i:Int}:Rep K mg μ H (.int i) (.int i):=rfl
theorem cI{i:Bool}:Rep K mg μ H (.bl i) (.bl i):=rfl
theorem fF{i:Str}:Rep K mg μ H (.str i) (.str i):=rfl
theorem j7:Rep K mg μ H .non .non:=rfl
end
def rD(K:Fg)(mg:Mg)(g:D->D->ae->Res D):R2:=λx y H Q=>∃F μ S d e,aJ K ⟨mg,F⟩ μ S H/\Rep K ⟨mg,F⟩ μ H d x/\Rep K ⟨mg,F⟩ μ H e y/\aQ K ⟨mg,F⟩ μ H Q (g d e S)
noncomputable def eX(d e:D)(S:ae):Res D:=match d,e with
 | .int i,.int j=>.ok (.int (i+j)) S
 | .str x,.str y=>if x.length+y.length<=ck then .ok (.str (x++y)) S else .fail
 | .tup a,.tup b=>if a.length+b.length<=ck then .ok (.tup (a++b)) S else .fail
 |d,e=>match c8 S d,c8 S e with
  |some a,some b=>if a.length+b.length<=ck then .ok (.lst (a++b)) S else .fail
  |_,_=>.fail
noncomputable def iP(d e:D)(S:ae):Res D:=match d,e with
 | .int i,.int j=>.ok (.int (i-j)) S
 |_,_=>.fail
noncomputable def mP(d e:D)(S:ae):Res D:=match d,e with
 | .int i,.int j=>if(-(2^64)<i/\i<2^64)\/(-(2^64)<j/\j<2^64)then .ok (.int (i*j)) S else if Pa i<=100000/\Pa j<=100000 then .ok (.int (i*j)) S else .fail
 | .lst a,.int k=>if-(2^63)<=k/\k<2^63/\a.length*k.toNat<=ck then .ok (.lst (Nu k.toNat a).flatten) S else .fail
 |_,_=>.fail
theorem G5:b8 X (binaryOp .FloorDiv) (rI (λ_ j=>0<j/\j<2^100) λi j=>.int (i/j)):=sL λi j _ _ _ _ _ H q=>by
 refine floordiv_int (by omega) (by grind) (.inl (PyProof.noPylong_of_log2 ?_));have h:j.natAbs<2^100:=by omega
 exact QO ((Nat.log2_lt (by omega)).mpr h) (by lia)
noncomputable def f9(d e:D)(S:ae):Res D:=match d,e with
 | .int i,.int j=>if 0<j/\j<1073741824 then .ok (.int (i/j)) S else if 0<j/\j<2^100 then .ok (.int (i/j)) S else .fail
 |_,_=>.fail
noncomputable def hH(d e:D)(S:ae):Res D:=match d,e with
 | .int i,.int j=>if 0<j then .ok (.int (i%j)) S else .fail
 |_,_=>.fail
noncomputable def tD(d e:D)(S:ae):Res D:=match d,e with
 | .int i,.int j=>if 0<=j/\j<=1000000/\i.natAbs<2^64 then .ok (.int (i^j.toNat)) S else .fail
 |_,_=>.fail
noncomputable def tF(d e:D)(S:ae):Res D:=match d,e with
 | .int i,.int j=>if 0<=j then .ok (.int (i/2^j.toNat)) S else .fail
 |_,_=>.fail
noncomputable def tH(d e:D)(S:ae):Res D:=match d,e with
 | .int i,.int j=>.ok (.int (SI i j)) S
 |_,_=>.fail
noncomputable def G6(d e:D)(S:ae):Res D:=match d,e with
 | .int i,.int j=>.ok (.int (S8 i j)) S
 |_,_=>.fail
noncomputable def dX:Q8->D->D->ae->Res D
 | .Add=>eX| .Sub=>iP| .Mult=>mP| .FloorDiv=>f9| .Mod=>hH| .Pow=>tD| .RShift=>tF| .LShift=>λ_ _ _=>.fail | .BitAnd=>tH| .BitOr=>G6
 |_=>λ_ _ _=>.fail
theorem G7{t b:Nm}{W:Lv}(k:RU s.heap t #[])(g:RU s.heap b W.toArray)
  (h1:Q (.ref b) s):wpAny (model prog w) A (binaryOp .Add (.ref t) (.ref b)) Q E s:=by
 obtain⟨⟨cls,l,D,sl⟩,e,i,n,j⟩:=id k;obtain⟨⟨c,f,d,S⟩,h,H,N,a⟩:=id g;subst i j H a
 exact SJ ⟨_,e,rfl⟩ ⟨_,h,rfl⟩ Rn Sj PySem.F.slot_tuple_add PySem.F.entry_tuple_add (PySem.F.args_tuple_add_2 _ _)
   (tuple_addW0 t b _ _ n _ _ _ _ _ rfl) ⟨e,h,h1⟩
theorem G8:b8 X (binaryOp .Add) (λx y H Q=>∃a b ys,x=.ref a/\y=.ref b/\bZ X.K H a []/\bZ X.K H b ys/\Q (.ref b) H):=by intro j s l H x y v u Q I R g h;obtain⟨a,b,ys,rfl,rfl,c,d,q⟩:=h;subst R;subst g;obtain⟨f,r,p,_⟩:=I.tuple c;obtain⟨i,k,P,_⟩:=I.tuple d;have e:=r.zero;subst e;exact G7 p P ⟨.ref b,H,I,rfl,q⟩
theorem mQ:b8 X (binaryOp .Mult) (rI (λi j=>Pa i<=100000/\Pa j<=100000) λi j=>.int (i*j)):=sL λ_ _ _ _ _ _ _ h q=>PyProof.Rows.mul_int q (PySem.IntMulOk.of_le h.1 h.2 (by lia))
theorem G9(O:Q8):b8 X (binaryOp O) (rD X.K X.mg (dX O)):=by
 intro P s g H x y v u Q I r R h;obtain⟨F,n,S,d,e,c,i,j,w⟩:=h;have D:=mO;cases O with
 |Add=>
  replace w:aQ X.K ⟨X.mg,F⟩ n H Q (eX d e S):=w;unfold eX at w;split at w
  ·have:=aF i;have:=aF j;subst x y
   exact sO P s g H _ _ v u Q I r R ⟨_,_,rfl,rfl,w.now c bo⟩
  ·have:=dI i;have:=dI j;subst x y
   split at w
   ·exact Gp P s g H _ _ v u Q I r R ⟨_,_,rfl,rfl,by omega,w.now c fF⟩
   ·exact w.elim
  ·split at w
   ·obtain⟨a,vs,rfl,o,q⟩:=bO i;obtain⟨b,W,rfl,l,z⟩:=bO j;have L:=q.length;have A:=z.length;cases vs with
    |nil=>refine G8 P s g H _ _ v u Q I r R ⟨a,b,W,rfl,rfl,o,l,?_⟩;rename_i as bs _;have:as=[]:=ZT (by simpa using L);subst this;exact w.now c j
    |cons v0 vs=>
     refine mE P s g H _ _ v u Q I r R ⟨a,b,v0::vs,W,rfl,rfl,o,l,by simp,by omega,?_,?_⟩
     ·intro hw;subst hw;rename_i as bs _;have:bs=[]:=ZT (by simpa using A);subst this;rw[N4]at w;exact w.now c i
     ·intro _ p t;exact w.tup c (q.append z) p t
   ·exact w.elim
  ·split at w
   ·rename_i as bs E B;split at w
    ·obtain⟨a,vs,rfl,o,q⟩:=cR c i E;obtain⟨b,W,rfl,l,z⟩:=cR c j B;have L:=q.length;have A:=z.length;exact mI P s g H _ _ v u Q I r R ⟨a,b,vs,W,rfl,rfl,o,l,by omega,λp t=>w.lst c (q.append z) p t⟩
    ·exact w.elim
   ·exact w.elim
 |Sub=>
  replace w:aQ X.K ⟨X.mg,F⟩ n H Q (iP d e S):=w;unfold iP at w;split at w
  ·have:=aF i;have:=aF j;subst x y
   exact sP P s g H _ _ v u Q I r R ⟨_,_,rfl,rfl,w.now c bo⟩
  ·exact w.elim
 |Mult=>
  replace w:aQ X.K ⟨X.mg,F⟩ n H Q (mP d e S):=w;unfold mP at w;split at w
  ·have:=aF i;have:=aF j;subst x y
   split at w
   ·rename_i f;exact sQ P s g H _ _ v u Q I r R ⟨_,_,rfl,rfl,f,w.now c bo⟩
   ·split at w
    ·rename_i f;exact mQ P s g H _ _ v u Q I r R ⟨_,_,rfl,rfl,f,w.now c bo⟩
    ·exact w.elim
  ·split at w
   ·rename_i as k f;obtain⟨a,vs,rfl,o,q⟩:=cR c i rfl;have:=aF j;subst y;have L:=q.length;refine tt P s g H _ _ v u Q I r R ⟨a,k,vs,rfl,rfl,o,f.1,f.2.1,by rw[<-L];omega,λp t=>w.lst c ?_ p t⟩;generalize k.toNat=m;clear f w
    induction m with
    |zero=>simpa using ai.nil
    |succ m C=>rw[Qt,Qt,SN,SN];exact q.append C
   ·exact w.elim
  ·exact w.elim
 |FloorDiv=>
  replace w:aQ X.K ⟨X.mg,F⟩ n H Q (f9 d e S):=w;unfold f9 at w;split at w
  ·have:=aF i;have:=aF j;subst x y
   split at w
   ·rename_i f;exact mm P s g H _ _ v u Q I r R ⟨_,_,rfl,rfl,f,w.now c bo⟩
   ·split at w
    ·rename_i f;exact G5 P s g H _ _ v u Q I r R ⟨_,_,rfl,rfl,f,w.now c bo⟩
    ·exact w.elim
  ·exact w.elim
 |Mod=>
  replace w:aQ X.K ⟨X.mg,F⟩ n H Q (hH d e S):=w;unfold hH at w;split at w
  ·have:=aF i;have:=aF j;subst x y
   split at w
   ·rename_i f;exact sR P s g H _ _ v u Q I r R ⟨_,_,rfl,rfl,f,w.now c bo⟩
   ·exact w.elim
  ·exact w.elim
 |Pow=>
  replace w:aQ X.K ⟨X.mg,F⟩ n H Q (tD d e S):=w;unfold tD at w;split at w
  ·have:=aF i;have:=aF j;subst x y
   split at w
   ·rename_i f;exact sS P s g H _ _ v u Q I r R ⟨_,_,rfl,rfl,f,w.now c bo⟩
   ·exact w.elim
  ·exact w.elim
 |RShift=>
  replace w:aQ X.K ⟨X.mg,F⟩ n H Q (tF d e S):=w;unfold tF at w;split at w
  ·have:=aF i;have:=aF j;subst x y
   split at w
   ·rename_i f;exact sT P s g H _ _ v u Q I r R ⟨_,_,rfl,rfl,f,w.now c bo⟩
   ·exact w.elim
  ·exact w.elim
 |LShift=>exact w.elim
 |BitAnd=>
  replace w:aQ X.K ⟨X.mg,F⟩ n H Q (tH d e S):=w;unfold tH at w;split at w
  ·have:=aF i;have:=aF j;subst x y
   exact sU P s g H _ _ v u Q I r R ⟨_,_,rfl,rfl,w.now c bo⟩
  ·exact w.elim
 |BitOr=>
  replace w:aQ X.K ⟨X.mg,F⟩ n H Q (G6 d e S):=w;unfold G6 at w;split at w
  ·have:=aF i;have:=aF j;subst x y
   exact yI P s g H _ _ v u Q I r R ⟨_,_,rfl,rfl,w.now c bo⟩
  ·exact w.elim
 |_=>exact w.elim
noncomputable def f_(d e:D)(S:ae):Res D:=match c8 S d,c8 S e with
 |some a,some b=>if a.length+b.length<=ck then .ok (.ref S.length) (S++[a++b])else .fail
 |_,_=>.fail
theorem zt:b8 X (binaryOp .Add) (rD X.K X.mg f_):=by
 intro P s z H x y v u Q I l m h;obtain⟨F,t,S,d,e,f,r,R,w⟩:=h;have n:=mO;unfold f_ at w;split at w
 ·rename_i as bs E i;split at w
  ·obtain⟨a,vs,rfl,j,q⟩:=cR f r E;obtain⟨b,W,rfl,c,g⟩:=cR f R i;have L:=q.length;have o:=g.length;exact mI _ s _ H _ _ v u Q I l m ⟨a,b,_,_,rfl,rfl,j,c,by omega,λp k=>w.box f (q.append g) p k⟩
  ·exact w.elim
 ·exact w.elim
end Py
variable {l:List (Str×(List Py.D->Py.ae->Py.Res Py.D))}{φ:List Py.D->Py.ae->Py.Res Py.D}
namespace Py
set_option genInjectivity false in
inductive Sh where
 |non|bl (b:Bool)|int (i:Int)|str (x:Str)|tup (xs:List D)|lst (xs:List D)
noncomputable def sh(S:ae):D->Option Sh
 | .non=>some .non
 | .bl b=>some (.bl b)
 | .int i=>some (.int i)
 | .str x=>some (.str x)
 | .tup xs=>some (.tup xs)
 | .lst xs=>some (.lst xs)
 | .ref n=>(S[n]?).map .lst
 |_=>none
noncomputable def ba:List (Option Bool)->Option Bool
 | []=>some Nj
 |o::r=>match o,ba r with
  |some b,some c=>some (b&&c)
  |_,_=>none
noncomputable def yb(f:D->D->Option Bool):Sh->Sh->Option Bool
 | .non,.non=>some Nj
 | .bl a,.bl b=>some (a==b)
 | .int a,.int b=>some (a==b)
 | .str a,.str b=>some (a==b)
 | .bl a,.int b=>some ((if a then 1 else 0)==b)
 | .int a,.bl b=>some (a==(if b then 1 else 0))
 | .tup a,.tup b=>(ba (Np f a b)).map (· &&a.length==b.length)
 | .lst a,.lst b=>if a.length=b.length then ba (Np f a b)else some Nk
 |_,_=>some Nk
noncomputable def b9(S:ae):Nat->D->D->Option Bool
 |0,_,_=>none
 |n+1,d,e=>match sh S d,sh S e with
  |some x,some y=>yb (b9 S n) x y
  |_,_=>none
noncomputable def eJ(l:List (Option Bool))(j:Nat):Bool:=match l[j]? with
 |some (some b)=>b
 |_=>Nj
theorem mR:∀(l:List (Option Bool)) (k:Bool),ba l=some k->(∀(j:Nat) o,l[j]?=some o->o=some (eJ l j))/\k=(Nq l.length).all (eJ l)
 | [],k,h=>by dsimp only[ba]at h;simp_all
 |o::r,k,h=>by
  dsimp only[ba]at h;split at h
  ·rename_i b c E;cases h;obtain⟨H,a⟩:=mR r c E;refine⟨λj o e=>?_,?_⟩
   ·cases j with
    |zero=>simp at e;subst e;rfl
    |succ j=>rw[H j o (by trivial)];rfl
   ·simp only[ZS,List.range_succ_eq_map,OA,List.all_map,a];rfl
  ·cases h
section
def tJ(K:Fg)(mg:GS)(μ:La)(H:Hp)(s:Nl)(u:Nn):Sh->Prop
 | .non=>u=.none
 | .bl b=>u=.bool b
 | .int i=>∃t,u=.int i t
 | .str x=>∃t,u=.str x t
 | .tup ds=>∃a its vs,u=.ref a/\s.heap.IsTuple a its.toArray/\Vals vs its/\ai K mg μ H ds vs
 | .lst ds=>∃a its vs,u=.ref a/\s.heap.IsList a its.toArray/\Vals vs its/\ai K mg μ H ds vs
theorem mS(I:Inv X pq σ H s)(c:aJ X.K ⟨X.mg,F⟩ μ S H){x:Sh}(r:Rep X.K ⟨X.mg,F⟩ μ H d v)(q:RelV v u)(e:sh S d=some x):tJ X.K ⟨X.mg,F⟩ μ H s u x:=by
 cases d with
 |non=>cases e;cases hG r;exact q
 |bl b=>cases e;cases f8 r;exact q
 |int b=>cases e;cases aF r;exact q
 |str b=>cases e;cases dI r;exact q
 |tup f=>cases e;obtain⟨a,vs,rfl,h,k⟩:=bO r;cases q;obtain⟨i,R,p,_⟩:=I.tuple h;exact⟨a,_,_,rfl,p,R,k⟩
 |lst f=>cases e;obtain⟨a,vs,rfl,h,k⟩:=cR c r rfl;cases q;obtain⟨i,R,p,_⟩:=I.list (.of h);exact⟨a,_,_,rfl,p.isList,R,k⟩
 |ref n=>
  replace e:S[n]?.map _=some x:=e;cases E:S[n]? with
  |none=>simp_all
  |some f=>rw[E]at e;cases e;obtain⟨a,vs,rfl,h,k⟩:=cR c r E;subst q;obtain⟨i,R,p,_⟩:=I.list (.of h);exact⟨a,_,_,rfl,p.isList,R,k⟩
 |_=>cases e
def rf(A:NV)(s:Nl)(f:D->D->Option Bool)(K:Fg)(mg:GS)(μ:La)(H:Hp):Prop:=
 ∀d e v w u z k,Rep K mg μ H d v->RelV v u->Rep K mg μ H e w->RelV w z->f d e=some k->SeqAt.EqAt A s u z k
theorem zu{f:D->D->Option Bool}{mg:GS}(F:rf A s f K mg μ H){es:List D}{vs W:List V}{zs:Lv}(r:ai K mg μ H ds vs)(q:Vals vs us)(R:ai K mg μ H es W)(Q:Vals W zs){k:Bool}
  (h:ba (Np f ds es)=some k):∀j (h1:j<us.toArray.size) (h2:j<zs.toArray.size),SeqAt.EqAt A s us.toArray[j] zs.toArray[j] (eJ (Np f ds es) j):=by
 intro j h1 h2;have L:=r.length;have m:=R.length;have n:=q.length;have o:=Q.length
 have i:=by simpa using h1
 have l:=by simpa using h2
 have a:ds[j]?=some (ds[j]'(by omega)):=Zi _;have b:es[j]?=some (es[j]'(by omega)):=Zi _;obtain⟨v,b1,c⟩:=r.get a;obtain⟨w,b2,C⟩:=R.get b;obtain⟨u,b3,d⟩:=q.get b1;obtain⟨z,B,e⟩:=Q.get b2;have E:us.toArray[j]=u:=by simp_all
 have g:zs.toArray[j]=z:=by simp_all
 rw[E,g];exact F _ _ v w u z _ c d C e ((mR _ _ h).1 j _ (by grind))
theorem zv{f:D->D->Option Bool}{es:List D}{k:Bool}(h:ba (Np f ds es)=some k)(m:Nat)(H:m=min ds.length es.length):(Nq m).all (eJ (Np f ds es))=k:=by have:=(mR _ _ h).2;simp_all
open PySem.SeqAt
theorem M1{mg:GS}{f:D->D->Option Bool}(F:rf A.in1 s f K mg μ H)(c:A.units<cLine):∀{x y:Sh} {k:Bool},tJ K mg μ H s u x->tJ K mg μ H s z y->yb f x y=some k->
  RcAt A s u z k/\RcNeAt A s u z (!k):=by
 intro x y k j d h;cases x with
 |non=>
  cases j;cases y with
  |non=>cases d;cases h;exact⟨RcAt.none_none,RcNeAt.none_none⟩
  |bl b=>cases d;cases h;exact⟨RcAt.none_bool b,RcNeAt.none_bool b⟩
  |int b=>obtain⟨t,rfl⟩:=d;cases h;exact⟨RcAt.none_int b t,RcNeAt.none_int b t⟩
  |str b=>obtain⟨t,rfl⟩:=d;cases h;exact⟨RcAt.none_str b t,RcNeAt.none_str b t⟩
  |tup b=>obtain⟨a,e,vs,rfl,p,_⟩:=d;cases h;exact⟨RcAt.none_tuple p c,RcNeAt.none_tuple p c⟩
  |lst b=>obtain⟨a,e,vs,rfl,p,_⟩:=d;cases h;exact⟨RcAt.none_list p c,RcNeAt.none_list p c⟩
 |bl a=>
  cases j;cases y with
  |non=>cases d;cases h;exact⟨RcAt.bool_none a,RcNeAt.bool_none a⟩
  |bl b=>cases d;cases h;exact⟨RcAt.bool_bool a b,RcNeAt.bool_bool a b⟩
  |int b=>obtain⟨t,rfl⟩:=d;cases h;exact⟨RcAt.bool_int a b t,RcNeAt.bool_int a b t⟩
  |str b=>obtain⟨t,rfl⟩:=d;cases h;exact⟨RcAt.bool_str a b t,RcNeAt.bool_str a b t⟩
  |tup b=>obtain⟨_,e,vs,rfl,p,_⟩:=d;cases h;exact⟨RcAt.bool_tuple a p c,RcNeAt.bool_tuple a p c⟩
  |lst b=>obtain⟨_,e,vs,rfl,p,_⟩:=d;cases h;exact⟨RcAt.bool_list a p c,RcNeAt.bool_list a p c⟩
 |int a=>
  obtain⟨T,rfl⟩:=j;cases y with
  |non=>cases d;cases h;exact⟨RcAt.int_none a T,RcNeAt.int_none a T⟩
  |bl b=>cases d;cases h;exact⟨RcAt.int_bool a T b,RcNeAt.int_bool a T b⟩
  |int b=>obtain⟨t,rfl⟩:=d;cases h;exact⟨RcAt.int_int a T b t,RcNeAt.int_int a T b t⟩
  |str b=>obtain⟨t,rfl⟩:=d;cases h;exact⟨RcAt.int_str a T b t,RcNeAt.int_str a T b t⟩
  |tup b=>obtain⟨_,e,vs,rfl,p,_⟩:=d;cases h;exact⟨RcAt.int_tuple a T p c,RcNeAt.int_tuple a T p c⟩
  |lst b=>obtain⟨_,e,vs,rfl,p,_⟩:=d;cases h;exact⟨RcAt.int_list a T p c,RcNeAt.int_list a T p c⟩
 |str a=>
  obtain⟨T,rfl⟩:=j;cases y with
  |non=>cases d;cases h;exact⟨RcAt.str_none a T,RcNeAt.str_none a T⟩
  |bl b=>cases d;cases h;exact⟨RcAt.str_bool a T b,RcNeAt.str_bool a T b⟩
  |int b=>obtain⟨t,rfl⟩:=d;cases h;exact⟨RcAt.str_int a T b t,RcNeAt.str_int a T b t⟩
  |str b=>obtain⟨t,rfl⟩:=d;cases h;exact⟨RcAt.str_str a T b t,RcNeAt.str_str a T b t⟩
  |tup b=>obtain⟨_,e,vs,rfl,p,_⟩:=d;cases h;exact⟨RcAt.str_tuple a T p c,RcNeAt.str_tuple a T p c⟩
  |lst b=>obtain⟨_,e,vs,rfl,p,_⟩:=d;cases h;exact⟨RcAt.str_list a T p c,RcNeAt.str_list a T p c⟩
 |tup a=>
  obtain⟨G,I,V,rfl,P,q,r⟩:=j;cases y with
  |non=>cases d;cases h;exact⟨RcAt.tuple_none P c,RcNeAt.tuple_none P c⟩
  |bl b=>cases d;cases h;exact⟨RcAt.tuple_bool b P c,RcNeAt.tuple_bool b P c⟩
  |int b=>obtain⟨t,rfl⟩:=d;cases h;exact⟨RcAt.tuple_int b t P c,RcNeAt.tuple_int b t P c⟩
  |str b=>obtain⟨t,rfl⟩:=d;cases h;exact⟨RcAt.tuple_str b t P c,RcNeAt.tuple_str b t P c⟩
  |tup b=>
   obtain⟨n,i,v,rfl,g,Q,R⟩:=d;replace h:(ba (Np f a b)).map (· &&a.length==b.length)=some k:=h;obtain⟨N,w,J⟩:=NM.mp h;have m:=zu F r q R Q w;have L:=r.length;have B:=R.length;have o:=q.length;have C:=Q.length
   have E:k=((Nq (min I.toArray.size i.toArray.size)).all (eJ (Np f a b))&&I.toArray.size==i.toArray.size):=by rw[<-J,zv w _ (by grind),Zu,Zu,<-o,<-C,<-L,<-B]
   rw[E];exact⟨RcAt.tuples P g c m,RcNeAt.tuples P g c m⟩
  |lst b=>obtain⟨n,i,v,rfl,g,_⟩:=d;cases h;exact⟨RcAt.tuple_list P g c,RcNeAt.tuple_list P g c⟩
 |lst a=>
  obtain⟨G,I,V,rfl,P,q,r⟩:=j;cases y with
  |non=>cases d;cases h;exact⟨RcAt.list_none P c,RcNeAt.list_none P c⟩
  |bl b=>cases d;cases h;exact⟨RcAt.list_bool b P c,RcNeAt.list_bool b P c⟩
  |int b=>obtain⟨t,rfl⟩:=d;cases h;exact⟨RcAt.list_int b t P c,RcNeAt.list_int b t P c⟩
  |str b=>obtain⟨t,rfl⟩:=d;cases h;exact⟨RcAt.list_str b t P c,RcNeAt.list_str b t P c⟩
  |tup b=>obtain⟨n,i,v,rfl,g,_⟩:=d;cases h;exact⟨RcAt.list_tuple P g c,RcNeAt.list_tuple P g c⟩
  |lst b=>
   obtain⟨n,i,v,rfl,g,Q,R⟩:=d;have L:=r.length;have B:=R.length;have o:=q.length;have C:=Q.length
   replace h:(if a.length=b.length then ba (Np f a b)else some Nk)=some k:=h;split at h
   ·rename_i M;have m:=zu F r q R Q h
    have E:k=(Nq I.toArray.size).all (eJ (Np f a b)):=by rw[zv h _ (by rw[Zu,<-o,<-L];omega)]
    rw[E];have l:I.toArray.size=i.toArray.size:=by grind
    exact⟨RcAt.lists P g l c m,RcNeAt.lists P g l c m⟩
   ·rename_i M;cases h;have l:(I.toArray.size !=i.toArray.size)=Nj:=by grind
    exact⟨RcAt.lists_lengths P g l c,RcNeAt.lists_lengths P g l c⟩
theorem zw(I:Inv X pq σ H s)(sk:aJ X.K ⟨X.mg,F⟩ μ S H):∀(n:Nat) (d e:D) (v:V) (k:Bool),Rep X.K ⟨X.mg,F⟩ μ H d v->Rep X.K ⟨X.mg,F⟩ μ H e v->b9 S n d e=some k->k=Nj:=by
 intro n
 induction n with
 |zero=>intro d e v k _ _ h;cases h
 |succ n ih=>
  intro d e v k rd re h
  have L:∀(p E:List D) (vs:List V) (k:Bool),ai X.K ⟨X.mg,F⟩ μ H p vs->ai X.K ⟨X.mg,F⟩ μ H E vs->ba (Np (b9 S n) p E)=some k->k=Nj:=by
   intro p
   induction p with
   |nil=>intro E vs k _ _ h;cases h;rfl
   |cons d p Z=>
    intro E vs k R r h;obtain⟨v,W,rfl,T,b1⟩:=R.uncons;cases E with
    |nil=>cases h;rfl
    |cons e E=>
     obtain⟨v',ws',q,G,b2⟩:=r.uncons;cases q;rw[O3]at h;unfold ba at h;split at h
     ·rename_i x y q K;cases h;rw[ih d e v x T G q,Z E W y b1 b2 K];rfl
     ·cases h
  unfold b9 at h;cases q:sh S d with
  |none=>rw[q]at h;cases h
  |some x=>
   cases K:sh S e with
   |none=>rw[q,K]at h;cases h
   |some y=>
    rw[q,K]at h;replace h:yb (b9 S n) x y=some k:=h
    obtain⟨u,ru⟩:∃u,RelV v u:=by
     cases v with
     |non=>exact⟨_,rfl⟩
     |bl b=>exact⟨_,rfl⟩
     |int i=>exact⟨.int i 0,0,rfl⟩
     |str x=>exact⟨.str x 0,0,rfl⟩
     |byt x=>exact⟨.bytes x 0,0,rfl⟩
     |flt x=>exact⟨.float x 0,0,rfl⟩
     |ref a=>exact⟨_,rfl⟩
     |ty n=>exact⟨_,rfl⟩
    have C:=mS I sk rd ru q;have f:=mS I sk re ru K
    have len:∀{p E:List D} {vs W:List V} {us:Lv},ai X.K ⟨X.mg,F⟩ μ H p vs->Vals vs us->ai X.K ⟨X.mg,F⟩ μ H E W->Vals W us->vs=W/\p.length=E.length:=λR O r Q=>by have:=O.inj Q;subst this;exact⟨rfl,R.length.trans r.length.symm⟩
    cases x with
    |non=>
     cases C;cases y with
     |non=>cases h;rfl
     |bl b=>cases f
     |int b=>obtain⟨t,z⟩:=f;cases z
     |str b=>obtain⟨t,z⟩:=f;cases z
     |tup b=>obtain⟨_,_,_,z,_⟩:=f;cases z
     |lst b=>obtain⟨_,_,_,z,_⟩:=f;cases z
    |bl a=>
     cases C;cases y with
     |non=>cases f
     |bl b=>cases f;cases h;simp
     |int b=>obtain⟨t,z⟩:=f;cases z
     |str b=>obtain⟨t,z⟩:=f;cases z
     |tup b=>obtain⟨_,_,_,z,_⟩:=f;cases z
     |lst b=>obtain⟨_,_,_,z,_⟩:=f;cases z
    |int a=>
     obtain⟨t',rfl⟩:=C;cases y with
     |non=>cases f
     |bl b=>cases f
     |int b=>obtain⟨t,z⟩:=f;cases z;cases h;simp
     |str b=>obtain⟨t,z⟩:=f;cases z
     |tup b=>obtain⟨_,_,_,z,_⟩:=f;cases z
     |lst b=>obtain⟨_,_,_,z,_⟩:=f;cases z
    |str a=>
     obtain⟨t',rfl⟩:=C;cases y with
     |non=>cases f
     |bl b=>cases f
     |int b=>obtain⟨t,z⟩:=f;cases z
     |str b=>obtain⟨t,z⟩:=f;cases z;cases h;simp
     |tup b=>obtain⟨_,_,_,z,_⟩:=f;cases z
     |lst b=>obtain⟨_,_,_,z,_⟩:=f;cases z
    |tup a=>
     obtain⟨T,m,A,rfl,N,O,R⟩:=C;cases y with
     |non=>cases f
     |bl b=>cases f
     |int b=>obtain⟨t,z⟩:=f;cases z
     |str b=>obtain⟨t,z⟩:=f;cases z
     |tup b=>
      obtain⟨G,j,B,z,P,Q,r⟩:=f;cases z
      have U:m=j:=by
       obtain⟨o,w,_,n,M⟩:=N;obtain⟨o',g,_,n',l⟩:=P;rw[w]at g;cases g;rw[M]at l;injection l with z _
       simpa using Z2 Array.toList z
      subst U;obtain⟨rfl,Y⟩:=len R O r Q;replace h:(ba (Np (b9 S n) a b)).map (· &&a.length==b.length)=some k:=h;obtain⟨k1,e3,e4⟩:=NM.mp h;rw[<-e4,L a b A k1 R r e3,Y];simp
     |lst b=>obtain⟨G,j,B,z,P,Q,r⟩:=f;cases z;obtain⟨o,w,c,n,M⟩:=N;obtain⟨o',g,J,n',l⟩:=P;rw[w]at g;cases g;rw[c]at J;exact absurd J (by decide)
    |lst a=>
     obtain⟨T,m,A,rfl,N,O,R⟩:=C;cases y with
     |non=>cases f
     |bl b=>cases f
     |int b=>obtain⟨t,z⟩:=f;cases z
     |str b=>obtain⟨t,z⟩:=f;cases z
     |tup b=>obtain⟨G,j,B,z,P,Q,r⟩:=f;cases z;obtain⟨o,w,c,n,M⟩:=N;obtain⟨o',g,J,n',l⟩:=P;rw[w]at g;cases g;rw[c]at J;exact absurd J (by decide)
     |lst b=>
      obtain⟨G,j,B,z,P,Q,r⟩:=f;cases z
      have U:m=j:=by
       obtain⟨o,w,_,n,M⟩:=N;obtain⟨o',g,_,n',l⟩:=P;rw[w]at g;cases g;rw[M]at l;injection l with z _
       simpa using Z2 Array.toList z
      subst U;obtain⟨rfl,Y⟩:=len R O r Q;replace h:(if a.length=b.length then ba (Np (b9 S n) a b)else some Nk)=some k:=h;rw[if_pos Y]at h;exact L a b A k R r h
theorem yc(I:Inv X pq σ H s)(G:aJ X.K ⟨X.mg,F⟩ μ S H):∀(n:Nat) (A:NV),A.units+n<cLine->∀d e v w u z k,Rep X.K ⟨X.mg,F⟩ μ H d v->RelV v u->Rep X.K ⟨X.mg,F⟩ μ H e w->RelV w z->b9 S n d e=some k->
  RcAt A s u z k/\RcNeAt A s u z (!k)/\EqAt A s u z k:=by
 intro n
 induction n with
 |zero=>intro A _ d e v w u z k _ _ _ _ h;cases h
 |succ n Z=>
  intro A hA d e v w u z k L R M B h;have o:=λ(D:v=w)=>zw I G (n+1) d e v k L (D▸M) h;unfold b9 at h;cases E:sh S d with
  |none=>rw[E]at h;cases h
  |some x=>
   cases C:sh S e with
   |none=>rw[E,C]at h;cases h
   |some y=>
    rw[E,C]at h;replace h:yb (b9 S n) x y=some k:=h;have j:=mS I G L R E;have f:=mS I G M B C;have Y:A.in1.units=A.units+1:=rfl;obtain⟨J,O⟩:=M1 (λd e v w u z k a b c Q h=>(Z A.in1 (by omega) d e v w u z k a b c Q h).2.2) (by omega) j f h;refine⟨J,O,?_⟩
    have r:∀{l b:Nm},u=.ref l->z=.ref b->EqAt A s u z k:=λ{l b} U W=>by
     subst U;subst W;by_cases K:l=b
     ·subst K
      have D:v=w:=by
       cases v<;>first| (cases R;done)|skip
       all_goals first| (obtain⟨_,q⟩:=R;cases q;done)|skip
       cases w<;>first| (cases B;done)|skip
       all_goals first| (obtain⟨_,q⟩:=B;cases q;done)|skip
       cases R;cases B;rfl
      rw[o D];exact EqAt.same _
     ·exact .of_refs K J
    have g:A.units<cLine:=by omega
    cases x with
    |non=>
     cases j;cases y with
     |non=>cases f;cases h;exact EqAt.same _
     |bl b=>cases f;cases h;exact EqAt.none_bool b
     |int b=>obtain⟨t,rfl⟩:=f;cases h;exact EqAt.none_int b t
     |str b=>obtain⟨t,rfl⟩:=f;cases h;exact EqAt.none_str b t
     |tup b=>obtain⟨a,i,vs,rfl,p,_⟩:=f;cases h;exact EqAt.none_tuple p g
     |lst b=>obtain⟨a,i,vs,rfl,p,_⟩:=f;cases h;exact EqAt.none_list p g
    |bl a=>
     cases j;cases y with
     |non=>cases f;cases h;exact EqAt.bool_none a
     |bl b=>cases f;cases h;exact EqAt.bool_bool a b
     |int b=>obtain⟨t,rfl⟩:=f;cases h;exact EqAt.bool_int a b t
     |str b=>obtain⟨t,rfl⟩:=f;cases h;exact EqAt.bool_str a b t
     |tup b=>obtain⟨_,i,vs,rfl,p,_⟩:=f;cases h;exact EqAt.bool_tuple a p g
     |lst b=>obtain⟨_,i,vs,rfl,p,_⟩:=f;cases h;exact EqAt.bool_list a p g
    |int a=>
     obtain⟨T,rfl⟩:=j;cases y with
     |non=>cases f;cases h;exact EqAt.int_none a T
     |bl b=>cases f;cases h;exact EqAt.int_bool a T b
     |int b=>obtain⟨t,rfl⟩:=f;cases h;exact EqAt.int_int a T b t
     |str b=>obtain⟨t,rfl⟩:=f;cases h;exact EqAt.int_str a T b t
     |tup b=>obtain⟨_,i,vs,rfl,p,_⟩:=f;cases h;exact EqAt.int_tuple a T p g
     |lst b=>obtain⟨_,i,vs,rfl,p,_⟩:=f;cases h;exact EqAt.int_list a T p g
    |str a=>
     obtain⟨T,rfl⟩:=j;cases y with
     |non=>cases f;cases h;exact EqAt.str_none a T
     |bl b=>cases f;cases h;exact EqAt.str_bool a T b
     |int b=>obtain⟨t,rfl⟩:=f;cases h;exact EqAt.str_int a T b t
     |str b=>obtain⟨t,rfl⟩:=f;cases h;exact EqAt.str_str a T b t
     |tup b=>obtain⟨_,i,vs,rfl,p,_⟩:=f;cases h;exact EqAt.str_tuple a T p g
     |lst b=>obtain⟨_,i,vs,rfl,p,_⟩:=f;cases h;exact EqAt.str_list a T p g
    |tup a=>
     obtain⟨N,m,V,rfl,P,_⟩:=j;cases y with
     |non=>cases f;cases h;exact EqAt.tuple_none P g
     |bl b=>cases f;cases h;exact EqAt.tuple_bool b P g
     |int b=>obtain⟨t,rfl⟩:=f;cases h;exact EqAt.tuple_int b t P g
     |str b=>obtain⟨t,rfl⟩:=f;cases h;exact EqAt.tuple_str b t P g
     |tup b=>obtain⟨_,i,vs,rfl,p,_⟩:=f;exact r rfl rfl
     |lst b=>obtain⟨_,i,vs,rfl,p,_⟩:=f;exact r rfl rfl
    |lst a=>
     obtain⟨N,m,V,rfl,P,_⟩:=j;cases y with
     |non=>cases f;cases h;exact EqAt.list_none P g
     |bl b=>cases f;cases h;exact EqAt.list_bool b P g
     |int b=>obtain⟨t,rfl⟩:=f;cases h;exact EqAt.list_int b t P g
     |str b=>obtain⟨t,rfl⟩:=f;cases h;exact EqAt.list_str b t P g
     |tup b=>obtain⟨_,i,vs,rfl,p,_⟩:=f;exact r rfl rfl
     |lst b=>obtain⟨_,i,vs,rfl,p,_⟩:=f;exact r rfl rfl
end
def zx(_ _:D)(_:ae):Res D:=.fail
def Mp(_ _:D):Option Bool:=none
def Mq(_:D)(_ _:Option Int)(_:ae):Res D:=.fail
def G_(_ _:D)(_:ae):Res D:=.fail
def zy(_:List D)(_:ae):Res D:=.fail
theorem j8{e:D}{k:Bool}(h:Mp d e=some k):∃x y,d=.str x/\e=.str y/\(!(Pz y x 0 y.length 1).isEmpty)=k:=by cases h
theorem G':zf X (rD X.K X.mg zx):=by intro V a p s j H x y v u Q I c f h b;obtain⟨F,i,S,d,e,g,r,R,w⟩:=h;exact w.elim
theorem zA{xs:List V}{Q:VK}(I:L2.Inv X pq σ H s)(r:Vals xs us)(a:aJ X.K ⟨X.mg,F⟩ μ S H)(R:ai X.K ⟨X.mg,F⟩ μ H ds xs)(w:aQ X.K ⟨X.mg,F⟩ μ H Q (zy ds S)):wpAny (model X.prog X.w) X.A (call (.type "int") us) (EP X pq σ Q) X.xe s:=w.elim
theorem Ha{x:V}{v:Nn}{Q:VK}(I:L2.Inv X pq σ H s)(R:RelV x v)(hs:s.heap.IsSliceOf sl vl vu .none)(pl:Qa vl lo)(p:Qa vu hi)(a:aJ X.K ⟨X.mg,F⟩ μ S H)(r:Rep X.K ⟨X.mg,F⟩ μ H d x)(w:aQ X.K ⟨X.mg,F⟩ μ H Q (Mq d lo hi S)):
  ∃T id,typeLookup (.type T) "__getitem__"=pure (some (.builtin id))/\s.TypeIs v T/\wpAny (model X.prog X.w) X.A (getItem v (.ref sl)) (EP X pq σ Q) X.xe s:=w.elim
noncomputable def yd(eq lt:D->D->Option Bool):List D->List D->Option Bool
 | [],[]=>some Nk
 | [],_::_=>some Nj
 |_::_,[]=>some Nk
 |a::as,b::bs=>match eq a b with
  |some Nj=>yd eq lt as bs
  |some Nk=>lt a b
  |none=>none
noncomputable def ez(S:ae):Nat->D->D->Option Bool
 |0,_,_=>none
 |n+1,.int a,.int b=>some (decide (a<b))
 |n+1,.tup a,.tup b=>yd (b9 S n) (ez S n) a b
 |_,_,_=>none
open PySem.SeqAt
def hJ(A:NV)(s:Nl)(y x:Nn)(b:Bool):Prop:=
 ∀(prog:Nt) (w:NF) (E:Vs) (Q:Vs),Q (.bool b) s->wpAny (model prog w) A (richCompare .Lt y x) Q E s
inductive cZ (A:NV)(s:Nl):Lv->Lv->Bool->Prop where
 |nn:cZ A s [] [] Nk
 |nc {w ws}:cZ A s [] (w::ws) Nj
 |cn {v vs}:cZ A s (v::vs) [] Nk
 |eq {v w vs ws k}:EqAt A s v w Nj->cZ A s vs ws k->cZ A s (v::vs) (w::ws) k
 |lt {v w vs ws k}:EqAt A s v w Nk->hJ A s v w k->cZ A s (v::vs) (w::ws) k
section
open PySem.AutoSeq1 (wpAny_loadPart')
open PySem.MeetsSeq PySem.MeetsSeq2 PySem.MeetsSeq3
theorem Hc(l b:Nm)(items i:Av)(n N:Nat)(dd D:Option Nm)(sl B:Array (Ov))(k:Bool):
  Meets (N7.«tuple.__lt__» ⟨[.ref l,.ref b],[]⟩)
   (λA R s=>s.heap.get? l=some {cls:=.type "tuple",dict:=dd,data:=.seq items n,slots:=sl}/\s.heap.get? b=some {cls:=.type "tuple",dict:=D,data:=.seq i N,slots:=B}/\
    cZ A.in1 s items.toList i.toList k/\R (.ok (.ret (.bool k))) s):=
 .of_wp λp w A R s h=>by
  obtain⟨u,g,d,T,O⟩:=s;obtain⟨F,C,t,h⟩:=h;have I:=Q1
  wp_walk using PL F,PL C,OV _ (λr b S=>b.1=none/\S=⟨u,g,d,T,O⟩/\∃(vs W:Lv),r=vs.zip W/\
   cZ A.in1 ⟨u,g,d,T,O⟩ vs W k/\vs.length+i.size=W.length+items.size/\R (.ok (.ret (.bool k))) ⟨u,g,d,T,O⟩) _
  case turn=>
   rintro⟨y,x⟩ r b S ⟨e,rfl,vs,W,a,f,H,m⟩;cases f with
   |nn=>rw[PZ]at a;cases a
   |nc=>rw[PZ]at a;cases a
   |cn=>rw[QC]at a;cases a
   |eq o q=>
    rw[Z7]at a;injection a with j c
    injection j with z t
    subst z t;simp only[ZS]at H;refine Za (o p w _ _ ?_)
    wp_walk
    exact⟨rfl,rfl,_,_,c,q,by omega,m⟩
   |lt o q=>
    rw[Z7]at a;injection a with j c
    injection j with z t
    subst z t;refine Za (o p w _ _ ?_);have v:=λ(E:Vs) (Q:Vs)=>q p w E Q
    wp_walk using v
    exact⟨_,rfl,by simpa using m⟩
  case fin=>
   rintro⟨b1,b2⟩ S ⟨e,rfl,vs,W,a,f,H,m⟩;simp only at e;subst e
   have G:k=decide (items.size<i.size):=by
    cases f with
    |nn=>simp only[OW]at H;exact(ZE (by omega)).symm
    |nc=>simp only[OW,ZS]at H;exact(ZV (by omega)).symm
    |cn=>simp only[OW,ZS]at H;exact(ZE (by omega)).symm
    |eq o q=>rw[Z7]at a;cases a
    |lt o q=>rw[Z7]at a;cases a
   rw[G]at m
   wp_walk
   exact⟨_,rfl,by simpa[Qe]using m⟩
  case h=>exact⟨rfl,rfl,items.toList,i.toList,rfl,t,by simp;omega,h⟩
end
theorem hJ.tuples{l b:Nm}{vs W:Lv}{k:Bool}(m:s.heap.IsTuple l vs.toArray)(g:s.heap.IsTuple b W.toArray)(o:A.units<cLine)(r:cZ A.in1 s vs W k):hJ A s (.ref l) (.ref b) k:=λp w E Q h=>by
 obtain⟨⟨cls,q,D,sl⟩,e,i,n,j⟩:=id m;obtain⟨⟨C,f,d,S⟩,H,a,N,c⟩:=id g;subst i j a c
 exact SO ⟨_,e,rfl⟩ ⟨_,H,rfl⟩ PySem.F.slot_tuple_lt PySem.F.entry_tuple_lt (PySem.F.args_tuple_lt_2 _ _) (Hc l b _ _ n _ _ _ _ _ k)
  ⟨e,H,by omega,show OF k≠RY/\Q _ s from⟨(λx=>nomatch x),h⟩⟩ o
def zB(A:NV)(s:Nl)(y x:Nn)(b:Bool):Prop:=
 ∀(prog:Nt) (w:NF) (E:Vs) (Q:Vs),Q (.bool b) s->wpAny (model prog w) A (richCompare .LtE y x) Q E s
inductive dk (A:NV)(s:Nl):Lv->Lv->Bool->Prop where
 |nl {ws}:dk A s [] ws Nj
 |cn {v vs}:dk A s (v::vs) [] Nk
 |eq {v w vs ws k}:EqAt A s v w Nj->dk A s vs ws k->dk A s (v::vs) (w::ws) k
 |le {v w vs ws k}:EqAt A s v w Nk->zB A s v w k->dk A s (v::vs) (w::ws) k
section
open PySem.AutoSeq1 (wpAny_loadPart')
open PySem.MeetsSeq PySem.MeetsSeq2 PySem.MeetsSeq3
theorem Hd(l b:Nm)(xs Y:Av)(n N:Nat)(dd D:Option Nm)(sl z:Array (Ov))(k:Bool):
  Meets (N7.«tuple.__le__» ⟨[.ref l,.ref b],[]⟩)
   (λA R s=>s.heap.get? l=some {cls:=.type "tuple",dict:=dd,data:=.seq xs n,slots:=sl}/\s.heap.get? b=some {cls:=.type "tuple",dict:=D,data:=.seq Y N,slots:=z}/\
    dk A.in1 s xs.toList Y.toList k/\R (.ok (.ret (.bool k))) s):=
 .of_wp λp w A R s h=>by
  obtain⟨t,g,d,T,O⟩:=s;obtain⟨C,B,q,h⟩:=h;have G:=Q1
  wp_walk using PL C,PL B,OV _ (λr b S=>b.1=none/\S=⟨t,g,d,T,O⟩/\∃(vs W:Lv),r=vs.zip W/\
   dk A.in1 ⟨t,g,d,T,O⟩ vs W k/\vs.length+Y.size=W.length+xs.size/\R (.ok (.ret (.bool k))) ⟨t,g,d,T,O⟩) _
  case turn=>
   rintro⟨y,x⟩ r b S ⟨e,rfl,vs,W,a,f,H,j⟩;cases f with
   |nl=>rw[PZ]at a;cases a
   |cn=>rw[QC]at a;cases a
   |eq m o=>
    rw[Z7]at a;injection a with i c
    injection i with v q
    subst v q;simp only[ZS]at H;refine Za (m p w _ _ ?_)
    wp_walk
    exact⟨rfl,rfl,_,_,c,o,by omega,j⟩
   |le m o=>
    rw[Z7]at a;injection a with i c
    injection i with v q
    subst v q;refine Za (m p w _ _ ?_);have u:=λ(E:Vs) (Q:Vs)=>o p w E Q
    wp_walk using u
    exact⟨_,rfl,by simpa using j⟩
  case fin=>
   rintro⟨b1,b2⟩ S ⟨e,rfl,vs,W,a,f,H,j⟩;simp only at e;subst e
   have F:k=decide (xs.size<=Y.size):=by
    cases f with
    |nl=>simp only[OW]at H;exact(ZV (by omega)).symm
    |cn=>simp only[OW,ZS]at H;exact(ZE (by omega)).symm
    |eq m o=>rw[Z7]at a;cases a
    |le m o=>rw[Z7]at a;cases a
   rw[F]at j
   wp_walk
   exact⟨_,rfl,by simpa[Qe]using j⟩
  case h=>exact⟨rfl,rfl,xs.toList,Y.toList,rfl,q,by simp;omega,h⟩
end
theorem He{l b:Nm}{vs W:Lv}{k:Bool}(m:s.heap.IsTuple l vs.toArray)(g:s.heap.IsTuple b W.toArray)(o:A.units<cLine)(r:dk A.in1 s vs W k):zB A s (.ref l) (.ref b) k:=λp w E Q h=>by
 obtain⟨⟨cls,q,D,sl⟩,e,i,n,j⟩:=id m;obtain⟨⟨C,f,d,S⟩,H,a,N,c⟩:=id g;subst i j a c
 exact SO ⟨_,e,rfl⟩ ⟨_,H,rfl⟩ PySem.F.slot_tuple_le PySem.F.entry_tuple_le (PySem.F.args_tuple_le_2 _ _) (Hd l b _ _ n _ _ _ _ _ k)
  ⟨e,H,by omega,show OF k≠RY/\Q _ s from⟨(λx=>nomatch x),h⟩⟩ o
noncomputable def zC:List D->List D->Option Bool
 | [],_=>some Nj
 |_::_,[]=>some Nk
 | .int a::as,.int b::bs=>if a=b then zC as bs else some (decide (a<=b))
 |_::_,_::_=>none
theorem j9{K:Fg}{mg:GS}{μ:La}{H:Hp}{A:NV}{s:Nl}:∀(ds es:List D) (vs W:List V) (us zs:Lv) (k:Bool),ai K mg μ H ds vs->Vals vs us->ai K mg μ H es W->Vals W zs->zC ds es=some k->dk A s us zs k
 | [],es,vs,W,us,zs,k,r,q,R,i,h=>by
  unfold ai at r;subst r;have:=q.zero;subst this
  cases h;exact .nl
 |d::ds,[],vs,W,us,zs,k,r,q,R,i,h=>by
  obtain⟨v,vs,rfl,l,b1⟩:=r.uncons;unfold ai at R;subst R;have:=i.zero;subst this
  cases q;cases by cases d<;>exact h
  exact .cn
 |d::ds,e::es,vs,W,us,zs,k,r,q,R,i,h=>by
  obtain⟨v,vs,rfl,l,b1⟩:=r.uncons;obtain⟨w,W,rfl,m,b2⟩:=R.uncons;cases d with
  |int a=>cases e with
   |int b=>
    have:=aF l;have:=aF m;subst v w
    cases q with
    |cons C d1=>cases i with
     |cons n d2=>
      obtain⟨t,rfl⟩:=C;obtain⟨T,rfl⟩:=n;have f:(if a=b then zC ds es else some (decide (a<=b)))=some k:=h;have g:=EqAt.int_int (A:=A) (s:=s) a t b T;by_cases c:a=b
      ·rw[if_pos c]at f;have j:(a==b)=Nj:=by grind
       rw[j]at g;exact .eq g (j9 ds es vs W _ _ k b1 d1 b2 d2 f)
      ·rw[if_neg c]at f;have j:(a==b)=Nk:=by grind
       rw[j]at g;cases f;exact .le g λp w E Q o=>PyProof.Rows.le_int o
   |_=>cases h
  |_=>cases by cases e<;>exact h
theorem tK(I:Inv X pq σ H s)(K:aJ X.K ⟨X.mg,F⟩ μ S H):∀(n:Nat) (A:NV),A.units+n<cLine->∀d e v w u z k,Rep X.K ⟨X.mg,F⟩ μ H d v->RelV v u->Rep X.K ⟨X.mg,F⟩ μ H e w->RelV w z->ez S n d e=some k->hJ A s u z k:=by
 intro n
 induction n with
 |zero=>intro A _ d e v w u z k _ _ _ _ h;cases h
 |succ n Y=>
  intro A hA d e v w u z k y G B J h;have P:A.in1.units=A.units+1:=rfl
  have L:∀(f c:List D) (vs W:List V) (U Z:Lv),ai X.K ⟨X.mg,F⟩ μ H f vs->Vals vs U->ai X.K ⟨X.mg,F⟩ μ H c W->Vals W Z->yd (b9 S n) (ez S n) f c=some k->cZ A.in1 s U Z k:=by
   intro f
   induction f with
   |nil=>
    intro c vs W U Z R g r q h;unfold ai at R;subst R;have:=g.zero;subst this
    cases c with
    |nil=>unfold ai at r;subst r;have:=q.zero;subst this;cases h;exact .nn
    |cons e c=>obtain⟨w,W,rfl,_,_⟩:=r.uncons;cases q;cases h;exact .nc
   |cons d f x=>
    intro c vs W U Z R g r q h;obtain⟨v,vs,rfl,i,b1⟩:=R.uncons;cases g with
    |cons C d1=>
     cases c with
     |nil=>unfold ai at r;subst r;have:=q.zero;subst this;cases h;exact .cn
     |cons e c=>
      obtain⟨w,W,rfl,j,b2⟩:=r.uncons;cases q with
      |cons l d2=>
       unfold yd at h;split at h
       ·rename_i m;exact .eq (yc I K n A.in1 (by omega) d e v w _ _ Nj i C j l m).2.2 (x c vs W _ _ b1 d1 b2 d2 h)
       ·rename_i m;exact .lt (yc I K n A.in1 (by omega) d e v w _ _ Nk i C j l m).2.2 (Y A.in1 (by omega) d e v w _ _ k i C j l h)
       ·cases h
  unfold ez at h;split at h
  ·rename_i M;cases M
  ·have:=aF y;have:=aF B;subst v w
   obtain⟨t,rfl⟩:=G;obtain⟨t',rfl⟩:=J;cases h;exact λp w E Q T=>(PyProof.Rows.lt_int T:wpAny (model p w) A (compareOp .Lt (.int _ t) (.int _ t')) Q E s)
  ·rename_i n' f c o;cases o;obtain⟨a,vs,rfl,N,R⟩:=bO y;obtain⟨b,W,rfl,O,r⟩:=bO B;cases G;cases J;obtain⟨U,g,p1,_⟩:=I.tuple N;obtain⟨Z,q,p2,_⟩:=I.tuple O;exact hJ.tuples p1 p2 (by omega) (L f c vs W U Z R g r q h)
  ·cases h
def a9:Nat:=40
def j_:D->Bool
 | .non=>Nj
 |_=>Nk
noncomputable def bu(o:Option Bool)(S:ae):Res D:=match o with
 |some k=>.ok (.bl k) S
 |none=>.fail
noncomputable def tM(l:List (Option Bool)):Option Bool:=(ba (l.map λo=>o.map not)).map not
noncomputable def rg(d e:D)(S:ae):Option Bool:=match ay S e with
 |some xs=>tM (xs.map λy=>b9 S a9 y d)
 |none=>Mp d e
noncomputable def Fv(d e:D)(S:ae):Res D:=match d,e with
 | .int i,.int j=>.ok (.bl (decide (i<=j))) S
 | .tup a,.tup b=>bu (zC a b) S
 |_,_=>.fail
noncomputable def Hf(d e:D)(S:ae):Res D:=match d,e with
 | .int i,.int j=>.ok (.bl (decide (j<i))) S
 |_,_=>.fail
noncomputable def Hg(d e:D)(S:ae):Res D:=match d,e with
 | .int i,.int j=>.ok (.bl (decide (j<=i))) S
 |_,_=>.fail
noncomputable def Hh(d e:D)(S:ae):Res D:=match e with
 | .non=>.ok (.bl (j_ d)) S
 |_=>.fail
noncomputable def tN(d e:D)(S:ae):Res D:=match e with
 | .non=>.ok (.bl (!j_ d)) S
 |_=>.fail
noncomputable def aw(o:PR)(d e:D)(S:ae):Res D:=match o with
 | .Eq=>bu (b9 S a9 d e) S
 | .NotEq=>bu ((b9 S a9 d e).map not) S
 | .Lt=>bu (ez S a9 d e) S
 | .LtE=>Fv d e S
 | .Gt=>Hf d e S
 | .GtE=>Hg d e S
 | .In=>bu (rg d e S) S
 | .NotIn=>bu ((rg d e S).map not) S
 | .Is=>Hh d e S
 | .IsNot=>tN d e S
theorem zD{mg:GS}(r:Rep K mg μ H d v):decide (v=.non)=j_ d:=by
 cases d with
 |non=>cases hG r;rfl
 |bl b=>cases f8 r;rfl
 |int b=>cases aF r;rfl
 |str b=>cases dI r;rfl
 |tup b=>obtain⟨a,vs,rfl,_⟩:=bO r;rfl
 |lst b=>obtain⟨a,vs,rfl,_⟩:=r;rfl
 |ref b=>obtain⟨a,rfl,_⟩:=r;rfl
 |scr b=>obtain⟨a,vs,rfl,_⟩:=r;rfl
 |fn b=>obtain⟨a,rfl,_⟩:=r;rfl
 |dct=>obtain⟨a,rfl,_⟩:=r;rfl
 |dks b=>obtain⟨a,_,rfl,_⟩:=r;rfl
 |ty n=>subst r;rfl
theorem fG{mg:GS}{Q:VK}{o:Option Bool}(w:aQ K mg μ H Q (bu o S))(s:aJ K mg μ S H):∃k,o=some k/\Q (.bl k) H:=by
 cases o with
 |none=>exact w.elim
 |some k=>exact⟨k,rfl,w.now s cI⟩
theorem zE{l:List (Option Bool)}{k:Bool}(h:tM l=some k):(∀o∈l,o.isSome=Nj)/\k=l.any (λo=>o==some Nj):=by
 obtain⟨K,e,E⟩:=NM.mp h;subst E;clear h
 induction l generalizing K with
 |nil=>cases e;simp_all
 |cons o r i=>
  rw[NX]at e;unfold ba at e;split at e
  ·simp_all
  ·cases e
theorem rh(I:Inv X pq σ H s)(O:aJ X.K ⟨X.mg,F⟩ μ S H)(hu:A.units+64<cLine){e:D}{w:V}{k:Bool}(rd:Rep X.K ⟨X.mg,F⟩ μ H d v)(ru:RelV v u)(re:Rep X.K ⟨X.mg,F⟩ μ H e w)(rz:RelV w z)
  (l:(ay S e).isSome=Nj) (h:rg d e S=some k):∃(a:Nm) (its:Lv) (f:Nn->Bool),z=.ref a/\(s.heap.IsList a its.toArray\/s.heap.IsTuple a its.toArray)/\(∀y∈its.toArray,EqAt A.in1 s y u (f y))/\its.toArray.any f=k:=by
 unfold rg at h;split at h
 ·rename_i i G;obtain⟨a,vs,rfl,l,r⟩:=fE O re G;cases rz
  obtain⟨its,q,Z⟩:∃its,Vals vs its/\(s.heap.IsList a its.toArray\/s.heap.IsTuple a its.toArray):=by
   rcases l with l|l
   ·obtain⟨its,q,p,_⟩:=I.list l;exact⟨its,q,.inl p.isList⟩
   ·obtain⟨its,q,p,_⟩:=I.tuple l;exact⟨its,q,.inr p⟩
  have W:A.in1.units=A.units+1:=rfl;have t:a9=40:=rfl;obtain⟨P,Q⟩:=zE h
  classical
  have at_:∀(j:Nat) (x:D) (y:Nn),i[j]?=some x->its[j]?=some y->∀b,b9 S a9 x d=some b->EqAt A.in1 s y u b:=λj x y L B b m=>by obtain⟨v',R,T⟩:=r.get L;obtain⟨y',N,U⟩:=q.get R;rw[B]at N;cases N;exact(yc I O a9 A.in1 (by omega) x d v' v _ u b T U rd ru m).2.2
  have len:i.length=its.length:=r.length.trans q.length;refine⟨a,its,λy=>decide (∃(j:Nat) (x:D),its[j]?=some y/\i[j]?=some x/\b9 S a9 x d=some Nj),rfl,Z,λy B=>?_,?_⟩
  ·obtain⟨j,K,J⟩:=ZJ.mp (show y∈its by simpa using B);have g:its[j]?=some y:=by rw[Zi K,J]
   have c:i[j]?=some (i[j]'(by omega)):=Zi _;by_cases n:∃(j:Nat) (x:D),its[j]?=some y/\i[j]?=some x/\b9 S a9 x d=some Nj
   ·obtain⟨j',x',M,C,E⟩:=id n;show EqAt A.in1 s y u (decide (∃(j:Nat) (x:D),its[j]?=some y/\i[j]?=some x/\b9 S a9 x d=some Nj));rw[ZV n];exact at_ j' x' y C M Nj E
   ·show EqAt A.in1 s y u (decide (∃(j:Nat) (x:D),its[j]?=some y/\i[j]?=some x/\b9 S a9 x d=some Nj));rw[ZE n];obtain⟨b,m⟩:=NS.mp (P (b9 S a9 (i[j]'(by omega)) d) (Zp.mpr ⟨_,Zq c,rfl⟩));cases b with
    |false=>exact at_ j _ y c g Nk m
    |true=>exact absurd ⟨j,_,g,c,m⟩ n
  ·rw[Q];apply Oe.mpr;rw[List.any_toArray,Pg,Pg];constructor
   ·rintro⟨y,B,t⟩;obtain⟨j,x,M,C,E⟩:=ZU t;exact⟨some Nj,Zp.mpr ⟨x,Zq C,E⟩,rfl⟩
   ·rintro⟨o,Y,t⟩;obtain⟨x,L,rfl⟩:=Zp.mp Y;obtain⟨j,K,J⟩:=ZJ.mp L;have c:i[j]?=some x:=by rw[Zi K,J]
    have g:its[j]?=some (its[j]'(by omega)):=Zi _;exact⟨_,Zq g,ZV ⟨j,x,g,c,by simpa using t⟩⟩
 ·rename_i G;rw[G]at l;cases l
theorem dn(O:PR)(D:X.A.units+64<cLine):b8 X (compareOp O) (rD X.K X.mg (aw O)):=by
 intro p s l H x y v u Q I g i h;obtain⟨F,z,S,d,e,c,r,R,w⟩:=h;have hd:a9=40:=rfl;have fin:∀{k:Bool},Q (.bl k) H->EP X p l Q (.bool k) s:=λ{k} q=>⟨.bl k,H,I,rfl,q⟩;cases O with
 |Eq=>obtain⟨k,E,q⟩:=fG (o:=b9 S a9 d e) w c;exact(yc I c a9 X.A (by omega) d e x y v u k r g R i E).1 X.prog X.w _ _ (fin q)
 |NotEq=>obtain⟨k,E,q⟩:=fG (o:=(b9 S a9 d e).map not) w c;obtain⟨K,m,rfl⟩:=NM.mp E;exact(yc I c a9 X.A (by omega) d e x y v u K r g R i m).2.1 X.prog X.w _ _ (fin q)
 |Lt=>obtain⟨k,E,q⟩:=fG (o:=ez S a9 d e) w c;exact tK I c a9 X.A (by omega) d e x y v u k r g R i E X.prog X.w _ _ (fin q)
 |LtE=>
  replace w:aQ X.K ⟨X.mg,F⟩ z H Q (Fv d e S):=w;unfold Fv at w;split at w
  ·have:=aF r;have:=aF R;subst x y
   exact yO p s l H _ _ v u Q I g i ⟨_,_,rfl,rfl,w.now c cI⟩
  ·rename_i as bs;obtain⟨k,E,q⟩:=fG (o:=zC as bs) w c;obtain⟨a,vs,rfl,G,T⟩:=bO r;obtain⟨b,W,rfl,J,U⟩:=bO R;cases g;cases i;obtain⟨V,M,P,_⟩:=I.tuple G;obtain⟨zs,N,L,_⟩:=I.tuple J;exact He P L (by omega) (j9 as bs vs W V zs k T M U N E) X.prog X.w _ _ (fin q)
  ·exact w.elim
 |Gt=>
  replace w:aQ X.K ⟨X.mg,F⟩ z H Q (Hf d e S):=w;unfold Hf at w;split at w
  ·have:=aF r;have:=aF R;subst x y
   exact yP p s l H _ _ v u Q I g i ⟨_,_,rfl,rfl,w.now c cI⟩
  ·exact w.elim
 |GtE=>
  replace w:aQ X.K ⟨X.mg,F⟩ z H Q (Hg d e S):=w;unfold Hg at w;split at w
  ·have:=aF r;have:=aF R;subst x y
   exact yQ p s l H _ _ v u Q I g i ⟨_,_,rfl,rfl,w.now c cI⟩
  ·exact w.elim
 |In=>
  obtain⟨k,E,q⟩:=fG (o:=rg d e S) w c;cases t:ay S e with
  |some Z=>
   obtain⟨a,C,f,rfl,j,n,rfl⟩:=rh I c (A:=X.A) D r g R i (by rw[t];rfl) E;rcases j with j|j
   ·exact in_listAt f j n (fin q)
   ·exact in_tupleAt f j n (fin q)
  |none=>obtain⟨Y,y',rfl,rfl,B⟩:=j8 (by unfold rg at E;rw[t]at E;exact E);cases dI r;cases dI R;exact Gh p s l H _ _ v u Q I g i ⟨_,_,rfl,rfl,by rw[B];exact q⟩
 |NotIn=>
  obtain⟨k,E,q⟩:=fG (o:=(rg d e S).map not) w c;obtain⟨K,m,rfl⟩:=NM.mp E;cases t:ay S e with
  |some Z=>
   obtain⟨a,C,f,rfl,j,n,rfl⟩:=rh I c (A:=X.A) D r g R i (by rw[t];rfl) m;rcases j with j|j
   ·exact notIn_listAt f j n (fin q)
   ·exact notIn_tupleAt f j n (fin q)
  |none=>obtain⟨Y,y',rfl,rfl,B⟩:=j8 (by unfold rg at m;rw[t]at m;exact m);cases dI r;cases dI R;exact Gi p s l H _ _ v u Q I g i ⟨_,_,rfl,rfl,by rw[B];exact q⟩
 |Is=>
  replace w:aQ X.K ⟨X.mg,F⟩ z H Q (Hh d e S):=w;unfold Hh at w;split at w
  ·cases hG R;exact sW p s l H _ _ v u Q I g i ⟨rfl,by rw[zD r];exact w.now c cI⟩
  ·exact w.elim
 |IsNot=>
  replace w:aQ X.K ⟨X.mg,F⟩ z H Q (tN d e S):=w;unfold tN at w;split at w
  ·cases hG R;exact mq p s l H _ _ v u Q I g i ⟨rfl,by rw[zD r];exact w.now c cI⟩
  ·exact w.elim
end Py
namespace Py
def rC(K:Fg)(mg:Mg)(g:List D->ae->Res D):List V->Hp->VK->Prop:=λxs H Q=>∃F μ S ds,aJ K ⟨mg,F⟩ μ S H/\ai K ⟨mg,F⟩ μ H ds xs/\aQ K ⟨mg,F⟩ μ H Q (g ds S)
theorem ai.one{mg:GS}{vs:List V}(r:ai K mg μ H [d] vs):∃v,vs=[v]/\Rep K mg μ H d v:=by obtain⟨v,w,rfl,h,t⟩:=r.uncons;unfold ai at t;simp_all
theorem ai.two{mg:GS}{e:D}{vs:List V}(r:ai K mg μ H [d,e] vs):∃v w,vs=[v,w]/\Rep K mg μ H d v/\Rep K mg μ H e w:=by obtain⟨v,W,rfl,h,t⟩:=r.uncons;obtain⟨w,rfl,a⟩:=t.one;lia
theorem mT{mg:GS}{vs:List V}{i:Int}(r:ai K mg μ H ds vs)(h:g9 ds i=some d):∃v,g9 vs i=some v/\Rep K mg μ H d v:=by
 unfold g9 at h⊢;rw[<-r.length];cases e:iO _ i with
 |none=>simp_all
 |some j=>rw[e]at h;exact r.get h
noncomputable def bP(d e:D)(S:ae):Res D:=match ay S d,e with
 |some xs,.int i=>match g9 xs i with
  |some y=>.ok y S
  |none=>.fail
 |_,_=>zx d e S
theorem Hi:zf X (rD X.K X.mg bP):=by
 intro V b p s k H x y v u Q I R j h c;obtain⟨F,t,S,d,e,g,n,o,w⟩:=h;unfold bP at w;split at w
 ·rename_i A i E;split at w
  ·rename_i Y q;obtain⟨a,vs,rfl,f,r⟩:=fE g n E;cases aF o;obtain⟨z,l,m⟩:=mT r q;rcases f with f|f
   ·exact zg V b p s k H _ _ v u Q I R j ⟨a,vs,i,z,rfl,rfl,f,l,w.now g m⟩ c
   ·exact tj V b p s k H _ _ v u Q I R j ⟨a,vs,i,z,rfl,rfl,f,l,w.now g m⟩ c
  ·exact w.elim
 ·exact G' V b p s k H _ _ v u Q I R j ⟨F,t,S,_,_,g,n,o,w⟩ c
noncomputable def fH(ds:List D)(S:ae):Res D:=match ds with
 | [.str x]=>if x.length<=ck then .ok (.int x.length) S else .fail
 | [d]=>match ay S d with
  |some xs=>.ok (.int xs.length) S
  |none=>.fail
 |_=>.fail
theorem zF:a8 X (.builtin "len") (rC X.K X.mg fH):=by
 intro p s j H g u Q I r h;obtain⟨F,i,S,D,c,R,w⟩:=h;unfold fH at w;split at w
 ·split at w
  ·obtain⟨v,rfl,b⟩:=R.one;cases dI b;exact GP _ s _ H _ _ Q I r ⟨_,rfl,by trivial,w.now c bo⟩
  ·exact w.elim
 ·split at w
  ·rename_i x e;obtain⟨v,rfl,b⟩:=R.one;obtain⟨a,vs,rfl,d,f⟩:=fE c b e;refine GO _ s _ H _ _ Q I r ⟨a,_,rfl,d,?_⟩;rw[<-f.length];exact w.now c bo
  ·exact w.elim
 ·exact w.elim
noncomputable def ka(ds:List D)(S:ae):Res D:=match ds with
 | [.tup xs]=>.ok (.tup xs) S
 | [d]=>match ay S d with
  |some xs=>.ok (.tup xs) S
  |none=>.fail
 |_=>.fail
theorem zG{mg:GS}(s:aJ K mg μ S H)(r:Rep K mg μ H d v)(e:ay S d=some xs)(b:∀ys,d≠.tup ys):∃a vs,v=.ref a/\c6 K H a vs/\ai K mg μ H xs vs:=by
 cases d with
 |lst ys=>obtain⟨a,vs,E,h,q⟩:=cR s r (show c8 S _=some _ from e);exact⟨a,_,E,.of h,q⟩
 |ref n=>obtain⟨a,vs,E,h,q⟩:=cR s r (show c8 S _=some _ from e);exact⟨a,_,E,.of h,q⟩
 |tup ys=>simp_all
 |scr ys=>cases e;obtain⟨a,vs,e,h,q⟩:=r;exact⟨a,_,e,h.sq,q⟩
 |_=>cases e
theorem mU:a8 X (.type "tuple") (rC X.K X.mg ka):=by
 intro P s m H k u Q I r h;obtain⟨F,l,S,D,f,g,w⟩:=h;unfold ka at w;split at w
 ·obtain⟨v,rfl,b⟩:=g.one;obtain⟨a,vs,rfl,c,R⟩:=bO b;exact zk _ s _ H _ _ Q I r ⟨a,_,rfl,.inr ⟨c,w.now f b⟩⟩
 ·rename_i d i;split at w
  ·rename_i x e;obtain⟨v,rfl,b⟩:=g.one;obtain⟨a,vs,rfl,c,R⟩:=zG f b e λy z=>i y (by omega);exact zk _ s _ H _ _ Q I r ⟨a,_,rfl,.inl ⟨c,λp j=>w.tup f R p j⟩⟩
  ·exact w.elim
 ·exact w.elim
noncomputable def kb(box:Bool)(ds:List D)(S:ae):Res D:=match ds with
 | [d]=>match ay S d with
  |some xs=>if box then .ok (.ref S.length) (S++[xs])else .ok (.lst xs) S
  |none=>.fail
 |_=>.fail
theorem tO(box:Bool):a8 X (.type "list") (rC X.K X.mg (kb box)):=by
 intro P s k H i u Q I r h;obtain⟨F,j,S,D,b,g,w⟩:=h;unfold kb at w;split at w
 ·split at w
  ·rename_i x e;obtain⟨v,rfl,f⟩:=g.one;obtain⟨a,vs,rfl,d,R⟩:=fE b f e;refine GQ _ s _ H _ _ Q I r ⟨a,_,rfl,d,λp c=>?_⟩;split at w
   ·exact w.box b R p c
   ·exact w.lst b R p c
  ·exact w.elim
 ·exact w.elim
noncomputable def intD(ds:List D)(S:ae):Res D:=match ds with
 | [.int i]=>.ok (.int i) S
 | [.bl b]=>.ok (.int (if b then 1 else 0)) S
 |_=>zy ds S
theorem zH:a8 X (.type "int") (rC X.K X.mg intD):=by
 intro p s c H x u Q I r h;obtain⟨F,e,S,d,b,R,w⟩:=h;unfold intD at w;split at w
 ·obtain⟨v,rfl,a⟩:=R.one;cases aF a;exact yS p s c H _ u Q I r (.inl ⟨_,rfl,w.now b bo⟩)
 ·obtain⟨v,rfl,a⟩:=R.one;cases f8 a;exact yS p s c H _ u Q I r (.inr ⟨_,rfl,w.now b bo⟩)
 ·exact zA I r b R w
noncomputable def tQ(ds:List D)(S:ae):Res D:=match ds with
 | [.int i,.int j]=>.ok (.int (if j<i then j else i)) S
 |_=>.fail
noncomputable def tR(ds:List D)(S:ae):Res D:=match ds with
 | [.int i,.int j]=>.ok (.int (if j>i then j else i)) S
 |_=>.fail
theorem zI(a:X.calm=Nj):a8 X (.builtin "min") (rC X.K X.mg tQ):=by
 intro p s f H x u Q I r h;obtain⟨F,e,S,d,c,R,w⟩:=h;unfold tQ at w;split at w
 ·obtain⟨v,W,rfl,b,hw⟩:=R.two;cases aF b;cases aF hw;exact Gr a _ s _ H _ _ Q I r ⟨_,_,rfl,w.now c bo⟩
 ·exact w.elim
theorem zJ(a:X.calm=Nj):a8 X (.builtin "max") (rC X.K X.mg tR):=by
 intro p s f H x u Q I r h;obtain⟨F,e,S,d,c,R,w⟩:=h;unfold tR at w;split at w
 ·obtain⟨v,W,rfl,b,hw⟩:=R.two;cases aF b;cases aF hw;exact Gq a _ s _ H _ _ Q I r ⟨_,_,rfl,w.now c bo⟩
 ·exact w.elim
noncomputable def bb(S:ae):D->Option Bool
 | .non=>some Nk
 | .bl b=>some b
 | .int i=>some (i !=0)
 | .str x=>if x.length<=ck then some ((x.length:Int) !=0)else none
 |d=>(ay S d).map λxs=> !xs.isEmpty
theorem rk{mg:GS}{k:Bool}(j:aJ K mg μ S H)(r:Rep K mg μ H d v)(e:bb S d=some k):iL K v H k:=by
 have seq:∀(x:List D),ay S d=some x->k= !x.isEmpty->iL K v H k:=λx f E=>by
  obtain⟨a,vs,rfl,c,q⟩:=fE j r f;have i:=q.length;have g:x.isEmpty=vs.isEmpty:=by cases x<;>cases vs<;>simp at i⊢
  rw[g]at E;rcases c with c|c
  ·exact .inl ⟨_,c,E⟩
  ·exact .inr (.inl ⟨_,c,E⟩)
 have s:(ay S d).map _=some k->iL K v H k:=λh=>by obtain⟨x,f,E⟩:=NM.mp h;exact seq _ f E.symm
 cases d with
 |non=>cases hG r;cases e;rfl
 |bl b=>cases f8 r;cases e;rfl
 |int b=>cases aF r;cases e;rfl
 |str b=>
  cases dI r;replace e:(if b.length<=ck then some _ else none)=some k:=e;split at e
  ·cases e;exact⟨by trivial,rfl⟩
  ·cases e
 |tup b=>exact s e
 |lst b=>exact s e
 |ref b=>exact s e
 |scr b=>exact s e
 |fn b=>exact s e
 |dct=>exact s e
 |dks b=>exact s e
 |ty b=>exact s e
noncomputable def a_(xs:List D)(l h:Option Int):List D:=(xs.drop (HT.bz xs.length 0 l)).take (HT.bz xs.length xs.length h-HT.bz xs.length 0 l)
theorem zK{mg:GS}{vs:List V}(r:ai K mg μ H ds vs):ai K mg μ H (a_ ds lo hi) (iN vs lo hi):=by unfold a_ iN;rw[r.length];exact(r.drop _).take _
noncomputable def mV(d:D)(l h:Option Int)(S:ae):Res D:=match d with
 | .tup xs=>.ok (.tup (a_ xs l h)) S
 |d=>match ay S d with
  |some xs=>.ok (.lst (a_ xs l h)) S
  |none=>Mq d l h S
def M3(K:Fg)(mg:Mg):V->Option Int->Option Int->Hp->VK->Prop:=λx lo hi H Q=>∃F μ S d,aJ K ⟨mg,F⟩ μ S H/\Rep K ⟨mg,F⟩ μ H d x/\aQ K ⟨mg,F⟩ μ H Q (mV d lo hi S)
theorem Hj{t:Nm}(H:RU s.heap t items)(hs:s.heap.IsSliceOf sl vl vu .none)(pl:Qa vl lo)(p:Qa vu hi)
  (hw:HT.bz items.size 0 lo=0/\HT.bz items.size items.size hi=items.size) (h:Q (.ref t) s):wpAny (model prog w) A (getItem (.ref t) (.ref sl)) Q E s:=by
 obtain⟨o,b,a,c⟩:=id hs;unfold getItem
 try with_reducible refine ZB ?_
 refine Za (Q_ H.typeIs (rfl) ?_)
 refine Za (ZZ H.typeIs Z9
  (ZY Z9 H.typeIs QM ?_ (QX _ _)))
 show wpAny _ _ (Pe _>>=_) _ _ s;refine Za (Sk H ?_);refine Za (OU ⟨_,b,a⟩ ?_);refine Za (HT.y_ hs pl p ?_);show wpAny _ _ (if(((HT.bz _ 0 _:Nat):Int)==0&&(1)==1&&(HT.bz _ _ _-HT.bz _ 0 _)==items.size)=Nj then _ else _) _ _ s;rw[if_pos (by simp_all)];exact Za (Za (OU H.typeIs (Zd (Za (O' (Zd ⟨_,rfl,Zd h⟩))))))
theorem Hk:Fs X (M3 X.K X.mg):=by
 intro y s B H x v V A l g sl Q I m j P k h;obtain⟨F,G,S,d,c,R,w⟩:=h;unfold mV at w;split at w
 ·rename_i q;obtain⟨a,vs,rfl,i,r⟩:=bO R;have t:=r.length;by_cases f:HT.bz vs.length 0 l=0/\HT.bz vs.length vs.length g=vs.length
  ·cases m;obtain⟨o,D,u,E⟩:=I.tuple i;have b:o.toArray.size=vs.length:=by rw[Zu];exact D.length.symm
   refine⟨"tuple",_,PyProof.Rows.slot_tuple_getitem.lookup,u.typeIs,?_⟩;refine Hj u j P k (by rw[b];exact f) ⟨.ref a,H,I,rfl,?_⟩;have e:a_ q l g=q:=by unfold a_;rw[t,f.1,f.2];simp[<-t]
   rw[e]at w;exact w.now c R
  ·exact sl_tup y s B H _ v V A l g sl Q I m j P k ⟨a,vs,rfl,i,f,λp n=>w.tup c (zK r) p n⟩
 ·rename_i d C;split at w
  ·rename_i q e;obtain⟨a,vs,rfl,i,r⟩:=zG c R e (λY z=>C Y z);exact mF y s B H _ v V A l g sl Q I m j P k ⟨a,vs,rfl,i,λp n=>w.lst c (zK r) p n⟩
  ·exact Ha I m j P k c R w
noncomputable def tU(S:ae):D->Option String
 | .non=>some "NoneType"
 | .bl _=>some "bool"
 | .int _=>some "int"
 | .str _=>some "str"
 | .tup _=>some "tuple"
 | .lst _=>some "list"
 | .ref n=>(S[n]?).map λ_=>"list"
 | .scr _=>some "list"
 | .dct=>some "dict"
 |_=>none
noncomputable def kc(t c:String):Option Bool:=
 if ["NoneType","bool","int","str","tuple","list","dict"].contains t&&["bool","int","str","tuple","list","dict"].contains c then some (t==c||(t=="bool"&&c=="int"))else none
theorem mW{t c:String}{b:Bool}(h:kc t c=some b):PySem.W.kitOne K (.type t) (.type c)=some b:=by
 unfold kc at h;split at h
 ·rename_i H;simp at H;cases h;obtain⟨a,d⟩:=H;rcases a with rfl|rfl|rfl|rfl|rfl|rfl|rfl<;>rcases d with rfl|rfl|rfl|rfl|rfl|rfl<;>first|rfl|decide+kernel
 ·cases h
noncomputable def bH(ds:List D)(S:ae):Res D:=match ds with
 | [d,.ty c]=>match tU S d with
  |some t=>bu (kc t c) S
  |none=>.fail
 |_=>.fail
theorem Hl:a8 X (.builtin "isinstance") (rC X.K X.mg bH):=by
 intro P s B H V us Q I r h;obtain⟨F,μ,S,W,m,N,w⟩:=h;unfold bH at w;split at w
 ·rename_i d c;split at w
  ·rename_i t E;obtain⟨b,J,q⟩:=fG w m;obtain⟨v,z,rfl,g,x⟩:=N.two;have k:z=.ty c:=by unfold Rep at x;exact x
   subst k;obtain⟨u,y,rfl,R,U⟩:=r.two;cases U;have e:=mW (K:=X.K) J;have fin:∀T,EP X P B Q (.bool b) {s with toks:=T}:=λT=>⟨.bl b,H,I.tok _,rfl,q⟩
   have lst:∀a vs,v=.ref a->c6 X.K H a vs->t="list"->wpAny (model X.prog X.w) X.A (call _ [u,.type c]) (EP X P B Q) X.xe s:=λa vs L f E=>by subst L;subst E;cases R;obtain⟨l,O,M,_⟩:=I.list f;obtain⟨o,i,j,_⟩:=M.isList;exact PySem.W.kia_one PySem.W.kitx_list I.kIn ⟨o,i,j⟩ e (λz=>nomatch z) fin
   cases d with
   |non=>cases hG g;cases R;cases E;exact PySem.W.kia_one PySem.W.kitx_none I.kIn Ph e (λz=>nomatch z) fin
   |bl b=>cases f8 g;cases R;cases E;exact PySem.W.kia_one PySem.W.kitx_bool I.kIn Ph e (λz=>nomatch z) fin
   |int b=>cases aF g;obtain⟨t,rfl⟩:=R;cases E;exact PySem.W.kia_one PySem.W.kitx_int I.kIn Ph e (λz=>nomatch z) fin
   |str b=>cases dI g;obtain⟨t,rfl⟩:=R;cases E;exact PySem.W.kia_one PySem.W.kitx_str I.kIn Ph e (λz=>nomatch z) fin
   |tup b=>obtain⟨a,vs,rfl,f,_⟩:=bO g;cases R;cases E;obtain⟨l,O,p,_⟩:=I.tuple f;obtain⟨o,i,j,_⟩:=p;exact PySem.W.kia_one PySem.W.kitx_tuple I.kIn ⟨o,i,j⟩ e (λz=>nomatch z) fin
   |lst b=>obtain⟨a,vs,rfl,f,_⟩:=cR m g rfl;cases E;exact lst a vs rfl (.of f) rfl
   |ref n=>obtain⟨V,C,D⟩:=NM.mp E;obtain⟨a,vs,rfl,f,_⟩:=cR m g C;exact lst a vs rfl (.of f) D.symm
   |scr b=>obtain⟨a,vs,rfl,f,_⟩:=g;cases E;exact lst a vs rfl f.sq rfl
   |dct=>obtain⟨a,rfl,G⟩:=g;cases R;cases E;obtain⟨_,_,vs,_,p⟩:=(show aP X.prog X.w H s.heap a (.dK [])from I.hok a _ G);obtain⟨o,Z,Y,i,j,_⟩:=p;exact PySem.W.kia_one PySem.W.kitx_dict I.kIn ⟨o,i,j.1⟩ e (λz=>nomatch z) fin
   |fn b=>cases E
   |ty b=>cases E
   |dks b=>cases E
  ·exact w.elim
 ·exact w.elim
def fm:D->Option Bool
 | .bl b=>some b
 |_=>none
noncomputable def iQ(ds:List D)(S:ae):Res D:=match ds with
 | [d]=>match ay S d with
  |some xs=>bu (ba (xs.map fm)) S
  |none=>.fail
 |_=>.fail
noncomputable def tV(ds:List D)(S:ae):Res D:=match ds with
 | [d]=>match ay S d with
  |some xs=>bu (tM (xs.map fm)) S
  |none=>.fail
 |_=>.fail
theorem zL{mg:GS}{vs:List V}(r:ai K mg μ H xs vs)(q:Vals vs its)(h:∀(j:Nat) o,(xs.map fm)[j]?=some o->o=some (eJ (xs.map fm) j)):
  ∀(i:Nat) v,its.toArray[i]?=some v->v=.bool (eJ (xs.map fm) i):=λi v l=>by
 have L:=r.length;have p:=q.length
 have a:=by simpa using l
 have n:=(Zm.mp a).1;have m:xs[i]?=some (xs[i]'(by omega)):=Zi _;obtain⟨w,g,e⟩:=r.get m;obtain⟨u,f,k⟩:=q.get g;rw[a]at f;cases f;have c:=h i (fm (xs[i]'(by omega))) (by simp_all);revert e c;generalize xs[i]'(by omega)=d;intro e c;cases d with
 |bl b=>
  cases f8 e;have:=by simpa[fm]using c
  rw[<-this];exact k
 |_=>cases c
theorem ke(C:X.calm=Nj)(I:Inv X pq σ H s)(M:aJ X.K ⟨X.mg,F⟩ μ S H)(G:Rep X.K ⟨X.mg,F⟩ μ H d v)(J:RelV v u)(e:ay S d=some xs)
  (h:∀(j:Nat) o,(xs.map fm)[j]?=some o->o=some (eJ (xs.map fm) j)) (b:Bool->Bool) {Q:VK} {fb:Nat->Bool} (q:Q (.bl (fb xs.length)) H):
  wpAny (model X.prog X.w) X.A.in1 (pyIter u) (λit g=>∃I fp wr n P St,it=.ref I/\Walks X.prog X.w X.A.in1 I fp wr n P St/\St 0 g.heap/\TruthOf X.prog X.w X.A.in1 P (eJ (xs.map fm))/\
   ∀h' tk,(∀b o,b∉wr->g.heap.get? b=some o->h'.get? b=some o)->EP X pq σ Q (.bool (fb n)) {g with heap:=h',toks:=tk}) X.xe s:=by
 obtain⟨a,vs,rfl,m,r⟩:=fE M G e;cases J;have y:X.A.in1.handled=none:=I.ok.hd C;rcases m with m|m
 ·obtain⟨c,R,p,D⟩:=I.list m;have B:=zL r R h;refine NP p.isList ?_;have k:a≠s.heap.objs.size:=by obtain⟨o,f,_⟩:=p.isList;exact Zs (Zf f)
  refine⟨_,_,_,_,_,_,rfl,Walks.list y s.heap.objs.size a k c.toArray,⟨⟨_,Zg _ rfl,rfl,rfl⟩,Qr p.isList _⟩,?_,λh' tk K=>?_⟩
  ·intro i v L A E w l;rw[B i v w];exact ZO l
  ·have t:c.toArray.size=xs.length:=by rw[Zu,<-R.length,<-r.length]
   rw[t];refine⟨.bl _,H,I.kept (h':=h') (t':=tk) λb o f=>K b o ?_ (Zb _ f),rfl,q⟩;intro z;have Z:b=s.heap.objs.size:=by simpa using z
   exact absurd (Zf f) (by rw[Z];exact ZL _)
 ·obtain⟨c,R,p,D⟩:=I.tuple m;have B:=zL r R h;refine N2 (show s.heap.IsTuple a c.toArray from p) ?_;have k:a≠s.heap.objs.size:=by obtain⟨o,f,_⟩:=p;exact Zs (Zf f)
  refine⟨_,_,_,_,_,_,rfl,Walks.tuple y s.heap.objs.size a k c.toArray,⟨⟨_,Zg _ rfl,rfl,rfl⟩,by obtain⟨o,f,r⟩:=p;exact⟨o,Zb _ f,r⟩⟩,?_,λh' tk K=>?_⟩
  ·intro i v L A E w l;rw[B i v w];exact ZO l
  ·have t:c.toArray.size=xs.length:=by rw[Zu,<-R.length,<-r.length]
   rw[t];refine⟨.bl _,H,I.kept (h':=h') (t':=tk) λb o f=>K b o ?_ (Zb _ f),rfl,q⟩;intro z;have Z:b=s.heap.objs.size:=by simpa using z
   exact absurd (Zf f) (by rw[Z];exact ZL _)
theorem zM(l:X.calm=Nj):a8 X (.builtin "all") (rC X.K X.mg iQ):=by
 intro x s G H B U Q I r h;obtain⟨F,C,S,D,a,R,w⟩:=h;unfold iQ at w;split at w
 ·split at w
  ·rename_i d y e;obtain⟨k,E,q⟩:=fG w a;obtain⟨v,rfl,m⟩:=R.one;obtain⟨u,rfl,o⟩:=r.one;obtain⟨j,t⟩:=mR _ _ E;exact call_all_walk (ZH (ke l I a m o e j id (Q:=Q) (fb:=λn=>(Nq n).all (eJ (y.map fm))) (by simp_all)) (λit b ⟨_,_,_,n,P,_,A,c,f,g,i⟩=>⟨_,_,_,n,P,_,_,A,c,f,g,i⟩) λ_ _ z=>z)
  ·exact w.elim
 ·exact w.elim
theorem zN(D:X.calm=Nj):a8 X (.builtin "any") (rC X.K X.mg tV):=by
 intro Y s σ H xs us Q I r h;obtain⟨F,μ,S,O,g,R,w⟩:=h;unfold tV at w;split at w
 ·split at w
  ·rename_i d y e;obtain⟨k,E,q⟩:=fG w g;obtain⟨v,rfl,K⟩:=R.one;obtain⟨u,rfl,L⟩:=r.one;obtain⟨x,B⟩:=zE E
   have C:∀(j:Nat) o,(y.map _)[j]?=some o->o=some (eJ (y.map fm) j):=λj o a=>by
    have:=x o (Zq a);cases o with
    |none=>cases this
    |some b=>simp[eJ,a]
   have W:k=(Nq y.length).any (eJ (y.map fm)):=by
    rw[B];apply Oe.mpr;rw[Pg,Pg];constructor
    ·rintro⟨o,a,G⟩;obtain⟨j,J,T⟩:=ZJ.mp a;have c:(y.map fm)[j]?=some o:=by grind
     grind
    ·rintro⟨j,J,G⟩;have f:j<(y.map fm).length:=by grind
     have c:=Zi f
     grind
   exact call_any_walk (ZH (ke D I g K L e C id (Q:=Q) (fb:=λn=>(Nq n).any (eJ (y.map fm))) (by lia)) (λit i Z=>by obtain⟨M,V,wr,n,P,N,A,l,m,p,t⟩:=Z;exact(⟨_,_,_,n,P,_,_,A,l,m,p,t⟩)) λ_ _ z=>z)
  ·exact w.elim
 ·exact w.elim
def rM(K:Fg)(mg:Mg)(g:D->List D->ae->Res D):V->List V->Hp->VK->Prop:=λx xs H Q=>∃F μ S d ds,aJ K ⟨mg,F⟩ μ S H/\Rep K ⟨mg,F⟩ μ H d x/\ai K ⟨mg,F⟩ μ H ds xs/\aQ K ⟨mg,F⟩ μ H Q (g d ds S)
theorem kf{mg:GS}(s:aJ K mg μ S H)(r:Rep K mg μ H (.ref n) v)(e:S[n]?=some xs):∃a vs,v=.ref a/\μ[n]?=some a/\H a=some (.lst vs)/\ai K mg μ H xs vs:=by obtain⟨a,rfl,h⟩:=r;obtain⟨vs,b,q⟩:=s.at_ n a _ h e;exact⟨a,_,rfl,h,b,q⟩
noncomputable def kg(d:D)(ds:List D)(S:ae):Res D:=match d,ds with
 | .ref n,[y]=>match S[n]? with
  |some xs=>if xs.length<ck then .ok .non (S.set n (xs++[y]))else .fail
  |none=>.fail
 |_,_=>.fail
theorem Hm:jJ X "list.append" (rM X.K X.mg kg):=by
 intro p s t H x o v u Q I k j h;obtain⟨F,q,S,d,D,c,i,R,w⟩:=h;have l:=mO;unfold kg at w;split at w
 ·split at w
  ·rename_i n y Y e;split at w
   ·obtain⟨a,vs,rfl,f,b,r⟩:=kf c i e;obtain⟨z,rfl,g⟩:=R.one;have m:=r.length;exact zp _ s _ H _ _ v _ Q I k j ⟨a,_,z,rfl,rfl,b,by simp_all,w.wrote c f b (r.append (.cons g .nil)) j7⟩
   ·exact w.elim
  ·exact w.elim
 ·exact w.elim
noncomputable def tX(d:D)(ds:List D)(S:ae):Res D:=match d,ds with
 | .ref n,[y]=>match S[n]?,c8 S y with
  |some xs,some ys=>if xs.length+ys.length<=ck then .ok .non (S.set n (xs++ys))else .fail
  |_,_=>.fail
 |_,_=>.fail
theorem Hn:jJ X "list.extend" (rM X.K X.mg tX):=by
 intro P s C H x A v u Q I p o h;obtain⟨F,B,S,d,D,c,m,R,w⟩:=h;have q:=mO;unfold tX at w;split at w
 ·split at w
  ·rename_i n y Y Z e E;split at w
   ·obtain⟨a,vs,rfl,k,f,r⟩:=kf c m e;obtain⟨z,rfl,l⟩:=R.one;obtain⟨b,W,rfl,i,g⟩:=cR c l E;have t:=r.length;have j:=g.length;exact GU _ s _ H _ _ v _ Q I p o ⟨a,b,_,_,rfl,rfl,f,i,by simp_all,w.wrote c k f (r.append g) j7⟩
   ·exact w.elim
  ·exact w.elim
 ·exact w.elim
theorem ai.dropLast{mg:GS}{vs:List V}(r:ai K mg μ H ds vs):ai K mg μ H ds.dropLast vs.dropLast:=by rw[R0,R0,r.length];exact r.take _
noncomputable def tY(d:D)(ds:List D)(S:ae):Res D:=match d,ds with
 | .ref n,[]=>match S[n]? with
  |some xs=>match xs[xs.length-1]? with
   |some y=>.ok y (S.set n xs.dropLast)
   |none=>.fail
  |none=>.fail
 |_,_=>.fail
theorem zO:jJ X "list.pop" (rM X.K X.mg tY):=by
 intro p s q H x m v u Q I l k h;obtain⟨F,o,S,d,D,f,j,R,w⟩:=h;unfold tY at w;split at w
 ·split at w
  ·rename_i n Y e;split at w
   ·rename_i y E;obtain⟨a,vs,rfl,i,c,r⟩:=kf f j e;subst R;obtain⟨z,b,g⟩:=r.get E;rw[r.length]at b;exact tq _ s _ H _ _ v _ Q I l k ⟨a,_,z,rfl,rfl,c,b,w.wrote f i c r.dropLast g⟩
   ·exact w.elim
  ·exact w.elim
 ·exact w.elim
noncomputable def iR(d e f:D)(S:ae):Option ae:=match d,e with
 | .ref n,.int i=>match S[n]? with
  |some xs=>match iO xs.length i with
   |some j=>some (S.set n (xs.set j f))
   |none=>none
  |none=>none
 |_,_=>none
noncomputable def Ho(K:Fg)(mg:Mg):l_:=λo i v H Q=>∃F μ S d e f,aJ K ⟨mg,F⟩ μ S H/\Rep K ⟨mg,F⟩ μ H d o/\Rep K ⟨mg,F⟩ μ H e i/\Rep K ⟨mg,F⟩ μ H f v/\
 ∃S',iR d e f S=some S'/\∀μ' H',Ext μ H μ' H'->aJ K ⟨mg,F⟩ μ' S' H'->Q H'
theorem zP:sy X (Ho X.K X.mg):=by
 intro P s C H o i v O A u Q I x t y h;obtain⟨F,B,S,d,e,f,l,R,p,q,z,E,w⟩:=h;unfold iR at E;split at E
 ·split at E
  ·rename_i n k _ Y m;split at E
   ·rename_i j c;cases E;obtain⟨a,vs,rfl,g,b,r⟩:=kf l R m;cases aF p;rw[r.length]at c;exact GJ _ s _ H _ _ v _ _ u Q I x t y ⟨a,_,k,j,rfl,rfl,b,c,w _ _ (.wrote (Zq g) b) (l.wrote g b (r.set j q))⟩
   trivial
  trivial
 trivial
noncomputable def b_(env:Env):List (Str×Oa)->List (Str×Nm)->List (Str×Nm)
 | [],cs=>cs
 | (n,k)::r,cs=>b_ env r (if k== .free then(match env.cells.lookup n with|some c=>(n,c)::cs|none=>cs)else cs)
theorem Hq(h:∀x∈scope.names,x.2=.free->∃c,env.cells.lookup x.1=some c):closureFor scope env=pure (b_ env scope.names []):=by
 unfold closureFor
 have K:∀(l:List _) (C:List _),(∀x∈l,x.2=.free->∃c,env.cells.lookup x.1=some c)->
   (forIn l C λx r=>(if(x.2==Qg)=Nj then do let c <-cellOf env x.1;pure (NN ((x.1,c)::r))else pure (NN r):Sem _))=pure (b_ env l C):=by
  intro l
  induction l with
  |nil=>intro C _;rfl
  |cons x l i=>
   intro C d;obtain⟨n,k⟩:=x;unfold b_;by_cases b:k=.free
   ·subst b;obtain⟨c,H⟩:=d (n,.free) (by simp) rfl;have a:cellOf env n=pure c:=by unfold cellOf;rw[H]
    simp_all
   grind
 grind
theorem tZ{env:Env}:∀(l:List (Str×Oa)) (cs:List (Str×Nm)),(∀p∈cs,env.cells.lookup p.1=some p.2)->∀p∈b_ env l cs,env.cells.lookup p.1=some p.2
 | [],cs,h,p,H=>h p H
 | (n,k)::r,cs,h,p,H=>by
  refine tZ r _ (λq a=>?_) p H
  grind
theorem zQ{env:Env}:∀(l:List (Str×Oa)) (cs:List (Str×Nm)),∀p∈cs,p∈b_ env l cs
 | [],cs,p,h=>h
 | (n,k)::r,cs,p,h=>by
  refine zQ r _ p ?_
  grind
theorem zR{env:Env}{x:Str}{c:Nm}(H:env.cells.lookup x=some c):∀(l:List (Str×Oa)) (cs:List (Str×Nm)),(x,Qg)∈l->(x,c)∈b_ env l cs
 | [],cs,h=>by simp_all
 | (n,k)::r,cs,h=>by
  rcases Zj.mp h with e|h
  ·refine zQ r _ _ ?_;simp_all
  ·exact zR H r _ h
theorem zS{a:Type}{x:Str}{c:a}:∀{l:List (Str×a)},(x,c)∈l->∃d,l.lookup x=some d
 | [],h=>by simp_all
 | (n,d)::r,h=>by
  dsimp only[Ta];cases e:x==n with
  |true=>simp
  |false=>
   rcases Zj.mp h with E|h
   ·simp_all
   ·exact zS h
theorem zT{env:Env}:∀{N:List (Str×Oa)} {x:Str} {k:Oa},(N.map λ(n,k)=>if(k==Qg&&env.scope.kind== .function&&env.kindOf n==some .cell)then(n,ND)else(n,k)).lookup x=some k->
  ∃K,N.lookup x=some K/\(k=K\/(K=.free/\k=.cell))
 | [],_,_,h=>by trivial
 | (n,a)::r,x,k,h=>by
  have i:= @zT env r x k
  grind
theorem zU{env:Env}:∀{N:List (Str×Oa)} {x:Str},N.lookup x=some .free->
  let m:=(N.map λ(n,k)=>if(k==Qg&&env.scope.kind== .function&&env.kindOf n==some .cell)then(n,ND)else(n,k))
  m.lookup x=some .cell\/m.lookup x=some .free
 | [],_,h=>by trivial
 | (n,K)::r,x,h=>by
  have i:= @zU env r x
  grind
theorem kh:∀(N:List (Str×Oa)) (n:Nat) (a b:List (Str×Nm)),cellsFrom n N (a++b)=cellsFrom n N a++b
 | [],_,_,_=>rfl
 | (x,k)::r,n,a,b=>by
  show(if(k==ND)=Nj then cellsFrom _ r _ else cellsFrom n r _)=(if(k==ND)=Nj then cellsFrom _ r _ else cellsFrom n r a)++b;split
  ·exact kh r _ ((x,n)::a) b
  ·exact kh r n a b
theorem t4{x:Str}{c:Nm}:∀(N:List (Str×Oa)) (n:Nat) (a:List (Str×Nm)),(x,c)∈cellsFrom n N a->(x,c)∈a\/(x,ND)∈N
 | [],_,_,h=>.inl h
 | (y,k)::r,n,a,h=>by
  replace h:(x,c)∈if(k==ND)=Nj then cellsFrom _ r _ else cellsFrom n r a:=h;split at h
  ·rcases t4 r _ _ h with h|h
   ·grind
   simp[*]
  ·rcases t4 r n _ h with h|h
   ·exact .inl h
   simp_all
theorem t5{M:Model}{A:NV}{E:Vs}:∀(n:List (Str×Oa)) (cs:List (Str×Nm)) (s:Nl) (Q:List (Str×Nm)->Nl->Prop),Q (cellsFrom s.heap.objs.size n cs) {s with heap:=pushCells s.heap n}->
  wpAny M A (forIn n cs λx r=>match x with
   | (name,kind)=>if(kind==ND)=Nj then do
     let c <-alloc {cls:=N3 "cell",data:=Data.cell none}
     pure (NN ((name,c)::r))
    else pure (NN r)) Q E s
 | [],cs,s,Q,h=>by exact Zd h
 | (x,k)::r,cs,s,Q,h=>by
  rw[Ps];have h:Q (if(k==ND)=Nj then cellsFrom (s.heap.objs.size+1) r ((x,s.heap.objs.size)::cs)else cellsFrom s.heap.objs.size r cs) {s with heap:=if(k==ND)=Nj then pushCells (s.heap.push {cls:=.type "cell",data:=.cell none}) r else pushCells s.heap r}:=h;cases a:(k==ND)with
  |true=>refine Za ?_;show wpAny M A (if(k==ND)=Nj then _ else _) _ _ _;rw[a];refine Za (Ru (Zd ?_));refine t5 r _ {s with heap:=s.heap.push {cls:=.type "cell",data:=.cell none}} Q ?_;simp_all
  |false=>rw[a,if_neg (by simp)]at h;refine Za ?_;show wpAny M A (if(k==ND)=Nj then _ else _) _ _ _;rw[a];exact Zd (t5 r _ s Q h)
theorem Hr{M:Model}{A:NV}{E:Vs}{g:Nm}{c:List (Str×Nm)}{q:Str}{out:Env}{bl:Nm}{Q:Env->Nl->Prop}
  (h:Q ⟨scope,s.heap.objs.size,g,cellsFrom (s.heap.objs.size+1) scope.names c,q,none,out.code,out.frame,out.builtins⟩ {s with heap:=pushCells (s.heap.push {cls:=.type "dict",data:=.dict #[]}) scope.names}):
  wpAny M A (newFunctionEnv scope g c [] q none .none (some out) bl) Q E s:=by
 refine Za (Ru (Za (t5 _ _ _ _ ?_)));refine Za (Zd (Zd ?_));simp_all
noncomputable def fJ(X:Cx)(scope:Scope)(N:Ls)(C:Nm)(s0:Nl)(a:Hp)(f:La):Cx:=
 {X with N:=N,s₀:=s0,H₀:=a,env:=compEnvC scope (cellsFrom (C+1) scope.names (b_ X.env scope.names [])) C X.env,outer:=X.stack,stack:=X.stack,ex:=f,fn:=λx=>scope.names.lookup x==some .cell,pn:=[],xe:=λ_ _=>False}
structure dJ (X:Cx)(scope:Scope):Prop where
 kind:scope.kind=.function
 cel:∀y∈scope.names,y.2=.cell->scope.names.lookup y.1=some .cell
 loc:∀y∈scope.names,y.2=.local->scope.names.lookup y.1=some .local
 free:∀y∈scope.names,y.2=.free->X.env.kindOf y.1=some .cell\/X.env.kindOf y.1=some .free
theorem ki(I:Inv X pq σ H s){b:Nm}(h1:b≠X.env.locals)(h:b∉X.fs):b∉bE X.stack:=λz=>(Zj.mp (I.stkSub b z)).elim h1 h
theorem hO{x:Str}{c:Nm}(h:(cellsFrom n scope.names (b_ X.env scope.names [])).lookup x=some c):(cellsFrom n scope.names []).lookup x=some c\/((cellsFrom n scope.names []).lookup x=none/\(b_ X.env scope.names []).lookup x=some c):=by have e:=kh scope.names n [] (b_ X.env scope.names []);rw[List.nil_append]at e;rw[e,List.lookup_append]at h;simp_all
theorem Hs{x:Str}{c:Nm}(h:(cellsFrom n scope.names []).lookup x=some c):(cellsFrom n scope.names (b_ X.env scope.names [])).lookup x=some c:=by
 have e:=kh scope.names n [] (b_ X.env scope.names [])
 grind
theorem zV{x:Str}{c:Nm}(h:(cellsFrom n scope.names []).lookup x=none)(H:(b_ X.env scope.names []).lookup x=some c):(cellsFrom n scope.names (b_ X.env scope.names [])).lookup x=some c:=by
 have e:=kh scope.names n [] (b_ X.env scope.names [])
 grind
theorem Ht{m:Mg}{tk:Nat}(hc:X.calm=Nj)(I:Inv X pq σ H s)(S:dJ X scope)(R:∀b∈fp,dh X pq H b)(T:∀b∈fp,∃o,s.heap.get? b=some o)
  (hn:h1.Ns s.heap.objs.size m) (old:∀b o,s.heap.get? b=some o->h1.get? b=some o) (f:CellsOk h1 (s.heap.objs.size+1) (cellsFrom (s.heap.objs.size+1) scope.names [])) (hl:σ'.length=N.length)
  (U:∀(i:Nat) (v:V) (x:Str),N[i]?=some x->σ'[i]?=some (some v)->scope.names.lookup x=some .free/\∃j:Nat,X.N[j]?=some x/\σ[j]?=some (some v)):
  Inv (fJ X scope N s.heap.objs.size s H fp) (X.pn++pq) σ' H {s with heap:=h1,toks:=tk}:=by
 have lt:∀{b:Nm} {o:Obj},s.heap.get? b=some o->b≠s.heap.objs.size:=λe=>Zs (Zf e);have C:∀x c,(b_ X.env scope.names []).lookup x=some c->X.env.cells.lookup x=some c:=λx c h=>tZ scope.names [] (λ_ z=>nomatch z) (x,c) (ZC h);have a:∀x c,X.env.cells.lookup x=some c->c<s.heap.objs.size:=λx c h=>by obtain⟨v,q⟩:=I.cell x c h;exact q.lt
 have O:∀x c,(cellsFrom (s.heap.objs.size+1) scope.names []).lookup x=some c->h1.IsCell c none/\s.heap.objs.size+1<=c:=λx c h=>f.empty x c (ZC h)
 have E:∀x c,(cellsFrom (s.heap.objs.size+1) scope.names []).lookup x=some c->scope.names.lookup x=some .cell:=λx c h=>by
  rcases t4 scope.names _ _ (ZC h)with z|z
  ·cases z
  ·exact S.cel _ z rfl
 have D:∀x,scope.names.lookup x=some .free->(cellsFrom (s.heap.objs.size+1) scope.names []).lookup x=none/\∃c,(b_ X.env scope.names []).lookup x=some c:=λx h=>by
  refine⟨?_,?_⟩
  ·cases z:(cellsFrom (s.heap.objs.size+1) scope.names []).lookup x with
   |none=>rfl
   |some c=>have:=E x c z;rw[h]at this;cases this
  ·have hm:=ZC h;obtain⟨c,P⟩:=I.ok.has x (S.free _ hm rfl);exact zS (zR P scope.names [] hm)
 have gB:∀x,((fJ X scope N s.heap.objs.size s H fp).env.kindOf x=some .cell\/(fJ X scope N s.heap.objs.size s H fp).env.kindOf x=some .free)->scope.names.lookup x=some .free\/scope.names.lookup x=some .cell:=λx h=>by
  have go:∀k,(k=ND\/k=.free)->(relabel scope X.env).names.lookup x=some k->scope.names.lookup x=some .free\/scope.names.lookup x=some .cell:=λk hk h=>by
   obtain⟨k',h1,g⟩:=zT h;rcases g with rfl| ⟨rfl,_⟩
   ·rcases hk with rfl|rfl
    ·exact .inr h1
    ·exact .inl h1
   ·exact .inl h1
  rcases h with h|h
  ·exact go _ (.inl rfl) h
  ·exact go _ (.inr rfl) h
 have A:∀x y c,(cellsFrom (s.heap.objs.size+1) scope.names []).lookup x=some c->(cellsFrom (s.heap.objs.size+1) scope.names []).lookup y=some c->x=y:=λx y c h1 g=>by
  have m1:=ZC h1;have m2:=ZC g;have W:=f.apart;generalize cellsFrom (s.heap.objs.size+1) scope.names []=l at m1 m2 W
  induction l with
  |nil=>cases m1
  |cons p l ih=>
   obtain⟨a1,a2⟩:=ZI.mp W
   grind
 refine⟨⟨I.ok.mod,?_,I.ok.glob,I.ok.blt,Zh _,λx y c h1 g=>?_,λx h=>?_,λx c h g=>?_,I.ok.hd,I.ok.frames,.inl rfl,λb w=>?_,I.bs,ZA I.ok.bsz I.sz,λb o e w=>?_,λb w=>?_,I.stack,I.stkFree⟩,
  rfl,I.bare,Un.kept old,⟨m,hn,λi x v e1 e2 e3=>?_⟩,λx c h=>?_,I.hok.fresh (Zh _),λx c h=>?_,λp hp=>?_,I.hok.kept old,hl⟩
 ·show(relabel scope X.env).kind=.function;unfold relabel;exact S.kind
 ·rcases hO h1 with z| ⟨_,z⟩<;>rcases hO g with Y| ⟨_,Y⟩
  ·exact A x y c z Y
  ·exact absurd (a _ _ (C _ _ Y)) (Pl.mpr (Oj (O _ _ z).2))
  ·exact absurd (a _ _ (C _ _ z)) (Pl.mpr (Oj (O _ _ Y).2))
  ·exact I.ok.inj x y c (C x c z) (C y c Y)
 ·rcases gB x h with h|h
  ·obtain⟨z,c,t⟩:=D x h;exact⟨c,zV z t⟩
  ·have:=PySem.W.cellsFrom_some (x:=x) scope.names (s.heap.objs.size+1) [] (.inl h);obtain⟨c,t⟩:=NS.mp this;exact⟨c,Hs t⟩
 ·rcases hO g with z| ⟨z,_⟩
  ·exact Oj (O _ _ z).2
  ·have:=PySem.W.cellsFrom_some (x:=x) scope.names (s.heap.objs.size+1) [] (.inl (by simpa[fJ]using h));rw[z]at this;cases this
 ·obtain⟨f0,J,L,F,M,Z⟩:=R b w;obtain⟨o,B⟩:=T b w;refine⟨lt B,λx c h=>?_⟩;rcases hO h with z| ⟨_,z⟩
  ·exact λq=>absurd (Zf B) (Pl.mpr (q▸Oj (O _ _ z).2))
  ·exact M x c (C x c z)
 ·obtain⟨f0,J,L,F,M,Z⟩:=R b w;rcases F with F|F
  ·exact I.ok.noex b o e F
  ·exact absurd (Zf (I.ok.bs b o e).1) (Pl.mpr F)
 ·obtain⟨f0,J,L,F,M,Z⟩:=R b w;exact ki I J L
 ·obtain⟨G,j,g2,g3⟩:=U i v x e1 e2;obtain⟨m0,_,l0⟩:=I.loc
  have hv:yp X.env.scope x:=by
   rcases S.free _ (ZC G) rfl with q|q
   ·exact .inr (.inl q)
   ·exact .inr (.inr q)
  obtain⟨u,r,q⟩:=l0 j x v g2 g3 hv;refine⟨u,r,.inr ⟨zU G,?_⟩⟩;obtain⟨z,c,f⟩:=D x G;refine⟨c,zV z f,?_⟩;have K:=S.free _ (ZC G) rfl;rcases q with⟨q,_⟩| ⟨_,c',q1,q2⟩
  ·rcases K with K|K
   ·rw[q]at K;cases K
   ·rw[q]at K;cases K
  ·rw[C x c f]at q1;cases q1;obtain⟨o,B,Q⟩:=q2;exact⟨o,old _ _ B,Q⟩
 ·rcases hO h with z| ⟨_,z⟩
  ·exact⟨none,(O _ _ z).1⟩
  ·obtain⟨v,o,B,Q⟩:=I.cell x c (C x c z);exact⟨v,o,old _ _ B,Q⟩
 ·rcases hO h with z| ⟨_,z⟩
  ·exact I.hok.fresh (Oj (O _ _ z).2)
  ·exact I.freeC x c (C x c z)
 ·obtain⟨e,n,ne,nf,d⟩:=I.pin p (by simpa[fJ]using hp);exact⟨old _ _ e,n,lt e,ki I ne nf,d⟩
theorem Hu(I:Inv X pq σ H s)(j:∀b∈fp,dh X pq H b)(i:C=s.heap.objs.size)(J:Inv (fJ X scope N C s H fp) pins' σ' H' s')(hs:NW C s'.heap h'):
  Inv X pq σ H' {s' with heap:=h'}:=by
 have ne:∀{b:Nm} {o:Obj},s.heap.get? b=some o->b≠C:=λe=>by rw[i];exact Zs (Zf e)
 have B:=J.base
 have u:Un _ _ H _ _ _:=
  ⟨λb o e n h a=>(hs.2 b (ne e)).trans (B.keep b o e n h a),λb o e n h a=>by obtain⟨sl,q⟩:=B.slot b o e n h a;exact⟨_,(hs.2 b (ne e)).trans q⟩,B.free,
   λb o e a=>by obtain⟨t,q⟩:=B.there b o e a;exact⟨_,(hs.2 b (ne e)).trans q⟩,B.tups,B.frzs,B.tbls⟩
 have d:H' C=none:=J.free;have f:=λb O e=>by refine(J.hok b O e).stay (λc w r q=>(hs.2 c ?_).trans q) (λ_ q=>q) λ_ _ q=>q;lia
 exact I.call' J.os u f J.bare λb h=>by obtain⟨f0,F,k,l,m,p⟩:=j b h;trivial
def PB(X:Cx)(body:Sem Unit)(t:L2.St->Hp->(L2.St->Hp->Prop)->Prop):Prop:=
 ∀(pq:Lp) (s:Nl) (σ:L2.St) (H:Hp) (Q:L2.St->Hp->Prop),Inv X pq σ H s->t σ H Q->wpAny (model X.prog X.w) X.A body (λ_ s'=>∃σ' H',Inv X pq σ' H' s'/\Q σ' H') X.xe s
theorem f'{m:Sem α}{Q:α->Nl->Prop}(H:X.xe=λ_ _=>False)(h:wpAny M A m Q X.xe s):wpAny M A m Q E s:=by rw[H]at h;exact ZH h (λ_ _ q=>q) λ_ _ z=>z.elim
noncomputable def iS:Expr->Bool
 | .ListComp .. =>Nj
 | .SetComp .. =>Nj
 |_=>Nk
theorem mX(h:iS ce=Nj){d:Nat}{it a:Nn}:(model prog w).den (.compLoop ce d it a env)=(compTurn ce d it a env).onRaise (λx=>do noteFrame x env;theTreesLotGoes x)/\A.under (.compLoop ce d it a env)=A/\(model prog w).den (.compStart ce d it a env)=(compStart ce d it a env).onRaise (λx=>do noteFrame x env;standAt theWindowsPlace)/\A.under (.compStart ce d it a env)=A:=by cases ce<;>first|exact⟨rfl,rfl,rfl,rfl⟩|cases h
theorem zW{d:Nat}{c:Nn}{p:Pos}{body:Sem Unit}{J:It}{g:TG}{R:Qp->Nl->Prop}{Fin:L2.St->Hp->Prop}
  (k:iS ce=Nj) (l:X.xe=λ_ _=>False) (P:X.calm=Nj)
  (D:compTurn ce d (.ref it) c X.env=(standAt p>>=λ_=>pyNext (.ref it)>>=λr=>match r with
   |none=>pure (.done .next)
   |some v=>letOwnedTupleGo tg (.ref it) v>>=λ_=>assign tg X.env v>>=λ_=>body>>=λ_=>again (.compLoop ce d (.ref it) c X.env)))
  (T:Turn X.prog X.w X.K tg J fp it tn) (hg:PG X tg g) (h:PB X body tb) (I:Inv X pq σ H s) (st:tn 0 s.heap) (Q:∀b∈fp,dh X pq H b)
  (W:∃W:Nat->Nat->L2.St->Hp->Prop,(∃m,W 0 m σ H)/\∀i m σ H,W i m σ H->
   (J.stop i H/\Fin σ H)\/(J.go i H/\∃Nx:L2.St->Hp->Prop,(∀σ' H',Nx σ' H'->∃M,M<m/\W (i+1) M σ' H')/\∀x H',J.yld i H x H'->g x σ H' λG H2=>tb G H2 Nx))
  (hR:∀s' σ' H',Inv X pq σ' H' s'->(∀b∈fp,H' b=none)->Fin σ' H'->R (.ok .next) s'):codeAny (model X.prog X.w) X.A (.compLoop ce d (.ref it) c X.env) R s:=by
 obtain⟨W,⟨m0,w0⟩,turn⟩:=W;have S:∀{H':Hp},(∀b∈fp,H' b=none)->∀b∈fp,dh X pq H' b:=λhn b h=>⟨hn b h,(Q b h).2⟩;refine codeAny_loop rfl (λn s'=>∃i σ' H',Inv X pq σ' H' s'/\tn i s'.heap/\(∀b∈fp,H' b=none)/\W i n σ' H') ?_ m0 ⟨0,σ,H,I,st,λb h=>(Q b h).1,w0⟩;rintro n V ⟨i,a,y,O,q,f,w3⟩;rw[(mX (A:=X.A) k).1,(mX (prog:=X.prog) (w:=X.w) k).2.1];refine wpAny_noted ?_;rw[D];refine Za (OH ?_);rcases turn i n a y w3 with⟨stop,qn⟩| ⟨go,Nx,hN,step⟩
 ·refine Za (f' l (aN (T.done X rfl rfl rfl P i pq V a y X.xe O (S f) q stop) λr Y z=>z.elim λE I4=>?_));subst E;exact Zd (hR Y a y I4 f qn)
 ·refine Za (f' l (aN (T.item X rfl rfl rfl P i pq V a y X.xe O (S f) q go) λr Y z=>?_));obtain⟨u,E,h4⟩:=z;subst E;refine Za (f' l (aN h4 λ_ s5 z=>?_));obtain⟨x,L,I5,r5,y5,j,F⟩:=z;have B:=I5.pinned (S F) (T.obj _ _ j);refine Za (f' l (aN (hg _ s5 a L x u _ B r5 (step x L y5)) λ_ s6 z=>?_));obtain⟨K,Z,I6,q6⟩:=z;refine Za (f' l (aN (h _ s6 K Z _ I6 q6) λ_ s7 z=>?_));obtain⟨t,N,C,n7⟩:=z;refine Zd ?_;obtain⟨M,hm,w7⟩:=hN t N n7;refine⟨rfl,M,hm,i+1,t,N,C.unpinned,T.keep _ _ _ j λb h o e=>(C.pin (b,o) (ZD _ (ZD _ (mi h e)))).1,λb h=>?_,w7⟩;obtain⟨o,e,d⟩:=T.obj _ _ j b h;exact(C.pin (b,o) (ZD _ (ZD _ (mi h e)))).2.1
theorem zX{R:Qp->Nl->Prop}{d:Nat}{it a:Nn}{t i:Expr}{fs:Lx}(H:iS ce=Nj)(e:(clausesOf ce)[d]?=some ⟨t,i,fs,0⟩)
  (c:codeAny (model prog w) A (.compLoop ce d it a env) R s)
  (h:wpAny (model prog w) A (pyIter it) (λI s'=>codeAny (model prog w) A (.compLoop ce d I a env) R s') (notedBy (model prog w) A env λx s'=>R (.error x) s') s):
  codeAny (model prog w) A (.compStart ce d it a env) R s:=by
 refine Qu ?_;rw[(mX (A:=A) H).2.2.1,(mX (prog:=prog) (w:=w) H).2.2.2];refine wpAny_notedAt ?_;unfold compStart;rw[e];refine Za (OX (Pu ?_));split
 ·first
   |rfl
   |exact Zd (QY rfl c)
 ·first
   |exact Za (O' (Za (OH (Za (ZH h (λI s' b=>Zd (QY rfl b)) λ_ _ x=>x)))))
   |lia
abbrev TU:=L2.St->Hp->(L2.St->Hp->Prop)->Prop
noncomputable def mY:List TT->(L2.St->Hp->(Bool->Hp->Prop)->Prop)
 | []=>λ_ H Q=>Q Nj H
 |t::r=>λσ H Q=>t σ H λb H1=>if b=Nj then mY r σ H1 Q else Q Nk H1
def zY(X:Cx):Lx->List TT->Prop
 | [],[]=>True
 |e::es,t::ts=>PT X e t/\zY X es ts
 |_,_=>False
theorem zZ{M:Model}{A:NV}{E:Vs}{env:Env}{Q:Bool->Nl->Prop}{s:Nl}:∀(ifs:Lx),Q Nk s->
  wpAny M A (forIn ifs Nk λc r=>if r=Nj then do let ok <-isTrue c env (eval c env);pure (NN ok)else pure (NN r)) Q E s
 | [],h=>Zd h
 |c::r,h=>by rw[Ps];exact Za (Zd (zZ r h))
theorem z0:∀(ifs:Lx) (ts:List TT),zY X ifs ts->∀(pq:Lp) (s:Nl) (σ:L2.St) (H:Hp) (Q:Bool->Hp->Prop),Inv X pq σ H s->mY ts σ H Q->
  wpAny (model X.prog X.w) X.A (forIn ifs Nj λc r=>if r=Nj then do let ok <-isTrue c X.env (eval c X.env);pure (NN ok)else pure (NN r)) (TP X pq σ Q) X.xe s
 | [],[],_,pq,s,σ,H,Q,I,h=>Zd ⟨H,I,h⟩
 |e::E,t::ts,p,pq,s,σ,H,Q,I,h=>by
  rw[Ps];refine Za (Za (aN (p.1 _ s _ H _ I h) λb S z=>z.elim λ_ z=>z.elim λa q=>Zd ?_));cases b with
  |true=>exact z0 _ _ p.2 _ _ _ _ Q a q
  |false=>exact zZ _ ⟨_,a,q⟩
 | [],_::_,p,_,_,_,_,_,_,_=>p.elim
 |_::_,[],p,_,_,_,_,_,_,_=>p.elim
noncomputable def z7(a:Nm)(t:TE):TU:=λσ H Q=>t σ H λv H1=>∃ys,H1 a=some (.lst ys)/\ys.length<sizeLine/\Q σ (aO H1 a (.lst (ys++[v])))
noncomputable def z8(ts:List TT)(t:TU):TU:=λσ H Q=>mY ts σ H λb H1=>if b=Nj then t σ H1 Q else Q σ H1
noncomputable def t6(w:TI)(g:TG)(tb:TU):TU:=λσ H Q=>w σ H λJ H1=>∃W:Nat->Nat->L2.St->Hp->Prop,(∃m,W 0 m σ H1)/\∀i m σ H,W i m σ H->
   (J.stop i H/\Q σ H)\/(J.go i H/\∃N:L2.St->Hp->Prop,(∀σ' H',N σ' H'->∃M,M<m/\W (i+1) M σ' H')/\∀x H',J.yld i H x H'->g x σ H' λa H2=>tb a H2 N)
def kj(o0:Nm->HO)(cs:L2.St->L2.St)(w:TI)(g:TG)(tb:Nm->TU):TE:=λσ H Q=>w σ H λJ H1=>∀acc,H1 acc=none->
 ∃W:Nat->Nat->L2.St->Hp->Prop,(∃m,W 0 m (cs σ) (aO H1 acc (o0 acc)))/\∀i m σ H,W i m σ H->
   (J.stop i H/\Q (.ref acc) H)\/(J.go i H/\∃N:L2.St->Hp->Prop,(∀σ' H',N σ' H'->∃M,M<m/\W (i+1) M σ' H')/\∀x H',J.yld i H x H'->g x σ H' λa H2=>tb acc a H2 N)
def mZ(X:Cx)(scope:Scope)(N:Ls)(cs:L2.St->L2.St):Prop:=∀σ:L2.St,σ.length=X.N.length->(cs σ).length=N.length/\
 ∀(i:Nat) (v:V) (x:Str),N[i]?=some x->(cs σ)[i]?=some (some v)->scope.names.lookup x=some .free/\∃j:Nat,X.N[j]?=some x/\σ[j]?=some (some v)
theorem z9(I:Inv X pq σ H s)(S:dJ X scope):closureFor scope X.env=pure (b_ X.env scope.names []):=
 Hq λx a h=>I.ok.has _ (S.free x a h)
theorem Hv(H:Nw)(d:Obj)(n:List (Str×Oa)):CellsOk (pushCells (H.push d) n) (H.objs.size+1) (cellsFrom (H.objs.size+1) n []):=by have:=cellsFrom_ok n (H.push d) (H.objs.size+1) _ ⟨(λ_ _ h=>by cases h),.nil⟩ (by simp_all);simp_all
theorem z_{D:List NH}{ob:Obj}{o0:Nm->HO}{mk:Sem Nn}{scope:Scope}{N:Ls}{cs:L2.St->L2.St}{J:It}{g:TG}{tb:Nm->TU}{R:Nn->Nm->Qp->Nl->Prop}{Fin:V->Hp->Prop}
  {P:Lp} {σ:L2.St} {H:Hp}  {it:Nm} {f:La} {tn:Nat->Nw->Prop} {E:Vs} (B:iS ce=Nj) (Z:clausesOf ce=⟨tg,iter,ifs,0⟩::D) (hmk:∀{s:Nl} {Q:Vs},Q (.ref s.heap.objs.size) {s with heap:=s.heap.push ob}->wpAny (model X.prog X.w) X.A mk Q E s) (hob:aP X.prog X.w (aO H s.heap.objs.size (o0 s.heap.objs.size)) (s.heap.push ob) s.heap.objs.size (o0 s.heap.objs.size)) (hc:X.calm=Nj) (sc:dJ X scope) (hcs:mZ X scope N cs) (I:Inv X P σ H s) (T:Turn X.prog X.w X.K tg J f it tn) (st:tn 0 s.heap) (hf:∀b∈f,dh X P H b)
  (body:Nm->Env->Sem Unit)
  (heq:∀(acc:Nm) (env:Env),compTurn ce 0 (.ref it) (.ref acc) env=(standAt iter.pos>>=λ_=>pyNext (.ref it)>>=λr=>match r with
   |none=>pure (.done .next)
   |some v=>letOwnedTupleGo tg (.ref it) v>>=λ_=>assign tg env v>>=λ_=>body acc env>>=λ_=>again (.compLoop ce 0 (.ref it) (.ref acc) env)))
  (hin:∀(C:Nm) (s0:Nl) (H0:Hp) (f:La) (acc:Nm),PG (fJ X scope N C s0 H0 f) tg g/\PB (fJ X scope N C s0 H0 f) (body acc (fJ X scope N C s0 H0 f).env) (tb acc))
  (W:∀acc,H acc=none->∃W:Nat->Nat->L2.St->Hp->Prop,(∃m,W 0 m (cs σ) (aO H acc (o0 acc)))/\∀i m σ H,W i m σ H->
   (J.stop i H/\Fin (.ref acc) H)\/(J.go i H/\∃Nx:L2.St->Hp->Prop,(∀σ' H',Nx σ' H'->∃m',m'<m/\W (i+1) m' σ' H')/\∀x H',J.yld i H x H'->g x σ H' λσ2 H2=>tb acc σ2 H2 Nx))
  (hR:∀(acc C:Nm) (s':Nl) (H':Hp) (m:Mg),s'.heap.Ns C m->C≠X.env.locals->(∀x c,X.env.cells.lookup x=some c->c≠C)->H' C=none->X.s₀.heap.objs.size<=C->(∀p∈X.pn++P,p.1≠C)->(∀h',NW C s'.heap h'->Inv X P σ H' {s' with heap:=h'})->Fin (.ref acc) H'->R (.ref acc) C (.ok .next) s'):
  wpAny (model X.prog X.w) X.A mk (λacc G=>wpAny (model X.prog X.w) X.A (newFunctionEnv scope X.env.globals (b_ X.env scope.names []) [] X.env.qual none .none (some X.env)) (λl K=>
   codeAny (model X.prog X.w) X.A (.compStart ce 0 (.ref it) acc {l with scope:=relabel scope X.env}) (R acc l.locals) K) E G) E s:=by
 refine hmk (Hr ?_);have hfr:H s.heap.objs.size=none:=I.hok.fresh (Zh _);have n:Inv X P σ (aO H s.heap.objs.size (o0 s.heap.objs.size)) {s with heap:=s.heap.push ob,toks:=s.toks}:=I.laid (t':=s.toks) (λb o e=>Zb _ e) (Zh _) hob;have y:∀b∈f,∃o,s.heap.get? b=some o:=λb j=>by obtain⟨o,e,_⟩:=T.obj _ _ st b j;exact⟨o,e⟩
 have u:∀b∈f,dh X P (aO H s.heap.objs.size (o0 s.heap.objs.size)) b:=λb j=>by obtain⟨f0,Y⟩:=hf b j;obtain⟨o,w⟩:=y b j;exact⟨by rw[au (Zs (Zf w))];exact f0,Y⟩
 have F:∀b∈f,∃o,(s.heap.push ob).get? b=some o:=λb j=>by obtain⟨o,w⟩:=y b j;exact⟨o,Zb _ w⟩
 obtain⟨k1,k2⟩:=hcs σ I.len;obtain⟨a,M⟩:∃a,a=pushCells ((s.heap.push ob).push {cls:=.type "dict",data:=.dict #[]}) scope.names:=⟨_,rfl⟩;have O:∀b o,(s.heap.push ob).get? b=some o->a.get? b=some o:=λb o e=>by rw[M];exact pushCells_keeps _ _ _ _ (Zb _ e)
 have k:a.Ns (s.heap.push ob).objs.size λ_=>none:=by rw[M];exact⟨_,_,_,pushCells_keeps _ _ _ _ (Zg _ rfl),rfl,(λx h=>by simp at h),λ_=>rfl⟩
 have A:CellsOk a ((s.heap.push ob).objs.size+1) (cellsFrom ((s.heap.push ob).objs.size+1) scope.names []):=by rw[M];exact Hv _ _ _
 rw[<-M];have J0:=Ht (tk:=s.toks) (N:=N) (scope:=scope) (σ':=cs σ) hc n sc u F k O A k1 k2;have old:∀b o,s.heap.get? b=some o->a.get? b=some o:=λb o e=>O b o (Zb _ e);have S:tn 0 a:=T.keep _ _ _ st λb _ o e=>old b o e;have hlt:X.env.locals<(s.heap.push ob).objs.size:=n.lt
 have L:codeAny (model X.prog X.w) X.A (.compLoop ce 0 (.ref it) (.ref s.heap.objs.size) (fJ X scope N (s.heap.push ob).objs.size {s with heap:=s.heap.push ob,toks:=s.toks} (aO H s.heap.objs.size (o0 s.heap.objs.size)) f).env)
   (R (.ref s.heap.objs.size) (s.heap.push ob).objs.size) {s with heap:=a,toks:=s.toks}:=by
  obtain⟨p1,p2⟩:=hin (s.heap.push ob).objs.size {s with heap:=s.heap.push ob,toks:=s.toks} (aO H s.heap.objs.size (o0 s.heap.objs.size)) f s.heap.objs.size;refine zW (X:=fJ X scope N _ _ _ f) (Fin:=λ_ H'=>Fin (.ref s.heap.objs.size) H') B rfl hc (heq _ _) T p1 p2 J0 S (λb j=>?_) ?_ ?_
  ·obtain⟨f0,Y,f2,f3,f4,f5⟩:=u b j;obtain⟨o,w⟩:=F b j;refine⟨f0,Zs (Zf w),ki n Y f2,.inl j,λx c h=>?_,λp hp=>f5 p (by simpa[fJ]using hp)⟩;rcases hO h with z| ⟨_,z⟩
   ·exact λq=>absurd (Zf w) (Pl.mpr (q▸Oj (A.empty x c (ZC z)).2))
   ·exact f4 x c (tZ scope.names [] (λ_ z=>nomatch z) (x,c) (ZC z))
  ·exact W _ hfr
  ·intro s' σ' H' U _ fin;obtain⟨m,hm,_⟩:=id U.loc;refine hR _ _ s' H' m hm (O9 hlt) (λx c h z=>?_) U.free n.sz (λp hp z=>?_) (λh' hs'=>?_) fin
   ·obtain⟨v,q⟩:=n.cell x c h;exact absurd q.lt (by rw[z];exact ZL _)
   ·exact absurd (Zf (n.pin p hp).1) (by rw[z];exact ZL _)
   ·exact Hu n u rfl U hs'
 exact zX B (by rw[Z];rfl) L (T.self _ 0 _ _ _ S L)
theorem m5{R:List NH}{pos:Pos}{cs:L2.St->L2.St}{g:TG}{tb:Nm->TU}(n:X.calm=Nj)(S:dJ X scope)(a:mZ X scope N cs)(o:PI X tg iter wi)(body:Nm->Env->Sem Unit)
  (b:∀(it acc:Nm) (env:Env),compTurn (.ListComp elt (⟨tg,iter,ifs,0⟩::R) scope pos) 0 (.ref it) (.ref acc) env=(standAt iter.pos>>=λ_=>pyNext (.ref it)>>=λr=>match r with
   |none=>pure (.done .next)
   |some v=>letOwnedTupleGo tg (.ref it) v>>=λ_=>assign tg env v>>=λ_=>body acc env>>=λ_=>again (.compLoop (.ListComp elt (⟨tg,iter,ifs,0⟩::R) scope pos) 0 (.ref it) (.ref acc) env)))
  (c:∀(C:Nm) (s0:Nl) (H0:Hp) (fp:La) (acc:Nm),PG (fJ X scope N C s0 H0 fp) tg g/\PB (fJ X scope N C s0 H0 fp) (body acc (fJ X scope N C s0 H0 fp).env) (tb acc))
  (hs:∀x,foldedSetIterable iter X.env x=pure x:=by intro _;rfl):PE X (.ListComp elt (⟨tg,iter,ifs,0⟩::R) scope pos) (kj (λ_=>.lst []) cs wi g tb):=by
 intro P s E H Q I h;refine Sm rfl hs (z9 I S) S.kind S.loc (ZH (o _ s _ H _ I h) (λv A j=>ZH j (λt B k=>?_) λ_ _ e=>e) λ_ _ e=>e);obtain⟨it,fp,D,J,w,e,i,T,f,F,W⟩:=k;subst e;refine z_ (o0:=λ_=>.lst _) rfl rfl (λq=>ZP q) ⟨Z6 _,_,0,.nil,Zg _ rfl⟩ n S a i T f F _ (b _) c W ?_;intro acc C z u m p _ _ _ _ _ l fin;exact⟨m,p,λy d=>⟨.ref _,_,l _ d,rfl,fin⟩⟩
theorem m6{R:List NH}{pos S P:Pos}{cs:L2.St->L2.St}{g:TG}{tb:Nm->TU}{x:Str}{j:Nat}(hc:X.calm=Nj)(Z:X.N.Nodup)(hj:X.N[j]?=some x)(F:X.env.scope.names.lookup x=some .local)
  (B:swapsWith (.ListComp elt (⟨tg,iter,ifs,0⟩::R) scope pos) (some (.Name x P)) S.line X.env=pure Nj)
  (c:dJ X scope) (u:mZ X scope N cs) (hi:PI X tg iter wi) (body:Nm->Env->Sem Unit)
  (w:∀(it acc:Nm) (env:Env),compTurn (.ListComp elt (⟨tg,iter,ifs,0⟩::R) scope pos) 0 (.ref it) (.ref acc) env=(standAt iter.pos>>=λ_=>pyNext (.ref it)>>=λr=>match r with
   |none=>pure (.done .next)
   |some v=>letOwnedTupleGo tg (.ref it) v>>=λ_=>assign tg env v>>=λ_=>body acc env>>=λ_=>again (.compLoop (.ListComp elt (⟨tg,iter,ifs,0⟩::R) scope pos) 0 (.ref it) (.ref acc) env)))
  (y:∀(C:Nm) (s0:Nl) (H0:Hp) (fp:La) (acc:Nm),PG (fJ X scope N C s0 H0 fp) tg g/\PB (fJ X scope N C s0 H0 fp) (body acc (fJ X scope N C s0 H0 fp).env) (tb acc))
  (hs:∀x,foldedSetIterable iter X.env x=pure x:=by intro _;rfl):PS X (.Assign [.Name x P] (.ListComp elt (⟨tg,iter,ifs,0⟩::R) scope pos) S) (me (kj (λ_=>.lst []) cs wi g tb) (dW j)):=by
 intro pq s K H D I h;rw[exec_Assign_Name_used _ _ _ _ B];refine Za (OH (Za ?_))
 refine Za (ZH (Sm rfl hs (z9 I c) c.kind c.loc
  (ZH (hi pq s K H _ I h) (λv s1 U=>ZH U (λitv s2 V=>?_) λ_ _ e=>e) λ_ _ e=>e)) (λ_ G hq=>Zd (Zd hq)) λ_ _ e=>e)
 obtain⟨it,fp,tn,J,H2,e,L,T,E,Q,W⟩:=V;subst e;refine z_ (o0:=λ_=>.lst []) rfl rfl (λq=>ZP q) ⟨Z6 _,[],0,.nil,Zg _ rfl⟩ (Fin:=λv d=>dW j v K d D.nx) hc c u L T E Q body (w it) y W ?_;intro acc C G d m hm l p f i k Y fin;have M:=by have:=Y G.heap (.refl ..);simpa using this
 refine wpAny_assign_Name (yr M Z hj (.inl F) (v:=.ref acc) rfl (λs'' O t=>?_) (.inr F));obtain⟨a,A,ha⟩:=t
 have n:C≠a:=by
  grind
 exact⟨m,hm.sameBut A n,λh' z=>⟨_,d,O.turned (λb o hb e=>(z.2 b hb).trans e) f l (.inr i) p k,fin⟩⟩
theorem ai.eraseIdx{mg:GS}:∀{ds:List D} {vs:List V} (i:Nat),ai K mg μ H ds vs->ai K mg μ H (ds.eraseIdx i) (vs.eraseIdx i)
 | [],vs,i,h=>by subst h;rfl
 |d::ds,vs,0,h=>by obtain⟨v,u,rfl,r,q⟩:=h.uncons;exact q
 |d::ds,vs,i+1,h=>by obtain⟨v,u,rfl,r,q⟩:=h.uncons;exact .cons r (ai.eraseIdx i q)
noncomputable def t7(d:D)(ds:List D)(S:ae):Res D:=match d,ds with
 | .ref n,[.int i]=>match S[n]? with
  |some xs=>match iO xs.length i with
   |some k=>match xs[k]? with
    |some y=>if xs.length<=ck then .ok y (S.set n (xs.eraseIdx k))else .fail
    |none=>.fail
   |none=>.fail
  |none=>.fail
 |_,_=>.fail
theorem m9:jJ X "list.pop" (rM X.K X.mg t7):=by
 intro P s J H x C v U Q I t p h;obtain⟨F,G,S,d,D,c,m,R,w⟩:=h;unfold t7 at w;split at w
 ·split at w
  ·rename_i n i _ Y e;split at w
   ·rename_i k f;split at w
    ·rename_i y E;split at w
     ·obtain⟨a,vs,rfl,l,b,r⟩:=kf c m e;obtain⟨V,rfl,o⟩:=R.one;cases aF o;obtain⟨z,g,j⟩:=r.get E;obtain⟨q,u,A,B⟩:=ti f;rw[r.length]at q;exact GW _ s _ H _ _ v _ Q I t p ⟨a,_,i,k,z,rfl,rfl,b,by lia,by lia,q,g,w.wrote c l b (r.eraseIdx k) j⟩
     ·exact w.elim
    ·exact w.elim
   ·exact w.elim
  ·exact w.elim
 ·exact w.elim
noncomputable def eE:List D->Option (Li)
 | []=>some []
 | .int i::r=>(eE r).map (i:: ·)
 |_=>none
theorem m_:∀{xs:List D} {ns:Li},eE xs=some ns->xs=ns.map D.int
 | [],ns,h=>by cases h;rfl
 |x::xs,ns,h=>by
  cases x with
  |int i=>
   dsimp only[eE]at h;cases e:eE xs with
   |none=>simp_all
   |some m=>rw[e]at h;cases h;rw[m_ e];rfl
  |_=>cases h
noncomputable def t8(ds:List D)(S:ae):Res D:=match ds with
 | [d]=>match c8 S d with
  |some xs=>match eE xs with
   |some (n::ns)=>.ok (.int (ns.foldl max n)) S
   |_=>.fail
  |none=>(match d with
   | .tup xs=>(match eE xs with
    |some (n::ns)=>.ok (.int (ns.foldl max n)) S
    |_=>.fail)
   |_=>.fail)
 |ds=>tR ds S
theorem Aa{lt:Int->Int->Bool}(H:∀a b,g a b=if lt b a=Nj then b else a)(n:Int)(ns:Li):∀k,k<=ns.length->(n::ns).getD (argBest (λi j=>lt ((n::ns).getD i 0) ((n::ns).getD j 0)) k) 0=(ns.take k).foldl g n:=by
 intro k
 induction k with
 |zero=>intro _;rfl
 |succ k I=>
  intro h;have e:ns.take (k+1)=ns.take k++[ns[k]]:=by simp_all
  have E:(n::ns).getD (k+1) 0=ns[k]:=by grind
  rw[e,SQ,List.foldl_cons,List.foldl_nil,H,argBest];lia
theorem iT:∀{its:Lv},Vals (ns.map V.int) its->∀i v,its.toArray[i]?=some v->∃t,v=Pd (ns.getD i 0) t:=λ{its} r i v a=>by
 have h:=r.length;simp at h;have H:i<ns.length:=by grind
 have e:(ns.map V.int)[i]?=some (.int ns[i]):=by simp_all
 obtain⟨u,E,R⟩:=r.get e;obtain⟨t,rfl⟩:=R
 grind
theorem t9{mg:GS}:∀(ns:Li) (vs:List V),ai K mg μ H (ns.map D.int) vs->vs=ns.map V.int:=by
 intro ns
 induction ns with
 |nil=>intro vs r;exact r
 |cons n ns i=>intro vs r;obtain⟨v,w,rfl,R,a⟩:=r.uncons;cases aF R;rw[i _ a];rfl
theorem ng(J:X.calm=Nj):a8 X (.builtin "max") (rC X.K X.mg t8):=by
 intro pq s σ H xs us Q I r h;obtain⟨F,μ,S,ds,A,rl,w⟩:=h;unfold t8 at w;split at w
 ·rename_i d;obtain⟨v,rfl,rd⟩:=rl.one;obtain⟨u,rfl,ru⟩:=vals1 r;split at w
  ·rename_i ys e;split at w
   ·rename_i n N C;have t:=m_ C;subst t;obtain⟨a,vs,rfl,P,W⟩:=cR A rd e;cases ru;have U:=t9 _ vs W;subst U;have K:X.A.in1.handled=none:=I.ok.hd J;obtain⟨c,R,p,hz⟩:=I.list (.of P);have O:c.toArray.size=N.length+1:=by rw[Zu,<-R.length,Zk];rfl
    refine call_max_walk (NP p.isList ?_);have f:a<s.heap.objs.size:=by obtain⟨o,k,_⟩:=p.isList;exact Zf k
    have m:a≠s.heap.objs.size:=Zs f;refine⟨_,_,_,_,_,_,λi j=>decide ((n::N).getD i 0>(n::N).getD j 0),rfl,Walks.list K s.heap.objs.size a m c.toArray,⟨⟨_,Zg _ rfl,rfl,rfl⟩,Qr p.isList _⟩,?_,by omega,?_,λv y Z D V=>?_⟩
    ·intro b G;have x:∀o,(s.heap.push o).objs.size=s.heap.objs.size+1:=λo=>by simp[QS]
     have l:b=s.heap.objs.size\/b=a:=by simpa using G
     refine QD ?_ (x _).symm;rcases l with h|h
     ·rw[h];exact NK _
     ·rw[h];exact P4 f
    ·intro i j vi vj Y B E L M q;obtain⟨t1,rfl⟩:=iT R i vi L;obtain⟨t2,rfl⟩:=iT R j vj M;exact(Ra q:wpAny (model X.prog X.w) X.A.in1 (compareOp .Gt _ _) B E Y)
    ·obtain⟨T,rfl⟩:=iT R _ v D;rw[O]at*;have:=Aa (g:=max) (lt:=λa b=>decide (a>b)) (λa b=>by simp only[decide_eq_true_eq];exact jR a b) n N N.length (Zh _);rw[Oo]at this;rw[show N.length+1-1=N.length from rfl,this];refine⟨.int (N.foldl max n),H,I.kept (h':=y) (t':=Z) λb o k=>V b o ?_ (Zb _ k),⟨T,rfl⟩,w μ H _ .refl A bo⟩;intro z;have z':b=s.heap.objs.size:=by simpa using z
     exact absurd (Zf k) (by rw[z'];exact ZL _)
   ·exact w.elim
  ·split at w
   ·split at w
    ·rename_i n N C;have t:=m_ C;subst t;obtain⟨a,vs,rfl,P,W⟩:=bO rd;cases ru;have U:=t9 _ vs W;subst U;have K:X.A.in1.handled=none:=I.ok.hd J;obtain⟨c,R,p,hz⟩:=I.tuple P;have O:c.toArray.size=N.length+1:=by rw[Zu,<-R.length,Zk];rfl
     refine call_max_walk (N2 (show s.heap.IsTuple a c.toArray from p) ?_);have f:a<s.heap.objs.size:=by obtain⟨o,k,_⟩:=p;exact Zf k
     have m:a≠s.heap.objs.size:=Zs f;refine⟨_,_,_,_,_,_,λi j=>decide ((n::N).getD i 0>(n::N).getD j 0),rfl,Walks.tuple K s.heap.objs.size a m c.toArray,⟨⟨_,Zg _ rfl,rfl,rfl⟩,Heap.IsTuple.push (show s.heap.IsTuple a c.toArray from p) _⟩,?_,by omega,?_,λv y Z D V=>?_⟩
     ·intro b G;have x:∀o,(s.heap.push o).objs.size=s.heap.objs.size+1:=λo=>by simp[QS]
      have l:b=s.heap.objs.size\/b=a:=by simpa using G
      refine QD ?_ (x _).symm;rcases l with h|h
      ·rw[h];exact NK _
      ·rw[h];exact P4 f
     ·intro i j vi vj Y B E L M q;obtain⟨t1,rfl⟩:=iT R i vi L;obtain⟨t2,rfl⟩:=iT R j vj M;exact(Ra q:wpAny (model X.prog X.w) X.A.in1 (compareOp .Gt _ _) B E Y)
     ·obtain⟨T,rfl⟩:=iT R _ v D;rw[O]at*;have:=Aa (g:=max) (lt:=λa b=>decide (a>b)) (λa b=>by simp only[decide_eq_true_eq];exact jR a b) n N N.length (Zh _);rw[Oo]at this;rw[show N.length+1-1=N.length from rfl,this];refine⟨.int (N.foldl max n),H,I.kept (h':=y) (t':=Z) λb o k=>V b o ?_ (Zb _ k),⟨T,rfl⟩,w μ H _ .refl A bo⟩;intro z;have z':b=s.heap.objs.size:=by simpa using z
      exact absurd (Zf k) (by rw[z'];exact ZL _)
    ·exact w.elim
   ·exact w.elim
 ·exact zJ J pq s σ H xs us Q I r ⟨F,μ,S,_,A,rl,w⟩
theorem Ab:∀{ns:Li} {its:Lv},Vals (ns.map V.int) its->PyProof.Rows.IntsAre its ns
 | [],its,r=>by cases r;exact .nil
 |n::ns,its,r=>by
  cases r with
  |cons p q=>obtain⟨t,rfl⟩:=p;exact .cons _ _ (Ab q)
section
variable {R:Qp->Nl->Prop}{P:Nat->Nn->Prop}{St:Nat->Nw->Prop}
def kl(prog:Nt)(w:NF)(A:NV)(P:Nat->Nn->Prop)(b:Nat->Nat->Bool)(g:Array Q6)(d:PySem.Drawn)(o:OsState)(K:Nw->Prop):Prop:=
 ∀(i j:Nat) (v V:Nn) (h:Nw) (tk:Nat) (Q E:Vs),K h->P i v->P j V->Q (.bool (b i j)) ⟨h,g,d,tk,o⟩->wpAny (model prog w) A (richCompare .Lt v V) Q E ⟨h,g,d,tk,o⟩
theorem Hw(W:Walks prog w A.in1 I fp wr n P St)(B:Nat->Nat->Bool){g:Array Q6}{O:OsState}{K:Nw->Prop}(X:kl prog w A.in1 P B g dr O K)(S:Nm)(C:S∉fp)
  (hK:∀h h',K h->(∀b o,b∉wr->b≠S->h.get? b=some o->h'.get? b=some o)->K h'):∀(k j:Nat) (h0:Nw) (M:Nat) (V:Nn) (c:Nat),n-(j+1)=k->j+1<=n->St (j+1) h0->P (argBest B j) V->K h0->
   h0.get? S=some {cls:=.type "list",data:=.seq #[V,V] c}->
   (∀(v:Nn) (h':Nw) (tk:Nat),P (argBest B (n-1)) v->(∀b o,b∉wr->b≠S->h0.get? b=some o->h'.get? b=some o)->R (.ok (.ret v)) ⟨h',g,dr,tk,O⟩)->
   codeAny (model prog w) A (.builtin "min.loop" ⟨[.ref I,.none,.ref S],[]⟩) R ⟨h0,g,dr,M,O⟩:=by
 have D:S∉wr:=λh=>C (W.sub S h);intro k
 induction k with
 |zero=>
  intro j h0 M V c Z Y t i x y G;have E:n=j+1:=by omega
  refine Z5 Rb ?_;rw[Z1 OR];refine Za (Z4 y rfl ?_);refine Za (QE (W.done _ _ _ (E▸t) λh' tk d=>?_));refine Za (PM (d S _ D y) rfl (Za (PC (Zd ?_))));refine G V _ tk ?_ λb o u H e=>?_
  ·rw[E];exact i
  ·exact(ZF _ _ (Ne.symm H)).trans (d b o u e)
 |succ k U=>
  intro j h0 M V c Z Y t i x y G;refine Z5 Rb ?_;rw[Z1 OR];refine Za (Z4 y rfl ?_);refine Za (QE (W.item (j+1) _ _ _ (by omega) t λv h' tk L l d=>?_));have r:=d S _ D y;have m:K h':=hK _ _ x λb o u _ e=>d b o u e;refine Za (Zd ?_);refine Za (QE (ZB (Za (X (j+1) (argBest B j) v V _ _ _ _ m L i (Za (ZB (ZO (Za (PC (Zd ?_))))))))));have f:(toString "min"++toString ".loop")="min.loop":=by decide
  have q:(Code.builtin "min.loop" ⟨[.ref I,.none,.ref S],[]⟩).quiet=Nj:=OI OR _;cases u:B (j+1) (argBest B j)with
  |true=>
   have Q:argBest B (j+1)=j+1:=by rw[argBest,u,if_pos rfl]
   refine Za (PM r rfl (Za (PC ?_)));rw[f];refine Zd ⟨q,?_⟩;refine U (j+1) (h'.update S (NC λ_=> #[v,v])) tk v c (by omega) (by omega) ?_ (by grind) ?_ ?_ λN J T p s=>?_
   ·refine W.frame _ _ _ l λb a o e=>?_;exact(ZF _ _ λz=>C (by rw[z];exact a)).trans e
   ·exact hK _ _ m λb o _ H e=>(ZF _ _ (Ne.symm H)).trans e
   ·exact ZM (NC λ_=> #[v,v]) r rfl
   ·exact G N J T p λb o a H e=>s b o a H ((ZF _ _ (Ne.symm H)).trans (d b o a e))
  |false=>
   have Q:argBest B (j+1)=argBest B j:=by rw[argBest,u,if_neg (by decide)]
   refine Za (PC ?_);rw[f];refine Zd ⟨q,?_⟩;exact U (j+1) h' tk V c (by omega) (by omega) l (by rw[Q];exact i) m r λN J T p s=>G N J T p λb o a H e=>s b o a H (d b o a e)
theorem Hy(W:Walks prog w A.in1 I fp wr n P St)(B:Nat->Nat->Bool){g:Array Q6}{O:OsState}{K:Nw->Prop}(E:kl prog w A.in1 P B g dr O K)(S:Nm)(d:S∉fp)
  (hK:∀h h',K h->(∀b o,b∉wr->b≠S->h.get? b=some o->h'.get? b=some o)->K h') (G:0<n)  {J:Nat} {c:Nat} (t:St 0 h0) (l:K h0)
  (u:h0.get? S=some {cls:=.type "list",data:=.seq #[] c})
  (y:∀(v:Nn) (h':Nw) (tk:Nat),P (argBest B (n-1)) v->(∀b o,b∉wr->b≠S->h0.get? b=some o->h'.get? b=some o)->R (.ok (.ret v)) ⟨h',g,dr,tk,O⟩):
  codeAny (model prog w) A (.builtin "min.loop" ⟨[.ref I,.none,.ref S],[]⟩) R ⟨h0,g,dr,J,O⟩:=by
 refine Z5 Rb ?_;rw[Z1 OR];refine Za (Z4 u rfl ?_);refine Za (QE (W.item 0 _ _ _ G t λv h' tk p k f=>?_));have j:=f S _ (λh=>d (W.sub S h)) u;refine Za (Zd ?_);have i:(toString "min"++toString ".loop")="min.loop":=by decide
 have q:(Code.builtin "min.loop" ⟨[.ref I,.none,.ref S],[]⟩).quiet=Nj:=OI OR _;refine Za (PM j rfl ?_);rw[i];refine Zd ⟨q,?_⟩;obtain⟨C,r⟩:∃C,(h'.update S (NC λ_=> #[v,v])).get? S=some {cls:=.type "list",data:=.seq #[v,v] C}:=⟨_,ZM (NC λ_=> #[v,v]) j rfl⟩;refine Hw W B E S d hK (n-1) 0 (h'.update S (NC λ_=> #[v,v])) tk v C (by omega) (by omega) ?_ p ?_ ?_ λV x T m s=>?_
 ·refine W.frame _ _ _ k λb H o e=>?_;exact(ZF _ _ λz=>d (by rw[z];exact H)).trans e
 ·exact hK _ _ (hK _ _ l λb o D _ e=>f b o D e) λb o _ a e=>(ZF _ _ (Ne.symm a)).trans e
 ·exact r
 ·exact y V x T m λb o H a e=>s b o H a ((ZF _ _ (Ne.symm a)).trans (f b o H e))
theorem Hz{E:Vs}{s:Nl}{x:Nn}{K:Nw->Prop}
  (h:wpAny (model prog w) A.in1 (pyIter x) (λit s2=>∃I fp wr n P St B,it=.ref I/\Walks prog w A.in1 I fp wr n P St/\St 0 s2.heap/\(∀b∈fp,b<s2.heap.objs.size)/\0<n/\kl prog w A.in1 P B s2.gens s2.drawn s2.os K/\K s2.heap/\
   (∀(S:Nm) h h',s2.heap.objs.size<=S->K h->(∀b o,b∉wr->b≠S->h.get? b=some o->h'.get? b=some o)->K h')/\
   ∀(v:Nn) (h':Nw) (tk:Nat),P (argBest B (n-1)) v->(∀b o,b∉wr->s2.heap.get? b=some o->h'.get? b=some o)->Q v {s2 with heap:=h',toks:=tk}) E s):
  wpAny (model prog w) A (call (.builtin "min") [x]) Q E s:=by
 refine call_function_tree F.kind_min F.plain_min F.entry_min (F.args_min1 x) ?_;refine Za (Rv rfl (Za (Zd (Za (ZH h (λit s2 g=>?_) λ_ _ e=>e)))));obtain⟨I,fp,wr,n,P,St,B,rfl,W,d,c,q,l,H,hK,j⟩:=g;refine Za (ZP ?_);refine Zd ⟨OI OR _,?_⟩;refine Hy W _ l _ (λp=>ZL _ (c _ p)) (λh h' k e=>hK _ h _ (Zh _) k e) q (W.frame 0 _ _ d λb _ o e=>Zb _ e) ?_ (Zg _ rfl) λv h' tk i m=>?_
 ·exact hK _ _ _ (Zh _) H λb o _ _ e=>Zb _ e
 ·exact j v _ _ i λb o a e=>m b o a (Zs (Zf e)) (Zb _ e)
end
noncomputable def t_(ds:List D)(S:ae):Res D:=match ds with
 | [d]=>match c8 S d with
  |some (x::xs)=>if((x::xs).all λa=>(x::xs).all λb=>(ez S a9 a b).isSome)=Nj then .ok (xs.foldl (λb y=>if ez S a9 y b=some Nj then y else b) x) S else .fail
  |_=>.fail
 |ds=>tQ ds S
theorem nh(g:D->D->Bool)(x:D)(xs:List D):∀k,k<=xs.length->(x::xs).getD (argBest (λi j=>g ((x::xs).getD i .non) ((x::xs).getD j .non)) k) .non=(xs.take k).foldl (λb y=>if g y b=Nj then y else b) x/\argBest (λi j=>g ((x::xs).getD i .non) ((x::xs).getD j .non)) k<=k:=by
 intro k
 induction k with
 |zero=>intro _;exact⟨rfl,Zh _⟩
 |succ k I=>
  intro h;have e:xs.take (k+1)=xs.take k++[xs[k]]:=by simp_all
  rw[e,SQ,argBest]
  grind
theorem HA(hc:X.calm=Nj)(hu:X.A.units+64<cLine):a8 X (.builtin "min") (rC X.K X.mg t_):=by
 intro pq s σ H xs us Q I r h;obtain⟨F,μ,S,ds,N,rl,w⟩:=h;unfold t_ at w;split at w
 ·rename_i d;obtain⟨v,rfl,rd⟩:=rl.one;obtain⟨u,rfl,ru⟩:=vals1 r;split at w
  ·rename_i y Y e;split at w
   ·rename_i t;obtain⟨a,vs,rfl,hq,rr⟩:=cR N rd e;cases ru;have hh:X.A.in1.handled=none:=I.ok.hd hc;obtain⟨c,rv,p,hz⟩:=I.list (.of hq);have l1:=rr.length;have l2:=rv.length;have hl:c.toArray.size=Y.length+1:=by rw[Zu,<-l2,<-l1];rfl
    have D:a<s.heap.objs.size:=by obtain⟨o,g,_⟩:=p.isList;exact Zf g
    have V:a≠s.heap.objs.size:=Zs D
    have at_:∀(i:Nat) (v:Nn),c.toArray[i]?=some v->∃x z,(y::Y)[i]?=some x/\Rep X.K ⟨X.mg,F⟩ μ H x z/\RelV z v:=λi v hv=>by
     have E:c[i]?=some v:=by simpa using hv
     have hi:i<c.length:=(Zm.mp E).1;have e1:(y::Y)[i]?=some ((y::Y)[i]'(by omega)):=Zi _;obtain⟨z,e2,W⟩:=rr.get e1;obtain⟨v2,e3,r3⟩:=rv.get e2;rw[E]at e3;cases e3;exact⟨_,z,e1,W,r3⟩
    refine Hz (K:=λh=>∀b o,s.heap.get? b=some o->h.get? b=some o) (NP p.isList ?_);refine⟨_,_,_,_,_,_,λi j=>decide (ez S a9 ((y::Y).getD i .non) ((y::Y).getD j .non)=some Nj),rfl,Walks.list hh s.heap.objs.size a V c.toArray,⟨⟨_,Zg _ rfl,rfl,rfl⟩,Qr p.isList _⟩,?_,by omega,?_,λb o g=>Zb _ g,?_,λv l T hP kp=>?_⟩
    ·intro b A;have n:∀o,(s.heap.push o).objs.size=s.heap.objs.size+1:=λo=>by simp[QS]
     have R:b=s.heap.objs.size\/b=a:=by simpa using A
     refine QD ?_ (n _).symm;rcases R with h|h
     ·rw[h];exact NK _
     ·rw[h];exact P4 D
    ·intro i j vi vj l T Q' E' hk hi hj f;obtain⟨J,zi,ei,ri,qi⟩:=at_ i vi hi;obtain⟨L,zj,ej,rj,qj⟩:=at_ j vj hj;have gi:(y::Y).getD i .non=J:=by simp[Tb,ei]
     have gj:(y::Y).getD j .non=L:=by simp[Tb,ej]
     replace f:Q' (.bool (decide (ez S a9 ((y::Y).getD i .non) ((y::Y).getD j .non)=some Nj))) {s with heap:=l,toks:=T}:=f;rw[gi,gj]at f;have hs:(ez S a9 J L).isSome=Nj:=Zl.mp (Zl.mp t J (Zq ei)) L (Zq ej);obtain⟨k,C⟩:=NS.mp hs;have U:decide (ez S a9 J L=some Nj)=k:=by rw[C];cases k<;>rfl
     rw[U]at f;have I':Inv X pq σ H {s with heap:=l,toks:=T}:=I.kept (h':=l) (t':=T) hk;exact tK I' N a9 X.A.in1 (by show X.A.units+1+40<cLine;omega) J L zi zj vi vj k ri qi rj qj C X.prog X.w E' Q' f
    ·intro S' h l hS k e b o g;refine e b o ?_ ?_ (k b o g)
     ·intro z;have Z:b=s.heap.objs.size:=by simpa using z
      exact absurd (Zf g) (by rw[Z];exact ZL _)
     ·intro z;have n:∀o,(s.heap.push o).objs.size=s.heap.objs.size+1:=λo=>by simp[QS]
      have P:s.heap.objs.size+1<=S':=ZA (RX (n _).symm) hS;exact absurd (Zf g) (by rw[z];exact Pl.mpr (Oj P))
    ·have A:=nh (λa b=>decide (ez S a9 a b=some Nj)) y Y Y.length (Zh _);rw[Oo]at A;have O:c.toArray[argBest (λi j=>decide (ez S a9 ((y::Y).getD i .non) ((y::Y).getD j .non)=some Nj)) Y.length]?=some v:=by have:=hP;rw[hl]at this;exact this
     obtain⟨x,z,ex,W,qz⟩:=at_ _ v O;have gx:(y::Y).getD (argBest (λi j=>decide (ez S a9 ((y::Y).getD i .non) ((y::Y).getD j .non)=some Nj)) Y.length) .non=x:=by generalize argBest (λi j=>decide (ez S a9 ((y::Y).getD i .non) ((y::Y).getD j .non)=some Nj)) Y.length=q at ex;simp only[Tb,ex,Option.getD_some]
     rw[gx]at A
     have m:Y.foldl (λb y=>if ez S a9 y b=some Nj then y else b) y=x:=by
      rw[A.1];congr 1;funext b y;by_cases M:ez S a9 y b=some Nj
      ·rw[if_pos M,if_pos (by simpa using M)]
      ·rw[if_neg M,if_neg (by simpa using M)]
     rw[m]at w;refine⟨z,H,I.kept (h':=l) (t':=T) λb o g=>kp b o ?_ (Zb _ g),qz,w μ H _ .refl N W⟩;intro q;have Z:b=s.heap.objs.size:=by simpa using q
     exact absurd (Zf g) (by rw[Z];exact ZL _)
   ·exact w.elim
  ·exact w.elim
 ·exact zI hc pq s σ H xs us Q I r ⟨F,μ,S,_,N,rl,w⟩
mutual
noncomputable def Ac:D->Option PyData
 | .non=>some .none
 | .bl b=>some (.bool b)
 | .int i=>some (.int i)
 | .str x=>some (.str x)
 | .tup ds=>(dq ds).map .tuple
 | .lst ds=>(dq ds).map .list
 |_=>none
noncomputable def dq:List D->Option (List PyData)
 | []=>some []
 |d::ds=>match Ac d,dq ds with
  |some p,some ps=>some (p::ps)
  |_,_=>none
end
mutual
theorem HB(I:Inv X pq σ H s):∀(d:D) (v:V) (u:Nn) (p:PyData),Rep X.K ⟨X.mg,F⟩ μ H d v->RelV v u->Ac d=some p->p.hasDict=Nk/\∃as,Reads s.heap u p as
 | .non,v,u,p,r,q,h=>by cases hG r;subst(q);cases h;exact⟨rfl,_,.none⟩
 | .bl b,v,u,p,r,q,h=>by cases f8 r;subst(q);cases h;exact⟨rfl,_,.bool b⟩
 | .int i,v,u,p,r,q,h=>by cases aF r;obtain⟨t,rfl⟩:=q;cases h;exact⟨rfl,_,.int i t⟩
 | .str x,v,u,p,r,q,h=>by cases dI r;obtain⟨t,rfl⟩:=q;cases h;exact⟨rfl,_,.str x t⟩
 | .tup c,v,u,p,r,q,h=>by
  obtain⟨a,vs,rfl,l,R⟩:=bO r;subst(q);obtain⟨f,m,⟨o,g,j,n,k⟩,_⟩:=I.tuple l;have h:(dq c).map PyData.tuple=some p:=h;cases e:dq c with
  |none=>rw[e]at h;cases h
  |some P=>rw[e]at h;cases h;obtain⟨K,as,w⟩:=ua I c vs f P R m e;exact⟨K,as,.tuple g j k (by grind)⟩
 | .lst c,v,u,p,r,q,h=>by
  unfold Rep at r;obtain⟨a,vs,rfl,l,_,R⟩:=r;subst(q);obtain⟨f,m,y,_⟩:=I.list (.of l);obtain⟨o,g,j,n,k⟩:=y.isList;have h:(dq c).map PyData.list=some p:=h;cases e:dq c with
  |none=>rw[e]at h;cases h
  |some P=>rw[e]at h;cases h;obtain⟨K,as,w⟩:=ua I c vs f P R m e;exact⟨K,_,.list g j k (by simpa using w)⟩
 | .ref _,v,u,p,r,q,h=>by cases h
 | .scr _,v,u,p,r,q,h=>by cases h
 | .fn _,v,u,p,r,q,h=>by cases h
 | .dct,v,u,p,r,q,h=>by cases h
 | .dks _,v,u,p,r,q,h=>by cases h
 | .ty _,v,u,p,r,q,h=>by cases h
theorem ua(I:Inv X pq σ H s):∀(ds:List D) (vs:List V) (us:Lv) (ps:List PyData),ai X.K ⟨X.mg,F⟩ μ H ds vs->Vals vs us->dq ds=some ps->PyData.hasDictAll ps=Nk/\∃as,ReadsAll s.heap us ps as
 | [],vs,us,ps,r,q,h=>by unfold ai at r;subst r;cases q.zero;cases h;exact⟨rfl,_,.nil⟩
 |d::ds,vs,us,ps,r,q,h=>by
  obtain⟨w,W,rfl,R,f⟩:=r.uncons;obtain⟨u,U,rfl,Q,c⟩:=q.un;unfold dq at h;split at h
  ·rename_i p P e E;cases h;obtain⟨k,as,K⟩:=HB I d w u p R Q e;obtain⟨a,bs,b⟩:=ua I ds W U P f c E;exact⟨by show(PyData.hasDict p||PyData.hasDictAll P)=Nk;rw[k,a];rfl,_,.cons K b⟩
  ·cases h
end
noncomputable def eF{a:Type}:List Nat->List a->List (Option a)->List (Option a)
 |i::is,d::ds,ρ=>eF is ds (ρ.set i (some d))
 |_,_,ρ=>ρ
def Ad(is:List Nat)(t:TA):TS:=λD σ H=>t σ H λvs H1=>vs.length=is.length/\D.nx (eF is.reverse vs.reverse σ) H1
theorem Ae{p:Lp}{H:Hp}{nm:Nat->Str}{E:Vs}{Q:Unit->Nl->Prop}(b:X.N.Nodup):∀{is:List Nat} {vs:List V} {us:Lv} {σ:L2.St} {s:Nl},(∀i∈is,X.N[i]?=some (nm i)/\X.env.scope.names.lookup (nm i)=some .local)->vs.length=is.length->Vals vs us->Inv X p σ H s->
  (∀s2,Inv X p (eF is vs σ) H s2->Q () s2)->wpAny (model X.prog X.w) X.A (assignInOrder (is.map λi=>bindName X.env (nm i)) us) Q E s
 | [],vs,us,σ,s,_,a,r,I,h=>by
  cases vs with
  |nil=>exact assignInOrder_nil (h s I)
  |cons _ _=>cases a
 |i::is,vs,us,σ,s,c,a,r,I,h=>by
  cases vs with
  |nil=>cases a
  |cons v vs=>obtain⟨u,U,rfl,f,R⟩:=r.un;obtain⟨G,g⟩:=c i Ze;exact assignInOrder_cons (wpAny_bindName (l4 I b G (.inl g) f (λs2 d=>Ae b (λj e=>c j (Zc _ e)) (Zz a) R d h) (.inr g)))
theorem ni{nm:Nat->Str}{ts es:Lx}{t:TA}{pos pt:Pos}{k k2}(y:X.calm=Nj)(w:X.N.Nodup)(z:∀i∈is,X.N[i]?=some (nm i)/\X.env.scope.names.lookup (nm i)=some .local)(C:is.length<=3)(x:PA X es t)
  (hw:swappedStores [.Tuple ts k pt] (.Tuple es k2 pt2) X.env=pure (some (is.map nm))) (hs:swapsWithSole [.Tuple ts k pt] (.Tuple es k2 pt2) pos.line X.env=pure Nk):
  PS X (.Assign [.Tuple ts k pt] (.Tuple es k2 pt2) pos) (Ad is t):=by
 intro p s g H D I h;rw[exec_Assign_arm];refine Za (OH ?_);rw[hs];refine Za (Zd ?_);rw[if_neg (by decide)];refine Za (Tuple_ (aN (x _ p s g H _ I h) λu S Z=>?_));obtain⟨vs,H1,j,r,q,Q⟩:=Z;have f:u.length=is.length:=by rw[<-r.length,q]
 refine ZP ?_ (by show u.toArray.size<=sizeLine;rw[Zu,f,N5];omega);have l:Inv X p g H1 {S with heap:=S.heap.push {cls:=.type "tuple",data:=.seq u.toArray}}:=j.kept (t':=S.toks) λb o e=>Zb _ e;rw[hw];refine Za (Zd ?_);show wpAny (model X.prog X.w) X.A (do rule "assign.swapped-stores";let items <-unpackItems (.ref S.heap.objs.size) (is.map nm).length none;assignInOrder ((is.map nm).reverse.map λn=>bindName X.env n) items.reverse;pure Flow.next) _ _ _;have B:(is.map nm).length=u.toArray.size:=by simp[f]
 rw[B];refine Za (O' (Za (unpackItems_tuple (items:=u.toArray) (I.ok.hd y) (QN S.heap _) λc a=>?_)));have m:=l.kept (h':=c) (t':=S.toks) λb o e=>a b o (Zs (Zf e)) e;have E:((is.map nm).reverse.map λn=>bindName X.env n)=is.reverse.map λi=>bindName X.env (nm i):=by rw[<-List.map_reverse,ZW];rfl
 rw[E];refine Za (Ae w (λi A=>z i (QT.mp A)) (by rw[OQ,OQ,q]) r.reverse m λF v=>Zd ⟨_,H1,v,Q⟩)
open PySem.SeqAt PySem.MeetsSeq PySem.MeetsSeq2 PySem.MeetsSeq3
open PySem.AutoSeq1 (wpAny_loadPart')
theorem HC(f:Nat->β->Sem (ForInStep β))(I:Nat->β->Nl->Prop)(Q:β->Nl->Prop)
  (turn:∀i b s,i<n->I i b s->wpAny M A (f i b) (λr s'=>match r with| .yield B=>I (i+1) B s'| .done B=>Q B s') E s)
  (fin:∀b s,I n b s->Q b s) (b:β) (h:I 0 b s):wpAny M A (forIn [0:n] b f) Q E s:=by
 rw[Std.Legacy.Range.forIn_eq_forIn_range'];have d:[0:n].size=n:=by simp
 rw[d];refine OV f (λl c S=>∃i,i<=n/\l=List.range' i (n-i) 1/\I i c S) Q ?_ ?_ _ b ⟨0,Z6 _,rfl,h⟩
 ·rintro x R c S ⟨i,j,e,g⟩
  have a:i<n:=by
   rcases Nat.lt_or_ge i n with H|H
   ·exact H
   simp_all
  obtain⟨m,k⟩:∃m,n-i=m+1:=⟨n-i-1,by lia⟩;rw[k]at e;obtain⟨rfl,rfl⟩:=List.cons.inj e;refine ZH (turn x c _ a g) (λr o H=>?_) λ_ _ H=>H
  grind
 grind
theorem HD(l:Nm)(items:Av)(n:Nat)(dd:Option Nm)(sl:Array (Ov))(x:Nn)(e:Nn->Bool)(j:Nat)(z:j<items.size)(f:e items[j]=Nj)(k:∀m (B:m<items.size),m<j->e items[m]=Nk):
  Meets (N7.«tuple.index» ⟨[.ref l,x],[]⟩)
   (λA R s=>s.heap.get? l=some {cls:=.type "tuple",dict:=dd,data:=.seq items n,slots:=sl}/\(∀y,y∈items->EqAt A.in1 s y x (e y))/\R (.ok (.ret (.int j s.toks))) {s with toks:=s.toks+1}):=
 .of_wp λp w A R s h=>by
  obtain⟨v,g,d,T,O⟩:=s;obtain⟨u,r,h⟩:=h;have H:min items.size items.size=items.size:=Nat.min_self _
  wp_walk using PL u,HC (n:=min items.size items.size) _ (λi b S=>b.1=none/\S=⟨v,g,d,T,O⟩/\i<=j) _
  case turn=>
   rintro i b S c ⟨o,rfl,a⟩;rw[H]at c;rw[NO c];refine Za (r items[i] (Sy c) p w _ _ ?_);by_cases q:i=j
   ·subst q;rw[f]
    wp_walk
    exact⟨_,rfl,h⟩
   ·rw[k i c (by omega)]
    wp_walk
    exact⟨rfl,rfl,by omega⟩
  case fin=>rintro⟨b1,b2⟩ S ⟨o,rfl,a⟩;rw[H]at a;omega
  case h=>exact⟨rfl,rfl,Z6 _⟩
theorem HE{prog:Nt}{w:NF}{A:NV}{E:Vs}{l:Nm}{vs:Lv}{k:Int}{t:Tok}(g:s.heap.IsTuple l vs.toArray)(H:QJ vs ns)(f:k∈ns)
  (h:Q (.int (ns.idxOf k:Nat) s.toks) {s with toks:=s.toks+1}):wpAny (model prog w) A (call (.builtin "tuple.index") [.ref l,.int k t]) Q E s:=by
 obtain⟨⟨cls,D,d,sl⟩,c,j,n,o⟩:=id g;subst j o
 have i:vs.length=ns.length:=by
  clear g c h f
  induction H with
  |nil=>rfl
  |cons _ _ _ I=>simp[I]
 have q:=Rc f;have r:∀(m:Nat) (b:m<vs.length),isInt k vs[m]=decide (ns[m]'(by omega)=k):=by intro m b;obtain⟨v,e⟩:=H.int_at m _ (Zi _);rw[e,OJ,Zi _];rfl
 refine O_ PySem.F.slot_tuple_index ⟨_,c,rfl⟩ PySem.F.entry_tuple_index (PySem.F.args_tuple_index_2 _ _) (HD l _ n _ _ _ _ _ (by simp_all) ?_ ?_) ⟨c,λy u=>(eq_isInt k t H y (by simp_all)).at _ _,h⟩
 ·simp_all
 ·intro m b a;have p:=by simpa using b
  have:=RL a;simp_all
noncomputable def ub(d:D)(ds:List D)(S:ae):Res D:=match d,ds with
 | .tup xs,[.int k]=>match eE xs with
  |some ns=>if k∈ns then .ok (.int (ns.idxOf k:Nat)) S else .fail
  |none=>.fail
 |_,_=>.fail
theorem Af:jJ X "tuple.index" (rM X.K X.mg ub):=by
 intro P s G H x B v U Q I y m h;obtain⟨F,C,S,d,D,A,l,R,w⟩:=h;unfold ub at w;split at w
 ·split at w
  ·rename_i N E;split at w
   ·rename_i i;have c:=m_ E;subst c;obtain⟨a,vs,rfl,g,r⟩:=bO l;have j:=t9 _ _ r;subst j;obtain⟨z,rfl,f⟩:=R.one;cases aF f;subst y;obtain⟨u,rfl,n⟩:=m.one;obtain⟨t,rfl⟩:=n;obtain⟨k,q,p,f⟩:=I.tuple g;exact HE p (Ab q) i ⟨.int _,H,I.kept λb o e=>e,⟨_,rfl⟩,w _ H _ .refl A bo⟩
   ·exact w.elim
  ·exact w.elim
 ·exact w.elim
end Py
namespace Py
section
variable {E:XK}{Φ:FT}
end
open Builtin.Str (occurrences partsBetween)
noncomputable def iU(x y:Str):D->ae->Res D
 | .str z,S=>if z.length<=10000/\(x==y)=Nk/\y.length<=10 then .ok (.str (Sn z x y)) S else .fail
 |_,_=>.fail
end Py
namespace Py
theorem HF(n:Nat):Oz none none (-1) (n:Int)=((n:Int)-1,-1):=rfl
theorem HG(n:Nat):NL ((n:Int)-1) (-1) (-1)=n:=by
 unfold NL
 grind
theorem HH{t:Tok}{Q:Int×Int×Nat->Nl->Prop}(hs:s.heap.IsSliceOf sl .none .none (.int (-1) t))
  (h:Q ((n:Int)-1,-1,n) s):wpAny (model prog w) A (Qy (.ref sl) (pure (n:Int))) Q E s:=by
 obtain⟨o,a,b,H⟩:=id hs;refine Za (Za (Z0 a H rfl (Za (Z0 a H rfl (Za (Z0 a H rfl (Zd ?_)))))));refine Za (HT.tf (.int (-1) t) ?_);show wpAny _ _ (match Oz none none (-1) (n)with| (lo,c)=>pure (lo,(-1),NL lo c (-1))) _ _ s;rw[HF n];show wpAny _ _ (pure _) _ _ s;rw[HG];exact Zd h
theorem Ag{a b:Type}{f g:a->Option b}:∀{l:List a},(∀x∈l,f x=g x)->l.filterMap f=l.filterMap g
 | [],_=>rfl
 |x::l,h=>by
  have t:=Ag λy H=>h y (Zc _ H)
  grind
theorem HI(xs:Av):((Nq xs.size).filterMap λ(m:Nat)=>xs[(((xs.size:Int)-1)+(m:Int)*(-1)).toNat]?).toArray=xs.toList.reverse.toArray:=by
 have h:=pick_run xs.toList.reverse.toArray 0 xs.size;rw[List.filterMap_map]at h;have e:xs.toList.reverse.toArray.toList.drop 0=xs.toList.reverse:=by simp
 rw[e,RM (by simp)]at h;rw[<-h];congr 1;refine Ag λm a=>?_;have H:m<xs.size:=NY.1 a;have E:(((xs.size:Int)-1)+(m:Int)*(-1)).toNat=xs.size-1-m:=sd H;rw[E];show xs[xs.size-1-m]?=xs.toList.reverse.toArray[0+m]?;rw[R1,List.getElem?_toArray (xs:=xs.toList.reverse),List.getElem?_reverse (by simpa using H),ZG,Pb]
theorem HJ{prog:Nt}{w:NF}{A:NV}{E:Vs}{t:Nm}{u:Tok}(a:RU s.heap t items)(hs:s.heap.IsSliceOf sl .none .none (.int (-1) u))
  (h:Q (.ref s.heap.objs.size) {s with heap:=s.heap.push {cls:=.type "tuple",data:=.seq items.toList.reverse.toArray}})
  (f:items.size<=sizeLine):wpAny (model prog w) A (getItem (.ref t) (.ref sl)) Q E s:=by
 have H:=by show items.toList.reverse.toArray.size<=sizeLine;simp_all
 obtain⟨o,c,b,e⟩:=id hs;unfold getItem
 try with_reducible refine ZB ?_
 refine Za (Q_ a.typeIs (rfl) ?_)
 refine Za (ZZ a.typeIs Z9
  (ZY Z9 a.typeIs QM ?_ (QX _ _)))
 show wpAny _ _ (Pe _>>=_) _ _ s;refine Za (Sk a ?_);refine Za (OU ⟨_,c,b⟩ ?_);refine Za (HH hs ?_);show wpAny _ _ (if((items.size:Int)-1==0&&(-1)==1&&items.size==items.size)=Nj then _ else _) _ _ s;rw[if_neg (by simp),HI]
 first
  |exact Za (ZP (Zd ⟨_,rfl,Zd h⟩) H)
  |rfl
  |rfl
  |lia
noncomputable def nj(d k:D)(S:ae):Res D:=match d,k with
 | .tup xs,.int i=>if i= -1 then .ok (.tup xs.reverse) S else .fail
 |_,_=>G_ d k S
def HK(K:Fg)(mg:Mg):V->V->Hp->VK->Prop:=λx y H Q=>∃F μ S d k,aJ K ⟨mg,F⟩ μ S H/\Rep K ⟨mg,F⟩ μ H d x/\Rep K ⟨mg,F⟩ μ H k y/\aQ K ⟨mg,F⟩ μ H Q (nj d k S)
theorem uc{st:Expr}{ts:TE}{pos:Pos}(C:PE X e te)(hs:PE X st ts):PE X (.Subscript e (.Slice none none (some st) p2) pos) (λσ H Q=>te σ H λx H1=>ts σ H1 λy H2=>HK X.K X.mg x y H2 Q):=by
 intro p s σ H Q I h;refine Subscript_ (aN (C p s σ H _ I h) λv U z=>?_);obtain⟨x,H1,A,M,K⟩:=z;refine wpAny_Slice ?_;rw[evalPart_none,evalPart_some];refine Zd (Zd (aN (hs p U σ H1 _ A K) λvs c z=>?_));obtain⟨y,u,B,N,L⟩:=z;obtain⟨F,μ,S,d,k,V,P,T,w⟩:=L;unfold nj at w;split at w
 ·rename_i Z i;split at w
  ·rename_i D;subst D;have E:=aF T;subst E;obtain⟨t,rfl⟩:=N;obtain⟨a,W,rfl,G,r⟩:=bO P;cases M;have j:Inv X p σ u {c with heap:=c.heap.push {cls:=.type "slice",data:=.fields #[.none,.none,.int (-1) t]}}:=B.kept (t':=c.toks) λb O q=>Zb _ q;obtain⟨l,R,m,n⟩:=j.tuple G;have g:l.toArray.size=W.length:=by rw[Zu];exact R.length.symm
   show wpAny (model X.prog X.w) X.A (subscriptTail e (.Slice none none (some st) p2) (.ref a) (.ref c.heap.objs.size)) (EP X p σ Q) X.xe {c with heap:=c.heap.push {cls:=.type "slice",data:=.fields #[.none,.none,.int (-1) t]}};refine tail_any (ops:=[.ref a,.ref c.heap.objs.size]) m.typeIs PyProof.Rows.slot_tuple_getitem.lookup (HJ m (Q0 ..) ?_ (by rw[g];exact n)) (by with_unfolding_all rfl);refine⟨.ref _,_,j.laid (t':=c.toks) (o:=.tup W.reverse) (λb O q=>Zb _ q) (Zh _) ?_,rfl,w.tup V r.reverse _ (j.hok.fresh (Zh _))⟩;exact⟨by rw[OQ];exact n,_,R.reverse,QN _ _,qT.new _ _⟩
  ·exact w.elim
 ·exact(show False from w).elim
section
open PySem.AutoSeq1 (wpAny_loadPart')
open PySem.MeetsSeq PySem.MeetsSeq2 PySem.MeetsSeq3
open PySem.AutoSeq1
end
set_option genInjectivity false in
inductive eA where
 |int|seq (t:eA)
 deriving DecidableEq
set_option genInjectivity false in
inductive jK where
 |len|tuple|list (box:Bool)|int|min|max|isinst|all|any|sum|repr|abs|str|sorted (box:Bool) (t:eA)
 deriving DecidableEq
inductive rm where
 |append|extend|pop|count|insert|index
 deriving DecidableEq
set_option genInjectivity false in
inductive CT where
 |var (i:Nat)
 |tup (ts:List CT)
set_option genInjectivity false in
inductive CE where
 |var (i:Nat)
 |lit (d:D)
 |glob (x:Str)
 |ty (n:String)
 |bin (op:Q8) (a b:CE)
 |catB (a b:CE)
 |neg (a:CE)
 |cmp (op:PR) (a b:CE)
 |chain (op op':PR) (a b c:CE)
 |chain3 (op op' op'':PR) (a b c d:CE)
 |band (a b:CE)
 |bor (a b:CE)
 |bnot (a:CE)
 |ite (c a b:CE)
 |tup (es:List CE)
 |lst (box:Bool) (es:List CE)
 |lstR (a b:CE) (l:Str) (c d:CE) (x y:Str) (es:List CE)
 |idx (a b:CE)
 |sl (a:CE) (lo hi:List CE)
 |call (f:Str) (es:List CE)
 |blt (b:jK) (es:List CE)
 |meth (m:rm) (o:CE) (es:List CE)
 |tix (o:CE) (es:List CE)
 |sset (a:CE)
 |comp (box:Bool) (N:Ls) (fr:List (Option Nat)) (tg:CT) (it:CE) (ifs:List CE) (body:CE)
 |emit (e:CE)
 |inner (tg:CT) (it:CE) (ifs:List CE) (body:CE)
 |seq (e:CE)
 |range (es:List CE)
 |zip (es:List CE)
 |dct
 |rev (a b:CE)
set_option genInjectivity false in
inductive CS where
 |asg (i:Nat) (e:CE)
 |asgT (t:CT) (e:CE)
 |par (is:List Nat) (es:List CE)
 |set (o i v:CE)
 |expr (e:CE)
 |ret (e:CE)
 |retN
 |pass
 |brk
 |cont
 |ite (c:CE) (a b:List CS)
 |for_ (t:CT) (it:CE) (body:List CS)
 |while_ (n:Nat) (c:CE) (body:List CS)
 |never
 |raise_ (x:Str) (es:List CE)
 |tryK (i:Nat) (body:List CS) (f:Str) (ys ws:Ls)
 |raiseI (x:Str) (es:List CE)
 |tryG (pre:Option Str) (g:Str) (i:Nat) (body:List CS) (f:Str) (ys ws:Ls)
abbrev br:=List (Option D)
abbrev FT:=Str->Option (List D->ae->Res D)
noncomputable def Res.bind{b c:Type}(r:Res b)(f:b->ae->Res c):Res c:=match r with
 | .ok a S=>f a S
 | .err x S=>.err x S
 | .fail=>.fail
noncomputable def Res.noErr{b:Type}:Res b->Res b
 | .ok a S=>.ok a S
 |_=>.fail
noncomputable def aA{a:Type}(d:D)(f:Bool->Res a):Res a:=match d with
 | .bl k=>f k
 |_=>.fail
noncomputable def bF:List CT->List D->br->Option br
 | [],ds,ρ=>if ds.isEmpty=Nj then some ρ else none
 |t::ts,ds,ρ=>match t,ds with
  | .var i,d::ds=>bF ts ds (ρ.set i (some d))
  |_,_=>none
noncomputable def aR:CT->D->br->Option br
 | .var i,d,ρ=>some (ρ.set i (some d))
 | .tup ts,d,ρ=>match d with
  | .tup ds=>bF ts ds ρ
  |_=>none
noncomputable def dt:List CT->List Nat
 | []=>[]
 |t::ts=>match t with
  | .var i=>i::dt ts
  | .tup _=>dt ts
def slots:CT->List Nat
 | .var i=>[i]
 | .tup ts=>dt ts
noncomputable def bT:br->List Nat->Bool
 |ρ,is=>is.all λi=>match ρ[i]? with
  |some none=>Nj
  |_=>Nk
noncomputable def bj(t:CT)(d:D)(ρ:br):Option br:=if bT ρ (slots t)=Nj then aR t d ρ else none
set_option genInjectivity false in
inductive iV where
 |items (xs:List D)|live (f:Nat) (get:ae->Nat->Option (Option D))
noncomputable def aW(step:D->List D->ae->Res (List D)):List D->List D->ae->Res (List D)
 | [],acc,S=>.ok acc S
 |x::xs,acc,S=>(step x acc S).bind λa S'=>aW step xs a S'
noncomputable def c0(step:D->List D->ae->Res (List D))(get:ae->Nat->Option (Option D)):Nat->Nat->List D->ae->Res (List D)
 |0,_,_,_=>.fail
 |f+1,i,acc,S=>match get S i with
  |none=>.fail
  |some none=>.ok acc S
  |some (some x)=>(step x acc S).bind λa S'=>c0 step get f (i+1) a S'
noncomputable def cv(step:D->List D->ae->Res (List D))(its:iV)(a:List D)(S:ae):Res (List D):=match its with
 | .items xs=>aW step xs a S
 | .live f get=>c0 step get f 0 a S
noncomputable def nk(n:Nat):ae->Nat->Option (Option D):=λS i=>(S[n]?).map λxs=>xs[i]?
noncomputable def eY(S:ae):D->Option iV
 | .tup xs=>some (.items xs)
 | .lst xs=>some (.items xs)
 | .scr xs=>some (.items xs)
 | .ref n=>some (.live (((S[n]?).getD []).length+1) (nk n))
 |_=>none
noncomputable def nq:D->Option (List D)
 | .tup xs=>some xs
 | .lst xs=>some xs
 | .scr xs=>some xs
 |_=>none
noncomputable def nr(d e:D):ae->Nat->Option (Option D):=λS i=>match ay S d,ay S e with
 |some xs,some ys=>some (match xs[i]?,ys[i]? with
  |some x,some y=>some (.tup [x,y])
  |_,_=>none)
 |_,_=>none
def eG:D->Bool
 | .tup _=>Nk
 |_=>Nj
noncomputable def du(S:ae)(d e:D):Option iV:=match nq d,nq e with
  |some xs,some ys=>some (.items (Np (λx y=>.tup [x,y]) xs ys))
  |_,_=>match ay S d,ay S e with
   |some xs,some ys=>some (.live (min xs.length ys.length+1) (nr d e))
   |_,_=>none
def dL(l:Int):Nat->List D
 |0=>[]
 |n+1=>.int l::dL (l+1) n
noncomputable def ir:List D->Option (Option Int)
 | []=>some none
 | [.int i]=>some (some i)
 |_=>none
noncomputable def cS(ds:List D)(S:ae):Res (Option Int):=match ir ds with
 |some o=>.ok o S
 |none=>.fail
noncomputable def az:eA->D->Bool
 | .int,.int _=>Nj
 | .seq t,.tup xs=>xs.all (az t)
 |_,_=>Nk
noncomputable def bQ(f:D->D->Bool):List D->List D->Bool
 | [],[]=>Nk
 | [],_::_=>Nj
 |_::_,[]=>Nk
 |x::xs,y::ys=>if f x y=Nj then Nj else if f y x=Nj then Nk else bQ f xs ys
noncomputable def bU:eA->D->D->Bool
 | .int,.int i,.int j=>decide (i<j)
 | .seq t,.tup xs,.tup ys=>bQ (bU t) xs ys
 |_,_,_=>Nk
noncomputable def dM(f:D->D->Bool)(x:D):List D->List D
 | []=>[x]
 |y::ys=>if f x y=Nj then x::y::ys else y::dM f x ys
noncomputable def eI(f:D->D->Bool)(xs:List D):List D:=xs.foldl (λacc x=>dM f x acc) []
def bX:eA->Bool
 | .int=>Nj
 | .seq t=>bX t
def fo:D->Bool
 | .tup []=>Nj
 |_=>Nk
noncomputable def gb:eA->List D->Bool
 | .int,_=>Nj
 | .seq t,xs=>bX t&&(xs.all λd=> !fo d)
noncomputable def km(box:Bool)(t:eA)(ds:List D)(S:ae):Res D:=match ds with
 | [d]=>match ay S d with
  |some xs=>if xs.all (az t)=Nj/\xs.length<64/\gb t xs=Nj then(if box=Nj then .ok (.ref S.length) (S++[eI (bU t) xs])else .ok (.lst (eI (bU t) xs)) S)else .fail
  |none=>.fail
 |_=>.fail
def c5:D->Option Int
 | .int i=>some i
 |_=>none
def fq:D->Li
 | .tup ds=>ds.filterMap c5
 |_=>[]
noncomputable def ko(ks:List (Li)):List (Li):=ks.foldl (λacc k=>if acc.contains k=Nj then acc else acc++[k]) []
noncomputable def dY(ks:List (Li)):List D:=eI (bU (.seq .int)) ((ko ks).map λk=>D.tup (k.map D.int))
noncomputable def kq:D->Bool
 | .int n=>decide (0<=n)&&decide (n<8)
 |_=>Nk
noncomputable def cJ(d:D)(S:ae):Res D:=match ay S d with
 |some xs=>if xs.all kq=Nj then .ok (.lst (((Nq 8).filter λk:Nat=>(xs.filterMap c5).contains (k:Int)).map λk:Nat=>D.int k)) S else
  if xs.all (az (.seq .int))=Nj/\xs.length<64/\(xs.all λd=> !fo d)=Nj then .ok (.lst (dY (xs.map fq))) S else .fail
 |none=>.fail
def cK:eA->Nat
 | .int=>1
 | .seq t=>cK t+1
noncomputable def ud:jK->Bool
 | .sorted _ t=>decide (cK t<=40)
 | .sum=>Nk
 | .repr=>Nk
 | .abs=>Nk
 |_=>Nj
noncomputable def ue(ds:List D)(S:ae):Res D:=match ds with
 | [.int k]=>if k.natAbs<2^64 then .ok (.str (toString k:String)) S else .fail
 |_=>.fail
noncomputable def aU:jK->List D->ae->Res D
 | .len=>fH| .tuple=>ka| .list b=>kb b| .int=>intD| .min=>t_| .max=>t8| .isinst=>bH| .all=>iQ| .any=>tV| .sum=>λ_ _=>.fail | .repr=>λ_ _=>.fail | .abs=>λ_ _=>.fail | .str=>ue
 | .sorted b t=>km b t
noncomputable def nu(d:D)(ds:List D)(S:ae):Res D:=match ds with
 | []=>tY d [] S
 |ds=>t7 d ds S
noncomputable def gc:rm->D->List D->ae->Res D
 | .append=>kg| .extend=>tX| .pop=>nu| .count=>λ_ _ _=>.fail | .insert=>λ_ _ _=>.fail | .index=>λ_ _ _=>.fail
section
variable (Φ:FT)(Γ:Str->Option D)
mutual
noncomputable def aj:CE->br->ae->Res D
 | .var i,ρ,S=>match ρ[i]? with
  |some (some d)=>.ok d S
  |_=>.fail
 | .dct,ρ,S=>.ok .dct S
 | .lit d,ρ,S=>.ok d S
 | .glob x,ρ,S=>match Γ x with
  |some d=>.ok d S
  |none=>.fail
 | .ty n,ρ,S=>.ok (.ty n) S
 | .bin op a b,ρ,S=>(aj a ρ S).bind λd S1=>(aj b ρ S1).bind λe S2=>(dX op d e S2).noErr
 | .catB a b,ρ,S=>(aj a ρ S).bind λd S1=>(aj b ρ S1).bind λe S2=>(f_ d e S2).noErr
 | .neg a,ρ,S=>(aj a ρ S).bind λd S1=>match d with
  | .int i=>.ok (.int (-i)) S1
  |_=>.fail
 | .cmp op a b,ρ,S=>(aj a ρ S).bind λd S1=>(aj b ρ S1).bind λe S2=>(aw op d e S2).noErr
 | .chain3 _ _ _ _ _ _ _,_,_=>.fail
 | .chain op op' a b c,ρ,S=>(aj a ρ S).bind λd S1=>(aj b ρ S1).bind λe S2=>(aw op d e S2).noErr.bind λk S3=>aA k λk=>if k=Nj then(aj c ρ S3).bind λf p=>(aw op' e f p).noErr else .ok (.bl Nk) S3
 | .band a b,ρ,S=>(aj a ρ S).bind λd S1=>aA d λk=>if k=Nj then aj b ρ S1 else .ok (.bl Nk) S1
 | .bor a b,ρ,S=>(aj a ρ S).bind λd S1=>aA d λk=>if k=Nj then .ok (.bl Nj) S1 else aj b ρ S1
 | .bnot a,ρ,S=>(aj a ρ S).bind λd S1=>match bb S1 d with
  |some k=>.ok (.bl (!k)) S1
  |none=>.fail
 | .ite c a b,ρ,S=>(am c ρ S).bind λk S1=>if k=Nj then aj a ρ S1 else aj b ρ S1
 | .tup es,ρ,S=>(ah es ρ S).bind λds S1=>.ok (.tup ds) S1
 | .lst box es,ρ,S=>(ah es ρ S).bind λds S1=>if box=Nj then .ok (.ref S1.length) (S1++[ds])else .ok (.lst ds) S1
 | .lstR a b l c d x y es,ρ,S=>((aj a ρ S).bind λd1 S1=>(((aj b ρ S1).bind λd S2=>(dX .Add d (.str l) S2).noErr).bind λd2 S2=>((aj c ρ S2).bind λq S3=>(((aj d ρ S3).bind λz p=>(iU x y z p).noErr).bind λr p=>(ah es ρ p).bind λds g=>.ok (r::ds) g).bind λds g=>.ok (q::ds) g).bind λds g=>.ok (d2::ds) g).bind λds g=>.ok (d1::ds) g).bind λds g=>if ds.length<1000 then .ok (.lst ds) g else .fail
 | .rev a b,ρ,S=>(aj a ρ S).bind λd S1=>(aj b ρ S1).bind λe S2=>(nj d e S2).noErr
 | .idx a b,ρ,S=>(aj a ρ S).bind λd S1=>(aj b ρ S1).bind λe S2=>(bP d e S2).noErr
 | .sl a lo hi,ρ,S=>(aj a ρ S).bind λd S1=>((ah lo ρ S1).bind cS).bind λl S2=>((ah hi ρ S2).bind cS).bind λh S3=>(mV d l h S3).noErr
 | .call f es,ρ,S=>match Φ f with
  |some φ=>(ah es ρ S).bind λds S1=>φ ds S1
  |none=>.fail
 | .blt b es,ρ,S=>(ah es ρ S).bind λds S1=>(aU b ds S1).noErr
 | .meth m o es,ρ,S=>(aj o ρ S).bind λd S1=>match d with
  | .ref n=>(ah es ρ S1).bind λds S2=>(gc m (.ref n) ds S2).noErr
  |_=>.fail
 | .tix o es,ρ,S=>(aj o ρ S).bind λd S1=>match d with
  | .tup xs=>(ah es ρ S1).bind λds S2=>(ub (.tup xs) ds S2).noErr
  |_=>.fail
 | .sset a,ρ,S=>(aj a ρ S).bind λd S1=>(cJ d S1).noErr
 | .comp box N fr tg it ifs body,ρ,S=>(aY it ρ S).bind λits S1=>
   (cv (λx acc S2=>match bj tg x (fr.map λj=>j.bind λj=>(ρ[j]?).join)with
    |some ρ'=>(aS ifs ρ' S2).bind λk S3=>if k=Nj then bv body ρ' acc S3 else .ok acc S3
    |none=>.fail) its [] S1).noErr.bind λys g=>if box=Nj then .ok (.ref g.length) (g++[ys])else .ok (.lst ys) g
 | .emit _,_,_=>.fail
 | .inner _ _ _ _,_,_=>.fail
 | .seq _,_,_=>.fail
 | .range _,_,_=>.fail
 | .zip _,_,_=>.fail
noncomputable def am:CE->br->ae->Res Bool
 | .band a b,ρ,S=>(am a ρ S).bind λk S1=>if k=Nj then am b ρ S1 else .ok Nk S1
 | .bor a b,ρ,S=>(am a ρ S).bind λk S1=>if k=Nj then .ok Nj S1 else am b ρ S1
 | .bnot a,ρ,S=>(am a ρ S).bind λk S1=>.ok (!k) S1
 | .cmp op a b,ρ,S=>(aj a ρ S).bind λd S1=>(aj b ρ S1).bind λe S2=>(aw op d e S2).noErr.bind λk S3=>aA k λk=>.ok k S3
 | .chain3 op op' op'' a b c d,ρ,S=>(aj a ρ S).bind λx S1=>(aj b ρ S1).bind λe S2=>(aw op x e S2).noErr.bind λk S3=>aA k λk=>if k=Nj then(aj c ρ S3).bind λf j=>(aw op' e f j).noErr.bind λk h=>aA k λk=>if k=Nj then(aj d ρ h).bind λg l=>(aw op'' f g l).noErr.bind λk m=>aA k λk=>.ok k m else .ok Nk h else .ok Nk S3
 | .chain op op' a b c,ρ,S=>(aj a ρ S).bind λd S1=>(aj b ρ S1).bind λe S2=>(aw op d e S2).noErr.bind λk S3=>aA k λk=>if k=Nj then(aj c ρ S3).bind λf j=>(aw op' e f j).noErr.bind λk h=>aA k λk=>.ok k h else .ok Nk S3
 | .var i,ρ,S=>match ρ[i]? with
  |some (some d)=>match bb S d with
   |some k=>.ok k S
   |none=>.fail
  |_=>.fail
 | .call f es,ρ,S=>match Φ f with
  |some φ=>(ah es ρ S).bind λds S1=>(φ ds S1).bind λd S2=>match bb S2 d with
   |some k=>.ok k S2
   |none=>.fail
  |none=>.fail
 | .blt b es,ρ,S=>(ah es ρ S).bind λds S1=>(aU b ds S1).noErr.bind λd S2=>match bb S2 d with
   |some k=>.ok k S2
   |none=>.fail
 | .lit d,ρ,S=>match bb S d with
   |some k=>.ok k S
   |none=>.fail
 |_,_,_=>.fail
noncomputable def ah:List CE->br->ae->Res (List D)
 | [],_,S=>.ok [] S
 |e::es,ρ,S=>(aj e ρ S).bind λd S1=>(ah es ρ S1).bind λds S2=>.ok (d::ds) S2
noncomputable def aS:List CE->br->ae->Res Bool
 | [],_,S=>.ok Nj S
 |e::es,ρ,S=>(am e ρ S).bind λk S1=>if k=Nj then aS es ρ S1 else .ok Nk S1
noncomputable def aY:CE->br->ae->Res iV
 | .seq e,ρ,S=>(aj e ρ S).bind λd S1=>match eY S1 d with
  |some xs=>.ok xs S1
  |none=>.fail
 | .range es,ρ,S=>(ah es ρ S).bind λds S1=>match ds with
  | [.int j]=>if-(2^62)<=j/\j<2^62 then .ok (.items (dL 0 j.toNat)) S1 else .fail
  | [.int i,.int j]=>if-(2^62)<=i/\i<2^62/\ -(2^62)<=j/\j<2^62 then .ok (.items (dL i (j-i).toNat)) S1 else .fail
  |_=>.fail
 | .zip es,ρ,S=>(ah es ρ S).bind λds S2=>match ds with
  | [d,e]=>(match du S2 d e with
   |some its=>.ok its S2
   |none=>.fail)
  |_=>.fail
 |_,_,_=>.fail
noncomputable def bv:CE->br->List D->ae->Res (List D)
 | .emit e,ρ,acc,S=>(aj e ρ S).bind λy S1=>if acc.length<ck then .ok (acc++[y]) S1 else .fail
 | .inner tg it ifs body,ρ,acc,S=>(aY it ρ S).bind λits S1=>
   cv (λx acc S2=>match bj tg x ρ with
    |some ρ'=>(aS ifs ρ' S2).bind λk S3=>if k=Nj then bv body ρ' acc S3 else .ok acc S3
    |none=>.fail) its acc S1
 |_,_,_,_=>.fail
end
set_option genInjectivity false in
inductive Fl where
 |next(ρ:br)|ret (d:D)|brk (ρ:br)|cont (ρ:br)
noncomputable def d_(step:D->br->ae->Res Fl):List D->br->ae->Res Fl
 | [],ρ,S=>.ok (.next ρ) S
 |x::xs,ρ,S=>(step x ρ S).bind λf S'=>match f with
  | .next ρ'=>d_ step xs ρ' S'
  | .cont ρ'=>d_ step xs ρ' S'
  | .brk ρ'=>.ok (.next ρ') S'
  | .ret d=>.ok (.ret d) S'
noncomputable def fK(step:D->br->ae->Res Fl)(get:ae->Nat->Option (Option D)):Nat->Nat->br->ae->Res Fl
 |0,_,_,_=>.fail
 |f+1,i,ρ,S=>match get S i with
  |none=>.fail
  |some none=>.ok (.next ρ) S
  |some (some x)=>(step x ρ S).bind λF S'=>match F with
    | .next ρ'=>fK step get f (i+1) ρ' S'
    | .cont ρ'=>fK step get f (i+1) ρ' S'
    | .brk ρ'=>.ok (.next ρ') S'
    | .ret d=>.ok (.ret d) S'
noncomputable def uf(step:D->br->ae->Res Fl)(its:iV)(ρ:br)(S:ae):Res Fl:=match its with
 | .items xs=>d_ step xs ρ S
 | .live f get=>fK step get f 0 ρ S
noncomputable def nv(c:br->ae->Res Bool)(step:br->ae->Res Fl):Nat->br->ae->Res Fl
 |0,_,_=>.fail
 |n+1,ρ,S=>(c ρ S).bind λk S1=>if k=Nj then(step ρ S1).bind λf S'=>match f with
   | .next ρ'=>nv c step n ρ' S'
   | .cont ρ'=>nv c step n ρ' S'
   | .brk ρ'=>.ok (.next ρ') S'
   | .ret d=>.ok (.ret d) S'
  else .ok (.next ρ) S1
mutual
noncomputable def ap:CS->br->ae->Res Fl
 | .asg i e,ρ,S=>(aj Φ Γ e ρ S).bind λd S1=>.ok (.next (ρ.set i (some d))) S1
 | .asgT t e,ρ,S=>(aj Φ Γ e ρ S).bind λd S1=>match aR t d ρ with
  |some ρ'=>.ok (.next ρ') S1
  |none=>.fail
 | .par is es,ρ,S=>(ah Φ Γ es ρ S).bind λds S1=>if ds.length=is.length then .ok (.next (eF is.reverse ds.reverse ρ)) S1 else .fail
 | .set o i v,ρ,S=>(aj Φ Γ v ρ S).bind λf S1=>(aj Φ Γ o ρ S1).bind λd S2=>(aj Φ Γ i ρ S2).bind λe S3=>match iR d e f S3 with
  |some h=>.ok (.next ρ) h
  |none=>.fail
 | .expr e,ρ,S=>(aj Φ Γ e ρ S).bind λ_ S1=>.ok (.next ρ) S1
 | .ret e,ρ,S=>(aj Φ Γ e ρ S).bind λd S1=>.ok (.ret d) S1
 | .retN,_,S=>.ok (.ret .non) S
 | .pass,ρ,S=>.ok (.next ρ) S
 | .brk,ρ,S=>.ok (.brk ρ) S
 | .cont,ρ,S=>.ok (.cont ρ) S
 | .ite c a b,ρ,S=>(am Φ Γ c ρ S).bind λk S1=>if k=Nj then af a ρ S1 else af b ρ S1
 | .for_ t it body,ρ,S=>(aY Φ Γ it ρ S).bind λxs S1=>uf (λx ρ S=>match aR t x ρ with
   |some ρ'=>af body ρ' S
   |none=>.fail) xs ρ S1
 | .while_ n c body,ρ,S=>nv (am Φ Γ c) (af body) n ρ S
 | .never,_,_=>.fail
 | .raise_ x es,ρ,S=>(ah Φ Γ es ρ S).bind λds S1=>if ds.length<=1000 then .err ⟨x,[]⟩ S1 else .fail
 | .tryK _ body _ ys w,ρ,S=>match af body ρ S with
  | .err x S'=>(match x.fs,(ys.zip w).lookup x.cls with
   | [],some r=>.ok (.ret (.str r)) S'
   |_,_=>.fail)
  |r=>r
 | .raiseI x es,ρ,S=>(ah Φ Γ es ρ S).bind λds S1=>(match ds with
  | [.int i,.int j]=>.err ⟨x,[.int i,.int j]⟩ S1
  |_=>.fail)
 | .tryG pre g _ body _ ys w,ρ,S=>match af body ρ S with
  | .err x S'=>(match(ys.zip w).lookup x.cls with
   |some r=>(if r=g then(match x.fs with
     | [.int i,.int j]=>.ok (.ret (.lst (pre.toList.map D.str++[.int i,.int j]))) S'
     |_=>.fail)else(match x.fs with
     | []=>.ok (.ret (.str r)) S'
     |_=>.fail))
   |_=>.fail)
  |r=>r
noncomputable def af:List CS->br->ae->Res Fl
 | [],ρ,S=>.ok (.next ρ) S
 |c::cs,ρ,S=>(ap c ρ S).bind λf S1=>match f with
  | .next ρ'=>af cs ρ' S1
  |f=>.ok f S1
end
end
end Py
variable {body:List Py.CS}{Φ:Py.FT}{ρ ρ' r0:Py.br}
namespace Py
def Ah(mg:Mg)(x:Exc)(cls:Nn)(D:Option Nm)(H:Hp):Prop:=mg x.cls=some cls/\(x.fs=[]\/∃d i j,D=some d/\x.fs=[.int i,.int j]/\H d=some (.xd [("many",.int i),("most",.int j)]))
def ug(mg:Mg)(E:XK)(x:Exc)(H:Hp):Prop:=∀cls d,Ah mg x cls d H->E cls d H
def ak{c d:Type}(K:Fg)(mg:GS)(E:XK)(Rel:La->Hp->c->d->Prop)(μ:La)(H:Hp)(Q:d->Hp->Prop):Res c->Prop
 | .ok a S'=>∀μ' H' b,Ext μ H μ' H'->aJ K mg μ' S' H'->Rel μ' H' a b->Q b H'
 | .err x S'=>∀μ' H',Ext μ H μ' H'->aJ K mg μ' S' H'->ug mg.mg E x H'
 | .fail=>False
section
variable {mg:GS}{E:XK}
theorem cA{Q:VK}{r:Res D}(w:ak K mg E (Rep K mg) μ H Q r.noErr):aQ K mg μ H Q r:=by cases r<;>first|exact w|exact w.elim
theorem ak.ext{Rel:La->Hp->α->β->Prop}{Q:β->Hp->Prop}{r:Res α}(x:Ext μ H μ' H')(w:ak K mg E Rel μ H Q r):ak K mg E Rel μ' H' Q r:=by
 cases r with
 |ok d S=>exact λa b v X s R=>w _ _ v (x.trans X) s R
 |err y S=>exact λa b X s=>w _ _ (x.trans X) s
 |fail=>exact w
theorem ak.bind{c d:Type}{Rel:La->Hp->α->β->Prop}{R:La->Hp->c->d->Prop}{Q:d->Hp->Prop}{r:Res α}{f:α->ae->Res c}(w:ak K mg E R μ H Q (r.bind f)):
  ak K mg E Rel μ H (λb H'=>∃μ' S' a,Ext μ H μ' H'/\aJ K mg μ' S' H'/\Rel μ' H' a b/\ak K mg E R μ' H' Q (f a S')) r:=by
 cases r with
 |ok a S'=>exact λe g b x s r=>⟨_,_,a,x,s,r,ak.ext x (show ak K _ E _ _ H Q _ from w)⟩
 |err y S'=>exact w
 |fail=>exact w
theorem ak.mono{Rel:La->Hp->α->β->Prop}{Q c:β->Hp->Prop}{r:Res α}(w:ak K mg E Rel μ H Q r)(h:∀b H',Q b H'->c b H'):ak K mg E Rel μ H c r:=by
 cases r with
 |ok a S=>exact λd e b x s r=>h b _ (w _ _ b x s r)
 |err y S=>exact w
 |fail=>exact w
def aV(K:Fg)(mg:GS)(μ:La)(H:Hp)(ρ:br)(σ:L2.St):Prop:=
 ρ.length=σ.length/\∀(i:Nat) (d:D),ρ[i]?=some (some d)->∃v,σ[i]?=some (some v)/\Rep K mg μ H d v
theorem aV.mono(x:Ext μ H μ' H')(h:aV K mg μ H ρ σ):aV K mg μ' H' ρ σ:=
 ⟨h.1,λi d e=>(by obtain⟨v,a,b⟩:=h.2 i d e;exact(⟨v,a,Rep.mono x _ _ b⟩))⟩
theorem aV.set{i:Nat}(h:aV K mg μ H ρ σ)(r:Rep K mg μ H d v):aV K mg μ H (ρ.set i (some d)) (σ.set i (some v)):=by
 refine⟨by simp[h.1],λj e a=>?_⟩;by_cases b:j=i
 ·subst b;have c:j<ρ.length:=by grind
  rw[Z8 c]at a;cases a;exact⟨v,Z8 (by rw[<-h.1];exact c),r⟩
 ·rw[NZ (Ne.symm b)]at a⊢;exact h.2 j e a
end
section
variable (K:Fg)(mg:Mg)(E:XK)(Φ:FT)(Γ:Str->Option D)
def tE(c:CE):TE:=λσ H Q=>∃F μ ρ S,aJ K ⟨mg,F⟩ μ S H/\aV K ⟨mg,F⟩ μ H ρ σ/\ak K ⟨mg,F⟩ E (Rep K ⟨mg,F⟩) μ H Q (aj Φ Γ c ρ S)
def tT(c:CE):TT:=λσ H Q=>∃F μ ρ S,aJ K ⟨mg,F⟩ μ S H/\aV K ⟨mg,F⟩ μ H ρ σ/\ak K ⟨mg,F⟩ E (λ_ _ a b=>a=b) μ H Q (am Φ Γ c ρ S)
def tL(cs:List CE):TA:=λσ H Q=>∃F μ ρ S,aJ K ⟨mg,F⟩ μ S H/\aV K ⟨mg,F⟩ μ H ρ σ/\ak K ⟨mg,F⟩ E (ai K ⟨mg,F⟩) μ H Q (ah Φ Γ cs ρ S)
end
theorem aL{t t':TE}(h:PE X e t)(w:∀σ H Q,t' σ H Q->t σ H Q):PE X e t':=λp s σ H Q I q=>h _ s _ H Q I (w _ H Q q)
theorem dv{t t':TT}(h:PT X e t)(w:∀σ H Q,t' σ H Q->t σ H Q):PT X e t':=λp s σ H Q I q=>h _ s _ H Q I (w _ H Q q)
theorem eK{e:Lx}{t t':TA}(h:PA X e t)(w:∀σ H Q,t' σ H Q->t σ H Q):PA X e t':=λpos p s σ H Q I q=>h _ _ s _ H Q I (w _ H Q q)
noncomputable def nw(s:List (Str×Oa))(x:Str):Bool:=match s.lookup x with
 |some .local=>Nj|some .cell=>Nj|some .free=>Nj
 |_=>Nk
noncomputable def bp(s:List (Str×Oa))(x:Str):Bool:=s.lookup x==some .globalImplicit&& !(x==("__debug__":Str))&& !(x==("__name__":Str))
noncomputable def dw(x:Str):Bool:= !(x==("__debug__":Str))&& !(x==("__classdict__":Str))
def bA:Expr->Bool
 | .Starred _ _=>Nk
 |_=>Nj
noncomputable def iu:D->Const->Bool
 | .non,.none=>Nj
 | .bl b,.bool c=>b==c
 | .int i,.int j=>i==j
 | .str x,.str y=>x==y
 |_,_=>Nk
noncomputable def hU:jK->Str
 | .len=>"len"| .tuple=>"tuple"| .list _=>"list"| .int=>"int"| .min=>"min"| .max=>"max"| .isinst=>"isinstance"| .all=>"all"| .any=>"any"| .sum=>"sum"| .repr=>"repr"| .abs=>"abs"| .str=>"str"| .sorted _ _=>"sorted"
noncomputable def kr:jK->Nn
 | .len=>.builtin "len"| .tuple=>.type "tuple"| .list _=>.type "list"| .int=>.type "int"| .min=>.builtin "min"| .max=>.builtin "max"| .isinst=>.builtin "isinstance"| .all=>.builtin "all"| .any=>.builtin "any"| .sum=>.builtin "sum"| .repr=>.builtin "repr"| .abs=>.builtin "abs"| .str=>.type "str"| .sorted _ _=>.builtin "sorted"
theorem HL(b:jK):bootBuiltins (hU b)=some (kr b):=by
 cases b with
 |list box=>rfl
 |sorted box t=>rfl
 |_=>decide+kernel
noncomputable def iW:List String:=["int","bool","str","tuple","list","dict"]
theorem ny{n:String}(h:iW.contains n=Nj):bootBuiltins (Oi n)=some (.type n):=by simp[iW]at h;rcases h with rfl|rfl|rfl|rfl|rfl|rfl<;>decide+kernel
abbrev Sc:=List (Str×Oa)
noncomputable def kt(N s:Sc):Sc:=N.map λ(n,k)=>if(k== .free&&s.lookup n==some .cell)then(n,.cell)else(n,k)
def uh(n:Sc):Str->Bool:=λx=>n.lookup x==some .cell
noncomputable def HM(scope:Scope)(s:Sc):Bool:=scope.kind== .function&&scope.names.all λ(n,k)=>(k !=.cell||scope.names.lookup n==some .cell)&&(k !=.local||scope.names.lookup n==some .local)&&(k !=.free||(s.lookup n==some .cell||s.lookup n==some .free))
noncomputable def frB(n:Sc)(a N:Ls)(fr:List (Option Nat)):Bool:=fr.length==a.length&&(Nq a.length).all λi=>match fr[i]? with
 |some (some j)=>(match a[i]? with
  |some x=>n.lookup x==some .free&&N[j]?==some x
  |none=>Nk)
 |_=>Nj
def iX:Ls->Bool
 | []=>Nj
 |x::r=> !r.contains x&&iX r
def iY:Expr->Bool
 | .Slice _ _ _ _=>Nk
 |_=>Nj
theorem HN{b:Expr}(h:iY b=Nj):ze b:=by intro o i;cases b<;>first|rfl|cases h
noncomputable def nz:rm->Str
 | .append=>"append"| .extend=>"extend"| .pop=>"pop"| .count=>"count"| .insert=>"insert"| .index=>"index"
def gf:Expr->Bool
 | .Name _ _=>Nj
 |_=>Nk
def fv:Expr->Bool
 | .Tuple _ _ _=>Nj
 |_=>Nk
def nA:Expr->Bool
 | .Set _ _ _=>Nk
 |_=>Nj
def dE:Expr:=.Name "" ⟨0,0,0,0⟩
def dG:NH:=⟨dE,dE,[],0⟩
set_option genInjectivity false in
structure Nd where
 e0:Expr:=dE
 e1:Expr:=dE
 e2:Expr:=dE
 es:Lx:=[]
 lo:Option Expr:=none
 hi:Option Expr:=none
 gs:List NH:=[]
 sc:Scope:=default
 k:Nat:=0
 pos:Pos:=⟨0,0,0,0⟩
noncomputable def vw:Expr->Nd
 | .BoolOp _ vs p=>{es:=vs,pos:=p}
 | .BinOp l _ r p=>{e0:=l,e1:=r,pos:=p}
 | .UnaryOp _ x p=>{e0:=x,pos:=p}
 | .IfExp t x y p=>{e0:=t,e1:=x,e2:=y,pos:=p}
 | .ListComp E g sc p=>{e0:=E,gs:=g,sc:=sc,pos:=p}
 | .SetComp E g sc p=>{e0:=E,gs:=g,sc:=sc,pos:=p}
 | .Compare l _ R p=>{e0:=l,es:=R,pos:=p}
 | .Call f xs ks p=>{e0:=f,es:=xs,e1:=(ks.headD ⟨none,dE,⟨0,0,0,0⟩⟩).value,e2:=.Name "" (ks.headD ⟨none,dE,⟨0,0,0,0⟩⟩).pos,pos:=p}
 | .Constant _ k p=>{k:=k,pos:=p}
 | .Attribute v _ p=>{e0:=v,pos:=p}
 | .Subscript v s p=>{e0:=v,e1:=s,pos:=p}
 | .Name _ p=>{pos:=p}
 | .List es p=>{es:=es,pos:=p}
 | .Tuple es k p=>{es:=es,k:=k,pos:=p}
 | .Slice l u s p=>{lo:=l,hi:=u,e2:=s.getD dE,pos:=p}
 | .Dict _ _ p=>{pos:=p}
 | .JoinedStr vs p=>{es:=vs,pos:=p}
 | .FormattedValue v _ _ p=>{e0:=v,pos:=p}
 |_=>{}
def x3(e:Expr):Expr:=(vw e).es.tail.tail.tail.headD dE
noncomputable def Ai:D->Const
 | .bl b=>.bool b
 | .int i=>.int i
 | .str x=>.str x
 |_=>.none
def nB:CT->Bool
 | .tup _=>Nj
 |_=>Nk
def ku:CE->Bool
 | .band _ _=>Nj
 |_=>Nk
def gg:CE->Bool
 | .bor _ _=>Nj
 |_=>Nk
def kx:CE->Bool
 | .comp .. =>Nj
 |_=>Nk
mutual
noncomputable def iZ:CT->Ls->Expr->Expr
 | .var i,N,e=>.Name (N.getD i "") (vw e).pos
 | .tup ts,N,e=>.Tuple (fL ts N (vw e).es) (vw e).k (vw e).pos
noncomputable def fL:List CT->Ls->Lx->Lx
 | [],_,_=>[]
 |t::ts,N,es=>iZ t N (es.headD dE)::fL ts N es.tail
end
mutual
noncomputable def rn(c:Str->Bool)(N:Ls)(s:Sc):CT->Bool
 | .var i=>N[i]?==some (N.getD i "")&&(s.lookup (N.getD i "")==some .local||(c (N.getD i "")&&s.lookup (N.getD i "")==some .cell))
 | .tup ts=>ui c N s ts
noncomputable def ui(c:Str->Bool)(N:Ls)(s:Sc):List CT->Bool
 | []=>Nj
 |t::ts=>rn c N s t&&ui c N s ts
end
mutual
noncomputable def aX:CE->Ls->Expr->Expr
 | .var i,N,e=>.Name (N.getD i "") (vw e).pos
 | .dct,_,e=>.Dict [] [] (vw e).pos
 | .rev a b,N,e=>.Subscript (aX a N (vw e).e0) (.Slice none none (some (aX b N (vw (vw e).e1).e2)) (vw (vw e).e1).pos) (vw e).pos
 | .lit d,_,e=>.Constant (Ai d) (vw e).k (vw e).pos
 | .glob y,_,e=>.Name y (vw e).pos
 | .ty n,_,e=>.Name (Oi n) (vw e).pos
 | .bin op a b,N,e=>.BinOp (aX a N (vw e).e0) op (aX b N (vw e).e1) (vw e).pos
 | .catB a b,N,e=>.BinOp (aX a N (vw e).e0) .Add (aX b N (vw e).e1) (vw e).pos
 | .neg a,N,e=>.UnaryOp .USub (aX a N (vw e).e0) (vw e).pos
 | .cmp op a b,N,e=>.Compare (aX a N (vw e).e0) [op] [aX b N ((vw e).es.headD dE)] (vw e).pos
 | .chain3 op op' op'' a b c d,N,e=>.Compare (aX a N (vw e).e0) [op,op',op''] [aX b N ((vw e).es.headD dE),aX c N ((vw e).es.tail.headD dE),aX d N ((vw e).es.tail.tail.headD dE)] (vw e).pos
 | .chain op op' a b c,N,e=>.Compare (aX a N (vw e).e0) [op,op'] [aX b N ((vw e).es.headD dE),aX c N ((vw e).es.tail.headD dE)] (vw e).pos
 | .band a b,N,e=>.BoolOp .And (aX a N ((vw e).es.headD dE)::cond ((vw e).es.length==2) [aX b N ((vw e).es.tail.headD dE)] (vw (aX b N (.BoolOp .And (vw e).es.tail (vw e).pos))).es) (vw e).pos
 | .bor a b,N,e=>.BoolOp .Or (aX a N ((vw e).es.headD dE)::cond ((vw e).es.length==2) [aX b N ((vw e).es.tail.headD dE)] (vw (aX b N (.BoolOp .Or (vw e).es.tail (vw e).pos))).es) (vw e).pos
 | .bnot a,N,e=>.UnaryOp .Not (aX a N (vw e).e0) (vw e).pos
 | .ite c a b,N,e=>.IfExp (aX c N (vw e).e0) (aX a N (vw e).e1) (aX b N (vw e).e2) (vw e).pos
 | .tup es,N,e=>.Tuple (cB es N (vw e).es) (vw e).k (vw e).pos
 | .lst _ es,N,e=>.List (cB es N (vw e).es) (vw e).pos
 | .lstR a b l c d x y es,N,e=>.List (aX a N ((vw e).es.headD dE):: .BinOp (aX b N (vw ((vw e).es.tail.headD dE)).e0) .Add (.Constant (.str l) (vw (vw ((vw e).es.tail.headD dE)).e1).k (vw (vw ((vw e).es.tail.headD dE)).e1).pos) (vw ((vw e).es.tail.headD dE)).pos::aX c N ((vw e).es.tail.tail.headD dE):: .Call (.Attribute (aX d N (vw (vw (x3 e)).e0).e0) "replace" (vw (vw (x3 e)).e0).pos) [.Constant (.str x) (vw ((vw (x3 e)).es.headD dE)).k (vw ((vw (x3 e)).es.headD dE)).pos,.Constant (.str y) (vw ((vw (x3 e)).es.tail.headD dE)).k (vw ((vw (x3 e)).es.tail.headD dE)).pos] [] (vw (x3 e)).pos::cB es N (vw e).es.tail.tail.tail.tail) (vw e).pos
 | .idx a b,N,e=>.Subscript (aX a N (vw e).e0) (aX b N (vw e).e1) (vw e).pos
 | .sl a lo hi,N,e=>.Subscript (aX a N (vw e).e0) (.Slice (cB lo N (vw (vw e).e1).lo.toList).head? (cB hi N (vw (vw e).e1).hi.toList).head? none (vw (vw e).e1).pos) (vw e).pos
 | .call f es,N,e=>.Call (.Name f (vw (vw e).e0).pos) (cB es N (vw e).es) [] (vw e).pos
 | .blt b es,N,e=>.Call (.Name (hU b) (vw (vw e).e0).pos) (cB es N (vw e).es) [] (vw e).pos
 | .tix o es,N,e=>.Call (.Attribute (aX o N (vw (vw e).e0).e0) "index" (vw (vw e).e0).pos) (cB es N (vw e).es) [] (vw e).pos
 | .meth m o es,N,e=>.Call (.Attribute (aX o N (vw (vw e).e0).e0) (nz m) (vw (vw e).e0).pos) (cB es N (vw e).es) [] (vw e).pos
 | .sset a,N,e=>.Call (.Name "sorted" (vw (vw e).e0).pos) [.Call (.Name "set" (vw (vw ((vw e).es.headD dE)).e0).pos) [aX a N ((vw ((vw e).es.headD dE)).es.headD dE)] [] (vw ((vw e).es.headD dE)).pos] [] (vw e).pos
 | .comp _ N' _ tg it ifs body,N,e=>.ListComp (nC body N' (vw e).e0) (⟨iZ tg N' ((vw e).gs.headD dG).target,uk it N ((vw e).gs.headD dG).iter,cB ifs N' ((vw e).gs.headD dG).ifs,0⟩::uj body N' (vw e).gs.tail) (vw e).sc (vw e).pos
 | .emit _,_,e=>e
 | .inner _ _ _ _,_,e=>e
 | .seq _,_,e=>e
 | .range _,_,e=>e
 | .zip _,_,e=>e
noncomputable def nC:CE->Ls->Expr->Expr
 | .emit a,N,e=>aX a N e
 | .inner _ _ _ body,N,e=>nC body N e
 |_,_,e=>e
noncomputable def uj:CE->Ls->List NH->List NH
 | .inner tg it ifs body,N,g=>⟨iZ tg N (g.headD dG).target,uk it N (g.headD dG).iter,cB ifs N (g.headD dG).ifs,0⟩::uj body N g.tail
 |_,_,_=>[]
noncomputable def cB:List CE->Ls->Lx->Lx
 | [],_,_=>[]
 |c::cs,N,es=>aX c N (es.headD dE)::cB cs N es.tail
noncomputable def uk:CE->Ls->Expr->Expr
 | .seq c,N,e=>aX c N e
 | .range es,N,e=>.Call (.Name "range" (vw (vw e).e0).pos) (cB es N (vw e).es) [] (vw e).pos
 | .zip es,N,e=>.Call (.Name "zip" (vw (vw e).e0).pos) (cB es N (vw e).es) [] (vw e).pos
 |_,_,e=>e
end
mutual
noncomputable def bI:CE->Ls->Sc->Expr->Bool
 | .var i,N,sc,_=>N[i]?==some (N.getD i "")&&(nw sc (N.getD i "")&&dw (N.getD i ""))
 | .dct,_,_,_=>Nj
 | .rev a b,N,sc,e=>bI a N sc (vw e).e0&&bI b N sc (vw (vw e).e1).e2
 | .lit d,_,_,_=>iu d (Ai d)
 | .glob y,_,sc,_=>bp sc y
 | .ty n,_,sc,_=>bp sc (Oi n)&&iW.contains n
 | .bin _ a b,N,sc,e=>bI a N sc (vw e).e0&&bI b N sc (vw e).e1
 | .catB a b,N,sc,e=>bI a N sc (vw e).e0&&bI b N sc (vw e).e1
 | .neg a,N,sc,e=>bI a N sc (vw e).e0
 | .cmp op a b,N,sc,e=>bI a N sc (vw e).e0&&(bI b N sc ((vw e).es.headD dE)&& !behindInMarks op (aX b N ((vw e).es.headD dE)))
 | .chain3 _ _ op'' a b c d,N,sc,e=>bI a N sc (vw e).e0&&(bI b N sc ((vw e).es.headD dE)&&(bI c N sc ((vw e).es.tail.headD dE)&&(bI d N sc ((vw e).es.tail.tail.headD dE)&& !behindInMarks op'' (aX d N ((vw e).es.tail.tail.headD dE)))))
 | .chain _ op' a b c,N,sc,e=>bI a N sc (vw e).e0&&(bI b N sc ((vw e).es.headD dE)&&(bI c N sc ((vw e).es.tail.headD dE)&& !behindInMarks op' (aX c N ((vw e).es.tail.headD dE))))
 | .band a b,N,sc,e=>bI a N sc ((vw e).es.headD dE)&&cond ((vw e).es.length==2) (bI b N sc ((vw e).es.tail.headD dE)) (ku b&&bI b N sc (.BoolOp .And (vw e).es.tail (vw e).pos))
 | .bor a b,N,sc,e=>bI a N sc ((vw e).es.headD dE)&&cond ((vw e).es.length==2) (bI b N sc ((vw e).es.tail.headD dE)) (gg b&&bI b N sc (.BoolOp .Or (vw e).es.tail (vw e).pos))
 | .bnot a,N,sc,e=>bI a N sc (vw e).e0
 | .ite c a b,N,sc,e=>bI c N sc (vw e).e0&&(bI a N sc (vw e).e1&&bI b N sc (vw e).e2)
 | .tup es,N,sc,e=>eZ es N sc (vw e).es&&decide (es.length<1000)
 | .lst _ es,N,sc,e=>eZ es N sc (vw e).es&&decide (es.length<1000)
 | .lstR a b _ c d _ _ es,N,sc,e=>bI a N sc ((vw e).es.headD dE)&&(bI b N sc (vw ((vw e).es.tail.headD dE)).e0&&(bI c N sc ((vw e).es.tail.tail.headD dE)&&(bI d N sc (vw (vw (x3 e)).e0).e0&&(eZ es N sc (vw e).es.tail.tail.tail.tail&&(bA (aX a N ((vw e).es.headD dE))&&(bA (aX c N ((vw e).es.tail.tail.headD dE))&&(gf (aX d N (vw (vw (x3 e)).e0).e0)&&(vw (vw (x3 e)).e0).pos.endLine==(vw (x3 e)).pos.line)))))))
 | .idx a b,N,sc,e=>bI a N sc (vw e).e0&&(bI b N sc (vw e).e1&&iY (aX b N (vw e).e1))
 | .sl a lo hi,N,sc,e=>bI a N sc (vw e).e0&&(eZ lo N sc (vw (vw e).e1).lo.toList&&(eZ hi N sc (vw (vw e).e1).hi.toList&&(decide (lo.length<2)&&decide (hi.length<2))))
 | .call f es,N,sc,e=>bp sc f&&(eZ es N sc (vw e).es&& !es.isEmpty)
 | .blt b es,N,sc,e=>bp sc (hU b)&&(eZ es N sc (vw e).es&&(!es.isEmpty&&ud b))
 | .tix o es,N,sc,e=>gf (aX o N (vw (vw e).e0).e0)&&((vw (vw e).e0).pos.endLine==(vw e).pos.line&&(bI o N sc (vw (vw e).e0).e0&&(eZ es N sc (vw e).es&&decide (es.length=1))))
 | .meth m o es,N,sc,e=>gf (aX o N (vw (vw e).e0).e0)&&((vw (vw e).e0).pos.endLine==(vw e).pos.line&&(bI o N sc (vw (vw e).e0).e0&&(eZ es N sc (vw e).es&&decide (es.length<20))))
 | .sset a,N,sc,e=>bp sc "sorted"&&(bp sc "set"&&(bI a N sc ((vw ((vw e).es.headD dE)).es.headD dE)&&bA (aX a N ((vw ((vw e).es.headD dE)).es.headD dE))))
 | .comp _ N' fr tg it ifs body,N,sc,e=>HM (vw e).sc sc&&(frB (vw e).sc.names N' N fr&&(iX N'&&(rn (uh (vw e).sc.names) N' (kt (vw e).sc.names sc) tg&&(Aj it N sc tg ((vw e).gs.headD dG).iter&&(nA (uk it N ((vw e).gs.headD dG).iter)&&(eZ ifs N' (kt (vw e).sc.names sc) ((vw e).gs.headD dG).ifs&&Fw body Nk (uh (vw e).sc.names) N' (kt (vw e).sc.names sc) (vw e).gs.tail (vw e).e0))))))
 | .emit _,_,_,_=>Nk
 | .inner _ _ _ _,_,_,_=>Nk
 | .seq _,_,_,_=>Nk
 | .range _,_,_,_=>Nk
 | .zip _,_,_,_=>Nk
noncomputable def Fw:CE->Bool->(Str->Bool)->Ls->Sc->List NH->Expr->Bool
 | .emit a,k,_,N,sc,_,e=> !k&&bI a N sc e
 | .inner tg it ifs body,k,cell,N,sc,g,e=>rn cell N sc tg&&(Aj it N sc tg (g.headD dG).iter&&(nA (uk it N (g.headD dG).iter)&&(eZ ifs N sc (g.headD dG).ifs&&Fw body k cell N sc g.tail e)))
 |_,_,_,_,_,_,_=>Nk
noncomputable def eZ:List CE->Ls->Sc->Lx->Bool
 | [],_,_,_=>Nj
 |c::cs,N,sc,es=>bI c N sc (es.headD dE)&&(bA (aX c N (es.headD dE))&&eZ cs N sc es.tail)
noncomputable def Aj:CE->Ls->Sc->CT->Expr->Bool
 | .seq c,N,sc,_,e=>bI c N sc e
 | .range es,N,sc,_,e=>bp sc "range"&&(eZ es N sc (vw e).es&&(es.length==1||es.length==2))
 | .zip es,N,sc,t,e=>bp sc "zip"&&(eZ es N sc (vw e).es&&(es.length==2&&nB t))
 |_,_,_,_,_=>Nk
end
theorem aa{a b:Bool}(h:(a&&b)=Nj):a=Nj/\b=Nj:=Pp.mp h
theorem hV{p:Prop} [Decidable p] (h:decide p=Nj):p:=ZU h
theorem gh{a:Bool}(h:(!a)=Nj):a=Nk:=by lia
end Py
variable {sc:Py.Sc}
namespace Py
noncomputable def ul(K:Fg)(mg:Mg)(n:Nat)(a:List D->ae->Res D):Sp:=λvs H Q E=>vs.length=n/\∃F μ S ds,aJ K ⟨mg,F⟩ μ S H/\ai K ⟨mg,F⟩ μ H ds vs/\ak K ⟨mg,F⟩ E (Rep K ⟨mg,F⟩) μ H Q (a ds S)
structure bJ (P:Nt)(w:NF)(K:Fg)(mg:Mg)(base:Nw)(CX:dj)(k:Nat)(f:Str)(φ:List D->ae->Res D):Prop where
 ex:∃fa fd ps,mg f=some (.ref fa)/\PySem.W.keepIn K (.ref fa)=Nj/\Binds K fd ps []/\cH P w K mg base CX k fa fd ps (ul K mg ps.length φ)/\∀ds S,φ ds S≠.fail->ds.length=ps.length
noncomputable def gk:Ls:=["len","tuple","list","int","min","max","isinstance","all","any","sorted","bool","str","dict","range","zip","set","sum","reversed","repr","abs","enumerate"]
structure Fx (P:Nt)(w:NF)(K:Fg)(mg:Mg)(base:Nw)(CX:dj)(Φ:FT)(Γ:Str->Option D)(k:Nat):Prop where
 fns:∀f φ,Φ f=some φ->bJ P w K mg base CX k f φ
 gl:∀x d,Γ x=some d->∃v u,mg x=some u/\RelV v u/\∀F μ H,Rep K ⟨mg,F⟩ μ H d v
 bl:∀x∈gk,mg x=none
structure cF (X:Cx)(cell:Str->Bool)(N:Ls)(sc:Sc)(CX:dj)(E:XK)(Φ:FT)(Γ:Str->Option D)(k:Nat):Prop where
 n:X.N=N
 nd:N.Nodup
 sc:X.env.scope.names=sc
 kd:X.env.scope.kind=.function
 calm:X.calm=Nj
 room:b4 k X.A
 fn:∀x,cell x=Nj->X.fn x=Nj
 mod:Fx X.prog X.w X.K X.mg X.base CX Φ Γ k
 pass:j5 CX X E
 cx0:∀outer H s e s',CX outer H s E0 e s'->False
section
variable {E:XK}{k:Nat}{l r:Expr}{pos:Pos}{a b c:CE}
theorem ro{o:Q8}(h:PE X l (tE X.K X.mg E Φ Γ a))(c:PE X r (tE X.K X.mg E Φ Γ b)):PE X (.BinOp l o r pos) (tE X.K X.mg E Φ Γ (.bin o a b)):=
 aL (iq (G9 _) h c) λy H Q z=>aE z λF t u S g e w=>
  ⟨F,_,_,S,g,e,(ak.bind w).mono λv H1 z=>ax z λk p d1 x s R W=>⟨F,_,_,_,s,e.mono x,(ak.bind W).mono λV n z=>ax z λm q d2 j f d i=>⟨F,_,_,_,_,f,Rep.mono j _ _ R,d,cA i⟩⟩⟩
theorem um(h:PE X l (tE X.K X.mg E Φ Γ a))(c:PE X r (tE X.K X.mg E Φ Γ b)):PE X (.BinOp l .Add r pos) (tE X.K X.mg E Φ Γ (.catB a b)):=
 aL (iq zt h c) λu H Q z=>aE z λF q t S g e w=>
  ⟨F,_,_,S,g,e,(ak.bind w).mono λv H1 z=>ax z λk o d1 x s R W=>⟨F,_,_,_,s,e.mono x,(ak.bind W).mono λV n z=>ax z λm p d2 j f d i=>⟨F,_,_,_,_,f,Rep.mono j _ _ R,d,cA i⟩⟩⟩
theorem Ak{o:PR}(f:X.A.units+64<cLine)(h:PE X l (tE X.K X.mg E Φ Γ a))(c:PE X r (tE X.K X.mg E Φ Γ b))(d:behindInMarks o r=Nk):PE X (.Compare l [o] [r] pos) (tE X.K X.mg E Φ Γ (.cmp o a b)):=
 aL (mr (dn _ f) h c d) λB H Q z=>aE z λF y A S j e w=>
  ⟨F,_,_,S,j,e,(ak.bind w).mono λv H1 z=>ax z λn t d1 x s R W=>⟨F,_,_,_,s,e.mono x,(ak.bind W).mono λV q z=>ax z λp u d2 m i g k=>⟨F,_,_,_,_,i,Rep.mono m _ _ R,g,cA k⟩⟩⟩
theorem fM{mg:GS}{E:XK}{Rel:La->Hp->α->β->Prop}{Q:β->Hp->Prop}{f:Bool->Res α}
  (w:ak K mg E Rel μ H Q (aA d f)) (r:Rep K mg μ H d v):∃k,v=.bl k/\d=.bl k/\ak K mg E Rel μ H Q (f k):=by
 cases d with
 |bl k=>exact⟨k,f8 r,rfl,w⟩
 |_=>exact w.elim
theorem Al{o:PR}(f:X.A.units+64<cLine)(h:PE X l (tE X.K X.mg E Φ Γ a))(c:PE X r (tE X.K X.mg E Φ Γ b))(d:behindInMarks o r=Nk):PT X (.Compare l [o] [r] pos) (tT X.K X.mg E Φ Γ (.cmp o a b)):=
 dv (ms (dn _ f) h c d) λO H Q z=>aE z λF M N S n e w=>
  ⟨F,_,_,S,n,e,(ak.bind w).mono λV H1 z=>ax z λv D d1 x s R W=>⟨F,_,_,_,s,e.mono x,(ak.bind W).mono λK B z=>ax z λy G d2 u j g p=>
   ⟨F,_,_,_,_,j,Rep.mono u _ _ R,g,cA ((ak.bind p).mono λL C z=>ax z λA I J x3 m i q=>by obtain⟨k,rfl,rfl,t⟩:=fM q i;exact⟨k,rfl,t _ _ k .refl m rfl⟩)⟩⟩⟩
theorem nD{o:PR}(h:X.A.units+64<cLine)(f:PE X l (tE X.K X.mg E Φ Γ a))(g:PE X r (tE X.K X.mg E Φ Γ b))(i:PE X r' (tE X.K X.mg E Φ Γ c))(j:behindInMarks op' r'=Nk):PE X (.Compare l [o,op'] [r,r'] pos) (tE X.K X.mg E Φ Γ (.chain o op' a b c)):=
 aL (Gj (dn _ h) (dn _ h) f g i j) λσ H Q z=>aE z λF μ ρ S v e w=>
  ⟨F,_,_,S,v,e,(ak.bind w).mono λZ H1 z=>ax z λG O d1 x q m y=>⟨F,_,_,_,q,e.mono x,(ak.bind y).mono λv2 L z=>ax z λI P d2 d t R A=>
   ⟨F,_,_,_,_,t,Rep.mono d _ _ m,R,cA ((ak.bind A).mono λv3 M z=>ax z λJ T V x3 s n B=>by
    obtain⟨k,rfl,rfl,W⟩:=fM B n;refine⟨k,rfl,?_⟩;cases k with
    |true=>exact⟨F,_,_,_,s,(e.mono x).mono (d.trans x3),(ak.bind W).mono λv4 N z=>ax z λK U Y D u p C=>⟨F,_,_,_,_,u,Rep.mono (x3.trans D) _ _ R,p,cA C⟩⟩
    |false=>exact W _ _ _ .refl s cI)⟩⟩⟩
theorem nE{o:PR}(h:X.A.units+64<cLine)(f:PE X l (tE X.K X.mg E Φ Γ a))(g:PE X r (tE X.K X.mg E Φ Γ b))(i:PE X r' (tE X.K X.mg E Φ Γ c))(j:behindInMarks op' r'=Nk):PT X (.Compare l [o,op'] [r,r'] pos) (tT X.K X.mg E Φ Γ (.chain o op' a b c)):=
 dv (Gk (dn _ h) (dn _ h) f g i j) λσ H Q z=>aE z λF μ ρ S A e w=>
  ⟨F,_,_,S,A,e,(ak.bind w).mono λv1 H1 z=>ax z λL Z d1 x t m B=>⟨F,_,_,_,t,e.mono x,(ak.bind B).mono λv2 T z=>ax z λM S2 d2 d u R C=>
   ⟨F,_,_,_,_,u,Rep.mono d _ _ m,R,cA ((ak.bind C).mono λv3 U z=>ax z λN S3 d3 x3 s n D=>by
    obtain⟨k,rfl,rfl,W⟩:=fM D n;refine⟨k,rfl,?_⟩;cases k with
    |true=>exact⟨F,_,_,_,s,(e.mono x).mono (d.trans x3),(ak.bind W).mono λv4 V z=>ax z λO S4 d4 K v p G=>⟨F,_,_,_,_,v,Rep.mono (x3.trans K) _ _ R,p,cA ((ak.bind G).mono λv5 Y z=>ax z λP S5 d5 x5 y q I=>by obtain⟨k,rfl,rfl,J⟩:=fM I q;exact⟨k,rfl,J _ _ k .refl y rfl⟩)⟩⟩
    |false=>exact⟨_,rfl,W _ _ _ .refl s rfl⟩)⟩⟩⟩
theorem rx(h:PE X l (tE X.K X.mg E Φ Γ a))(c:PE X (.BoolOp .And (r::rest) pos) (tE X.K X.mg E Φ Γ b)):PE X (.BoolOp .And (l::r::rest) pos) (tE X.K X.mg E Φ Γ (.band a b)):=
 aL (su h c) λn H Q z=>aE z λF j m S d e w=>
  ⟨F,_,_,S,d,e,(ak.bind w).mono λv H1 z=>ax z λg i d1 x s R f=>by
   obtain⟨k,rfl,rfl,W⟩:=fM f R;refine⟨k,rfl,?_⟩;cases k with
   |true=>exact⟨F,_,_,_,s,e.mono x,W⟩
   |false=>exact W _ _ _ .refl s cI⟩
theorem Am(h:PE X l (tE X.K X.mg E Φ Γ a))(c:PE X (.BoolOp .Or (r::rest) pos) (tE X.K X.mg E Φ Γ b)):PE X (.BoolOp .Or (l::r::rest) pos) (tE X.K X.mg E Φ Γ (.bor a b)):=
 aL (yw h c) λn H Q z=>aE z λF j m S d e w=>
  ⟨F,_,_,S,d,e,(ak.bind w).mono λv H1 z=>ax z λg i d1 x s R f=>by
   obtain⟨k,rfl,rfl,W⟩:=fM f R;refine⟨k,rfl,?_⟩;cases k with
   |true=>exact W _ _ _ .refl s cI
   |false=>exact⟨F,_,_,_,s,e.mono x,W⟩⟩
theorem nF(c:PE X l ta):PE X (.UnaryOp .Not l pos) (λσ H Q=>ta σ H λx H'=>∃k,iL X.K x H' k/\Q (.bl (!k)) H'):=by intro p s σ H Q I h;exact UnaryOp_ (aN (c _ s _ H _ I h) λv S z=>z.elim λx z=>z.elim λ_ z=>z.elim λa z=>z.elim λr z=>z.elim λk z=>z.elim λt q=>not_of (aN (j4 _ _ _ _ x v (λk H'=>Q (.bl !k) H') a r ⟨k,t,q⟩) λK e z=>by obtain⟨_,b,d⟩:=z;exact(⟨.bl _,_,b,rfl,d⟩)))
theorem An{mg:GS}{E:XK}{Rel:La->Hp->α->β->Prop}{Q:β->Hp->Prop}{f:Bool->Res α}
  (w:ak K mg E Rel μ H Q (match bb S d with|some k=>f k|none=>.fail)):∃k,bb S d=some k/\ak K mg E Rel μ H Q (f k):=by
 cases e:bb S d with
 |none=>rw[e]at w;exact w.elim
 |some k=>simp_all
theorem Ao(h:PE X l (tE X.K X.mg E Φ Γ a)):PE X (.UnaryOp .Not l pos) (tE X.K X.mg E Φ Γ (.bnot a)):=
 aL (nF h) λm H Q z=>aE z λF i j S c b w=>⟨F,_,_,S,c,b,(ak.bind w).mono λv H1 z=>ax z λf g d1 x s r W=>by obtain⟨k,e,d⟩:=An W;exact⟨k,rk s r e,d _ _ _ .refl s cI⟩⟩
theorem Ap(h:PE X l (tE X.K X.mg E Φ Γ a)):PE X (.UnaryOp .USub l pos) (tE X.K X.mg E Φ Γ (.neg a)):=
 aL (yH sV h) λj H Q z=>aE z λF f g S b e w=>⟨F,_,_,S,b,e,(ak.bind w).mono λv H1 z=>ax z λc d d1 x s r W=>by
  cases d1 with
  |int i=>exact⟨i,aF r,W _ _ _ .refl s bo⟩
  |_=>exact W.elim⟩
theorem ry(h:PT X l (tT X.K X.mg E Φ Γ a))(f:PW X (.BoolOp .And (r::rest) pos) (tT X.K X.mg E Φ Γ b)):PW X (.BoolOp .And (l::r::rest) pos) (tT X.K X.mg E Φ Γ (.band a b)):=λm p s q H Q I z=>aE z λF n o S g e w=>
 ss h f _ _ s _ H Q I ⟨F,_,_,S,g,e,(ak.bind w).mono λk H1 z=>ax z λi j K x c d W=>by
  subst d;cases K with
  |true=>exact⟨F,_,_,_,c,e.mono x,W⟩
  |false=>exact W _ _ _ .refl c rfl⟩
theorem Aq(h:PT X l (tT X.K X.mg E Φ Γ a))(f:PW X (.BoolOp .Or (r::rest) pos) (tT X.K X.mg E Φ Γ b)):PW X (.BoolOp .Or (l::r::rest) pos) (tT X.K X.mg E Φ Γ (.bor a b)):=λm p s q H Q I z=>aE z λF n o S g e w=>
 qV h f _ _ s _ H Q I ⟨F,_,_,S,g,e,(ak.bind w).mono λk H1 z=>ax z λi j K x c d W=>by
  subst d;cases K with
  |true=>exact W _ _ _ .refl c rfl
  |false=>exact⟨F,_,_,_,c,e.mono x,W⟩⟩
theorem Ar(h:PT X l (tT X.K X.mg E Φ Γ a)):PT X (.UnaryOp .Not l pos) (tT X.K X.mg E Φ Γ (.bnot a)):=
 dv (jV h) λj H Q z=>aE z λF g i S c b w=>⟨F,_,_,S,c,b,(ak.bind w).mono λk H1 z=>ax z λd f K x s e W=>by subst e;exact W _ _ _ .refl s rfl⟩
theorem As{t x y:Expr}(i:PT X t (tT X.K X.mg E Φ Γ c))(h:PE X x (tE X.K X.mg E Φ Γ a))(g:PE X y (tE X.K X.mg E Φ Γ b)):PE X (.IfExp t x y pos) (tE X.K X.mg E Φ Γ (.ite c a b)):=
 aL (FV i h g) λp H Q z=>aE z λF n o S j e w=>⟨F,_,_,S,j,e,(ak.bind w).mono λk H1 z=>ax z λl m K d s f W=>by
  subst f;cases K with
  |true=>exact⟨F,_,_,_,s,e.mono d,W⟩
  |false=>exact⟨F,_,_,_,s,e.mono d,W⟩⟩
theorem Au:PA X [] (tL X.K X.mg E Φ Γ []):=eK eW λc H Q z=>aE z λF a b S s e w=>w _ H _ .refl s .nil
theorem cq{es:Lx}(h:bA e=Nj):starEach (e::es) env=(Nk,eval e env)::starEach es env:=by cases e<;>first|rfl|cases h
theorem uo{es:Lx}{cs:List CE}(c:bA e=Nj)(h:PE X e (tE X.K X.mg E Φ Γ a))(d:PA X es (tL X.K X.mg E Φ Γ cs)):PA X (e::es) (tL X.K X.mg E Φ Γ (a::cs)):=
 eK (cQ h d (cq c)) λt H Q z=>aE z λF p q S g b w=>⟨F,_,_,S,g,b,(ak.bind w).mono λv H1 z=>ax z λk n d1 x s r W=>
  ⟨F,_,_,_,s,b.mono x,(ak.bind W).mono λvs m z=>ax z λl o D j f R i=>i _ _ _ .refl f (.cons (Rep.mono j _ _ r) R)⟩⟩
end
theorem nG:∀{cs:List CE} {N:Ls} {es:Lx},(cB cs N es).length=cs.length
 | [],N,es=>rfl
 |c::cs,N,es=>Z2 _ nG
theorem fN:∀{cs:List CE} {N:Ls} {sc:Sc} {es:Lx},eZ cs N sc es=Nj->∀e∈cB cs N es,bA e=Nj
 | [],N,sc,es,h,e,H=>absurd H Zw
 |c::cs,N,sc,es,h,e,H=>by
  rcases Zj.mp H with rfl|H
  ·exact(aa (aa h).2).1
  ·exact fN (aa (aa h).2).2 e H
theorem hW:∀{es:Lx} {env:Env} {pos:Pos},(∀e∈es,bA e=Nj)->(backTo pos (starEach es env)).any (·.1)=Nk
 | [],env,pos,h=>rfl
 |e::es,env,pos,h=>by rw[cq (h e Ze)];show(Nk||(backTo _ _).any _)=Nk;rw[hW λe H=>h e (Zc _ H)];rfl
theorem nI:∀{es:Lx} {env:Env} {pos:Pos},(∀e∈es,bA e=Nj)->(backTo pos (starEach es env)).all (λx=> !x.1)=Nj
 | [],env,pos,h=>rfl
 |e::es,env,pos,h=>by rw[cq (h e Ze)];show(!Nk&&(backTo _ _).all _)=Nj;rw[nI λe H=>h e (Zc _ H)];rfl
theorem uq:∀{cs:List CE} {ρ:br} {S S':ae} {ds:List D},ah Φ Γ cs ρ S=.ok ds S'->ds.length=cs.length
 | [],ρ,S,S',ds,h=>by cases h;rfl
 |c::cs,ρ,S,S',ds,h=>by
  dsimp[ah]at h;cases e:aj _ _ c _ S with
  |ok d a=>
   rw[e]at h;cases E:ah Φ Γ cs ρ a with
   |ok f b=>simp only[Res.bind,E]at h;cases h;simp[uq E]
   |err x b=>simp only[Res.bind,E]at h;cases h
   |fail=>simp only[Res.bind,E]at h;cases h
  |err x a=>rw[e]at h;cases h
  |fail=>rw[e]at h;cases h
theorem HP{x:Str}{s:Scope}(hs:s.names=sc)(h:nw sc x=Nj):yp s x:=by unfold yp;unfold nw at h;lia
theorem fO{x:Str}(h:dw x=Nj):(x==("__debug__":Str))=Nk/\(x==("__classdict__":Str))=Nk:=by
 unfold dw at h
 grind
theorem cL{x:Str}(h:bp sc x=Nj):sc.lookup x=some .globalImplicit/\(x==("__debug__":Str))=Nk/\x≠"__name__":=by unfold bp at h;simp_all
section
variable {E:XK}{k:Nat}{l r:Expr}{es:Lx}{pos:Pos}{a b c:CE}{cs:List CE}{x:Str}
theorem cF.gl(O:cF X cell N sc CX E Φ Γ k)(h:sc.lookup x=some .globalImplicit):Gl X x:=by show X.env.scope.names.lookup x=_;rw[O.sc];exact h
theorem rA(O:cF X cell N sc CX E Φ Γ k){i:Nat}(h1:(N[i]?==some x)=Nj)(c:nw sc x=Nj)(h:dw x=Nj):PE X (.Name x pos) (tE X.K X.mg E Φ Γ (.var i)):=by
 refine aL (jS (by rw[O.n];simpa using h1) (HP O.sc c) (fO h).1 (fO h).2) λj H Q z=>aE z λF f g S s b w=>?_;dsimp[aj]at w;split at w
 ·rename_i d e;obtain⟨v,a,r⟩:=b.2 i d e;exact⟨v,a,w _ H v .refl s r⟩
 ·exact w.elim
theorem ky{cn:Const}{j}(h:iu d cn=Nj):PE X (.Constant cn j pos) (tE X.K X.mg E Φ Γ (.lit d)):=by
 unfold iu at h;split at h
 ·exact aL sm λf H Q z=>aE z λF b c S s a w=>w _ H _ .refl s j7
 ·have e:=beq_iff_eq.mp h;subst e;exact aL qU λf H Q z=>aE z λF b c S s a w=>w _ H _ .refl s cI
 ·have e:=beq_iff_eq.mp h;subst e;exact aL jT λf H Q z=>aE z λF b c S s a w=>w _ H _ .refl s bo
 ·have e:=beq_iff_eq.mp h;subst e;exact aL iJ λf H Q z=>aE z λF b c S s a w=>w _ H _ .refl s fF
 ·cases h
theorem ur(O:cF X cell N sc CX E Φ Γ k)(h:bp sc x=Nj):PE X (.Name x pos) (tE X.K X.mg E Φ Γ (.glob x)):=by
 obtain⟨a,b,i⟩:=cL h;cases e:Γ x with
 |none=>intro p s f H Q I ⟨F,_,_,S,_,_,w⟩;simp[aj]at w;rw[e]at w;exact w.elim
 |some d=>obtain⟨v,u,m,M,m3⟩:=O.mod.gl x d e;refine aL (yt (O.gl a) m M b) λf H Q z=>aE z λF j l S c g w=>?_;simp[aj]at w;rw[e]at w;exact w _ H v .refl c (m3 F _ H)
theorem nJ{n:String}(h:iW.contains n=Nj):(Oi n)∈gk:=by simp[iW]at h;rcases h with rfl|rfl|rfl|rfl|rfl|rfl<;>decide+kernel
theorem HQ(O:cF X cell N sc CX E Φ Γ k){n:String}(h:bp sc (Oi n)=Nj)(a:iW.contains n=Nj):PE X (.Name (Oi n) pos) (tE X.K X.mg E Φ Γ (.ty n)):=by obtain⟨b,c,d⟩:=cL h;exact aL (yu (v:=.ty n) (O.gl b) (O.mod.bl _ (nJ a)) (ny a) rfl d c) λi H Q z=>aE z λF f g S s e w=>w _ H _ .refl s rfl
theorem kz{mg:GS}{Q:List V->Hp->Prop}(h:cs.length<1000)(w:ak K mg E (ai K mg) μ H Q (ah Φ Γ cs ρ S)):ak K mg E (ai K mg) μ H (λvs H'=>vs.length<=sizeLine/\Q vs H') (ah Φ Γ cs ρ S):=by
 cases e:ah _ _ _ _ S with
 |ok d a=>rw[e]at w;intro b H' vs x s r;refine⟨?_,w _ _ _ x s r⟩;rw[<-r.length,uq e];exact O7 (Zy h (by decide))
 |err y a=>rw[e]at w;exact w
 |fail=>rw[e]at w;exact w
theorem Aw{x1}(a:cs.length<1000)(h:PA X es (tL X.K X.mg E Φ Γ cs)):PE X (.Tuple es x1 pos) (tE X.K X.mg E Φ Γ (.tup cs)):=
 aL (sY h) λi H Q Z=>aE Z λF f g S d e w=>⟨F,_,_,S,d,e,(kz a (ak.bind w)).mono λvs H1 z=>by obtain⟨c,_,_,_,_,s,r,W⟩:=z;exact(⟨c,λp b=>by exact aQ.tup (show aQ _ _ _ _ Q _ from W) s r p b⟩)⟩
theorem Ax{box:Bool}(b:cs.length<1000)(h:PA X es (tL X.K X.mg E Φ Γ cs)):PE X (.List es pos) (tE X.K X.mg E Φ Γ (.lst box cs)):=
 aL (f7 h) λi H Q Z=>aE Z λF f g S d e w=>⟨F,_,_,S,d,e,(kz b (ak.bind w)).mono λvs H1 z=>by obtain⟨c,_,_,_,_,s,r,W⟩:=z;exact(⟨c,λp a=>by
  cases box with
  |true=>exact aQ.box (show aQ _ _ _ _ Q _ from W) s r p a
  |false=>exact aQ.lst (show aQ _ _ _ _ Q _ from W) s r p a⟩)⟩
theorem Ay:PE X (.Dict [] [] pos) (tE X.K X.mg E Φ Γ .dct):=λp s l H Q I z=>aE z λF j k S c d w=>by
 have a:=Zy I.mod.glob.lt (ZA I.ok.bsz I.sz);have h:=I.hok.fresh (Zh _);refine wpAny_Dict_empty ⟨.ref _,_,I.laid (o:=.dK []) (λb O q=>Zb _ q) (Zh _) ?_,rfl,?_⟩
 ·refine⟨Z6 _,?_,_,.nil,_,_,_,Zg _ rfl,⟨rfl,rfl,rfl⟩,rfl,λe i=>by simp_all,.nil,.nil⟩;have g:mainGlobals=3:=rfl;have f:sysModules=1:=rfl;lia
 ·exact w _ _ _ (.laid h) (c.laid h) (by exact⟨_,rfl,a7⟩)
theorem Az(hs:iY r=Nj)(h:PE X l (tE X.K X.mg E Φ Γ a))(c:PE X r (tE X.K X.mg E Φ Γ b)):PE X (.Subscript l r pos) (tE X.K X.mg E Φ Γ (.idx a b)):=
 aL (q_ Hi h c (HN hs)) λu H Q z=>aE z λF q t S g e w=>
  ⟨F,_,_,S,g,e,(ak.bind w).mono λv H1 z=>ax z λk o d1 x s R W=>⟨F,_,_,_,s,e.mono x,(ak.bind W).mono λV n z=>ax z λm p d2 j f d i=>⟨F,_,_,_,_,f,Rep.mono j _ _ R,d,cA i⟩⟩⟩
theorem AA(h:PE X l (tE X.K X.mg E Φ Γ a))(c:PE X r (tE X.K X.mg E Φ Γ b)):PE X (.Subscript l (.Slice none none (some r) p2) pos) (tE X.K X.mg E Φ Γ (.rev a b)):=
 aL (uc h c) λu H Q z=>aE z λF q t S g e w=>
  ⟨F,_,_,S,g,e,(ak.bind w).mono λv H1 z=>ax z λk o d1 x s R W=>⟨F,_,_,_,s,e.mono x,(ak.bind W).mono λV n z=>ax z λm p d2 j f d i=>⟨F,_,_,_,_,f,Rep.mono j _ _ R,d,cA i⟩⟩⟩
def AB(K:Fg)(mg:Mg)(E:XK)(Φ:FT)(Γ:Str->Option D)(cs:List CE):TO:=λσ H Q=>∃F μ ρ S,aJ K ⟨mg,F⟩ μ S H/\aV K ⟨mg,F⟩ μ H ρ σ/\
 ak K ⟨mg,F⟩ E (λ_ _ o o'=>o=o') μ H Q ((ah Φ Γ cs ρ S).bind cS)
theorem nK:PO X none (AB X.K X.mg E Φ Γ []):=by intro p s b H Q I ⟨F,_,_,S,a,_,w⟩;exact mC _ s _ H Q I (w _ H _ .refl a rfl)
theorem nL(h:PE X e (tE X.K X.mg E Φ Γ a)):PO X (some e) (AB X.K X.mg E Φ Γ [a]):=by
 intro p s q H Q I ⟨F,l,c,S,j,f,w⟩;refine mD h _ s _ H Q I ⟨F,_,_,S,j,f,?_⟩
 have k:ak X.K ⟨X.mg,F⟩ E (λ_ _ o O=>o=O) l H Q ((aj Φ Γ a c S).bind λd b=>cS [d] b):=by
  have n:(ah Φ Γ [a] c S).bind cS=(aj Φ Γ a c S).bind λd b=>cS [d] b:=by dsimp only[ah];cases aj _ _ a _ S<;>rfl
  simp_all
 refine(ak.bind k).mono λv H1 z=>ax z λm b d x g r W=>?_;cases d with
 |int i=>exact⟨i,aF r,W _ _ _ .refl g rfl⟩
 |_=>exact W.elim
theorem HR{L h:Option Expr}{c ch:List CE}(g:PE X l (tE X.K X.mg E Φ Γ a))(j:PO X L (AB X.K X.mg E Φ Γ c))(i:PO X h (AB X.K X.mg E Φ Γ ch)):PE X (.Subscript l (.Slice L h none p2) pos) (tE X.K X.mg E Φ Γ (.sl a c ch)):=
 aL (GD Hk g j i) λM H Q z=>aE z λF J K S n e w=>⟨F,_,_,S,n,e,(ak.bind w).mono λV H1 z=>ax z λt B d1 x s r W=>⟨F,_,_,_,s,e.mono x,
  (ak.bind W).mono λo y z=>ax z λu C G b k d p=>⟨F,_,_,_,k,(e.mono x).mono b,(ak.bind p).mono λI A z=>ax z λv D O x3 m f q=>by subst d;subst f;exact⟨F,_,_,_,m,Rep.mono (b.trans x3) _ _ r,cA q⟩⟩⟩⟩
theorem kA(O:cF X cell N sc CX E Φ Γ k){f:Str}(h:bp sc f=Nj)(a:∀x∈e::es,bA x=Nj)(i:PA X (e::es) (tL X.K X.mg E Φ Γ cs)):PE X (.Call (.Name f p2) (e::es) [] pos) (tE X.K X.mg E Φ Γ (.call f cs)):=by
 obtain⟨d,g,A⟩:=cL h;cases b:Φ f with
 |none=>intro P s t H Q I ⟨F,_,_,S,_,_,w⟩;simp[aj]at w;rw[b]at w;exact w.elim
 |some K=>obtain⟨v,y,B,m,M,m3,l,n⟩:=(O.mod.fns f _ b).ex;refine aL (mw l O.room (O.gl d) m M m3 .nil O.pass i g (cq (a e Ze)) (hW λx j=>a x (Zc _ j))) λt H Q Z=>aE Z λF G J S p c w=>?_;simp[aj]at w;rw[b]at w;refine⟨F,_,_,S,p,c,(ak.bind w).mono λvs H1 Z=>ax Z λq u D C o r W=>?_⟩;rw[N4];refine⟨?_,F,_,_,_,o,r,W⟩;rw[<-r.length];exact n _ _ λz=>by rw[z]at W;exact W
theorem rB(O:cF X cell N sc CX E Φ Γ k){b:jK}(g:a8 X (kr b) (rC X.K X.mg (aU b)))(h:bp sc (hU b)=Nj)(j:∀x∈e::es,bA x=Nj)(f:PA X (e::es) (tL X.K X.mg E Φ Γ cs)):PE X (.Call (.Name (hU b) p2) (e::es) [] pos) (tE X.K X.mg E Φ Γ (.blt b cs)):=by
 obtain⟨a,c,d⟩:=cL h
 have i:X.mg (hU b)=none:=O.mod.bl _ (by
  cases b with
  |list box=>show(Oi _)∈gk;decide+kernel
  |sorted box t=>show(Oi _)∈gk;decide+kernel
  |_=>decide+kernel)
 have K:PE X (.Call (.Name (hU b) p2) (e::es) [] pos) (Gx (rC X.K X.mg (aU b)) (tL X.K X.mg E Φ Γ cs)):=by
  have s:=cq (env:=X.env) (es:=es) (j e Ze);have m:=hW (env:=X.env) (pos:=pos) λx q=>j x (Zc _ q);have l:=HL b;cases b with
  |tuple=>exact mx g (O.gl a) i l f d c s m
  |list box=>exact mx g (O.gl a) i l f d c s m
  |int=>exact mx g (O.gl a) i l f d c s m
  |str=>exact mx g (O.gl a) i l f d c s m
  |_=>exact s9 g (O.gl a) i l f d c s m
 refine aL K λC H Q z=>aE z λF v A S u p w=>⟨F,v,A,S,u,p,(ak.bind w).mono λvs H1 z=>ax z λy o D B s r W=>⟨F,_,o,D,s,r,cA W⟩⟩
theorem HS{mg:GS}(s:aJ K mg μ S H)(r:Rep K mg μ H (.ref n) v):zl K "list" v H:=by
 obtain⟨a,rfl,h⟩:=r;have c:n<S.length:=by rw[<-s.len];exact(Zm.mp h).1
 obtain⟨vs,b,q⟩:=s.at_ n a _ h (Zi c);exact .inl ⟨rfl,_,.of b⟩
noncomputable def kB:rm->String
 | .append=>"list.append"| .extend=>"list.extend"| .pop=>"list.pop"| .count=>"list.count"| .insert=>"list.insert"| .index=>"list.index"
theorem kC(m:rm):jJ X (kB m) (rM X.K X.mg (gc m)):=by
 cases m with
 |append=>exact Hm
 |count=>exact λ_ _ _ _ _ _ _ _ _ _ _ _ ⟨_,_,_,_,_,_,_,_,w⟩=>w.elim
 |insert=>exact λ_ _ _ _ _ _ _ _ _ _ _ _ ⟨_,_,_,_,_,_,_,_,w⟩=>w.elim
 |index=>exact λ_ _ _ _ _ _ _ _ _ _ _ _ ⟨_,_,_,_,_,_,_,_,w⟩=>w.elim
 |extend=>exact Hn
 |pop=>
  intro p s i H x f v u Q I b a h;obtain⟨F,g,S,d,D,c,R,r,w⟩:=h;cases D with
  |nil=>exact zO p s i H x f v u Q I b a ⟨F,g,S,d,[],c,R,r,w⟩
  |cons e E=>exact m9 p s i H x f v u Q I b a ⟨F,g,S,d,e::E,c,R,r,w⟩
theorem AD(m:rm):Slot "list" (nz m) (kB m):=by
 cases m with
 |append=>exact PySem.F.slot_list_append
 |count=>exact PySem.F.slot_list_count
 |insert=>exact PySem.F.slot_list_insert
 |index=>exact PySem.F.slot_list_index
 |extend=>exact PySem.F.slot_list_extend
 |pop=>exact PySem.F.slot_list_pop
theorem AE(m:rm):typeOf (.builtin (kB m))=pure (.type "method_descriptor"):=by
 cases m with
 |append=>exact PySem.F.type_list_append
 |count=>exact PySem.F.type_list_count
 |insert=>exact PySem.F.type_list_insert
 |index=>exact PySem.F.type_list_index
 |extend=>exact PySem.F.type_list_extend
 |pop=>exact PySem.F.type_list_pop
theorem ut{m:rm}{o:Expr}(G:gf o=Nj)(y:(apos.endLine==pos.line)=Nj)(f:∀x∈es,bA x=Nj)(P:es.length<20)(j:cs.length=es.length)(A:PE X o (tE X.K X.mg E Φ Γ a))(C:PA X es (tL X.K X.mg E Φ Γ cs)):
  PE X (.Call (.Attribute o (nz m) apos) es [] pos) (tE X.K X.mg E Φ Γ (.meth m a cs)):=by
 have h:attributeBase o (nz m) X.env (eval o X.env)=eval o X.env:=by cases o<;>first|rfl|cases G
 have k:∀{F b d H1 c d1 Q v},aJ X.K ⟨X.mg,F⟩ b d H1->Rep X.K ⟨X.mg,F⟩ b H1 d1 v->ak X.K ⟨X.mg,F⟩ E (Rep X.K ⟨X.mg,F⟩) b H1 Q (match d1 with
   | .ref n=>(ah Φ Γ cs c d).bind λD i=>(gc m (.ref n) D i).noErr
   |_=>.fail)->zl X.K "list" v H1/\ak X.K ⟨X.mg,F⟩ E (ai X.K ⟨X.mg,F⟩) b H1 (λvs u=>rM X.K X.mg (gc m) v vs u Q) (ah Φ Γ cs c d):=by
  intro F b d H1 c d1 Q v s r W;cases d1 with
  |ref n=>exact⟨HS s r,(ak.bind W).mono λvs u z=>ax z λt i D M J R L=>⟨F,t,i,_,D,J,Rep.mono M _ _ r,R,cA L⟩⟩
  |_=>exact W.elim
 cases es with
 |nil=>have e:=ZT j;subst e;refine aL (tm PySem.F.plainAttrs_list (AD m) (AE m) (kC m) A h y) λN H Q z=>aE z λF q c S p g w=>⟨F,q,c,S,p,g,(ak.bind w).mono λv H1 z=>ax z λb d d1 B s r W=>?_⟩;obtain⟨K,l⟩:=k s r W;exact⟨K,l b H1 [] .refl s .nil⟩
 |cons e es=>
  refine aL (rc PySem.F.plainAttrs_list (AD m) (AE m) (kC m) A C h ?_ y (cq (f e Ze)) (hW λx I=>f x (Zc _ I))) λN H Q z=>aE z λF q c S p g w=>⟨F,q,c,S,p,g,(ak.bind w).mono λv H1 z=>ax z λb d d1 B s r W=>?_⟩
  ·rw[nI f];have O:(backToKw pos (keywordEach [] X.env)).all (λx=>x.1.isSome)=Nj:=rfl
   grind
  ·obtain⟨K,l⟩:=k s r W;exact⟨K,F,b,c,d,s,g.mono B,l⟩
theorem AF{id:String}{r:V->List V->Hp->VK->Prop}{o:Expr}{es:Lx}{t:TA}(S:Slot "tuple" name id)(j:typeOf (.builtin id)=pure (.type "method_descriptor"))(u:jJ X id r)(w:PE X o to)(q:PA X (e::es) t)
  (c:attributeBase o name X.env (eval o X.env)=eval o X.env)
  (f:((backTo cpos (starEach (e::es) X.env)).all (λx=> !x.1)&&(backToKw cpos (keywordEach [] X.env)).all (λx=>x.1.isSome)
   &&decide ((e::es).length+([]:List Q9).length+(if([]:List Q9).isEmpty then 0 else 1)<30))=Nj)
  (d:(apos.endLine==cpos.line)=Nj) (hs:starEach (e::es) X.env=(Nk,eval e X.env)::starEach es X.env) (g:(backTo cpos (starEach es X.env)).any (·.1)=Nk):
  PE X (.Call (.Attribute o name apos) (e::es) [] cpos) (λσ H Q=>to σ H λx H1=>(∃a vs,x=.ref a/\bZ X.K H1 a vs)/\t σ H1 λxs H2=>r x xs H2 Q):=by
 intro P s σ H Q I h;refine Qq c f d rfl (aN (w _ s _ H _ I h) λv D z=>?_);obtain⟨x,_,i,R,ty,A⟩:=z;obtain⟨a,vs,rfl,l⟩:=ty;subst R;obtain⟨y,_,⟨O,E,n,_⟩,_⟩:=i.tuple l;refine⟨_,_,PySem.F.plainAttrs_tuple,S,j,⟨_,E,n⟩,λb p=>by cases p;exact i.noD l,?_⟩;have k:=q cpos _ _ _ _ _ i A;rw[hs]at k⊢;exact O1 (by trivial) (Pk (aN k λU F z=>by obtain⟨_,_,m,C,B⟩:=z;exact(u _ _ _ _ (.ref a) _ _ _ Q m rfl C B)))
theorem AG{o:Expr}(j:gf o=Nj)(i:(apos.endLine==pos.line)=Nj)(b:∀x∈es,bA x=Nj)(m:es.length=1)(k:PE X o (tE X.K X.mg E Φ Γ a))(g:PA X es (tL X.K X.mg E Φ Γ cs)):
  PE X (.Call (.Attribute o "index" apos) es [] pos) (tE X.K X.mg E Φ Γ (.tix a cs)):=by
 have h:attributeBase o "index" X.env (eval o X.env)=eval o X.env:=by cases o<;>first|rfl|cases j
 cases es with
 |nil=>cases m
 |cons e es=>
  refine aL (AF PySem.F.slot_tuple_index PySem.F.type_tuple_index Af k g h ?_ i (cq (b e Ze)) (hW λx l=>b x (Zc _ l))) λL H Q z=>aE z λF J K S p d w=>⟨F,_,_,S,p,d,(ak.bind w).mono λV H1 z=>ax z λv B d1 t s r W=>?_⟩
  ·rw[nI b];have c:(backToKw pos (keywordEach [] X.env)).all λx=>x.1.isSome=Nj:=rfl
   grind
  ·cases d1 with
   |tup I=>obtain⟨a,vs,c,f,G⟩:=bO r;exact⟨⟨a,_,c,f⟩,F,_,_,_,s,d.mono t,(ak.bind W).mono λvs A z=>ax z λy C D u n R q=>⟨F,_,_,_,_,n,Rep.mono u _ _ r,R,cA q⟩⟩
   |_=>exact W.elim
end
theorem HU{t:Nm}{i:Nat}{x:Nn}(h:s.heap.IsTupleIter it t i)(g:s.heap.IsTuple t items)(j:items[i]?=some x)
  (e:∀h',h'.IsTupleIter it t (i+1)->NW it s.heap h'->Q x {s with heap:=h'}):wpAny (model prog w) A (NB (.ref it)) Q E s:=by
 obtain⟨o,a,f,H⟩:=id h;obtain⟨O,c,_,nl,b⟩:=g;refine Za (ZZ h.typeIs OO (ZY OO h.typeIs Rw ?_ (Ro _)));show wpAny _ _ (field _ 0>>=_) _ _ s;refine Za (Z0 a H rfl ?_);refine Za (Z0 a H rfl ?_);refine Za (Z4 c b ?_);simp_all;exact Za (P6 a H (by simp) (Zd ⟨x,rfl,Zd (e _ ⟨_,ZM _ a (Qh (Ox H _)),(QP ..).trans f,by rw[Ox H];rfl⟩ (ZX ..))⟩))
theorem AH{t:Nm}{i:Nat}{Q:Vs}(g:A.handled=none)(h:s.heap.IsTupleIter it t i)(j:s.heap.IsTuple t items)(k:items[i]?=none)
  (f:∀h' e,Sd it s.heap h'->(∃o,h'.get? e=some o/\o.cls=.type "StopIteration")->E (.ref e) {s with heap:=h'}):wpAny (model prog w) A (NB (.ref it)) Q E s:=by
 obtain⟨o,b,l,H⟩:=id h;obtain⟨O,c,_,nl,a⟩:=j;refine Za (ZZ h.typeIs OO (ZY OO h.typeIs Rw ?_ (Ro _)));show wpAny _ _ (field (.ref it) 0>>=_) _ _ s;refine Za (Z0 b H (x:=.ref t) rfl ?_);refine Za (Z0 b H rfl ?_);refine Za (Z4 c a ?_);simp only[Yb,k];refine Za (O' (Za (P6 b H (by simp) ?_)));refine Za ?_;refine Za (m:=firstArgMember _ _) (Rv (rfl) ?_);refine ZP ?_ (by size_fits);refine Za (wpAny_handled ?_)
 first|lia|rw[g]
 exact Za (Zd (wpAny_throw (f _ _ (((ZX ..).extBut.push _).push _) ⟨_,Zg _ rfl,rfl⟩)))
def b5(b:Bool)(h:Nw)(l:Nm)(xs:Av):Prop:=match b with
 |true=>h.IsList l xs
 |false=>h.IsTuple l xs
def bG(b:Bool)(h:Nw)(it l:Nm)(i:Nat):Prop:=match b with
 |true=>h.IsListIter it l i
 |false=>h.IsTupleIter it l i
theorem b5.at{b:Bool}{l:Nm}{xs:Av}(q:b5 b h l xs)(k:∀o,h.get? l=some o->h'.get? l=some o):b5 b h' l xs:=by
 cases b with
 |true=>exact Heap.IsList.at q k
 |false=>obtain⟨o,e,r⟩:=q;exact⟨o,k o e,r⟩
theorem bG.at{b:Bool}{l:Nm}{i:Nat}(q:bG b h it l i)(k:∀o,h.get? it=some o->h'.get? it=some o):bG b h' it l i:=by
 cases b with
 |true=>exact Heap.IsListIter.at q k
 |false=>exact Heap.IsTupleIter.at q k
theorem bG.obj{b:Bool}{l:Nm}{i:Nat}(q:bG b h it l i):∃o,h.get? it=some o/\∀v,o.data≠.cell v:=by
 cases b with
 |true=>obtain⟨o,e,c,d⟩:=q;simp_all
 |false=>obtain⟨o,e,c,d⟩:=q;simp_all
theorem iv(d:A.handled=none)(b:Bool)(it l:Nm)(a:l≠it)(items:Av):
  Draws prog w A it [it,l] items.size (λi v=>items[i]?=some v) (λi h=>bG b h it l i/\b5 b h l items):=by
 cases b with
 |true=>exact Draws.list d _ l a _
 |false=>exact{
   live:=λ_ _ S=>(by obtain⟨o,ho,_⟩:=S.1;exact(⟨o,ho⟩))
   frame:=λ_ _ _ S f=>⟨S.1.at λo e=>f _ (by simp) o e,S.2.at λo e=>f l (by simp) o e⟩
   item:=λi s Q E m S j=>by exact HU S.1 S.2 (x:=items[i]) (by simp) λk H c=>j _ _ _ (by simp) ⟨H,S.2.at λo e=>c.extBut _ _ a e⟩ c
   done:=λs Q E S g=>AH d S.1 S.2 (by simp) g}
structure dN (z TI TO i1 i2 l1 l2:Nm):Prop where
 TIz:TI≠z
 TOz:TO≠z
 i1z:i1≠z
 i2z:i2≠z
 TITO:TI≠TO
 TIi1:TI≠i1
 TIi2:TI≠i2
 TOi1:TO≠i1
 TOi2:TO≠i2
 i12:i1≠i2
 l1:l1≠z/\l1≠TO/\l1≠i1/\l1≠i2
 l2:l2≠z/\l2≠TO/\l2≠i1/\l2≠i2
theorem AI{prog:Nt}{w:NF}{b:Bool}{t:Nm}{i:Nat}{Q:Vs}(c:A.handled=none)(h:bG b s.heap it t i)(d:b5 b s.heap t items)(f:items[i]?=none)
  (H:∀h' e,Sd it s.heap h'->(∃o,h'.get? e=some o/\o.cls=.type "StopIteration")->E (.ref e) {s with heap:=h'}):wpAny (model prog w) A (NB (.ref it)) Q E s:=by
 cases b with
 |true=>exact wpAny_nextOf_list_end c h d f H
 |false=>exact AH c h d f H
section
variable {b1 b2:Bool}{z TI TO i1 i2 l1 l2:Nm}{k1 k2:Nat}{xs ys:Av}{a b:Nn}
theorem uu(D:dN z TI TO i1 i2 l1 l2)(hh:A.handled=none){x y:Nn}
  (O:P9 s.heap z TI TO .none) (hTI:Oy s.heap TI (.ref i1) (.ref i2)) (hTO:Oy s.heap TO a b)
  (h1:bG b1 s.heap i1 l1 k1) (h2:bG b2 s.heap i2 l2 k2) (hl1:b5 b1 s.heap l1 xs) (hl2:b5 b2 s.heap l2 ys) (hx:xs[k1]?=some x) (hy:ys[k2]?=some y)
  (hQ:∀h',P9 h' z TI TO (rawInt s.heap.objs.size)->Oy h' TO x y->bG b1 h' i1 l1 (k1+1)->bG b2 h' i2 l2 (k2+1)->Oy h' s.heap.objs.size x y->h'.objs.size=s.heap.objs.size+1->
   (∀c o,c≠z->c≠TO->c≠i1->c≠i2->s.heap.get? c=some o->h'.get? c=some o)->∀tk,Q (.ref s.heap.objs.size) {s with heap:=h',toks:=tk}):
  wpAny (model prog w) A (N7.«zip.__next__» ⟨[.ref z],[]⟩) (λfin s'=>∃v,fin=.done (.ret v)/\Q v s') E s:=by
 have D1:=iv (prog:=prog) (w:=w) (A:=A) hh b1 i1 l1 D.l1.2.2.1 xs;have D2:=iv (prog:=prog) (w:=w) (A:=A) hh b2 i2 l2 D.l2.2.2.2 ys;have n1:k1<xs.size:=(Ob.mp hx).1;have n2:k2<ys.size:=(Ob.mp hy).1;show wpAny _ _ (field (.ref z) 2>>=_) _ _ _;refine Za (Z0 O rfl (x:=.bool Nk) rfl ?_);show wpAny _ _ (field (.ref z) 3>>=_) _ _ _;refine Za (Z0 O rfl (x:=.ref TI) rfl ?_);refine Za (Z4 hTI rfl ?_);show wpAny _ _ (NR (.ref z)>>=_) _ _ _;refine Za ?_;unfold NR;refine Za (Z0 O rfl (x:=.none) rfl (Zd ?_));simp only[if_true];refine Za (O' ?_);refine Za (Z0 O rfl (x:=.ref TO) rfl ?_);refine Za (OD O (by simp) λR q H=>?_);replace q:P9 R z TI TO .ellipsis:=q;refine Za ?_;simp only[Tc,List.zipIdx_nil,Ps,List.forIn_nil];refine Za (Za (QU ?_));show wpAny _ _ (NB (.ref i1)>>=_) _ _ _;refine Za (D1.item k1 _ _ _ n1 ⟨h1.at λo e=>H.extBut _ _ D.i1z e,hl1.at λo e=>H.extBut _ _ D.l1.1 e⟩ λx' T tk M S d=>Zd ?_);rw[hx]at M;cases M;have t:Oy T TO a b:=d.extBut _ _ D.TOi1 (H.extBut _ _ D.TOz hTO);refine Za (Z4 t rfl ?_);refine Za (QF t λU k f=>?_);replace k:Oy U TO x b:=k;refine Za (PC (Zd ?_));refine Za (Za (QU ?_));show wpAny _ _ (NB (.ref i2)>>=_) _ _ _;refine Za (D2.item k2 _ _ _ n2 ⟨h2.at λo e=>f.extBut _ _ D.TOi2.symm (d.extBut _ _ D.i12.symm (H.extBut _ _ D.i2z e)),hl2.at λo e=>f.extBut _ _ D.l2.2.1 (d.extBut _ _ D.l2.2.2.1 (H.extBut _ _ D.l2.1 e))⟩ λy' V tk2 N K i=>Zd ?_);rw[hy]at N;cases N;have u:Oy V TO x b:=i.extBut _ _ D.TOi2 k;refine Za (Z4 u rfl ?_);refine Za (QF u λh g j=>?_);replace g:Oy h TO x y:=g;refine Za (PC (Zd (Zd ?_)));refine Za (Z4 g rfl ?_);refine Za (wpAny_newTuple ?_);have L:h.objs.size=s.heap.objs.size:=by rw[j.1,i.1,f.1,d.1,H.1]
 have C:P9 h z TI TO .ellipsis:=j.extBut _ _ D.TOz.symm (i.extBut _ _ D.i2z.symm (f.extBut _ _ D.TOz.symm (d.extBut _ _ D.i1z.symm q)));have I:∀c o,c≠z->c≠TO->c≠i1->c≠i2->s.heap.get? c=some o->h.get? c=some o:=λc o G X Y Z e=>j.extBut _ _ X (i.extBut _ _ Z (f.extBut _ _ X (d.extBut _ _ Y (H.extBut _ _ G e))));have g1:bG b1 h i1 l1 (k1+1):=S.1.at λo e=>j.extBut _ _ D.TOi1.symm (i.extBut _ _ D.i12 (f.extBut _ _ D.TOi1.symm e));have g2:bG b2 h i2 l2 (k2+1):=K.1.at λo e=>j.extBut _ _ D.TOi2.symm e;have F:z<h.objs.size:=Zf C;show wpAny _ _ (PF (.ref z) (.ref h.objs.size)>>=_) _ _ _;refine Za ?_;unfold PF;have J:P9 (h.push {cls:=.type "tuple",data:=.seq #[x,y]}) z TI TO .ellipsis:=Zb _ C;refine Za (OD J (by simp) λW r n=>?_);replace r:P9 W z TI TO (rawInt h.objs.size):=r;refine OD r (by simp) λm l p=>?_;replace l:P9 m z TI TO (rawInt h.objs.size):=l;have up:∀c o,c≠z->h.get? c=some o->m.get? c=some o:=λc o G e=>p.extBut _ _ G (n.extBut _ _ G (Zb _ e));have B:Oy m h.objs.size x y:=p.extBut _ _ (O9 F) (n.extBut _ _ (O9 F) (Zg _ rfl));have P:m.objs.size=h.objs.size+1:=by rw[p.1,n.1,Oq]
 rw[L]at l B P;refine Zd ⟨_,rfl,?_⟩;show Q (.ref h.objs.size) _;rw[L];exact hQ m l (up _ _ D.TOz g) (g1.at λo e=>up _ o D.i1z e) (g2.at λo e=>up _ o D.i2z e) B P (λc o G X Y Z e=>up c o G (I c o G X Y Z e)) _
theorem HV(D:dN z TI TO i1 i2 l1 l2)(I:A.handled=none){Q:Fin->Nl->Prop}
  (v:P9 s.heap z TI TO .none) (K:Oy s.heap TI (.ref i1) (.ref i2)) (L:Oy s.heap TO a b)
  (h1:bG b1 s.heap i1 l1 k1) (Z:bG b2 s.heap i2 l2 k2) (u:b5 b1 s.heap l1 xs) (N:b5 b2 s.heap l2 ys) (t:xs[k1]?=none\/ys[k2]?=none)
  (P:∀h' e tk,(∀c o,c≠z->c≠TO->c≠i1->c≠i2->s.heap.get? c=some o->h'.get? c=some o)->(∃o,h'.get? e=some o/\o.cls=.type "StopIteration")->E (.ref e) {s with heap:=h',toks:=tk}):
  wpAny (model prog w) A (N7.«zip.__next__» ⟨[.ref z],[]⟩) Q E s:=by
 have W:=iv (prog:=prog) (w:=w) (A:=A) I b1 i1 l1 D.l1.2.2.1 xs;have D2:=iv (prog:=prog) (w:=w) (A:=A) I b2 i2 l2 D.l2.2.2.2 ys;show wpAny _ _ (field (.ref z) 2>>=_) _ _ _;refine Za (Z0 v rfl (x:=.bool Nk) rfl ?_);show wpAny _ _ (field (.ref z) 3>>=_) _ _ _;refine Za (Z0 v rfl (x:=.ref TI) rfl ?_);refine Za (Z4 K rfl ?_);show wpAny _ _ (NR (.ref z)>>=_) _ _ _;refine Za ?_;unfold NR;refine Za (Z0 v rfl (x:=.none) rfl (Zd ?_));simp only[if_true];refine Za (O' ?_);refine Za (Z0 v rfl (x:=.ref TO) rfl ?_);refine Za (OD v (by simp) λy f h=>?_);replace f:P9 y z TI TO .ellipsis:=f;refine Za ?_;simp only[Tc,List.zipIdx_nil,Ps,List.forIn_nil];refine Za (Za (QU ?_));show wpAny _ _ (NB (.ref i1)>>=_) _ _ _;by_cases U:k1<xs.size
 ·have hy:ys[k2]?=none:=t.resolve_left (by simp[U]);refine Za (W.item k1 _ _ _ U ⟨h1.at λo e=>h.extBut _ _ D.i1z e,u.at λo e=>h.extBut _ _ D.l1.1 e⟩ λx p tk T S H=>Zd ?_);have i:Oy p TO a b:=H.extBut _ _ D.TOi1 (h.extBut _ _ D.TOz L);refine Za (Z4 i rfl ?_);refine Za (QF i λq G d=>?_);refine Za (PC (Zd ?_));refine Za (Za (QU ?_));show wpAny _ _ (NB (.ref i2)>>=_) _ _ _;refine Za (AI I (Z.at λo e=>d.extBut _ _ D.TOi2.symm (H.extBut _ _ D.i12.symm (h.extBut _ _ D.i2z e))) (N.at λo e=>d.extBut _ _ D.l2.2.1 (H.extBut _ _ D.l2.2.2.1 (h.extBut _ _ D.l2.1 e))) hy λB e k M=>?_);obtain⟨O,g,j⟩:=M;have n:P9 B z TI TO .ellipsis:=k _ _ D.i2z.symm (d.extBut _ _ D.TOz.symm (H.extBut _ _ D.i1z.symm f));have r:e≠z:=λx=>by subst x;rw[n]at g;cases g;simp at j
  exact OD n (by simp) λF _ l=>P F e _ (λc o C X J Y x=>l.extBut _ _ C (k _ _ Y (d.extBut _ _ X (H.extBut _ _ J (h.extBut _ _ C x))))) ⟨O,l.extBut _ _ r g,j⟩
 ·have T:xs[k1]?=none:=by simp;omega
  refine Za (AI I (h1.at λo e=>h.extBut _ _ D.i1z e) (u.at λo e=>h.extBut _ _ D.l1.1 e) T λp e H M=>?_);obtain⟨O,g,j⟩:=M;have m:P9 p z TI TO .ellipsis:=H _ _ D.i1z.symm f;have r:e≠z:=λx=>by subst x;rw[m]at g;cases g;simp at j
  exact OD m (by simp) λq _ d=>P q e _ (λc o C _ J _ x=>d.extBut _ _ C (H _ _ J (h.extBut _ _ C x))) ⟨O,d.extBut _ _ r g,j⟩
theorem HW(D:dN z TI TO i1 i2 l1 l2)(v:A.handled=none){x y:Nn}{Q:Ov->Nl->Prop}
  (i:P9 s.heap z TI TO .none) (h:Oy s.heap TI (.ref i1) (.ref i2)) (H:Oy s.heap TO a b)
  (h1:bG b1 s.heap i1 l1 k1) (r:bG b2 s.heap i2 l2 k2) (d:b5 b1 s.heap l1 xs) (e:b5 b2 s.heap l2 ys) (B:xs[k1]?=some x) (C:ys[k2]?=some y)
  (u:∀h',P9 h' z TI TO (rawInt s.heap.objs.size)->Oy h' TO x y->bG b1 h' i1 l1 (k1+1)->bG b2 h' i2 l2 (k2+1)->Oy h' s.heap.objs.size x y->h'.objs.size=s.heap.objs.size+1->
   (∀c o,c≠z->c≠TO->c≠i1->c≠i2->s.heap.get? c=some o->h'.get? c=some o)->∀tk,Q (some (.ref s.heap.objs.size)) {s with heap:=h',toks:=tk}):
  wpAny (model prog w) A (pyNext (.ref z)) Q E s:=by
 have f:s.TypeIs (.ref z) _:=⟨_,i,rfl⟩
 exact Za (O2 (ZZ f Ql
  (ZY Ql f F.entry_zip_next (uu D (show A.in1.handled=none from v) i h H h1 r d e B C λh' j k l m n p q tk=>Zd (u _ j k l m n p q _)) (F.args_zip_next_1 _))))
theorem HX(D:dN z TI TO i1 i2 l1 l2)(q:A.handled=none){Q:Ov->Nl->Prop}
  (k:P9 s.heap z TI TO .none) (H:Oy s.heap TI (.ref i1) (.ref i2)) (d:Oy s.heap TO a b)
  (h1:bG b1 s.heap i1 l1 k1) (l:bG b2 s.heap i2 l2 k2) (f:b5 b1 s.heap l1 xs) (g:b5 b2 s.heap l2 ys) (h:xs[k1]?=none\/ys[k2]?=none)
  (m:∀h' tk,(∀c o,c≠z->c≠TO->c≠i1->c≠i2->s.heap.get? c=some o->h'.get? c=some o)->Q none {s with heap:=h',toks:=tk}):wpAny (model prog w) A (pyNext (.ref z)) Q E s:=by
 have i:s.TypeIs (.ref z) _:=⟨_,k,rfl⟩
 refine Za (O2 (ZZ i Ql
  (ZY Ql i F.entry_zip_next (HV D (show A.in1.handled=none from q) k H d h1 l f g h λh' e tk r p=>?_) (F.args_zip_next_1 _))))
 obtain⟨o,u,n⟩:=p;exact Za (Rp ⟨o,u,n⟩ isSubtype_stop (Zd (m _ _ r)))
end
noncomputable def gm(b:Bool)(l:Nm):Obj:={cls:=.type (match b with|true=>"list_iterator"|false=>"tuple_iterator"),data:=.fields #[.ref l,.int 0 0]}
def AJ(h:Nw)(b1:Bool)(l:Nm):Nw:=h.push (gm b1 l)
noncomputable def AK(h:Nw)(b1 b2:Bool)(l L:Nm):Nw:=(AJ h b1 l).push (gm b2 L)
noncomputable def AL(h:Nw)(b1 b2:Bool)(l L:Nm):Nw:=(AK h b1 b2 l L).push {cls:=.type "tuple",data:=.seq #[.ref h.objs.size,.ref (AJ h b1 l).objs.size]}
noncomputable def AM(h:Nw)(b1 b2:Bool)(l L:Nm):Nw:=(AL h b1 b2 l L).push {cls:=.type "tuple",data:=.seq #[.none,.none]}
noncomputable def rE(h:Nw)(b1 b2:Bool)(l L:Nm):Nw:=(AM h b1 b2 l L).push {cls:=.type "zip",data:=.fields #[.none,.bool Nk,.bool Nk,.ref (AK h b1 b2 l L).objs.size,.ref (AL h b1 b2 l L).objs.size]}
theorem nM(b1 b2:Bool)(l L:Nm)(xs y:Av):
  Meets (N7.«zip.__new__» ⟨[.type "zip",.ref l,.ref L],[]⟩) (λ_ R s=>b5 b1 s.heap l xs/\b5 b2 s.heap L y/\R (.ok (.ret (.ref (AM s.heap b1 b2 l L).objs.size))) {s with heap:=rE s.heap b1 b2 l L}):=
 .of_wp λp w A R s h=>by
  obtain⟨b,g,d,t,O⟩:=s;obtain⟨c,f,h⟩:=h;have j:=sub_zip;have H:b5 b2 (AJ b b1 l) L y:=f.at λo e=>Zb _ e;cases b1 with
  |true=>
   have a:Se (PN ⟨b,g,d,t,O⟩) l xs:=c;cases b2 with
   |true=>
    have H:Se (PN ⟨b.push {cls:=.type "list_iterator",data:=.fields #[.ref l,.int 0 0]},g,d,t,O⟩) L y:=H
    wp_walk using NP a,NP H
    exact⟨_,rfl,h⟩
   |false=>
    have H:RN (PN ⟨b.push {cls:=.type "list_iterator",data:=.fields #[.ref l,.int 0 0]},g,d,t,O⟩) L y:=H
    wp_walk using NP a,N2 H
    exact⟨_,rfl,h⟩
  |false=>
   have a:RN (PN ⟨b,g,d,t,O⟩) l xs:=c;cases b2 with
   |true=>
    have H:Se (PN ⟨b.push {cls:=.type "tuple_iterator",data:=.fields #[.ref l,.int 0 0]},g,d,t,O⟩) L y:=H
    wp_walk using N2 a,NP H
    exact⟨_,rfl,h⟩
   |false=>
    have H:RN (PN ⟨b.push {cls:=.type "tuple_iterator",data:=.fields #[.ref l,.int 0 0]},g,d,t,O⟩) L y:=H
    wp_walk using N2 a,N2 H
    exact⟨_,rfl,h⟩
theorem AN{b:Bool}{l:Nm}(e:h.get? it=some (gm b l)):bG b h it l 0:=by
 cases b with
 |true=>exact⟨_,e,rfl,rfl⟩
 |false=>exact⟨_,e,rfl,rfl⟩
theorem HY{b1 b2:Bool}{l L:Nm}{xs y:Av}(H:b5 b1 s.heap l xs)(a:b5 b2 s.heap L y)
  (h:∀h',P9 h' (s.heap.objs.size+4) (s.heap.objs.size+2) (s.heap.objs.size+3) .none->Oy h' (s.heap.objs.size+2) (.ref s.heap.objs.size) (.ref (s.heap.objs.size+1))->
   Oy h' (s.heap.objs.size+3) .none .none->bG b1 h' s.heap.objs.size l 0->bG b2 h' (s.heap.objs.size+1) L 0->h'.objs.size=s.heap.objs.size+5->
   (∀c o,s.heap.get? c=some o->h'.get? c=some o)->Q (.ref (s.heap.objs.size+4)) {s with heap:=h'}):
  wpAny (model prog w) A (call (.type "zip") [.ref l,.ref L]) Q E s:=by
 refine callType_new F.called_zip (by decide) (F.typeCall_zip_2 _ _) (F.newCall_zip_2 _ _) (λobj=>F.args_object_init_3 obj _ _) F.entry_zip_new (nM b1 b2 l L xs y) ⟨H,a,?_⟩;have z:(AJ s.heap b1 l).objs.size=s.heap.objs.size+1:=Oq ..;have Z:(AK s.heap b1 b2 l L).objs.size=s.heap.objs.size+2:=by unfold AK;rw[Oq,z]
 have b:(AL s.heap b1 b2 l L).objs.size=s.heap.objs.size+3:=by unfold AL;rw[Oq,Z]
 have d:(AM s.heap b1 b2 l L).objs.size=s.heap.objs.size+4:=by unfold AM;rw[Oq,b]
 have k:(rE s.heap b1 b2 l L).objs.size=s.heap.objs.size+5:=by unfold rE;rw[Oq,d]
 have g:(rE s.heap b1 b2 l L).get? (AM s.heap b1 b2 l L).objs.size=some _:=Zg _ rfl;have f:(rE s.heap b1 b2 l L).get? (AL s.heap b1 b2 l L).objs.size=some _:=Zb _ (Zg _ rfl);have e:(rE s.heap b1 b2 l L).get? (AK s.heap b1 b2 l L).objs.size=some _:=Zb _ (Zb _ (Zg _ rfl));have G:(rE s.heap b1 b2 l L).get? (AJ s.heap b1 l).objs.size=some (gm b2 L):=Zb _ (Zb _ (Zb _ (Zg _ (by cases b2<;>rfl))));have j:(rE s.heap b1 b2 l L).get? s.heap.objs.size=some (gm b1 l):=Zb _ (Zb _ (Zb _ (Zb _ (Zg _ (by cases b1<;>rfl)))));show _/\_;rw[Z,b,d]at g;rw[z,Z]at e;rw[b]at f;rw[z]at G;rw[d]
 exact⟨⟨_,g,rfl⟩,h _ g e f (AN j) (AN G) k λc o x=>
  Zb _ (Zb _ (Zb _ (Zb _ (Zb _ x))))⟩
def i6(b:Bool)(K:Fg)(H:Hp)(l:Nm)(xs:List V):Prop:=match b with
 |true=>c6 K H l xs
 |false=>bZ K H l xs
noncomputable def Mr(K:Fg)(b1 b2:Bool)(l L:Nm):It:=
 ⟨λi H=>∃xs ys x y,i6 b1 K H l xs/\i6 b2 K H L ys/\xs[i]?=some x/\ys[i]?=some y,
  λi H v H'=>∃T x y,v=.ref T/\H T=none/\H'=aO H T (.tup [x,y])/\(∀xs,i6 b1 K H l xs->xs[i]?=some x)/\(∀ys,i6 b2 K H L ys->ys[i]?=some y),
  λi H=>∃xs ys,i6 b1 K H l xs/\i6 b2 K H L ys/\(xs.length<=i\/ys.length<=i)⟩
theorem i7{b:Bool}{l:Nm}{xs:List V}(I:Inv X pq σ H s)(h:i6 b X.K H l xs):∃its,Vals xs its/\b5 b s.heap l its.toArray:=by
 cases b with
 |true=>obtain⟨its,r,p,_⟩:=I.list h;exact⟨_,r,p.isList⟩
 |false=>obtain⟨its,r,p,_⟩:=I.tuple h;exact⟨_,r,p⟩
theorem AO{b:Bool}{l:Nm}{xs y:List V}(I:Inv X pq σ H s)(h:i6 b X.K H l xs)(h':i6 b X.K H l y):xs=y:=by
 cases b with
 |true=>exact I.list_inj h h'
 |false=>exact I.tuple_inj h h'
theorem cU{b:Bool}{l c:Nm}{xs:List V}(I:Inv X pq σ H s)(h:i6 b X.K H l xs)(d:dh X pq H c):l≠c:=by
 have k:∀{o:Obj},X.K.lookup l=some o->l≠c:=λ{o} e=>by
  have E:=I.mod.kin l o e;rintro rfl;rcases d.2.2.2.1 with z|z
  ·exact I.ok.noex l o E z
  ·exact absurd (Zy (Zf E) (ZA I.ok.bsz z)) (ZL _)
 have a:∀{o:HO},H l=some o->l≠c:=λ{o} e=>by rintro rfl;rw[d.1]at e;cases e
 cases b with
 |true=>
  rcases h with(h| ⟨o,h⟩)| ⟨o,i,n,h,_⟩
  ·exact a h
  ·exact a h
  ·exact k h
 |false=>
  rcases h with(h| ⟨o,h⟩)| ⟨o,i,n,h,_⟩
  ·exact a h
  ·exact a h
  ·exact k h
theorem AQ{t':Nat}(I:Inv X pq σ H s)(k:∀b o,b∉ch->s.heap.get? b=some o->h'.get? b=some o)(a:∀b∈ch,dh X pq H b):Inv X pq σ H {s with heap:=h',toks:=t'}:=by
 have N:∀b u,H b=some u->b∉ch:=λb u e z=>by rw[(a b z).1]at e;cases e
 refine I.step (λb f=>?_) (λb o _ _ h e _=>k b o h e) (λb o _ _ h e _=>⟨_,k b o h e⟩) (λ_ _ _ _ n=>n)
  (λb o h e=>⟨o,k b o h e⟩) (λ_ _ e=>e) (λ_ _ _ e=>e) (λb P e=>⟨#[],by trivial⟩) (λm g=>?_) (λb u e=>?_) I.bare
 ·obtain⟨_,F,_,l,p,w⟩:=a b f;trivial
 ·obtain⟨o,j,E,i,r⟩:=g;exact⟨o,_,_,k _ o (λz=>(a _ z).2.1 rfl) i,r⟩
 ·refine(I.hok b u e).stay (λc v h q=>k c v ?_ q) (λ_ q=>q) λ_ _ q=>q
  grind
def M4(b B:Bool)(z TI TO I c l L:Nm)(i:Nat)(h:Nw):Prop:=P9 h z TI TO .none/\Oy h TI (.ref I) (.ref c)/\(∃a b,Oy h TO a b)/\bG b h I l i/\bG B h c L i
theorem HZ{P:Nt}{es:Lx}{x1}{pos:Pos}(b b':Bool)(z TI TO i1 i2 l1 l2:Nm)(n1:TI≠z)(n2:TO≠z)(n3:i1≠z)(n4:i2≠z)(n5:TI≠TO)(n6:TI≠i1)(n7:TI≠i2)(n8:TO≠i1)(n9:TO≠i2)(n10:i1≠i2):
  Turn P w K (.Tuple es x1 pos) (Mr K b b' l1 l2) [z,TI,TO,i1,i2] z (M4 b b' z TI TO i1 i2 l1 l2) where
 mem:=by simp
 obj:=λi h ⟨hz,hTI,⟨a,c,hTO⟩,h1,h2⟩ d hd=>by
  simp only[Zj,Zw,or_false]at hd;rcases hd with rfl|rfl|rfl|rfl|rfl
  ·exact⟨_,hz,λv q=>by have q':Data.fields _=Data.cell v:=q;cases q'⟩
  ·exact⟨_,hTI,λv q=>by grind⟩
  ·exact⟨_,hTO,λv q=>by grind⟩
  ·exact h1.obj
  ·exact h2.obj
 keep:=λi h h' ⟨hz,hTI,⟨a,c,hTO⟩,h1,h2⟩ k=>⟨k z (by simp) _ hz,k TI (by simp) _ hTI,⟨a,c,k TO (by simp) _ hTO⟩,h1.at λo e=>k i1 (by simp) o e,h2.at λo e=>k i2 (by simp) o e⟩
 item:=by
  intro X hP hw hK hc i pq s σ H E I hf st hg;subst hP hw hK;obtain⟨hz,hTI,⟨a,c,hTO⟩,h1,h2⟩:=st;obtain⟨xs,ys,x,y,q1,q2,ex,ey⟩:=hg;obtain⟨us,r1,s1⟩:=i7 I q1;obtain⟨ws,r2,s2⟩:=i7 I q2;obtain⟨u,eu,ru⟩:=r1.get ex;obtain⟨v,ev,rv⟩:=r2.get ey
  have Dp:dN z TI TO i1 i2 l1 l2:=⟨n1,n2,n3,n4,n5,n6,n7,n8,n9,n10,⟨cU I q1 (hf z (by simp)),cU I q1 (hf TO (by simp)),cU I q1 (hf i1 (by simp)),cU I q1 (hf i2 (by simp))⟩,
   ⟨cU I q2 (hf z (by simp)),cU I q2 (hf TO (by simp)),cU I q2 (hf i1 (by simp)),cU I q2 (hf i2 (by simp))⟩⟩
  refine HW Dp (I.ok.hd hc) hz hTI hTO h1 h2 s1 s2 (x:=u) (y:=v) (by simpa using eu) (by simpa using ev) λh' a1 a2 a3 a4 a5 a6 kk tk=>?_;refine⟨_,rfl,?_⟩;refine wpAny_letOwnedTupleGo_zip (s:={s with heap:=h',toks:=tk}) a1 λh2' b1 sb=>?_;have hTn:H s.heap.objs.size=none:=I.hok.fresh (Zh _)
  have kk2:∀c o,c∉[z,TI,TO,i1,i2]->s.heap.get? c=some o->h2'.get? c=some o:=λc o hc e=>by simp only[Zj,Zw,or_false,not_or]at hc;exact(sb.2 c hc.1).trans (kk c o hc.1 hc.2.2.1 hc.2.2.2.1 hc.2.2.2.2 e)
  have hTz:∀c∈[z,TI,TO,i1,i2],s.heap.objs.size≠c:=λc hc e=>by
   obtain⟨o,q,_⟩:∃o,s.heap.get? c=some o/\True:=by
    simp only[Zj,Zw,or_false]at hc;rcases hc with rfl|rfl|rfl|rfl|rfl
    ·exact⟨_,hz,trivial⟩
    ·exact⟨_,hTI,trivial⟩
    ·exact⟨_,hTO,trivial⟩
    ·exact⟨_,h1.obj.choose_spec.1,trivial⟩
    ·exact⟨_,h2.obj.choose_spec.1,trivial⟩
   exact absurd (Zf q) (by rw[e];exact ZL _)
  have I2:Inv X pq σ (aO H s.heap.objs.size (.tup [x,y])) {s with heap:=h2',toks:=tk}:=by
   have Im:Inv X pq σ (aO H s.heap.objs.size (.tup [x,y])) {s with heap:=s.heap.push {cls:=.type "tuple",data:=.seq #[u,v]},toks:=s.toks}:=
    I.laid (λb o e=>Zb _ e) (Zh _) ⟨by show 2<=sizeLine;decide,[u,v],.cons ru (.cons rv .nil),⟨_,Zg _ rfl,rfl,_,rfl⟩,_,Zg _ rfl,rfl⟩
   refine AQ (s:={s with heap:=s.heap.push {cls:=.type "tuple",data:=.seq #[u,v]},toks:=s.toks}) Im (ch:=[z,TI,TO,i1,i2]) (λb o hb e=>?_) λb hb=>?_
   ·rcases Heap.get?_push_cases e with⟨rfl,rfl⟩|e'
    ·exact(sb.2 _ (hTz z (by simp))).trans a5
    ·exact kk2 b o hb e'
   ·obtain⟨f0,f1⟩:=hf b hb;exact⟨by rw[au (λe=>hTz b hb e.symm)];exact f0,f1⟩
  refine⟨.ref s.heap.objs.size,aO H s.heap.objs.size (.tup [x,y]),I2,rfl,⟨s.heap.objs.size,x,y,rfl,hTn,rfl,λzs hq=>by rw[AO I hq q1];exact ex,λzs hq=>by rw[AO I hq q2];exact ey⟩,
   ⟨b1,(sb.2 TI n1).trans (kk TI _ n1 n5 n6 n7 hTI),⟨u,v,(sb.2 TO n2).trans a2⟩,a3.at λo e=>(sb.2 i1 n3).trans e,a4.at λo e=>(sb.2 i2 n4).trans e⟩,λc hc=>?_⟩
  rw[au (λe=>hTz c hc e.symm)];exact(hf c hc).1
 done:=by
  intro X hP hw hK hc i pq s σ H E I hf st hg;subst hP hw hK;obtain⟨hz,hTI,⟨a,c,hTO⟩,h1,h2⟩:=st;obtain⟨xs,ys,q1,q2,en⟩:=hg;obtain⟨us,r1,s1⟩:=i7 I q1;obtain⟨ws,r2,s2⟩:=i7 I q2;have hl1:=r1.length;have hl2:=r2.length
  have Dp:dN z TI TO i1 i2 l1 l2:=⟨n1,n2,n3,n4,n5,n6,n7,n8,n9,n10,⟨cU I q1 (hf z (by simp)),cU I q1 (hf TO (by simp)),cU I q1 (hf i1 (by simp)),cU I q1 (hf i2 (by simp))⟩,
   ⟨cU I q2 (hf z (by simp)),cU I q2 (hf TO (by simp)),cU I q2 (hf i1 (by simp)),cU I q2 (hf i2 (by simp))⟩⟩
  refine HX Dp (I.ok.hd hc) hz hTI hTO h1 h2 s1 s2 (en.elim (λen=>.inl (by simp;omega)) λen=>.inr (by simp;omega)) λh' tk kk=>?_;refine⟨rfl,AQ I (ch:=[z,TI,TO,i1,i2]) (λc o hc e=>?_) hf⟩;simp only[Zj,Zw,or_false,not_or]at hc;exact kk c o hc.1 hc.2.2.1 hc.2.2.2.1 hc.2.2.2.2 e
 self:=λ_ _ _ _ _ st h=>wpAny_pyIter_zip st.1 h
structure dg (K:Fg)(F:La)(μ:La)(H:Hp)(F':La)(μ':La)(H':Hp):Prop where
 tup:∀a vs,bZ K H a vs->bZ K H' a vs
 lst:∀a vs,H a=some (.lst vs)->a∉μ->a∉F->H' a=some (.lst vs)/\a∉μ'/\a∉F'
 frz:∀a vs,tz K H a vs->tz K H' a vs
 box:∀(n:Nat) a,μ[n]?=some a->μ'[n]?=some a
 dct:∀a,H a=some (.dK [])->H' a=some (.dK [])
 ext:∀a φ,H a=some (.ext φ)->a∉F->H' a=some (.ext φ)/\a∉F'
section
variable {F':La}
mutual
theorem Rep.chg(x:dg K F μ H F' μ' H'):∀(d:D) (v:V),Rep K ⟨mg,F⟩ μ H d v->Rep K ⟨mg,F'⟩ μ' H' d v
 | .non,_,h=>h
 | .bl _,_,h=>h
 | .int _,_,h=>h
 | .str _,_,h=>h
 | .tup _,v,h=>by obtain⟨a,vs,e,q,r⟩:=h;exact⟨a,_,e,x.tup a _ q,ai.chg x _ _ r⟩
 | .lst _,v,h=>by obtain⟨a,vs,e,q,n,r⟩:=h;obtain⟨b,f,g⟩:=x.lst a _ q n.1 n.2;exact⟨a,_,e,b,⟨f,g⟩,ai.chg x _ _ r⟩
 | .scr _,v,h=>by obtain⟨a,vs,e,q,r⟩:=h;exact⟨a,_,e,x.frz a _ q,ai.chg x _ _ r⟩
 | .ref n,v,h=>by obtain⟨a,e,q⟩:=h;exact⟨a,e,x.box n a q⟩
 | .fn y,v,h=>h
 | .ty y,v,h=>h
 | .dct,v,h=>by obtain⟨a,e,q⟩:=h;exact⟨a,e,x.dct a q⟩
 | .dks _,v,h=>by obtain⟨a,C,e,q,n,r,k⟩:=h;obtain⟨b,f⟩:=x.ext a _ q n;exact⟨a,_,e,b,f,r,λc i=>x.tup _ _ (k c i)⟩
theorem ai.chg(x:dg K F μ H F' μ' H'):∀(ds:List D) (vs:List V),ai K ⟨mg,F⟩ μ H ds vs->ai K ⟨mg,F'⟩ μ' H' ds vs
 | [],vs,h=>h
 |d::ds,vs,h=>by obtain⟨w,W,e,r,q⟩:=h;exact⟨w,_,e,Rep.chg x d w r,ai.chg x _ _ q⟩
end
theorem aV.chg(x:dg K F μ H F' μ' H')(h:aV K ⟨mg,F⟩ μ H ρ σ):aV K ⟨mg,F'⟩ μ' H' ρ σ:=
 ⟨h.1,λi d e=>(by obtain⟨v,a,b⟩:=h.2 i d e;exact(⟨v,a,Rep.chg x _ _ b⟩))⟩
theorem dg.start{o:HO}(h:H acc=none):dg K F μ H (acc::F) μ (aO H acc o):=by
 have x:Ext _ H μ (aO H _ o):=.laid h;refine⟨λa vs q=>x.sqT q,λa vs q b c=>⟨(x.lst q b).1,b,λz=>?_⟩,λa vs q=>x.frz q,λn a q=>q,λa q=>x.keep _ _ q (.inl λ_ z=>by trivial),λa d q c=>⟨x.keep _ _ q (.inl λ_ z=>by trivial),λz=>?_⟩⟩
 ·simp_all
 simp_all
def iw:HO->Bool
 | .lst _=>Nj
 | .ext _=>Nj
 |_=>Nk
theorem dg.more{u:HO}(d:acc∈F)(h:H acc=some u)(f:iw u=Nj):dg K F μ H F μ (aO H acc u'):=by
 have ne:∀{a:Nm} {o:HO},H a=some o->iw o=Nk->a≠acc:=λe n z=>by simp_all
 refine⟨λa vs q=>?_,λa vs q c b=>⟨?_,c,b⟩,λa vs q=>?_,λn a q=>q,λa q=>?_,λa g q b=>⟨by rw[au (show a≠acc from λz=>b (by simp_all))];exact q,b⟩⟩
 ·rcases q with(q| ⟨o,q⟩)|q
  ·exact .inl (.inl (by rw[au (ne q rfl)];exact q))
  ·exact .inl (.inr ⟨o,by rw[au (ne q rfl)];exact q⟩)
  ·exact .inr q
 ·have:a≠acc:=λz=>by simp_all
  rw[au this];exact q
 ·rcases q with⟨o,q⟩|q
  ·exact .inl ⟨o,by rw[au (ne q rfl)];exact q⟩
  ·exact .inr q
 ·rw[au (ne q rfl)];exact q
theorem dg.out:dg K (acc::F) μ H F μ H:=
 ⟨λ_ _ q=>q,λa vs q b c=>⟨q,b,λz=>c (Zc _ z)⟩,λ_ _ q=>q,λ_ _ q=>q,λ_ q=>q,λ_ _ q h=>⟨q,λz=>h (Zc _ z)⟩⟩
theorem dg.outBox:dg K (acc::F) μ H F (μ++[acc]) H:=by
 refine⟨λ_ _ q=>q,λa vs q c b=>⟨q,λz=>?_,λz=>b (Zc _ z)⟩,λ_ _ q=>q,λn a q=>?_,λ_ q=>q,λ_ _ q h=>⟨q,λz=>h (Zc _ z)⟩⟩
 ·simp_all
 grind
theorem aJ.start{o:HO}(s:aJ K ⟨mg,F⟩ μ S H)(h:H acc=none):aJ K ⟨mg,acc::F⟩ μ S (aO H acc o):=by
 have x:Ext μ H _ (aO H _ o):=.laid h;refine⟨λa b=>?_,s.len,s.nd,λn a D c d=>?_⟩
 ·rcases Zj.mp b with rfl|b
  ·exact⟨o,a7⟩
  ·obtain⟨O,q⟩:=s.live a b;exact x.there a _ q
 ·obtain⟨vs,q,r⟩:=s.at_ n a _ c d;exact⟨_,by rw[au (bR q h)];exact q,ai.chg (.start h) _ _ r⟩
theorem aJ.more{u:HO}(s:aJ K ⟨mg,F⟩ μ S H)(d:acc∈F)(i:acc∉μ)(h:H acc=some u)(g:iw u=Nj):aJ K ⟨mg,F⟩ μ S (aO H acc u'):=by
 refine⟨λa f=>?_,s.len,s.nd,λn a D b c=>?_⟩
 ·by_cases e:a=acc
  ·subst e;exact⟨_,a7⟩
  ·obtain⟨o,q⟩:=s.live a f;exact⟨_,by rw[au e];exact q⟩
 ·obtain⟨vs,q,r⟩:=s.at_ n a _ b c;have:a≠acc:=λz=>by grind
  exact⟨_,by rw[au this];exact q,ai.chg (.more d h g) _ _ r⟩
theorem aJ.out(s:aJ K ⟨mg,acc::F⟩ μ S H):aJ K ⟨mg,F⟩ μ S H:=
 ⟨λa c=>s.live a (Zc _ c),s.len,s.nd,λn a d h b=>by obtain⟨vs,q,r⟩:=s.at_ n a _ h b;exact⟨_,q,ai.chg .out _ _ r⟩⟩
theorem aJ.outBox{vs:List V}(s:aJ K ⟨mg,acc::F⟩ μ S H)(k:acc∉μ)(h:H acc=some (.lst vs))(r:ai K ⟨mg,acc::F⟩ μ H ys vs):aJ K ⟨mg,F⟩ (μ++[acc]) (S++[ys]) H:=by
 refine⟨λa e=>s.live a (Zc _ e),by simp[s.len],?_,λn a i c d=>?_⟩
 ·rw[OC];exact⟨s.nd,by simp,λa e b j=>by grind⟩
 ·have f:=s.len;by_cases g:n<μ.length
  ·rw[NG g]at c;rw[NG (by omega)]at d;obtain⟨w,q,R⟩:=s.at_ n a _ c d;exact⟨_,q,ai.chg .outBox _ _ R⟩
  ·have E:n=μ.length:=by grind
   subst E;simp[f]at c d;subst c;subst d;exact⟨_,h,ai.chg .outBox _ _ r⟩
theorem Ext.more{o:HO}(x:Ext μ H μ1 H1)(h:H acc=none):Ext μ H μ1 (aO H1 acc o):=
 ⟨x.pre,λa u e c=>by rw[au (bR e h)];exact x.keep a u e c,λa u e=>by rw[au (bR e h)];exact x.there a u e,x.fresh⟩
theorem Ext.outBox(x:Ext μ H μ1 H1)(h:H acc=none):Ext μ H (μ1++[acc]) H1:=by
 obtain⟨r,e⟩:=x.pre;refine⟨⟨r++[acc],by simp_all⟩,x.keep,x.there,λa b=>?_⟩;rcases ZR.mp b with b|b
 ·exact x.fresh a b
 simp_all
end
noncomputable def bV:iV->ae->Nat->Option (Option D)
 | .items xs=>λ_ i=>some xs[i]?
 | .live _ get=>get
def hX(K:Fg)(mg:GS)(J:It)(get:ae->Nat->Option (Option D))(μ:La)(H:Hp):Prop:=
 ∀(i:Nat) μ' S' H' F',dg K mg.F μ H F' μ' H'->aJ K ⟨mg.mg,F'⟩ μ' S' H'->
  (∀x,get S' i=some (some x)->J.go i H'/\∀y H'',J.yld i H' y H''->Ext μ' H' μ' H''/\aJ K ⟨mg.mg,F'⟩ μ' S' H''/\Rep K ⟨mg.mg,F'⟩ μ' H'' x y)/\(get S' i=some none->J.stop i H')
def tI(K:Fg)(mg:Mg)(E:XK)(Φ:FT)(Γ:Str->Option D)(c:CE):TI:=λσ H R=>∃F μ ρ S,aJ K ⟨mg,F⟩ μ S H/\aV K ⟨mg,F⟩ μ H ρ σ/\ak K ⟨mg,F⟩ E (λμ' H' its J=>hX K ⟨mg,F⟩ J (bV its) μ' H') μ H R (aY Φ Γ c ρ S)
theorem dg.refl:dg K F μ H F μ H:=⟨λ_ _ q=>q,λ_ _ q a b=>⟨q,a,b⟩,λ_ _ q=>q,λ_ _ q=>q,λ_ q=>q,λ_ _ q h=>⟨q,h⟩⟩
theorem dg.trans{d e c:La}{f:Hp}(a:dg K F μ H d μ1 H1)(b:dg K d μ1 H1 e c f):dg K F μ H e c f:=
 ⟨λx vs q=>b.tup x _ (a.tup x _ q),λx vs q g i=>by obtain⟨p,P,j⟩:=a.lst x _ q g i;exact b.lst x _ p P j,λx vs q=>b.frz x _ (a.frz x _ q),λn x q=>b.box n x (a.box n x q),λx q=>b.dct x (a.dct x q),λx k q h=>by obtain⟨p,P⟩:=a.ext x _ q h;exact b.ext x _ p P⟩
theorem dg.of_ext{b:La}(x:Ext μ H μ' H')(d:∀a∈b,a∈F\/H a=none):dg K F μ H b μ' H':=by
 refine⟨λa vs q=>x.sqT q,λa vs q c h=>⟨(x.lst q c).1,(x.lst q c).2,λz=>?_⟩,λa vs q=>x.frz q,λn a q=>x.get q,λa q=>x.keep _ _ q (.inl λ_ z=>by lia),λa e q h=>⟨x.keep _ _ q (.inl λ_ z=>by lia),λz=>?_⟩⟩<;>rcases d a z with z|z
 ·exact h z
 ·simp_all
 ·exact h z
 simp_all
section
variable {E:XK}{l:Expr}{pos:Pos}{c:CE}
theorem uv{R:It->Hp->Prop}{xs:List V}(I:Inv X pq σ H s)(c:c6 X.K H a xs)(q:R (Fp X.K a) H):wpAny (model X.prog X.w) X.A (pyIter (.ref a)) (Fo X pq σ tg R) E' s:=by
 obtain⟨i,r,p,d⟩:=I.list c;refine NP p.isList ?_;refine⟨_,_,_,_,H,rfl,I.kept λb o e=>Zb _ e,F6 a _,⟨_,Zg _ rfl,rfl,rfl⟩,λb h=>?_,q⟩;have e:=by simpa using h
 subst e;exact I.fpOk (Zh _) (I.hok.fresh (Zh _))
theorem H7{R:It->Hp->Prop}{xs:List V}(I:Inv X pq σ H s)(c:bZ X.K H a xs)(q:R (F5 X.K a) H):wpAny (model X.prog X.w) X.A (pyIter (.ref a)) (Fo X pq σ tg R) E' s:=by
 obtain⟨i,r,p,d⟩:=I.tuple c;refine N2 (show s.heap.IsTuple a _ from p) ?_;refine⟨_,_,_,_,H,rfl,I.kept λb o e=>Zb _ e,F7 a _,⟨_,Zg _ rfl,rfl,rfl⟩,λb h=>?_,q⟩;have e:=by simpa using h
 subst e;exact I.fpOk (Zh _) (I.hok.fresh (Zh _))
theorem AR{mg:GS}{vs:List V}{i:Nat}(r:ai K mg μ H ds vs)(h:bV (.items ds) S i=some none):vs.length<=i:=by have a:=OP.mp (by simpa[bV]using h);have b:=r.length;simp_all
theorem AS{mg:GS}{vs:List V}(h:∀F' μ' H',dg K mg.F μ H F' μ' H'->c6 K H' a vs)(r:ai K mg μ H ds vs):hX K mg (Fp K a) (bV (.items ds)) μ H:=by intro i μ' S H' F' c s;refine⟨λy k=>?_,λj=>⟨_,h _ _ _ c,AR r j⟩⟩;obtain⟨v,d,g⟩:=r.get (by simpa[bV]using k);refine⟨⟨_,v,h _ _ _ c,d⟩,λz f b=>?_⟩;obtain⟨rfl,b⟩:=b;have e:=b _ (h _ _ _ c);rw[d]at e;cases e;exact⟨.refl,s,Rep.chg c _ _ g⟩
theorem H8{mg:GS}{vs:List V}(h:bZ K H a vs)(r:ai K mg μ H ds vs):hX K mg (F5 K a) (bV (.items ds)) μ H:=by intro i l S m F c s;refine⟨λy k=>?_,λj=>⟨_,c.tup _ _ h,AR r j⟩⟩;obtain⟨v,d,g⟩:=r.get (by simpa[bV]using k);refine⟨⟨_,v,c.tup _ _ h,d⟩,λz f b=>?_⟩;obtain⟨rfl,b⟩:=b;have e:=b _ (c.tup _ _ h);rw[d]at e;cases e;exact⟨.refl,s,Rep.chg c _ _ g⟩
theorem H9{mg:GS}(g:μ[n]?=some a):hX K mg (Fp K a) (nk n) μ H:=by
 intro i o S p F C s;have f:n<S.length:=by rw[<-s.len];exact(Zm.mp (C.box _ _ g)).1
 have j:=Zi f;obtain⟨vs,b,r⟩:=s.at_ n a _ (C.box _ _ g) j;have f:=r.length;refine⟨λy h=>?_,λm=>⟨_,.of b,?_⟩⟩
 ·unfold nk at h;rw[j]at h;simp at h;obtain⟨v,d,l⟩:=r.get h;refine⟨⟨_,v,.of b,d⟩,λz k c=>?_⟩;obtain⟨rfl,c⟩:=c;have e:=c _ (.of b);rw[d]at e;cases e;exact⟨.refl,s,l⟩
 ·unfold nk at m;simp_all
theorem AU(x:PE X l (tE X.K X.mg E Φ Γ c)):PI X tg l (tI X.K X.mg E Φ Γ (.seq c)):=by
 intro P s J H R I h;obtain⟨F,B,G,S,z,q,w⟩:=h;refine aN (x _ s _ H _ I ⟨F,_,_,S,z,q,ak.bind w⟩) λu A Z=>?_;obtain⟨v,_,g,j,_,p,d,_,b,i,W⟩:=Z;cases d with
 |tup D=>obtain⟨a,vs,rfl,e,r⟩:=bO i;subst j;exact H7 g e (W _ _ _ .refl b (H8 e r))
 |lst D=>obtain⟨a,vs,rfl,e,f,r⟩:=i;subst j;exact uv g (.of e) (W _ _ _ .refl b (AS (λm k o C=>.of (C.lst a _ e f.1 f.2).1) r))
 |scr D=>obtain⟨a,vs,rfl,e,r⟩:=i;cases j;exact uv g e.sq (W _ _ _ .refl b (AS (λm k o C=>(C.frz a _ e).sq) r))
 |ref n=>
  obtain⟨a,rfl,f⟩:=i;subst j;have y:n<p.length:=by rw[<-b.len];grind
  obtain⟨vs,t,r⟩:=b.at_ n a _ f (Zi y);exact uv g (.of t) (W _ _ _ .refl b (H9 f))
 |_=>exact W.elim
theorem AV(l:Int)(n:Nat):(dL l n).length=n:=by
 induction n generalizing l with
 |zero=>rfl
 |succ n i=>unfold dL;simp_all
theorem H_(l:Int)(n i:Nat)(h:i<n):(dL l n)[i]?=some (.int (l+i)):=by
 induction n generalizing l i with
 |zero=>simp_all
 |succ n I=>
  dsimp[dL]
  grind
theorem AW{mg:GS}(l:Int)(n:Nat):hX K mg (yD l n) (bV (.items (dL l n))) μ H:=by
 intro i d S e F C s;refine⟨λy h=>?_,λa=>?_⟩
 ·have h:=by simpa[bV]using h
  have a:=by have:=(Zm.mp h).1;rwa [AV]at this
  rw[H_ _ n i a]at h;cases h;refine⟨a,λz b c=>?_⟩;obtain⟨rfl,rfl⟩:=c;exact⟨.refl,s,bo⟩
 ·have:(dL l n)[i]?=none:=by simpa[bV]using a
  have:=OP.mp this;rw[AV]at this;exact this
variable {k:Nat}{es:Lx}{cs:List CE}{a b:CE}{r:Expr}
theorem kD{mg:GS}{Q:List V->Hp->Prop}(w:ak K mg E (ai K mg) μ H Q (ah Φ Γ cs ρ S)):ak K mg E (ai K mg) μ H (λvs H'=>vs.length=cs.length/\Q vs H') (ah Φ Γ cs ρ S):=by
 cases e:ah _ _ _ _ S with
 |ok d a=>rw[e]at w;intro b H' vs x s r;refine⟨?_,w _ _ _ x s r⟩;rw[<-r.length,uq e]
 |err y a=>rw[e]at w;exact w
 |fail=>rw[e]at w;exact w
theorem Ia(O:cF X cell N sc CX E Φ Γ k)(h:bp sc "range"=Nj)(g:bA l=Nj)(d:cs.length=1)(c:PA X [l] (tL X.K X.mg E Φ Γ cs)):PI X tg (.Call (.Name "range" p2) [l] [] pos) (tI X.K X.mg E Φ Γ (.range cs)):=by
 obtain⟨b,_,_⟩:=cL h;intro p s o H R I ⟨F,_,_,S,n,e,w⟩;refine F9 (O.gl b) (O.mod.bl _ (by decide+kernel)) c (by rw[cq g];rfl) _ s _ H R I ⟨F,_,_,S,n,e,(kD (ak.bind w)).mono λvs H1 ⟨_,_,_,_,_,m,r,W⟩=>?_⟩;have f:=r.length;split at W
 ·rename_i j;split at W
  ·rename_i a;obtain⟨v,rfl,i⟩:=r.one;cases aF i;exact⟨j,rfl,a.1,a.2,W _ _ _ .refl m (AW 0 _)⟩
  ·exact W.elim
 ·simp_all
 ·exact W.elim
theorem Ib(O:cF X cell N sc CX E Φ Γ k)(h:bp sc "range"=Nj)(o:bA l=Nj)(a:bA r=Nj)(g:cs.length=2)(f:PA X [l,r] (tL X.K X.mg E Φ Γ cs)):PI X tg (.Call (.Name "range" p2) [l,r] [] pos) (tI X.K X.mg E Φ Γ (.range cs)):=by
 obtain⟨d,_,_⟩:=cL h;intro P s u H R I ⟨F,_,_,S,t,e,w⟩;refine F_ (O.gl d) (O.mod.bl _ (by decide+kernel)) f (by rw[cq o,cq a];rfl) (by rw[cq a];rfl) _ s _ H R I ⟨F,_,_,S,t,e,(kD (ak.bind w)).mono λvs H1 ⟨_,_,_,_,_,q,c,W⟩=>?_⟩;have n:=c.length;split at W
 ·simp_all
 ·rename_i i j;split at W
  ·rename_i m;obtain⟨v,V,rfl,p,b⟩:=c.two;cases aF p;cases aF b;exact⟨i,j,rfl,m,W _ H1 _ .refl q (AW i _)⟩
  ·exact W.elim
 ·exact W.elim
theorem AX{mg:GS}(s:aJ K mg μ S H)(r:Rep K mg μ H d v)(e:ay S d=some xs):∃a,v=.ref a/\
  ∀μ' S' H' F',dg K mg.F μ H F' μ' H'->aJ K ⟨mg.mg,F'⟩ μ' S' H'->∃ys vs,ay S' d=some ys/\i6 (eG d) K H' a vs/\ai K ⟨mg.mg,F'⟩ μ' H' ys vs:=by
 cases d with
 |tup D=>obtain⟨a,vs,rfl,b,q⟩:=bO r;exact⟨a,rfl,λμ' S' H' F' c f=>⟨_,_,rfl,c.tup _ _ b,ai.chg c _ _ q⟩⟩
 |lst D=>obtain⟨a,vs,rfl,b,h,q⟩:=r;exact⟨a,rfl,λμ' S' H' F' c f=>⟨_,_,rfl,c6.of (c.lst a _ b h.1 h.2).1,ai.chg c _ _ q⟩⟩
 |scr D=>obtain⟨a,vs,rfl,b,q⟩:=r;exact⟨a,rfl,λμ' S' H' F' c f=>⟨_,_,rfl,(c.frz a _ b).sq,ai.chg c _ _ q⟩⟩
 |ref n=>
  obtain⟨a,rfl,h⟩:=r;refine⟨a,rfl,λμ' S' H' F' c f=>?_⟩;have i:n<S'.length:=by rw[<-f.len];exact(Zm.mp (c.box _ _ h)).1
  obtain⟨vs,g,q⟩:=f.at_ n a _ (c.box _ _ h) (Zi _);exact⟨_,_,Zi i,c6.of g,q⟩
 |_=>cases e
theorem nN(h:nq d=some xs)(S:ae):ay S d=some xs:=by unfold nq at h;split at h<;>first|exact h|cases h
theorem Ic{e:D}{its:iV}(h:du S d e=some its):(∃xs ys,ay S d=some xs/\ay S e=some ys)/\∀S' i,(∃xs ys,ay S' d=some xs/\ay S' e=some ys)->bV its S' i=nr d e S' i:=by
 unfold du at h;split at h
 ·rename_i xs ys E a;cases h;refine⟨⟨_,_,nN E S,nN a S⟩,λS' i _=>?_⟩;show some _=_;unfold nr;simp only[nN E _,nN a _]
  grind
 ·split at h
  ·rename_i xs ys E a;cases h;exact⟨⟨_,_,E,a⟩,λS' i _=>rfl⟩
  ·cases h
theorem Ie{mg:GS}{e:D}{u:V}{its:iV}(j:aJ K mg μ S H)(Z:Rep K mg μ H d v)(re:Rep K mg μ H e u)(h:du S d e=some its):
  ∃a b,v=.ref a/\u=.ref b/\(∃vs,i6 (eG d) K H a vs)/\(∃vs,i6 (eG e) K H b vs)/\hX K mg (Mr K (eG d) (eG e) a b) (bV its) μ H:=by
 obtain⟨⟨xs,ys,N,O⟩,P⟩:=Ic h;obtain⟨a,rfl,B⟩:=AX j Z N;obtain⟨b,rfl,G⟩:=AX j re O;obtain⟨_,va,_,W,_⟩:=B μ S H mg.F .refl j;obtain⟨_,vb,_,X,_⟩:=G μ S H mg.F .refl j;refine⟨a,b,rfl,rfl,⟨va,W⟩,⟨vb,X⟩,λi f k m F C s=>?_⟩;obtain⟨x,vs,o,Q,R⟩:=B f k m F C s;obtain⟨Y,w,r,l,I⟩:=G f k m F C s;rw[P k i ⟨x,Y,o,r⟩];unfold nr;rw[o,r];have l1:=R.length;have l2:=I.length;refine⟨λy c=>?_,λc=>⟨vs,w,Q,l,?_⟩⟩
 ·have c:=O8 c;cases g1:x[i]? with
  |none=>rw[g1]at c;cases c
  |some p=>
   cases g2:Y[i]? with
   |none=>rw[g1,g2]at c;cases c
   |some q=>rw[g1,g2]at c;cases c;obtain⟨J,t,rp⟩:=R.get g1;obtain⟨L,A,rq⟩:=I.get g2;refine⟨⟨vs,w,J,L,Q,l,t,A⟩,λz M U=>?_⟩;obtain⟨T,x',y',rfl,g,rfl,z1,z2⟩:=U;have E:=z1 vs Q;rw[t]at E;cases E;have n:=z2 w l;rw[A]at n;cases n;refine⟨.laid g,s.laid g,?_⟩;unfold Rep;exact⟨T,[J,L],rfl,bZ.of a7,.cons (Rep.mono (.laid g) _ _ rp) (.cons (Rep.mono (.laid g) _ _ rq) .nil)⟩
 grind
theorem ye{i j:Nat}(h:i≠j):n+i≠n+j:=λe=>h (Sz e)
theorem uw{j:Nat}(h:0≠j):n≠n+j:=λe=>h (Sz (n:=n) (by lia))
theorem rF{j:Nat}(h:0≠j):n+j≠n:=λe=>uw h e.symm
theorem Ig:bootBuiltins "zip"=some (.type "zip"):=by decide+kernel
theorem AY(O:cF X cell N sc CX E Φ Γ k)(h:bp sc "zip"=Nj)(C:fv tg=Nj)(B:bA l=Nj)(m:bA r=Nj)(A:PA X [l,r] (tL X.K X.mg E Φ Γ cs)):PI X tg (.Call (.Name "zip" p2) [l,r] [] pos) (tI X.K X.mg E Φ Γ (.zip cs)):=by
 obtain⟨y,_,_⟩:=cL h;intro G s σ H R I ⟨F,μ,ρ,S,sk,x,w⟩;refine Call_ (f6 I (O.gl y) (O.mod.bl _ (by decide+kernel)) Ig (N1 (aN (A pos G s σ H _ I ⟨F,μ,ρ,S,sk,x,ak.bind w⟩) λus n ⟨vs,H1,f,V,o,t,ds,x1,i,M,W⟩=>?_) (cq B) (by rw[cq m];rfl)));split at W
 ·rename_i d e;obtain⟨v,u,rfl,T,U⟩:=M.two;cases j:du t d e with
  |none=>rw[j]at W;exact W.elim
  |some D=>
   rw[j]at W;obtain⟨a,b,rfl,rfl,⟨va,J⟩,⟨vb,L⟩,ok⟩:=Ie i T U j;cases V with
   |cons p q=>
    cases q with
    |cons P Q=>
     cases Q;cases p;cases P;obtain⟨as,ra,Y⟩:=i7 f J;obtain⟨bs,rb,Z⟩:=i7 f L;refine HY Y Z λh' z z2 z3 z4 z5 z6 K=>?_;refine wpAny_pyIter_zip z ?_;cases tg with
     |Tuple ts x1 tp=>
      refine⟨_,_,_,_,H1,rfl,f.kept (t':=n.toks) K,
       HZ (eG d) (eG e) _ _ _ n.heap.objs.size _ a b (ye (by decide)) (ye (by decide)) (uw (by decide)) (ye (by decide)) (ye (by decide)) (rF (by decide)) (ye (by decide)) (rF (by decide)) (ye (by decide)) (uw (by decide)),⟨z,z2,⟨_,_,z3⟩,z4,z5⟩,λc hc=>?_,W o H1 _ .refl i ok⟩
      have g:n.heap.objs.size<=c:=by grind
      exact f.fpOk g (f.hok.fresh g)
     |_=>cases C
 ·exact W.elim
end
noncomputable def eL(i:Lx)(env:Env):Sem Bool:=forIn i Nj (λc r=>if r=Nj then do let ok <-isTrue c env (eval c env);pure (NN ok)else pure (NN r))
noncomputable def bq(c:Expr)(e:Sem Unit)(g:List NH)(d:Nat)(a:Nn)(env:Env):Sem Unit:=match g[d+1]? with
 |some g'=>do
   let x <-eval g'.iter env
   standAt g'.iter.pos
   let x <-if g'.is_async !=0 then foldedIterable g'.iter x else foldedSetIterable g'.iter env x
   let _ <-runOwn (.compStart c (d+1) (<-holding [x] (if g'.is_async !=0 then asyncIter x else pyIter x)) a env) env
 |none=>e
noncomputable def ux(e:Expr)(a:Nn)(env:Env):Sem Unit:=do let _ <-call (.builtin "list.append") [a,<-eval e env]
theorem Ih{C:Expr}{e:Sem Unit}{d:Nat}{it a:Nn}{env:Env}{t i:Expr}{fs:Lx}(h:gens[d]?=some ⟨t,i,fs,0⟩):
  (do
    let some g:=gens[d]? |unsupported "internal:comprehension-depth"
    standAt (if g.is_async !=0 then C.pos else g.iter.pos)
    match <-if g.is_async !=0 then asyncNext it else pyNext it with
    |none=>pure (.done .next)
    |some v=>
     letOwnedTupleGo g.target it v
     assign g.target env v
     let mut ok:=Nj
     for c in g.ifs do
      if ok then ok <-isTrue c env (eval c env)
     if ok then
      match gens[d+1]? with
      |some g'=>
       let x <-eval g'.iter env
       standAt g'.iter.pos
       let x <-if g'.is_async !=0 then foldedIterable g'.iter x else foldedSetIterable g'.iter env x
       let _ <-runOwn (.compStart C (d+1) (<-holding [x] (if g'.is_async !=0 then asyncIter x else pyIter x)) a env) env
      |none=>e
     again (.compLoop C d it a env):Sem Fin)=(standAt i.pos>>=λ_=>pyNext it>>=λr=>match r with
   |none=>pure (.done .next)
   |some v=>letOwnedTupleGo t it v>>=λ_=>assign t env v>>=λ_=>(eL fs env>>=λok=>if ok=Nj then bq C e gens d a env else pure ())>>=λ_=>
    again (.compLoop C d it a env)):=by
 simp only[h];show(standAt i.pos>>=λ_=>pyNext it>>=_)=_;congr 1;funext _;congr 1;funext r;cases r with
 |none=>rfl
 |some v=>
  show(letOwnedTupleGo t it v>>=λ_=>assign t env v>>=λ_=>_>>=λok=>_)=_;congr 1;funext _;congr 1;funext _
  conv=>rhs;rw[bind_assoc]
  unfold eL;refine Z2 (λk=>_>>=k) (funext λok=>?_);cases ok with
  |true=>
   unfold bq;cases gens[d+1]? with
   |none=>rfl
   |some g'=>
    by_cases H:(g'.is_async !=0)=Nj
    ·simp_all
    simp_all
  |false=>simp_all
section
variable {em:Sem Unit}{d:Nat}
theorem nO{fs:Lx}{ts:List TT}{t:TU}(e:zY X fs ts)(c:PB X (bq ce em gens d (.ref acc) X.env) t):
  PB X (eL fs X.env>>=λok=>if ok=Nj then bq ce em gens d (.ref acc) X.env else pure ()) (z8 ts t):=by
 intro p s f H Q I h;refine Za (aN (z0 _ _ e _ s _ H _ I h) λb S z=>?_);obtain⟨_,a,q⟩:=z;cases b with
 |false=>exact Zd ⟨_,_,a,q⟩
 |true=>exact c _ _ _ _ Q a q
theorem nQ(g:gens[d+1]?=none)(f:PE X elt te):PB X (bq ce (ux elt (.ref acc) X.env) gens d (.ref acc) X.env) (z7 acc te):=by intro p s l H Q I h;unfold bq;rw[g];exact Za (aN (f _ s _ H _ I h) λu S z=>z.elim λv z=>z.elim λ_ z=>z.elim λb z=>z.elim λr z=>z.elim λ_ z=>z.elim λe z=>z.elim λi q=>Za (aN (zp _ _ _ _ (.ref _) _ _ _ (λ_ a=>Q _ a) b rfl (.cons r .nil) ⟨_,_,v,rfl,rfl,e,i,q⟩) λ_ k z=>by obtain⟨_,_,c,_,j⟩:=z;exact(Zd ⟨_,_,c,j⟩)))
theorem Ii{t i:Expr}{fs:Lx}{g:TG}{tb:TU}(b:iS ce=Nj)(k:clausesOf ce=gens)(m:∀it:Nm,compTurn ce (d+1) (.ref it) (.ref acc) X.env=(standAt i.pos>>=λ_=>pyNext (.ref it)>>=λr=>match r with
   |none=>pure (.done .next)
   |some v=>letOwnedTupleGo t (.ref it) v>>=λ_=>assign t X.env v>>=λ_=>(eL fs X.env>>=λok=>if ok=Nj then bq ce em gens (d+1) (.ref acc) X.env else pure ())>>=λ_=>again (.compLoop ce (d+1) (.ref it) (.ref acc) X.env))) (C:X.xe=λ_ _=>False) (A:X.calm=Nj) (o:gens[d+1]?=some ⟨t,i,fs,0⟩) (B:PI X t i wi) (hs:∀x,foldedSetIterable i X.env x=pure x) (n:PG X t g)
  (z:PB X (eL fs X.env>>=λok=>if ok=Nj then bq ce em gens (d+1) (.ref acc) X.env else pure ()) tb):PB X (bq ce em gens d (.ref acc) X.env) (t6 wi g tb):=by
 intro P s N H Q I h;unfold bq;rw[o];refine Za (aN (B _ s _ H _ I h) λv K w=>Za (OH (Za ?_)));rw[hs];refine Zd (Za (ZB (aN w λD L y=>Za ?_)));obtain⟨it,G,M,J,E,e,u,T,S,F,W⟩:=y;subst e
 have l:codeAny _ _ _ (λr c=>match r with
   | .ok f=>∃a j,Inv X _ a j c/\Q a j
   | .error e=>cameBackBy (model X.prog X.w) X.A X.env X.xe e c) _:=
  zW b C A (m _) T n z u S F W λc a j p _ q=>⟨_,_,p,q⟩
 refine wpAny_runOwn ?_;refine OT (zX b (by rw[k];exact o) l (T.self _ 0 _ _ _ S l)) λr c q=>?_;cases r with
 |ok f=>exact Zd q
 |error e=>exact q
end
noncomputable def Fy:List CT->qX
 | []=>yB
 |t::ts=>match t with
  | .var i=>qY (dW i) (Fy ts)
  | .tup _=>λ_ _ _ _=>False
def rG(K:Fg):CT->TG
 | .var i=>dW i
 | .tup ts=>yC K ts.length (Fy ts)
section
variable {E:XK}{k:Nat}
theorem rH(O:cF X cell N sc CX E Φ Γ k){i:Nat}{p:Pos}(h:rn cell N sc (.var i)=Nj):PG X (.Name (N.getD i "") p) (dW i):=by
 have H:=(aa h).1;have a:=(aa h).2;generalize N.getD i _=x at H a;simp at H a
 have b:L2.Loc X.env.scope x:=by unfold L2.Loc;rw[O.sc];lia
 refine l' (by rw[O.n];exact O.nd) (by rw[O.n];exact H) b ?_;rcases a with z|z
 ·exact .inr (by rw[O.sc];exact z)
 ·exact .inl (O.fn x z.1)
theorem uy{env:Env}:∀{ts:List CT} {es:Lx},((assignEach (fL ts N es) env).length=ts.length/\(assignEach (fL ts N es) env).findIdx? (·.1)=none)
 | [],_=>⟨rfl,rfl⟩
 |t::ts,es=>by
  have i:=uy (env:=env) (ts:=ts) (es:=es.tail);have e:assignEach (fL (t::ts) N es) env=(Nk,assign (iZ t N (es.headD dE)) env)::assignEach (fL ts N es.tail) env:=by cases t<;>rfl
  simp_all
theorem rJ(O:cF X cell N sc CX E Φ Γ k):∀{ts:List CT} {es:Lx},ui cell N sc ts=Nj->yA X (fL ts N es) (Fy ts)
 | [],es,h=>ma
 |t::ts,es,h=>by
  cases t with
  |tup _=>exact λ_ _ _ _ _ _ _ _ _ z=>z.elim
  |var i=>exact F2 (rH O (aa h).1) (rJ O (aa h).2)
theorem kE(O:cF X cell N sc CX E Φ Γ k){t:CT}(h:rn cell N sc t=Nj):PG X (iZ t N e) (rG X.K t):=by
 cases t with
 |var i=>exact rH O h
 |tup T=>exact sG O.calm (rJ O h) uy.1 uy.2
theorem rK{F μ:La}{H:Hp}{K:Fg}{mg:Mg}{ρ':br}{Q:L2.St->Hp->Prop}:∀{ts:List CT} {ds:List D} {vs:List V} {ρ:br} {σ:L2.St},bF ts ds ρ=some ρ'->ai K ⟨mg,F⟩ μ H ds vs->aV K ⟨mg,F⟩ μ H ρ σ->(∀σ',aV K ⟨mg,F⟩ μ H ρ' σ'->Q σ' H)->Fy ts vs σ H Q
 | [],ds,vs,ρ,σ,h,r,e,q=>by
  cases ds with
  |nil=>cases h;exact⟨r,q _ e⟩
  |cons _ _=>cases h
 |t::ts,ds,vs,ρ,σ,h,r,e,q=>by
  cases t with
  |tup _=>cases h
  |var i=>
   cases ds with
   |nil=>cases h
   |cons d ds=>obtain⟨v,w,rfl,R,a⟩:=r.uncons;exact⟨v,w,rfl,rK h a (e.set R) q⟩
theorem uz{ρ':br}:∀{ts:List CT} {ds:List D} {ρ:br},bF ts ds ρ=some ρ'->ts.length=ds.length/\ρ'.length=ρ.length
 | [],ds,ρ,h=>by
  cases ds with
  |nil=>cases h;simp_all
  |cons _ _=>cases h
 |t::ts,ds,ρ,h=>by
  cases t with
  |tup _=>cases h
  |var i=>
   cases ds with
   |nil=>cases h
   |cons d ds=>have:=uz (ts:=ts) h;simp_all
theorem AZ{ρ':br}{j:Nat}:∀{ts:List CT} {ds:List D} {ρ:br},bF ts ds ρ=some ρ'->(∀i∈dt ts,i≠j)->ρ'[j]?=ρ[j]?
 | [],ds,ρ,h,H=>by
  cases ds with
  |nil=>cases h;rfl
  |cons _ _=>cases h
 |t::ts,ds,ρ,h,H=>by
  cases t with
  |tup _=>cases h
  |var i=>
   cases ds with
   |nil=>cases h
   |cons d ds=>rw[AZ (ts:=ts) h λk a=>H k (Zc _ a),NZ (H i Ze)]
theorem uA{Q:L2.St->Hp->Prop}{t:CT}(h:aR t d ρ=some ρ')(r:Rep K ⟨mg,F⟩ μ H d v)(e:aV K ⟨mg,F⟩ μ H ρ σ)
  (q:∀σ',aV K ⟨mg,F⟩ μ H ρ' σ'->Q σ' H):rG K t v σ H Q:=by
 cases t with
 |var i=>cases h;exact q _ (e.set r)
 |tup T=>
  cases d with
  |tup D=>obtain⟨a,vs,rfl,b,R⟩:=bO r;exact⟨a,_,rfl,b,by rw[<-R.length];exact(uz h).1.symm,rK h R e q⟩
  |_=>cases h
end
theorem Ij{l:List Nat}{i:Nat}(h:bT ρ l=Nj)(H:i∈l):ρ[i]?=some none:=by
 dsimp only[bT]at h
 grind
theorem nR{t:CT}(h:aR t d ρ=some ρ'):ρ'.length=ρ.length/\∀j,(∀i∈slots t,i≠j)->ρ'[j]?=ρ[j]? :=by
 cases t with
 |var i=>cases h;exact⟨List.length_set,λj H=>NZ (H i Ze)⟩
 |tup T=>
  cases d with
  |tup D=>exact⟨(uz h).2,λj H=>AZ h H⟩
  |_=>cases h
theorem Il{mg:GS}{t:CT}(h:bj t d ρ=some ρ')(E:aV K mg μ H ρ' σ):aV K mg μ H ρ σ:=by
 unfold bj at h;by_cases a:bT ρ (slots t)=Nj
 ·rw[if_pos a]at h;have g:=nR h;refine⟨by rw[<-E.1,g.1],λj D e=>E.2 j _ ?_⟩;rw[g.2 j λi b z=>by subst z;rw[Ij a b]at e;cases e];exact e
 simp_all
theorem Io{t:CT}(h:bj t d ρ=some ρ'):aR t d ρ=some ρ':=by unfold bj at h;simp_all
structure gX (K:Fg)(mg:Mg)(F:La)(acc:Nm)(O:List D->List V->HO->Prop)(B:La->Hp->Prop)(μ0:La)(H0:Hp)(μ:La)(S:ae)(H:Hp)(ρ:br)(σ:L2.St)(ds:List D)(vs:List V):Prop where
 n0:H0 acc=none
 ext:Ext μ0 H0 μ H
 sok:aJ K ⟨mg,acc::F⟩ μ S H
 nin:acc∉μ
 env:aV K ⟨mg,acc::F⟩ μ H ρ σ
 at_:∃o,H acc=some o/\O ds vs o
 rep:ai K ⟨mg,acc::F⟩ μ H ds vs
 b:B μ H
def i8(K:Fg)(F:La)(B:La->Hp->Prop):Prop:=∀μ H μ1 H1,B μ H->dg K F μ H F μ1 H1->B μ1 H1
def dZ(K:Fg)(mg:Mg)(F:La)(a:Nm)(O:List D->List V->HO->Prop)(B:La->Hp->Prop)(b:La)(H:Hp)(ρ:br)(Q:L2.St->Hp->Prop):Res (List D)->Prop
 | .ok d S'=>∀μ' H' σ' v,gX K mg F a O B b H μ' S' H' ρ σ' d v->Q σ' H'
 |_=>False
noncomputable def tB(K:Fg)(mg:Mg)(O:Nm->List D->List V->HO->Prop)(Φ:FT)(Γ:Str->Option D)(c:CE)(a:Nm):TU:=λσ H Q=>∃F B μ0 H0 μ ρ S ds vs,i8 K (a::F) B/\gX K mg F a (O a) B μ0 H0 μ S H ρ σ ds vs/\dZ K mg F a (O a) B μ0 H0 ρ Q (bv Φ Γ c ρ ds S)
noncomputable def fw(Φ:FT)(Γ:Str->Option D)(i:List CE)(body:CE)(ρ:br)(ds:List D)(S:ae):Res (List D):=(aS Φ Γ i ρ S).bind λk S3=>if k=Nj then bv Φ Γ body ρ ds S3 else .ok ds S3
noncomputable def tC(K:Fg)(mg:Mg)(O:Nm->List D->List V->HO->Prop)(Φ:FT)(Γ:Str->Option D)(i:List CE)(c:CE)(a:Nm):TU:=λσ H Q=>∃F B μ0 H0 μ ρ S ds vs,i8 K (a::F) B/\gX K mg F a (O a) B μ0 H0 μ S H ρ σ ds vs/\dZ K mg F a (O a) B μ0 H0 ρ Q (fw Φ Γ i c ρ ds S)
section
variable {O:List D->List V->HO->Prop}{vs:List V}
theorem gX.next(hB:i8 K (acc::F) B)(c:gX K mg F acc O B μ0 H0 μ S H ρ σ ds vs)(x:Ext μ H μ1 H1)(s:aJ K ⟨mg,acc::F⟩ μ1 S1 H1):gX K mg F acc O B μ0 H0 μ1 S1 H1 ρ σ ds vs where
 n0:=c.n0
 ext:=c.ext.trans x
 sok:=s
 nin:=λz=>by
  rcases x.fresh _ z with z|z
  ·exact c.nin z
  ·obtain⟨o,e,_⟩:=c.at_;simp_all
 env:=c.env.mono x
 at_:=(by obtain⟨o,e,h⟩:=c.at_;exact(⟨o,x.keep _ _ e (.inr c.nin),h⟩))
 rep:=ai.mono x _ _ c.rep
 b:=hB _ H _ _ c.b (.of_ext x λ_ z=>.inl z)
theorem gX.put{u:HO}(f:i8 K (acc::F) B)(c:gX K mg F acc O B μ0 H0 μ S H ρ σ ds vs)(h:H acc=some u)(a:iw u=Nj)(r:Rep K ⟨mg,acc::F⟩ μ H d v)(g:O (ds++[d]) (vs++[v]) u'):gX K mg F acc O B μ0 H0 μ S (aO H acc u') ρ σ (ds++[d]) (vs++[v]):=by
 have C:dg K _ _ H (acc::F) μ (aO H _ u'):=.more Ze h a
 exact{
  n0:=c.n0
  ext:=c.ext.more c.n0
  sok:=c.sok.more Ze c.nin h a
  nin:=c.nin
  env:=c.env.chg C
  at_:=⟨_,a7,g⟩
  rep:=ai.append (ai.chg C _ _ c.rep) (.cons (Rep.chg C _ _ r) .nil)
  b:=f _ _ _ _ c.b C}
theorem Ip{E:XK}:∀{cs:List CE} {σ:L2.St} {Q:Bool->Hp->Prop},aJ X.K ⟨X.mg,F⟩ μ S H->aV X.K ⟨X.mg,F⟩ μ H ρ σ->ak X.K ⟨X.mg,F⟩ E (λ_ _ a b=>a=b) μ H Q (aS Φ Γ cs ρ S)->mY (cs.map (tT X.K X.mg E Φ Γ)) σ H Q:=by
 intro cs
 induction cs generalizing μ H S with
 |nil=>exact λs e w=>w _ H _ .refl s rfl
 |cons c cs i=>
  intro σ Q s e w;refine⟨F,_,_,S,s,e,(ak.bind w).mono λk H1 z=>ax z λg h K x d f W=>?_⟩;subst f;cases K with
  |true=>exact i d (e.mono x) W
  |false=>exact W _ _ _ .refl d rfl
end
section
variable {E:XK}
theorem PB.weak{body:Sem Unit}{t t':TU}(h:PB X body t)(w:∀σ H Q,t' σ H Q->t σ H Q):PB X body t':=λp s σ H Q I q=>h _ s _ H Q I (w _ H Q q)
theorem Iq{vs:List V}{i:List CE}{c:CE}{Q:L2.St->Hp->Prop}
  (h:i8 K (acc::F) B) (st:gX K mg F acc (O acc) B μ0 H0 μ S H ρ σ ds vs) (w:dZ K mg F acc (O acc) B μ0 H0 ρ Q (fw Φ Γ i c ρ ds S)):
  ak K ⟨mg,acc::F⟩ E (λ_ _ a b=>a=b) μ H (λb H1=>if b=Nj then tB K mg O Φ Γ c acc σ H1 Q else Q σ H1) (aS Φ Γ i ρ S):=by
 unfold fw at w;cases e:aS _ _ _ _ S with
 |ok k f=>
  rw[e]at w;intro j H1 b x s g;subst g;have d:=st.next h x s;cases k with
  |true=>exact⟨F,B,_,_,_,_,_,_,_,h,d,w⟩
  |false=>exact w _ _ _ _ d
 |err y f=>rw[e]at w;exact w.elim
 |fail=>rw[e]at w;exact w.elim
theorem uB{e:Sem Unit}{d:Nat}{fs:Lx}{i:List CE}{c:CE}(b:zY X fs (i.map (tT X.K X.mg E Φ Γ)))(a:PB X (bq ce e gens d (.ref acc) X.env) (tB X.K X.mg O Φ Γ c acc)):
  PB X (eL fs X.env>>=λok=>if ok=Nj then bq ce e gens d (.ref acc) X.env else pure ()) (tC X.K X.mg O Φ Γ i c acc):=
 PB.weak (nO b a) λl H Q z=>tx z λF B f g j k S D vs h s w=>Ip s.sok s.env (Iq h s w)
def oL(_:Nm)(_:List D)(vs:List V)(o:HO):Prop:=o=.lst vs
theorem uC{d:Nat}{c:CE}(k:gens[d+1]?=none)(j:PE X elt (tE X.K X.mg E Φ Γ c)):PB X (bq ce (ux elt (.ref acc) X.env) gens d (.ref acc) X.env) (tB X.K X.mg oL Φ Γ (.emit c) acc):=
 PB.weak (nQ k j) λq H Q z=>tx z λF B l n o p S D vs g b w=>by
  refine⟨_,_,_,S,b.sok,b.env,?_⟩;dsimp[bv]at w;cases e:aj _ _ c _ S with
  |ok y i=>
   rw[e]at w;intro m H1 v x s r;have a:=b.next g x s;have W:dZ _ _ F _ _ B _ _ _ Q (if D.length<ck then .ok _ _ else .fail):=w;by_cases h:D.length<ck
   ·rw[if_pos h]at W;obtain⟨_,f,rfl⟩:=a.at_;exact⟨_,f,by rw[<-a.rep.length];exact h,W _ _ _ _ (a.put g f rfl r rfl)⟩
   ·rw[if_neg h]at W;exact W.elim
  |err y i=>rw[e]at w;exact w.elim
  |fail=>rw[e]at w;exact w.elim
end
def uD:iV->Nat
 | .items xs=>xs.length+1
 | .live f _=>f
theorem A0(step:D->List D->ae->Res (List D))(xs:List D):∀(n i:Nat) (acc:List D) (S:ae),i+n=xs.length->c0 step (λ_ i=>some xs[i]?) (n+1) i acc S=aW step (xs.drop i) acc S
 |0,i,acc,S,h=>by rw[RO (by omega)];dsimp only[c0];have:xs[i]?=none:=OP.mpr (by omega);rw[this];rfl
 |n+1,i,acc,S,h=>by
  have H:i<xs.length:=by lia
  rw[Rq H];dsimp only[c0];rw[Zi H];show(step _ _ S).bind _=(step _ _ S).bind _;congr 1;funext a b;exact A0 _ _ n _ _ _ (by grind)
theorem A1(step:D->List D->ae->Res (List D))(its:iV)(a:List D)(S:ae):cv step its a S=c0 step (bV its) (uD its) 0 a S:=by
 cases its with
 |items x=>exact(A0 _ _ _ 0 _ S (by omega)).symm
 |live f get=>rfl
noncomputable def eM(Φ:FT)(Γ:Str->Option D)(tg:CT)(i:List CE)(body:CE)(ρ:br):D->List D->ae->Res (List D):=λx acc S2=>match bj tg x ρ with
 |some ρ'=>fw Φ Γ i body ρ' acc S2
 |none=>.fail
theorem gX.back{a:La->Hp->Prop}{vs:List V}(c:gX K mg F acc (O acc) B μ0 H0 μ S H ρ σ ds vs)(b:a μ H)(e:aV K ⟨mg,acc::F⟩ μ H ρ' σ'):gX K mg F acc (O acc) a μ0 H0 μ S H ρ' σ' ds vs:=
 ⟨c.n0,c.ext,c.sok,c.nin,e,c.at_,c.rep,b⟩
theorem Ir{tg:CT}{i:List CE}{body:CE}{x:D}(h:bj tg x ρ=some ρ'):eM Φ Γ tg i body ρ x ds S=fw Φ Γ i body ρ' ds S:=by unfold eM;rw[h]
theorem Iu{tg:CT}{i:List CE}{body:CE}{x:D}(h:bj tg x ρ=none):eM Φ Γ tg i body ρ x ds S=.fail:=by unfold eM;rw[h]
theorem A2{j:La}{d:La}{k:Hp}{J:It}{get:ae->Nat->Option (Option D)}{tg:CT}{I:List CE}{body:CE}{Q:L2.St->Hp->Prop}(l:i8 K (acc::F) B)(ok:hX K ⟨mg,j⟩ J get d k)
        {vs:List V} (ch:dg K j d k (acc::F) μ H) (st:gX K mg F acc (O acc) B μ0 H0 μ S H ρ σ ds vs) (w:dZ K mg F acc (O acc) B μ0 H0 ρ Q (c0 (eM Φ Γ tg I body ρ) get n 0 ds S)):
  ∃W:Nat->Nat->L2.St->Hp->Prop,(∃m,W 0 m σ H)/\∀i m σ H,W i m σ H->
   (J.stop i H/\Q σ H)\/(J.go i H/\∃Nx:L2.St->Hp->Prop,(∀σ' H',Nx σ' H'->∃M,M<m/\W (i+1) M σ' H')/\∀x H',J.yld i H x H'->rG K tg x σ H' λf H2=>tC K mg O Φ Γ I body acc f H2 Nx):=by
 refine⟨λi m σ H=>∃μ S ds vs,dg K _ _ _ _ μ H/\gX K _ F _ _ B _ _ μ S H _ σ ds vs/\dZ K _ F _ _ B _ _ _ Q (c0 _ _ m i ds S),⟨n,_,S,_,_,ch,st,w⟩,?_⟩;rintro i m σ H ⟨μ,S,ds,vs,ch,st,w⟩;cases m with
 |zero=>exact w.elim
 |succ m=>
  unfold c0 at w;obtain⟨u,v⟩:=ok i _ S H _ ch st.sok;cases e:get S i with
  |none=>rw[e]at w;exact w.elim
  |some o=>
   cases o with
   |none=>rw[e]at w;exact .inl ⟨v e,w _ H _ _ st⟩
   |some x=>
    rw[e]at w;obtain⟨G,Y⟩:=u x e;refine .inr ⟨G,_,λσ' H' q=>⟨m,NK m,q⟩,λy H' t=>?_⟩;obtain⟨X,A,R⟩:=Y y _ t;have b:=st.next l X A;have C:=ch.trans (.of_ext X λ_ z=>.inl z);have a:dZ K _ F _ _ B _ _ _ Q ((eM _ _ _ _ _ _ x _ S).bind _):=w;cases E:bj _ x _ with
    |none=>rw[Iu E]at a;exact a.elim
    |some U=>
     rw[Ir E]at a;refine uA (Io E) R b.env λf g=>?_;refine⟨F,λμ H=>B _ H/\dg K _ _ _ _ _ H,_,_,_,_,S,_,_,λP Z T Hb q c=>⟨l _ _ _ _ q.1 c,q.2.trans c⟩,b.back ⟨b.b,C⟩ g,?_⟩;cases h:fw _ _ _ _ _ _ S with
     |ok r p=>rw[h]at a;intro N H2 σ' L s;exact⟨_,_,_,_,s.b.2,s.back s.b.1 (Il E s.env),a⟩
     |err z p=>rw[h]at a;exact a.elim
     |fail=>rw[h]at a;exact a.elim
section
variable {E:XK}
theorem nS{a:Sem Unit}{d:Nat}{t i:Expr}{fs:Lx}{tg:CT}{it:CE}{I:List CE}{body:CE}(f:iS ce=Nj)(h:clausesOf ce=gens)(b:∀it:Nm,compTurn ce (d+1) (.ref it) (.ref acc) X.env=(standAt i.pos>>=λ_=>pyNext (.ref it)>>=λr=>match r with
   |none=>pure (.done .next)
   |some v=>letOwnedTupleGo t (.ref it) v>>=λ_=>assign t X.env v>>=λ_=>(eL fs X.env>>=λok=>if ok=Nj then bq ce a gens (d+1) (.ref acc) X.env else pure ())>>=λ_=>again (.compLoop ce (d+1) (.ref it) (.ref acc) X.env))) (p:X.xe=λ_ _=>False) (m:X.calm=Nj) (n:gens[d+1]?=some ⟨t,i,fs,0⟩)
  (o:PI X t i (tI X.K X.mg E Φ Γ it)) (hs:∀x,foldedSetIterable i X.env x=pure x) (c:PG X t (rG X.K tg))
  (l:PB X (eL fs X.env>>=λok=>if ok=Nj then bq ce a gens (d+1) (.ref acc) X.env else pure ()) (tC X.K X.mg O Φ Γ I body acc)):PB X (bq ce a gens d (.ref acc) X.env) (tB X.K X.mg O Φ Γ (.inner tg it I body) acc):=
 PB.weak (Ii f h b p m n o hs c l) λL H Q z=>tx z λF B u C G K S D vs j g w=>by
  refine⟨_,_,_,S,g.sok,g.env,?_⟩;dsimp[bv]at w;cases e:aY _ _ _ _ S with
  |ok q k=>rw[e]at w;intro A H1 J x s ok;have W:dZ _ _ F _ _ B _ _ _ Q (cv _ _ _ _):=w;rw[A1]at W;exact A2 j ok .refl (g.next j x s) W
  |err y k=>rw[e]at w;exact w.elim
  |fail=>rw[e]at w;exact w.elim
noncomputable def gq(fr:List (Option Nat)):L2.St->L2.St:=λσ=>fr.map λj=>j.bind λj=>(σ[j]?).join
theorem uE{mg:GS}(c:aV K mg μ H ρ σ):aV K mg μ H (fr.map λj=>j.bind λj=>(ρ[j]?).join) (gq fr σ):=by
 refine⟨by simp[gq],λi d e=>?_⟩;rw[P0]at e;cases b:fr[i]? with
 |none=>simp_all
 |some o=>
  rw[b]at e;have e:=O8 e;cases o with
  |none=>cases e
  |some j=>
   have E:ρ[j]?.join=some d:=e;cases a:ρ[j]? with
   |none=>simp_all
   |some o=>rw[a]at E;subst(E);obtain⟨v,f,k⟩:=c.2 j d a;exact⟨v,by unfold gq;simp_all,k⟩
theorem kF{tg0:Expr}{box:Bool}{tg:CT}{it:CE}{i:List CE}{body:CE}{Q:VK}(h:tE X.K X.mg E Φ Γ (.comp box N' fr tg it i body) σ H Q):
  kj (λ_=>.lst []) (gq fr) (tI X.K X.mg E Φ Γ it) (rG X.K tg) (tC X.K X.mg oL Φ Γ i body) σ H Q:=by
 obtain⟨F,j,P,S,o,g,w⟩:=h;refine⟨F,_,_,S,o,g,?_⟩;refine ak.mono (ak.bind w) λJ H1 h A a=>?_;obtain⟨u,L,I,x,d,ok,r⟩:=h
 have p:gX _ _ F _ (oL A) (λj H=>dg X.K F _ _ _ j H) _ _ _ _ _ _ (gq fr _) _ _:={
  n0:=a
  ext:=.laid a
  sok:=d.start a
  nin:=d.notin a
  env:=(uE (g.mono x)).chg (.start a)
  at_:=⟨_,a7,rfl⟩
  rep:=.nil
  b:=.start a}
 refine A2 (n:=uD I) (λz G B K q c=>q.trans c) ok (.start a) p ?_;have W:ak _ _ E _ _ _ Q ((cv (eM _ _ _ _ _ _) _ _ _).noErr.bind _):=r;rw[A1]at W;cases e:c0 _ _ _ 0 _ _ with
 |ok Y k=>
  rw[e]at W;intro t D C v s;have m:=d.notF a;obtain⟨_,f,rfl⟩:=s.at_;cases box with
  |false=>exact W _ _ _ s.ext s.sok.out ⟨_,_,rfl,f,⟨s.nin,m⟩,ai.chg .out _ _ s.rep⟩
  |true=>refine W _ _ _ (s.ext.outBox a) (s.sok.outBox s.nin f s.rep) ?_;unfold Rep;have M:=s.sok.len;simp_all
 |err y k=>rw[e]at W;exact W.elim
 |fail=>rw[e]at W;exact W.elim
end
noncomputable def cM(l:Bool):Obj:={cls:=.type "set",dict:=none,data:=.set #[] 0 (.fresh 0 0 l)}
def ix(xs:Array Nat):Prop:=∀i j (hi:i<xs.size) (h:j<xs.size),i<j->xs[i]<xs[j]
theorem Iv{xs:Array Nat}(h:ix xs)(j:Nat):∀(f lo hi:Nat),hi-lo<=f->lo<=hi->hi<=xs.size->(∀i (g:i<xs.size),i<lo->xs[i]<j)->(∀i (g:i<xs.size),hi<=i->j<=xs[i])->
  lo<=OM xs j f lo hi/\OM xs j f lo hi<=hi/\(∀i (g:i<xs.size),i<OM xs j f lo hi->xs[i]<j)/\(∀i (g:i<xs.size),OM xs j f lo hi<=i->j<=xs[i]):=by
 intro f
 induction f with
 |zero=>
  intro lo hi p r o k l;have:lo=hi:=by omega
  subst this;exact⟨Zh _,Zh _,k,l⟩
 |succ f I=>
  intro lo hi p r o k l;unfold OM;split
  ·rename_i t;have m:(lo+hi)/2<xs.size:=by omega
   have q:xs.getD ((lo+hi)/2) j=xs[(lo+hi)/2]:=by simp[Rf,m]
   dsimp only;rw[q];split
   ·rename_i g
    obtain⟨a,b,c,d⟩:=I ((lo+hi)/2+1) hi (by omega) (by omega) o (λi H n=>by
     by_cases e:i=(lo+hi)/2
     ·subst e;exact g
     ·exact QO (h i _ H m (by omega)) g) l
    exact⟨by omega,b,c,d⟩
   ·rename_i g
    obtain⟨a,b,c,d⟩:=I lo ((lo+hi)/2) (by omega) (by omega) (by omega) k (λi H s=>by
     by_cases e:i=(lo+hi)/2
     ·subst e;omega
     ·exact ZA (by omega) (O7 (h _ i m H (by omega))))
    exact⟨a,by omega,c,d⟩
  grind
theorem nT{xs:Array Nat}(h:ix xs)(j:Nat):Nv xs j<=xs.size/\(∀i (H:i<xs.size),i<Nv xs j->xs[i]<j)/\(∀i (H:i<xs.size),Nv xs j<=i->j<=xs[i]):=by
 obtain⟨_,b,c,d⟩:=Iv h j xs.size 0 _ (by simp) (by simp) (Zh _) λi _ h=>by simp_all λi H h=>by lia
 exact⟨b,c,d⟩
theorem Iw{xs:Array Nat}(h:ix xs){i:Nat}(d:i<xs.size):Nv xs (xs[i]+1)=i+1:=by
 obtain⟨a,b,c⟩:=nT h (xs[i]+1);have f:i<Nv xs (xs[i]+1):=by grind
 by_cases e:i+1<Nv xs (xs[i]+1)
 ·have H:i+1<xs.size:=by lia
  have:=b _ H e;have:=h i _ d H (by simp);lia
 ·lia
theorem Iy(xs:Array Nat)(h:ix xs):Nv xs 0=0:=by
 obtain⟨a,b,c⟩:=nT h 0;by_cases e:0<Nv xs 0
 ·have:=b 0 (by lia) e;simp_all
 simp_all
theorem Iz{xs:Array Nat}(h:ix xs){j:Nat}(p:∀i (f:i<xs.size),xs[i]≠j):ix (Ny xs (Nv xs j) j):=by
 obtain⟨a,b,c⟩:=nT h j;have n:(Ny xs (Nv xs j) j).toList=xs.toList.take (Nv xs j)++j::xs.toList.drop (Nv xs j):=by unfold Ny;simp;exact RM (by simp)
 have o:(xs.toList.take (Nv xs j)++j::xs.toList.drop (Nv xs j)).Pairwise (· < ·):=by
  have f:xs.toList.Pairwise _:=Od.mpr λi k e l H=>by simpa using h i k _ _ H
  rw[List.pairwise_append];refine⟨f.sublist (QI _ _),ZI.mpr ⟨λy d=>?_,f.sublist (SR _ _)⟩,λx g y d=>?_⟩
  ·obtain⟨i,e,rfl⟩:=ZJ.mp d
   grind
  ·obtain⟨i,e,rfl⟩:=ZJ.mp g;rw[OL]at e;rw[List.getElem_take];rcases Zj.mp d with rfl|d
   ·exact b i (by lia) (by omega)
   ·obtain⟨k,l,rfl⟩:=ZJ.mp d
    grind
 intro i k e l H;have m:(Ny xs (Nv xs j) j).size=(Ny xs (Nv xs j) j).toList.length:=by simp
 have:=Od.mp (n▸o) i k (by simp_all) (by simp_all) H;simpa using this
theorem A3{l:List Nat}(h:l.Pairwise (· < ·)):ix l.toArray:=λi j a b H=>by have:=Od.mp h i j (by omega) (by omega) H;trivial
theorem uF{c d:Type}(f:c->Option d):∀l:List c,((l.filterMap λj=>(f j).map (j, ·)).map (·.1)).Sublist l
 | []=>.slnil
 |a::l=>by
  cases e:f a with
  |none=>rw[List.filterMap_cons_none (by simp_all)];exact(uF f l).cons a
  |some b=>rw[Rx (b:=(a,b)) (by simp_all)];exact(uF f l).cons₂ a
open SetTable (Probe runEnd leap bits turns)
noncomputable def nU(mask:Nat)(p:Probe):Probe:=
 if p.more>0 then{p with j:=p.j+1,more:=p.more-1}else
 {p with j:=(leap mask p.i p.perturb).1,more:=runEnd mask (leap mask p.i p.perturb).1-(leap mask p.i p.perturb).1,i:=(leap mask p.i p.perturb).1,perturb:=(leap mask p.i p.perturb).2}
theorem uG(t:NE)(p:Probe):t.advance p=nU t.mask p:=rfl
noncomputable def pos(mask:Nat):Probe->Nat->Probe
 |p,0=>p
 |p,n+1=>pos mask (nU mask p) n
noncomputable def jL(mask i p:Nat):Probe:=⟨i,runEnd mask i-i,i,p,none⟩
noncomputable def e9(mask:Nat)(h:Int):Probe:=jL mask (bits h%(mask+1)) (bits h)
theorem i9{mask:Nat}:∀(m n:Nat) (p:Probe),pos mask p (m+n)=pos mask (pos mask p m) n
 |0,n,p=>by rw[R1];rfl
 |m+1,n,p=>by rw[Nat.succ_add];exact i9 m n _
theorem IA(p:Probe)(n:Nat):pos mask p (n+1)=nU mask (pos mask p n):=i9 n 1 p
theorem nV{mask i p:Nat}{d:Option Nat}:∀(k r j:Nat),k<=r->pos mask ⟨j,r,i,p,d⟩ k=⟨j+k,r-k,i,p,d⟩
 |0,r,j,_=>rfl
 |k+1,r,j,h=>by
  show pos _ _ k=_;have:nU mask ⟨j,r,i,p,d⟩=⟨j+1,r-1,i,p,d⟩:=by dsimp[nU];lia
  rw[this,nV k _ _ (by lia)];lia
theorem run_next{i p r j:Nat}{d:Option Nat}:pos mask ⟨j,r,i,p,d⟩ (r+1)=⟨(leap mask i p).1,runEnd mask (leap mask i p).1-(leap mask i p).1,(leap mask i p).1,(leap mask i p).2,d⟩:=by rw[IA,nV r r j (Zh _)];unfold nU;lia
noncomputable def cC(mask:Nat):Nat->Nat×Nat->Nat×Nat
 |0,x=>x
 |r+1,x=>cC mask r (leap mask x.1 x.2)
theorem nW{i:Nat}:runEnd mask i-i<=9:=by unfold runEnd;lia
theorem kG{mask:Nat}:∀(r:Nat) (x:Nat×Nat),∃n,n<=10*r/\pos mask (jL mask x.1 x.2) n=jL mask (cC mask r x).1 (cC mask r x).2
 |0,x=>⟨0,by simp,rfl⟩
 |r+1,x=>by obtain⟨n,h,e⟩:=kG r _;have:=nW (mask:=mask) (i:=x.1);refine⟨runEnd mask x.1-x.1+1+n,by lia,?_⟩;rw[i9];show pos _ (pos _ ⟨_,_,_,_,_⟩ _) n=_;rw[run_next];exact e
theorem A4{mask:Nat}:∀(a b:Nat) (x:Nat×Nat),cC mask (a+b) x=cC mask b (cC mask a x)
 |0,b,x=>by rw[R1];rfl
 |a+1,b,x=>by rw[Nat.succ_add];exact A4 a b _
theorem A5{mask:Nat}:∀(r:Nat) (x:Nat×Nat),x.1<=mask->(cC mask r x).1<=mask
 |0,x,h=>h
 |r+1,x,h=>A5 r _ (by show(x.1*5+1+x.2/32)%(mask+1)<=mask;have:=QG (x.1*5+1+x.2/32) (show 0<mask+1 by simp);lia)
theorem A6{mask:Nat}:∀(r:Nat) (x:Nat×Nat),(cC mask r x).2=x.2/32^r
 |0,x=>by simp[cC]
 |r+1,x=>by show(cC _ r _).2=_;rw[A6 r];show x.2/32/32^r=_;rw[Nat.div_div_eq_div_mul,Nat.pow_succ,Nat.mul_comm]
noncomputable def Fz(m:Nat):Nat->Nat->Nat
 |0,i=>i
 |r+1,i=>Fz m r ((i*5+1)%m)
noncomputable def A7(m:Nat):Nat->Nat->Nat
 |0,i=>1<<<i
 |r+1,i=>(1<<<i)|||A7 m r ((i*5+1)%m)
theorem A8{i e:Nat}(h:(1<<<i).testBit e=Nj):i=e:=by rw[Nat.one_shiftLeft,Nat.testBit_two_pow]at h;simp_all
theorem A9{m e:Nat}:∀(r i:Nat),(A7 m r i).testBit e=Nj->∃k,k<=r/\Fz m k i=e
 |0,i,h=>⟨0,Zh _,A8 h⟩
 |r+1,i,h=>by
  dsimp only[A7]at h;rw[Nat.testBit_or,Q2]at h;rcases h with h|h
  ·exact⟨0,Z6 _,A8 h⟩
  ·obtain⟨k,H,e⟩:=A9 r _ h;exact⟨k+1,by simp_all,e⟩
theorem nX:∀mask∈[7,31,127],∀i∈Nq (mask+1),A7 (mask+1) mask i=2^(mask+1)-1:=by decide+kernel
theorem A_{mask:Nat}:∀(r i:Nat),(cC mask r (i,0)).1=Fz (mask+1) r i
 |0,i=>rfl
 |r+1,i=>by show(cC _ r (leap _ i 0)).1=Fz _ r _;rw[<-A_ r];rfl
def eN(mask:Nat):Prop:=mask∈[7,31,127]
theorem rL(b:eN mask){i p e:Nat}(a:i<=mask)(g:p<2^64)(d:e<=mask):∃r,r<=mask+13/\(cC mask r (i,p)).1=e:=by
 have h:(cC mask 13 (i,p)).2=0:=by rw[A6];lia
 have c:=nX _ b _ (NY.mpr (Td (A5 13 (i,p) a)))
 have H:(A7 (mask+1) mask (cC mask 13 (i,p)).1).testBit e=Nj:=by
  grind
 obtain⟨k,f,E⟩:=A9 _ _ H;refine⟨13+k,by omega,?_⟩;rw[A4,show cC _ _ _=((cC _ _ _).1,0)from Prod.ext rfl h,A_];exact E
theorem Ba(h:Int):bits h<2^64:=by simp[bits];lia
theorem IB(b:eN mask){e:Nat}(H:e<=mask)(h:Int):∃n,n<10*turns mask/\(pos mask (e9 mask h) n).j=e:=by obtain⟨r,d,E⟩:=rL b (i:=bits h%(mask+1)) (by have:=QG (bits h) (show 0<mask+1 by simp);lia) (Ba h) H;obtain⟨n,c,a⟩:=kG r (bits h%(mask+1),bits h);exact⟨n,by unfold turns;lia,by rw[show e9 _ h=jL _ _ _ from rfl,a];exact E⟩
theorem uH{mask:Nat}:∀(n:Nat) {p:Probe},(pos mask p n).dummy=p.dummy
 |0,p=>rfl
 |n+1,p=>by show(pos _ _ n).dummy=_;rw[uH n];unfold nU;split<;>rfl
theorem uI:∀(m:Nat) (l:List Nat),l.length<m->∃e,e<m/\e∉l
 |0,l,h=>by simp_all
 |m+1,l,h=>by
  by_cases H:m∈l
  ·have a:(l.filter (· !=m)).length<l.length:=List.length_filter_lt_length_iff_exists.mpr ⟨m,H,by simp⟩;obtain⟨e,b,c⟩:=uI m (l.filter (· !=m)) (by lia)
   grind
  ·exact⟨m,NK m,H⟩
def Fd(mask:Nat)(P:Nat->Prop)(h:Int)(j:Nat):Prop:=∃n,(pos mask (e9 mask h) n).j=j/\∀m,m<n->P (pos mask (e9 mask h) m).j
theorem Fd.mono{P a:Nat->Prop}{h:Int}{j:Nat}(x:Fd mask P h j)(hs:∀y,P y->a y):Fd mask a h j:=by obtain⟨n,e,f⟩:=x;exact⟨n,e,λm H=>hs _ (f m H)⟩
theorem IC(H:eN mask){pl:List Nat}(c:pl.length<=mask)(h:Int):∃n,n<10*turns mask/\(pos mask (e9 mask h) n).j∉pl/\∀m,m<n->(pos mask (e9 mask h) m).j∈pl:=by
 obtain⟨e,b,d⟩:=uI (mask+1) pl (by lia);obtain⟨n,a,E⟩:=IB H (e:=e) (by lia) h
 have K:∀n,(pos mask (e9 mask h) n).j∉pl->∃k,k<=n/\(pos mask (e9 mask h) k).j∉pl/\∀m,m<k->(pos mask (e9 mask h) m).j∈pl:=by
  intro n
  induction n using Nat.strongRecOn with
  |ind n i=>
   grind
 grind
structure Tk (t:NE)(hs:Li):Prop where
 dum:t.dummies= #[]
 ris:ix t.place
 siz:t.place.size=hs.length
 msk:eN t.mask
 ful:t.tooFull=Nk
 fnd:∀x∈hs.zip t.place.toList,Fd t.mask (· ∈t.place.toList) x.1 x.2
theorem ID{xs:Array Nat}(h:ix xs){i:Nat}(H:i<xs.size):Nv xs xs[i]=i:=by
 obtain⟨a,b,c⟩:=nT h xs[i];have d:Nv xs xs[i]<=i:=by grind
 by_cases z:Nv xs xs[i]<i
 ·have:=h _ i (by omega) H z;have:=c _ (by omega) (Zh _);omega
 ·lia
theorem Bb{t:NE}(h:ix t.place){i:Nat}(H:i<t.place.size):t.slot t.place[i]=.live i:=by unfold SS;rw[ID h _];simp_all
theorem Bc{t:NE}(h:ix t.place){j:Nat}(H:j∈t.place.toList):∃i,∃hi:i<t.place.size,t.place[i]=j/\t.slot j=.live i:=by
 obtain⟨i,hi,e⟩:=ZJ.mp H;have E:=by simpa using e
 exact⟨i,_,E,by rw[<-E];exact Bb h _⟩
theorem Bd{t:NE}(h:t.dummies= #[]){j:Nat}(H:j∉t.place.toList):t.slot j=.empty:=by
 dsimp[SS];rw[if_neg,h]
 ·rfl
 grind
theorem Tk.fits{t:NE}(x:Tk t hs):t.place.size<=t.mask/\t.fits hs.length=Nj:=by
 have h:=x.ful;unfold PX PH at h;have H:t.place.size<=t.mask:=by lia
 refine⟨H,?_⟩;unfold Q3 PH;rw[x.siz,beq_self_eq_true];exact ZV (by rw[<-x.siz];grind)
theorem Be{t:NE}{hashAt:Nat->Int}{h:Int}:∀(n f:Nat) (p:Probe),n<f->p.dummy=none->(∀m,m<n->∃i,t.slot (pos t.mask p m).j=.live i/\hashAt i≠h)->
  (t.slot (pos t.mask p n).j=.empty->N8 t hashAt h f p=some (.empty (pos t.mask p n).j none))/\
  (∀i,t.slot (pos t.mask p n).j=.live i->hashAt i=h->N8 t hashAt h f p=some (.candidate (pos t.mask p n).j i (pos t.mask p (n+1))))
 |0,f+1,p,_,b,_=>by
  constructor
  ·intro e;have e:t.slot p.j=.empty:=e;dsimp only[N8];rw[e,b];rfl
  ·intro i e H;have e:t.slot p.j=.live i:=e;dsimp only[N8];rw[e];dsimp;rw[if_pos (by simp_all)];rfl
 |n+1,f+1,p,g,b,c=>by
  obtain⟨i,H,a⟩:=c 0 (Nat.succ_pos n);have H:t.slot p.j=.live i:=H
  have step:N8 t hashAt h (f+1) p=N8 t hashAt h f (nU t.mask p):=by
   conv=>lhs;unfold N8
   rw[H];dsimp;rw[if_neg λz=>a (Zv z),uG]
  rw[step];exact Be n _ _ (by simp_all) (by rw[show(nU _ p).dummy=(pos _ p 1).dummy from rfl,uH];exact b) λm d=>c (m+1) (by simp_all)
theorem nY{a:List α}{b:List β}(c:a.length=b.length)(p:Nat)(x:α)(y:β){z:α×β}(H:z∈(a.take p++x::a.drop p).zip (b.take p++y::b.drop p)):z=(x,y)\/z∈a.zip b:=by
 rw[List.zip_append (by simp_all),Z7,ZR,Zj]at H;rcases H with h|h|h
 ·rw[So,<-List.take_zipWith]at h;exact .inr (List.mem_of_mem_take h)
 ·exact .inl h
 ·rw[So,<-List.drop_zipWith]at h;exact .inr (List.mem_of_mem_drop h)
theorem Tk.put{t:NE}(x:Tk t hs){h:Int}(d:(pos t.mask (e9 t.mask h) n).j∉t.place.toList)(b:∀m,m<n->(pos t.mask (e9 t.mask h) m).j∈t.place.toList):
  let r:=t.put (pos t.mask (e9 t.mask h) n).j
  r.1.dummies= #[]/\ix r.1.place/\r.1.place.size=hs.length+1/\r.1.mask=t.mask/\r.1.led=t.led/\r.1.plain=t.plain/\r.2=Nv t.place (pos t.mask (e9 t.mask h) n).j/\
  ∀z∈(hs.take r.2++h::hs.drop r.2).zip r.1.place.toList,Fd t.mask (· ∈r.1.place.toList) z.1 z.2:=by
 intro r;have f:r.1.place.toList=t.place.toList.take r.2++(pos _ _ n).j::t.place.toList.drop r.2:=PJ _ _ _
 have H:∀y,y∈t.place.toList->y∈r.1.place.toList:=λy g=>by
  rw[<-R3 r.2 t.place.toList]at g
  grind
 refine⟨?_,Iz x.ris λi j e=>d (by grind),?_,rfl,rfl,rfl,rfl,λz a=>?_⟩
 ·show(if SetTable.has _ _ then _ else t.dummies)= #[];rw[x.dum];rfl
 ·show(Ny _ _ _).size=_;rw[<-ZG,(P5 _ _ _).length_eq,ZG,Te,x.siz]
 ·rw[f]at a;rcases nY (by rw[<-x.siz,ZG]) _ _ _ a with rfl|a
  ·exact⟨n,rfl,λm c=>H _ (b m c)⟩
  ·exact(x.fnd z a).mono H
abbrev dy:=Array (Option Nat)
def nZ(o:dy)(j:Nat):Prop:=∃q,o[j]?=some (some q)
theorem IE{o:dy}{j:Nat}(H:j<o.size)(h:(o.getD j (some 0)).isNone=Nk):nZ o j:=by
 have:o.getD j (some 0)=o[j]:=by simp_all
 cases e:o[j]with
 |none=>simp_all
 |some q=>exact⟨q,by simp_all⟩
theorem IG{o:dy}{j:Nat}(h:(o.getD j (some 0)).isNone=Nj):o[j]?=some none:=by
 by_cases H:j<o.size
 ·simp_all
 simp_all
theorem Bf{mask:Nat}{o:dy}(hs:o.size=mask+1):∀(f i p:Nat),i<=mask->
  (∃j n,Oc mask o f i p=some j/\(pos mask (jL mask i p) n).j=j/\o[j]?=some none/\∀m,m<n->nZ o (pos mask (jL mask i p) m).j)\/
  (Oc mask o f i p=none/\∀r,r<f->nZ o (cC mask r (i,p)).1)
 |0,i,p,t=>.inr ⟨rfl,λr h=>by omega⟩
 |f+1,i,p,t=>by
  have v:i+(runEnd mask i-i)=runEnd mask i/\runEnd mask i<=mask:=by unfold runEnd;split<;>omega
  have O:∀k,k<=runEnd mask i-i->(o.getD (i+k) (some 0)).isNone=Nk->nZ o (pos mask (jL mask i p) k).j:=λk a h=>by unfold jL;rw[nV k _ i a];exact IE (j:=i+k) (by omega) h
  unfold Oc;cases s:(Nq (runEnd mask i+1-i)).find? λk=>(o.getD (i+k) (some 0)).isNone with
  |some k=>
   obtain⟨g,l,q⟩:=List.find?_range_eq_some.mp s;have a:=NY.mp l;refine .inl ⟨i+k,k,rfl,?_,IG g,λm b=>O m (by omega) ?_⟩
   ·unfold jL;rw[nV k _ i (by omega)]
   ·have:=q m b;simpa using this
  |none=>
   have o1:∀k,k<=runEnd mask i-i->nZ o (pos mask (jL mask i p) k).j:=λk a=>O k a (by grind);dsimp only;have u:(leap mask i p).1<=mask:=by show(i*5+1+p/32)%(mask+1)<=mask;have:=QG (i*5+1+p/32) (show 0<mask+1 by omega);omega
   have H:pos mask (jL mask i p) (runEnd mask i-i+1)=jL mask (leap mask i p).1 (leap mask i p).2:=run_next;rcases Bf hs f (leap mask i p).1 (leap mask i p).2 u with⟨j,n,e,E,c,d⟩| ⟨e,E⟩
   ·refine .inl ⟨j,(runEnd mask i-i+1)+n,e,by rw[i9,H];exact E,c,λm b=>?_⟩;by_cases z:m<=runEnd mask i-i
    ·exact o1 m z
    ·have:=d (m-(runEnd mask i-i+1)) (by omega);rw[<-H,<-i9]at this;rw[show runEnd mask i-i+1+(m-(runEnd mask i-i+1))=m by omega]at this;exact this
   ·refine .inr ⟨e,λr w=>?_⟩;cases r with
    |zero=>exact o1 0 (Z6 _)
    |succ r=>exact E r (by omega)
structure Ow (mask:Nat)(hs:Li)(k:Nat)(ow:dy):Prop where
 sz:ow.size=mask+1
 ok:∀j q:Nat,ow[j]?=some (some q)->q<k/\∃h,hs[q]?=some h/\Fd mask (nZ ow) h j
 all:∀q:Nat,q<k->∃j:Nat,ow[j]?=some (some q)
 inj:∀j j' q:Nat,ow[j]?=some (some q)->ow[j']?=some (some q)->j=j'
theorem Ow.hole{k:Nat}{o:dy}(x:Ow mask hs k o)(g:k<=mask):∃e,e<=mask/\o[e]?=some none:=by
 have b:∀q,∃j:Nat,q<k->o[j]?=some _:=λq=>by
  by_cases z:q<k
  ·obtain⟨j,e⟩:=x.all q z;exact⟨j,λ_=>e⟩
  ·exact⟨0,λh=>absurd h z⟩
 obtain⟨e,c,d⟩:=Py.uI (mask+1) ((Nq k).map _) (by grind);refine⟨e,by omega,?_⟩;have H:e<o.size:=by rw[x.sz];exact c
 rw[NO H];cases f:o[e]with
 |none=>rfl
 |some q=>
  exfalso;have E:o[e]?=some (some q):=by simp_all
  have a:=(x.ok e q E).1;exact d (Zp.mpr ⟨q,NY.mpr a,(x.inj _ _ q E (Classical.choose_spec (b q) a)).symm⟩)
theorem Ow.add{k:Nat}(c:eN mask){o:dy}(x:Ow mask hs k o)(A:k<=mask){h:Int}(y:hs[k]?=some h):∃j,Oc mask o (turns mask) (bits h%(mask+1)) (bits h)=some j/\Ow mask hs (k+1) (o.setIfInBounds j (some k)):=by
 have l:bits h%(mask+1)<=mask:=by have:=QG (bits h) (show 0<mask+1 by omega);omega
 rcases Bf x.sz (turns mask) (bits h%(mask+1)) (bits h) l with⟨j,n,d,E,f,p⟩| ⟨d,E⟩
 ·refine⟨j,d,?_⟩;have g:∀i,(o.setIfInBounds j (some k))[i]?=if j=i then some (some k)else o[i]? :=λi=>by grind
  have O:∀i,nZ o i->nZ (o.setIfInBounds j (some k)) i:=λi ⟨q,b⟩=>by
   unfold nZ
   grind
  refine⟨by rw[Array.size_setIfInBounds];exact x.sz,λi q a=>?_,λq b=>?_,λi I q a H=>?_⟩
  ·rw[g]at a;split at a
   ·rename_i z;subst z;cases a;exact⟨NK _,h,y,n,E,λm c=>O _ (p m c)⟩
   ·obtain⟨B,s,u,v⟩:=x.ok i q a;exact⟨by omega,s,u,v.mono O⟩
  ·by_cases z:q=k
   ·subst z;exact⟨j,by grind⟩
   ·obtain⟨i,a⟩:=x.all q (by omega)
    grind
  ·rw[g]at a H;split at a
   ·rename_i z;cases a;split at H
    ·rename_i Z;omega
    ·have:=(x.ok I k H).1;omega
   ·split at H
    ·cases H;have:=(x.ok i k a).1;omega
    ·exact x.inj i I q a H
 ·exfalso;obtain⟨e,w,t⟩:=x.hole A;obtain⟨r,C,f⟩:=rL c l (Ba h) w;obtain⟨q,b⟩:=E r (by unfold turns;omega);rw[f,t]at b;cases b
theorem Bg{mask:Nat}(H:eN mask){hs:Li}(a:hs.length<=mask):∀(rest d:Li) (ow:dy),hs=d++rest->Ow mask hs d.length ow->
  ∃o,rest.foldl (λacc h=>do
   let(owner,k) <-acc
   let j <-Oc mask owner (turns mask) (bits h%(mask+1)) (bits h)
   pure (owner.setIfInBounds j (some k),k+1)) (some (ow,d.length))=some (o,hs.length)/\Ow mask hs hs.length o
 | [],d,ow,e,x=>by simp_all
 |h::rest,d,ow,e,x=>by obtain⟨j,E,y⟩:=x.add H (by grind) (h:=h) (by simp_all);have:=Bg H a rest (d++[h]) _ (by simp_all) (by rw[Zn];exact y);simp_all
theorem IH(c:eN mask)(b:hs.length<=mask):∃ow,R4 mask hs.toArray=some ow/\Ow mask hs hs.length ow:=by
 have H:∀j q:Nat,(Array.replicate (mask+1) none)[j]?=some (some q)->False:=λj q h=>by grind
 have a:Ow mask hs ([]:Li).length _:=⟨by simp,λj q h=>(H j q h).elim,λq h=>by simp_all,λj J q h=>(H j q h).elim⟩;obtain⟨ow,e,x⟩:=Bg c b _ _ _ rfl a;dsimp only[R4];simp_all
theorem Bh{mask:Nat}{P:Nat->Prop}{hs:Li}:∀(live:List (Nat×Nat)),(∀x∈live,∃h,hs[x.2]?=some h/\Fd mask P h x.1)->∀z∈(((live.map (·.2)).filterMap (hs[·]?)).zip (live.map (·.1))),Fd mask P z.1 z.2
 | [],_,z,H=>by simp_all
 |x::live,a,z,H=>by
  obtain⟨h,e,f⟩:=a x Ze;rw[NX,Rx e]at H;rcases Zj.mp H with rfl|H
  ·exact f
  ·exact Bh _ (λy b=>a y (Zc _ b)) z H
theorem II{t:NE}(r:eN (Ot wanted-1))(C:hs.length*5<(Ot wanted-1)*3):
  ∃t' o,t.relaid hs.toArray wanted=some (t',o)/\o.toList.Perm (Nq hs.length)/\t'.led=t.led/\t'.plain=t.plain/\Tk t' (o.toList.filterMap (hs[·]?)):=by
 generalize f:Ot wanted-1=mask at r C;obtain⟨O,e,x⟩:=IH r (hs:=hs) (by omega)
 have H:∀y∈((Nq (mask+1)).filterMap λj=>(O.getD j none).map (j, ·)),O[y.1]?=some (some y.2):=λy l=>by
  obtain⟨j,d,E⟩:=Z3.mp l;have d:j<O.size:=by grind
  have n:O.getD j none=O[j]:=by simp[Rf,d]
  rw[n]at E;cases p:O[j]with
  |none=>rw[p]at E;cases E
  |some q=>
   grind
 have c:∀j q:Nat,O[j]?=some (some q)->(j,q)∈((Nq (mask+1)).filterMap λj=>(O.getD j none).map (j, ·)):=λj q h=>by
  obtain⟨d,p⟩:=Ob.mp h;refine Z3.mpr ⟨j,NY.mpr (by rw[<-x.sz];exact d),?_⟩;have n:O.getD j none=O[j]:=by simp[Rf,d]
  rw[n,p];rfl
 have k:=uF (λj=>O.getD j none) (Nq (mask+1));have i:t.relaid hs.toArray wanted=some ({mask:=mask,place:=((((Nq (mask+1)).filterMap λj=>(O.getD j none).map (j, ·)).map (·.1)).toArray),dummies:= #[],finger:=t.finger,led:=t.led,moves:=t.movedTo mask,plain:=t.plain},(((Nq (mask+1)).filterMap λj=>(O.getD j none).map (j, ·)).map (·.2)).toArray):=by unfold SetTable.relaid SetTable.laid;rw[f,e];rfl
 rw[i];generalize((Nq (mask+1)).filterMap λj=>(O.getD j none).map (j, ·))=live at*;have g:=List.pairwise_lt_range.sublist k
 have P:(live.map (·.2)).Perm (Nq hs.length):=by
  refine(OK ?_ List.nodup_range).mpr λq=>?_
  ·rw[Ya]at g;unfold List.Nodup;rw[Ya];refine g.imp_of_mem λ{a b} v A w z=>?_;have m:=H b A;rw[<-z]at m;have:=x.inj _ _ _ (H a v) m;omega
  ·rw[NY,Zp];constructor
   ·rintro⟨y,l,rfl⟩;exact(x.ok _ _ (H y l)).1
   ·intro s;obtain⟨j,d⟩:=x.all q s;exact⟨(j,q),c j q d,rfl⟩
 have G:live.length=hs.length:=by have:=P.length_eq;simpa using this
 have B:((live.map (·.2)).filterMap (hs[·]?)).length=hs.length:=by rw[(P.filterMap (hs[·]?)).length_eq];have:=Qb hs.toArray;simpa using Z2 Oh this
 refine⟨_,_,rfl,P,rfl,rfl,rfl,A3 g,?_,r,?_,Bh live λy l=>?_⟩
 ·rw[B];simpa using G
 ·unfold PX PH;refine ZE ?_;simp;omega
 ·obtain⟨_,h,u,m⟩:=x.ok _ _ (H y l);exact⟨h,u,m.mono λj Z=>Z.elim λq s=>Zp.mpr ⟨(j,q),c j q s,rfl⟩⟩
end Py
variable {ow:Py.dy}
namespace Py
def e_(w:NF):Bool:=w.params.followText "set-order"
theorem IJ(v:Nn)(fin:R (.ref s.heap.objs.size) {s with heap:=s.heap.push (cM (!e_ w))}):codeAny (model prog w) A (.call (.builtin "set.__new__") ⟨[.type "set",v],[]⟩) (wants R E) s:=by
 refine Qu (Za (m:=checkBuiltinCall "set.__new__" ⟨[.type "set",v],[]⟩) (Rv (F.newCall_set_1 v) (Zd ⟨OI F.plain_set_new _,Z5 F.entry_set_new ?_⟩)));rw[Z1 F.plain_set_new _];have S:=sub_set_self;unfold N7.«set.__new__» Builtin.Frozenset.newClass;cases s;dsimp only
 wp_walk
 exact OX (Zd (Za (Ru (Zd (Zd fin)))))
open SetTable (Probe turns)
abbrev cN(prog:Nt)(w:NF)(h:Nw)(k:Li)(a:Nm):Prop:=IsTupleKey (intKind prog w) h k a
abbrev hK(prog:Nt)(w:NF)(k:Li):Int:=tupleKeyHash (intKind prog w) k
theorem cN.kept{k:Li}(x:cN prog w h k a)(K:∀o,h.get? a=some o->h'.get? a=some o):cN prog w h' k a:=by obtain⟨o,items,n,g,r⟩:=x;exact⟨o,_,n,K o g,r⟩
theorem Bi{k:Li}{vs:Lv}(h:ItemsAre (intKind prog w) k vs):∀v∈vs,∃i t,v=.int i t:=by
 induction h with
 |nil=>simp_all
 |cons a _ I=>
  intro v H;rcases Zj.mp H with rfl|H
  ·obtain⟨t,b⟩:=PU a;simp_all
  simp_all
theorem Bj{k:Li}{Q:Bool->Nl->Prop}(x:cN prog w s.heap k a)(q:Q Nk s):wpAny (model prog w) A (ofAClassStatement 8 (.ref a)) Q E s:=by
 have c:=x.typeIs;obtain⟨o,items,n,f,_,d,e⟩:=x;have h:=Bi e;unfold ofAClassStatement;refine Za (OU c ?_);refine Za (Zd ?_);refine Za (Z4 f d ?_);refine Za ?_;rw[<-Sq];refine OV _ (λR r S=>r.1=none/\S=s/\∀v∈R,∃i t,v=Pd i t) _ ?_ ?_ _ _ ⟨rfl,rfl,h⟩
 ·rintro v R r S ⟨H,rfl,b⟩;obtain⟨i,t,rfl⟩:=b v Ze;exact Zd ⟨rfl,rfl,λu g=>b u (Zc _ g)⟩
 ·rintro⟨j,l⟩ S ⟨H,rfl,_⟩;subst H;exact Zd q
theorem Bk{k:Li}{Q:Bool->Nl->Prop}(x:cN prog w s.heap k a)(q:Q Nj s):wpAny (model prog w) A (hashByValue 8 (.ref a)) Q E s:=by
 have c:=x.typeIs;obtain⟨o,items,n,f,_,d,e⟩:=x;have h:=Bi e;refine Za (wpAny_specialOf c F.slot_tuple_hash.lookup ?_);refine Za (Z4 f d ?_);refine Za ?_;rw[<-Sq];refine OV _ (λR r S=>r.1=none/\S=s/\∀v∈R,∃i t,v=Pd i t) _ ?_ ?_ _ _ ⟨rfl,rfl,h⟩
 ·rintro v R r S ⟨H,rfl,b⟩;obtain⟨i,t,rfl⟩:=b v Ze;exact Zd ⟨rfl,rfl,λu g=>b u (Zc _ g)⟩
 ·rintro⟨j,l⟩ S ⟨H,rfl,_⟩;subst H;exact Zd q
theorem uJ{k:Li}{b:Nm}(x:cN prog w s.heap k b)(l:Lv){Q:Bool->Nl->Prop}(e:∀v∈l,∃K a,v=.ref a/\cN prog w s.heap K a)(q:Q Nk s):wpAny (model prog w) A (searchCouldBeSeen (.ref b) l) Q E s:=by
 refine Za ?_;refine OV _ (λR r S=>r.1=none/\S=s/\∀v∈R,v∈l) _ ?_ ?_ _ _ ⟨rfl,rfl,λ_ h=>h⟩
 ·rintro v R r S ⟨c,rfl,d⟩;obtain⟨K,a,rfl,y⟩:=e v (d v Ze);have g:=λu f=>d u (Zc _ f);by_cases H:(b==a||carriedByValue (.ref b)&&carriedByValue (.ref a))=Nj
  ·rw[if_pos H];exact Zd ⟨rfl,rfl,g⟩
  ·rw[if_neg H];refine Za (Tf x ?_);refine Za (Tf y ?_);exact Za (Bj x (Za (Bj y (Zd ⟨rfl,rfl,g⟩))))
 ·rintro⟨i,j⟩ S ⟨c,rfl,_⟩;subst c;exact Zd q
end Py
namespace Py
open SetTable (Probe turns)
theorem Bl{t:NE}(f:ix t.place){hashAt:Nat->Int}{h:Int}{p:Nat->Probe}{n:Nat}(b:∀m,m<n->(p m).j∈t.place.toList):∀(d m:Nat),n-m=d->m<=n->
  ∃M,m<=M/\M<=n/\(∀i,m<=i->i<M->∃q,t.slot (p i).j=.live q/\hashAt q≠h)/\(M=n\/∃q,t.slot (p M).j=.live q/\hashAt q=h)
 |0,m,e,a=>⟨m,Zh _,a,λi c H=>by grind,.inl (by grind)⟩
 |d+1,m,e,a=>by
  obtain⟨q,_,_,l⟩:=Bc f (b m (by omega));by_cases z:hashAt q=h
  ·exact⟨m,Zh _,a,λi c H=>by lia,.inr ⟨q,l,z⟩⟩
  ·obtain⟨M,c,H,o,g⟩:=Bl f b d (m+1) (by grind) (by lia);refine⟨_,by lia,H,λi j k=>?_,g⟩
   grind
noncomputable def bn(prog:Nt)(w:NF)(c:Li×Nm):Int×Nn:=(hK prog w c.1,.ref c.2)
theorem n_:∀m∈[7,31,127],(m%2==0)=Nk:=by decide
theorem IM{b:Nm}{t:NE}(g:s.heap.get? a=some o)(d:o.data=.set (cs.map (bn prog w)).toArray ep t)(x:Tk t (cs.map λc=>hK prog w c.1))(key:∀c∈cs,cN prog w s.heap c.1 c.2)
  {k:Li} (hx:cN prog w s.heap k b) (hu:A.units<cLine)  (hn:n<10*turns t.mask) (D:(pos t.mask (e9 t.mask (hK prog w k)) n).j∉t.place.toList) (O:∀m,m<n->(pos t.mask (e9 t.mask (hK prog w k)) m).j∈t.place.toList)
  {Q:SetFound->Nl->Prop} (T:k∈cs.map (·.1)->Q (.there none) s) (F:k∉cs.map (·.1)->Q (.free (pos t.mask (e9 t.mask (hK prog w k)) n).j Nk) s):
  ∀(f m:Nat) (st:Option Probe),n-m<f->m<=n->st.getD (t.probeStart (hK prog w k))=pos t.mask (e9 t.mask (hK prog w k)) m->(∀i,i<m->∀(q:Nat) (c),t.slot (pos t.mask (e9 t.mask (hK prog w k)) i).j=.live q->cs[q]?=some c->c.1≠k)->
   wpAny (model prog w) A (setSearchFrom a (.ref b) (hK prog w k) Nj f st) Q E s:=by
 have hsz:(cs.map (bn prog w)).toArray.size=(cs.map λc=>hK prog w c.1).length:=by simp
 have P:t.fits (cs.map (bn prog w)).toArray.size=Nj:=by rw[hsz];exact x.fits.2
 have hpl:t.place.size=cs.length:=by rw[x.siz,Zk]
 have X:∀q:Nat,(cs.map (bn prog w)).toArray[q]?=cs[q]?.map (bn prog w):=λq=>by simp
 generalize hP:(λm=>pos t.mask (e9 t.mask (hK prog w k)) m)=p;have H:∀m,pos t.mask (e9 t.mask (hK prog w k)) m=p m:=λm=>congrFun hP m;intro f
 induction f with
 |zero=>intro m st h;omega
 |succ f ih=>
  intro m st hf hm hst Y;obtain⟨M,h1,h2,h3,h4⟩:=Bl (hashAt:=λi=>(((cs.map (bn prog w)).toArray[i]?).map (·.1)).getD 0) (h:=hK prog w k) x.ris (p:=p) (n:=n) (λm hm=>by rw[<-H];exact O m hm) (n-m) m rfl hm;have K:∀i,pos t.mask (p m) i=p (m+i):=λi=>by rw[<-H,<-H,i9]
  obtain⟨g1,g2⟩:=Be (t:=t) (hashAt:=λi=>(((cs.map (bn prog w)).toArray[i]?).map (·.1)).getD 0) (h:=hK prog w k) (M-m) (10*turns t.mask) (p m) (by omega) (by rw[<-H,uH];rfl) (λi hi=>by rw[K];exact h3 (m+i) (by omega) (by omega));rw[K,show m+(M-m)=M by omega]at g1 g2;rw[K,show m+(M-m+1)=M+1 by omega]at g2;have U:∀(q:Nat) (c),cs[q]?=some c->(((cs.map (bn prog w)).toArray[q]?).map (·.1)).getD 0=hK prog w c.1:=λq c e=>by rw[X,e];rfl
  unfold setSearchFrom;refine Za (NQ g d P ?_);dsimp only;refine Pu ?_;rw[if_neg (by unfold SetTable.gaveWay;rw[n_ _ x.msk];decide),hst,H];generalize hz:t.probe _ _ _=met;rcases h4 with rfl| ⟨q,I,hh⟩
  ·have V:t.slot (p M).j=.empty:=Bd x.dum (by rw[<-H];exact D);have e:met=some (.empty (p M).j none):=hz.symm.trans (g1 V);subst e;dsimp only;rw[H]at F;refine Zd (F λL=>?_);obtain⟨c,hc,rfl⟩:=Zp.mp L;obtain⟨q,I,e⟩:=ZJ.mp hc;have hqp:q<t.place.size:=by omega
   have j:=Bb x.ris hqp;have l:cs[q]?=some c:=by rw[Zi I,e]
   obtain⟨N,e0,f0⟩:=x.fnd (hK prog w c.1,t.place[q]) (by refine ZJ.mpr ⟨q,by simp;omega,?_⟩;simp[e]);have e0:(p N).j=t.place[q]:=by rw[<-H];exact e0
   have hin:(p N).j∈t.place.toList:=by rw[e0];simp
   have hlt:N<M:=by
    by_cases z:N<M
    ·exact z
    ·by_cases zz:N=M
     ·subst zz;exact absurd (by rw[H];exact hin) D
     ·exact absurd (f0 M (by omega)) D
   rw[<-e0]at j;by_cases zz:N<m
   ·exact Y N zz q c (by rw[H];exact j) l rfl
   ·obtain⟨q',Z,C⟩:=h3 N (by omega) hlt;rw[j]at Z;cases Z;exact C (U q c l)
  ·have e:met=some (.candidate (p M).j q (p (M+1))):=hz.symm.trans (g2 q I hh);subst e;dsimp only
   have hmn:M<n:=by
    by_cases z:M=n
    ·subst z;rw[Bd x.dum (by rw[<-H];exact D)]at I;cases I
    ·omega
   obtain⟨q',hq1,hq2,hq3⟩:=Bc x.ris (O M hmn);rw[H,I]at hq3;cases hq3;have hqc:q<cs.length:=by omega
   obtain⟨c,l⟩:∃c,cs[q]?=some c:=⟨_,Zi hqc⟩;have G:=Zq l;have hy:=key c G;have W:(cs.map (bn prog w)).toArray[q]?=some (hK prog w c.1,.ref c.2):=by rw[X,l];rfl
   have R:wpAny (model prog w) A (do
     let some (_,y):=(cs.map (bn prog w)).toArray[q]? |unsupported "internal:set-entry"
     let u <-holding [y] (eqBool y (.ref b))
     let(es',_,t') <-setState a
     if Nj&&u then return SetFound.there none
     let some same:=t'.sameMemory t.moves t.mask|unsupported "set.changed-during-lookup:is-the-new-block-at-the-old-address"
     let S <-match(if same then t'.slot (p M).j else .empty)with
      | .live i'=>match es'[i']? with
       |some (_,y')=>do pure (if <-isSame y' y then some i' else none)
       |none=>pure none
      |_=>pure none
     match S with
     |none=>rule "set.search.anew";setSearchFrom a (.ref b) (hK prog w k) Nj f none
     |some i'=>if u then return .there (some i')else setSearchFrom a (.ref b) (hK prog w k) Nj f (some (p (M+1)))) Q E s:=by
    rw[W];dsimp only;refine Za (ZB (wpAny_eqBool_tuple hu hy hx ?_));refine Za (NQ g d P ?_);dsimp only;by_cases L:c.1=k
    ·rw[ZV L];exact Zd (T (Zp.mpr ⟨c,G,L⟩))
    ·rw[ZE L];have hsm:t.sameMemory t.moves t.mask=some Nj:=by unfold SetTable.sameMemory;rw[if_pos (beq_self_eq_true _)]
     rw[hsm];dsimp only;simp only[Bool.and_false,Zt,if_false,if_true];rw[I];dsimp only;rw[W];dsimp only;refine Za (wpAny_isSame_ref_self (Za (Zd ?_)));rw[if_pos rfl];dsimp only;refine ih (M+1) (some (p (M+1))) (by omega) (by omega) (by rw[H];rfl) λi hi q' c' B r=>?_;rw[H]at B;by_cases z:i<m
     ·exact Y i z q' c' (by rw[H];exact B) r
     ·by_cases zz:i=M
      ·subst zz;rw[I]at B;cases B;rw[l]at r;cases r;exact L
      ·obtain⟨q2,J,C⟩:=h3 i (by omega) (by omega);rw[B]at J;cases J;rw[U _ _ r]at C;exact λe=>C (by rw[e])
   by_cases hl:t.led=Nj
   ·rw[hl];exact R
   ·rw[SU.mpr hl];refine Pu ?_;rw[if_pos (by decide)];refine Za (uJ hx _ (λv hv=>?_) ?_)
    ·obtain⟨e,he,rfl⟩:=Zp.mp hv;have he2:=(Array.mem_filter.mp (Array.mem_toList_iff.mp he)).1;have he3:e∈cs.map (bn prog w):=by simpa using he2
     obtain⟨c2,r,rfl⟩:=Zp.mp he3;exact⟨c2.1,c2.2,rfl,key c2 r⟩
    ·exact R
end Py
namespace Py
open SetTable (Probe turns)
def IP(prog:Nt)(w:NF)(h:Nw)(a:Nm)(cs:List (Li×Nm)):Prop:=∃o ep t,h.get? a=some o/\o.ExactSet/\o.data=.set (cs.map (bn prog w)).toArray ep t/\t.led=(!e_ w)/\t.plain=Nj/\Tk t (cs.map λc=>hK prog w c.1)
structure dz (prog:Nt)(w:NF)(h:Nw)(a:Nm)(cs:List (Li×Nm)):Prop where
 obj:IP prog w h a cs
 key:∀c∈cs,cN prog w h c.1 c.2
 nod:(cs.map (·.1)).Nodup
theorem dz.kept(x:dz prog w h a cs)(k:∀b o,h.get? b=some o->(b=a\/∃c∈cs,b=c.2)->h'.get? b=some o):dz prog w h' a cs:=by obtain⟨⟨o,E,t,g,r⟩,y,z⟩:=x;exact⟨⟨o,_,t,k a o g (.inl rfl),r⟩,λc H=>(y c H).kept λo e=>k _ o e (.inr ⟨c,H,rfl⟩),z⟩
theorem Bm{t t':NE}(g:h.get? a=some o)(E:o.ExactSet)(d:o.data=.set es ep t):
  ∃o',(h.update a (PQ es' t')).get? a=some o'/\o'.ExactSet/\o'.data=.set es' (ep+1) t':=by
 have e:(h.update a (PQ _ t')).get? a=some _:=ZM _ g (by rw[SA es' _ d];rfl);rw[SA _ _ d]at e;exact⟨_,e,E,rfl⟩
theorem og{t:NE}{Q:Unit->Nl->Prop}(g:s.heap.get? a=some o)(m:o.ExactSet)(d:o.data=.set (cs.map (bn prog w)).toArray ep t)(F:t.fits cs.length=Nj)
  (q:eN (Ot wanted-1)) (r:cs.length*5<(Ot wanted-1)*3) (hw:Ot wanted<=128) (l:t.led=(!e_ w)) (pl:t.plain=Nj)
  (fin:∀h' C,NW a s.heap h'->C.Perm cs->IP prog w h' a C->Q () {s with heap:=h'}):wpAny (model prog w) A (setRelay a wanted) Q E s:=by
 obtain⟨T,O,b,P,f,i,x⟩:=II (t:=t) (hs:=cs.map λc=>hK prog w c.1) (wanted:=wanted) q (by grind);rw[Zk]at P;have p:(O.toList.filterMap (cs[·]?)).Perm cs:=by refine(P.filterMap _).trans (.of_eq ?_);have:=Qb cs.toArray;simpa using this
 have X:Tk T ((O.toList.filterMap (cs[·]?)).map λc=>hK prog w c.1):=by
  grind
 have j:O.filterMap ((cs.map (bn prog w)).toArray[·]?)=((O.toList.filterMap (cs[·]?)).map (bn prog w)).toArray:=by apply Rg;rw[RA,List.map_filterMap];simp_all
 have n:(cs.map (bn prog w)).toArray.map (·.1)=(cs.map λc=>hK prog w c.1).toArray:=by rw[List.map_toArray,ZW];rfl
 unfold setRelay;refine Za (NQ g d (by grind) ?_);dsimp only;refine Pu ?_;rw[if_neg (by rw[N5];omega),n,b];refine Za ?_;show wpAny _ _ (if((O.filterMap ((cs.map (bn prog w)).toArray[·]?)).size !=(cs.map (bn prog w)).toArray.size)=Nj then _ else _) _ _ _;rw[j];generalize O.toList.filterMap (cs[·]?)=C at p X
 have h:(C.map (bn prog w)).toArray.size=(cs.map (bn prog w)).toArray.size:=by rw[Zu,Zu,Zk,Zk,p.length_eq]
 rw[h,bne_self_eq_false,if_neg (by decide)];refine Zd (P_ g d ?_ ?_)
 ·obtain⟨o1,G,e,d1⟩:=Bm (es':=(C.map (bn prog w)).toArray) (t':=T) g m d;exact fin _ C (ZX ..) p ⟨o1,_,T,G,e,d1,f.trans l,i.trans pl,X⟩
 ·refine P' ?_;rw[Zu,Zk,p.length_eq];unfold scanBound
  grind
theorem Bn{b:Nm}{k:Li}{Q:Bool->Nl->Prop}(x:dz prog w s.heap a cs)(hx:cN prog w s.heap k b)(hu:A.units<cLine)(few:cs.length<76)
  (fin:∀h' C r,NW a s.heap h'->dz prog w h' a C->(∀K,K∈C.map (·.1)↔K∈cs.map (·.1)\/K=k)->(∀c∈C,c∈cs\/c=(k,b))->C.length<=cs.length+1->Q r {s with heap:=h'}):
  wpAny (model prog w) A (setAddHashed a (.ref b) (hK prog w k)) Q E s:=by
 obtain⟨o,ep,t,g,ex,d,M,W,T⟩:=x.obj;have N:∀{K:Li} {Y:Nm},cN prog w s.heap K Y->Y≠a:=λ{K Y} y e=>by obtain⟨o',_,_,g',_,d',_⟩:=y;subst e;rw[g]at g';cases g';rw[d]at d';cases d'
 have F:t.fits (cs.map (bn prog w)).toArray.size=Nj:=by have:=T.fits.2;rw[Zk]at this;rw[Zu,Zk];exact this
 have hsz:t.place.size=cs.length:=by rw[T.siz,Zk]
 obtain⟨n,hn,J,B⟩:=IC T.msk (pl:=t.place.toList) (by rw[ZG];exact T.fits.1) (hK prog w k);have hmsk:=(by simpa[eN]using T.msk:t.mask=7\/t.mask=31\/t.mask=127);unfold setAddHashed setAddHashedIn;refine ZB (Za (NQ g d F ?_));dsimp only;refine Pu ?_;rw[if_neg (show ¬byScan (.ref b) (cs.map (bn prog w)).toArray=Nj by unfold byScan;rw[show(NA b).scannable=Nk from rfl];simp)];unfold setSearch;refine Za (IM g d T x.key hx hu hn J B (λhin=>?_) (λL=>?_) 100000 0 none (by unfold turns at hn;omega) (Z6 _) rfl (λi hi=>by omega))
 ·exact Zd (fin s.heap cs Nk (Rr ..) x (λK=>⟨.inl,λz=>z.elim id λe=>e▸hin⟩) (λc l=>.inl l) (Sl _))
 ·dsimp only;refine Za (NQ g d F ?_);dsimp only;obtain⟨p1,p2,O,R,p5,V,p7,p8⟩:=T.put J B;generalize(pos t.mask (e9 t.mask (hK prog w k)) n).j=j at*;rw[Zk]at O;refine Pu ?_;rw[if_pos (show(t.put j).1.plain=Nj from V.trans W)];refine Za (Bk hx ?_);simp only[if_true];generalize hput:t.put j=r at*;obtain⟨u,p⟩:=r;dsimp only at p1 p2 O R p5 V p7 p8⊢;have Z:Ny (cs.map (bn prog w)).toArray p (hK prog w k,NA b)=((cs.take p++(k,b)::cs.drop p).map (bn prog w)).toArray:=by apply Rg;rw[PJ,OY,NX,Qz,Pm];rfl
  have hhs:(cs.take p++(k,b)::cs.drop p).map (λc=>hK prog w c.1)=(cs.map λc=>hK prog w c.1).take p++hK prog w k::(cs.map λc=>hK prog w c.1).drop p:=by simp
  rw[<-hhs]at p8;rw[Z];have pm:(cs.take p++(k,b)::cs.drop p).Perm ((k,b)::cs):=by refine Pj.trans (.cons _ (.of_eq (R3 p cs)))
  generalize cs.take p++(k,b)::cs.drop p=f at p8 pm⊢;have H:f.length=cs.length+1:=by rw[pm.length_eq,ZS]
  have jh:(f.map (bn prog w)).toArray.size<scanBound:=by rw[Zu,Zk];unfold scanBound;omega
  have G:(cs.map (bn prog w)).toArray.size=cs.length:=by simp
  refine Za (P_ g d ?_ (P' jh));obtain⟨o1,g1,v,d1⟩:=Bm (es':=(f.map (bn prog w)).toArray) (t':=u) g ex d;have S:=ZX s.heap a (PQ (f.map (bn prog w)).toArray u)
  have D:∀h' C,NW a s.heap h'->C.Perm f->IP prog w h' a C->Q Nj {s with heap:=h'}:=λh' C X P ob=>by
   have q:=P.trans pm;have pk:∀c∈C,c∈cs\/c=(k,b):=λc l=>by grind
   refine fin h' C Nj X ⟨ob,λc l=>?_,?_⟩ (λK=>?_) pk (by rw[q.length_eq];exact Zh _)
   ·have y:cN prog w s.heap c.1 c.2:=by
     rcases pk c l with e|e
     ·exact x.key c e
     ·rw[e];exact hx
    exact y.kept λo e=>by rw[X.2 c.2 (N y)];exact e
   ·refine((q.map (·.1)).nodup_iff).mpr ?_;rw[NX,Og];exact⟨L,x.nod⟩
   ·rw[(q.map (·.1)).mem_iff,NX,Zj];exact Or.comm
  have h:u.fill=cs.length+1:=by unfold PH;rw[O,p1];rfl
  cases U:u.tooFull with
  |false=>rw[if_neg (by decide)];refine Zd (D _ f S (.refl _) ⟨o1,_,u,g1,v,d1,p5.trans M,V.trans W,p1,p2,by rw[Zk,O,H],by rw[R];exact T.msk,U,by rw[R];exact p8⟩)
  |true=>
   rw[if_pos (by decide),G];refine Za ?_;have hfull:(cs.length+1)*5>=t.mask*3:=by unfold PX at U;rw[h,R]at U;exact ZU U
   have hnot:¬(cs.length*5>=t.mask*3):=by have:=T.ful;unfold PX PH at this;rw[T.dum,hsz]at this;exact of_decide_eq_false this
   have I:u.fits f.length=Nj:=by
    unfold Q3;rw[h,O,H,R];have:cs.length+1<=t.mask:=by omega
    simp[this]
   have l:cs.length+1=5\/cs.length+1=19:=by omega
   refine og (s:={s with heap:=s.heap.update a (PQ (f.map (bn prog w)).toArray u)}) (cs:=f) g1 v d1 I ?_ ?_ ?_ (p5.trans M) (V.trans W) λh' C X P ob=>Zd (D h' C (S.trans X) P ob)
   ·rcases l with e|e<;>rw[e]<;>(unfold eN;decide+kernel)
   ·rw[H];rcases l with e|e<;>rw[e]<;>decide+kernel
   ·rcases l with e|e<;>rw[e]<;>decide+kernel
end Py
namespace Py
def hY(e:Int×Nn):Int:=match e.2 with
 | .int k _=>k
 |_=>0
section
theorem kH{l:List (Int×Nn)}(h:SV (intKind prog w) l):∀e∈l,∃t,e.2=.int (hY e) t:=λe H=>by obtain⟨⟨k,a,_⟩,_⟩:=h e H;obtain⟨t,b⟩:=PU a;refine⟨t,?_⟩;unfold hY;rw[b]
theorem uK{l:List (Int×Nn)}(h:SV (intKind prog w) l)(k:Int):(∃e∈l,(intKind prog w).is k e.2=Nj)↔k∈l.map hY:=by
 rw[Zp];constructor
 ·rintro⟨e,H,b⟩;obtain⟨t,a⟩:=PU b;exact⟨e,H,by unfold hY;rw[a]⟩
 ·rintro⟨e,H,rfl⟩;obtain⟨t,a⟩:=kH h e H;exact⟨e,H,by rw[a];exact R5 _ _ _ _⟩
variable {R:Qp->Nl->Prop}{P:Nat->Nn->Prop}{St:Nat->Nw->Prop}
end
noncomputable def cT(l:Bool)(ks:List Nat):NE:={mask:=if ks.length<=4 then 7 else 31,place:=ks.toArray,dummies:= #[],finger:=0,led:=l,moves:=if ks.length<=4 then 0 else 1,plain:=Nj}
noncomputable def oh:List Nat->List (List Nat)
 | []=>[[]]
 |a::l=>oh l++(oh l).map (a:: ·)
noncomputable def cO(v:Nat)(ks:List Nat):List Nat:=ks.takeWhile (· <v)++v::ks.dropWhile (· <v)
def tP(l:Bool)(v:Nat)(ks:List Nat):NE:=((cT l ks).put v).1
theorem uL:∀led:Bool,∀ks∈oh [0,1,2,3,4,5,6,7],∀v∈[0,1,2,3,4,5,6,7],v∉ks->
  (cT led ks).freeSlot (v:Int)=some (v,Nk)/\((cT led ks).put v).2=(ks.takeWhile (· <v)).length/\(tP led v ks).fits (ks.length+1)=Nj/\(tP led v ks).plain=Nj/\
  ((tP led v ks).tooFull=Nk->tP led v ks=cT led (cO v ks))/\
  ((tP led v ks).tooFull=Nj->(tP led v ks).relaid ((cO v ks).map λk:Nat=>(k:Int)).toArray (SD (ks.length+1))=some (cT led (cO v ks),R6 (ks.length+1))/\(cT led (cO v ks)).fits (ks.length+1)=Nj/\coversAll (R6 (ks.length+1)) (ks.length+1)=Nj):=by
 decide+kernel
abbrev p8:List (List Nat):=oh [0,1,2,3,4,5,6,7]
theorem i_:∀ks∈p8,ks.Pairwise (· < ·)/\(∀k∈ks,k<8)/\ks.length<=8/\(∀led:Bool,(cT led ks).fits ks.length=Nj)/\∀v∈[0,1,2,3,4,5,6,7],v∉ks->cO v ks∈p8:=by decide+kernel
theorem Bo:∀v∈[0,1,2,3,4,5,6,7],hashInt (v:Nat)=((v:Nat):Int):=by decide+kernel
theorem kI{v:Nat}(h:v<8):v∈[0,1,2,3,4,5,6,7]:=by exact(by decide:∀n:Fin 8,n.val∈[0,1,2,3,4,5,6,7]) ⟨v,h⟩
theorem kJ(v:Nat)(ks:List Nat):ks.take (ks.takeWhile (· <v)).length=ks.takeWhile (· <v)/\ks.drop (ks.takeWhile (· <v)).length=ks.dropWhile (· <v):=by
 have h:ks.takeWhile _++ks.dropWhile (· <v)=ks:=Ol
 grind
def kK(k:Nat):Int×Int:=((k:Int),(k:Int))
def gr(e:Int×Nn):Int×Int:=(e.1,hY e)
theorem oj{v:Nat}{tok:Tok}(h:es.toList.map gr=ks.map kK):(Ny es (ks.takeWhile (· <v)).length ((v:Int),.int v tok)).toList.map gr=(cO v ks).map kK:=by rw[PJ,OY,NX,Qz,Pm,h,<-Qz,<-Pm,(kJ v _).1,(kJ v _).2];unfold cO;rw[OY];rfl
theorem IQ(es:Array α):(R6 es.size).filterMap (es[·]?)=es:=by apply Rg;rw[RA,Array.toList_range];exact Qb _
theorem Bp{v:Nat}{x:Nn}(b:ks∈p8)(d:v<8)(c:v∉ks)(hs:es.size=ks.length):layNew (cT led ks) es (v:Int) x=(Ny es (ks.takeWhile (· <v)).length ((v:Int),x),tP led v ks,Nk,Nk):=by
 obtain⟨h,H,a,_⟩:=uL _ _ b v (kI d) c;unfold layNew;rw[h];dsimp;have e:(Ny es ((cT led ks).put v).2 (v,x)).size=ks.length+1:=by rw[<-ZG,(P5 _ _ _).length_eq,ZG,Te,hs]
 rw[e,<-H];unfold SetTable.orStandIn;rw[show((cT _ _).put v).1.fits _=Nj from a];rfl
theorem om{e:Array (Int×Nn)}{v:Nat}(i:ks∈p8)(l:v<8)(j:v∉ks)(h:e.toList.map gr=(cO v ks).map kK)(f:(tP led v ks).tooFull=Nj):relayAll (tP led v ks) e (SD e.size)=(e,cT led (cO v ks),Nk):=by
 obtain⟨_,_,_,_,_,a⟩:=uL _ _ i v (kI l) j;obtain⟨b,c,d⟩:=a f
 have H:e.size=ks.length+1:=by
  have:=Z2 Oh h;simp only[Zk,Zk,ZG]at this;have m:(cO v ks).length=ks.length+1:=by unfold cO;rw[Zn,ZS,<-RB,<-Zn,Ol]
  simp_all
 have g:e.map (·.1)=((cO v ks).map λk:Nat=>(k:Int)).toArray:=by apply Rg;rw[SW];have:=Z2 (QK (·.1)) h;rw[ZW,ZW]at this;exact this
 dsimp only[relayAll];rw[g,H,b];dsimp;rw[<-H,IQ,H,c,d];rfl
structure c9 (prog:Nt)(w:NF)(h:Nw)(a:Nm)(ks:List Nat)(es:Array (Int×Nn)):Prop where
 obj:∃o ep,h.get? a=some o/\o.ExactSet/\o.data=.set es ep (cT (!e_ w) ks)
 ent:es.toList.map gr=ks.map kK
 els:SV (intKind prog w) es.toList
 pow:ks∈p8
theorem c9.size(x:c9 prog w h a ks es):es.size=ks.length:=by have:=Z2 Oh x.ent;simp_all
theorem c9.kept(x:c9 prog w h a ks es)(k:∀o,h.get? a=some o->h'.get? a=some o):c9 prog w h' a ks es:=by obtain⟨⟨o,e,q,r⟩,z,Z,b⟩:=x;exact⟨⟨o,_,k o q,r⟩,z,Z,b⟩
theorem c9.born(h:Nw):c9 prog w (h.push (cM (!e_ w))) h.objs.size [] #[]:=⟨⟨_,0,Zg _ rfl,⟨rfl,rfl,rfl⟩,rfl⟩,rfl,λe H=>by simp_all,by decide+kernel⟩
theorem Bq{t t':NE}(g:h.get? a=some o)(E:o.ExactSet)(d:o.data=.set es ep t):
  ∃o',(h.update a (PQ es' t')).get? a=some o'/\o'.ExactSet/\o'.data=.set es' (ep+1) t':=by
 have e:(h.update a (PQ _ t')).get? a=some _:=ZM _ g (by rw[SA es' _ d];rfl);rw[SA _ _ d]at e;exact⟨_,e,E,rfl⟩
theorem Br{v:Nat}{tok:Tok}{Q:Bool->Nl->Prop}(x:c9 prog w s.heap a ks es)(u:v<8)
  (fin:∀h' K es' b,NW a s.heap h'->c9 prog w h' a K es'->(∀k,k∈K↔k∈ks\/k=v)->Q b {s with heap:=h'}):
  wpAny (model prog w) A (setAddHashed a (.int v tok) ((intKind prog w).hash v)) Q E s:=by
 obtain⟨⟨o,ep,g,W,d⟩,n,y,C⟩:=id x;have R:=x.size;obtain⟨_,low,len,t,more⟩:=i_ ks C;have F:(cT (!e_ w) ks).fits es.size=Nj:=by rw[R];exact t _
 have J:es.size<scanBound:=by rw[R];unfold scanBound;omega
 have B:(intKind prog w).is (v:Int) (.int v tok)=Nj:=R5 _ _ _ _
 have G:∀(b:Bool) (z:Nl) (D:Unit->Nl->Prop),D () z->wpAny (model prog w) A (match b with|true=>rule "set.scan.the-table-gave-way"|false=>pure ()) D E z:=λb z D q=>by
  cases b
  ·exact Zd q
  ·exact O' q
 have l:(∃e∈es.toList,(intKind prog w).is (v:Int) e.2=Nj)↔v∈ks:=by
  rw[uK y];have:=Z2 (QK (·.2)) n;rw[ZW,ZW]at this;rw[show es.toList.map hY=ks.map λk:Nat=>(k:Int)from this,Zp];constructor
  ·rintro⟨k,B,e⟩;have:k=v:=by omega
   exact this▸B
  ·exact λh=>⟨v,h,rfl⟩
 have H:(intKind prog w).hash (v:Int)=(v:Int):=Bo v (kI u);unfold setAddHashed setAddHashedIn;refine ZB (Za (NQ g d F ?_));dsimp only;rw[byScan_of (knd:=intKind prog w) rfl J y,if_pos rfl];unfold setAddByScan;refine Za (Za (O' (Za (wpAny_setScan_of B g d F y ?_))));cases V:List.findIdx? (λe=>(intKind prog w).is (v:Int) e.2) es.toList with
 |some j=>obtain⟨Z,hp,_⟩:=List.findIdx?_eq_some_iff_getElem.mp V;have O:=l.mp ⟨_,QV Z,hp⟩;exact Zd (Zd (fin s.heap ks es Nk (Rr a s.heap) x λk=>⟨.inl,λz=>z.elim id λe=>e▸O⟩))
 |none=>
  have N:v∉ks:=λz=>by obtain⟨e,Y,q⟩:=l.mpr z;have:=List.findIdx?_eq_none_iff.mp V e Y;rw[q]at this;cases this
  obtain⟨_,_,ft,pl,nf,fu⟩:=uL (!e_ w) ks C v (kI u) N;have M:hashByValue 8 (.int v tok)=pure Nj:=hashByValue_scannable 8 rfl
  have i:∀k,k∈cO v ks↔k∈ks\/k=v:=λk=>by
   unfold cO;rw[ZR,Zj];have:ks.takeWhile (· <v)++ks.dropWhile (· <v)=ks:=Ol;rw[<-Z2 (k∈ ·) this];rw[ZR];constructor
   ·rintro(h|h|h)
    ·exact .inl (.inl h)
    ·exact .inr h
    ·exact .inl (.inr h)
   ·rintro((h|h)|h)
    ·exact .inl h
    ·exact .inr (.inr h)
    ·exact .inr (.inl h)
  have c:=oj (v:=v) (tok:=tok) n;have m:SV (intKind prog w) (Ny es (ks.takeWhile (· <v)).length ((v:Int),.int v tok)).toList:=by have p:=P5 es (ks.takeWhile (· <v)).length ((v:Int),Pd v tok);rw[SE]at p;have q:=y.push B (x:=.int v tok) rfl;rw[H]at q;exact q.perm p
  have P:=more v (kI u) N;dsimp only;rw[H,Bp C u N R];generalize Ny es (ks.takeWhile (· <v)).length ((v:Int),Pd v tok)=f at c m⊢
  have jh:f.size<scanBound:=by
   have:=Z2 Oh c;rw[Zk,Zk,ZG]at this;have h2:(cO v ks).length=ks.length+1:=by unfold cO;rw[Zn,ZS,<-RB,<-Zn,Ol]
   unfold scanBound;omega
  dsimp only;refine Za (G Nk s _ ?_);rw[if_pos pl];refine Za ?_;rw[M];refine Zd ?_;simp only[if_true];refine Za (P_ g d ?_ (P' jh));obtain⟨o1,L,r,d1⟩:=Bq (es':=f) (t':=tP (!e_ w) v ks) g W d;have S:=ZX s.heap a (PQ f (tP (!e_ w) v ks));cases U:(tP (!e_ w) v ks).tooFull with
  |true=>simp only[Bool.not_false,Bool.and_self,if_true];rw[om C u N c U];refine Za (G Nk _ _ (Za (P_ L d1 (Zd (Zd ?_)) (P' jh))));obtain⟨o2,X,I,d2⟩:=Bq (es':=f) (t':=cT (!e_ w) (cO v ks)) L r d1;exact fin _ _ f Nj (S.trans (ZX _ a _)) ⟨⟨o2,_,X,I,d2⟩,c,m,P⟩ i
  |false=>simp only[Bool.not_false,Bool.and_false,Zt,if_false];rw[nf U]at d1;exact Zd (Zd (fin _ _ f Nj S ⟨⟨o1,_,L,r,d1⟩,c,m,P⟩ i))
section
variable {R:Qp->Nl->Prop}{P:Nat->Nn->Prop}{St:Nat->Nw->Prop}
theorem uM(W:Walks prog w A.in1 I fp wr n P St)(S:Nm)(out:S∉fp)(val:Nat->Int)(H:∀i v,P i v->∃t,v=.int (val i) t)(low:∀i,i<n->0<=val i/\val i<8):
  ∀(k i:Nat) (s:Nl) (ks:List Nat) (es:Array (Int×Nn)),n-i=k->i<=n->St i s.heap->c9 prog w s.heap S ks es->(∀k:Nat,k∈ks↔∃j,j<i/\val j=k)->
  (∀h' tk d es',(∀b o,b∉wr->b≠S->s.heap.get? b=some o->h'.get? b=some o)->c9 prog w h' S d es'->(∀k:Nat,k∈d↔∃j,j<n/\val j=k)->R (.ok (.ret .none)) {s with heap:=h',toks:=tk})->
  codeAny (model prog w) A (.builtin "set.update.loop" ⟨[.ref S,.ref I],[]⟩) R s:=by
 have L:S∉wr:=λz=>out (W.sub S z);intro k
 induction k with
 |zero=>
  intro i s ks es O Q a x y fin;obtain rfl:i=n:=by omega
  exact Z5 O4 (by rw[Z1 N6];exact Za (W.done s _ _ a λh' tk K=>Zd (fin h' tk ks es (λb o N _ e=>K b o N e) (x.kept λo e=>K S o L e) y)))
 |succ k Y=>
  intro i s ks es O Q a x y fin;have lt:i<n:=by omega
  refine Z5 O4 ?_;rw[Z1 N6];refine Za (W.item i s _ _ lt a λv h' tk Z c K=>?_);obtain⟨t,rfl⟩:=H i v Z;have x1:c9 prog w h' S ks es:=x.kept λo e=>K S o L e;obtain⟨u,J⟩:∃u:Nat,val i=(u:Int):=⟨(val i).toNat,by have:=low i lt;omega⟩;have p:u<8:=by have:=low i lt;omega
  refine Za (m:=holding [Pd (val i) t] (setAdd S (.int (val i) t))) (ZB ?_);unfold setAdd;refine ZB (Za ((intKind prog w).pyHash (k:=val i) (R5 _ _ _ _) ?_));rw[J];refine Br (s:={s with heap:=h',toks:=tk+1}) x1 p λh2 f E b M x2 l=>?_
  have B:∀k:Nat,k∈f↔∃j,j<i+1/\val j=k:=λk=>by
   rw[l k,y k];constructor
   ·rintro(⟨j,X,e⟩|rfl)
    ·exact⟨j,by omega,e⟩
    ·exact⟨i,by omega,J⟩
   ·rintro⟨j,X,e⟩;by_cases z:j=i
    ·subst z;exact .inr (by omega)
    ·exact .inl ⟨j,by omega,e⟩
  refine Zd ⟨OI N6 _,Y (i+1) _ f E (by omega) lt (W.frame _ _ _ c λb U o e=>?_) x2 B λV D r g q x3 C=>?_⟩
  ·rw[M.2 b λz=>out (z▸U)];exact e
  ·refine fin V D r g (λb o N G e=>q b o N G ?_) x3 C;rw[M.2 b G];exact K b o N e
end
structure Bs (prog:Nt)(w:NF)(A:NV)(s:Nl)(vs:Av)(led:Bool)(Post:Nw->Prop):Prop where
 go:∀{I:Nm} {fp wr:La} {St:Nat->Nw->Prop} {R:Qp->Nl->Prop} (s':Nl),Walks prog w A.in1.in1.in1 I fp wr vs.size (λi v=>vs[i]?=some v) St->s.heap.objs.size∉fp->St 0 s'.heap->(∀b o,(s.heap.push (cM led)).get? b=some o->s'.heap.get? b=some o)->(∀b∈wr,s.heap.objs.size<b)->
   (∀h' tk,(∀b o,b∉wr->b≠s.heap.objs.size->s'.heap.get? b=some o->h'.get? b=some o)->Post h'->R (.ok (.ret .none)) {s' with heap:=h',toks:=tk})->codeAny (model prog w) A.in1.in1 (.builtin "set.update.loop" ⟨[.ref s.heap.objs.size,.ref I],[]⟩) R s'
theorem Bt{t:Nm}{vs:Av}{P:Nw->Prop}(hh:A.handled=none)(B:s.heap.IsList t vs\/s.heap.IsTuple t vs)
  (L:Bs prog w A s vs (!e_ w) P)
  (h:∀(h':Nw) (tk:Nat),P h'->(∀b o,b<s.heap.objs.size->s.heap.get? b=some o->h'.get? b=some o)->Q (.ref s.heap.objs.size) {s with heap:=h',toks:=tk}):wpAny (model prog w) A (call (.type "set") [.ref t]) Q E s:=by
 obtain⟨c,tl,Z⟩:=F.called_set.mro;have U:=F.called_set.made;have hsub:=F.called_set.sub;refine Pt (Qu ?_);show wpAny _ _ (callAny (.type "set") _) _ _ _;refine Zd ⟨PK _ (by decide+kernel),Z5 F.entry_type_call ?_⟩;rw[Around.under_plain (weight_type_call_type "set" [.ref t] []) rfl];have g1:=F.called_set.notType;have g2:=F.called_set.canCreate;have g3:=F.typeCall_set_1 (.ref t)
 repeat(any_goals (first|assumption|wp_step))
 refine OT (IJ (.ref t) (E:=E) (R:=λobj S=>obj=.ref s.heap.objs.size/\S={s with heap:=s.heap.push (cM (!e_ w))}) ⟨rfl,rfl⟩) λr S V=>?_;cases r with
 |error e=>exact V
 |ok fl=>
  cases fl with
  |ret obj=>
   obtain⟨rfl,rfl⟩:=V;generalize(!e_ w)=l at L⊢;have hS:(s.heap.push (cM l)).get? s.heap.objs.size=some (cM l):=Zg _ rfl;have hT:Rj {s with heap:=s.heap.push (cM l)} (.ref s.heap.objs.size) "set":=⟨_,hS,rfl⟩;have hli:=F.called_set.init.lookup;have hbi:=F.called_set.init.bind (.ref s.heap.objs.size)
   repeat(any_goals (first|assumption|wp_step))
   refine OT (OS (R:=wants (λr q=>r=.none/\∃h' tk,q={s with heap:=h',toks:=tk}/\P h'/\
     (∀b o,b<s.heap.objs.size->s.heap.get? b=some o->h'.get? b=some o)) E) F.called_set.init.plain F.entry_set_init (check_set_init_1 hT ?_)) λJ q H=>?_
   ·have D:A.in1.in1.in1.handled=none:=by simp[hh]
    have W:(s.heap.push (cM l)).objs.size=s.heap.objs.size+1:=Oq ..;have G:t<s.heap.objs.size:=by rcases B with⟨_,d,_⟩| ⟨_,d,_⟩<;>exact Zf d
    have n:t≠(s.heap.push (cM l)).objs.size:=by rw[W];exact Zs (P4 G)
    have C:s.heap.objs.size∉[(s.heap.push (cM l)).objs.size,t]:=by rw[W];simp only[Zj,Zw,or_false,not_or];exact⟨Zs (NK _),O9 G⟩
    have x:∀b∈[(s.heap.push (cM l)).objs.size],s.heap.objs.size<b:=λb m=>by rw[W,NU]at m;rw[m];exact NK _
    have p:∀b,b<s.heap.objs.size->b∉[(s.heap.push (cM l)).objs.size]:=λb m z=>by have:=x b z;omega
    rcases B with B|B
    ·obtain⟨⟨I,a,y,O⟩,d,f,nl,g⟩:=B;simp only at f g;subst f;subst g;have k:(s.heap.push (cM l)).get? t=some {cls:=.type "list",dict:=a,data:=.seq vs nl,slots:=O}:=Zb _ d;have q1:=F.sub_list_set;have q2:=F.sub_list_frozenset;have q3:(N3 "list"==N3 "dict")=Nk:=by decide
     have j:(s.heap.push (cM l)).IsList t vs:=⟨_,k,rfl,nl,rfl⟩;unfold N7.«set.__init__» noKeywords Qc;generalize v:pyIter=PI
     wp_walk
     subst v;refine NP j (Za (R7 ?_));exact L.go _ (Walks.list D _ t n vs) C ⟨⟨_,Zg _ rfl,rfl,rfl⟩,(j.push _)⟩ (λb o e=>Zb _ e) x λh' T X Y=>Zd (Zd ⟨rfl,h',T,rfl,Y,λb o m e=>X b o (p b m) (Zs m) (Zb _ (Zb _ e))⟩)
    ·obtain⟨⟨I,a,y,O⟩,d,f,nl,g⟩:=B;simp only at f g;subst f;subst g;have k:(s.heap.push (cM l)).get? t=some {cls:=.type "tuple",dict:=a,data:=.seq vs nl,slots:=O}:=Zb _ d;have q1:=F.sub_tuple_set;have q2:=F.sub_tuple_frozenset;have q3:(N3 "tuple"==N3 "dict")=Nk:=by decide
     have j:(s.heap.push (cM l)).IsTuple t vs:=⟨_,k,rfl,nl,rfl⟩;unfold N7.«set.__init__» noKeywords Qc;generalize v:pyIter=PI
     wp_walk
     subst v;refine N2 j (Za (R7 ?_));exact L.go _ (Walks.tuple D _ t n vs) C ⟨⟨_,Zg _ rfl,rfl,rfl⟩,(j.push _)⟩ (λb o e=>Zb _ e) x λh' T X Y=>Zd (Zd ⟨rfl,h',T,rfl,Y,λb o m e=>X b o (p b m) (Zs m) (Zb _ (Zb _ e))⟩)
   ·cases J with
    |error e=>exact H
    |ok u=>
     cases u with
     |ret r=>
      obtain⟨rfl,h',tk,rfl,M,N⟩:=H
      repeat(any_goals (first|assumption|wp_step))
      exact h _ _ M N
     |_=>exact H.elim
  |_=>exact V.elim
theorem IS{t:Nm}{vs:Av}(f:A.handled=none)(l:s.heap.IsList t vs\/s.heap.IsTuple t vs)(a:QJ vs.toList ns)(low:∀n∈ns,0<=n/\n<8)
  (h:∀(h':Nw) (tk:Nat),(∃ks es,c9 prog w h' s.heap.objs.size ks es/\∀k:Nat,k∈ks↔(k:Int)∈ns)->
   (∀b o,b<s.heap.objs.size->s.heap.get? b=some o->h'.get? b=some o)->Q (.ref s.heap.objs.size) {s with heap:=h',toks:=tk}):wpAny (model prog w) A (call (.type "set") [.ref t]) Q E s:=by
 have c:vs.size=ns.length:=by exact a.length
 refine Bt f l ⟨λB W out S q m fin=>?_⟩ h;refine uM W _ out _ (λi v y=>a.int_at i v (by simp_all)) (λi j=>low _ (by simp_all)) _ 0 _ _ _ (by omega) (Z6 _) S ((c9.born _).kept λo e=>q _ o e) (λk=>⟨λz=>(by cases z),λZ=>Z.elim λi Z=>Z.elim λz _=>by omega⟩) λh' u r d K x p=>fin _ _ K ⟨_,_,x,λk=>(p k).trans ⟨λZ=>by obtain⟨i,z,e⟩:=Z;exact(by grind),λz=>by obtain⟨i,g,e⟩:=ZJ.mp z;exact⟨i,by omega,by simp_all⟩⟩⟩
theorem dz.born(h:Nw):dz prog w (h.push (cM (!e_ w))) h.objs.size []:=⟨⟨_,0,_,Zg _ rfl,⟨rfl,rfl,rfl⟩,rfl,rfl,rfl,rfl,λi j H=>absurd H (Nat.not_lt_zero _),rfl,Ze,rfl,λx b=>by simp_all⟩,λc a=>(by simp_all),.nil⟩
theorem uN{R:Qp->Nl->Prop}{P:Nat->Nn->Prop}{St:Nat->Nw->Prop}(W:Walks prog w A.in1 I fp wr n P St)(S:Nm)(out:S∉fp)(D:∀b∈wr,S<b)(val:Nat->Li×Nm)(p:∀i v,P i v->v=.ref (val i).2)(X:A.in1.units<cLine)(few:n<76):
  ∀(k i:Nat) (s:Nl) (cs:List (Li×Nm)),n-i=k->i<=n->St i s.heap->dz prog w s.heap S cs->(∀j,j<n->cN prog w s.heap (val j).1 (val j).2/\(val j).2<S)->(∀c∈cs,∃j,j<n/\c=val j)->(∀K,K∈cs.map (·.1)↔∃j,j<i/\(val j).1=K)->cs.length<=i->
  (∀h' tk C,(∀b o,b∉wr->b≠S->s.heap.get? b=some o->h'.get? b=some o)->dz prog w h' S C->(∀K,K∈C.map (·.1)↔∃j,j<n/\(val j).1=K)->(∀c∈C,∃j,j<n/\c=val j)->R (.ok (.ret .none)) {s with heap:=h',toks:=tk})->
  codeAny (model prog w) A (.builtin "set.update.loop" ⟨[.ref S,.ref I],[]⟩) R s:=by
 have Y:S∉wr:=λz=>out (W.sub S z);have low:∀b,b<S->b∉wr:=λb g z=>ZL _ (QO g (D b z));intro k
 induction k with
 |zero=>
  intro i s cs Z e1 a x tup M G len fin;have L:∀c∈cs,c.2<S:=λc H=>let⟨j,h,e⟩:=M c H;e▸(tup j h).2
  obtain rfl:i=n:=by omega
  exact Z5 O4 (by rw[Z1 N6];exact Za (W.done s _ _ a λh' tk d=>Zd (fin h' tk cs (λb o N _ e=>d b o N e) (x.kept λb o e g=>d b o (by rcases g with rfl| ⟨c,H,rfl⟩;exact Y;exact low _ (L c H)) e) G M)))
 |succ k ih=>
  intro i s cs Z e1 a x tup M G len fin;have L:∀c∈cs,c.2<S:=λc H=>let⟨j,h,e⟩:=M c H;e▸(tup j h).2
  have lt:i<n:=by omega
  refine Z5 O4 ?_;rw[Z1 N6];refine Za (W.item i s _ _ lt a λv h' tk pv q d=>?_);obtain rfl:=p i v pv;have x1:dz prog w h' S cs:=x.kept λb o e g=>d b o (by rcases g with rfl| ⟨c,H,rfl⟩;exact Y;exact low _ (L c H)) e;have t:∀j,j<n->cN prog w h' (val j).1 (val j).2/\(val j).2<S:=λj h=>⟨(tup j h).1.kept λo e=>d _ o (low _ (tup j h).2) e,(tup j h).2⟩;refine Za (m:=holding [NA (val i).2] (setAdd S (.ref (val i).2))) (ZB ?_);unfold setAdd;refine ZB (Za (wpAny_pyHash_tuple X (t i lt).1 ?_));refine Bn (s:={s with heap:=h',toks:=tk+((val i).1.length+1)}) x1 (t i lt).1 X (by omega) λh2 f b Q x2 B r bW=>?_
  have J:∀K,K∈f.map (·.1)↔∃j,j<i+1/\(val j).1=K:=λK=>by
   rw[B K,G K];constructor
   ·rintro(⟨j,h,e⟩|rfl)
    ·exact⟨j,by omega,e⟩
    ·exact⟨i,by omega,rfl⟩
   ·rintro⟨j,h,e⟩;by_cases z:j=i
    ·subst z;exact .inr e.symm
    ·exact .inl ⟨j,by omega,e⟩
  refine Zd ⟨OI N6 _,ih (i+1) _ f (by omega) lt (W.frame _ _ _ q λb fb o e=>?_) x2 (λj h=>⟨(t j h).1.kept λo e=>?_,(t j h).2⟩) (λc H=>?_) J (by omega) λh3 U y E x3 O u=>?_⟩
  ·rw[Q.2 b λz=>out (z▸fb)];exact e
  ·rw[Q.2 _ (Zs (t j h).2)];exact e
  ·rcases r c H with z|z
   ·exact M c z
   ·exact⟨i,lt,z⟩
  ·refine fin h3 U y (λb o N V e=>E b o N V ?_) x3 O u;rw[Q.2 b V];exact d b o N e
theorem IT{t:Nm}{vs:Av}{ks:List (Li×Nm)}(x:A.handled=none)(M:A.units+64<cLine)(I:s.heap.IsList t vs\/s.heap.IsTuple t vs)(d:vs.toList=ks.map λc=>NA c.2)(G:∀c∈ks,cN prog w s.heap c.1 c.2)(F:ks.length<76)
  (h:∀(h':Nw) (tk:Nat),(∃cs,dz prog w h' s.heap.objs.size cs/\(∀q,q∈cs.map (·.1)↔q∈ks.map (·.1))/\∀c∈cs,c∈ks)->
   (∀b o,b<s.heap.objs.size->s.heap.get? b=some o->h'.get? b=some o)->Q (.ref s.heap.objs.size) {s with heap:=h',toks:=tk}):wpAny (model prog w) A (call (.type "set") [.ref t]) Q E s:=by
 have n:vs.size=ks.length:=by rw[<-ZG,d,Zk]
 have H:∀i,i<ks.length->ks.getD i ([],0)∈ks/\ks[i]?=some (ks.getD i ([],0)):=λi B=>by
  grind
 refine Bt x I ⟨λO W out S r f fin=>?_⟩ h;refine uN W s.heap.objs.size out f (λi=>ks.getD i ([],0)) (λi v N=>?_) (by grind) (by omega) (vs.size-0) 0 _ [] (by omega) (Z6 _) S ((dz.born s.heap).kept λb o e _=>r b o e) (λj D=>?_) (λc a=>by cases a) (λk=>⟨λz=>(by cases z),λZ=>Z.elim λi Z=>Z.elim λz _=>(by omega)⟩) (Zh _) λh' T C K X p m=>fin h' T K ⟨C,X,λk=>(p k).trans ⟨λZ=>Z.elim λi Z=>Z.elim λz e=>?_,λz=>?_⟩,λc a=>(by obtain⟨j,D,e⟩:=m c a;exact(e▸(H j (by omega)).1))⟩
 ·have J:vs.toList[i]?=some v:=by grind
  grind
 ·have y:=G _ (H j (by omega)).1;refine⟨y.kept λo e=>r _ o (Zb _ e),?_⟩;obtain⟨o,_,_,g,_⟩:=y;exact Zf g
 ·grind
 ·obtain⟨c,a,e⟩:=Zp.mp z;obtain⟨i,B,L⟩:=ZJ.mp a
  grind
theorem IU:bootBuiltins "set"=some (.type "set"):=by decide+kernel
theorem uO:∀{xs:List D},xs.all (az .int)=Nj->xs=(xs.filterMap c5).map D.int
 | [],_=>rfl
 |x::xs,h=>by
  simp only[OA,ZN]at h;cases x with
  |int i=>simp[c5];rw[<-uO h.2]
  |_=>simp[az]at h
theorem uP{K:Fg}{mg:GS}{μ:La}{H:Hp}:∀{ns:Li} {vs:List V},ai K mg μ H (ns.map D.int) vs->vs=ns.map V.int
 | [],vs,r=>by subst r;rfl
 |n::ns,vs,r=>by obtain⟨v,w,rfl,R,a⟩:=r.uncons;cases aF R;rw[uP a];rfl
theorem uQ:∀(ks acc:List (Li)),acc.Nodup->(ks.foldl (λacc k=>if acc.contains k=Nj then acc else acc++[k]) acc).Nodup/\∀k,k∈ks.foldl (λacc k=>if acc.contains k=Nj then acc else acc++[k]) acc↔k∈acc\/k∈ks
 | [],acc,h=>⟨h,λk=>by simp⟩
 |x::ks,acc,h=>by
  by_cases z:acc.contains x=Nj
  ·obtain⟨a,b⟩:=uQ ks _ h
   grind
  ·obtain⟨a,b⟩:=uQ ks (acc++[x]) (OC.mpr ⟨h,by simp,λa H b c=>by grind⟩)
   grind
theorem Bu(ks:List (Li)):(ko ks).Nodup/\∀k,k∈ko ks↔k∈ks:=by obtain⟨a,b⟩:=uQ _ _ Qm;exact⟨a,λk=>(b k).trans (by simp)⟩
theorem Bv{prog:Nt}{w:NF}:∀{k:Li} {its:Lv},Vals (k.map V.int) its->ItemsAre (intKind prog w) k its
 | [],its,r=>by cases r;exact .nil
 |n::k,its,r=>by
  cases r with
  |cons h H=>obtain⟨t,rfl⟩:=h;exact .cons (R5 _ _ _ _) (Bv H)
theorem oo{k:Li}(I:Inv X pq σ H s)(h:bZ X.K H a (k.map V.int)):cN X.prog X.w s.heap k a:=by obtain⟨i,r,p,_⟩:=I.tuple h;obtain⟨o,g,c,n,d⟩:=p;exact⟨o,_,n,g,c,d,Bv r⟩
theorem Bw:∀{ks:List (Li×Nm)} {its:Lv},Vals (ks.map λc=>V.ref c.2) its->its=ks.map λc=>NA c.2
 | [],its,r=>by cases r;rfl
 |c::ks,its,r=>by
  cases r with
  |cons h H=>subst h;rw[Bw H];rfl
noncomputable def IV(K:Fg)(H:Hp)(p:Nm)(ks:List (Li×Nm)):Prop:=(c6 K H p (ks.map λc=>V.ref c.2)\/bZ K H p (ks.map λc=>V.ref c.2))/\(∀c∈ks,bZ K H c.2 (c.1.map V.int))/\ks.length<76
theorem oq{p:Nm}{ks:List (Li×Nm)}{E:Vs}{Q:Vs}(g:X.calm=Nj)(n:X.A.units+64<cLine)(I:Inv X pq σ H s)(h:IV X.K H p ks)
  (fin:∀h' tk cs,dz X.prog X.w h' s.heap.objs.size cs->(∀k,k∈cs.map (·.1)↔k∈ks.map (·.1))->(∀c∈cs,c∈ks)->Inv X pq σ H {s with heap:=h',toks:=tk}->(∀b o,s.heap.get? b=some o->h'.get? b=some o)->Q (.ref s.heap.objs.size) {s with heap:=h',toks:=tk}):wpAny (model X.prog X.w) X.A (call (.type "set") [.ref p]) Q E s:=by
 obtain⟨d,m,f⟩:=h
 obtain⟨i,r,P⟩:∃i,Vals _ i/\(s.heap.IsList p i.toArray\/s.heap.IsTuple p i.toArray):=by
  rcases d with d|d
  ·obtain⟨i,r,P,_⟩:=I.list d;exact⟨_,r,.inl P.isList⟩
  ·obtain⟨i,r,P,_⟩:=I.tuple d;exact⟨_,r,.inr P⟩
 exact IT (I.ok.hd g) n P (Bw r) (λc g=>oo I (m c g)) f λh' tk z K=>by obtain⟨_,x,j,l⟩:=z;exact(fin _ _ _ x j l (I.kept λb o e=>K b o (Zf e) e) λb o e=>K b o (Zf e) e)
theorem Bx{K:Fg}{mg:GS}{μ:La}{H:Hp}:∀{xs:List D} {vs:List V},xs.all (az (.seq .int))=Nj->ai K mg μ H xs vs->∃ks:List (Li×Nm),vs=(ks.map λc=>V.ref c.2)/\(∀c∈ks,bZ K H c.2 (c.1.map V.int))/\ks.map (·.1)=xs.map fq
 | [],vs,_,r=>by dsimp only[ai]at r;simp_all
 |x::xs,vs,h,r=>by
  simp only[OA,ZN]at h;obtain⟨v,w,rfl,R,f⟩:=r.uncons;obtain⟨ks,rfl,g,b⟩:=Bx h.2 f;cases x with
  |tup d=>
   obtain⟨a,u,rfl,j,q⟩:=bO R;rw[uO h.1]at q;have e:=uP q;refine⟨(d.filterMap _,a)::ks,rfl,λc i=>?_,by rw[NX,b];rfl⟩
   grind
  |_=>simp[az]at h
theorem uR(s:aJ K ⟨mg,F⟩ μ S H)(r:Rep K ⟨mg,F⟩ μ H d v)(e:ay S d=some xs)(c:xs.all (az (.seq .int))=Nj/\xs.length<76):∃p ks,v=.ref p/\IV K H p ks/\ks.map (·.1)=xs.map fq:=by obtain⟨a,vs,rfl,f,R⟩:=fE s r e;obtain⟨ks,rfl,b,h⟩:=Bx c.1 R;refine⟨a,_,rfl,⟨f,b,?_⟩,h⟩;have:=Z2 Oh h;rw[Zk,Zk]at this;omega
section
variable {R:Qp->Nl->Prop}{P:Nat->Nn->Prop}{St:Nat->Nw->Prop}
end
theorem By{a:Type}(f:Nat->Nat):∀(n k:Nat) (left:List a) (out:Array a),left.length=n->(pickOrder.go f n k left out).toList.Perm (out.toList++left)
 |0,k,left,out,h=>by have:=ZT h;subst this;unfold pickOrder.go;simp
 |n+1,k,left,out,h=>by
  have H:f k%left.length<left.length:=QG _ (by omega);unfold pickOrder.go;rw[Zi _];refine(By f n _ _ _ (by grind)).trans ?_;rw[SE,OE];refine List.Perm.append_left _ ?_;have:left=left.take (f k%left.length)++left[f k%left.length]::left.drop (f k%left.length+1):=by simp_all
  rw[List.eraseIdx_eq_take_drop_succ];refine List.Perm.trans ?_ (List.Perm.of_eq this.symm);rw[List.singleton_append];exact Pj.symm
theorem IW(f:Nat->Nat)(xs:Array α):(pickOrder f xs).toList.Perm xs.toList:=by have:=By f xs.size 0 xs.toList #[] (by simp);simpa[pickOrder]using this
noncomputable def cw(w:NF)(a:Nm)(ep:Nat)(es:Array (Int×Nn)):List (Int×Nn):=if e_ w=Nj then(pickOrder (w.params.setOrder a ep) es).toList else es.toList
noncomputable def bM(w:NF)(ks:List Nat):Nat->Nat
 |0=>0
 |i+1=>if e_ w=Nj then 0 else ks.getD i 0+1
theorem kL(w:NF)(a:Nm)(ep:Nat)(es:Array (Int×Nn)):(cw w a ep es).Perm es.toList:=by
 unfold cw;split
 ·exact IW _ _
 simp_all
structure TB (w:NF)(t:NE)(n:Nat):Prop where
 fit:t.fits n=Nj
 led:t.led=(!e_ w)
 pl:t.plain=Nj
 ris:ix t.place
theorem TB.size{t:NE}(x:TB w t n):n=t.place.toList.length:=by have:=x.fit;unfold Q3 at this;simp_all
theorem kM{t:NE}{i:Nat}{Q:Option (Nn×Nat)->Nl->Prop}(T:TB w t es.size)(g:s.heap.get? a=some o)(d:o.data=.set es ep t)(p:i<=es.size)
  (fin:Q (((cw w a ep es)[i]?).map λe=>(e.2,bM w t.place.toList (i+1))) s):wpAny (model prog w) A (setNext a (bM w t.place.toList i) i ep) Q E s:=by
 have q:=T.size;have f:=T.fit;unfold setNext;refine Za (NQ g d f ?_);dsimp only;refine Za (m:=setsByText) (Za (OX (Zd ?_)));cases h:e_ w with
 |true=>
  have H:w.params.followText "set-order"=Nj:=h;show wpAny _ _ (if(w.params.followText "set-order")=Nj then _ else _) _ _ _;rw[if_pos H];simp only[bne_self_eq_false,Zt,if_false];refine Za ?_;unfold setWalk;refine Za (NQ g d f ?_);dsimp only;refine Za (m:=setsByText) (Za (OX (Zd ?_)));show wpAny _ _ (if(w.params.followText "set-order")=Nj then _ else _) _ _ _;rw[if_pos H];refine Za (OX (Zd (Zd ?_)));have j:cw w a ep es=(pickOrder (w.params.setOrder a ep) es).toList:=by unfold cw;rw[if_pos h]
  have k:bM w t.place.toList (i+1)=bM w t.place.toList i:=by
   cases i with
   |zero=>simp[bM,h]
   |succ i=>simp[bM,h]
  rw[j,k,Pb]at fin;exact fin
 |false=>
  have H:w.params.followText "set-order"=Nk:=h;show wpAny _ _ (if(w.params.followText "set-order")=Nj then _ else _) _ _ _;rw[if_neg (by grind)];refine Pu ?_
  rw[if_neg (λz=>by have z:(!t.plain&&decide (es.size>1))=Nj:=z;rw[T.pl]at z;simp at z)];refine Za ?_;show wpAny _ _ (if(!t.led&& !es.isEmpty)=Nj then _ else pure ()) _ _ _;rw[if_neg (by rw[T.led,h];simp)];refine Zd (Zd ?_);have n:=T.ris;have j:cw w a ep es=es.toList:=by unfold cw;rw[if_neg (by grind)]
  have l:Nv t.place (bM w t.place.toList i)=i:=by
   cases i with
   |zero=>exact Iy _ n
   |succ i=>
    have b:i<t.place.size:=by grind
    have e:bM w t.place.toList (i+1)=t.place[i]+1:=by show(if e_ w=Nj then 0 else t.place.toList.getD i 0+1)=_;rw[h];simp[b]
    rw[e];exact Iw n _
  rw[j,Pb]at fin;rw[l];by_cases b:i<es.size
  ·have c:i<t.place.size:=by grind
   have k:bM w t.place.toList (i+1)=t.place[i]+1:=by show(if e_ w=Nj then 0 else t.place.toList.getD i 0+1)=_;rw[h];simp[c]
   rw[NO b]at fin⊢;rw[k]at fin;simpa[c]using fin
  ·rw[RC (by omega)]at fin⊢;exact fin
theorem ja:Slot "set_iterator" "__next__" "set_iterator.__next__":=.of (owner:="set_iterator") (n:="__next__") (by rw[typeLookup_type,Tg];kernel_rfl) (by decide+kernel) (by decide+kernel) (by decide+kernel) (by first|exact .inl (by decide+kernel)|exact .inr (by decide+kernel)) (by rw[R8];kernel_rfl)
theorem Bz:Slot "set_iterator" "__iter__" "set_iterator.__iter__":=.of (owner:="set_iterator") (n:="__iter__") (by rw[typeLookup_type,Tg];kernel_rfl) (by decide+kernel) (by decide+kernel) (by decide+kernel) (by first|exact .inl (by decide+kernel)|exact .inr (by decide+kernel)) (by rw[R8];kernel_rfl)
theorem IX:entryFor table "set_iterator.__iter__"=some N7.«dict_keyiterator.__iter__»:=entryFor_alias (id':="dict_keyiterator.__iter__") (rfl) rfl (by decide+kernel) (rfl)
theorem IY(v:Nn):argsOk "set_iterator.__iter__" ⟨[v],[]⟩:=by kernel_rfl
theorem BA:entryFor table "set_iterator.__next__"=some N7.«set_iterator.__next__»:=entryFor_of_tree rfl
theorem BB(v:Nn):argsOk "set_iterator.__next__" ⟨[v],[]⟩:=by kernel_rfl
theorem IZ:entryFor table "set.__iter__"=some N7.«frozenset.__iter__»:=entryFor_alias (id':="frozenset.__iter__") (rfl) rfl (by decide+kernel) (rfl)
def kN(h:Nw)(it a:Nm)(sl i n ep:Nat):Prop:=∃o,h.get? it=some o/\o.cls=.type "set_iterator"/\o.data=.fields #[.int sl 0,.int i 0,.ref a,.int n 0,.int ep 0]
theorem uS{t:NE}(T:TB w t es.size)(g:s.heap.get? a=some o)(e:o.ExactSet)(d:o.data=.set es ep (t))
  (fin:Q (.ref s.heap.objs.size) {s with heap:=s.heap.push {cls:=.type "set_iterator",data:=.fields #[.int 0 0,.int 0 0,.ref a,.int es.size 0,.int ep 0]}}):wpAny (model prog w) A (pyIter (.ref a)) Q E s:=by
 have f:=T.fit;have ty:s.TypeIs (.ref a) _:=⟨o,g,e.1⟩;refine wpAny_pyIter_slot ty F.slot_set_iter (ZY F.slot_set_iter ty IZ ?_ (F.args_set_iter_1 _));refine Za (Za (Zd (Zd ?_)));refine Za (Za (QQ g d f (Zd ?_)));refine Za ?_;refine Za (NQ g d f ?_);refine Za (Za (OX (Zd (Zd ?_))))
 rw[if_neg (show ¬_ from λz=>by have z:(!(w.params.followText _)&&(!t.plain&&decide _))=Nj:=z;rw[T.pl]at z;simp at z)];exact Za (Zd (Za (wpAny_setEpoch_of g d f (Za (ZP (Zd ⟨_,rfl,_,_,⟨_,Zg _ rfl,rfl⟩,ja.lookup,fin⟩))))))
theorem ot{t:NE}{i:Nat}{e:Int×Nn}{Q:Ov->Nl->Prop}(h:kN s.heap it a (bM w t.place.toList i) i es.size ep)(T:TB w t es.size)(g:s.heap.get? a=some o)(d:o.data=.set es ep (t))
  (f:(cw w a ep es)[i]?=some e) (fin:∀h',kN h' it a (bM w t.place.toList (i+1)) (i+1) es.size ep->NW it s.heap h'->Q (some e.2) {s with heap:=h'}):wpAny (model prog w) A (pyNext (.ref it)) Q E s:=by
 obtain⟨O,G,c,D⟩:=id h;have ty:s.TypeIs (.ref it) "set_iterator":=⟨O,G,c⟩
 have k:i<=es.size:=by have j:=(Zm.mp f).1;rw[(kL w a ep es).length_eq,ZG]at j;omega
 unfold pyNext;refine Za (O2 (ZZ ty ja (ZY ja ty BA ?_ (BB _))));refine Za (Zd ?_);refine Za (wpAny_fieldsOf G D ?_);dsimp only;refine Za (QQ g d T.fit ?_);rw[if_neg (by simp)];refine Za ?_;rw[Yb,Yb,Yb];refine kM T g d k ?_;rw[f];refine Za (P6 G D (by simp) ?_);have b:=ZM (RD (·.setIfInBounds 0 (rawInt (bM w t.place.toList (i+1):Nat)))) G (Qh (Ox D _));have d1:=Ox D (·.setIfInBounds 0 (rawInt (bM w t.place.toList (i+1):Nat)));refine Za (P6 b d1 (by simp) ?_);refine Zd ⟨_,rfl,Zd (fin _ ⟨_,ZM (RD (·.setIfInBounds 1 (rawInt ((i:Int)+1)))) b (Qh (Ox d1 _)),?_,?_⟩ ((ZX _ it _).trans (ZX _ it _)))⟩
 ·rw[QP,QP];exact c
 ·rw[Ox d1 (·.setIfInBounds 1 (rawInt ((i:Int)+1)))];simp[rawInt]
theorem uT{t:NE}{Q:Ov->Nl->Prop}(c:A.handled=none)(h:kN s.heap it a (bM w t.place.toList es.size) es.size es.size ep)(T:TB w t es.size)(g:s.heap.get? a=some o)(d:o.data=.set es ep (t))
  (fin:∀h',Sd it s.heap h'->Q none {s with heap:=h'}):wpAny (model prog w) A (pyNext (.ref it)) Q E s:=by
 obtain⟨O,G,C,D⟩:=id h;have ty:s.TypeIs (.ref it) "set_iterator":=⟨O,G,C⟩;unfold pyNext;refine Za (O2 (ZZ (name:=Oi "__next__") ty ja (ZY ja ty BA ?_ (BB _))));unfold N7.«set_iterator.__next__»;refine Za (Zd ?_);refine Za (wpAny_fieldsOf G D ?_);dsimp only;refine Za (QQ g d T.fit ?_);rw[if_neg (by simp)];refine Za ?_;rw[Yb,Yb,Yb];refine kM T g d (Zh _) ?_;rw[R9 (by rw[(kL w a ep es).length_eq,ZG];exact Zh _)];dsimp only[Option.map_none];refine Za (P6 G D (by simp) (Za ?_));simp only[newExc,newTuple];refine Za (ZP (Za (m:=firstArgMember _ _) (Rv (a:=Nr) (by first|rfl| (simp only[firstArgMember];rfl)) (ZP ?_ (by size_fits)))) (by size_fits));simp only[raiseNew];refine Za (wpAny_handled ?_);rw[show A.in1.handled=none from c];refine Za (Zd (wpAny_throw ?_));exact Za (Rp (T:="StopIteration") (b:=Nj) ⟨_,Zg _ rfl,rfl⟩ isSubtype_stop (Zd (fin _ (((ZX ..).extBut.push _).push _))))
theorem Walks.setC(calm:A.handled=none)(hne:a≠it){t:NE}(T:TB w t es.size)(d:o.data=.set es ep (t)):
  Walks prog w A it [it,a] [it] es.size (λi v=>∃e,(cw w a ep es)[i]?=some e/\v=e.2) (λi h=>kN h it a (bM w t.place.toList i) i es.size ep/\h.get? a=some o) where
 sub:=λb hb=>by simp_all
 frame:=λi h h' st k=>by obtain⟨⟨oi,gi,ri⟩,g⟩:=st;exact⟨⟨_,k _ (by simp) _ gi,ri⟩,k a (by simp) o g⟩
 item:=λi s Q E hi st hQ=>by
  have hl:i<(cw w a ep es).length:=by rw[(kL w a _ _).length_eq];exact hi
  refine ot st.1 T st.2 d (Zi hl) λh' hit' sb=>?_;refine hQ _ _ _ ⟨_,Zi _,rfl⟩ ⟨hit',sb.extBut a o hne st.2⟩ λb o hb e=>sb.extBut b o (λh=>hb (by simp[h])) e
 done:=λs Q E st hQ=>uT calm st.1 T st.2 d λh' he=>hQ _ _ λb o hb e=>he b o (λh=>hb (by simp[h])) e
 self:=λi s Q E st hQ=>by obtain⟨⟨oi,gi,ci,di⟩,_⟩:=st;have ty:s.TypeIs (.ref _) _:=⟨_,gi,ci⟩;exact wpAny_pyIter_slot ty Bz (ZY Bz ty IX (Zd ⟨_,rfl,_,_,ty,ja.lookup,hQ⟩) (IY _))
theorem BC{t:NE}{Q:Lv->Nl->Prop}(C:A.handled=none)(T:TB w t es.size)(g:s.heap.get? a=some o)(q:o.ExactSet)(d:o.data=.set es ep t)(few:es.size<1000)
  (fin:∀(h':Nw) (tk:Nat) (vs:Lv),(∀b o,s.heap.get? b=some o->h'.get? b=some o)->vs.Perm (es.toList.map (·.2))->Q vs {s with heap:=h',toks:=tk}):wpAny (model prog w) A (collect (.ref a)) Q E s:=by
 have N:=Zf g;unfold collect;refine Za (R7 (Z5 F.entry_proto_collect ?_));rw[Z1 F.plain_proto_collect];refine Za (m:=newList []) (ZP (Zd ⟨OI F.plain_list_iadd _,Z5 F.entry_list_iadd ?_⟩));rw[Z1 F.plain_list_iadd];generalize p:s.heap.objs.size=S;have z:(s.heap.push {cls:=.type "list",data:=.seq ([]:Lv).toArray}).get? S=some {cls:=.type "list",data:=.seq #[]}:=by rw[<-p];exact Zg _ rfl
 have G:(s.heap.push {cls:=.type "list",data:=.seq ([]:Lv).toArray}).get? a=some o:=Zb _ g;have D:∀b o,s.heap.get? b=some o->(s.heap.push {cls:=.type "list",data:=.seq ([]:Lv).toArray}).get? b=some o:=λ_ _ e=>Zb _ e;generalize s.heap.push {cls:=.type "list",data:=.seq ([]:Lv).toArray}=h at z G D⊢;have ty:Rj {s with heap:=h} (.ref a) "set":=⟨o,G,q.1⟩;show wpAny _ A.in1 (QA (.ref S) (.ref a) (.ref S)) _ _ _;unfold QA;refine Za (OU ty ?_)
 rw[if_neg (by
  have:S≠a:=by rw[<-p];exact O9 N
  simp[Builtin.List.listSameRef,this])]
 refine Za (uS T G q d ?_);have x:a<h.objs.size:=Zf G;have K:∀b o,h.get? b=some o->(h.push {cls:=.type "set_iterator",data:=.fields #[.int 0 0,.int 0 0,.ref a,.int es.size 0,.int ep 0]}).get? b=some o:=λ_ _ e=>Zb _ e;have k:kN (h.push {cls:=.type "set_iterator",data:=.fields #[.int 0 0,.int 0 0,.ref a,.int es.size 0,.int ep 0]}) h.objs.size a (bM w t.place.toList 0) 0 es.size ep:=⟨_,Zg _ rfl,rfl,rfl⟩;show wpAny _ A.in1 _ _ _ {s with heap:=h.push {cls:=.type "set_iterator",data:=.fields #[.int 0 0,.int 0 0,.ref a,.int es.size 0,.int ep 0]}};generalize h.push {cls:=.type "set_iterator",data:=.fields #[.int 0 0,.int 0 0,.ref a,.int es.size 0,.int ep 0]}=i at K k⊢;have f:Rj {s with heap:=i} (.ref a) "set":=⟨o,K a o G,q.1⟩;refine Za (ZB ?_);unfold Builtin.List.listLengthHint;refine Za (wpAny_specialOf f F.slot_set_len.lookup ?_);have sp:splitId "set.__len__"=some ("set","__len__"):=by decide+kernel
 dsimp only;rw[sp];dsimp only;refine Za (Rp (b:=Nj) f (by rw[R8];kernel_rfl) ?_);rw[if_neg (show ¬((!Nj)=Nj)by decide)];refine Pu ?_;rw[if_pos]
 rotate_left
 ·decide+kernel
 refine Za (OU f (Zd ?_));refine Pu ?_;rw[if_pos]
 rotate_left
 ·decide+kernel
 refine Za (O' ?_);have l:=K S _ z;refine Za (m:=Builtin.List.listTouch (.ref S)) (Za (m:=updateSeq S (·.push .none)) (PM l rfl ?_));have n:=ZM (NC (·.push Nr)) l rfl;refine PM n rfl ?_;have B:=ZM (NC (·.pop)) n rfl;have J:∀b o,b≠S->i.get? b=some o->((i.update S (NC (·.push Nr))).update S (NC (·.pop))).get? b=some o:=λb o U e=>(ZF _ _ (Ne.symm U)).trans ((ZF _ _ (Ne.symm U)).trans e);have u:a≠S:=by rw[<-p];exact Zs N
 have v:h.objs.size≠S:=O9 (Zf z);have out:S∉[h.objs.size,a]:=by grind
 have W:=(Walks.setC (A:=A.in1) (prog:=prog) (w:=w) (by simpa using C) (Zs x) (it:=h.objs.size) (o:=o) (ep:=ep) T d).toS;refine Zd ⟨OI F.plain_extend_loop _,codeAny_extend_loopS W (by rw[N5];omega) S out _ es.size 0 _ _ _ rfl (Z6 _) ⟨?_,J a o u (K a o G)⟩ B ?_ λs' c c' mv r I=>?_⟩
 ·obtain⟨V,gi,ri⟩:=k;exact⟨V,J _ V v gi,ri⟩
 ·exact ItemsOf.nil _
 ·refine Za (wpAny_load r (Zd ?_));obtain⟨h',g',d',M,L⟩:=s';obtain⟨mh,mg,md,mo,_⟩:=mv;have Y:g'=s.gens:=mg;have eo:L=s.os:=mo;subst Y md eo;refine fin h' M _ (λb O e=>?_) ?_
  ·have hb:=Zf (D b O e);have y:=Zf e;have R:b≠S:=by rw[<-p];exact Zs y
   refine mh b O ?_ (J b O R (K b O (D b O e)));simp only[Zj,Zw,or_false,not_or];exact⟨R,Zs hb⟩
  ·have Z:c.toList=(cw w a ep es).map (·.2):=by
    refine List.ext_getElem? λj=>?_;rw[Pb,P0];have hz:(cw w a ep es).length=es.size:=by rw[(kL w a ep es).length_eq,ZG]
    by_cases P:j<c.size
    ·obtain⟨e,h,i⟩:=I.2 j _ (NO P);rw[NO P,h,i];rfl
    ·have h0:=I.1;rw[RC (by omega),R9 (by omega)];rfl
   rw[Z];exact(kL w a ep es).map _
open PySem PySem.W PyProof.Rows
noncomputable def aB{b:Type}(c:Nat->Nat->Bool):KasT b->b
 | .ret a=>a
 | .ask i j k=>aB c (k (c i j))
def eU{a:Type}(n:Nat)(c:Nat->Nat->Bool):KasT a->Prop
 | .ret _=>True
 | .ask i j k=>i<n/\j<n/\eU n c (k (c i j))
theorem jb{a b:Type}(c:Nat->Nat->Bool)(f:a->KasT b):∀t:KasT a,aB c (t.bind f)=aB c (f (aB c t))
 | .ret _=>rfl
 | .ask i j k=>jb c f (k (c i j))
theorem gu{a d:Type}{n:Nat}{c:Nat->Nat->Bool}{f:a->KasT d}:∀{t:KasT a},eU n c t->eU n c (f (aB c t))->eU n c (t.bind f)
 | .ret _,_,h=>h
 | .ask i j k,H,b=>⟨H.1,H.2.1,gu H.2.2 b⟩
theorem Ms{a:Type}{n:Nat}{c:Nat->Nat->Bool}{cmp:Nat->Nat->(Bool->Nl->Prop)->Nl->Prop}{s:Nl}(h:∀i j C,i<n->j<n->C (c i j) s->cmp i j C s){G:a->Nl->Prop}:∀{t:KasT a},eU n c t->G (aB c t) s->t.kasWp cmp G s
 | .ret _,_,g=>g
 | .ask i j k,H,g=>h i j _ H.1 H.2.1 (Ms h H.2.2 g)
structure cV (n:Nat)(c:Nat->Nat->Bool):Prop where
 irr:∀i,i<n->c i i=Nk
 asym:∀i j,i<n->j<n->c i j=Nj->c j i=Nk
 ntr:∀i j k,i<n->j<n->k<n->c i j=Nk->c j k=Nk->c i k=Nk
structure eB (n:Nat)(p:Array Nat):Prop where
 size:p.size=n
 perm:p.Perm (Nq n).toArray
theorem eB.lt{p:Array Nat}(h:eB n p)(c:0<n)(k:Nat):p.getD k 0<n:=by
 unfold Rf;split
 ·rename_i a;have b:p[k]∈p:=Sy a;have H:p[k]∈(Nq n).toArray:=h.perm.mem_iff.mp b;simpa using H
 ·exact c
theorem BD{p q:Array Nat}{i j:Nat}(h:p[i]?=q[j]?):p.getD i 0=q.getD j 0:=by rw[NJ,NJ,h]
section
variable {c:Nat->Nat->Bool}
def Up(c:Nat->Nat->Bool)(p:Array Nat)(k:Nat):Prop:=∀i,i+1<k->c (p.getD (i+1) 0) (p.getD i 0)=Nk
def Dn(c:Nat->Nat->Bool)(p:Array Nat)(k:Nat):Prop:=∀i,i+1<k->c (p.getD i 0) (p.getD (i+1) 0)=Nk
theorem Up.all(o:cV n c)(H:0<n){p:Array Nat}(P:eB n p){k:Nat}(h:Up c p k):∀d i,i+d<k->c (p.getD (i+d) 0) (p.getD i 0)=Nk:=by
 intro d
 induction d with
 |zero=>intro i a;exact o.irr _ (P.lt H _)
 |succ d I=>intro i a;exact o.ntr _ (p.getD (i+d) 0) _ (P.lt H _) (P.lt H _) (P.lt H _) (h (i+d) (by omega)) (I i (by omega))
theorem Up.le(o:cV n c)(a:0<n){p:Array Nat}(P:eB n p){k:Nat}(h:Up c p k){i j:Nat}(H:i<=j)(b:j<k):c (p.getD j 0) (p.getD i 0)=Nk:=by have:=h.all o a P (j-i) i (by simp_all);simp_all
theorem ou{p:Array Nat}(P:eB n p)(i j:Nat):eB n (kas_rev p i j):=⟨by unfold kas_rev;rw[mirror_size];exact P.size,(mirror_perm _ _ _ _).trans P.perm⟩
theorem gv{p:Array Nat}(P:eB n p){i j k:Nat}(h:j<=n)(H:i<=k/\k<j):(kas_rev p i j).getD k 0=p.getD (i+j-1-k) 0:=BD (by unfold kas_rev;rw[getElem?_mirror_all (by rw[P.size];exact h),if_pos H])
theorem jc{p:Array Nat}(P:eB n p){i j k:Nat}(h:j<=n)(H:¬(i<=k/\k<j)):(kas_rev p i j).getD k 0=p.getD k 0:=BD (by unfold kas_rev;rw[getElem?_mirror_all (by rw[P.size];exact h),if_neg H])
theorem uU(H:0<n){p:Array Nat}(P:eB n p):∀(f m:Nat),Up c p m->1<=m->eU n c (kas_asc p f m)/\m<=aB c (kas_asc p f m)/\aB c (kas_asc p f m)<=m+f/\Up c p (aB c (kas_asc p f m))/\
  (aB c (kas_asc p f m)<m+f->c (p.getD (aB c (kas_asc p f m)) 0) (p.getD (aB c (kas_asc p f m)-1) 0)=Nj)
 |0,m,h,g=>⟨trivial,Zh _,Zh _,h,λz=>absurd z (ZL _)⟩
 |f+1,m,h,g=>by
  unfold kas_asc;simp only[eU,aB];cases e:c (p.getD m 0) (p.getD (m-1) 0)with
  |true=>simp only[if_true,aB,eU,and_true];exact⟨⟨P.lt H _,P.lt H _⟩,Zh _,by lia,h,λ_=>e⟩
  |false=>
   simp only[Zt,if_false]
   have d:Up c p (m+1):=λi l=>by
    by_cases z:i+1<m
    ·exact h i z
    ·have:i=m-1:=by lia
     simp_all
   obtain⟨a,j,k,A,b⟩:=uU H P f (m+1) d (by omega);exact⟨⟨P.lt H _,P.lt H _,a⟩,by omega,by omega,A,λz=>b (by omega)⟩
def rN(c:Nat->Nat->Bool)(p:Array Nat)(i j:Nat):Prop:=∀a b,i<=a->a<j->i<=b->b<j->c (p.getD a 0) (p.getD b 0)=Nk
theorem BE{p:Array Nat}(P:eB n p){i j:Nat}(H:j<=n)(h:rN c p i j):rN c (kas_rev p i j) i j:=λa b d e f g=>by rw[gv P H ⟨d,e⟩,gv P H ⟨f,g⟩];exact h _ _ (by omega) (by omega) (by omega) (by omega)
theorem kO(o:cV n c)(b:0<n){p:Array Nat}(P:eB n p){i j k:Nat}(H:j<=n)(f:k<=n)(h:Dn c p k)(e:rN c p i j):Dn c (kas_rev p i j) k:=λa d=>by
 by_cases Z:i<=a/\a<j
 ·by_cases z:i<=a+1/\a+1<j
  ·exact BE P H e a (a+1) Z.1 Z.2 z.1 z.2
  ·rw[gv P H Z,jc P H z];have q:=e (i+j-1-a) a (by omega) (by omega) Z.1 Z.2;exact o.ntr _ _ _ (P.lt b _) (P.lt b _) (P.lt b _) q (h a d)
 ·by_cases z:i<=a+1/\a+1<j
  ·rw[jc P H Z,gv P H z];have q:=e (a+1) (i+j-1-(a+1)) z.1 z.2 (by omega) (by omega);exact o.ntr _ _ _ (P.lt b _) (P.lt b _) (P.lt b _) (h a d) q
  ·rw[jc P H Z,jc P H z];exact h a d
theorem ov(o:cV n c)(H:0<n):∀(f:Nat) (p:Array Nat) (m q:Nat),eB n p->Dn c p m->rN c p (m-(q+1)) m->q+1<=m->m+f<=n->
  eU n c (kas_desc f p m q)/\eB n (aB c (kas_desc f p m q)).1/\Dn c (aB c (kas_desc f p m q)).1 (aB c (kas_desc f p m q)).2.1/\
   rN c (aB c (kas_desc f p m q)).1 ((aB c (kas_desc f p m q)).2.1-((aB c (kas_desc f p m q)).2.2+1)) (aB c (kas_desc f p m q)).2.1/\(aB c (kas_desc f p m q)).2.2+1<=(aB c (kas_desc f p m q)).2.1/\m<=(aB c (kas_desc f p m q)).2.1/\(aB c (kas_desc f p m q)).2.1<=m+f
 |0,p,m,q,P,h,e,u,L=>⟨trivial,P,h,e,u,Zh _,Zh _⟩
 |f+1,p,m,q,P,h,e,u,L=>by
  unfold kas_desc;simp only[eU,aB];cases E:c (p.getD m 0) (p.getD (m-1) 0)with
  |true=>
   simp only[if_true];have as:=o.asym _ _ (P.lt H _) (P.lt H _) E
   have fy:∀(d:Array Nat),eB n d->Dn c d m->c (d.getD (m-1) 0) (d.getD m 0)=Nk->Dn c d (m+1)/\rN c d (m+1-(0+1)) (m+1):=λd r D z=>⟨λi J=>by
    by_cases y:i+1<m
    ·exact D i y
    ·have:i=m-1:=by omega
     subst this;rw[show m-1+1=m by omega];exact z,λa b s t C F=>by
    have:a=m:=by omega
    have:b=m:=by omega
    subst a;subst b;exact o.irr _ (r.lt H _)⟩
   by_cases G:q>0
   ·rw[if_pos G];have r:=ou P (m-(q+1)) m;have D:=kO o H P (by omega:m<=n) (by omega:m<=n) h e
    have z:c ((kas_rev p (m-(q+1)) m).getD (m-1) 0) ((kas_rev p (m-(q+1)) m).getD m 0)=Nk:=by rw[gv P (by omega) (by omega),jc P (by omega) (by omega)];exact o.ntr _ (p.getD (m-1) 0) _ (P.lt H _) (P.lt H _) (P.lt H _) (e _ (m-1) (by omega) (by omega) (by omega) (by omega)) as
    obtain⟨K,v⟩:=fy _ r D z;obtain⟨A,g,j,k,l,w,x⟩:=ov o H f _ (m+1) 0 r K v (by omega) (by omega);exact⟨⟨P.lt H _,P.lt H _,A⟩,g,j,k,l,by omega,by omega⟩
   ·rw[if_neg G];obtain⟨K,v⟩:=fy p P h as;obtain⟨A,g,j,k,l,w,x⟩:=ov o H f p (m+1) 0 P K v (by omega) (by omega);exact⟨⟨P.lt H _,P.lt H _,A⟩,g,j,k,l,by omega,by omega⟩
  |false=>
   simp only[Zt,if_false,eU,aB];cases B:c (p.getD (m-1) 0) (p.getD m 0)with
   |true=>simp only[if_true,aB,eU,and_true];exact⟨⟨P.lt H _,P.lt H _,P.lt H _,P.lt H _⟩,P,h,e,u,Zh _,by omega⟩
   |false=>
    simp only[Zt,if_false]
    have D:Dn c p (m+1):=λi J=>by
     by_cases y:i+1<m
     ·exact h i y
     ·have:i=m-1:=by omega
      subst this;rw[show m-1+1=m by omega];exact B
    have I:rN c p (m+1-(q+1+1)) (m+1):=λa b s t C F=>by
     have R:∀a,m+1-(q+1+1)<=a->a<m+1->c (p.getD a 0) (p.getD (m-1) 0)=Nk:=λa s t=>by
      by_cases y:a=m
      ·subst y;exact E
      ·exact e a (m-1) (by omega) (by omega) (by omega) (by omega)
     have M:∀a,m+1-(q+1+1)<=a->a<m+1->c (p.getD (m-1) 0) (p.getD a 0)=Nk:=λa s t=>by
      by_cases y:a=m
      ·subst y;exact B
      ·exact e (m-1) a (by omega) (by omega) (by omega) (by omega)
     exact o.ntr _ _ _ (P.lt H _) (P.lt H _) (P.lt H _) (R a s t) (M b C F)
    obtain⟨A,g,j,k,l,w,x⟩:=ov o H f p (m+1) (q+1) P D I (by omega) (by omega);exact⟨⟨P.lt H _,P.lt H _,P.lt H _,P.lt H _,A⟩,g,j,k,l,by omega,by omega⟩
structure FA (n:Nat)(c:Nat->Nat->Bool)(r:Nat×Array Nat):Prop where
 pa:eB n r.2
 up:Up c r.2 r.1
 pos:1<=r.1
 le:r.1<=n
theorem BF(e:0<n){p:Array Nat}(P:eB n p){m:Nat}(h:Dn c p m)(h1:1<=m)(H:m<=n):eU n c (kas_tail3 m n p)/\FA n c (aB c (kas_tail3 m n p)):=by
 have a:=ou P 0 m
 have u:Up c (kas_rev p 0 m) m:=λi j=>by
  rw[gv P H (by simp_all),gv P H (by lia)];have:=h (0+m-1-(i+1)) (by omega)
  rwa [show 0+m-1-(i+1)+1=0+m-1-i by grind]at this
 obtain⟨A,b,f,d,g⟩:=uU (c:=c) e a (n-m) m u h1;unfold kas_tail3;rw[jb];exact⟨gu A trivial,a,d,ZA h1 b,by show aB c (kas_asc (kas_rev p 0 m) (n-m) m)<=n;simp_all⟩
theorem BG(o:cV n c)(H:0<n){p:Array Nat}(P:eB n p){m:Nat}(h:Dn c p (m+1))(u:m+1<=n):eU n c (kas_descPart m n p)/\FA n c (aB c (kas_descPart m n p)):=by
 obtain⟨d,A,e,g,i,j,k⟩:=ov o H (n-(m+1)) p (m+1) 0 P h (λa b l q r s=>by
  have:a=b:=by omega
  subst this;exact o.irr _ (P.lt H _)) (by omega) (by omega)
 unfold kas_descPart;rw[jb];by_cases z:(aB c (kas_desc (n-(m+1)) p (m+1) 0)).2.2>0
 ·have f:=ou A ((aB c (kas_desc (n-(m+1)) p (m+1) 0)).2.1-((aB c (kas_desc (n-(m+1)) p (m+1) 0)).2.2+1)) (aB c (kas_desc (n-(m+1)) p (m+1) 0)).2.1;have D:=kO o H A (by omega) (by omega:(aB c (kas_desc (n-(m+1)) p (m+1) 0)).2.1<=n) e g;have t:=BF (c:=c) H f D (by omega) (by omega);rw[if_pos z];exact⟨gu d (by rw[if_pos z];exact t.1),t.2⟩
 ·have t:=BF (c:=c) H A e (by omega) (by omega);rw[if_neg z];exact⟨gu d (by rw[if_neg z];exact t.1),t.2⟩
theorem I7(o:cV n c)(H:2<=n){p:Array Nat}(P:eB n p):eU n c (kas_count n p)/\FA n c (aB c (kas_count n p)):=by
 have h:0<n:=by omega
 obtain⟨j,d,w,A,l⟩:=uU (c:=c) h P (n-1) 1 (λi f=>by omega) (Zh 1);unfold kas_count;rw[jb];generalize s:aB c (kas_asc p (n-1) 1)=m at*
 have k:eU n c (if(m==n)=Nj then KasT.ret (m,p)else if m>1 then .ask (p.getD 0 0) (p.getD (m-1) 0) λc=>if c=Nj then .ret (m,p)else kas_descPart m n (kas_rev p 0 m)else kas_descPart m n p)/\
   FA n c (aB c (if(m==n)=Nj then KasT.ret (m,p)else if m>1 then .ask (p.getD 0 0) (p.getD (m-1) 0) λc=>if c=Nj then .ret (m,p)else kas_descPart m n (kas_rev p 0 m)else kas_descPart m n p)):=by
  by_cases e:(m==n)=Nj
  ·rw[if_pos e];exact⟨trivial,P,A,d,by show m<=n;omega⟩
  ·rw[if_neg e];have t:m≠n:=by simpa using e
   have G:=l (by omega);have as:=o.asym _ _ (P.lt h _) (P.lt h _) G;by_cases z:m>1
   ·rw[if_pos z];simp only[eU,aB];cases r:c (p.getD 0 0) (p.getD (m-1) 0)with
    |true=>simp only[if_true,eU,aB,and_true];exact⟨⟨P.lt h _,P.lt h _⟩,P,A,d,by show m<=n;omega⟩
    |false=>
     simp only[Zt,if_false];have eq:rN c p 0 m:=λa b _ H _ x=>by have R:=A.le o h P (Z6 a) H;have u:=A.le o h P (show b<=m-1 by omega) (by omega);exact o.ntr _ (p.getD (m-1) 0) _ (P.lt h _) (P.lt h _) (P.lt h _) (o.ntr _ (p.getD 0 0) _ (P.lt h _) (P.lt h _) (P.lt h _) R r) u
     have g:=ou P 0 m;have E:=BE P (by omega:m<=n) eq
     have D:Dn c (kas_rev p 0 m) (m+1):=λi f=>by
      by_cases y:i+1<m
      ·exact E i (i+1) (by omega) (by omega) (by omega) y
      ·have:i=m-1:=by omega
       subst this;rw[gv P (by omega) (by omega),jc P (by omega) (by omega),show m-1+1=m by omega];exact o.ntr _ (p.getD (m-1) 0) _ (P.lt h _) (P.lt h _) (P.lt h _) (eq _ (m-1) (by omega) (by omega) (by omega) (by omega)) as
     obtain⟨T,v⟩:=BG o h g D (by omega);exact⟨⟨P.lt h _,P.lt h _,T⟩,v⟩
   ·rw[if_neg z];have q:m=1:=by omega
    subst q;refine BG o h P (λi f=>?_) (by omega);have:i=0:=by omega
    subst this;exact as
 exact⟨gu j (by rw[s];exact k.1),k.2⟩
theorem uV(o:cV n c)(h:0<n){p:Array Nat}(P:eB n p){k:Nat}(u:Up c p k):∀(f l r:Nat),r<=k->l<=r->r-l<=f->(∀i,i<l->c (p.getD k 0) (p.getD i 0)=Nk)->(∀i,r<=i->i<k->c (p.getD k 0) (p.getD i 0)=Nj)->
  eU n c (kas_place p k f l r)/\aB c (kas_place p k f l r)<=k/\(∀i,i<aB c (kas_place p k f l r)->c (p.getD k 0) (p.getD i 0)=Nk)/\(∀i,aB c (kas_place p k f l r)<=i->i<k->c (p.getD k 0) (p.getD i 0)=Nj)
 |0,l,r,b,s,m,H,a=>by
  have:l=r:=by omega
  subst this;exact⟨trivial,b,H,a⟩
 |f+1,l,r,b,s,m,H,a=>by
  unfold kas_place;by_cases z:l>=r
  ·rw[if_pos z];have:l=r:=by omega
   subst this;exact⟨trivial,b,H,a⟩
  ·rw[if_neg z];simp only[eU,aB];cases E:c (p.getD k 0) (p.getD ((l+r)/2) 0)with
   |true=>
    simp only[if_true]
    have g:∀i,(l+r)/2<=i->i<k->c (p.getD k 0) (p.getD i 0)=Nj:=λi j q=>by
     cases e:c (p.getD k 0) (p.getD i 0)with
     |true=>rfl
     |false=>have:=o.ntr _ (p.getD i 0) _ (P.lt h _) (P.lt h _) (P.lt h _) e (u.le o h P j q);rw[E]at this;cases this
    obtain⟨b1,b2⟩:=uV o h P u f l ((l+r)/2) (by omega) (by omega) (by omega) H g;exact⟨⟨P.lt h _,P.lt h _,b1⟩,b2⟩
   |false=>
    simp only[Zt,if_false]
    have d:∀i,i<(l+r)/2+1->c (p.getD k 0) (p.getD i 0)=Nk:=λi j=>
     o.ntr _ (p.getD ((l+r)/2) 0) _ (P.lt h _) (P.lt h _) (P.lt h _) E (u.le o h P (by omega) (by omega))
    obtain⟨b1,b2⟩:=uV o h P u f ((l+r)/2+1) r b (by omega) (by omega) d a;exact⟨⟨P.lt h _,P.lt h _,b1⟩,b2⟩
theorem kP(o:cV n c)(H:0<n):∀(f:Nat) (p:Array Nat) (k:Nat),eB n p->Up c p k->k+f=n->eU n c (kas_bin f p k)/\eB n (aB c (kas_bin f p k))/\Up c (aB c (kas_bin f p k)) n
 |0,p,k,P,u,h=>by
  have:k=n:=by omega
  subst this;exact⟨trivial,P,u⟩
 |f+1,p,k,P,u,h=>by
  unfold kas_bin;rw[jb];obtain⟨A,m,g,j⟩:=uV o H P u k 0 k (Zh _) (Z6 _) (by omega) (λi a=>absurd a (Nat.not_lt_zero _)) (λi q r=>by omega);generalize E:aB c (kas_place p k k 0 k)=l at*;have d:eB n (bubble p k (k-l)):=⟨by rw[bubble_size];exact P.size,(bubble_perm _ _ _).trans P.perm⟩
  have at_:∀i,(bubble p k (k-l)).getD i 0=if i=l then p.getD k 0 else if l<i/\i<=k then p.getD (i-1) 0 else p.getD i 0:=λi=>by
   have e:=getElem?_bubble (xs:=p) (src:=k) (by rw[P.size];omega) (k-l) (by omega) i;rw[show k-(k-l)=l by omega]at e;rw[NJ,e];by_cases z:i=l
   ·rw[if_pos z,if_pos z,NJ]
   ·rw[if_neg z,if_neg z];by_cases Z:l<i/\i<=k
    ·rw[if_pos Z,if_pos Z,NJ]
    ·rw[if_neg Z,if_neg Z,NJ]
  have U:Up c (bubble p k (k-l)) (k+1):=λi a=>by
   rw[at_,at_];by_cases z:i+1=l
   ·rw[if_pos z,if_neg (by omega),if_neg (by omega)];exact g i (by omega)
   ·rw[if_neg z];by_cases Z:l<i+1/\i+1<=k
    ·rw[if_pos Z];by_cases b:i=l
     ·rw[if_pos b];have:=j i (by omega) (by omega);rw[show i+1-1=i by omega];exact o.asym _ _ (P.lt H _) (P.lt H _) this
     ·rw[if_neg b,if_pos (by omega)];have:=u (i-1) (by omega)
      rwa [show i-1+1=i+1-1 by omega]at this
    ·rw[if_neg Z,if_neg (by omega),if_neg (by omega)];exact u i (by omega)
  obtain⟨b1,b2,b3⟩:=kP o H f (bubble p k (k-l)) (k+1) d U (by omega);exact⟨gu A (by rw[E];exact b1),b2,b3⟩
theorem oy(o:cV n c)(h:2<=n):eU n c (kas_sort n)/\eB n (aB c (kas_sort n))/\Up c (aB c (kas_sort n)) n:=by
 have P:eB n (Nz (Nq n)):=⟨by simp,.refl _⟩;obtain⟨A,a⟩:=I7 o h P;unfold kas_sort;rw[jb];by_cases z:(aB c (kas_count n (Nz (Nq n)))).1<n
 ·have e:max (aB c (kas_count n (Nz (Nq n)))).1 1=(aB c (kas_count n (Nz (Nq n)))).1:=Nat.max_eq_left a.pos;obtain⟨b1,b2,b3⟩:=kP o (by lia) (n-max (aB c (kas_count n (Nz (Nq n)))).1 1) _ (max (aB c (kas_count n (Nz (Nq n)))).1 1) a.pa (by rw[e];exact a.up) (by lia);rw[if_pos z];exact⟨gu A (by rw[if_pos z];exact b1),b2,b3⟩
 ·rw[if_neg z];have e:(aB c (kas_count n (Nz (Nq n)))).1=n:=by have:=a.le;lia
  refine⟨gu A (by rw[if_neg z];trivial),a.pa,?_⟩;have:=a.up
  rwa [e]at this
end
end Py
section
set_option autoImplicit false
namespace Py
open PySem PySem.W PySem.Spec PyProof.Rows
noncomputable def bN(n:Nat)(c:Nat->Nat->Bool)(i:Nat):Nat:=((Nq n).filter λj=>c j i).length
section
variable {κ:Pn}
theorem oz{c:Nat->Nat->Bool}(o:cV its.length c)(f:∀i j,i<its.length->j<its.length->its.getD i Nr=its.getD j Nr->bN its.length c i=bN its.length c j)(e:2<=its.length)(H:its.length<64)
  (b:∀i j C,i<its.length->j<its.length->C (c i j) s->kas_ask prog w A κ its i j C s) {Q:SortSt->Nl->Prop}
  (h:∀(S:SortSt) (p:List Nat),failedOf S=none->(arrOf S).map (·.2)=Nz (p.map λi=>its.getD i Nr)->p.Perm (Nq its.length)->p.Pairwise (λi j=>c j i=Nk)->Q S s):
  wpAny (model prog w) A ((sortRuns').run (Sf κ (its.toArray.zip its.toArray) #[] 7 none)) (λr s'=>Q r.2 s') E s:=by
 obtain⟨n,q,t⟩:=oy o e;have P:(aB c (kas_sort its.length)).toList.Perm (Nq its.length):=Array.perm_iff_toList_perm.mp q.perm
 have m:(aB c (kas_sort its.length)).toList.Pairwise (λi j=>c j i=Nk):=by
  rw[Od];intro i j v x d;have l:(aB c (kas_sort its.length)).size=its.length:=q.size;have g:i<(aB c (kas_sort its.length)).size:=by omega
  have k:j<(aB c (kas_sort its.length)).size:=by omega
  have:=t.le o (by omega) q (O7 d) (by omega:j<its.length);simp_all
 have a:(kas_sort its.length).kasWp (kas_ask prog w A κ its) (λp s'=>p=aB c (kas_sort its.length)/\s'=s) s:=Ms b n ⟨rfl,rfl⟩
 have R:=kat_run (E:=E) (ks:=its) rfl e H (Q:=Q)
  (λp S s' y z Z u=>by obtain⟨rfl,rfl⟩:=u;exact h S _ Z (kat_snds rfl z) P m) a
 omega
end
end Py
end
namespace Py
structure hZ (P:D->Prop)(f:D->D->Bool):Prop where
 irr:∀x,P x->f x x=Nk
 asym:∀x y,P x->P y->f x y=Nj->f y x=Nk
 ntr:∀x y z,P x->P y->P z->f x y=Nk->f y z=Nk->f x z=Nk
 tot:∀x y,P x->P y->f x y=Nk->f y x=Nk->x=y
section
variable {P:D->Prop}{f:D->D->Bool}
theorem BH(o:hZ P f):∀(xs:List D),(∀x∈xs,P x)->bQ f xs xs=Nk
 | [],_=>rfl
 |x::xs,h=>by dsimp only[bQ];rw[o.irr x (h x Ze)];exact BH o _ λy H=>h y (Zc _ H)
theorem BJ(o:hZ P f):∀(xs ys:List D),(∀x∈xs,P x)->(∀x∈ys,P x)->bQ f xs ys=Nj->bQ f ys xs=Nk
 | [],[],_,_,h=>rfl
 | [],_::_,_,_,_=>rfl
 |_::_,[],_,_,h=>by cases h
 |x::xs,y::ys,a,b,h=>by
  dsimp only[bQ]at h⊢;cases e:f x y with
  |true=>rw[o.asym x y (a x Ze) (b y Ze) e];rfl
  |false=>
   rw[e]at h;cases E:f y x with
   |true=>simp_all
   |false=>rw[E]at h;exact BJ o _ _ (λz H=>a z (Zc _ H)) (λz H=>b z (Zc _ H)) h
theorem lex_tot(o:hZ P f):∀(xs ys:List D),(∀x∈xs,P x)->(∀x∈ys,P x)->bQ f xs ys=Nk->bQ f ys xs=Nk->xs=ys
 | [],[],_,_,_,_=>rfl
 | [],_::_,_,_,h,_=>by cases h
 |_::_,[],_,_,_,h=>by cases h
 |x::xs,y::ys,b,c,h,H=>by
  dsimp only[bQ]at h H;cases e:f x y with
  |true=>simp_all
  |false=>
   cases E:f y x with
   |true=>simp_all
   |false=>rw[e,E]at h H;rw[o.tot x y (b x Ze) (c y Ze) e E,lex_tot o _ _ (λz a=>b z (Zc _ a)) (λz a=>c z (Zc _ a)) h H]
theorem BK(o:hZ P f):∀(xs ys zs:List D),(∀x∈xs,P x)->(∀x∈ys,P x)->(∀x∈zs,P x)->bQ f xs ys=Nk->bQ f ys zs=Nk->bQ f xs zs=Nk
 | [],[],zs,_,_,_,_,h=>h
 | [],_::_,_,_,_,_,h,_=>by cases h
 |_::_,_,[],_,_,_,_,_=>rfl
 |x::xs,[],z::zs,_,_,_,_,h=>by cases h
 |x::xs,y::ys,z::zs,g,i,j,H,a=>by
  have p:=g x Ze;have b:=i y Ze;have c:=j z Ze;simp only[bQ]at H a⊢;cases e:f x y with
  |true=>simp_all
  |false=>
   cases E:f y z with
   |true=>simp_all
   |false=>
    rw[e]at H;rw[E]at a;rw[o.ntr x y z p b c e E];cases d:f z x with
    |true=>rfl
    |false=>rw[o.ntr y z x b c p E d]at H;rw[o.ntr z x y c p b d e]at a;exact BK o _ _ _ (λw hw=>g w (Zc _ hw)) (λw hw=>i w (Zc _ hw)) (λw hw=>j w (Zc _ hw)) H a
end
theorem cW(h:az .int d=Nj):∃i,d=.int i:=by cases d<;>first|lia| (simp[az]at h)
theorem c_{t:eA}(h:az (.seq t) d=Nj):∃xs,d=.tup xs/\∀x∈xs,az t x=Nj:=by
 cases d with
 |tup xs=>exact⟨_,rfl,λx H=>Zl.mp h x H⟩
 |_=>simp[az]at h
theorem gw:∀(t:eA),bX t=Nj->hZ (λd=>az t d=Nj) (bU t)
 | .int,_=>by
  refine⟨λx h=>?_,λx y H a h=>?_,λx y z H a f b c=>?_,λx y H a b c=>?_⟩
  ·obtain⟨i,rfl⟩:=cW h;simp[bU]
  ·obtain⟨i,rfl⟩:=cW H;obtain⟨j,rfl⟩:=cW a;simp[bU]at h⊢;lia
  ·obtain⟨i,rfl⟩:=cW H;obtain⟨j,rfl⟩:=cW a;obtain⟨k,rfl⟩:=cW f;simp[bU]at b c⊢;lia
  ·obtain⟨i,rfl⟩:=cW H;obtain⟨j,rfl⟩:=cW a;simp[bU]at b c;grind
 | .seq t,h=>by
  have o:=gw t h;refine⟨λx h=>?_,λx y H a h=>?_,λx y z H a f b c=>?_,λx y H a b c=>?_⟩
  ·obtain⟨X,rfl,k⟩:=c_ h;exact BH o X k
  ·obtain⟨X,rfl,K⟩:=c_ H;obtain⟨Y,rfl,e⟩:=c_ a;exact BJ o X Y K e h
  ·obtain⟨X,rfl,K⟩:=c_ H;obtain⟨Y,rfl,e⟩:=c_ a;obtain⟨Z,rfl,g⟩:=c_ f;exact BK o X Y Z K e g b c
  ·obtain⟨X,rfl,K⟩:=c_ H;obtain⟨Y,rfl,e⟩:=c_ a;exact Z2 D.tup (lex_tot o X Y K e b c)
def dH(t:eA)(d e:D):Bool:= !bU t d e&& !bU t e d
theorem I8{t:eA}(hs:bX t=Nj){e:D}(h1:az t d=Nj)(H:az t e=Nj)(h:dH t d e=Nj):d=e:=by unfold dH at h;simp at h;exact(gw t hs).tot d e h1 H h.1 h.2
theorem oA{f:D->D->Bool}{x y:D}:bQ f (x::xs) (y::ys)=if f x y=Nj then Nj else if f y x=Nj then Nk else bQ f xs ys:=rfl
theorem BL{t:eA}(hs:bX t=Nj):∀(xs ys:List D),(∀x∈xs,az t x=Nj)->(∀x∈ys,az t x=Nj)->dH (.seq t) (.tup xs) (.tup ys)=((Np (dH t) xs ys).all id&&xs.length==ys.length)
 | [],[],_,_=>rfl
 | [],y::ys,_,_=>rfl
 |x::xs,[],_,_=>rfl
 |x::xs,y::ys,h,H=>by
  have i:=BL hs _ _ (λw hw=>h w (Zc _ hw)) λw hw=>H w (Zc _ hw);cases e:bU t x y with
  |true=>simp[dH,bU,bQ,e]
  |false=>
   cases E:bU t y x with
   |true=>simp[dH,bU,bQ,E]
   |false=>
    have a:dH t x y=Nj:=by simp[dH,e,E]
    have b:dH (.seq t) (.tup (x::xs)) (.tup (y::ys))=dH (.seq t) (.tup xs) (.tup ys):=by show(!bQ _ _ _&& !bQ _ _ _)=(!bQ _ _ _&& !bQ _ _ _);rw[oA,oA,e,E];rfl
    simp_all
theorem allO_map(f:D->D->Bool):∀(xs ys:List D) (g:D->D->Option Bool),(∀x∈xs,∀y∈ys,g x y=some (f x y))->ba (Np g xs ys)=some ((Np f xs ys).all id)
 | [],_,_,_=>rfl
 |_::_,[],_,_=>rfl
 |x::xs,y::ys,g,h=>by
  have i:=allO_map f _ _ g λa H b d=>h a (Zc _ H) b (Zc _ d)
  show(match g x y,ba _ with
   |some b,some c=>some _
   |_,_=>none)=_
  simp_all
theorem BM{t:eA}(hs:bX t=Nj){eq lt:D->D->Option Bool}:∀(xs ys:List D),(∀x∈xs,az t x=Nj)->(∀x∈ys,az t x=Nj)->(∀x∈xs,∀y∈ys,eq x y=some (dH t x y)/\lt x y=some (bU t x y))->yd eq lt xs ys=some (bQ (bU t) xs ys)
 | [],[],_,_,_=>rfl
 | [],_::_,_,_,_=>rfl
 |_::_,[],_,_,_=>rfl
 |x::xs,y::ys,H,d,h=>by
  have i:=BM hs _ _ (λw hw=>H w (Zc _ hw)) (λw hw=>d w (Zc _ hw)) λa f b g=>h a (Zc _ f) b (Zc _ g);unfold yd;rw[oA];cases e:bU t x y with
  |true=>
   have E:dH t x y=Nk:=by simp[dH,e]
   simp_all
  |false=>
   cases c:bU t y x with
   |true=>
    have E:dH t x y=Nk:=by simp[dH,c]
    simp_all
   |false=>
    have E:dH t x y=Nj:=by simp[dH,e,c]
    simp_all
theorem I9(S:ae):∀(t:eA),bX t=Nj->∀n,cK t<=n->∀d e,az t d=Nj->az t e=Nj->b9 S n d e=some (dH t d e)/\ez S n d e=some (bU t d e)
 | .int,_,0,h,_,_,_,_=>by simp[cK]at h
 | .int,_,n+1,_,d,e,a,b=>by obtain⟨i,rfl⟩:=cW a;obtain⟨j,rfl⟩:=cW b;refine⟨?_,rfl⟩;show some (i==j)=some (!decide (i<j)&& !decide (j<i));congr 1;lia
 | .seq t,H,0,h,_,_,_,_=>by simp[cK]at h
 | .seq t,H,n+1,h,d,e,a,b=>by obtain⟨X,rfl,k⟩:=c_ a;obtain⟨Y,rfl,K⟩:=c_ b;have I:=I9 S t H n (by simpa[cK]using h);refine⟨?_,BM (t:=t) H X Y k K λx c y f=>I x y (k x c) (K y f)⟩;show(ba (Np (b9 S n) X Y)).map (· &&X.length==Y.length)=_;simp only[allO_map (dH t) X Y _ λx c y f=>(I x y (k x c) (K y f)).1,BL (t:=t) H X Y k K];rfl
theorem oB(f:D->D->Bool)(x:D):∀l,(dM f x l).Perm (x::l)
 | []=>.refl _
 |y::Y=>by
  unfold dM;split
  ·exact .refl _
  ·exact((oB f x _).cons y).trans (.swap _ _ _)
theorem uW(f:D->D->Bool)(xs:List D):(eI f xs).Perm xs:=by
 have k:∀(xs a:List D),(xs.foldl (λa x=>dM f x a) a).Perm (a++xs):=by
  intro xs
  induction xs with
  |nil=>simp_all
  |cons x xs i=>intro a;exact(i _).trans (((oB f x _).append_right _).trans Pj.symm)
 simpa[eI]using k _ []
theorem BN{P:D->Prop}{f:D->D->Bool}(o:hZ P f)(x:D)(p:P x):∀l,(∀y∈l,P y)->l.Pairwise (λa b=>f b a=Nk)->(dM f x l).Pairwise (λa b=>f b a=Nk)
 | [],_,_=>by simp[dM]
 |y::j,d,h=>by
  simp[dM];have e:=d y Ze;obtain⟨g,i⟩:=ZI.mp h;split
  ·rename_i c;refine ZI.mpr ⟨λz H=>?_,h⟩;have Y:=o.asym x y p e c;rcases Zj.mp H with rfl|H
   ·exact Y
   ·exact o.ntr z y x (d z (Zc _ H)) e p (g z H) Y
  ·refine ZI.mpr ⟨λz H=>?_,BN o x p _ (λw hw=>d w (Zc _ hw)) i⟩;rcases Zj.mp ((oB f x _).mem_iff.mp H)with rfl|H
   ·simp_all
   simp_all
theorem BO{P:D->Prop}{f:D->D->Bool}(o:hZ P f)(xs:List D)(e:∀x∈xs,P x):(eI f xs).Pairwise (λa b=>f b a=Nk):=by
 have k:∀(xs A:List D),(∀x∈xs,P x)->(∀x∈A,P x)->A.Pairwise (λa b=>f b a=Nk)->(xs.foldl (λA x=>dM f x A) A).Pairwise λa b=>f b a=Nk:=by
  intro xs
  induction xs with
  |nil=>intro A _ _ h;exact h
  |cons x xs i=>
   intro A c d h;have p:=c x Ze;refine i _ (λy H=>c y (Zc _ H)) (λy H=>?_) (BN o x p _ d h);rcases Zj.mp ((oB f x _).mem_iff.mp H)with rfl|H
   ·exact p
   simp_all
 exact k _ _ e (by simp) .nil
theorem BP{t:eA}(hs:bX t=Nj)(h:∀x∈xs,az t x=Nj)(p:ys.Perm xs)(s:ys.Pairwise (λa b=>bU t b a=Nk)):ys=eI (bU t) xs:=by have o:=gw t hs;exact PD (λa b d e H c=>o.tot a b (h a (p.mem_iff.mp d)) (h b ((uW _ _).mem_iff.mp e)) c H) s (BO o _ h) (p.trans (uW _ _).symm)
open PySem PySem.W PySem.Spec PyProof.Rows
def h_(its:Lv)(c:Nat->Nat->Bool)(out:Lv):Prop:=∃p:List Nat,out=p.map (λi=>its.getD i Nr)/\p.Perm (Nq its.length)/\p.Pairwise (λi j=>c j i=Nk)
theorem BQ{V:Nat}{c:Nat->Nat->Bool}{P:PySem.Fin->Nl->Prop}(B:s.heap.get? a=some (seqObj "list" its.toArray V))(D:its.length<64)
  (I:2<=its.length->∃κ:Pn,cV its.length c/\(∀i j,i<its.length->j<its.length->its.getD i Nr=its.getD j Nr->bN its.length c i=bN its.length c j)/\∀h':Nw,(∀b o,b≠a->s.heap.get? b=some o->h'.get? b=some o)->
   (∀(J:Pn->Nl->Prop),J κ {s with heap:=h'}->wpAny (model prog w) A (keyKind' its.toArray) J E {s with heap:=h'})/\
   ∀i j C,i<its.length->j<its.length->C (c i j) {s with heap:=h'}->kas_ask prog w A κ its i j C {s with heap:=h'})
  (M:∀h' q out,(∀b o,b≠a->s.heap.get? b=some o->h'.get? b=some o)->h'.get? a=some (seqObj "list" (Nz out) q)->h_ its c out->P (.done (.ret .none)) {s with heap:=h'}):
  wpAny (model prog w) A (N7.«list.sort» ⟨[.ref a],[]⟩) P E s:=by
 have l:its.length<=sizeLine:=by rw[N5];omega
 have Y:a<s.heap.objs.size:=Zf B;have W:=ZX s.heap a (NC λ_=>(#[]:Av));obtain⟨u,x⟩:∃u,(s.heap.update a (NC λ_=>(#[]:Av))).get? a=some (seqObj "list" #[] u):=⟨_,get?_update_seq B λ_=> #[]⟩
 have k:∀b o,b≠a->s.heap.get? b=some o->(((s.heap.update a (NC λ_=>(#[]:Av))).push (seqObj "tuple" its.toArray 0)).push (seqObj "list" #[] 0)).get? b=some o:=λb o z e=>
  Zb _ (Zb _ ((W.2 b z).trans e))
 have m:(((s.heap.update a (NC λ_=>(#[]:Av))).push (seqObj "tuple" its.toArray 0)).push (seqObj "list" #[] 0)).get? a=some (seqObj "list" #[] u):=Zb _ (Zb _ x);rw[list_sort_plain];refine Za (listItems_at B rfl ?_);refine Za (listUpdate_at B rfl ?_ (by rw[Zu];exact l) (Z6 _));refine Za (seqEpoch_at x rfl ?_);refine Za (wpAny_newTuple ?_ (by show its.length<=_;exact l));refine Za (Sr ?_ (Z6 _));refine ZB ?_;show wpAny (model prog w) A _ P E {s with heap:=((s.heap.update a (NC λ_=>(#[]:Av))).push (seqObj "tuple" its.toArray 0)).push (seqObj "list" #[] 0)};generalize((s.heap.update a (NC λ_=>(#[]:Av))).push (seqObj "tuple" its.toArray 0)).push (seqObj "list" #[] 0)=g at*
 have fin:∀(S:SortSt) (out:Lv),(arrOf S).map (·.2)=Nz out->failedOf S=none->out.length=its.length->h_ its c out->
   wpAny (model prog w) A (do
    let t:=(<-seqEpoch a) !=u
    QR (.ref a) λ_=>(arrOf S).map (·.2)
    if let some e:=failedOf S then rule "list.sort.comparison-raised";throw e
    if t then rule "list.sort.modified";raiseError "ValueError" "list modified during sort"
    ret .none) P E {s with heap:=g}:=by
  intro S out H v d F;have X:=ZX g a (NC λ_=>Nz out);obtain⟨q,G⟩:∃q,(g.update a (NC λ_=>Nz out)).get? a=some (seqObj "list" (Nz out) q):=⟨_,get?_update_seq m λ_=>Nz out⟩;rw[H];refine Za (seqEpoch_at m rfl ?_);refine Za (listUpdate_at m rfl ?_ (Z6 _) (by rw[Zu,d];exact Nat.le_succ_of_le l));rw[v];simp only[bne_self_eq_false,Zt,if_false];exact Zd (M _ q out (λb o z e=>(X.2 b z).trans (k b o z e)) G F)
 by_cases n:2<=its.length
 ·have f:¬its.toArray.size<2:=by rw[Zu];omega
  rw[if_neg f,if_neg f];obtain⟨κ,o,y,I⟩:=I n;obtain⟨T,U⟩:=I g k;refine Za (T _ ?_)
  have R:=oz (E:=E) o y n D U (Q:=λS L=>L={s with heap:=g}/\failedOf S=none/\∃out:Lv,(arrOf S).map (·.2)=Nz out/\out.length=its.length/\h_ its c out)
   (λS p v H K O=>⟨rfl,v,_,H,by rw[Zk,K.length_eq,List.length_range],p,rfl,K,O⟩)
  refine Za (ZH R (λr L N=>?_) λ_ _ e=>e);obtain⟨⟨⟩,S⟩:=r;obtain⟨rfl,v,out,H,d,F⟩:=N;exact fin S _ H v d F
 ·have f:its.toArray.size<2:=by rw[Zu];omega
  rw[if_pos f,if_pos f];refine Za (Zd ?_)
  show wpAny (model prog w) A (do
    let t:=(<-seqEpoch a) !=u
    QR (.ref a) λ_=>(arrOf (Sf general' (its.toArray.zip its.toArray) #[] 7 none)).map (·.2)
    if let some e:=failedOf (Sf general' (its.toArray.zip its.toArray) #[] 7 none)then rule "list.sort.comparison-raised";throw e
    if t then rule "list.sort.modified";raiseError "ValueError" "list modified during sort"
    ret .none) P E {s with heap:=g}
  refine fin _ its ?_ rfl rfl ⟨Nq its.length,?_,.refl _,?_⟩
  ·show(its.toArray.zip its.toArray).map (·.2)=its.toArray;apply Array.toList_inj.mp;rw[SW,Array.toList_zip];exact List.map_snd_zip (Zh _)
  ·refine QW (by simp) λi g n=>?_;simp[g]
  ·match its,n with
   | [],_=>simp
   | [_],_=>simp
   |_::_::_,n=>simp at n
end Py
namespace Py
open PySem PySem.W PySem.Spec PyProof.Rows L2
theorem I_{b:Bool}{l:Nm}{c:Nat->Nat->Bool}{Q:Vs}(x:b5 b s.heap l its.toArray)(g:its.length<64)
  (r:2<=its.length->∃κ:Pn,cV its.length c/\(∀i j,i<its.length->j<its.length->its.getD i Nr=its.getD j Nr->bN its.length c i=bN its.length c j)/\∀h':Nw,(∀b o,s.heap.get? b=some o->h'.get? b=some o)->
   (∀(E':Vs) (u:Pn->Nl->Prop),u κ {s with heap:=h'}->wpAny (model prog w) A.in1.in1 (keyKind' its.toArray) u E' {s with heap:=h'})/\
   ∀i j C,i<its.length->j<its.length->C (c i j) {s with heap:=h'}->kas_ask prog w A.in1.in1 κ its i j C {s with heap:=h'})
  (z:∀(h1 h':Nw) f out,(∀b o,s.heap.get? b=some o->h1.get? b=some o)->(∀b o,h1.get? b=some o->h'.get? b=some o)->h'.get? h1.objs.size=some (seqObj "list" (Nz out) f)->h_ its c out->Q (.ref h1.objs.size) {s with heap:=h'}):
  wpAny (model prog w) A (call (.builtin "sorted") [.ref l]) Q E s:=by
 refine Rk kind_sorted plain_sorted entry_sorted (args_sorted1 _) ?_;unfold N7.«sorted»;refine Za (m:=checkCount "sorted" 1 1 _) (Zd ?_);have H:its.length<=sizeLine:=by rw[N5];omega
 have d:its.toArray.size<=sizeLine:=by rw[Zu];exact H
 have G:∀h1:Nw,(∀b o,s.heap.get? b=some o->h1.get? b=some o)->wpAny (model prog w) A.in1 (do
   let l <-newList its
   let _ <-holding [l] (call (.builtin "list.sort") [l])
   ret l) (λfin F=>∃v,fin=.done (.ret v)/\Q v F) E {s with heap:=h1}:=by
  intro h1 k;refine Za (Sr ?_ H);have a:(h1.push (seqObj "list" its.toArray 0)).get? h1.objs.size=some (seqObj "list" its.toArray 0):=Zg _ rfl;refine Za (ZB (ZY slot_list_sort ⟨_,a,rfl⟩ entry_list_sort ?body (args_list_sort _)))
  case body=>
   refine BQ (c:=c) (s:={s with heap:=h1.push (seqObj "list" its.toArray 0)}) a g (λy=>?_) λh' f out K e O=>?_
   ·obtain⟨κ,o,S,r⟩:=r y;refine⟨κ,o,S,λh' K=>?_⟩;obtain⟨B,D⟩:=r h' λb o e=>K b o (Zs (Zf (k b o e))) (Zb _ (k b o e));exact⟨B _,D⟩
   ·exact⟨_,rfl,Zd ⟨_,rfl,z h1 h' f out k (λb o e=>K b o (Zs (Zf e)) (Zb _ e)) e O⟩⟩
 cases b with
 |true=>obtain⟨o,t,p,n,q⟩:=x;exact Za (wpAny_collect_seq l (.inl rfl) t p q (λh1 k=>by simpa using G h1 k) d)
 |false=>obtain⟨o,t,p,n,q⟩:=x;exact Za (wpAny_collect_seq l (.inr rfl) t p q (λh1 k=>by simpa using G h1 k) d)
theorem Ja(I:Inv X pq σ H s)(a:aJ X.K ⟨X.mg,F⟩ μ S H){t:eA}(hs:bX t=Nj)(i:cK t<=40)(h:A.units+40<cLine){e:D}{b:V}(h1:az t d=Nj)(g:az t e=Nj)
  (r:Rep X.K ⟨X.mg,F⟩ μ H d v) (q:RelV v u) (R:Rep X.K ⟨X.mg,F⟩ μ H e b) (Q:RelV b z):PySem.SeqAt.EqAt A s u z (dH t d e)/\hJ A s u z (bU t d e):=by
 obtain⟨c,f⟩:=I9 S t hs _ i d e h1 g;exact⟨(yc I a _ A h d e v _ u z _ r q R Q c).2.2,tK I a _ A h d e v _ u z _ r q R Q f⟩
theorem BR{prog:Nt}{w:NF}{A:NV}{Q:Bool->Nl->Prop}{t:eA}{b:Bool}(g:b=Nj->t=.int):∀(ds es:List D) (us zs:Lv) (i:Nat),(∀d∈ds,az t d=Nj)->(∀e∈es,az t e=Nj)->ds.length=us.length->es.length=zs.length->
  (∀(j:Nat) d e u z,ds[j]?=some d->es[j]?=some e->us[j]?=some u->zs[j]?=some z->PySem.SeqAt.EqAt A s u z (dH t d e)/\hJ A s u z (bU t d e)/\(t=.int->∃a b ta tb,d=.int a/\e=.int b/\u=.int a ta/\z=.int b tb))->
  Q (bQ (bU t) ds es) s->KatLex prog w A b (decide (us.length<zs.length)) Q (us.zip zs) i s
 | [],[],us,zs,i,_,_,L,l,_,q=>by have E:us=[]:=ZT L.symm;have f:zs=[]:=ZT l.symm;subst E;subst f;exact kat_nil q
 | [],e::es,us,zs,i,_,_,L,l,_,q=>by
  have E:us=[]:=ZT L.symm;subst E;have:decide (([]:Lv).length<zs.length)=Nj:=by grind
  rw[this,PZ];exact kat_nil q
 |d::ds,[],us,zs,i,_,_,L,l,_,q=>by
  have E:zs=[]:=ZT l.symm;subst E;have:decide (us.length<([]:Lv).length)=Nk:=by simp
  rw[this,QC];exact kat_nil q
 |d::ds,e::es,[],zs,i,_,_,L,_,_,_=>by simp at L
 |d::ds,e::es,_::_,[],i,_,_,_,l,_,_=>by simp at l
 |d::ds,e::es,u::us,z::zs,i,I,J,L,l,h,q=>by
  obtain⟨M,O,P⟩:=h 0 d e u z rfl rfl rfl rfl;have G:decide ((u::us).length<(z::zs).length)=decide (us.length<zs.length):=by simp
  rw[G,Z7];refine kat_cons (M prog w _ _ ?_);rw[oA]at q
  have N:∀{k:Bool},bU t d e=k->dH t d e=Nk->Q k s->KatGo prog w A b (decide (us.length<zs.length)) Q u z (us.zip zs) i Nk s:=λ{k} n _ o=>by
   clear q;refine kat_no ?_;cases H:(b&&i==0)with
   |false=>exact kat_one u z (O prog w _ _ (by rw[n];exact o))
   |true=>simp only[ZN]at H;obtain⟨a,B,ta,tb,rfl,rfl,rfl,rfl⟩:=P (g H.1);have K:=g H.1;subst K;exact oneLt_int (by rw[show decide (a<B)=k from n];exact o)
  cases E:bU t d e with
  |true=>
   have c:dH t d e=Nk:=by simp[dH,E]
   rw[E]at q;rw[c];exact N E c (by simpa using q)
  |false=>
   cases f:bU t e d with
   |true=>
    have c:dH t d e=Nk:=by simp[dH,E,f]
    rw[E,f]at q;rw[c];exact N E c (by simpa using q)
   |false=>
    have c:dH t d e=Nj:=by simp[dH,E,f]
    rw[E,f]at q;rw[c];refine kat_yes (BR g ds es us zs (i+1) (λx m=>I x (Zc _ m)) (λx m=>J x (Zc _ m)) (by grind) (by simpa using l) (λj C F U Z p r v y=>h (j+1) C F U Z p r v y) (by simpa using q))
end Py
namespace Py
open PySem PySem.W PySem.Spec PyProof.Rows L2
end Py
namespace Py
open PySem PySem.W PySem.Spec PyProof.Rows L2
def jd:eA->String
 | .int=>"int"
 |_=>"tuple"
theorem kQ(I:Inv X pq σ H s){t:eA}(hs:bX t=Nj)(h:az t d=Nj)(r:Rep X.K ⟨X.mg,F⟩ μ H d v)(q:RelV v u):Looks (model X.prog X.w) s.heap (typeOf u) (.type (jd t)):=by
 have tup:∀x,d=.tup x->Looks (model X.prog X.w) s.heap (typeOf u) (.type "tuple"):=by
  rintro x rfl;obtain⟨a,vs,rfl,c,_⟩:=bO r;subst q;obtain⟨e,_,p,_⟩:=I.tuple c;obtain⟨o,b,f,_⟩:=p;have:=show Looks (model X.prog X.w) _ (typeOf (.ref a)) _ from(Looks.ld b).andThen .now
  simp_all
 cases t with
 |int=>obtain⟨i,rfl⟩:=cW h;cases aF r;obtain⟨T,rfl⟩:=q;exact(show Looks _ _ _ _ from .now)
 |seq t=>obtain⟨x,rfl,_⟩:=c_ h;exact tup _ rfl
theorem BS(I:Inv X pq σ H s){t:eA}(hs:bX t=Nj):∀(ys:List D) (vs:List V) (its:Lv),(∀d∈ys,az (.seq t) d=Nj/\d≠.tup [])->ai X.K ⟨X.mg,F⟩ μ H ys vs->Vals vs its->
  ∃fs,KatTups s.heap its fs/\fs.length=its.length/\∀f∈fs,Looks (model X.prog X.w) s.heap (typeOf f) (.type (jd t))
 | [],vs,its,_,r,q=>by subst r;cases q;exact⟨_,KatTups.nil,rfl,λ_ h=>nomatch h⟩
 |d::ys,vs,its,h,r,q=>by
  obtain⟨v,O,rfl,A,B⟩:=r.uncons;cases q with
  |cons Q z=>
   obtain⟨fs,K,J,L⟩:=BS I hs _ _ _ (λe l=>h e (Zc _ l)) B z;obtain⟨i,G⟩:=h d Ze;obtain⟨c,rfl,y⟩:=c_ i;cases c with
   |nil=>simp_all
   |cons x c=>
    obtain⟨a,as,rfl,u,R⟩:=bO A;cases Q;obtain⟨N,C,p,_⟩:=I.tuple u;obtain⟨w,W,rfl,E,_⟩:=R.uncons;cases C with
    |cons P M=>
     rename_i f U;obtain⟨o,m,j,n,k⟩:=p;refine⟨f::fs,KatTups.cons m j k (by simp) K,by simp_all,λg b=>?_⟩;rcases Zj.mp b with rfl|b
     ·exact kQ I hs (y x Ze) E P
     simp_all
theorem Jb(I:Inv X pq σ H s)(sk:aJ X.K ⟨X.mg,F⟩ μ S H){t:eA}(hs:bX t=Nj)(hd:cK t<=40)(hu:A.units+42<cLine){e:D}{x:V}(h1:az (.seq t) d=Nj)(h2:az (.seq t) e=Nj)
  (r1:Rep X.K ⟨X.mg,F⟩ μ H d v) (q1:RelV v u) (r2:Rep X.K ⟨X.mg,F⟩ μ H e x) (q2:RelV x z) {C:Bool->Nl->Prop}  (hC:C (bU (.seq t) d e) s):wpAny (model X.prog X.w) A (keyLt' (tuples' (N3 (jd t) !=N3 "tuple")) u z) C E s:=by
 obtain⟨y,rfl,c⟩:=c_ h1;obtain⟨Y,rfl,f⟩:=c_ h2;obtain⟨a,as,rfl,ha,r⟩:=bO r1;obtain⟨b,bs,rfl,h,rb⟩:=bO r2;cases q1;cases q2;obtain⟨U,R,pa,_⟩:=I.tuple ha;obtain⟨Z,q,pb,_⟩:=I.tuple h;obtain⟨oa,P,_,na,L⟩:=pa;obtain⟨ob,T,_,nb,M⟩:=pb;refine kat_lt P L T M ?_;have l1:y.length=U.length:=by rw[r.length,R.length]
 have l2:Y.length=Z.length:=by rw[rb.length,q.length]
 have:=BR (prog:=X.prog) (w:=X.w) (A:=A) (s:=s) (Q:=C) (t:=t) (b:=(N3 (jd t) !=N3 "tuple")) (λh=>?_) y Y U Z 0 c f l1 l2 (λj d e u z g G W g4=>?_) hC
 ·simpa using this
 ·cases t with
  |int=>rfl
  |seq t=>exact absurd h (by show ¬((N3 "tuple" !=N3 "tuple")=Nj);decide)
 ·obtain⟨w1,N,K⟩:=r.get g;obtain⟨w2,O,m⟩:=rb.get G;obtain⟨u',k,n⟩:=R.get N;obtain⟨z',l,o⟩:=q.get O;rw[W]at k;cases k;rw[g4]at l;cases l;obtain⟨B,J⟩:=Ja I sk hs hd (A:=A) (by omega) (c d (Zq g)) (f e (Zq G)) K n m o;refine⟨B,J,λht=>?_⟩;subst ht;obtain⟨i,rfl⟩:=cW (c d (Zq g));obtain⟨j,rfl⟩:=cW (f e (Zq G));cases aF K;cases aF m;obtain⟨ta,rfl⟩:=n;obtain⟨tb,rfl⟩:=o;exact⟨i,j,ta,tb,rfl,rfl,rfl,rfl⟩
section
variable {t:eA}{vs:List V}
theorem kR(h:gb t ys=Nj):bX t=Nj:=by
 cases t with
 |int=>rfl
 |seq t=>unfold gb at h;simp only[ZN]at h;exact h.1
theorem Mt(h:∀y∈ys,az t y=Nj)(r:ai X.K ⟨X.mg,F⟩ μ H ys vs)(a:Vals vs its):∀i,i<its.length->∃d v u,ys[i]?=some d/\vs[i]?=some v/\its[i]?=some u/\az t d=Nj/\Rep X.K ⟨X.mg,F⟩ μ H d v/\RelV v u/\ys.getD i .non=d/\its.getD i Nr=u:=λi c=>by have l:=r.length;have L:=a.length;have e:ys[i]?=some ys[i]:=Zi _;obtain⟨v,E,k⟩:=r.get e;obtain⟨u,b,K⟩:=a.get E;simp_all
theorem BU(I:Inv X pq σ H s)(sk:aJ X.K ⟨X.mg,F⟩ μ S H)(hu:X.A.units+64<cLine)(O:cK t<=40)(n:∀y∈ys,az t y=Nj)(A:gb t ys=Nj)(rr:ai X.K ⟨X.mg,F⟩ μ H ys vs)(hv:Vals vs its)(h2:2<=its.length):
  ∃κ:Pn,cV its.length (λi j=>bU t (ys.getD i .non) (ys.getD j .non))/\(∀i j,i<its.length->j<its.length->its.getD i Nr=its.getD j Nr->bN its.length (λi j=>bU t (ys.getD i .non) (ys.getD j .non)) i=bN its.length (λi j=>bU t (ys.getD i .non) (ys.getD j .non)) j)/\∀h':Nw,(∀b o,s.heap.get? b=some o->h'.get? b=some o)->
   (∀(E':Vs) (W:Pn->Nl->Prop),W κ {s with heap:=h'}->wpAny (model X.prog X.w) X.A.in1.in1 (keyKind' its.toArray) W E' {s with heap:=h'})/\
   ∀i j C,i<its.length->j<its.length->C (bU t (ys.getD i .non) (ys.getD j .non)) {s with heap:=h'}->kas_ask X.prog X.w X.A.in1.in1 κ its i j C {s with heap:=h'}:=by
 have Q:bX t=Nj:=kR A;have lo:=gw t Q;have at_:=Mt n rr hv
 have V:cV its.length (λi j=>bU t (ys.getD i .non) (ys.getD j .non)):=by
  have ty:∀i,i<its.length->az t (ys.getD i .non)=Nj:=λi a=>by obtain⟨d,v,u,Z,e2,E,k1,k2,k3,k4,k5⟩:=at_ i a;rw[k4];exact k1
  exact⟨λi a=>lo.irr _ (ty i a),λi j a l=>lo.asym _ _ (ty i a) (ty j l),λi j k a l hk=>lo.ntr _ _ _ (ty i a) (ty j l) (ty k hk)⟩
 have p:∀i j,i<its.length->j<its.length->its.getD i Nr=its.getD j Nr->bN its.length (λi j=>bU t (ys.getD i .non) (ys.getD j .non)) i=bN its.length (λi j=>bU t (ys.getD i .non) (ys.getD j .non)) j:=λi j a l P=>by obtain⟨d,v,u,Z,e2,E,m,r,w,B,D⟩:=at_ i a;obtain⟨Y,v',u',K,L,M,g,G,c,e,f⟩:=at_ j l;rw[D,f]at P;subst P;have ev:v=v':=w.inj c;subst ev;have:=zw I sk 40 d Y v _ r G (I9 S t Q 40 O d Y m g).1;have hde:=I8 Q m g this;subst hde;unfold bN;simp only[B,e]
 have hu2:(X.A.in1.in1).units+42<cLine:=by show X.A.units+1+1+42<cLine;omega
 cases t with
 |int=>
  refine⟨oneType',V,p,λh' kp=>⟨λE' W q=>?_,λi j C a l N=>?_⟩⟩
  ·have J:Inv X pq σ H {s with heap:=h'}:=I.kept (t':=s.toks) kp;refine kas_kind (T:=.type "int") h2 (λu hu=>?_) (by decide) (by decide) q;obtain⟨i,a,rfl⟩:=ZJ.mp hu;obtain⟨d,v,u,Z,e2,E,m,r,w,B,D⟩:=at_ i a;rw[Zi a]at E;cases E;exact kQ (t:=.int) J rfl m r w
  ·obtain⟨d,v,u,Z,e2,E,m,r,w,B,D⟩:=at_ i a;obtain⟨Y,v',u',K,L,M,g,G,c,e,f⟩:=at_ j l;unfold kas_ask;rw[D,f];rw[B,e]at N;obtain⟨x,rfl⟩:=cW m;obtain⟨y,rfl⟩:=cW g;cases aF r;cases aF G;obtain⟨ta,rfl⟩:=w;obtain⟨tb,rfl⟩:=c;exact kat_lt_int N
 |seq t=>
  unfold gb at A;have R:=(Pp.mp A).2;have U:=R
  have hne:∀y∈ys,az (.seq t) y=Nj/\y≠.tup []:=λy hy=>⟨n y hy,λz=>by have:=Zl.mp U y hy;rw[z]at this;cases this⟩;refine⟨tuples' (N3 (jd t) !=N3 "tuple"),V,p,λh' kp=>⟨λE' W q=>?_,λi j C a l N=>?_⟩⟩
  ·have J:Inv X pq σ H {s with heap:=h'}:=I.kept (t':=s.toks) kp;obtain⟨fs,f1,f2,f3⟩:=BS (t:=t) J Q ys vs its hne rr hv;exact kat_kind (T:=.type (jd t)) f1 (by omega) f3 (by simp) q
  ·have J:Inv X pq σ H {s with heap:=h'}:=I.kept (t':=s.toks) kp;obtain⟨d,v,u,Z,e2,E,m,r,w,B,D⟩:=at_ i a;obtain⟨Y,v',u',K,L,M,g,G,c,e,f⟩:=at_ j l;unfold kas_ask;rw[D,f];rw[B,e]at N;exact Jb (t:=t) J sk Q (by simp[cK]at O;omega) hu2 m g r w G c N
theorem BV(b:gb t ys=Nj)(a:∀y∈ys,az t y=Nj)(r:ai X.K ⟨X.mg,F⟩ μ H ys vs)(f:Vals vs its){out:Lv}(O:h_ its (λi j=>bU t (ys.getD i .non) (ys.getD j .non)) out):∃w,w.length=its.length/\ai X.K ⟨X.mg,F⟩ μ H (eI (bU t) ys) w/\Vals w out:=by
 have at_:=Mt a r f;have L:ys.length=vs.length:=r.length;have q:vs.length=its.length:=f.length;obtain⟨p,rfl,P,n⟩:=O;have m:∀i∈p,i<its.length:=λi o=>by grind
 have e:p.length=its.length:=by rw[P.length_eq];simp
 have fin:ai X.K ⟨X.mg,F⟩ μ H (p.map λi=>ys.getD i .non) (p.map λi=>vs.getD i .non):=ai.of (by simp) λj d v g c=>by
  grind
 have fin2:=by
  have:∀(l:List Nat),(∀i∈l,i<its.length)->Vals (l.map λi=>vs.getD i .non) (l.map λi=>its.getD i Nr):=by
   intro l
   induction l with
   |nil=>exact λ_=>.nil
   |cons i l I=>intro h;refine .cons ?_ (I λj k=>h j (Zc _ k));simp_all
  exact this p m
 have s:(p.map λi=>ys.getD i .non)=eI (bU t) ys:=by
  refine BP (kR b) a ?_ ?_
  ·have:=P.map λi=>ys.getD i .non;refine this.trans (.of_eq ?_);refine QW (by grind) λi g c=>?_;simp[c]
  ·rw[Ya];exact n
 grind
end
theorem Jc(V:X.A.units+64<cLine)(box:Bool)(t:eA)(A:cK t<=40):a8 X (.builtin "sorted") (rC X.K X.mg (km box t)):=by
 intro P s E H xs us Q I r h;obtain⟨F,μ,S,ds,z,rl,w⟩:=h;unfold km at w;split at w
 ·rename_i d;obtain⟨v,rfl,rd⟩:=rl.one;obtain⟨u,rfl,ru⟩:=vals1 r;split at w
  ·rename_i Y e;split at w
   ·rename_i T;obtain⟨B,N,o⟩:=T;have g:∀y∈Y,az t y=Nj:=λy W=>Zl.mp B y W;obtain⟨a,vs,rfl,n,R⟩:=fE z rd e;cases ru
    obtain⟨b,f,U,x⟩:∃b f,b5 b s.heap a (Nz f)/\Vals vs f:=by
     rcases n with n|n
     ·obtain⟨f,C,p,_⟩:=I.list n;exact⟨Nj,f,p.isList,C⟩
     ·obtain⟨f,C,p,_⟩:=I.tuple n;exact⟨Nk,f,p,C⟩
    refine I_ (c:=λi j=>bU t (Y.getD i .non) (Y.getD j .non)) U (by have:f.length=Y.length:=(R.length.trans x.length).symm;omega) (λM=>BU I z V A g o R x M) λq L J out Z k2 K O=>?_;obtain⟨ws,m,fin,fin2⟩:=BV (X:=X) o g R x O;have D:Inv X P E H {s with heap:=q}:=I.kept (t':=s.toks) Z;have G:Inv X P E (aO H q.objs.size (.lst ws)) {s with heap:=L}:=D.laid (t':=s.toks) k2 (Zh _) ⟨by have:f.length=Y.length:=(R.length.trans x.length).symm;rw[m,N5];omega,_,J,fin2,K⟩;have l:H q.objs.size=none:=D.hok.fresh (Zh _);refine⟨.ref q.objs.size,_,G,rfl,?_⟩;cases box with
    |true=>exact aQ.box w z fin _ l
    |false=>exact aQ.lst w z fin _ l
   ·exact w.elim
  ·exact w.elim
 ·exact w.elim
end Py
namespace Py
open PySem PySem.W PySem.Spec PyProof.Rows L2
def kV(v:Nn):Int:=match v with
 | .int k _=>k
 |_=>0
theorem Jd{f:α->β}:∀{l:List α} {us:List β},us.Perm (l.map f)->∃L:List α,L.Perm l/\us=L.map f:=λ{l us} p=>by
 generalize H:l.map f=m at p
 induction p generalizing l with
 |nil=>simp_all
 |cons x p d=>obtain⟨a,c,rfl,rfl,h⟩:=Qn.mp H;obtain⟨L,q,rfl⟩:=d h;exact⟨_,q.cons a,rfl⟩
 |swap x y k=>obtain⟨a,c,rfl,rfl,h⟩:=Qn.mp H;obtain⟨b,g,rfl,rfl,rfl⟩:=Qn.mp h;exact⟨_,List.Perm.swap _ _ _,rfl⟩
 |trans p q i I=>obtain⟨c,Q,e⟩:=I H;obtain⟨g,j,E⟩:=i e.symm;exact⟨_,j.trans Q,E⟩
theorem BW{K:Fg}{mg:GS}{μ:La}{H:Hp}:∀ns:Li,ai K mg μ H (ns.map D.int) (ns.map V.int)
 | []=>.nil
 |n::ns=>.cons bo (BW _)
theorem BX{K:Fg}{mg:GS}{μ:La}{H:Hp}:∀{cs:List (Li×Nm)},(∀c∈cs,bZ K H c.2 (c.1.map V.int))->ai K mg μ H (cs.map λc=>D.tup (c.1.map D.int)) (cs.map λc=>V.ref c.2)
 | [],_=>.nil
 |c::cs,h=>.cons (by exact⟨_,_,rfl,h c Ze,BW _⟩) (BX λd a=>h d (Zc _ a))
theorem BY:∀cs:List (Li×Nm),Vals (cs.map λc=>V.ref c.2) (cs.map λc=>NA c.2)
 | []=>.nil
 |c::cs=>.cons rfl (BY _)
theorem BZ(k:Li):az (.seq .int) (.tup (k.map D.int))=Nj:=by show(k.map _).all _=Nj;rw[Zl];intro x h;obtain⟨i,_,rfl⟩:=Zp.mp h;rfl
theorem B0{a:Nm}{L:Lv}(H:∀{Q:Lv->Nl->Prop} {E':Vs},(∀(h':Nw) (tk:Nat) (vs:Lv),(∀b o,s.heap.get? b=some o->h'.get? b=some o)->vs.Perm L->Q vs {s with heap:=h',toks:=tk})->wpAny (model prog w) A.in1 (collect (.ref a)) Q E' s)(F:L.length<64)
  (d:∀(h1:Nw) (tk:Nat) (vs:Lv),(∀b o,s.heap.get? b=some o->h1.get? b=some o)->vs.Perm L->∃c,(2<=vs.length->∃κ:Pn,cV vs.length c/\(∀i j,i<vs.length->j<vs.length->vs.getD i Nr=vs.getD j Nr->bN vs.length c i=bN vs.length c j)/\∀h':Nw,(∀b o,h1.get? b=some o->h'.get? b=some o)->
   (∀(E':Vs) (l:Pn->Nl->Prop),l κ {s with heap:=h',toks:=tk}->wpAny (model prog w) A.in1.in1 (keyKind' vs.toArray) l E' {s with heap:=h',toks:=tk})/\
   ∀i j C,i<vs.length->j<vs.length->C (c i j) {s with heap:=h',toks:=tk}->kas_ask prog w A.in1.in1 κ vs i j C {s with heap:=h',toks:=tk})/\
   ∀(h':Nw) (g:Nat) (out:Lv),(∀b o,h1.get? b=some o->h'.get? b=some o)->h'.get? h1.objs.size=some (seqObj "list" out.toArray g)->h_ vs c out->Q (.ref h1.objs.size) {s with heap:=h',toks:=tk}):
  wpAny (model prog w) A (call (.builtin "sorted") [.ref a]) Q E s:=by
 refine Rk kind_sorted plain_sorted entry_sorted (args_sorted1 _) ?_;unfold N7.«sorted»;refine Za (m:=checkCount "sorted" 1 1 _) (Zd (Za (H λh1 tk vs r p=>?_)));obtain⟨c,d,fin⟩:=d h1 tk vs r p;have k:vs.length<64:=by rw[p.length_eq];exact F
 have q:vs.length<=sizeLine:=by rw[N5];omega
 refine Za (Sr ?_ q);have f:(h1.push (seqObj "list" vs.toArray 0)).get? h1.objs.size=some (seqObj "list" vs.toArray 0):=Zg _ rfl;refine Za (ZB (ZY slot_list_sort ⟨_,f,rfl⟩ entry_list_sort ?body (args_list_sort _)))
 case body=>
  refine BQ (c:=c) (s:={s with heap:=h1.push (seqObj "list" vs.toArray 0),toks:=tk}) f k (λn=>?_) λh' g out K e O=>?_
  ·obtain⟨κ,o,S,d⟩:=d n;refine⟨κ,o,S,λh' K=>?_⟩;obtain⟨u,v⟩:=d h' λb o e=>K b o (Zs (Zf e)) (Zb _ e);exact⟨u _,v⟩
  ·exact⟨_,rfl,Zd ⟨_,rfl,fin h' g out (λb o e=>K b o (Zs (Zf e)) (Zb _ e)) e O⟩⟩
theorem Je{t:NE}{Q:Vs}(l:A.handled=none)(T:TB w t es.size)(g:s.heap.get? a=some o)(n:o.ExactSet)(d:o.data=.set es ep t)(f:es.size<64)
  (H:∀(h1:Nw) (tk:Nat) (vs:Lv),(∀b o,s.heap.get? b=some o->h1.get? b=some o)->vs.Perm (es.toList.map (·.2))->∃c,(2<=vs.length->∃κ:Pn,cV vs.length c/\(∀i j,i<vs.length->j<vs.length->vs.getD i Nr=vs.getD j Nr->bN vs.length c i=bN vs.length c j)/\∀h':Nw,(∀b o,h1.get? b=some o->h'.get? b=some o)->
   (∀(E':Vs) (k:Pn->Nl->Prop),k κ {s with heap:=h',toks:=tk}->wpAny (model prog w) A.in1.in1 (keyKind' vs.toArray) k E' {s with heap:=h',toks:=tk})/\
   ∀i j C,i<vs.length->j<vs.length->C (c i j) {s with heap:=h',toks:=tk}->kas_ask prog w A.in1.in1 κ vs i j C {s with heap:=h',toks:=tk})/\
   ∀(h':Nw) (m:Nat) (out:Lv),(∀b o,h1.get? b=some o->h'.get? b=some o)->h'.get? h1.objs.size=some (seqObj "list" out.toArray m)->h_ vs c out->Q (.ref h1.objs.size) {s with heap:=h',toks:=tk}):
  wpAny (model prog w) A (call (.builtin "sorted") [.ref a]) Q E s:=
 B0 (λfin=>BC (by omega) T g n d (by lia) fin) (by rw[Zk];exact f) H
theorem Jf{t:NE}(c:A.handled=none)(T:TB w t es.size)(g:s.heap.get? a=some o)(I:o.ExactSet)(d:o.data=.set es ep t)(f:es.toList.map gr=ks.map kK)(n:SV (intKind prog w) es.toList)(z:ks∈p8)
  (fin:∀(h1 h':Nw) (tk m:Nat) (out:Lv),(∀b o,s.heap.get? b=some o->h1.get? b=some o)->(∀b o,h1.get? b=some o->h'.get? b=some o)->h'.get? h1.objs.size=some (seqObj "list" out.toArray m)->(∀v∈out,∃t,v=.int (kV v) t)->out.map kV=ks.map (λk:Nat=>(k:Int))->Q (.ref h1.objs.size) {s with heap:=h',toks:=tk}):
  wpAny (model prog w) A (call (.builtin "sorted") [.ref a]) Q E s:=by
 obtain⟨R,low,len,_,_⟩:=i_ ks z;have hs:es.size=ks.length:=by have:=Z2 Oh f;rw[Zk,Zk,ZG]at this;exact this
 refine Je c T g I d (by omega) λh1 tk vs U F=>?_;have K:es.toList.map hY=ks.map λk:Nat=>(k:Int):=by have:=Z2 (QK (·.2)) f;rw[ZW,ZW]at this;exact this
 have g6:∀v∈vs,∃t,v=.int (kV v) t:=λv y=>by obtain⟨e,M,rfl⟩:=Zp.mp (F.mem_iff.mp y);obtain⟨t,x⟩:=kH n e M;exact⟨t,by rw[x];rfl⟩
 have D:(vs.map kV).Perm (ks.map λk:Nat=>(k:Int)):=by refine(F.map kV).trans (.of_eq ?_);rw[<-K,ZW];exact Ss λe _=>rfl
 have Z:vs.length<=8:=by have:=D.length_eq;rw[Zk,Zk]at this;omega
 have at_:∀i,i<vs.length->∃t,vs.getD i Nr=.int (kV (vs.getD i Nr)) t:=λi H=>g6 _ (by rw[OJ,Zi H];exact QV H);refine⟨λi j=>decide (kV (vs.getD i Nr)<kV (vs.getD j Nr)),λl=>?_,λh' m out V e O=>fin h1 h' tk m out U V e ?_ ?_⟩
 ·refine⟨oneType',⟨λi _=>by simp,λi j _ _ h=>?_,λi j k _ _ _ h g=>?_⟩,λi j _ _ h=>?_,λh' kp=>⟨λX Y q=>?_,λi j C H N r=>?_⟩⟩
  ·simp only[decide_eq_true_eq,decide_eq_false_iff_not]at h⊢;omega
  ·simp only[decide_eq_false_iff_not]at h g⊢;omega
  ·unfold bN;dsimp only;rw[h]
  ·refine kas_kind (T:=.type "int") l (λu S=>?_) (by decide) (by decide) q;obtain⟨t,x⟩:=g6 u S;rw[x];exact(show Looks (model prog w) h' (typeOf (.int (kV u) t)) (.type "int")from .now)
  ·unfold kas_ask;dsimp only at r;obtain⟨ta,J⟩:=at_ i H;obtain⟨tb,L⟩:=at_ j N;rw[J,L]at r⊢;exact kat_lt_int r
 ·obtain⟨p,rfl,P,_⟩:=O;intro v y;obtain⟨i,H,rfl⟩:=Zp.mp y;exact g6 _ (by have:=NY.mp (P.mem_iff.mp H);rw[OJ,Zi this];exact QV this)
 ·obtain⟨p,rfl,P,z⟩:=O;have W:((p.map λi=>vs.getD i Nr).map kV).Perm (ks.map λk:Nat=>(k:Int)):=by refine List.Perm.trans ?_ D;refine((P.map λi=>vs.getD i Nr).map kV).trans (.of_eq (Z2 (QK kV) ?_));refine QW (by simp) λi h1 l=>?_;simp[l]
  refine W.eq_of_pairwise (le:=(· <= ·)) (λa b _ _ h1 l=>Int.le_antisymm h1 l) ?_ ?_
  ·rw[Ya,Ya];refine z.imp λ{i j} h=>?_;simp only[decide_eq_false_iff_not]at h;omega
  ·rw[Ya];exact R.imp λh=>by omega
theorem Jg(c:A.handled=none)(x:c9 prog w s.heap a ks es)
  (fin:∀(h1 h':Nw) (tk C:Nat) (out:Lv),(∀b o,s.heap.get? b=some o->h1.get? b=some o)->(∀b o,h1.get? b=some o->h'.get? b=some o)->h'.get? h1.objs.size=some (seqObj "list" out.toArray C)->(∀v∈out,∃t,v=.int (kV v) t)->out.map kV=ks.map (λk:Nat=>(k:Int))->Q (.ref h1.objs.size) {s with heap:=h',toks:=tk}):
  wpAny (model prog w) A (call (.builtin "sorted") [.ref a]) Q E s:=by
 obtain⟨o,f,g,e,d⟩:=x.obj;exact Jf c ⟨by rw[x.size];exact(i_ ks x.pow).2.2.2.1 _,rfl,rfl,A3 (i_ ks x.pow).1⟩ g e d x.ent x.els x.pow fin
noncomputable def Jh(K:Fg)(mg:Mg)(v:V)(H:Hp)(Q:VK):Prop:=(∃(p:Nm) (ns:Li) (ks:List Nat),v=.ref p/\(c6 K H p (ns.map V.int)\/bZ K H p (ns.map V.int))/\(∀n∈ns,0<=n/\n<8)/\(∀k:Nat,k∈ks↔(k:Int)∈ns)/\ks.Pairwise (· < ·)/\∀l,H l=none->Q (.ref l) (aO H l (.lst (ks.map λk:Nat=>V.int k))))\/
 ∃F μ S p ks,aJ K ⟨mg,F⟩ μ S H/\v=.ref p/\IV K H p ks/\ks.length<64/\(∀c∈ks,c.1≠[])/\aQ K ⟨mg,F⟩ μ H Q (.ok (.lst (dY (ks.map (·.1)))) S)
theorem Ji{p:Nm}{ks:List (Li×Nm)}{E:Vs}(i:X.calm=Nj)(L:X.A.units+64<cLine)(I:Inv X pq σ H s)(Z:aJ X.K ⟨X.mg,F⟩ μ S H)(r:∀c∈ks,bZ X.K H c.2 (c.1.map V.int))(J:∀c∈ks,c.1≠[])(A:ks.length<64)
  (j:∀{Q:Lv->Nl->Prop} {E':Vs},(∀(h':Nw) (tk:Nat) (vs:Lv),(∀b o,s.heap.get? b=some o->h'.get? b=some o)->vs.Perm (cs.map λc=>NA c.2)->Q vs {s with heap:=h',toks:=tk})->wpAny (model X.prog X.w) X.A.in1 (collect (.ref p)) Q E' s) (N:(cs.map (·.1)).Nodup) (u:∀k,k∈cs.map (·.1)↔k∈ks.map (·.1)) (z:∀c∈cs,c∈ks)
  (fin:∀(h1 h':Nw) (tk q:Nat) (out:Lv) (w:List V),(∀b o,s.heap.get? b=some o->h1.get? b=some o)->(∀b o,h1.get? b=some o->h'.get? b=some o)->h'.get? h1.objs.size=some (seqObj "list" out.toArray q)->w.length<=76->ai X.K ⟨X.mg,F⟩ μ H (dY (ks.map (·.1))) w->Vals w out->Q (.ref h1.objs.size) {s with heap:=h',toks:=tk}):
  wpAny (model X.prog X.w) X.A (call (.builtin "sorted") [.ref p]) Q E s:=by
 have G:cs.length<64:=by have h1:=N.length_le_of_subset λk r=>(u k).mp r;rw[Zk,Zk]at h1;omega
 refine B0 j (by rw[Zk];exact G) λh1 tk us K Y=>?_;have x:Inv X pq σ H {s with heap:=h1,toks:=tk}:=I.kept (t':=tk) K
 obtain⟨C,P,rfl⟩:∃C:List (Li×Nm),C.Perm cs/\us=C.map λc=>NA c.2:=by exact Jd Y
 have M:∀c∈C,c∈ks:=λc i=>z c (P.mem_iff.mp i);have R:ai X.K ⟨X.mg,F⟩ μ H (C.map λc=>D.tup (c.1.map D.int)) (C.map λc=>V.ref c.2):=BX λc i=>r c (M c i);have v:Vals (C.map λc=>V.ref c.2) (C.map λc=>NA c.2):=BY C
 have g:∀y∈(C.map λc=>D.tup (c.1.map D.int)),az (.seq .int) y=Nj:=λy n=>by obtain⟨c,_,rfl⟩:=Zp.mp n;exact BZ c.1
 have m:gb (.seq .int) (C.map λc=>D.tup (c.1.map D.int))=Nj:=by
  show(Nj&&((C.map λc=>D.tup (c.1.map D.int)).all λd=> !fo d))=Nj;rw[Zl.mpr]
  ·rfl
  ·intro y n;obtain⟨c,i,rfl⟩:=Zp.mp n;have:=J c (M c i);cases h:c.1 with
   |nil=>exact absurd h this
   |cons a l=>rfl
 refine⟨_,λB=>BU x Z L (by decide) g m R v B,λh' q out U e O=>?_⟩;obtain⟨w,w1,w2,w3⟩:=BV (X:=X) m g R v O;refine fin h1 h' tk q out w K U e (by rw[w1,Zk,P.length_eq];omega) ?_ w3
 have:dY (ks.map (·.1))=eI (bU (.seq .int)) (C.map λc=>D.tup (c.1.map D.int)):=by
  unfold dY;refine(BP (t:=.seq .int) rfl (λy n=>?_) ((uW _ _).trans ?_) (BO (gw (.seq .int) rfl) _ g)).symm
  ·obtain⟨k,_,rfl⟩:=Zp.mp n;exact BZ k
  ·have W:(C.map (·.1)).Perm (ko (ks.map (·.1))):=by
    obtain⟨a,b⟩:=Bu (ks.map (·.1));refine(P.map _).trans ((OK N a).mpr λk=>(u k).trans (b k).symm)
   have:=W.map λk=>D.tup (k.map D.int);rw[ZW]at this;exact this
 rw[this];exact w2
theorem Jj{p:Nm}{ks:List (Li×Nm)}{E:Vs}(i:X.calm=Nj)(y:X.A.units+64<cLine)(I:Inv X pq σ H s)(z:aJ X.K ⟨X.mg,F⟩ μ S H)(h:∀c∈ks,bZ X.K H c.2 (c.1.map V.int))(u:∀c∈ks,c.1≠[])(f:ks.length<64)
  (x:dz X.prog X.w s.heap p cs) (a:∀k,k∈cs.map (·.1)↔k∈ks.map (·.1)) (n:∀c∈cs,c∈ks)
  (fin:∀(h1 h':Nw) (tk C:Nat) (out:Lv) (w:List V),(∀b o,s.heap.get? b=some o->h1.get? b=some o)->(∀b o,h1.get? b=some o->h'.get? b=some o)->h'.get? h1.objs.size=some (seqObj "list" out.toArray C)->w.length<=76->ai X.K ⟨X.mg,F⟩ μ H (dY (ks.map (·.1))) w->Vals w out->Q (.ref h1.objs.size) {s with heap:=h',toks:=tk}):
  wpAny (model X.prog X.w) X.A (call (.builtin "sorted") [.ref p]) Q E s:=by
 obtain⟨o,A,t,g,q,d,l,P,m⟩:=x.obj;have r:=m.fits.2;have v:(cs.map (bn X.prog X.w)).toArray.size=cs.length:=by simp
 have B:=by have h1:=x.nod.length_le_of_subset λk h=>(a k).mp h;rw[Zk,Zk]at h1;omega
 refine Ji i y I z h u f (λfin=>BC (by simpa using I.ok.hd i) ⟨by simp_all,l,P,m.ris⟩ g q d (by lia) λh' tk vs k D=>fin _ _ _ k ?_) x.nod a n fin;have:(QK (λe=>e.2) (cs.map (bn X.prog X.w)).toArray.toList)=cs.map λc=>NA c.2:=by rw[ZW];rfl
 simp_all
theorem B1:∀{out:Lv} {ks:List Nat},(∀v∈out,∃t,v=.int (kV v) t)->out.map kV=ks.map (λk:Nat=>(k:Int))->Vals (ks.map λk:Nat=>V.int k) out
 | [],[],_,_=>.nil
 | [],_::_,_,h=>by cases h
 |_::_,[],_,h=>by cases h
 |v::out,k::ks,H,h=>by
  injection h with a b
  obtain⟨t,c⟩:=H v Ze;refine .cons ⟨t,?_⟩ (B1 (λv d=>H v (Zc _ d)) b);rw[c,a]
theorem Jk:∀{a b:List Nat},a.Pairwise (· < ·)->b.Pairwise (· < ·)->(∀k,k∈a↔k∈b)->a=b:=λ{a b} H c h=>by
 refine PD λx y _ _ H c=>by omega H c ?_
 exact(OK (H.imp λh=>Zs h) (c.imp λh=>Zs h)).mpr h
theorem Jl{z:Expr}(G:X.calm=Nj)(hu:X.A.units+64<cLine)(J:Gl X "sorted")(L:Gl X "set")(N:X.mg "sorted"=none)(O:X.mg "set"=none)(hb:bootBuiltins "sorted"=some (.builtin "sorted"))(U:bA z=Nj)(ha:PE X z ta):
  PE X (.Call (.Name "sorted" p1) [.Call (.Name "set" p2) [z] [] p3] [] p4) (λσ H Q=>ta σ H λx H1=>Jh X.K X.mg x H1 Q):=by
 intro A s σ H Q I h;have hs:=cq (env:=X.env) (es:=[]) U;refine Of (f6 I J N hb ?_ (by decide) (by decide));refine Qk ?_ rfl rfl;refine N9 ?_;refine Of (f6 I L O IU ?_ (by decide) (by decide));have hA:PA X [z] (eC ta sX):=cQ ha eW hs
 refine N1 (aN (hA p3 A s σ H (λvs H1=>match vs with
  | [x]=>Jh X.K X.mg x H1 Q
  |_=>False) I h) λus w zq=>?_) hs rfl
 obtain⟨vs,H1,l,r,q⟩:=zq
 match vs,q with
 | [v],.inr ⟨F,μ,S,p,ks,sk,e,d,D,U,q⟩=>subst e;obtain⟨u,rfl,ru⟩:=r.one;cases ru;refine oq G hu l d λh' T cs x e1 e2 y _=>?_;refine PV ?_;refine Jj G hu y sk d.2.1 U D x e1 e2 λf h2 j C out ws W Y g hl rw_ R=>?_;have m:Inv X A σ H1 {w with heap:=f,toks:=T}:=y.kept (t':=T) W;exact⟨.ref f.objs.size,aO H1 f.objs.size (.lst ws),m.laid (t':=j) Y (Zh _) ⟨by rw[N5];omega,out,C,R,g⟩,rfl,aQ.lst q sk rw_ _ (m.hok.fresh (Zh _))⟩
 | [v],.inl ⟨p,Z,ks,e,d,low,hk,ris,q⟩=>
  subst e;obtain⟨u,rfl,ru⟩:=r.one;cases ru
  obtain⟨i,R,P⟩:∃i,Vals (Z.map V.int) i/\(w.heap.IsList p i.toArray\/w.heap.IsTuple p i.toArray):=by
   rcases d with d|d
   ·obtain⟨i,R,P,_⟩:=l.list d;exact⟨i,R,.inl P.isList⟩
   ·obtain⟨i,R,P,_⟩:=l.tuple d;exact⟨i,R,.inr P⟩
  have c:=l.ok.hd G;refine IS (vs:=i.toArray) (ns:=Z) c P (by simpa using GC R) low λh' T zq kp=>?_;obtain⟨K,es,x,M⟩:=zq;have y:Inv X A σ H1 {w with heap:=h',toks:=T}:=l.kept (t':=T) λb o e=>kp b o (Zf e) e;have E:K=ks:=Jk (i_ K x.pow).1 ris λk=>(M k).trans (hk k).symm;subst E;refine PV ?_;refine Jg c x λf h2 j C out W Y g g6 ek=>?_;have m:Inv X A σ H1 {w with heap:=f,toks:=T}:=y.kept (t':=T) W
  have n:(K.map λk:Nat=>V.int k).length<=sizeLine:=by have:=(i_ K x.pow).2.2.1;rw[Zk,N5];omega
  exact⟨.ref f.objs.size,aO H1 f.objs.size (.lst (K.map λk:Nat=>V.int k)),m.laid (t':=j) Y (Zh _) ⟨n,out,C,B1 g6 ek,g⟩,rfl,q _ (m.hok.fresh (Zh _))⟩
end Py
namespace Py
noncomputable def yf(kd:Bool)(e:Expr)(g:List NH)(s:Scope)(p:Pos):Expr:=.ListComp e g s p
def FC(kd:Bool)(e:Expr)(a:Nn)(env:Env):Sem Unit:=ux e a env
def oK(X:Cx)(kd:Bool):Nm->List D->List V->HO->Prop:=oL
theorem uX{kd:Bool}{pos:Pos}{d:Nat}{it a:Nn}{t i:Expr}{fs:Lx}(h:gens[d]?=some ⟨t,i,fs,0⟩):
  compTurn (yf kd elt gens scope pos) d it a env=(standAt i.pos>>=λ_=>pyNext it>>=λr=>match r with
   |none=>pure (.done .next)
   |some v=>letOwnedTupleGo t it v>>=λ_=>assign t env v>>=λ_=>(eL fs env>>=λok=>if ok=Nj then bq (yf kd elt gens scope pos) (FC kd elt a env) gens d a env else pure ())>>=λ_=>
    again (.compLoop (yf kd elt gens scope pos) d it a env)):=by cases kd<;>exact Ih h
section
variable {E:XK}
end
section
variable {E:XK}
end
section
variable {E:XK}{k:Nat}
theorem B2:a8 X (.type "str") (rC X.K X.mg ue):=by
 intro p s g H x U Q I r h;obtain⟨F,f,S,D,e,R,w⟩:=h;unfold ue at w;split at w
 ·rename_i k;split at w
  ·rename_i b;obtain⟨v,rfl,c⟩:=R.one;cases aF c;obtain⟨u,rfl,d⟩:=r.one;obtain⟨t,rfl⟩:=d;refine PySem.P.str_of_int ?_ ⟨.str _,H,I.kept λ_ _ z=>z,⟨_,rfl⟩,w _ H _ .refl e fF⟩;by_cases a:k.natAbs=0
   ·simp[*]
   ·exact QO ((Nat.log2_lt a).mpr b) (by simp)
  ·exact w.elim
 ·exact w.elim
theorem kS(O:cF X cell N sc CX E Φ Γ k)(b:jK)(h:ud b=Nj):a8 X (kr b) (rC X.K X.mg (aU b)):=by
 cases b with
 |len=>exact zF
 |tuple=>exact mU
 |list box=>exact tO box
 |int=>exact zH
 |min=>exact HA O.calm (by have:=O.room.un;omega)
 |max=>exact ng O.calm
 |isinst=>exact Hl
 |all=>exact zM O.calm
 |any=>exact zN O.calm
 |sum=>cases h
 |repr=>cases h
 |abs=>cases h
 |str=>exact B2
 |sorted box t=>exact Jc O.room.units box t (by unfold ud at h;simpa using h)
theorem uY:∀{l:Ls},iX l=Nj->l.Nodup
 | [],_=>Qm
 |x::r,h=>by unfold iX at h;simp at h;exact Og.mpr ⟨h.1,uY h.2⟩
theorem B3(O:cF X cell N sc CX E Φ Γ k)(h:HM scope sc=Nj):dJ X scope:=by
 dsimp only[HM]at h;rw[ZN,beq_iff_eq]at h;obtain⟨a,b⟩:=h;refine⟨a,λy H z=>?_,λy H z=>?_,λy H z=>?_⟩
 ·grind
 ·grind
 ·have:=(λy H=>Zl.mp b y H) y H;rw[z]at this;simp at this;show X.env.scope.names.lookup _=_\/X.env.scope.names.lookup _=_;rw[O.sc];exact this
theorem B4(O:cF X cell N sc CX E Φ Γ k)(h:frB scope.names N' N fr=Nj):mZ X scope N' (gq fr):=by
 unfold frB at h;simp only[ZN,beq_iff_eq]at h;obtain⟨b,c⟩:=h;intro f d;refine⟨by simp[gq,b],λi v x a H=>?_⟩;have:=Zl.mp c i (NY.mpr (Zm.mp a).1);unfold gq at H;rw[P0]at H;cases e:fr[i]? with
 |none=>simp_all
 |some o=>
  rw[e]at H;cases o with
  |none=>cases H
  |some j=>
   rw[e]at this;simp[a]at this;refine⟨this.1,j,by rw[O.n];exact this.2,?_⟩
   grind
theorem oC(O:cF X cell N sc CX E Φ Γ k):(relabel scope X.env).names=kt scope.names sc:=by
 show scope.names.map _=scope.names.map _;congr 1;funext p;obtain⟨n,K⟩:=p;have e:X.env.kindOf n=sc.lookup n:=by show X.env.scope.names.lookup n=_;rw[O.sc]
 simp[e,O.kd,Bool.and_true]
theorem B5(O:cF X cell N sc CX E Φ Γ k)(hs:scope.kind=.function)(hn:iX N'=Nj)(C:Nm)(s0:Nl)(H0:Hp)(fp:La):cF (fJ X scope N' C s0 H0 fp) (uh scope.names) N' (kt scope.names sc) CX E0 Φ Γ k where
 n:=rfl
 nd:=uY hn
 sc:=oC O
 kd:=hs
 calm:=O.calm
 room:=O.room
 fn:=λx z=>z
 mod:=O.mod
 pass:=λ_ _ _ _ _ _ _ z=>O.cx0 _ _ _ _ _ z
 cx0:=O.cx0
theorem oD{i:Expr}(h:nA i=Nj):∀x,foldedSetIterable i env x=pure x:=by intro x;cases i<;>first|rfl|cases h
theorem iy{e:Expr}{c:CE}(h:PE X e (tE X.K X.mg E Φ Γ c))(g:∀W,isTrue e X.env W=(do let v <-W;standAt e.pos;holding [v] (truthy v))){σ:L2.St}:
  PT X e (λσ H Q=>∃F μ ρ S,aJ X.K ⟨X.mg,F⟩ μ S H/\aV X.K ⟨X.mg,F⟩ μ H ρ σ/\ak X.K ⟨X.mg,F⟩ E (λ_ _ a b=>a=b) μ H Q ((aj Φ Γ c ρ S).bind λd S1=>match bb S1 d with|some k=>.ok k S1|none=>.fail)):=
 dv (Gn h g) λσ H Q z=>aE z λF μ ρ S i f w=>⟨F,_,_,S,i,f,(ak.bind w).mono λv H1 z=>ax z λm S1 d x s r j=>by obtain⟨k,e,l⟩:=An j;exact⟨k,rk s r e,l _ _ k .refl s rfl⟩⟩
theorem B6:∀{xs:List D},xs.all kq=Nj->xs.all (az .int)=Nj/\∀n∈xs.filterMap c5,0<=n/\n<8
 | [],_=>⟨rfl,λn h=>by simp_all⟩
 |x::xs,h=>by
  simp only[OA,ZN]at h;obtain⟨c,b⟩:=B6 h.2;cases x with
  |int i=>
   have a:=h.1;simp[kq]at a;refine⟨by trivial,λn H=>?_⟩;rcases Zj.mp H with rfl|H
   ·exact a
   ·exact b n H
  |_=>cases h.1
theorem uZ{Q:VK}(s:aJ K ⟨mg,F⟩ μ S H)(r:Rep K ⟨mg,F⟩ μ H d v)(w:aQ K ⟨mg,F⟩ μ H Q (cJ d S)):Jh K mg v H Q:=by
 unfold cJ at w;split at w
 ·rename_i x e;split at w
  ·rename_i h;obtain⟨a,vs,rfl,j,R⟩:=fE s r e;obtain⟨t,low⟩:=B6 h;have f:=uO t;generalize x.filterMap _=N at low f w;subst f;have A:=uP R;subst A;refine .inl ⟨a,_,(Nq 8).filter λk=>N.contains (k),rfl,j,low,λk=>?_,List.pairwise_lt_range.sublist Pw,λl u=>?_⟩
   ·grind
   ·have C:∀b:List _,ai K ⟨mg,F⟩ μ H (b.map _) (b.map λk:Nat=>V.int k):=λb=>by
     induction b with
     |nil=>exact .nil
     |cons k b I=>exact .cons bo I
    exact aQ.lst w s (C _) l u
  ·split at w
   ·rename_i h;obtain⟨p,b,rfl,j,E⟩:=uR s r e ⟨h.1,by omega⟩;refine .inr ⟨F,_,S,p,_,s,rfl,j,by have:=Z2 Oh E;rw[Zk,Zk]at this;omega,λc g=>?_,by simp_all⟩;have:c.1∈x.map fq:=by rw[<-E];exact Qv g
    obtain⟨y,n,m⟩:=Zp.mp this;have o:=Zl.mp h.1 y n;have q:=Zl.mp h.2.2 y n;intro z;rw[z]at m;obtain⟨Z,rfl,B⟩:=c_ o;cases Z with
    |nil=>cases q
    |cons a l=>obtain⟨i,rfl⟩:=cW (B a Ze);cases m
   ·exact w.elim
 ·exact w.elim
theorem u3(O:cF X cell N sc CX E Φ Γ k){z:Expr}{a:CE}(h1:bp sc "sorted"=Nj)(h:bp sc "set"=Nj)(c:bA z=Nj)(b:PE X z (tE X.K X.mg E Φ Γ a)):PE X (.Call (.Name "sorted" p1) [.Call (.Name "set" p2) [z] [] p3] [] p4) (tE X.K X.mg E Φ Γ (.sset a)):=
 aL (Jl O.calm O.room.units (O.gl (cL h1).1) (O.gl (cL h).1) (O.mod.bl _ (by decide+kernel)) (O.mod.bl _ (by decide+kernel)) (rfl) c b) λm H Q Z=>aE Z λF j l S f e w=>
  ⟨F,_,_,S,f,e,(ak.bind w).mono λv H1 Z=>ax Z λg i d x s r W=>uZ s r (cA W)⟩
end
section
variable {E:XK}{k:Nat}
end
section
variable {a b c d:Expr}{tb tc td:TE}{pos:Pos}
def oE(r g R:R2)(t tb T h:TE):TT:=λσ H Q=>t σ H λx H1=>tb σ H1 λy H2=>r x y H2 λz a=>∃k,z=.bl k/\
 (if k=Nj then T σ a λw d=>g y w d λi b=>∃c,i=.bl c/\(if c=Nj then h σ b λv e=>R w v e λZ f=>∃K,Z=.bl K/\Q K f else Q Nk b)else Q Nk a)
theorem Jm{o:PR}{r w R:R2}(ho:b8 X (compareOp o) r)(i:b8 X (compareOp op') w)(g:b8 X (compareOp op'') R)(T:PE X a ta)(U:PE X b tb)(V:PE X c tc)(Y:PE X d td)
  (hm:lastMarks [o,op',op''] [b,c,d]=Nk):PT X (.Compare a [o,op',op''] [b,c,d] pos) (oE r w R ta tb tc td):=by
 intro p s f H Q I h
 refine isTrue_chain (aN (T p s f H _ I h) λv s1 Z=>Z.elim λx Z=>Z.elim λH1 Z=>Z.elim λJ Z=>Z.elim λr1 q1=>test_link (aN (U p s1 f H1 _ J q1) λu s2 Z=>
  Z.elim λy Z=>Z.elim λD Z=>Z.elim λK Z=>Z.elim λA q2=>aN (ho p s2 f D x y v u _ K r1 A q2) λd s3 Z=>?_)) hm
 obtain⟨z,j,m,r3,k,e,q⟩:=Z;subst e;cases r3;refine ZO ?_;cases k with
 |false=>exact ite_ff ⟨j,m,q⟩
 |true=>
  refine ite_tt (test_link (aN (V p s3 f j _ m q) λW s4 Z=>Z.elim λC Z=>Z.elim λE Z=>Z.elim λL Z=>Z.elim λB q4=>aN (i p s4 f E y C u W _ L A B q4) λd' s5 Z=>?_));obtain⟨z2,l,n,r5,k2,P,t⟩:=Z;subst P;cases r5;refine ZO ?_;cases k2 with
  |false=>exact ite_ff ⟨l,n,t⟩
  |true=>refine ite_tt (test_last (aN (Y p s5 f l _ n t) λw2 s6 Z=>Z.elim λz3 Z=>Z.elim λF Z=>Z.elim λM Z=>Z.elim λr6 q6=>aN (g p s6 f F C z3 W w2 _ M B r6 q6) λO s7 Z=>?_));obtain⟨z4,G,N,r7,k3,S,q7⟩:=Z;subst S;cases r7;exact ZO ⟨G,N,q7⟩
end
section
variable {E:XK}{l r r2:Expr}{pos:Pos}{a b c d:CE}
theorem Jn{o:PR}(j:X.A.units+64<cLine)(T:PE X l (tE X.K X.mg E Φ Γ a))(U:PE X r (tE X.K X.mg E Φ Γ b))(V:PE X r' (tE X.K X.mg E Φ Γ c))(Y:PE X r2 (tE X.K X.mg E Φ Γ d))(Z:behindInMarks op'' r2=Nk):PT X (.Compare l [o,op',op''] [r,r',r2] pos) (tT X.K X.mg E Φ Γ (.chain3 o op' op'' a b c d)):=
 dv (Jm (dn o j) (dn op' j) (dn op'' j) T U V Y Z) λσ H Q z=>aE z λF μ i S sk g w=>
  ⟨F,μ,i,S,sk,g,(ak.bind w).mono λv1 H1 z=>ax z λp J d1 x s1 r1 w1=>⟨F,p,i,J,s1,g.mono x,(ak.bind w1).mono λv2 H2 z=>ax z λq K d2 n s2 r2 w2=>
   ⟨F,q,K,d1,d2,s2,Rep.mono n _ _ r1,r2,cA ((ak.bind w2).mono λv3 C z=>ax z λe L d3 x3 v r3 w3=>by
    obtain⟨k,rfl,rfl,W⟩:=fM w3 r3;refine⟨k,rfl,?_⟩;cases k with
    |true=>
     rw[if_pos rfl]at W⊢
     exact⟨F,e,i,L,v,(g.mono x).mono (n.trans x3),(ak.bind W).mono λv4 H4 z=>ax z λs M D A s4 R w5=>⟨F,s,M,d2,D,s4,Rep.mono (x3.trans A) _ _ r2,R,cA ((ak.bind w5).mono λv5 G z=>ax z λf N d5 B y r5 w6=>by
      obtain⟨k,rfl,rfl,h⟩:=fM w6 r5;refine⟨k,rfl,?_⟩;cases k with
      |true=>rw[if_pos rfl]at h⊢;exact⟨F,f,i,N,y,(((g.mono x).mono (n.trans x3)).mono A).mono B,(ak.bind h).mono λv6 H6 z=>ax z λt O P x6 s6 r6 w8=>⟨F,t,O,D,P,s6,Rep.mono (B.trans x6) _ _ R,r6,cA ((ak.bind w8).mono λv7 I z=>ax z λu S7 d7 x7 s7 r7 w9=>by obtain⟨k,rfl,rfl,m⟩:=fM w9 r7;exact⟨k,rfl,m u I k .refl s7 rfl⟩)⟩⟩
      |false=>rw[if_neg (by decide)]at h⊢;exact h f G _ .refl y rfl)⟩⟩
    |false=>rw[if_neg (by decide)]at W⊢;exact W e C _ .refl v rfl)⟩⟩⟩
end
theorem B7{l:Expr}{op x k p pos}
  (h:wpAny M A (eval (.BinOp l op (.Constant (.str x) k p) pos) env) Q E s):wpAny M A (eval (.BinOp l op (.Constant (.str x) k p) pos) env) (λv s'=>1<=s'.toks/\Q v s') E s:=by
 intro b f c;have d:=h b f c;simp only[eval_BinOp,Sem.wp_bind',Sem.wp_holding]at d⊢;exact Q4 M b _ (λa P S H=>Q4 M b _ (λ_ _ _ x=>x) (λ_ _ _ x=>x.2) _ _ (Sem.wp_toks M b 1 _ _ _ _ _ (Rh _ _) H)) (λ_ _ _ e=>e) _ _ d
theorem Mu{t:Sem α}{Q b:α->Nl->Prop}(c:1<=s.toks)(h:wpAny M A t Q E s)(H:∀a s',Q a s'->1<=s'.toks->b a s'):wpAny M A t b E s:=
 ZH (wpAny_toks_of c h) (λa s' x=>H a s' x.2 x.1) (λ_ _ x=>x.2)
def FD(X:Cx)(es:Lx)(t:TA):Prop:=
 ∀(pos:Pos) (pq:Lp) (s:Nl) (σ:L2.St) (H:Hp) (Q:List V->Hp->Prop),L2.Inv X pq σ H s->1<=s.toks->t σ H Q->wpAny (model X.prog X.w) X.A (spliced (backTo pos (starEach es X.env))) (AP X pq σ Q) X.xe s
def Mv(X:Cx)(e:Expr)(t:TE):Prop:=
 ∀(pq:Lp) (s:Nl) (σ:L2.St) (H:Hp) (Q:VK),L2.Inv X pq σ H s->1<=s.toks->t σ H Q->wpAny (model X.prog X.w) X.A (eval e X.env) (EP X pq σ Q) X.xe s
section
variable {E:XK}{es:Lx}{t:TA}{pos:Pos}{a b c d:CE}{cs:List CE}
theorem Jo(g:PE X e te)(j:FD X es t)(hs:starEach (e::es) X.env=(Nk,eval e X.env)::starEach es X.env):FD X (e::es) (eC te t):=by intro pos p s b H Q I i h;rw[hs];show wpAny _ _ (spliced ((Nk,eval e X.env)::backTo pos (starEach es X.env))) _ _ s;refine N9 (Mu i (g p s b H _ I h) λu S z a=>?_);obtain⟨x,H1,d,r,q⟩:=z;exact aN (j pos p S b H1 _ d a q) λU m z=>by obtain⟨l,c,f,R,k⟩:=z;exact(⟨x::l,c,f,.cons r R,k⟩)
theorem Jp{l:Expr}{op x k p pos}(f:PE X (.BinOp l op (.Constant (.str x) k p) pos) te)(g:FD X es t):PA X (.BinOp l op (.Constant (.str x) k p) pos::es) (eC te t):=by intro pos P s b H Q I h;refine N9 (aN (B7 (f P s b H _ I h)) λu S z=>?_);obtain⟨a,x,H1,d,r,q⟩:=z;exact aN (g pos P S b H1 _ d a q) λU m z=>by obtain⟨j,c,e,R,i⟩:=z;exact(⟨x::j,c,e,.cons r R,i⟩)
theorem Jq(f:Mv X e te)(i:PA X es t)(hs:starEach (e::es) X.env=(Nk,eval e X.env)::starEach es X.env):FD X (e::es) (eC te t):=by intro pos p s a H Q I g h;rw[hs];show wpAny _ _ (spliced ((Nk,eval e X.env)::backTo pos (starEach es X.env))) _ _ s;refine N9 (aN (f p s a H _ I g h) λu S z=>?_);obtain⟨x,H1,c,r,q⟩:=z;exact aN (i pos p S a H1 _ c q) λU l z=>by obtain⟨k,b,d,R,j⟩:=z;exact(⟨x::k,b,d,.cons r R,j⟩)
def tG(X:Cx)(E:XK)(r:br->ae->Res D):TE:=λσ H Q=>∃F μ ρ S,aJ X.K ⟨X.mg,F⟩ μ S H/\aV X.K ⟨X.mg,F⟩ μ H ρ σ/\ak X.K ⟨X.mg,F⟩ E (Rep X.K ⟨X.mg,F⟩) μ H Q (r ρ S)
theorem oF{o:Expr}{m:Str}(h:gf o=Nj):attributeBase o m env (eval o env)=eval o env:=by cases o<;>first|rfl|cases h
theorem oG{o:Expr}{x:Str}{j J:Nat}(A:gf o=Nj)(u:(apos.endLine==pos.line)=Nj)(B:PE X o (tE X.K X.mg E Φ Γ a)):
  Mv X (.Call (.Attribute o "replace" apos) [.Constant (.str x) j p1,.Constant (.str y) J p2] [] pos) (tG X E λρ S=>(aj Φ Γ a ρ S).bind λd S1=>(iU x y d S1).noErr):=by
 intro P s L H Q I p Z;obtain⟨F,e,ρ,S,D,l,w⟩:=Z
 have n:=B P s L H (λv H1=>∃F e S z,aJ X.K ⟨X.mg,F⟩ e S H1/\v=.str z/\ak X.K ⟨X.mg,F⟩ E (Rep X.K ⟨X.mg,F⟩) e H1 Q (iU x y (.str z) S).noErr) I ⟨F,e,ρ,S,D,l,(ak.bind w).mono λV H1 Z=>ax Z λc S1 d1 G f r W=>by
  cases d1 with
  |str z=>cases dI r;exact⟨F,c,S1,z,f,rfl,W⟩
  |_=>exact W.elim⟩
 refine Qq (oF A) ?_ u rfl (Mu p n λv f C q=>?_)
 ·rfl
 ·obtain⟨G,H1,g,r,M,c,S1,z,K,m,W⟩:=C;subst m;obtain⟨t,rfl⟩:=r;refine⟨"str","str.replace",PySem.F.plainAttrs_str,PySem.F.slot_str_replace,PySem.F.type_str_replace,typeIs_str _ _ _,(λb i=>nomatch i),?_⟩;refine O1 rfl (Pk ?_);show wpAny _ _ (spliced [(Nk,eval (.Constant (.str x) j p1) X.env),(Nk,eval (.Constant (.str y) J p2) X.env)]) _ _ _;refine N9 (Qx (N9 (Qx (PV ?_))));by_cases h:z.length<=10000/\(x==y)=Nk/\y.length<=10
  ·rw[show iU x y (.str z) S1=.ok (.str (Sn z x y)) S1 from if_pos h]at W;refine SC.replace (by lia) (by lia) (by lia) h.2.1 ?_ λT k=>⟨.str (Sn z x y),H1,g.tok _,⟨T,rfl⟩,W c H1 _ .refl K fF⟩;have N:(z.length+1)*y.length<=10001*10:=Nat.mul_le_mul (by omega) h.2.2;omega
  ·rw[show iU x y (.str z) S1=.fail from if_neg h]at W;exact(show False from W).elim
def Mw(X:Cx)(E:XK)(r:br->ae->Res (List D)):TA:=λσ H Q=>∃F μ ρ S,aJ X.K ⟨X.mg,F⟩ μ S H/\aV X.K ⟨X.mg,F⟩ μ H ρ σ/\ak X.K ⟨X.mg,F⟩ E (ai X.K ⟨X.mg,F⟩) μ H Q (r ρ S)
noncomputable def gz(p:br->ae->Res D)(r:br->ae->Res (List D)):br->ae->Res (List D):=λρ S=>(p ρ S).bind λd S1=>(r ρ S1).bind λds S2=>.ok (d::ds) S2
theorem oH{p:br->ae->Res D}{r:br->ae->Res (List D)}{t:TA}(g:∀H Q,Mw X E r σ H Q->t σ H Q){Q:List V->Hp->Prop}(h:Mw X E (gz p r) σ H Q):eC (tG X E p) t σ H Q:=aE h λF n c S k e w=>
 ⟨F,n,c,S,k,e,(ak.bind w).mono λv H1 z=>ax z λa f d1 x s R W=>
  g _ _ ⟨F,a,c,f,s,e.mono x,(ak.bind W).mono λvs d z=>ax z λb o q m j i l=>l b d _ .refl j (.cons (Rep.mono m _ _ R) i)⟩⟩
theorem u4{g m i j:Expr}{l x:Str}{P:Pos}{J K L:Nat}(h1:bA g=Nj)(t:bA i=Nj)(u:gf j=Nj)(C:(apos.endLine==p3.line)=Nj)
  (v:PE X g (tE X.K X.mg E Φ Γ a)) (A:PE X m (tE X.K X.mg E Φ Γ b)) (h:PE X i (tE X.K X.mg E Φ Γ c)) (B:PE X j (tE X.K X.mg E Φ Γ d)) (I:PA X es (tL X.K X.mg E Φ Γ cs)):
  PE X (.List (g:: .BinOp m .Add (.Constant (.str l) J P) p4::i:: .Call (.Attribute j "replace" apos) [.Constant (.str x) K p1,.Constant (.str y) L p2] [] p3::es) pos) (tE X.K X.mg E Φ Γ (.lstR a b l c d x y cs)):=by
 refine aL (f7 (cQ v (Jp (ro (a:=b) (b:=.lit (.str l)) A (ky (by unfold iu;exact beq_self_eq_true l))) (Jo h (Jq (oG u C B) I (cq rfl)) (cq t))) (cq h1))) λT H Q z=>?_;obtain⟨F,n,e,S,N,s,w⟩:=z;have O:ak X.K ⟨X.mg,F⟩ E (Rep X.K ⟨X.mg,F⟩) n H Q ((gz (aj Φ Γ a) (gz (aj Φ Γ (.bin .Add b (.lit (.str l)))) (gz (aj Φ Γ c) (gz (λe S=>(aj Φ Γ d e S).bind λd f=>(iU x y d f).noErr) (ah Φ Γ cs)))) e S).bind λD o=>if D.length<1000 then .ok (.lst D) o else .fail):=w;refine oH (λ_ _=>oH λ_ _=>oH λ_ _=>oH λ_ _ q=>q) ⟨F,n,e,S,N,s,(ak.bind (Rel:=ai X.K ⟨X.mg,F⟩) O).mono λvs H1 z=>?_⟩;obtain⟨k,f,D,R,M,r,W⟩:=z;by_cases h:D.length<1000
 ·rw[if_pos h]at W;refine⟨by rw[<-r.length];exact O7 (Zy h (by decide)),λp G=>aQ.lst (show aQ X.K ⟨X.mg,F⟩ k H1 Q (.ok (.lst D) f)from W) M r p G⟩
 ·rw[if_neg h]at W;exact W.elim
end
theorem oJ{E:XK}{c:CE}(h:∀ρ S,am Φ Γ c ρ S=.fail):PW X e (tT X.K X.mg E Φ Γ c):=λW p s f H Q I z=>aE z λF d ρ S b a w=>by rw[h]at w;exact w.elim
theorem B8{l:List α}{d:Nat}{x:α}{r:List α}(h:l.drop d=x::r):l[d]?=some x:=by have:=Z2 (λl=>l[0]?) h;simpa using this
theorem Jr{l:List α}{d:Nat}(h:l.drop d=[]):l[d]?=none:=by simp_all
theorem Js{l:List α}{d:Nat}{x:α}{r:List α}(h:l.drop d=x::r):l.drop (d+1)=r:=by
 have:(l.drop d).drop 1=r:=by simp_all
 rwa [List.drop_drop]at this
section
variable {E:XK}{a b:CE}{l x y:Expr}{pos:Pos}{n:Bool}
theorem u5(h:PE X l (tE X.K X.mg E Φ Γ a))(h1:n=Nj->PE X x (tE X.K X.mg E Φ Γ b))(H:n=Nk->∃r rest,y=.BoolOp .And (r::rest) pos/\PE X y (tE X.K X.mg E Φ Γ b)):PE X (.BoolOp .And (l::cond n [x] (vw y).es) pos) (tE X.K X.mg E Φ Γ (.band a b)):=by
 cases n with
 |true=>exact rx h (jW (h1 rfl))
 |false=>obtain⟨r,rest,rfl,q⟩:=H rfl;exact rx h q
theorem B9(h:PE X l (tE X.K X.mg E Φ Γ a))(h1:n=Nj->PE X x (tE X.K X.mg E Φ Γ b))(H:n=Nk->∃r rest,y=.BoolOp .Or (r::rest) pos/\PE X y (tE X.K X.mg E Φ Γ b)):PE X (.BoolOp .Or (l::cond n [x] (vw y).es) pos) (tE X.K X.mg E Φ Γ (.bor a b)):=by
 cases n with
 |true=>exact Am h (jW (h1 rfl))
 |false=>obtain⟨r,rest,rfl,q⟩:=H rfl;exact Am h q
theorem B_(h:PT X l (tT X.K X.mg E Φ Γ a))(h1:n=Nj->PT X x (tT X.K X.mg E Φ Γ b))(H:n=Nk->∃r rest,y=.BoolOp .And (r::rest) pos/\PW X y (tT X.K X.mg E Φ Γ b)):PW X (.BoolOp .And (l::cond n [x] (vw y).es) pos) (tT X.K X.mg E Φ Γ (.band a b)):=by
 cases n with
 |true=>exact ry h (l6 (h1 rfl))
 |false=>obtain⟨r,rest,rfl,q⟩:=H rfl;exact ry h q
theorem kT(h:PT X l (tT X.K X.mg E Φ Γ a))(h1:n=Nj->PT X x (tT X.K X.mg E Φ Γ b))(H:n=Nk->∃r rest,y=.BoolOp .Or (r::rest) pos/\PW X y (tT X.K X.mg E Φ Γ b)):PW X (.BoolOp .Or (l::cond n [x] (vw y).es) pos) (tT X.K X.mg E Φ Γ (.bor a b)):=by
 cases n with
 |true=>exact Aq h (jU (h1 rfl))
 |false=>obtain⟨r,rest,rfl,q⟩:=H rfl;exact Aq h q
theorem u6{es:Lx}(h:ku b=Nj):∃r rest,aX b N (.BoolOp .And es pos)=.BoolOp .And (r::rest) pos:=by
 unfold ku at h;split at h
 ·exact⟨_,_,rfl⟩
 ·cases h
theorem u8{es:Lx}(h:gg b=Nj):∃r rest,aX b N (.BoolOp .Or es pos)=.BoolOp .Or (r::rest) pos:=by
 unfold gg at h;split at h
 ·exact⟨_,_,rfl⟩
 ·cases h
theorem kU{tg:CT}(h:nB tg=Nj):fv (iZ tg N e)=Nj:=by
 cases tg with
 |var i=>cases h
 |tup t=>rfl
theorem fx{a b:Bool}(h:cond n a b=Nj)(z:n=Nj):a=Nj:=by lia
theorem cy{a b:Bool}(h:cond n a b=Nj)(z:n=Nk):b=Nj:=by lia
end
def M5(c:CE):Prop:=∀{X:Cx} {cell:Str->Bool} {N:Ls} {sc:Sc} {CX:dj} {E:XK} {Φ:FT} {Γ:Str->Option D} {k:Nat} {e:Expr},cF X cell N sc CX E Φ Γ k->bI c N sc e=Nj->PE X (aX c N e) (tE X.K X.mg E Φ Γ c)
def Mx(c:CE):Prop:=∀{X:Cx} {cell:Str->Bool} {N:Ls} {sc:Sc} {CX:dj} {E:XK} {Φ:FT} {Γ:Str->Option D} {k:Nat} {e:Expr},cF X cell N sc CX E Φ Γ k->bI c N sc e=Nj->PT X (aX c N e) (tT X.K X.mg E Φ Γ c)
def My(c:CE):Prop:=∀{X:Cx} {cell:Str->Bool} {N:Ls} {sc:Sc} {CX:dj} {E:XK} {Φ:FT} {Γ:Str->Option D} {k:Nat} {e:Expr},cF X cell N sc CX E Φ Γ k->bI c N sc e=Nj->(ku c||gg c)=Nj->PW X (aX c N e) (tT X.K X.mg E Φ Γ c)
def Mz(c:CE):Prop:=∀{X:Cx} {cell:Str->Bool} {N:Ls} {sc:Sc} {CX:dj} {E:XK} {Φ:FT} {Γ:Str->Option D} {k:Nat} {tg:CT} {t e:Expr},cF X cell N sc CX E Φ Γ k->Aj c N sc tg e=Nj->(nB tg=Nj->fv t=Nj)->PI X t (uk c N e) (tI X.K X.mg E Φ Γ c)
def MA(c:CE):Prop:=∀{X:Cx} {cell:Str->Bool} {N:Ls} {sc:Sc} {CX:dj} {E:XK} {Φ:FT} {Γ:Str->Option D} {k:Nat} {kd:Bool} {e:Expr} {gens g:List NH} {scope:Scope} {pos:Pos} {d:Nat} {acc:Nm},cF X cell N sc CX E Φ Γ k->X.xe=(λ_ _=>False)->gens.drop (d+1)=uj c N g->Fw c kd cell N sc g e=Nj->
  PB X (bq (yf kd (nC c N e) gens scope pos) (FC kd (nC c N e) (.ref acc) X.env) gens d (.ref acc) X.env) (tB X.K X.mg (oK X kd) Φ Γ c acc)
theorem B'{c:CE}(z:∀Φ Γ ρ S,am Φ Γ c ρ S=.fail):Mx c:=λ_ _=>(oJ λ_ _=>z _ _ _ _).pt
theorem Ca{c:CE}(z:(ku c||gg c)=Nk):My c:=λ_ _ h=>by rw[z]at h;cases h
theorem Cb{c:CE}(z:∀N sc tg e,Aj c N sc tg e=Nk):Mz c:=λ_ h _=>by rw[z]at h;cases h
theorem Cc{c:CE}(z:∀kd N sc cell g e,Fw c kd cell N sc g e=Nk):MA c:=λ_ _ _ h=>by rw[z]at h;cases h
mutual
theorem aK(c:CE):M5 c:=by
 intro X L N sc CX E Φ Γ k e O h;cases c with
 |var i=>exact rA O (aa h).1 (aa (aa h).2).1 (aa (aa h).2).2
 |dct=>exact Ay
 |rev a b=>exact AA (aK a O (aa h).1) (aK b O (aa h).2)
 |lit d=>exact ky h
 |glob y=>exact ur O h
 |ty n=>exact HQ O (aa h).1 (aa h).2
 |bin op a b=>exact ro (aK a O (aa h).1) (aK b O (aa h).2)
 |catB a b=>exact um (aK a O (aa h).1) (aK b O (aa h).2)
 |neg a=>exact Ap (aK a O h)
 |cmp op a b=>exact Ak O.room.units (aK a O (aa h).1) (aK b O (aa (aa h).2).1) (gh (aa (aa h).2).2)
 |chain op J a b c=>exact nD O.room.units (aK a O (aa h).1) (aK b O (aa (aa h).2).1) (aK c O (aa (aa (aa h).2).2).1) (gh (aa (aa (aa h).2).2).2)
 |band a b=>exact u5 (aK a O (aa h).1) (λz=>aK b O (fx (aa h).2 z)) λz=>by obtain⟨r,R,q⟩:=u6 (pos:=(vw e).pos) (N:=N) (es:=(vw e).es.tail) (aa (cy (aa h).2 z)).1;exact⟨r,R,q,aK b O (aa (cy (aa h).2 z)).2⟩
 |bor a b=>exact B9 (aK a O (aa h).1) (λz=>aK b O (fx (aa h).2 z)) λz=>by obtain⟨r,R,q⟩:=u8 (pos:=(vw e).pos) (N:=N) (es:=(vw e).es.tail) (aa (cy (aa h).2 z)).1;exact⟨r,R,q,aK b O (aa (cy (aa h).2 z)).2⟩
 |bnot a=>exact Ao (aK a O h)
 |ite c a b=>exact As (dO c O (aa h).1) (aK a O (aa (aa h).2).1) (aK b O (aa (aa h).2).2)
 |tup j=>exact Aw (hV (aa h).2) (da j O (aa h).1)
 |lst box j=>exact Ax (hV (aa h).2) (da j O (aa h).1)
 |lstR a b l c d x y j=>have M:=(aa h).2;have P:=(aa M).2;have T:=(aa P).2;have U:=(aa T).2;have V:=(aa U).2;have W:=(aa V).2;have Y:=(aa W).2;exact u4 (aa V).1 (aa W).1 (aa Y).1 (aa Y).2 (aK a O (aa h).1) (aK b O (aa M).1) (aK c O (aa P).1) (aK d O (aa T).1) (da j O (aa U).1)
 |idx a b=>exact Az (aa (aa h).2).2 (aK a O (aa h).1) (aK b O (aa (aa h).2).1)
 |sl a lo hi=>exact HR (aK a O (aa h).1) (kW lo O (aa (aa h).2).1 (hV (aa (aa (aa (aa h).2).2).2).1)) (kW hi O (aa (aa (aa h).2).2).1 (hV (aa (aa (aa (aa h).2).2).2).2))
 |call f j=>
  have G:=da j O (aa (aa h).2).1;cases j with
  |nil=>cases(aa (aa h).2).2
  |cons c u=>exact kA O (aa h).1 (fN (cs:=c::u) (aa (aa h).2).1) G
 |blt b j=>
  have G:=da j O (aa (aa h).2).1;cases j with
  |nil=>cases(aa (aa (aa h).2).2).1
  |cons c u=>exact rB O (kS O b (aa (aa (aa h).2).2).2) (aa h).1 (fN (cs:=c::u) (aa (aa h).2).1) G
 |chain3 op J Z a b c d=>exact λpq s σ H Q I zz=>aE zz λF μ ρ S sk en w=>w.elim
 |tix o j=>have t:=(aa (aa (aa (aa h).2).2).2).1;exact AG (aa h).1 (aa (aa h).2).1 (fN t) (by rw[nG];exact hV (aa (aa (aa (aa h).2).2).2).2) (aK o O (aa (aa (aa h).2).2).1) (da j O t)
 |meth m o j=>have t:=(aa (aa (aa (aa h).2).2).2).1;exact ut (aa h).1 (aa (aa h).2).1 (fN t) (by rw[nG];exact hV (aa (aa (aa (aa h).2).2).2).2) nG.symm (aK o O (aa (aa (aa h).2).2).1) (da j O t)
 |sset a=>exact u3 O (aa h).1 (aa (aa h).2).1 (aa (aa (aa h).2).2).2 (aK a O (aa (aa (aa h).2).2).1)
 |comp box K fr tg it v body=>
  obtain⟨h1,h⟩:=aa h;obtain⟨h2,h⟩:=aa h;obtain⟨h3,h⟩:=aa h;obtain⟨t,h⟩:=aa h;obtain⟨h5,h⟩:=aa h;obtain⟨h6,h⟩:=aa h;obtain⟨h7,h8⟩:=aa h;have B:=B3 O h1
  refine aL (m5 (N:=K) (g:=rG X.K tg) (tb:=tC X.K X.mg oL Φ Γ v body) O.calm B (B4 O h2) (oO it O h5 kU) (λA p=>eL _ p>>=λok=>if ok=Nj then bq (yf Nk _ _ _ _) (FC Nk _ _ p) (_::_) 0 (.ref A) p else pure ())
   (λit A p=>uX (kd:=Nk) rfl) (λC s0 H0 fp A=>?_) (oD h6)) λσ H Q q=>kF (tg0:=iZ tg K ((vw e).gs.headD dG).target) q
  have D:=B5 O B.kind h3 C s0 H0 fp;exact⟨kE D t,uB (oN v D h7) (u9 body (kd:=Nk) D rfl rfl h8)⟩
 |emit e=>cases h
 |inner a b c d=>cases h
 |seq a=>cases h
 |range a=>cases h
 |zip a=>cases h
theorem dO(c:CE):Mx c:=by
 cases c with
 |var i=>
  intro X C N s n E j l k e O h;refine dv (iy (σ:=[]) (rA O (aa h).1 (aa (aa h).2).1 (aa (aa h).2).2) λ_=>rfl) λD H Q Z=>aE Z λF B m S A v w=>⟨F,B,m,S,A,v,?_⟩;cases t:m[i]? with
  |none=>simp only[am,t]at w;exact w.elim
  |some o=>
   cases o with
   |none=>simp only[am,t]at w;exact w.elim
   |some d=>simp only[am,t]at w;simp only[aj,t];exact w
 |lit d=>intro X C N s n E j l k e O h;exact dv (iy (Φ:=j) (Γ:=l) (σ:=[]) (ky h) λ_=>rfl) λD H Q Z=>aE Z λF B m S A v w=>⟨F,B,m,S,A,v,w⟩
 |call f x=>
  intro X C N s n E j l k e O h;have J:=da x O (aa (aa h).2).1;cases x with
  |nil=>cases(aa (aa h).2).2
  |cons c p=>
   refine dv (iy (σ:=[]) (kA O (aa h).1 (fN (cs:=c::p) (aa (aa h).2).1) J) λ_=>rfl) λD H Q Z=>aE Z λF B m S A v w=>⟨F,B,m,S,A,v,?_⟩;simp only[am]at w;simp only[aj];cases t:j f with
   |none=>rw[t]at w;exact w
   |some M=>
    rw[t]at w;show ak _ _ _ _ _ _ _ (((ah j l (c::p) m S).bind λI G=>M I G).bind _);cases u:ah j l (c::p) m S with
    |ok I G=>rw[u]at w;exact w
    |err y G=>rw[u]at w;exact w
    |fail=>rw[u]at w;exact w
 |blt b x=>
  intro X C N s n E j l k e O h;have J:=da x O (aa (aa h).2).1;cases x with
  |nil=>cases(aa (aa (aa h).2).2).1
  |cons c p=>
   refine dv (iy (σ:=[]) (rB O (kS O b (aa (aa (aa h).2).2).2) (aa h).1 (fN (cs:=c::p) (aa (aa h).2).1) J) λ_=>rfl) λD H Q Z=>aE Z λF B m S A v w=>⟨F,B,m,S,A,v,?_⟩;simp only[am]at w;simp only[aj];cases u:ah j l (c::p) m S with
   |ok I G=>rw[u]at w;exact w
   |err y G=>rw[u]at w;exact w
   |fail=>rw[u]at w;exact w
 |cmp op a b=>intro X C N s n E j l k e O h;exact Al O.room.units (aK a O (aa h).1) (aK b O (aa (aa h).2).1) (gh (aa (aa h).2).2)
 |chain3 op K L a b c d=>intro X C N s n E j l k e O h;exact Jn O.room.units (aK a O (aa h).1) (aK b O (aa (aa h).2).1) (aK c O (aa (aa (aa h).2).2).1) (aK d O (aa (aa (aa (aa h).2).2).2).1) (gh (aa (aa (aa (aa h).2).2).2).2)
 |chain op K a b c=>intro X C N s n E j l k e O h;exact nE O.room.units (aK a O (aa h).1) (aK b O (aa (aa h).2).1) (aK c O (aa (aa (aa h).2).2).1) (gh (aa (aa (aa h).2).2).2)
 |band a b=>intro X C N s n E j l k e O h;exact(B_ (dO a O (aa h).1) (λz=>dO b O (fx (aa h).2 z)) λz=>by have g:=(aa (cy (aa h).2 z)).1;obtain⟨r,R,q⟩:=u6 (pos:=(vw e).pos) (N:=N) (es:=(vw e).es.tail) g;exact⟨r,R,q,oM b O (aa (cy (aa h).2 z)).2 (by rw[g];rfl)⟩).pt
 |bor a b=>intro X C N s n E j l k e O h;exact(kT (dO a O (aa h).1) (λz=>dO b O (fx (aa h).2 z)) λz=>by have g:=(aa (cy (aa h).2 z)).1;obtain⟨r,R,q⟩:=u8 (pos:=(vw e).pos) (N:=N) (es:=(vw e).es.tail) g;exact⟨r,R,q,oM b O (aa (cy (aa h).2 z)).2 (by rw[g,RP])⟩).pt
 |bnot a=>intro X C N s n E j l k e O h;exact Ar (dO a O h)
 |_=>exact B' λ_ _ _ _=>rfl
theorem oM(c:CE):My c:=by
 cases c with
 |band a b=>intro X C N s d E j i k e O h H;exact B_ (dO a O (aa h).1) (λz=>dO b O (fx (aa h).2 z)) λz=>by have g:=(aa (cy (aa h).2 z)).1;obtain⟨r,R,q⟩:=u6 (pos:=(vw e).pos) (N:=N) (es:=(vw e).es.tail) g;exact⟨r,R,q,oM b O (aa (cy (aa h).2 z)).2 (by rw[g];rfl)⟩
 |bor a b=>intro X C N s d E j i k e O h H;exact kT (dO a O (aa h).1) (λz=>dO b O (fx (aa h).2 z)) λz=>by have g:=(aa (cy (aa h).2 z)).1;obtain⟨r,R,q⟩:=u8 (pos:=(vw e).pos) (N:=N) (es:=(vw e).es.tail) g;exact⟨r,R,q,oM b O (aa (cy (aa h).2 z)).2 (by rw[g,RP])⟩
 |_=>exact Ca rfl
theorem da(cs:List CE):∀{X:Cx} {cell:Str->Bool} {N:Ls} {sc:Sc} {CX:dj} {E:XK} {Φ:FT} {Γ:Str->Option D} {k:Nat} {es:Lx},cF X cell N sc CX E Φ Γ k->eZ cs N sc es=Nj->PA X (cB cs N es) (tL X.K X.mg E Φ Γ cs):=by
 intro X cell N sc CX E Φ Γ k es O h;cases cs with
 |nil=>exact Au
 |cons c cs=>exact uo (aa (aa h).2).1 (aK c O (aa h).1) (da cs O (aa (aa h).2).2)
theorem kW(cs:List CE):∀{X:Cx} {cell:Str->Bool} {N:Ls} {sc:Sc} {CX:dj} {E:XK} {Φ:FT} {Γ:Str->Option D} {k:Nat} {es:Lx},cF X cell N sc CX E Φ Γ k->eZ cs N sc es=Nj->cs.length<2->PO X (cB cs N es).head? (AB X.K X.mg E Φ Γ cs):=by
 intro X cell N sc CX E Φ Γ k es O h H;cases cs with
 |nil=>exact nK
 |cons c cs=>cases cs with
  |nil=>exact nL (aK c O (aa h).1)
  |cons _ _=>exact absurd H (by simp)
theorem oN(cs:List CE):∀{X:Cx} {cell:Str->Bool} {N:Ls} {sc:Sc} {CX:dj} {E:XK} {Φ:FT} {Γ:Str->Option D} {k:Nat} {es:Lx},cF X cell N sc CX E Φ Γ k->eZ cs N sc es=Nj->zY X (cB cs N es) (cs.map (tT X.K X.mg E Φ Γ)):=by
 intro X cell N sc CX E Φ Γ k es O h;cases cs with
 |nil=>trivial
 |cons c cs=>exact⟨dO c O (aa h).1,oN cs O (aa (aa h).2).2⟩
theorem oO(c:CE):Mz c:=by
 cases c with
 |seq a=>intro X C N s m E o n k T t e O h l;exact AU (aK a O h)
 |range f=>
  intro X C N s m E o n k T t e O h l;have i:=(aa (aa h).2).1;have H:=(aa (aa h).2).2;have g:=fN i;have j:=da f O i;cases f with
  |nil=>cases H
  |cons a f=>cases f with
   |nil=>exact Ia O (aa h).1 (g _ Ze) rfl j
   |cons b f=>cases f with
    |nil=>exact Ib O (aa h).1 (g _ Ze) (g _ (Zc _ Ze)) rfl j
    |cons d f=>cases H
 |zip f=>
  intro X C N s m E o n k T t e O h l;have i:=(aa (aa h).2).1;have H:=(aa (aa h).2).2;have g:=fN i;have j:=da f O i;cases f with
  |nil=>cases(aa H).1
  |cons a f=>cases f with
   |nil=>cases(aa H).1
   |cons b f=>cases f with
    |nil=>exact AY O (aa h).1 (l (aa H).2) (g _ Ze) (g _ (Zc _ Ze)) j
    |cons d f=>cases(aa H).1
 |_=>exact Cb λ_ _ _ _=>rfl
theorem u9(c:CE):MA c:=by
 cases c with
 |emit a=>
  intro X C N S e E q p k K f g G s pos d A O b H h;cases K with
  |true=>cases h
  |false=>exact uC (Jr H) (aK a O h)
 |inner t it i body=>intro X C N S e E q p k K f g G s pos d A O b H h;obtain⟨j,h⟩:=aa h;obtain⟨l,h⟩:=aa h;obtain⟨m,h⟩:=aa h;obtain⟨n,o⟩:=aa h;exact nS (by cases K<;>rfl) (by cases K<;>rfl) (λit=>uX (B8 H)) b O.calm (B8 H) (oO it O l kU) (oD m) (kE O j) (uB (oN i O n) (u9 body O b (Js H) o))
 |_=>exact Cc λ_ _ _ _ _ _=>rfl
end
def ar(K:Fg)(mg:GS)(E:XK)(D:Ends)(μ:La)(H:Hp):Res Fl->Prop
 | .ok (.next ρ') S'=>∀μ' H' σ',Ext μ H μ' H'->aJ K mg μ' S' H'->aV K mg μ' H' ρ' σ'->D.nx σ' H'
 | .ok (.ret d) S'=>∀μ' H' v,Ext μ H μ' H'->aJ K mg μ' S' H'->Rep K mg μ' H' d v->D.rt v H'
 | .ok (.brk ρ') S'=>∀μ' H' σ',Ext μ H μ' H'->aJ K mg μ' S' H'->aV K mg μ' H' ρ' σ'->D.bk σ' H'
 | .ok (.cont ρ') S'=>∀μ' H' σ',Ext μ H μ' H'->aJ K mg μ' S' H'->aV K mg μ' H' ρ' σ'->D.ct σ' H'
 | .err x S'=>∀μ' H',Ext μ H μ' H'->aJ K mg μ' S' H'->ug mg.mg E x H'
 | .fail=>False
def tS(K:Fg)(mg:Mg)(E:XK)(Φ:FT)(Γ:Str->Option D)(c:CS):TS:=λD σ H=>∃F μ ρ S,aJ K ⟨mg,F⟩ μ S H/\aV K ⟨mg,F⟩ μ H ρ σ/\ar K ⟨mg,F⟩ E D μ H (ap Φ Γ c ρ S)
def kX(K:Fg)(mg:Mg)(E:XK)(Φ:FT)(Γ:Str->Option D)(cs:List CS):TS:=λD σ H=>∃F μ ρ S,aJ K ⟨mg,F⟩ μ S H/\aV K ⟨mg,F⟩ μ H ρ σ/\ar K ⟨mg,F⟩ E D μ H (af Φ Γ cs ρ S)
section
variable {mg:GS}{E:XK}{D D':Ends}
theorem ar.ext{r:Res Fl}(x:Ext μ H μ' H')(w:ar K mg E D μ H r):ar K mg E D μ' H' r:=by
 cases r with
 |ok f S=>
  cases f with
  |next a=>exact λm h s y=>w m h s (x.trans y)
  |ret d=>exact λm h s y=>w m h s (x.trans y)
  |brk a=>exact λm h s y=>w m h s (x.trans y)
  |cont a=>exact λm h s y=>w m h s (x.trans y)
 |err z S=>exact λm h y=>w m h (x.trans y)
 |fail=>exact w
theorem ar.bind{Rel:La->Hp->α->β->Prop}{r:Res α}{f:α->ae->Res Fl}(w:ar K mg E D μ H (r.bind f)):
  ak K mg E Rel μ H (λb H'=>∃μ' S' a,Ext μ H μ' H'/\aJ K mg μ' S' H'/\Rel μ' H' a b/\ar K mg E D μ' H' (f a S')) r:=by
 cases r with
 |ok a S'=>exact λc d b x s r=>⟨_,_,a,x,s,r,ar.ext x (show ar K _ E D _ H _ from w)⟩
 |err y S'=>exact w
 |fail=>exact w
theorem ar.seq{r:Res Fl}{f:br->ae->Res Fl}{N:L2.St->Hp->Prop}(w:ar K mg E D μ H (r.bind λF S1=>match F with
   | .next ρ'=>f ρ' S1
   |F=>.ok F S1)) (b:∀μ' H' σ' ρ' S',Ext μ H μ' H'->aJ K mg μ' S' H'->aV K mg μ' H' ρ' σ'->ar K mg E D μ' H' (f ρ' S')->N σ' H'):ar K mg E {D with nx:=N} μ H r:=by
 cases r with
 |ok F S=>
  cases F with
  |next a=>exact λm h s x k e=>b m h s _ S x k e (ar.ext x (show ar K _ E D _ H _ from w))
  |ret d=>exact w
  |brk a=>exact w
  |cont a=>exact w
 |err z S=>exact w
 |fail=>exact w
end
theorem bY{t t':TS}(h:PS X st t)(w:∀D σ H,t' D σ H->t D σ H):PS X st t':=λp s σ H D I q=>h _ s _ H D I (w D _ H q)
theorem kY{st:List Om}{t t':TS}(h:d9 X st t)(w:∀D σ H,t' D σ H->t D σ H):d9 X st t':=λp s σ H D I q=>h _ s _ H D I (w D _ H q)
noncomputable def fP:Expr->Bool
 | .ListComp .. =>Nk
 | .SetComp .. =>Nk
 | .DictComp .. =>Nk
 |_=>Nj
def u_:Expr->Bool
 | .ListComp .. =>Nj
 |_=>Nk
noncomputable def vc(s:Sc)(x:Str):Bool:=s.lookup x==some .local||s.lookup x==some .cell
noncomputable def MB(s:Sc)(x:Str)(p:Pos)(v:Expr):Bool:=s.lookup x==some .local&&(p.line==(vw v).pos.line&& !((vw v).sc.names.any λ(n,k)=>n==x&&(k== .local||k== .cell)))
noncomputable def vd(s:Sc)(ts vs:Lx)(n:Ls):Bool:=(ts.length==2||ts.length==3)&&(vs.length==ts.length&&(!(vs.any fun| .Starred .. =>Nj|_=>Nk)&&((ts.filterMap fun
  | .Name id pos=>if s.lookup id==some .local&&pos.line==(ts.head?.map (·.pos.line)).getD 0 then some id else none
  |_=>none)==n&&(n.length==ts.length&&(n.eraseDups.length==n.length&&(!(vs.all (foldedForSure 8))&& !(vs.all (constantsAlone 8))))))))
theorem vf{ts vs:Lx}{n:Ls}{k K p p'}(h:vd sc ts vs n=Nj)(hs:env.scope.names=sc)(g:env.scope.kind=.function):swappedStores [.Tuple ts k p] (.Tuple vs K p') env=pure (some n):=by
 subst hs;obtain⟨l,h⟩:=aa h;obtain⟨a,h⟩:=aa h;obtain⟨b,h⟩:=aa h;obtain⟨H,h⟩:=aa h;obtain⟨m,h⟩:=aa h;obtain⟨o,h⟩:=aa h;obtain⟨d,f⟩:=aa h;have H:=Zv H;have a:=Zv a;have q:(env.blockKind !=.function)=Nk:=by unfold Env.blockKind;rw[g];rfl
 unfold swappedStores;have c:(!(ts.length==2||ts.length==3)||vs.length !=ts.length||env.blockKind !=.function)=Nk:=by lia
 have C:=O5 _▸b;have i:=O5 _▸d;have j:=O5 _▸f;simp only[c];simp only[Zt,if_false];rw[if_neg λz=>by have:=C.symm.trans z;cases this];generalize e:List.filterMap _ _=L;have E:=e.symm.trans H;lia
def dS:Om:=.Pass ⟨0,0,0,0⟩
set_option genInjectivity false in
structure M6 where
 e0:Expr:=dE
 e1:Expr:=dE
 a:List Om:=[]
 b:List Om:=[]
 pos:Pos:=⟨0,0,0,0⟩
 hp:Pos:=⟨0,0,0,0⟩
noncomputable def vs:Om->M6
 | .Assign ts v p=>{e0:=ts.headD dE,e1:=v,pos:=p}
 | .AugAssign t _ v p=>{e0:=t,e1:=v,pos:=p}
 | .Expr v p=>{e0:=v,pos:=p}
 | .Return v p=>{e0:=v.getD dE,pos:=p}
 | .Pass p=>{pos:=p}
 | .Break p=>{pos:=p}
 | .Continue p=>{pos:=p}
 | .If t x y p=>{e0:=t,a:=x,b:=y,pos:=p}
 | .For t i x _ p=>{e0:=t,e1:=i,a:=x,pos:=p}
 | .While t x _ p=>{e0:=t,a:=x,pos:=p}
 | .Raise v _ p=>{e0:=v.getD dE,pos:=p}
 | .Try x [.ExceptHandler t _ y hp] _ _ p=>{e0:=t.getD dE,a:=x,b:=y,pos:=p,hp:=hp}
 |_=>{}
noncomputable def Cd(o i:CE)(N:Ls)(e:Expr):Expr:=.Subscript (aX o N (vw e).e0) (aX i N (vw e).e1) (vw e).pos
noncomputable def Ce(o i:CE)(N:Ls)(s:Sc)(e:Expr):Bool:=iY (aX i N (vw e).e1)&&(bI o N s (vw e).e0&&bI i N s (vw e).e1)
noncomputable def FE(nb:Option (Str×Nat×Pos×Pos))(e:Expr):Expr:=match nb with
 |none=>e
 |some (x,k,p,q)=>.List [.Constant (.str x) k p,e] q
noncomputable def Cf(nb:Option (Str×Nat×Pos×Pos))(p n y:Str)(t np vp c r h:Pos):Qd:=.ExceptHandler (some (.Name p t)) (some n) [.Return (some (FE nb (.Call (.Name y np) [.Name n vp] [] c))) r] h
noncomputable def Cg(pre:Option (Str×Nat×Pos))(es:Lx):Lx:=match pre with
 |none=>es
 |some q=>.Constant (.str q.1) q.2.1 q.2.2::es
noncomputable def MC(pre:Option (Str×Nat×Pos))(g n y:Str)(k:Nat)(np vp c K t v p V P l r i:Pos):Om:=
 .If (.Compare (.Call (.Name y np) [.Name n vp] [] c) [.Eq] [.Constant (.str g) k K] t) [.Return (some (.List (Cg pre [.Attribute (.Name n v) "many" p,.Attribute (.Name n V) "most" P]) l)) r] [] i
noncomputable def MD(pre:Option Str)(g n y:Str)(b b1:Om):List Om:=
 [MC (pre.map λx=>(x,(vw ((vw (vs ((vs b).a.headD dS)).e0).es.headD dE)).k,(vw ((vw (vs ((vs b).a.headD dS)).e0).es.headD dE)).pos)) g n y (vw ((vw (vs b).e0).es.headD dE)).k (vw (vw (vw (vs b).e0).e0).e0).pos (vw ((vw (vw (vs b).e0).e0).es.headD dE)).pos (vw (vw (vs b).e0).e0).pos (vw ((vw (vs b).e0).es.headD dE)).pos (vw (vs b).e0).pos
   (vw (vw ((vw (vs ((vs b).a.headD dS)).e0).es.getD pre.toList.length dE)).e0).pos (vw ((vw (vs ((vs b).a.headD dS)).e0).es.getD pre.toList.length dE)).pos (vw (vw ((vw (vs ((vs b).a.headD dS)).e0).es.getD (pre.toList.length+1) dE)).e0).pos (vw ((vw (vs ((vs b).a.headD dS)).e0).es.getD (pre.toList.length+1) dE)).pos
   (vw (vs ((vs b).a.headD dS)).e0).pos (vs ((vs b).a.headD dS)).pos (vs b).pos,
  .Return (some (.Call (.Name y (vw (vw (vs b1).e0).e0).pos) [.Name n (vw ((vw (vs b1).e0).es.headD dE)).pos] [] (vw (vs b1).e0).pos)) (vs b1).pos]
mutual
noncomputable def je:CS->Ls->Om->Om
 | .asg i e,N,st=>.Assign [.Name (N.getD i "") (vw (vs st).e0).pos] (aX e N (vs st).e1) (vs st).pos
 | .asgT t e,N,st=>.Assign [iZ t N (vs st).e0] (aX e N (vs st).e1) (vs st).pos
 | .par is es,N,st=>.Assign [.Tuple (fL (is.map CT.var) N (vw (vs st).e0).es) (vw (vs st).e0).k (vw (vs st).e0).pos] (.Tuple (cB es N (vw (vs st).e1).es) (vw (vs st).e1).k (vw (vs st).e1).pos) (vs st).pos
 | .set o i v,N,st=>.Assign [Cd o i N (vs st).e0] (aX v N (vs st).e1) (vs st).pos
 | .expr e,N,st=>.Expr (aX e N (vs st).e0) (vs st).pos
 | .ret e,N,st=>.Return (some (aX e N (vs st).e0)) (vs st).pos
 | .retN,_,st=>.Return none (vs st).pos
 | .pass,_,st=>.Pass (vs st).pos
 | .brk,_,st=>.Break (vs st).pos
 | .cont,_,st=>.Continue (vs st).pos
 | .ite c a b,N,st=>.If (aX c N (vs st).e0) (cr a N (vs st).a) (cr b N (vs st).b) (vs st).pos
 | .for_ t it body,N,st=>.For (iZ t N (vs st).e0) (uk it N (vs st).e1) (cr body N (vs st).a) [] (vs st).pos
 | .while_ _ c body,N,st=>.While (aX c N (vs st).e0) (cr body N (vs st).a) [] (vs st).pos
 | .never,_,st=>st
 | .raise_ x es,N,st=>.Raise (some (.Call (.Name x (vw (vw (vs st).e0).e0).pos) (cB es N (vw (vs st).e0).es) [] (vw (vs st).e0).pos)) none (vs st).pos
 | .tryK i body f _ _,N,st=>.Try (cr body N (vs st).a) [Cf none "PairError" (N.getD i "") f (vw (vs st).e0).pos (vw (vw (vs ((vs st).b.headD dS)).e0).e0).pos (vw ((vw (vs ((vs st).b.headD dS)).e0).es.headD dE)).pos (vw (vs ((vs st).b.headD dS)).e0).pos (vs ((vs st).b.headD dS)).pos (vs st).hp] [] [] (vs st).pos
 | .raiseI x es,N,st=>.Raise (some (.Call (.Name x (vw (vw (vs st).e0).e0).pos) (cB es N (vw (vs st).e0).es) [] (vw (vs st).e0).pos)) none (vs st).pos
 | .tryG pre g i body f _ _,N,st=>.Try (cr body N (vs st).a) [.ExceptHandler (some (.Name "PairError" (vw (vs st).e0).pos)) (some (N.getD i "")) (MD pre g (N.getD i "") f ((vs st).b.headD dS) ((vs st).b.tail.headD dS)) (vs st).hp] [] [] (vs st).pos
noncomputable def cr:List CS->Ls->List Om->List Om
 | [],_,_=>[]
 |c::cs,N,st=>je c N (st.headD dS)::cr cs N st.tail
end
noncomputable def kZ:Expr->Bool
 | .Tuple xs _ _=>xs.all (foldedForSure 8)
 |_=>Nj
noncomputable def k6(s:Sc):Expr->Bool
 | .Tuple ts _ _=>ts.any fun
  | .Name id _=>s.lookup id==some .cell
  |_=>Nk
 |_=>Nk
mutual
noncomputable def vg:CS->Ls->Sc->Om->Bool
 | .asg i e,N,sc,st=>N[i]?==some (N.getD i "")&&(vc sc (N.getD i "")&&(bI e N sc (vs st).e1&&(fP (aX e N (vs st).e1)||(kx e&&(sc.lookup (N.getD i "")==some .cell||MB sc (N.getD i "") (vw (vs st).e0).pos (aX e N (vs st).e1))))))
 | .asgT t e,N,sc,st=>nB t&&((kZ (aX e N (vs st).e1)||k6 sc (iZ t N (vs st).e0))&&(fP (aX e N (vs st).e1)&&(rn (λ_=>Nj) N sc t&&bI e N sc (vs st).e1)))
 | .par is es,N,sc,st=>is.all (λi=>N[i]?==some (N.getD i "")&&sc.lookup (N.getD i "")==some .local)&&(decide (is.length<=3)&&(eZ es N sc (vw (vs st).e1).es&&vd sc (fL (is.map CT.var) N (vw (vs st).e0).es) (cB es N (vw (vs st).e1).es) (is.map λi=>N.getD i "")))
 | .set o i v,N,sc,st=>Ce o i N sc (vs st).e0&&(fP (aX v N (vs st).e1)&&bI v N sc (vs st).e1)
 | .expr e,N,sc,st=>fP (aX e N (vs st).e0)&&bI e N sc (vs st).e0
 | .ret e,N,sc,st=>bI e N sc (vs st).e0
 | .retN,_,_,_=>Nj
 | .pass,_,_,_=>Nj
 | .brk,_,_,_=>Nj
 | .cont,_,_,_=>Nj
 | .ite c a b,N,sc,st=>bI c N sc (vs st).e0&&(ea a N sc (vs st).a&&ea b N sc (vs st).b)
 | .for_ t it body,N,sc,st=>rn (λ_=>Nj) N sc t&&(Aj it N sc t (vs st).e1&&(nA (uk it N (vs st).e1)&&ea body N sc (vs st).a))
 | .while_ _ c body,N,sc,st=>bI c N sc (vs st).e0&&ea body N sc (vs st).a
 | .never,_,_,_=>Nj
 | .raise_ x es,N,sc,st=>bp sc x&&(eZ es N sc (vw (vs st).e0).es&&(0<es.length&&(cB es N (vw (vs st).e0).es).all bA))
 | .tryK i body f _ _,N,sc,st=>N[i]?==some (N.getD i "")&&(sc.lookup (N.getD i "")==some .local&&(dw (N.getD i "")&&(bp sc "PairError"&&(bp sc f&&ea body N sc (vs st).a))))
 | .raiseI x es,N,sc,st=>bp sc x&&(eZ es N sc (vw (vs st).e0).es&&(0<es.length&&(cB es N (vw (vs st).e0).es).all bA))
 | .tryG _ _ i body f _ _,N,sc,st=>N[i]?==some (N.getD i "")&&(sc.lookup (N.getD i "")==some .local&&(dw (N.getD i "")&&(bp sc "PairError"&&(bp sc f&&ea body N sc (vs st).a))))
noncomputable def ea:List CS->Ls->Sc->List Om->Bool
 | [],_,_,_=>Nj
 |c::cs,N,sc,st=>vg c N sc (st.headD dS)&&ea cs N sc st.tail
end
section
variable {E:XK}{k:Nat}{pos:Pos}
theorem jf{v:Expr}{o:Option Expr}(h:fP v=Nj):swapsWith v o line env=pure Nk:=by cases v<;>first|rfl|cases h
theorem Ch(O:cF X cell N sc CX E Φ Γ k):X.env.blockKind=.function:=by unfold Env.blockKind;rw[O.kd];rfl
theorem oP(O:cF X cell N sc CX E Φ Γ k){v:Expr}{x:Str}{p:Pos}(h:u_ v=Nj)(H:sc.lookup x=some .cell):swapsWith v (some (.Name x p)) line X.env=pure Nk:=by
 have e:X.env.kindOf x=some .cell:=by show X.env.scope.names.lookup x=_;rw[O.sc];exact H
 cases v<;>first| (cases h)|skip
 show(pure _)=pure _;have a:(some ND==some NameKind.local)=Nk:=by rfl
 lia
theorem vh(O:cF X cell N sc CX E Φ Γ k){e:Expr}{g:List NH}{p:Pos}{x:Str}(h:MB sc x p (.ListComp e g scope vp)=Nj):swapsWith (.ListComp e g scope vp) (some (.Name x p)) line X.env=pure Nj:=by
 obtain⟨d,h⟩:=aa h;obtain⟨H,a⟩:=aa h;have c:X.env.kindOf x=some .local:=by show X.env.scope.names.lookup x=_;rw[O.sc];simp_all
 show pure (X.env.blockKind== .function&&X.env.kindOf x==some _&&p.line==vp.line&& !_)=pure _;rw[Ch O,show(p.line==vp.line)=Nj from H];have b:(!scope.names.any _)=Nj:=a;lia
theorem vk(O:cF X (λ_=>Nj) N sc CX E Φ Γ k){x:Str}(h:vc sc x=Nj):L2.Loc X.env.scope x:=by unfold L2.Loc;rw[O.sc];unfold vc at h;simpa using h
theorem Ci{D:Ends}{i:Nat}{e:CE}(h:tS X.K X.mg E Φ Γ (.asg i e) D σ H):tE X.K X.mg E Φ Γ e σ H λv H1=>D.nx (σ.set i (some v)) H1:=by obtain⟨F,g,j,S,b,a,w⟩:=h;exact⟨F,_,_,S,b,a,(ar.bind w).mono λv H1 z=>ax z λc f d x s r W=>W _ _ _ .refl s ((a.mono x).set r)⟩
theorem Jt{e:CE}(h:kx e=Nj):∃box N fr tg it ifs body,e=.comp box N fr tg it ifs body:=by
 unfold kx at h;split at h
 ·exact⟨_,_,_,_,_,_,_,rfl⟩
 ·cases h
theorem Cj(O:cF X (λ_=>Nj) N sc CX E Φ Γ k){i:Nat}{e:CE}(h:vg (.asg i e) N sc st=Nj):PS X (je (.asg i e) N st) (tS X.K X.mg E Φ Γ (.asg i e)):=by
 obtain⟨d,h⟩:=aa h;obtain⟨p,h⟩:=aa h;obtain⟨m,b⟩:=aa h;have d:=beq_iff_eq.mp d
 have plain:swapsWith (aX e N (vs st).e1) (some (.Name (N.getD i "") (vw (vs st).e0).pos)) (vs st).pos.line X.env=pure Nk->PS X (je (.asg i e) N st) (tS X.K X.mg E Φ Γ (.asg i e)):=λr=>
  bY (jZ (i:=i) (by rw[O.n];exact O.nd) (by rw[O.n];exact d) (vk O p) (aK e O m) r (.inl (O.fn _ rfl))) λD L H q=>Ci q
 rcases Qw.mp b with b|b
 ·exact plain (jf b)
 ·obtain⟨b,c⟩:=aa b;obtain⟨box,o,M,T,it,I,body,rfl⟩:=Jt b;rcases Qw.mp c with c|c
  ·exact plain (oP O rfl (beq_iff_eq.mp c))
  ·have l:=vh O (line:=(vs st).pos.line) c;have t:X.env.scope.names.lookup (N.getD i "")=some .local:=by rw[O.sc];exact beq_iff_eq.mp (aa c).1
   obtain⟨K,h⟩:=aa m;obtain⟨u,h⟩:=aa h;obtain⟨v,h⟩:=aa h;obtain⟨w,h⟩:=aa h;obtain⟨x,h⟩:=aa h;obtain⟨y,h⟩:=aa h;obtain⟨z,B⟩:=aa h;have s:=B3 O K
   refine bY (m6 (N:=o) (j:=i) (g:=rG X.K T) (tb:=tC X.K X.mg oL Φ Γ I body) O.calm (by rw[O.n];exact O.nd) (by rw[O.n];exact d) t l s (B4 O u) (oO it O x kU) (λA a=>eL _ a>>=λok=>if ok=Nj then bq (yf Nk _ _ _ _) (FC Nk _ _ a) (_::_) 0 (.ref A) a else pure ())
    (λit A a=>uX (kd:=Nk) rfl) (λC S n F A=>?_) (oD y)) λD L H q=>kF (tg0:=.Name (N.getD i "") (vw (vs st).e0).pos) (Ci q)
   have f:=B5 O s.kind v C S n F;exact⟨kE f w,uB (oN I f z) (u9 body (kd:=Nk) f rfl rfl B)⟩
end
def DK(h h':Nw):Prop:=∀(b:Nm) (o:Obj),h.objs[b]?=some o->∃o':Obj,h'.objs[b]?=some o'/\o'.dict=o.dict
theorem DK.refl:DK h h:=λ_ o e=>⟨o,e,rfl⟩
theorem DK.trans{h H a:Nw}(x:DK h H)(y:DK H a):DK h a:=λb o e=>
 let⟨d,c,q⟩:=x b o e
 let⟨O,E,Q⟩:=y b d c
 ⟨O,E,Q.trans q⟩
theorem DK.upd{f:Obj->Obj}(H:∀o,(f o).dict=o.dict):DK h (h.update a f):=λb o e=>by
 by_cases z:a=b
 ·subst z;exact⟨f o,by rw[Heap.objs_update_self,e];rfl,H o⟩
 ·refine⟨o,?_,rfl⟩;obtain⟨O,l⟩:=h;simp only[Heap.update]at e⊢;rw[Array.getElem?_modify,if_neg z];exact e
theorem DK.push{x:Obj}:DK h (h.push x):=λb o e=>by refine⟨o,?_,rfl⟩;obtain⟨O,l⟩:=h;simp only[QS]at e⊢;have H:=(Ob.mp e).1;rw[Array.getElem?_push_lt H];rw[NO H]at e;exact e
theorem DK.get(x:DK h h'){b:Nm}{O:Obj}(e:h.get? b=some o)(E:h'.get? b=some O):O.dict=o.dict:=by obtain⟨a,q,r⟩:=x b o (SF.mp e).1;rw[(SF.mp E).1]at q;cases q;exact r
def Gt{b:Type}(t:Sem b):Prop:=∀(M:Model) (Γ:PySem.Ctx) (Q:b->Pos->Nl->Prop) (E:Nn->Pos->Nl->Prop) (p:Pos) (s:Nl),
 Sem.wp M Γ t Q E p s->Sem.wp M Γ t (λa p' s'=>Q a p' s'/\DK s.heap s'.heap) (λe p' s'=>E e p' s'/\DK s.heap s'.heap) p s
theorem cu{a:α}:Gt (pure a:Sem α):=λM b Q E p s h=>⟨h,.refl⟩
theorem fc{x:String}:Gt (PySem.unsupported x:Sem α):=λM a Q E p s h=>h.elim
theorem cb{m:Sem α}{f:α->Sem β}(c:Gt m)(H:∀a,Gt (f a)):Gt (m>>=f):=λM b Q E p s h=>by rw[Sem.wp_bind']at h⊢;exact Q4 M b m (λa P S q=>Q4 M b (f a) (λ_ _ _ r=>⟨r.1,q.2.trans r.2⟩) (λ_ _ _ r=>⟨r.1,q.2.trans r.2⟩) P S (H a M b Q E P S q.1)) (λ_ _ _ q=>q) p s (c M b _ E p s h)
theorem vm:Gt (load a):=λM b Q E p s h=>by obtain⟨o,e,q⟩:=h;exact⟨o,e,q,.refl⟩
theorem k7{f:Obj->Obj}(H:∀o,(f o).dict=o.dict):Gt (update a f):=λM b Q E p s h=>by obtain⟨e,q⟩:=h;exact⟨e,q,.upd H⟩
theorem Ck:Gt (alloc o):=λM a Q E p s h=>⟨h,.push⟩
theorem vn:Gt stack:=λM a Q E p s h=>⟨h,.refl⟩
theorem vo{v:Nn}{i:Nat}:Gt (field v i):=by
 unfold field fieldsOf;refine cb ?_ λvs=>?_
 ·cases v<;>first|exact fc|skip
  refine cb vm λo=>?_;split<;>first|exact cu|exact fc
 ·split<;>first|exact cu|exact fc
theorem Cm{v x:Nn}{i:Nat}:Gt (setField v i x):=by
 unfold setField;cases v<;>first|exact fc|skip
 unfold updateField;refine cb vm λo=>?_;split
 ·split
  ·exact k7 λo=>by unfold RD;split<;>rfl
  ·exact fc
 ·exact fc
theorem oQ{e:Nn}{f:Option Nm}:Gt (setFlight e f):=by
 unfold setFlight;refine cb vo λt=>?_;split
 ·exact Cm
 ·exact cu
theorem Cn:∀l:List Env,Gt (readyFrames l)
 | []=>cu
 |e::O=>by
  unfold readyFrames;split
  ·refine cb vm λo=>?_;split
   ·exact cu
   ·refine cb ?_ λb=>cb ?_ λback=>cb (k7 λo=>rfl) λ_=>Cn O
    ·unfold behindIsImport;split
     ·exact cu
     ·split
      ·exact cu
      ·exact cb vo λ_=>cu
    ·unfold keptBack;split
     ·split
      ·exact cu
      ·refine cb ?_ λ_=>cu;unfold underTheClaimsCaller;exact cb vn λ_=>cu
     ·exact cu
  ·exact fc
theorem Ju:Gt (frameOf env):=by
 unfold PySem.frameOf;refine cb (by unfold frameEnvs;exact cb vn λ_=>cu) λl=>cb ?_ λr=>?_
 ·unfold frameObject;split
  ·exact cu
  ·exact cb (Cn _) λ_=>cu
 ·split
  ·exact cu
  ·exact fc
theorem Jv{h v w:Nn}{pl:Lv}{f:Nn}:Gt (Rt h v w f .none pl):=by
 unfold Rt newFields newObj newObjAsIs;dsimp only;generalize([h,v,w,f,Nr]++_).toArray=y;split
 ·exact cb fc λ_=>cb Ck λ_=>cu
 ·exact cb Ck λ_=>cu
theorem vq{e:Nn}:Gt (noteFrame e env):=by
 unfold noteFrame entryPlaceOf
 repeat' first
  |exact cu
  |exact fc
  |exact vo
  |exact Cm
  |exact Ju
  |exact Jv
  |exact vn
  |refine cb ?_ λ_=>?_
  |split
theorem Co{e:Nn}:Gt (leaving env e):=cb vq λ_=>oQ
section
variable {Q:α->Nl->Prop}
theorem Gt.any{t:Sem α}(g:Gt t)(h:wpAny M A t Q E s):wpAny M A t (λa s'=>Q a s'/\DK s.heap s'.heap) (λe s'=>E e s'/\DK s.heap s'.heap) s:=λb p H=>g M b _ _ p s (h b p H)
end
def yg(h:Nw)(H:Hp)(h':Nw)(e:Nm)(cls:Nn)(dx:Option Nm):Prop:=
 ∃oe vs a0 T o ts,h'.get? e=some oe/\(oe.cls=cls/\vs[0]?=some a0)/\oe.data=.fields vs/\vs[1]?=some (.ref T)/\T≠e/\h'.get? T=some o/\o.data=.fields ts/\ts[3]?=some .none/\(h.get? e=none/\h.get? T=none)/\(H e=none/\H T=none)/\oe.dict=dx
noncomputable def bh(P:Nt)(w:NF):dj:=λouter H s E v s'=>∃e cls dx H',v=.ref e/\s'.os=s.os/\P8 s'.gens/\Un (bE outer) [] H H' s.heap s'.heap/\dV P w H' s'.heap/\E cls dx H'/\yg s.heap H' s'.heap e cls dx
theorem rO{P:Nt}(o:List Env)(H:Hp)(s:Nl)(e:Nn)(S:Nl)(z:bh P w o H s E0 e S):False:=by obtain⟨_,_,_,_,_,_,_,_,_,q,_⟩:=z;exact q
theorem vr{P:Nt}{o:HO}(x:aP P w H h a o):∃u,h.get? a=some u:=by
 cases o with
 |lst X=>obtain⟨_,_,_,_,e⟩:=x;exact⟨_,e⟩
 |tup X=>obtain⟨_,_,_,_,u,e,_⟩:=x;exact⟨_,e⟩
 |dK k=>obtain⟨_,_,_,_,o,_,_,e,_⟩:=x;exact⟨_,e⟩
 |dT k=>obtain⟨_,_,_,_,o,_,_,e,_⟩:=x;exact⟨_,e⟩
 |set S n=>obtain⟨o,_,_,_,e,_⟩:=x;exact⟨_,e⟩
 |ins C d fs=>obtain⟨_,_,_,e,_⟩:=x;exact⟨_,e⟩
 |own y=>obtain⟨_,e⟩:=x;exact⟨_,e⟩
 |xd fs=>obtain⟨_,⟨_,_,_,e,_⟩,_⟩:=x;exact⟨_,e⟩
 |rng lo b=>obtain⟨_,_,_,e⟩:=x;exact⟨_,e⟩
 |frz O u=>obtain⟨e,_⟩:=x;exact⟨_,e⟩
 |tbl p=>exact⟨_,show h.get? a=some _ from x⟩
 |met f y=>exact⟨_,show h.get? a=some _ from x⟩
 |ext c=>obtain⟨_,e,_⟩:=x;exact e
section
variable {s3:Nl}{e T:Nm}{B:Nw}{E:XK}
theorem Cp(I:Inv X pq σ H' s2)(G:X.ex=[])(L:X.stack=X.env::X.outer)(Q:∀b o,s2.heap.get? b=some o->b∉bE X.stack->b≠e->b≠T->B.get? b=some o)
  (A:X.s₀.heap.get? e=none/\X.s₀.heap.get? T=none) (w:H' e=none/\H' T=none) (P:O6 B X.outer e cls a0 h') (up:s2.heap.UpToSlots h') (q:E cls dx H') (F:∀o,h'.get? e=some o->o.dict=dx)
  (W:s3.os=s2.os) (Y:s3.gens=s2.gens) (C:s3.heap=h'):bh X.prog X.w X.outer X.H₀ X.s₀ E (.ref e) s3:=by
 have U:=I.base;rw[G]at U;have M:=I.stack;have m:∀b,b∈bE X.stack->∃o,s2.heap.get? b=some o/\∀vs,o.data≠.fields vs:=λb d=>(M.mem d).2;have n:∀b∈bE X.stack,H' b=none:=I.stkFree;have k:∀b o,s2.heap.get? b=some o->b∉bE X.stack->b≠e->b≠T->h'.get? b=some o:=λb o h H c g=>P.1 b o (Q b o h H c g);have old:∀b o,X.s₀.heap.get? b=some o->b≠e/\b≠T:=λb o h=>⟨λz=>(by rw[z,A.1]at h;cases h),λz=>(by rw[z,A.2]at h;cases h)⟩
 have nl:∀b o,X.s₀.heap.get? b=some o->b∉bE X.outer->b∉bE X.stack:=λb o h H c=>by
  rcases Zj.mp (I.stkSub b c)with z|z
  ·have:=Zf h;rw[z]at this;exact absurd this (Pl.mpr I.ok.above)
  ·exact H z
 have N:∀b∈bE X.outer,b∈bE X.stack:=λb d=>by rw[L];obtain⟨en,h,H⟩:=Z3.mp d;exact Z3.mpr ⟨en,Zc _ h,H⟩
 have r:∀b o,s2.heap.get? b=some o->b≠e->b≠T->∃O,h'.get? b=some O:=λb o h H c=>by
  by_cases d:b∈bE X.stack
  ·obtain⟨o1,g,i⟩:=m b d;obtain⟨sl,l⟩:=up b o1 g i;exact⟨_,l⟩
  ·exact⟨o,k b o h d H c⟩
 have V:Un (bE X.outer) [] X.H₀ H' X.s₀.heap h':=by
  refine⟨λb o h H c g=>k b o (U.keep b o h H c g) (nl b o h c) (old b o h).1 (old b o h).2,λb o h H c g=>?_,U.free,λb o h H=>?_,U.tups,U.frzs,U.tbls⟩
  ·obtain⟨sl,i⟩:=U.slot b o h H c g;obtain⟨o1,l,x⟩:=m b (N b c);rw[i]at l;cases l;obtain⟨S,y⟩:=up b _ i x;exact⟨S,y⟩
  ·obtain⟨O,i⟩:=U.there b o h H;exact r b O i (old b o h).1 (old b o h).2
 have t:∀b u,H' b=some u->b∉bE X.stack/\b≠e/\b≠T:=λb u h=>
  ⟨λz=>(by rw[n b z]at h;cases h),λz=>(by rw[z,w.1]at h;cases h),λz=>(by rw[z,w.2]at h;cases h)⟩
 have K:dV X.prog X.w H' h':=λa o Z=>(I.hok a o Z).stay (λb u d h=>by
  have D:∃u,H' b=some u:=by rcases d with rfl|d<;>exact⟨_,by assumption⟩
  obtain⟨u',hu⟩:=D;obtain⟨t1,t2,t3⟩:=t b u' hu;exact k b u h t1 t2 t3) (λ_ q=>q) λ_ _ q=>q
 obtain⟨k1,k2,k3,R,vs,f,oT,ts,h,H,c,g,i,l,x,y,h9⟩:=P
 have gh:∀o,s2.heap.get? f=some o->f=T:=λo J=>by
  refine Classical.byContradiction λhn=>?_;by_cases d:f∈bE X.stack
  ·obtain⟨o1,j,s⟩:=m f d;obtain⟨sl,v⟩:=up f o1 j s;rw[x]at v;cases v;exact s _ y
  ·rw[Q f o J d l hn]at i;cases i
 refine⟨e,cls,dx,H',rfl,by rw[W];exact I.os,by rw[Y];exact I.bare,by rw[C];exact V,by rw[C];exact K,q,?_⟩;rw[C];refine⟨R,vs,a0,f,oT,ts,h,H,c,g,l,x,y,h9,⟨A.1,?_⟩,⟨w.1,?_⟩,F R h⟩
 ·cases p:X.s₀.heap.get? f with
  |none=>rfl
  |some o=>obtain⟨O,j⟩:=U.there f o p (by simp);rw[gh O j,A.2]at p;cases p
 ·cases p:H' f with
  |none=>rfl
  |some u=>obtain⟨o,J⟩:=vr (I.hok f u p);rw[gh o J,w.2]at p;cases p
theorem Cq{l:List Env}(f:yg h0 Hx h e cls dx)(u:h.FunFrames base l):(∀o,h.get? e=some o->o.dict=dx)/\∃T a0,(h0.get? e=none/\h0.get? T=none)/\(Hx e=none/\Hx T=none)/\O6 (PySem.W.hideAll h (e::T::bE l)) l e cls a0 h:=by obtain⟨v,vs,a0,T,O,w,d,i,j,k,m,n,p,r,c,H⟩:=f;refine⟨λo g=>by rw[d]at g;cases g;exact H.2,T,a0,c,H.1,λb o q=>PySem.W.of_hideAll _ q,PySem.W.hideAll_none _ (by simp),PySem.W.funFrames_hide u (λE t a s=>?_),v,vs,T,O,w,d,i,j,k,PySem.W.hideAll_none _ (by simp),m,n,p,r⟩;exact Zc _ (Zc _ (Z3.mpr ⟨E,t,s⟩))
theorem Cr{l:List Env}:∀b o,h.get? b=some o->b∉bE l->b≠e->b≠T->(PySem.W.hideAll h (e::T::bE l)).get? b=some o:=λb o H a c d=>
 PySem.W.hideAll_get _ H λf=>by grind
theorem Cs{v:Nn}(I:Inv X pq σ H s)(c:bh X.prog X.w X.stack H s E v s2)(a:X.ex=[]):∃e cls dx H',v=.ref e/\Inv X pq σ H' s2/\E cls dx H'/\yg s.heap H' s2.heap e cls dx:=by obtain⟨e,cls,dx,H',rfl,o,B,un,h,q,f⟩:=c;exact⟨e,cls,dx,H',rfl,I.call' o un h B (λb z=>absurd z (by simp)),q,f⟩
theorem yg.old(f:yg h0 Hx h e cls dx)(t:∀b o,h1.get? b=some o->∃o',h0.get? b=some o'):yg h1 Hx h e cls dx:=by
 obtain⟨r,vs,a,T,O,s,c,d,i,j,k,l,m,p,g,G⟩:=f
 have n:∀b,h0.get? b=none->h1.get? b=none:=λb H=>by
  cases q:h1.get? b with
  |none=>rfl
  |some o=>obtain⟨o',E⟩:=t b o q;rw[H]at E;cases E
 exact⟨r,vs,a,T,O,s,c,d,i,j,k,l,m,p,⟨n _ g.1,n _ g.2⟩,G⟩
end
section
variable {E:XK}
def jM(X:Cx)(E:XK):Prop:=X.ex=[]/\X.stack=X.env::X.outer/\X.env.frame=some X.env.locals/\X.xe=λe s'=>wpAny (model X.prog X.w) X.A (leaving X.env e) (λ_ s=>bh X.prog X.w X.outer X.H₀ X.s₀ E e s) (λa s=>bh X.prog X.w X.outer X.H₀ X.s₀ E a s) s'
theorem jM.of{P:Nt}{E:XK}:jM (eD (bh P w) P w K mg base N qual scope f cd A outer s H E) E:=
 ⟨rfl,rfl,rfl,rfl⟩
theorem jM.own(L:jM X E):Qf (model X.prog X.w) X.A X.env X.xe:=by rw[L.2.2.2];exact PassesOwn.leaving
theorem jM.pass(L:jM X E):j5 (bh X.prog X.w) X E:=by intro P G H s v k I c;obtain⟨a,h,w,j⟩:=L;obtain⟨e,cls,B,y,rfl,l,q,f⟩:=Cs I c a;have t:=f.old (h1:=X.s₀.heap) λb o u=>I.base.there b o u (by rw[a];simp);obtain⟨g,T,A,N,x,m⟩:=Cq t (h▸l.stack);rw[j];refine ZH ((Co (env:=X.env)).any (wpAny_leaves_onW (E:=λe S=>False) (Q:=λ_ S=>∃d,S={k with heap:=d}/\O6 (PySem.W.hideAll k.heap (e::T::bE (X.env::X.outer))) X.outer e cls A d/\k.heap.UpToSlots d) (by rw[I.ok.frames,h]) w m λd F up=>⟨d,rfl,F,up⟩)) (λ_ S z=>?_) λ_ _ z=>z.1.elim;obtain⟨⟨d,rfl,F,up⟩,D⟩:=z;obtain⟨O,p,_⟩:=m.there;exact Cp (T:=T) l a h (by rw[h];exact Cr) N x F up q (λo i=>(D.get p i).trans (g O p)) rfl rfl rfl
theorem jM.made{s0:Nl}{e C:Nm}{vs:Av}{a0:Nn}(L:jM X E)(r:Inv X pq σ H0 s0)(M:s0.heap.get? e=none)(I:Inv X pq σ H s)(j:s.heap.get? e=some {cls:=.ref C,dict:=dx,data:=.fields vs})(h1:vs[1]?=some .none)(t:vs[0]?=some a0)(N:H e=none)(q:E (.ref C) dx H):X.xe (.ref e) s:=by
 obtain⟨i,h,x,n⟩:=L;rw[n]
 have ne:X.s₀.heap.get? e=none:=by
  cases y:X.s₀.heap.get? e with
  |none=>rfl
  |some o=>obtain⟨O,g⟩:=r.base.there e o y (by rw[i];simp);rw[M]at g;cases g
 have l:∀c∈X.env::X.outer,∀a,c.frame=some a->a∈e::bE (X.env::X.outer):=λc j a w=>Zc _ (Z3.mpr ⟨c,j,w⟩);have k:s.heap.FunFrames (PySem.W.hideAll s.heap (e::bE (X.env::X.outer))) (X.env::X.outer):=PySem.W.funFrames_hide (h▸I.stack) l;have f:(PySem.W.hideAll s.heap (e::bE (X.env::X.outer))).get? e=none:=PySem.W.hideAll_none _ (by simp);refine ZH ((Co (env:=X.env)).any (wpAny_leaving_firstW (E:=λe S=>False) (Q:=λ_ S=>∃d,S={s with heap:=d}/\Heap.LeftW (PySem.W.hideAll s.heap (e::bE (X.env::X.outer))) (X.env::X.outer) e (.ref C) a0 s.heap d) (by rw[I.ok.frames,h]) k x j (λb o z=>PySem.W.of_hideAll _ z) f rfl h1 t λd F=>⟨d,rfl,F⟩)) (λ_ S z=>?_) λ_ _ z=>z.1.elim;obtain⟨⟨d,rfl,F⟩,D⟩:=z;obtain⟨K,⟨_,_,A⟩,G,J⟩:=F;refine Cp (B:=PySem.W.hideAll s.heap (e::bE (X.env::X.outer))) (T:=e) (a0:=a0) I i h (λb o h1 u v _=>PySem.W.hideAll_get _ h1 λz=>?_) ⟨ne,ne⟩ ⟨N,N⟩ ⟨K,f,A,G⟩ J q (λo m=>(D.get j m)) rfl rfl rfl;rcases Zj.mp z with z|z
 ·exact v z
 ·exact u (by rw[h];exact z)
def gA(X:Cx)(E:XK):Prop:=∀(pq:Lp) (σ:L2.St) (H0 H:Hp) (s0 s:Nl) (e C:Nm) (dx:Option Nm) (vs:Av) (a0:Nn),L2.Inv X pq σ H0 s0->s0.heap.get? e=none->L2.Inv X pq σ H s->s.heap.get? e=some {cls:=.ref C,dict:=dx,data:=.fields vs}->vs[1]?=some .none->vs[0]?=some a0->H e=none->E (.ref C) dx H->X.xe (.ref e) s
theorem gA.plain(M:gA X E){e:Nm}{a:Lv}(I:Inv X pq σ H s)(m:Rl s.heap h2 e (.ref C) a)(q:E (.ref C) none H):X.xe (.ref e) {s with heap:=h2}:=by
 have n:H e=none:=by
  cases d:H e with
  |none=>rfl
  |some u=>obtain⟨o,b⟩:=vr (I.hok e u d);rw[m.new]at b;cases b
 obtain⟨t,c,_⟩:=m.there;exact M pq σ H H s {s with heap:=h2} e C none _ _ I m.new (I.kept (t':=s.toks) m.keeps) c rfl rfl n q
theorem jM.all(L:jM X E):gA X E:=λ_ _ _ _ _ _ _ _ _ _ _ a n I b H h N q=>L.made a n I b H h N q
end
noncomputable def ec:Lv:=[.type "ValueError",.type "Exception",.type "BaseException",.type "object"]
section
variable {E:XK}{x:Str}
end
open PySem PySem.Spec PySem.Calls PyProof.Rows PySem.W
def vt(x C:Nm)(dx:Option Nm)(h:Nw):Prop:=∃ox,h.get? x=some ox/\ox.cls=.ref C/\ox.dict=dx/\notCls ox=Nj
theorem vt.type{x:Nm}(I:vt x C dx h):Looks M h (typeOf (.ref x)) (.ref C):=by obtain⟨o,H,a,_⟩:=I;exact a▸(Looks.ld H).andThen .now
theorem Ct{Q:Unit->Nl->Prop}{x:Nm}(L:Looks M s.heap (typeOf (.ref x)) (.ref C))(c:Looks M s.heap (isSubtype (.ref C) (.type "BaseException")) Nj)(a:Q () s):
  wpAny M A (checkBuiltinCall "BaseException.__getattribute__" ⟨[.ref x,nameV],[]⟩) Q E s:=by
 have f:builtinKind "BaseException.__getattribute__"=some .slot:=by decide+kernel
 have h:splitId "BaseException.__getattribute__"=some ("BaseException","__getattribute__"):=by decide+kernel
 have b:=PySem.F.args_bexc_ga (.ref x) nameV;obtain⟨i,g,d,t,o⟩:=s;simp only[checkBuiltinCall,f,h];refine Za ?_;unfold isInstance;refine Za (L.at (c.at ?_));simp only[Ry,Zt,if_false];cases H:RE "BaseException.__getattribute__" with
 |none=>exact Zd a
 |some S=>simp only[argsOk,H]at b;have e:Qo "BaseException.__getattribute__" S ⟨[.ref x,nameV],[]⟩=pure ():=b;show wpAny M A (Qo "BaseException.__getattribute__" S ⟨[.ref x,nameV],[]⟩) Q E _;rw[e];exact Zd a
section
variable {x:Nm}
theorem oR{T:Nn}{R:Qp->Nl->Prop}(X:K.In s.heap)(I:vt x C dx s.heap)(H:mroIn K C (.type "object")=some Nj)
  (h:R (.ok (.ret (.ref C))) s):codeAny (model prog w) A (.call (.builtin "getset_descriptor.__get__") ⟨[.builtin "object.__class__",.ref x,T],[]⟩) R s:=by
 obtain⟨b,g,d,t,o⟩:=s;have L:=I.type (M:=model prog w);have a:=looks_mroIn (M:=model prog w) X H;refine OS KF.slot_gs.plain KF.entry_gs (KF.slot_gs.check _ _ _ _ _ _ _ _ KF.type_class (KF.args_gs _ _ _) ?_);unfold N7.«getset_descriptor.__get__» RF;rw[dga_obj];refine Za (Zd ?_);unfold RG RH RI isInstance;simp only[KF.owner_class]
 repeat lk
 refine⟨PK _ (by decide+kernel),Z5 KF.entry_class ?_⟩;unfold N7.«object.__class__» shownTypeOf
 repeat lk
 exact h
structure dA (K:Fg)(C:Nm):Prop where
 cls:∃cd,clsIn K C=some cd
 ga:findIn K (.ref C) "__getattribute__"=some (some (.builtin "BaseException.__getattribute__"))
 gn:findIn K (.ref C) "__getattr__"=some none
 at_:findIn K (.ref C) "__class__"=some (some (.builtin "object.__class__"))
 ob:mroIn K C (.type "object")=some Nj
 be:mroIn K C (.type "BaseException")=some Nj
 sp:specialIn K (.builtin "object.__class__") "__get__"=some (some (.builtin "getset_descriptor.__get__"))
 tk:takesIn K (.builtin "object.__class__")=some Nj
theorem Jw{Q:Ov->Nl->Prop}(Z:dA K C)(X:K.In s.heap)(I:vt x C dx s.heap)(h:Q (some (.ref C)) {s with toks:=s.toks+1}):wpAny (model prog w) A (getAttr? (.ref x) "__class__") Q E s:=by
 obtain⟨H,g,d,t,o⟩:=s;have L:=I.type (M:=model prog w);have b:=looks_findIn (M:=model prog w) X Z.ga;have L2:=looks_findIn (M:=model prog w) X Z.gn
 have c:Looks (model prog w) H (Th (.ref x) (.ref C) "__class__") (.bind (.builtin "getset_descriptor.__get__") (.builtin "object.__class__")):=
  (looks_findIn (M:=model prog w) X Z.at_).andThen ((looks_specialIn X Z.sp).andThen
   ((show Looks (model prog w) H (Tj (some (.builtin "object.__class__")) (some (.builtin "getset_descriptor.__get__"))) (some (.builtin "getset_descriptor.__get__",.builtin "object.__class__"))from(looks_takesIn (M:=model prog w) X Z.tk).andThen .now).andThen (Looks.tag .now)))
 have e:=looks_mroIn (M:=model prog w) X Z.be;unfold getAttr? getAttrBy? getAttrBy;refine Za (SX (Za (O2 (ZB (Za (L.at (Za (b.at ?_))))))));show wpAny _ _ (getAttrByItsOwn _ _ _ _ _ _) _ _ _;unfold getAttrByItsOwn hookBefore;refine Za ?_;show wpAny _ _ (typeLookup (.ref C) "__getattr__") _ _ _;refine L2.at ?_;refine Za (O2 (ZB ?_));show wpAny _ _ (boundAndCalled _ _ _) _ _ _;unfold boundAndCalled;have a:bindSpecial (.builtin "BaseException.__getattribute__") (.ref x)=pure (.builtin "BaseException.__getattribute__",[.ref x]):=PySem.F.attr_ValueError.ga.bind _;rw[a];refine Za (Zd ?_);refine Pt (OS PySem.F.attr_ValueError.ga.plain PySem.F.entry_bexc_ga (Ct (s:=⟨H,g,d,t+1,o⟩) L e ?_));unfold N7.«object.__getattribute__»;refine Za (Zd ?_);refine Za (Zd ?_);refine Za (L.at (Za (c.at ?_)));show wpAny _ _ (Qi _ _ _ _) _ _ _;unfold Qi
 repeat(any_goals (first|assumption|wp_step))
 refine oR (s:=⟨H,g,d,t+1,o⟩) X I Z.ob ?_
 repeat(any_goals (first|assumption|wp_step))
theorem Jx(Z:dA K C):KitX K (.ref x) (.ref C) (vt x C dx) where
 ty:=λ_ _ _ I=>I.type
 it:=λ_ _ X _=>by
  obtain⟨cdD,hcD⟩:=Z.cls;unfold clsIn at hcD;split at hcD
  ·rename_i c' d' cd' sl' ho;intro A' Q' E' s' k q;unfold isType loadHead;exact Za (R_ (k _ _ (X _ _ ho)) (Zd q))
  ·cases hcD
 ne:=λh tp dd its n sl X htp=>by
  obtain⟨cdD,hcD⟩:=Z.cls;refine SU.mpr λq=>?_;have e:C=tp:=Value.ref.inj (beq_iff_eq.mp q);subst e;unfold clsIn at hcD;split at hcD
  ·rename_i c' d' cd' sl' ho;have z:=(X _ _ ho).symm.trans htp;cases z
  ·cases hcD
 ca:=λX I k=>Jw Z X I k
end
section
variable {x:Nm}
def cD(x C:Nm)(dx:Option Nm):HO:=.ext (vt x C dx)
theorem oS{P:Nt}(i:vt x C dx h):aP P w H h x (cD x C dx):=
 ⟨i,let⟨o,e,_⟩:=i;⟨o,e⟩,λa b ⟨o,e,c⟩ k=>⟨o,k o e,c⟩⟩
theorem Cu{D:Nn}{b:Bool}(Z:dA X.K C)(e:kitOne X.K (.ref C) D=some b):a8 X (.builtin "isinstance") (λxs H Q=>∃v,xs=[.ref x,v]/\RelV v D/\(∀u,RelV v u->u=D)/\H x=some (cD x C dx)/\Q (.bl b) H):=by
 intro p s k H vs U Q I r h;obtain⟨v,rfl,j,a,c,q⟩:=h;cases r with
 |cons R d=>
  cases d with
  |cons f g=>cases g;cases R;rw[a _ f];obtain⟨i,_,_⟩:=(show aP X.prog X.w H s.heap x (cD x C dx)from I.hok x _ c);exact kia_one (Jx Z) I.kIn i e (λz=>nomatch z) λt=>⟨.bl b,H,I.kept (t':=t) λb o e=>e,rfl,q⟩
end
end Py
namespace Py
open PySem PySem.Spec PySem.SeqAt PyProof.Rows L2
def Sub(H a:Hp):Prop:=∀b o,H b=some o->a b=some o
theorem Sub.refl:Sub H H:=λ_ _ h=>h
theorem Sub.laid{p:Nm}{o:HO}(s:Sub H H')(c:H' p=none):Sub H (aO H' p o):=λb u h=>by have a:=s b u h;rw[au (λz=>by rw[z,c]at a;cases a)];exact a
theorem vx:∀{bs:List Bool} {us:Lv},Vals (bs.map V.bl) us->us=bs.map OF
 | [],_,.nil=>rfl
 |b::bs,_,.cons r t=>by rw[vx t,show _=OF b from r];rfl
theorem Cv(bs:List Bool)(A:NV)(s:Nl):∀y,y∈(bs.map OF).toArray->EqAt A s y (.bool Nj) (isBoolOf Nj y):=λy h=>by obtain⟨b,_,rfl⟩:=Zp.mp (List.mem_toArray.mp h);exact EqAt.bool_bool b Nj
theorem Jy:jJ X "list.count" (λx xs H Q=>∃(l:Nm) (bs:List Bool),x=.ref l/\xs=[.bl Nj]/\H l=some (.lst (bs.map V.bl))/\Q (.int (bs.count Nj:Nat)) H):=by
 intro p s j H x xs v u Q I g d h;obtain⟨l,bs,rfl,rfl,c,q⟩:=h;subst g;cases d with
 |cons r R=>
  cases R;subst r;obtain⟨_,i,n,f,a⟩:=(show aP X.prog X.w H s.heap l (.lst (bs.map V.bl))from I.hok l _ c);rw[vx f]at a;refine O_ PySem.F.slot_list_count ⟨_,a,rfl⟩ PySem.F.entry_list_count (PySem.F.args_list_count_2 _ _) (list_countAt l _ n none #[] (.bool Nj) (isBoolOf Nj)) ⟨a,Cv bs _ _,?_⟩;have e:List.countP (isBoolOf Nj) (bs.map OF).toArray.toList=bs.count Nj:=by rw[List.countP_map];rfl
  rw[e];exact⟨.int _,H,I.kept (t':=s.toks+1) λb o e=>e,⟨_,rfl⟩,q⟩
theorem Jz:jJ X "list.index" (λx xs H Q=>∃(l:Nm) (bs:List Bool),x=.ref l/\xs=[.bl Nj]/\H l=some (.lst (bs.map V.bl))/\Nj∈bs/\bs.length<1000/\Q (.int (bs.idxOf Nj:Nat)) H):=by
 intro P s z H x xs v U Q I u k h;obtain⟨l,bs,rfl,rfl,d,f,w,q⟩:=h;subst u;cases k with
 |cons r R=>
  cases R;subst r;obtain⟨_,j,n,t,c⟩:=(show aP X.prog X.w H s.heap l (.lst (bs.map V.bl))from I.hok l _ d);rw[vx t]at c;have y:bs.idxOf Nj<bs.length:=Rc f;refine O_ PySem.F.slot_list_index ⟨_,c,rfl⟩ PySem.F.entry_list_index (PySem.F.args_list_index_2 _ _) (list_indexAt l _ n none #[] (.bool Nj) (isBoolOf Nj) (bs.idxOf Nj) (by simp_all) (by lia) ?_ ?_) ⟨c,Cv bs _ _,?_⟩
  ·simp[isBoolOf]
  ·intro m g a;have:=RL (p:=(· ==Nj)) (xs:=bs) (i:=m) a;simpa[isBoolOf]using this
  ·exact⟨.int _,H,I.kept (t':=s.toks+1) λb o e=>e,⟨_,rfl⟩,q⟩
def jg(y:Str):CE:=.blt .isinst [.var 0,.glob y]
def k8(y:Str):CE:=.lit (.str y)
noncomputable def gB(a b c d w v:Ls):List CS:=
 [.asg 1 (.lst Nk (a.map jg)),.asg 1 (.bin .Add (.var 1) (.lst Nk (b.map jg))),.asg 1 (.bin .Add (.var 1) (.lst Nk (c.map jg))),.asg 1 (.bin .Add (.var 1) (.lst Nk (d.map jg))),
  .ite (.bor (.bnot (jg "ValueError")) (.cmp .NotEq (.meth .count (.var 1) [.lit (.bl Nj)]) (.lit (.int 1)))) [.ret (.lit (.str "other"))] [],
  .asg 2 (.lst Nk (w.map k8)),.ret (.idx (.bin .Add (.var 2) (.lst Nk (v.map k8))) (.tix (.var 1) [.lit (.bl Nj)]))]
noncomputable def k9(st:List Om):Bool:=((st.drop 4).take 1).all (λs=>(vw (vs s).e0).es.length==2&&(vw (vw (vw ((vw (vs s).e0).es.tail.headD dE)).e0).e0).pos.endLine==(vw (vw ((vw (vs s).e0).es.tail.headD dE)).e0).pos.line)&&(st.length==7&&
 ((st.drop 6).take 1).all λs=>(vw (vw (vw (vs s).e0).e1).e0).pos.endLine==(vw (vw (vs s).e0).e1).pos.line)
structure KX (X:Cx)(N:Ls)(C:Nm)(bf:Str->Bool)(ys:Ls):Prop where
 n:X.N=N
 nd:N.Nodup
 len:N.length=3
 loc:∀(i:Nat) (y:Str),N[i]?=some y->X.env.scope.names.lookup y=some .local/\dw y=Nj
 fn:∀y,X.fn y=Nj
 isi:Gl X "isinstance"/\X.mg "isinstance"=none
 ve:Gl X "ValueError"/\X.mg "ValueError"=none
 kv:PySem.W.kitOne X.K (.ref C) (.type "ValueError")=some Nj
 z:dA X.K C
 cl:∀y∈ys,Gl X y/\(y==("__debug__":Str))=Nk/\∃D,X.mg y=some (.ref D)/\PySem.W.kitOne X.K (.ref C) (.ref D)=some (bf y)
section
variable {x:Nm}{ys:Ls}
theorem iz(O:KX X N C bf ys){i:Nat}(h:i<3):N[i]?=some (N.getD i ""):=by rw[OJ,Zi (by rw[O.len];exact h)];rfl
theorem gC(O:KX X N C bf ys){i:Nat}{pos:Pos}(H:i<3):PE X (.Name (N.getD i "") pos) (l5 i):=by obtain⟨a,h⟩:=O.loc i _ (iz O H);exact jS (by rw[O.n];exact iz O H) (.inl a) (fO h).1 (fO h).2
def ME(x C:Nm)(dx:Option Nm)(b:Bool):TE:=λσ H Q=>σ[0]?=some (some (.ref x))/\H x=some (cD x C dx)/\Q (.bl b) H
theorem Cw(O:KX X N C bf ys)(c:y∈ys):PE X (aX (jg y) N e) (ME x C dx (bf y)):=by obtain⟨g,G,D,a,b⟩:=O.cl y c;refine aL (s9 (x:="isinstance") (Cu (x:=x) (dx:=dx) O.z b) O.isi.1 O.isi.2 (by decide+kernel) (cQ (gC O (by decide)) (cQ (yt (v:=.ref D) g a rfl G) eW))) λd H Q h=>?_;exact⟨_,h.1,.ref D,rfl,rfl,λu r=>r,h.2.1,h.2.2⟩
theorem Cy(O:KX X N C bf ys):PE X (aX (jg "ValueError") N e) (ME x C dx Nj):=by refine aL (s9 (x:="isinstance") (Cu (x:=x) (dx:=dx) O.z O.kv) O.isi.1 O.isi.2 (by decide+kernel) (cQ (gC O (by decide)) (cQ (yu (v:=.ty "ValueError") O.ve.1 O.ve.2 (by decide+kernel) rfl) eW))) λa H Q h=>?_;exact⟨_,h.1,.ty "ValueError",rfl,rfl,λu r=>r,h.2.1,h.2.2⟩
theorem k_(O:KX X N C bf ys):∀{zs:Ls} {es:Lx},(∀y∈zs,y∈ys)->PA X (cB (zs.map jg) N es) (λσ H Q=>σ[0]?=some (some (.ref x))/\H x=some (cD x C dx)/\Q ((zs.map bf).map V.bl) H)
 | [],es,_=>eK eW λσ H Q h=>h.2.2
 |z::zs,es,a=>by refine eK (cQ (Cw (x:=x) (dx:=dx) O (a z Ze)) (k_ O (es:=es.tail) λy b=>a y (Zc _ b))) λσ H Q h=>?_;exact⟨h.1,h.2.1,h.1,h.2.1,h.2.2⟩
theorem vy:∀{zs:Ls} {es:Lx},PA X (cB (zs.map k8) N es) (λσ H Q=>Q (zs.map V.str) H)
 | [],es=>eK eW λσ H Q h=>h
 |z::zs,es=>eK (cQ (iJ (x:=z)) (vy (zs:=zs) (es:=es.tail))) λσ H Q h=>h
theorem la{t t':TS}(h:PS X st t)(w:∀D σ H,t' D σ H->t D σ H):PS X st t':=λp s σ H D I q=>h p s σ H D I (w D σ H q)
def Mk(x C:Nm)(dx:Option Nm)(bs:List Bool)(σ:L2.St)(H:Hp):Prop:=σ.length=3/\σ[0]?=some (some (.ref x))/\H x=some (cD x C dx)/\∃p,σ[1]?=some (some (.ref p))/\H p=some (.lst (bs.map V.bl))
theorem lb(O:KX X N C bf ys){i:Nat}{p pos:Pos}(h:i<3)(H:PE X e te)(a:fP e=Nj):PS X (.Assign [.Name (N.getD i "") p] e pos) (me te (dW i)):=
 jZ (by rw[O.n];exact O.nd) (by rw[O.n];exact iz O h) (.inl (O.loc i _ (iz O h)).1) H (jf a) (.inl (O.fn _))
theorem oU(O:KX X N C bf ys){a:Ls}(f:∀y∈a,y∈ys)(g:a.length<=1000):PS X (je (.asg 1 (.lst Nk (a.map jg))) N st)
  (λD σ H=>(σ.length=3/\σ[0]?=some (some (.ref x))/\H x=some (cD x C dx))/\∀σ' H',Mk x C dx (a.map bf) σ' H'->Sub H H'->D.nx σ' H'):=
 la (lb O (by decide) (f7 (k_ (x:=x) (dx:=dx) O f)) rfl) λD σ H ⟨⟨b,c,h⟩,e⟩=>⟨c,h,by simp;exact ZA g (by decide),λp d=>e _ _ ⟨by simp[b],by simpa using c,by rw[au (bR h d)];exact h,p,by simp[b],a7⟩ (Sub.refl.laid d)⟩
theorem vz(O:KX X N C bf ys){a:Ls}(bs:List Bool)(m:∀y∈a,y∈ys)(f:bs.length+a.length<=1000):PS X (je (.asg 1 (.bin .Add (.var 1) (.lst Nk (a.map jg)))) N st)
  (λD σ H=>Mk x C dx bs σ H/\∀σ' H',Mk x C dx (bs++a.map bf) σ' H'->Sub H H'->D.nx σ' H'):=
 la (lb O (by decide) (iq mI (gC O (i:=1) (by decide)) (f7 (k_ (x:=x) (dx:=dx) O m))) rfl) λD σ H ⟨⟨c,d,h,p,l,e⟩,k⟩=>⟨_,l,d,h,by simp;exact ZA (ZA (Rh _ _) f) (by decide),λq b=>
  ⟨p,q,bs.map V.bl,(a.map bf).map V.bl,rfl,rfl,by rw[au (bR e b)];exact e,a7,by simp;exact ZA f (by decide),λr g=>by
   have j:aO H q (.lst ((a.map bf).map V.bl)) x=some (cD x C dx):=by rw[au (bR h b)];exact h
   exact k _ _ ⟨by simp[c],by simpa using d,by rw[au (bR j g)];exact j,r,by simp[c],by rw[a7,OY]⟩ ((Sub.refl.laid b).laid g)⟩⟩
theorem jh(h:bA e=Nj):((backTo cpos (starEach [e] env)).all (λx=> !x.1)&&(backToKw cpos (keywordEach [] env)).all (λx=>x.1.isSome)&&decide ([e].length+([]:List Q9).length+(if([]:List Q9).isEmpty then 0 else 1)<30))=Nj:=by rw[nI (es:=[e]) (λx H=>by rw[NU.mp H];exact h)];rfl
theorem lc(O:KX X N C bf ys){id:String}{p:Pos}{j}(s:Slot "list" name id)(h:typeOf (.builtin id)=pure (.type "method_descriptor"))(a:jJ X id r)(H:(apos.endLine==cpos.line)=Nj):
  PE X (.Call (.Attribute (.Name (N.getD 1 "") vp) name apos) [.Constant (.bool Nj) j p] [] cpos) (Mo X.K "list" r (l5 1) (eC (L2.tC (.bl Nj)) sX)):=
 rc PySem.F.plainAttrs_list s h a (gC O (by decide)) (cQ qU eW) rfl (jh rfl) H rfl rfl
theorem vA(O:KX X N C bf ys)(bs:List Bool)(g:bs.count Nj=1)(a:(vw (vs st).e0).es.length=2)(i:((vw (vw (vw ((vw (vs st).e0).es.tail.headD dE)).e0).e0).pos.endLine==(vw (vw ((vw (vs st).e0).es.tail.headD dE)).e0).pos.line)=Nj):
  PS X (je (.ite (.bor (.bnot (jg "ValueError")) (.cmp .NotEq (.meth .count (.var 1) [.lit (.bl Nj)]) (.lit (.int 1)))) [.ret (.lit (.str "other"))] []) N st) (λD σ H=>Mk x C dx bs σ H/\D.nx σ H):=by
 have e:aX (.bor (.bnot (jg "ValueError")) (.cmp .NotEq (.meth .count (.var 1) [.lit (.bl Nj)]) (.lit (.int 1)))) N (vs st).e0=.BoolOp .Or [aX (.bnot (jg "ValueError")) N ((vw (vs st).e0).es.headD dE),aX (.cmp .NotEq (.meth .count (.var 1) [.lit (.bl Nj)]) (.lit (.int 1))) N ((vw (vs st).e0).es.tail.headD dE)] (vw (vs st).e0).pos:=by show Expr.BoolOp _ (_::cond ((vw (vs st).e0).es.length==2) _ _) _=_;rw[a];rfl
 show PS X (.If (aX (.bor _ _) N (vs st).e0) (cr [_] N _) [] _) _;rw[e];refine la (ip (PW.pt (qV (jV (sr (Cy (x:=x) (dx:=dx) O))) (jU (ms yN (lc O PySem.F.slot_list_count PySem.F.type_list_count Jy i) jT rfl)))) (sx) fD) λD σ H ⟨⟨j,b,c,p,d,h⟩,f⟩=>?_;refine⟨b,c,Nj,rfl,_,d,.inl ⟨rfl,_,.of h⟩,p,bs,rfl,rfl,h,rfl,?_⟩;rw[g];exact⟨_,rfl,f⟩
theorem oV(O:KX X N C bf ys)(bs:List Bool){w:Ls}(g:w.length<=1000):PS X (je (.asg 2 (.lst Nk (w.map k8))) N st)
  (λD σ H=>Mk x C dx bs σ H/\∀σ' H',(Mk x C dx bs σ' H'/\∃q,σ'[2]?=some (some (.ref q))/\H' q=some (.lst (w.map V.str)))->Sub H H'->D.nx σ' H'):=
 la (lb O (by decide) (f7 vy) rfl) λD σ H ⟨⟨a,d,b,p,f,c⟩,e⟩=>⟨by simp;exact ZA g (by decide),λq h=>e _ _ ⟨⟨by simp[a],by simpa using d,by rw[au (bR b h)];exact b,p,by simpa using f,by rw[au (bR c h)];exact c⟩,q,by simp[a],a7⟩ (Sub.refl.laid h)⟩
theorem Cz(O:KX X N C bf ys)(bs:List Bool){w v:Ls}{r:Str}(o:Nj∈bs)(c:bs.length<1000)(j:(w++v)[bs.idxOf Nj]?=some r)(hw:w.length+v.length<=1000)
  (n:((vw (vw (vw (vs st).e0).e1).e0).pos.endLine==(vw (vw (vs st).e0).e1).pos.line)=Nj):PS X (je (.ret (.idx (.bin .Add (.var 2) (.lst Nk (v.map k8))) (.tix (.var 1) [.lit (.bl Nj)]))) N st)
  (λD σ H=>(Mk x C dx bs σ H/\∃q,σ[2]?=some (some (.ref q))/\H q=some (.lst (w.map V.str)))/\∀H',Sub H H'->D.rt (.str r) H'):=by
 refine la (jX (q_ zg (iq mI (gC O (i:=2) (by decide)) (f7 vy)) (lc O PySem.F.slot_list_index PySem.F.type_list_index Jz n) (λ_ _=>rfl))) λD σ H ⟨⟨⟨s,t,u,p,l,d⟩,q,m,f⟩,k⟩=>?_;refine⟨_,m,by simp;exact ZA (ZA (Rh _ _) hw) (by decide),λa h=>⟨q,a,w.map V.str,v.map V.str,rfl,rfl,by rw[au (bR f h)];exact f,a7,by simp;exact ZA hw (by decide),λb g=>?_⟩⟩
 have e:aO (aO H a (.lst (v.map V.str))) b (.lst (w.map V.str++v.map V.str)) p=some (.lst (bs.map V.bl)):=by
  have:aO H a (.lst (v.map V.str)) p=some (.lst (bs.map V.bl)):=by rw[au (bR d h)];exact d
  rw[au (bR this g)];exact this
 refine⟨_,l,.inl ⟨rfl,_,.of e⟩,p,bs,rfl,rfl,e,o,c,b,w.map V.str++v.map V.str,_,_,rfl,rfl,.of a7,?_,k _ ((Sub.refl.laid h).laid g)⟩;have y:=(Zm.mp j).1;unfold g9 iO;rw[<-OY];simp only[Zk];rw[if_pos (by omega),if_pos (by omega)];show(QK V.str (w++v))[_]?=_;rw[P0,Yb,j];rfl
theorem vB(O:KX X N C bf ys){a b c d w v:Ls}{r:Str}{st:List Om}(e:ys=a++b++c++d)(f:ys.length<1000)(hw:w.length+v.length<=1000)(h1:(ys.map bf).count Nj=1)(q:(w++v)[(ys.map bf).idxOf Nj]?=some r)(n:k9 st=Nj):
  d9 X (cr (gB a b c d w v) N st) (λD σ H=>(σ.length=3/\σ[0]?=some (some (.ref x))/\H x=some (cD x C dx))/\∀H',Sub H H'->D.rt (.str r) H'):=by
 obtain⟨K,k⟩:=aa n;obtain⟨k,i⟩:=aa k;have k:=Zv k;obtain⟨B,st,rfl⟩:=Zx (show st.length=6+1 from k);obtain⟨F,st,rfl⟩:=Zx (show st.length=5+1 from Zz k);obtain⟨G,st,rfl⟩:=Zx (show st.length=4+1 from Zz (Zz k));obtain⟨J,st,rfl⟩:=Zx (show st.length=3+1 from Zz (Zz (Zz k)));obtain⟨S,st,rfl⟩:=Zx (show st.length=2+1 from Zz (Zz (Zz (Zz k))));obtain⟨L,st,rfl⟩:=Zx (show st.length=1+1 from Zz (Zz (Zz (Zz (Zz k)))));obtain⟨Q,st,rfl⟩:=Zx (show st.length=0+1 from Zz (Zz (Zz (Zz (Zz (Zz k))))));have K:((vw (vs S).e0).es.length==2&&_)=Nj:=(aa (show(_&&Nj)=Nj from K)).1;have i:=(aa (show(_&&Nj)=Nj from i)).1;obtain⟨K,t⟩:=aa K;have j:a.length+b.length+c.length+d.length<1000:=by rw[e]at f;simpa[RB]using f
 have p:Nj∈ys.map bf:=List.count_pos_iff.mp (by omega);have E:ys.map bf=((a.map bf++b.map bf)++c.map bf)++d.map bf:=by rw[e];simp
 refine λP s σ H D I g=>c7 (oU (x:=x) (dx:=dx) O (a:=a) (st:=B) (λy h=>by rw[e];simp[h]) (by omega)) (c7 (vz (x:=x) (dx:=dx) O (st:=F) (a.map bf) (λy h=>by rw[e];simp[h]) (by simp;omega)) (c7 (vz (x:=x) (dx:=dx) O (st:=G) (a.map bf++b.map bf) (λy h=>by rw[e];simp[h]) (by simp;omega))
  (c7 (vz (x:=x) (dx:=dx) O (st:=J) (a.map bf++b.map bf++c.map bf) (λy h=>by rw[e];simp[h]) (by simp;omega)) (c7 (vA (x:=x) (dx:=dx) O (ys.map bf) (st:=S) h1 (Zv K) t) (c7 (oV (x:=x) (dx:=dx) O (ys.map bf) (w:=w) (st:=L) (by omega)) (c7 (Cz (x:=x) (dx:=dx) O (ys.map bf) (w:=w) (v:=v) (r:=r) (st:=Q) p (by simpa using f) q hw i) fD)))))) P s σ H D I ?_
 obtain⟨g,hD⟩:=g;refine⟨g,λZ H1 M U=>⟨M,λσ2 H2 u R=>⟨u,λσ3 H3 m3 T=>⟨m3,λσ4 H4 m V=>?_⟩⟩⟩⟩;rw[<-E]at m;exact⟨m,m,λσ5 H5 A W=>⟨A,λl Y=>hD l λb o z=>Y b o (W b o (V b o (T b o (R b o (U b o z)))))⟩⟩
end
end Py
namespace Py
abbrev jN(X:Cx)(A:NV):Cx:={X with A:=A,calm:=Nk,xe:=λ_ _=>False}
theorem vC(I:L2.Inv X pq σ H s)(h:A.frames=X.A.frames):L2.Inv (jN X A) pq σ H s:=
 ⟨⟨I.ok.mod,I.ok.kind,I.ok.glob,I.ok.blt,I.ok.above,I.ok.inj,I.ok.has,I.ok.cab,(λz=>by cases z),h.trans I.ok.frames,I.ok.stk,I.ok.exf,I.ok.bs,I.ok.bsz,I.ok.noex,I.ok.exfs,I.ok.funs,I.ok.frf⟩,I.os,I.bare,I.base,I.loc,I.cell,I.free,I.freeC,I.pin,I.hok,I.len⟩
theorem CA(I:L2.Inv (jN X A) pq σ H s)(ok:X.Ok):L2.Inv X pq σ H s:=⟨ok,I.os,I.bare,I.base,I.loc,I.cell,I.free,I.freeC,I.pin,I.hok,I.len⟩
def ji(P:Nt)(w:NF)(K:Fg)(mg:Mg)(base:Nw)(f:Nm)(C:Nm)(r:Str):Prop:=
 ∀(A:NV) (outer:List Env) (s:Nl) (H:Hp) (e:Nm) (dx:Option Nm),A.depth<recursionLimit->g8 P w K mg base A outer s H->H e=some (cD e C dx)->codeAny (model P w) A (.call (.ref f) ⟨[.ref e],[]⟩) (CR Fu outer P w H s (λv H'=>v=.str r/\Sub H H') E0) s
structure M7 (K:Fg)(mg:Mg)(C:Nm)(bf:Str->Bool)(ys:Ls):Prop where
 kv:PySem.W.kitOne K (.ref C) (.type "ValueError")=some Nj
 z:dA K C
 cl:∀y∈ys,∃D,mg y=some (.ref D)/\PySem.W.kitOne K (.ref C) (.ref D)=some (bf y)
noncomputable def lf(N Y:Ls)(s:Scope):Bool:=(N.length==3&&N.all (λy=>s.names.lookup y==some .local&&dw y))&&(bp s.names "isinstance"&&(bp s.names "ValueError"&&Y.all (λy=>bp s.names y)))
theorem JA{P:Nt}{x e0:Str}{V:N_}{a b c d wd v:Ls}{r:Str}
  (F:mM K x qual st f V) (S:bt N [e0] (bi st)) (hb:Binds K V [e0] []) (D:cr (gB a b c d wd v) N (bS st)=bS st) (hk:k9 (bS st)=Nj) (G:lf N (a++b++c++d) (bi st)=Nj)
  (R:M7 K mg C bf (a++b++c++d)) (hi:mg "isinstance"=none) (hv:mg "ValueError"=none) (hl:(a++b++c++d).length<1000) (hw:wd.length+v.length<=1000) (h1:((a++b++c++d).map bf).count Nj=1) (hr:(wd++v)[((a++b++c++d).map bf).idxOf Nj]?=some r):
  ji P w K mg base f C r:=by
 intro A g s H e U z E he;obtain⟨oc,od,kV,doc,pm,an,j,ct,osl,rfl,lk,t⟩:=F.ex;have k:K.In s.heap:=E.mod.kin.keeps λb o e=>(E.bs b o e).1;have T:s.heap.NoLimit:=E.mod.nolimit.keeps λb o e=>(E.bs b o e).1
 have l:∀y∈[e0].zip [NA e],(bi st).names.lookup y.1=some .local\/((bi st).names.lookup y.1=some .cell/\((cellsFrom (s.heap.objs.size+1) (bi st).names []).lookup y.1).isSome=Nj):=λ⟨n,v⟩ h=>by
  rcases S.par n (Pq h).1 with q|q
  ·exact .inl q
  ·exact .inr ⟨q,PySem.W.cellsFrom_some _ _ _ (.inl q)⟩
 refine S9 z (k _ _ lk) rfl S.co S.gen rfl (PySem.W.codeRec_of k t) (hb s [.ref e] k rfl _ _ _ _ ?_);refine RW S.kind l λenv B Z x'=>?_;subst B;refine⟨T.keeps x'.toInCall.keep,codeAny_func ?_⟩;have I0:L2.Inv (eD Fu P w K mg base N qual (bi st) f j {A with handled:=none} g s H E0) [] (start N [.ref e]) H Z:=yZ S rfl ⟨E.frames,E.mod,E.bs,E.bsz,E.funs,E.frf,E.hok,E.bare⟩ rfl (.cons rfl .nil) x';have I:=vC (A:=A.deeper (envOfC qual (bi st) s.heap.objs.size f j)) I0 rfl;obtain⟨L,M⟩:=aa G;obtain⟨L,k3⟩:=aa L;obtain⟨M,Q⟩:=aa M;obtain⟨Q,Y⟩:=aa Q;have W:=Zv L;have gl:∀y,bp (bi st).names y=Nj->(bi st).names.lookup y=some .globalImplicit/\(y==("__debug__":Str))=Nk:=λy h=>⟨(cL h).1,(cL h).2.1⟩
 have O:KX (jN (eD Fu P w K mg base N qual (bi st) f j {A with handled:=none} g s H E0) (A.deeper (envOfC qual (bi st) s.heap.objs.size f j))) N C bf (a++b++c++d):=
  ⟨rfl,S.nd,W,λi y h=>by have:=Zl.mp k3 y (Zq h);obtain⟨q1,q2⟩:=aa this;exact⟨Zv q1,q2⟩,λ_=>rfl,⟨(gl _ M).1,hi⟩,⟨(gl _ Q).1,hv⟩,R.kv,R.z,λy h=>⟨(gl y (Zl.mp Y y h)).1,(gl y (Zl.mp Y y h)).2,R.cl y h⟩⟩
 have X:=vB (x:=e) (dx:=U) O (st:=bS st) rfl hl hw h1 hr hk;rw[D]at X;refine ZH (X [] Z (start N [.ref e]) H {nx:=λ_ _=>False,rt:=λv p=>v=.str r/\Sub H p} I ⟨⟨by simp[L2.start,W],by simp[L2.start],he⟩,λp h'=>⟨rfl,h'⟩⟩) (λfl s' m=>?_) λe s' m=>m.elim;cases fl with
 |ret u=>obtain⟨v,σ',p,J,rv,q⟩:=m;exact⟨v,p,J.os,J.bare,J.base,J.hok,rv,q⟩
 |next=>obtain⟨_,_,_,q⟩:=m;exact False.elim q
 |brk=>obtain⟨_,_,_,q⟩:=m;exact False.elim q
 |cont=>obtain⟨_,_,_,q⟩:=m;exact False.elim q
section
variable {e T:Nm}{B:Nw}
theorem CB(I:L2.Inv X pq σ H s)(f:L2.Inv X pq σ H' s2)(N:s.heap.get? e=none/\s.heap.get? T=none)(M:H' e=none/\H' T=none)(hB:∀b o,s2.heap.get? b=some o->b∉bE X.stack->b≠e->b≠T->B.get? b=some o)(st:B.StaysIn h3)(up:s2.heap.UpToSlots h3)
  (l:X.ex=[]) (J:X.stack=X.env::X.outer):L2.Inv X pq σ H' {s2 with heap:=h3,toks:=tk}:=by
 have K:∀b o,s2.heap.get? b=some o->b∉bE X.stack->b≠e->b≠T->h3.get? b=some o:=λb o h d h3 g=>st b o (hB b o h d h3 g);have A:∀b,b∈bE X.stack->∃o,s2.heap.get? b=some o/\∀vs,o.data≠.fields vs:=λb j=>(f.stack.mem j).2;have n:∀b∈bE X.stack,H' b=none:=f.stkFree;have U:=f.base;rw[l]at U;have O:∀b o,s.heap.get? b=some o->b≠e/\b≠T:=λb o h=>⟨λz=>(by rw[z,N.1]at h;cases h),λz=>(by rw[z,N.2]at h;cases h)⟩
 have old:∀b o,X.s₀.heap.get? b=some o->b≠e/\b≠T:=λb o h=>by obtain⟨D,d⟩:=I.base.there b o h (by rw[l];simp);exact O b D d
 have nl:∀b o,X.s₀.heap.get? b=some o->b∉bE X.outer->b∉bE X.stack:=λb o h d h3=>by
  rcases Zj.mp (f.stkSub b h3)with z|z
  ·have:=Zf h;rw[z]at this;exact absurd this (Pl.mpr f.ok.above)
  ·exact d z
 have L:∀b∈bE X.outer,b∈bE X.stack:=λb j=>by rw[J];obtain⟨en,h,d⟩:=Z3.mp j;exact Z3.mpr ⟨en,Zc _ h,d⟩
 have w:∀b o,s2.heap.get? b=some o->b≠e->b≠T->∃D,h3.get? b=some D:=λb o h d h3=>by
  by_cases j:b∈bE X.stack
  ·obtain⟨o1,g,y⟩:=A b j;obtain⟨sl,E⟩:=up b o1 g y;exact⟨_,E⟩
  ·exact⟨o,K b o h j d h3⟩
 have t:∀b u,H' b=some u->b∉bE X.stack/\b≠e/\b≠T:=λb u h=>
  ⟨λz=>(by rw[n b z]at h;cases h),λz=>(by rw[z,M.1]at h;cases h),λz=>(by rw[z,M.2]at h;cases h)⟩
 have G:dV X.prog X.w H' h3:=λa o Z=>(f.hok a o Z).stay (λb u j h=>by
  have F:∃u,H' b=some u:=by rcases j with rfl|j<;>exact⟨_,by assumption⟩
  obtain⟨u',hu⟩:=F;obtain⟨t1,t2,t3⟩:=t b u' hu;exact K b u h t1 t2 t3) (λ_ q=>q) λ_ _ q=>q
 have C:∀c v,s2.heap.IsCell c v->h3.IsCell c v:=λc v zq=>by obtain⟨o,h,d⟩:=zq;exact(by obtain⟨sl,g⟩:=up c o h (λvs q=>by rw[d]at q;cases q);exact⟨_,g,d⟩)
 obtain⟨m,hm,hl⟩:=f.loc;refine⟨f.ok,f.os,f.bare,?_,⟨m,up.ns hm,λi x v h d h3=>?_⟩,λx c h=>?_,f.free,f.freeC,λp Q=>?_,G,f.len⟩
 ·rw[l];refine⟨λb o h d h3 g=>K b o (U.keep b o h d h3 g) (nl b o h h3) (old b o h).1 (old b o h).2,λb o h d h3 g=>?_,U.free,λb o h d=>?_,U.tups,U.frzs,U.tbls⟩
  ·obtain⟨sl,y⟩:=U.slot b o h d h3 g;obtain⟨o1,E,h7⟩:=A b (L b h3);rw[y]at E;cases E;obtain⟨S,h8⟩:=up b _ y h7;exact⟨S,h8⟩
  ·obtain⟨D,y⟩:=U.there b o h d;exact w b D y (old b o h).1 (old b o h).2
 ·obtain⟨u,r,q⟩:=hl i x v h d h3;refine⟨u,r,?_⟩;rcases q with⟨k,z⟩| ⟨k,c,z1,z2⟩
  ·exact .inl ⟨k,z⟩
  ·exact .inr ⟨k,c,z1,C c _ z2⟩
 ·obtain⟨v,hv⟩:=f.cell x c h;exact⟨v,C c v hv⟩
 ·obtain⟨p1,p2,R,V,p5⟩:=f.pin p Q;have W:=(I.pin p Q).1;refine⟨K p.1 p.2 p1 (λz=>?_) (O _ _ W).1 (O _ _ W).2,p2,R,V,p5⟩;rcases Zj.mp (f.stkSub p.1 z)with z|z
  ·exact R z
  ·exact V z
theorem CC{vs:Av}{ob:HO}(I:L2.Inv X pq σ H s)(t:X.ex=[])(r:X.s₀.heap.get? e=none)(y:∀p∈X.pn++pq,p.1≠e)(n:H e=none)(j:s.heap.get? e=some oe)(i:oe.data=.fields vs)(new:aP X.prog X.w (aO H e ob) s.heap e ob):
  L2.Inv X pq σ (aO H e ob) s:=by
 obtain⟨m,w,F⟩:=id I.loc;have ne:∀b,H b≠none->b≠e:=λb d z=>d (by rw[z];exact n);refine⟨I.ok,I.os,I.bare,?_,I.loc,I.cell,?_,λx c h=>?_,λp k=>?_,λb u d=>?_,I.len⟩
 ·have U:=I.base;refine⟨U.keep,U.slot,λb o h a g=>?_,U.there,λb l h=>?_,λb o u h=>?_,λb C h=>?_⟩
  ·rw[au (λz=>by rw[z,r]at h;cases h)];exact U.free b o h a g
  ·have:=U.tups b l h;rw[au (ne b (by rw[this];simp))];exact this
  ·have:=U.frzs b o u h;rw[au (ne b (by rw[this];simp))];exact this
  ·obtain⟨m,this⟩:=U.tbls b C h;exact⟨m,by rw[au (ne b (by rw[this];simp))];exact this⟩
 ·obtain⟨o,D,E,h,a,_⟩:=w;rw[au (λz=>by rw[z,j]at h;cases h;rw[i]at a;cases a)];exact I.free
 ·obtain⟨v,o,a,g⟩:=I.cell x c h;rw[au (λz=>by rw[z,j]at a;cases a;rw[i]at g;cases g)];exact I.freeC x c h
 ·obtain⟨P,A,B⟩:=I.pin p k;exact⟨P,by rw[au (y p k)];exact A,B⟩
 ·by_cases f:b=e
  ·subst f;rw[a7]at d;cases d;exact new
  ·rw[au f]at d;exact(I.hok b u d).stay (λ_ _ _ q=>q) (λc q=>by rw[au (ne c (by rw[q];simp))];exact q) λc l q=>by rw[au (ne c (by rw[q];simp))];exact q
theorem JB{vs:Av}(I:L2.Inv X pq σ H s)(h:X.ex=[])(d:X.s₀.heap.get? e=none)(g:∀p∈X.pn++pq,p.1≠e)(c:H e=none)(b:s.heap.get? e=some oe)(f:oe.cls=.ref C)(a:oe.data=.fields vs):
  L2.Inv X pq σ (aO H e (cD e C oe.dict)) s:=CC I h d g c b a (oS ⟨oe,b,f,rfl,by unfold PySem.W.notCls;rw[a]⟩)
def gD(H:Hp)(e:Nm):Hp:=λb=>if b=e then none else H b
theorem JC{g:Nw->Prop}(I:L2.Inv X pq σ H s)(l:H e=some (.ext g)):L2.Inv X pq σ (gD H e) s:=by
 have le:∀b,H b=none->gD H e b=none:=λb h=>by unfold gD;split<;>first|rfl|exact h
 have ne:∀b u,H b=some u->(∀g,u≠.ext g)->gD H e b=some u:=λb u h r=>by unfold gD;rw[if_neg (λz=>by rw[z,l]at h;cases h;exact r _ rfl)];exact h
 have U:=I.base;refine⟨I.ok,I.os,I.bare,⟨U.keep,U.slot,λb o a j k=>le b (U.free b o a j k),U.there,λb i a=>ne b _ (U.tups b i a) (λ_ z=>by cases z),λb o u a=>ne b _ (U.frzs b o u a) (λ_ z=>by cases z),λb w a=>?_⟩,I.loc,I.cell,le _ I.free,λx c a=>le _ (I.freeC x c a),λp n=>?_,λb u d=>?_,I.len⟩
 ·obtain⟨m,this⟩:=U.tbls b w a;exact⟨m,ne b _ this (λ_ z=>by cases z)⟩
 ·obtain⟨P,t,v⟩:=I.pin p n;exact⟨P,le _ t,v⟩
 ·have f:H b=some u:=by
   unfold gD at d;split at d
   ·cases d
   ·exact d
  exact(I.hok b u f).stay (λ_ _ _ q=>q) (λc q=>ne c _ q (λ_ z=>by cases z)) λc i q=>ne c _ q (λ_ z=>by cases z)
theorem JD{m:Mg}(I:L2.Inv X pq σ H s)(r:h3.Ns X.env.locals m)(hs:NW X.env.locals s.heap h3):L2.Inv X pq (Nu X.N.length none) H {s with heap:=h3,toks:=tk}:=by
 have low:∀b o,X.s₀.heap.get? b=some o->b≠X.env.locals:=λb o e=>Zs (Zy (Zf e) I.ok.above);refine⟨I.ok,I.os,I.bare,⟨λb o e n f h=>(hs.2 b (low b o e)).trans (I.base.keep b o e n f h),λb o e n f h=>?_,I.base.free,λb o e h=>?_,I.base.tups,I.base.frzs,I.base.tbls⟩,⟨m,r,λj y V E i B=>?_⟩,λy c e=>?_,I.free,I.freeC,λp u=>?_,λb w d=>?_,by simp⟩
 ·obtain⟨sl,E⟩:=I.base.slot b o e n f h;exact⟨sl,(hs.2 b (low b o e)).trans E⟩
 ·obtain⟨O,E⟩:=I.base.there b o e h;exact⟨O,(hs.2 b (low b o e)).trans E⟩
 ·rw[List.getElem?_replicate]at i;simp_all
 ·obtain⟨v,o,k,l⟩:=I.cell y c e;exact⟨v,o,(hs.2 c (I.cne y c e)).trans k,l⟩
 ·obtain⟨x,z,P,A⟩:=I.pin p u;exact⟨(hs.2 _ P).trans x,z,P,A⟩
 ·refine(I.hok b w d).stay (λc W a q=>(hs.2 c ?_).trans q) (λ_ q=>q) λ_ _ q=>q;rintro rfl;rcases a with rfl|a
  ·rw[I.free]at d;cases d
  ·rw[I.free]at a;cases a
end
section
variable {n:Str}{i:Nat}
theorem CD{x:Nm}{r:Str}{np pos:Pos}(K:ji X.prog X.w X.K X.mg X.base fa C r)(d:A.depth<recursionLimit)(l:Gl X y)(p:X.mg y=some (.ref fa))(m:PySem.W.keepIn X.K (.ref fa)=Nj)(c:(y==("__debug__":Str))=Nk)
  (q:X.N[i]?=some n) (o:X.env.scope.names.lookup n=some .local) (g:dw n=Nj):PE (jN X A) (.Call (.Name y np) [.Name n vp] [] pos) (λσ H Q=>(σ[i]?=some (some (.ref x))/\H x=some (cD x C dx))/\∀H',Sub H H'->Q (.str r) H'):=by
 intro P s σ H Q I h;refine Of (iK I l p ?_ c);refine PySem.W.callWith_K (h₀:=X.base) I.ok.mod.kin m (aN ((cQ (jS (X:=jN X A) q (.inl o) (fO g).1 (fO g).2) eW) pos P s σ H (λG H1=>G=[.ref x]/\H1=H) I ⟨_,h.1.1,rfl,rfl⟩) λL S ⟨vs,H1,b,B,t,w⟩=>⟨b.kIn,?_⟩) rfl rfl;subst t w;cases B with
 |cons z R=>
  cases R;cases z;refine Pt (OT (K A X.stack S H1 x dx d b.env0 h.1.2) λD J a=>?_);cases D with
  |error e=>exact False.elim a
  |ok F=>
   cases F with
   |ret u=>obtain⟨v,f,k,R,E,U⟩:=b.after a;subst E;exact⟨_,f,k,R,h.2 f U⟩
   |next=>exact False.elim a
   |brk=>exact False.elim a
   |cont=>exact False.elim a
def RV(nb:Option (Str×Nat×Pos×Pos))(r:Str)(v:V)(H a:Hp):Prop:=match nb with
 |none=>v=.str r/\Sub H a
 |some (x,_)=>∃p H1,Sub H H1/\H1 p=none/\v=.ref p/\a=aO H1 p (.lst [.str x,.str r])
theorem RV.up{r:Str}{b:Hp}(h:RV nb r v H' b)(s:Sub H H'):RV nb r v H b:=by
 have t:∀{H1},Sub H' H1->Sub H H1:=λu a o e=>u a o (s a o e);cases nb with
 |none=>exact⟨h.1,t h.2⟩
 |some q=>obtain⟨p,H1,c,d⟩:=h;exact⟨p,H1,t c,d⟩
theorem JE{x:Nm}{r:Str}{np pos:Pos}(K:ji X.prog X.w X.K X.mg X.base fa C r)(b:A.depth<recursionLimit)(d:Gl X y)(g:X.mg y=some (.ref fa))(e:PySem.W.keepIn X.K (.ref fa)=Nj)(a:(y==("__debug__":Str))=Nk)
  (j:X.N[i]?=some n) (f:X.env.scope.names.lookup n=some .local) (c:dw n=Nj) (nb:Option (Str×Nat×Pos×Pos)):PE (jN X A) (FE nb (.Call (.Name y np) [.Name n vp] [] pos)) (λσ H Q=>(σ[i]?=some (some (.ref x))/\H x=some (cD x C dx))/\∀v H',RV nb r v H H'->Q v H'):=by
 have h:=CD (x:=x) (r:=r) (dx:=dx) (np:=np) (vp:=vp) (pos:=pos) (A:=A) K b d g e a j f c;cases nb with
 |none=>exact aL h λσ H Q q=>⟨q.1,λH' u=>q.2 _ _ ⟨rfl,u⟩⟩
 |some q=>exact aL (f7 (cQ iJ (cQ h eW))) λσ H Q q=>⟨q.1,λH' u=>⟨(by show 2<=sizeLine;decide),λp c=>q.2 _ _ ⟨p,H',u,c,rfl,rfl⟩⟩⟩
def EH(X:Cx)(b:List Om)(i:Nat)(p:Nm)(D:Ends):XK:=λcls dx H'=>∃C,cls=.ref C/\PySem.W.exmOne X.K (.ref C) (.ref p)=some Nj/\∀e,H' e=none->∃t,d9 (jN X (X.A.mark (some (.ref e)))) b t/\∀σ:L2.St,σ[i]?=some (some (.ref e))->t {nx:=λ_ _=>False,rt:=D.rt} σ (aO H' e (cD e C dx))
structure ia (X:Cx)(pe n y:Str)(i:Nat)(fa pa:Nm):Prop where
 ex:X.ex=[]
 st:X.stack=X.env::X.outer
 fr:X.env.frame=some X.env.locals
 dp:X.A.depth<recursionLimit
 gp:Gl X pe/\X.mg pe=some (.ref pa)/\(pe==("__debug__":Str))=Nk
 gy:Gl X y/\X.mg y=some (.ref fa)/\(y==("__debug__":Str))=Nk
 kp:PySem.W.keepIn X.K (.ref fa)=Nj
 nd:X.N.Nodup
 at_:X.N[i]?=some n
 nl:X.env.scope.names.lookup n=some .local
 np:dw n=Nj
 fn:X.fn n=Nj
noncomputable def CF(X:Cx)(p:Lp)(D:Ends)(h:Qd):Vs:=λe s=>wpAny (model X.prog X.w) X.A (noteFrame e X.env) (λ_ S=>wpAny (model X.prog X.w) X.A (setFlight e none) (λ_ a=>wpAny (model X.prog X.w) X.A (handleBy e X.env [h]) (SP X p D) X.xe a) X.xe S) X.xe s
theorem handled{e T:Nm}{B:Nw}{D:Ends}{bs:List Om}(Z:ia X pe n y i fa pa)(I:L2.Inv X pq σ H s)(J:L2.Inv X pq σ H' s2)(m:s.heap.get? e=none/\s.heap.get? T=none)(j:H' e=none/\H' T=none)
  (P:∀b o,s2.heap.get? b=some o->b∉bE X.stack->b≠e->b≠T->B.get? b=some o)  (k:O6 B X.stack e cls a0 h3) (up:s2.heap.UpToSlots h3) (w:∀o,h3.get? e=some o->o.dict=dx) (q:EH X (b0::bs) i pa D cls dx H'):
  wpAny (model X.prog X.w) X.A (handleBy (.ref e) X.env [.ExceptHandler (some (.Name pe tp)) (some n) (b0::bs) hp]) (SP X pq D) X.xe {s2 with heap:=h3}:=by
 obtain⟨C,rfl,hm,hE⟩:=q;obtain⟨t,hs,G⟩:=hE e j.1
 have h0:X.s₀.heap.get? e=none:=by
  cases G:X.s₀.heap.get? e with
  |none=>rfl
  |some o=>obtain⟨o',c⟩:=I.base.there e o G (by rw[Z.ex];simp);rw[m.1]at c;cases c
 have r:L2.Inv X pq σ H' {s2 with heap:=h3,toks:=s2.toks}:=CB I J m j P k.1 up Z.ex Z.st;have d:(X.A.mark (some (.ref e))).frames=X.A.frames:=rfl;refine wpAny_handleBy_cons (codeAny_handlers_test ?_) (by intro q;cases q);refine iK (X:=jN X (X.A.mark (some (.ref e)))) (vC r d) Z.gp.1 Z.gp.2.1 ?_ Z.gp.2.2
 have LT:PySem.W.Looks (model X.prog X.w) h3 (typeOf (.ref e)) (.ref C):=by obtain⟨ob,h1,h2⟩:=k.there;exact h2▸(PySem.W.Looks.ld h1).andThen .now
 refine(PySem.W.exm_one (M:=model X.prog X.w) r.kIn LT hm).here ?_;refine codeAny_handlers_suite_as ?_;refine ZH (oQ.any (lands_againW (s:={s2 with heap:=h3}) (E:=λe S=>False) (Q:=λ_ S=>∃a,S={s2 with heap:=a}/\O6 B X.stack e (.ref C) a0 a/\h3.UpToSlots a) k λa F U=>⟨a,rfl,F,U⟩)) (λ_ S z=>?_) λ_ _ z=>z.1.elim;obtain⟨⟨a,rfl,F,U⟩,Y⟩:=z;have V:L2.Inv X pq σ H' {s2 with heap:=a,toks:=s2.toks}:=CB I J m j P F.1 (up.trans U) Z.ex Z.st;obtain⟨oe,vs,N,g2,g3,_⟩:=F.first;obtain⟨o3,O,_⟩:=k.there;have g5:oe.dict=dx:=(Y.get O N).trans (w o3 O)
 have pn:∀p∈X.pn++pq,p.1≠e:=λp hp z=>by have:=(I.pin p hp).1;rw[z,m.1]at this;cases this
 have K:=vC (A:=X.A.mark (some (.ref e))) (JB V Z.ex h0 pn j.1 N g2 g3) d;rw[g5]at K;refine l4 (X:=jN X (X.A.mark (some (.ref e)))) K Z.nd Z.at_ (.inl Z.nl) (v:=.ref e) rfl (λs6 W=>?_) (.inl Z.fn);refine ZH (hs pq s6 _ _ {nx:=λ_ _=>False,rt:=D.rt} W (G _ (by rw[Z8 (by rw[r.len];exact(Zm.mp Z.at_).1)]))) (λf s7 l=>?_) λ_ _ z=>z.elim;cases f with
 |ret u=>obtain⟨v,σ7,R,L,r7,u7⟩:=l;obtain⟨m7,x,_⟩:=L.loc;refine wpAny_nameGoes (env:=X.env) Z.nl x (by rw[I.ok.kind];rfl) λh8 m8 n8 s8=>?_;exact⟨_,_,R,JD (CA L I.ok) n8 s8,r7,u7⟩
 |next=>obtain⟨_,_,_,z⟩:=l;exact z.elim
 |brk=>obtain⟨_,_,_,z⟩:=l;exact z.elim
 |cont=>obtain⟨_,_,_,z⟩:=l;exact z.elim
theorem oW{r:Str}{D:Ends}{np:Pos}(Z:ia X pe n y i fa pa)(K:ji X.prog X.w X.K X.mg X.base fa C r)(f:PySem.W.exmOne X.K (.ref C) (.ref pa)=some Nj)(hD:∀v H'',RV nb r v H' H''->D.rt v H''):
  EH X [.Return (some (FE nb (.Call (.Name y np) [.Name n vp] [] cp))) rp] i pa D (.ref C) dx H':=by
 refine⟨C,rfl,f,λe c=>⟨_,c7 (jX (JE (A:=X.A.mark (some (.ref e))) (x:=e) (dx:=dx) K Z.dp Z.gy.1 Z.gy.2.1 Z.kp Z.gy.2.2 Z.at_ Z.nl Z.np nb)) fD,λg H=>?_⟩⟩;refine⟨⟨H,a7⟩,λv a d=>hD v a (d.up λb o h=>?_)⟩;rw[au (λz=>by rw[z,c]at h;cases h)];exact h
end
abbrev XB(X:Cx)(pq:Lp)(D:Ends)(h:Qd):Cx:={X with xe:=CF X pq D h,pn:=X.pn++pq}
section
variable {D:Ends}{h:Qd}
theorem M8(ok:X.Ok):(XB X pq D h).Ok:=⟨ok.mod,ok.kind,ok.glob,ok.blt,ok.above,ok.inj,ok.has,ok.cab,ok.hd,ok.frames,ok.stk,ok.exf,ok.bs,ok.bsz,ok.noex,ok.exfs,ok.funs,ok.frf⟩
theorem CG(ok:(XB X pq D h).Ok):X.Ok:=⟨ok.mod,ok.kind,ok.glob,ok.blt,ok.above,ok.inj,ok.has,ok.cab,ok.hd,ok.frames,ok.stk,ok.exf,ok.bs,ok.bsz,ok.noex,ok.exfs,ok.funs,ok.frf⟩
theorem JF(I:L2.Inv X pq σ H s):L2.Inv (XB X pq D h) [] σ H s:=⟨M8 I.ok,I.os,I.bare,I.base,I.loc,I.cell,I.free,I.freeC,λp a=>I.pin p (by simpa using a),I.hok,I.len⟩
theorem ib(I:L2.Inv (XB X pq D h) pins' σ H s):L2.Inv X pq σ H s:=⟨CG I.ok,I.os,I.bare,I.base,I.loc,I.cell,I.free,I.freeC,λp a=>I.pin p (NI _ a),I.hok,I.len⟩
theorem oX{f:Flow}(q:SP (XB X pq D h) pins' D f s):SP X pq D f s:=by
 cases f with
 |next=>obtain⟨a,H,I,q⟩:=q;exact⟨a,H,ib I,q⟩
 |brk=>obtain⟨a,H,I,q⟩:=q;exact⟨a,H,ib I,q⟩
 |cont=>obtain⟨a,H,I,q⟩:=q;exact⟨a,H,ib I,q⟩
 |ret u=>obtain⟨v,a,H,I,r,q⟩:=q;exact⟨v,a,H,ib I,r,q⟩
theorem rP:Qf (model X.prog X.w) X.A X.env (XB X pq D h).xe:=PassesOwn.looking
variable {n:Str}{i:Nat}{bs:List Om}
abbrev oY(pe n:Str)(b0:Om)(bs:List Om)(tp hp:Pos):Qd:=.ExceptHandler (some (.Name pe tp)) (some n) (b0::bs) hp
theorem rQ(Z:ia X pe n y i fa pa):j5 (bh X.prog X.w) (XB X pq D (oY pe n b0 bs tp hp)) (EH X (b0::bs) i pa D):=by intro p M H s v a t c;have I:=ib t;obtain⟨e,cls,K,J,rfl,l,q,f⟩:=Cs I c Z.ex;obtain⟨k,T,A,N,C,m⟩:=Cq f l.stack;show CF X pq D _ (.ref e) a;unfold CF;refine ZH (vq.any (wpAny_looks_onW (E:=λe S=>False) (Q:=λ_ S=>∃b,S={a with heap:=b}/\Heap.HeldW (PySem.W.hideAll a.heap (e::T::bE X.stack)) (X.env::X.outer) e cls A X.env.locals b/\a.heap.UpToSlots b) (by rw[I.ok.frames,Z.st]) Z.fr (Z.st▸m) λb h up=>⟨b,rfl,h,up⟩)) (λ_ S z=>?_) λ_ _ z=>z.1.elim;obtain⟨⟨b,rfl,h,up⟩,w⟩:=z;refine ZH (oQ.any (wpAny_landsW (s:={a with heap:=b}) (E:=λe S=>False) (Q:=λ_ S=>∃g,S={a with heap:=g}/\O6 (PySem.W.hideAll a.heap (e::T::bE X.stack)) (X.env::X.outer) e cls A g/\b.UpToSlots g) h λg F u=>⟨g,rfl,F,u⟩)) (λ_ S z=>?_) λ_ _ z=>z.1.elim;obtain⟨⟨g,rfl,F,u⟩,j⟩:=z;obtain⟨O,G,_⟩:=m.there;obtain⟨L,r,_⟩:=h.there;exact handled (s2:=a) (B:=PySem.W.hideAll a.heap (e::T::bE X.stack)) (a0:=A) Z I l N C Cr (Z.st▸F) (up.trans u) (λo x=>((j.get r x).trans (w.get G r)).trans (k O G)) q
theorem rR(Z:ia X pe n y i fa pa):gA (XB X pq D (oY pe n b0 bs tp hp)) (EH X (b0::bs) i pa D):=by
 intro P σ Y H s0 s e C dx vs A l N v j k J t q;have w:=ib l;have I:=ib v;show CF X pq D _ (.ref e) _;unfold CF;have r:∀d∈X.env::X.outer,∀a,d.frame=some a->a∈e::bE (X.env::X.outer):=λd j a M=>Zc _ (Z3.mpr ⟨d,j,M⟩);have p:s.heap.FunFrames (PySem.W.hideAll s.heap (e::bE (X.env::X.outer))) (X.env::X.outer):=PySem.W.funFrames_hide (Z.st▸I.stack) r;have F:(PySem.W.hideAll s.heap (e::bE (X.env::X.outer))).get? e=none:=PySem.W.hideAll_none _ (by simp);refine ZH (vq.any (show wpAny (model X.prog X.w) X.A (noteFrame (.ref e) X.env) (λ_ S=>∃h,S={s with heap:=h}/\Heap.NotedW (PySem.W.hideAll s.heap (e::bE (X.env::X.outer))) (X.env::X.outer) e (.ref C) A (rawInt X.env.locals) s.heap h) (λ_ _=>False) s from ?_)) (λ_ S z=>?_) λ_ _ z=>z.1.elim
 ·unfold noteFrame;simp only[Z.fr];refine Za (Z0 j rfl k ?_);rw[if_neg (by decide)];exact wpAny_entryW (by rw[I.ok.frames,Z.st]) p Z.fr j (λb o O=>PySem.W.of_hideAll _ O) F rfl (Ob.mp k).1 J λh nt=>⟨h,rfl,nt⟩
 obtain⟨⟨h,rfl,U,V,K,W⟩,x⟩:=z;refine ZH (oQ.any (wpAny_landsW (s:={s with heap:=h}) (E:=λe S=>False) (Q:=λ_ S=>∃g,S={s with heap:=g}/\O6 (PySem.W.hideAll s.heap (e::bE (X.env::X.outer))) (X.env::X.outer) e (.ref C) A g/\h.UpToSlots g) ⟨U,F,V,K⟩ λg f u=>⟨g,rfl,f,u⟩)) (λ_ S z=>?_) λ_ _ z=>z.1.elim;obtain⟨⟨g,rfl,f,u⟩,m⟩:=z;obtain⟨o3,G,_⟩:=K.there;refine handled (s2:=s) (T:=e) (B:=PySem.W.hideAll s.heap (e::bE (X.env::X.outer))) (a0:=A) Z w I ⟨N,N⟩ ⟨t,t⟩ (λb o k L h _=>PySem.W.hideAll_get _ k λz=>?_) (Z.st▸f) (Heap.UpToSlots.trans W u) (λo R=>(m.get G R).trans (x.get j G)) q;rcases Zj.mp z with z|z
 ·exact h z
 ·exact L (by rw[Z.st];exact z)
theorem lg{body:List Om}{pos:Pos}{t:TS}(I:L2.Inv X pq σ H s)(d:d9 (XB X pq D (oY pe n b0 bs tp hp)) body t)(h:t D σ H):
  wpAny (model X.prog X.w) X.A (exec (.Try body [oY pe n b0 bs tp hp] [] [] pos) X.env) (SP X pq D) X.xe s:=by
 refine wpAny_Try_except (ZH (d [] s σ H D (JF I) h) (λf S q=>?_) λe S q=>q);have q:=oX q;cases f with
 |next=>obtain⟨a,b,c,q⟩:=q;exact Qs ⟨a,b,c,q⟩
 |brk=>exact q
 |cont=>exact q
 |ret u=>exact q
end
open PySem PySem.Spec PySem.Calls PyProof.Rows PySem.W
section
variable {x:Nm}
theorem JG{c:Px}{od:Obj}{v:Nn}(h1:clsIn K C=some c)(h:c.hasDict=Nj)(H:findIn K (.ref C) nm=some none)(a:lookIn nm od=some (some v)):findObj K C (some od) nm=some (.value v):=by unfold findObj W.ownOf;rw[h1,QL,H,QL];simp only[QL];rw[h,if_pos rfl];show Option.bind (lookIn nm od) _=_;rw[a];rfl
theorem oZ{od:Obj}{c:Px}{v:Nn}{e:Bool}(Z:dA K C)(X:K.In s.heap)(I:InstAt s.heap x ox C (some od))(h1:clsIn K C=some c)(i:c.hasDict=Nj)
  (j:findIn K (.ref C) nm=some none) (k:lookIn nm od=some (some v)) (l:handedIn v=Nj) (h:Q v {s with toks:=s.toks+1}):wpAny (model prog w) A (getAttr (.ref x) nm e) Q E s:=by
 obtain⟨n,g,d,t,o⟩:=s;have L:=I.type (M:=model prog w);have a:=looks_findIn (M:=model prog w) X Z.ga;have L2:=looks_findIn (M:=model prog w) X Z.gn;have b:=looks_find (M:=model prog w) X I (JG h1 i j k);have f:=looks_mroIn (M:=model prog w) X Z.be;unfold getAttr getAttrBy;refine Za (SX (ZB (Za (L.at (Za (a.at ?_))))));show wpAny _ _ (getAttrByItsOwn _ _ _ _ _ _) _ _ _;unfold getAttrByItsOwn hookBefore;refine Za ?_;show wpAny _ _ (typeLookup (.ref C) "__getattr__") _ _ _;refine L2.at ?_;refine Za (O2 (ZB ?_))
 have m:∀y:Nn,callGetattribute (.ref x) y (.builtin "BaseException.__getattribute__") e=boundAndCalled (.builtin "BaseException.__getattribute__") (.ref x) y:=λy=>by unfold callGetattribute;cases e<;>rfl
 rw[m];unfold boundAndCalled;have H:bindSpecial (.builtin "BaseException.__getattribute__") (.ref x)=pure (.builtin "BaseException.__getattribute__",[.ref x]):=PySem.F.attr_ValueError.ga.bind _;rw[H];refine Za (Zd ?_);refine Pt (OS PySem.F.attr_ValueError.ga.plain PySem.F.entry_bexc_ga (Ct (s:=⟨n,g,d,t+1,o⟩) L f ?_));unfold N7.«object.__getattribute__»;refine Za (Zd ?_);refine Za (Zd ?_);refine Za (L.at (Za (b.at ?_)));refine Zd ?_;show wpAny _ _ (handedOut v) _ _ _;rw[handedOut_of l];exact Zd h
end
end Py
namespace Py
structure FF (K:Fg)(C:Nm)(cd:Px):Prop where
 z:dA K C
 cls:PySem.W.clsIn K C=some cd
 hd:cd.hasDict=Nj
 mn:PySem.W.findIn K (.ref C) "many"=some none
 mt:PySem.W.findIn K (.ref C) "most"=some none
noncomputable def rS(a b:Int):List (Str×V):=[("many",.int a),("most",.int b)]
section
variable {n:Str}{i:Nat}{cd:Px}
theorem o4{es:Array DictEntry}{v:Nn}(H:o.data=.dict es ep)(h:nsFind es nm=some v):PySem.W.lookIn nm o=some (some v):=by
 unfold PySem.W.lookIn;rw[H];unfold nsFind findBy at h;dsimp only;rw[<-Su]at h;cases e:es.toList.find? (λe=>e.key.isStr nm)with
 |none=>rw[e]at h;cases h
 |some x=>rw[e]at h;cases h;rfl
theorem lh{e d:Nm}{fs:List (Str×V)}{z:Int}{pos:Pos}(Z:dA X.K C)(h1:PySem.W.clsIn X.K C=some cd)(j:cd.hasDict=Nj)(l:PySem.W.findIn X.K (.ref C) nm=some none)(q:fs.lookup nm=some (.int z))
  (p:X.N[i]?=some n) (m:X.env.scope.names.lookup n=some .local) (b:dw n=Nj):PE (jN X A) (.Attribute (.Name n vp) nm pos) (λσ H Q=>(σ[i]?=some (some (.ref e))/\H e=some (cD e C (some d))/\H d=some (.xd fs))/\Q (.int z) H):=by
 intro P s σ H Q I h;refine mu rfl (aN (jS (X:=jN X A) p (.inl m) (fO b).1 (fO b).2 P s σ H (λv H1=>v=.ref e/\H1=H) I ⟨_,h.1.1,rfl,rfl⟩) λu S ⟨v,H1,a,r,B,D⟩=>?_);subst B D;obtain rfl:u=NA e:=r;obtain⟨⟨O,g,G,c,f⟩,_,_⟩:=(show aP X.prog X.w H1 S.heap e (cD e C (some d))from a.hok e _ h.1.2.1);obtain⟨N,⟨o,J,F,K,w,L,M,x⟩,y⟩:=(show aP X.prog X.w H1 S.heap d (.xd fs)from a.hok d _ h.1.2.2);have k:=y nm;rw[q]at k;obtain⟨u,E,R⟩:=k.some_of;obtain⟨T,rfl⟩:=(show ∃t,u=Pd z t from R);refine oZ (od:=o) (v:=.int z T) Z a.kIn ⟨g,G,f,by rw[c];exact K⟩ h1 j l (o4 w ((x nm).trans E)) rfl ?_;exact⟨.int z,H1,a.tok _,⟨T,rfl⟩,h.2⟩
noncomputable def vD(pre:Option (Str×Nat×Pos))(vs:List V):List V:=match pre with
 |none=>vs
 |some q=>.str q.1::vs
theorem vE{es:Lx}{t:TA}(pre:Option (Str×Nat×Pos))(h:PA X es t):PA X (Cg pre es) (λσ H Q=>t σ H λvs H1=>Q (vD pre vs) H1):=by
 cases pre with
 |none=>exact h
 |some q=>exact eK (cQ (iJ (x:=q.1)) h) λσ H Q z=>z
theorem JH{pre:Option (Str×Nat×Pos)}{g:Str}{r:Str}{D:Ends}{k:Nat}{np J V O L I N v j R:Pos}(Z:ia X pe n y i fa pa)(K:ji X.prog X.w X.K X.mg X.base fa C r)(B:PySem.W.exmOne X.K (.ref C) (.ref pa)=some Nj)
  (t:r≠g->∀H'',Sub H' H''->D.rt (.str r) H'')
  (s:r=g->∃d a b cd,dx=some d/\H' d=some (.xd (rS a b))/\FF X.K C cd/\∀p H1,Sub H' H1->H1 p=none->D.rt (.ref p) (aO H1 p (.lst (vD pre [.int a,.int b])))):
  EH X [MC pre g n y k np vp cp J tp V p1 O p2 L rp I,.Return (some (.Call (.Name y N) [.Name n v] [] j)) R] i pa D (.ref C) dx H':=by
 refine⟨C,rfl,B,λe q=>?_⟩;have up:∀H,Sub (aO H' e (cD e C dx)) H->Sub H' H:=λH u b o c=>u b o (by rw[au (λz=>by rw[z,q]at c;cases c)];exact c);have P:∀{np vp cp:Pos},PE (jN X (X.A.mark (some (.ref e)))) (.Call (.Name y np) [.Name n vp] [] cp) _:=λ{np vp cp}=>CD (A:=X.A.mark (some (.ref e))) (x:=e) (dx:=dx) (np:=np) (vp:=vp) (pos:=cp) K Z.dp Z.gy.1 Z.gy.2.1 Z.kp Z.gy.2.2 Z.at_ Z.nl Z.np;by_cases f:r=g
 ·obtain⟨d,a,b,cd,rfl,w,G,F⟩:=s f;refine⟨_,c7 (ip (ms qZ P (iJ (x:=g)) rfl) (c7 (jX (f7 (vE pre (cQ (lh (A:=X.A.mark (some (.ref e))) (e:=e) (d:=d) (fs:=rS a b) (z:=a) G.z G.cls G.hd G.mn rfl Z.at_ Z.nl Z.np) (cQ (lh (A:=X.A.mark (some (.ref e))) (e:=e) (d:=d) (fs:=rS a b) (z:=b) G.z G.cls G.hd G.mt rfl Z.at_ Z.nl Z.np) eW))))) fD) fD) sx,λm h=>?_⟩;refine⟨⟨h,a7⟩,λH U=>⟨rfl,Nj,?_,?_⟩⟩
  ·rw[f];simp
  ·dsimp only;rw[if_pos rfl];have u:=up H U;have at_:m[i]?=some (some (.ref e))/\H e=some (cD e C (some d))/\H d=some (.xd (rS a b)):=⟨h,U e _ a7,u d _ w⟩;refine QY at_ (QY at_ (QY ?_ λp E=>F p H u E));cases pre<;>(show _<=sizeLine;simp[vD,N5])
 ·refine⟨_,c7 (ip (ms qZ P (iJ (x:=g)) rfl) sx fD) (c7 (jX P) fD),λm h=>?_⟩;refine⟨⟨h,a7⟩,λH U=>⟨rfl,Nk,?_,?_⟩⟩
  ·simp[f]
  ·dsimp only;rw[if_neg (by decide)];exact⟨⟨h,U e _ a7⟩,λl M=>t f l (up l λb o c=>M b o (U b o c))⟩
end
open PySem PySem.Spec PySem.Calls PyProof.Rows PySem.W
structure vF (K:Fg)(C P:Nm)(cd:Px):Prop where
 cls:clsIn K C=some cd
 hd:cd.hasDict=Nj
 mro:cd.mro=.ref C:: .ref P::ec
 sa:findIn K (.ref C) "__setattr__"=some (some (.builtin "object.__setattr__"))
section
variable {x P:Nm}{cd:Px}{v:Nn}
theorem JI{Q:Unit->Nl->Prop}(L:Looks M s.heap (typeOf (.ref x)) (.ref C))(b:Looks M s.heap (isSubtype (.ref C) (.type "object")) Nj)(H:Q () s):
  wpAny M A (checkBuiltinCall "object.__setattr__" ⟨[.ref x,nameV,v],[]⟩) Q E s:=by
 have a:=PySem.F.store_ValueError.args (.ref x) nameV v;obtain⟨e,g,d,t,o⟩:=s;simp only[checkBuiltinCall,PySem.F.store_ValueError.kind,PySem.F.store_ValueError.split];refine Za ?_;unfold isInstance;refine Za (L.at (b.at ?_));simp only[Ry,Zt,if_false];cases h:RE "object.__setattr__" with
 |none=>exact Zd H
 |some S=>simp only[argsOk,h]at a;have c:Qo "object.__setattr__" S ⟨[.ref x,nameV,v],[]⟩=pure ():=a;show wpAny M A (Qo "object.__setattr__" S ⟨[.ref x,nameV,v],[]⟩) Q E _;rw[c];exact Zd H
theorem CH{Q:Unit->Nl->Prop}(Z:dA K C)(T:vF K C P cd)(X:K.In s.heap)(L:∀M,Looks M s.heap (typeOf (.ref x)) (.ref C))(j:findIn K (.ref C) nm=some none)
  (h:∀(a:NV) (E':Vs) (tk:Tok),wpAny (model prog w) a (Ou (.ref x)) (λr s'=>∃d,r=some d/\wpAny (model prog w) a (ON d (.str nm tk) nm v) (λfin S=>fin=.done (.ret .none)/\Q () S) E' s') E' {s with toks:=s.toks+1}):
  wpAny (model prog w) A (setAttr (.ref x) nm v) Q E s:=by
 obtain⟨H,g,d,t,o⟩:=s;have L:=L (model prog w);have c:=looks_findIn (M:=model prog w) X T.sa;have L2:=looks_findIn (M:=model prog w) X j;have f:Looks (model prog w) H (mroOf (.ref C)) cd.mro:=(looks_clsIn X T.cls).andThen .now;have i:=looks_mroIn (M:=model prog w) X Z.ob;unfold setAttr callSpecial? specialOf;refine Za (SX (Za (Za (Za (L.at (c.at ?_))))));refine ZB (Za ?_);rw[PySem.F.store_ValueError.slot.bind (.ref x)];refine Zd (Za (Pt (OS PySem.F.store_ValueError.slot.plain PySem.F.store_ValueError.entry (JI (s:=⟨H,g,d,t+1,o⟩) L i ?_))));unfold N7.«object.__setattr__»;refine Za ?_;rw[refuse_eq];refine Za (L.at (Za (f.at ?_)));rw[T.mro,refuseLoop_ref,refuseLoop_ref,show refuseLoop (.ref x) "__setattr__" ec=pure ()from PySem.F.store_ValueError.passes (.ref x)];refine Zd ?_;refine Za (Zd ?_);refine Za (L.at ?_);refine Za (L2.at ?_);refine Za (Zd ?_);show wpAny _ _ (P1 (.ref x) (.ref C) (.str nm t) nm v Nk) _ _ _;unfold P1;refine Za (Zd ?_);rw[if_neg (by intro z;cases z)];refine Za (ZH (h A.in1 _ t) (λr s' ⟨D,e,k⟩=>?_) λ_ _ z=>z);subst e;refine ZH k (λfin S ⟨e,q⟩=>?_) λ_ _ z=>z;subst e;exact Zd (Zd q)
end
end Py
namespace Py
open PySem PySem.Spec PySem.Calls PyProof.Rows PySem.W
section
variable {x P D:Nm}{cd:Px}{v:Nn}{vs:Av}
theorem li{Q:Fin->Nl->Prop}{tk:Tok}{ns:Ls}(e:s.heap.Ns1 D mA)(hw:Within mA ns)(j:ns.length<8)
  (h:∀h' t,h'.Ns1 D (λy=>if y=nm then some v else mA y)->NW D s.heap h'->Q (.done (.ret .none)) {s with heap:=h',toks:=t}):wpAny (model prog w) A (ON D (.str nm tk) nm v) Q E s:=by
 unfold ON Tl;refine Za (Zd (Za (wpAny_nsSet1 e λh' H f=>?_)));obtain⟨o,i,g,b,a,d⟩:=H.count (Within.cons nm v hw);refine Za (wpAny_lookBehind b (by rw[a];exact pastItsLine_dict (ZA d (by rw[ZS,N5];omega))) ?_);exact Zd (h h' _ H f)
theorem JJ{Q:Unit->Nl->Prop}(Z:dA K C)(T:vF K C P cd)(X:K.In s.heap)(z:findIn K (.ref C) nm=some none)(j:s.heap.get? x=some ox)(i:ox.cls=.ref C)(n:ox.data=.fields vs)(m:ox.dict=none)
  (h:∀h' D a,s.heap.objs.size=D->h'.get? x=some {ox with dict:=some D}->h'.Ns1 D (λy=>if y=nm then some v else none)->(∀b o,b≠x->s.heap.get? b=some o->h'.get? b=some o)->Q () {s with heap:=h',toks:=a}):
  wpAny (model prog w) A (setAttr (.ref x) nm v) Q E s:=by
 refine CH Z T X (λM=>i▸(Looks.ld j).andThen .now) z λJ N W=>?_;obtain⟨H,g,d,t,V⟩:=s;have L:=looks_clsIn (M:=model prog w) X T.cls;unfold Ou instanceDict;refine Za (R_ j ?_);rw[i];refine Za (L.at ?_);rw[T.hd];obtain⟨S,U,I,O⟩:=ox;dsimp only at i n m;subst i n m;have f:x≠H.objs.size:=Zs (Zf j);have c:=Zb {cls:=.type "dict",data:=.dict #[]} j;refine Za (Ru ?_);refine Za (wpAny_update c ?_);refine Zd ?_;refine⟨H.objs.size,rfl,?_⟩
 have k:((H.push {cls:=.type "dict",data:=.dict #[]}).update x λo=>{o with dict:=some H.objs.size}).get? H.objs.size=some {cls:=.type "dict",data:=.dict #[]}:=
  (Sv _ _ _ _ f.symm).trans (SY rfl rfl)
 have l:((H.push {cls:=.type "dict",data:=.dict #[]}).update x λo=>{o with dict:=some H.objs.size}).get? x=some ⟨.ref C,some H.objs.size,.fields vs,O⟩:=ZM _ c rfl;refine li (ns:=[]) (Heap.Ns1.of_empty ⟨_, #[],_,k,rfl,λe F=>absurd F (by simp),λ_=>rfl⟩) Within.nil (by decide) λh' a G r=>⟨rfl,?_⟩;refine h h' H.objs.size a ?_ ((r.2 x f).trans l) G λb o B q=>?_
 ·rfl
 ·exact(r.2 b (Zs (Zf q))).trans ((Sv _ _ _ _ B).trans (Zb _ q))
theorem JK{Q:Unit->Nl->Prop}{ns:Ls}(Z:dA K C)(T:vF K C P cd)(X:K.In s.heap)(k:findIn K (.ref C) nm=some none)(f:s.heap.get? x=some ox)(c:ox.cls=.ref C)(j:ox.dict=some D)(n:s.heap.Ns1 D mA)(hw:Within mA ns)(m:ns.length<8)
  (h:∀h' a,h'.Ns1 D (λy=>if y=nm then some v else mA y)->(∀b o,b≠D->s.heap.get? b=some o->h'.get? b=some o)->Q () {s with heap:=h',toks:=a}):
  wpAny (model prog w) A (setAttr (.ref x) nm v) Q E s:=by
 refine CH Z T X (λM=>c▸(Looks.ld f).andThen .now) k λr u B=>?_;obtain⟨z,g,d,t,O⟩:=s;have L:=looks_clsIn (M:=model prog w) X T.cls;unfold Ou instanceDict;refine Za (R_ f ?_);rw[c];refine Za (L.at ?_);rw[T.hd,j];refine Zd ⟨D,rfl,?_⟩;exact li n hw m λh' a H q=>⟨rfl,h h' a H λb o l p=>(q.2 b l).trans p⟩
end
end Py
namespace Py
open PySem PySem.Spec PySem.Calls PyProof.Rows PySem.W
section
variable {g:Array Q6}{d:PySem.Drawn}{t:Nat}{os:OsState}{N:Nm}{q:Str}{bs:Lv}{k0 k1 k2 k3 k5:Ov}{rest:Lv}
theorem JL{Q:Fin->Nl->Prop}(T:OwnTail h ec bm)(H:h.get? C=some (excClassObj nm q C N bs bm hdct sn sub ab col dd k0 k1 k2 k3 k5 "ValueError.__new__"))(u:h.Ns N mN)(s:mN "__init__"=some (.ref fI))(p:h.get? fI=some oI)(c:oI.cls=.type "function")(i:rest.length<=sizeLine)
  (v:∀h' e,Rl h h' e (.ref C) rest->wpAny (model prog w) A (call (.ref fI) (.ref e::rest)) (λr s'=>r=.none/\Q (.done (.ret (.ref e))) s') E ⟨h',g,d,t,os⟩):
  wpAny (model prog w) A (N7.«type.__call__» ⟨.ref C::rest,[]⟩) Q E ⟨h,g,d,t,os⟩:=by
 have F:=PySem.F.excBase_ValueError
 repeat(first|with_reducible refine Po H ?_|with_reducible refine wpAny_madeBy_exc H ?_|wp_step)
 refine codeAny_call_builtin_code (PK _ F.quiet) (wpAny_check_new_subU F (by decide+kernel) T H ?_);refine codeAny_exc_new_subU F (by decide+kernel) F T H ?_ i;show wpAny _ _ _ _ _ _
 let o1:Obj:={cls:=.type "tuple",data:=.seq rest.toArray}
 let O:Obj:={cls:=.ref C,data:=.fields #[.ref h.objs.size,.none,.none,.none,.bool Nk,.none]}
 have k:∀b o,h.get? b=some o->((h.push o1).push O).get? b=some o:=λb o z=>Zb _ (Zb _ z);have a:=k _ _ H;have f:((h.push o1).push O).Ns N mN:=u.keeps k
 have j:((h.push o1).push O).get? (h.objs.size+1)=some O:=by
  have:=Zg (h.push o1) (o:=O) rfl
  rwa [Oq]at this
 have n:(NA C::bm).contains (.ref C)=Nj:=by simp
 have l:=T.keeps k;unfold isInstance
 repeat(first|with_reducible refine Po j ?_| (with_reducible refine wpAny_isSubtype_exc a ?_;rw[n])|wp_step)
 show wpAny _ _ (typeLookup (.ref C) _) _ _ _;refine wpAny_typeLookup_tail a f l F.mroIs F.init.lookup ?_;rw[s];refine ZB (Za ?_);unfold bindSpecial;refine Za (OU (T:="function") ⟨_,k _ _ p,c⟩ ?_);rw[if_pos (by decide)];refine Zd (Za (ZH (v _ (h.objs.size+1) ⟨k,Qj (Sl _),h.objs.size,j,Qj (Zh _),?_⟩) (λr s' i=>?_) λ_ _ z=>z))
 ·exact Zb _ (SY rfl rfl)
 ·obtain⟨rfl,m⟩:=i
  wp_walk
  exact m
theorem JM(T:OwnTail h ec bm)(H:h.get? C=some (excClassObj nm q C N bs bm hdct sn sub ab col dd k0 k1 k2 k3 k5 "ValueError.__new__"))(i:h.Ns N mN)(c:mN "__init__"=some (.ref fI))(b:h.get? fI=some oI)(a:oI.cls=.type "function")(k:rest.length<=sizeLine)
  (j:∀h' e,Rl h h' e (.ref C) rest->wpAny (model prog w) (A.under (.builtin "type.__call__" ⟨.ref C::rest,[]⟩)) (call (.ref fI) (.ref e::rest)) (λr s'=>r=.none/\Q (.ref e) s') E ⟨h',g,d,t,os⟩):
  wpAny (model prog w) A (call (.ref C) rest) Q E ⟨h,g,d,t,os⟩:=by
 have F:=tc_lookup;have l:=tc_bind (.ref C);have m:(⟨h,g,d,t,os⟩:Nl).TypeIs (.ref C) "type":=⟨_,H,rfl⟩;refine Pt (Qu ?_);show wpAny _ _ (callAny (.ref C) _) _ _ _
 repeat(any_goals (first|assumption|with_reducible refine Po H ?_|wp_step))
 refine⟨rfl,codeAny_call_builtin_at (PK _ (by decide+kernel)) entry_typeCall (wpAny_check_type_call_sub H (JL T H i c b a k λh' e f=>?_))⟩;exact j h' e f
end
end Py
namespace Py
open PySem PySem.Spec PySem.Calls PyProof.Rows PySem.W
section
variable {N:Nm}{q:Str}{bs:Lv}{k0 k1 k2 k3 k5:Ov}{rest:Lv}
theorem JN{x:Sem Nn}{Q:Flow->Nl->Prop}(H:bm.contains (.type "BaseException")=Nj)(j:A.handled=none)
  (h:wpAny (model prog w) A x (λv S=>∃e dx vs,v=.ref e/\S.heap.get? C=some (excClassObj nm q C N bs bm hdct sn sub ab col dd k0 k1 k2 k3 k5 "ValueError.__new__")/\
   S.heap.get? e=some {cls:=.ref C,dict:=dx,data:=.fields vs}/\vs[1]?=some .none/\E (.ref e) S) E s):wpAny (model prog w) A (raiseStmt env (some x) none) Q E s:=by
 have f:(NA C::bm).contains (.type "BaseException")=Nj:=by rw[List.contains_cons,H,RP]
 unfold raiseStmt;refine Za (ZH h (λv S a=>?_) λ_ _ z=>z);obtain⟨e,dx,vs,rfl,b,i,k,c⟩:=a;obtain⟨l,g,d,t,o⟩:=S
 repeat(first|with_reducible refine Po i ?_|with_reducible refine Po b ?_| (with_reducible refine wpAny_isSubtype_exc b ?_;rw[f])|wp_step)
 rw[k];refine Zd ?_;rw[if_neg (by decide)];exact Zd (wpAny_raiseNew_none j c)
end
end Py
namespace Py
noncomputable def gY(e C:Nm)(vs:Av)(dx:Option Nm):HO:=.ext λh=>h.get? e=some {cls:=.ref C,dict:=dx,data:=.fields vs}
def iA(d:Nm)(m:Mg):HO:=.ext λh=>h.Ns1 d m
theorem lj{P:Nt}{w:NF}{H:Hp}{e C:Nm}{vs:Av}{dx:Option Nm}(i:h.get? e=some {cls:=.ref C,dict:=dx,data:=.fields vs}):aP P w H h e (gY e C vs dx):=
 ⟨i,⟨_,i⟩,λa b z k=>k _ z⟩
theorem ll{P:Nt}{d:Nm}{m:Mg}(i:h.Ns1 d m):aP P w H h d (iA d m):=
 ⟨i,let⟨o,_,_,e,_⟩:=i;⟨o,e⟩,λa b z k=>z.at k⟩
noncomputable def fy(f:Str)(v:Nn)(m:Mg):Mg:=λy=>if y=f then some v else m y
section
variable {E:XK}{P e1:Nm}{cd:Px}{pos p':Pos}{o:Expr}{tv:TE}{f:Str}{e:Nm}{vs:Av}
theorem CI(B:PE X o te)(L:PE X value tv)(hs:swapsWith value (some (.Attribute o f p')) pos.line X.env=pure Nk)(Z:dA X.K C)(T:vF X.K C P cd)(w:PySem.W.findIn X.K (.ref C) f=some none):
  PS X (.Assign [.Attribute o f p'] value pos) (λD σ H=>tv σ H λy H1=>te σ H1 λx H2=>∃(e:Nm) (vs:Av),x=.ref e/\H2 e=some (gY e C vs none)/\∀d v,RelV y v->H2 d=none->D.nx σ (aO (aO H2 d (iA d (fy f v λ_=>none))) e (gY e C vs (some d)))):=by
 intro p s σ H D I h;refine Rm (aN (L p s σ H _ I h) λu W ⟨y,H1,m,V,q⟩=>aN (B p W σ H1 _ m q) λQ S ⟨x,H2,g,U,e,vs,r,E,R⟩=>?_) hs;subst r;obtain rfl:Q=NA e:=U;obtain⟨G,_,_⟩:=(show aP X.prog X.w H2 S.heap e (gY e C vs none)from g.hok e _ E);refine JJ Z T g.kIn w G rfl rfl rfl λi d t k K M N=>?_
 have A:H2 d=none:=by
  cases F:H2 d with
  |none=>rfl
  |some u=>have:=(g.hok d u F).lt;rw[<-k]at this;exact absurd this (ZL _)
 have c:d≠e:=λz=>by have:=Zf G;rw[<-z,<-k]at this;exact ZL _ this
 have J:L2.Inv X p σ (aO H2 d (iA d (fy f u λ_=>none))) {S with heap:=i.update e λ_=>{cls:=.ref C,dict:=none,data:=.fields vs},toks:=t}:=
  g.laid (λb O a=>by
   by_cases z:b=e
   ·subst z;rw[G]at a;cases a;exact ZM _ K rfl
   ·exact(ZF _ _ (Ne.symm z)).trans (N b O z a)) (RX k) (ll (M.at λO a=>(ZF _ _ (Ne.symm c)).trans a))
 have n:=J.write (x:=e) (e:=e) (o:=gY e C vs (some d)) (t':=t) (h':=i) (by rw[au (Ne.symm c),E];exact Ph) (.inl rfl) (λb O z a=>by rwa [ZF _ _ (Ne.symm z)]at a) ⟨_,K⟩ (lj K);exact⟨σ,_,n,R d u V A⟩
theorem CJ{m:Mg}{ns:Ls}(w:PE X o te)(B:PE X value tv)(hs:swapsWith value (some (.Attribute o f p')) pos.line X.env=pure Nk)(Z:dA X.K C)(T:vF X.K C P cd)(n:PySem.W.findIn X.K (.ref C) f=some none):
  PS X (.Assign [.Attribute o f p'] value pos) (λD σ H=>tv σ H λy H1=>te σ H1 λx H2=>∃(e d:Nm) (vs:Av) (m:Mg) (ns:Ls),x=.ref e/\H2 e=some (gY e C vs (some d))/\H2 d=some (iA d m)/\Within m ns/\ns.length<8/\∀v,RelV y v->D.nx σ (aO H2 d (iA d (fy f v m)))):=by
 intro p s σ H D I h;refine Rm (aN (B p s σ H _ I h) λu M ⟨y,H1,g,L,q⟩=>aN (w p M σ H1 _ g q) λF S ⟨x,H2,a,R,e,d,vs,m,ns,j,i,E,hw,A,Q⟩=>?_) hs;subst j;obtain rfl:F=NA e:=R;obtain⟨G,_,_⟩:=(show aP X.prog X.w H2 S.heap e (gY e C vs (some d))from a.hok e _ i);obtain⟨l,_,_⟩:=(show aP X.prog X.w H2 S.heap d (iA d m)from a.hok d _ E);refine JK Z T a.kIn n G rfl rfl l hw A λc t k K=>?_;have J:=a.write (x:=d) (e:=d) (o:=iA d (fy f u m)) (t':=t) (h':=c) (by rw[E];exact Ph) (.inl rfl) (λb O z r=>K b O z r) (let⟨o,_,_,e,_⟩:=k;⟨o,e⟩) (ll k);exact⟨σ,_,J,Q u L⟩
end
noncomputable def atS(nm:Str):Om->Bool
 | .Assign [.Attribute (.Name s _) f _] (.Name v _) _=>s=="self"&&(f==nm&&v==nm)
 |_=>Nk
theorem CK(h:atS nm st=Nj):∃q Q c d,st=.Assign [.Attribute (.Name "self" q) nm Q] (.Name nm c) d:=by
 unfold atS at h;split at h
 ·obtain⟨a,H⟩:=aa h;obtain⟨H,b⟩:=aa H;obtain rfl:=Zv a;obtain rfl:=Zv H;obtain rfl:=Zv b;exact⟨_,_,_,_,rfl⟩
 ·cases h
def gN:Ls:=["self","many","most"]
noncomputable def MF(s:Scope):Bool:=(s.kind== .function)&&(!s.isCoroutine&&(!s.isGenerator&&(gN.all (λx=>s.names.lookup x==some .local)&&s.names.all λy=>y.2 !=.free)))
theorem JO{s:Scope}(h:MF s=Nj):bt gN gN s/\∀x∈gN,s.names.lookup x=some .local:=by obtain⟨b,h⟩:=aa h;obtain⟨c,h⟩:=aa h;obtain⟨d,h⟩:=aa h;obtain⟨H,e⟩:=aa h;have H:∀x∈gN,s.names.lookup x=some .local:=λx a=>Zv (Zl.mp H x a);exact⟨⟨Zv b,by simpa using c,by simpa using d,by decide,rfl,λx a=>.inl (H x a),λy f=>by simpa using Zl.mp e y f⟩,H⟩
noncomputable def JP(K:Fg)(f:Nm):Bool:=match K.lookup f with
 |some ⟨oc,_,.func fd,_⟩=>oc== .type "function"&&(PySem.W.codeIn K fd.code fd.qualname&&(fd.globals==mainGlobals&&(fd.closure.isEmpty&&(fd.defaults== .none&&(fd.builtins==builtinsNs&&(MF fd.scope&&(match fd.body with
   | .stmts [s,S]=>atS "many" s&&atS "most" S
   |_=>Nk)&&(match fd.params with
   | ⟨[],as,none,[],[],none,[]⟩=>as.map (·.arg)==gN
   |_=>Nk)))))))
 |_=>Nk
def JQ(K:Fg)(f:Nm):Prop:=∃od osl name qual as q Q a b c d e g sc kV doc pm an cdv ct,as.map Arg.arg=gN/\K.lookup f=some ⟨.type "function",od,.func (PySem.W.fnOf name qual ⟨[],as,none,[],[],none,[]⟩ [.Assign [.Attribute (.Name "self" q) "many" Q] (.Name "many" a) b,.Assign [.Attribute (.Name "self" c) "most" d] (.Name "most" e) g] sc .none kV doc pm an cdv ct),osl⟩/\
 PySem.W.codeIn K cdv qual=Nj/\bt gN gN sc/\∀x∈gN,sc.names.lookup x=some .local
theorem JR(h:JP K fI=Nj):JQ K fI:=by
 unfold JP at h;split at h
 ·rename_i G O F o l;obtain⟨e,h⟩:=aa h;obtain⟨f,h⟩:=aa h;obtain⟨g,h⟩:=aa h;obtain⟨H,h⟩:=aa h;obtain⟨i,h⟩:=aa h;obtain⟨j,h⟩:=aa h;obtain⟨h,b⟩:=aa h;obtain⟨k,a⟩:=aa h;obtain⟨n,q,p,body,B,gl,C,E,kV,d,P,an,c,r,D⟩:=F;dsimp only at e f g H i j k a b l;obtain rfl:=Zv e;obtain rfl:=Zv g;obtain rfl:=Zv i;obtain rfl:=Zv j;have H:C=[]:=by simpa using H
  subst H;split at a
  ·rename_i I s;obtain⟨A,m⟩:=aa a;obtain⟨Q,t,u,v,rfl⟩:=CK A;obtain⟨w,x,y,z,rfl⟩:=CK m;split at b
   ·obtain⟨s,S⟩:=JO k;exact⟨O,o,n,q,_,Q,t,u,v,w,x,y,z,B,kV,d,P,an,c,r,Zv b,l,f,s,S⟩
   ·cases b
  ·cases a
 ·cases h
section
variable {P:Nt}{Q:Nm}{cd:Px}{k:Nat}
noncomputable def M9(C:Nm):Sp:=λvs H Q E=>∃e a b w,vs=[.ref e,.int a,.int b]/\H e=some (gY e C w none)/\∀d u v,RelV (.int a) u->RelV (.int b) v->H d=none->Q .non (aO (aO (aO H d (iA d (fy "many" u λ_=>none))) e (gY e C w (some d))) d (iA d (fy "most" v (fy "many" u λ_=>none))))
theorem o5(I:JQ K fI)(Z:dA K C)(T:vF K C Q cd)(h1:PySem.W.findIn K (.ref C) "many"=some none)(J:PySem.W.findIn K (.ref C) "most"=some none):∃fd,cH P w K mg base CX (k+1) fI fd gN (M9 C)/\Binds K fd gN []/\∃od osl,K.lookup fI=some ⟨.type "function",od,.func fd,osl⟩:=by
 obtain⟨od,osl,N,q,as,q0,q1,q2,q3,q4,q5,q6,q7,U,kV,G,pm,an,j,X,c,lk,l,S,L⟩:=I;refine⟨_,q9 lk l S (λvs H Q E ⟨e,a,b,W,t,_⟩=>by rw[t];rfl) λA o s H vs Q E Y ⟨e,a,b,W,t,n,M⟩=>?_,Binds.all ?_,od,osl,lk⟩
 ·have g:∀{i:Nat} {x:Str} {p:Pos},gN[i]?=some x->PE (eD CX P w K mg base gN q U fI j A o s H E) (.Name x p) (l5 i):=λ{i x p} D=>by
   have y:=Zq D;have B:=fO (Zl.mp (show gN.all dw=Nj by decide) x y);exact jS D (.inl (L x y)) B.1 B.2
  subst t;refine⟨_,c7 (CI (g (i:=0) rfl) (g (i:=1) rfl) rfl Z T h1) (c7 (CJ (m:=λ_=>none) (ns:=[]) (g (i:=0) rfl) (g (i:=2) rfl) rfl Z T J) fD),?_⟩;have r:∀d,H d=none->e≠d:=λd f z=>by rw[z,f]at n;cases n
  refine⟨.int a,rfl,.ref e,rfl,e,W,rfl,n,λd u R f=>?_⟩;refine⟨.int b,rfl,.ref e,rfl,e,d,W,fy "many" u λ_=>none,["many"],rfl,a7,?_,Within.cons "many" u Within.nil,by decide,λv O=>M d u v R O f⟩;rw[au (Ne.symm (r d f)),a7]
 ·have h:=Z2 Oh c;rw[Zk]at h;obtain⟨⟨F,n0,p0⟩,as,rfl⟩:=Zx (show as.length=2+1 from h);obtain⟨⟨b1,n1,p1⟩,as,rfl⟩:=Zx (show as.length=1+1 from Zz h);obtain⟨⟨b2,n2,p2⟩,as,rfl⟩:=Zx (show as.length=0+1 from Zz (Zz h));obtain rfl:as=[]:=List.length_eq_zero_iff.mp (Zz (Zz (Zz h)));have c:[F,b1,b2]=gN:=c;unfold gN at c⊢;cases c;intro V h
  match V,h with
  | [u0,u1,u2],_=>rfl
end
set_option genInjectivity false in
inductive Rz where
 |cls (x:Str)|kind (f:Str) (ys ws:Ls)|init (x:Str)|great (g:Str) (ys ws:Ls)
 deriving DecidableEq
def Rz.need:Rz->Nat
 | .init _=>2
 |_=>0
mutual
noncomputable def MG:CS->List Rz
 | .raise_ x _=>[.cls x]
 | .tryK _ body f ys w=>.kind f ys w::dB body
 | .raiseI x _=>[.init x]
 | .tryG _ g _ body f ys w=>.kind f ys w:: .great g ys w::dB body
 | .ite _ a b=>dB a++dB b
 | .for_ _ _ body=>dB body
 | .while_ _ _ body=>dB body
 |_=>[]
noncomputable def dB:List CS->List Rz
 | []=>[]
 |c::cs=>MG c++dB cs
end
noncomputable def iB(K:Fg)(C f:Nm):Bool:=match K.lookup C with
 |some ⟨.type "type",_,.cls cd,sl⟩=>(match cd.mro,sl.toList with
  | .ref a::bm,[_,_,_,_,some (.builtin n),_]=>a==C&&(n=="ValueError.__new__"&&(!cd.hasDel&&(PySem.W.tailIn K ec bm&&(PySem.W.nsOkIn K cd.ns&&PySem.W.nsIn K cd.ns "__init__"==some (some (.ref f))))))
  |_,_=>Nk)
 |_=>Nk
def XC(P:Nt)(w:NF)(K:Fg)(mg:Mg):Rz->Prop
 | .cls x=>∃C,mg x=some (.ref C)/\PySem.W.excIn K C ec "ValueError.__new__"=Nj
 | .kind f ys W=>∃fa pa,mg f=some (.ref fa)/\PySem.W.keepIn K (.ref fa)=Nj/\mg "PairError"=some (.ref pa)/\
   ∀x r,(ys.zip W).lookup x=some r->∀v,mg x=some v->∃C,v=.ref C/\PySem.W.exmOne K (.ref C) (.ref pa)=some Nj/\∀base,ji P w K mg base fa C r
 | .init x=>∃C P fI cd,mg x=some (.ref C)/\PySem.W.keepIn K (.ref C)=Nj/\FF K C cd/\vF K C P cd/\JQ K fI/\iB K C fI=Nj
 | .great g ys W=>∀x,(ys.zip W).lookup x=some g->∀v,mg x=some v->∃C cd,v=.ref C/\FF K C cd
theorem o6{N:Nm}{n:Str}{v:Nn}(X:K.In h)(G:h.Ns N mg)(e:PySem.W.nsIn K N n=some (some v)):mg n=some v:=by
 obtain⟨o,d,E,c,H,_,b⟩:=G;unfold PySem.W.nsIn at e;split at e
 ·rename_i q;have q:=X _ _ q;rw[c]at q;cases q;cases H;split at e
  ·rename_i a;cases e;rw[<-b];unfold nsFind findBy;rw[<-Su,a];rfl
  ·split at e<;>cases e
 ·cases e
theorem o7(X:K.In h)(q:iB K C fI=Nj):∃bm N nm Q bs c sn sub ab col dd k0 k1 k2 k3 k5 mN,h.get? C=some (excClassObj nm Q C N bs bm c sn sub ab col dd k0 k1 k2 k3 k5 "ValueError.__new__")/\h.Ns N mN/\mN "__init__"=some (.ref fI)/\OwnTail h ec bm:=by
 unfold iB at q;split at q
 ·rename_i dd j sl k;split at q
  ·rename_i s bm k0 k1 k2 k3 n k5 g i;obtain⟨p,q⟩:=aa q;obtain⟨r,q⟩:=aa q;obtain⟨H,q⟩:=aa q;obtain⟨m,q⟩:=aa q;obtain⟨b,a⟩:=aa q;obtain rfl:=Zv p;obtain rfl:=Zv r;obtain⟨nm,bs,M,o,Q,c,sn,sub,ab,col,d⟩:=j;dsimp only at g H b a;have H:d=Nk:=by simpa using H
   subst g H;have e:sl= #[k0,k1,k2,k3,some (.builtin "ValueError.__new__"),k5]:=by obtain⟨l⟩:=sl;simp only at i;rw[i]
   subst e;have f:=Heap.Ns.of_isNs (PySem.W.isNs_of_in X b);exact⟨bm,o,nm,Q,bs,c,sn,sub,ab,col,dd,k0,k1,k2,k3,k5,_,X _ _ k,f,o6 X f (Zv a),PySem.W.tail_of_in X m⟩
  ·cases q
 ·cases q
theorem vG{x:Str}(X:K.In h)(e:mg x=some (.ref C))(q:PySem.W.excIn K C ec "ValueError.__new__"=Nj):OwnCls x C ec "ValueError.__new__" mg h:=by
 refine⟨e,?_⟩;unfold PySem.W.excIn at q;split at q
 ·rename_i D o sl t;split at q
  ·rename_i w B k g i j n m f y;simp only[ZN,beq_iff_eq,O5]at q;obtain⟨⟨⟨⟨⟨rfl,rfl⟩,H⟩,u⟩,a⟩,b⟩:=q;obtain⟨N,bs,M,v,Q,r,S,s,A,c,p⟩:=o;dsimp only at f H a b;subst f H;have d:sl= #[k,g,i,j,some (.builtin "ValueError.__new__"),m]:=by obtain⟨l⟩:=sl;simp_all
   subst d;exact⟨B,v,N,Q,bs,r,S,s,A,c,D,k,g,i,j,m,_,X _ _ t,.of_isNs (PySem.W.isNs_of_in X a),PySem.W.nsMap_none_of_in X a b,PySem.W.tail_of_in X u⟩
  ·cases q
 ·cases q
theorem Sub.ext(s:Sub H H'):Ext μ H μ H':=⟨⟨[],by simp⟩,λa o h _=>s a o h,λa o h=>⟨o,s a o h⟩,λ_ h=>.inl h⟩
theorem Sub.sok{mg:GS}(s:Sub H H')(k:aJ K mg μ S H):aJ K mg μ S H':=
 ⟨λa h=>(by obtain⟨o,e⟩:=k.live a h;exact(⟨o,s a o e⟩)),k.len,k.nd,λn a d b c=>(by obtain⟨vs,e,r⟩:=k.at_ n a d b c;exact(⟨vs,s a _ e,ai.mono s.ext _ _ r⟩))⟩
theorem o8{o i:Expr}{p:Pos}(h:iY i=Nj):∀v,assign (.Subscript o i p) env v=(do
   let O <-holding [v] (eval o env)
   let I <-holding [v,O] (eval i env)
   standAt p
   holding [v,O,I] (setItem O I v)
   release [v,O,I] []):=by
 intro v;cases i<;>first|rfl|cases h
section
variable {E:XK}{k:Nat}{pos:Pos}
end
structure lm (X:Cx)(N:Ls)(sc:Sc)(CX:dj)(E:XK)(Φ:FT)(Γ:Str->Option D)(k:Nat):Prop where
 x:cF X (λ_=>Nj) N sc CX E Φ Γ k
 own:Qf (model X.prog X.w) X.A X.env X.xe
 cx:CX=bh X.prog X.w
 fr:X.ex=[]/\X.stack=X.env::X.outer/\X.env.frame=some X.env.locals
 made:gA X E
section
variable {E:XK}{k:Nat}{pos:Pos}
theorem rT{a b:Type}{f:a->Option b}{x:a}(h:f x=none):∀{l:List a},x∈l->(l.filterMap f).length<l.length
 | [],H=>by simp_all
 |y::l,H=>by
  rcases Zj.mp H with rfl|H
  ·grind
  ·have:=rT h H
   grind
theorem o9{v:Expr}(hs:env.scope.names=sc)(h1:fv tg=Nj)(H:(kZ v||k6 sc tg)=Nj):swappedStores [tg] v env=pure none:=by
 cases tg<;>first| (cases h1;done)|skip
 cases v<;>first|rfl|skip
 rename_i t _ _ u _ _;unfold swappedStores;simp only[];split
 ·rfl
 ·split
  ·rfl
  ·split
   ·rfl
   ·rename_i c;rcases Qw.mp H with h|h
    ·have h:(List.all u (foldedForSure 8))=Nj:=h
     first|rfl|rw[if_pos h]
    ·exfalso
     have h:(t.any λx=>match x with
      | .Name id _=>sc.lookup id==some .cell
      |_=>Nk)=Nj:=h
     obtain⟨x,d,a⟩:=Pg.mp h;refine c ?_
     have b:=rT (f:=λx=>match x with
      |Expr.Name id pos=>if env.kindOf id==some .local&&pos.line==(t.head?.map (·.pos.line)).getD 0 then some id else none
      |_=>none) (x:=x) (by
       cases x<;>first|rfl|skip
       rename_i id pos;have e:env.kindOf id=some .cell:=by show env.scope.names.lookup id=_;rw[hs];exact Zv a
       show(if(env.kindOf id==some .local&&_)=Nj then _ else _)=none;rw[e];rfl) d
     rw[Q2];exact .inl (bne_iff_ne.mpr (Zs b))
theorem JS(h1:fv tg=Nj):(assignEach [tg] env).map (·.2)=[assign tg env]:=by cases tg<;>first|rfl|cases h1
theorem CL{t v:Expr}(h:swapsWith v (some t) line env=pure Nk):swapsWithSole [t] v line env=pure Nk:=h
theorem CM{K:Fg}{mg:GS}{μ:La}{H:Hp}:∀{is:List Nat} {ds:List D} {vs:List V} {ρ:br} {σ:L2.St},ai K mg μ H ds vs->aV K mg μ H ρ σ->aV K mg μ H (eF is ds ρ) (eF is vs σ)
 | [],ds,vs,ρ,σ,r,e=>by exact e
 |i::is,[],vs,ρ,σ,r,e=>by subst r;exact e
 |i::is,d::ds,vs,ρ,σ,r,e=>by obtain⟨v,w,rfl,R,a⟩:=r.uncons;unfold eF;exact CM a (e.set R)
theorem vH(O:cF X (λ_=>Nj) N sc CX E Φ Γ k){t:CT}{e:CE}{v:Expr}(h1:fv (iZ t N tg)=Nj)(h:(kZ v||k6 sc (iZ t N tg))=Nj)(f:fP v=Nj)(g:rn (λ_=>Nj) N sc t=Nj)(i:PE X v (tE X.K X.mg E Φ Γ e)):PS X (.Assign [iZ t N tg] v pos) (tS X.K X.mg E Φ Γ (.asgT t e)):=
 bY (jY i (kE O g) (jf f) (o9 O.sc h1 h) (JS h1)) λD u H z=>aE z λF p q S j c w=>by
  refine⟨F,_,_,S,j,c,(ar.bind w).mono λv H1 z=>ax z λl o d x s r W=>?_⟩;cases a:aR t d _ with
  |none=>rw[a]at W;exact W.elim
  |some m=>rw[a]at W;exact uA a r (c.mono x) λn b=>W _ _ _ .refl s b
theorem CN(O:cF X (λ_=>Nj) N sc CX E Φ Γ k){es:List CE}{ts xs:Lx}{pt:Pos}{K k2}(h1:is.all (λi=>N[i]?==some (N.getD i "")&&sc.lookup (N.getD i "")==some .local)=Nj)(h:is.length<=3)(a:vd sc ts xs (is.map λi=>N.getD i "")=Nj)(b:PA X xs (tL X.K X.mg E Φ Γ es)):
  PS X (.Assign [.Tuple ts K pt] (.Tuple xs k2 pt2) pos) (tS X.K X.mg E Φ Γ (.par is es)):=by
 refine bY (ni O.calm (by rw[O.n];exact O.nd) (λi c=>?_) h b (vf a O.sc O.kd) (CL (jf rfl))) λD o H z=>aE z λF m n S f e w=>?_
 ·have:=Zl.mp h1 i c;rw[O.n,O.sc];lia
 ·refine⟨F,_,_,S,f,e,(ar.bind w).mono λvs H1 z=>ax z λg j l x s r W=>?_⟩;split at W
  ·rename_i d;refine⟨by rw[<-r.length,d],?_⟩;exact W _ _ _ .refl s (CM r.reverse (e.mono x))
  ·exact W.elim
theorem CO{o i v:CE}{j b g:Expr}{p:Pos}(n:iY b=Nj)(l:fP g=Nj)(q:PE X j (tE X.K X.mg E Φ Γ o))(m:PE X b (tE X.K X.mg E Φ Γ i))(r:PE X g (tE X.K X.mg E Φ Γ v)):PS X (.Assign [.Subscript j b p] g pos) (tS X.K X.mg E Φ Γ (.set o i v)):=
 bY (jY r (sH q m zP (o8 n)) (CL (jf l)) rfl) λD σ H z=>aE z λF μ ρ S C a w=>by
  refine⟨F,_,_,S,C,a,(ar.bind w).mono λvv H1 z=>ax z λJ Q f x u R G=>?_⟩;refine⟨F,_,_,_,u,a.mono x,(ar.bind G).mono λZ N z=>ax z λK T d h y s I=>?_⟩;refine⟨F,_,_,_,y,(a.mono x).mono h,(ar.bind I).mono λY O z=>ax z λL U e x3 A t W=>?_⟩;cases c:iR d e f _ with
  |none=>rw[c]at W;exact W.elim
  |some V=>rw[c]at W;exact⟨F,_,_,d,e,f,A,Rep.mono x3 _ _ s,t,Rep.mono (h.trans x3) _ _ R,_,c,λM P k B=>W _ _ _ k B ((((a.mono x).mono h).mono x3).mono k)⟩
theorem vI{e:CE}{v:Expr}(h:fP v=Nj)(b:PE X v (tE X.K X.mg E Φ Γ e)):PS X (.Expr v pos) (tS X.K X.mg E Φ Γ (.expr e)):=
 bY (l8 b (jf h)) λD k H z=>aE z λF i j S c a w=>by exact⟨F,_,_,S,c,a,(ar.bind w).mono λv H1 z=>ax z λf g d x s r W=>W _ _ _ .refl s (a.mono x)⟩
theorem CP{e:CE}{v:Expr}(h:PE X v (tE X.K X.mg E Φ Γ e)):PS X (.Return (some v) pos) (tS X.K X.mg E Φ Γ (.ret e)):=
 bY (jX h) λD j H z=>aE z λF g i S b a w=>by exact⟨F,_,_,S,b,a,(ar.bind w).mono λv H1 z=>ax z λc f d x s r W=>W _ _ v .refl s r⟩
theorem vJ:PS X (.Return none pos) (tS X.K X.mg E Φ Γ .retN):=bY l9 λD c H z=>aE z λF a b S s e w=>w _ H _ .refl s j7
theorem vK:PS X (.Pass pos) (tS X.K X.mg E Φ Γ .pass):=bY l7 λD c H z=>aE z λF a b S s e w=>w _ H _ .refl s e
theorem CQ:PS X (.Break pos) (tS X.K X.mg E Φ Γ .brk):=bY FY λD c H z=>aE z λF a b S s e w=>w _ H _ .refl s e
theorem vL:PS X (.Continue pos) (tS X.K X.mg E Φ Γ .cont):=bY FZ λD c H z=>aE z λF a b S s e w=>w _ H _ .refl s e
theorem JT{c:CE}{a b:List CS}{t:Expr}{x y:List Om}(i:PT X t (tT X.K X.mg E Φ Γ c))(h:d9 X x (kX X.K X.mg E Φ Γ a))(g:d9 X y (kX X.K X.mg E Φ Γ b)):PS X (.If t x y pos) (tS X.K X.mg E Φ Γ (.ite c a b)):=
 bY (ip i h g) λD p H z=>aE z λF n o S j e w=>by
  refine⟨F,_,_,S,j,e,(ar.bind w).mono λk H1 z=>ax z λl m K d s f W=>?_⟩;subst f;cases K with
  |true=>exact⟨F,_,_,_,s,e.mono d,W⟩
  |false=>exact⟨F,_,_,_,s,e.mono d,W⟩
theorem vM:d9 X [] (kX X.K X.mg E Φ Γ []):=kY fD λD c H z=>aE z λF a b S s e w=>w _ H _ .refl s e
theorem o_{c:CS}{cs:List CS}{s:Om}{st:List Om}(h1:PS X s (tS X.K X.mg E Φ Γ c))(h:d9 X st (kX X.K X.mg E Φ Γ cs)):d9 X (s::st) (kX X.K X.mg E Φ Γ (c::cs)):=
 kY (c7 h1 h) λD n H z=>aE z λF l m S b a w=>by exact⟨F,_,_,S,b,a,ar.seq w λd i g f j x k e W=>⟨F,_,_,_,k,e,W⟩⟩
theorem CU{mg:GS}{D:Ends}{r:Res Fl}{f:br->ae->Res Fl}{Nx:L2.St->Hp->Prop}(w:ar K mg E D μ H (r.bind λF S'=>match F with
   | .next ρ'=>f ρ' S'
   | .cont ρ'=>f ρ' S'
   | .brk ρ'=>.ok (.next ρ') S'
   | .ret d=>.ok (.ret d) S')) (a:∀μ' H' σ' ρ' S',Ext μ H μ' H'->aJ K mg μ' S' H'->aV K mg μ' H' ρ' σ'->ar K mg E D μ' H' (f ρ' S')->Nx σ' H'):ar K mg E {D with nx:=Nx,ct:=Nx,bk:=D.nx} μ H r:=by
 cases r with
 |ok F S=>
  cases F with
  |next b=>exact λm h s x k e=>a m h s _ S x k e (ar.ext x (show ar K _ E D _ H _ from w))
  |ret d=>exact w
  |brk b=>exact w
  |cont b=>exact λm h s x k e=>a m h s _ S x k e (ar.ext x (show ar K _ E D _ H _ from w))
 |err z S=>exact w
 |fail=>exact w
theorem pc{c:CE}{t:Expr}{x:List Om}(r:Qf (model X.prog X.w) X.A X.env X.xe)(p:PT X t (tT X.K X.mg E Φ Γ c))(o:d9 X x (kX X.K X.mg E Φ Γ body)):PS X (.While t x [] pos) (tS X.K X.mg E Φ Γ (.while_ n c body)):=
 bY (F4 r p o) λD f H z=>aE z λF a b S s e w=>by
  refine⟨λm f H=>∃a b S,aJ _ _ a S H/\aV _ _ a H b f/\ar _ _ E D a H (nv _ _ m b S),⟨n,_,_,S,s,e,w⟩,?_⟩;rintro m f H ⟨a,b,S,s,e,w⟩;cases m with
  |zero=>exact w.elim
  |succ m=>
   refine⟨F,_,_,S,s,e,(ar.bind w).mono λk H1 z=>ax z λy C K i h l W=>?_⟩;subst l;cases K with
   |true=>exact⟨_,λg j q=>⟨m,NK m,q⟩,F,_,_,_,h,e.mono i,CU W λv j g A B x k d u=>⟨_,_,_,k,d,u⟩⟩
   |false=>exact W _ _ _ .refl h (e.mono i)
end
theorem vN(step:D->br->ae->Res Fl)(xs:List D):∀(n i:Nat) (ρ:br) (S:ae),i+n=xs.length->fK step (λ_ i=>some xs[i]?) (n+1) i ρ S=d_ step (xs.drop i) ρ S
 |0,i,ρ,S,h=>by rw[RO (by omega)];unfold fK;have:xs[i]?=none:=OP.mpr (by omega);rw[this];rfl
 |n+1,i,ρ,S,h=>by
  have H:i<xs.length:=by omega
  rw[Rq H];unfold fK;rw[Zi H];show(step _ _ S).bind _=(step _ _ S).bind _;congr 1;funext f b;cases f with
  |next a=>exact vN _ _ n _ _ _ (by omega)
  |cont a=>exact vN _ _ n _ _ _ (by omega)
  |brk a=>rfl
  |ret d=>rfl
theorem pd(step:D->br->ae->Res Fl)(its:iV)(ρ:br)(S:ae):uf step its ρ S=fK step (bV its) (uD its) 0 ρ S:=by
 cases its with
 |items x=>exact(vN _ _ _ 0 _ S (by omega)).symm
 |live f get=>rfl
noncomputable def CV(Φ:FT)(Γ:Str->Option D)(t:CT)(body:List CS):D->br->ae->Res Fl:=λx ρ S=>match aR t x ρ with
 |some ρ'=>af Φ Γ body ρ' S
 |none=>.fail
section
variable {E:XK}{k:Nat}{pos:Pos}
theorem CW{t:CT}{it:CE}{i:Expr}{x:List Om}(P:Qf (model X.prog X.w) X.A X.env X.xe)(M:X.calm=Nj)(O:PI X tg i (tI X.K X.mg E Φ Γ it))(N:PG X tg (rG X.K t))(hs:∀x,foldedSetIterable i X.env x=pure x)(L:d9 X x (kX X.K X.mg E Φ Γ body)):
  PS X (.For tg i x [] pos) (tS X.K X.mg E Φ Γ (.for_ t it body)):=
 bY (sJ P M O N L hs) λD u H zz=>aE zz λF a b S s d w=>by
  refine⟨F,a,b,S,s,d,ak.mono (ar.bind w) λJ H1 h=>?_⟩;obtain⟨μ1,I,R,x1,Z,ok,w1⟩:=h;have A:=w1;rw[pd]at A;refine⟨λi m u H=>∃a b S,dg X.K F _ H1 F a H/\aJ _ _ a S H/\aV _ _ a H b u/\ar _ _ E D a H (fK _ _ m i b S),⟨_,_,b,I,.refl,Z,d.mono x1,A⟩,?_⟩;rintro i m u H ⟨a,b,S,C,s,d,w⟩;cases m with
  |zero=>exact w.elim
  |succ m=>
   unfold fK at w;obtain⟨T,U⟩:=ok i a S H F C s;cases e:bV _ S i with
   |none=>rw[e]at w;exact w.elim
   |some o=>
    cases o with
    |none=>rw[e]at w;exact .inl ⟨U e,w a H _ .refl s d⟩
    |some y=>
     rw[e]at w;obtain⟨K,Y⟩:=T y e;refine .inr ⟨K,_,λf c q=>⟨m,NK m,q⟩,λv c Q=>?_⟩;obtain⟨p,s2,V⟩:=Y v c Q;have w3:=ar.ext p w
     have W:=CU (Nx:=λf c=>∃a b S,dg _ F _ H1 F a c/\aJ _ _ a S c/\aV _ _ a c b _/\ar _ _ E D a c _) w3
      λμ' B f r G x3 k j n=>⟨_,_,G,(C.trans (.of_ext p λ_ z=>.inl z)).trans (.of_ext x3 λ_ z=>.inl z),k,j,n⟩
     unfold CV at W;cases g:aR t y b with
     |none=>simp[g]at W;exact W.elim
     |some r=>simp only[g]at W;exact uA g V (d.mono p) λσ2 l=>⟨F,a,_,S,s2,l,W⟩
end
section
variable {E:XK}{k:Nat}
def CY(P:Nt)(w:NF)(K:Fg)(mg:Mg)(k:Nat)(z:Rz):Prop:=XC P w K mg z/\z.need<=k
theorem pf(O:lm X N sc CX E Φ Γ k){x:Str}{es:List CE}(h:vg (.raise_ x es) N sc st=Nj)(hx:XC X.prog X.w X.K X.mg (.cls x))(ha:PA X (cB es N (vw (vs st).e0).es) (tL X.K X.mg E Φ Γ es)):PS X (je (.raise_ x es) N st) (tS X.K X.mg E Φ Γ (.raise_ x es)):=by
 obtain⟨h1,h⟩:=aa h;obtain⟨_,h⟩:=aa h;obtain⟨h2,h3⟩:=aa h;obtain⟨C,K,hq⟩:=hx;obtain⟨g1,g2,_⟩:=cL h1;intro pq s σ H D I zz;have own:=vG I.mod.kin K hq;cases es with
 |nil=>cases h2
 |cons e es=>
  have d:∀z∈cB (e::es) N (vw (vs st).e0).es,bA z=Nj:=Zl.mp h3;obtain⟨tl,N0,V,q,bs,a,Y,g,B,c,G,L,M,P,Q,R,U,hC,hN,o,T⟩:=own.obj;show wpAny _ _ (exec (.Raise (some (.Call (.Name x _) (aX e N _::cB es N _) [] _)) none _) X.env) _ _ s
  refine wpAny_Raise_call_subU (C:=C) (nm:=V) (q:=q) (N:=N0) (bs:=bs) (bm:=tl) (hdct:=a) (sn:=Y) (sub:=g) (ab:=B) (col:=c) (dd:=G) (k0:=L) (k1:=M) (k2:=P) (k3:=Q) (k5:=R)
   PySem.F.excBase_ValueError (bmB:=ec) (by decide+kernel) PySem.F.excBase_ValueError (mN:=U) (T.hasType (by decide+kernel)) (I.ok.hd O.x.calm) (hW d) o (iK I (O.x.gl g1) own.bound ⟨rfl,?_⟩ g2)
  obtain⟨F,u,A,S,sk,en,w⟩:=zz;have J:=ha (vw (vs st).e0).pos pq s σ H (λt H1=>t.length<=sizeLine/\E (.ref C) none H1) I ⟨F,u,A,S,sk,en,?_⟩
  ·have he:=cq (env:=X.env) (es:=cB es N (vw (vs st).e0).es.tail) (d _ Ze);have b:wpAny _ _ (spliced (backTo _ (starEach (aX e N ((vw (vs st).e0).es.headD dE)::cB es N (vw (vs st).e0).es.tail) X.env))) _ _ s:=J;rw[he]at b⊢;refine Pk (ZH b (λus Z f=>?_) λ_ _ y=>y);obtain⟨t,H1,i,r,z,q⟩:=f;exact⟨rfl,by rw[<-r.length];exact z,(i.bs _ _ hC).1,hN.keeps i.bk,T.keeps i.bk,λJ e m=>O.made.plain i m q⟩
  ·have W:ar X.K ⟨X.mg,F⟩ E D u H ((ah Φ Γ (e::es) A S).bind λl j=>if l.length<=1000 then .err ⟨x,[]⟩ j else .fail):=w;cases n:ah Φ Γ (e::es) A S with
   |ok l j=>
    rw[n]at W;intro v H' t x1 s1 r1;have p:ar X.K ⟨X.mg,F⟩ E D u H (if l.length<=1000 then .err ⟨x,[]⟩ j else .fail):=W;split at p
    ·rename_i hl;exact⟨by rw[<-r1.length];exact ZA hl (by decide),p v H' x1 s1 (.ref C) none ⟨K,.inl rfl⟩⟩
    ·exact p.elim
   |err y j=>rw[n]at W;exact W
   |fail=>rw[n]at W;exact W
noncomputable def MH(nb:Option (Str×Nat×Pos×Pos))(r:Str):D:=match nb with
 |none=>.str r
 |some (y,_)=>.lst [.str y,.str r]
noncomputable def iC(nb:Option (Str×Nat×Pos×Pos))(y w:Ls):Res Fl->Res Fl
 | .err x S'=>(match x.fs,(y.zip w).lookup x.cls with
  | [],some r=>.ok (.ret (MH nb r)) S'
  |_,_=>.fail)
 |r=>r
theorem vO(O:lm X N sc CX E Φ Γ k){i:Nat}{f:Str}{y W:Ls}{np pos:Pos}(h:(N[i]?==some (N.getD i "")&&(sc.lookup (N.getD i "")==some .local&&(dw (N.getD i "")&&(bp sc "PairError"&&(bp sc f&&ea body N sc (vs st).a)))))=Nj)(hx:XC X.prog X.w X.K X.mg (.kind f y W))
  (Y:∀{X':Cx} {E':XK},X'.prog=X.prog->X'.w=X.w->X'.K=X.K->X'.mg=X.mg->lm X' N sc CX E' Φ Γ k->d9 X' (cr body N (vs st).a) (kX X'.K X'.mg E' Φ Γ body)):
  PS X (.Try (cr body N (vs st).a) [Cf nb "PairError" (N.getD i "") f tp np vp cp rp hp] [] [] pos) (λD σ H=>∃F μ ρ S,aJ X.K ⟨X.mg,F⟩ μ S H/\aV X.K ⟨X.mg,F⟩ μ H ρ σ/\ar X.K ⟨X.mg,F⟩ E D μ H (iC nb y W (af Φ Γ body ρ S))):=by
 obtain⟨Q,h⟩:=aa h;obtain⟨R,h⟩:=aa h;obtain⟨T,h⟩:=aa h;obtain⟨U,h⟩:=aa h;obtain⟨V,h6⟩:=aa h;obtain⟨B,P,m1,m2,m3,m4⟩:=hx;obtain⟨J,K,_⟩:=cL U;obtain⟨L,M,_⟩:=cL V;have Z:ia X "PairError" (N.getD i "") f i B P:=⟨O.fr.1,O.fr.2.1,O.fr.2.2,O.x.room.depth,⟨O.x.gl J,m3,K⟩,⟨O.x.gl L,m1,M⟩,m2,by rw[O.x.n];exact O.x.nd,by rw[O.x.n];exact Zv Q,by rw[O.x.sc];exact Zv R,T,O.x.fn _ rfl⟩;intro pq s σ H D I zz;obtain⟨F,μ,ρ,S,sk,A,w⟩:=zz;refine lg I (Y (X':=XB X pq D _) (E':=EH X [.Return (some (FE nb (.Call (.Name f np) [.Name (N.getD i "") vp] [] cp))) rp] i P D) rfl rfl rfl rfl ⟨⟨O.x.n,O.x.nd,O.x.sc,O.x.kd,O.x.calm,O.x.room,O.x.fn,O.x.mod,?_,O.x.cx0⟩,rP,O.cx,O.fr,rR Z⟩) ⟨F,μ,ρ,S,sk,A,?_⟩
 ·rw[O.cx];exact rQ Z
 ·show ar X.K ⟨X.mg,F⟩ (EH X _ i P D) D μ H (af Φ Γ body ρ S);cases e:af Φ Γ body ρ S with
  |ok G g=>rw[e]at w;cases G<;>exact w
  |fail=>rw[e]at w;exact w
  |err x g=>
   rw[e]at w;obtain⟨cls,fs⟩:=x;cases fs with
   |cons _ _=>exact False.elim w
   |nil=>
    cases c:(y.zip W).lookup cls with
    |none=>dsimp only[iC]at w;rw[c]at w;exact False.elim w
    |some r=>
     dsimp only[iC]at w;rw[c]at w;have m:ar X.K ⟨X.mg,F⟩ E D μ H (.ok (.ret (MH nb r)) g):=w;intro a H' n l v j hv;obtain⟨C,o,t,z⟩:=m4 cls r c v hv.1;subst o;refine oW Z (z _) t λv b u=>?_;cases nb with
     |none=>obtain⟨rfl,u⟩:=u;exact m a b (.str r) (n.trans u.ext) (u.sok l) fF
     |some q=>obtain⟨p,H1,u,hp,rfl,rfl⟩:=u;have d:=u.sok l;exact m a _ _ ((n.trans u.ext).trans (.laid hp)) (d.laid hp) (by unfold Rep;exact⟨p,_,rfl,a7,⟨d.notin hp,d.notF hp⟩,.cons fF (.cons fF .nil)⟩)
theorem CZ(O:lm X N sc CX E Φ Γ k){i:Nat}{f:Str}{y W:Ls}(h:vg (.tryK i body f y W) N sc st=Nj)(d:XC X.prog X.w X.K X.mg (.kind f y W))
  (c:∀{X':Cx} {E':XK},X'.prog=X.prog->X'.w=X.w->X'.K=X.K->X'.mg=X.mg->lm X' N sc CX E' Φ Γ k->d9 X' (cr body N (vs st).a) (kX X'.K X'.mg E' Φ Γ body)):PS X (je (.tryK i body f y W) N st) (tS X.K X.mg E Φ Γ (.tryK i body f y W)):=by
 intro p s l H D I ⟨F,j,a,S,g,b,w⟩;refine vO O (nb:=none) h d c p s l H D I ⟨F,j,a,S,g,b,?_⟩;have e:iC none y W (af Φ Γ body a S)=ap Φ Γ (.tryK i body f y W) a S:=rfl;trivial
theorem JU(O:lm X N sc CX E Φ Γ k){x:Str}{es:List CE}(h:vg (.raiseI x es) N sc st=Nj)(hx:CY X.prog X.w X.K X.mg k (.init x))(ha:PA X (cB es N (vw (vs st).e0).es) (tL X.K X.mg E Φ Γ es)):PS X (je (.raiseI x es) N st) (tS X.K X.mg E Φ Γ (.raiseI x es)):=by
 obtain⟨l,h⟩:=aa h;obtain⟨_,h⟩:=aa h;obtain⟨n,h3⟩:=aa h;obtain⟨⟨C,Q,fI,cd,hm,kp,G,T,IF,hb⟩,hk⟩:=hx;obtain⟨g1,g2,_⟩:=cL l;intro pq s σ H D I zz;obtain⟨F,μ,ρ,S,sk,en,w⟩:=zz;obtain⟨bm,N0,nm,qn,bs,V,sn,Y,ab,W,dd,k0,k1,k2,k3,k5,mN,hC,hN,hi,TL⟩:=o7 I.mod.kin hb;obtain⟨fd,FI,BI,od,osl,lk⟩:=o5 (P:=X.prog) (w:=X.w) (mg:=X.mg) (base:=X.base) (CX:=Fu) (k:=0) IF G.z T G.mn G.mt;have hst:∀z∈cB es N (vw (vs st).e0).es,bA z=Nj:=Zl.mp h3;show wpAny _ _ (exec (.Raise (some (.Call (.Name x _) (cB es N _) [] _)) none _) X.env) _ _ s;rw[arm_exec_Raise];refine Za (OH (JN (C:=C) (nm:=nm) (q:=qn) (N:=N0) (bs:=bs) (bm:=bm) (hdct:=V) (sn:=sn) (sub:=Y) (ab:=ab) (col:=W) (dd:=dd) (k0:=k0) (k1:=k1) (k2:=k2) (k3:=k3) (k5:=k5) (TL.hasType (by decide+kernel)) (I.ok.hd O.x.calm) ?_));refine Za (ZH (Q:=λv A=>∃e dx vs,v=NA e/\A.heap.get? C=some (excClassObj nm qn C N0 bs bm V sn Y ab W dd k0 k1 k2 k3 k5 "ValueError.__new__")/\A.heap.get? e=some {cls:=NA C,dict:=dx,data:=Data.fields vs}/\vs[1]?=some Nr/\X.xe (NA e) A) ?_ (λv s' q=>Za (OH (Zd q))) λ_ _ q=>q);refine Of (iK I (O.x.gl g1) hm ?_ g2);cases es with
 |nil=>cases n
 |cons e es=>
  have he:=cq (env:=X.env) (es:=cB es N (vw (vs st).e0).es.tail) (hst _ Ze);have hpl:=hW (env:=X.env) (pos:=(vw (vs st).e0).pos) (es:=cB es N (vw (vs st).e0).es.tail) λz hz=>hst z (Zc _ hz);have h':=ha (vw (vs st).e0).pos pq s σ H (λws H1=>∃a b B L,ws=[.int a,.int b]/\Ext μ H B H1/\aJ X.K ⟨X.mg,F⟩ B L H1/\∀U H',Ext B H1 U H'->aJ X.K ⟨X.mg,F⟩ U L H'->ug X.mg E ⟨x,[.int a,.int b]⟩ H') I ⟨F,μ,ρ,S,sk,en,?_⟩
  ·refine PySem.W.callWith_K (h₀:=X.base) I.ok.mod.kin kp (aN h' λus s1 ⟨ws,H1,K,r,a,b,B,L,hw,x1,ss1,hE⟩=>⟨K.kIn,?_⟩) he hpl;subst hw;obtain⟨hh,g,d,t,os⟩:=s1;have hl:us.length<=sizeLine:=by rw[<-r.length];show 2<=sizeLine;decide
   refine JM (TL.keeps K.bk) (K.bs _ _ hC).1 (hN.keeps K.bk) hi (K.kIn _ _ lk) rfl hl λh' e m=>?_;obtain⟨t0,m1,m2,m3⟩:=m.there
   have nH:H1 e=none:=by
    cases R:H1 e with
    |none=>rfl
    |some u=>obtain⟨o,ho⟩:=vr (K.hok e u R);rw[m.new]at ho;cases ho
   have n0:X.s₀.heap.get? e=none:=by
    cases R:X.s₀.heap.get? e with
    |none=>rfl
    |some o=>obtain⟨o',h10⟩:=K.base.there e o R (by rw[O.fr.1];simp);rw[m.new]at h10;cases h10
   have np:∀p∈X.pn++pq,p.1≠e:=λp hp z=>by have:=(K.pin p hp).1;rw[z,m.new]at this;cases this
   have J:=K.kept (t':=t) m.keeps;have J2:=CC (ob:=gY e C _ none) J O.fr.1 n0 np nH m1 rfl (lj m1);have hr:b4 1 (X.A.under (.builtin "type.__call__" ⟨.ref C::us,[]⟩)):=(O.x.room.mono hk).make C us []
   refine Pt (OT (FI.run _ X.stack _ _ _ (.ref e::us) [.ref e,.int a,.int b] (λv H2=>v=.non/\∃d u v,RelV (.int a) u/\RelV (.int b) v/\aO H1 e (gY e C _ none) d=none/\H2=aO (aO (aO (aO H1 e (gY e C _ none)) d (iA d (fy "many" u λ_=>none))) e (gY e C _ (some d))) d (iA d (fy "most" v (fy "many" u λ_=>none)))) E0 hr (J2.env0.make C us []) (by
    have:=BI ⟨h',g,d,t,os⟩ (.ref e::us) J2.kIn (by rw[N4,ZS,<-r.length];rfl)
    rwa [N4]at this) (.cons rfl r) ⟨e,a,b,_,rfl,a7,λd u v ru rv V=>⟨rfl,d,u,v,ru,rv,V,rfl⟩⟩) λrs s' R=>?_)
   cases rs with
   |error z=>exact R.elim
   |ok fl=>
    cases fl with
    |ret u=>
     obtain⟨v,H2,I2,r2,ev,d,u1,v1,ru,rv,V,eH⟩:=J2.after R;subst ev eH;obtain rfl:u=Nr:=r2;have c:d≠e:=λz=>by rw[z,a7]at V;cases V
     have hd1:H1 d=none:=by rwa [au c]at V
     obtain⟨g1,_,_⟩:=(show aP X.prog X.w _ s'.heap e (gY e C _ (some d))from I2.hok e _ (by rw[au (Ne.symm c),a7]));obtain⟨g2,⟨od2,g3⟩,_⟩:=(show aP X.prog X.w _ s'.heap d (iA d (fy "most" v1 (fy "many" u1 λ_=>none)))from I2.hok d _ a7);have I3:=I2.write (x:=d) (e:=d) (o:=.xd (rS a b)) (h':=s'.heap) (t':=s'.toks) (by rw[a7];exact Ph) (.inl rfl) (λb u _ h=>h) ⟨_,g3⟩ ⟨_,g2,λf=>?_⟩
     ·have I4:=JC (e:=e) I3 (by rw[au (Ne.symm c),au (Ne.symm c),a7];rfl)
      have eq:∀Z:Av,gD (aO (aO (aO (aO (aO H1 e (gY e C Z none)) d (iA d (fy "many" u1 λ_=>none))) e (gY e C Z (some d))) d (iA d (fy "most" v1 (fy "many" u1 λ_=>none)))) d (.xd (rS a b))) e=aO H1 d (.xd (rS a b)):=by
       intro Z;funext z;unfold gD;by_cases l:z=e
       ·rw[if_pos l,l,au (Ne.symm c),nH]
       ·rw[if_neg l];by_cases n:z=d
        ·rw[n,a7,a7]
        ·rw[au n,au n,au l,au n,au l,au n]
      rw[eq]at I4;have M:=O.made pq σ H1 _ _ s' e C (some d) #[NA t0,Nr,Nr,Nr,OF Nk,Nr] (.ref t0) K m.new I4 g1 rfl rfl (by rw[au (Ne.symm c),nH]) (hE B _ (.laid hd1) (ss1.laid hd1) (.ref C) (some d) ⟨hm,.inr ⟨d,a,b,rfl,rfl,a7⟩⟩);refine⟨rfl,?_⟩;exact⟨e,some d, #[NA t0,Nr,Nr,Nr,OF Nk,Nr],rfl,(I2.bs _ _ hC).1,g1,rfl,M⟩
     ·unfold fy rS;by_cases l:f="most"
      ·subst l;exact rv
      ·by_cases n:f="many"
       ·subst n;exact ru
       ·rw[if_neg l,if_neg n];have e1:(f==("many":Str))=Nk:=by simpa using n
        have e2:(f==("most":Str))=Nk:=by simpa using l
        simp only[List.lookup,e1,e2];exact Ph
    |next=>exact False.elim R
    |brk=>exact False.elim R
    |cont=>exact False.elim R
  ·have w':ar X.K ⟨X.mg,F⟩ E D μ H ((ah Φ Γ (e::es) ρ S).bind λds L=>match ds with
    | [.int i,.int j]=>.err ⟨x,[.int i,.int j]⟩ L
    |_=>.fail):=w
   cases ed:ah Φ Γ (e::es) ρ S with
   |ok ds L=>
    rw[ed]at w';intro U H' ws x1 s1 r1
    have w2:ar X.K ⟨X.mg,F⟩ E D μ H (match(generalizing:=false) ds with
     | [.int i,.int j]=>.err ⟨x,[.int i,.int j]⟩ L
     |_=>.fail):=w'
    split at w2
    ·rename_i i j;obtain⟨va,vb,rfl,ra,rb⟩:=r1.two;obtain rfl:=(show va=.int i from by unfold Rep at ra;exact ra);obtain rfl:=(show vb=.int j from by unfold Rep at rb;exact rb);exact⟨i,j,U,L,rfl,x1,s1,λμ2 H2 x2 s2=>w2 μ2 H2 (x1.trans x2) s2⟩
    ·exact w2.elim
   |err y L=>rw[ed]at w';exact w'
   |fail=>rw[ed]at w';exact w'
theorem pg(O:lm X N sc CX E Φ Γ k){pre:Option Str}{g:Str}{i:Nat}{f:Str}{y W:Ls}(h:vg (.tryG pre g i body f y W) N sc st=Nj)(hx:XC X.prog X.w X.K X.mg (.kind f y W))(hg:XC X.prog X.w X.K X.mg (.great g y W))
  (hb:∀{X':Cx} {E':XK},X'.prog=X.prog->X'.w=X.w->X'.K=X.K->X'.mg=X.mg->lm X' N sc CX E' Φ Γ k->d9 X' (cr body N (vs st).a) (kX X'.K X'.mg E' Φ Γ body)):PS X (je (.tryG pre g i body f y W) N st) (tS X.K X.mg E Φ Γ (.tryG pre g i body f y W)):=by
 obtain⟨h1,h⟩:=aa h;obtain⟨h2,h⟩:=aa h;obtain⟨h3,h⟩:=aa h;obtain⟨h4,h⟩:=aa h;obtain⟨h5,h6⟩:=aa h;obtain⟨Y,P,m1,m2,m3,m4⟩:=hx;obtain⟨g1,g2,_⟩:=cL h4;obtain⟨g3,g4,_⟩:=cL h5;have Z:ia X "PairError" (N.getD i "") f i Y P:=⟨O.fr.1,O.fr.2.1,O.fr.2.2,O.x.room.depth,⟨O.x.gl g1,m3,g2⟩,⟨O.x.gl g3,m1,g4⟩,m2,by rw[O.x.n];exact O.x.nd,by rw[O.x.n];exact Zv h1,by rw[O.x.sc];exact Zv h2,h3,O.x.fn _ rfl⟩;intro pq s σ H D I zz;obtain⟨F,A,m,S,sk,V,w⟩:=zz;refine lg I (hb (X':=XB X pq D _) (E':=EH X (MD pre g (N.getD i "") f ((vs st).b.headD dS) ((vs st).b.tail.headD dS)) i P D) rfl rfl rfl rfl ⟨⟨O.x.n,O.x.nd,O.x.sc,O.x.kd,O.x.calm,O.x.room,O.x.fn,O.x.mod,?_,O.x.cx0⟩,rP,O.cx,O.fr,rR Z⟩) ⟨F,A,m,S,sk,V,?_⟩
 ·rw[O.cx];exact rQ Z
 ·show ar X.K ⟨X.mg,F⟩ (EH X _ i P D) D A H (af Φ Γ body m S);have w:ar X.K ⟨X.mg,F⟩ E D A H (ap Φ Γ (.tryG pre g i body f y W) m S):=w;rw[ap]at w;cases o:af Φ Γ body m S with
  |ok fl L=>rw[o]at w;cases fl<;>exact w
  |fail=>rw[o]at w;exact w
  |err x L=>
   rw[o]at w;obtain⟨cls,fs⟩:=x;dsimp only at w;cases e:(y.zip W).lookup cls with
   |none=>rw[e]at w;exact False.elim w
   |some r=>
    rw[e]at w;dsimp only at w;intro c H' K J v B t;obtain⟨C,Q,R,T⟩:=m4 cls r e v t.1;subst Q;refine JH (pre:=pre.map _) Z (T _) R (λl n u=>?_) (λl=>?_)
    ·rw[if_neg l]at w;cases fs with
     |cons _ _=>exact False.elim w
     |nil=>exact w c n (.str r) (K.trans u.ext) (u.sok J) fF
    ·rw[if_pos l]at w;obtain⟨C',M,U,G⟩:=hg cls (by rw[e,l]) _ t.1;cases U;split at w
     ·rename_i a b;obtain⟨_,q| ⟨d,a',b',rfl,q,hd⟩⟩:=t
      ·cases q
      ·cases q;refine⟨d,a,b,M,rfl,hd,G,λp H1 u j=>?_⟩;have z:=u.sok J;refine w c _ _ ((K.trans u.ext).trans (.laid j)) (z.laid j) ?_;unfold Rep;refine⟨p,_,rfl,a7,⟨z.notin j,z.notF j⟩,?_⟩;cases pre with
       |none=>exact .cons bo (.cons bo .nil)
       |some q=>exact .cons fF (.cons bo (.cons bo .nil))
     ·exact False.elim w
end
mutual
theorem vP(c:CS):∀{X:Cx} {N:Ls} {sc:Sc} {CX:dj} {E:XK} {Φ:FT} {Γ:Str->Option D} {k:Nat} {st:Om},lm X N sc CX E Φ Γ k->vg c N sc st=Nj->(∀z∈MG c,CY X.prog X.w X.K X.mg k z)->PS X (je c N st) (tS X.K X.mg E Φ Γ c):=by
 intro X N sc CX E Φ Γ k st O h d;cases c with
 |asg i e=>exact Cj O.x h
 |asgT t e=>exact vH O.x (kU (aa h).1) ((aa (aa h).2).1) (aa (aa (aa h).2).2).1 (aa (aa (aa (aa h).2).2).2).1 (aK e O.x (aa (aa (aa (aa h).2).2).2).2)
 |par is l=>exact CN O.x (aa h).1 (hV (aa (aa h).2).1) (aa (aa (aa h).2).2).2 (da l O.x (aa (aa (aa h).2).2).1)
 |set o i v=>exact CO (aa (aa h).1).1 (aa (aa h).2).1 (aK o O.x (aa (aa (aa h).1).2).1) (aK i O.x (aa (aa (aa h).1).2).2) (aK v O.x (aa (aa h).2).2)
 |expr e=>exact vI (aa h).1 (aK e O.x (aa h).2)
 |ret e=>exact CP (aK e O.x h)
 |retN=>exact vJ
 |pass=>exact vK
 |brk=>exact CQ
 |cont=>exact vL
 |ite c a b=>exact JT (dO c O.x (aa h).1) (gE a O (aa (aa h).2).1 λz j=>d z (NI _ j)) (gE b O (aa (aa h).2).2 λz j=>d z (ZD _ j))
 |for_ t it body=>exact CW O.own O.x.calm (oO it O.x (aa (aa h).2).1 kU) (kE O.x (aa h).1) (oD (aa (aa (aa h).2).2).1) (gE body O (aa (aa (aa h).2).2).2 d)
 |while_ n c body=>exact pc O.own (dO c O.x (aa h).1) (gE body O (aa h).2 d)
 |never=>exact λP s K H D I Z=>aE Z λF G J S C B w=>w.elim
 |raise_ x l=>exact pf O h (d _ Ze).1 (da l O.x (aa (aa h).2).1)
 |tryK i body f Y W=>exact CZ O h (d _ Ze).1 λ{A y} p q r u m=>gE body m (aa (aa (aa (aa (aa h).2).2).2).2).2 λz j=>by rw[p,q,r,u];exact d z (Zc _ j)
 |raiseI x l=>exact JU O h (d _ Ze) (da l O.x (aa (aa h).2).1)
 |tryG pre g i body f Y W=>exact pg O h (d _ Ze).1 (d _ (Zc _ Ze)).1 λ{A y} p q r u m=>gE body m (aa (aa (aa (aa (aa h).2).2).2).2).2 λz j=>by rw[p,q,r,u];exact d z (Zc _ (Zc _ j))
theorem gE(cs:List CS):∀{X:Cx} {N:Ls} {sc:Sc} {CX:dj} {E:XK} {Φ:FT} {Γ:Str->Option D} {k:Nat} {st:List Om},lm X N sc CX E Φ Γ k->ea cs N sc st=Nj->(∀z∈dB cs,CY X.prog X.w X.K X.mg k z)->d9 X (cr cs N st) (kX X.K X.mg E Φ Γ cs):=by
 intro X N sc CX E Φ Γ k st O h a;cases cs with
 |nil=>exact vM
 |cons c cs=>exact o_ (vP c O (aa h).1 λz H=>a z (NI _ H)) (gE cs O (aa h).2 λz H=>a z (ZD _ H))
end
mutual
noncomputable def aZ(k:Nat):D->Bool
 | .tup xs=>bw k xs
 | .lst xs=>bw k xs
 | .scr xs=>bw k xs
 | .ref n=>decide (n<k)
 |_=>Nj
noncomputable def bw(k:Nat):List D->Bool
 | []=>Nj
 |x::xs=>aZ k x&&bw k xs
end
noncomputable def ee(k:Nat)(d:D)(S':ae):Res D:=
 if(S'.take k).all (bw k)=Nj then
  (if aZ k d=Nj then .ok d (S'.take k)else match d with
   | .ref n=>(match S'[n]? with
    |some xs=>if bw k xs=Nj/\k<=n then .ok (.ref k) (S'.take k++[xs])else .fail
    |none=>.fail)
   |_=>.fail)
 else .fail
noncomputable def aC(Φ:FT)(Γ:Str->Option D)(body:List CS)(n np:Nat)(ds:List D)(S:ae):Res D:=
 if ds.length=np then
  (match af Φ Γ body (ds.map some++Nu (n-np) none) S with
  | .ok (.ret d) S'=>ee S.length d S'
  | .ok (.next _) S'=>ee S.length .non S'
  | .err x S'=>if(S'.take S.length).all (bw S.length)=Nj then .err x (S'.take S.length)else .fail
  |_=>.fail)
 else .fail
section
variable {mg:GS}{μ'':La}{k:Nat}
mutual
theorem Rep.low(b:∀n,n<k->μ''[n]?=μ'[n]?)(hs:∀a∈μ'',a∈μ'):∀(d:D) (v:V),aZ k d=Nj->Rep K mg μ' H d v->Rep K mg μ'' H d v
 | .non,_,_,h=>h
 | .bl _,_,_,h=>h
 | .int _,_,_,h=>h
 | .str _,_,_,h=>h
 | .tup _,v,l,h=>by obtain⟨a,vs,e,q,r⟩:=h;exact⟨a,_,e,q,ai.low b hs _ _ l r⟩
 | .lst _,v,l,h=>by obtain⟨a,vs,e,q,n,r⟩:=h;exact⟨a,_,e,q,⟨λz=>n.1 (hs a z),n.2⟩,ai.low b hs _ _ l r⟩
 | .scr _,v,l,h=>by obtain⟨a,vs,e,q,r⟩:=h;exact⟨a,_,e,q,ai.low b hs _ _ l r⟩
 | .ref n,v,l,h=>by dsimp only[Rep]at h⊢;dsimp only[aZ]at l;simp_all
 | .fn y,v,_,h=>h
 | .ty y,v,_,h=>h
 | .dct,v,_,h=>h
 | .dks _,v,_,h=>h
theorem ai.low(b:∀n,n<k->μ''[n]?=μ'[n]?)(hs:∀a∈μ'',a∈μ'):∀(ds:List D) (vs:List V),bw k ds=Nj->ai K mg μ' H ds vs->ai K mg μ'' H ds vs
 | [],vs,_,h=>h
 |d::ds,vs,l,h=>by dsimp only[bw]at l;simp at l;obtain⟨w,W,e,r,q⟩:=h;exact⟨w,_,e,Rep.low b hs d w l.1 r,ai.low b hs _ _ l.2 q⟩
end
theorem Ext.cut(x:Ext μ H μ' H'):Ext μ H μ H':=⟨⟨[],by simp⟩,x.keep,x.there,λ_ h=>.inl h⟩
theorem aJ.cut(x:Ext μ H μ' H')(f:μ.length=k)(s:aJ K mg μ' S' H')(l:(S'.take k).all (bw k)=Nj):aJ K mg μ (S'.take k) H':=by obtain⟨r,rfl⟩:=x.pre;have g:=s.len;refine⟨s.live,by grind,(OC.mp s.nd).1,λn a D e h=>?_⟩;have c:=h;rw[P2 (by grind)]at h;obtain⟨vs,q,R⟩:=s.at_ n a _ (by grind) h;exact⟨_,q,ai.low λm i=>by grind (λb d=>NI _ d) _ _ (Zl.mp l _ (Zq c)) R⟩
theorem C0{E:XK}{Q:VK}(x:Ext μ H μ' H')(I:μ.length=k)(s:aJ K mg μ' S' H')(r:Rep K mg μ' H' d v)(w:ak K mg E (Rep K mg) μ H Q (ee k d S')):Q v H':=by
 unfold ee at w;split at w
 ·rename_i A;split at w
  ·rename_i G;refine w μ H' v x.cut (aJ.cut x I s A) ?_;obtain⟨R,rfl⟩:=x.pre;exact Rep.low (k:=k) (λm p=>by grind) (λb f=>NI _ f) _ _ G r
  ·split at w
   ·rename_i n J;split at w
    ·rename_i X L;split at w
     ·rename_i u;unfold Rep at r;obtain⟨a,rfl,F⟩:=r;obtain⟨vs,q,N⟩:=s.at_ n a X F L;obtain⟨R,rfl⟩:=x.pre;have Cf:=OC.mp s.nd;have P:μ.length<=n:=by omega
      have e:a∈R:=by grind
      have t:a∉μ:=λz=>Cf.2.2 a z a e rfl
      have l:H a=none:=by
       rcases x.fresh a (ZD _ e)with z|z
       ·exact absurd z t
       ·exact z
      have g:∀b∈μ++[a],b∈μ++R:=λb f=>by grind
      have S:∀m,m<k->(μ++[a])[m]?=(μ++R)[m]? :=λm p=>by grind
      have o:=s.len;simp at o;refine w (μ++[a]) H' (.ref a) ⟨⟨[a],rfl⟩,x.keep,x.there,λb f=>?_⟩ ⟨s.live,?_,?_,λm b D i h=>?_⟩ ?_
      ·rcases ZR.mp f with z|z
       ·exact .inl z
       ·have:b=a:=by grind
        subst this;exact .inr l
      ·rw[Zn,Zn,OL];simp;omega
      ·rw[OC];exact⟨Cf.1,by simp,λb f c O=>by grind⟩
      ·by_cases p:m<μ.length
       ·rw[NG p]at i;rw[NG (by grind)]at h;have j:=h;rw[P2 (by omega)]at h;obtain⟨W,M,y⟩:=s.at_ m b D (by grind) h;exact⟨W,M,ai.low (k:=k) S g _ _ (Zl.mp A D (Zq j)) y⟩
       ·have B:m=μ.length:=by grind
        subst B;rw[ZK (Zh _)]at i;rw[ZK (by grind)]at h;have C:μ.length-(S'.take k).length=0:=by grind
        rw[C]at h;simp at i h;subst i;subst h;exact⟨vs,q,ai.low (k:=k) S g _ _ u.1 N⟩
      ·unfold Rep;exact⟨a,rfl,by grind⟩
     ·exact w.elim
    ·exact w.elim
   ·exact w.elim
 ·exact w.elim
end
theorem JV{mg:GS}{vs:List V}(r:ai K mg μ H ds vs):aV K mg μ H (ds.map some++Nu (N.length-ds.length) none) (L2.start N vs):=by
 unfold L2.start;have c:=r.length;refine⟨by simp_all,λi d e=>?_⟩;by_cases b:i<ds.length
 ·cases E:ds[i]? with
  |none=>simp_all
  |some D=>
   obtain⟨v,h,a⟩:=r.get E
   grind
 grind
section
variable {P:Nt}{k:Nat}
theorem bJ.mono{j:Nat}{f:Str}(F:bJ P w K mg base CX j f φ)(h:j<=k):bJ P w K mg base CX k f φ:=by obtain⟨c,d,p,m,M,m3,a,b⟩:=F.ex;exact⟨_,_,_,m,M,m3,a.mono h,b⟩
theorem C1{x:Str}{u:N_}(F:mM K x qual st f u)(S:bt N ps (bi st))(M:Fx P w K mg base (bh P w) Φ Γ k)(R:cr body N (bS st)=bS st)(J:ea body N (bi st).names (bS st)=Nj)(V:∀z∈dB body,CY P w K mg k z):
  cH P w K mg base (bh P w) (k+1) f u ps (ul K mg ps.length (aC Φ Γ body N.length ps.length)):=by
 obtain⟨oc,od,kV,G,pm,an,c,ct,X,rfl,lk,n⟩:=F.ex;refine q9 lk n S (λvs H Q E h=>h.1) λA o s H vs Q E U h=>?_
 ·obtain⟨T,q,l,b,D,B,r,W⟩:=h;have L:jM (eD (bh P w) P w K mg base N qual (bi st) f c A o s H E) E:=jM.of;have O:lm (eD (bh P w) P w K mg base N qual (bi st) f c A o s H E) N (bi st).names (bh P w) E Φ Γ k:=⟨⟨rfl,S.nd,rfl,S.kind,rfl,U,λ_ _=>rfl,M,L.pass,rO⟩,L.own,rfl,⟨rfl,rfl,rfl⟩,L.all⟩;refine⟨_,R▸gE body O J V,q,l,D.map some++Nu (N.length-D.length) none,b,B,JV r,?_⟩;have g:D.length=ps.length:=by rw[r.length];exact T
  unfold aC at W;rw[if_pos g,<-g]at W;have a:l.length=b.length:=B.len;show ar K ⟨mg,q⟩ E _ l H (af Φ Γ body (D.map some++Nu (N.length-D.length) none) b);cases e:af Φ Γ body (D.map some++Nu (N.length-D.length) none) b with
  |ok I t=>
   rw[e]at W;cases I with
   |next C=>exact λj m Z x i _=>C0 x a i j7 W
   |ret d=>exact λj m v x i Y=>C0 x a i Y W
   |brk C=>exact W.elim
   |cont C=>exact W.elim
  |err y t=>
   rw[e]at W;intro j m x i;by_cases p:(t.take b.length).all (bw b.length)=Nj
   ·simp only[p,if_true]at W;exact W l m x.cut (aJ.cut x a i p)
   ·simp only[p]at W;exact W.elim
  |fail=>rw[e]at W;exact W.elim
theorem M_{x:Str}{a:N_}(F:mM K x qual st f a)(S:bt N ps (bi st))(g:mg x=some (.ref f))(b:Binds K a ps [])(M:Fx P w K mg base (bh P w) Φ Γ k)(e:cr body N (bS st)=bS st)(c:ea body N (bi st).names (bS st)=Nj)(i:∀z∈dB body,CY P w K mg k z):
  bJ P w K mg base (bh P w) (k+1) x (aC Φ Γ body N.length ps.length):=by
 refine⟨f,a,ps,g,F.kp,b,C1 F S M e c i,λd j H=>?_⟩;unfold aC at H;by_cases h:d.length=ps.length
 ·exact h
 ·rw[if_neg h]at H;exact absurd rfl H
theorem JW{x:Str}{b:N_}(F:mM K x qual st f b)(S:bt N ps (bi st))(d:mg x=some (.ref f))(c:Binds K b ps []):bJ P w K mg base (bh P w) k x (λ_ _=>.fail):=
 ⟨f,_,_,d,F.kp,c,⟨λvs H Q E h=>h.1,λA o s H a u vs Q E _ _ _ _ h=>by obtain⟨_,_,_,_,_,_,_,z⟩:=h;exact z.elim⟩,λ_ _ h=>absurd rfl h⟩
theorem ef{P:Lv->Prop}(h:∀a,P [a]):∀us:Lv,us.length=1->P us:=λus H=>by obtain⟨a,rfl⟩:=List.length_eq_one_iff.mp H;exact h a
theorem bW{P:Lv->Prop}(h:∀a b,P [a,b]):∀us:Lv,us.length=2->P us:=λus H=>by
 cases us with
 |nil=>cases H
 |cons a us=>exact ef (P:=λus=>P _) (h a) _ (Zz H)
theorem jj{P:Lv->Prop}(h:∀a b c,P [a,b,c]):∀us:Lv,us.length=3->P us:=λus H=>by
 cases us with
 |nil=>cases H
 |cons a us=>exact bW (P:=λus=>P _) (h a) _ (Zz H)
noncomputable def tbl(l:List (Str×(List D->ae->Res D))):FT:=λf=>l.lookup f
theorem MI(h:∀p∈l,bJ P w K mg base (bh P w) k p.1 p.2)(b:∀x d,Γ x=some d->∃v u,mg x=some u/\RelV v u/\∀F μ H,Rep K ⟨mg,F⟩ μ H d v)(a:∀x∈gk,mg x=none):Fx P w K mg base (bh P w) (tbl l) Γ k:=
 ⟨λf c e=>h _ (ZC e),b,a⟩
end
end Py
namespace K04
noncomputable def ph:Ls:=["NoWeb","NoPlace","NoPlaces","NoTie","NoNumber","NoPairing","NoWay","NoRing","NoArrows","NoSides","NoText","NoLine","NoDeed","TooGreat"]
noncomputable def lW:Ls:=["web","place","places","tie","number","pairing","way","ring","arrows","sides","text","line","deed","great"]
noncomputable def G0:Str->Option D:=λx=>[(("MOST_PLACES":Str),D.int 8)].lookup x
def C2:Ls:=["thing"]
noncomputable def C3:List CS:=[.ret (.band (.blt .isinst [.var 0,.ty "int"]) (.bnot (.blt .isinst [.var 0,.ty "bool"])))]
def JX:FT:=tbl []
def ff:List D->ae->Res D:=aC JX G0 C3 C2.length 1
def C4:Ls:=["thing","low","high"]
noncomputable def ln:List CS:=[.ret (.band (.call "is_number" [.var 0]) (.chain .LtE .LtE (.var 1) (.var 0) (.var 2)))]
def C5:FT:=tbl [("is_number",ff)]
theorem pi:C5 "is_number"=some ff:=rfl
def fQ:List D->ae->Res D:=aC C5 G0 ln C4.length 3
def C6:Ls:=["many","thing"]
noncomputable def lp:List CS:=[.ret (.call "is_number_from" [.var 1,.lit (.int 0),.bin .Sub (.var 0) (.lit (.int 1))])]
def vQ:FT:=tbl [("is_number_from",fQ)]
theorem vR:vQ "is_number_from"=some fQ:=rfl
def eg:List D->ae->Res D:=aC vQ G0 lp C6.length 2
def vS:Ls:=["things"]
noncomputable def vT:List CS:=[.ret (.blt .all [.comp Nk ["one","other"] [none,none] (.tup [.var 0,.var 1]) (.zip [.var 0,.sl (.var 0) [.lit (.int 1)] []]) [] (.emit (.cmp .Lt (.var 0) (.var 1)))])]
def JY:FT:=tbl []
def cE:List D->ae->Res D:=aC JY G0 vT vS.length 1
def JZ:Ls:=["many","thing"]
noncomputable def rV:CE:=.comp Nk ["place","many"] [none,some 0] (.var 0) (.seq (.var 1)) [] (.emit (.call "is_place" [.var 1,.var 0]))
noncomputable def lq:List CS:=[.ret (.band (.blt .isinst [.var 1,.ty "tuple"]) (.blt .all [rV]))]
def jk:FT:=tbl [("is_place",eg)]
theorem J1:jk "is_place"=some eg:=rfl
def dC:List D->ae->Res D:=aC jk G0 lq JZ.length 2
def J3:Ls:=["many","thing"]
noncomputable def jl:List CS:=[.ret (.band (.call "are_places" [.var 0,.var 1]) (.band (.cmp .Eq (.blt .len [.var 1]) (.lit (.int 2))) (.call "is_rising" [.var 1])))]
def pj:FT:=tbl [("are_places",dC),("is_rising",cE)]
theorem po:pj "are_places"=some dC:=rfl
theorem C7:pj "is_rising"=some cE:=rfl
def fR:List D->ae->Res D:=aC pj G0 jl J3.length 2
def C8:Ls:=["thing","many","ties"]
noncomputable def C9:CE:=.bor (.bnot (.blt .isinst [.var 0,.ty "tuple"])) (.cmp .NotEq (.blt .len [.var 0]) (.lit (.int 2)))
noncomputable def J4:CE:=.bor (.bnot (.call "is_number_from" [.var 1,.lit (.int 1),.glob "MOST_PLACES"])) (.bnot (.blt .isinst [.var 2,.ty "tuple"]))
noncomputable def yh:CE:=.comp Nk ["tie","many"] [none,some 1] (.var 0) (.seq (.var 2)) [] (.emit (.call "is_tie" [.var 1,.var 0]))
noncomputable def jm:List CS:=[.ite C9 [.ret (.lit (.bl Nk))] [],.asgT (.tup [.var 1,.var 2]) (.var 0),.ite J4 [.ret (.lit (.bl Nk))] [],.ret (.band (.blt .all [yh]) (.call "is_rising" [.var 2]))]
noncomputable def db:FT:=tbl [("is_rising",cE),("is_number_from",fQ),("is_tie",fR)]
theorem C_:db "is_rising"=some cE:=rfl
theorem Dc:db "is_number_from"=some fQ:=rfl
theorem Dd:db "is_tie"=some fR:=rfl
def dc:List D->ae->Res D:=aC db G0 jm C8.length 1
def vU:Ls:=["web","thing"]
noncomputable def vV:List CS:=[.ret (.band (.call "are_places" [.idx (.var 0) (.lit (.int 0)),.var 1]) (.call "is_rising" [.var 1]))]
def vW:FT:=tbl [("are_places",dC),("is_rising",cE)]
theorem De:vW "are_places"=some dC:=rfl
theorem J5:vW "is_rising"=some cE:=rfl
def fg:List D->ae->Res D:=aC vW G0 vV vU.length 2
def Dg:Ls:=["thing"]
noncomputable def vX:List CS:=[.ite (.bnot (.call "is_web" [.var 0])) [.raise_ "NoWeb" [.lit (.str "this is no web")]] []]
def Dh:FT:=tbl [("is_web",dc)]
theorem Di:Dh "is_web"=some dc:=rfl
def de:List D->ae->Res D:=aC Dh G0 vX Dg.length 1
def Dj:Ls:=["web","thing"]
noncomputable def Dk:List CS:=[.ite (.bnot (.call "is_place" [.idx (.var 0) (.lit (.int 0)),.var 1])) [.raise_ "NoPlace" [.lit (.str "this is no place of the web")]] []]
def Dl:FT:=tbl [("is_place",eg)]
theorem J6:Dl "is_place"=some eg:=rfl
def pp:List D->ae->Res D:=aC Dl G0 Dk Dj.length 2
def Dm:Ls:=["web","thing"]
noncomputable def Dq:List CS:=[.ite (.bnot (.call "is_some" [.var 0,.var 1])) [.raise_ "NoPlaces" [.lit (.str "this is no rising tuple of places of the web")]] []]
def Dr:FT:=tbl [("is_some",fg)]
theorem J7:Dr "is_some"=some fg:=rfl
def pr:List D->ae->Res D:=aC Dr G0 Dq Dm.length 2
def J8:Ls:=["one","other"]
noncomputable def J9:List CS:=[.ret (.tup [.blt .min [.var 0,.var 1],.blt .max [.var 0,.var 1]])]
def J_:FT:=tbl []
def Ds:List D->ae->Res D:=aC J_ G0 J9 J8.length 2
def J':Ls:=["web","one","other"]
noncomputable def Ka:List CS:=[.ret (.cmp .In (.call "tie_of" [.var 1,.var 2]) (.idx (.var 0) (.lit (.int 1))))]
def Kb:FT:=tbl [("tie_of",Ds)]
def vY:List D->ae->Res D:=aC Kb G0 Ka J'.length 3
def vZ:Ls:=["web","place"]
noncomputable def v8:List CS:=[.expr (.call "must_be_web" [.var 0]),.expr (.call "must_be_place" [.var 0,.var 1]),.ret (.blt .tuple [.comp Nk ["other","web","place"] [none,some 0,some 1] (.var 0) (.range [.idx (.var 0) (.lit (.int 0))]) [.call "have_tie" [.var 1,.var 2,.var 0]] (.emit (.var 0))])]
noncomputable def v9:FT:=tbl [("must_be_web",de),("must_be_place",pp),("have_tie",vY)]
theorem Dt:v9 "must_be_web"=some de:=rfl
theorem Kc:v9 "must_be_place"=some pp:=rfl
def gF:List D->ae->Res D:=aC v9 G0 v8 vZ.length 2
noncomputable def Kd:Ls:=["web","left","start","reached","waiting","here","fresh"]
noncomputable def Ke:List CS:=[.asg 3 (.lst Nj [.var 2]),.asg 4 (.lst Nj [.var 2]),.while_ 100 (.var 4) [.asg 5 (.meth .pop (.var 4) []),.asg 6 (.comp Nk ["place","reached","web","here"] [none,some 3,some 0,some 5] (.var 0) (.seq (.var 1)) [.band (.cmp .NotIn (.var 0) (.var 1)) (.call "have_tie" [.var 2,.var 3,.var 0])] (.emit (.var 0))),.expr (.meth .extend (.var 3) [.var 6]),.expr (.meth .extend (.var 4) [.var 6])],.ret (.blt .tuple [.blt (.sorted Nk (.int)) [.var 3]])]
def Kf:FT:=tbl [("have_tie",vY)]
def Du:List D->ae->Res D:=aC Kf G0 Ke Kd.length 3
def v_:Ls:=["web","some","left","found","place"]
noncomputable def wa:List CS:=[.expr (.call "must_be_web" [.var 0]),.expr (.call "must_be_some" [.var 0,.var 1]),.asg 2 (.comp Nk ["place","some"] [none,some 1] (.var 0) (.range [.idx (.var 0) (.lit (.int 0))]) [.cmp .NotIn (.var 0) (.var 1)] (.emit (.var 0))),.asg 3 (.lst Nj []),.for_ (.var 4) (.seq (.var 2)) [.ite (.bnot (.blt .any [.comp Nk ["piece","place"] [none,some 4] (.var 0) (.seq (.var 3)) [] (.emit (.cmp .In (.var 1) (.var 0)))])) [.expr (.meth .append (.var 3) [.call "piece_of" [.var 0,.var 2,.var 4]])] []],.ret (.var 3)]
noncomputable def wb:FT:=tbl [("must_be_web",de),("must_be_some",pr),("piece_of",Du)]
theorem Dv:wb "must_be_web"=some de:=rfl
theorem Kg:wb "must_be_some"=some pr:=rfl
def fh:List D->ae->Res D:=aC wb G0 wa v_.length 2
def Dw:Ls:=["web"]
noncomputable def Dx:List CS:=[.ret (.call "pieces_without" [.var 0,.tup []])]
def Dy:FT:=tbl [("pieces_without",fh)]
theorem Kh:Dy "pieces_without"=some fh:=rfl
def ic:List D->ae->Res D:=aC Dy G0 Dx Dw.length 1
noncomputable def wc:Ls:=["web","other","ahead","ties","behind","more","many","moved"]
noncomputable def rW:CE:=.comp Nk ["low","high","ahead"] [none,none,some 2] (.tup [.var 0,.var 1]) (.seq (.var 5)) [] (.emit (.tup [.bin .Add (.var 0) (.var 2),.bin .Add (.var 1) (.var 2)]))
noncomputable def jn:List CS:=[.expr (.call "must_be_web" [.var 0]),.expr (.call "must_be_web" [.var 1]),.asgT (.tup [.var 2,.var 3]) (.var 0),.asgT (.tup [.var 4,.var 5]) (.var 1),.asg 6 (.bin .Add (.var 2) (.var 4)),.ite (.cmp .Gt (.var 6) (.glob "MOST_PLACES")) [.raiseI "TooGreat" [.var 6,.glob "MOST_PLACES"]] [],.asg 7 (.blt .tuple [K04.rW]),.ret (.tup [.var 6,.bin .Add (.var 3) (.var 7)])]
def gG:FT:=tbl [("must_be_web",de)]
theorem pu:gG "must_be_web"=some de:=rfl
def fi:List D->ae->Res D:=aC gG G0 jn wc.length 2
def Ki:Ls:=["_law_script","_law_k"]
noncomputable def Dz:List CS:=[.ite (.cmp .Lt (.var 1) (.blt .len [.var 0])) [.ret (.idx (.var 0) (.var 1))] [],.ret (.lit (.int 0))]
def Kj:FT:=tbl []
def jo:List D->ae->Res D:=aC Kj G0 Dz Ki.length 2
def we:Ls:=["_law_cell_here"]
noncomputable def wf:List CS:=[.ret (.lst Nj [.var 0,.blt .int [.cmp .GtE (.var 0) (.bin .Pow (.lit (.int 10)) (.lit (.int 18)))]])]
def wg:FT:=tbl []
def jp:List D->ae->Res D:=aC wg G0 wf we.length 1
def wh:Ls:=["_law_pen_here","_law_many","_law_found"]
noncomputable def wj:List CS:=[.ite (.cmp .Eq (.idx (.var 0) (.lit (.int 1))) (.lit (.int 1))) [.asg 2 (.bin .Mod (.idx (.var 0) (.lit (.int 0))) (.var 1)),.set (.var 0) (.lit (.int 0)) (.bin .FloorDiv (.idx (.var 0) (.lit (.int 0))) (.var 1)),.ret (.var 2)] [],.set (.var 0) (.lit (.int 0)) (.bin .Mod (.bin .Add (.bin .Mult (.bin .Mod (.idx (.var 0) (.lit (.int 0))) (.lit (.int 2147483629))) (.lit (.int 48271))) (.lit (.int 11))) (.lit (.int 2147483629))),.ret (.bin .Mod (.bin .FloorDiv (.bin .Mod (.bin .Add (.bin .Mult (.idx (.var 0) (.lit (.int 0))) (.idx (.var 0) (.lit (.int 0)))) (.bin .Mult (.lit (.int 40692)) (.idx (.var 0) (.lit (.int 0))))) (.lit (.int 2147483647))) (.lit (.int 8))) (.var 1))]
def Kk:FT:=tbl []
def bK:List D->ae->Res D:=aC Kk G0 wj wh.length 2
def DA:Ls:=["_law_many","_law_found","_law_one"]
noncomputable def DB:List CS:=[.asg 1 (.lst Nk []),.for_ (.var 2) (.range [.var 0]) [.asg 1 (.bin .Add (.var 1) (.comp Nk ["_law_other","_law_one"] [none,some 2] (.var 0) (.range [.bin .Add (.var 2) (.lit (.int 1)),.var 0]) [] (.emit (.tup [.var 1,.var 0]))))],.ret (.var 1)]
def DC:FT:=tbl []
def pw:List D->ae->Res D:=aC DC G0 DB DA.length 1
noncomputable def Kl:Ls:=["_law_pen_here","_law_upto","_law_many","_law_way","_law_rest","_law_mids","_law_often"]
noncomputable def lr:List CS:=[.asg 2 (.bin .Sub (.bin .Sub (.bin .Add (.lit (.int 1)) (.var 1)) (.lit (.int 1))) (.bin .Mod (.idx (.lst Nk [.lit (.int 0),.lit (.int 0),.lit (.int 1),.lit (.int 0),.lit (.int 2),.lit (.int 1),.lit (.int 3),.lit (.int 4),.lit (.int 5),.lit (.int 6),.lit (.int 7),.lit (.int 0)]) (.call "_law_draw" [.var 0,.lit (.int 12)])) (.var 1))),.asg 3 (.call "_law_draw" [.var 0,.lit (.int 9)]),.ite (.band (.cmp .Eq (.var 3) (.lit (.int 0))) (.cmp .Gt (.var 2) (.lit (.int 2)))) [.ret (.tup [.var 2,.blt .tuple [.blt (.sorted Nk (.seq .int)) [.bin .Add (.comp Nk ["_law_k"] [none] (.var 0) (.range [.bin .Sub (.var 2) (.lit (.int 1))]) [] (.emit (.tup [.var 0,.bin .Add (.var 0) (.lit (.int 1))]))) (.lst Nk [.tup [.lit (.int 0),.bin .Sub (.var 2) (.lit (.int 1))]])]]])] [],.ite (.band (.cmp .Eq (.var 3) (.lit (.int 1))) (.cmp .Gt (.var 2) (.lit (.int 5)))) [.asg 4 (.bin .Add (.comp Nk ["_law_k"] [none] (.var 0) (.range [.lit (.int 3),.bin .Sub (.var 2) (.lit (.int 1))]) [] (.emit (.tup [.var 0,.bin .Add (.var 0) (.lit (.int 1))]))) (.lst Nk [.tup [.lit (.int 3),.bin .Sub (.var 2) (.lit (.int 1))],.tup [.lit (.int 2),.lit (.int 3)]])),.ret (.tup [.var 2,.blt .tuple [.blt (.sorted Nk (.seq .int)) [.bin .Add (.lst Nk [.tup [.lit (.int 0),.lit (.int 1)],.tup [.lit (.int 0),.lit (.int 2)],.tup [.lit (.int 1),.lit (.int 2)]]) (.var 4)]]])] [],.ite (.band (.cmp .Eq (.var 3) (.lit (.int 2))) (.cmp .Gt (.var 2) (.lit (.int 2)))) [.asg 5 (.bin .Add (.lit (.int 1)) (.call "_law_draw" [.var 0,.lit (.int 2)])),.ret (.tup [.var 2,.blt .tuple [.comp Nk ["_law_tie","_law_mids"] [none,some 5] (.var 0) (.seq (.call "_law_pairs" [.var 2])) [.chain .Lt .LtE (.idx (.var 0) (.lit (.int 0))) (.var 1) (.idx (.var 0) (.lit (.int 1)))] (.emit (.var 0))]])] [],.ite (.cmp .Eq (.var 3) (.lit (.int 3))) [.ret (.tup [.var 2,.blt .tuple [.blt (.sorted Nk (.seq .int)) [.comp Nk ["_law_place","_law_pen_here"] [none,some 0] (.var 0) (.range [.lit (.int 1),.var 2]) [] (.emit (.tup [.call "_law_draw" [.var 1,.var 0],.var 0]))]]])] [],.asg 6 (.idx (.lst Nk [.lit (.int 2),.lit (.int 3),.lit (.int 4),.lit (.int 6),.lit (.int 8)]) (.call "_law_draw" [.var 0,.lit (.int 5)])),.ret (.tup [.var 2,.blt .tuple [.comp Nk ["_law_tie","_law_pen_here","_law_often"] [none,some 0,some 6] (.var 0) (.seq (.call "_law_pairs" [.var 2])) [.cmp .Lt (.call "_law_draw" [.var 1,.lit (.int 8)]) (.var 2)] (.emit (.var 0))]])]
def b6:FT:=tbl [("_law_draw",bK),("_law_pairs",pw)]
theorem eh:b6 "_law_draw"=some bK:=rfl
theorem px:b6 "_law_pairs"=some pw:=rfl
def ie:List D->ae->Res D:=aC b6 G0 lr Kl.length 2
noncomputable def dP:Ls:=["_law_found","_law_due","_law_one","_law_other"]
noncomputable def el:List CS:=[.ite (.cmp .Is (.var 1) (.lit (.non))) [.ret (.cmp .Is (.var 0) (.lit (.non)))] [],.ite (.blt .isinst [.var 1,.ty "bool"]) [.ret (.band (.blt .isinst [.var 0,.ty "bool"]) (.cmp .Eq (.var 0) (.var 1)))] [],.ite (.blt .isinst [.var 1,.ty "int"]) [.ret (.band (.blt .isinst [.var 0,.ty "int"]) (.band (.bnot (.blt .isinst [.var 0,.ty "bool"])) (.cmp .Eq (.var 0) (.var 1))))] [],.ite (.blt .isinst [.var 1,.ty "str"]) [.ret (.band (.blt .isinst [.var 0,.ty "str"]) (.cmp .Eq (.var 0) (.var 1)))] [],.ite (.bor (.cmp .NotEq (.blt .isinst [.var 1,.ty "list"]) (.blt .isinst [.var 0,.ty "list"])) (.cmp .NotEq (.blt .isinst [.var 1,.ty "tuple"]) (.blt .isinst [.var 0,.ty "tuple"]))) [.ret (.lit (.bl Nk))] [],.ite (.cmp .NotEq (.blt .len [.var 0]) (.blt .len [.var 1])) [.ret (.lit (.bl Nk))] [],.for_ (.tup [.var 2,.var 3]) (.zip [.var 0,.var 1]) [.ite (.bnot (.call "_law_same" [.var 2,.var 3])) [.ret (.lit (.bl Nk))] []],.ret (.lit (.bl Nj))]
noncomputable def bB:Nat->List D->ae->Res D
 |0=>λ_ _=>.fail
 |n+1=>aC (tbl [("_law_same",bB n)]) G0 el dP.length 2
def py:List D->ae->Res D:=bB 6
noncomputable def Km:Ls:=["_law_pen_here","_law_web_here","_law_many","_law_ties","_law_at","_law_odd","_law_rows","_law_turned","_law_some_here"]
def fS(e:CE):CE:=.call "_law_draw" [.var 0,e]
noncomputable def jq:List CE:=[.tup [.lit (.int 0),.lit (.int 0)],.tup [.lit (.int 1),.lit (.int 0)],.tup [.lit (.int 0),.var 2],.tup [.neg (.lit (.int 1)),.lit (.int 0)],.tup [.lit (.bl Nk),.lit (.bl Nj)],.tup [.lit (.int 0),.lit (.bl Nj)],.tup [.lit (.int 0)],.tup [.lit (.int 0),.lit (.int 1),.lit (.int 2)],.lst Nk [.lit (.int 0),.lit (.int 1)],.lit (.non),.lit (.str "01")]
noncomputable def jr:List CE:=[.tup [.bin .Sub (.var 2) (.lit (.int 1)),.bin .Sub (.var 2) (.lit (.int 1))],.tup [.lit (.int 0),.bin .Pow (.lit (.int 10)) (.lit (.int 30))],.tup [.lit (.int 0),.lit (.int 1)],.var 3]
def sA:CE:=.sl (.var 3) [] [.var 4]
def sB:CE:=.sl (.var 3) [.var 4] []
noncomputable def sC:CE:=.sl (.var 3) [.bin .Add (.var 4) (.lit (.int 1))] []
noncomputable def js:List CE:=[.bin .Add (.bin .Add sA (.tup [.var 5])) sB,.bin .Add (.bin .Add sA (.tup [.var 5])) sC,.rev (.var 3) (.neg (.lit (.int 1)))]
def jt:CE:=.bin .Add sA sC
noncomputable def sD:CE:=.sl (.var 3) [.var 4] [.bin .Add (.var 4) (.lit (.int 1))]
noncomputable def ju:List CE:=[.bin .Add (.bin .Add sA sD) sB,.blt (.list Nk) [.var 3],.bin .Add sB sA,.lit (.non),.tup [.var 3]]
noncomputable def sE:CE:=.sl (.var 3) [.bin .Add (.var 4) (.lit (.int 1))] [.bin .Add (.var 4) (.lit (.int 2))]
def jv:CE:=.bin .Add sE sD
noncomputable def sF:CE:=.sl (.var 3) [.bin .Add (.var 4) (.lit (.int 2))] []
def jw:CE:=.bin .Add (.bin .Add sA (.var 7)) sF
noncomputable def ls:List CE:=[.tup [.bin .Add (.var 2) (.lit (.int 1)),.var 3],.tup [.bin .Sub (.var 2) (.lit (.int 1)),.var 3],.tup [.lit (.bl Nj),.var 3],.tup [.lit (.int 9),.var 3],.tup [.lit (.int 0),.tup []],.tup [.lit (.non),.var 3],.lst Nk [.var 2,.var 3],.tup [.var 2]]
noncomputable def lu:List CE:=[.tup [.var 2,.var 3,.tup []],.tup [.blt .str [.var 2],.var 3],.tup [.var 3,.var 2],.var 3,.lit (.non),.var 2,.dct,.lit (.str "web"),.tup [.neg (.lit (.int 1)),.tup []]]
noncomputable def lv:CE:=.tup [.bin .Pow (.lit (.int 10)) (.lit (.int 30)),.tup []]
noncomputable def wk:List CS:=[.asgT (.tup [.var 2,.var 3]) (.var 1),.asg 4 (fS (.bin .Add (.blt .len [.var 3]) (.lit (.int 1)))),.asg 5 (.lst Nk jq),.asg 5 (.idx (.bin .Add (.var 5) (.lst Nk jr)) (fS (.lit (.int 15)))),.asg 6 (.lst Nj js),.expr (.meth .append (.var 6) [jt]),.asg 6 (.catB (.var 6) (.lst Nk ju)),.asg 7 jv,.expr (.meth .append (.var 6) [jw]),.ite (.cmp .Gt (fS (.lit (.int 3))) (.lit (.int 0))) [.ret (.tup [.var 2,.idx (.var 6) (fS (.lit (.int 10)))])] [],.asg 8 (.lst Nj ls),.asg 8 (.catB (.var 8) (.lst Nk lu)),.expr (.meth .append (.var 8) [lv]),.ret (.idx (.var 8) (fS (.lit (.int 18))))]
def bx:FT:=tbl [("_law_draw",bK)]
theorem Ko:bx "_law_draw"=some bK:=rfl
def ig:List D->ae->Res D:=aC bx G0 wk Km.length 2
def Kp:Ls:=["_law_found"]
noncomputable def Kq:List CS:=[.ret (.band (.blt .isinst [.var 0,.ty "int"]) (.bnot (.blt .isinst [.var 0,.ty "bool"])))]
def Kr:FT:=tbl []
def gH:List D->ae->Res D:=aC Kr G0 Kq Kp.length 1
def Ks:Ls:=["_law_thing","_law_tie"]
def yi:CE:=.idx (.var 0) (.lit (.int 0))
noncomputable def FG:CE:=.chain .LtE .LtE (.lit (.int 1)) yi (.lit (.int 8))
noncomputable def yj:CE:=.bor (.bnot (.blt .isinst [.var 0,.ty "tuple"])) (.bor (.cmp .NotEq (.blt .len [.var 0]) (.lit (.int 2))) (.bor (.bnot (.call "_law_whole" [yi])) (.bnot FG)))
def gZ:CE:=.idx (.var 0) (.lit (.int 1))
noncomputable def MJ:CE:=.comp Nk ["_law_place"] [none] (.var 0) (.seq (.var 1)) [] (.emit (.call "_law_whole" [.var 0]))
noncomputable def Kt:CE:=.bor (.bnot (.blt .isinst [.var 1,.ty "tuple"])) (.bor (.cmp .NotEq (.blt .len [.var 1]) (.lit (.int 2))) (.bnot (.blt .all [MJ])))
noncomputable def MK:CE:=.chain3 .LtE .Lt .Lt (.lit (.int 0)) (.idx (.var 1) (.lit (.int 0))) (.idx (.var 1) (.lit (.int 1))) yi
noncomputable def rX:List CS:=[.ite Kt [.ret (.lit (.bl Nk))] [],.ite (.bnot MK) [.ret (.lit (.bl Nk))] []]
noncomputable def pz:List CS:=[.ite yj [.ret (.lit (.bl Nk))] [],.ite (.bnot (.blt .isinst [gZ,.ty "tuple"])) [.ret (.lit (.bl Nk))] [],.for_ (.var 1) (.seq gZ) rX,.ret (.cmp .Eq (.blt (.list Nk) [gZ]) (.sset gZ))]
def bC:FT:=tbl [("_law_whole",gH)]
theorem Ku:bC "_law_whole"=some gH:=rfl
def er:List D->ae->Res D:=aC bC G0 pz Ks.length 1
def wl:Ls:=["_law_pen_here","_law_web_here","_law_thing"]
noncomputable def wm:List CS:=[.asg 2 (.call "_law_bent_web" [.var 0,.var 1]),.ret (.ite (.call "_law_is_web" [.var 2]) (.tup [.idx (.var 1) (.lit (.int 0)),.idx (.var 1) (.lit (.int 1)),.tup []]) (.var 2))]
def wn:FT:=tbl [("_law_bent_web",ig),("_law_is_web",er)]
theorem DD:wn "_law_bent_web"=some ig:=rfl
theorem DE:wn "_law_is_web"=some er:=rfl
def jx:List D->ae->Res D:=aC wn G0 wm wl.length 2
def Kv:Ls:=["_law_pen_here","_law_many"]
noncomputable def Kw:List CE:=[.var 1,.neg (.lit (.int 1)),.lit (.bl Nj),.lit (.bl Nk),.lit (.non),.lit (.str "0"),.tup [.lit (.int 0)],.bin .Pow (.lit (.int 10)) (.lit (.int 30)),.lst Nk [.lit (.int 0)],.dct,.neg (.bin .Pow (.lit (.int 10)) (.lit (.int 20))),.bin .Add (.var 1) (.lit (.int 7))]
noncomputable def wo:List CS:=[.ret (.idx (.lst Nk Kw) (.call "_law_draw" [.var 0,.lit (.int 12)]))]
def ii:FT:=tbl [("_law_draw",bK)]
theorem Kx:ii "_law_draw"=some bK:=rfl
def jy:List D->ae->Res D:=aC ii G0 wo Kv.length 2
noncomputable def Ky:Ls:=["_law_pen_here","_law_many","_law_some_here","_law_at","_law_odd","_law_rows"]
noncomputable def DF:List CE:=[.var 1,.neg (.lit (.int 1)),.lit (.bl Nj),.lit (.non),.lit (.str "0"),.tup [.lit (.int 0)],.bin .Pow (.lit (.int 10)) (.lit (.int 30)),.call "_law_draw" [.var 0,.var 1]]
def yk(l h:List CE):CE:=.sl (.var 2) l h
def Kz:CE:=.bin .Add (yk [] [.var 3]) (.tup [.var 4])
noncomputable def wq:List CE:=[.bin .Add Kz (yk [.var 3] []),.bin .Add Kz (yk [.bin .Add (.var 3) (.lit (.int 1))] []),.rev (.var 2) (.neg (.lit (.int 1))),.blt (.list Nk) [.var 2],.tup [.var 2],.lit (.non)]
noncomputable def wt:List CE:=[.bin .Add (.var 2) (yk [.neg (.lit (.int 1))] []),.lit (.int 0),.lit (.str "0"),.dct,.bin .Add (yk [.var 3] []) (yk [] [.var 3])]
noncomputable def wu:List CS:=[.asg 3 (.call "_law_draw" [.var 0,.bin .Add (.blt .len [.var 2]) (.lit (.int 1))]),.asg 4 (.idx (.lst Nk DF) (.call "_law_draw" [.var 0,.lit (.int 8)])),.asg 5 (.lst Nk wq),.ret (.idx (.bin .Add (.var 5) (.lst Nk wt)) (.call "_law_draw" [.var 0,.lit (.int 11)]))]
def dD:FT:=tbl [("_law_draw",bK)]
theorem pA:dD "_law_draw"=some bK:=rfl
def pB:List D->ae->Res D:=aC dD G0 wu Ky.length 3
def KA:Ls:=["_law_many","_law_thing"]
noncomputable def DG:CE:=.band (.call "_law_whole" [.var 0]) (.chain .LtE .Lt (.lit (.int 0)) (.var 0) (.var 1))
noncomputable def ML:CE:=.comp Nk ["_law_place","_law_many"] [none,some 0] (.var 0) (.seq (.var 1)) [] (.emit DG)
noncomputable def KC:CE:=.bor (.bnot (.blt .isinst [.var 1,.ty "tuple"])) (.bnot (.blt .all [ML]))
noncomputable def wv:List CS:=[.ite KC [.ret (.lit (.bl Nk))] [],.ret (.cmp .Eq (.blt (.list Nk) [.var 1]) (.sset (.var 1)))]
def fj:FT:=tbl [("_law_whole",gH)]
theorem DH:fj "_law_whole"=some gH:=rfl
def jz:List D->ae->Res D:=aC fj G0 wv KA.length 2
noncomputable def ww:Ls:=["_law_pen_here","_law_many","_law_some_here","_law_thing"]
noncomputable def wx:List CS:=[.asg 3 (.call "_law_bent_places" [.var 0,.var 1,.var 2]),.ret (.ite (.call "_law_are_places" [.var 1,.var 3]) (.blt (.list Nk) [.var 2]) (.var 3))]
noncomputable def wy:FT:=tbl [("_law_bent_places",pB),("_law_are_places",jz)]
theorem DI:wy "_law_bent_places"=some pB:=rfl
theorem DJ:wy "_law_are_places"=some jz:=rfl
def ij:List D->ae->Res D:=aC wy G0 wx ww.length 3
def wz:Ls:=["_law_pen_here","_law_many","_law_often"]
noncomputable def DL:List CS:=[.asg 2 (.bin .Add (.lit (.int 1)) (.call "_law_draw" [.var 0,.lit (.int 3)])),.ret (.blt .tuple [.comp Nk ["_law_place","_law_pen_here","_law_often"] [none,some 0,some 2] (.var 0) (.range [.var 1]) [.cmp .Lt (.call "_law_draw" [.var 1,.lit (.int 4)]) (.var 2)] (.emit (.var 0))])]
def pC:FT:=tbl [("_law_draw",bK)]
theorem DM:pC "_law_draw"=some bK:=rfl
def jA:List D->ae->Res D:=aC pC G0 DL wz.length 2
def KD:Ls:=["_law_way","_law_one","_law_other","_law_e"]
noncomputable def iD:List CS:=[.ite (.cmp .Eq (.var 0) (.lit (.int 0))) [.ret (.call "beside" [.var 1,.var 2])] [],.ite (.cmp .Eq (.var 0) (.lit (.int 1))) [.ret (.call "near" [.var 1,.var 2])] [],.ret (.ite (.cmp .Eq (.var 0) (.lit (.int 2))) (.call "pieces_without" [.var 1,.var 2]) (.call "pieces" [.var 1]))]
noncomputable def lw:List CS:=[.tryG (some "great") "great" 3 iD "_law_kinds" ph lW]
noncomputable def cc:FT:=tbl [("beside",fi),("near",gF),("pieces_without",fh),("pieces",ic)]
theorem KG:cc "beside"=some fi:=rfl
theorem KH:cc "near"=some gF:=rfl
theorem KI:cc "pieces_without"=some fh:=rfl
theorem KJ:cc "pieces"=some ic:=rfl
def cX:List D->ae->Res D:=aC cc G0 lw KD.length 3
def KL:Ls:=["_law_one","_law_other","_law_many"]
noncomputable def KN:CE:=.comp Nk ["_law_a","_law_b","_law_one"] [none,none,some 0] (.tup [.var 0,.var 1]) (.seq (.idx (.var 1) (.lit (.int 1)))) [] (.emit (.tup [.bin .Add (.idx (.var 2) (.lit (.int 0))) (.var 0),.bin .Add (.idx (.var 2) (.lit (.int 0))) (.var 1)]))
noncomputable def wA:List CS:=[.asg 2 (.bin .Add (.idx (.var 0) (.lit (.int 0))) (.idx (.var 1) (.lit (.int 0)))),.ite (.cmp .Gt (.var 2) (.lit (.int 8))) [.ret (.lst Nk [.lit (.str "great"),.var 2,.lit (.int 8)])] [],.ret (.tup [.var 2,.bin .Add (.idx (.var 0) (.lit (.int 1))) (.blt .tuple [KN])])]
def lx:FT:=tbl []
def pE:List D->ae->Res D:=aC lx G0 wA KL.length 2
noncomputable def iE:Ls:=["_law_script","_law_cell_here","_law_pen_here","_law_one","_law_other","_law_small","_law_two","_law_bad","_law_place","_law_some_here"]
noncomputable def wB:CE:=.bor (.cmp .NotEq (.call "_law_told" [.lit (.int 0),.tup [.lit (.int 4),.tup []],.tup [.lit (.int 4),.tup []]]) (.tup [.lit (.int 8),.tup []])) (.cmp .NotEq (.call "_law_told" [.lit (.int 0),.tup [.lit (.int 1),.tup []],.tup [.lit (.int 8),.tup []]]) (.lst Nk [.lit (.str "great"),.lit (.int 9),.lit (.int 8)]))
noncomputable def pF:CE:=.seq (.bin .Add (.lst Nk [.call "_law_cell" [.var 0,.lit (.int 0)]]) (.sl (.var 0) [.lit (.int 1)] [.lit (.int 6)]))
noncomputable def wP:List CE:=[.call "_law_web" [.var 2,.lit (.int 8)],.call "_law_web" [.var 2,.lit (.int 4)],.call "_law_web" [.var 2,.lit (.int 4)]]
noncomputable def tW:CE:=.seq (.lst Nk [.tup [.var 3,.var 4],.tup [.var 4,.var 5],.tup [.var 5,.var 4],.tup [.var 4,.var 3],.tup [.var 5,.tup [.bin .Sub (.bin .Sub (.lit (.int 9)) (.idx (.var 5) (.lit (.int 0)))) (.lit (.int 1)),.tup []]]])
def yl(k:Int):CE:=.idx (.var 6) (.lit (.int k))
noncomputable def tB:List CS:=[.ite (.bnot (.call "_law_same" [.call "_law_told" [.lit (.int 0),yl 0,yl 1],.call "_law_both" [yl 0,yl 1]])) [.ret (.lit (.bl Nk))] []]
noncomputable def ne(i:Int)(p q:CE)(y:Str):CE:=.cmp .NotEq (.call "_law_told" [.lit (.int i),p,q]) (.lit (.str y))
noncomputable def b1:CE:=.bor (ne 0 (.var 7) (.var 7) "web") (.bor (ne 0 (.var 3) (.var 7) "web") (ne 3 (.var 7) (.lit .non) "web"))
def m3:CE:=.idx (.var 3) (.lit (.int 0))
noncomputable def nP:List CE:=[.call "_law_no_place" [.var 2,m3],.call "_law_no_places" [.var 2,m3,.call "_law_some" [.var 2,m3]]]
noncomputable def b2:CE:=.bor (ne 1 (.var 7) (.var 8) "web") (ne 2 (.var 7) (.var 9) "web")
noncomputable def b3:CE:=.bor (ne 1 (.var 3) (.var 8) "place") (ne 2 (.var 3) (.var 9) "places")
noncomputable def ly:List CS:=[.asg 2 (.call "_law_pen" [.var 1]),.par [3,4,5] wP,.for_ (.var 6) tW tB,.asg 7 (.call "_law_no_web" [.var 2,.var 3]),.ite b1 [.ret (.lit (.bl Nk))] [],.par [8,9] nP,.ite b2 [.ret (.lit (.bl Nk))] [],.ite b3 [.ret (.lit (.bl Nk))] []]
noncomputable def eO:List CS:=[.ite wB [.ret (.lit (.bl Nk))] [],.for_ (.var 1) pF ly,.ret (.lit (.bl Nj))]
noncomputable def aH:FT:=tbl [("_law_pen",jp),("_law_no_web",jx),("_law_told",cX),("_law_cell",jo),("_law_web",ie),("_law_no_place",jy),("_law_no_places",ij),("_law_same",py),("_law_some",jA),("_law_both",pE)]
theorem KO:aH "_law_pen"=some jp:=rfl
theorem KP:aH "_law_no_web"=some jx:=rfl
theorem KQ:aH "_law_told"=some cX:=rfl
theorem KR:aH "_law_cell"=some jo:=rfl
theorem KS:aH "_law_web"=some ie:=rfl
theorem KU:aH "_law_no_place"=some jy:=rfl
theorem KW:aH "_law_no_places"=some ij:=rfl
theorem KY:aH "_law_same"=some py:=rfl
theorem KZ:aH "_law_some"=some jA:=rfl
theorem K0:aH "_law_both"=some pE:=rfl
def lz:List D->ae->Res D:=aC aH G0 eO iE.length 1
end K04
namespace Py
noncomputable def eV(K:Fg)(y:Str):Nm:=match PySem.W.nsIn K mainGlobals y with
 |some (some (.ref C))=>C
 |_=>0
noncomputable def eP(K:Fg)(y:Str):Bool:=match PySem.W.nsIn K mainGlobals y with
 |some (some (.ref _))=>Nj
 |_=>Nk
theorem jB(h:eP K y=Nj):PySem.W.nsIn K mainGlobals y=some (some (.ref (eV K y))):=by
 unfold eP at h;unfold eV;split at h
 ·omega
 ·cases h
noncomputable def DN(K:Fg)(C:Nm):Bool:=(PySem.W.clsIn K C).isSome&&(PySem.W.findIn K (.ref C) "__getattribute__"==some (some (.builtin "BaseException.__getattribute__"))&&(PySem.W.findIn K (.ref C) "__getattr__"==some none&&
 (PySem.W.findIn K (.ref C) "__class__"==some (some (.builtin "object.__class__"))&&(PySem.W.mroIn K C (.type "object")==some Nj&&(PySem.W.mroIn K C (.type "BaseException")==some Nj&&PySem.W.kitOne K (.ref C) (.type "ValueError")==some Nj)))))
noncomputable def K1(K:Fg)(C:Nm):Bool:=DN K C&&((match PySem.W.clsIn K C with
 |some cd=>cd.hasDict
 |none=>Nk)&&(PySem.W.findIn K (.ref C) "many"==some none&&(PySem.W.findIn K (.ref C) "most"==some none&&(PySem.W.specialIn K (.builtin "object.__class__") "__get__"==some (some (.builtin "getset_descriptor.__get__"))&&PySem.W.takesIn K (.builtin "object.__class__")==some Nj))))
noncomputable def DO(K:Fg)(C:Nm):Nm:=match PySem.W.clsIn K C with
 |some cd=>(match PySem.W.nsIn K cd.ns "__init__" with
  |some (some (.ref fI))=>fI
  |_=>0)
 |none=>0
noncomputable def DP(K:Fg):Rz->Bool
 | .init x=>eP K x&&(PySem.W.keepIn K (.ref (eV K x))&&(K1 K (eV K x)&&((match PySem.W.clsIn K (eV K x)with
   |some cd=>cd.mro== .ref (eV K x):: .ref (eV K "PairError")::ec
   |none=>Nk)&&(PySem.W.findIn K (.ref (eV K x)) "__setattr__"==some (some (.builtin "object.__setattr__"))&&(JP K (DO K (eV K x))&&iB K (eV K x) (DO K (eV K x)))))))
 | .great g ys w=>ys.all λx=> !((ys.zip w).lookup x==some g)||(eP K x&&K1 K (eV K x))
 | .cls x=>eP K x&&PySem.W.excIn K (eV K x) ec "ValueError.__new__"
 | .kind _ ys _=>eP K "PairError"&&(PySem.W.specialIn K (.builtin "object.__class__") "__get__"==some (some (.builtin "getset_descriptor.__get__"))&&(PySem.W.takesIn K (.builtin "object.__class__")==some Nj&&(PySem.W.nsIn K mainGlobals "isinstance"==some none&&(PySem.W.nsIn K mainGlobals "ValueError"==some none&&
   ys.all λx=>eP K x&&(DN K (eV K x)&&(PySem.W.exmOne K (.ref (eV K x)) (.ref (eV K "PairError"))==some Nj&&ys.all λy=>PySem.W.kitOne K (.ref (eV K x)) (.ref (eV K y))==some (y==x)))))))
noncomputable def M'(y w:Ls):Bool:=decide (y.length<1000)&&(decide (w.length<=1000)&&y.all λx=>decide ((y.map (· ==x)).count Nj=1)&&decide (w[(y.map (· ==x)).idxOf Nj]?=(y.zip w).lookup x))
theorem DQ{y w:Ls}{x r:Str}(h:(y.zip w).lookup x=some r):x∈y:=(Pq (ZC h)).1
section
variable {P:Nt}
theorem wC(X:K.In h)(G:h.Ns mainGlobals mg){x:Str}(H:DP K (.cls x)=Nj):XC P w K mg (.cls x):=
 ⟨eV K x,PySem.W.mg_of X G (jB (aa H).1),(aa H).2⟩
theorem DR(h:K1 K C=Nj):∃cd,FF K C cd:=by obtain⟨P,h⟩:=aa h;obtain⟨p,h⟩:=aa h;obtain⟨f,h⟩:=aa h;obtain⟨g,h⟩:=aa h;obtain⟨z,Z⟩:=aa h;obtain⟨a,s⟩:=aa P;obtain⟨A,S⟩:=aa s;obtain⟨b,i⟩:=aa S;obtain⟨c,j⟩:=aa i;obtain⟨d,k⟩:=aa j;obtain⟨e,l⟩:=aa k;obtain⟨cd,H⟩:=NS.mp a;rw[H]at p;exact⟨cd,⟨⟨cd,H⟩,Zv A,Zv b,Zv c,Zv d,Zv e,Zv z,Zv Z⟩,H,p,Zv f,Zv g⟩
theorem pG(X:K.In h)(G:h.Ns mainGlobals mg){x:Str}(H:DP K (.init x)=Nj):XC P w K mg (.init x):=by obtain⟨b,H⟩:=aa H;obtain⟨d,H⟩:=aa H;obtain⟨e,H⟩:=aa H;obtain⟨a,H⟩:=aa H;obtain⟨f,H⟩:=aa H;obtain⟨i,j⟩:=aa H;obtain⟨c,g⟩:=DR e;rw[g.cls]at a;exact⟨eV K x,_,_,c,PySem.W.mg_of X G (jB b),d,g,⟨g.cls,g.hd,Zv a,Zv f⟩,JR i,j⟩
theorem K2(X:K.In h)(G:h.Ns mainGlobals mg){g:Str}{y W:Ls}(f:DP K (.great g y W)=Nj):XC P w K mg (.great g y W):=λx H v e=>by have q:=Zl.mp f x (DQ H);rw[H,beq_self_eq_true,Ry,Bool.false_or]at q;obtain⟨b,d⟩:=aa q;have a:=PySem.W.mg_of X G (jB b);rw[e]at a;cases a;obtain⟨c,z⟩:=DR d;exact⟨_,c,rfl,z⟩
theorem pH(X:K.In h)(G:h.Ns mainGlobals mg){f e0:Str}{q:N_}{a b c d wd v Y W:Ls}(E:DP K (.kind f Y W)=Nj)(hw:M' Y W=Nj)(F:mM K f f st fa q)(j:PySem.W.nsIn K mainGlobals f=some (some (.ref fa)))
  (S:bt N [e0] (bi st)) (A:Binds K q [e0] []) (i:cr (gB a b c d wd v) N (bS st)=bS st) (s:(k9 (bS st)&&lf N Y (bi st))=Nj) (g:Y=a++b++c++d) (D:W=wd++v):XC P w K mg (.kind f Y W):=by
 subst g;subst D;obtain⟨z1,m⟩:=aa E;obtain⟨z2,n⟩:=aa m;obtain⟨z3,o⟩:=aa n;obtain⟨z4,p⟩:=aa o;obtain⟨z5,e⟩:=aa p;obtain⟨w1,k⟩:=aa hw;obtain⟨w2,l⟩:=aa k;refine⟨fa,eV K "PairError",PySem.W.mg_of X G j,F.kp,PySem.W.mg_of X G (jB z1),λx r t u C=>?_⟩;have z:=DQ t;obtain⟨U,T⟩:=aa (Zl.mp e x z);obtain⟨V,q5⟩:=aa T;obtain⟨Z,q4⟩:=aa q5;obtain⟨I,s1⟩:=aa V;obtain⟨J,s2⟩:=aa s1;obtain⟨L,s3⟩:=aa s2;obtain⟨M,s4⟩:=aa s3;obtain⟨O,s5⟩:=aa s4;obtain⟨Q,R⟩:=aa s5;obtain⟨r1,r2⟩:=aa (Zl.mp l x z);have H:=PySem.W.mg_of X G (jB U);rw[C]at H;cases H
 refine⟨_,rfl,Zv Z,λB=>JA (bf:=λy=>y==x) F S A i (aa s).1 (aa s).2 ⟨Zv R,⟨NS.mp I,Zv J,Zv L,Zv M,Zv O,Zv Q,Zv z2,Zv z3⟩,λy g=>?_⟩
  (PySem.W.mg_none_of X G (Zv z4)) (PySem.W.mg_none_of X G (Zv z5)) (ZU w1) (by simpa using ZU w2) (ZU r1) (by rw[<-t];exact ZU r2)⟩
 exact⟨eV K y,PySem.W.mg_of X G (jB (aa (Zl.mp e y g)).1),Zv (Zl.mp q4 y g)⟩
end
end Py
namespace K04
noncomputable def cz(i:Nat):Om:=PySem.Challenge.pw_pairwebs_k04_beside_and_refusals_of_webs.main.body.getD i (.Pass ⟨0,0,0,0⟩)
def aD(K:Fg)(x:Str)(st:Om):Prop:=∃f fd,PySem.W.nsIn K mainGlobals x=some (some (.ref f))/\mM K x x st f fd
theorem dm{x:Str}{an:Option Nm}{kV:Nn}(a:PySem.W.nsIn K mainGlobals x=some (some (.ref f)))(l:K.lookup f=some ⟨oc,od,.func (PySem.W.fnOf x x (g_ st) (bS st) (bi st) .none kV doc pm an cdv ct),osl⟩)
  (c:PySem.W.codeIn K cdv x=Nj) (k:PySem.W.keepIn K (.ref f)=Nj):aD K x st:=⟨f,_,a,tw l c k⟩
noncomputable def pI(N P:Ls)(s:Scope):Bool:=(s.kind== .function)&& !s.isCoroutine&& !s.isGenerator&&iX N&&(N.take P.length==P)&&P.all (λx=>s.names.lookup x==some .local||s.names.lookup x==some .cell)&&s.names.all (λy=>y.2 !=.free)
theorem pJ{P:Ls}{s:Scope}(h:pI N P s=Nj):bt N P s:=by unfold pI at h;simp only[ZN,beq_iff_eq,Zl,Q2,bne_iff_ne,O5]at h;obtain⟨⟨⟨⟨⟨⟨H,a⟩,b⟩,c⟩,d⟩,e⟩,f⟩:=h;exact⟨H,a,b,uY c,d,e,f⟩
noncomputable def RZ:List Rz:=[.cls "NoPlace",.cls "NoPlaces",.cls "NoWeb",.init "TooGreat",.kind "_law_kinds" ph lW,.great "great" ph lW]
structure En (P:Nt)(w:NF)(K:Fg)(mg:Mg)(h:Nw):Prop where
 X:K.In h
 G:h.Ns mainGlobals mg
 hg:∀x d,G0 x=some d->∃v u,mg x=some u/\RelV v u/\∀F μ H,Rep K ⟨mg,F⟩ μ H d v
 hb:∀x∈gk,mg x=none
 xc:∀z∈RZ,XC P w K mg z
section
variable {P:Nt}{k j:Nat}
theorem fe{x:Str}(E:En P w K mg h)(d:aD K x st)
  (e:∀(kV doc pm:Nn) (an:Option Nm) (cdv ct:Nn) (us:Lv),us.length=ps.length->bindArgs (PySem.W.fnOf x x (g_ st) (bS st) (bi st) .none kV doc pm an cdv ct) ⟨us,[]⟩=pure (ps.zip us))
  (H:∀p∈l,bJ P w K mg base (bh P w) k p.1 p.2) (g:cr body N (bS st)=bS st) (S:(pI N ps (bi st)&&(ea body N (bi st).names (bS st)&&(dB body).all λz=>decide (z∈RZ)))=Nj) (i:((dB body).all λz=>decide (z.need<=k))=Nj:=by rfl):bJ P w K mg base (bh P w) (k+1) x (aC (tbl l) G0 body N.length ps.length):=by
 obtain⟨f,j,a,F⟩:=d;have S:=Pp.mp S;have b:=Pp.mp S.2;exact M_ F (pJ S.1) (PySem.W.mg_of E.X E.G a) (F.binds e) (MI H E.hg E.hb) g b.1 λz c=>⟨E.xc z (ZU (Zl.mp b.2 z c)),ZU (Zl.mp i z c)⟩
theorem f0{x:Str}(E:En P w K mg h)(d:aD K x st)(S:pI N ps (bi st)=Nj)
  (H:∀(kV doc pm:Nn) (an:Option Nm) (cdv ct:Nn) (us:Lv),us.length=ps.length->bindArgs (PySem.W.fnOf x x (g_ st) (bS st) (bi st) .none kV doc pm an cdv ct) ⟨us,[]⟩=pure (ps.zip us)):bJ P w K mg base (bh P w) k x (λ_ _=>.fail):=by
 obtain⟨f,b,a,F⟩:=d;exact JW F (pJ S) (PySem.W.mg_of E.X E.G a) (F.binds H)
theorem an:∀p∈([]:List (Str×(List D->ae->Res D))),bJ P w K mg base (bh P w) k p.1 p.2:=λp h=>(Zw h).elim
theorem ac{x:Str}(F:bJ P w K mg base (bh P w) j x φ)(H:j<=k)(r:∀p∈l,bJ P w K mg base (bh P w) k p.1 p.2):∀p∈(x,φ)::l,bJ P w K mg base (bh P w) k p.1 p.2:=λp a=>by
 rcases Zj.mp a with rfl|h
 ·exact F.mono H
 ·exact r p h
end
structure Df (K:Fg):Prop where
 d_is_number:aD K "is_number" (cz 18)
 d_is_number_from:aD K "is_number_from" (cz 19)
 d_is_place:aD K "is_place" (cz 20)
 d_is_rising:aD K "is_rising" (cz 21)
 d_are_places:aD K "are_places" (cz 22)
 d_is_tie:aD K "is_tie" (cz 23)
 d_is_web:aD K "is_web" (cz 24)
 d_is_some:aD K "is_some" (cz 25)
 d_must_be_web:aD K "must_be_web" (cz 26)
 d_must_be_place:aD K "must_be_place" (cz 27)
 d_must_be_some:aD K "must_be_some" (cz 28)
 d_tie_of:aD K "tie_of" (cz 29)
 d_have_tie:aD K "have_tie" (cz 30)
 d_near:aD K "near" (cz 31)
 d_piece_of:aD K "piece_of" (cz 32)
 d_pieces_without:aD K "pieces_without" (cz 33)
 d_pieces:aD K "pieces" (cz 34)
 d_beside:aD K "beside" (cz 36)
 d_law_cell:aD K "_law_cell" (cz 39)
 d_law_pen:aD K "_law_pen" (cz 40)
 d_law_draw:aD K "_law_draw" (cz 41)
 d_law_pairs:aD K "_law_pairs" (cz 42)
 d_law_web:aD K "_law_web" (cz 43)
 d_law_same:aD K "_law_same" (cz 44)
 d_law_bent_web:aD K "_law_bent_web" (cz 45)
 d_law_whole:aD K "_law_whole" (cz 46)
 d_law_is_web:aD K "_law_is_web" (cz 47)
 d_law_no_web:aD K "_law_no_web" (cz 48)
 d_law_no_place:aD K "_law_no_place" (cz 49)
 d_law_bent_places:aD K "_law_bent_places" (cz 50)
 d_law_are_places:aD K "_law_are_places" (cz 51)
 d_law_no_places:aD K "_law_no_places" (cz 52)
 d_law_some:aD K "_law_some" (cz 53)
 d_law_told:aD K "_law_told" (cz 54)
 d_law_both:aD K "_law_both" (cz 55)
 d_law:aD K "law" (cz 56)
 d_law_kinds:aD K "_law_kinds" (cz 38)
section
variable {P:Nt}(E9:En P w K mg h)(D9:Df K)
include E9 D9
theorem K3:bJ P w K mg base (bh P w) 1 "is_number" ff:=fe (ps:=["thing"]) E9 D9.d_is_number (λ_ _ _ _ _ _=>ef λ_=>rfl) an rfl (by decide+kernel)
theorem DS:bJ P w K mg base (bh P w) 2 "is_number_from" fQ:=fe (ps:=["thing","low","high"]) E9 D9.d_is_number_from (λ_ _ _ _ _ _=>jj λ_ _ _=>rfl) (ac (K3 E9 D9) (by decide) an) rfl (by decide+kernel)
theorem DT:bJ P w K mg base (bh P w) 3 "is_place" eg:=fe (ps:=["many","thing"]) E9 D9.d_is_place (λ_ _ _ _ _ _=>bW λ_ _=>rfl) (ac (DS E9 D9) (by decide) an) rfl (by decide+kernel)
theorem wD:bJ P w K mg base (bh P w) 1 "is_rising" cE:=fe (ps:=["things"]) E9 D9.d_is_rising (λ_ _ _ _ _ _=>ef λ_=>rfl) an rfl (by decide+kernel)
theorem DU:bJ P w K mg base (bh P w) 4 "are_places" dC:=fe (ps:=["many","thing"]) E9 D9.d_are_places (λ_ _ _ _ _ _=>bW λ_ _=>rfl) (ac (DT E9 D9) (by decide) an) rfl (by decide+kernel)
theorem K4:bJ P w K mg base (bh P w) 5 "is_tie" fR:=fe (ps:=["many","thing"]) E9 D9.d_is_tie (λ_ _ _ _ _ _=>bW λ_ _=>rfl) (ac (DU E9 D9) (by decide) (ac (wD E9 D9) (by decide) an)) rfl (by decide+kernel)
theorem K5:bJ P w K mg base (bh P w) 6 "is_web" dc:=fe (ps:=["thing"]) E9 D9.d_is_web (λ_ _ _ _ _ _=>ef λ_=>rfl) (ac (wD E9 D9) (by decide) (ac (DS E9 D9) (by decide) (ac (K4 E9 D9) (by decide) an))) rfl (by decide+kernel)
theorem K6:bJ P w K mg base (bh P w) 5 "is_some" fg:=fe (ps:=["web","thing"]) E9 D9.d_is_some (λ_ _ _ _ _ _=>bW λ_ _=>rfl) (ac (DU E9 D9) (by decide) (ac (wD E9 D9) (by decide) an)) rfl (by decide+kernel)
theorem wE:bJ P w K mg base (bh P w) 7 "must_be_web" de:=fe (ps:=["thing"]) E9 D9.d_must_be_web (λ_ _ _ _ _ _=>ef λ_=>rfl) (ac (K5 E9 D9) (by decide) an) rfl (by decide+kernel)
theorem K7:bJ P w K mg base (bh P w) 4 "must_be_place" pp:=fe (ps:=["web","thing"]) E9 D9.d_must_be_place (λ_ _ _ _ _ _=>bW λ_ _=>rfl) (ac (DT E9 D9) (by decide) an) rfl (by decide+kernel)
theorem K8:bJ P w K mg base (bh P w) 6 "must_be_some" pr:=fe (ps:=["web","thing"]) E9 D9.d_must_be_some (λ_ _ _ _ _ _=>bW λ_ _=>rfl) (ac (K6 E9 D9) (by decide) an) rfl (by decide+kernel)
theorem K9:bJ P w K mg base (bh P w) 1 "tie_of" Ds:=fe (ps:=["one","other"]) E9 D9.d_tie_of (λ_ _ _ _ _ _=>bW λ_ _=>rfl) an rfl (by decide+kernel)
theorem DV:bJ P w K mg base (bh P w) 2 "have_tie" vY:=fe (ps:=["web","one","other"]) E9 D9.d_have_tie (λ_ _ _ _ _ _=>jj λ_ _ _=>rfl) (ac (K9 E9 D9) (by decide) an) rfl (by decide+kernel)
theorem pK:bJ P w K mg base (bh P w) 8 "near" gF:=fe (ps:=["web","place"]) E9 D9.d_near (λ_ _ _ _ _ _=>bW λ_ _=>rfl) (ac (wE E9 D9) (by decide) (ac (K7 E9 D9) (by decide) (ac (DV E9 D9) (by decide) an))) rfl (by decide+kernel)
theorem K_:bJ P w K mg base (bh P w) 3 "piece_of" Du:=fe (ps:=["web","left","start"]) E9 D9.d_piece_of (λ_ _ _ _ _ _=>jj λ_ _ _=>rfl) (ac (DV E9 D9) (by decide) an) rfl (by decide+kernel)
theorem DW:bJ P w K mg base (bh P w) 8 "pieces_without" fh:=fe (ps:=["web","some"]) E9 D9.d_pieces_without (λ_ _ _ _ _ _=>bW λ_ _=>rfl) (ac (wE E9 D9) (by decide) (ac (K8 E9 D9) (by decide) (ac (K_ E9 D9) (by decide) an))) rfl (by decide+kernel)
theorem K':bJ P w K mg base (bh P w) 9 "pieces" ic:=fe (ps:=["web"]) E9 D9.d_pieces (λ_ _ _ _ _ _=>ef λ_=>rfl) (ac (DW E9 D9) (by decide) an) rfl (by decide+kernel)
theorem Lb:bJ P w K mg base (bh P w) 8 "beside" fi:=fe (ps:=["web","other"]) E9 D9.d_beside (λ_ _ _ _ _ _=>bW λ_ _=>rfl) (ac (wE E9 D9) (by decide) an) rfl (by decide+kernel)
theorem DX:bJ P w K mg base (bh P w) 1 "_law_cell" jo:=fe (ps:=["_law_script","_law_k"]) E9 D9.d_law_cell (λ_ _ _ _ _ _=>bW λ_ _=>rfl) an rfl (by decide+kernel)
theorem DY:bJ P w K mg base (bh P w) 1 "_law_pen" jp:=fe (ps:=["_law_cell_here"]) E9 D9.d_law_pen (λ_ _ _ _ _ _=>ef λ_=>rfl) an rfl (by decide+kernel)
theorem lA:bJ P w K mg base (bh P w) 1 "_law_draw" bK:=fe (ps:=["_law_pen_here","_law_many"]) E9 D9.d_law_draw (λ_ _ _ _ _ _=>bW λ_ _=>rfl) an rfl (by decide+kernel)
theorem Lc:bJ P w K mg base (bh P w) 1 "_law_pairs" pw:=fe (ps:=["_law_many"]) E9 D9.d_law_pairs (λ_ _ _ _ _ _=>ef λ_=>rfl) an rfl (by decide+kernel)
theorem DZ:bJ P w K mg base (bh P w) 2 "_law_web" ie:=fe (ps:=["_law_pen_here","_law_upto"]) E9 D9.d_law_web (λ_ _ _ _ _ _=>bW λ_ _=>rfl) (ac (lA E9 D9) (by decide) (ac (Lc E9 D9) (by decide) an)) rfl (by decide+kernel)
theorem D0:∀n,bJ P w K mg base (bh P w) (0+n) "_law_same" (bB n)
 |0=>f0 (N:=dP) (ps:=["_law_found","_law_due"]) E9 D9.d_law_same (by decide+kernel) (λ_ _ _ _ _ _=>bW λ_ _=>rfl)
 |n+1=>fe (ps:=["_law_found","_law_due"]) (k:=0+n) E9 D9.d_law_same (λ_ _ _ _ _ _=>bW λ_ _=>rfl) (ac (D0 n) (Zh _) an) rfl (by decide+kernel)
theorem D3:bJ P w K mg base (bh P w) 6 "_law_same" py:=D0 E9 D9 6
theorem Ld:bJ P w K mg base (bh P w) 2 "_law_bent_web" ig:=fe (ps:=["_law_pen_here","_law_web_here"]) E9 D9.d_law_bent_web (λ_ _ _ _ _ _=>bW λ_ _=>rfl) (ac (lA E9 D9) (by decide) an) rfl (by decide+kernel)
theorem D4:bJ P w K mg base (bh P w) 1 "_law_whole" gH:=fe (ps:=["_law_found"]) E9 D9.d_law_whole (λ_ _ _ _ _ _=>ef λ_=>rfl) an rfl (by decide+kernel)
theorem Le:bJ P w K mg base (bh P w) 2 "_law_is_web" er:=fe (ps:=["_law_thing"]) E9 D9.d_law_is_web (λ_ _ _ _ _ _=>ef λ_=>rfl) (ac (D4 E9 D9) (by decide) an) rfl (by decide+kernel)
theorem D5:bJ P w K mg base (bh P w) 3 "_law_no_web" jx:=fe (ps:=["_law_pen_here","_law_web_here"]) E9 D9.d_law_no_web (λ_ _ _ _ _ _=>bW λ_ _=>rfl) (ac (Ld E9 D9) (by decide) (ac (Le E9 D9) (by decide) an)) rfl (by decide+kernel)
theorem D6:bJ P w K mg base (bh P w) 2 "_law_no_place" jy:=fe (ps:=["_law_pen_here","_law_many"]) E9 D9.d_law_no_place (λ_ _ _ _ _ _=>bW λ_ _=>rfl) (ac (lA E9 D9) (by decide) an) rfl (by decide+kernel)
theorem Lf:bJ P w K mg base (bh P w) 2 "_law_bent_places" pB:=fe (ps:=["_law_pen_here","_law_many","_law_some_here"]) E9 D9.d_law_bent_places (λ_ _ _ _ _ _=>jj λ_ _ _=>rfl) (ac (lA E9 D9) (by decide) an) rfl (by decide+kernel)
theorem Lg:bJ P w K mg base (bh P w) 2 "_law_are_places" jz:=fe (ps:=["_law_many","_law_thing"]) E9 D9.d_law_are_places (λ_ _ _ _ _ _=>bW λ_ _=>rfl) (ac (D4 E9 D9) (by decide) an) rfl (by decide+kernel)
theorem D7:bJ P w K mg base (bh P w) 3 "_law_no_places" ij:=fe (ps:=["_law_pen_here","_law_many","_law_some_here"]) E9 D9.d_law_no_places (λ_ _ _ _ _ _=>jj λ_ _ _=>rfl) (ac (Lf E9 D9) (by decide) (ac (Lg E9 D9) (by decide) an)) rfl (by decide+kernel)
theorem D8:bJ P w K mg base (bh P w) 2 "_law_some" jA:=fe (ps:=["_law_pen_here","_law_many"]) E9 D9.d_law_some (λ_ _ _ _ _ _=>bW λ_ _=>rfl) (ac (lA E9 D9) (by decide) an) rfl (by decide+kernel)
theorem D_:bJ P w K mg base (bh P w) 10 "_law_told" cX:=fe (ps:=["_law_way","_law_one","_law_other"]) E9 D9.d_law_told (λ_ _ _ _ _ _=>jj λ_ _ _=>rfl) (ac (Lb E9 D9) (by decide) (ac (pK E9 D9) (by decide) (ac (DW E9 D9) (by decide) (ac (K' E9 D9) (by decide) an)))) rfl (by decide+kernel)
theorem Ea:bJ P w K mg base (bh P w) 1 "_law_both" pE:=fe (ps:=["_law_one","_law_other"]) E9 D9.d_law_both (λ_ _ _ _ _ _=>bW λ_ _=>rfl) an rfl (by decide+kernel)
theorem Lh:bJ P w K mg base (bh P w) 11 "law" lz:=fe (ps:=["_law_script"]) E9 D9.d_law (λ_ _ _ _ _ _=>ef λ_=>rfl) (ac (DY E9 D9) (by decide) (ac (D5 E9 D9) (by decide) (ac (D_ E9 D9) (by decide) (ac (DX E9 D9) (by decide) (ac (DZ E9 D9) (by decide) (ac (D6 E9 D9) (by decide) (ac (D7 E9 D9) (by decide) (ac (D3 E9 D9) (by decide) (ac (D8 E9 D9) (by decide) (ac (Ea E9 D9) (by decide) an)))))))))) rfl (by decide+kernel)
end
noncomputable def iF(K:Fg):Sp:=λvs H Q _=>∃(a:Nm) (ns:Li),vs=[.ref a]/\mK H/\c6 K H a (ns.map V.int)/\ns.length<=63/\∀H',Q (.bl Nj) H'
def Good(f:List D->ae->Res D):Prop:=∀ns:Li,ns.length<=63->∃S',f [.scr (ns.map D.int)] []=.ok (.bl Nj) S'
theorem Eb{K:Fg}{mg:GS}{μ:La}{H:Hp}:∀ns:Li,ai K mg μ H (ns.map D.int) (ns.map V.int)
 | []=>.nil
 |n::ns=>.cons bo (Eb ns)
theorem Ec{f:List D->ae->Res D}(g:Good f):∀vs H Q E,iF K vs H Q E->ul K mg 1 f vs H Q E:=by
 rintro vs H Q E ⟨a,N,rfl,i,j,d,q⟩;refine⟨rfl,[],[],[],[.scr (N.map D.int)],⟨λa h=>(by cases h),rfl,Qm,λn a l h=>(by cases h)⟩,.cons ?_ .nil,?_⟩
 ·unfold Rep;refine⟨a,N.map V.int,rfl,?_,Eb N⟩;rcases j with(h| ⟨o,h⟩)|h
  ·rcases i a with z| ⟨o,X,z⟩<;>rw[z]at h<;>cases h
  ·exact .inl ⟨o,h⟩
  ·exact .inr h
 ·obtain⟨S,e⟩:=g N d;rw[e];intro k c b x s r;unfold Rep at r;rw[r];exact q c
theorem wF{l:PySem.W.OpenLaw}(X:K.In h)(G:h.Ns mainGlobals mg)(m:mg "law"=some (.ref fa))(good:Good lz)(D:Df K)(Z:∀x∈gk,PySem.W.nsIn K mainGlobals x=some none)
  {j:Tok} (M:PySem.W.nsIn K mainGlobals "MOST_PLACES"=some (some (.int 8 j))) (y:RZ.all (DP K)=Nj):
  ∃fd:N_,(∀(s:Nl) (v:Nn),RK s fd ⟨[v],[]⟩ [("_law_script",v)])/\∀base:Nw,K.In base->base.Ns mainGlobals mg->cH l.prog w K mg base (bh l.prog w) 11 fa fd ["_law_script"] (iF K):=by
 have p:∀x d,G0 x=some d->∃v u,mg x=some u/\RelV v u/\∀F B H,Rep K ⟨mg,F⟩ B H d v:=λx d e=>by
  unfold G0 at e;rw[Ta]at e;split at e
  ·rename_i n;cases e;have o:x="MOST_PLACES":=by simpa using n
   subst o;exact⟨.int 8,_,PySem.W.mg_of X G M,⟨_,rfl⟩,λ_ _ _=>bo⟩
  cases e
 have r:=Zl.mp y
 have A:∀z∈RZ,XC l.prog w K mg z:=λz i=>by
  have g:=r z i;simp only[RZ,Zj,Tn,or_false]at i;rcases i with rfl|rfl|rfl|rfl|rfl|rfl
  ·exact wC X G g
  ·exact wC X G g
  ·exact wC X G g
  ·exact pG X G g
  ·obtain⟨f,fd,a,F⟩:=D.d_law_kinds;exact pH (e0:="_law_e") (N:=["_law_e","_law_found","_law_words"]) (a:=["NoWeb","NoPlace","NoPlaces","NoTie"]) (b:=["NoNumber","NoPairing","NoWay","NoRing"]) (c:=["NoArrows","NoSides","NoText","NoLine"]) (d:=["NoDeed","TooGreat"]) (wd:=["web","place","places","tie","number","pairing","way","ring","arrows","sides","text","line"]) (v:=["deed","great"]) X G g (by decide+kernel) F a (pJ (by decide+kernel)) (F.binds λ_ _ _ _ _ _=>ef λ_=>rfl) rfl (by decide+kernel) rfl rfl
  ·exact K2 X G g
 have E:En l.prog w K mg h:=⟨X,G,p,λx n=>PySem.W.mg_none_of X G (Z x n),A⟩;obtain⟨f,fd,a,F⟩:=D.d_law;have e:=m.symm.trans (PySem.W.mg_of X G a);cases e;have S:bt iE ["_law_script"] (bi (cz 56)):=pJ (by decide+kernel);refine⟨fd,λs v=>?_,λbase _ _=>?_⟩
 ·obtain⟨L,P,kV,q,Q,an,C,I,O,rfl,lk,t⟩:=F.ex;exact .of_eq rfl
 ·exact cH.imp (C1 (k:=10) F S (MI (ac (DY E D) (by decide) (ac (D5 E D) (by decide) (ac (D_ E D) (by decide) (ac (DX E D) (by decide) (ac (DZ E D) (by decide) (ac (D6 E D) (by decide) (ac (D7 E D) (by decide) (ac (D3 E D) (by decide) (ac (D8 E D) (by decide) (ac (Ea E D) (by decide) an)))))))))) p E.hb) rfl (by decide+kernel) λz i=>⟨E.xc z (ZU (Zl.mp (by decide+kernel:((dB eO).all λz=>decide (z∈RZ))=Nj) z i)),ZU (Zl.mp (by decide+kernel:((dB eO).all λz=>decide (z.need<=10))=Nj) z i)⟩) (Ec good)
mutual
theorem Ed{k:Nat}:∀(d:D),aZ 0 d=Nj->aZ k d=Nj
 | .non,_=>rfl
 | .bl _,_=>rfl
 | .int _,_=>rfl
 | .str _,_=>rfl
 | .tup _,h=>by exact lB _ h
 | .lst _,h=>by exact lB _ h
 | .scr _,h=>by exact lB _ h
 | .ref n,h=>by dsimp only[aZ]at h;simp at h
 | .fn y,_=>rfl
 | .ty y,_=>rfl
 | .dct,_=>rfl
 | .dks _,_=>rfl
theorem lB{k:Nat}:∀(ds:List D),bw 0 ds=Nj->bw k ds=Nj
 | [],_=>rfl
 |d::ds,h=>by dsimp only[bw]at h⊢;simp at h⊢;exact⟨Ed d h.1,lB _ h.2⟩
end
def Flat(S:ae):Prop:=∀xs∈S,bw 0 xs=Nj
theorem Flat.all{k:Nat}(h:Flat S):S.all (bw k)=Nj:=Zl.mpr λx H=>lB _ (h _ H)
theorem Flat.nil:Flat []:=λ_ h=>by cases h
theorem Flat.snoc(h:Flat S)(a:bw 0 xs=Nj):Flat (S++[xs]):=λy H=>by
 rcases ZR.mp H with z|z
 ·exact h _ z
 simp_all
theorem Flat.set(h:Flat S)(a:bw 0 xs=Nj):Flat (S.set n xs):=λy H=>by
 rcases List.mem_or_eq_of_mem_set H with z|z
 ·exact h _ z
 simp_all
theorem Ee{k:Nat}(h:Flat (S'.take k))(H:aZ 0 d=Nj):ee k d S'=.ok d (S'.take k):=by unfold ee;rw[if_pos h.all,if_pos (Ed d H)]
theorem Lj(h:Flat S)(H:aZ 0 d=Nj):ee S.length d S=.ok d S:=by rw[Ee (by simp_all) H,Oo]
theorem wG{k:Nat}(a:S.length=k)(h:Flat S)(H:aZ 0 d=Nj):ee k d S=.ok d S:=by subst a;exact Lj h H
theorem wH{step:D->List D->ae->Res (List D)}{S:ae}(g:D->Option D):∀(xs acc:List D),(∀x∈xs,∀acc,acc.length<ck->step x acc S=.ok (acc++(g x).toList) S)->acc.length+xs.length<=ck->aW step xs acc S=.ok (acc++xs.filterMap g) S
 | [],acc,_,_=>by simp[aW]
 |x::xs,acc,h,H=>by simp at H;simp[aW];rw[h x Ze _ (by lia)];unfold Res.bind;dsimp;rw[wH g _ _ (λy a=>h y (Zc _ a)) (by grind)];cases e:g x<;>simp[e]
theorem Lk{l:List α}{f:α->Option Bool}(h:∀x∈l,f x=some Nj):ba (l.map f)=some Nj:=by
 induction l with
 |nil=>rfl
 |cons x l i=>unfold ba;simp_all
theorem allO_map{l:List α}{f:α->Bool}:ba (l.map λx=>some (f x))=some (l.all f):=by
 induction l with
 |nil=>rfl
 |cons x l i=>unfold ba;simp_all
def av(t:Int×Int):D:=.tup [.int t.1,.int t.2]
def ag(ts:Lq):List D:=ts.map av
def ao(m:Int)(ts:Lq):D:=.tup [.int m,.tup (ag ts)]
theorem FH(t:Int×Int):aZ 0 (av t)=Nj:=rfl
theorem jC:∀(ts:Lq),bw 0 (ag ts)=Nj
 | []=>rfl
 |t::ts=>by show(aZ 0 _&&bw 0 (ag _))=Nj;rw[jC _];rfl
theorem wI:∀(ns:Li),bw 0 (ns.map D.int)=Nj
 | []=>rfl
 |t::T=>by show(aZ 0 _&&bw 0 _)=Nj;rw[wI _];rfl
theorem lC(m:Int)(ts:Lq):aZ 0 (ao m ts)=Nj:=by show(Nj&&(bw 0 _&&Nj))=Nj;rw[jC];rfl
def aG(a b:Int×Int):Prop:=a.1<b.1\/(a.1=b.1/\a.2<b.2)
instance (a b:Int×Int):Decidable (aG a b):=by unfold aG;exact inferInstance
theorem Ef(S:ae)(n:Nat)(a b:Int):b9 S (n+1) (.int a) (.int b)=some (a==b):=rfl
theorem pL(S:ae)(n:Nat)(a b:Int×Int):b9 S (n+2) (av a) (av b)=some (decide (a=b)):=by
 have e:b9 S (n+2) (av a) (av b)=some _:=rfl;simp_all
 grind
theorem Eg(S:ae)(n:Nat)(a b:Int×Int):ez S (n+2) (av a) (av b)=some (decide (aG a b)):=by
 have e:ez S (n+2) (av a) (av b)=match b9 S _ _ _ with
  |some Nj=>(match b9 S _ _ _ with
   |some Nj=>some _
   |some Nk=>some _
   |none=>none)
  |some Nk=>some _
  |none=>none:=rfl
 simp only[e,Ef];unfold aG
 grind
def aT(S:ae)(n:Nat):Prop:=∃a b,S[n]?=some [.int a,.int b]
theorem aT.set{m:Nat}{a b:Int}(h:aT S n):aT (S.set m [.int a,.int b]) n:=by
 obtain⟨x,y,h⟩:=h;by_cases e:m=n
 ·subst e;have H:=(Zm.mp h).1;exact⟨a,b,by rw[Z8 H]⟩
 ·exact⟨x,y,by rw[NZ e];exact h⟩
theorem pM(o:Flat S)(c:aT S n)(H:0<m)(h1:m<1000):∃r a b,0<=r/\r<m/\bK [.ref n,.int m] S=.ok (.int r) (S.set n [.int a,.int b]):=by
 obtain⟨a,b,h⟩:=c;have j:=(Zm.mp h).1;have F:∀x y:Int,Flat (S.set n [.int x,.int y]):=λx y=>o.set rfl;have t:∀(r x y:Int),ee S.length (.int r) (S.set n [.int x,.int y])=.ok (.int r) (S.set n [.int x,.int y]):=λr x y=>wG (by simp) (F x y) rfl;by_cases d:b=1
 ·subst d;refine⟨a%m,a/m,1,Ri _ (by omega),QH _ H,?_⟩;rw[<-t];have q:m<1073741824:=by omega
  simp[bK,aC,wj,wh,af,ap,am,aj,ah,Res.bind,Res.noErr,aA,bP,ay,h,g9,iO,aw,bu,b9,sh,yb,a9,dX,hH,f9,iR,H,q]
 ·have e:(b==1)=Nk:=by simpa using d
  have f:0<=(a%2147483629*48271+11)%2147483629:=Ri _ (by omega);have g:(a%2147483629*48271+11)%2147483629<2147483629:=QH _ (by omega)
  have E:∀p:Int,(a%2147483629*48271+11)%2147483629=p->bK [.ref n,.int m] S=.ok (.int ((p*p+40692*p)%2147483647/8%m)) (S.set n [.int p,.int b]):=λp c=>by
   rw[c]at f g;have k: -(18446744073709551616:Int)<p:=by omega
   have l:p<(18446744073709551616:Int):=by omega
   have s:∀x,(S.set n x)[n]?=some x:=λx=>Z8 j;have i:∀x y:List D,(S.set n x).set n y=S.set n y:=λx y=>List.set_set ..;clear j;rw[<-t];simp[bK,aC,wj,wh,af,ap,am,aj,ah,Res.bind,Res.noErr,aA,bP,ay,h,g9,iO,aw,bu,b9,sh,yb,a9,dX,hH,f9,mP,eX,iR,H,e,d,s,i,c,k,l]
  exact⟨_,_,b,Ri _ (show m≠0 by omega),QH _ H,E _ rfl⟩
structure cG (m:Int)(ts:Lq):Prop where
 lo:1<=m
 hi:m<=8
 ris:ts.Pairwise aG
 tie:∀t∈ts,0<=t.1/\t.1<t.2/\t.2<m
 few:ts.length<=28
theorem aM(c:ds.length=np)(h:af Φ Γ body (ds.map some++Nu (n-np) none) S=.ok (.ret d) S')(b:S'.length=S.length)(a:Flat S')(H:aZ 0 d=Nj):aC Φ Γ body n np ds S=.ok d S':=by unfold aC;rw[if_pos c,h];exact wG b a H
theorem run_next(b:ds.length=np)(h:af Φ Γ body (ds.map some++Nu (n-np) none) S=.ok (.next ρ) S')(a:S'.length=S.length)(H:Flat S'):aC Φ Γ body n np ds S=.ok .non S':=by unfold aC;rw[if_pos b,h];exact wG a H rfl
theorem Ll(h:Flat S)(i:Int):ff [.int i] S=.ok (.bl Nj) S:=aM rfl rfl rfl h rfl
theorem wJ(h:Flat S)(i l H:Int):fQ [.int i,.int l,.int H] S=.ok (.bl (decide (l<=i/\i<=H))) S:=by refine aM rfl ?_ rfl h rfl;simp[ln,af,ap,aj,ah,Res.bind,Res.noErr,aA,pi,Ll h,aw,Fv];lia
theorem Eh(h:Flat S)(m i:Int):eg [.int m,.int i] S=.ok (.bl (decide (0<=i/\i<m))) S:=by refine aM rfl ?_ rfl h rfl;have e:(i<=m-1)=(i<m):=propext (by lia);simp[lp,af,ap,aj,ah,Res.bind,Res.noErr,vR,wJ h,dX,iP,e]
theorem wK{step:D->List D->ae->Res (List D)}(h:∀x∈xs,∀acc,acc.length<ck->step x acc S=.ok (acc++[.bl Nj]) S)(b:xs.length<=ck):aW step xs [] S=.ok (xs.map λ_=>D.bl Nj) S:=by rw[wH (λ_=>some _) _ _ (λx a acc H=>h x a _ H) (by simp_all)];simp
theorem wL:iQ [.lst (xs.map λ_=>D.bl Nj)] S=.ok (.bl Nj) S:=by unfold iQ;simp only[ay,ZW,show ba (xs.map (fm∘λx=>D.bl _))=some _ from Lk λx h=>rfl];rfl
theorem Ei(xs:List D):a_ xs (some 1) none=xs.drop 1:=by
 unfold a_;have e:HT.bz xs.length 0 (some 1)=min 1 _:=rfl;have E:HT.bz xs.length _ none=xs.length:=rfl;rw[e,E];cases xs with
 |nil=>rfl
 |cons x r=>simp
theorem Ej(b:Flat S)(d:xs.length<=1000)(h:∀(i:Nat) x y,xs[i]?=some x->xs[i+1]?=some y->ez S a9 x y=some Nj):cE [.tup xs] S=.ok (.bl Nj) S:=by
 refine aM rfl ?_ rfl b rfl;have a:du S (.tup xs) (.tup (xs.drop 1))=some (.items (Np (λx y=>.tup [x,y]) xs (xs.drop 1))):=rfl;simp[vT,vS,af,ap,am,aj,ah,aY,Res.bind,Res.noErr,aA,mV,cS,ir,aU];simp only[Ei xs,a,cv];rw[wK]
 ·simp only[Res.noErr,wL]
 ·intro z a A c;obtain⟨i,H⟩:=Sa.mp a;rw[Sb]at H;cases e:xs[i]? with
  |none=>rw[e]at H;cases H
  |some x=>
   cases E:(xs.drop 1)[i]? with
   |none=>rw[e,E]at H;cases H
   |some y=>rw[e,E]at H;cases H;rw[SG,Nat.add_comm]at E;simp[bj,bT,slots,dt,aR,bF,aS,bv,aj,Res.bind,aw,h i x y e E,bu,Res.noErr];unfold ck at c;omega
 ·simp;unfold ck;omega
theorem Lm(H:Flat S)(e:ns.length<=1000)(h:∀n∈ns,0<=n/\n<m):dC [.int m,.tup (ns.map D.int)] S=.ok (.bl Nj) S:=by
 refine aM rfl ?_ rfl H rfl;have b:bH [.tup (ns.map D.int),.ty "tuple"] S=.ok _ S:=rfl;simp[lq,af,ap,aj,ah,aY,Res.bind,Res.noErr,aA,aU,b,eY,rV];simp only[cv];rw[wK]
 ·simp only[Res.noErr,wL]
 ·intro z c a d;obtain⟨n,f,rfl⟩:=Zp.mp c;simp[bj,bT,slots,aR,aS,bv,aj,ah,Res.bind,J1,Eh H m n];simp_all
 ·simp;lia
theorem Ln(H:Flat S){t:Int×Int}(h:0<=t.1/\t.1<t.2/\t.2<m):fR [.int m,av t] S=.ok (.bl Nj) S:=by
 refine aM rfl ?_ rfl H rfl;have a:dC [.int m,av t] S=.ok _ S:=Lm H (ns:=[t.1,t.2]) (by simp) (by grind)
 have b:cE [av t] S=.ok _ S:=Ej H (by simp) (by
  intro i x y e E;have f:i=0:=by grind
  subst f;simp at e E;subst e;subst E;show some _=some _;simp_all)
 have c:aU .len [av t] S=.ok _ S:=rfl;have d:aw .Eq (.int 2) (.int 2) S=.ok _ S:=rfl;simp[jl,af,ap,aj,ah,Res.bind,Res.noErr,aA,po,C7,a,b,c,d]
theorem Ek{i:Nat}{x:D}(h:(ag ts)[i]?=some x):∃t,ts[i]?=some t/\x=av t:=by
 simp[ag]at h
 grind
theorem Lo(H:Flat S)(a:ts.length<=1000)(h:ts.Pairwise aG):cE [.tup (ag ts)] S=.ok (.bl Nj) S:=
 Ej H (by unfold ag;simpa using a) λi x y e E=>by obtain⟨t,f,rfl⟩:=Ek e;obtain⟨u,F,rfl⟩:=Ek E;rw[show ez S a9 _ _=some _ from Eg S _ t u];obtain⟨g,rfl⟩:=Zm.mp f;obtain⟨G,rfl⟩:=Zm.mp F;rw[ZV (Od.mp h i _ _ _ (by omega))]
theorem Lr(h:Flat S)(W:cG m ts):dc [ao m ts] S=.ok (.bl Nj) S:=by
 have l:=W.few;refine aM rfl ?_ rfl h rfl;have b:bH [ao m ts,.ty "tuple"] S=.ok (.bl Nj) S:=rfl;have c:fH [ao m ts] S=.ok (.int 2) S:=rfl;have d:aw .NotEq (.int 2) (.int 2) S=.ok (.bl Nk) S:=rfl;have H:=wJ h m 1 8;rw[ZV (⟨W.lo,W.hi⟩:1<=m/\m<=8)]at H;have e:bH [.tup (ag ts),.ty "tuple"] S=.ok (.bl Nj) S:=rfl;have a:=Lo h (show ts.length<=1000 by omega) W.ris;have f:G0 "MOST_PLACES"=some (.int 8):=rfl;have g:aR (.tup [.var 1,.var 2]) (ao m ts) [some (ao m ts),none,none]=some _:=rfl;simp[jm,C8,af,ap,am,aj,ah,aY,Res.bind,Res.noErr,aA,aU,b,c,d,C_,Dc,Dd,H,e,bb,a,f,g,eY,C9,J4,yh];simp only[cv];rw[wK]
 ·simp only[Res.noErr,wL];simp[a]
 ·intro z k A i;obtain⟨t,j,rfl⟩:=Zp.mp k;simp[bj,bT,slots,dt,aR,bF,aS,bv,aj,ah,Res.bind,Dd,Ln h (W.tie t j),Res.noErr];unfold ck at i;omega
 ·unfold ag ck;simp;omega
theorem Lu(h:Flat S)(W:cG m ts):de [ao m ts] S=.ok .non S:=by refine run_next (ρ:=[some (ao m ts)]) rfl ?_ rfl h;simp[vX,Dg,af,ap,am,aj,ah,Res.bind,Di,Lr h W,bb]
theorem El{b:Type}{f e:b->D}{p:b->Bool}{step:D->List D->ae->Res (List D)}{S:ae}:∀(xs:List b) (acc:List D),(∀x∈xs,∀acc,acc.length<ck->step (f x) acc S=.ok (if p x=Nj then acc++[e x]else acc) S)->acc.length+xs.length<=ck->aW step (xs.map f) acc S=.ok (acc++(xs.filter p).map e) S
 | [],acc,_,_=>by simp[aW]
 |x::xs,acc,h,c=>by
  simp[aW];unfold Res.bind;have i:=λa=>El _ a λy H=>h y (Zc _ H)
  grind
theorem pN{f e:α->D}{p:α->Bool}{step:D->List D->ae->Res (List D)}{xs:List α}(h:∀x∈xs,∀acc,acc.length<ck->step (f x) acc S=.ok (if p x=Nj then acc++[e x]else acc) S)(H:xs.length<=ck):aW step (xs.map f) [] S=.ok ((xs.filter p).map e) S:=by rw[El _ _ h (by simp_all)];simp
theorem bg{c:CS}{cs:List CS}(h:ap Φ Γ c ρ S=.ok (.next ρ') S'):af Φ Γ (c::cs) ρ S=af Φ Γ cs ρ' S':=by rw[af,h];rfl
theorem bD{c:CS}{cs:List CS}(h:ap Φ Γ c ρ S=.ok (.ret d) S'):af Φ Γ (c::cs) ρ S=.ok (.ret d) S':=by rw[af,h];rfl
theorem jD{t:CT}{it:CE}{its:iV}(h:aY Φ Γ it ρ S=.ok its S1):ap Φ Γ (.for_ t it body) ρ S=uf (λx ρ S=>match aR t x ρ with
   |some ρ'=>af Φ Γ body ρ' S
   |none=>.fail) its ρ S1:=by
 rw[ap,h];rfl
theorem bL{i:Nat}{e:CE}{cs:List CS}(h:aj Φ Γ e ρ S=.ok d S'):af Φ Γ (.asg i e::cs) ρ S=af Φ Γ cs (ρ.set i (some d)) S':=
 bg (by rw[ap,h];rfl)
def b7(l:Int):Nat->Li
 |0=>[]
 |n+1=>l::b7 (l+1) n
theorem wM(l:Int)(n:Nat):dL l n=(b7 l n).map D.int:=by
 induction n generalizing l with
 |zero=>rfl
 |succ n i=>unfold dL b7;rw[i];rfl
theorem wN{l x:Int}:x∈b7 l n->l<=x/\x<l+n:=by
 induction n generalizing l with
 |zero=>intro h;cases h
 |succ n i=>
  intro h;unfold b7 at h
  grind
theorem pO{l:Int}:(b7 l n).length=n:=by
 induction n generalizing l with
 |zero=>rfl
 |succ n i=>unfold b7;simp[i]
theorem wO(c:Flat S)(n:Nat)(i:Int):bB (n+1) [.int i,.int i] S=.ok (.bl Nj) S:=by
 refine aM rfl ?_ rfl c rfl;have h:bH [.int i,.ty "bool"] S=.ok (.bl Nk) S:=rfl;have H:bH [.int i,.ty "int"] S=.ok (.bl Nj) S:=rfl
 have a:aw .Eq (.int i) (.int i) S=.ok (.bl Nj) S:=by have:aw .Eq (.int i) (.int i) S=.ok (.bl (i==i)) S:=rfl;rw[this];simp
 have b:aw .Is (.int i) .non S=.ok (.bl Nk) S:=rfl;simp[el,dP,af,ap,am,aj,ah,Res.bind,Res.noErr,aA,aU,h,H,a,b,bb]
noncomputable def insI(x:Int×Int):Lq->Lq
 | []=>[x]
 |y::ys=>if aG x y then x::y::ys else y::insI x ys
def sortI(l:Lq):Lq:=l.foldl (λacc x=>insI x acc) []
theorem pP(a b:Int×Int):bU (.seq .int) (av a) (av b)=decide (aG a b):=by
 have e:bU (.seq .int) (av a) (av b)=if decide _=Nj then Nj else if decide _=Nj then Nk else if decide _=Nj then Nj else if decide _=Nj then Nk else Nk:=rfl;by_cases h:aG a b
 ·rw[ZV h];unfold aG at h;lia
 ·rw[ZE h];unfold aG at h;lia
theorem Em(x:Int×Int):∀l:Lq,dM (bU (.seq .int)) (av x) (ag l)=ag (insI x l)
 | []=>rfl
 |y::Y=>by
  show(if bU _ _ _=Nj then av x::av y::ag _ else av y::dM _ _ (ag _))=ag _;have e:insI x (y::Y)=if aG x y then x::y::Y else y::insI x _:=rfl;rw[pP,Em x _,e];by_cases h:aG x y
  ·rw[ZV h,if_pos h];rfl
  ·rw[ZE h,if_neg h];rfl
theorem Eo:∀(l acc:Lq),(ag l).foldl (λacc x=>dM (bU (.seq .int)) x acc) (ag acc)=ag (l.foldl (λacc x=>insI x acc) acc)
 | [],acc=>rfl
 |x::l,acc=>by show(ag l).foldl _ (dM _ _ _)=_;rw[Em,Eo l];rfl
theorem Ep(l:Lq):eI (bU (.seq .int)) (ag l)=ag (sortI l):=Eo l []
theorem pQ(x:Int×Int):∀l,(insI x l).Perm (x::l)
 | []=>.refl _
 |y::Y=>by
  unfold insI;split
  ·exact .refl _
  ·exact((pQ x _).cons y).trans (.swap x y _)
theorem Er:∀(l acc:Lq),(l.foldl (λacc x=>insI x acc) acc).Perm (l++acc)
 | [],acc=>.refl _
 |x::l,acc=>by exact(Er l _).trans (((pQ x _).append_left l).trans Pj)
theorem wQ(l:Lq):(sortI l).Perm l:=by have:=Er l [];rw[N4]at this;exact this
theorem lex_tot{x y:Int×Int}(h:¬aG x y)(n:x≠y):aG y x:=by
 unfold aG at h⊢
 grind
theorem Es{x y z:Int×Int}(a:aG x y)(b:aG y z):aG x z:=by unfold aG at*;lia
theorem Et(x:Int×Int):∀l,l.Pairwise aG->x∉l->(insI x l).Pairwise aG
 | [],_,_=>List.pairwise_singleton _ _
 |y::Y,h,n=>by
  obtain⟨a,b⟩:=ZI.mp h;unfold insI;by_cases e:aG x y
  ·rw[if_pos e];refine ZI.mpr ⟨λz H=>?_,h⟩;rcases Zj.mp H with rfl|H
   ·exact e
   ·exact Es e (a z H)
  ·rw[if_neg e];refine ZI.mpr ⟨λz H=>?_,Et x _ b λz=>n (Zc _ z)⟩;rcases Zj.mp ((pQ x _).mem_iff.mp H)with rfl|H
   ·exact lex_tot e λz=>n (by simp_all)
   simp_all
theorem Eu:∀(l acc:Lq),acc.Pairwise aG->(l++acc).Nodup->(l.foldl (λacc x=>insI x acc) acc).Pairwise aG
 | [],acc,h,_=>h
 |x::l,acc,h,n=>by have N:=n;obtain⟨a,b⟩:=Og.mp N;exact Eu l _ (Et x _ h λz=>a (ZD _ z)) ((((pQ x _).append_left l).trans Pj).nodup_iff.mpr N)
theorem Ew{l:Lq}(h:l.Nodup):(sortI l).Pairwise aG:=Eu l _ .nil (by simp_all)
theorem Ex{l:Lq}(H:ay S d=some (ag l))(b:l.length<64):km Nk (.seq .int) [d] S=.ok (.lst (ag (sortI l))) S:=by
 have e:(ag l).all (az (.seq .int))=Nj:=by rw[Zl];intro x h;obtain⟨t,_,rfl⟩:=Zp.mp h;rfl
 have E:gb (.seq .int) (ag l)=Nj:=by
  have:((ag l).all λd=> !fo d)=Nj:=by rw[Zl];intro x h;obtain⟨t,_,rfl⟩:=Zp.mp h;rfl
  show(Nj&&((ag l).all λd=> !fo d))=Nj;rw[this];rfl
 have a:(ag l).length<64:=by unfold ag;rw[Zk];omega
 unfold km;simp only[H];rw[if_pos ⟨e,a,E⟩,Ep];rfl
theorem jE{l:Lq}(h1:1<=m)(h:m<=8)(a:l.Nodup)(c:∀t∈l,0<=t.1/\t.1<t.2/\t.2<m)(H:l.length<=28):cG m (sortI l):=
 ⟨h1,h,Ew a,λt b=>c t ((wQ l).mem_iff.mp b),by rw[(wQ l).length_eq];exact H⟩
noncomputable def fT(m:Nat):Lq:=(b7 0 m).flatMap λi=>(b7 (i+1) (m-1-i.toNat)).map λj=>(i,j)
theorem lD(h1:1<=m)(h:m<=8):m=1\/m=2\/m=3\/m=4\/m=5\/m=6\/m=7\/m=8:=by obtain⟨n,rfl⟩:=P7 (Int.le_trans (by decide) h1);exact(by decide:∀n:Fin 9,(1:Int)<=(n.val:Nat)->((n.val:Nat):Int)=1\/((n.val:Nat):Int)=2\/((n.val:Nat):Int)=3\/((n.val:Nat):Int)=4\/((n.val:Nat):Int)=5\/((n.val:Nat):Int)=6\/((n.val:Nat):Int)=7\/((n.val:Nat):Int)=8) ⟨n,Td (RQ.mp h)⟩ h1
theorem MM(h1:2<m)(H:m<=8):m=3\/m=4\/m=5\/m=6\/m=7\/m=8:=by
 rcases lD (Int.le_trans (by decide) h1) H with rfl|rfl|h
 ·exact absurd h1 (by decide)
 ·exact absurd h1 (by decide)
 ·exact h
theorem Lw(h1:1<=m)(h:m<=8):af DC G0 DB ([D.int m].map some++Nu (DA.length-1) none) S=.ok (.ret (.lst (ag (fT m.toNat)))) S:=by rcases lD h1 h with rfl|rfl|rfl|rfl|rfl|rfl|rfl|rfl<;>rfl
theorem pR(H:Flat S)(h1:1<=m)(h:m<=8):pw [.int m] S=.ok (.lst (ag (fT m.toNat))) S:=
 aM rfl (Lw h1 h) rfl H (jC _)
theorem Ey(h1:1<=m)(h:m<=8):cG m (fT m.toNat):=by rcases lD h1 h with rfl|rfl|rfl|rfl|rfl|rfl|rfl|rfl<;>exact⟨by omega,by omega,by decide+kernel,by decide+kernel,by decide+kernel⟩
theorem pS{u:Lq}(W:cG m ts)(h:u.Sublist ts):cG m u:=
 ⟨W.lo,W.hi,W.ris.sublist h,λt H=>W.tie t (h.subset H),ZA h.length_le W.few⟩
def Drawn(n:Nat)(S S':ae):Prop:=∃a b:Int,S'=S.set n [.int a,.int b]
theorem Drawn.refl(h:aT S n):Drawn n S S:=by obtain⟨a,b,h⟩:=h;obtain⟨H,e⟩:=Zm.mp h;exact⟨a,b,by rw[<-e,List.set_getElem_self]⟩
theorem Drawn.trans(a:Drawn n S S1)(b:Drawn n S1 S2):Drawn n S S2:=by obtain⟨x,y,rfl⟩:=a;obtain⟨z,w,rfl⟩:=b;exact⟨z,w,by rw[List.set_set]⟩
theorem Drawn.flat(h:Drawn n S S')(H:Flat S):Flat S':=by obtain⟨a,b,rfl⟩:=h;exact H.set rfl
theorem Drawn.pen(h:Drawn n S S')(H:aT S n):aT S' n:=by obtain⟨a,b,rfl⟩:=h;exact H.set
theorem Drawn.len(h:Drawn n S S'):S'.length=S.length:=by obtain⟨a,b,rfl⟩:=h;simp
theorem cf(H:Flat S)(c:aT S n)(h:0<m)(h1:m<1000):∃r S',0<=r/\r<m/\Drawn n S S'/\bK [.ref n,.int m] S=.ok (.int r) S':=by obtain⟨r,a,b,x,y,e⟩:=pM H c h h1;exact⟨r,_,x,y,⟨a,b,rfl⟩,e⟩
theorem pT{n:Nat}{step:D->List D->ae->Res (List D)}{f:Int×Int->D}:∀(ts:Lq) (acc:List D) (S:ae),Flat S->aT S n->acc.length+ts.length<=1000->
  (∀t∈ts,∀acc S,Flat S->aT S n->acc.length<=1000->∃k S',Drawn n S S'/\step (f t) acc S=.ok (if k=Nj then acc++[f t]else acc) S')->
  ∃(us:Lq) (S':ae),us.Sublist ts/\Drawn n S S'/\aW step (ts.map f) acc S=.ok (acc++us.map f) S'
 | [],acc,S,b,H,_,_=>⟨[],S,.slnil,.refl H,by simp[aW]⟩
 |t::ts,acc,S,b,H,g,h=>by
  simp only[ZS]at g;obtain⟨k,a,d1,E⟩:=h t Ze acc S b H (by lia);rw[NX];unfold aW;rw[E];cases k with
  |true=>obtain⟨us,c,s,d2,e⟩:=pT ts (acc++[f t]) a (d1.flat b) (d1.pen H) (by grind) λu d=>h u (Zc _ d);exact⟨t::us,c,s.cons_cons t,d1.trans d2,by show aW step (ts.map f) (acc++[f t]) a=_;simp_all⟩
  |false=>obtain⟨us,c,s,d2,e⟩:=pT ts acc a (d1.flat b) (d1.pen H) (by lia) λu d=>h u (Zc _ d);exact⟨us,c,s.cons t,d1.trans d2,by show aW step (ts.map f) acc a=_;rw[e]⟩
theorem wR{n:Nat}{step:D->List D->ae->Res (List D)}:∀(k:Nat) (lo:Int) (acc:List D) (S:ae),1<=lo->lo+k<=100->Flat S->aT S n->acc.length+k<=1000->
  (∀p:Int,1<=p->p<100->∀acc S,Flat S->aT S n->acc.length<=1000->∃r S',0<=r/\r<p/\Drawn n S S'/\step (.int p) acc S=.ok (acc++[av (r,p)]) S')->
  ∃(us:Lq) (S':ae),us.map (·.2)=b7 lo k/\(∀t∈us,0<=t.1/\t.1<t.2/\lo<=t.2/\t.2<lo+k)/\Drawn n S S'/\aW step ((b7 lo k).map D.int) acc S=.ok (acc++ag us) S'
 |0,lo,acc,S,_,_,a,H,_,_=>⟨[],S,rfl,λt h=>(by cases h),.refl H,by simp[aW,b7,ag]⟩
 |k+1,lo,acc,S,f,g,a,H,i,h=>by
  obtain⟨r,c,R,j,d1,e⟩:=h lo f (by omega) acc S a H (by omega);obtain⟨us,d,s,v,d2,E⟩:=wR k (lo+1) (acc++[av (r,lo)]) c (by omega) (by omega) (d1.flat a) (d1.pen H) (by simp;omega) h;refine⟨(r,lo)::us,d,?_,λt b=>?_,d1.trans d2,?_⟩
  ·simp_all;rfl
  ·rcases Zj.mp b with rfl|b
   ·dsimp only;omega
   ·have:=v t b;omega
  ·show aW step (D.int lo::(b7 (lo+1) k).map D.int) acc S=_;unfold aW;rw[e];show aW step _ (acc++[av (r,lo)]) c=_;rw[E];simp[ag]
theorem Ez{l:Int}:(b7 l n).Nodup:=by
 induction n generalizing l with
 |zero=>exact Qm
 |succ n i=>refine Og.mpr ⟨λh=>?_,i⟩;have:=wN h;omega
theorem fU{c:CE}{a b:List CS}{k:Bool}(h:am Φ Γ c ρ S=.ok k S1):ap Φ Γ (.ite c a b) ρ S=if k=Nj then af Φ Γ a ρ S1 else af Φ Γ b ρ S1:=by rw[ap,h];rfl
theorem gI{tg:CT}{it:CE}{i:List CE}{body:CE}{a:ae}{its:iV}(h:aY Φ Γ it ρ S=.ok its S1)
  (H:cv (λx acc S2=>match bj tg x (fr.map λj=>j.bind λj=>(ρ[j]?).join)with
    |some ρ'=>(aS Φ Γ i ρ' S2).bind λk S3=>if k=Nj then bv Φ Γ body ρ' acc S3 else .ok acc S3
    |none=>.fail) its [] S1=.ok ys a):aj Φ Γ (.comp Nk N fr tg it i body) ρ S=.ok (.lst ys) a:=by
 rw[aj,h];exact Eq.trans (Z2 (λr=>Res.bind _ λys a=>if Nk=Nj then Res.ok (D.ref a.length) (a++[ys])else Res.ok (.lst ys) a) H) rfl
section
variable {S3:ae}{d2 r x y:D}{e a b:CE}
theorem al{i:Nat}(h:ρ[i]?=some (some d)):aj Φ Γ (.var i) ρ S=.ok d S:=by rw[aj,h]
theorem gJ{k:jK}(h:aj Φ Γ e ρ S=.ok d S1)(H:aU k [d] S1=.ok r S2):aj Φ Γ (.blt k [e]) ρ S=.ok r S2:=by simp[aj,ah,h,Res.bind,H,Res.noErr]
theorem pU(h1:aj Φ Γ a ρ S=.ok x S1)(h:aj Φ Γ b ρ S1=.ok y S2):aj Φ Γ (.tup [a,b]) ρ S=.ok (.tup [x,y]) S2:=by simp[aj,ah,h1,h,Res.bind]
theorem Ly{f:Str}(H:Φ f=some φ)(h1:aj Φ Γ a ρ S=.ok x S1)(h:φ [x] S1=.ok r S2):aj Φ Γ (.call f [a]) ρ S=.ok r S2:=by simp[aj,ah,H,h1,h,Res.bind]
theorem gK{f:Str}(c:Φ f=some φ)(h1:aj Φ Γ a ρ S=.ok x S1)(H:aj Φ Γ b ρ S1=.ok y S2)(h:φ [x,y] S2=.ok r S3):aj Φ Γ (.call f [a,b]) ρ S=.ok r S3:=by simp[aj,ah,c,h1,H,h,Res.bind]
theorem dF(h:aj Φ Γ e ρ S=.ok d S1):ap Φ Γ (.ret e) ρ S=.ok (.ret d) S1:=by rw[ap,h];rfl
end
theorem et{w k j:Int}(a:ρ[2]?=some (some (.int m)))(b:ρ[3]?=some (some (.int w))):am Φ Γ (.band (.cmp .Eq (.var 3) (.lit (.int k))) (.cmp .Gt (.var 2) (.lit (.int j)))) ρ S=.ok (decide (w=k/\j<m)) S:=by
 have e:aw .Eq (.int w) (.int k) S=.ok (.bl (w==k)) S:=rfl;have E:aw .Gt (.int m) (.int j) S=.ok (.bl (decide (j<m))) S:=rfl;by_cases h:w=k
 ·subst h;have H:(w==w)=Nj:=by simp
  rw[H]at e;simp[am,aj,Res.bind,Res.noErr,aA,a,b,e,E]
 ·have H:(w==k)=Nk:=by simpa using h
  rw[H]at e;simp[am,aj,Res.bind,Res.noErr,aA,a,b,e,E,h]
theorem pV{w k:Int}(h:ρ[3]?=some (some (.int w))):am Φ Γ (.cmp .Eq (.var 3) (.lit (.int k))) ρ S=.ok (decide (w=k)) S:=by have e:aw .Eq (.int w) (.int k) S=.ok (.bl (w==k)) S:=rfl;have E:(w==k)=decide (w=k):=rfl;simp[am,aj,Res.bind,Res.noErr,aA,h,e,E]
theorem gL{c:CE}{a:List CS}{cs:List CS}{P:Prop} [Decidable P] (h:am Φ Γ c ρ S=.ok (decide P) S)(H:¬P):af Φ Γ (.ite c a []::cs) ρ S=af Φ Γ cs ρ S:=
 bg (by rw[fU h,ZE H,if_neg ZQ,af])
theorem gM{c:CE}{a:List CS}{cs:List CS}{P:Prop} [Decidable P] (h:am Φ Γ c ρ S=.ok (decide P) S)(b:P)(H:af Φ Γ a ρ S=.ok (.ret d) S'):af Φ Γ (.ite c a []::cs) ρ S=.ok (.ret d) S':=
 bD (by rw[fU h,ZV b,if_pos rfl,H])
theorem EA{r:Int}(h:0<=r)(h1:r<12):∃v,0<=v/\v<8/\bP (.lst [.int 0,.int 0,.int 1,.int 0,.int 2,.int 1,.int 3,.int 4,.int 5,.int 6,.int 7,.int 0]) (.int r) S=.ok (.int v) S:=by
 obtain⟨n,rfl⟩:=P7 h;have H:n<12:=RR.mp h1;clear h h1
 match n,H with
 |0,_|1,_|2,_|3,_|4,_|5,_|6,_|7,_|8,_|9,_|10,_|11,_=>exact⟨_,by decide,by decide,rfl⟩
theorem EB{r:Int}(h:0<=r)(h1:r<5):∃v:Int,bP (.lst [.int 2,.int 3,.int 4,.int 6,.int 8]) (.int r) S=.ok (.int v) S:=by
 have:r=0\/r=1\/r=2\/r=3\/r=4:=by lia
 rcases this with rfl|rfl|rfl|rfl|rfl<;>exact⟨_,rfl⟩
noncomputable def rY(m:Nat):Lq:=(b7 0 (m-1)).map (λk=>(k,k+1))++[(0,(m:Int)-1)]
noncomputable def lE(m:Nat):Lq:=[(0,1),(0,2),(1,2)]++((b7 3 (m-4)).map (λk=>(k,k+1))++[(3,(m:Int)-1),(2,3)])
theorem wS(C:Flat S)(E:aT S n):∃m ts S',cG m ts/\Drawn n S S'/\ie [.ref n,.int 8] S=.ok (ao m ts) S':=by
 suffices h:∃m ts S',cG m ts/\Drawn n S S'/\af b6 G0 lr [some (.ref n),some (.int 8),none,none,none,none,none] S=.ok (.ret (ao m ts)) S' by obtain⟨m,ts,S',W,d,e⟩:=h;exact⟨m,ts,S',W,d,aM rfl e d.len (d.flat C) (lC m ts)⟩
 obtain⟨r,V,R,O,d1,e1⟩:=cf C E (m:=12) (by decide) (by decide);have G:=d1.flat C;have I:=d1.pen E;obtain⟨v,v0,v1,ev⟩:=EA (S:=V) R O;obtain⟨w,b,w0,w1,d2,e2⟩:=cf G I (m:=9) (by decide) (by decide);have H:=d2.flat G;have j:=d2.pen I;have D:=d1.trans d2;have hm:∃m:Int,1<=m/\m<=8/\1+8-1-v%8=m:=⟨8-v,by omega,by omega,by omega⟩;obtain⟨m,M,N,em⟩:=hm;unfold lr
 rw[bL (d:=.int m) (S':=V) (by simp[aj,ah,Res.bind,Res.noErr,eh,e1,ev,dX,eX,iP,hH];omega)];rw[bL (d:=.int w) (S':=b) (by simp[aj,ah,Res.bind,Res.noErr,eh,e2])];simp only[OZ,O0];by_cases K:w=0/\2<m
 ·refine⟨m,sortI (rY m.toNat),b,?_,D,?_⟩
  ·have:=MM K.2 (by omega);rcases this with rfl|rfl|rfl|rfl|rfl|rfl<;>exact jE (by decide) (by decide) (by decide+kernel) (by decide+kernel) (by decide+kernel)
  ·refine gM (et rfl rfl) K ?_;have:=MM K.2 (by omega);rcases this with rfl|rfl|rfl|rfl|rfl|rfl<;>rfl
 rw[gL (et rfl rfl) K];by_cases Z:w=1/\5<m
 ·refine⟨m,sortI (lE m.toNat),b,?_,D,?_⟩
  ·have:m=6\/m=7\/m=8:=by omega
   rcases this with rfl|rfl|rfl<;>exact jE (by decide) (by decide) (by decide+kernel) (by decide+kernel) (by decide+kernel)
  ·refine gM (et rfl rfl) Z ?_;have:m=6\/m=7\/m=8:=by omega
   rcases this with rfl|rfl|rfl<;>rfl
 rw[gL (et rfl rfl) Z];have s:=Ey M N;by_cases c3:w=2/\2<m
 ·obtain⟨q,a,q0,q1,B,F⟩:=cf H j (m:=2) (by decide) (by decide);have i:=B.flat H;refine⟨m,(fT m.toNat).filter (λt=>decide (t.1<1+q/\1+q<=t.2)),a,pS s Pw,D.trans B,?_⟩;refine gM (et rfl rfl) c3 ?_;rw[bL (d:=.int (1+q)) (S':=a) (by simp[aj,ah,Res.bind,Res.noErr,eh,F,dX,eX])];refine bD ?_;simp[ap,aj,ah,aY,Res.bind,Res.noErr,aA,aU,cv,px,pR i M N,eY];unfold ag;rw[pN (f:=av) (e:=av) (p:=λt=>decide (t.1<1+q/\1+q<=t.2))]
  ·simp[Res.noErr,ka,ay,ao,ag]
  ·intro t U A P;have c:A.length<16777216:=P;have x0:bP (av t) (.int 0) a=.ok (.int t.1) a:=rfl;have x1:bP (av t) (.int 1) a=.ok (.int t.2) a:=rfl;have X:aw .Lt (.int t.1) (.int (1+q)) a=.ok (.bl (decide (t.1<1+q))) a:=rfl;have x3:aw .LtE (.int (1+q)) (.int t.2) a=.ok (.bl (decide (1+q<=t.2))) a:=rfl;by_cases y1:t.1<1+q<;>by_cases y2:1+q<=t.2<;>simp[bj,bT,slots,dt,aR,bF,aS,am,bv,aj,Res.bind,Res.noErr,aA,x0,x1,X,x3,y1,y2,c]
  ·have:=s.few;unfold ck;omega
 rw[gL (et rfl rfl) c3];by_cases c4:w=3
 ·obtain⟨u,a,s3,v3,B,F⟩:=wR (n:=n) (step:=λx A b=>match bj (.var 0) x [none,some (.ref n)]with
    |some g=>(aS b6 G0 [] g b).bind λk a=>if k=Nj then bv b6 G0 (.emit (.tup [.call "_law_draw" [.var 1,.var 0],.var 0])) g A a else .ok A a
    |none=>.fail) (m-1).toNat 1 [] b (by decide) (by omega) H j (by simp;omega) (λp p0 p1 A S C E P=>by
     obtain⟨r,S',R,O,d,e⟩:=cf C E (m:=p) (by omega) (by omega);refine⟨r,S',R,O,d,?_⟩;have c:A.length<16777216:=by omega
     simp[bj,bT,slots,dt,aR,bF,aS,bv,aj,ah,Res.bind,eh,e,av,c])
  have hl:u.length=(m-1).toNat:=by have:=Z2 Oh s3;simpa[pO]using this
  have hn:u.Nodup:=by
   have h:(u.map (·.2)).Nodup:=by rw[s3];exact Ez
   exact(Ya.mp h).imp λz e=>z (by rw[e])
  refine⟨m,sortI u,a,jE M N hn (λt U=>by have:=v3 t U;omega) (by omega),D.trans B,?_⟩;refine gM (pV rfl) c4 (bD ?_);have L:aY b6 G0 (.range [.lit (.int 1),.var 2]) [some (.ref n),some (.int 8),some (.int m),some (.int w),none,none,none] b=.ok (.items (dL 1 (m-1).toNat)) b:=by simp[aY,ah,aj,Res.bind];omega
  have Q:aj b6 G0 (.comp Nk ["_law_place","_law_pen_here"] [none,some 0] (.var 0) (.range [.lit (.int 1),.var 2]) [] (.emit (.tup [.call "_law_draw" [.var 1,.var 0],.var 0]))) [some (.ref n),some (.int 8),some (.int m),some (.int w),none,none,none] b=.ok (.lst (ag u)) a:=by rw[wM]at L;exact gI L F
  have J:=Ex (S:=a) (d:=.lst (ag u)) (l:=u) rfl (by omega);exact dF (pU (al rfl) (gJ (gJ Q J) rfl))
 rw[gL (pV rfl) c4];obtain⟨q,a,q0,q1,B,F⟩:=cf H j (m:=5) (by decide) (by decide);have i:=B.flat H;have T:=B.pen j;obtain⟨o,eo⟩:=EB (S:=a) q0 q1;rw[bL (d:=.int o) (S':=a) (by simp[aj,ah,Res.bind,Res.noErr,eh,F,eo])];simp only[OZ,O0]
 obtain⟨u,Y,s4,d4,e4⟩:=pT (n:=n) (f:=av) (step:=λx A b=>match bj (.var 0) x [none,some (.ref n),some (.int o)]with
    |some g=>(aS b6 G0 [.cmp .Lt (.call "_law_draw" [.var 1,.lit (.int 8)]) (.var 2)] g b).bind λk a=>if k=Nj then bv b6 G0 (.emit (.var 0)) g A a else .ok A a
    |none=>.fail) (fT m.toNat) [] a i T (by have:=s.few;simp;omega) (λt U A S C E P=>by
     obtain⟨r,S',R,O,d,e⟩:=cf C E (m:=8) (by decide) (by decide);refine⟨decide (r<o),S',d,?_⟩;have X:aw .Lt (.int r) (.int o) S'=.ok (.bl (decide (r<o))) S':=rfl;have c:A.length<16777216:=by omega
     by_cases y:r<o<;>simp[bj,bT,slots,dt,aR,bF,aS,am,bv,aj,ah,Res.bind,Res.noErr,aA,eh,e,X,y,c])
 refine⟨m,u,Y,pS s s4,(D.trans B).trans d4,bD ?_⟩
 have Q:aj b6 G0 (.comp Nk ["_law_tie","_law_pen_here","_law_often"] [none,some 0,some 6] (.var 0) (.seq (.call "_law_pairs" [.var 2])) [.cmp .Lt (.call "_law_draw" [.var 1,.lit (.int 8)]) (.var 2)] (.emit (.var 0))) [some (.ref n),some (.int 8),some (.int m),some (.int w),none,none,some (.int o)] a=.ok (.lst (ag u)) Y:=by
  have L:aY b6 G0 (.seq (.call "_law_pairs" [.var 2])) [some (.ref n),some (.int 8),some (.int m),some (.int w),none,none,some (.int o)] a=.ok (.items ((fT m.toNat).map av)) a:=by simp[aY,ah,aj,Res.bind,px,pR i M N,eY,ag]
  exact gI L e4
 exact dF (pU (al rfl) (gJ Q rfl))
section
variable {A B:List D}
end
noncomputable def Kn(d:D):Prop:=(∃i,d=.int i)\/(∃b,d=.bl b)\/(∃x,d=.str x)\/d=.non\/(∃xs,d=.tup xs)\/∃xs,d=.lst xs
def g6:D->Bool
 | .int _=>Nj
 |_=>Nk
def fY(m:Int):D->Bool
 | .int i=>decide (0<=i/\i<m)
 |_=>Nk
theorem lF(H:Flat S)(h:Kn d):ff [d] S=.ok (.bl (g6 d)) S:=by
 refine aM rfl ?_ rfl H rfl;rcases h with⟨i,rfl⟩| ⟨b,rfl⟩| ⟨x,rfl⟩|rfl| ⟨X,rfl⟩| ⟨X,rfl⟩
 ·rfl
 ·rfl
 ·rfl
 ·rfl
 ·rfl
 rfl
theorem Kn.isI_or(h:Kn d):(∃i,d=.int i)\/(g6 d=Nk/\∀m,fY m d=Nk):=by
 rcases h with h| ⟨b,rfl⟩| ⟨x,rfl⟩|rfl| ⟨X,rfl⟩| ⟨X,rfl⟩
 ·exact .inl h
 all_goals exact .inr ⟨rfl,λ_=>rfl⟩
theorem EC(H:Flat S)(m:Int)(h:Kn d):eg [.int m,d] S=.ok (.bl (fY m d)) S:=by
 rcases h.isI_or with⟨i,rfl⟩| ⟨a,e⟩
 ·exact K04.Eh H m i
 ·rw[e m];have b:=lF H h;rw[a]at b
  have c:∀l a:Int,fQ [d,.int l,.int a] S=.ok (.bl Nk) S:=λl a=>by refine aM rfl ?_ rfl H rfl;simp[ln,af,ap,aj,ah,Res.bind,aA,pi,b]
  refine aM rfl ?_ rfl H rfl;show af vQ G0 lp [some (.int m),some d] S=_;have f:dX .Sub (.int m) (.int 1) S=.ok (.int (m-1)) S:=rfl;simp only[lp,af,ap,aj,ah,Res.bind,Res.noErr,vR,c,f,Zo,Zr]
theorem lG{f:D->Bool}:iQ [.lst (ds.map λd=>.bl (f d))] S=.ok (.bl (ds.all f)) S:=by show bu (ba ((ds.map λd=>D.bl (f d)).map fm)) S=_;rw[ZW];have:ba (ds.map (fm∘λd=>D.bl (f d)))=some (ds.all f):=allO_map;rw[this];rfl
theorem ED{step:D->List D->ae->Res (List D)}(f:D->Bool)(h:∀x∈xs,∀acc,acc.length<ck->step x acc S=.ok (acc++[.bl (f x)]) S)(a:xs.length<=ck):aW step xs [] S=.ok (xs.map λx=>D.bl (f x)) S:=by rw[wH (λx=>some (.bl (f x))) xs [] (λx b acc H=>h x b acc H) (by simpa using a)];simp
theorem wT{e:CE}{rs:List (Option D)}{it:CE}{f:D->Bool}(i:aY Φ G0 it ρ S=.ok (.items ds) S)(k:fr.map (λj=>j.bind λj=>(ρ[j]?).join)=none::rs)(l:ds.length<=1000)(g:∀d∈ds,aj Φ G0 e (some d::rs) S=.ok (.bl (f d)) S):
  aj Φ G0 (.comp Nk N fr (.var 0) it [] (.emit e)) ρ S=.ok (.lst (ds.map λd=>.bl (f d))) S:=by
 refine gI i ?_;rw[k];refine ED f (λd c a b=>?_) (show ds.length<=16777216 by lia);have h:a.length<16777216:=b;have H:bj (.var 0) d (none::rs)=some (some d::rs):=rfl;rw[H];simp[aS,bv,Res.bind,g d c,h]
theorem wU{i:Nat}(h:ρ[i]?=some (some (.tup ds))):aY Φ G0 (.seq (.var i)) ρ S=.ok (.items ds) S:=by simp[aY,aj,h,Res.bind,eY]
theorem wV{e:CE}{f:D->Bool}(h:aj Φ G0 e ρ S=.ok (.lst (ds.map λd=>.bl (f d))) S):aj Φ G0 (.blt .all [e]) ρ S=.ok (.bl (ds.all f)) S:=by have H:aU .all [.lst (ds.map λd=>D.bl (f d))] S=.ok (.bl (ds.all f)) S:=lG;simp only[aj,ah,h,Res.bind,H,Res.noErr]
theorem EE:lq=[.ret (.band (.blt .isinst [.var 1,.ty "tuple"]) (.blt .all [rV]))]:=rfl
theorem pW(a:Flat S)(m:Int)(h:∀x∈xs,Kn x)(j:xs.length<=1000):dC [.int m,.tup xs] S=.ok (.bl (xs.all (fY m))) S:=by
 refine aM rfl ?_ rfl a rfl;show af jk G0 lq [some (.int m),some (.tup xs)] S=_;have g:aU .isinst [.tup xs,.ty "tuple"] S=.ok (.bl Nj) S:=rfl
 have b:=wV (S:=S) (wT (S:=S) (Φ:=jk) (N:=["place","many"]) (fr:=[none,some 0]) (e:=.call "is_place" [.var 1,.var 0]) (ρ:=[some (.int m),some (.tup xs)]) (rs:=[some (.int m)]) (f:=fY m) (wU (i:=1) rfl) rfl j λd c=>by have l:=EC a m (h d c);trivial);simp only[EE];refine bD ?_;generalize k:(CE.blt jK.all [rV])=q;have H:aj jk G0 q [some (.int m),some (.tup xs)] S=.ok (.bl (xs.all (fY m))) S:=k▸b;simp only[ap,aj,ah,Res.bind,Res.noErr,g,aA,H,Zo,Zr,if_true]
def NT(d:D):Prop:=∀S,bH [d,.ty "tuple"] S=.ok (.bl Nk) S
theorem EF(H:Flat S)(m:Int)(h:NT d):dC [.int m,d] S=.ok (.bl Nk) S:=by refine aM rfl ?_ rfl H rfl;show af jk G0 lq [some (.int m),some d] S=_;have a:aU .isinst [d,.ty "tuple"] S=.ok (.bl Nk) S:=h S;simp only[EE];refine bD ?_;simp only[ap,aj,ah,Res.bind,Res.noErr,a,aA,Zo,Zr,Zt,if_false,rV]
theorem pX(H:Flat S)(h:dC [.int m,d] S=.ok (.bl Nk) S):fR [.int m,d] S=.ok (.bl Nk) S:=by refine aM rfl ?_ rfl H rfl;simp[jl,af,ap,aj,ah,Res.bind,aA,po,h,rV]
theorem Lz(H:Flat S)(h:∀x∈xs,Kn x)(d:xs.length<=1000)(f:xs.length≠2):fR [.int m,.tup xs] S=.ok (.bl Nk) S:=by
 have a:=pW H m h d;cases e:xs.all (fY m)with
 |false=>rw[e]at a;exact pX H a
 |true=>
  refine aM rfl ?_ rfl H rfl;have b:aU .len [.tup xs] S=.ok (.int (xs.length:Nat)) S:=rfl
  have c:aw .Eq (.int (xs.length:Nat)) (.int 2) S=.ok (.bl Nk) S:=by
   have:aw .Eq (.int (xs.length:Nat)) (.int 2) S=.ok (.bl (((xs.length:Nat):Int)==2)) S:=rfl;have:¬(((xs.length:Nat):Int)=2):=by lia
   simp_all
  simp[jl,af,ap,aj,ah,Res.bind,Res.noErr,aA,po,a,b,c]
structure wW (e:D):Prop where
 kn:Kn e
 tu:∀xs,e=.tup xs->(∀x∈xs,Kn x)/\xs.length<=1000/\(xs.length≠2\/xs.all g6=Nk)
theorem Kn.nt(h:Kn d):NT d\/∃xs,d=.tup xs:=by
 rcases h with⟨i,rfl⟩| ⟨b,rfl⟩| ⟨x,rfl⟩|rfl|h| ⟨xs,rfl⟩
 ·exact .inl λ_=>rfl
 ·exact .inl λ_=>rfl
 ·exact .inl λ_=>rfl
 ·exact .inl λ_=>rfl
 ·exact .inr h
 ·exact .inl λ_=>rfl
theorem LA(h:xs.all g6=Nk):xs.all (fY m)=Nk:=by rw[List.all_eq_false]at h⊢;obtain⟨x,H,q⟩:=h;refine⟨x,H,λz=>q ?_⟩;cases x<;>first|rfl|cases z
theorem LB(a:Flat S)(m:Int){e:D}(h:wW e):fR [.int m,e] S=.ok (.bl Nk) S:=by
 rcases h.kn.nt with g| ⟨x,rfl⟩
 ·exact pX a (EF a m g)
 ·obtain⟨b,c,H⟩:=h.tu x rfl;by_cases d:x.length=2
  ·rcases H with H|H
   ·exact absurd d H
   ·have f:=pW a m b c;rw[LA H]at f;exact pX a f
  ·exact Lz a b c d
theorem wX(j:Flat S)(g:D->D->Bool)(l:xs.length<=1000)(h:∀x∈xs,∀y∈xs,ez S a9 x y=some (g x y)):cE [.tup xs] S=.ok (.bl ((Np g xs (xs.drop 1)).all id)) S:=by
 refine aM rfl ?_ rfl j rfl;have b:du S (.tup xs) (.tup (xs.drop 1))=some (.items (Np (λx y=>.tup [x,y]) xs (xs.drop 1))):=rfl;have f:=K04.Ei xs;simp[vT,vS,af,ap,am,aj,ah,aY,Res.bind,Res.noErr,aA,mV,cS,ir,aU];simp only[f,b,cv]
 have a:(Np g xs (xs.drop 1)).all id=(Np (λx y=>D.tup [x,y]) xs (xs.drop 1)).all λd=>match d with
   | .tup [x,y]=>g x y
   |_=>Nk:=by
  generalize xs.drop 1=Y;clear b f l h
  induction xs generalizing Y with
  |nil=>rfl
  |cons x xs I=>
   cases Y with
   |nil=>rfl
   |cons y Y=>simp only[O3,OA,I Y,id]
 rw[ED (λd=>match d with
   | .tup [x,y]=>g x y
   |_=>Nk)]
 ·simp only[Res.noErr];rw[lG,<-a,List.drop_one]
 ·intro z b A k;obtain⟨i,H⟩:=Sa.mp b;rw[Sb]at H;cases e:xs[i]? with
  |none=>rw[e]at H;cases H
  |some x=>
   cases E:(xs.drop 1)[i]? with
   |none=>rw[e,E]at H;cases H
   |some y=>rw[e,E]at H;cases H;rw[SG,Nat.add_comm]at E;have c:=h x (Zq e) y (Zq E);simp[bj,bT,slots,dt,aR,bF,aS,bv,aj,Res.bind,aw,c,bu,Res.noErr];unfold ck at k;omega
 ·simp;unfold ck;omega
noncomputable def eQ(ps:Lq):Bool:=(Np (λx y=>decide (aG x y)) ps (ps.drop 1)).all id
theorem EG:∀ps:Lq,eQ ps=Nj↔ps.Pairwise aG
 | []=>by decide
 | [x]=>by simp[eQ]
 |x::y::ps=>by
  have i:=EG (y::ps);have e:eQ (x::y::ps)=(decide (aG x y)&&eQ (y::ps)):=rfl;simp only[e,ZN,decide_eq_true_eq,i,ZI (a:=x)];constructor
  ·intro⟨H,b⟩;refine⟨λz h=>?_,b⟩;rcases Zj.mp h with rfl|h
   ·exact H
   ·exact K04.Es H ((ZI.mp b).1 z h)
  simp_all
noncomputable def Na:D->D->Bool
 | .tup [.int a,.int b],.tup [.int c,.int d]=>decide (aG (a,b) (c,d))
 |_,_=>Nk
theorem EI(H:Flat S){ps:Lq}(a:ps.length<=1000):cE [.tup (ag ps)] S=.ok (.bl (eQ ps)) S:=by
 have h:=wX H (xs:=ag ps) Na (by unfold ag;simpa using a) λx b y c=>by obtain⟨t,_,rfl⟩:=Zp.mp b;obtain⟨u,_,rfl⟩:=Zp.mp c;exact K04.Eg S 38 t u
 rw[h];unfold ag eQ;rw[<-Pm,To];rfl
theorem LC(c:Flat S)(m:Int)(t:Int×Int):fR [.int m,av t] S=.ok (.bl (decide (0<=t.1/\t.1<t.2/\t.2<m))) S:=by
 have h:=pW c m (xs:=[.int t.1,.int t.2]) (by intro x H;simp at H;rcases H with rfl|rfl<;>exact .inl ⟨_,rfl⟩) (by simp);have g:[D.int t.1,D.int t.2].all (fY m)=decide ((0<=t.1/\t.1<m)/\0<=t.2/\t.2<m):=by simp[fY]
 rw[g]at h;by_cases d:(0<=t.1/\t.1<m)/\0<=t.2/\t.2<m
 ·rw[ZV d]at h
  have e:=wX c (xs:=[.int t.1,.int t.2]) (λx y=>match x,y with
   | .int a,.int b=>decide (a<b)
   |_,_=>Nk) (by simp) (by intro x H y f;simp at H f;rcases H with rfl|rfl<;>rcases f with rfl|rfl<;>rfl)
  have i:(Np (λx y=>match x,y with
   |D.int a,D.int b=>decide (a<b)
   |_,_=>Nk) [D.int t.1,D.int t.2] ([D.int t.1,D.int t.2].drop 1)).all id=decide (t.1<t.2):=by simp
  rw[i]at e;refine aM rfl ?_ rfl c rfl;show af pj G0 jl [some (.int m),some (av t)] S=_;have j:dC [.int m,av t] S=.ok (.bl Nj) S:=h;have k:cE [av t] S=.ok (.bl (decide (t.1<t.2))) S:=e;have l:aU .len [av t] S=.ok (.int 2) S:=rfl;have n:aw .Eq (.int 2) (.int 2) S=.ok (.bl Nj) S:=rfl
  have E:decide (0<=t.1/\t.1<t.2/\t.2<m)=decide (t.1<t.2):=by apply decide_eq_decide.mpr;omega
  rw[E];simp only[jl,af,ap,am,aj,ah,Res.bind,Res.noErr,aA,po,C7,j,k,l,n,Zo,Zr,if_true]
 ·rw[ZE d]at h;rw[ZE (by omega)];exact pX c h
def Item(e:D):Prop:=(∃t,e=av t)\/wW e
theorem EJ(n:Nat):∀(a b:Lq),ba (Np (b9 S (n+2)) (ag a) (ag b))=some (decide (a.take b.length=b.take a.length))
 | [],b=>by simp[ag,ba]
 |a::as,[]=>rfl
 |a::as,b::bs=>by
  have i:=EJ n as bs;have e:Np (b9 S (n+2)) (ag (a::as)) (ag (b::bs))=b9 S (n+2) (av a) (av b)::Np (b9 S (n+2)) (ag as) (ag bs):=rfl;simp only[e,K04.pL]
  show(match some (decide (a=b)),ba (Np (b9 S (n+2)) (ag as) (ag bs))with
   |some b,some c=>some (b&&c)
   |_,_=>none)=_
  simp_all
theorem wY(a b:Lq)(h:a.length=b.length):aw .Eq (.lst (ag a)) (.lst (ag b)) S=.ok (.bl (decide (a=b))) S:=by show bu (if(ag a).length=(ag b).length then ba (Np (b9 S (37+2)) (ag a) (ag b))else some Nk) S=_;rw[if_pos (by unfold ag;simpa using h),EJ,h,Oo,<-h,Oo];rfl
theorem fk:∀{es:List D},(∀e∈es,aZ 0 e=Nj)->bw 0 es=Nj
 | [],_=>rfl
 |e::es,h=>by show(aZ 0 e&&bw 0 es)=Nj;rw[h e Ze,fk λx H=>h x (Zc _ H)];rfl
def It(e:D):Prop:=Item e/\aZ 0 e=Nj
structure df (d:D):Prop where
 is:NT d\/∃es,d=.tup es/\(∀e∈es,Item e)/\es.length<64
 lo:aZ 0 d=Nj
theorem jF{es:List D}(a:es.length<64)(h:∀e∈es,It e):df (.tup es):=⟨.inr ⟨es,rfl,λe H=>(h e H).1,a⟩,fk λe H=>(h e H).2⟩
theorem LD{es:List D}(h:∀e∈es,It e):df (.lst es):=⟨.inl λ_=>rfl,fk λe H=>(h e H).2⟩
theorem fV(t:Int×Int):It (av t):=⟨.inl ⟨t,rfl⟩,rfl⟩
theorem pY{e:D}(h:Kn e)(a:NT e)(H:aZ 0 e=Nj):It e:=⟨.inr ⟨h,λx q=>by subst q;have:=a [];cases this⟩,H⟩
theorem jG(h:∀x∈xs,Kn x)(b:xs.length<=1000)(a:xs.length≠2\/xs.all g6=Nk)(H:aZ 0 (.tup xs)=Nj):It (.tup xs):=⟨.inr ⟨.inr (.inr (.inr (.inr (.inl ⟨xs,rfl⟩)))),λy q=>by cases q;exact⟨h,b,a⟩⟩,H⟩
theorem jH{r:Int}(H:ay S d=some xs)(h:0<=r)(h1:r<(xs.length:Nat)):∃x∈xs,bP d (.int r) S=.ok x S:=by
 have:g9 xs r=some xs[r.toNat]:=by simp[g9,iO];simp_all
 unfold bP;simp_all
theorem pZ{p q:List D}(h:p.length+q.length<=1000):dX .Add (.tup p) (.tup q) S=.ok (.tup (p++q)) S:=by have e:dX .Add (.tup p) (.tup q) S=if p.length+q.length<=ck then .ok _ S else .fail:=rfl;lia
theorem EK{p q:List D}(h:p.length+q.length<=1000):dX .Add (.lst p) (.lst q) S=.ok (.lst (p++q)) S:=by
 have e:dX .Add (.lst p) (.lst q) S=if p.length+q.length<=ck then .ok (.lst (p++q)) S else .fail:=rfl
 grind
theorem wZ(l:List D)(L h:Option Int):(a_ l L h).Sublist l:=(QI _ _).trans (SR _ _)
theorem EL(l:List D)(L h:Option Int):(a_ l L h).length<=l.length:=(wZ l _ _).length_le
theorem lH(l:List D):nj (.tup l) (.int (-1)) S=.ok (.tup l.reverse) S:=rfl
theorem sl_tup(l:List D)(L h:Option Int):mV (.tup l) L h S=.ok (.tup (a_ l L h)) S:=rfl
end K04
namespace Py
abbrev Ti:=Int×Int
end Py
variable {G:List (List Py.Ti)}
namespace Pc
theorem EM:∀{l k:Li},l.Pairwise (· < ·)->k.Pairwise (· < ·)->(∀p,p∈l↔p∈k)->l=k
 | [],[],_,_,_=>rfl
 | [],y::k,_,_,h=>absurd ((h y).mpr Ze) (by simp)
 |x::l,[],_,_,h=>absurd ((h x).mp Ze) (by simp)
 |x::l,y::k,a,H,h=>by
  obtain⟨L,c⟩:=ZI.mp a;obtain⟨K,b⟩:=ZI.mp H
  have e:x=y:=by
   rcases Zj.mp ((h x).mp Ze)with z|z
   ·exact z
   ·rcases Zj.mp ((h y).mpr Ze)with w|w
    ·exact w.symm
    ·have:=K x z;have:=L y w;omega
  subst e;rw[EM c b λp=>⟨_,_⟩]
  ·grind
  grind
open K04
theorem LF{l:Int}:(b7 l n).Pairwise (· < ·):=by
 induction n generalizing l with
 |zero=>exact .nil
 |succ n i=>exact ZI.mpr ⟨λx h=>by have:=wN h;omega,i⟩
theorem LG{l x:Int}:x∈b7 l n↔l<=x/\x<l+n:=by
 refine⟨wN,λh=>?_⟩
 induction n generalizing l with
 |zero=>lia
 |succ n i=>
  simp only[b7]
  grind
section
variable {m:Nat}
end
end Pc
namespace K04
open Pc
theorem p6{A:List D}:(S++[A])[S.length]?=some A:=by simp
theorem LH{A B:List D}:(S++[A]).set S.length B=S++[B]:=by simp_all
theorem w4{n:Nat}{step:D->List D->ae->Res (List D)}:∀(xs:Li) (acc:List D) (S:ae),Flat S->aT S n->acc.length+xs.length<=1000->
  (∀x∈xs,∀acc S,Flat S->aT S n->acc.length<=1000->∃k S',Drawn n S S'/\step (.int x) acc S=.ok (if k=Nj then acc++[.int x]else acc) S')->
  ∃(us:Li) (S':ae),us.Sublist xs/\Drawn n S S'/\aW step (xs.map D.int) acc S=.ok (acc++us.map D.int) S'
 | [],acc,S,b,H,_,_=>⟨[],S,.slnil,.refl H,by simp[aW]⟩
 |t::T,acc,S,b,H,f,h=>by
  simp only[ZS]at f;obtain⟨k,a,d1,E⟩:=h t Ze acc S b H (by omega);simp only[NX];unfold aW;rw[E];cases k with
  |true=>obtain⟨us,c,s,d2,e⟩:=w4 T (acc++[.int t]) a (d1.flat b) (d1.pen H) (by simp;omega) λu d=>h u (Zc _ d);exact⟨t::us,c,s.cons_cons t,d1.trans d2,by show aW step (T.map D.int) (acc++[.int t]) a=_;rw[e];simp⟩
  |false=>obtain⟨us,c,s,d2,e⟩:=w4 T acc a (d1.flat b) (d1.pen H) (by omega) λu d=>h u (Zc _ d);exact⟨us,c,s.cons t,d1.trans d2,by show aW step (T.map D.int) acc a=_;rw[e]⟩
structure EN (m:Int)(so:Li):Prop where
 len:so.length<=8
 inn:∀p∈so,0<=p/\p<m
 ris:so.Pairwise (· < ·)
theorem p9(i:Flat S)(h:aT S n)(M:1<=m)(C:m<=8):∃so S',EN m so/\Drawn n S S'/\jA [.ref n,.int m] S=.ok (.tup (so.map D.int)) S':=by
 obtain⟨r,b,R,G,d1,w⟩:=K04.cf i h (m:=3) (by decide) (by decide);have H:=d1.flat i;have l:=d1.pen h
 obtain⟨u,g,s,d2,z⟩:=w4 (n:=n) (step:=λx a g=>match bj (.var 0) x [none,some (.ref n),some (.int (1+r))]with
    |some f=>(aS pC G0 [.cmp .Lt (.call "_law_draw" [.var 1,.lit (.int 4)]) (.var 2)] f g).bind λk o=>if k=Nj then bv pC G0 (.emit (.var 0)) f a o else .ok a o
    |none=>.fail) (b7 0 m.toNat) [] b H l (by rw[K04.pO];simp;omega) (λt B a S i h A=>by
     obtain⟨q,S',Q,F,d,e⟩:=K04.cf i h (m:=4) (by decide) (by decide);refine⟨decide (q<1+r),S',d,?_⟩;have v:bK [.ref n,.int 4] S=.ok (.int q) S':=e;have X:aw .Lt (.int q) (.int (1+r)) S'=.ok (.bl (decide (q<1+r))) S':=rfl;have j:a.length<16777216:=by omega
     by_cases y:q<1+r<;>simp[bj,bT,slots,dt,aR,bF,aS,am,bv,aj,ah,Res.bind,Res.noErr,aA,DM,v,X,y,j])
 have c:=s.length_le;rw[K04.pO]at c;refine⟨u,g,⟨by omega,λp h=>by have:=LG.mp (s.subset h);omega,LF.sublist s⟩,d1.trans d2,aM rfl ?_ (d1.trans d2).len (d2.flat H) (K04.wI _)⟩;unfold DL;have E:bK [.ref n,.int 3] S=.ok (.int r) b:=w;refine(bL (d:=.int (1+r)) (S':=b) (by simp[wz,aj,ah,Res.bind,Res.noErr,DM,E,dX,eX])).trans ?_;refine bD (dF (gJ (d:=.lst (u.map D.int)) (S1:=g) ?_ rfl));refine gI (its:=.items ((b7 0 m.toNat).map D.int)) (S1:=b) ?_ z;simp[wz,aY,ah,aj,Res.bind,K04.wM];omega
theorem w_{step:D->br->ae->Res Fl}(J:br->ae->Prop):∀(xs:List D),(∀x∈xs,∀ρ S,J ρ S->∃ρ' S',J ρ' S'/\step x ρ S=.ok (.next ρ') S')->∀ρ S,J ρ S->∃ρ' S',J ρ' S'/\d_ step xs ρ S=.ok (.next ρ') S'
 | [],_,ρ,S,j=>⟨_,S,j,rfl⟩
 |x::xs,h,ρ,S,j=>by obtain⟨c,f,a,e⟩:=h x Ze _ S j;obtain⟨d,g,b,E⟩:=w_ J _ (λy H=>h y (Zc _ H)) _ _ a;refine⟨_,_,b,?_⟩;unfold d_;rw[e];exact E
theorem LI{A:List D}(h:A.length<ck):kg (.ref T.length) [d] (T++[A])=.ok .non (T++[A++[d]]):=by unfold kg;simp only[p6,if_pos h,LH]
end K04
namespace K04
def pD(p:List Ti):D:=.tup (ag p)
section
variable {T A:List (List D)}{a u b:Int}{ts c:List Ti}
end
theorem xa:∀n,bB n=K04.bB n
 |0=>rfl
 |n+1=>by
  show aC (tbl [("_law_same",bB n)]) G0 el dP.length 2=aC (tbl [("_law_same",K04.bB n)]) K04.G0 K04.el K04.dP.length 2;rw[xa n]
  all_goals rfl
theorem xb{S:ae}{step:D->br->ae->Res Fl}{a b:Option D}:∀(xs:List D) (x y:Option D),(∀z∈xs,∀(x y:Option D),step (.tup [z,z]) [a,b,x,y] S=.ok (.next [a,b,some z,some z]) S)->∃X Y,d_ step (Np (λx y=>.tup [x,y]) xs xs) [a,b,x,y] S=.ok (.next [a,b,X,Y]) S
 | [],x,y,_=>⟨x,y,rfl⟩
 |z::xs,x,y,h=>by obtain⟨X,Y,e⟩:=xb xs (some z) (some z) λw hw=>h w (Zc _ hw);refine⟨X,Y,?_⟩;rw[O3];unfold d_;rw[h z Ze];exact e
theorem xf(t:Flat S)(v:∀z∈xs,bB n [z,z] S=.ok (.bl Nj) S):bB (n+1) [.tup xs,.tup xs] S=.ok (.bl Nj) S:=by
 show aC (tbl [("_law_same",bB n)]) G0 el dP.length 2 _ S=_;refine aM rfl ?_ rfl t rfl;generalize h:D.tup xs=d;have i:bH [d,.ty "bool"] S=.ok (.bl Nk) S:=by subst h;rfl
 have j:bH [d,.ty "int"] S=.ok (.bl Nk) S:=by subst h;rfl
 have k:bH [d,.ty "str"] S=.ok (.bl Nk) S:=by subst h;rfl
 have l:aw .Is d .non S=.ok (.bl Nk) S:=by subst h;rfl
 have m:bH [d,.ty "list"] S=.ok (.bl Nk) S:=by subst h;rfl
 have o:bH [d,.ty "tuple"] S=.ok (.bl Nj) S:=by subst h;rfl
 have p:aw .NotEq (.bl Nk) (.bl Nk) S=.ok (.bl Nk) S:=rfl;have q:aw .NotEq (.bl Nj) (.bl Nj) S=.ok (.bl Nk) S:=rfl;have r:fH [d] S=.ok (.int xs.length) S:=by subst h;simp[fH,ay]
 have H:aw .NotEq (.int xs.length) (.int xs.length) S=.ok (.bl Nk) S:=by have:aw .NotEq (.int xs.length) (.int xs.length) S=.ok (.bl (!((xs.length:Int)==xs.length))) S:=rfl;rw[this];simp
 have g:du S d d=some (.items (Np (λx y=>.tup [x,y]) xs xs)):=by subst h;rfl
 unfold el;refine(bg (ρ':=[some d,some d,none,none]) (S':=S) (by simp[dP,ap,af,am,aj,ah,Res.bind,Res.noErr,aA,aU,l])).trans ?_;refine(bg (ρ':=[some d,some d,none,none]) (S':=S) (by simp[ap,af,am,aj,ah,Res.bind,Res.noErr,aA,aU,i,bb])).trans ?_;refine(bg (ρ':=[some d,some d,none,none]) (S':=S) (by simp[ap,af,am,aj,ah,Res.bind,Res.noErr,aA,aU,j,bb])).trans ?_;refine(bg (ρ':=[some d,some d,none,none]) (S':=S) (by simp[ap,af,am,aj,ah,Res.bind,Res.noErr,aA,aU,k,bb])).trans ?_;refine(bg (ρ':=[some d,some d,none,none]) (S':=S) (by simp[ap,af,am,aj,ah,Res.bind,Res.noErr,aA,aU,m,o,p,q,bb])).trans ?_;refine(bg (ρ':=[some d,some d,none,none]) (S':=S) (by simp[ap,af,am,aj,ah,Res.bind,Res.noErr,aA,aU,r,H,bb])).trans ?_
 obtain⟨X,Y,e⟩:=xb (S:=S) (a:=some d) (b:=some d) (step:=λx A S=>match aR (.tup [.var 2,.var 3]) x A with
   |some c=>af (tbl [("_law_same",bB n)]) G0 [.ite (.bnot (.call "_law_same" [.var 2,.var 3])) [.ret (.lit (.bl Nk))] []] c S
   |none=>.fail) xs none none (λz w x y=>by have u:=v z w;simp[aR,bF,af,ap,am,aj,ah,Res.bind,tbl,u,bb])
 have s:aY (tbl [("_law_same",bB n)]) G0 (.zip [.var 0,.var 1]) [some d,some d,none,none] S=.ok (.items (Np (λx y=>.tup [x,y]) xs xs)) S:=by simp only[aY,ah,aj,Res.bind,Zo,Zr,g]
 refine(bg (ρ':=[some d,some d,X,Y]) (S':=S) ((jD s).trans e)).trans ?_;rfl
theorem p_(h:Flat T)(n:Nat)(p:List Ti):bB (n+3) [pD p,pD p] T=.ok (.bl Nj) T:=
 xf h λz H=>by
  obtain⟨t,_,rfl⟩:=Zp.mp H;refine xf h λw hw=>?_;rw[xa];rcases Zj.mp hw with rfl|hw
  ·exact K04.wO h n _
  ·rw[NU.mp hw];exact K04.wO h n _
section
variable {u a r:Int}{ts:List Ti}
end
section
variable {u:Int}{ts:List Ti}
end
section
variable {A B C:List D}{P:List (List Ti)}
end
section
variable {ts:List Ti}{P:List (List Ti)}{x3:Option D}
end
section
variable {c t l w a b:Int}{x8 x9:Option D}
end
section
variable {ts:List Ti}
end
def lI(ns:Li):D:=.tup (ns.map D.int)
theorem xg(ns:Li):aZ 0 (lI ns)=Nj:=K04.wI _
theorem xh{e:CE}{tg:CT}{rs:α->br}{it:CE}{ds:List α}{h:α->D}{f:α->D}(n:aY Φ G0 it ρ S=.ok (.items (ds.map h)) S)(o:fr.map (λj=>j.bind λj=>(ρ[j]?).join)=r0)
  (l:∀d∈ds,bj tg (h d) r0=some (rs d)) (q:ds.length<=100000) (m:∀d∈ds,aj Φ G0 e (rs d) S=.ok (f d) S):aj Φ G0 (.comp Nk N fr tg it [] (.emit e)) ρ S=.ok (.lst (ds.map f)) S:=by
 refine gI n ?_;rw[o]
 have:=pN (p:=λ_=>Nj) (e:=f) (S:=S) (step:=λy a i=>match bj _ y _ with
    |some b=>(aS Φ G0 [] b i).bind λk c=>if k=Nj then bv Φ G0 (.emit e) b a c else .ok a c
    |none=>.fail) λd g a H=>by rw[l d g];simp[aS,bv,Res.bind,m d g,H] (show ds.length<=16777216 by lia)
 rw[Sw.mpr λ_ _=>rfl]at this;exact this
theorem fW{b:jK}{e:CE}{r:D}(h:aj Φ G0 e ρ S=.ok d S)(H:aU b [d] S=.ok r S):aj Φ G0 (.blt b [e]) ρ S=.ok r S:=by simp[aj,ah,h,Res.bind,H,Res.noErr]
theorem allAt{ds:List α}{f:α->Bool}:aU .all [.lst (ds.map λd=>.bl (f d))] S=.ok (.bl (ds.all f)) S:=by show bu _ S=_;rw[ZW];have:ba (ds.map (fm∘λd=>D.bl (f d)))=some _:=allO_map;rw[this];rfl
theorem iG{b:jK}{es:List CE}{k:Bool}(h:aj Φ G0 (.blt b es) ρ S=.ok (.bl k) S):am Φ G0 (.blt b es) ρ S=.ok k S:=by
 simp only[aj]at h;dsimp only[am];cases e:ah _ _ _ _ S with
 |ok D a=>
  rw[e]at h;dsimp[Res.bind]at h⊢;cases E:aU b _ _ with
  |ok d c=>rw[E]at h;cases h;rfl
  |err x c=>rw[E]at h;cases h
  |fail=>rw[E]at h;cases h
 |err x a=>rw[e]at h;cases h
 |fail=>rw[e]at h;cases h
theorem lJ{e:CE}(h:aj Φ G0 e ρ S=.ok d S)(H:eY S d=some (.items ds)):aY Φ G0 (.seq e) ρ S=.ok (.items ds) S:=by rw[aY,h];simp[Res.bind,H]
theorem lK{i:Nat}(h:ρ[i]?=some (some d)):aj Φ G0 (.var i) ρ S=.ok d S:=by simp[aj,h]
theorem aq:aj Φ G0 (.lit d) ρ S=.ok d S:=rfl
theorem cg{a b:CE}{x e:D}(h1:aj Φ G0 a ρ S=.ok d S1)(h:aj Φ G0 b ρ S1=.ok e S2)(H:bP d e S2=.ok x S2):aj Φ G0 (.idx a b) ρ S=.ok x S2:=by simp[aj,h1,h,Res.bind,H,Res.noErr]
theorem dQ{o:Q8}{a b:CE}{x e:D}(h1:aj Φ G0 a ρ S=.ok d S1)(h:aj Φ G0 b ρ S1=.ok e S2)(H:dX o d e S2=.ok x S2):aj Φ G0 (.bin o a b) ρ S=.ok x S2:=by simp[aj,h1,h,Res.bind,H,Res.noErr]
theorem lL{o:PR}{a b:CE}{x e:D}(h1:aj Φ G0 a ρ S=.ok d S1)(h:aj Φ G0 b ρ S1=.ok e S2)(H:aw o d e S2=.ok x S2):aj Φ G0 (.cmp o a b) ρ S=.ok x S2:=by simp[aj,h1,h,Res.bind,H,Res.noErr]
theorem xi{f:Str}{a b:CE}{x y:D}{k:Bool}(c:Φ f=some φ)(h1:aj Φ G0 a ρ S=.ok x S)(H:aj Φ G0 b ρ S=.ok y S)(h:φ [x,y] S=.ok (.bl k) S):am Φ G0 (.call f [a,b]) ρ S=.ok k S:=by simp[am,ah,c,h1,H,Res.bind,h,bb]
theorem bc{e:CE}{k:Bool}(h:am Φ G0 e ρ S=.ok k S):am Φ G0 (.bnot e) ρ S=.ok (!k) S:=by simp[am,h,Res.bind]
theorem gO{c:CE}{cs:List CS}(h:am Φ G0 c ρ S=.ok Nj S):af Φ G0 (.ite c [.ret (.lit (.bl Nk))] []::cs) ρ S=.ok (.ret (.bl Nk)) S:=by refine bD ?_;rw[fU h];rfl
theorem dR{c:CE}{cs:List CS}(h:am Φ G0 c ρ S=.ok Nk S):af Φ G0 (.ite c [.ret (.lit (.bl Nk))] []::cs) ρ S=af Φ G0 cs ρ S:=by refine bg ?_;rw[fU h];rfl
theorem cY{a b:CE}{x y:Bool}(h1:am Φ G0 a ρ S=.ok x S)(h:am Φ G0 b ρ S=.ok y S):am Φ G0 (.bor a b) ρ S=.ok (x||y) S:=by simp[am,Res.bind];lia
theorem eS{a b:CE}(h1:am Φ G0 a ρ S=.ok Nj S):am Φ G0 (.bor a b) ρ S=.ok Nj S:=by simp only[am,h1,Res.bind,if_true]
theorem jI{o:PR}{a b:CE}{e:D}{k:Bool}(h1:aj Φ G0 a ρ S=.ok d S)(h:aj Φ G0 b ρ S=.ok e S)(H:aw o d e S=.ok (.bl k) S):am Φ G0 (.cmp o a b) ρ S=.ok k S:=by simp[am,h1,h,Res.bind,H,Res.noErr,aA]
theorem qa{f:Str}{a:CE}{x:D}{k:Bool}(H:Φ f=some φ)(h1:aj Φ G0 a ρ S=.ok x S)(h:φ [x] S=.ok (.bl k) S):am Φ G0 (.call f [a]) ρ S=.ok k S:=by simp[am,ah,H,h1,Res.bind,h,bb]
theorem LJ:ff=K04.ff:=rfl
noncomputable def gP(m:Int):D->Bool
 | .tup [.int a,.int b]=>decide (0<=a/\a<b/\b<m)
 |_=>Nk
theorem EO{e:D}(h:wW e)(m:Int):gP m e=Nk:=by
 unfold gP;split
 ·obtain⟨_,_,q⟩:=h.tu _ rfl;rcases q with q|q
  ·exact absurd rfl q
  ·cases q
 ·rfl
theorem xj{m:Int}:∀{es:List D},es.all (gP m)=Nj->∃ps,es=ag ps
 | [],_=>⟨[],rfl⟩
 |e::es,h=>by
  simp only[OA,ZN]at h;obtain⟨ps,rfl⟩:=xj h.2;have H:=h.1;unfold gP at H;split at H
  ·rename_i a b;exact⟨(a,b)::ps,rfl⟩
  trivial
def frB:D->Bool
 | .int i=>decide (1<=i/\i<=8)
 |_=>Nk
theorem qb(H:Flat S){a:D}(h:Kn a):fQ [a,.int 1,.int 8] S=.ok (.bl (frB a)) S:=by
 rcases h.isI_or with⟨i,rfl⟩| ⟨b,d⟩
 ·exact K04.wJ H i 1 8
 ·have c:=K04.lF H h;rw[b,<-LJ]at c;have:frB a=Nk:=by cases a<;>first|rfl|cases b
  rw[this];refine aM rfl ?_ rfl H rfl;simp[ln,af,ap,aj,ah,Res.bind,aA,pi,c]
theorem cP{i:Nat}{k:Bool}(h:ρ[i]?=some (some d))(H:bH [d,.ty "tuple"] S=.ok (.bl k) S):am Φ G0 (.blt .isinst [.var i,.ty "tuple"]) ρ S=.ok k S:=by have H:aU .isinst [d,.ty "tuple"] S=.ok (.bl k) S:=H;exact iG (by simp only[aj,ah,h,Res.bind,H,Res.noErr])
theorem gQ{i:Nat}(h:ρ[i]?=some (some (.tup xs))):am Φ G0 (.cmp .NotEq (.blt .len [.var i]) (.lit (.int 2))) ρ S=.ok (!(decide (xs.length=2))) S:=by
 have H:aU .len [.tup xs] S=.ok (.int (xs.length:Nat)) S:=rfl;refine jI (fW (al h) H) aq ?_;have:aw .NotEq (.int (xs.length:Nat)) (.int 2) S=.ok (.bl (!(((xs.length:Nat):Int)==2))) S:=rfl;rw[this];have e:(((xs.length:Nat):Int)==2)=decide (xs.length=2):=by lia
 rw[e]
theorem xk:jm=[.ite C9 [.ret (.lit (.bl Nk))] [],.asgT (.tup [.var 1,.var 2]) (.var 0),.ite J4 [.ret (.lit (.bl Nk))] [],.ret (.band (.blt .all [yh]) (.call "is_rising" [.var 2]))]:=rfl
theorem lM(e:Flat S){a b:D}(h:Kn a):am db G0 (.call "is_number_from" [.var 1,.lit (.int 1),.glob "MOST_PLACES"]) [some d,some a,some b] S=.ok (frB a) S:=by have H:=qb e h;have c:G0 "MOST_PLACES"=some (.int 8):=rfl;simp only[am,aj,ah,Res.bind,Zr,Zo,c,Dc,H,bb]
theorem lN(H:Flat S)(h:am db G0 C9 [some d,none,none] S=.ok Nj S):dc [d] S=.ok (.bl Nk) S:=by refine aM rfl ?_ rfl H rfl;show af db G0 jm [some d,none,none] S=_;rw[xk];exact gO h
theorem xl(H:Flat S)(h:NT d):dc [d] S=.ok (.bl Nk) S:=lN H (eS (bc (cP rfl (h S))))
theorem EQ(H:Flat S)(h:xs.length≠2):dc [.tup xs] S=.ok (.bl Nk) S:=lN H (by have:=cY (Φ:=db) (bc (cP (i:=0) (S:=S) (d:=.tup xs) (ρ:=[some (.tup xs),none,none]) (k:=Nj) rfl rfl)) (gQ (i:=0) (xs:=xs) rfl);rw[ZE h]at this;exact this)
theorem ER{a b:D}{cs:List CS}:af db G0 (.ite C9 [.ret (.lit (.bl Nk))] []:: .asgT (.tup [.var 1,.var 2]) (.var 0)::cs) [some (.tup [a,b]),none,none] S=af db G0 cs [some (.tup [a,b]),some a,some b] S:=by have:=cY (Φ:=db) (bc (cP (i:=0) (S:=S) (d:=.tup [a,b]) (ρ:=[some (.tup [a,b]),none,none]) (k:=Nj) rfl rfl)) (gQ (i:=0) (xs:=[a,b]) rfl);refine(dR this).trans ?_;refine bg ?_;rw[ap,al (d:=.tup [a,b]) rfl];rfl
theorem ES(c:Flat S){a b:D}(f:Kn a)(h:frB a=Nk\/NT b):dc [.tup [a,b]] S=.ok (.bl Nk) S:=by
 refine aM rfl ?_ rfl c rfl;show af db G0 jm [some (.tup [a,b]),none,none] S=_;simp only[xk,ER];have H:=lM (b:=b) (d:=.tup [a,b]) c f;refine gO ?_;cases e:frB a with
 |false=>rw[e]at H;exact eS (bc H)
 |true=>
  rw[e]at h H;rcases h with h|h
  ·cases h
  ·exact cY (bc H) (bc (cP rfl (h S)))
theorem LK(H:Flat S){e:D}(h:Item e):fR [.int m,e] S=.ok (.bl (gP m e)) S:=by
 rcases h with⟨t,rfl⟩|h
 ·exact K04.LC H m t
 ·rw[EO h];exact K04.LB H m h
theorem qc(c:Flat S){es:List D}{k:Bool}(o:1<=m/\m<=8)(j:∀e∈es,Item e)(n:es.length<=1000)(l:es.all (gP m)=Nj->cE [.tup es] S=.ok (.bl k) S):dc [.tup [.int m,.tup es]] S=.ok (.bl (es.all (gP m)&&k)) S:=by
 refine aM rfl ?_ rfl c rfl;show af db G0 jm [some (.tup [.int m,.tup es]),none,none] S=_;rw[xk,ER];have g:=lM (a:=.int m) (b:=.tup es) (d:=.tup [.int m,.tup es]) c (.inl ⟨m,rfl⟩);rw[show frB (.int m)=Nj from ZV o]at g;refine(dR (cY (bc g) (bc (cP (k:=Nj) rfl rfl)))).trans ?_
 have H:aj db G0 (.blt .all [yh]) [some (.tup [.int m,.tup es]),some (.int m),some (.tup es)] S=.ok (.bl (es.all (gP m))) S:=wV (S:=S) (wT (S:=S) (rs:=[some (.int m)]) (f:=gP m) (wU rfl) rfl n λe i=>by have h:=LK c (m:=m) (j e i);trivial);show af db G0 [.ret (.band (.blt .all [yh]) (.call "is_rising" [.var 2]))] [some (.tup [.int m,.tup es]),some (.int m),some (.tup es)] S=_;refine bD (dF ?_);generalize CE.blt .all [yh]=q at H⊢;cases e:es.all (gP m)with
 |false=>rw[e]at H;simp only[aj,H,Res.bind,aA,Zt,if_false,Bool.false_and]
 |true=>rw[e]at H;simp only[aj,ah,H,Res.bind,aA,C_,l e,if_true,Bool.true_and,Zr,Zo]
theorem ET:pz=[.ite yj [.ret (.lit (.bl Nk))] [],.ite (.bnot (.blt .isinst [gZ,.ty "tuple"])) [.ret (.lit (.bl Nk))] [],.for_ (.var 1) (.seq gZ) rX,.ret (.cmp .Eq (.blt (.list Nk) [gZ]) (.sset gZ))]:=rfl
theorem lO(H:Flat S)(h:am bC G0 yj [some d,none] S=.ok Nj S):er [d] S=.ok (.bl Nk) S:=by refine aM rfl ?_ rfl H rfl;show af bC G0 pz [some d,none] S=_;rw[ET];exact gO h
theorem EU(H:Flat S)(h:NT d):er [d] S=.ok (.bl Nk) S:=lO H (eS (bc (cP rfl (h S))))
theorem xm(a:Flat S)(h:xs.length≠2):er [.tup xs] S=.ok (.bl Nk) S:=lO a (by have H:=gQ (Φ:=bC) (S:=S) (ρ:=[some (.tup xs),none]) (i:=0) (xs:=xs) rfl;rw[ZE h]at H;exact cY (bc (cP (k:=Nj) rfl rfl)) (eS H))
theorem qd(H:Flat S){a b:D}{x:Option D}(h:Kn a):am bC G0 (.call "_law_whole" [yi]) [some (.tup [a,b]),x] S=.ok (g6 a) S:=
 qa Ku (cg (al rfl) aq rfl) (K04.lF H h)
theorem lP(f:Flat S){a b:D}(h:Kn a):am bC G0 yj [some (.tup [a,b]),none] S=.ok (!(frB a)) S:=by
 have H:=qd (b:=b) (x:=none) f h
 have e:∀y,am bC G0 (.bor (.bnot (.call "_law_whole" [yi])) (.bnot FG)) [some (.tup [a,b]),none] S=.ok y S->am bC G0 yj [some (.tup [a,b]),none] S=.ok y S:=λy j=>
  cY (bc (cP (k:=Nj) rfl rfl)) (cY (gQ (xs:=[a,b]) rfl) j)
 refine e _ ?_;rcases h.isI_or with⟨i,rfl⟩| ⟨c,l⟩
 ·have g:am bC G0 FG [some (.tup [.int i,b]),none] S=.ok (decide (1<=i/\i<=8)) S:=by
   have d1:aj bC G0 yi [some (.tup [.int i,b]),none] S=.ok (.int i) S:=cg (al rfl) aq rfl;have C:aw .LtE (.int 1) (.int i) S=.ok (.bl (decide (1<=i))) S:=rfl;have d:aw .LtE (.int i) (.int 8) S=.ok (.bl (decide (i<=8))) S:=rfl;unfold FG;simp only[am,aj,d1,Res.bind,C,d,Res.noErr,aA];by_cases q:1<=i<;>simp[q]
  exact cY (bc H) (bc g)
 ·rw[c]at H;have:frB a=Nk:=by cases a<;>first|rfl|cases c
  rw[this];exact eS (bc H)
theorem lQ(c:Flat S){a b:D}(d:Kn a)(h:frB a=Nk\/NT b):er [.tup [a,b]] S=.ok (.bl Nk) S:=by
 have H:=lP (b:=b) c d;cases e:frB a with
 |false=>rw[e]at H;exact lO c H
 |true=>
  rw[e]at h H;rcases h with h|h
  ·cases h
  ·refine aM rfl ?_ rfl c rfl;refine(dR H).trans (gO (bc (k:=Nk) (iG ?_)));have f:aU .isinst [b,.ty "tuple"] S=.ok (.bl Nk) S:=h S;have d1:aj bC G0 gZ [some (.tup [a,b]),none] S=.ok b S:=cg (al rfl) aq rfl;show aj bC G0 (.blt .isinst [gZ,.ty "tuple"]) [some (.tup [a,b]),none] S=_;simp only[aj,ah,d1,Res.bind,f,Res.noErr]
theorem LL{a b c d:CE}{i j k l:Int}(h1:aj Φ G0 a ρ S=.ok (.int i) S)(h:aj Φ G0 b ρ S=.ok (.int j) S)(H:aj Φ G0 c ρ S=.ok (.int k) S)(g:aj Φ G0 d ρ S=.ok (.int l) S):am Φ G0 (.chain3 .LtE .Lt .Lt a b c d) ρ S=.ok (decide (i<=j/\j<k/\k<l)) S:=by have C:aw .LtE (.int i) (.int j) S=.ok (.bl (decide (i<=j))) S:=rfl;have e:aw .Lt (.int j) (.int k) S=.ok (.bl (decide (j<k))) S:=rfl;have f:aw .Lt (.int k) (.int l) S=.ok (.bl (decide (k<l))) S:=rfl;simp only[am,h1,h,H,g,Res.bind,C,e,f,Res.noErr,aA];by_cases q:i<=j<;>by_cases Q:j<k<;>simp[q,Q]
theorem EV(a:Flat S)(h:∀x∈xs,Kn x)(c:xs.length<=1000):am bC G0 Kt [some d,some (.tup xs)] S=.ok (!(decide (xs.length=2)&&xs.all g6)) S:=by have H:aj bC G0 (.blt .all [MJ]) [some d,some (.tup xs)] S=.ok (.bl (xs.all g6)) S:=wV (S:=S) (wT (S:=S) (rs:=[]) (f:=g6) (wU rfl) rfl c λd b=>by have e:gH [d] S=.ok (.bl (g6 d)) S:=K04.lF a (h d b);trivial);have:=cY (bc (cP (Φ:=bC) (S:=S) (ρ:=[some d,some (.tup xs)]) (i:=1) (d:=.tup xs) (k:=Nj) rfl rfl)) (cY (gQ (i:=1) (xs:=xs) rfl) (bc (iG H)));refine Eq.trans this ?_;simp
theorem qe(b:Flat S){T e:D}(h:Item e):af bC G0 rX [some (.tup [.int m,T]),some e] S=if gP m e=Nj then .ok (.next [some (.tup [.int m,T]),some e]) S else .ok (.ret (.bl Nk)) S:=by
 rcases h with⟨t,rfl⟩|h
 ·have a:am bC G0 Kt [some (.tup [.int m,T]),some (av t)] S=.ok Nk S:=EV b (xs:=[.int t.1,.int t.2]) (by intro x c;simp at c;rcases c with rfl|rfl<;>exact .inl ⟨_,rfl⟩) (by simp);have H:am bC G0 MK [some (.tup [.int m,T]),some (av t)] S=.ok (gP m (av t)) S:=LL aq (cg (al rfl) aq rfl) (cg (al rfl) aq rfl) (cg (al rfl) aq rfl);refine(dR a).trans ?_;cases e:gP m (av t)with
  |true=>rw[e]at H;exact(dR (bc H)).trans rfl
  |false=>rw[e]at H;exact gO (bc H)
 ·rw[EO h];refine gO ?_;rcases h.kn.nt with d| ⟨X,rfl⟩
  ·exact eS (bc (cP rfl (d S)))
  ·obtain⟨a,H,q⟩:=h.tu X rfl;refine(EV b a H).trans ?_;simp_all
theorem EW(a:Flat S){m:Int}{T:D}:∀(es:List D) (x:Option D),(∀e∈es,Item e)->if es.all (gP m)=Nj then ∃y,d_ (λx ρ S=>match aR (.var 1) x ρ with
   |some ρ'=>af bC G0 rX ρ' S
   |none=>.fail) es [some (.tup [.int m,T]),x] S=.ok (.next [some (.tup [.int m,T]),y]) S else d_ (λx ρ S=>match aR (.var 1) x ρ with
   |some ρ'=>af bC G0 rX ρ' S
   |none=>.fail) es [some (.tup [.int m,T]),x] S=.ok (.ret (.bl Nk)) S
 | [],x,_=>⟨x,rfl⟩
 |e::es,x,h=>by
  have H:=qe a (m:=m) (T:=T) (h e Ze);have i:=EW a (m:=m) (T:=T) es (some e) λz d=>h z (Zc _ d);have b:aR (.var 1) e [some (.tup [.int m,T]),x]=some [some (.tup [.int m,T]),some e]:=rfl;rw[OA];cases c:gP m e with
  |false=>rw[c]at H;unfold d_;rw[b];dsimp only;rw[H];rfl
  |true=>rw[c]at H;unfold d_;rw[b];dsimp only;rw[H];exact i
def ym(t:Int×Int):Li:=[t.1,t.2]
theorem EX:∀{l:List (Li)},(∀k∈l,∃t,k=ym t)->∃rs:Lq,l=rs.map ym
 | [],_=>⟨[],rfl⟩
 |k::l,h=>by obtain⟨t,rfl⟩:=h k Ze;obtain⟨rs,rfl⟩:=EX λz H=>h z (Zc _ H);exact⟨t::rs,rfl⟩
theorem LM{ps:Lq}(s:ps.length<64):∃q,cJ (.tup (ag ps)) S=.ok (.lst (ag q)) S/\q.Pairwise aG/\∀t,t∈q↔t∈ps:=by
 cases ps with
 |nil=>exact⟨[],rfl,.nil,λ_=>Iff.rfl⟩
 |cons p ps=>
  have g:(ag (p::ps)).map fq=(p::ps).map ym:=by unfold ag;rw[ZW];exact Ss λt _=>rfl
  obtain⟨n,N⟩:=Bu ((p::ps).map ym);obtain⟨r,E⟩:=EX (l:=ko ((p::ps).map ym)) λk i=>by obtain⟨t,_,e⟩:=Zp.mp ((N k).mp i);exact⟨t,e.symm⟩
  have j:r.Nodup:=by rw[E]at n;exact(Ya.mp n).imp λh e=>h (by rw[e])
  refine⟨sortI r,?_,K04.Ew j,λt=>?_⟩
  ·have C:(ag (p::ps)).all (az (.seq .int))=Nj/\(ag (p::ps)).length<64/\((ag (p::ps)).all λd=> !fo d)=Nj:=by
    refine⟨Zl.mpr λx f=>?_,by unfold ag;rw[Zk];omega,Zl.mpr λx f=>?_⟩<;>
    ·obtain⟨t,_,rfl⟩:=Zp.mp f;rfl
   have m:cJ (.tup (ag (p::ps))) S=.ok (.lst (dY ((ag (p::ps)).map fq))) S:=by
    unfold cJ
    first
     |exact(if_neg o).trans (if_pos C)
     |exact if_pos C
   rw[m,g];unfold dY;rw[E,ZW,<-K04.Ep];rfl
  ·rw[(K04.wQ r).mem_iff];have:=N (ym t);rw[E]at this;constructor
   ·intro h;obtain⟨u,H,e⟩:=Zp.mp (this.mp (Qv h));obtain⟨a,b⟩:=u;obtain⟨c,d⟩:=t;cases e;exact H
   ·intro h;obtain⟨u,H,e⟩:=Zp.mp (this.mpr (Qv h));obtain⟨a,b⟩:=u;obtain⟨c,d⟩:=t;cases e;exact H
theorem qf:∀{l k:Lq},l.Pairwise aG->k.Pairwise aG->(∀p,p∈l↔p∈k)->l=k:=λ{l k} H c h=>by
 refine PD (le:=aG) (λx y _ _ H c=>?_) H c ?_
 ·unfold aG at H c;lia
 ·have n:∀{l:Lq},l.Pairwise aG->l.Nodup:=λh=>h.imp λ{a b} h e=>by
   subst e;unfold aG at h;simp_all
  exact(OK (n H) (n c)).mpr h
theorem xn(a b:Lq):aw .Eq (.lst (ag a)) (.lst (ag b)) S=.ok (.bl (decide (a=b))) S:=by
 by_cases h:a.length=b.length
 ·exact K04.wY a b h
 ·show bu (if(ag a).length=(ag b).length then ba (Np (b9 S 39) (ag a) (ag b))else some Nk) S=_;rw[if_neg (by unfold ag;rw[Zk,Zk];exact h),ZE λe=>h (by rw[e])];rfl
theorem xo(f:Flat S){es:List D}(l:1<=m/\m<=8)(i:∀e∈es,Item e)(j:es.length<64):∃k,dc [.tup [.int m,.tup es]] S=.ok (.bl k) S/\er [.tup [.int m,.tup es]] S=.ok (.bl k) S:=by
 have v:am bC G0 yj [some (.tup [.int m,.tup es]),none] S=.ok Nk S:=by have:=lP (b:=.tup es) f (a:=.int m) (.inl ⟨m,rfl⟩);rw[show frB (.int m)=Nj from ZV l]at this;exact this
 have dT:∀x,aj bC G0 gZ [some (.tup [.int m,.tup es]),x] S=.ok (.tup es) S:=λx=>cg (al rfl) aq rfl;have w:am bC G0 (.bnot (.blt .isinst [gZ,.ty "tuple"])) [some (.tup [.int m,.tup es]),none] S=.ok Nk S:=rfl;have q:aY bC G0 (.seq gZ) [some (.tup [.int m,.tup es]),none] S=.ok (.items es) S:=K04.lJ (dT none) rfl;have H:=EW f (m:=m) (T:=.tup es) es none i
 have c:∀{F:Bool},af bC G0 [.for_ (.var 1) (.seq gZ) rX,.ret (.cmp .Eq (.blt (.list Nk) [gZ]) (.sset gZ))] [some (.tup [.int m,.tup es]),none] S=.ok (.ret (.bl F)) S->er [.tup [.int m,.tup es]] S=.ok (.bl F) S:=λ{F} h=>by refine aM rfl ?_ rfl f rfl;show af bC G0 pz [some (.tup [.int m,.tup es]),none] S=_;rw[ET];exact(dR v).trans ((dR w).trans h)
 cases g:es.all (gP m)with
 |false=>rw[g,if_neg (by decide)]at H;refine⟨Nk,?_,c (bD (Eq.trans (jD (t:=.var 1) (body:=rX) q) H))⟩;have:=qc f (k:=Nk) l i (by omega) (λz=>by rw[g]at z;cases z);rw[g]at this;exact this
 |true=>
  rw[g,if_pos rfl]at H;obtain⟨y,H⟩:=H;obtain⟨P,rfl⟩:=xj g;have n:P.length<64:=by unfold ag at j;rw[Zk]at j;exact j
  have B:=K04.EI (S:=S) f (ps:=P) (by omega);refine⟨eQ P,?_,c ((bg (Eq.trans (jD (t:=.var 1) (body:=rX) q) H)).trans (bD (dF ?_)))⟩
  ·have:=qc f (k:=eQ P) l i (by omega) λ_=>B;rw[g]at this;exact this
  ·obtain⟨Q,s,E,u⟩:=LM (S:=S) n;have d1:=dT y
   have A:decide (P=Q)=eQ P:=by rw[Oe,decide_eq_true_eq,K04.EG];exact⟨λe=>by rw[e];exact E,λh=>qf h E λp=>(u p).symm⟩
   refine lL (d:=.lst (ag P)) (e:=.lst (ag Q)) (S1:=S) (fW d1 rfl) ?_ (by rw[xn,A]);rw[aj];refine Eq.trans (Z2 (λr=>Res.bind r λd o=>(cJ d o).noErr) d1) ?_;show(cJ (.tup (ag P)) S).noErr=_;rw[s];rfl
structure cj (d:D):Prop where
 is:NT d\/∃xs,d=.tup xs/\(xs.length≠2\/∃a b,xs=[a,b]/\Kn a/\(NT b\/∃es,b=.tup es/\(∀e∈es,Item e)/\es.length<64))
 lo:aZ 0 d=Nj
theorem qg(b:Flat S)(ns:Li):∃c:Int,jo [.scr (ns.map D.int),.int 0] S=.ok (.int c) S:=by
 cases ns with
 |nil=>exact⟨0,aM rfl rfl rfl b rfl⟩
 |cons n ns=>
  refine⟨n,aM rfl ?_ rfl b rfl⟩;have h:fH [.scr ((n::ns).map D.int)] S=.ok (.int ((n::ns).map D.int).length) S:=rfl
  have H:aw .Lt (.int 0) (.int ((n::ns).map D.int).length) S=.ok (.bl Nj) S:=by have:aw .Lt (.int 0) (.int ((n::ns).map D.int).length) S=.ok (.bl (decide ((0:Int)<((n::ns).map D.int).length))) S:=rfl;simp_all
  have a:bP (.scr ((n::ns).map D.int)) (.int 0) S=.ok (.int n) S:=by
   unfold bP;have:g9 ((n::ns).map D.int) 0=some (.int n):=by unfold g9 iO;simp
   simp only[ay,this]
  generalize(n::ns).map D.int=x at h H a;simp[Dz,af,ap,am,aj,ah,Res.bind,Res.noErr,aA,aU,h,H,a]
theorem xp(h:Flat S)(c:Int):∃b:Int,jp [.int c] S=.ok (.ref S.length) (S++[[.int c,.int b]]):=by refine⟨if decide ((10:Int)^18<=c)=Nj then 1 else 0,?_⟩;have e:af wg G0 wf ([D.int c].map some++Nu (we.length-1) none) S=.ok (.ret (.ref S.length)) (S++[[.int c,.int (if decide ((10:Int)^18<=c)=Nj then 1 else 0)]]):=rfl;show aC wg G0 wf we.length 1 [.int c] S=_;unfold aC;rw[if_pos (show [D.int c].length=1 from rfl),e];show ee S.length (.ref S.length) _=_;unfold ee;rw[Q5 rfl,if_pos h.all,if_neg (by unfold aZ;simp)];simp[bw,aZ]
theorem LN:bK=K04.bK:=rfl
section
variable {l:List D}{a:Int}{k:Nat}{o:D}
theorem cm:ah Φ G0 [] ρ S=.ok [] S:=by rw[ah]
theorem aI{e:CE}{es:List CE}(h1:aj Φ G0 e ρ S=.ok d S)(h:ah Φ G0 es ρ S=.ok ds S):ah Φ G0 (e::es) ρ S=.ok (d::ds) S:=by simp only[ah,h1,h,Res.bind]
theorem d0{es:List CE}(h:ah Φ G0 es ρ S=.ok ds S):aj Φ G0 (.tup es) ρ S=.ok (.tup ds) S:=by simp only[aj,h,Res.bind]
theorem lX{es:List CE}(h:ah Φ G0 es ρ S=.ok ds S):aj Φ G0 (.lst Nk es) ρ S=.ok (.lst ds) S:=by simp only[aj,h,Res.bind,Zt,if_false]
theorem MN{es:List CE}(h:ah Φ G0 es ρ S=.ok ds S):aj Φ G0 (.lst Nj es) ρ S=.ok (.ref S.length) (S++[ds]):=by simp only[aj,h,Res.bind,if_true]
theorem xq:aj Φ G0 (.neg (.lit (.int 1))) ρ S=.ok (.int (-1)) S:=by rw[aj];rfl
theorem o0:(ah Φ G0 [] ρ S).bind cS=.ok none S:=by rw[ah];rfl
theorem o1{e:CE}{i:Int}(h:aj Φ G0 e ρ S=.ok (.int i) S):(ah Φ G0 [e] ρ S).bind cS=.ok (some i) S:=by simp only[ah,h,Res.bind];rfl
theorem jO{e:CE}{L H:List CE}{x y:Option Int}(h:aj Φ G0 e ρ S=.ok (.tup l) S)(h1:(ah Φ G0 L ρ S).bind cS=.ok x S)(c:(ah Φ G0 H ρ S).bind cS=.ok y S):aj Φ G0 (.sl e L H) ρ S=.ok (.tup (a_ l x y)) S:=by rw[aj,h];show(((ah Φ G0 L ρ S).bind cS).bind λd b=>((ah Φ G0 H ρ b).bind cS).bind λh a=>(mV (.tup l) d h a).noErr)=_;rw[h1];show(((ah Φ G0 H ρ S).bind cS).bind λh a=>(mV (.tup l) x h a).noErr)=_;rw[c];rfl
theorem g7{e f:CE}{p q:List D}(h1:aj Φ G0 e ρ S=.ok (.tup p) S)(H:aj Φ G0 f ρ S=.ok (.tup q) S)(h:p.length+q.length<=1000):aj Φ G0 (.bin .Add e f) ρ S=.ok (.tup (p++q)) S:=dQ h1 H (pZ h)
theorem d1{e:CE}{i:Int}(h:aj Φ G0 e ρ S=.ok (.int i) S):aj Φ G0 (.bin .Add e (.lit (.int 1))) ρ S=.ok (.int (i+1)) S:=dQ h aq rfl
theorem d2{e:CE}{i:Int}(h:aj Φ G0 e ρ S=.ok (.int i) S):aj Φ G0 (.bin .Add e (.lit (.int 2))) ρ S=.ok (.int (i+2)) S:=dQ h aq rfl
theorem LO{e:CE}{i:Int}(h:aj Φ G0 e ρ S=.ok (.int i) S):aj Φ G0 (.bin .Sub e (.lit (.int 1))) ρ S=.ok (.int (i-1)) S:=dQ h aq rfl
theorem FJ:aj Φ G0 (.bin .Pow (.lit (.int 10)) (.lit (.int 30))) ρ S=.ok (.int (10^30)) S:=dQ aq aq rfl
theorem EY{R:ae}(b:Flat (S++R))(d:aT S n){c:Int}(a:0<c)(h1:c<1000):∃r S',0<=r/\r<c/\Drawn n S S'/\bK [.ref n,.int c] (S++R)=.ok (.int r) (S'++R):=by obtain⟨x,y,H⟩:=d;have h:=(Zm.mp H).1;obtain⟨r,T,f,g,⟨u,v,rfl⟩,e⟩:=cf b (n:=n) ⟨x,y,by rw[NG h];exact H⟩ a h1;exact⟨r,S.set n [.int u,.int v],f,g,⟨u,v,rfl⟩,by rw[LN,e,Sg _ _ h]⟩
theorem qh{R:ae}(H:Flat (S++R))(g:aT S n){e:CE}{c:Int}(h:0<c)(h1:c<1000)(i:ρ[0]?=some (some (.ref n)))(f:aj bx G0 e ρ (S++R)=.ok (.int c) (S++R)):∃r S',0<=r/\r<c/\Drawn n S S'/\aj bx G0 (fS e) ρ (S++R)=.ok (.int r) (S'++R):=by obtain⟨r,S',a,b,c,d⟩:=EY H g h h1;exact⟨r,S',a,b,c,K04.gK Ko (al i) f d⟩
theorem qk(l:List D)(k:Nat):(a_ l (some (k:Int)) (some ((k:Int)+1))).length<=1:=by
 have e:((k:Int)+1)=((k+1:Nat):Int):=by rfl
 rw[e];unfold a_;simp only[HT.mz,OL];omega
def IL(c:Nat)(xs:List D):Prop:=xs.length<=c/\∀e∈xs,It e
theorem IL.cut{c:Nat}(h:IL c l)(x y:Option Int):IL c (a_ l x y):=⟨ZA (EL l x y) h.1,λe H=>h.2 e ((wZ l x y).subset H)⟩
theorem IL.app{b c:Nat}(h:IL b xs)(h':IL c ys):IL (b+c) (xs++ys):=⟨by rw[Zn];have:=h.1;have:=h'.1;lia,λe H=>(ZR.mp H).elim (h.2 e) (h'.2 e)⟩
theorem IL.one(h:It o):IL 1 [o]:=⟨Zh _,λe H=>by rw[NU.mp H];exact h⟩
theorem IL.fine{c:Nat}(h:IL c l)(H:c<64):df (.tup l):=jF (by have:=h.1;omega) h.2
theorem IL.at_(h:IL 28 l)(k:Nat):IL 1 (a_ l (some (k:Int)) (some ((k:Int)+1))):=⟨qk l k,(h.cut _ _).2⟩
theorem LP:wk=[.asgT (.tup [.var 2,.var 3]) (.var 1),.asg 4 (fS (.bin .Add (.blt .len [.var 3]) (.lit (.int 1)))),.asg 5 (.lst Nk jq),.asg 5 (.idx (.bin .Add (.var 5) (.lst Nk jr)) (fS (.lit (.int 15)))),.asg 6 (.lst Nj js),.expr (.meth .append (.var 6) [jt]),.asg 6 (.catB (.var 6) (.lst Nk ju)),.asg 7 jv,.expr (.meth .append (.var 6) [jw]),.ite (.cmp .Gt (fS (.lit (.int 3))) (.lit (.int 0))) [.ret (.tup [.var 2,.idx (.var 6) (fS (.lit (.int 10)))])] [],.asg 8 (.lst Nj ls),.asg 8 (.catB (.var 8) (.lst Nk lu)),.expr (.meth .append (.var 8) [lv]),.ret (.idx (.var 8) (fS (.lit (.int 18))))]:=rfl
theorem lR(H:ρ[2]?=some (some (.int m)))(j:ρ[3]?=some (some (.tup l)))(k:It (.tup l)):∃os q:List D,(∀e∈os++q,It e)/\os.length=11/\q.length=4/\ah Φ G0 jq ρ S=.ok os S/\ah Φ G0 jr ρ S=.ok q S:=by
 have d:∀i:Int,Kn (.int i):=λi=>.inl ⟨i,rfl⟩;have f:∀i:Bool,Kn (.bl i):=λi=>.inr (.inl ⟨i,rfl⟩);refine⟨[av (0,0),av (1,0),av (0,m),av (-1,0),.tup [.bl Nk,.bl Nj],.tup [.int 0,.bl Nj],.tup [.int 0],.tup [.int 0,.int 1,.int 2],.lst [.int 0,.int 1],.non,.str "01"],[av (m-1,m-1),av (0,10^30),av (0,1),.tup l],λe g=>?_,rfl,rfl,?_,?_⟩
 ·simp only[ZR,Zj,Zw,or_false]at g;rcases g with(rfl|rfl|rfl|rfl|rfl|rfl|rfl|rfl|rfl|rfl|rfl)| (rfl|rfl|rfl|rfl)
  ·exact fV _
  ·exact fV _
  ·exact fV _
  ·exact fV _
  ·exact jG (by intro x h;simp at h;rcases h with rfl|rfl<;>exact f _) (by simp) (.inr rfl) rfl
  ·exact jG (by intro x h;simp at h;rcases h with rfl|rfl;exact d _;exact f _) (by simp) (.inr rfl) rfl
  ·exact jG (by intro x h;simp at h;rcases h with rfl;exact d _) (by simp) (.inl (by simp)) rfl
  ·exact jG (by intro x h;simp at h;rcases h with rfl|rfl|rfl<;>exact d _) (by simp) (.inl (by simp)) rfl
  ·exact pY (.inr (.inr (.inr (.inr (.inr ⟨_,rfl⟩))))) (λ_=>rfl) rfl
  ·exact pY (.inr (.inr (.inr (.inl rfl)))) (λ_=>rfl) rfl
  ·exact pY (.inr (.inr (.inl ⟨_,rfl⟩))) (λ_=>rfl) rfl
  ·exact fV _
  ·exact fV _
  ·exact fV _
  ·exact k
 ·have t:∀{a b:CE} {x y:Int},aj Φ G0 a ρ S=.ok (.int x) S->aj Φ G0 b ρ S=.ok (.int y) S->aj Φ G0 (.tup [a,b]) ρ S=.ok (av (x,y)) S:=λc H=>d0 (aI c (aI H cm));exact aI (t aq aq) (aI (t aq aq) (aI (t aq (al H)) (aI (t xq aq) (aI (d0 (aI aq (aI aq cm))) (aI (d0 (aI aq (aI aq cm))) (aI (d0 (aI aq cm)) (aI (d0 (aI aq (aI aq (aI aq cm)))) (aI (lX (aI aq (aI aq cm))) (aI aq (aI aq cm))))))))))
 ·have t:∀{a b:CE} {x y:Int},aj Φ G0 a ρ S=.ok (.int x) S->aj Φ G0 b ρ S=.ok (.int y) S->aj Φ G0 (.tup [a,b]) ρ S=.ok (av (x,y)) S:=λc H=>d0 (aI c (aI H cm));exact aI (t (LO (al H)) (LO (al H))) (aI (t aq FJ) (aI (t aq aq) (aI (al j) cm)))
variable (h39:ρ[3]?=some (some (.tup l)))(h49:ρ[4]?=some (some (.int (k:Int))))(hl9:IL 28 l)
include h39 h49
theorem yn:aj Φ G0 sA ρ S=.ok (.tup (a_ l none (some (k:Int)))) S:=jO (al h39) o0 (o1 (al h49))
theorem LQ:aj Φ G0 sB ρ S=.ok (.tup (a_ l (some (k:Int)) none)) S:=jO (al h39) (o1 (al h49)) o0
theorem MO:aj Φ G0 sC ρ S=.ok (.tup (a_ l (some ((k:Int)+1)) none)) S:=jO (al h39) (o1 (d1 (al h49))) o0
theorem EZ:aj Φ G0 sD ρ S=.ok (.tup (a_ l (some (k:Int)) (some ((k:Int)+1)))) S:=jO (al h39) (o1 (al h49)) (o1 (d1 (al h49)))
theorem Nb:aj Φ G0 sE ρ S=.ok (.tup (a_ l (some ((k+1:Nat):Int)) (some (((k+1:Nat):Int)+1)))) S:=by have:=jO (al (Γ:=G0) (Φ:=Φ) (S:=S) h39) (o1 (d1 (al h49))) (o1 (d2 (al h49)));exact this
theorem Nc:aj Φ G0 sF ρ S=.ok (.tup (a_ l (some ((k:Int)+2)) none)) S:=jO (al h39) (o1 (d2 (al h49))) o0
include hl9
theorem E1(H:ρ[5]?=some (some o))(b:It o):∃rs:List D,(∀e∈rs,df e)/\rs.length=3/\ah Φ G0 js ρ S=.ok rs S:=by
 have a:=hl9.cut none (some (k:Int));have c:=hl9.cut (some (k:Int)) none;have C:=hl9.cut (some ((k:Int)+1)) none;have i:=a.app (.one b);refine⟨[_,_,.tup l.reverse],λe h=>?_,rfl,aI (g7 (g7 (yn h39 h49) (d0 (aI (al H) cm)) (by have:=i.1;rw[Zn]at this;omega)) (LQ h39 h49) (by have:=i.1;have:=c.1;omega)) (aI (g7 (g7 (yn h39 h49) (d0 (aI (al H) cm)) (by have:=i.1;rw[Zn]at this;omega)) (MO h39 h49) (by have:=i.1;have:=C.1;omega)) (aI ?_ cm))⟩
 ·simp only[Zj,Zw,or_false]at h;rcases h with rfl|rfl|rfl
  ·exact(i.app c).fine (by omega)
  ·exact(i.app C).fine (by omega)
  ·exact jF (by rw[OQ];have:=hl9.1;omega) λe h=>hl9.2 e (QT.mp h)
 ·simp only[aj,h39,Res.bind,xq,K04.lH,Res.noErr]
theorem LR:∃r,df r/\aj Φ G0 jt ρ S=.ok r S:=by have i:=(hl9.cut none (some (k:Int))).app (hl9.cut (some ((k:Int)+1)) none);exact⟨_,i.fine (by omega),g7 (yn h39 h49) (MO h39 h49) (by have:=i.1;rw[Zn]at this;omega)⟩
theorem E2(H:It (.tup l)):∃rs:List D,(∀e∈rs,df e)/\rs.length=5/\ah Φ G0 ju ρ S=.ok rs S:=by
 have i:=(hl9.cut none (some (k:Int))).app (hl9.at_ k);have c:=hl9.cut (some (k:Int)) none;have I:=c.app (hl9.cut none (some (k:Int)));refine⟨[_,.lst l,_,.non,.tup [.tup l]],λe h=>?_,rfl,aI (g7 (g7 (yn h39 h49) (EZ h39 h49) (by have:=i.1;rw[Zn]at this;omega)) (LQ h39 h49) (by have:=i.1;have:=c.1;omega)) (aI (fW (al h39) rfl) (aI (g7 (LQ h39 h49) (yn h39 h49) (by have:=I.1;rw[Zn]at this;omega)) (aI aq (aI (d0 (aI (al h39) cm)) cm))))⟩;simp only[Zj,Zw,or_false]at h;rcases h with rfl|rfl|rfl|rfl|rfl
 ·exact(i.app c).fine (by omega)
 ·exact LD hl9.2
 ·exact I.fine (by omega)
 ·exact⟨.inl λ_=>rfl,rfl⟩
 ·exact jF (by simp) λe h=>by rw[NU.mp h];exact H
theorem LS:∃t,IL 2 t/\aj Φ G0 jv ρ S=.ok (.tup t) S:=by have i:=(hl9.at_ (k+1)).app (hl9.at_ k);exact⟨_,i,g7 (Nb h39 h49) (EZ h39 h49) (by have:=i.1;rw[Zn]at this;omega)⟩
theorem LU{t:List D}(h:ρ[7]?=some (some (.tup t)))(H:IL 2 t):∃r,df r/\aj Φ G0 jw ρ S=.ok r S:=by have i:=(hl9.cut none (some (k:Int))).app H;have c:=hl9.cut (some ((k:Int)+2)) none;exact⟨_,(i.app c).fine (by omega),g7 (g7 (yn h39 h49) (al h) (by have:=i.1;rw[Zn]at this;omega)) (Nc h39 h49) (by have:=i.1;have:=c.1;omega)⟩
omit h39 h49 hl9
end
section
variable {l:List D}{a:Int}{k:Nat}{o:D}
theorem ew{a b:D}(H:Kn a)(l:aZ 0 a=Nj)(h:df b):cj (.tup [a,b]):=⟨.inr ⟨_,rfl,.inr ⟨a,b,rfl,H,h.is⟩⟩,by show(aZ 0 a&&(aZ 0 b&&Nj))=Nj;rw[l,h.lo];rfl⟩
theorem xr(h:xs.length≠2)(H:∀x∈xs,aZ 0 x=Nj):cj (.tup xs):=⟨.inr ⟨_,rfl,.inl h⟩,fk H⟩
theorem gR(h:NT d)(H:aZ 0 d=Nj):cj d:=⟨.inl h,H⟩
theorem gS(i:Int):Kn (.int i):=.inl ⟨i,rfl⟩
theorem xt(i:Int):df (.int i):=⟨.inl λ_=>rfl,rfl⟩
theorem xu:df (.tup []):=jF (by simp) λe h=>by cases h
theorem qm(h:ts.length<=28):cj (.tup (ag ts)):=by
 have l:aZ 0 (.tup (ag ts))=Nj:=K04.jC ts;by_cases a:ts.length=2
 ·match ts,a with
  | [t,u],_=>refine ew (.inr (.inr (.inr (.inr (.inl ⟨_,rfl⟩))))) rfl (jF (by simp) λe H=>?_);simp only[Zj,Zw,or_false]at H;rcases H with rfl|rfl<;>exact pY (gS _) (λ_=>rfl) rfl
 ·exact⟨.inr ⟨_,rfl,.inl (by simp[ag];omega)⟩,l⟩
theorem xv(h1:1<=m)(h:m<=8):∃x,aU .str [.int m] S=.ok (.str x) S:=by refine⟨(toString m:String),?_⟩;show(if m.natAbs<2^64 then Res.ok (D.str (toString m:String)) S else .fail)=_;lia
variable (h29:ρ[2]?=some (some (.int m)))(h39:ρ[3]?=some (some (.tup (ag ts))))(hl9:ts.length<=28)
include h29 h39 hl9
theorem xw(h:df (.tup (ag ts))):∃rs:List D,(∀e∈rs,cj e)/\rs.length=8/\ah Φ G0 ls ρ S=.ok rs S:=by
 have t:∀{a b:CE} {x y:D},aj Φ G0 a ρ S=.ok x S->aj Φ G0 b ρ S=.ok y S->aj Φ G0 (.tup [a,b]) ρ S=.ok (.tup [x,y]) S:=λd h29=>d0 (aI d (aI h29 cm));refine⟨_,λe c=>?_,?_,aI (t (d1 (al h29)) (al h39)) (aI (t (LO (al h29)) (al h39)) (aI (t aq (al h39)) (aI (t aq (al h39)) (aI (t aq (d0 cm)) (aI (t aq (al h39)) (aI (lX (aI (al h29) (aI (al h39) cm))) (aI (d0 (aI (al h29) cm)) cm)))))))⟩
 ·simp only[Zj,Zw,or_false]at c;rcases c with rfl|rfl|rfl|rfl|rfl|rfl|rfl|rfl
  ·exact ew (gS _) rfl h
  ·exact ew (gS _) rfl h
  ·exact ew (.inr (.inl ⟨_,rfl⟩)) rfl h
  ·exact ew (gS _) rfl h
  ·exact ew (gS _) rfl xu
  ·exact ew (.inr (.inr (.inr (.inl rfl)))) rfl h
  ·exact gR (λ_=>rfl) (fk λx H=>by simp only[Zj,Zw,or_false]at H;rcases H with rfl|rfl;rfl;exact h.lo)
  ·exact xr (by simp) λx H=>by rw[NU.mp H];rfl
 ·rfl
theorem xx(h1:1<=m)(d:m<=8)(H:df (.tup (ag ts))):∃rs:List D,(∀e∈rs,cj e)/\rs.length=9/\ah Φ G0 lu ρ S=.ok rs S:=by
 have t:∀{a b:CE} {x y:D},aj Φ G0 a ρ S=.ok x S->aj Φ G0 b ρ S=.ok y S->aj Φ G0 (.tup [a,b]) ρ S=.ok (.tup [x,y]) S:=λh1 h29=>d0 (aI h1 (aI h29 cm));obtain⟨x,h⟩:=xv (S:=S) h1 d;have f:aj Φ G0 .dct ρ S=.ok .dct S:=by rw[aj]
 refine⟨_,λe c=>?_,?_,aI (d0 (aI (al h29) (aI (al h39) (aI (d0 cm) cm)))) (aI (t (fW (al h29) h) (al h39)) (aI (t (al h39) (al h29)) (aI (al h39) (aI aq (aI (al h29) (aI f (aI aq (aI (t xq (d0 cm)) cm))))))))⟩
 ·simp only[Zj,Zw,or_false]at c;rcases c with rfl|rfl|rfl|rfl|rfl|rfl|rfl|rfl|rfl
  ·exact xr (by simp) λx h=>by simp only[Zj,Zw,or_false]at h;rcases h with rfl|rfl|rfl;rfl;exact H.lo;rfl
  ·exact ew (.inr (.inr (.inl ⟨_,rfl⟩))) rfl H
  ·exact ew (.inr (.inr (.inr (.inr (.inl ⟨_,rfl⟩))))) H.lo (xt _)
  ·exact qm hl9
  ·exact gR (λ_=>rfl) rfl
  ·exact gR (λ_=>rfl) rfl
  ·exact gR (λ_=>rfl) rfl
  ·exact gR (λ_=>rfl) rfl
  ·exact ew (gS _) rfl xu
 ·rfl
omit h29 h39 hl9
theorem E3:∃r,cj r/\aj Φ G0 lv ρ S=.ok r S:=⟨_,ew (gS _) rfl xu,d0 (aI FJ (aI (d0 cm) cm))⟩
theorem xy{b:Nat}{e:CE}{i:Nat}{A:List D}{r:D}(a:ρ[i]?=some (some (.ref S.length)))(H:aj bx G0 e ρ (S++[A])=.ok r (S++[A]))(c:A.length<=1000):ap bx G0 (.expr (.meth .append (.var i) [e])) ρ (S++[A])=.ok (.next ρ) (S++[A++[r]]):=by have h:=LI (T:=S) (A:=A) (d:=r) (by lia);simp only[ap,aj,a,Res.bind,ah,H,gc,h,Res.noErr]
theorem E4{b:Nat}{i:Nat}{es:List CE}{A B:List D}(c:ρ[i]?=some (some (.ref b)))(H:S[b]?=some A)(a:ah bx G0 es ρ S=.ok B S)(hl9:A.length+B.length<=1000):aj bx G0 (.catB (.var i) (.lst Nk es)) ρ S=.ok (.ref S.length) (S++[A++B]):=by
 have h:f_ (.ref b) (.lst B) S=.ok (.ref S.length) (S++[A++B]):=by
  have e:Py.c8 S (.ref b)=some A:=by simp[Py.c8,H]
  have E:Py.c8 S (.lst B)=some B:=rfl;unfold f_;rw[e,E];dsimp only;rw[if_pos (by show _<=16777216;omega)]
 simp only[aj,c,Res.bind,a,h,Res.noErr,Zt,if_false]
end
section
variable {l:List D}{a:Int}{k:Nat}{o:D}
theorem E5(H:Flat S)(b:aT S n){e:CE}{c:Int}(h:0<c)(h1:c<1000)(d:ρ[0]?=some (some (.ref n)))(a:aj bx G0 e ρ S=.ok (.int c) S):∃r S',0<=r/\r<c/\Drawn n S S'/\aj bx G0 (fS e) ρ S=.ok (.int r) S':=by have:=qh (R:=[]) (S:=S) (n:=n) (ρ:=ρ) (e:=e) (c:=c) (by rw[N4];exact H) b h h1 d (by rw[N4];exact a);simpa only[N4]using this
theorem LV{k:Nat}{R:ae}(c:ds.length=np)(h:af Φ Γ body (ds.map some++Nu (k-np) none) S=.ok (.ret d) (S'++R))(b:S'.length=S.length)(a:Flat S')(H:aZ 0 d=Nj):aC Φ Γ body k np ds S=.ok d S':=by unfold aC;rw[if_pos c,h];show ee S.length d (S'++R)=_;rw[<-b,K04.Ee (by rw[Q5 rfl];exact a) H,Q5 rfl]
theorem rZ{es:List D}(h:∀e∈es,df e):bw 0 es=Nj:=fk λe H=>(h e H).lo
theorem r8{es:List D}(h:∀e∈es,cj e):bw 0 es=Nj:=fk λe H=>(h e H).lo
theorem qo{P:D->Prop}{A:List D}{r:D}(h:∀e∈A,P e)(a:P r):∀e∈A++[r],P e:=λe H=>by
 rcases ZR.mp H with H|H
 ·exact h e H
 ·rw[NU.mp H];exact a
theorem E6{P:D->Prop}{A B:List D}(h:∀e∈A,P e)(a:∀e∈B,P e):∀e∈A++B,P e:=λe H=>(ZR.mp H).elim (h e) (a e)
theorem xz(W:cG m ts)(X:Flat S)(Y:aT S n):∃S' R g x4 x5 x7,Drawn n S S'/\Flat (S'++R)/\(∀e∈g,df e)/\g.length=10/\(S'++R)[S.length+1]?=some g/\R.length=2/\∀cs,af bx G0 (.asgT (.tup [.var 2,.var 3]) (.var 1):: .asg 4 (fS (.bin .Add (.blt .len [.var 3]) (.lit (.int 1)))):: .asg 5 (.lst Nk jq):: .asg 5 (.idx (.bin .Add (.var 5) (.lst Nk jr)) (fS (.lit (.int 15)))):: .asg 6 (.lst Nj js):: .expr (.meth .append (.var 6) [jt]):: .asg 6 (.catB (.var 6) (.lst Nk ju)):: .asg 7 jv:: .expr (.meth .append (.var 6) [jw])::cs) [some (.ref n),some (ao m ts),none,none,none,none,none,none,none] S=af bx G0 cs [some (.ref n),some (ao m ts),some (.int m),some (.tup (ag ts)),x4,x5,some (.ref (S.length+1)),x7,none] (S'++R):=by
 have hf:=W.few;have hL:(ag ts).length=ts.length:=by unfold ag;simp
 have hi:∀e∈ag ts,It e:=λe he=>by obtain⟨t,_,rfl⟩:=Zp.mp he;exact fV t
 have I:IL 28 (ag ts):=⟨by omega,hi⟩
 have q:It (.tup (ag ts)):=by
  cases ts with
  |nil=>exact jG (λx P=>by cases P) (by simp[ag]) (.inl (by simp[ag])) rfl
  |cons p r=>refine jG (λx P=>?_) (by omega) (.inr rfl) (K04.jC _);obtain⟨t,_,rfl⟩:=Zp.mp P;exact .inr (.inr (.inr (.inr (.inl ⟨_,rfl⟩))))
 have hw:ao m ts=.tup [.int m,.tup (ag ts)]:=rfl;generalize ao m ts=w at*;generalize ag ts=l at*;have s0:ap bx G0 (.asgT (.tup [.var 2,.var 3]) (.var 1)) [some (.ref n),some w,none,none,none,none,none,none,none] S=.ok (.next [some (.ref n),some w,some (.int m),some (.tup l),none,none,none,none,none]) S:=by rw[ap,al (d:=w) rfl,hw];rfl
 obtain⟨a,L,a0,a1,J,e1⟩:=E5 (ρ:=[some (.ref n),some w,some (.int m),some (.tup l),none,none,none,none,none]) (e:=.bin .Add (.blt .len [.var 3]) (.lit (.int 1))) X Y (c:=(l.length:Int)+1) (by omega) (by omega) rfl (d1 (fW (d:=.tup l) (r:=.int (l.length:Nat)) (al rfl) rfl));obtain⟨k,rfl⟩:∃k:Nat,a=(k:Int):=⟨a.toNat,by omega⟩;have z:=J.flat X;have C:=J.pen Y;obtain⟨D,Q,ho,ol,ql,eo,eq⟩:=lR (Φ:=bx) (S:=L) (ρ:=[some (.ref n),some w,some (.int m),some (.tup l),some (.int (k:Int)),none,none,none,none]) rfl rfl q;have eq:=lR (Φ:=bx) (S:=L) (ρ:=[some (.ref n),some w,some (.int m),some (.tup l),some (.int (k:Int)),some (.lst D),none,none,none]) rfl rfl q;obtain⟨os2,Q,N,ol2,ql,_,eq⟩:=eq;obtain⟨b,f,b0,b1,K,e2⟩:=E5 (ρ:=[some (.ref n),some w,some (.int m),some (.tup l),some (.int (k:Int)),some (.lst D),none,none,none]) (e:=.lit (.int 15)) z C (c:=15) (by omega) (by omega) rfl aq;have M:=K.flat z;have hp2:=K.pen C;obtain⟨O,s,e3⟩:=jH (S:=f) (d:=.lst (D++Q)) (xs:=D++Q) (r:=b) rfl b0 (by rw[Zn];omega)
 have s:It O:=by
  rcases ZR.mp s with h|h
  ·exact ho O (NI _ h)
  ·exact N O (ZD _ h)
 have s3:=cg (dQ (al (Φ:=bx) (Γ:=G0) (S:=L) (ρ:=[some (.ref n),some w,some (.int m),some (.tup l),some (.int (k:Int)),some (.lst D),none,none,none]) (i:=5) rfl) (lX eq) (EK (by omega))) e2 e3;obtain⟨u,f1,l1,e4⟩:=E1 (Φ:=bx) (S:=f) (l:=l) (k:=k) (o:=O) (ρ:=[some (.ref n),some w,some (.int m),some (.tup l),some (.int (k:Int)),some O,none,none,none]) rfl rfl I rfl s;obtain⟨E,f2,e5⟩:=LR (Φ:=bx) (S:=f++[u]) (l:=l) (k:=k) (ρ:=[some (.ref n),some w,some (.int m),some (.tup l),some (.int (k:Int)),some O,some (.ref f.length),none,none]) rfl rfl I;have s5:=xy (b:=0) (i:=6) (S:=f) (A:=u) rfl e5 (by omega);have y:=qo f1 f2;obtain⟨T,f3,l3,e6⟩:=E2 (Φ:=bx) (S:=f++[u++[E]]) (l:=l) (k:=k) (ρ:=[some (.ref n),some w,some (.int m),some (.tup l),some (.int (k:Int)),some O,some (.ref f.length),none,none]) rfl rfl I q;have s6:=E4 (i:=6) (b:=f.length) (S:=f++[u++[E]]) (A:=u++[E]) (B:=T) rfl p6 e6 (by rw[Zn,Pf];omega);have F:=E6 y f3;have Z:(u++[E]++T).length=9:=by rw[Zn,Zn,Pf];omega
 generalize hA:u++[E]=A at*;generalize hB:A++T=B at*;have H:(f++[A]).length=S.length+1:=by rw[Zn,K.len,J.len];rfl
 obtain⟨t,ht,e7⟩:=LS (Φ:=bx) (S:=f++[A]++[B]) (l:=l) (k:=k) (ρ:=[some (.ref n),some w,some (.int m),some (.tup l),some (.int (k:Int)),some O,some (.ref (f++[A]).length),none,none]) rfl rfl I;obtain⟨G,U,e8⟩:=LU (Φ:=bx) (S:=f++[A]++[B]) (l:=l) (k:=k) (t:=t) (ρ:=[some (.ref n),some w,some (.int m),some (.tup l),some (.int (k:Int)),some O,some (.ref (f++[A]).length),some (.tup t),none]) rfl rfl I rfl ht;have s8:=xy (b:=0) (i:=6) (S:=f++[A]) (A:=B) rfl e8 (by omega);have V:Flat (f++[A]++[B++[G]]):=(M.snoc (rZ y)).snoc (rZ (qo F U));refine⟨f,[A,B++[G]],B++[G],some (.int (k:Int)),some O,some (.tup t),J.trans K,?_,qo F U,by rw[Zn,Pf];omega,?_,rfl,λcs=>?_⟩
 ·rw[OE]at V;exact V
 ·have:(f++[A]++[B++[G]])[(f++[A]).length]?=some (B++[G]):=p6;rw[H,OE]at this;exact this
 ·refine(bg s0).trans ?_;refine(bL e1).trans ((bL (lX eo)).trans ((bL s3).trans ((bL (MN e4)).trans ((bg s5).trans ((bL s6).trans ((bL e7).trans ((bg s8).trans ?_)))))));rw[H,OE];rfl
end
section
variable {l:List D}{a:Int}{k:Nat}{o:D}
def FK:CE:=.cmp .Gt (fS (.lit (.int 3))) (.lit (.int 0))
theorem xA(W:cG m ts)(U:Flat S)(hp:aT S n):∃d S',cj d/\Drawn n S S'/\ig [.ref n,ao m ts] S=.ok d S':=by
 have hf:=W.few;obtain⟨Z,R,j,X,k,l,f,hF,hr,hrl,O,hR,ha⟩:=xz W U hp;have V:=f.flat U;have p:=f.pen hp
 have fz:df (.tup (ag ts)):=jF (by unfold ag;rw[Zk];omega) λe he=>by obtain⟨t,_,rfl⟩:=Zp.mp he;exact fV t
 obtain⟨g,a,g0,g1,h,e1⟩:=qh (R:=R) (ρ:=[some (.ref n),some (ao m ts),some (.int m),some (.tup (ag ts)),X,k,some (.ref (S.length+1)),l,none]) (e:=.lit (.int 3)) hF p (c:=3) (by omega) (by omega) rfl aq;have hS2:=h.flat V;have K:=h.pen p
 have I:Flat (a++R):=by obtain⟨u,v,e⟩:=h;have:Drawn n (Z++R) (a++R):=⟨u,v,by obtain⟨x,y,hx⟩:=p;rw[e,Sg _ _ (Zm.mp hx).1]⟩;exact this.flat hF
 have hk2:(a++R)[S.length+1]?=some j:=by rw[ZK (by rw[h.len,f.len];omega),h.len,f.len];rw[ZK (by rw[f.len];omega),f.len]at O;exact O
 have N:am bx G0 FK [some (.ref n),some (ao m ts),some (.int m),some (.tup (ag ts)),X,k,some (.ref (S.length+1)),l,none] (Z++R)=.ok (decide (0<g)) (a++R):=by have c1:aw .Gt (.int g) (.int 0) (a++R)=.ok (.bl (decide (0<g))) (a++R):=rfl;unfold FK;generalize fS (.lit (.int 3))=q at e1⊢;simp only[am,aj,e1,Res.bind,c1,Res.noErr,aA,jq,jr,sA,sB,sC,js,jt,sD,ju,sE,jv,sF,jw,ls,lu,lv]
 have fin:∀{d:D} {S' R':ae},cj d->Drawn n S S'->af bx G0 wk [some (.ref n),some (ao m ts),none,none,none,none,none,none,none] S=.ok (.ret d) (S'++R')->∃d S',cj d/\Drawn n S S'/\ig [.ref n,ao m ts] S=.ok d S':=λ{d S' R'} h1 T h3=>⟨d,S',h1,T,LV (R:=R') rfl h3 T.len (T.flat U) h1.lo⟩;rw[LP,ha]at fin;generalize hw:ao m ts=w at*;cases hg:decide (0<g)with
 |true=>
  rw[hg]at N;obtain⟨b,G,P,b1,o,M⟩:=qh (R:=R) (ρ:=[some (.ref n),some w,some (.int m),some (.tup (ag ts)),X,k,some (.ref (S.length+1)),l,none]) (e:=.lit (.int 10)) I K (c:=10) (by omega) (by omega) rfl aq;have H:ay (G++R) (.ref (S.length+1))=some j:=by show(G++R)[S.length+1]?=some j;rw[ZK (by rw[o.len,h.len,f.len];omega),o.len,h.len,f.len];rw[ZK (by rw[f.len];omega),f.len]at O;exact O
  obtain⟨r,z,Q⟩:=jH H P (by omega);refine fin (R':=R) (ew (gS m) rfl (hr r z)) ((f.trans h).trans o) (bD ?_);show ap bx G0 (.ite FK [.ret (.tup [.var 2,.idx (.var 6) (fS (.lit (.int 10)))])] []) _ _=_;rw[fU N,if_pos rfl];refine bD (dF ?_);generalize fS (.lit (.int 10))=q at M⊢;simp only[aj,ah,Res.bind,Zr,Zo,M,Q,Res.noErr,jq,jr,sA,sB,sC,js,jt,sD,ju,sE,jv,sF,jw,ls,lu,lv]
 |false=>
  rw[hg]at N;obtain⟨s,f1,l1,M⟩:=xw (Φ:=bx) (S:=a++R) (ρ:=[some (.ref n),some w,some (.int m),some (.tup (ag ts)),X,k,some (.ref (S.length+1)),l,none]) rfl rfl hf fz;obtain⟨E,f2,l2,Q⟩:=xx (Φ:=bx) (S:=a++R++[s]) (ρ:=[some (.ref n),some w,some (.int m),some (.tup (ag ts)),X,k,some (.ref (S.length+1)),l,some (.ref (a++R).length)]) rfl rfl hf W.lo W.hi fz;have s3:=E4 (i:=8) (b:=(a++R).length) (S:=a++R++[s]) (A:=s) (B:=E) rfl p6 Q (by omega);obtain⟨r4,f4,e4⟩:=E3 (Φ:=bx) (S:=a++R++[s]++[s++E]) (ρ:=[some (.ref n),some w,some (.int m),some (.tup (ag ts)),X,k,some (.ref (S.length+1)),l,some (.ref (a++R++[s]).length)]);have Y:(s++E).length=17:=by rw[Zn];omega
  have s4:=xy (b:=0) (i:=8) (S:=a++R++[s]) (A:=s++E) rfl e4 (by omega);have F:=qo (E6 f1 f2) f4;have fl:Flat (a++R++[s]++[s++E++[r4]]):=(I.snoc (r8 f1)).snoc (r8 F);generalize hC:s++E++[r4]=C at*;have hCl:C.length=18:=by rw[<-hC,Zn,Y];rfl
  have J:(a++R++[s]).length=S.length+3:=by rw[Zn,Zn,h.len,f.len,hR];rfl
  have eR:a++R++[s]++[C]=a++(R++[s,C]):=by rw[OE,OE];rfl
  rw[eR]at fl;obtain⟨b,G,P,b1,o,e5⟩:=qh (R:=R++[s,C]) (ρ:=[some (.ref n),some w,some (.int m),some (.tup (ag ts)),X,k,some (.ref (S.length+1)),l,some (.ref (S.length+3))]) (e:=.lit (.int 18)) fl K (c:=18) (by omega) (by omega) rfl aq;have H:ay (G++(R++[s,C])) (.ref (S.length+3))=some C:=by show(G++(R++[s,C]))[S.length+3]?=some C;rw[ZK (by rw[o.len,h.len,f.len];omega),o.len,h.len,f.len,ZK (by omega),hR,show S.length+3-S.length-2=1 by omega];rfl
  obtain⟨r,z,e6⟩:=jH H P (by omega);refine fin (R':=R++[s,C]) (F r z) ((f.trans h).trans o) ?_;refine(bg (ρ':=[some (.ref n),some w,some (.int m),some (.tup (ag ts)),X,k,some (.ref (S.length+1)),l,none]) (S':=a++R) ?_).trans ?_
  ·show ap bx G0 (.ite FK [.ret (.tup [.var 2,.idx (.var 6) (fS (.lit (.int 10)))])] []) _ _=_;rw[fU N,if_neg (by decide)];rfl
  ·refine(bL (MN M)).trans ((bL s3).trans ((bg s4).trans ?_));rw[J,eR];exact bD (dF (cg (al rfl) e5 e6))
end
section
variable {ts:List Ti}{k:Nat}
end
section
variable {ts:List Ti}{k:Nat}{x0 x1 x3 x6:Option D}
end
section
variable {ts p:List Ti}
end
section
variable {ts p:List Ti}
end
theorem E7:dc=K04.dc:=rfl
theorem LW:er=K04.er:=rfl
theorem LX:eg=K04.eg:=rfl
section
variable {w p:D}{ps:Lq}
theorem eT{x:Exc}(a:ds.length=np)(h:af Φ Γ body (ds.map some++Nu (n-np) none) S=.err x S)(H:Flat S):aC Φ Γ body n np ds S=.err x S:=by unfold aC;rw[if_pos a,h];dsimp only;rw[Oo,if_pos H.all]
abbrev r9:Exc:=⟨"NoWeb",[]⟩
theorem E8(h:cj d):∃k,∀S,Flat S->dc [d] S=.ok (.bl k) S/\er [d] S=.ok (.bl k) S:=by
 rw[E7,LW];rcases h.is with h| ⟨x,rfl,h| ⟨a,b,rfl,c,h⟩⟩
 ·exact⟨Nk,λS H=>⟨xl H h,EU H h⟩⟩
 ·exact⟨Nk,λS H=>⟨EQ H h,xm H h⟩⟩
 ·cases e:K04.frB a with
  |false=>exact⟨Nk,λS H=>⟨ES H c (.inl e),lQ H c (.inl e)⟩⟩
  |true=>
   rcases h with h| ⟨E,rfl,i,g⟩
   ·exact⟨Nk,λS H=>⟨ES H c (.inr h),lQ H c (.inr h)⟩⟩
   ·unfold K04.frB at e;split at e
    ·rename_i m;have j:=ZU e
     obtain⟨k,n⟩:∃k,∀S,Flat S->K04.dc [.tup [.int m,.tup E]] S=.ok (.bl k) S:=by
      cases f:E.all (gP m)with
      |false=>exact⟨Nk,λS H=>by have:=qc H (k:=Nk) j i (by omega) (λz=>by rw[f]at z;cases z);rw[f]at this;exact this⟩
      |true=>
       obtain⟨p,rfl⟩:=xj f;have q:p.length<64:=by unfold ag at g;rw[Zk]at g;exact g
       exact⟨K04.eQ p,λS H=>by have:=qc H (k:=K04.eQ p) j i (by omega) λ_=>K04.EI H (by omega);rw[f]at this;exact this⟩
     refine⟨k,λS H=>⟨n S H,?_⟩⟩;obtain⟨K,l,o⟩:=xo H j i g;rw[n S H]at l;cases l;exact o
    ·cases e
def dU(d:D):Prop:=∀S,Flat S->dc [d] S=.ok (.bl Nk) S
theorem LY(H:Flat S)(h:dU d):de [d] S=.err r9 S:=by have e:=h S H;refine eT rfl ?_ H;simp[vX,af,ap,am,aj,ah,Res.bind,Di,e,bb]
variable {x:Exc}
variable {a b c:D}{i:Int}
theorem Nh:aw .Eq (.int i) (.int 0) S=.ok (.bl (i==0)) S:=rfl
theorem Ni:aw .Lt (.int i) (.int 6) S=.ok (.bl (decide (i<6))) S:=rfl
end
theorem LZ:ig=K04.ig:=rfl
theorem L0:bK=K04.bK:=rfl
section
variable {ps:Lq}
theorem L1(W:cG m ts)(H:Flat S)(g:aT S n):∃d S',dU d/\Drawn n S S'/\jx [.ref n,ao m ts] S=.ok d S':=by
 obtain⟨d,a,b,D,e⟩:=K04.xA W H g;rw[<-LZ]at e;have h:=D.flat H;obtain⟨k,c⟩:=E8 b;have E:=(c a h).2;have l:aZ 0 (.tup (ag ts))=Nj:=K04.jC ts
 have F:cj (.tup [.int m,.tup (ag ts),.tup []]):=xr (by simp) λx f=>by
  simp only[Zj,Zw,or_false]at f;rcases f with rfl|rfl|rfl
  ·rfl
  ·exact l
  ·rfl
 have i:bP (ao m ts) (.int 0) a=.ok (.int m) a:=rfl;have I:bP (ao m ts) (.int 1) a=.ok (.tup (ag ts)) a:=rfl;cases k with
 |false=>refine⟨d,a,λS H=>(c S H).1,D,aM rfl ?_ D.len h b.lo⟩;simp[wm,wl,af,ap,am,aj,ah,Res.bind,DD,DE,e,E,bb]
 |true=>refine⟨.tup [.int m,.tup (ag ts),.tup []],a,λS H=>by rw[E7];exact K04.EQ H (by simp),D,aM rfl ?_ D.len h F.lo⟩;simp[wm,wl,af,ap,am,aj,ah,Res.bind,Res.noErr,DD,DE,e,E,i,I,bb]
def gT(m:Int)(d:D):Prop:=∀S,Flat S->eg [.int m,d] S=.ok (.bl Nk) S
theorem qp(h:∀S,Flat S->ff [d] S=.ok (.bl Nk) S):gT m d:=λS H=>by
 have a:=h S H;have b:fQ [d,.int 0,.int (m-1)] S=.ok (.bl Nk) S:=by refine aM rfl ?_ rfl H rfl;simp[ln,C4,af,ap,aj,ah,Res.bind,Res.noErr,aA,pi,a]
 have c:dX .Sub (.int m) (.int 1) S=.ok (.int (m-1)) S:=rfl;refine aM rfl ?_ rfl H rfl;simp[lp,C6,af,ap,aj,ah,Res.bind,Res.noErr,vR,b,c]
theorem ik(h:Kn d)(a:K04.fY m d=Nk):gT m d:=λS H=>by rw[LX,K04.EC H m h,a]
theorem lS{i:Int}(h:¬(0<=i/\i<m)):gT m (.int i):=ik (.inl ⟨i,rfl⟩) (ZE h)
theorem qq(H:Flat S):ff [.dct] S=.ok (.bl Nk) S:=by refine aM rfl ?_ rfl H rfl;have h:bH [.dct,.ty "int"] S=.ok (.bl Nk) S:=rfl;simp[C3,C2,af,ap,aj,ah,Res.bind,Res.noErr,aA,aU,h]
theorem xB:wo=[.ret (.idx (.lst Nk Kw) (.call "_law_draw" [.var 0,.lit (.int 12)]))]:=rfl
theorem L3(h1:1<=m)(o:m<=8)(a:Flat S)(k:aT S n):∃d S',gT m d/\Drawn n S S'/\jy [.ref n,.int m] S=.ok d S':=by
 obtain⟨r,e,R,l,D,E⟩:=cf a k (m:=12) (by omega) (by omega);rw[<-L0]at E;have b:=D.flat a;have j:∀S,aj ii G0 .dct [some (.ref n),some (.int m)] S=.ok .dct S:=λS=>by rw[aj]
 have c:∀S,aj ii G0 (.neg (.bin .Pow (.lit (.int 10)) (.lit (.int 20)))) [some (.ref n),some (.int m)] S=.ok (.int (-(10^20))) S:=λS=>by have h:aj ii G0 (.bin .Pow (.lit (.int 10)) (.lit (.int 20))) [some (.ref n),some (.int m)] S=.ok (.int (10^20)) S:=dQ aq aq rfl;rw[aj,h];rfl
 have g:aj ii G0 (.lst Nk Kw) [some (.ref n),some (.int m)] S=.ok (.lst [.int m,.int (-1),.bl Nj,.bl Nk,.non,.str "0",.tup [.int 0],.int (10^30),.lst [.int 0],.dct,.int (-(10^20)),.int (m+7)]) S:=
  lX (aI (al rfl) (aI xq (aI aq (aI aq (aI aq (aI aq (aI (d0 (aI aq cm)) (aI FJ (aI (lX (aI aq cm)) (aI (j S) (aI (c S) (aI (dQ (al rfl) aq rfl) cm))))))))))))
 obtain⟨d,H,i⟩:=jH (S:=e) (d:=.lst [.int m,.int (-1),.bl Nj,.bl Nk,.non,.str "0",.tup [.int 0],.int (10^30),.lst [.int 0],.dct,.int (-(10^20)),.int (m+7)]) rfl R (by simpa using l)
 have f:gT m d/\aZ 0 d=Nj:=by
  simp only[Zj,Zw,or_false]at H;rcases H with rfl|rfl|rfl|rfl|rfl|rfl|rfl|rfl|rfl|rfl|rfl|rfl
  ·exact⟨lS (by omega),rfl⟩
  ·exact⟨lS (by omega),rfl⟩
  ·exact⟨ik (.inr (.inl ⟨_,rfl⟩)) rfl,rfl⟩
  ·exact⟨ik (.inr (.inl ⟨_,rfl⟩)) rfl,rfl⟩
  ·exact⟨ik (.inr (.inr (.inr (.inl rfl)))) rfl,rfl⟩
  ·exact⟨ik (.inr (.inr (.inl ⟨_,rfl⟩))) rfl,rfl⟩
  ·exact⟨ik (.inr (.inr (.inr (.inr (.inl ⟨_,rfl⟩))))) rfl,rfl⟩
  ·exact⟨lS (by omega),rfl⟩
  ·exact⟨ik (.inr (.inr (.inr (.inr (.inr ⟨_,rfl⟩))))) rfl,rfl⟩
  ·exact⟨qp λS a=>qq a,rfl⟩
  ·exact⟨lS (by omega),rfl⟩
  ·exact⟨lS (by omega),rfl⟩
 refine⟨d,e,f.1,D,aM rfl ?_ D.len b f.2⟩;show af ii G0 wo [some (.ref n),some (.int m)] S=_;rw[xB];exact bD (dF (cg g (gK Kx (al rfl) aq E) i))
end
end K04
namespace Py
end Py
namespace K04
section
variable {w:D}{F:List (Li)}{a:Int}
end
section
variable {w:D}
end
section
variable {ts:List Ti}{G xs:List (Li)}{x:Li}
end
section
variable {c:Int}{ts:List Ti}{G xs:List (Li)}{x:Li}{x1 x3 x6 x7:Option D}
end
theorem qr:cE=K04.cE:=rfl
section
variable {ps:Lq}
noncomputable def il(ns:Li):Bool:=(Np (λx y=>decide (x<y)) ns (ns.drop 1)).all id
theorem E_:∀ns:Li,il ns=Nj↔ns.Pairwise (· < ·)
 | []=>by decide
 | [x]=>by simp[il]
 |x::y::ns=>by
  have i:=E_ (y::ns);have e:il (x::y::ns)=(decide (x<y)&&il (y::ns)):=rfl;simp only[e,ZN,decide_eq_true_eq,i,ZI (a:=x)];constructor
  ·intro⟨H,b⟩;refine⟨λz h=>?_,b⟩;rcases Zj.mp h with rfl|h
   ·exact H
   ·exact Int.lt_trans H ((ZI.mp b).1 z h)
  simp_all
def Nf:D->D->Bool
 | .int a,.int b=>decide (a<b)
 |_,_=>Nk
theorem L4(H:Flat S)(c:ns.length<=1000):cE [lI ns] S=.ok (.bl (il ns)) S:=by
 rw[qr];have h:=K04.wX H (xs:=ns.map D.int) Nf (by simpa using c) λx d y e=>by obtain⟨a,_,rfl⟩:=Zp.mp d;obtain⟨b,_,rfl⟩:=Zp.mp e;rfl
 refine h.trans ?_;rw[<-Pm,To];rfl
theorem xC(ns:Li):(ns.map D.int).filterMap c5=ns:=by
 induction ns with
 |nil=>rfl
 |cons n ns i=>rw[NX,show List.filterMap c5 (D.int n::ns.map D.int)=n::(ns.map D.int).filterMap c5 from rfl,i]
end
section
variable {ps:Lq}
noncomputable def gU(ns:Li):Li:=((Nq 8).filter λk:Nat=>ns.contains (k:Int)).map λk:Nat=>(k:Int)
theorem Fa(ns:Li):(gU ns).Pairwise (· < ·):=by unfold gU;rw[Ya];exact(List.pairwise_lt_range.sublist Pw).imp λh=>by omega
theorem qs(h:∀n∈ns,0<=n/\n<8):decide (ns=gU ns)=il ns:=by
 rw[Oe,decide_eq_true_eq,E_];constructor
 ·intro e;rw[e];exact Fa ns
 ·intro a;refine Pc.EM a (Fa ns) λp=>?_;unfold gU;rw[Zp];constructor
  ·intro H;have:=h p H;refine⟨p.toNat,QZ.mpr ⟨NY.mpr (by simp_all),?_⟩,by omega⟩;rw[List.contains_iff_mem,show((p.toNat:Nat):Int)=p by omega];exact H
  ·rintro⟨k,b,rfl⟩;simp_all
theorem qt(b:ns.length<=900)(h:∀n∈ns,0<=n/\n<8):cJ (lI ns) S=.ok (.lst ((gU ns).map D.int)) S:=by
 have e:cJ (lI ns) S=if(ns.map D.int).all kq=Nj then .ok (.lst (((Nq 8).filter λk:Nat=>((ns.map D.int).filterMap c5).contains (k:Int)).map λk:Nat=>D.int k)) S else _:=rfl;rw[e,if_pos,xC]
 ·unfold gU;rw[ZW];rfl
 ·refine Zl.mpr λx a=>?_;obtain⟨n,H,rfl⟩:=Zp.mp a;have:=h n H;simp[kq,this.1,this.2]
theorem Fb(k:Nat):∀a b:Li,a.length=b.length->ba (Np (b9 S (k+1)) (a.map D.int) (b.map D.int))=some (decide (a=b))
 | [],[],_=>rfl
 | [],_::_,h=>by cases h
 |_::_,[],h=>by cases h
 |x::a,y::b,h=>by
  have i:=Fb k a b (by simpa using h);simp only[NX,O3,K04.Ef];dsimp only[ba];by_cases e:x=y
  ·simp_all
  simp_all
theorem L5(a b:Li):aw .Eq (.lst (a.map D.int)) (.lst (b.map D.int)) S=.ok (.bl (decide (a=b))) S:=by
 have e:aw .Eq (.lst (a.map D.int)) (.lst (b.map D.int)) S=bu (if(a.map D.int).length=(b.map D.int).length then ba (Np (b9 S 39) (a.map D.int) (b.map D.int))else some Nk) S:=rfl;rw[e];by_cases h:a.length=b.length
 ·rw[if_pos (by simpa using h),Fb 38 a b h];rfl
 ·rw[if_neg (by simpa using h),ZE (λz=>h (Z2 _ z))];rfl
end
open Pc
end K04
namespace K04
theorem xD:dC=K04.dC:=rfl
theorem L6:gH=K04.ff:=rfl
theorem qu:bK=K04.bK:=rfl
section
theorem xE:∀{xs:List D},xs.all (fY m)=Nj->∃ns:Li,xs=ns.map D.int/\∀n∈ns,0<=n/\n<m
 | [],_=>⟨[],rfl,λ_ h=>by simp_all⟩
 |x::xs,h=>by
  simp only[OA,ZN]at h;obtain⟨ns,rfl,a⟩:=xE h.2;cases x with
  |int i=>exact⟨i::ns,rfl,λn H=>by
    rcases Zj.mp H with rfl|H
    ·exact ZU h.1
    ·exact a n H⟩
  |_=>cases h.1
noncomputable def L7(m:Int)(xs:List D):Bool:=xs.all (fY m)&&il (xs.filterMap c5)
theorem iH{k:Bool}(a:Flat S)(h:dC [.int m,d] S=.ok (.bl k) S){j:Bool}(b:k=Nj->cE [d] S=.ok (.bl j) S):fg [ao m ts,d] S=.ok (.bl (k&&j)) S:=by
 refine aM rfl ?_ rfl a rfl;have H:bP (ao m ts) (.int 0) S=.ok (.int m) S:=rfl;cases k with
 |false=>simp[vV,vU,af,ap,aj,ah,Res.bind,Res.noErr,H,De,h,aA,rV]
 |true=>simp[vV,vU,af,ap,aj,ah,Res.bind,Res.noErr,H,De,J5,h,b rfl,aA,rV]
theorem Fc(H:Flat S)(h:NT d):fg [ao m ts,d] S=.ok (.bl Nk) S:=iH (j:=Nk) H (k:=Nk) (by rw[xD];exact K04.EF H m h) λz=>by cases z
theorem L8(H:Flat S)(h:∀x∈xs,Kn x)(a:xs.length<=900):fg [ao m ts,.tup xs] S=.ok (.bl (L7 m xs)) S:=by refine iH H (by exact K04.pW H m h (by lia)) λz=>?_;obtain⟨n,rfl,_⟩:=xE z;rw[xC];have:=L4 H (ns:=n) (by grind);exact this
theorem xF:wv=[.ite KC [.ret (.lit (.bl Nk))] [],.ret (.cmp .Eq (.blt (.list Nk) [.var 1]) (.sset (.var 1)))]:=rfl
theorem xG(f:Flat S)(h:Kn d):aj fj G0 DG [some d,some (.int m)] S=.ok (.bl (fY m d)) S:=by
 have H:=K04.lF f h;rw[<-L6]at H;rcases h.isI_or with⟨i,rfl⟩| ⟨g,e⟩
 ·have q:∀a b:Int,aw .LtE (.int a) (.int b) S=.ok (.bl (decide (a<=b))) S:=λa b=>rfl;have Q:∀a b:Int,aw .Lt (.int a) (.int b) S=.ok (.bl (decide (a<b))) S:=λa b=>rfl;have c:gH [.int i] S=.ok (.bl Nj) S:=H
  have e:fY m (.int i)=(decide (0<=i)&&decide (i<m)):=by show decide (0<=i/\i<m)=_;simp_all
  rw[e];simp only[DG,aj,ah,Res.bind,Res.noErr,aA,DH,c,q,Q,Zo,Zr];cases decide (0<=i)<;>rfl
 ·rw[g]at H;rw[e];simp only[DG,aj,ah,Res.bind,aA,DH,H,Zo,Zt,if_false]
theorem r_{k:Bool}(h:bH [d,.ty "tuple"] S=.ok (.bl k) S):am fj G0 (.bnot (.blt .isinst [.var 1,.ty "tuple"])) [some (.int m),some d] S=.ok (!k) S:=K04.cP (i:=1) rfl h|>bc
theorem xH(H:Flat S)(h:NT d):jz [.int m,d] S=.ok (.bl Nk) S:=by refine aM rfl ?_ rfl H rfl;show af fj G0 wv [some (.int m),some d] S=_;rw[xF];exact gO (eS (r_ (h S)))
theorem qv(d:Flat S)(s:m<=8)(h:∀x∈xs,Kn x)(t:xs.length<=900):jz [.int m,.tup xs] S=.ok (.bl (L7 m xs)) S:=by
 refine aM rfl ?_ rfl d rfl
 have o:aj fj G0 (.blt .all [ML]) [some (.int m),some (.tup xs)] S=.ok (.bl (xs.all (fY m))) S:=
  fW (S:=S) (xh (S:=S) (Φ:=fj) (N:=["_law_place","_law_many"]) (fr:=[none,some 0]) (tg:=.var 0) (e:=DG) (ds:=xs) (h:=id) (r0:=[none,some (.int m)]) (rs:=λe=>[some e,some (.int m)]) (f:=λe=>.bl (fY m e)) (lJ (lK (i:=1) rfl) (by rw[List.map_id];rfl)) rfl (λe _=>rfl) (by omega) λe p=>xG d (h e p)) K04.allAt
 have H:am fj G0 KC [some (.int m),some (.tup xs)] S=.ok (!(xs.all (fY m))) S:=cY (r_ (k:=Nj) rfl) (bc (iG o));unfold L7;cases b:xs.all (fY m)with
 |false=>rw[b]at H;exact gO H
 |true=>
  rw[b]at H;refine(dR H).trans (bD (dF ?_));obtain⟨a,rfl,q⟩:=xE b;rw[xC];have g:∀n∈a,0<=n/\n<8:=λn h=>by have:=q n h;omega
  have l:aj fj G0 (.sset (.var 1)) [some (.int m),some (lI a)] S=.ok (.lst ((K04.gU a).map D.int)) S:=by show(cJ (lI a) S).noErr=_;rw[qt (by simp_all) g];rfl
  have j:aj fj G0 (.blt (.list Nk) [.var 1]) [some (.int m),some (lI a)] S=.ok (.lst (a.map D.int)) S:=fW (lK (i:=1) rfl) rfl;have c:=L5 (S:=S) a (K04.gU a);rw[qs g]at c;exact lL j l c
structure fA (d:D):Prop where
 is:NT d\/∃xs,d=.tup xs/\(∀x∈xs,Kn x)/\xs.length<=900
 lo:aZ 0 d=Nj
theorem xI(b:m<=8)(h:fA d):∃k,∀S,Flat S->fg [ao m ts,d] S=.ok (.bl k) S/\jz [.int m,d] S=.ok (.bl k) S:=by
 rcases h.is with h| ⟨x,rfl,h,a⟩
 ·exact⟨Nk,λS H=>⟨Fc H h,xH H h⟩⟩
 ·exact⟨_,λS H=>⟨L8 H h a,qv H b h a⟩⟩
def Ik(e:D):Prop:=Kn e/\aZ 0 e=Nj
def IK(c:Nat)(xs:List D):Prop:=xs.length<=c/\∀e∈xs,Ik e
variable {l:List D}{o:D}{c b:Nat}
theorem IK.cut(h:IK c l)(x y:Option Int):IK c (a_ l x y):=⟨ZA (EL l x y) h.1,λe H=>h.2 e ((wZ l x y).subset H)⟩
theorem IK.app(h:IK b xs)(h':IK c ys):IK (b+c) (xs++ys):=⟨by rw[Zn];have:=h.1;have:=h'.1;lia,λe H=>(ZR.mp H).elim (h.2 e) (h'.2 e)⟩
theorem IK.one(h:Ik o):IK 1 [o]:=⟨Zh _,λe H=>by rw[NU.mp H];exact h⟩
theorem IK.fine(h:IK c l)(a:c<=900):fA (.tup l):=⟨.inr ⟨l,rfl,λe H=>(h.2 e H).1,by have:=h.1;omega⟩,fk λe H=>(h.2 e H).2⟩
theorem L9:wu=[.asg 3 (.call "_law_draw" [.var 0,.bin .Add (.blt .len [.var 2]) (.lit (.int 1))]),.asg 4 (.idx (.lst Nk DF) (.call "_law_draw" [.var 0,.lit (.int 8)])),.asg 5 (.lst Nk wq),.ret (.idx (.bin .Add (.var 5) (.lst Nk wt)) (.call "_law_draw" [.var 0,.lit (.int 11)]))]:=rfl
variable {a:Int}
theorem qw(b:ρ[2]?=some (some (.tup l)))(d:ρ[3]?=some (some (.int a)))(f:ρ[4]?=some (some o))(H:IK 8 l)(g:Ik o):∃rs,(∀e∈rs,fA e)/\rs.length=6/\ah Φ G0 wq ρ S=.ok rs S:=by
 have V:aj Φ G0 (.var 3) ρ S=.ok (.int a) S:=al d;have v:aj Φ G0 (.var 2) ρ S=.ok (.tup l) S:=al b;have k:=(H.cut none (some a)).app (IK.one g);have E:aj Φ G0 Kz ρ S=.ok (.tup (a_ l none (some a)++[o])) S:=g7 (jO v o0 (o1 V)) (d0 (aI (al f) cm)) (by have:=(H.cut none (some a)).1;simp only[ZS,OW];omega);have A:∀x,IK 17 (a_ l none (some a)++[o]++a_ l x none):=λx=>k.app (H.cut x none);refine⟨[.tup (a_ l none (some a)++[o]++a_ l (some a) none),.tup (a_ l none (some a)++[o]++a_ l (some (a+1)) none),.tup l.reverse,.lst l,.tup [.tup l],.non],λe h=>?_,rfl,?_⟩
 ·simp only[Zj,Zw,or_false]at h;rcases h with rfl|rfl|rfl|rfl|rfl|rfl
  ·exact(A _).fine (by omega)
  ·exact(A _).fine (by omega)
  ·exact IK.fine (c:=8) ⟨by rw[OQ];exact H.1,λe h=>H.2 e (QT.mp h)⟩ (by omega)
  ·exact⟨.inl λ_=>rfl,fk λe h=>(H.2 e h).2⟩
  ·exact IK.fine (c:=1) (IK.one ⟨.inr (.inr (.inr (.inr (.inl ⟨_,rfl⟩)))),fk λe h=>(H.2 e h).2⟩) (by omega)
  ·exact⟨.inl λ_=>rfl,rfl⟩
 ·have z:∀x,(a_ l none (some a)++[o]).length+(a_ l x none).length<=1000:=λx=>by have:=k.1;have:=(H.cut x none).1;omega
  refine aI (g7 E (jO v (o1 V) o0) (z _)) (aI (g7 E (jO v (o1 (d1 V)) o0) (z _)) (aI ?_ (aI (fW v rfl) (aI (d0 (aI v cm)) (aI aq cm)))));simp only[aj,b,Res.bind,xq,K04.lH,Res.noErr]
theorem qx(c:ρ[2]?=some (some (.tup l)))(d:ρ[3]?=some (some (.int a)))(H:IK 8 l):∃rs,(∀e∈rs,fA e)/\rs.length=5/\ah Φ G0 wt ρ S=.ok rs S:=by
 have V:aj Φ G0 (.var 3) ρ S=.ok (.int a) S:=al d;have v:aj Φ G0 (.var 2) ρ S=.ok (.tup l) S:=al c;refine⟨[.tup (l++a_ l (some (-1)) none),.int 0,.str "0",.dct,.tup (a_ l (some a) none++a_ l none (some a))],λe b=>?_,rfl,?_⟩
 ·simp only[Zj,Zw,or_false]at b;rcases b with rfl|rfl|rfl|rfl|rfl
  ·exact(H.app (H.cut _ _)).fine (by omega)
  ·exact⟨.inl λ_=>rfl,rfl⟩
  ·exact⟨.inl λ_=>rfl,rfl⟩
  ·exact⟨.inl λ_=>rfl,rfl⟩
  ·exact((H.cut _ _).app (H.cut _ _)).fine (by omega)
 ·have h:=H.1;refine aI (g7 v (jO v (o1 xq) o0) (by have:=(H.cut (some (-1)) none).1;omega)) (aI aq (aI aq (aI (by rw[aj]) (aI (g7 (jO v (o1 V) o0) (jO v o0 (o1 V)) (by have:=(H.cut (some a) none).1;have:=(H.cut none (some a)).1;omega)) cm))))
theorem xJ(H:ρ[0]?=some (some (.ref n)))(h1:ρ[1]?=some (some (.int m)))(M:1<=m)(i:m<=8)(f:Flat S)(g:aT S n):∃os S',(∀e∈os,Ik e)/\os.length=8/\Drawn n S S'/\aj dD G0 (.lst Nk DF) ρ S=.ok (.lst os) S':=by
 obtain⟨r,a,R,j,b,E⟩:=cf f g (m:=m) (by omega) (by omega);rw[<-qu]at E;refine⟨[.int m,.int (-1),.bl Nj,.non,.str "0",.tup [.int 0],.int (10^30),.int r],a,λe h=>?_,rfl,b,?_⟩
 ·simp only[Zj,Zw,or_false]at h;rcases h with rfl|rfl|rfl|rfl|rfl|rfl|rfl|rfl
  ·exact⟨.inl ⟨_,rfl⟩,rfl⟩
  ·exact⟨.inl ⟨_,rfl⟩,rfl⟩
  ·exact⟨.inr (.inl ⟨_,rfl⟩),rfl⟩
  ·exact⟨.inr (.inr (.inr (.inl rfl))),rfl⟩
  ·exact⟨.inr (.inr (.inl ⟨_,rfl⟩)),rfl⟩
  ·exact⟨.inr (.inr (.inr (.inr (.inl ⟨_,rfl⟩)))),rfl⟩
  ·exact⟨.inl ⟨_,rfl⟩,rfl⟩
  ·exact⟨.inl ⟨_,rfl⟩,rfl⟩
 ·have N:aj dD G0 (.neg (.lit (.int 1))) ρ S=.ok (.int (-1)) S:=xq;have t:aj dD G0 (.bin .Pow (.lit (.int 10)) (.lit (.int 30))) ρ S=.ok (.int (10^30)) S:=FJ;have c:aj dD G0 (.call "_law_draw" [.var 0,.var 1]) ρ S=.ok (.int r) a:=gK pA (al H) (al h1) E;have T:aj dD G0 (.tup [.lit (.int 0)]) ρ S=.ok (.tup [.int 0]) S:=d0 (aI aq cm);have v:aj dD G0 (.var 1) ρ S=.ok (.int m) S:=al h1;have l:∀d:D,aj dD G0 (.lit d) ρ S=.ok d S:=λd=>aq
  have e:ah dD G0 DF ρ S=.ok [.int m,.int (-1),.bl Nj,.non,.str "0",.tup [.int 0],.int (10^30),.int r] a:=by unfold DF;simp only[ah,N,t,c,T,v,l,Res.bind]
  simp only[aj,e,Res.bind,Zt,if_false]
theorem xK(m1:1<=m)(m8:m<=8)(Z:so.length<=8)(F:Flat S)(G:aT S n):∃d S',fA d/\Drawn n S S'/\pB [.ref n,.int m,lI so] S=.ok d S':=by have x:IK 8 (so.map D.int):=⟨by rw[Zk];exact Z,λe Y=>by obtain⟨i,_,rfl⟩:=Zp.mp Y;exact⟨.inl ⟨i,rfl⟩,rfl⟩⟩;unfold lI;generalize so.map D.int=l at*;have hll:=x.1;obtain⟨a,S1,a0,a1,q,E⟩:=cf F G (m:=(l.length:Nat)+1) (by omega) (by omega);rw[<-qu]at E;have h:=q.flat F;have k:=q.pen G;obtain⟨I,S2,ho,hol,s,M⟩:=xJ (ρ:=[some (.ref n),some (.int m),some (.tup l),some (.int a),none,none]) (m:=m) rfl rfl m1 m8 h k;have H:=s.flat h;have p:=s.pen k;obtain⟨c,u,L,c1,t,B⟩:=cf H p (m:=8) (by omega) (by omega);rw[<-qu]at B;have b:=t.flat H;have z:=t.pen p;obtain⟨O,y,N⟩:=jH (S:=u) (d:=.lst I) (xs:=I) (r:=c) rfl L (by omega);obtain⟨R,U,l1,P⟩:=qw (S:=u) (Φ:=dD) (ρ:=[some (.ref n),some (.int m),some (.tup l),some (.int a),some O,none]) (l:=l) (a:=a) (o:=O) rfl rfl rfl x (ho O y);obtain⟨J,V,l2,Q⟩:=qx (S:=u) (Φ:=dD) (ρ:=[some (.ref n),some (.int m),some (.tup l),some (.int a),some O,some (.lst R)]) (l:=l) (a:=a) rfl rfl x;obtain⟨g,v,W,g1,A,C⟩:=cf b z (m:=11) (by omega) (by omega);rw[<-qu]at C;have w:=A.flat b;obtain⟨d,X,T⟩:=jH (S:=v) (d:=.lst (R++J)) (xs:=R++J) (r:=g) rfl W (by simp only[Zn];omega);have f:fA d:=(ZR.mp X).elim (U d) (V d);have hD:Drawn n S v:=((q.trans s).trans t).trans A;refine⟨d,v,f,hD,aM rfl ?_ hD.len w f.lo⟩;show af dD G0 wu [some (.ref n),some (.int m),some (.tup l),none,none,none] S=_;rw[L9];have j:aj dD G0 (.bin .Add (.blt .len [.var 2]) (.lit (.int 1))) [some (.ref n),some (.int m),some (.tup l),none,none,none] S=.ok (.int ((l.length:Nat)+1)) S:=d1 (fW (al (i:=2) rfl) rfl);refine(bL (gK pA (al rfl) j E)).trans ?_;refine(bL (cg M (gK pA (al rfl) aq B) N)).trans ?_;refine(bL (lX P)).trans ?_;exact bD (dF (cg (dQ (al (i:=5) rfl) (lX Q) (EK (by omega))) (gK pA (al rfl) aq C) T))
def qy(m:Int)(ts:Lq)(d:D):Prop:=∀S,Flat S->fg [ao m ts,d] S=.ok (.bl Nk) S
theorem L_(p:1<=m)(M:m<=8)(i:so.length<=8)(H:Flat S)(o:aT S n):∃d S',qy m ts d/\Drawn n S S'/\ij [.ref n,.int m,lI so] S=.ok d S':=by
 obtain⟨d,b,c,a,e⟩:=xK p M i H o;have h:=a.flat H;obtain⟨k,f⟩:=xI (ts:=ts) M c;have E:=(f b h).2;have L:aZ 0 (.lst (so.map D.int))=Nj:=K04.xg so;have g:aU (.list Nk) [lI so] b=.ok (.lst (so.map D.int)) b:=rfl;have j:NT (.lst (so.map D.int)):=λ_=>rfl;generalize so.map D.int=l at*;cases k with
 |false=>refine⟨d,b,λS H=>(f S H).1,a,aM rfl ?_ a.len h c.lo⟩;simp[wx,ww,af,ap,am,aj,ah,Res.bind,DI,DJ,e,E,bb]
 |true=>refine⟨.lst l,b,λS H=>Fc H j,a,aM rfl ?_ a.len h L⟩;simp[wx,ww,af,ap,am,aj,ah,Res.bind,Res.noErr,DI,DJ,e,E,g,bb]
end
section
variable {ts:List Ti}{k:Nat}
end
section
variable {a b:Int}{ts us p q r:List Ti}{A B:List (List Ti)}{k l:Nat}
def sh(a:Int)(t:Ti):Ti:=(t.1+a,t.2+a)
def qA(a:Int)(ts u:List Ti):List Ti:=ts++u.map (sh a)
end
end K04
namespace K04
theorem Fe(C:Flat S)(E:aT S n):∃m,m<=4/\∃ts S',cG m ts/\Drawn n S S'/\ie [.ref n,.int 4] S=.ok (ao m ts) S':=by
 suffices h:∃m,m<=4/\∃ts S',cG m ts/\Drawn n S S'/\af b6 G0 lr [some (.ref n),some (.int 4),none,none,none,none,none] S=.ok (.ret (ao m ts)) S' by obtain⟨m,U,ts,S',W,d,e⟩:=h;exact⟨m,U,ts,S',W,d,aM rfl e d.len (d.flat C) (lC m ts)⟩
 obtain⟨r,V,R,N,d1,e1⟩:=cf C E (m:=12) (by decide) (by decide);have G:=d1.flat C;have I:=d1.pen E;obtain⟨v,v0,v1,ev⟩:=EA (S:=V) R N;obtain⟨w,b,w0,w1,d2,e2⟩:=cf G I (m:=9) (by decide) (by decide);have H:=d2.flat G;have j:=d2.pen I;have D:=d1.trans d2;have hm:∃m:Int,1<=m/\m<=4/\1+4-1-v%4=m:=⟨4-v%4,by omega,by omega,by omega⟩;obtain⟨m,M,U,em⟩:=hm;have L:m<=8:=by omega
 refine⟨m,U,?_⟩;unfold lr;rw[bL (d:=.int m) (S':=V) (by simp[aj,ah,Res.bind,Res.noErr,eh,e1,ev,dX,eX,iP,hH];omega)];rw[bL (d:=.int w) (S':=b) (by simp[aj,ah,Res.bind,Res.noErr,eh,e2])];simp only[OZ,O0];by_cases Z:w=0/\2<m
 ·refine⟨sortI (rY m.toNat),b,?_,D,?_⟩
  ·have:m=3\/m=4\/m=5\/m=6\/m=7\/m=8:=by omega
   rcases this with rfl|rfl|rfl|rfl|rfl|rfl<;>exact jE (by decide) (by decide) (by decide+kernel) (by decide+kernel) (by decide+kernel)
  ·refine gM (et rfl rfl) Z ?_;have:m=3\/m=4\/m=5\/m=6\/m=7\/m=8:=by omega
   rcases this with rfl|rfl|rfl|rfl|rfl|rfl<;>rfl
 rw[gL (et rfl rfl) Z];by_cases c2:w=1/\5<m
 ·refine⟨sortI (lE m.toNat),b,?_,D,?_⟩
  ·have:m=6\/m=7\/m=8:=by omega
   rcases this with rfl|rfl|rfl<;>exact jE (by decide) (by decide) (by decide+kernel) (by decide+kernel) (by decide+kernel)
  ·refine gM (et rfl rfl) c2 ?_;have:m=6\/m=7\/m=8:=by omega
   rcases this with rfl|rfl|rfl<;>rfl
 rw[gL (et rfl rfl) c2];have s:=Ey M L;by_cases c3:w=2/\2<m
 ·obtain⟨q,a,q0,q1,B,F⟩:=cf H j (m:=2) (by decide) (by decide);have i:=B.flat H;refine⟨(fT m.toNat).filter (λt=>decide (t.1<1+q/\1+q<=t.2)),a,pS s Pw,D.trans B,?_⟩;refine gM (et rfl rfl) c3 ?_;rw[bL (d:=.int (1+q)) (S':=a) (by simp[aj,ah,Res.bind,Res.noErr,eh,F,dX,eX])];refine bD ?_;simp[ap,aj,ah,aY,Res.bind,Res.noErr,aA,aU,cv,px,pR i M L,eY];unfold ag;rw[pN (f:=av) (e:=av) (p:=λt=>decide (t.1<1+q/\1+q<=t.2))]
  ·simp[Res.noErr,ka,ay,ao,ag]
  ·intro t T A O;have c:A.length<16777216:=O;have x0:bP (av t) (.int 0) a=.ok (.int t.1) a:=rfl;have x1:bP (av t) (.int 1) a=.ok (.int t.2) a:=rfl;have X:aw .Lt (.int t.1) (.int (1+q)) a=.ok (.bl (decide (t.1<1+q))) a:=rfl;have x3:aw .LtE (.int (1+q)) (.int t.2) a=.ok (.bl (decide (1+q<=t.2))) a:=rfl;by_cases y1:t.1<1+q<;>by_cases y2:1+q<=t.2<;>simp[bj,bT,slots,dt,aR,bF,aS,am,bv,aj,Res.bind,Res.noErr,aA,x0,x1,X,x3,y1,y2,c]
  ·have:=s.few;unfold ck;omega
 rw[gL (et rfl rfl) c3];by_cases c4:w=3
 ·obtain⟨u,a,s3,v3,B,F⟩:=wR (n:=n) (step:=λx A b=>match bj (.var 0) x [none,some (.ref n)]with
    |some g=>(aS b6 G0 [] g b).bind λk a=>if k=Nj then bv b6 G0 (.emit (.tup [.call "_law_draw" [.var 1,.var 0],.var 0])) g A a else .ok A a
    |none=>.fail) (m-1).toNat 1 [] b (by decide) (by omega) H j (by simp;omega) (λp p0 p1 A S C E O=>by
     obtain⟨r,S',R,N,d,e⟩:=cf C E (m:=p) (by omega) (by omega);refine⟨r,S',R,N,d,?_⟩;have c:A.length<16777216:=by omega
     simp[bj,bT,slots,dt,aR,bF,aS,bv,aj,ah,Res.bind,eh,e,av,c])
  have hl:u.length=(m-1).toNat:=by have:=Z2 Oh s3;simpa[pO]using this
  have hn:u.Nodup:=by
   have h:(u.map (·.2)).Nodup:=by rw[s3];exact Ez
   exact(Ya.mp h).imp λz e=>z (by rw[e])
  refine⟨sortI u,a,jE M L hn (λt T=>by have:=v3 t T;omega) (by omega),D.trans B,?_⟩;refine gM (pV rfl) c4 (bD ?_);have K:aY b6 G0 (.range [.lit (.int 1),.var 2]) [some (.ref n),some (.int 4),some (.int m),some (.int w),none,none,none] b=.ok (.items (dL 1 (m-1).toNat)) b:=by simp[aY,ah,aj,Res.bind];omega
  have P:aj b6 G0 (.comp Nk ["_law_place","_law_pen_here"] [none,some 0] (.var 0) (.range [.lit (.int 1),.var 2]) [] (.emit (.tup [.call "_law_draw" [.var 1,.var 0],.var 0]))) [some (.ref n),some (.int 4),some (.int m),some (.int w),none,none,none] b=.ok (.lst (ag u)) a:=by rw[wM]at K;exact gI K F
  have J:=Ex (S:=a) (d:=.lst (ag u)) (l:=u) rfl (by omega);exact dF (pU (al rfl) (gJ (gJ P J) rfl))
 rw[gL (pV rfl) c4];obtain⟨q,a,q0,q1,B,F⟩:=cf H j (m:=5) (by decide) (by decide);have i:=B.flat H;have Q:=B.pen j;obtain⟨o,eo⟩:=EB (S:=a) q0 q1;rw[bL (d:=.int o) (S':=a) (by simp[aj,ah,Res.bind,Res.noErr,eh,F,eo])];simp only[OZ,O0]
 obtain⟨u,Y,s4,d4,e4⟩:=pT (n:=n) (f:=av) (step:=λx A b=>match bj (.var 0) x [none,some (.ref n),some (.int o)]with
    |some g=>(aS b6 G0 [.cmp .Lt (.call "_law_draw" [.var 1,.lit (.int 8)]) (.var 2)] g b).bind λk a=>if k=Nj then bv b6 G0 (.emit (.var 0)) g A a else .ok A a
    |none=>.fail) (fT m.toNat) [] a i Q (by have:=s.few;simp;omega) (λt T A S C E O=>by
     obtain⟨r,S',R,N,d,e⟩:=cf C E (m:=8) (by decide) (by decide);refine⟨decide (r<o),S',d,?_⟩;have X:aw .Lt (.int r) (.int o) S'=.ok (.bl (decide (r<o))) S':=rfl;have c:A.length<16777216:=by omega
     by_cases y:r<o<;>simp[bj,bT,slots,dt,aR,bF,aS,am,bv,aj,ah,Res.bind,Res.noErr,aA,eh,e,X,y,c])
 refine⟨u,Y,pS s s4,(D.trans B).trans d4,bD ?_⟩
 have P:aj b6 G0 (.comp Nk ["_law_tie","_law_pen_here","_law_often"] [none,some 0,some 6] (.var 0) (.seq (.call "_law_pairs" [.var 2])) [.cmp .Lt (.call "_law_draw" [.var 1,.lit (.int 8)]) (.var 2)] (.emit (.var 0))) [some (.ref n),some (.int 4),some (.int m),some (.int w),none,none,some (.int o)] a=.ok (.lst (ag u)) Y:=by
  have K:aY b6 G0 (.seq (.call "_law_pairs" [.var 2])) [some (.ref n),some (.int 4),some (.int m),some (.int w),none,none,some (.int o)] a=.ok (.items ((fT m.toNat).map av)) a:=by simp[aY,ah,aj,Res.bind,px,pR i M L,eY,ag]
  exact gI K e4
 exact dF (pU (al rfl) (gJ P rfl))
section
variable {a b:Int}{ts us p q:List Ti}{k:Nat}
end
end K04
namespace K04
theorem qB:de=K04.de:=rfl
theorem L':de=K04.de:=rfl
theorem Ma:eg=K04.eg:=rfl
theorem Mb:fg=K04.fg:=rfl
abbrev lT:Exc:=⟨"NoPlace",[]⟩
abbrev lU:Exc:=⟨"NoPlaces",[]⟩
abbrev great(a b:Int):Exc:=⟨"TooGreat",[.int a,.int b]⟩
section
variable {w p q:D}{a b:Int}{us:Lq}
theorem qC(H:Flat S)(h:dU d):de [d] S=.err r9 S:=by rw[qB];exact K04.LY H h
theorem gW(h:Flat S)(W:cG m ts):de [ao m ts] S=.ok .non S:=by rw[L'];exact K04.Lu h W
theorem qD(H:Flat S)(h:gT m d):pp [ao m ts,d] S=.err lT S:=by have e:=h S H;rw[<-Ma]at e;have i:bP (ao m ts) (.int 0) S=.ok (.int m) S:=rfl;generalize ao m ts=w at*;refine eT rfl ?_ H;simp[Dk,Dj,af,ap,am,aj,ah,Res.bind,Res.noErr,J6,i,e,bb]
theorem qE(H:Flat S)(h:qy m ts d):pr [ao m ts,d] S=.err lU S:=by have e:=h S H;rw[<-Mb]at e;generalize ao m ts=w at*;refine eT rfl ?_ H;simp[Dq,Dm,af,ap,am,aj,ah,Res.bind,Res.noErr,J7,e,bb]
theorem xL(H:Flat S)(h:dU d):gF [d,p] S=.err r9 S:=by have e:=qC H h;refine eT rfl ?_ H;simp[v8,vZ,af,ap,aj,ah,Res.bind,Dt,e]
theorem xM(H:Flat S)(W:cG m ts)(h:gT m d):gF [ao m ts,d] S=.err lT S:=by have e:=gW H W;have E:=qD (ts:=ts) H h;generalize ao m ts=w at*;refine eT rfl ?_ H;simp[v8,vZ,af,ap,aj,ah,Res.bind,Dt,Kc,e,E]
theorem Ff(H:Flat S)(h:dU d):fh [d,p] S=.err r9 S:=by have e:=qC H h;refine eT rfl ?_ H;simp[wa,v_,af,ap,aj,ah,Res.bind,Dv,e]
theorem Mc(H:Flat S)(W:cG m ts)(h:qy m ts d):fh [ao m ts,d] S=.err lU S:=by have e:=gW H W;have E:=qE H h;generalize ao m ts=w at*;refine eT rfl ?_ H;simp[wa,v_,af,ap,aj,ah,Res.bind,Dv,Kg,e,E]
theorem Md(H:Flat S)(h:dU d):ic [d] S=.err r9 S:=by have e:=Ff (p:=.tup []) H h;refine eT rfl ?_ H;simp[Dx,Dw,af,ap,aj,ah,Res.bind,Kh,e]
theorem xN(H:Flat S)(h:dU d):fi [d,p] S=.err r9 S:=by have e:=qC H h;refine eT rfl ?_ H;simp[jn,wc,af,ap,aj,ah,Res.bind,pu,e,rW]
theorem xO(H:Flat S)(W:cG m ts)(h:dU d):fi [ao m ts,d] S=.err r9 S:=by have e:=gW H W;have E:=qC H h;generalize ao m ts=w at*;refine eT rfl ?_ H;simp[jn,wc,af,ap,aj,ah,Res.bind,pu,e,E,rW]
theorem Fh:jn=[.expr (.call "must_be_web" [.var 0]),.expr (.call "must_be_web" [.var 1]),.asgT (.tup [.var 2,.var 3]) (.var 0),.asgT (.tup [.var 4,.var 5]) (.var 1),.asg 6 (.bin .Add (.var 2) (.var 4)),.ite (.cmp .Gt (.var 6) (.glob "MOST_PLACES")) [.raiseI "TooGreat" [.var 6,.glob "MOST_PLACES"]] [],.asg 7 (.blt .tuple [K04.rW]),.ret (.tup [.var 6,.bin .Add (.var 3) (.var 7)])]:=rfl
abbrev rb(a b:Int)(ts us:Lq)(x6 x7:Option D):br:=[some (ao a ts),some (ao b us),some (.int a),some (.tup (ag ts)),some (.int b),some (.tup (ag us)),x6,x7]
theorem Fi{e:CE}(o:us.length<=28)(l:aY Φ G0 (.seq e) ρ S=.ok (.items (us.map av)) S){f:CE}{g:Int×Int->br}(n:fr.map (λj=>j.bind λj=>(ρ[j]?).join)=r0)(H:∀t,bj (.tup [.var 0,.var 1]) (av t) r0=some (g t))(i:∀t,aj Φ G0 f (g t) S=.ok (av (sh a t)) S):
  aj Φ G0 (.comp Nk N fr (.tup [.var 0,.var 1]) (.seq e) [] (.emit f)) ρ S=.ok (.lst (ag (us.map (sh a)))) S:=by
 refine gI l ?_;rw[n]
 have:=pN (xs:=us) (f:=av) (p:=λ_=>Nj) (e:=λt=>av (sh a t)) (S:=S) (step:=λx A d=>match bj (.tup [.var 0,.var 1]) x r0 with
   |some b=>(aS Φ G0 [] b d).bind λk c=>if k=Nj then bv Φ G0 (.emit f) b A c else .ok A c
   |none=>.fail) (λt q A h=>by
  rw[H t];simp only[aS,Res.bind,if_true,bv,i t];rw[if_pos h]) (show us.length<=16777216 by omega)
 rw[Sw.mpr (λ_ _=>rfl)]at this;have m:us.map (λt=>av (sh a t))=ag (us.map (sh a)):=by unfold ag;rw[ZW];rfl
 rw[m]at this;exact this
theorem Fj(W:cG a ts)(V:cG b us):dX .Add (.tup (ag ts)) (.tup (ag (us.map (sh a)))) S=.ok (.tup (ag (qA a ts us))) S:=by have w:=W.few;have v:=V.few;show(if(ag ts).length+(ag (us.map (sh a))).length<=ck then Res.ok (D.tup (ag ts++ag (us.map (sh a)))) S else .fail)=_;rw[if_pos (by unfold ag ck;simp;omega)];unfold qA ag;rw[OY]
theorem Fm(h:Flat S)(W:cG a ts)(V:cG b us){cs:List CS}:af gG G0 (.expr (.call "must_be_web" [.var 0]):: .expr (.call "must_be_web" [.var 1]):: .asgT (.tup [.var 2,.var 3]) (.var 0):: .asgT (.tup [.var 4,.var 5]) (.var 1):: .asg 6 (.bin .Add (.var 2) (.var 4))::cs) [some (ao a ts),some (ao b us),none,none,none,none,none,none] S=af gG G0 cs (rb a b ts us (some (.int (a+b))) none) S:=by have E:=gW h W;have f:=gW h V;rw[bg (ρ':=[some (ao a ts),some (ao b us),none,none,none,none,none,none]) (S':=S) (by simp only[ap,aj,ah,Res.bind,Zr,Zo,pu,E])];rw[bg (ρ':=[some (ao a ts),some (ao b us),none,none,none,none,none,none]) (S':=S) (by simp only[ap,aj,ah,Res.bind,Zr,Zo,pu,f])];rw[bg (ρ':=[some (ao a ts),some (ao b us),some (.int a),some (.tup (ag ts)),none,none,none,none]) (S':=S) rfl];rw[bg (ρ':=rb a b ts us none none) (S':=S) rfl];rw[bL (d:=.int (a+b)) (S':=S) rfl];rfl
theorem MP{k:Bool}(h:decide (a+b>8)=k):am gG G0 (.cmp .Gt (.var 6) (.glob "MOST_PLACES")) (rb a b ts us (some (.int (a+b))) none) S=.ok k S:=by have H:aw .Gt (.int (a+b)) (.int 8) S=.ok (.bl (decide (a+b>8))) S:=rfl;have c:G0 "MOST_PLACES"=some (.int 8):=rfl;rw[h]at H;simp only[am,aj,Res.bind,Zr,Zo,c,H,Res.noErr,aA]
theorem xP(H:Flat S)(W:cG a ts)(V:cG b us)(h:a+b<=8):fi [ao a ts,ao b us] S=.ok (ao (a+b) (qA a ts us)) S:=by
 refine aM rfl ?_ rfl H (K04.lC _ _);show af gG G0 jn [some (ao a ts),some (ao b us),none,none,none,none,none,none] S=_;rw[Fh,Fm H W V];rw[bg (ρ':=rb a b ts us (some (.int (a+b))) none) (S':=S) (by rw[fU (MP (ZE (by omega)))];rfl)]
 have e:aj gG G0 K04.rW (rb a b ts us (some (.int (a+b))) none) S=.ok (.lst (ag (us.map (sh a)))) S:=by refine Fi (r0:=[none,none,some (.int a)]) (g:=λt=>[some (.int t.1),some (.int t.2),some (.int a)]) V.few rfl rfl (λt=>rfl) λt=>?_;have o1:dX .Add (.int t.1) (.int a) S=.ok (.int (t.1+a)) S:=rfl;have o:dX .Add (.int t.2) (.int a) S=.ok (.int (t.2+a)) S:=rfl;simp only[aj,ah,Zr,Zo,o1,o,Res.noErr,Res.bind];rfl
 rw[bL (d:=.tup (ag (us.map (sh a)))) (S':=S) (by rw[aj,ah,e];rfl)];simp only[OZ,O0];refine bD ?_;have f:=Fj (S:=S) W V;simp only[aj,ap,ah,Res.bind,Zr,Zo,f,Res.noErr];rfl
theorem Me(H:Flat S)(W:cG a ts)(V:cG b us)(h:8<a+b):fi [ao a ts,ao b us] S=.err (great (a+b) 8) S:=by refine eT rfl ?_ H;show af gG G0 jn [some (ao a ts),some (ao b us),none,none,none,none,none,none] S=_;rw[Fh,Fm H W V];have c:G0 "MOST_PLACES"=some (.int 8):=rfl;rw[af,ap,MP (ZV h)];simp only[Res.bind,if_true,af,ap,ah,aj,Zr,Zo,c,rW]
end
section
variable {w p q:D}{a b i:Int}{us:Lq}{x:Exc}
theorem lV{a:Int}(h1:1<=a)(H:a<=8):cG a []:=⟨h1,H,.nil,(λ_ h=>nomatch h),by simp⟩
def Mf(n:Int):D:=.lst [.str "great",.int n,.int 8]
noncomputable def fX(a b:Int)(ts u:Lq):D:=if a+b<=8 then ao (a+b) (qA a ts u)else Mf (a+b)
theorem Mh:wA=[.asg 2 (.bin .Add (.idx (.var 0) (.lit (.int 0))) (.idx (.var 1) (.lit (.int 0)))),.ite (.cmp .Gt (.var 2) (.lit (.int 8))) [.ret (.lst Nk [.lit (.str "great"),.var 2,.lit (.int 8)])] [],.ret (.tup [.var 2,.bin .Add (.idx (.var 0) (.lit (.int 1))) (.blt .tuple [KN])])]:=rfl
theorem qF(j:Flat S)(W:cG a ts)(V:cG b us):pE [ao a ts,ao b us] S=.ok (fX a b ts us) S:=by
 have l:aZ 0 (fX a b ts us)=Nj:=by
  unfold fX;split
  ·exact K04.lC _ _
  ·rfl
 refine aM rfl ?_ rfl j l;show af lx G0 wA [some (ao a ts),some (ao b us),none] S=_;have i:∀{c:Int} {vs:Lq},bP (ao c vs) (.int 0) S=.ok (.int c) S:=rfl;have I:∀{c:Int} {vs:Lq},bP (ao c vs) (.int 1) S=.ok (.tup (ag vs)) S:=rfl;rw[Mh];refine(bL (d:=.int (a+b)) (S':=S) (dQ (cg (al rfl) aq i) (cg (al rfl) aq i) rfl)).trans ?_;have k:aw .Gt (.int (a+b)) (.int 8) S=.ok (.bl (decide (a+b>8))) S:=rfl;have H:am lx G0 (.cmp .Gt (.var 2) (.lit (.int 8))) [some (ao a ts),some (ao b us),some (.int (a+b))] S=.ok (decide (a+b>8)) S:=jI (al rfl) aq k;unfold fX;by_cases h:a+b<=8
 ·rw[ZE (by omega)]at H;rw[if_pos h];refine(bg (ρ':=[some (ao a ts),some (ao b us),some (.int (a+b))]) (S':=S) ((fU H).trans rfl)).trans ?_
  have f:aj lx G0 KN [some (ao a ts),some (ao b us),some (.int (a+b))] S=.ok (.lst (ag (us.map (sh a)))) S:=by
   refine Fi (r0:=[none,none,some (ao a ts)]) (g:=λt=>[some (.int t.1),some (.int t.2),some (ao a ts)]) V.few ?_ rfl (λt=>rfl) λt=>?_
   ·have E:aj lx G0 (.idx (.var 1) (.lit (.int 1))) [some (ao a ts),some (ao b us),some (.int (a+b))] S=.ok (.tup (ag us)) S:=cg (al rfl) aq I;simp only[aY,E,Res.bind];rfl
   ·have o1:dX .Add (.int a) (.int t.1) S=.ok (.int (t.1+a)) S:=by rw[Int.add_comm];rfl
    have o:dX .Add (.int a) (.int t.2) S=.ok (.int (t.2+a)) S:=by rw[Int.add_comm];rfl
    exact d0 (aI (dQ (cg (al rfl) aq i) (al rfl) o1) (aI (dQ (cg (al rfl) aq i) (al rfl) o) cm))
  refine bD (dF (d0 (aI (al rfl) (aI (dQ (cg (al rfl) aq I) (K04.gJ f rfl) (Fj W V)) cm))))
 ·rw[ZV (by omega)]at H;rw[if_neg h];refine bD ((fU H).trans ?_);rw[if_pos rfl];exact bD (dF (lX (aI aq (aI (al rfl) (aI aq cm)))))
theorem xQ:lw=[.tryG (some "great") "great" 3 iD "_law_kinds" ph lW]:=rfl
theorem im(H:Flat S)(h:af cc G0 iD [some (.int i),some p,some q,none] S=.err x S)(b:x.fs=[])(a:(ph.zip lW).lookup x.cls=some y)(c:y≠"great"):cX [.int i,p,q] S=.ok (.str y) S:=by refine aM rfl ?_ rfl H rfl;show af cc G0 lw [some (.int i),some p,some q,none] S=_;rw[xQ];refine bD ?_;rw[ap,h];simp only[b,a,if_neg c]
theorem Mi(H:Flat S)(h:af cc G0 iD [some (.int i),some p,some q,none] S=.err (great m 8) S):cX [.int i,p,q] S=.ok (Mf m) S:=by
 have a:(ph.zip lW).lookup ("TooGreat":Str)=some "great":=by decide+kernel
 refine aM rfl ?_ rfl H rfl;show af cc G0 lw [some (.int i),some p,some q,none] S=_;rw[xQ];refine bD ?_;rw[ap,h];simp only[a,if_true];rfl
theorem qG(H:Flat S)(h:af cc G0 iD [some (.int i),some p,some q,none] S=.ok (.ret d) S)(a:aZ 0 d=Nj):cX [.int i,p,q] S=.ok d S:=by refine aM rfl ?_ rfl H a;show af cc G0 lw [some (.int i),some p,some q,none] S=_;rw[xQ];refine bD ?_;rw[ap,h]
theorem qH{j:Int}:am cc G0 (.cmp .Eq (.var 0) (.lit (.int j))) [some (.int i),some p,some q,none] S=.ok (i==j) S:=jI (al rfl) aq rfl
theorem FL:af cc G0 iD [some (.int 0),some p,some q,none] S=(fi [p,q] S).bind λd S1=>.ok (.ret d) S1:=by
 have t:=qH (i:=0) (j:=0) (p:=p) (q:=q) (S:=S);rw[show((0:Int)==0)=Nj from rfl]at t;have e:aj cc G0 (.call "beside" [.var 1,.var 2]) [some (.int 0),some p,some q,none] S=fi [p,q] S:=by simp[aj,ah,Res.bind,KG,rW]
 unfold iD;simp only[af,ap,t,Res.bind,if_true,e,rW];cases fi [p,q] S<;>rfl
theorem MQ:af cc G0 iD [some (.int 1),some p,some q,none] S=(gF [p,q] S).bind λd S1=>.ok (.ret d) S1:=by
 have t:=qH (i:=1) (j:=0) (p:=p) (q:=q) (S:=S);have T:=qH (i:=1) (j:=1) (p:=p) (q:=q) (S:=S);rw[show((1:Int)==0)=Nk from rfl]at t;rw[show((1:Int)==1)=Nj from rfl]at T;have e:aj cc G0 (.call "near" [.var 1,.var 2]) [some (.int 1),some p,some q,none] S=gF [p,q] S:=by simp[aj,ah,Res.bind,KH]
 unfold iD;simp only[af,ap,t,T,Res.bind,Zt,if_false,if_true,e];cases gF [p,q] S<;>rfl
theorem MR:af cc G0 iD [some (.int 2),some p,some q,none] S=(fh [p,q] S).bind λd S1=>.ok (.ret d) S1:=by
 have t:=qH (i:=2) (j:=0) (p:=p) (q:=q) (S:=S);have T:=qH (i:=2) (j:=1) (p:=p) (q:=q) (S:=S);have a:=qH (i:=2) (j:=2) (p:=p) (q:=q) (S:=S);rw[show((2:Int)==0)=Nk from rfl]at t;rw[show((2:Int)==1)=Nk from rfl]at T;rw[show((2:Int)==2)=Nj from rfl]at a
 have e:aj cc G0 (.ite (.cmp .Eq (.var 0) (.lit (.int 2))) (.call "pieces_without" [.var 1,.var 2]) (.call "pieces" [.var 1])) [some (.int 2),some p,some q,none] S=fh [p,q] S:=by rw[aj,a];simp[aj,ah,Res.bind,KI]
 unfold iD;simp only[af,ap,t,T,Res.bind,Zt,if_false,e];cases fh [p,q] S<;>rfl
theorem Ng:af cc G0 iD [some (.int 3),some p,some q,none] S=(ic [p] S).bind λd S1=>.ok (.ret d) S1:=by
 have t:=qH (i:=3) (j:=0) (p:=p) (q:=q) (S:=S);have T:=qH (i:=3) (j:=1) (p:=p) (q:=q) (S:=S);have a:=qH (i:=3) (j:=2) (p:=p) (q:=q) (S:=S);rw[show((3:Int)==0)=Nk from rfl]at t;rw[show((3:Int)==1)=Nk from rfl]at T;rw[show((3:Int)==2)=Nk from rfl]at a
 have e:aj cc G0 (.ite (.cmp .Eq (.var 0) (.lit (.int 2))) (.call "pieces_without" [.var 1,.var 2]) (.call "pieces" [.var 1])) [some (.int 3),some p,some q,none] S=ic [p] S:=by rw[aj,a];simp[aj,ah,Res.bind,KJ]
 unfold iD;simp only[af,ap,t,T,Res.bind,Zt,if_false,e];cases ic [p] S<;>rfl
theorem io:(ph.zip lW).lookup r9.cls=some "web"/\(ph.zip lW).lookup lT.cls=some "place"/\(ph.zip lW).lookup lU.cls=some "places":=by decide+kernel
theorem xR(H:Flat S)(W:cG a ts)(V:cG b us):cX [.int 0,ao a ts,ao b us] S=.ok (fX a b ts us) S:=by
 unfold fX;by_cases h:a+b<=8
 ·rw[if_pos h];exact qG H (by rw[FL,xP H W V h];rfl) (K04.lC _ _)
 ·rw[if_neg h];exact Mi H (by rw[FL,Me H W V (by omega)];rfl)
theorem qI(H:Flat S)(h:dU d):cX [.int 0,d,q] S=.ok (.str "web") S:=im H (by rw[FL,xN H h];rfl) rfl io.1 (by decide)
theorem qJ(H:Flat S)(W:cG m ts)(h:dU d):cX [.int 0,ao m ts,d] S=.ok (.str "web") S:=im H (by rw[FL,xO H W h];rfl) rfl io.1 (by decide)
theorem qK(H:Flat S)(h:dU d):cX [.int 1,d,q] S=.ok (.str "web") S:=im H (by rw[MQ,xL H h];rfl) rfl io.1 (by decide)
theorem qL(H:Flat S)(h:dU d):cX [.int 2,d,q] S=.ok (.str "web") S:=im H (by rw[MR,Ff H h];rfl) rfl io.1 (by decide)
theorem qM(H:Flat S)(h:dU d):cX [.int 3,d,q] S=.ok (.str "web") S:=im H (by rw[Ng,Md H h];rfl) rfl io.1 (by decide)
theorem xS(H:Flat S)(W:cG m ts)(h:gT m d):cX [.int 1,ao m ts,d] S=.ok (.str "place") S:=im H (by rw[MQ,xM H W h];rfl) rfl io.2.1 (by decide)
theorem xT(H:Flat S)(W:cG m ts)(h:qy m ts d):cX [.int 2,ao m ts,d] S=.ok (.str "places") S:=im H (by rw[MR,Mc H W h];rfl) rfl io.2.2 (by decide)
end
theorem qN:∀n,bB n=K04.bB n
 |0=>rfl
 |n+1=>by
  show aC (tbl [("_law_same",bB n)]) G0 el dP.length 2=aC (tbl [("_law_same",K04.bB n)]) K04.G0 K04.el K04.dP.length 2;rw[qN n]
  all_goals rfl
section
variable {a b:Int}{us:Lq}
theorem Mj(d:Flat S)(n:Nat)(y:Str):bB (n+1) [.str y,.str y] S=.ok (.bl Nj) S:=by
 show aC (tbl [("_law_same",bB n)]) G0 el dP.length 2 _ S=_;refine aM rfl ?_ rfl d rfl;have h:bH [.str y,.ty "bool"] S=.ok (.bl Nk) S:=rfl;have H:bH [.str y,.ty "int"] S=.ok (.bl Nk) S:=rfl;have c:bH [.str y,.ty "str"] S=.ok (.bl Nj) S:=rfl
 have a:aw .Eq (.str y) (.str y) S=.ok (.bl Nj) S:=by have:aw .Eq (.str y) (.str y) S=.ok (.bl (y==y)) S:=rfl;rw[this];simp
 have b:aw .Is (.str y) .non S=.ok (.bl Nk) S:=rfl;simp[el,dP,af,ap,am,aj,ah,Res.bind,Res.noErr,aA,aU,h,H,a,b,c,bb]
theorem Ml(t:Flat S)(v:∀z∈xs,bB n [z,z] S=.ok (.bl Nj) S):bB (n+1) [.lst xs,.lst xs] S=.ok (.bl Nj) S:=by
 show aC (tbl [("_law_same",bB n)]) G0 el dP.length 2 _ S=_;refine aM rfl ?_ rfl t rfl;generalize h:D.lst xs=d;have i:bH [d,.ty "bool"] S=.ok (.bl Nk) S:=by subst h;rfl
 have j:bH [d,.ty "int"] S=.ok (.bl Nk) S:=by subst h;rfl
 have k:bH [d,.ty "str"] S=.ok (.bl Nk) S:=by subst h;rfl
 have l:aw .Is d .non S=.ok (.bl Nk) S:=by subst h;rfl
 have m:bH [d,.ty "list"] S=.ok (.bl Nj) S:=by subst h;rfl
 have o:bH [d,.ty "tuple"] S=.ok (.bl Nk) S:=by subst h;rfl
 have p:aw .NotEq (.bl Nk) (.bl Nk) S=.ok (.bl Nk) S:=rfl;have q:aw .NotEq (.bl Nj) (.bl Nj) S=.ok (.bl Nk) S:=rfl;have r:fH [d] S=.ok (.int xs.length) S:=by subst h;simp[fH,ay]
 have H:aw .NotEq (.int xs.length) (.int xs.length) S=.ok (.bl Nk) S:=by have:aw .NotEq (.int xs.length) (.int xs.length) S=.ok (.bl (!((xs.length:Int)==xs.length))) S:=rfl;rw[this];simp
 have g:du S d d=some (.items (Np (λx y=>.tup [x,y]) xs xs)):=by subst h;rfl
 unfold el;refine(bg (ρ':=[some d,some d,none,none]) (S':=S) (by simp[dP,ap,af,am,aj,ah,Res.bind,Res.noErr,aA,aU,l])).trans ?_;refine(bg (ρ':=[some d,some d,none,none]) (S':=S) (by simp[ap,af,am,aj,ah,Res.bind,Res.noErr,aA,aU,i,bb])).trans ?_;refine(bg (ρ':=[some d,some d,none,none]) (S':=S) (by simp[ap,af,am,aj,ah,Res.bind,Res.noErr,aA,aU,j,bb])).trans ?_;refine(bg (ρ':=[some d,some d,none,none]) (S':=S) (by simp[ap,af,am,aj,ah,Res.bind,Res.noErr,aA,aU,k,bb])).trans ?_;refine(bg (ρ':=[some d,some d,none,none]) (S':=S) (by simp[ap,af,am,aj,ah,Res.bind,Res.noErr,aA,aU,m,o,p,q,bb])).trans ?_;refine(bg (ρ':=[some d,some d,none,none]) (S':=S) (by simp[ap,af,am,aj,ah,Res.bind,Res.noErr,aA,aU,r,H,bb])).trans ?_
 obtain⟨X,Y,e⟩:=K04.xb (S:=S) (a:=some d) (b:=some d) (step:=λx A S=>match aR (.tup [.var 2,.var 3]) x A with
   |some c=>af (tbl [("_law_same",bB n)]) G0 [.ite (.bnot (.call "_law_same" [.var 2,.var 3])) [.ret (.lit (.bl Nk))] []] c S
   |none=>.fail) xs none none (λz w x y=>by have u:=v z w;simp[aR,bF,af,ap,am,aj,ah,Res.bind,tbl,u,bb])
 have s:aY (tbl [("_law_same",bB n)]) G0 (.zip [.var 0,.var 1]) [some d,some d,none,none] S=.ok (.items (Np (λx y=>.tup [x,y]) xs xs)) S:=by simp only[aY,ah,aj,Res.bind,Zo,Zr,g]
 refine(bg (ρ':=[some d,some d,X,Y]) (S':=S) ((jD s).trans e)).trans ?_;rfl
theorem xU(h:Flat S)(n:Nat)(i:Int):bB (n+1) [.int i,.int i] S=.ok (.bl Nj) S:=by rw[qN,K04.xa];exact K04.wO h n i
theorem Mm(h:Flat S):py [fX a b ts us,fX a b ts us] S=.ok (.bl Nj) S:=by
 show bB (5+1) _ S=_;unfold fX;split
 ·rw[qN];refine K04.xf h λz H=>?_;simp only[Zj,Zw,or_false]at H;rcases H with rfl|rfl
  ·rw[<-qN];exact xU h 4 _
  ·exact K04.p_ h 2 _
 ·refine Ml h λz H=>?_;simp only[Zj,Zw,or_false]at H;rcases H with rfl|rfl|rfl
  ·exact Mj h 4 _
  ·exact xU h 4 _
  ·exact xU h 4 _
end
theorem xV:ie=K04.ie:=rfl
theorem qO:jp=K04.jp:=rfl
theorem Mn:jo=K04.jo:=rfl
theorem xW:jA=K04.jA:=rfl
theorem xX:jx=K04.jx:=rfl
theorem xY:jy=K04.jy:=rfl
theorem xZ:ij=K04.ij:=rfl
theorem qP:eO=[.ite wB [.ret (.lit (.bl Nk))] [],.for_ (.var 1) pF ly,.ret (.lit (.bl Nj))]:=rfl
section
variable {w p q:D}{a b:Int}{us:Lq}
theorem iI{i:Int}{e f:CE}{x:D}(h1:aj aH G0 e ρ S=.ok p S)(H:aj aH G0 f ρ S=.ok q S)(h:cX [.int i,p,q] S=.ok x S):aj aH G0 (.call "_law_told" [.lit (.int i),e,f]) ρ S=.ok x S:=by simp only[aj,ah,h1,H,Res.bind,KQ,h,iD]
theorem neT{i:Int}{e f:CE}(h1:aj aH G0 e ρ S=.ok p S)(H:aj aH G0 f ρ S=.ok q S)(h:cX [.int i,p,q] S=.ok (.str y) S):am aH G0 (ne i e f y) ρ S=.ok Nk S:=by refine jI (iI h1 H h) aq ?_;show Res.ok (D.bl (!(y==y))) S=_;simp
theorem qQ(h:Flat S):am aH G0 wB ρ S=.ok Nk S:=by
 have w:∀{k:Int},aj aH G0 (.tup [.lit (.int k),.tup []]) ρ S=.ok (ao k []) S:=d0 (aI aq (aI (d0 cm) cm));have H:=xR h (lV (a:=4) (by decide) (by decide)) (lV (a:=4) (by decide) (by decide));have c:=xR h (lV (a:=1) (by decide) (by decide)) (lV (a:=8) (by decide) (by decide));have E:am aH G0 (.cmp .NotEq (.call "_law_told" [.lit (.int 0),.tup [.lit (.int 4),.tup []],.tup [.lit (.int 4),.tup []]]) (.tup [.lit (.int 8),.tup []])) ρ S=.ok Nk S:=jI (iI w w H) (w (k:=8)) rfl
 have b:am aH G0 (.cmp .NotEq (.call "_law_told" [.lit (.int 0),.tup [.lit (.int 1),.tup []],.tup [.lit (.int 8),.tup []]]) (.lst Nk [.lit (.str "great"),.lit (.int 9),.lit (.int 8)])) ρ S=.ok Nk S:=
  jI (iI w w c) (lX (aI aq (aI aq (aI aq cm)))) (e:=Mf 9) rfl
 exact cY E b
def fB(x:D):Prop:=∃a b ts us,cG a ts/\cG b us/\x=.tup [ao a ts,ao b us]
theorem x_(H:Flat S){s0 s s2 c d e f g i:Option D}{x:D}(h:fB x):af aH G0 tB [s0,s,s2,c,d,e,some x,f,g,i] S=.ok (.next [s0,s,s2,c,d,e,some x,f,g,i]) S:=by obtain⟨a,b,t,u,W,V,rfl⟩:=h;have T:aj aH G0 (yl 0) [s0,s,s2,c,d,e,some (.tup [ao a t,ao b u]),f,g,i] S=.ok (ao a t) S:=cg (al rfl) aq rfl;have j:aj aH G0 (yl 1) [s0,s,s2,c,d,e,some (.tup [ao a t,ao b u]),f,g,i] S=.ok (ao b u) S:=cg (al rfl) aq rfl;refine(dR (bc (k:=Nj) (xi KY (iI T j (xR H W V)) (gK K0 T j (qF H W V)) (Mm H)))).trans rfl
theorem ya(hS:Flat S){s0 x3 x6 x7 x8 x9:Option D}(c:Int):∃y2 y3 y4 y5 y6 y7 y8 y9 S',Flat S'/\af aH G0 ly [s0,some (.int c),x2,x3,x4,x5,x6,x7,x8,x9] S=.ok (.next [s0,some (.int c),y2,y3,y4,y5,y6,y7,y8,y9]) S':=by
 obtain⟨b,eb⟩:=K04.xp hS c;rw[<-qO]at eb;have j:Flat (S++[[.int c,.int b]]):=hS.snoc rfl;have y:aT (S++[[.int c,.int b]]) S.length:=⟨c,b,by rw[ZK (Zh _)];simp⟩;obtain⟨m,t,S2,W,d2,e2⟩:=K04.wS j y;rw[<-xV]at e2;have k:=d2.flat j;have A:=d2.pen y;obtain⟨I,_,U,S3,V,d3,e3⟩:=K04.Fe k A;rw[<-xV]at e3;have o:=d3.flat k;have C:=d3.pen A;obtain⟨M,h24,vs,a,Z,d4,e4⟩:=K04.Fe o C;rw[<-xV]at e4;have i:=d4.flat o;have E:=d4.pen C;obtain⟨B,S5,H,d5,e5⟩:=K04.L1 W i E;rw[<-xX]at e5;have e:=d5.flat i;have F:=d5.pen E;obtain⟨N,S6,s,d6,e6⟩:=K04.L3 W.lo W.hi e F;rw[<-xY]at e6;have p:=d6.flat e;have G:=d6.pen F;obtain⟨so,S7,O,d7,e7⟩:=K04.p9 p G W.lo W.hi;rw[<-xW]at e7;have r:=d7.flat p;have Q:=d7.pen G;obtain⟨n,J,u,d8,L⟩:=K04.L_ (ts:=t) W.lo W.hi O.len r Q;rw[<-xZ]at L;change ij [.ref S.length,.int m,.tup (so.map D.int)] S7=.ok n J at L;have f:=d8.flat r;have Wz:cG (9-M-1) []:=lV (by omega) (by have:=Z.lo;omega);have i0:∀T,bP (ao m t) (.int 0) T=.ok (.int m) T:=λT=>rfl;have j0:∀T,bP (ao M vs) (.int 0) T=.ok (.int M) T:=λT=>rfl;have o1:dX .Sub (.int 9) (.int M) a=.ok (.int (9-M)) a:=rfl;have o2:dX .Sub (.int (9-M)) (.int 1) a=.ok (.int (9-M-1)) a:=rfl;have q1:=qI (q:=B) e H;have q2:=qJ e W H;have q3:=qM (q:=.non) e H;have q4:=qK (q:=N) f H;have q5:=qL (q:=n) f H;have q6:=xS f W s;have q7:=xT f W u;have i1:fB (.tup [ao m t,ao I U]):=⟨_,_,_,_,W,V,rfl⟩;have i2:fB (.tup [ao I U,ao M vs]):=⟨_,_,_,_,V,Z,rfl⟩;have i3:fB (.tup [ao M vs,ao I U]):=⟨_,_,_,_,Z,V,rfl⟩;have i4:fB (.tup [ao I U,ao m t]):=⟨_,_,_,_,V,W,rfl⟩;have i5:fB (.tup [ao M vs,ao (9-M-1) []]):=⟨_,_,_,_,Z,Wz,rfl⟩;generalize R:ao (9-M-1) []=Y at*;generalize ao m t=w at*;generalize ao I U=v at*;generalize ao M vs=z at*;generalize D.tup (so.map D.int)=l at*
 obtain⟨g,T4,⟨⟨X,rfl⟩,P⟩,hf⟩:=w_ (step:=λx K S=>match aR (.var 6) x K with
   |some g=>af aH G0 tB g S
   |none=>.fail) (λK T=>(∃x6,K=[s0,some (.int c),some (.ref S.length),some w,some v,some z,x6,x7,x8,x9])/\T=a) [.tup [w,v],.tup [v,z],.tup [z,v],.tup [v,w],.tup [z,Y]] (by rintro x hx K T ⟨⟨x6,rfl⟩,hT⟩;rw[hT];refine⟨[s0,some (.int c),some (.ref S.length),some w,some v,some z,some x,x7,x8,x9],a,⟨⟨_,rfl⟩,rfl⟩,?_⟩;refine x_ i ?_;simp only[Zj,Zw,or_false]at hx;rcases hx with rfl|rfl|rfl|rfl|rfl<;>assumption) [s0,some (.int c),some (.ref S.length),some w,some v,some z,x6,x7,x8,x9] a ⟨⟨_,rfl⟩,rfl⟩
 rw[P]at hf;refine⟨some (.ref S.length),some w,some v,some z,X,some B,some N,some n,J,f,?_⟩;unfold ly;refine(bL (d:=.ref S.length) (S':=S++[[.int c,.int b]]) (Ly KO (al rfl) eb)).trans ?_;refine(bg (ρ':=[s0,some (.int c),some (.ref S.length),some w,some v,some z,x6,x7,x8,x9]) (S':=a) ?_).trans ?_
 ·have h:ah aH G0 wP [s0,some (.int c),some (.ref S.length),x3,x4,x5,x6,x7,x8,x9] (S++[[.int c,.int b]])=.ok [w,v,z] a:=by
   simp only[wP,aj,ah,Res.bind,Zo,Zr,KS,e2,e3,e4]
  show ap aH G0 _ [s0,some (.int c),some (.ref S.length),x3,x4,x5,x6,x7,x8,x9] _=_;rw[ap,h];rfl
 have hI:aY aH G0 tW [s0,some (.int c),some (.ref S.length),some w,some v,some z,x6,x7,x8,x9] a=.ok (.items [.tup [w,v],.tup [v,z],.tup [z,v],.tup [v,w],.tup [z,Y]]) a:=by have h8:D.tup [.int (9-M-1),.tup []]=Y:=R;simp only[tW,aY,aj,ah,Res.bind,Res.noErr,Zt,if_false,Zo,Zr,j0,o1,o2,h8];rfl
 refine(bg (ρ':=[s0,some (.int c),some (.ref S.length),some w,some v,some z,X,x7,x8,x9]) (S':=a) (by rw[jD hI];exact hf)).trans ?_;refine(bL (d:=B) (S':=S5) (gK KP (al rfl) (al rfl) e5)).trans ?_;refine(dR (cY (neT (al rfl) (al rfl) q1) (cY (neT (al rfl) (al rfl) q2) (neT (al rfl) aq q3)))).trans ?_;refine(bg (ρ':=[s0,some (.int c),some (.ref S.length),some w,some v,some z,X,some B,some N,some n]) (S':=J) ?_).trans ?_
 ·have h:ah aH G0 nP [s0,some (.int c),some (.ref S.length),some w,some v,some z,X,some B,x8,x9] S5=.ok [N,n] J:=by
   simp only[nP,m3,aj,ah,Res.bind,Res.noErr,Zo,Zr,i0,KU,KW,KZ,e6,e7,L]
  show ap aH G0 _ [s0,some (.int c),some (.ref S.length),some w,some v,some z,X,some B,x8,x9] _=_;rw[ap,h];rfl
 exact(dR (cY (neT (al rfl) (al rfl) q4) (neT (al rfl) (al rfl) q5))).trans ((dR (cY (neT (al rfl) (al rfl) q6) (neT (al rfl) (al rfl) q7))).trans rfl)
theorem qR(a:Flat S)(f:ns.length<=63){x:List (Option D)}:∃cs:Li,aY aH G0 pF (some (.scr (ns.map D.int))::x) S=.ok (.items (cs.map D.int)) S:=by
 obtain⟨c,e⟩:=K04.qg a ns;rw[<-Mn]at e;obtain⟨cs,b,d⟩:∃cs:Li,a_ (ns.map D.int) (some 1) (some 6)=cs.map D.int/\cs.length<=63:=by refine⟨(ns.drop _).take _,by unfold a_;rw[<-Pm,<-Qz],?_⟩;simp;omega
 refine⟨c::cs,?_⟩;have h:mV (.scr (ns.map D.int)) (some 1) (some 6) S=.ok (.lst (cs.map D.int)) S:=by rw[<-b];rfl
 have H:eX (.lst [.int c]) (.lst (cs.map D.int)) S=.ok (.lst ([.int c]++cs.map D.int)) S:=by show(if 1+(cs.map D.int).length<=ck then Res.ok (D.lst ([.int c]++cs.map D.int)) S else .fail)=_;rw[if_pos (by unfold ck;simp;omega)]
 simp[pF,aY,aj,ah,Res.bind,Res.noErr,KR,e,cS,ir,h,dX,H,eY]
end
theorem good:Good lz:=λn s=>by
 obtain⟨C,l⟩:=qR (S:=[]) Flat.nil s (x:=[none,none,none,none,none,none,none,none,none])
 obtain⟨a,k,_,r⟩:=w_ (step:=λx j S=>match aR (.var 1) x j with
   |some a=>af aH G0 ly a S
   |none=>.fail) (λj S=>(∃m X x3 b d f g h i,j=[some (.scr (n.map D.int)),m,X,x3,b,d,f,g,h,i])/\Flat S) (C.map D.int) (by rintro x t j S ⟨⟨m,X,x3,b,d,f,g,h,i,rfl⟩,p⟩;obtain⟨c,_,rfl⟩:=Zp.mp t;obtain⟨y,Y,v,w,z,A,B,E,o,H,e⟩:=ya p (s0:=some (.scr (n.map D.int))) (x2:=X) (x3:=x3) (x4:=b) (x5:=d) (x6:=f) (x7:=g) (x8:=h) (x9:=i) c;exact⟨_,o,⟨⟨_,_,_,_,_,_,_,_,_,rfl⟩,H⟩,e⟩) [some (.scr (n.map D.int)),none,none,none,none,none,none,none,none,none] [] ⟨⟨_,_,_,_,_,_,_,_,_,rfl⟩,Flat.nil⟩
 have q:af aH G0 eO [some (.scr (n.map D.int)),none,none,none,none,none,none,none,none,none] []=.ok (.ret (.bl Nj)) k:=by rw[qP];refine(dR (qQ Flat.nil)).trans ?_;refine(bg (ρ':=a) (S':=k) ?_).trans rfl;exact(jD l).trans r
 refine⟨[],?_⟩;show aC aH G0 eO iE.length 1 [.scr (n.map D.int)] []=_;unfold aC;rw[if_pos (show [D.scr (n.map D.int)].length=1 from rfl)];rw[show af aH G0 eO ([D.scr (n.map D.int)].map some++Nu (iE.length-1) none) []=_ from q];rfl
end K04
section
namespace K04
theorem walk{l:PySem.W.OpenLaw}{q:Nt}{d:DefRec}{K:Params->Fg}(i:l.most=some 63)(H:d.params.defaults=[])
  (e:∀(w:NF) (h:Nw),YP w h->(K w.params).In h)
  (F:∀(w:NF) (mg:Mg) (fa:Nm) (h:Nw),(K w.params).In h->h.Ns mainGlobals mg->mg d.name=some (.ref fa)->
   ∃fd:N_,(∀(s:Nl) (u:Nn),RK s fd ⟨[u],[]⟩ [("_law_script",u)])/\∀base:Nw,(K w.params).In base->base.Ns mainGlobals mg->cH l.prog w (K w.params) mg base (bh l.prog w) 11 fa fd ["_law_script"] (iF (K w.params))):
  PySem.W.WalkO q loose XP YP l.row.toRowW d [] (λf vs=>PySem.call f vs):=
 L2.mL (n:=63) (k:=11) (x:="_law_script") (CX:=λw=>bh l.prog w) (sp:=λw=>iF (K w.params)) i (by decide) H ⟨rfl,by decide,by decide,rfl⟩ e F (λ_ _ a N g b c=>⟨a,N,rfl,b,c,g,λ_=>rfl⟩) λ_ _ _ _ _ z=>rO _ _ _ _ _ z
end K04
namespace PySem.W.Fast
def tw10285587998939429960:=Nat
def tw1304707862665694911:=Nat
def tw10155651682857687956:=Nat
def tw9081755689694570083:=Nat
def tw12830324586864291405:=Nat
def tw6159928497933661470:=Nat
def tw14648686943328742463:=Nat
def tw17267167604456240990:=Nat
def tw3966929254618293846:=Nat
def tw2751595174252368900:=Nat
def tw5665526026880340129:=Nat
def tw16212136462361435705:=Nat
def tw15584416358265075667:=Nat
def tw16927695111714683113:=Nat
def tw10687830491250504457:=Nat
def tw1340527358059352600:=Nat
def tw16849965992954806457:=Nat
def tw12145183403586069399:=Nat
def tw5925546858214930117:=Nat
def tw492077199620795655:=Nat
def tw8603218522823822784:=Nat
def tw8100151520554281589:=Nat
def tw16456867357083300743:=Nat
def tw3032864835550395292:=Nat
def tw2243738152301567623:=Nat
def tw520197006261529425:=Nat
def tw16695142301396404795:=Nat
def tw2731345793403980203:=Nat
def tw15929455496085469274:=Nat
def tw2108886168936381217:=Nat
def tw1453103159015483201:=Nat
def tw16685833863320763585:=Nat
def tw11690808972502853656:=Nat
def tw17057369753831889729:=Nat
def tw15357197678574747423:=Nat
def tw4925778801986923972:=Nat
def tw5032356980444087072:=Nat
def tw16713031262244441180:=Nat
def tw17175274678900940783:=Nat
def tw2667539140148370418:=Nat
def tw9526190873547809875:=Nat
def tw14136483911840001692:=Nat
def tw936153795764916286:=Nat
def tw17819300888391599407:=Nat
def tw14457846616465530702:=Nat
def tw4288956353258496623:=Nat
def tw16322896499527388455:=Nat
def tw11426610546618642408:=Nat
def tw12643183261653861865:=Nat
def tw4921470038748115010:=Nat
def tw3501264544271226160:=Nat
def tw17761460991384906406:=Nat
def tw4274834942905438699:=Nat
def tw1151966748018138554:=Nat
def tw12642256914636510175:=Nat
def tw17912775757654782332:=Nat
def tw4042133710873538846:=Nat
def tw12820435827196241799:=Nat
def tw15966709791033618170:=Nat
def tw18213299916654448051:=Nat
def tw195117635338605080:=Nat
def tw15177884639936508961:=Nat
def tw16292524899781110872:=Nat
def tw13037800924744261590:=Nat
def tw6330512508351264705:=Nat
def tw8793317257035886674:=Nat
def tw2828676824202487590:=Nat
def tw12318645015709403080:=Nat
def tw7287579465413924477:=Nat
def tw135919319203632187:=Nat
def tw10776058072974343164:=Nat
def tw61124334683463464:=Nat
def tw1078894520860547889:=Nat
def tw11086887635299034358:=Nat
def tw701925523893664140:=Nat
def tw11449785329569000596:=Nat
def tw2645257508011003200:=Nat
def tw5441514659998949746:=Nat
def tw11297741486338769841:=Nat
def tw17307242192673351360:=Nat
def tw13209084176268554638:=Nat
def tw14207846434966231396:=Nat
def tw16030263772094341306:=Nat
def tw2167016621761456195:=Nat
def tw13106698425695283775:=Nat
def tw11712500549323478388:=Nat
def tw213466825567755311:=Nat
def tw920816953356931757:=Nat
def tw11707024293972191231:=Nat
def tw12252955314937030318:=Nat
def tw16075083429125712664:=Nat
def tw1969791301470379898:=Nat
def tw12425270643530175191:=Nat
def tw1294355162745748101:=Nat
def tw6611574500790748212:=Nat
def tw899570595262049080:=Nat
def tw15427184598570778032:=Nat
def tw11504280853852437763:=Nat
def tw8821827002542692158:=Nat
def tw3481875262065718719:=Nat
def tw3615272174206673856:=Nat
def tw2679249243517253950:=Nat
def tw12157054336746039326:=Nat
def tw16221077709614065408:=Nat
def tw18103686922735203148:=Nat
def tw14910750762046934566:=Nat
def tw3920828665006948101:=Nat
def tw13276809493854215150:=Nat
def tw17917477681393009891:=Nat
def tw13613220989122687272:=Nat
def tw5827565679599056477:=Nat
def tw7768082923774247325:=Nat
def tw601005951474544776:=Nat
def tw1063711283285518304:=Nat
def tw2234827509073602387:=Nat
def tw10795665993697805577:=Nat
def tw12094753513931966331:=Nat
def tw5816714205548875543:=Nat
def tw16224839213424559465:=Nat
def tw9744194451374237038:=Nat
def tw7849031858058153049:=Nat
def tw12822796572460312873:=Nat
def tw16241657607991752688:=Nat
def tw14068583697134322534:=Nat
def tw2374995700895757956:=Nat
def tw13471797599607961518:=Nat
def tw7253774081535585353:=Nat
def tw746808232891750879:=Nat
def tw16300917121732260126:=Nat
def tw14290502020607319518:=Nat
def tw8977405864565988960:=Nat
def tw2308763978183115450:=Nat
def tw17032026469296732295:=Nat
def tw12038018655788788685:=Nat
def tw16718670137208999500:=Nat
def tw6340647788565105058:=Nat
def tw9204565191881736691:=Nat
def tw6716755783015037559:=Nat
def tw2062470622721715242:=Nat
def tw1302913961754878099:=Nat
def tw10259316561676174702:=Nat
def tw1918698846038188431:=Nat
def tw18128254485233724528:=Nat
def tw16950937761059767004:=Nat
def tw13646740671131393446:=Nat
def tw10867947224902490642:=Nat
def tw8215072740313725791:=Nat
def tw1922635756151381629:=Nat
def tw11053912021346549968:=Nat
def tw7667972939217146132:=Nat
def tw8445142401453900979:=Nat
def tw1489163847806314597:=Nat
def tw618391232968365221:=Nat
def tw17456443279790773126:=Nat
def tw16759739448662650989:=Nat
def tw13445624933375983563:=Nat
def tw2726764927174083182:=Nat
def tw4691515330844830133:=Nat
def tw1971863470597488694:=Nat
def tw16313140365304730873:=Nat
def tw13181752348701767673:=Nat
end PySem.W.Fast
open PySem PySem.W PyProof.Rows
set_option maxRecDepth 100000 in
set_option maxHeartbeats 0 in
theorem PySem.Challenge.cw_pairwebs_k04_beside_and_refusals_of_webs_holds : PySem.Challenge.rw_pairwebs_k04_beside_and_refusals_of_webs.Holds := by
 w_on;o_law;k_head;(case hw=>w_witness2)
 k_fill
 refine K04.walk (l:=PySem.Challenge.rw_pairwebs_k04_beside_and_refusals_of_webs) rfl rfl (λw h Y=>PySem.W.kIn_of Y) ?F
 case F=>
  intro w mg fa h KX G hmg
  refine' K04.wF KX G hmg K04.good ⟨K04.dm ?_ ?_ ?_ ?_,K04.dm ?_ ?_ ?_ ?_,K04.dm ?_ ?_ ?_ ?_,K04.dm ?_ ?_ ?_ ?_,K04.dm ?_ ?_ ?_ ?_,K04.dm ?_ ?_ ?_ ?_,K04.dm ?_ ?_ ?_ ?_,K04.dm ?_ ?_ ?_ ?_,K04.dm ?_ ?_ ?_ ?_,K04.dm ?_ ?_ ?_ ?_,K04.dm ?_ ?_ ?_ ?_,K04.dm ?_ ?_ ?_ ?_,K04.dm ?_ ?_ ?_ ?_,K04.dm ?_ ?_ ?_ ?_,K04.dm ?_ ?_ ?_ ?_,K04.dm ?_ ?_ ?_ ?_,K04.dm ?_ ?_ ?_ ?_,K04.dm ?_ ?_ ?_ ?_,K04.dm ?_ ?_ ?_ ?_,K04.dm ?_ ?_ ?_ ?_,K04.dm ?_ ?_ ?_ ?_,K04.dm ?_ ?_ ?_ ?_,K04.dm ?_ ?_ ?_ ?_,K04.dm ?_ ?_ ?_ ?_,K04.dm ?_ ?_ ?_ ?_,K04.dm ?_ ?_ ?_ ?_,K04.dm ?_ ?_ ?_ ?_,K04.dm ?_ ?_ ?_ ?_,K04.dm ?_ ?_ ?_ ?_,K04.dm ?_ ?_ ?_ ?_,K04.dm ?_ ?_ ?_ ?_,K04.dm ?_ ?_ ?_ ?_,K04.dm ?_ ?_ ?_ ?_,K04.dm ?_ ?_ ?_ ?_,K04.dm ?_ ?_ ?_ ?_,K04.dm ?_ ?_ ?_ ?_,K04.dm ?_ ?_ ?_ ?_⟩ ?Z ?_ ?R
  case R=>kernel_rfl
  case Z=>intro x hx;simp only[Py.gk,Zj,Tn,or_false]at hx;rcases hx with rfl|rfl|rfl|rfl|rfl|rfl|rfl|rfl|rfl|rfl|rfl|rfl|rfl|rfl|rfl|rfl|rfl|rfl|rfl|rfl|rfl<;>k_is
  all_goals first|k_is|skip
end
