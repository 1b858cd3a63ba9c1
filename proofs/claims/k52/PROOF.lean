import PyProof.Rows.All
import Wide.All
import OpenK.AllK
import Wide.FinOn
import Lean
import PyProof.EqAt
import PyProof.EqKinds
import PyProof.TupleCall
import PyProof.ListMulAny
import PyProof.FactsAll.tuple
import KE.IntBitsLaws
import PyProof.NeKinds
import PyProof.FactsAll.tuple_2
import PyProof.SumWalkG
import PyProof.WalksMore
import PyProof.MinMaxWalk
import PyProof.Rows.SeqMore
import PyProof.FactsAll.tuple_3
import PyProof.StrCalls2
import PyProof.StrCalls3
import KE.KRevIter
import PyProof.FactsAll.range_2
import PyProof.EnumFor
import PyProof.TupleOfGen
import PyProof.ListRange
import PyProof.Rows.SetFrom
import PyProof.FactsAll.subtypes_4
import PyProof.TupleKey
import PyProof.IsRules
import PyProof.RangeFor
import PyProof.FactsAll.set_1
import PyProof.CollectIter
import PyProof.FactsAll.set_2
import PyProof.Rows.SortRuns
import KE.KSortAsk
import KE.KSortTup
import PyProof.DictWalks
import PyProof.DictRoadsH
import PyProof.CallStr
import PyProof.Rows.FStr
import PyProof.ExcBaseAll.ValueError
import PyProof.Rows.TopTwo
import PyProof.ExcAttrAll.ValueError
import KE.KIsAll
import KE.KTryMore
import PySem.Challenge.RW_pairwebs_k52_pairings_well_parted
noncomputable section
set_option genSizeOfSpec false
set_option genSizeOf false
set_option compiler.extract_closed false
set_option bootstrap.genMatcherCode false
set_option backward.eqns.nonrecursive false
set_option backward.eqns.deepRecursiveSplit false
set_option Elab.async false
set_option linter.all false
set_option maxRecDepth 100000
set_option maxHeartbeats 16000000
namespace L2
end L2
namespace Py
end Py
open PySem renaming wpAny_bind->Za,wpAny_pure->Ze,mem_of_lookup->ZS,wpAny_call_entry->Z1,wpAny_callSpecial?_slot->Z4,wpAny_field->Z7,wpAny_holding->Z8,wpAny_setField_rec->Yc,wpAny_newObj_type->Yg,wpAny_pyIter_tuple->Yi,wpAny_truthy_bool->Yn,wpAny_pyIter_list->Yo,Shared->NC,Addr->ND,Value->NF,Heap->NO,Program->NU,SetTable->NV,World->N0,Comprehension->N1,wpAny_rule->Ob,wpAny_setState_of->Od,codeAny_builtin->Og,NameKind->Ol,wpAny_seqItems->Om,wpAny_mono->Oz,Around->OH,wpAny_Call_Name_kw->OI,Builtin->OO,FuncData->OW,IsPair->OY,Stmt->O1,wpAny_passesOwn->O6,codeAny_mono->Ph,wpAny_askSetting->Pk,wpAny_attempt->Ps,sizeLine_eq->PC,wpAny_of_eq->PF,call_meets->P7,wpAny_forIn_list->P8,wpAny_ite->P9,plainId_quiet->Qb,codeAny_of_tree->Qo,wpAny_typeOf->Qu,wpAny_setField->QB,CmpOp->QI,IsZip->QK,wpAny_storeSet_of->QL,fits_of_scanBound->QM,wpAny_standAt->QN,IsPart->QP,filterMap_getElem?_range->QR,wpAny_isInstance->QX,wpAny_pyIter_rangeiter->Q2,IsEnum->Q4,wpAny_loadPart'->Q8,wpAny_updateSeq_pair->Rm,wpAny_runValue->Rn,PassesOwn->Rr,wpAny_setEntries_of->RC,wpAny_onRaise->RG,Result->RH,Operator->RS,wpAny_pyIter_slot->RT,noFill_tuple_add->R1,wpAny_letGo->R9,wpAny_execs_nil->Sd,wpAny_specialOf->Si,BindsTo->Sn,wpAny_newTuple->Sy,isSubtype_stop->Sz,intKind_is->SE,isSubtype_type->SG,rangeSize_one->SU,seq_tuple_add->SV,wpAny_comprehension_free->SW,wpAny_newList->S_,IsEnumOut->Te,putSet_of->Tl,wpAny_pyNext_range_end->Tt,concat_meets->Tu,seqIndex_neg->Tw,richCompare_meets_room->Tz,ElemsOf->TJ,weight_type_call_type->T1,wpAny_eqIsQuiet_tuple->T4,builtinLookup_eq_fast->T5
open List renaming mem_cons_of_mem->Zb,mem_cons_self->Zd,getElem?_eq_getElem->Zf,length_map->Zh,mem_cons->Zi,getElem?_cons_zero->Zj,getElem?_cons_succ->Zl,getElem?_eq_some_iff->Zm,mem_filter->Zn,mem_append->Zp,mem_map->Zq,getElem?_append_right->Zs,mem_append_right->Zt,getElem?_append_left->Zu,size_toArray->Zy,length_append->Zz,mem_of_getElem?->ZA,mem_singleton->ZB,mem_iff_getElem->ZD,filter_sublist->ZE,all_eq_true->ZF,pairwise_append->ZG,mem_append_left->ZH,length_filter_le->ZI,length_cons->ZJ,eq_nil_of_length_eq_zero->ZK,pairwise_cons->ZM,nodup_append->ZN,append_assoc->ZP,set_cons_succ->ZU,map_cons->ZV,mem_range->ZW,not_mem_nil->ZX,map_map->ZY,set_cons_zero->ZZ,getElem?_map->Z0,pairwise_map->Z3,getElem_mem->Z6,nodup_cons->Ya,pairwise_iff_getElem->Yd,drop_eq_getElem_cons->Ye,append_nil->Yf,zip_cons_cons->Ym,replicate->NG,range->NJ,zipWith->NL,take_left'->NY,length_take->N2,getElem?_set_self->N5,nil_append->N8,map_append->N9,getElem?_eq_none_iff->Oc,mem_filterMap->Of,getElem?_set_ne->Oi,length_nil->Oj,filter_eq_self->Oq,take_of_length_le->Ot,toArray->Ox,lookup_cons->OB,nodup_nil->OC,foldl_cons->OJ,takeWhile_append_dropWhile->ON,any_eq_true->OP,perm_middle->OQ,drop_eq_nil_of_le->OS,take_append_drop->O0,mem_flatMap->Pa,replicate_succ->Pe,getElem?_take_of_lt->Pf,forIn_cons->Pj,length->Po,flatMap_cons->Pw,drop_zero->Px,getElem?_eq_none->PJ,contains_iff_mem->PK,dropLast_sublist->PL,length_drop->PM,ext_getElem->PN,all_cons->PR,map_take->PU,map_drop->PV,length_dropLast->PY,mem_of_mem_take->P1,mem_of_mem_drop->P2,reverse_append->P_,getD->Qe,perm_ext_iff_of_nodup->Qj,getD_eq_getElem?_getD->Qk,take_sublist->Qt,flatten_cons->Qv,zip_nil_left->Qw,take_length->QC,Perm->QD,filter_cons->QF,map_flatMap->QG,length_singleton->QS,getElem?_zipWith->QT,perm_append_comm->QV,take_succ->QZ,map->Q1,map_congr_left->Q_,length_pos_iff->Ra,zip_nil_right->Rj,lookup_append->Rk,drop_sublist->Rw,length_range->Rx,eraseIdx_eq_take_drop_succ->RB,zipIdx_cons->RF,of_mem_zip->RM,length_set->RN,Nodup->RY,getLast?_eq_none_iff->R7,filterMap_cons_none->R_,filterMap_cons_some->R',length_filterMap_le->Sb,getElem?_replicate->Se,pairwise_singleton->Sl,filter_cons_of_neg->Sm,length_pos_of_mem->So,dropLast_eq_take->Sx,reverse_reverse->SQ,filterMap_cons->SS,zip_eq_zipWith->S0,take_set_of_le->S8,drop_set_of_lt->S9,map_eq_flatMap->Tb,filterMap_map->Tc,map_filterMap->Tn,getElem?_drop->Tq,filter_append->Ts,getElem_drop->TD,ext_getElem?->TK,mapM_toArray->TN,any_eq_false->TQ,filter_congr->TV,getElem_inj->TX,mem_nil_iff->T7
open PySem.Heap renaming get?_push_of_some->Zc,get?_push_size->Zk,lt_size->Zo,SameBut->NR,get?_update_self->NW,size_push->N6,get?_update_other->Pt,IsTuple->Rv,ExtBut->RI,IsList->RJ,get?_push_cases->SK
open Nat renaming le_refl->Zg,le_trans->Zw,ne_of_lt->ZC,lt_of_lt_of_le->ZR,lt_irrefl->Yl,zero_le->Yp,lt_succ_self->Oh,le_of_succ_le->OL,le_add_right->OR,le_of_lt->OU,ne_of_gt->OV,sub_le_sub_right->O9,succ_le_succ->Pb,zero_add->Pz,not_lt->Qn,lt_succ_of_lt->Qy,lt_succ_of_le->Qz,mul_le_mul_right->Q7,sub_le_sub_left->Rf,add_assoc->Rl,mod_lt->Ro,add_sub_cancel->Rq,le_succ_of_le->RD,lt_of_not_le->RK,min_eq_left->RV,mul_comm->Su,lt_trans->Sv,le_sub_one_of_lt->S7,mul_add->Ta,add_left_cancel->Tg,add_le_add_left->Tp,sub_pos_of_lt->T6
open PyProof.Rows renaming wpS_pure->Zr,wpS_bind->Zx,callWith_type1->Z2,Keyed->NH,SortSt->NK,slot_tuple_getitem->OD,wpS_forRange->OE,SortKind->OT,wpS_mono->OZ,wpS_modify->O4,callWith_builtin1->Pn,wpS_get->Qx,AllBare->QJ,step_dedup->Q3,wpS_lift->Rp,IntsAre->Ru,mirror_perm->Sa,IsTup->Ss,subscriptTail_builtinR->Tx
open Array renaming length_toList->Zv,getElem?_toList->ZT,toList_append->Z5,getElem?_eq_getElem->Oa,toList_push->OK,getElem?_eq_some_iff->O7,toList_extract->O8,toList_reverse->PX,perm_iff_toList_perm->Qf,getElem_toList->QY,toList_map->RA,ext'->RU,size_setIfInBounds->R5,toList_filterMap->Sj,getElem?_eq_none->Sk,mem_toList_iff->SA,range->SF,getD->SY,forIn_toList->S6,toList_zip->TL,toList_inj->TM,size_push->T2,replicate->T3
open Bool renaming and_eq_true->ZL,false_eq_true->Z9,true->NA,false->NB,not_eq_true'->O3,true_and->Pg,and_eq_true_iff->PZ,eq_iff_iff->P6,or_eq_true_iff->P',false_ne_true->Qg,false_and->Ql,or_eq_true->QQ,and_true->Rg,eq_false_iff->TH
open PySem.Heap.SameBut renaming update->Yb,refl->R6
open Option.some renaming inj->Yk
open Option renaming some->Nz,map_eq_some_iff->N3,getD_some->PH,isSome_iff_exists->Qr,getD_none->Td
open PySem.Value renaming none->NE,type->NN,ref->Oy,int->Qa,isInt_shape->Qq,bool->RQ,builtin->R4,notImplemented->Sw
open PySem.SetTable renaming below->NI,insertAt->NQ,sizeAbove->NX,fill->Qh,toList_insertAt->Qi,tooFull->Qs,insertAt_perm->QA,fits->RP,layClean->SD,grown->To,slot->TF
open PySem.Builtin.SmallTypes renaming ownedTupleIsFree->NM,nextOf->NP,ownedTupleHandOut->N_
open PySem.Builtin.Range renaming rangeFitsLong->NS,rangeSize->OF
open PySem.NameKind renaming cell->NT,free->O_
open PySem.Around renaming under_plainId->NZ,under_plain->SN
open ForInStep renaming yield->N4
open PySem.Obj renaming mapSeq->N7,data_mapFields->OX,putSet->Qp,isFreed_of_fields->QW,cls_mapFields->Ry
open PySem.AutoSeq1 renaming wpAny_loadPart'->Oe,sub_tuple_tuple->RO
open PyProof.Rows.F renaming plain_set_update_loop->Oo,entry_set_update_loop->Pu
open PySem.SetTable.probe renaming go->Ou
open PySem.Str renaming ofString->OA
open PySem.SetTable.layClean renaming free->OG
open Int renaming toNat_natCast->OM,fdiv_eq_ediv_of_nonneg->Qm,toNat_of_nonneg->Rh
open PySem.Builtin.Tuple renaming tupleExact->O2,tupleCompareSizes->QU,tupleItemsOf->Rb
open Classical renaming byContradiction->O5,not_forall->QH,not_imp->Q6
open PySem.SetTable.below renaming go->O'
open PySem.F renaming slot_tuple_iterator_next->Pd,slot_enumerate_next->P0,slot_zip_next->Q0,args_tuple_iterator_next_1->R3,entry_tuple_iterator_next->R8,args_enumerate_next_1->SM,entry_enumerate_next->SX,slot_enumerate_iter->Tf,sub_tuple_frozenset->Tj,plain_reversed_new->TC
open PySem.Shared renaming heap->Pl,TypeIs->Q5
open PySem.Builtin.Frozenset renaming updateFrom->Pm
open List.Pairwise renaming filter->Pp,imp_of_mem->P4
open List.Perm renaming append_left->Pq,eq_of_pairwise->RL,append_right->RW,of_eq->SO
open PySem.Calls renaming spliced_nil->Pr,spliced_cons->Qd,Name_function_global->RR,call_function_entry->R0,callWith_builtin->Sf
open PySem.Builtin.Int renaming intBits->PD
open PySem.Builtin.Slice renaming slicePlaces->PQ,sliceAdjust->Ri
open PySem.Builtin.List renaming listTooLong->P5,listExtendWith->Rc,listUpdate->RE
open PySem.Builtin.Str renaming occurrences->Qc
open PyProof.Rows.SortSt renaming mk'->QE
open PySem.Builtin renaming bitAnd->QO,bitOr->TY
open Nat.succ renaming inj->Q9
open LawfulBEq renaming eq_of_beq->Rt
open True renaming intro->RX
open PySem.Heap.IsList renaming push->Sg
open Sum renaming inl->Sq,inr->Sr
open Prod renaming ext->SH
open PySem.Data renaming fields->SJ,cell->TZ
open PySem.Code renaming quiet_builtin->Th
open List.cons renaming inj->Tr
open PyProof.Rows.IsTup renaming new->Tv
open Decidable renaming em->TR
open PySem PySem.Spec PyProof.Rows L2 Py
abbrev Mg:=Str->Option NF
abbrev Vs:=NF->NC->Prop
abbrev Fg:=PySem.W.Frag
abbrev Lp:=List (ND×Obj)
abbrev Lq:=List (Int×Int)
abbrev Li:=List Int
abbrev La:=List ND
abbrev Lv:=List NF
abbrev Ls:=List Str
abbrev Lx:=List Expr
abbrev Ov:=Option NF
abbrev Av:=Array NF
def ZO:=@decide_eq_true
def ZQ:=@decide_eq_false
def Yh:=@decide_eq_true_eq
def Yj:=@congrArg
variable {us its its':Lv}{u cd doc pm cdv ct oc vl vu:NF}{a it dx f sl fa acc I:ND}{o ob:Obj}{P prog:NU}{w:N0}{h h' h1 h2 base h0:NO}{α β:Type}{e tg iter r' z ce elt:Expr}{pq pins':Lp}{s s' s2:NC}{g':Array GenState}{t' k n lo tk mask wanted ep hint j2 nrem src line np:Nat}{d':Drawn}{ch fp μ μ' F μ1 μ0 wr:La}{N ps loose N':Ls}{M:Model}{A:OH}{E Q Q₁ E':Vs}{rest ifs:Lx}{y m:Int}{K:Fg}{st:NK}{es es':Array (Int×NF)}{g:Int->Int->Int}{pos' apos p2 p1 p3 p4:Pos}{hi:Option Int}{C:List (Li)}{op':QI}{κ:OT}{name qual:Str}{mg:Mg}{ks:List Nat}{scope:Scope}{outer:List Env}{od:Option ND}{osl:Array (Ov)}{items:Av}{ns l hs left so:Li}{XP:(Mg)->NO->Prop}{YP:N0->NO->Prop}{env:Env}{tn:Nat->NO->Prop}{cs:List (Li×ND)}{cell:Str->Bool}{b1 b2 led:Bool}{gens:List N1}{ts:Lq}{fr:List (Option Nat)}{key:NH}{o2 a0:Array NH}{c1:Nat->Prop}{nb:Option (Str×Nat×Pos×Pos)}{L:List (Nat×Nat×Nat)}{tie:Int->Int->Bool}
namespace L2
abbrev Key:=Sum Int Str
noncomputable def qe:Key->NF->Bool
 | .inl k,v=>Value.isInt k v
 | .inr x,v=>Value.isStrOf x v
noncomputable def EQ(w:N0):Key->Int
 | .inl k=>hashInt k
 | .inr x=>hashStr w x
theorem fK:∀{k:Key} {v:NF},qe k v=NA->(∃i t,k=Sq i/\v=Qa i t)\/(∃x t,k=Sr x/\v=Value.str x t)
 | .inl i,v,h=>by obtain⟨t,e⟩:=Qq h;exact .inl ⟨i,t,rfl,e⟩
 | .inr x,v,h=>by obtain⟨t,e⟩:=Value.isStrOf_shape h;exact .inr ⟨x,t,rfl,e⟩
theorem qQ(a b:Int):decide ((Sq a:Key)=Sq b)=(a==b):=by lia
theorem qR(a b:Str):decide ((Sr a:Key)=Sr b)=decide (a=b):=by lia
theorem qS(a:Int)(b:Str):decide ((Sq a:Key)=Sr b)=NB:=ZQ λq=>nomatch q
theorem qT(a:Str)(b:Int):decide ((Sr a:Key)=Sq b)=NB:=ZQ λq=>nomatch q
noncomputable def qU(prog:NU)(w:N0):PySem.KeyKind prog w Key where
 is:=qe
 hash:=EQ w
 inj:=λv a b ha hb=>by
  rcases fK ha with⟨i,t,rfl,rfl⟩| ⟨x,t,rfl,rfl⟩
  ·rcases fK hb with⟨j,u,rfl,e⟩| ⟨y,u,rfl,e⟩
   ·injection e with e1 _;rw[e1]
   ·exact nomatch e
  ·rcases fK hb with⟨j,u,rfl,e⟩| ⟨y,u,rfl,e⟩
   ·exact nomatch e
   ·injection e with e1 _;rw[e1]
 byValue:=λk v h=>by rcases fK h with⟨i,t,rfl,rfl⟩| ⟨x,t,rfl,rfl⟩<;>rfl
 pyHash:=λhv h=>by
  rcases fK hv with⟨i,t,rfl,rfl⟩| ⟨x,t,rfl,rfl⟩
  ·exact wpAny_pyHash_int h
  ·exact wpAny_pyHash_str h
 eqBool:=λhu hv h=>by
  rcases fK hu with⟨i,t,rfl,rfl⟩| ⟨x,t,rfl,rfl⟩
  ·rcases fK hv with⟨j,u,rfl,rfl⟩| ⟨y,u,rfl,rfl⟩
   ·rw[qQ]at h;exact wpAny_eqBool_int h
   ·rw[qS]at h;exact SeqAt.EqAt.int_str i t y u _ _ _ _ h
  ·rcases fK hv with⟨j,u,rfl,rfl⟩| ⟨y,u,rfl,rfl⟩
   ·rw[qT]at h;exact SeqAt.EqAt.str_int x t j u _ _ _ _ h
   ·rw[qR]at h;exact wpAny_eqBool_str h
 «strs»:=λk x t v h=>by
  rcases fK h with⟨i,u,rfl,e⟩| ⟨y,u,rfl,e⟩
  ·exact nomatch e
  ·injection e with e1 _
   subst e1;cases v<;>rfl
set_option genInjectivity false in
inductive V where
 |non|bl (b:Bool)|int (i:Int)|str (x:Str)|byt (b:Array UInt8)|flt (b:UInt64)|ref (a:ND)|ty (n:String)
 deriving DecidableEq
noncomputable def RelV:V->NF->Prop
 | .non,u=>u=NE
 | .bl b,u=>u=RQ b
 | .int i,u=>∃t,u=Qa i t
 | .str x,u=>∃t,u=Value.str x t
 | .byt b,u=>∃t,u=Value.bytes b t
 | .flt b,u=>∃t,u=Value.float b t
 | .ref a,u=>u=Oy a
 | .ty n,u=>u=NN n
abbrev Vals:List V->Lv->Prop:=Paired RelV
theorem Vals.length{xs:List V}(r:Vals xs us):xs.length=us.length:=Paired.length r
theorem Vals.get:∀{xs:List V} {us:Lv} {i:Nat} {x:V},Vals xs us->xs[i]?=Nz x->∃u,us[i]?=Nz u/\RelV x u
 |_,_,_,_,.nil,e=>by simp_all
 |_,_,0,_,.cons r _,e=>by simp_all
 |_,_,i+1,x,.cons _ t,e=>by obtain⟨u,h,H⟩:=Vals.get t (by simpa using e);simp_all
theorem Vals.set{x:V}(r:RelV x u):∀{xs:List V} {us:Lv} (i:Nat),Vals xs us->Vals (xs.set i x) (us.set i u)
 |_,_,_,.nil=>.nil
 |_,_,0,.cons _ t=>.cons r t
 |_,_,i+1,.cons q t=>.cons q (Vals.set r i t)
theorem Vals.append:∀{xs ys:List V} {us w:Lv},Vals xs us->Vals ys w->Vals (xs++ys) (us++w)
 |_,_,_,_,.nil,s=>s
 |_,_,_,_,.cons r t,s=>.cons r (Vals.append t s)
theorem Vals.take:∀{xs:List V} {us:Lv} (n:Nat),Vals xs us->Vals (xs.take n) (us.take n)
 |_,_,0,_=>.nil
 |_,_,_+1,.nil=>.nil
 |_,_,n+1,.cons r t=>.cons r (Vals.take n t)
theorem Vals.drop:∀{xs:List V} {us:Lv} (n:Nat),Vals xs us->Vals (xs.drop n) (us.drop n)
 |_,_,0,r=>r
 |_,_,_+1,.nil=>.nil
 |_,_,n+1,.cons _ t=>Vals.drop n t
noncomputable def v9:Option V->Ov->Prop
 |some v,Nz u=>RelV v u
 |none,none=>True
 |_,_=>False
def KV{a:Type}:List (a×V)->List (a×NF)->Prop:=Paired λ(p:a×V) (q:a×NF)=>p.1=q.1/\RelV p.2 q.2
noncomputable def kV:Key->V
 | .inl i=>.int i
 | .inr x=>.str x
inductive HO where
 |lst (xs:List V)
 |tup (xs:List V)
 |dK (kvs:List (Key×V))|dT (kvs:List (List Key×V))
 |set (S:Int->Bool) (n:Nat)
 |ins (C dx:ND) (fs:List (Str×V))
 |own (x:ND)
 |xd (fs:List (Str×V))
 |met (f x:ND)
 |rng (lo hi:Int)
 |frz (o:Obj) (u:HO)
 |tbl (ps:Av)
 |ext (φ:NO->Prop)
abbrev Hp:=ND->Option HO
noncomputable def bg(H:Hp)(a:ND)(o:HO):Hp:=λb=>if b=a then Nz o else H b
theorem dr{H:Hp}{o:HO}:bg H a o a=Nz o:=by unfold bg;simp_all
theorem a_{H:Hp}{b:ND}{o:HO}(h:b≠a):bg H a o b=H b:=by unfold bg;rw[if_neg h]
theorem dF{H:Hp}{b:ND}{o:HO}(h:H a=Nz o)(h':H b=none):a≠b:=by lia
def vS(h:NO)(a:ND):Prop:=∃o,h.get? a=Nz o/\o.dict=none
theorem vS.new(h:NO)(items:Av):vS (h.push {cls:=.type "tuple",data:=.seq items}) h.objs.size:=⟨_,Zk _ rfl,rfl⟩
section
variable (P:NU)(w:N0)
noncomputable def bx(H:Hp)(h:NO)(a:ND):HO->Prop
 | .lst xs=>xs.length<=sizeLine/\∃(its:Lv) (n:Nat),Vals xs its/\h.get? a=Nz {cls:=.type "list",data:=.seq its.toArray n}
 | .tup xs=>xs.length<=sizeLine/\∃its:Lv,Vals xs its/\Ss h a its.toArray/\vS h a
 | .dK k=>k.length<=sizeLine/\(a==sysModules)=NB/\∃vs,KV k vs/\h.DictOf (qU P w) a vs
 | .dT k=>k.length<=sizeLine/\(a==sysModules)=NB/\∃xs:List (List Key×ND×NF),
   Paired (λ(p:List Key×V) (q:List Key×ND×NF)=>p.1=q.1/\H q.2.1=Nz (.tup (p.1.map kV))/\RelV p.2 q.2.2) k xs/\
   ∃o es ep,h.get? a=Nz o/\o.ExactDict/\o.data=.dict es ep/\es.toList=xs.map (entryOfKey (tupleKind (qU P w)))/\(xs.map (·.1)).Nodup
 | .set S n=>h.SetOf (intKind P w) a S n
 | .ins C dx fs=>H dx=Nz (.own a)/\fs.length<=1000/\dx≠a/\h.get? a=Nz (PySem.W.instObj C dx)/\
   ∃mA,h.Ns1 dx mA/\(∀f,v9 (fs.lookup f) (mA f))/\PySem.Within mA (fs.map (·.1))
 | .own _=>∃o,h.get? a=Nz o
 | .xd fs=>∃mA,h.Ns1 a mA/\∀f,v9 (fs.lookup f) (mA f)
 | .rng lo hi=>∃t u v,h.get? a=Nz {cls:=.type "range",data:=.fields #[.int lo t,.int hi u,.int 1 v]}
 | .frz o u=>h.get? a=Nz o/\bx H h a u
 | .tbl ps=>h.get? a=Nz {cls:=.none,data:=.fields ps}
 | .met f x=>h.get? a=Nz (PySem.W.methodObj (.ref f) (.ref x))
 | .ext φ=>φ h/\(∃o,h.get? a=Nz o)/\∀h1 h2:NO,φ h1->(∀o,h1.get? a=Nz o->h2.get? a=Nz o)->φ h2
def eI(H:Hp)(h:NO):Prop:=∀a o,H a=Nz o->bx P w H h a o
end
section
variable {H H':Hp}{o:HO}
theorem bx.lt(x:bx P w H h a o):a<h.objs.size:=by
 cases o with
 |lst X=>obtain⟨_,_,_,_,e⟩:=x;exact Zo e
 |tup X=>obtain⟨_,_,_,p,_⟩:=x;exact p.lt
 |dK k=>obtain⟨_,_,_,_,o,_,_,e,_⟩:=x;exact Zo e
 |dT k=>obtain⟨_,_,_,_,o,_,_,e,_⟩:=x;exact Zo e
 |set S n=>obtain⟨o,_,_,_,e,_⟩:=x;exact Zo e
 |ins C d fs=>obtain⟨_,_,_,e,_⟩:=x;exact Zo e
 |own y=>obtain⟨_,e⟩:=x;exact Zo e
 |xd fs=>obtain⟨_,⟨_,_,_,e,_⟩,_⟩:=x;exact Zo e
 |rng lo b=>obtain⟨_,_,_,e⟩:=x;exact Zo e
 |frz O u=>obtain⟨e,_⟩:=x;exact Zo e
 |tbl c=>exact Zo (show h.get? a=Nz _ from x)
 |met f y=>exact Zo (show h.get? a=Nz _ from x)
 |ext g=>obtain⟨_,⟨_,e⟩,_⟩:=x;exact Zo e
theorem Paired.mapP{F G:α->β->Prop}:∀{l:List α} {L:List β},Paired F l L->(∀a b,F a b->G a b)->Paired G l L
 |_,_,.nil,_=>.nil
 |_,_,.cons r t,f=>.cons (f _ _ r) (Paired.mapP t f)
theorem bx.stay(x:bx P w H h a o)(k:∀b u,(b=a\/H b=Nz (.own a))->h.get? b=Nz u->h'.get? b=Nz u)
  (A:∀b,H b=Nz (.own a)->H' b=Nz (.own a)) (B:∀b xs,H b=Nz (.tup xs)->H' b=Nz (.tup xs)):bx P w H' h' a o:=by
 induction o with
 |lst xs=>obtain⟨z,i,n,r,e⟩:=x;exact⟨z,_,n,r,k _ _ (.inl rfl) e⟩
 |tup xs=>obtain⟨z,i,r,⟨O,e,c⟩,D,l,j⟩:=x;exact⟨z,_,r,⟨_,k _ _ (.inl rfl) e,c⟩,_,k _ _ (.inl rfl) l,j⟩
 |dK K=>obtain⟨z,y,vs,r,O,g,E,e,c⟩:=x;exact⟨z,y,_,r,_,_,_,k _ _ (.inl rfl) e,c⟩
 |dT K=>obtain⟨z,y,xs,r,O,g,E,e,c⟩:=x;exact⟨z,y,_,Paired.mapP r λp q z=>⟨z.1,B _ _ z.2.1,z.2.2⟩,_,_,_,k _ _ (.inl rfl) e,c⟩
 |set S n=>obtain⟨O,g,E,t,e,c⟩:=x;exact⟨_,_,_,t,k _ _ (.inl rfl) e,c⟩
 |ins C G fs=>obtain⟨d,z,ne,e,M,⟨F,g,E,m,c⟩,r⟩:=x;exact⟨A _ d,z,ne,k _ _ (.inl rfl) e,_,⟨_,_,_,k _ _ (.inr d) m,c⟩,r⟩
 |own y=>obtain⟨O,e⟩:=x;exact⟨_,k _ _ (.inl rfl) e⟩
 |xd fs=>obtain⟨M,⟨F,g,E,e,c⟩,r⟩:=x;exact⟨_,⟨_,_,_,k _ _ (.inl rfl) e,c⟩,r⟩
 |rng lo J=>obtain⟨t,u,v,e⟩:=x;exact⟨t,u,v,k _ _ (.inl rfl) e⟩
 |frz O u I=>obtain⟨e,q⟩:=x;exact⟨k _ _ (.inl rfl) e,I q⟩
 |tbl L=>exact k a _ (.inl rfl) x
 |met f y=>exact k a _ (.inl rfl) x
 |ext N=>obtain⟨p,⟨o,e⟩,s⟩:=x;exact⟨s _ _ p λo q=>k _ _ (.inl rfl) q,⟨o,k _ _ (.inl rfl) e⟩,s⟩
theorem eI.lt(x:eI P w H h)(e:H a=Nz o):a<h.objs.size:=(x a o e).lt
theorem eI.fresh(x:eI P w H h)(e:h.objs.size<=a):H a=none:=by
 cases q:H a with
 |none=>rfl
 |some u=>exact absurd (ZR (x.lt q) e) (Yl _)
theorem eI.kept(x:eI P w H h)(k:∀b u,h.get? b=Nz u->h'.get? b=Nz u):eI P w H h':=λa o e=>
 (x a o e).stay (λb u _ q=>k b u q) (λ_ q=>q) λ_ _ q=>q
theorem eI.laid(x:eI P w H h)(k:∀b u,h.get? b=Nz u->h'.get? b=Nz u)(g:h.objs.size<=a)(new:bx P w (bg H a o) h' a o):eI P w (bg H a o) h':=λb u e=>by
 have f:=x.fresh g;by_cases d:b=a
 ·subst d;rw[dr]at e;simp_all
 ·rw[a_ d]at e;exact(x b u e).stay (λc v _ q=>k c v q) (λc q=>by rw[a_ (dF q f)];exact q) λc X q=>by rw[a_ (dF q f)];exact q
end
def Rd(H:Hp)(a:ND)(u:HO):Prop:=H a=Nz u\/∃o,H a=Nz (.frz o u)
theorem Rd.ok{H:Hp}{u:HO}(r:Rd H a u)(x:eI P w H h):bx P w H h a u:=by
 rcases r with r| ⟨o,r⟩
 ·exact x a u r
 ·obtain⟨_,q⟩:=x a _ r;exact q
noncomputable def Es:Option HO->Prop
 |some (.lst _)=>True
 |some (.dK _)=>True
 |some (.dT _)=>True
 |some (.set _ _)=>True
 |some (.ins _ _ _)=>True
 |some (.ext _)=>True
 |_=>False
section
variable {H:Hp}{x e:ND}{o':HO}
theorem eI.write(ok:eI P w H h)(m:Es (H x))(i:e=x\/H e=Nz (.own x))(k:∀b u,b≠e->h.get? b=Nz u->h'.get? b=Nz u)(a:∃u,h'.get? e=Nz u)
  (new:bx P w (bg H x o') h' x o'):eI P w (bg H x o') h':=λb u q=>by
 have n:∀c y,H c=Nz (.own y)->c≠x:=λc y r z=>by subst z;rw[r]at m;exact m
 have N:∀c X,H c=Nz (.tup X)->c≠x:=λc X r z=>by subst z;rw[r]at m;exact m
 by_cases d:b=x
 ·subst d;rw[dr]at q;simp_all
 ·rw[a_ d]at q;by_cases f:b=e
  ·have Q:H b=Nz (.own x):=by lia
   rw[q]at Q;cases Q;obtain⟨v,j⟩:=a;exact⟨v,by lia⟩
  ·refine(ok b u q).stay (λc v g r=>k c v ?_ r) (λc r=>by rw[a_ (n c b r)];exact r) λc X r=>by rw[a_ (N c _ r)];exact r
   grind
end
structure Un (fs ex:La)(H H':Hp)(h h':NO):Prop where
 keep:∀b o,h.get? b=Nz o->H b=none->b∉fs->b∉ex->h'.get? b=Nz o
 slot:∀b o,h.get? b=Nz o->H b=none->b∈fs->b∉ex->∃sl,h'.get? b=Nz {o with slots:=sl}
 free:∀b o,h.get? b=Nz o->H b=none->b∉ex->H' b=none
 there:∀b o,h.get? b=Nz o->b∉ex->∃o',h'.get? b=Nz o'
 tups:∀b xs,H b=Nz (.tup xs)->H' b=Nz (.tup xs)
 frzs:∀b o u,H b=Nz (.frz o u)->H' b=Nz (.frz o u)
 tbls:∀b ps,H b=Nz (.tbl ps)->∃more,H' b=Nz (.tbl (ps++more))
section
variable {fs fs' ex ex':La}{H H1 H2:Hp}{x e:ND}{o:HO}
theorem Un.any(u:Un fs ex H H1 h h1){b:ND}(q:h.get? b=Nz ob)(n:H b=none)(c:b∉ex):∃sl,h1.get? b=Nz {ob with slots:=sl}:=by
 by_cases a:b∈fs
 ·exact u.slot b _ q n a c
 ·exact⟨_,u.keep b _ q n a c⟩
theorem Un.kept(k:∀b u,h.get? b=Nz u->h'.get? b=Nz u):Un fs ex H H h h':=
 ⟨λb o q _ _ _=>k b _ q,λb o q _ _ _=>⟨_,k b _ q⟩,λ_ _ _ n _=>n,λb o q _=>⟨_,k b _ q⟩,λ_ _ q=>q,λ_ _ _ q=>q,λ_ p q=>⟨#[],by simp_all⟩⟩
theorem Un.refl:Un fs ex H H h h:=Un.kept λ_ _ q=>q
theorem Un.laid(k:∀b u,h.get? b=Nz u->h'.get? b=Nz u)(hp:h.objs.size<=a)(hn:H a=none):Un fs ex H (bg H a o) h h' where
 keep:=λb u q _ _ _=>k b u q
 slot:=λb u q _ _ _=>⟨_,k b u q⟩
 free:=λb u q n _=>by rw[a_ (ZC (ZR (Zo q) hp))];exact n
 there:=λb u q _=>⟨u,k b u q⟩
 tups:=λb xs q=>by rw[a_ (dF q hn)];exact q
 frzs:=λb u xs q=>by rw[a_ (dF q hn)];exact q
 tbls:=λb ps q=>⟨#[],by rw[a_ (dF q hn),q];simp⟩
theorem Un.write(m:Es (H x))(g:e=x\/H e=Nz (.own x))(k:∀b u,b≠e->h.get? b=Nz u->h'.get? b=Nz u)(d:∃u,h'.get? e=Nz u):Un fs ex H (bg H x o) h h':=by
 have f:∀b,H b=none->b≠x:=λb n z=>by subst z;rw[n]at m;exact m
 have c:∀b,H b=none->b≠e:=λb n z=>by lia
 have a:∀b u,H b=Nz u->¬Es (Nz u)->b≠x:=λb u q nm z=>by lia
 refine⟨λb u q n _ _=>k b u (c b n) q,λb u q n _ _=>⟨_,k b u (c b n) q⟩,λb u q n _=>by rw[a_ (f b n)];exact n,λb u q _=>?_,
  λb X q=>by rw[a_ (a b _ q λz=>z)];exact q,λb u X q=>by rw[a_ (a b _ q λz=>z)];exact q,λb p q=>⟨#[],by rw[a_ (a b _ q λz=>z),q];simp⟩⟩
 grind
end
noncomputable def Nc(h:NO)(H:Hp):La:=(NJ h.objs.size).filter λa=>(H a).isSome
noncomputable def fZ(h:NO)(H:Hp):NO:=PySem.W.hideAll h (Nc h H)
theorem ER(h:NO)(H:Hp):(fZ h H).objs.size=h.objs.size:=PySem.W.hideAll_size _ _
theorem ES{H:Hp}{b:ND}(e:h.get? b=Nz o)(n:H b=none):(fZ h H).get? b=Nz o:=
 PySem.W.hideAll_get _ e λa=>by have q:=(Zn.mp a).2;simp_all
theorem lv{H:Hp}{b:ND}(e:(fZ h H).get? b=Nz o):h.get? b=Nz o/\H b=none:=by
 have E:=PySem.W.of_hideAll _ e;refine⟨E,?_⟩;cases q:H b with
 |none=>rfl
 |some x=>have z:(fZ h H).get? b=none:=PySem.W.hideAll_none _ (Zn.mpr ⟨ZW.mpr (Zo E),by simp[q]⟩);simp_all
structure Mod (K:Fg)(mg:Mg)(base:NO):Prop where
 kin:K.In base
 glob:base.Ns mainGlobals mg
 blt:∃mb,base.Ns builtinsNs mb/\∀x:Str,x≠"__name__"->mb x=bootBuiltins x
 nolimit:base.NoLimit
structure Cx where
 prog:NU
 w:N0
 K:Fg
 mg:Mg
 base:NO
 A:OH
 N:Ls
 s₀:NC
 H₀:Hp
 env:Env
 outer:List Env
 stack:List Env
 ex:La
 fn:Str->Bool
 calm:Bool
 pn:Lp
 xe:Vs
noncomputable def dH(l:List Env):La:=l.filterMap (·.frame)
abbrev Cx.fs(X:Cx):La:=dH X.outer
def v_(s:Scope)(x:Str):Prop:=s.names.lookup x=Nz .local\/s.names.lookup x=Nz .cell\/s.names.lookup x=Nz .free
def Loc(s:Scope)(x:Str):Prop:=s.names.lookup x=Nz .local\/s.names.lookup x=Nz .cell
def Look(env:Env)(h:NO)(m:Mg)(x:Str)(u:NF):Prop:=
 (env.kindOf x=Nz .local/\m x=Nz u)\/((env.kindOf x=Nz .cell\/env.kindOf x=Nz .free)/\∃c,env.cells.lookup x=Nz c/\h.IsCell c (Nz u))
structure Cx.Ok (X:Cx):Prop where
 mod:Mod X.K X.mg X.base
 kind:X.env.scope.kind=.function
 glob:X.env.globals=mainGlobals
 blt:X.env.builtins=builtinsNs
 above:X.s₀.heap.objs.size<=X.env.locals
 inj:∀x y c,X.env.cells.lookup x=Nz c->X.env.cells.lookup y=Nz c->x=y
 has:∀x,(X.env.kindOf x=Nz .cell\/X.env.kindOf x=Nz .free)->∃c,X.env.cells.lookup x=Nz c
 cab:∀x c,X.fn x=NA->X.env.cells.lookup x=Nz c->X.s₀.heap.objs.size<=c
 hd:X.calm=NA->X.A.handled=none
 frames:X.A.frames=Nz X.stack
 stk:X.stack=X.outer\/(X.stack=X.env::X.outer/\X.env.frame=Nz X.env.locals)
 exf:∀b∈X.ex,b≠X.env.locals/\∀x c,X.env.cells.lookup x=Nz c->c≠b
 bs:∀b o,X.base.get? b=Nz o->X.s₀.heap.get? b=Nz o/\X.H₀ b=none
 bsz:X.base.objs.size<=X.s₀.heap.objs.size
 noex:∀b o,X.base.get? b=Nz o->b∉X.ex
 exfs:∀b∈X.ex,b∉X.fs
 funs:X.s₀.heap.FunFrames X.base X.outer
 frf:∀b∈X.fs,X.H₀ b=none
structure Inv (X:Cx)(pq:Lp)(σ:List (Option V))(H:Hp)(s:NC):Prop where
 ok:X.Ok
 os:s.os=X.s₀.os
 bare:QJ s.gens
 base:Un X.fs X.ex X.H₀ H X.s₀.heap s.heap
 loc:∃m,s.heap.Ns X.env.locals m/\∀(i:Nat) (x:Str) (v:V),X.N[i]?=Nz x->σ[i]?=Nz (Nz v)->v_ X.env.scope x->∃u,RelV v u/\Look X.env s.heap m x u
 cell:∀x c,X.env.cells.lookup x=Nz c->∃v,s.heap.IsCell c v
 free:H X.env.locals=none
 freeC:∀x c,X.env.cells.lookup x=Nz c->H c=none
 pin:∀p∈X.pn++pq,s.heap.get? p.1=Nz p.2/\H p.1=none/\p.1≠X.env.locals/\p.1∉X.fs/\∀v,p.2.data≠.cell v
 hok:eI X.prog X.w H s.heap
 len:σ.length=X.N.length
section
variable {X:Cx}{σ:List (Option V)}{H H':Hp}
theorem Cx.Ok.nofr(ok:X.Ok){b:ND}(e:X.base.get? b=Nz o):b∉X.fs:=λh=>by have:=(ok.funs.mem h).1;simp_all
theorem Inv.bs(I:Inv X pq σ H s):∀b o,X.base.get? b=Nz o->s.heap.get? b=Nz o/\H b=none:=λb o e=>
 ⟨I.base.keep b o (I.ok.bs b o e).1 (I.ok.bs b o e).2 (I.ok.nofr e) (I.ok.noex b o e),I.base.free b o (I.ok.bs b o e).1 (I.ok.bs b o e).2 (I.ok.noex b o e)⟩
theorem Inv.bk(I:Inv X pq σ H s):∀b o,X.base.get? b=Nz o->s.heap.get? b=Nz o:=λb o e=>(I.bs b o e).1
theorem Inv.mod(I:Inv X pq σ H s):Mod X.K X.mg X.base:=I.ok.mod
theorem Inv.kIn(I:Inv X pq σ H s):X.K.In s.heap:=I.ok.mod.kin.keeps I.bk
theorem Inv.lt(I:Inv X pq σ H s):X.env.locals<s.heap.objs.size:=(by obtain⟨_,h,_⟩:=I.loc;exact(h.lt))
theorem Inv.sz(I:Inv X pq σ H s):X.s₀.heap.objs.size<=s.heap.objs.size:=Zw I.ok.above (OU I.lt)
theorem Inv.nofs(I:Inv X pq σ H s)(h:s.heap.objs.size<=a):a∉X.fs:=λb=>by obtain⟨_,o,c,_⟩:=I.ok.funs.mem b;exact absurd (ZR (Zo c) (Zw I.sz h)) (Yl _)
theorem Inv.cne(I:Inv X pq σ H s):∀x c,X.env.cells.lookup x=Nz c->c≠X.env.locals:=λx c e z=>by obtain⟨v,o,f,d⟩:=I.cell x c e;obtain⟨m,⟨O,b,E,a,h,_⟩,_⟩:=I.loc;simp_all
theorem Inv.funs(I:Inv X pq σ H s):s.heap.FunFrames X.base X.outer:=by
 have all:∀(l:List _),(∀b∈dH l,b∈X.fs)->X.s₀.heap.FunFrames X.base l->s.heap.FunFrames X.base l:=by
  intro l
  induction l with
  |nil=>intro _ _;trivial
  |cons E r n=>intro d i;obtain⟨g,⟨L,o,c,j,k,f⟩,m⟩:=i;have h:=d L (by unfold dH;simp_all);obtain⟨sl,e⟩:=I.base.slot L o k (I.ok.frf L h) h λz=>I.ok.exfs L z h;exact⟨g,⟨L,_,c,j,e,f⟩,n (λb a=>d b (by unfold dH;simp only[SS,c];exact Zb _ a)) m⟩
 exact all _ (λ_ a=>a) I.ok.funs
theorem Inv.stack(I:Inv X pq σ H s):s.heap.FunFrames X.base X.stack:=by
 rcases I.ok.stk with e| ⟨e,h⟩
 ·rw[e];exact I.funs
 ·rw[e];obtain⟨m,a,_⟩:=I.loc;exact .cons (by rw[I.ok.kind];decide) h a (Heap.get?_none_of_le (Zw I.ok.bsz I.ok.above)) I.funs
theorem Inv.stkSub(I:Inv X pq σ H s):∀b∈dH X.stack,b∈X.env.locals::X.fs:=λb h=>by
 rcases I.ok.stk with e| ⟨e,a⟩
 ·simp_all
 ·rw[e]at h;unfold dH at h;rw[SS,a]at h;exact h
theorem Inv.stkFree(I:Inv X pq σ H s):∀b∈dH X.stack,H b=none:=λb h=>by
 rcases Zi.mp (I.stkSub b h)with e|h
 ·rw[e];exact I.free
 ·obtain⟨_,o,a,_⟩:=I.ok.funs.mem h;exact I.base.free b o a (I.ok.frf b h) λz=>I.ok.exfs b z h
theorem Inv.step{g':Array GenState}{t':Nat}{d':Drawn}(I:Inv X pq σ H s)
  (a:∀b∈ch,(b∈X.ex\/X.s₀.heap.objs.size<=b)/\b≠X.env.locals/\(∀x c,X.env.cells.lookup x=Nz c->c≠b)/\∀p∈X.pn++pq,p.1≠b)
  (K:∀b o,b≠X.env.locals->b∉X.fs->b∉ch->s.heap.get? b=Nz o->H b=none->h'.get? b=Nz o)
  (S:∀b o,b≠X.env.locals->b∈X.fs->b∉ch->s.heap.get? b=Nz o->H b=none->∃sl,h'.get? b=Nz {o with slots:=sl}) (f:∀b o,b∉ch->s.heap.get? b=Nz o->H b=none->H' b=none)
  (t:∀b o,b∉ch->s.heap.get? b=Nz o->∃o',h'.get? b=Nz o')
  (B:∀b xs,H b=Nz (.tup xs)->H' b=Nz (.tup xs)) (F:∀b o u,H b=Nz (.frz o u)->H' b=Nz (.frz o u)) (T:∀b ps,H b=Nz (.tbl ps)->∃more,H' b=Nz (.tbl (ps++more)))
  (ns:∀m,s.heap.Ns X.env.locals m->h'.Ns X.env.locals m) (G:eI X.prog X.w H' h') (U:QJ g'):
  Inv X pq σ H' {s with heap:=h',gens:=g',drawn:=d',toks:=t'}:=by
 have A:∀b o,X.s₀.heap.get? b=Nz o->b≠X.env.locals:=λb o e=>ZC (ZR (Zo e) I.ok.above)
 have g:∀b o,X.s₀.heap.get? b=Nz o->b∉X.ex->b∉ch:=λb o e h j=>by
  rcases(a b j).1 with z|z
  ·exact h z
  ·exact absurd (ZR (Zo e) z) (Yl _)
 have C:∀x c,X.env.cells.lookup x=Nz c->∀v,s.heap.IsCell c v->h'.IsCell c v:=λx c e v ⟨o,w,D⟩=>by
  have N:c∉ch:=λz=>(a c z).2.2.1 x c e rfl;by_cases L:c∈X.fs
  ·obtain⟨sl,q⟩:=S c o (I.cne x c e) L N w (I.freeC x c e);exact⟨_,q,D⟩
  ·exact⟨o,K c o (I.cne x c e) L N w (I.freeC x c e),D⟩
 refine⟨I.ok,I.os,U,⟨λb o e n j h=>?_,λb o e n j h=>?_,λb o e n h=>?_,λb o e h=>?_,λb xs e=>B b xs (I.base.tups b xs e),λb o xs e=>F b o xs (I.base.frzs b o xs e),λb ps e=>?_⟩,?_,λx c e=>?_,?_,λx c e=>?_,λp O=>?_,G,I.len⟩
 ·exact K b o (A b o e) j (g b o e h) (I.base.keep b o e n j h) (I.base.free b o e n h)
 ·obtain⟨sl,E⟩:=I.base.slot b o e n j h;obtain⟨J,y⟩:=S b _ (A b o e) j (g b o e h) E (I.base.free b o e n h);exact⟨J,y⟩
 ·obtain⟨o',E⟩:=I.base.there b o e h;exact f b o' (g b o e h) E (I.base.free b o e n h)
 ·obtain⟨o',E⟩:=I.base.there b o e h;exact t b o' (g b o e h) E
 ·obtain⟨Y,E⟩:=I.base.tbls b ps e;obtain⟨Z,y⟩:=T b _ E;exact⟨Y++Z,by rw[y,Array.append_assoc]⟩
 ·obtain⟨m,W,V⟩:=I.loc;refine⟨m,ns m W,λi x v E y R=>?_⟩;obtain⟨u,r,l⟩:=V i x v E y R;refine⟨u,r,?_⟩;rcases l with l| ⟨k,c,e,z⟩
  ·exact .inl l
  ·exact .inr ⟨k,c,e,C x c e _ z⟩
 ·obtain⟨v,z⟩:=I.cell x c e;exact⟨v,C x c e v z⟩
 ·obtain⟨m,⟨o,_,_,w,_⟩,_⟩:=I.loc;exact f _ o (λz=>(a _ z).2.1 rfl) w I.free
 ·obtain⟨v,o,w,D⟩:=I.cell x c e;exact f c o (λz=>(a c z).2.2.1 x c e rfl) w (I.freeC x c e)
 ·obtain⟨e,n,ne,P,d⟩:=I.pin p O;have N:p.1∉ch:=λz=>(a p.1 z).2.2.2 p O rfl;exact⟨K p.1 p.2 ne P N e n,f p.1 p.2 N e n,ne,P,d⟩
theorem Inv.un{t':Nat}(I:Inv X pq σ H s)(u:Un X.fs [] H H' s.heap h')(c:eI X.prog X.w H' h'):Inv X pq σ H' {s with heap:=h',toks:=t'}:=by obtain⟨m,⟨o,l,k,f,r⟩,_⟩:=id I.loc;obtain⟨sl,i⟩:=u.any f I.free (by simp);exact I.step (ch:=[]) (λ_ z=>nomatch z) (λb o _ a _ e n=>u.keep b o e n a (by simp)) (λb o _ a _ e n=>u.slot b o e n a (by simp)) (λb o _ e n=>u.free b o e n (by simp)) (λb o _ e=>u.there b o e (by simp)) u.tups u.frzs u.tbls (λM j=>by obtain⟨O,g,E,h,R⟩:=j;rw[f]at h;cases h;exact⟨_,_,_,i,R⟩) c I.bare
theorem Inv.call{t':Nat}{d':Drawn}(I:Inv X pq σ H s)(u:Un (dH X.stack) ch H H' s.heap h')(g:eI X.prog X.w H' h')(q:QJ g')
  (a:∀b∈ch,(b∈X.ex\/X.s₀.heap.objs.size<=b)/\b≠X.env.locals/\(∀x c,X.env.cells.lookup x=Nz c->c≠b)/\∀p∈X.pn++pq,p.1≠b):
  Inv X pq σ H' {s with heap:=h',gens:=g',drawn:=d',toks:=t'}:=by
 obtain⟨m,⟨o,y,w,j,r⟩,_⟩:=id I.loc;obtain⟨sl,f⟩:=u.any j I.free λz=>(a _ z).2.1 rfl;exact I.step a (λb o f l h e n=>u.keep b o e n (λz=>(Zi.mp (I.stkSub b z)).elim f l) h) (λb o _ _ h e n=>u.any e n h) (λb o h e n=>u.free b o e n h) (λb o h e=>u.there b o e h) u.tups u.frzs u.tbls (λM v=>by obtain⟨O,k,E,d,R⟩:=v;rw[j]at d;cases d;exact⟨_,_,_,f,R⟩) g q
theorem Inv.turned{t':Nat}(I:Inv X pq σ H s)(k:∀b o,b≠it->s.heap.get? b=Nz o->h'.get? b=Nz o)(w:H it=none)(a:it≠X.env.locals)
  (h1:it∈X.ex\/X.s₀.heap.objs.size<=it) (g:∀x c,X.env.cells.lookup x=Nz c->c≠it) (i:∀p∈X.pn++pq,p.1≠it):Inv X pq σ H {s with heap:=h',toks:=t'}:=by
 have N:∀b u,H b=Nz u->b≠it:=λb u e z=>by rw[z,w]at e;cases e
 refine I.step (g':=s.gens) (d':=s.drawn) (ch:=[it]) (λb j=>?_) (λb o _ _ h e _=>k b o (λz=>h (by simp[z])) e) (λb o _ _ h e _=>⟨o.slots,k b o (λz=>h (by simp[z])) e⟩) (λ_ _ _ _ n=>n)
  (λb o h e=>⟨o,k b o (λz=>h (by simp[z])) e⟩) (λ_ _ e=>e) (λ_ _ _ e=>e) (λb P e=>⟨#[],by rw[e];simp⟩) (λm l=>?_) (λb u e=>?_) I.bare
 ·have e:b=it:=by simpa using j
  subst e;exact⟨h1,a,g,i⟩
 ·obtain⟨o,f,E,y,r⟩:=l;exact⟨o,f,E,k _ o (Ne.symm a) y,r⟩
 ·refine(I.hok b u e).stay (λc v h q=>k c v ?_ q) (λ_ q=>q) λ_ _ q=>q;rcases h with z|z
  ·rw[z];exact N b u e
  ·exact N c _ z
theorem Inv.tok(I:Inv X pq σ H s)(t:Nat):Inv X pq σ H {s with toks:=t}:=I.un Un.refl I.hok
theorem Inv.kept{t':Nat}(I:Inv X pq σ H s)(k:∀b u,s.heap.get? b=Nz u->h'.get? b=Nz u):Inv X pq σ H {s with heap:=h',toks:=t'}:=I.un (Un.kept k) (I.hok.kept k)
theorem Inv.laid{o:HO}{t':Nat}(I:Inv X pq σ H s)(k:∀b u,s.heap.get? b=Nz u->h'.get? b=Nz u)(h:s.heap.objs.size<=a)(new:bx X.prog X.w (bg H a o) h' a o):
  Inv X pq σ (bg H a o) {s with heap:=h',toks:=t'}:=I.un (Un.laid k h (I.hok.fresh h)) (I.hok.laid k h new)
theorem Inv.write{x e:ND}{o:HO}{t':Nat}(I:Inv X pq σ H s)(m:Es (H x))(a:e=x\/H e=Nz (.own x))(k:∀b u,b≠e->s.heap.get? b=Nz u->h'.get? b=Nz u)(h:∃u,h'.get? e=Nz u)
  (new:bx X.prog X.w (bg H x o) h' x o):Inv X pq σ (bg H x o) {s with heap:=h',toks:=t'}:=I.un (Un.write m a k h) (I.hok.write m a k h new)
theorem Inv.pins_of(I:Inv X pq σ H s)(h:∀p∈pins',s.heap.get? p.1=Nz p.2/\H p.1=none/\p.1≠X.env.locals/\p.1∉X.fs/\∀v,p.2.data≠.cell v):Inv X pins' σ H s:=
 ⟨I.ok,I.os,I.bare,I.base,I.loc,I.cell,I.free,I.freeC,λp a=>(Zp.mp a).elim (λz=>I.pin p (ZH _ z)) (h p),I.hok,I.len⟩
theorem wa(h:N.Nodup){i j:Nat}{x:Str}(a:N[i]?=Nz x)(b:N[j]?=Nz x):i=j:=by obtain⟨H,e⟩:=Zm.mp a;obtain⟨c,E⟩:=Zm.mp b;exact(TX h).mp (e.trans E.symm)
theorem wb{M:Model}{A:OH}{E:Vs}{i:Nat}{x:Str}{v:V}{Q:Unit->NC->Prop}(I:Inv X pq σ H s)(hN:X.N.Nodup)(hi:X.N[i]?=Nz x)(w:Loc X.env.scope x)(r:RelV v u)
  (h:∀s',Inv X pq (σ.set i (Nz v)) H s'->(∃a,NR a s.heap s'.heap/\(a=X.env.locals\/X.env.cells.lookup x=Nz a))->Q () s') (hf:X.fn x=NA\/X.env.scope.names.lookup x=Nz .local:=by first|exact .inl rfl|exact .inr rfl|assumption):wpAny M A (storeName X.env x u) Q E s:=by
 obtain⟨m,T,hl⟩:=id I.loc;have D:i<σ.length:=by rw[I.len];exact(Zm.mp hi).1
 have cne:=I.cne
 have t:∀{a:ND} {K:NO},(∃o,s.heap.get? a=Nz o/\H a=none)->NR a s.heap K->eI X.prog X.w H K:=λ{a K} ha f b ob e=>by
  obtain⟨_,_,B⟩:=ha;refine(I.hok b ob e).stay (λc W l q=>(f.2 c ?_).trans q) (λ_ q=>q) λ_ _ q=>q;rintro rfl;rcases l with rfl|l
  ·rw[B]at e;cases e
  ·rw[B]at l;cases l
 rcases w with L|L
 ·refine wpAny_storeName_local L T (λK U f=>?_) (by rw[I.ok.kind];rfl);obtain⟨oL,_,_,Y,_⟩:=id T;refine h _ ⟨I.ok,I.os,I.bare,⟨λb o e n F w=>?_,λb o e n F w=>?_,I.base.free,λb o e w=>?_,I.base.tups,I.base.frzs,I.base.tbls⟩,⟨_,U,λj y v' g C S=>?_⟩,λy c e=>?_,I.free,I.freeC,λp Z=>?_,t ⟨oL,Y,I.free⟩ f,by simpa using I.len⟩ ⟨_,f,.inl rfl⟩
  ·exact(f.2 b (ZC (ZR (Zo e) I.ok.above))).trans (I.base.keep b o e n F w)
  ·obtain⟨sl,g⟩:=I.base.slot b o e n F w;exact⟨sl,(f.2 b (ZC (ZR (Zo e) I.ok.above))).trans g⟩
  ·obtain⟨o',g⟩:=I.base.there b o e w;exact⟨o',(f.2 b (ZC (ZR (Zo e) I.ok.above))).trans g⟩
  ·by_cases J:j=i
   ·subst J;rw[hi]at g;cases g;rw[N5 D]at C;cases C;exact⟨u,r,.inl ⟨L,by simp⟩⟩
   ·rw[Oi (Ne.symm J)]at C;obtain⟨u',r',q⟩:=hl j y v' g C S;refine⟨u',r',?_⟩;rcases q with⟨k,e⟩| ⟨k,c,e,z⟩
    ·refine .inl ⟨k,?_⟩;have:y≠x:=λe=>J (wa hN g (e▸hi));simp[this,e]
    ·exact .inr ⟨k,c,e,z.sameBut f (cne y c e)⟩
  ·obtain⟨W,z⟩:=I.cell y c e;exact⟨W,z.sameBut f (cne y c e)⟩
  ·obtain⟨e,n,ne,nf,d⟩:=I.pin p Z;exact⟨(f.2 p.1 ne).trans e,n,ne,nf,d⟩
 ·have G:X.fn x=NA:=by grind
  obtain⟨c,l⟩:=I.ok.has x (.inl L);obtain⟨W,z⟩:=I.cell x c l;refine wpAny_storeName_cell I.ok.kind L l z (λK N f=>?_);obtain⟨oc,P,hocd⟩:=id z;refine h {s with heap:=K} ⟨I.ok,I.os,I.bare,⟨λb o e n F w=>?_,λb o e n F w=>?_,I.base.free,λb o e w=>?_,I.base.tups,I.base.frzs,I.base.tbls⟩,⟨m,T.sameBut f (Ne.symm (cne x c l)),λj y v' g C S=>?_⟩,λy R e=>?_,I.free,I.freeC,λp Z=>?_,t ⟨oc,P,I.freeC x c l⟩ f,by simpa using I.len⟩ ⟨c,f,.inr l⟩
  ·exact(f.2 b (ZC (ZR (Zo e) (I.ok.cab x c G l)))).trans (I.base.keep b o e n F w)
  ·obtain⟨sl,g⟩:=I.base.slot b o e n F w;exact⟨sl,(f.2 b (ZC (ZR (Zo e) (I.ok.cab x c G l)))).trans g⟩
  ·obtain⟨o',g⟩:=I.base.there b o e w;exact⟨o',(f.2 b (ZC (ZR (Zo e) (I.ok.cab x c G l)))).trans g⟩
  ·by_cases J:j=i
   ·subst J;rw[hi]at g;cases g;rw[N5 D]at C;cases C;exact⟨u,r,.inr ⟨.inl L,c,l,N⟩⟩
   ·rw[Oi (Ne.symm J)]at C;obtain⟨u',r',q⟩:=hl j y v' g C S;refine⟨u',r',?_⟩;rcases q with q| ⟨k,R,e,z'⟩
    ·exact .inl q
    ·refine .inr ⟨k,R,e,z'.sameBut f ?_⟩;rintro rfl;exact J (wa hN g (I.ok.inj _ _ _ e l▸hi))
  ·by_cases O:R=c
   ·subst O;exact⟨_,N⟩
   ·obtain⟨w2,z2⟩:=I.cell y R e;exact⟨w2,z2.sameBut f O⟩
  ·obtain⟨e,n,ne,nf,d⟩:=I.pin p Z;refine⟨(f.2 p.1 ?_).trans e,n,ne,nf,d⟩;intro q;rw[q,P]at e;exact d W (by grind)
theorem wc{M:Model}{A:OH}{E:Vs}{i:Nat}{x:Str}{v:V}{Q:Unit->NC->Prop}(I:Inv X pq σ H s)(b:X.N.Nodup)(hi:X.N[i]?=Nz x)(d:Loc X.env.scope x)(r:RelV v u)
  (h:∀s',Inv X pq (σ.set i (Nz v)) H s'->Q () s') (c:X.fn x=NA\/X.env.scope.names.lookup x=Nz .local:=by first|exact .inl rfl|exact .inr rfl|assumption):wpAny M A (storeName X.env x u) Q E s:=
 wb I b hi d r (λs' a _=>h _ a) c
theorem Inv.call'(I:Inv X pq σ H s)(e:s'.os=s.os)(u:Un (dH X.stack) ch H H' s.heap s'.heap)(a:eI X.prog X.w H' s'.heap)(d:QJ s'.gens)
  (h:∀b∈ch,(b∈X.ex\/X.s₀.heap.objs.size<=b)/\b≠X.env.locals/\(∀x c,X.env.cells.lookup x=Nz c->c≠b)/\∀p∈X.pn++pq,p.1≠b):Inv X pq σ H' s':=by
 obtain⟨f,g,D,t,o⟩:=s';subst(e);exact I.call u a d h
end
abbrev XK:=NF->Option ND->Hp->Prop
abbrev St:=List (Option V)
abbrev VK:=V->Hp->Prop
abbrev TE:=St->Hp->VK->Prop
abbrev TT:=St->Hp->(Bool->Hp->Prop)->Prop
abbrev TA:=St->Hp->(List V->Hp->Prop)->Prop
set_option genInjectivity false in
structure Ends where
 nx:St->Hp->Prop
 rt:VK
 bk:St->Hp->Prop:=λ_ _=>False
 ct:St->Hp->Prop:=λ_ _=>False
abbrev TS:=Ends->St->Hp->Prop
def EP(X:Cx)(p:Lp)(σ:St)(Q:VK)(u:NF)(s:NC):Prop:=∃v H',Inv X p σ H' s/\RelV v u/\Q v H'
def TP(X:Cx)(p:Lp)(σ:St)(Q:Bool->Hp->Prop)(b:Bool)(s:NC):Prop:=∃H',Inv X p σ H' s/\Q b H'
def AP(X:Cx)(p:Lp)(σ:St)(Q:List V->Hp->Prop)(us:Lv)(s:NC):Prop:=∃vs H',Inv X p σ H' s/\Vals vs us/\Q vs H'
def SP(X:Cx)(p:Lp)(D:Ends)(f:Flow)(s:NC):Prop:=
 match f with
 | .next=>∃σ' H',Inv X p σ' H' s/\D.nx σ' H'
 | .brk=>∃σ' H',Inv X p σ' H' s/\D.bk σ' H'
 | .cont=>∃σ' H',Inv X p σ' H' s/\D.ct σ' H'
 | .ret u=>∃v σ' H',Inv X p σ' H' s/\RelV v u/\D.rt v H'
def PE(X:Cx)(e:Expr)(t:TE):Prop:=
 ∀(pq:Lp) (s:NC) (σ:St) (H:Hp) (Q:VK),Inv X pq σ H s->t σ H Q->wpAny (model X.prog X.w) X.A (eval e X.env) (EP X pq σ Q) X.xe s
def PT(X:Cx)(e:Expr)(t:TT):Prop:=
 ∀(pq:Lp) (s:NC) (σ:St) (H:Hp) (Q:Bool->Hp->Prop),Inv X pq σ H s->t σ H Q->wpAny (model X.prog X.w) X.A (isTrue e X.env (eval e X.env)) (TP X pq σ Q) X.xe s
def PW(X:Cx)(e:Expr)(t:TT):Prop:=
 ∀(whole:Sem NF) (pq:Lp) (s:NC) (σ:St) (H:Hp) (Q:Bool->Hp->Prop),Inv X pq σ H s->t σ H Q->wpAny (model X.prog X.w) X.A (isTrue e X.env whole) (TP X pq σ Q) X.xe s
theorem PW.pt{X:Cx}{t:TT}(h:PW X e t):PT X e t:=h _
def PA(X:Cx)(es:Lx)(t:TA):Prop:=
 ∀(pos:Pos) (pq:Lp) (s:NC) (σ:St) (H:Hp) (Q:List V->Hp->Prop),Inv X pq σ H s->t σ H Q->wpAny (model X.prog X.w) X.A (spliced (backTo pos (starEach es X.env))) (AP X pq σ Q) X.xe s
def PS(X:Cx)(st:O1)(t:TS):Prop:=
 ∀(pq:Lp) (s:NC) (σ:St) (H:Hp) (D:Ends),Inv X pq σ H s->t D σ H->wpAny (model X.prog X.w) X.A (exec st X.env) (SP X pq D) X.xe s
def fW(X:Cx)(st:List O1)(t:TS):Prop:=
 ∀(pq:Lp) (s:NC) (σ:St) (H:Hp) (D:Ends),Inv X pq σ H s->t D σ H->wpAny (model X.prog X.w) X.A (execs st X.env) (SP X pq D) X.xe s
theorem a'{t:Sem α}{Q b:α->NC->Prop}(h:wpAny M A t Q E s)(H:∀a s,Q a s->b a s):wpAny M A t b E s:=Oz h H λ_ _ x=>x
section
variable {X:Cx}
noncomputable def ET(i:Nat):TE:=λσ H Q=>∃v,σ[i]?=Nz (Nz v)/\Q v H
noncomputable def tC(v:V):TE:=λ_ H Q=>Q v H
theorem qV{i:Nat}{x:Str}{pos:Pos}(j:X.N[i]?=Nz x)(p:v_ X.env.scope x)(f:(x==("__debug__":Str))=NB:=by decide)(d:(x==("__classdict__":Str))=NB:=by decide):PE X (.Name x pos) (ET i):=by
 intro P s q H Q I h;obtain⟨v,e,h⟩:=h;obtain⟨m,o,k⟩:=I.loc;obtain⟨u,r,l⟩:=k i x v j e p;have fin:EP X _ _ Q u s:=⟨v,H,I,r,h⟩;rcases l with⟨b,n⟩| ⟨b,c,g,a⟩
 ·exact wpAny_Name (wpAny_loadName_local I.ok.kind b o n fin) f
 ·rcases b with b|b
  ·exact wpAny_Name (wpAny_loadName_cell I.ok.kind b g a fin) f
  ·exact wpAny_Name (wpAny_loadName_free I.ok.kind b g a fin d) f
theorem qW{i j pos}:PE X (.Constant (.int i) j pos) (tC (.int i)):=λ_ _ _ H _ I h=>wpAny_Constant_int ⟨.int i,H,I.tok _,⟨_,rfl⟩,h⟩
theorem wd{b j pos}:PE X (.Constant (.bool b) j pos) (tC (.bl b)):=λ_ _ _ H _ I h=>Constant_bool ⟨.bl b,H,I,rfl,h⟩
theorem qX{j pos}:PE X (.Constant .none j pos) (tC .non):=λ_ _ _ H _ I h=>Constant_none ⟨.non,H,I,rfl,h⟩
theorem qY{x j pos}:PE X (.Constant (.str x) j pos) (tC (.str x)):=λ_ _ _ H _ I h=>Calls.Constant_str ⟨.str x,H,I.tok _,⟨_,rfl⟩,h⟩
def Gl(X:Cx)(x:Str):Prop:=X.env.kindOf x=Nz .globalImplicit
theorem we{E:Vs}{σ:St}{H:Hp}{x:Str}{pos:Pos}(I:Inv X pq σ H s)(b:Gl X x)(c:X.mg x=Nz u)(h:Q u s)
  (a:(x==("__debug__":Str))=NB:=by decide):wpAny (model X.prog X.w) X.A (eval (.Name x pos) X.env) Q E s:=
 RR I.ok.kind b (Calls.loadGlobal_global (by rw[I.ok.glob];exact I.mod.glob.keeps I.bk) c h) a
theorem eh{E:Vs}{σ:St}{H:Hp}{x:Str}{pos:Pos}(I:Inv X pq σ H s)(d:Gl X x)(e:X.mg x=none)(g:bootBuiltins x=Nz u)(h:Q u s)
  (f:x≠"__name__":=by decide) (c:(x==("__debug__":Str))=NB:=by decide):wpAny (model X.prog X.w) X.A (eval (.Name x pos) X.env) Q E s:=by
 obtain⟨m,a,b⟩:=I.mod.blt;exact RR I.ok.kind d (Calls.loadGlobal_builtin (by rw[I.ok.glob];exact I.mod.glob.keeps I.bk) e (by rw[I.ok.blt];exact a.keeps I.bk) ((b x f).trans g) h) c
theorem lw{x:Str}{v:V}{pos:Pos}(b:Gl X x)(c:X.mg x=Nz u)(r:RelV v u)(a:(x==("__debug__":Str))=NB:=by decide):PE X (.Name x pos) (tC v):=
 λ_ _ _ H _ I h=>we I b c ⟨v,H,I,r,h⟩ a
theorem lx{x:Str}{v:V}{pos:Pos}(b:Gl X x)(c:X.mg x=none)(e:bootBuiltins x=Nz u)(r:RelV v u)(d:x≠"__name__":=by decide)(a:(x==("__debug__":Str))=NB:=by decide):PE X (.Name x pos) (tC v):=
 λ_ _ _ H _ I h=>eh I b c e ⟨v,H,I,r,h⟩ d a
variable {a b:Expr}{ta tb:TE}{pos:Pos}
variable {tA tB':TT}
noncomputable def EU(t u:TT):TT:=λσ H Q=>t σ H λc H1=>if c=NA then u σ H1 Q else Q NB H1
noncomputable def Nf(t u:TT):TT:=λσ H Q=>t σ H λc H1=>if c=NA then Q NA H1 else u σ H1 Q
noncomputable def EV(t:TT):TT:=λσ H Q=>t σ H λc H1=>Q (!c) H1
theorem ly(b:PT X a tA):PW X (.BoolOp .And [a] pos) tA:=by
 intro w p s d H Q I h;refine isTrue_and (a' (b _ s _ H Q I h) λc S e=>?_);cases c with
 |true=>exact isTrue_and_nil e
 |false=>exact e
theorem qZ(b:PT X a tA):PW X (.BoolOp .Or [a] pos) tA:=by
 intro w p s d H Q I h;refine isTrue_or (a' (b _ s _ H Q I h) λc S e=>?_);cases c with
 |false=>exact isTrue_or_nil e
 |true=>exact e
theorem q0(e:PT X a tA)(f:PW X (.BoolOp .And (b::rest) pos) tB'):PW X (.BoolOp .And (a::b::rest) pos) (EU tA tB'):=by
 intro w p s g H Q I h;refine isTrue_and (a' (e _ s _ H _ I h) λc S z=>?_);obtain⟨_,d,q⟩:=z;cases c with
 |true=>exact f _ _ _ _ _ Q d q
 |false=>exact⟨_,d,q⟩
theorem wf(e:PT X a tA)(f:PW X (.BoolOp .Or (b::rest) pos) tB'):PW X (.BoolOp .Or (a::b::rest) pos) (Nf tA tB'):=by
 intro w p s g H Q I h;refine isTrue_or (a' (e _ s _ H _ I h) λc S z=>?_);obtain⟨_,d,q⟩:=z;cases c with
 |true=>exact⟨_,d,q⟩
 |false=>exact f _ _ _ _ _ Q d q
theorem q7(b:PT X a tA):PT X (.UnaryOp .Not a pos) (EV tA):=by intro p s c H Q I h;exact isTrue_not (b _ s _ H _ I h)
noncomputable def wg(t tb:TE):TE:=λσ H Q=>t σ H λx H1=>∃c,x=.bl c/\if c=NA then tb σ H1 Q else Q (.bl NB) H1
noncomputable def EW(t tb:TE):TE:=λσ H Q=>t σ H λx H1=>∃c,x=.bl c/\if c=NA then Q (.bl NA) H1 else tb σ H1 Q
theorem jm{op}{t:TE}(h:PE X a t):PE X (.BoolOp op [a] pos) t:=λp s b H Q I hw=>BoolOp_one (h _ s _ H Q I hw)
theorem q8(e:PE X a ta)(f:PE X (.BoolOp .And (b::rest) pos) tb):PE X (.BoolOp .And (a::b::rest) pos) (wg ta tb):=by
 intro p s g H Q I h;refine BoolOp_and (a' (e _ s _ H _ I h) λv S z=>?_);obtain⟨x,_,d,r,q⟩:=z;obtain⟨c,rfl,q⟩:=q;subst r;refine Yn ?_;cases c with
 |true=>exact f _ _ _ _ Q d q
 |false=>exact⟨.bl _,_,d,rfl,q⟩
theorem wh(e:PE X a ta)(f:PE X (.BoolOp .Or (b::rest) pos) tb):PE X (.BoolOp .Or (a::b::rest) pos) (EW ta tb):=by
 intro p s g H Q I h;refine BoolOp_or (a' (e _ s _ H _ I h) λv S z=>?_);obtain⟨x,_,d,r,q⟩:=z;obtain⟨c,rfl,q⟩:=q;subst r;refine Yn ?_;cases c with
 |false=>exact f _ _ _ _ Q d q
 |true=>exact⟨.bl _,_,d,rfl,q⟩
noncomputable def Ng(t:TT)(T tb:TE):TE:=λσ H Q=>t σ H λc H1=>if c=NA then T σ H1 Q else tb σ H1 Q
theorem EX{c:Expr}(i:PT X c tA)(f:PE X a ta)(g:PE X b tb):PE X (.IfExp c a b pos) (Ng tA ta tb):=by
 intro p s j H Q I h;refine wpAny_IfExp (a' (i _ s _ H _ I h) λd S z=>?_);obtain⟨_,e,q⟩:=z;cases d with
 |true=>exact f _ _ _ _ Q e q
 |false=>exact g _ _ _ _ Q e q
end
def c8(K:Fg)(H:Hp)(a:ND)(xs:List V):Prop:=
 Rd H a (.lst xs)\/
  ∃(o:Obj) (its:Av) (n:Nat),K.lookup a=Nz o/\o.cls=.type "list"/\o.dict=none/\o.data=.seq its n/\its.size<=sizeLine/\Vals xs its.toList
def ca(K:Fg)(H:Hp)(a:ND)(xs:List V):Prop:=
 Rd H a (.tup xs)\/
  ∃(o:Obj) (its:Av) (n:Nat),K.lookup a=Nz o/\o.cls=.type "tuple"/\o.dict=none/\o.data=.seq its n/\its.size<=sizeLine/\Vals xs its.toList
noncomputable def EY:NF->Option V
 | .none=>Nz .non
 | .bool b=>Nz (.bl b)
 | .int i _=>Nz (.int i)
 | .str x _=>Nz (.str x)
 | .bytes b _=>Nz (.byt b)
 | .float b _=>Nz (.flt b)
 | .ref a=>Nz (.ref a)
 | .type n=>Nz (.ty n)
 |_=>none
theorem RelV.abs{x:V}(r:RelV x u):EY u=Nz x:=by
 cases x with
 |non=>cases r;rfl
 |bl _=>cases r;rfl
 |int _=>obtain⟨t,rfl⟩:=r;rfl
 |str _=>obtain⟨t,rfl⟩:=r;rfl
 |byt _=>obtain⟨t,rfl⟩:=r;rfl
 |flt _=>obtain⟨t,rfl⟩:=r;rfl
 |ref _=>cases r;rfl
 |ty _=>cases r;rfl
theorem RelV.inj{x y:V}(r:RelV x u)(q:RelV y u):x=y:=Yk (r.abs.symm.trans q.abs)
theorem Vals.inj:∀{xs ys:List V} {us:Lv},Vals xs us->Vals ys us->xs=ys
 |_,_,_,.nil,.nil=>rfl
 |_,_,_,.cons r t,.cons R T=>by rw[r.inj R,Vals.inj t T]
section
variable {X:Cx}{σ:St}{H:Hp}{xs ys:List V}
theorem c8.of(h:H a=Nz (.lst xs)):c8 K H a xs:=.inl (.inl h)
theorem ca.of(h:H a=Nz (.tup xs)):ca K H a xs:=.inl (.inl h)
theorem Inv.list(I:Inv X pq σ H s)(h:c8 X.K H a xs):∃its:Lv,Vals xs its/\PlainL s.heap a its.toArray/\xs.length<=sizeLine:=by
 rcases h with h| ⟨o,its,n,c,b,hd,d,f,r⟩
 ·obtain⟨z,its,n,r,e⟩:=h.ok I.hok;exact⟨_,r,⟨_,n,e,rfl,rfl,rfl⟩,z⟩
 ·refine⟨_,r,⟨o,n,I.kIn a o c,b,hd,by simp_all⟩,?_⟩;have e:=r.length;simp_all
theorem Inv.tuple(I:Inv X pq σ H s)(h:ca X.K H a xs):∃its:Lv,Vals xs its/\Ss s.heap a its.toArray/\xs.length<=sizeLine:=by
 rcases h with h| ⟨o,its,n,c,b,_,d,f,r⟩
 ·obtain⟨z,its,r,p,_⟩:=h.ok I.hok;exact⟨_,r,p,z⟩
 ·refine⟨_,r,⟨o,I.kIn a o c,b,n,by simp_all⟩,?_⟩;have e:=r.length;simp_all
theorem Inv.list_inj(I:Inv X pq σ H s)(h:c8 X.K H a xs)(h':c8 X.K H a ys):xs=ys:=by
 obtain⟨b,r,⟨o,n,e,_,_,d⟩,_⟩:=I.list h;obtain⟨i,R,⟨O,N,E,_,_,D⟩,_⟩:=I.list h';have:b=i:=by simp_all
 subst this;exact r.inj R
theorem Inv.tuple_inj(I:Inv X pq σ H s)(h:ca X.K H a xs)(h':ca X.K H a ys):xs=ys:=by
 obtain⟨b,r,⟨o,e,_,n,d⟩,_⟩:=I.tuple h;obtain⟨i,R,⟨O,E,_,N,D⟩,_⟩:=I.tuple h';have:b=i:=by simp_all
 subst this;exact r.inj R
end
section
variable {X:Cx}{σ:St}{H:Hp}
end
section
variable {X:Cx}{st:O1}{rest:List O1}{t u:TS}{te:TE}{pos:Pos}
noncomputable def qf:TS:=λD σ H=>D.nx σ H
noncomputable def EZ(t u:TS):TS:=λD σ H=>t {D with nx:=u D} σ H
theorem lz:fW X [] qf:=λ_ _ a H _ I h=>Sd ⟨_,H,I,h⟩
theorem E1(h1:PS X st t)(b:fW X rest u):fW X (st::rest) (EZ t u):=by
 intro p s e H D I h;refine wpAny_execs_cons (a' (h1 _ s _ H _ I h) λf S q=>?_);cases f with
 |next=>obtain⟨c,d,a,q⟩:=q;exact b _ _ _ _ D a q
 |ret v=>exact q
 |brk=>exact q
 |cont=>exact q
noncomputable def q9:TS:=λD σ H=>D.bk σ H
noncomputable def wj:TS:=λD σ H=>D.ct σ H
theorem lD:PS X (.Pass pos) qf:=λ_ _ a H _ I h=>wpAny_Pass ⟨_,H,I,h⟩
theorem E2:PS X (.Break pos) q9:=λ_ _ a H _ I h=>wpAny_Break ⟨_,H,I,h⟩
theorem E3:PS X (.Continue pos) wj:=λ_ _ a H _ I h=>wpAny_Continue ⟨_,H,I,h⟩
theorem Inv.quiet{σ:St}{H:Hp}(I:Inv X pq σ H s):interactive X.env=NB:=by simp[interactive,I.ok.kind]
noncomputable def wk(t:TE):TS:=λD σ H=>t σ H λ_ H1=>D.nx σ H1
theorem lE(b:PE X e te)(hs:swapsWith e none pos.line X.env=pure NB:=by rfl):PS X (.Expr e pos) (wk te):=by intro p s c H D I h;exact wpAny_Expr_any (a' (b _ s _ H _ I h) λv S z=>by obtain⟨x,_,a,_,q⟩:=z;exact(⟨_,_,a,q⟩)) I.quiet hs
noncomputable def E4(t:TE):TS:=λD σ H=>t σ H D.rt
theorem q_(b:PE X e te):PS X (.Return (Nz e) pos) (E4 te):=by intro p s c H D I h;exact wpAny_Return_some (a' (b _ s _ H _ I h) λv S z=>by obtain⟨x,_,a,r,q⟩:=z;exact(⟨x,_,_,a,r,q⟩))
noncomputable def wl:TS:=λD _ H=>D.rt .non H
theorem lF:PS X (.Return none pos) wl:=λ_ _ a H _ I h=>wpAny_Return_none ⟨.non,_,H,I,rfl,h⟩
noncomputable def E5(c:TT)(t u:TS):TS:=λD σ H=>c σ H λb H1=>if b=NA then t D σ H1 else u D σ H1
theorem wm{c:Expr}{a b:List O1}{T:TT}(i:PT X c T)(f:fW X a t)(g:fW X b u):PS X (.If c a b pos) (E5 T t u):=by
 intro p s j H D I h;refine wpAny_If (a' (i _ s _ H _ I h) λd S z=>?_);obtain⟨_,e,q⟩:=z;cases d with
 |true=>exact f _ _ _ _ D e q
 |false=>exact g _ _ _ _ D e q
end
abbrev TG:=V->St->Hp->(St->Hp->Prop)->Prop
abbrev qg:=List V->St->Hp->(St->Hp->Prop)->Prop
def PG(X:Cx)(target:Expr)(t:TG):Prop:=
 ∀(pq:Lp) (s:NC) (σ:St) (H:Hp) (v:V) (u:NF) (Q:St->Hp->Prop),Inv X pq σ H s->RelV v u->t v σ H Q->
  wpAny (model X.prog X.w) X.A (assign target X.env u) (λ_ s'=>∃σ' H',Inv X pq σ' H' s'/\Q σ' H') X.xe s
def wn(X:Cx)(ts:Lx)(t:qg):Prop:=
 ∀(pq:Lp) (s:NC) (σ:St) (H:Hp) (vs:List V) (us:Lv) (Q:St->Hp->Prop),Inv X pq σ H s->Vals vs us->t vs σ H Q->
  wpAny (model X.prog X.w) X.A (assignInOrder ((assignEach ts X.env).map (·.2)) us) (λ_ s'=>∃σ' H',Inv X pq σ' H' s'/\Q σ' H') X.xe s
abbrev lG:=V->V->V->Hp->(Hp->Prop)->Prop
def rc(X:Cx)(t:lG):Prop:=
 ∀(pq:Lp) (s:NC) (σ:St) (H:Hp) (o i v:V) (O I u:NF) (Q:Hp->Prop),Inv X pq σ H s->RelV o O->RelV i I->RelV v u->t o i v H Q->
  wpAny (model X.prog X.w) X.A (setItem O I u) (λ_ s'=>∃H',Inv X pq σ H' s'/\Q H') X.xe s
section
variable {X:Cx}{pos:Pos}
noncomputable def eR(i:Nat):TG:=λv σ H Q=>Q (σ.set i (Nz v)) H
theorem lH{i:Nat}{x:Str}(b:X.N.Nodup)(hi:X.N[i]?=Nz x)(d:Loc X.env.scope x)(c:X.fn x=NA\/X.env.scope.names.lookup x=Nz .local:=by first|exact .inl rfl|exact .inr rfl|assumption):PG X (.Name x pos) (eR i):=by intro p s e H v u Q I r h;exact wpAny_assign_Name (wc I b hi d r (λS a=>⟨_,H,a,h⟩) c)
noncomputable def wo:qg:=λvs σ H Q=>vs=[]/\Q σ H
noncomputable def qh(t:TG)(u:qg):qg:=λvs σ H Q=>∃v r,vs=v::r/\t v σ H λσ' H'=>u r σ' H' Q
theorem lI:wn X [] wo:=by intro p s a H vs u Q I r h;obtain⟨e,h⟩:=h;exact assignInOrder_nil ⟨_,H,I,h⟩
theorem E6{es:Lx}{t:TG}{u:qg}(h1:PG X e t)(b:wn X es u)
  (hs:(assignEach (e::es) X.env).map (·.2)=assign e X.env::(assignEach es X.env).map (·.2):=by rfl):wn X (e::es) (qh t u):=by
 intro p s c H vs U Q I r h;obtain⟨v,V,E,h⟩:=h;subst E;cases r with
 |cons r R=>rw[hs];exact assignInOrder_cons (a' (h1 _ s _ H _ _ _ I r h) λ_ S z=>by obtain⟨_,_,a,q⟩:=z;exact(b _ _ _ _ _ _ Q a R q))
noncomputable def wq(K:Fg)(n:Nat)(t:qg):TG:=λv σ H Q=>∃a xs,v=.ref a/\ca K H a xs/\xs.length=n/\t xs σ H Q
theorem rf{es:Lx}{k:Nat}{t:qg}(d:X.calm=NA)(h:wn X es t)
  (g:(assignEach es X.env).length=n:=by rfl) (c:(assignEach es X.env).findIdx? (·.1)=none:=by rfl):PG X (.Tuple es k pos) (wq X.K n t):=by
 intro P s w H v u Q I r hw;obtain⟨a,x,E,i,f,hw⟩:=hw;subst E;subst r;obtain⟨m,R,j,q⟩:=I.tuple i;exact assign_Tuple_tuple (I.ok.hd d) j (by simp[g,<-f,R.length]) c λp l=>h _ _ _ H _ _ Q (I.kept (t':=s.toks) λb o e=>l b o (ZC (Zo e)) e) (by omega) hw
noncomputable def E7(to T:TE)(t:lG):TG:=λv σ H Q=>to σ H λo H1=>T σ H1 λi H2=>t o i v H2 λa=>Q σ a
theorem rg{o i:Expr}{to T:TE}{t:lG}(e:PE X o to)(hi:PE X i T)(hs:rc X t)
  (k:∀v,assign (.Subscript o i pos) X.env v=(do
   let O <-holding [v] (eval o X.env)
   let a <-holding [v,O] (eval i X.env)
   standAt pos
   holding [v,O,a] (setItem O a v)
   release [v,O,a] []):=by intro _;rfl):PG X (.Subscript o i pos) (E7 to T t):=by
 intro p s n H v u Q I r h;refine Za (Z8 (a' (e _ s _ H _ I h) λO S z=>?_));obtain⟨x,_,b,R,q⟩:=z;exact Za (Z8 (a' (hi _ _ _ _ _ b q) λa l z=>z.elim λy z=>z.elim λ_ z=>z.elim λc z=>z.elim λj f=>Za (QN (Za (Z8 (a' (hs _ _ _ _ x y v _ _ u _ c R j r f) λ_ m z=>by obtain⟨_,d,g⟩:=z;exact(wpAny_release ⟨_,_,d,g⟩)))))))
noncomputable def rh(t:TE)(g:TG):TS:=λD σ H=>t σ H λx H1=>g x σ H1 D.nx
theorem jn{t:TE}{g:TG}(b:PE X e t)(c:PG X tg g)(hs:swapsWithSole [tg] e pos.line X.env=pure NB:=by rfl)(hw:swappedStores [tg] e X.env=pure none:=by rfl)
  (h1:(assignEach [tg] X.env).map (·.2)=[assign tg X.env]:=by rfl):PS X (.Assign [tg] e pos) (rh t g):=by
 intro p s f H D I h;refine wpAny_Assign_stores (a' (b _ s _ H _ I h) λv S z=>?_) hs hw;obtain⟨x,_,a,r,Q⟩:=z;rw[h1];exact a' (c _ _ _ _ x v _ a r Q) λ_ d q=>q
theorem rj{i:Nat}{x:Str}{t:TE}(c:X.N.Nodup)(hi:X.N[i]?=Nz x)(g:Loc X.env.scope x)(d:PE X e t)(hs:swapsWith e (Nz (.Name x pos')) pos.line X.env=pure NB:=by rfl)(f:X.fn x=NA\/X.env.scope.names.lookup x=Nz .local:=by first|exact .inl rfl|exact .inr rfl|assumption):
  PS X (.Assign [.Name x pos'] e pos) (rh t (eR i)):=by
 intro p s k H D I h;exact wpAny_Assign_Name (a' (d _ s _ H _ I h) λv S z=>by obtain⟨y,_,a,r,q⟩:=z;exact(wc a c hi g r (λj b=>⟨_,_,b,q⟩) f)) hs
end
section
variable {X:Cx}{pos:Pos}
noncomputable def rk(c:TT)(tb:TS):TS:=λD σ H=>∃W:Nat->St->Hp->Prop,(∃m,W m σ H)/\∀m σ H,W m σ H->
 c σ H λb H1=>if b=NA then ∃N:St->Hp->Prop,(∀σ' H',N σ' H'->∃M,M<m/\W M σ' H')/\tb {D with nx:=N,ct:=N,bk:=D.nx} σ H1 else D.nx σ H1
theorem E8{c:Expr}{body:List O1}{T:TT}{tb:TS}(u:Rr (model X.prog X.w) X.A X.env X.xe)(z:PT X c T)(y:fW X body tb):PS X (.While c body [] pos) (rk T tb):=by
 intro p s F H D I h;obtain⟨W,⟨M,C⟩,turn⟩:=h;refine wpAny_While (codeAny_whileLoop (λn S=>∃g l,Inv X p g l S/\W n g l) ?_ M ⟨F,H,I,C⟩);rintro n A ⟨d,H1,x,E⟩;refine O6 u (a' (z p A d H1 _ x (turn n d H1 E)) λb B Z=>?_);obtain⟨o,r,q⟩:=Z;cases b with
 |true=>
  obtain⟨N,t,q⟩:=q;rw[if_pos rfl];refine O6 u (a' (y p B d o _ r q) λf G Q=>?_);cases f with
  |next=>obtain⟨a,e,i,k⟩:=Q;obtain⟨m,j,w⟩:=t a e k;exact⟨m,j,a,e,i,w⟩
  |cont=>obtain⟨a,e,i,k⟩:=Q;obtain⟨m,j,w⟩:=t a e k;exact⟨m,j,a,e,i,w⟩
  |brk=>exact Q
  |ret v=>exact Q
 |false=>rw[if_neg Qg];exact Sd ⟨d,o,r,q⟩
end
set_option genInjectivity false in
structure It where
 go:Nat->Hp->Prop
 yld:Nat->Hp->V->Hp->Prop
 stop:Nat->Hp->Prop
def dI(X:Cx)(P:Lp)(H:Hp)(b:ND):Prop:=
 H b=none/\b≠X.env.locals/\b∉X.fs/\(b∈X.ex\/X.s₀.heap.objs.size<=b)/\(∀x c,X.env.cells.lookup x=Nz c->c≠b)/\∀p∈X.pn++P,p.1≠b
theorem Inv.fpOk{X:Cx}{σ:St}{H a:Hp}{b:ND}(I:Inv X pq σ H s)(h:s.heap.objs.size<=b)(d:a b=none):dI X pq a b:=by
 refine⟨d,OV (ZR I.lt h),I.nofs h,.inr (Zw I.sz h),λx c e z=>?_,λp f z=>?_⟩
 ·obtain⟨v,q⟩:=I.cell x c e;exact absurd (ZR q.lt (by simp_all)) (Yl _)
 ·exact absurd (ZR (Zo (I.pin p f).1) (by simp_all)) (Yl _)
structure Turn (P:NU)(w:N0)(K:Fg)(tg:Expr)(J:It)(fp:La)(it:ND)(tn:Nat->NO->Prop):Prop where
 mem:it∈fp
 obj:∀i h,tn i h->∀b∈fp,∃o,h.get? b=Nz o/\∀v,o.data≠.cell v
 keep:∀i h h',tn i h->(∀b∈fp,∀o,h.get? b=Nz o->h'.get? b=Nz o)->tn i h'
 item:∀(X:Cx),X.prog=P->X.w=w->X.K=K->X.calm=NA->∀(i:Nat) (pq:Lp) (s:NC) (σ:St) (H:Hp) (E:Vs),Inv X pq σ H s->(∀b∈fp,dI X pq H b)->tn i s.heap->J.go i H->
  wpAny (model P w) X.A (pyNext (.ref it)) (λr s1=>∃u,r=Nz u/\
   wpAny (model P w) X.A (letOwnedTupleGo tg (.ref it) u) (λ_ s2=>∃x H',Inv X pq σ H' s2/\RelV x u/\J.yld i H x H'/\tn (i+1) s2.heap/\∀b∈fp,H' b=none) E s1) E s
 done:∀(X:Cx),X.prog=P->X.w=w->X.K=K->X.calm=NA->∀(i:Nat) (pq:Lp) (s:NC) (σ:St) (H:Hp) (E:Vs),Inv X pq σ H s->(∀b∈fp,dI X pq H b)->tn i s.heap->J.stop i H->
  wpAny (model P w) X.A (pyNext (.ref it)) (λr s1=>r=none/\Inv X pq σ H s1) E s
 self:∀(A:OH) (i:Nat) (s:NC) (Q:Vs) (E:Vs),tn i s.heap->Q (.ref it) s->wpAny (model P w) A (pyIter (.ref it)) Q E s
abbrev TI:=St->Hp->(It->Hp->Prop)->Prop
def Et(X:Cx)(p:Lp)(σ:St)(tg:Expr)(R:It->Hp->Prop)(i:NF)(s:NC):Prop:=
 ∃(it:ND) (fp:La) (tn:Nat->NO->Prop) (J:It) (H':Hp),i=.ref it/\Inv X p σ H' s/\Turn X.prog X.w X.K tg J fp it tn/\tn 0 s.heap/\(∀b∈fp,dI X p H' b)/\R J H'
def PI(X:Cx)(tg i:Expr)(w:TI):Prop:=
 ∀(pq:Lp) (s:NC) (σ:St) (H:Hp) (R:It->Hp->Prop),Inv X pq σ H s->w σ H R->
  wpAny (model X.prog X.w) X.A (eval i X.env) (λv S=>wpAny (model X.prog X.w) X.A (pyIter v) (Et X pq σ tg R) X.xe S) X.xe s
theorem ii{n:String}{vs:Av}{Q:Unit->NC->Prop}(b:s.heap.get? it=Nz o)(H:o.cls=.type n)(a:o.data=.fields vs)
  (c:["enumerate","zip","dict_itemiterator","dict_reverseitemiterator","odict_iterator","itertools.zip_longest","itertools.pairwise"].contains n=NB) (h:Q () s):wpAny M A (letOwnedTupleGo tg (.ref it) u) Q E s:=by
 cases tg<;>first
  |exact Ze h
  | (cases u<;>first
    |exact Ze h
    | (refine Za (wpAny_load b ?_)
       rw[H,a];show wpAny M A (if(["enumerate","zip","dict_itemiterator","dict_reverseitemiterator","odict_iterator","itertools.zip_longest","itertools.pairwise"].contains n&&vs[0]?==Nz _)=NA then _ else _) Q E s;rw[if_neg (by lia)];exact Ze h))
noncomputable def Eu(K:Fg)(a:ND):It:=
 ⟨λi H=>∃xs x,c8 K H a xs/\xs[i]?=Nz x,λi H x H'=>H'=H/\∀xs,c8 K H a xs->xs[i]?=Nz x,λi H=>∃xs,c8 K H a xs/\xs.length<=i⟩
noncomputable def E_(K:Fg)(a:ND):It:=
 ⟨λi H=>∃xs x,ca K H a xs/\xs[i]?=Nz x,λi H x H'=>H'=H/\∀xs,ca K H a xs->xs[i]?=Nz x,λi H=>∃xs,ca K H a xs/\xs.length<=i⟩
noncomputable def wt(lo:Int)(n:Nat):It:=⟨λi _=>i<n,λi H x H'=>H'=H/\x=.int (lo+i),λi _=>n<=i⟩
theorem Fa(a it:ND):Turn P w K tg (Eu K a) [it] it (λi h=>h.IsListIter it a i) where
 mem:=by simp
 obj:=λi h st b hb=>by
  have e:=by simpa using hb
  obtain⟨o,e,c,d⟩:=st;simp_all
 keep:=λi h h' st k=>st.at λo e=>k _ (by simp) o e
 item:=by intro X hP hw hK hc i pq s σ H E I hf st hg;subst hP hw hK;obtain⟨xs,x,hq,hx⟩:=hg;obtain⟨its,rv,p,hz⟩:=I.list hq;obtain⟨u,hu,ru⟩:=rv.get hx;obtain⟨f0,f1,f2,f3,f4,f5⟩:=hf it (by simp);refine wpAny_pyNext_list_item st p.isList (by simpa using hu) λh' st' sb=>?_;obtain⟨o,e,c,d⟩:=id st';exact⟨u,rfl,ii e c d (rfl) ⟨x,H,I.turned (t':=s.toks) (λb o hb e=>(sb.2 b hb).trans e) f0 f1 f3 f4 f5,ru,⟨rfl,λys hy=>by rw[I.list_inj hy hq];exact hx⟩,st',λb hb=>(hf b hb).1⟩⟩
 done:=by intro X hP hw hK hc i pq s σ H E I hf st hg;subst hP hw hK;obtain⟨xs,hq,hx⟩:=hg;obtain⟨its,rv,p,hz⟩:=I.list hq;obtain⟨f0,f1,f2,f3,f4,f5⟩:=hf it (by simp);have hl:=rv.length;exact wpAny_pyNext_list_end (I.ok.hd hc) st p.isList (by simp_all) λh' eb=>⟨rfl,I.turned (λb o hb e=>eb b o hb e) f0 f1 f3 f4 f5⟩
 self:=λ_ _ _ _ _ st h=>wpAny_pyIter_listiter st h
theorem Fb(a it:ND):Turn P w K tg (E_ K a) [it] it (λi h=>h.IsTupleIter it a i) where
 mem:=by simp
 obj:=λi h st b hb=>by
  have e:=by simpa using hb
  obtain⟨o,e,c,d⟩:=st;simp_all
 keep:=λi h h' st k=>st.at λo e=>k _ (by simp) o e
 item:=by intro X hP hw hK hc i pq s σ H E I hf st hg;subst hP hw hK;obtain⟨xs,x,hq,hx⟩:=hg;obtain⟨its,rv,p,hz⟩:=I.tuple hq;obtain⟨u,hu,ru⟩:=rv.get hx;obtain⟨f0,f1,f2,f3,f4,f5⟩:=hf it (by simp);refine wpAny_pyNext_tuple_item st (show s.heap.IsTuple a _ from p) (by simpa using hu) λh' st' sb=>?_;obtain⟨o,e,c,d⟩:=id st';exact⟨u,rfl,ii e c d (rfl) ⟨x,H,I.turned (t':=s.toks) (λb o hb e=>(sb.2 b hb).trans e) f0 f1 f3 f4 f5,ru,⟨rfl,λys hy=>by rw[I.tuple_inj hy hq];exact hx⟩,st',λb hb=>(hf b hb).1⟩⟩
 done:=by intro X hP hw hK hc i pq s σ H E I hf st hg;subst hP hw hK;obtain⟨xs,hq,hx⟩:=hg;obtain⟨its,rv,p,hz⟩:=I.tuple hq;obtain⟨f0,f1,f2,f3,f4,f5⟩:=hf it (by simp);have hl:=rv.length;exact wpAny_pyNext_tuple_end (I.ok.hd hc) st (show s.heap.IsTuple a _ from p) (by simp_all) λh' eb=>⟨rfl,I.turned (λb o hb e=>eb b o hb e) f0 f1 f3 f4 f5⟩
 self:=λ_ _ _ _ _ st h=>wpAny_pyIter_tupleiter st h
theorem Fc(it:ND)(lo:Int)(n:Nat):Turn P w K tg (wt lo n) [it] it (λi h=>IsRangeIter h it (lo+(i:Nat)*1) ((n:Int)-(i:Nat)) 1) where
 mem:=by simp
 obj:=λi h st b hb=>by simp_all
 keep:=λi h h' st k=>k _ (by simp) _ st
 item:=by intro X hP hw hK hc i pq s σ H E I hf st hg;subst hP hw hK;obtain⟨f0,f1,f2,f3,f4,f5⟩:=hf it (by simp);refine(Walks.range (prog:=X.prog) (w:=X.w) (I.ok.hd hc) it lo 1 n).item i s _ _ hg st λv h' tk hv st' kk=>?_;obtain⟨t,rfl⟩:=hv;have I1:Inv X _ _ H {s with heap:=h',toks:=tk}:=I.turned (λb o hb e=>kk b o (by simp_all) e) f0 f1 f3 f4 f5;refine⟨_,rfl,ii st' rfl rfl (rfl) ⟨.int _,H,I1,⟨t,?_⟩,⟨rfl,rfl⟩,st',λb hb=>(hf b hb).1⟩⟩;simp_all
 done:=by intro X hP hw hK hc i pq s σ H E I hf st hg;obtain⟨f0,f1,f2,f3,f4,f5⟩:=hf it (by simp);exact Tt (I.ok.hd hc) st (by have:n<=i:=hg;omega) λh' eb=>⟨rfl,I.turned (λb o hb e=>eb b o hb e) f0 f1 f3 f4 f5⟩
 self:=λ_ _ _ _ _ st h=>Q2 st h
section
variable {X:Cx}
theorem wu{σ:St}{H:Hp}{R:It->Hp->Prop}{lo hi:Int}{t u v:Tok}{tk:Nat}(I:Inv X pq σ H s)(h1: -(2^62)<=lo)(f:lo<2^62)(g: -(2^62)<=hi)(i:hi<2^62)
  (q:R (wt lo (hi-lo).toNat) H):wpAny (model X.prog X.w) X.A (pyIter (.ref s.heap.objs.size)) (Et X pq σ tg R) E {s with heap:=s.heap.push {cls:=.type "range",data:=.fields #[.int lo t,.int hi u,.int 1 v]},toks:=tk}:=by
 refine wpAny_pyIter_range (IsRange.new ..) (small_one h1 f g i) ?_;have a:Inv X _ _ H {s with heap:=s.heap.push {cls:=.type "range",data:=.fields #[.int lo t,.int hi u,.int 1 v]},toks:=tk}:=I.kept λb o e=>Zc _ e
 refine⟨_,_,_,_,H,rfl,
  a.kept λb o e=>Zc _ e,Fc _ _ _,?_,λb j=>?_,q⟩
 ·have c:lo+(0:Nat)*1=lo:=by simp
  have d:(hi-lo).toNat-(0:Nat)=OF lo hi 1:=by rw[SU];grind
  rw[c,d];exact Zk _ rfl
 ·have e:b=(s.heap.push {cls:=.type "range",data:=.fields #[.int lo t,.int hi u,.int 1 v]}).objs.size:=by simp_all
  subst e;exact a.fpOk (Zg _) (a.hok.fresh (Zg _))
noncomputable def wv(t:TA):TI:=λσ H R=>t σ H λvs H1=>∃j:Int,vs=[.int j]/\ -(2^62)<=j/\j<2^62/\R (wt 0 j.toNat) H1
noncomputable def ww(t:TA):TI:=λσ H R=>t σ H λvs H1=>∃i j:Int,vs=[.int i,.int j]/\(-(2^62)<=i/\i<2^62/\ -(2^62)<=j/\j<2^62)/\R (wt i (j-i).toNat) H1
theorem Fe{a:Expr}{T:TA}{p pos:Pos}(d:Gl X "range")(f:X.mg "range"=none)(c:PA X [a] T)(hs:starEach [a] X.env=[(NB,eval a X.env)]:=by rfl):PI X tg (.Call (.Name "range" p) [a] [] pos) (wv T):=by
 intro P s l H R I h;refine Call_ (eh I d f boot_range (Z2 (a' (c _ _ s _ H _ I h) λu S z=>?_) hs rfl));obtain⟨_,_,b,i,Q⟩:=z;obtain⟨j,e,Q,g,q⟩:=Q;subst e;cases i with
 |cons r k=>cases k;obtain⟨t,rfl⟩:=r;exact call_range_1 (wu b (by simp) (by simp) Q g (by simp_all))
theorem Ff{a b:Expr}{T:TA}{p pos:Pos}(k:Gl X "range")(l:X.mg "range"=none)(g:PA X [a,b] T)(hs:starEach [a,b] X.env=[(NB,eval a X.env),(NB,eval b X.env)]:=by rfl)(c:starEach [b] X.env=[(NB,eval b X.env)]:=by rfl):
  PI X tg (.Call (.Name "range" p) [a,b] [] pos) (ww T):=by
 intro P s x H R I h;refine Call_ (eh I k l boot_range (Z2 (a' (g _ _ s _ H _ I h) λU S z=>?_) (by simp_all) (by rw[c];rfl)));obtain⟨_,_,f,v,Q⟩:=z;obtain⟨i,j,e,⟨Q,m,n,o⟩,q⟩:=Q;subst e;cases v with
 |cons r d=>
  cases d with
  |cons u d=>cases d;obtain⟨t,rfl⟩:=r;obtain⟨w,rfl⟩:=u;exact call_range_2 (wu f Q m n o q)
noncomputable def Fh(w:TI)(g:TG)(tb:TS):TS:=λD σ H=>w σ H λJ H1=>∃W:Nat->Nat->St->Hp->Prop,(∃m,W 0 m σ H1)/\∀i m σ H,W i m σ H->
 (J.stop i H/\D.nx σ H)\/(J.go i H/\∃N:St->Hp->Prop,(∀σ' H',N σ' H'->∃M,M<m/\W (i+1) M σ' H')/\∀x H',J.yld i H x H'->g x σ H' λa H2=>tb {D with nx:=N,ct:=N,bk:=D.nx} a H2)
noncomputable def lJ(f:La)(h:NO):Lp:=f.filterMap λb=>(h.get? b).map λo=>(b,o)
theorem lK{b:ND}(H:b∈fp)(e:h.get? b=Nz o):(b,o)∈lJ fp h:=Of.mpr ⟨b,H,by simp_all⟩
theorem Fi{p:ND×Obj}(H:p∈lJ fp h):p.1∈fp/\h.get? p.1=Nz p.2:=by
 obtain⟨b,a,e⟩:=Of.mp H;cases q:h.get? b with
 |none=>simp_all
 |some o=>
  grind
theorem Inv.pinned{σ:St}{H:Hp}(I:Inv X pq σ H s)(a:∀b∈fp,dI X pq H b)(g:∀b∈fp,∃o,s.heap.get? b=Nz o/\∀v,o.data≠.cell v):Inv X (pq++lJ fp s.heap) σ H s:=
 I.pins_of λp c=>(Zp.mp c).elim (λz=>I.pin p (Zt _ z)) λz=>by
  obtain⟨h,e⟩:=Fi z;obtain⟨f,F,d,_⟩:=a _ h
  grind
theorem Inv.unpinned{pl:Lp}{σ:St}{H:Hp}(I:Inv X (pq++pl) σ H s):Inv X pq σ H s:=I.pins_of λp h=>I.pin p (Zt _ (ZH _ h))
theorem rn{body:List O1}{wi:TI}{g:TG}{tb:TS}{pos:Pos}(y:Rr (model X.prog X.w) X.A X.env X.xe)(Z:X.calm=NA)(hi:PI X tg iter wi)(hg:PG X tg g)(k:fW X body tb)
  (hs:∀x,foldedSetIterable iter X.env x=pure x:=by intro _;rfl):PS X (.For tg iter body [] pos) (Fh wi g tb):=by
 intro P s σ H D I h;refine wpAny_For (a' (hi P s σ H _ I h) λv s1 h1=>a' h1 λitv s2 h2=>?_) hs;obtain⟨it,F,tn,J,H2,e,I2,T,O,Y,W,⟨m0,w0⟩,turn⟩:=h2;subst e;have S:∀{q:Hp},(∀b∈F,q b=none)->∀b∈F,dI X P q b:=λhn b k=>⟨hn b k,(Y b k).2⟩;refine codeAny_forLoop_any (λn s'=>∃i l q,Inv X P l q s'/\tn i s'.heap/\(∀b∈F,q b=none)/\W i n l q) ?_ m0 ⟨0,σ,H2,I2,O,λb k=>(Y b k).1,w0⟩;rintro n s3 ⟨i,p,E,V,C,w,w3⟩;rcases turn i n p E w3 with⟨stop,qn⟩| ⟨go,N,hN,step⟩
 ·refine O6 y (a' (T.done X rfl rfl rfl Z i P s3 p E X.xe V (S w) C stop) λr s4 z=>z.elim λL I4=>?_);subst L;exact Sd ⟨p,E,I4,qn⟩
 ·refine O6 y (a' (T.item X rfl rfl rfl Z i P s3 p E X.xe V (S w) C go) λr s4 z=>?_);obtain⟨u,L,h4⟩:=z;subst L;refine O6 y (a' h4 λ_ s5 z=>?_);obtain⟨x,U,I5,r5,y5,t,K⟩:=z;have G:=I5.pinned (S K) (T.obj _ _ t);refine O6 y (a' (hg _ s5 p U x u _ G r5 (step x U y5)) λ_ s6 z=>?_);obtain⟨R,H6,I6,q6⟩:=z;refine O6 y (a' (k _ s6 R H6 _ I6 q6) λf M Q=>?_)
  have A:∀{a:St} {c:Hp},Inv X (P++lJ F s5.heap) a c M->N a c->∃m,m<n/\∃i l q,Inv X P l q M/\tn i M.heap/\(∀b∈F,q b=none)/\W i m l q:=λ{a c} j B=>by obtain⟨m',hm,w7⟩:=hN a c B;refine⟨m',hm,i+1,a,c,j.unpinned,T.keep _ _ _ t λb k o e=>(j.pin (b,o) (Zt _ (Zt _ (lK k e)))).1,λb k=>?_,w7⟩;obtain⟨o,e,d⟩:=T.obj _ _ t b k;exact(j.pin (b,o) (Zt _ (Zt _ (lK k e)))).2.1
  cases f with
  |next=>obtain⟨a,c,j,B⟩:=Q;exact A j B
  |cont=>obtain⟨a,c,j,B⟩:=Q;exact A j B
  |brk=>obtain⟨a,c,j,Q⟩:=Q;exact⟨a,c,j.unpinned,Q⟩
  |ret v=>obtain⟨x7,a,c,j,r7,Q⟩:=Q;exact⟨x7,a,c,j.unpinned,r7,Q⟩
end
abbrev R2:=V->V->Hp->VK->Prop
def cQ(X:Cx)(f:NF->NF->Sem NF)(r:R2):Prop:=
 ∀(pq:Lp) (s:NC) (σ:St) (H:Hp) (x y:V) (v u:NF) (Q:VK),Inv X pq σ H s->RelV x v->RelV y u->r x y H Q->
  wpAny (model X.prog X.w) X.A (f v u) (EP X pq σ Q) X.xe s
def Fj(X:Cx)(f:NF->Sem NF)(r:V->Hp->VK->Prop):Prop:=
 ∀(pq:Lp) (s:NC) (σ:St) (H:Hp) (x:V) (v:NF) (Q:VK),Inv X pq σ H s->RelV x v->r x H Q->
  wpAny (model X.prog X.w) X.A (f v) (EP X pq σ Q) X.xe s
def aX(X:Cx)(f:NF)(r:List V->Hp->VK->Prop):Prop:=
 ∀(pq:Lp) (s:NC) (σ:St) (H:Hp) (xs:List V) (us:Lv) (Q:VK),Inv X pq σ H s->Vals xs us->r xs H Q->
  wpAny (model X.prog X.w) X.A (call f us) (EP X pq σ Q) X.xe s
def Fm(X:Cx)(r:V->Hp->(Bool->Hp->Prop)->Prop):Prop:=
 ∀(pq:Lp) (s:NC) (σ:St) (H:Hp) (x:V) (v:NF) (Q:Bool->Hp->Prop),Inv X pq σ H s->RelV x v->r x H Q->
  wpAny (model X.prog X.w) X.A (truthy v) (TP X pq σ Q) X.xe s
noncomputable def Ew(r:R2)(t tb:TE):TE:=λσ H Q=>t σ H λx H1=>tb σ H1 λy H2=>r x y H2 Q
noncomputable def Nh(r:V->Hp->VK->Prop)(t:TE):TE:=λσ H Q=>t σ H λx H1=>r x H1 Q
noncomputable def rI(C:Int->Int->Prop)(g:Int->Int->V):R2:=λx y H Q=>∃i j,x=.int i/\y=.int j/\C i j/\Q (g i j) H
noncomputable def lL(g:Int->Int->V):R2:=λx y H Q=>∃i j,x=.int i/\y=.int j/\Q (g i j) H
def rU(g:Int->V):V->Hp->VK->Prop:=λx H Q=>∃i,x=.int i/\Q (g i) H
section
variable {X:Cx}{a b c:Expr}{ta tb tc:TE}{pos:Pos}
theorem ro(g:PE X a ta)(i:PE X b tb){σ:St}{H:Hp}{R:V->V->Hp->Prop}(I:Inv X pq σ H s)
  (h:ta σ H λx H1=>tb σ H1 λy H2=>R x y H2)  {f:NF->NF->Sem NF}
  (j:∀v u s2 x y H2,Inv X pq σ H2 s2->RelV x v->RelV y u->R x y H2->wpAny (model X.prog X.w) X.A (f v u) Q X.xe s2):
  wpAny (model X.prog X.w) X.A (eval a X.env) (λv S=>wpAny (model X.prog X.w) X.A (eval b X.env) (λu c=>wpAny (model X.prog X.w) X.A (f v u) Q X.xe c) X.xe S) X.xe s:=by
 refine a' (g pq s σ H _ I h) λv m z=>?_;obtain⟨x,H1,d,r,q⟩:=z;refine a' (i pq m σ H1 _ d q) λu s2 z=>?_;obtain⟨y,H2,e,l,k⟩:=z;exact j v u s2 x y H2 e r l k
theorem qi{o:RS}{r:R2}(f:cQ X (binaryOp o) r)(d:PE X a ta)(e:PE X b tb):PE X (.BinOp a o b pos) (Ew r ta tb):=by intro p s j H Q I h;exact wpAny_BinOp (ro d e I h λv u S x y i c R g q=>f _ _ _ _ x y v u Q c R g q)
theorem wx{o:UnaryOp}{r:V->Hp->VK->Prop}(d:Fj X (unaryOp o) r)(c:PE X a ta):PE X (.UnaryOp o a pos) (Nh r ta):=by intro p s e H Q I h;exact UnaryOp_ (a' (c _ s _ H _ I h) λv S z=>by obtain⟨x,_,b,R,q⟩:=z;exact(d _ _ _ _ x v Q b R q))
theorem vT{f:NF->NF->Sem NF}{C:Int->Int->Prop}
  (r:∀(i j:Int) (t u:Tok) (s:NC) (Q:Vs) (E:Vs),C i j->Q (.int (g i j) s.toks) {s with toks:=s.toks+1}->wpAny (model X.prog X.w) X.A (f (.int i t) (.int j u)) Q E s):
  cQ X f (rI C λi j=>.int (g i j)):=by
 intro p s d H x y v u Q I R b h;obtain⟨i,j,rfl,rfl,a,q⟩:=h;obtain⟨t,rfl⟩:=R;obtain⟨c,rfl⟩:=b;exact r i j t _ s _ _ a ⟨.int _,H,I.tok _,⟨_,rfl⟩,q⟩
theorem lM{f:NF->NF->Sem NF}
  (r:∀(i j:Int) (t u:Tok) (s:NC) (Q:Vs) (E:Vs),Q (.int (g i j) s.toks) {s with toks:=s.toks+1}->wpAny (model X.prog X.w) X.A (f (.int i t) (.int j u)) Q E s):
  cQ X f (lL λi j=>.int (g i j)):=by
 intro p s c H x y v u Q I R a h;obtain⟨i,j,rfl,rfl,q⟩:=h;obtain⟨t,rfl⟩:=R;obtain⟨b,rfl⟩:=a;exact r i j t _ s _ _ ⟨.int _,H,I.tok _,⟨_,rfl⟩,q⟩
theorem rx{f:NF->NF->Sem NF}{g:Int->Int->Bool}
  (r:∀(i j:Int) (t u:Tok) (s:NC) (Q:Vs) (E:Vs),Q (.bool (g i j)) s->wpAny (model X.prog X.w) X.A (f (.int i t) (.int j u)) Q E s):
  cQ X f (lL λi j=>.bl (g i j)):=by
 intro p s b H x y v u Q I R a h;obtain⟨i,j,rfl,rfl,q⟩:=h;obtain⟨t,rfl⟩:=R;obtain⟨T,rfl⟩:=a;exact r i j t _ s _ _ ⟨.bl _,H,I,rfl,q⟩
def Fn(i j:Int):Prop:=0<j/\j<1073741824
noncomputable def ry(i j:Int):Prop:=(-(2^64)<i/\i<2^64)\/(-(2^64)<j/\j<2^64)
theorem ry.ok{i j:Int}(h:ry i j):IntMulOk i j:=by
 rcases h with⟨H,a⟩| ⟨H,a⟩
 ·exact .of_left (intBits_le_64 H a)
 ·exact .of_right (intBits_le_64 H a)
theorem Fo(k:Nat):(0:Int)<=2^k:=by lia
theorem rA:cQ X (binaryOp .Add) (lL λi j=>.int (i+j)):=lM λ_ _ _ _ _ _ _ q=>add_int q
theorem rB:cQ X (binaryOp .Sub) (lL λi j=>.int (i-j)):=lM λ_ _ _ _ _ _ _ q=>sub_int q
theorem rE:cQ X (binaryOp .Mult) (rI ry λi j=>.int (i*j)):=vT λ_ _ _ _ _ _ _ h q=>mul_int q h.ok
theorem lO:cQ X (binaryOp .FloorDiv) (rI Fn λi j=>.int (i/j)):=vT λi j _ _ _ _ _ h q=>by have H:(0:Int)<j:=h.1;have a:j<1073741824:=h.2;exact floordiv_int (by omega) (by rw[Qm i (by omega)];exact q) (.inl (PyProof.noPylong_small (by omega)))
theorem rF:cQ X (binaryOp .Mod) (rI (λ_ j=>0<j) λi j=>.int (i%j)):=vT λi j _ _ _ _ _ h q=>by have H:(0:Int)<j:=h;exact mod_int' (by omega) (by rw[Int.fmod_eq_emod_of_nonneg i (by omega)];exact q)
theorem rG:cQ X (binaryOp .RShift) (rI (λ_ j=>0<=j) λi j=>.int (i/2^j.toNat)):=vT λi j _ _ _ _ _ h q=>
 rshift_int h (by rw[Qm i (Fo _)];exact q)
theorem rH:cQ X (binaryOp .BitAnd) (lL λi j=>.int (QO i j)):=lM λ_ _ _ _ _ _ _ q=>and_int q
theorem wy:cQ X (binaryOp .BitOr) (lL λi j=>.int (TY i j)):=lM λ_ _ _ _ _ _ _ q=>or_int q
theorem Ni{f:NF->Sem NF}{g:Int->Int}
  (r:∀(i:Int) (t:Tok) (s:NC) (Q:Vs) (E:Vs),Q (.int (g i) s.toks) {s with toks:=s.toks+1}->wpAny (model X.prog X.w) X.A (f (.int i t)) Q E s):
  Fj X f (rU λi=>.int (g i)):=by
 intro p s a H x v Q I R h;obtain⟨i,rfl,q⟩:=h;obtain⟨t,rfl⟩:=R;exact r i t s _ _ ⟨.int _,H,I.tok _,⟨_,rfl⟩,q⟩
theorem rJ:Fj X (unaryOp .USub) (rU λi=>.int (-i)):=Ni λ_ _ _ _ _ q=>neg_int q
end
section
variable {X:Cx}{a b c:Expr}{ta tb tc:TE}{pos:Pos}
theorem lP{σ:St}{H:Hp}{Q:VK}{k K:Bool}(I:Inv X pq σ H s)(q:Q (.bl k) H)(e:k=K):EP X pq σ Q (.bool K) s:=by subst e;exact⟨.bl k,H,I,rfl,q⟩
theorem wz:cQ X (compareOp .LtE) (lL λi j=>.bl (decide (i<=j))):=rx λ_ _ _ _ _ _ _ q=>le_int q
theorem wC:cQ X (compareOp .Gt) (lL λi j=>.bl (decide (j<i))):=rx λ_ _ _ _ _ _ _ q=>gt_int q
theorem wD:cQ X (compareOp .GtE) (lL λi j=>.bl (decide (j<=i))):=rx λ_ _ _ _ _ _ _ q=>ge_int q
theorem Fp:cQ X (compareOp .In) (λx y H Q=>∃i j,x=.str i/\y=.str j/\Q (.bl (!(Qc j i 0 j.length 1).isEmpty)) H):=by intro p s a H x y v u Q I r R h;obtain⟨i,j,rfl,rfl,q⟩:=h;obtain⟨t,rfl⟩:=r;obtain⟨T,rfl⟩:=R;exact in_str (lP I q rfl)
theorem rK:cQ X (compareOp .Is) (λx y H Q=>y=.non/\Q (.bl (decide (x=.non))) H):=by
 intro p s a H x y v u Q I r R h;obtain⟨rfl,q⟩:=h;subst R;refine is_none_gen (lP I q ?_)
 cases x<;>first
  |lia
  | (obtain⟨t,rfl⟩:=r;rfl)
theorem lR:cQ X (compareOp .IsNot) (λx y H Q=>y=.non/\Q (.bl (!decide (x=.non))) H):=by
 intro p s a H x y v u Q I r R h;obtain⟨rfl,q⟩:=h;subst R;refine isnot_none_gen (lP I q ?_)
 cases x<;>first
  |lia
  | (obtain⟨t,rfl⟩:=r;rfl)
theorem Fq:cQ X (compareOp .NotIn) (λx y H Q=>∃i j,x=.str i/\y=.str j/\Q (.bl (!(!(Qc j i 0 j.length 1).isEmpty))) H):=by intro p s a H x y v u Q I r R h;obtain⟨i,j,rfl,rfl,q⟩:=h;obtain⟨t,rfl⟩:=r;obtain⟨T,rfl⟩:=R;exact notIn_str (lP I q rfl)
theorem lS{o:QI}{r:R2}(g:cQ X (compareOp o) r)(d:PE X a ta)(e:PE X b tb)(f:behindInMarks o b=NB):PE X (.Compare a [o] [b] pos) (Ew r ta tb):=by intro p s k H Q I h;exact wpAny_Compare1 (ro d e I h λv u S x y j c R i q=>g _ _ _ _ x y v u Q c R i q) f
noncomputable def qj(t:TE):TT:=λσ H Q=>t σ H λx H'=>∃k,x=.bl k/\Q k H'
theorem lT{o:QI}{r:R2}(m:cQ X (compareOp o) r)(i:PE X a ta)(j:PE X b tb)(l:behindInMarks o b=NB):PT X (.Compare a [o] [b] pos) (qj (Ew r ta tb)):=by
 intro P s C H Q I h
 refine wpAny_isTrue_Compare1 (a' (i _ s _ H _ I h) λv S Z=>Z.elim λx Z=>Z.elim λ_ Z=>Z.elim λd Z=>Z.elim λR q=>a' (j _ _ _ _ _ d q) λu A Z=>
  Z.elim λy Z=>Z.elim λ_ Z=>Z.elim λf Z=>Z.elim λt n=>a' (m _ _ _ _ x y v u _ f R t n) λc B Z=>?_) l
 obtain⟨z,_,g,w,k,e,p⟩:=Z;subst e;subst w;exact Yn ⟨_,g,p⟩
noncomputable def jo(r R:R2)(t tb T:TE):TE:=λσ H Q=>t σ H λx H1=>tb σ H1 λy H2=>r x y H2 λz a=>∃k,z=.bl k/\
 (if k=NA then T σ a λw b=>R y w b Q else Q (.bl NB) a)
theorem Fs{o:QI}{r R:R2}(A:cQ X (compareOp o) r)(f:cQ X (compareOp op') R)(n:PE X a ta)(p:PE X b tb)(t:PE X c tc)
  (w:lastMarks [o,op'] [b,c]=NB:=by with_unfolding_all rfl):PE X (.Compare a [o,op'] [b,c] pos) (jo r R ta tb tc):=by
 intro P s M H Q I h
 refine Compare_chain (a' (n _ s _ H _ I h) λv S Z=>Z.elim λx Z=>Z.elim λ_ Z=>Z.elim λj Z=>Z.elim λE B=>chain_link (a' (p _ _ _ _ _ j B) λu J Z=>
  Z.elim λy Z=>Z.elim λ_ Z=>Z.elim λl Z=>Z.elim λi C=>a' (A _ _ _ _ x y v u _ l E i C) λd K Z=>?_)) w
 obtain⟨z,_,g,F,k,e,q⟩:=Z;subst e;subst F;refine Yn ?_;cases k with
 |false=>exact ite_ff ⟨.bl _,_,g,rfl,q⟩
 |true=>exact ite_tt (chain_last (a' (t _ _ _ _ _ g q) λW L Z=>by obtain⟨_,_,m,G,D⟩:=Z;exact(f _ _ _ _ y _ u _ Q m i G D)))
theorem Ft{o:QI}{r R:R2}(L:cQ X (compareOp o) r)(g:cQ X (compareOp op') R)(F:PE X a ta)(G:PE X b tb)(J:PE X c tc)
  (K:lastMarks [o,op'] [b,c]=NB:=by with_unfolding_all rfl):PT X (.Compare a [o,op'] [b,c] pos) (qj (jo r R ta tb tc)):=by
 intro p s f H Q I h
 refine isTrue_chain (a' (F p s f H _ I h) λv Y Z=>Z.elim λx Z=>Z.elim λH1 Z=>Z.elim λw Z=>Z.elim λT N=>test_link (a' (G p Y f H1 _ w N) λu s2 Z=>
  Z.elim λy Z=>Z.elim λm Z=>Z.elim λA Z=>Z.elim λl O=>a' (L p s2 f m x y v u _ A T l O) λd s3 Z=>?_)) K
 obtain⟨z,i,j,U,k,e,q⟩:=Z;subst e;cases U;refine Yn ?_;cases k with
 |false=>obtain⟨k',E,M⟩:=q;cases E;exact ite_ff ⟨i,j,M⟩
 |true=>refine ite_tt (test_last (a' (J p s3 f i _ j q) λw' s4 Z=>Z.elim λz' Z=>Z.elim λn Z=>Z.elim λB Z=>Z.elim λV P=>a' (g p s4 f n y z' u w' _ B l V P) λd' s5 Z=>?_));obtain⟨z2,t,C,W,k2,D,S⟩:=Z;subst D;cases W;exact Yn ⟨t,C,S⟩
def iB(K:Fg)(x:V)(H:Hp)(k:Bool):Prop:=
 match x with
 | .non=>k=NB
 | .bl b=>k=b
 | .int i=>k=(i !=0)
 | .str y=>y.length<=sizeLine/\k=((y.length:Int) !=0)
 | .byt y=>y.size<=sizeLine/\k=((y.size:Int) !=0)
 | .ref p=>(∃xs,c8 K H p xs/\k= !xs.isEmpty)\/(∃xs,ca K H p xs/\k= !xs.isEmpty)\/∃a,H p=Nz (.dK a)/\k= !a.isEmpty
 |_=>False
theorem Fu{a:Type}{k:List (a×V)}{vs:List (a×NF)}(r:KV k vs):(!vs.isEmpty)= !k.isEmpty:=by cases r<;>rfl
theorem wE{xs:List V}(r:Vals xs its):(!its.toArray.isEmpty)= !xs.isEmpty:=by cases r<;>simp
theorem iC:(sizeLine:Nat)<2^63:=by decide
theorem jp:Fm X (λx H Q=>∃k,iB X.K x H k/\Q k H):=by
 intro u s w H x v Q I R h;obtain⟨k,e,q⟩:=h;have n:=iC;have o:sizeLine=16777216:=PC;cases x with
 |non=>cases R;subst(e);exact truthy_none ⟨H,I,q⟩
 |bl b=>cases R;have E:k=b:=e;subst E;exact Yn ⟨H,I,q⟩
 |int i=>obtain⟨t,rfl⟩:=R;subst(e);exact PySem.P.truthy_int ⟨H,I,q⟩
 |str y=>obtain⟨t,rfl⟩:=R;obtain⟨l,E⟩:y.length<=sizeLine/\k=((y.length:Int) !=0):=e;subst E;exact PySem.P.truthy_str (by omega) ⟨H,I.tok _,q⟩
 |byt y=>obtain⟨t,rfl⟩:=R;obtain⟨l,E⟩:y.size<=sizeLine/\k=((y.size:Int) !=0):=e;subst E;exact PySem.W.truthy_bytes (by omega) ⟨H,I.tok _,q⟩
 |ref p=>
  cases R;have E:(∃c,c8 X.K H p c/\k= !c.isEmpty)\/(∃c,ca X.K H p c/\k= !c.isEmpty)\/∃K,H p=Nz (.dK K)/\k= !K.isEmpty:=e;rcases E with⟨c,d,E⟩| ⟨c,d,E⟩| ⟨K,d,E⟩
  ·subst E;obtain⟨f,r,P,g⟩:=I.list d;have a:=r.length;exact wpAny_truthy_list P.isList (by grind) ⟨H,I.tok _,by rw[wE r];exact q⟩
  ·subst E;obtain⟨f,r,P,g⟩:=I.tuple d;have a:=r.length;exact truthy_tuple P (by grind) ⟨H,I.tok _,by rw[wE r];exact q⟩
  ·subst E;obtain⟨g,j,vs,r,m⟩:K.length<=sizeLine/\(p==sysModules)=NB/\∃vs,KV K vs/\s.heap.DictOf (qU X.prog X.w) p vs:=I.hok p _ d;have a:K.length=vs.length:=Paired.length r;exact wpAny_truthy_dict j m (by omega) ⟨H,I.tok _,by rw[Fu r];exact q⟩
 |_=>exact(show False from e).elim
theorem Fv(c:PE X a ta)(d:∀w,isTrue a X.env w=(do let v <-w;standAt a.pos;holding [v] (truthy v))):
  PT X a (λσ H Q=>ta σ H λx H'=>∃k,iB X.K x H' k/\Q k H'):=by
 intro p s σ H Q I h;exact isTrue_plain (a' (c _ s _ H _ I h) λv S z=>by obtain⟨x,_,b,r,q⟩:=z;exact(jp _ _ _ _ x v Q b r q)) (d _)
theorem Fw:cQ X (binaryOp .Add) (λx y H Q=>∃i j,x=.str i/\y=.str j/\i.length+j.length<=sizeLine/\Q (.str (i++j)) H):=by intro p s c H x y v u Q I r R h;obtain⟨i,j,rfl,rfl,a,q⟩:=h;obtain⟨t,rfl⟩:=r;obtain⟨T,rfl⟩:=R;exact add_str (λT b=>⟨.str _,H,I.tok _,⟨_,rfl⟩,q⟩) a
theorem vals1{x:V}(r:Vals [x] us):∃u,us=[u]/\RelV x u:=by
 cases r with
 |cons a R=>cases R;simp_all
theorem vals2{x y:V}(r:Vals [x,y] us):∃u w,us=[u,w]/\RelV x u/\RelV y w:=by
 cases r with
 |cons R a=>
  cases a with
  |cons b c=>cases c;exact⟨_,_,rfl,R,b⟩
theorem Fx(b:X.calm=NA):aX X (.builtin "max") (λxs H Q=>∃i j,xs=[.int i,.int j]/\Q (.int (if j>i then j else i)) H):=by
 intro p s e H xs U Q I r h;obtain⟨i,j,rfl,q⟩:=h;obtain⟨u,w,rfl,⟨t,rfl⟩,⟨T,rfl⟩⟩:=vals2 r;refine max_two_ints (I.ok.hd b) λc d k=>⟨_,H,I.kept k,?_,q⟩;by_cases a:j>i
 ·rw[if_pos a,if_pos a];exact⟨_,rfl⟩
 ·rw[if_neg a,if_neg a];exact⟨_,rfl⟩
theorem Fy(b:X.calm=NA):aX X (.builtin "min") (λxs H Q=>∃i j,xs=[.int i,.int j]/\Q (.int (if j<i then j else i)) H):=by
 intro p s e H xs U Q I r h;obtain⟨i,j,rfl,q⟩:=h;obtain⟨u,w,rfl,⟨t,rfl⟩,⟨T,rfl⟩⟩:=vals2 r;refine min_two_ints (I.ok.hd b) λc d k=>⟨_,H,I.kept k,?_,q⟩;by_cases a:j<i
 ·rw[if_pos a,if_pos a];exact⟨_,rfl⟩
 ·rw[if_neg a,if_neg a];exact⟨_,rfl⟩
theorem wF:aX X (.type "int") (λxs H Q=>(∃i,xs=[.int i]/\Q (.int i) H)\/∃k,xs=[.bl k]/\Q (.int (if k then 1 else 0)) H):=by
 intro p s a H xs U Q I r h;rcases h with⟨i,rfl,q⟩| ⟨k,rfl,q⟩
 ·obtain⟨u,rfl,t,rfl⟩:=vals1 r;exact call_int_int ⟨.int i,H,I,⟨_,rfl⟩,q⟩
 ·obtain⟨u,rfl,R⟩:=vals1 r;subst R;exact call_int_bool ⟨.int _,H,I.tok _,⟨_,rfl⟩,q⟩
end
section
variable {x C:ND}{mA:Mg}{v:NF}
end
section
variable {H H':Hp}{C:ND}{fs fs':List (Str×V)}
end
section
variable {X:Cx}{σ:St}{H:Hp}{C:ND}{fs:List (Str×V)}{f:Str}{v:V}
end
section
variable {X:Cx}{o value:Expr}{f:Str}{pos tpos:Pos}{ta tv:TE}
end
section
variable {X:Cx}{σ:St}{H:Hp}{c:NF}{b:Bool}
end
structure cR (k:Nat)(A:OH):Prop where
 hd:A.handled=none
 dp:A.depth+3*k+5<recursionLimit
 un:A.units+16*k+200<cLine
 gd:A.guards=Nz []
theorem cR.mono{j:Nat}(r:cR k A)(h:j<=k):cR j A:=⟨r.hd,by have:=r.dp;lia,by have:=r.un;lia,r.gd⟩
theorem cR.deeper(r:cR (k+1) A)(env:Env):cR k (A.deeper env):=
 ⟨r.hd,by have:=r.dp;show A.depth+1+3*k+5<_;lia,by have:=r.un;show A.units+3+16*k+200<_;lia,r.gd⟩
theorem cR.depth(r:cR k A):A.depth<recursionLimit:=by have:=r.dp;lia
theorem cR.units(r:cR k A):A.units+64<cLine:=by have:=r.un;lia
noncomputable def wG:TA:=λ_ H Q=>Q [] H
noncomputable def qk(t:TE)(T:TA):TA:=λσ H Q=>t σ H λx H1=>T σ H1 λxs H2=>Q (x::xs) H2
section
variable {X:Cx}{es:Lx}{te:TE}{t:TA}{pos:Pos}
theorem rL:PA X [] wG:=λ_ _ _ _ H Q I h=>Pr ⟨_,H,I,.nil,h⟩
theorem rN(c:PE X e te)(d:PA X es t)(hs:starEach (e::es) X.env=(NB,eval e X.env)::starEach es X.env:=by rfl):PA X (e::es) (qk te t):=by intro pos p s i H Q I h;rw[hs];show wpAny _ _ (spliced ((NB,eval e _)::backTo _ _)) _ _ s;exact Qd (a' (c _ s _ H _ I h) λu S z=>z.elim λx z=>z.elim λ_ z=>z.elim λa z=>z.elim λr q=>a' (d _ _ _ _ _ _ a q) λU g z=>by obtain⟨_,_,b,R,f⟩:=z;exact(⟨_,_,b,.cons r R,f⟩))
noncomputable def Fz(t:TA):TE:=λσ H Q=>t σ H λxs H1=>xs.length<=sizeLine/\∀p,H1 p=none->Q (.ref p) (bg H1 p (.tup xs))
noncomputable def FA(t:TA):TE:=λσ H Q=>t σ H λxs H1=>xs.length<=sizeLine/\∀p,H1 p=none->Q (.ref p) (bg H1 p (.lst xs))
theorem rO{x1}(h:PA X es t):PE X (.Tuple es x1 pos) (Fz t):=by intro p s f H Q I d;refine wpAny_Tuple_spliced (a' (h _ _ s _ H _ I d) λU S Z=>Z.elim λ_ Z=>Z.elim λ_ Z=>Z.elim λa Z=>Z.elim λr Z=>Z.elim λz q=>⟨by rw[<-r.length];exact z,?_⟩);have c:=a.hok.fresh (Zg _);refine⟨.ref _,_,a.laid (λb u e=>Zc _ e) (Zg _) ?_,rfl,q _ c⟩;exact⟨z,_,r,⟨_,Zk _ rfl,rfl,_,rfl⟩,_,Zk _ rfl,rfl⟩
theorem rP(h:PA X es t):PE X (.List es pos) (FA t):=by intro p s f H Q I d;refine wpAny_List_spliced (a' (h _ _ s _ H _ I d) λU S Z=>Z.elim λ_ Z=>Z.elim λ_ Z=>Z.elim λa Z=>Z.elim λr Z=>Z.elim λz q=>⟨by rw[<-r.length];exact z,?_⟩);have c:=a.hok.fresh (Zg _);refine⟨.ref _,_,a.laid (λb u e=>Zc _ e) (Zg _) ?_,rfl,q _ c⟩;exact⟨z,_,0,r,Zk _ rfl⟩
end
abbrev Sp:=List V->Hp->VK->XK->Prop
abbrev ef:=List Env->Hp->NC->XK->Vs
structure rQ (P:NU)(w:N0)(K:Fg)(mg:Mg)(base:NO)(A:OH)(outer:List Env)(s:NC)(H:Hp):Prop where
 frames:A.frames=Nz outer
 mod:Mod K mg base
 bs:∀b o,base.get? b=Nz o->s.heap.get? b=Nz o/\H b=none
 bsz:base.objs.size<=s.heap.objs.size
 funs:s.heap.FunFrames base outer
 frf:∀b∈dH outer,H b=none
 hok:eI P w H s.heap
 bare:QJ s.gens
def CE(o:List Env)(P:NU)(w:N0)(H:Hp)(s:NC)(Q:VK)(u:NF)(S:NC):Prop:=
 ∃v H',S.os=s.os/\QJ S.gens/\Un (dH o) [] H H' s.heap S.heap/\eI P w H' S.heap/\RelV v u/\Q v H'
def CR(CX:ef)(o:List Env)(P:NU)(w:N0)(H:Hp)(s:NC)(Q:VK)(E:XK)(r:RH)(S:NC):Prop:=
 match r with
 | .ok (.ret u)=>CE o P w H s Q u S
 | .ok _=>False
 | .error e=>CX o H s E e S
structure c_ (P:NU)(w:N0)(K:Fg)(mg:Mg)(base:NO)(CX:ef)(k:Nat)(f:ND)(fd:OW)(ps:Ls)(sp:Sp):Prop where
 len:∀vs H Q E,sp vs H Q E->vs.length=ps.length
 run:∀(A:OH) (outer:List Env) (s:NC) (H:Hp) (args:Args) (us:Lv) (vs:List V) (Q:VK) (E:XK),cR k A->rQ P w K mg base A outer s H->Sn s fd args (ps.zip us)->Vals vs us->sp vs H Q E->
  codeAny (model P w) A (.call (.ref f) args) (CR CX outer P w H s Q E) s
theorem c_.mono{CX:ef}{j:Nat}{b:OW}{sp:Sp}(F:c_ P w K mg base CX j f b ps sp)(h:j<=k):
  c_ P w K mg base CX k f b ps sp:=⟨F.len,λA o s H a u vs Q E c=>F.run A _ s H _ _ _ Q E (c.mono h)⟩
theorem c_.imp{CX:ef}{b:OW}{sp S:Sp}(F:c_ P w K mg base CX k f b ps sp)
  (h:∀vs H Q E,S vs H Q E->sp vs H Q E):c_ P w K mg base CX k f b ps S:=
 ⟨λvs H Q E q=>F.len _ H Q E (h _ _ _ _ q),λA o s H a u vs Q E e d c i g=>F.run A _ s H _ _ _ Q E e d c i (h _ _ _ _ g)⟩
section
variable {X:Cx}{σ:St}{H:Hp}
theorem Inv.env0(I:Inv X pq σ H s):rQ X.prog X.w X.K X.mg X.base X.A X.stack s H:=
 ⟨I.ok.frames,I.ok.mod,I.bs,Zw I.ok.bsz I.sz,I.stack,I.stkFree,I.hok,I.bare⟩
theorem Inv.after{Q:VK}(I:Inv X pq σ H s)(h:CE X.stack X.prog X.w H s Q u s'):EP X pq σ Q u s':=by obtain⟨v,c,O,B,un,a,r,q⟩:=h;obtain⟨e,g,d,t,o⟩:=s';obtain rfl:o=s.os:=O;exact⟨v,_,I.call un a B λb z=>absurd z (by nofun),r,q⟩
end
noncomputable def wH(sp:Sp)(d:List V)(E:XK)(t:TA):TE:=λσ H Q=>t σ H λvs H1=>sp (vs++d) H1 Q E
def Binds(K:Fg)(f:OW)(ps:Ls)(ds:Lv):Prop:=
 ∀(s:NC) (us:Lv),K.In s.heap->(us++ds).length=ps.length->Sn s f ⟨us,[]⟩ (ps.zip (us++ds))
theorem Binds.all{f:OW}(h:∀us:Lv,us.length=ps.length->bindArgs f ⟨us,[]⟩=pure (ps.zip us)):Binds K f ps []:=λs us _ H=>by rw[Yf]at H⊢;exact .of_eq (h _ H)
def lU(CX:ef)(X:Cx)(E:XK):Prop:=∀(pq:Lp) (σ:St) (H:Hp) (s:NC) (e:NF) (s':NC),Inv X pq σ H s->CX X.stack H s E e s'->X.xe e s'
section
variable {X:Cx}{CX:ef}{C:ND}{fd:OW}{sp:Sp}{dvs:List V}{ds:Lv}{E:XK}{x m:Str}{p pos:Pos}{o:Expr}{es:Lx}{ta:TE}{t:TA}
theorem rR{σ:St}{H:Hp}{Q:VK}{vs:List V}(F:c_ X.prog X.w X.K X.mg X.base CX k f fd ps sp)(g:cR k X.A)(c:Binds X.K fd ps ds)(d:Vals dvs ds)(i:lU CX X E)
  (I:Inv X pq σ H s) (r:Vals vs us) (h:sp (vs++dvs) H Q E):wpAny (model X.prog X.w) X.A (call (.ref f) us) (EP X pq σ Q) X.xe s:=by
 have R:=r.append d;refine wpAny_call (Ph (F.run _ _ s H _ _ _ Q E g I.env0 (c s _ I.kIn (by rw[<-R.length];exact F.len _ _ _ _ h)) R h) λr S a=>?_);cases r with
 |error e=>exact i _ _ H s e _ I a
 |ok b=>
  cases b with
  |ret u=>exact I.after a
  |next=>exact False.elim a
  |brk=>exact False.elim a
  |cont=>exact False.elim a
theorem lV(F:c_ X.prog X.w X.K X.mg X.base CX k f fd ps sp)(o:cR k X.A)(l:Gl X x)(n:X.mg x=Nz (.ref f))(m:PySem.W.keepIn X.K (.ref f)=NA)(g:Binds X.K fd ps ds)(i:Vals dvs ds)(u:lU CX X E)
  (d:PA X (e::es) t) (a:(x==("__debug__":Str))=NB:=by decide) (j:starEach (e::es) X.env=(NB,eval e X.env)::starEach es X.env:=by rfl) (b:(backTo pos (starEach es X.env)).any (·.1)=NB:=by rfl):
  PE X (.Call (.Name x p) (e::es) [] pos) (wH sp dvs E t):=by
 intro P s v H Q I h;exact OI (we I l n (PySem.W.callWith_K I.ok.mod.kin m (a' (d _ _ s _ H _ I h) λU S z=>by obtain⟨_,_,c,r,q⟩:=z;exact(⟨c.kIn,rR F o g i u c r q⟩)) j b) a)
end
section
variable {X:Cx}{CX:ef}{C:ND}{fd:OW}{ks:Ls}{sp:Sp}{E:XK}{x m:Str}{p pos kpos:Pos}{o:Expr}{es:Lx}{kws:List Keyword}{te ta:TE}{t tk:TA}{nm:Option Str}
variable {g:Lv->Lv->Lv}{gV:List V->List V->List V}
end
structure c9 (N P:Ls)(sc:Scope):Prop where
 kind:sc.kind=.function
 co:sc.isCoroutine=NB
 gen:sc.isGenerator=NB
 nd:N.Nodup
 pre:N.take P.length=P
 par:∀x∈P,sc.names.lookup x=Nz .local\/sc.names.lookup x=Nz .cell
 nofree:∀y∈sc.names,y.2≠.free
theorem wI{kindOf:Str->Option Ol}{x:Str}:∀{binds:List (Str×NF)} {m:Mg},(∀v,(x,v)∉binds)->bindL kindOf binds m x=m x
 | [],_,_=>rfl
 | (n,v)::r,m,h=>by
  unfold bindL;rw[wI λw hw=>h w (Zb _ hw)];split
  ·have:x≠n:=by rintro rfl;exact h v Zd
   simp[this]
  ·rfl
theorem wJ{kindOf:Str->Option Ol}{x:Str}:∀{binds:List (Str×NF)} {m:Mg},(∀v,(x,v)∉binds)->bindC kindOf binds m x=m x
 | [],_,_=>rfl
 | (n,v)::r,m,h=>by
  unfold bindC;rw[wJ λw hw=>h w (Zb _ hw)];split
  ·rfl
  grind
theorem wK{kindOf:Str->Option Ol}{x:Str}{v:NF}:∀{P:Ls} {vs:Lv} {i:Nat} {m:Mg},P.Nodup->P[i]?=Nz x->vs[i]?=Nz v->kindOf x=Nz .local->
  bindL kindOf (P.zip vs) m x=Nz v
 | [],_,_,_,_,h,_,_=>by trivial
 |_::_,[],_,_,_,_,h,_=>by trivial
 |p::P,w::vs,0,m,n,H,a,b=>by simp at H a;subst H;subst a;show bindL _ ((p,w)::P.zip _) m p=_;dsimp only[bindL];rw[wI λv c=>(Ya.mp n).1 (RM c).1,if_pos b];simp
 |p::P,w::vs,i+1,m,n,H,a,b=>by unfold bindL;exact wK (Ya.mp n).2 (by exact H) (by trivial) b
theorem wL{kindOf:Str->Option Ol}{x:Str}{v:NF}:∀{P:Ls} {vs:Lv} {i:Nat} {m:Mg},P.Nodup->P[i]?=Nz x->vs[i]?=Nz v->kindOf x≠Nz .local->
  bindC kindOf (P.zip vs) m x=Nz v
 | [],_,_,_,_,h,_,_=>by simp_all
 |_::_,[],_,_,_,_,h,_=>by simp_all
 |p::P,w::vs,0,m,n,H,a,b=>by simp at H a;subst H;subst a;show bindC _ ((p,w)::P.zip _) m p=_;unfold bindC;rw[wJ λv c=>(Ya.mp n).1 (RM c).1,if_neg b];simp
 |p::P,w::vs,i+1,m,n,H,a,b=>by unfold bindC;exact wL (Ya.mp n).2 (by simpa using H) (by simp_all) b
noncomputable def start(N:Ls)(vs:List V):St:=vs.map Nz++NG (N.length-vs.length) none
noncomputable def gN(CX:ef)(P:NU)(w:N0)(K:Fg)(mg:Mg)(base:NO)(N:Ls)(qual:Str)(scope:Scope)(f:ND)(cd:NF)(A:OH)(outer:List Env)(s:NC)(H:Hp)(E:XK):Cx where
 prog:=P
 w:=w
 K:=K
 mg:=mg
 base:=base
 A:=A.deeper (envOfC qual scope s.heap.objs.size f cd)
 N:=N
 s₀:=s
 H₀:=H
 env:=envOfC qual scope s.heap.objs.size f cd
 outer:=outer
 stack:=envOfC qual scope s.heap.objs.size f cd::outer
 ex:=[]
 calm:=NA
 fn:=λ_=>NA
 pn:=[]
 xe:=λe s'=>wpAny (model P w) (A.deeper (envOfC qual scope s.heap.objs.size f cd)) (leaving (envOfC qual scope s.heap.objs.size f cd) e) (λ_ s''=>CX outer H s E e s'') (λe' s''=>CX outer H s E e' s'') s'
theorem wM{s:Scope}{x:Str}(h:s.names.lookup x=Nz .cell):∃c,(cellsFrom n s.names []).lookup x=Nz c:=by exact Qr.mp (PySem.W.cellsFrom_some _ n [] (.inl h))
theorem FC{CX:ef}{F:NC}{H:Hp}{E:XK}{vs:List V}
  (S:c9 N ps scope) (I:A.handled=none) (g:rQ P w K mg base A outer s H) (M:vs.length=ps.length) (r:Vals vs us)
  (x:InCallC s s.heap.objs.size (bindL (envOfC qual scope s.heap.objs.size f cd).kindOf (ps.zip us) λ_=>none) (cellsFrom (s.heap.objs.size+1) scope.names []) (bindC (envOfC qual scope s.heap.objs.size f cd).kindOf (ps.zip us) λ_=>none) F):
  Inv (gN CX P w K mg base N qual scope f cd A outer s H E) [] (start N vs) H F:=by
 have J:ps.length<=N.length:=by have:=Yj Po S.pre;rw[N2]at this;omega
 obtain⟨t,T,rfl,C⟩:=x.done;have l:∀b:ND,b∉(gN CX P w K mg base N qual scope f cd A outer s H E).ex:=λb z=>absurd (show b∈([]:La)from z) (by simp)
 refine⟨⟨g.mod,S.kind,rfl,rfl,Zg _,λy z c t d=>?_,λy j=>?_,λy c _ h=>?_,λ_=>I,Around.frames_deeper g.frames,.inr ⟨rfl,rfl⟩,λb z=>absurd z (l b),g.bs,g.bsz,λb _ _=>l b,λb z=>absurd z (l b),g.funs,g.frf⟩,
  rfl,g.bare,Un.kept C,⟨_,x.toInCall.ns,λi y v t d L=>?_⟩,λy c h=>⟨_,x.cell y c h⟩,g.hok.fresh (Zg _),λy c h=>?_,λp m=>absurd (show p∈([]:Lp)from m) (by simp),g.hok.kept C,?_⟩
 ·exact name_of_addr x.apart (ZS t) (ZS d)
 ·have j:scope.names.lookup y=Nz .cell\/scope.names.lookup y=Nz .free:=j;rcases j with j|j
  ·exact wM j
  ·exact absurd rfl (S.nofree _ (ZS j))
 ·exact OU (x.above y c (ZS h))
 ·have B:i<vs.length:=by
   unfold start at d;by_cases B:i<vs.length
   ·exact B
   ·rw[Zs (by simpa using B)]at d;rw[Se]at d;split at d<;>cases d
  have G:vs[i]?=Nz v:=by
   unfold start at d;rw[Zu (by simpa using B),Z0]at d;cases e:vs[i]? with
   |none=>rw[e]at d;cases d
   |some a=>rw[e]at d;cases d;rfl
  obtain⟨u,D,R⟩:=r.get G;have m:ps[i]?=Nz y:=by rw[<-S.pre,Pf (by omega)];exact t
  have o:ps.Nodup:=by rw[<-S.pre];exact S.nd.sublist (Qt _ _)
  refine⟨u,R,?_⟩;rcases S.par y (ZA m)with k|k
  ·exact .inl ⟨k,wK o m D k⟩
  ·obtain⟨c,e⟩:=wM (n:=s.heap.objs.size+1) k;refine .inr ⟨.inl k,c,e,?_⟩;have q:=x.cell y c e;rw[wL o m D (by show scope.names.lookup y≠_;rw[k];decide)]at q;exact q
 ·exact g.hok.fresh (OU (x.above y c (ZS h)))
 ·unfold start;show _=N.length;rw[Zz,Zh,List.length_replicate];omega
theorem wN{CX:ef}{p:Arguments}{body:List O1}{D kV:NF}{an:Option ND}
    {sp:Sp} (lk:K.lookup f=Nz ⟨oc,od,.func (PySem.W.fnOf name qual p body scope D kV doc pm an cdv ct),osl⟩) (j:PySem.W.codeIn K cdv qual=NA) (S:c9 N ps scope)
  (len:∀vs H Q E,sp vs H Q E->vs.length=ps.length)
  (h:∀(A:OH) (outer:List Env) (s:NC) (H:Hp) (vs:List V) (Q:VK) (E:XK),cR k (A.deeper (envOfC qual scope s.heap.objs.size f cdv))->sp vs H Q E->
   ∃t,fW (gN CX P w K mg base N qual scope f cdv A outer s H E) body t/\t {nx:=λ_ H'=>Q .non H',rt:=Q} (start N vs) H):
  c_ P w K mg base CX (k+1) f (PySem.W.fnOf name qual p body scope D kV doc pm an cdv ct) ps sp:=by
 refine⟨len,λA outer s H z X vs Q E l g G r i=>?_⟩;have O:=len _ _ _ _ i;have m:=g.mod.kin.keeps λb o e=>(g.bs b o e).1;have L:=g.mod.nolimit.keeps λb o e=>(g.bs b o e).1
 have c:∀y∈ps.zip X,scope.names.lookup y.1=Nz _\/(scope.names.lookup y.1=Nz _/\((cellsFrom (s.heap.objs.size+1) _ []).lookup y.1).isSome=NA):=λZ W=>by obtain⟨n,v⟩:=Z;exact(by
  rcases S.par n (RM W).1 with q|q
  ·exact .inl q
  ·exact .inr ⟨q,PySem.W.cellsFrom_some _ _ _ (.inl q)⟩)
 refine codeAny_call_function l.depth (m _ _ lk) rfl S.co S.gen rfl (PySem.W.codeRec_of m j) (G _ _ _ _ ?_);refine wpAny_newFunctionEnv_cells S.kind c λC M s1 x=>?_;subst M;refine⟨L.keeps x.toInCall.keep,codeAny_func ?_⟩;obtain⟨t,U,T⟩:=h A _ s H _ Q E (l.deeper _) i;have I:Inv (gN CX P w K _ _ N _ _ f _ A _ s H E) _ _ H _:=FC S l.hd g O r x;refine Oz (U _ _ _ H _ I T) (λF B d=>?_) λe B d=>d
 have fin:∀{a:St} {H':Hp} {v:V} {u:NF},Inv (gN CX P w K mg base N qual scope f cdv A _ s H E) [] a _ _->RelV v u->Q v H'->CE outer P w H s Q u B:=
  λ{a H' v u} J R q=>⟨v,_,J.os,J.bare,J.base,J.hok,R,q⟩
 cases F with
 |ret u=>obtain⟨v,a,H',J,R,q⟩:=d;exact fin J R q
 |next=>obtain⟨a,H',J,q⟩:=d;exact fin (v:=V.non) J rfl q
 |brk=>obtain⟨_,_,_,q⟩:=d;simp_all
 |cont=>obtain⟨_,_,_,q⟩:=d;simp_all
section
variable {X:Cx}{x:Str}{p pos:Pos}{es:Lx}{t:TA}{id T:String}{r:List V->Hp->VK->Prop}
noncomputable def FD(r:List V->Hp->VK->Prop)(t:TA):TE:=λσ H Q=>t σ H λvs H1=>r vs H1 Q
theorem FE(f:aX X (.builtin id) r)(i:Gl X x)(j:X.mg x=none)(l:bootBuiltins x=Nz (.builtin id))(d:PA X (e::es) t)(k:x≠"__name__":=by decide)(a:(x==("__debug__":Str))=NB:=by decide)
  (g:starEach (e::es) X.env=(NB,eval e X.env)::starEach es X.env:=by rfl) (b:(backTo pos (starEach es X.env)).any (·.1)=NB:=by rfl):PE X (.Call (.Name x p) (e::es) [] pos) (FD r t):=by
 intro P s m H Q I h;exact OI (eh I i j l (Pn (a' (d _ _ s _ H _ I h) λu S z=>by obtain⟨_,_,c,R,q⟩:=z;exact(f _ _ _ _ _ _ Q c R q)) g b) k a)
theorem lW(f:aX X (.type T) r)(i:Gl X x)(j:X.mg x=none)(l:bootBuiltins x=Nz (.type T))(d:PA X (e::es) t)(k:x≠"__name__":=by decide)(a:(x==("__debug__":Str))=NB:=by decide)
  (g:starEach (e::es) X.env=(NB,eval e X.env)::starEach es X.env:=by rfl) (b:(backTo pos (starEach es X.env)).any (·.1)=NB:=by rfl):PE X (.Call (.Name x p) (e::es) [] pos) (FD r t):=by
 intro P s m H Q I h;exact OI (eh I i j l (Z2 (a' (d _ _ s _ H _ I h) λu S ⟨_,_,c,R,q⟩=>f _ _ _ _ _ _ Q c R q) g b) k a)
end
end L2
namespace HT
section
open PySem.SeqAt
open PySem.AutoSeq1 (wpAny_loadPart')
open PySem.MeetsSeq PySem.MeetsSeq2 PySem.MeetsSeq3
end
theorem lX{t b:ND}{vs W:Lv}(q:Ss s.heap t vs.toArray)(p:Ss s.heap b W.toArray)(m:vs≠[])
  (h1:W=[]->Q (.ref t) s) (o:W≠[]->Q (.ref s.heap.objs.size) {s with heap:=s.heap.push {cls:=.type "tuple",data:=.seq (vs++W).toArray}})
  (g:vs.length+W.length<=sizeLine):wpAny (model prog w) A (binaryOp .Add (.ref t) (.ref b)) Q E s:=by
 obtain⟨⟨cls,i,d,sl⟩,c,j,n,k⟩:=id q;obtain⟨⟨C,D,f,S⟩,h,H,N,a⟩:=id p;simp only at j k H a;subst j k H a;have e:vs.toArray++W.toArray=(vs++W).toArray:=by simp
 by_cases hw:W=[]
 ·exact Tu ⟨_,c,rfl⟩ ⟨_,h,rfl⟩ R1 SV PySem.F.slot_tuple_add PySem.F.entry_tuple_add (PySem.F.args_tuple_add_2 _ _)
   (tuple_addW1 t b vs.toArray W.toArray n N i D sl S (by simpa using m) (by simp[hw])) ⟨c,h,h1 hw⟩
 ·refine Tu ⟨_,c,rfl⟩ ⟨_,h,rfl⟩ R1 SV PySem.F.slot_tuple_add PySem.F.entry_tuple_add (PySem.F.args_tuple_add_2 _ _)
   (tuple_addW2 t b vs.toArray W.toArray n N i D sl S (by simpa using m) (by simpa using hw) (by rw[Zy,Zy];exact g)) ⟨c,h,?_⟩
  rw[e];exact o hw
noncomputable def bH(n d:Nat):Option Int->Nat
 |none=>d
 |some v=>if v<0 then(v+(n:Int)).toNat else min v.toNat n
theorem rS(n d:Nat)(H:d<=n)(o:Option Int):bH n d o<=n:=by
 cases o with
 |none=>exact H
 |some v=>
  show(if v<0 then(v+(n:Int)).toNat else min v.toNat n)<=n;by_cases h:v<0
  ·rw[if_pos h];omega
  ·rw[if_neg h];exact Nat.min_le_right _ _
theorem wO(v:Int)(n d:Nat):(if v<0 then max (v+(n:Int)) 0 else min v (n:Int))=((bH n d (Nz v):Nat):Int):=by
 show(if v<0 then max _ 0 else min v _)=((if v<0 then(v+(n)).toNat else min _ n):Nat)
 grind
theorem FF(lo hi:Option Int)(n:Nat):Ri lo hi 1 (n:Int)=(((bH n 0 lo:Nat):Int),((bH n n hi:Nat):Int)):=by
 refine SH ?_ ?_
 ·cases lo with
  |none=>rfl
  |some v=>exact wO v n 0
 ·cases hi with
  |none=>rfl
  |some v=>exact wO v n n
theorem ar_pg(i j:Nat):(if(i:Int)<j then((j:Int)-i-1)/1+1 else 0).toNat=j-i:=by
 by_cases h:i<j
 ·rw[if_pos (Int.ofNat_lt.mpr h),Int.ediv_one,Int.sub_add_cancel];exact Int.toNat_sub j i
 ·rw[if_neg (fun q=>h (Int.ofNat_lt.mp q)),Nat.sub_eq_zero_of_le (Nat.le_of_not_lt h)];rfl
theorem FG(i j:Nat):PQ (i:Int) (j:Int) 1=j-i:=by unfold PQ;rw[if_pos (show(1:Int)>0 by decide)];exact ar_pg i j
theorem wP{v:NF}{o:Option Int}{Q:Option Int->NC->Prop}(p:QP v o)(h:Q o s):wpAny (model prog w) A (Builtin.Slice.slicePartIndex v) Q E s:=by
 cases p with
 |none=>exact slicePart_none h
 |int i t=>exact slicePart_int h
theorem wQ{lo:Option Int}{Q:Int×Int×Nat->NC->Prop}(hs:s.heap.IsSliceOf sl vl vu .none)(pl:QP vl lo)(p:QP vu hi)
  (h:Q (((bH n 0 lo:Nat):Int),1,bH n n hi-bH n 0 lo) s):wpAny (model prog w) A (Builtin.Slice.sliceApplied (.ref sl) (pure (n:Int))) Q E s:=by
 obtain⟨o,a,b,H⟩:=id hs;refine Za (Za (Z7 a H rfl (Za (Z7 a H rfl (Za (Z7 a H rfl (Ze ?_)))))));refine Za (slicePart_none ?_);refine Za (wP pl (Za (wP p (Za (Ze ?_)))));show wpAny _ _ (match Ri _ _ 1 n with| (lo,hi)=>pure (lo,(1:Int),PQ lo hi 1)) _ _ s;rw[FF _ _ n];show wpAny _ _ (pure _) _ _ s;rw[FG];exact Ze h
theorem FH(xs:Av)(i k:Nat):((NJ k).filterMap λ(m:Nat)=>xs[((i:Int)+(m:Int)*1).toNat]?).toArray=((xs.toList.drop i).take k).toArray:=by
 have e:(λ(m:Nat)=>xs[((i:Int)+(m:Int)*1).toNat]?)=λm=>xs[i+m]? :=by
  funext m;have:((i:Int)+(m:Int)*1).toNat=i+m:=by omega
  rw[this]
 rw[e];have:=pick_run xs i k;rw[Tc]at this;have E:((λx=>xs[x]?)∘λx=>i+x)=λm=>xs[i+m]? :=rfl;rw[E]at this;rw[this]
theorem FI{t:ND}{lo:Option Int}(a:Ss s.heap t items)(hs:s.heap.IsSliceOf sl vl vu .none)(pl:QP vl lo)(p:QP vu hi)
  (hw:¬(bH items.size 0 lo=0/\bH items.size items.size hi=items.size))
  (h:Q (.ref s.heap.objs.size) {s with heap:=s.heap.push {cls:=.type "tuple",data:=.seq ((items.toList.drop (bH items.size 0 lo)).take (bH items.size items.size hi-bH items.size 0 lo)).toArray}})
  (i:items.size<=sizeLine):wpAny (model prog w) A (getItem (.ref t) (.ref sl)) Q E s:=by
 have H:sizeOk (.seq ((items.toList.drop (bH items.size 0 lo)).take (bH items.size items.size hi-bH items.size 0 lo)).toArray):=by show((items.toList.drop (bH items.size 0 lo)).take (bH items.size items.size hi-bH items.size 0 lo)).toArray.size<=sizeLine;rw[Zy,N2,PM,Zv];exact Nat.le_trans (Nat.min_le_right _ _) (Nat.le_trans (Nat.sub_le _ _) i)
 have j:bH items.size items.size hi<=items.size:=rS _ _ (Zg _) hi;obtain⟨o,e,c,g⟩:=id hs;have b:s.TypeIs (.ref sl) "slice":=⟨o,e,c⟩;unfold getItem
 try with_reducible refine Z8 ?_
 first|refine Za (Ze ?_)|skip
 refine Za (wpAny_sequenceKey a.typeIs (by decide) ?_)
 refine Za (Z4 (name:=OA "__getitem__") a.typeIs OD
  (Z1 OD a.typeIs entry_tuple_getitem ?_ (args_tuple_getitem _ _)))
 show wpAny _ _ (Rb (.ref t)>>=_) _ _ s;refine Za (tupleItemsOf_ a ?_);refine Za (Qu b ?_);rw[if_pos (by decide)];refine Za (wQ hs pl p ?_);have d:¬((((bH items.size 0 lo:Nat):Int)==0&&(1:Int)==1&&(bH items.size items.size hi-bH items.size 0 lo)==items.size)=NA):=by intro q;rw[ZL,ZL]at q;have k:((bH items.size 0 lo:Nat):Int)=0:=Rt q.1.1;have l:bH items.size items.size hi-bH items.size 0 lo=items.size:=Rt q.2;exact hw ⟨by omega,by omega⟩
 show wpAny _ _ (if(((bH items.size 0 lo:Nat):Int)==0&&(1:Int)==1&&(bH items.size items.size hi-bH items.size 0 lo)==items.size)=NA then _ else _) _ _ s;rw[if_neg d,FH]
 first
  |exact Za (m:=O2 _) (Yg (Ze ⟨_,rfl,Ze h⟩) H)
  |exact Za (m:=O2 _) (Yg (Za (Ze (Ze ⟨_,rfl,Ze h⟩))) H)
  |exact Za (Za (m:=O2 _) (Yg (Ze (Ze ⟨_,rfl,Ze h⟩)) H))
  |exact Za (Za (m:=O2 _) (Yg (Ze ⟨_,rfl,Ze h⟩) H))
end HT
namespace L2
abbrev TO:=St->Hp->(Option Int->Hp->Prop)->Prop
def PO(X:Cx)(e:Option Expr)(t:TO):Prop:=
 ∀(pq:Lp) (s:NC) (σ:St) (H:Hp) (Q:Option Int->Hp->Prop),Inv X pq σ H s->t σ H Q->
  wpAny (model X.prog X.w) X.A (evalPart e X.env) (λu s'=>∃o H',Inv X pq σ H' s'/\QP u o/\Q o H') X.xe s
noncomputable def lY:TO:=λ_ H Q=>Q none H
noncomputable def wR(t:TE):TO:=λσ H Q=>t σ H λx H1=>∃i,x=.int i/\Q (Nz i) H1
theorem rT:∀{us:Lv},Vals (ns.map V.int) us->Ru us ns:=by
 induction ns with
 |nil=>intro us r;cases r;exact .nil
 |cons n ns i=>
  intro us r;cases r with
  |cons R a=>obtain⟨t,e⟩:=R;subst e;exact .cons n t (i a)
section
variable {X:Cx}{te:TE}{lo hi:Option Expr}{tl th:TO}{pos:Pos}
theorem lZ:PO X none lY:=by intro p s a H Q I h;exact Ze ⟨_,H,I,.none,h⟩
theorem l3(h:PE X e te):PO X (Nz e) (wR te):=by intro p s c H Q I hw;refine a' (h _ s _ H _ I hw) λu S z=>?_;obtain⟨x,_,a,r,b⟩:=z;obtain⟨i,rfl,q⟩:=b;obtain⟨t,rfl⟩:=r;exact⟨_,_,a,.int i t,q⟩
def Ex(X:Cx)(r:V->Option Int->Option Int->Hp->VK->Prop):Prop:=
 ∀(pq:Lp) (s:NC) (σ:St) (H:Hp) (x:V) (v vl vu:NF) (lo hi:Option Int) (sl:ND) (Q:VK),Inv X pq σ H s->RelV x v->s.heap.IsSliceOf sl vl vu .none->QP vl lo->QP vu hi->r x lo hi H Q->
  ∃T id,typeLookup (.type T) "__getitem__"=pure (Nz (.builtin id))/\s.TypeIs v T/\wpAny (model X.prog X.w) X.A (getItem v (.ref sl)) (EP X pq σ Q) X.xe s
noncomputable def Nj(r:V->Option Int->Option Int->Hp->VK->Prop)(t:TE)(b T:TO):TE:=λσ H Q=>t σ H λx H1=>b σ H1 λl H2=>T σ H2 λu a=>r x l u a Q
theorem FJ{r:V->Option Int->Option Int->Hp->VK->Prop}(n:Ex X r)(j:PE X e te)(m:PO X lo tl)(p:PO X hi th):PE X (.Subscript e (.Slice lo hi none p2) pos) (Nj r te tl th):=by intro C s F H Q I h;refine Subscript_ (a' (j _ s _ H _ I h) λv D z=>?_);obtain⟨x,_,c,R,w⟩:=z;refine wpAny_Slice (a' (m _ _ _ _ _ c w) λB E z=>z.elim λl z=>z.elim λ_ z=>z.elim λd z=>z.elim λP y=>a' (p _ _ _ _ _ d y) λvu S z=>?_);obtain⟨u,_,f,t,A⟩:=z;refine Ze ?_;have g:Inv X _ _ _ {S with heap:=S.heap.push {cls:=.type "slice",data:=.fields #[B,vu,.none]}}:=f.kept λb O q=>Zc _ q;obtain⟨T,id,i,o,k⟩:=n _ _ _ _ x v _ _ l u _ Q g R (Heap.IsSliceOf.new ..) P t A;exact tail_any o i k rfl
noncomputable def gO(xs:List V)(lo hi:Option Int):List V:=(xs.drop (HT.bH xs.length 0 lo)).take (HT.bH xs.length xs.length hi-HT.bH xs.length 0 lo)
theorem wS(xs:List V)(lo hi:Option Int):(gO xs lo hi).length<=xs.length:=by unfold gO;rw[N2,PM];omega
def FK(K:Fg):V->Option Int->Option Int->Hp->VK->Prop:=λx lo hi H Q=>∃a xs,x=.ref a/\ca K H a xs/\
 ¬(HT.bH xs.length 0 lo=0/\HT.bH xs.length xs.length hi=xs.length)/\∀p,H p=none->Q (.ref p) (bg H p (.tup (gO xs lo hi)))
theorem sl_tup:Ex X (FK X.K):=by
 intro m s u H x v V n l e sl Q I R j p P h;obtain⟨a,d,rfl,k,hw,q⟩:=h;cases R;obtain⟨i,r,f,g⟩:=I.tuple k;have c:i.toArray.size=d.length:=by rw[Zy];exact r.length.symm
 refine⟨"tuple",_,PyProof.Rows.slot_tuple_getitem.lookup,f.typeIs,?_⟩;refine HT.FI f j p P (by rw[c];exact hw) ?_ (by rw[c];exact g);rw[c];refine⟨.ref s.heap.objs.size,_,I.laid (t':=s.toks) (o:=.tup (gO d l e)) (λb O q=>Zc _ q) (Zg _) ?_,rfl,q _ (I.hok.fresh (Zg _))⟩;exact⟨Zw (wS d l e) g,_,(r.drop (HT.bH d.length 0 l)).take (HT.bH d.length d.length e-HT.bH d.length 0 l),Tv _ _,vS.new _ _⟩
noncomputable def wT(K:Fg):R2:=λx y H Q=>∃a b xs ys,x=.ref a/\y=.ref b/\ca K H a xs/\ca K H b ys/\xs≠[]/\xs.length+ys.length<=sizeLine/\
 (ys=[]->Q (.ref a) H)/\(ys≠[]->∀p,H p=none->Q (.ref p) (bg H p (.tup (xs++ys))))
theorem Vals.nil_iff{xs:List V}(r:Vals xs us):us=[]↔xs=[]:=by
 cases r with
 |nil=>simp
 |cons _ _=>simp
theorem l4:cQ X (binaryOp .Add) (wT X.K):=by intro n s A H x y v u Q I l m h;obtain⟨a,b,t,Y,rfl,rfl,c,d,e,f,j,k⟩:=h;subst l;subst m;obtain⟨g,R,p,_⟩:=I.tuple c;obtain⟨i,r,P,_⟩:=I.tuple d;refine HT.lX p P (λz=>e (R.nil_iff.mp z)) (λz=>⟨.ref a,H,I,rfl,j (r.nil_iff.mp z)⟩) (λz=>?_) (by rw[<-R.length,<-r.length];exact f);refine⟨.ref _,_,I.laid (λb o q=>Zc _ q) (Zg _) ?_,rfl,k (λw=>z (r.nil_iff.mpr w)) _ (I.hok.fresh (Zg _))⟩;exact⟨by simp_all,_,R.append r,Tv _ _,vS.new _ _⟩
end
noncomputable def gL(n:Nat)(i:Int):Option Nat:=if 0<=i then(if i<n then Nz i.toNat else none)else if-(n:Int)<=i then Nz (i+n).toNat else none
noncomputable def fX{a:Type}(xs:List a)(i:Int):Option a:=(gL xs.length i).bind λj=>xs[j]?
theorem rV{i:Int}{j:Nat}(h:gL n i=Nz j):seqIndex? i n=Nz j/\j<n/\ -(n:Int)<=i/\i<n:=by
 unfold gL at h;by_cases a:0<=i
 ·rw[if_pos a]at h;by_cases H:i<n
  ·rw[if_pos H]at h;have e:=Yk h;exact⟨by rw[seqIndex_of a H,e],by lia,by lia,H⟩
  simp_all
 ·rw[if_neg a]at h;by_cases H: -n<=i
  ·rw[if_pos H]at h;have e:=Yk h;exact⟨by rw[Tw (by simp_all) H,e],by lia,H,by lia⟩
  simp_all
theorem wU{xs:List α}{i:Int}{v:α}(h:fX xs i=Nz v):∃j,seqIndex? i xs.length=Nz j/\xs[j]?=Nz v/\j<xs.length/\ -(xs.length:Int)<=i/\i<xs.length:=by
 unfold fX at h;cases e:gL xs.length i with
 |none=>simp_all
 |some j=>rw[e]at h;obtain⟨H,a,b,c⟩:=rV e;exact⟨j,H,h,a,b,c⟩
def wV(b:Expr):Prop:=∀o i,subscripted b NB o i=operate [o,i] (getItem o i)
def wX(X:Cx)(r:R2):Prop:=
 ∀(value S:Expr) (pq:Lp) (s:NC) (σ:St) (H:Hp) (x y:V) (v u:NF) (Q:VK),Inv X pq σ H s->RelV x v->RelV y u->r x y H Q->
  subscripted S NB v u=operate [v,u] (getItem v u)->wpAny (model X.prog X.w) X.A (subscriptTail value S v u) (EP X pq σ Q) X.xe s
def rX(X:Cx)(id:String)(r:V->List V->Hp->VK->Prop):Prop:=
 ∀(pq:Lp) (s:NC) (σ:St) (H:Hp) (x:V) (xs:List V) (v:NF) (us:Lv) (Q:VK),Inv X pq σ H s->RelV x v->Vals xs us->r x xs H Q->
  wpAny (model X.prog X.w) X.A (call (.builtin id) (v::us)) (EP X pq σ Q) X.xe s
section
variable {X:Cx}{a b:Expr}{ta tb:TE}{pos:Pos}
theorem wY{r:R2}(f:wX X r)(d:PE X a ta)(e:PE X b tb)(hs:wV b):PE X (.Subscript a b pos) (Ew r ta tb):=by intro p s j H Q I h;exact Subscript_ (ro d e I h λv u S x y i c R g q=>f a b _ _ _ _ x y v u Q c R g q (hs _ _))
noncomputable def FL(K:Fg):R2:=λx y H Q=>∃p xs i v,x=.ref p/\y=.int i/\c8 K H p xs/\fX xs i=Nz v/\Q v H
noncomputable def FN(K:Fg):R2:=λx y H Q=>∃p xs i v,x=.ref p/\y=.int i/\ca K H p xs/\fX xs i=Nz v/\Q v H
theorem l5:wX X (FL X.K):=by
 intro V S F s J H x y v u Q I n o h d;obtain⟨p,G,i,z,rfl,rfl,m,k,q⟩:=h;cases n;obtain⟨t,rfl⟩:=o;obtain⟨a,r,P,D⟩:=I.list m;obtain⟨j,c,e,A,f,g⟩:=wU k;obtain⟨w,E,R⟩:=r.get e;have B:=r.length;have C:=iC;have fin:EP X _ _ Q w s:=⟨z,H,I,R,q⟩;by_cases b:0<=i
 ·have l:i.toNat=j:=by
   rw[seqIndex_of b g]at c;simp_all
  exact item_listR P.isList b (by omega) (by simp_all) fin d
 ·have l:(i+a.toArray.size).toNat=j:=by
   rw[Tw (by omega) f]at c;simp_all
  exact Tx P.isList.typeIs slot_list_getitem.lookup
   (wpAny_getItem_list_neg P.isList (by omega) (by simp_all) (by omega) (by simp_all) ⟨rfl,fin⟩) d
theorem rY:wX X (FN X.K):=by
 intro V S C s F H x y v u Q I f g h d;obtain⟨p,D,i,z,rfl,rfl,c,b,q⟩:=h;cases f;obtain⟨t,rfl⟩:=g;obtain⟨e,r,P,B⟩:=I.tuple c;obtain⟨j,k,a,l,m,n⟩:=wU b;obtain⟨w,E,R⟩:=r.get a;have o:=r.length;have A:=iC;have fin:EP X _ _ Q w s:=⟨z,H,I,R,q⟩
 exact Tx P.typeIs slot_tuple_getitem.lookup
  (getItem_tuple (j:=j) P (by omega) (by omega) (by simp_all) (by simp_all) ⟨rfl,fin⟩) d
theorem FO(its:Lv)(n j:Nat)(u:NF):N7 (·.setIfInBounds j u) {cls:=.type "list",data:=.seq its.toArray n}={cls:=.type "list",data:=.seq (its.set j u).toArray n}:=by simp[N7]
theorem Inv.lst{σ:St}{H:Hp}{p:ND}{xs:List V}(I:Inv X pq σ H s)(h:H p=Nz (.lst xs)):
  ∃(its:Lv) (n:Nat),Vals xs its/\s.heap.get? p=Nz {cls:=.type "list",data:=.seq its.toArray n}/\xs.length<=sizeLine:=by
 obtain⟨z,its,n,r,e⟩:=I.hok p _ h;exact⟨_,n,r,e,z⟩
theorem Inv.lstUpd{σ:St}{H:Hp}{p:ND}{xs y:List V}{its i:Lv}{n N:Nat}{f:Obj->Obj}(I:Inv X pq σ H s)(h:H p=Nz (.lst xs))
  (g:s.heap.get? p=Nz {cls:=.type "list",data:=.seq its.toArray n}) (c:f {cls:=.type "list",data:=.seq its.toArray n}={cls:=.type "list",data:=.seq i.toArray N}) (r:Vals y i) (j:y.length<=sizeLine) (t:Nat):
  Inv X pq σ (bg H p (.lst y)) {s with heap:=s.heap.update p f,toks:=t}:=by
 have e:(s.heap.update p f).get? p=Nz {cls:=.type "list",data:=.seq i.toArray N}:=by rw[NW f g (by rw[c]<;>rfl),c]
 refine I.write (by rw[h];trivial) (.inl rfl) (λb u d q=>(Pt _ _ (Ne.symm d)).trans q) ⟨_,e⟩ ?_;exact⟨j,_,_,r,e⟩
def wZ:V->V->V->Hp->(Hp->Prop)->Prop:=λo i v H Q=>∃p xs k j,o=.ref p/\i=.int k/\H p=Nz (.lst xs)/\gL xs.length k=Nz j/\Q (bg H p (.lst (xs.set j v)))
theorem FP:rc X wZ:=by
 intro P s D H o i v O G u Q I A R B h;obtain⟨p,C,k,j,rfl,rfl,x,y,q⟩:=h;cases A;obtain⟨t,rfl⟩:=R;obtain⟨a,n,r,e,z⟩:=I.lst x;obtain⟨b,E,l,m⟩:=rV y;have d:=r.length;have F:=iC
 have f:Inv X P D (bg H p (.lst (C.set j v))) {s with heap:=s.heap.update p (N7 (·.setIfInBounds j u))}:=
  I.lstUpd x e (FO a n j u) (r.set B j) (by rw[RN];exact z) s.toks
 by_cases g:0<=k
 ·have c:k.toNat=j:=by
   rw[seqIndex_of g m]at b;exact Yk b
  exact PySem.W.ki_setAt e g (by omega) (by rw[Zy,<-d];exact m) (by rw[c];exact⟨_,f,q⟩)
 ·have c:(k+(a.toArray.size:Int)).toNat=j:=by
   rw[Tw (by omega) l]at b;rw[Zy,<-d];exact Yk b
  exact PySem.W.ki_setBack e (by omega) (by rw[Zy,<-d];exact l) (by omega) (by rw[c];exact⟨_,f,q⟩)
theorem ar_m1(n:Nat){i:Int}(h:¬i<0):max 0 (min i n)=((min i.toNat n:Nat):Int):=by
 obtain⟨k,rfl⟩:=Int.eq_ofNat_of_zero_le (Int.not_lt.mp h);rw[Int.toNat_natCast]
 rcases Nat.le_total k n with q|q
 ·rw[Nat.min_eq_left q,Int.min_eq_left (Int.ofNat_le.mpr q)];exact Int.max_eq_right (Int.natCast_nonneg _)
 ·rw[Nat.min_eq_right q,Int.min_eq_right (Int.ofNat_le.mpr q)];exact Int.max_eq_right (Int.natCast_nonneg _)
theorem ar_m2(n:Nat){i:Int}(h:i<0):max 0 (min (i+n) n)=((i+n).toNat:Int):=by rw[Int.min_eq_left (by have:=Int.add_le_add_right (Int.le_of_lt h) n;rwa[Int.zero_add]at this),Int.toNat_eq_max,Int.max_comm]
theorem FQ(lo hi:Option Int)(n:Nat):(sliceBounds lo hi none n).1=((HT.bH n 0 lo:Nat):Int)/\(sliceBounds lo hi none n).2.1=((HT.bH n n hi:Nat):Int)/\(sliceBounds lo hi none n).2.2=1:=by
 refine⟨?_,?_,rfl⟩
 ·cases lo with
  |none=>rfl
  |some i=>
   simp only[sliceBounds,HT.bH,Td,show(1:Int)>0 by decide,if_true];by_cases h:i<0
   ·simp only[h,if_true];exact ar_m2 n h
   ·simp only[h,if_false];exact ar_m1 n h
 ·cases hi with
  |none=>rfl
  |some i=>
   simp only[sliceBounds,HT.bH,Td,show(1:Int)>0 by decide,if_true];by_cases h:i<0
   ·simp only[h,if_true];exact ar_m2 n h
   ·simp only[h,if_false];exact ar_m1 n h
theorem FR(its:Lv)(lo hi:Option Int):slicePick its.toArray lo hi none=((its.drop (HT.bH its.length 0 lo)).take (HT.bH its.length its.length hi-HT.bH its.length 0 lo)).toArray:=by obtain⟨h,H,a⟩:=FQ _ _ _;unfold slicePick;rw[h,H,a];simp only[sliceRange_one,pick_run]<;>rfl
def FU(K:Fg):V->Option Int->Option Int->Hp->VK->Prop:=λx lo hi H Q=>∃a xs,x=.ref a/\c8 K H a xs/\∀p,H p=none->Q (.ref p) (bg H p (.lst (gO xs lo hi)))
theorem l6:Ex X (FU X.K):=by intro k s t H x v V m l j sl Q I R e p P h;obtain⟨a,n,rfl,f,q⟩:=h;subst R;obtain⟨i,r,d,g⟩:=I.list f;have c:=r.length;refine⟨_,_,slot_list_getitem.lookup,d.isList.typeIs,?_⟩;refine wpAny_getItem_list_slice d.isList e p P .none (by decide) ?_ (by simp_all);rw[FR,<-c];refine⟨.ref _,_,I.laid (λb o q=>Zc _ q) (Zg _) ?_,rfl,q _ (I.hok.fresh (Zg _))⟩;exact⟨Zw (wS _ _ _) g,_,0,(r.drop _).take _,Zk _ rfl⟩
theorem FV:aX X (.builtin "len") (λxs H Q=>∃p ys,xs=[.ref p]/\(c8 X.K H p ys\/ca X.K H p ys)/\Q (.int ys.length) H):=by
 intro f s g H xs U Q I r h;obtain⟨p,ys,rfl,b,q⟩:=h;obtain⟨u,rfl,d⟩:=vals1 r;cases d;have e:=iC;rcases b with b|b
 ·obtain⟨i,R,P,c⟩:=I.list b;have a:=R.length;exact Calls.call_len_list P.isList (by grind) ⟨.int _,H,I.tok _,⟨s.toks+1,by simp_all⟩,q⟩
 ·obtain⟨i,R,P,c⟩:=I.tuple b;have a:=R.length;exact len_tuple P (by grind) ⟨.int _,H,I.tok _,⟨s.toks+1,by simp_all⟩,q⟩
theorem FW:aX X (.builtin "len") (λxs H Q=>∃z,xs=[.str z]/\z.length<=sizeLine/\Q (.int z.length) H):=by intro p s c H xs U Q I r h;obtain⟨z,rfl,b,q⟩:=h;obtain⟨u,rfl,t,rfl⟩:=vals1 r;have a:=iC;exact len_str (by lia) ⟨.int _,H,I.tok _,⟨_,rfl⟩,q⟩
theorem FX:aX X (.type "list") (λxs H Q=>∃p ys,xs=[.ref p]/\(c8 X.K H p ys\/ca X.K H p ys)/\∀l,H l=none->Q (.ref l) (bg H l (.lst ys))):=by
 intro v s w H xs U Q I r h;obtain⟨p,ys,rfl,d,q⟩:=h;obtain⟨u,rfl,t⟩:=vals1 r;subst t
 have fin:∀(i:List _),Vals _ i->ys.length<=sizeLine->∀(a:NO) (C:Nat),(∀b O,s.heap.get? b=Nz _->a.get? b=Nz _)->
   a.get? _=Nz _->EP X _ _ Q _ _:=λi R f a C k e=>
  ⟨.ref _,_,I.laid (t':=s.toks) k (Zg _) (show bx _ _ _ _ _ (.lst _)from⟨f,_,C,R,e⟩),rfl,q _ (I.hok.fresh (Zg _))⟩
 rcases d with d|d
 ·obtain⟨i,R,P,f⟩:=I.list d;have c:=R.length;obtain⟨o,m,g,n,j⟩:=P.isList;exact call_list_seq p (.inl rfl) m g j (λa C k e=>fin _ R f _ _ k e) (by simp_all)
 ·obtain⟨i,R,P,f⟩:=I.tuple d;have c:=R.length;obtain⟨o,m,g,n,j⟩:=P;exact call_list_seq p (.inr rfl) m g j (λa C k e=>fin _ R f _ _ k e) (by simp_all)
theorem w4:aX X (.type "tuple") (λxs H Q=>∃p ys,xs=[.ref p]/\((c8 X.K H p ys/\∀l,H l=none->Q (.ref l) (bg H l (.tup ys)))\/(ca X.K H p ys/\Q (.ref p) H))):=by
 intro n s v H xs U Q I r h;obtain⟨p,ys,rfl,h⟩:=h;obtain⟨u,rfl,j⟩:=vals1 r;subst j;rcases h with⟨a,q⟩| ⟨a,q⟩
 ·obtain⟨i,R,P,f⟩:=I.list a;have d:=R.length;refine call_tuple_list P.isList (λm k=>?_) (by simp_all);have c:=I.kept (t':=s.toks) k
  have g:=
   c.laid (t':=s.toks) (λb o e=>Zc _ e) (Zg _) (show bx _ _ _ _ _ (.tup _)from⟨f,_,R,Tv _ _,vS.new _ _⟩)
  exact⟨.ref _,_,g,rfl,q _ (c.hok.fresh (Zg _))⟩
 ·obtain⟨i,R,P,f⟩:=I.tuple a;exact call_tuple_same P ⟨.ref p,H,I,rfl,q⟩
def w5(K:Fg)(T:String)(x:V)(H:Hp):Prop:=match x with
 | .str _=>T="str"
 | .int _=>T="int"
 | .ref p=>(T="list"/\∃xs,c8 K H p xs)\/(T="tuple"/\∃o,K.lookup p=Nz o/\o.cls=.type "tuple"/\o.dict=none)\/
   (T="dict"/\((∃k,H p=Nz (.dK k))\/∃k,H p=Nz (.dT k)))\/(T="set"/\∃S n,H p=Nz (.set S n))
 |_=>False
theorem jq{σ:St}{H:Hp}{T:String}{x:V}{v:NF}(I:Inv X pq σ H s)(r:RelV x v)(ty:w5 X.K T x H):
  s.TypeIs v T/\∀a,v=.ref a->∃ob,s.heap.get? a=Nz ob/\ob.dict=none:=by
 cases x with
 |str z=>
  obtain⟨t,rfl⟩:=r;cases show T="str" from ty
  exact⟨typeIs_str s z t,λ_ e=>nomatch e⟩
 |int i=>
  obtain⟨t,rfl⟩:=r;cases show T="int" from ty
  exact⟨typeIs_int s i t,λ_ e=>nomatch e⟩
 |ref p=>
  cases r;rcases ty with⟨rfl,l,g⟩| ⟨rfl,o,h,f,d⟩| ⟨rfl,h⟩| ⟨rfl,S,n,h⟩
  ·obtain⟨j,_,P,_⟩:=I.list g;refine⟨P.isList.typeIs,λa e=>?_⟩;obtain⟨o,n,e,c,d,_⟩:=P;simp_all
  ·refine⟨⟨o,I.kIn p o h,f⟩,λa e=>?_⟩;cases e;exact⟨o,I.kIn _ o h,d⟩
  ·have z:∃o,s.heap.get? p=Nz o/\o.ExactDict:=by
    rcases h with⟨k,h⟩| ⟨k,h⟩
    ·obtain⟨_,_,_,_,o,_,_,e,E,_⟩:=I.hok p _ h;simp_all
    ·obtain⟨_,_,_,_,o,_,_,e,E,_⟩:=I.hok p _ h;simp_all
   obtain⟨o,e,E⟩:=z;refine⟨⟨o,e,E.1⟩,λa b=>?_⟩;cases b;exact⟨o,e,E.2.1⟩
  ·obtain⟨o,_,_,_,e,E,_⟩:=I.hok p _ h;refine⟨⟨o,e,E.1⟩,λa b=>?_⟩;cases b;exact⟨o,e,E.2.1⟩
 |_=>exact False.elim ty
noncomputable def FY(K:Fg)(T:String)(r:V->List V->Hp->VK->Prop)(to:TE):TE:=λσ H Q=>to σ H λx H1=>w5 K T x H1/\r x [] H1 Q
noncomputable def Nk(K:Fg)(T:String)(r:V->List V->Hp->VK->Prop)(to:TE)(t:TA):TE:=λσ H Q=>to σ H λx H1=>w5 K T x H1/\t σ H1 λxs H2=>r x xs H2 Q
variable {o:Expr}{es:Lx}{to:TE}{t:TA}{cpos:Pos}{T id:String}{r:V->List V->Hp->VK->Prop}
theorem rZ(p:PlainAttrs T)(S:Slot T name id)(c:typeOf (.builtin id)=pure (.type "method_descriptor"))(g:rX X id r)(i:PE X o to)
  (a:attributeBase o name X.env (eval o X.env)=eval o X.env:=by rfl) (b:(apos.endLine==cpos.line)=NA:=by rfl):PE X (.Call (.Attribute o name apos) [] [] cpos) (FY X.K T r to):=by
 intro P s k H Q I h;refine wpAny_Call_method0_late a b (a' (i _ s _ H _ I h) λv j z=>?_);obtain⟨x,_,d,R,ty,q⟩:=z;obtain⟨e,f⟩:=jq d R ty;exact⟨T,_,p,S,c,e,f,Sf rfl (PySem.evalArgs_none (g _ _ _ _ x _ v _ Q d R .nil q))⟩
theorem w6(P:PlainAttrs T)(S:Slot T name id)(f:typeOf (.builtin id)=pure (.type "method_descriptor"))(n:rX X id r)(p:PE X o to)(m:PA X (e::es) t)
  (a:attributeBase o name X.env (eval o X.env)=eval o X.env:=by rfl)
  (c:((backTo cpos (starEach (e::es) X.env)).all (λx=> !x.1)&&(backToKw cpos (keywordEach [] X.env)).all (λx=>x.1.isSome)
   &&decide ((e::es).length+([]:List Keyword).length+(if([]:List Keyword).isEmpty then 0 else 1)<30))=NA:=by rfl)
  (b:(apos.endLine==cpos.line)=NA:=by rfl) (hs:starEach (e::es) X.env=(NB,eval e X.env)::starEach es X.env:=by rfl) (d:(backTo cpos (starEach es X.env)).any (·.1)=NB:=by rfl):
  PE X (.Call (.Attribute o name apos) (e::es) [] cpos) (Nk X.K T r to t):=by
 intro y s C H Q I h;refine wpAny_Call_method_late a c b rfl (a' (p _ s _ H _ I h) λv A z=>?_);obtain⟨x,_,g,R,ty,q⟩:=z;obtain⟨k,l⟩:=jq g R ty;refine⟨T,_,P,S,f,k,l,?_⟩;have i:=m cpos _ _ _ _ _ g q;rw[hs]at i⊢;exact Sf (by assumption) (Calls.evalArgs_plain (a' i λU B z=>by obtain⟨_,_,j,w,u⟩:=z;exact(n _ _ _ _ x _ v _ Q j R w u)))
end
def Ey(X:Cx)(id:String)(r:V->List V->Hp->VK->Prop):Prop:=
 ∀(pq:Lp) (s:NC) (σ:St) (H:Hp) (x:V) (xs:List V) (v:NF) (us:Lv) (Q:VK),Inv X pq σ H s->RelV x v->Vals xs us->r x xs H Q->
  wpAny (model X.prog X.w) X.A (call (.builtin id) (v::us)) (EP X pq σ Q) X.xe s
theorem Vals.un{x:V}{xs:List V}(h:Vals (x::xs) us):∃u r,us=u::r/\RelV x u/\Vals xs r:=by
 cases h with
 |cons r t=>exact⟨_,_,rfl,r,t⟩
theorem Vals.nul(h:Vals [] us):us=[]:=by cases h;rfl
theorem Vals.one{x:V}(h:Vals [x] us):∃u,us=[u]/\RelV x u:=by obtain⟨u,r,rfl,H,a⟩:=h.un;cases a.nul;exact⟨u,rfl,H⟩
theorem Vals.two{x y:V}(h:Vals [x,y] us):∃u v,us=[u,v]/\RelV x u/\RelV y v:=by obtain⟨u,r,rfl,a,H⟩:=h.un;obtain⟨v,rfl,b⟩:=H.one;lia
theorem Vals.zero:∀{us:Lv},Vals [] us->us=[]
 |_,.nil=>rfl
theorem Vals.dropLast{xs:List V}(h:Vals xs us):Vals xs.dropLast us.dropLast:=by
 induction h with
 |nil=>exact .nil
 |cons r t i=>
  cases t with
  |nil=>exact .nil
  |cons q T=>exact .cons r i
theorem Vals.eraseIdx:∀{xs:List V} {us:Lv} (i:Nat),Vals xs us->Vals (xs.eraseIdx i) (us.eraseIdx i)
 |_,_,_,.nil=>.nil
 |_,_,0,.cons _ t=>t
 |_,_,i+1,.cons r t=>.cons r (Vals.eraseIdx i t)
theorem Vals.rep{xs:List V}(h:Vals xs us):∀k:Nat,Vals (NG k xs).flatten (NG k us).flatten
 |0=>.nil
 |k+1=>by exact Vals.append h (Vals.rep h k)
theorem w8{a:Type}:∀(l:List a) (i:Nat),(l.eraseIdx i).length<=l.length
 | [],_=>Zg _
 |_::_,0=>Nat.le_succ _
 |_::r,i+1=>Pb (w8 r i)
theorem w9(its:Lv):∀(k:Nat) (acc:Lv),
  List.foldl (λx1 x2=>x1++x2) acc.toArray (NG k its.toArray)=(acc++(NG k its).flatten).toArray
 |0,acc=>by simp
 |k+1,acc=>by
  have e:acc.toArray++its.toArray=(acc++its).toArray:=by simp
  have E:acc++its++(NG k its).flatten=acc++(NG (k+1) its).flatten:=by grind
  rw[<-E,<-w9 _ k _,<-e,Pe,OJ]
section
variable {X:Cx}{σ:St}{H:Hp}{l b:ND}{xs ys zs:List V}
theorem Inv.lset{its i:Lv}{n:Nat}{f:Av->Av}{t':Nat}(I:Inv X pq σ H s)(a:H l=Nz (.lst xs))
  (e:s.heap.get? l=Nz {cls:=.type "list",data:=.seq its.toArray n}) (c:f its.toArray=i.toArray) (g:Vals ys i) (j:ys.length<=sizeLine):
  Inv X pq σ (bg H l (.lst ys)) {s with heap:=s.heap.update l (N7 f),toks:=t'}:=by
 have q:=PySem.IsL.update e f;rw[c]at q;refine I.write (by rw[a];exact trivial) (.inl rfl) (λB u b d=>(Pt _ _ (Ne.symm b)).trans d) ⟨_,q⟩ ?_;exact⟨j,_,_,g,q⟩
theorem Inv.lnew{t':Nat}(I:Inv X pq σ H s)(a:Vals ys its)(b:ys.length<=sizeLine):
  Inv X pq σ (bg H s.heap.objs.size (.lst ys)) {s with heap:=s.heap.push {cls:=.type "list",data:=.seq its.toArray},toks:=t'}:=
 I.laid (λ_ _ q=>Zc _ q) (Zg _) ⟨b,_,0,a,Zk _ rfl⟩
theorem Inv.fresh(I:Inv X pq σ H s):H s.heap.objs.size=none:=I.hok.fresh (Zg _)
theorem Inv.lstM(I:Inv X pq σ H s)(h:H l=Nz (.lst xs)):xs.length<=sizeLine/\∃(its:Lv) (n:Nat),Vals xs its/\xs.length=its.length/\s.heap.get? l=Nz {cls:=.type "list",data:=.seq its.toArray n}:=by obtain⟨z,its,n,r,e⟩:=I.hok l _ h;exact⟨z,_,n,r,r.length,e⟩
theorem w_(h:n<=sizeLine):P5 n=NB:=by exact ZQ (by omega)
end
section
variable {X:Cx}
def l7:V->List V->Hp->VK->Prop:=λx vs H Q=>∃l xs y,x=.ref l/\vs=[y]/\H l=Nz (.lst xs)/\xs.length<sizeLine/\Q .non (bg H l (.lst (xs++[y])))
theorem xa:Ey X "list.append" l7:=by intro p s j H x vs v U Q I c b h;obtain⟨l,g,y,rfl,rfl,a,f,q⟩:=h;cases c;obtain⟨u,rfl,R⟩:=b.one;obtain⟨z,i,n,r,d,e⟩:=I.lstM a;refine P7 F.slot_list_append ⟨_,e,rfl⟩ F.entry_list_append (F.args_list_append_2 _ _) (PySem.list_append l _ n u (by simp_all)) ⟨e,?_⟩;refine⟨.non,_,I.lset a e (by simp) (r.append (.cons R .nil)) ?_,rfl,q⟩;rw[Zz,QS];omega
def l8:V->List V->Hp->VK->Prop:=λx vs H Q=>∃l b xs zs,x=.ref l/\vs=[.ref b]/\H l=Nz (.lst xs)/\H b=Nz (.lst zs)/\xs.length+zs.length<=sizeLine/\Q .non (bg H l (.lst (xs++zs)))
theorem FZ:Ey X "list.extend" l8:=by
 intro P s A H x vs v U Q I o m h;obtain⟨l,b,w,y,rfl,rfl,f,g,t,q⟩:=h;cases o;obtain⟨u,rfl,k⟩:=m.one;cases k;obtain⟨z,c,n,r,p,e⟩:=I.lstM f;obtain⟨Z,i,N,R,j,E⟩:=I.lstM g;have d:c.toArray.size+i.toArray.size<=sizeLine:=by simp_all
 have a:¬(!c.toArray.isEmpty&&P5 (c.toArray.size+i.toArray.size))=NA:=by rw[w_ d];simp_all
 refine P7 F.slot_list_extend ⟨_,e,rfl⟩ F.entry_list_extend (F.args_list_extend_2 _ _)
  (AutoSeq1.list_extend_list_list_0 l _ n b _ _ a (by lia) (by omega)) ⟨e,E,?_⟩
 refine⟨.non,_,I.lset f e (by simp) (r.append R) ?_,rfl,q⟩;simp_all
def F0:V->List V->Hp->VK->Prop:=λx vs H Q=>∃l xs y,x=.ref l/\vs=[]/\H l=Nz (.lst xs)/\xs[xs.length-1]?=Nz y/\Q y (bg H l (.lst xs.dropLast))
theorem r3:Ey X "list.pop" F0:=by
 intro p s o H x vs v U Q I g f h;obtain⟨l,m,y,rfl,rfl,c,d,q⟩:=h;cases g;have a:=f.zero;subst a;obtain⟨z,i,n,r,j,e⟩:=I.lstM c;obtain⟨u,k,R⟩:=r.get d;have b:i.toArray[i.toArray.size-1]?=Nz u:=by simp_all
 refine P7 F.slot_list_pop ⟨_,e,rfl⟩ F.entry_list_pop (F.args_list_pop_1 _) (MeetsSeq.list_pop_last l _ n u b (by simp_all)) ⟨e,?_⟩;refine⟨y,_,I.lset c e ?_ r.dropLast ?_,R,q⟩
 ·simp_all
 ·rw[PY];omega
def r4:V->List V->Hp->VK->Prop:=λx vs H Q=>∃l xs i k y,x=.ref l/\vs=[.int i]/\H l=Nz (.lst xs)/\ -(2^63)<=i/\i<2^63/\seqIndex? i xs.length=Nz k/\xs[k]?=Nz y/\Q y (bg H l (.lst (xs.eraseIdx k)))
theorem F1:Ey X "list.pop" r4:=by
 intro P s B H x vs v U Q I m j h;obtain⟨l,o,i,k,y,rfl,rfl,a,b,c,p,d,q⟩:=h;cases m;obtain⟨u,rfl,g⟩:=j.one;obtain⟨t,rfl⟩:=g;obtain⟨z,f,n,r,A,e⟩:=I.lstM a;obtain⟨w,hw,R⟩:=r.get d
 refine P7 F.slot_list_pop ⟨_,e,rfl⟩ F.entry_list_pop (F.args_list_pop_2 _ _)
  (MeetsSeq.list_pop_at l _ n i t k w (fitsIndex_both b c) (by simp_all) (by simp_all) (by simp_all)) ⟨e,?_⟩
 refine⟨y,_,I.lset a e ?_ (r.eraseIdx k) ?_,R,q⟩
 ·simp_all
 ·have:=w8 o k;omega
noncomputable def F2:R2:=λx y H Q=>∃l b xs zs,x=.ref l/\y=.ref b/\H l=Nz (.lst xs)/\H b=Nz (.lst zs)/\xs.length+zs.length<=sizeLine/\∀p,H p=none->Q (.ref p) (bg H p (.lst (xs++zs)))
theorem r6:cQ X (binaryOp .Add) F2:=by
 intro p s A H x y v u Q I j k h;obtain⟨l,b,t,w,rfl,rfl,f,d,o,q⟩:=h;subst j;subst k;obtain⟨z,a,n,r,m,e⟩:=I.lstM f;obtain⟨Z,i,N,R,g,E⟩:=I.lstM d;refine PySem.P.add_list e E ?_ (by simp_all);have c:a.toArray++i.toArray=(a++i).toArray:=by simp
 rw[c];exact⟨.ref _,_,I.lnew (r.append R) (by simp_all),rfl,q _ I.fresh⟩
noncomputable def F3:R2:=λx y H Q=>∃l k xs,x=.ref l/\y=.int k/\H l=Nz (.lst xs)/\ -(2^63)<=k/\k<2^63/\xs.length*k.toNat<=sizeLine/\
 ∀p,H p=none->Q (.ref p) (bg H p (.lst (NG k.toNat xs).flatten))
theorem l9(xs:List α)(k:Nat):(NG k xs).flatten.length=k*xs.length:=by simp_all
theorem jr:cQ X (binaryOp .Mult) F3:=by
 intro P s K H x y v u Q I R A h;obtain⟨l,k,J,rfl,rfl,p,j,o,w,q⟩:=h;cases R;obtain⟨t,rfl⟩:=A;obtain⟨z,i,n,r,E,e⟩:=I.lstM p;have f:i.toArray.size*k.toNat<=sizeLine:=by simp_all
 have c:¬i.toArray.size*k.toNat>(2^63-1)/8:=by
  have:(sizeLine)<=(2^63-1)/8:=by decide
  omega
 have d:¬(!Builtin.List.listFitsIndex k)=NA:=by rw[fitsIndex_both j o];simp_all
 have b:¬P5 (i.toArray.size*k.toNat)=NA:=by rw[w_ f];simp_all
 have g:List.foldl (λB C=>B++C) #[] (NG (if i.toArray.isEmpty=NA then 0 else k.toNat) i.toArray)=(NG k.toNat i).flatten.toArray:=by
  have D:=λm=>by have:=w9 i m [];omega
  cases i with
  |nil=>simp
  |cons a G=>simp_all
 refine wpAny_binaryOp_repeat_ref (by lia) ⟨_,e,rfl⟩ (λS=>typeIs_int _ k t) noFill_list_mul F.fills_int_mul F.slot_int_rmul repeat_list F.slot_int_index.lookup
  (P7 F.slot_int_rmul (typeIs_int s k t) F.entry_int_rmul (F.args_int_rmul_2 _ _) (int___rmul___int_list k t l _ n)
   ⟨e,rfl,⟨_,e,rfl⟩,P7 F.slot_list_mul ⟨_,e,rfl⟩ F.entry_list_mul (F.args_list_mul_2 _ _) (AutoListH.list___mul___list_int_3 l _ n k t d c b) ⟨e,?_⟩⟩)
 rw[g];exact⟨.ref _,_,I.lnew (r.rep _) (by rw[l9,Su];exact w),rfl,q _ I.fresh⟩
end
set_option maxRecDepth 100000 in
section
variable {X:Cx}
end
end L2
namespace Att
open PySem PySem.W PySem.Calls PyProof.Rows
theorem F4{P:Params}:∀(ns:Li) (vs:Lv),WellAll P h vs (ns.map WData.int)->Ru vs ns:=by
 intro ns
 induction ns with
 |nil=>intro vs w;cases w;exact .nil
 |cons n ns i=>
  intro vs w;cases w with
  |cons a b=>cases a;exact .cons _ _ (i _ b)
theorem F5{l:OpenLaw}(k:l.most=Nz n){P:Params}{A:List WData}{v:Lv}
  (H:l.row.toRowW.claim.pre A=NA) (f:WellAll P h v A):
  ∃a vs ns,v=[Oy a]/\A=[WData.list (ns.map WData.int)]/\h.get? a=Nz {cls:=.type "list",data:=.seq vs.toArray}/\Ru vs ns/\ns.length<=n:=by
 obtain⟨d,r,rfl,g,i⟩:=hasAllW_cons (pre_splitW H).1;obtain rfl:=hasAllW_nil i;obtain⟨x,rfl,j⟩:=hasW_list g;obtain⟨ns,rfl⟩:=items_int j
 have c:ns.length<=n:=by
  have e:=by have e:=(holds_andW (pre_splitW H).2).1;rw[k]at e;exact e
  have o:=condW_of e (w_not (w_lt w_lit (w_len_list (w_arg rfl))));simp_all
 cases f with
 |cons w W=>
  cases W;cases w with
  |list m b=>exact⟨_,_,_,rfl,rfl,m,F4 _ _ b,c⟩
theorem F6(l:OpenLaw)(a:List WData):l.row.toRowW.claim.post a (.bool NA) a=NA:=
 postW_of
  (show WShape.has _ _ _=NA by rfl)
  (show(WTm.eq _ _).value _ _=Nz _ from w_eq_bool (w_res rfl) w_lit) rfl
theorem F7{l:OpenLaw}{q:NU}{d:DefRec}
  (C:l.most=Nz n) (g:d.params.defaults=[])
  (call:∀(w:N0) (S s:NC) (mg m:Mg) (fa:ND) (o:Obj) (pm cd doc:NF) (a:ND) (vs:Lv) (ns:Li),
   Ground q loose [] XP w S mg m s.heap->YP w s.heap->
   s.heap.get? fa=Nz o->o.data=.func (docDef d.name d.params d.body d.scope pm cd doc)->s.heap.CodeRec cd d.name->mg d.name=Nz (.ref fa)->
   s.heap.get? a=Nz {cls:=.type "list",data:=.seq vs.toArray}->Ru vs ns->ns.length<=n->s.gens= #[]->
   codeAny (model l.prog w) callerA (.call (.ref fa) ⟨[.ref a],[]⟩) (λr s'=>r=.ok (.ret (.bool NA))/\OldK s.heap s'.heap/\s'.os=s.os/\QJ s'.gens) s):
  WalkO q loose XP YP l.row.toRowW d [] (λf vs=>PySem.call f vs):=by
 intro w S s mg m G Y fa o pm cd doc D kV E x e hD i y A v as c k I j z;obtain rfl:D=.none:=Dflts.none hD g;obtain rfl:kV=.none:=Dflts.noKw hD;obtain⟨a,vs,ns,rfl,rfl,b,h,H⟩:=F5 C c j;refine enter_call (Ph (call w _ _ _ _ _ o _ _ _ a _ _ G Y E (fd_plain x) e i b h H y) λr s' F=>?_);obtain⟨rfl,p,t,u⟩:=F;exact⟨.inl ⟨_,_,_,rfl,λ_=>rfl,.bool _,F6 l _,λ_=>⟨List.Pairwise.nil,λ_ B=>nomatch B⟩⟩,p,t,u⟩
section
variable {K:Frag}
end
end Att
namespace L2
theorem xb:∀{vs:Lv} {ns:Li},Ru vs ns->Vals (ns.map V.int) vs
 |_,_,.nil=>.nil
 |_,_,.cons n t h=>.cons ⟨t,rfl⟩ (xb h)
def l_(H:Hp):Prop:=∀b,H b=none\/∃o xs,H b=Nz (.frz o (.lst xs))
theorem F8{P:NU}{w:N0}{M:Mg}{CX:ef}{k:Nat}{C:ND}{T:OW}{x:Str}{sp:Sp}{S:NC}{vs:Lv}{ns:Li}
  (Q:K.In S.heap) (p:S.heap.Ns mainGlobals mg) (f:S.heap.Ns builtinsNs M) (I:∀x:Str,x≠"__name__"->M x=bootBuiltins x) (l:S.heap.NoLimit) (hg:S.gens= #[])
  (G:S.heap.get? a=Nz {cls:=.type "list",data:=.seq vs.toArray}) (hi:Ru vs ns) (hl:ns.length<=sizeLine) (hr:cR k callerA)
  (F:∀base:NO,K.In base->base.Ns mainGlobals mg->c_ P w K mg base CX k C T [x] sp) (g:∀(s:NC) (u:NF),Sn s T ⟨[u],[]⟩ [(x,u)])
  (L:∀H:Hp,l_ H->c8 K H a (ns.map V.int)->sp [.ref a] H (λv _=>v=.bl NA) λ_ _ _=>False)
  (D:∀H e s',CX [] H S (λ_ _ _=>False) e s'->False):
  codeAny (model P w) callerA (.call (.ref C) ⟨[.ref a],[]⟩) (λr s'=>r=.ok (.ret (.bool NA))/\OldK S.heap s'.heap/\s'.os=S.os/\QJ s'.gens) S:=by
 have rv:=xb hi
 have c:∀H:Hp,l_ H->c8 K H a (ns.map V.int)->eI P w H S.heap->(∀b,H b≠none->b=a)->(H a≠none->K.lookup a=none)->
   codeAny (model P w) callerA (.call (.ref C) ⟨[.ref a],[]⟩) (λr s'=>r=.ok (.ret (.bool NA))/\OldK S.heap s'.heap/\s'.os=S.os/\QJ s'.gens) S:=by
  intro H U hS t hA hK;have B:∀{b:ND} {o:Obj},S.heap.get? b=Nz o->H b=none->(fZ S.heap H).get? b=Nz o:=λe n=>ES e n;have O:∀{b:ND} {o:Obj} {A:Array DictEntry} {E:Nat},S.heap.get? b=Nz o->o.data=.dict A E->H b=none:=λ{b o A E} e d=>by grind
  have N:∀{b:ND} {m:Mg},S.heap.Ns b m->(fZ S.heap H).Ns b m:=λ{b m} zq=>by obtain⟨o,A,E,e,d,r⟩:=zq;exact(⟨o,A,E,B e (O e d),d,r⟩)
  have j:K.In (fZ S.heap H):=λb o e=>B (Q b o e) (by grind);have hM:Mod K mg (fZ S.heap H):=⟨j,N p,⟨M,N f,I⟩,(by obtain⟨mc,Y,Z⟩:=l;exact(⟨mc,N Y,Z⟩))⟩;refine Ph ((F _ j (N p)).run callerA [] S H ⟨[.ref a],[]⟩ [.ref a] [.ref a] _ _ hr ⟨rfl,hM,λb o e=>lv e,Nat.le_of_eq (ER _ _),trivial,λb f=>absurd (show b∈([]:La)from f) (by simp),t,.of_eq hg⟩ (g S (.ref a)) (.cons rfl .nil) (L H U hS)) λr s' h=>?_;cases r with
  |error e=>exact(D H e s' h).elim
  |ok X=>
   cases X with
   |next=>exact False.elim h
   |brk=>exact False.elim h
   |cont=>exact False.elim h
   |ret u=>
    obtain⟨v,H',os,i,un,y,r',q⟩:=h;subst(q);obtain rfl:u=RQ NA:=r';refine⟨rfl,OldK.of_keep λb o e=>?_,os,i⟩;cases q:H b with
    |none=>exact un.keep b o e q (by intro z;exact absurd (show b∈([]:La)from z) (by simp)) (by simp)
    |some u=>
     rcases U b with z| ⟨ob,xs,z⟩
     ·rw[q]at z;cases z
     ·obtain⟨R,_⟩:=t b _ z;obtain⟨W,_⟩:=y b _ (un.frzs b ob _ z);rw[e]at R;cases R;exact W
 cases J:K.lookup a with
 |some o=>have e:=Q a o J;rw[G]at e;cases e;refine c (λ_=>none) (λ_=>.inl rfl) (.inr ⟨_,vs.toArray,_,J,rfl,rfl,rfl,by rw[Zy,hi.length];exact hl,by grind⟩) (λb u z=>by grind) (λb z=>absurd rfl z) λz=>absurd rfl z
 |none=>
  refine c (λb=>if b=a then Nz _ else none) (λb=>?_) (.inl (.inr ⟨{cls:=.type "list",data:=.seq vs.toArray},if_pos rfl⟩)) (λb u z=>?_) (λb z=>?_) λ_=>J
  ·grind
  ·by_cases f:b=a
   ·cases(if_pos f).symm.trans z;subst f;exact⟨G,by grind,vs,_,rv,G⟩
   ·cases(if_neg f).symm.trans z
  simp_all
theorem l'{l:PySem.W.OpenLaw}{q:NU}{d:DefRec}{K:Params->Fg}{CX:N0->ef}{sp:N0->Sp}{x:Str}
  (L:l.most=Nz n) (p:n<=sizeLine) (j:d.params.defaults=[]) (M:cR k callerA)
  (C:∀(w:N0) (h:NO),YP w h->(K w.params).In h)
  (F:∀(w:N0) (mg:Mg) (fa:ND) (h:NO),(K w.params).In h->h.Ns mainGlobals mg->mg d.name=Nz (.ref fa)->
   ∃fd:OW,(∀(s:NC) (u:NF),Sn s fd ⟨[u],[]⟩ [(x,u)])/\
    ∀base:NO,(K w.params).In base->base.Ns mainGlobals mg->c_ l.prog w (K w.params) mg base (CX w) k fa fd [x] (sp w))
  (r:∀(w:N0) (H:Hp) (a:ND) (ns:Li),ns.length<=n->l_ H->c8 (K w.params) H a (ns.map V.int)->sp w [.ref a] H (λv _=>v=.bl NA) λ_ _ _=>False)
  (i:∀(w:N0) (H:Hp) (s:NC) (e:NF) (s':NC),CX w [] H s (λ_ _ _=>False) e s'->False):
  PySem.W.WalkO q loose XP YP l.row.toRowW d [] (λf vs=>PySem.call f vs):=by
 refine Att.F7 L j λw S y mg Q fa o R N D a vs ns G Y P O I m g c b J=>?_;have t:=C w _ Y;obtain⟨fd,E,z⟩:=F w _ _ _ t G.T.g m;exact F8 t G.T.g G.T.b G.T.builtins G.T.nolimit J g c (Zw b p) M z E (λH A B=>r w H a _ b A B) λH e s'=>i w H _ e _
noncomputable def iD(s:O1):Arguments:=match s with
 | .FunctionDef _ a _ _ _ _ _ _ _ _=>a
 |_=>{posonlyargs:=[],args:=[],vararg:=none,kwonlyargs:=[],kw_defaults:=[],kwarg:=none,defaults:=[]}
noncomputable def dt(s:O1):List O1:=match s with
 | .FunctionDef _ _ b _ _ _ _ _ _ _=>b
 |_=>[]
noncomputable def dJ(s:O1):Scope:=match s with
 | .FunctionDef _ _ _ _ _ _ sc _ _ _=>sc
 |_=>{kind:=.function,names:=[],isGenerator:=NB,isCoroutine:=NB}
abbrev E0:XK:=λ_ _ _=>False
structure vU (K:Fg)(x qual:Str)(st:O1)(f:ND)(fd:OW):Prop where
 ex:∃(oc:NF) (od:Option ND) (kV doc pm:NF) (an:Option ND) (cdv ct:NF) (osl:Array (Ov)),
  fd=PySem.W.fnOf x qual (iD st) (dt st) (dJ st) .none kV doc pm an cdv ct/\K.lookup f=Nz ⟨oc,od,.func fd,osl⟩/\PySem.W.codeIn K cdv qual=NA
 kp:PySem.W.keepIn K (.ref f)=NA
theorem vU.binds{x:Str}{st:O1}{a:OW}(F:vU K x qual st f a)
  (h:∀(kV doc pm:NF) (an:Option ND) (cdv ct:NF) (us:Lv),us.length=ps.length->bindArgs (PySem.W.fnOf x qual (iD st) (dt st) (dJ st) .none kV doc pm an cdv ct) ⟨us,[]⟩=pure (ps.zip us)):Binds K a ps []:=by
 obtain⟨O,b,kV,doc,pm,an,cdv,ct,o,rfl,lk,H⟩:=F.ex;exact .all (h _ _ _ _ _ _)
theorem r8{x:Str}{st:O1}{an:Option ND}{kV:NF}(l:K.lookup f=Nz ⟨oc,od,.func (PySem.W.fnOf x qual (iD st) (dt st) (dJ st) .none kV doc pm an cdv ct),osl⟩)
  (c:PySem.W.codeIn K cdv qual=NA) (k:PySem.W.keepIn K (.ref f)=NA):vU K x qual st f (PySem.W.fnOf x qual (iD st) (dt st) (dJ st) .none kV doc pm an cdv ct):=⟨⟨_,_,_,_,_,_,_,_,_,rfl,l,c⟩,k⟩
section
variable {X:Cx}
end
end L2
variable {H H' H1 H0 Hx:L2.Hp}{X:L2.Cx}{σ σ':L2.St}{v v':L2.V}{ta te to:L2.TE}{tb:L2.St->L2.Hp->(L2.St->L2.Hp->Prop)->Prop}{tc:L2.TT}{wi:L2.TI}{CX:L2.ef}{sp:L2.Sp}{J:L2.It}{u':L2.HO}{B:La->L2.Hp->Prop}
namespace Py
theorem aG{C:Prop}{a b c d:Sort _}{p q r:a->b->c->d->Prop}(h:∃x y z w,p x y z w/\q x y z w/\r x y z w)(k:∀x y z w,p x y z w->q x y z w->r x y z w->C):C:=by
 grind
theorem r9{C:Prop}{a b c d e f g h i:Sort _}{p q r:a->b->c->d->e->f->g->h->i->Prop}(z:∃x1 x2 x3 x4 x5 x6 x7 x8 x9,p x1 x2 x3 x4 x5 x6 x7 x8 x9/\q x1 x2 x3 x4 x5 x6 x7 x8 x9/\r x1 x2 x3 x4 x5 x6 x7 x8 x9)(k:∀x1 x2 x3 x4 x5 x6 x7 x8 x9,p x1 x2 x3 x4 x5 x6 x7 x8 x9->q x1 x2 x3 x4 x5 x6 x7 x8 x9->r x1 x2 x3 x4 x5 x6 x7 x8 x9->C):C:=by grind
theorem aM{C:Prop}{a b c:Sort _}{p q r t:a->b->c->Prop}(h:∃x y z,p x y z/\q x y z/\r x y z/\t x y z)(k:∀x y z,p x y z->q x y z->r x y z->t x y z->C):C:=by obtain⟨x,y,z,H,d,e,f⟩:=h;exact k x y z H d e f
inductive D where
 |non|bl (b:Bool)|int (i:Int)|str (x:Str)
 |tup (xs:List D)|lst (xs:List D)|ref (n:Nat)|scr (xs:List D)
 |fn (x:Str)|dct|ty (n:String)|dks (ks:List (Li))
 deriving Inhabited
abbrev aa:=List (List D)
set_option genInjectivity false in
structure GS where
 mg:Mg
 F:La
noncomputable def r_(K:Fg)(H:Hp)(a:ND)(vs:List V):Prop:=(∃o,H a=Nz (.frz o (.lst vs)))\/
 ∃(o:Obj) (its:Av) (n:Nat),K.lookup a=Nz o/\o.cls=.type "list"/\o.dict=none/\o.data=.seq its n/\its.size<=sizeLine/\Vals vs its.toList
theorem r_.sq{vs:List V}(h:r_ K H a vs):c8 K H a vs:=by
 rcases h with⟨o,h⟩|h
 ·exact .inl (.inr ⟨o,h⟩)
 ·exact .inr h
noncomputable def hD(k:Li):Int:=reduceHash (Builtin.Tuple.tupleHashOf (k.map hashInt))
noncomputable def Nl(h:NO)(a:ND)(cs:List (Li×ND)):Prop:=(a==sysModules)=NB/\∃o es ep,h.get? a=Nz o/\o.ExactDict/\o.data=.dict es ep/\es.toList=cs.map λc=>⟨hD c.1,.ref c.2,.bool NA⟩
section
variable (K:Fg)(mg:GS)(μ:La)(H:Hp)
mutual
def Rep:D->V->Prop
 | .non,v=>v=.non
 | .bl b,v=>v=.bl b
 | .int i,v=>v=.int i
 | .str x,v=>v=.str x
 | .tup ds,v=>∃a vs,v=.ref a/\ca K H a vs/\aj ds vs
 | .lst ds,v=>∃a vs,v=.ref a/\H a=Nz (.lst vs)/\(a∉μ/\a∉mg.F)/\aj ds vs
 | .scr ds,v=>∃a vs,v=.ref a/\r_ K H a vs/\aj ds vs
 | .ref n,v=>∃a,v=.ref a/\μ[n]?=Nz a
 | .fn x,v=>∃a,v=.ref a/\mg.mg x=Nz (.ref a)
 | .dct,v=>∃a,v=.ref a/\H a=Nz (.dK [])
 | .ty n,v=>v=.ty n
 | .dks ks,v=>∃a cs,v=.ref a/\H a=Nz (.ext λh=>Nl h a cs)/\a∉mg.F/\(cs.map (·.1)=ks/\ks.Nodup)/\∀c∈cs,ca K H c.2 (c.1.map V.int)
def aj:List D->List V->Prop
 | [],vs=>vs=[]
 |d::ds,vs=>∃w W,vs=w::W/\Rep d w/\aj ds W
end
end
structure aO (K:Fg)(mg:GS)(μ:La)(S:aa)(H:Hp):Prop where
 live:∀a∈mg.F,∃o,H a=Nz o
 len:μ.length=S.length
 nd:μ.Nodup
 at_:∀(n:Nat) (a:ND) (ds:List D),μ[n]?=Nz a->S[n]?=Nz ds->∃vs,H a=Nz (.lst vs)/\aj K mg μ H ds vs
structure Ext (μ:La)(H:Hp)(μ':La)(H':Hp):Prop where
 pre:∃r,μ'=μ++r
 keep:∀a o,H a=Nz o->((∀xs,o≠.lst xs)\/a∉μ)->H' a=Nz o
 there:∀a o,H a=Nz o->∃o',H' a=Nz o'
 fresh:∀a∈μ',a∈μ\/H a=none
section
variable {mg:GS}{μ'':La}{H'':Hp}
theorem Ext.refl:Ext μ H μ H:=⟨⟨[],by simp⟩,λ_ _ h _=>h,λ_ o h=>⟨o,h⟩,λ_ h=>.inl h⟩
theorem Ext.trans(a:Ext μ H μ' H')(b:Ext μ' H' μ'' H''):Ext μ H μ'' H'':=by
 obtain⟨r,e⟩:=a.pre;obtain⟨R,E⟩:=b.pre;refine⟨⟨r++R,by simp_all⟩,λx o h c=>?_,λx o h=>?_,λx h=>?_⟩
 ·refine b.keep x o (a.keep x o h c) ?_;rcases c with c|c
  ·exact .inl c
  ·refine .inr λz=>?_;rcases a.fresh x z with z|z
   ·exact c z
   simp_all
 ·obtain⟨O,d⟩:=a.there x o h;exact b.there x _ d
 ·rcases b.fresh x h with h|h
  ·exact a.fresh x h
  ·refine .inr ?_;cases e:H x with
   |none=>rfl
   |some o=>obtain⟨O,d⟩:=a.there x o e;simp_all
theorem Ext.sqT{vs:List V}(x:Ext μ H μ' H')(h:ca K H a vs):ca K H' a vs:=by
 rcases h with(h| ⟨o,h⟩)|h
 ·exact .inl (.inl (x.keep _ _ h (.inl λ_ z=>by lia)))
 ·exact .inl (.inr ⟨o,x.keep _ _ h (.inl λ_ z=>by lia)⟩)
 ·exact .inr h
theorem Ext.frz{vs:List V}(x:Ext μ H μ' H')(h:r_ K H a vs):r_ K H' a vs:=by
 rcases h with⟨o,h⟩|h
 ·exact .inl ⟨o,x.keep _ _ h (.inl λ_ z=>by lia)⟩
 ·exact .inr h
theorem Ext.lst{vs:List V}(x:Ext μ H μ' H')(h:H a=Nz (.lst vs))(b:a∉μ):H' a=Nz (.lst vs)/\a∉μ':=by
 refine⟨x.keep _ _ h (.inr b),λz=>?_⟩;rcases x.fresh a z with z|z
 ·exact b z
 simp_all
theorem Ext.get(x:Ext μ H μ' H')(h:μ[n]?=Nz a):μ'[n]?=Nz a:=by obtain⟨r,rfl⟩:=x.pre;rw[Zu (Zm.mp h).1];exact h
mutual
theorem Rep.mono(x:Ext μ H μ' H'):∀(d:D) (v:V),Rep K mg μ H d v->Rep K mg μ' H' d v
 | .non,_,h=>h
 | .bl _,_,h=>h
 | .int _,_,h=>h
 | .str _,_,h=>h
 | .tup _,v,h=>by obtain⟨a,vs,e,q,r⟩:=h;exact⟨a,_,e,x.sqT q,aj.mono x _ _ r⟩
 | .lst _,v,h=>by obtain⟨a,vs,e,q,n,r⟩:=h;exact⟨a,_,e,(x.lst q n.1).1,⟨(x.lst q n.1).2,n.2⟩,aj.mono x _ _ r⟩
 | .scr _,v,h=>by obtain⟨a,vs,e,q,r⟩:=h;exact⟨a,_,e,x.frz q,aj.mono x _ _ r⟩
 | .ref n,v,h=>by obtain⟨a,e,q⟩:=h;exact⟨a,e,x.get q⟩
 | .fn y,v,h=>h
 | .ty y,v,h=>h
 | .dct,v,h=>by obtain⟨a,e,q⟩:=h;exact⟨a,e,x.keep _ _ q (.inl λ_ z=>by trivial)⟩
 | .dks _,v,h=>by obtain⟨a,C,e,q,n,r,k⟩:=h;exact⟨a,_,e,x.keep _ _ q (.inl λ_ z=>by trivial),n,r,λc b=>x.sqT (k c b)⟩
theorem aj.mono(x:Ext μ H μ' H'):∀(ds:List D) (vs:List V),aj K mg μ H ds vs->aj K mg μ' H' ds vs
 | [],vs,h=>h
 |d::ds,vs,h=>by obtain⟨w,W,e,r,q⟩:=h;exact⟨w,_,e,Rep.mono x d w r,aj.mono x _ _ q⟩
end
theorem aj.length:∀{ds:List D} {vs:List V},aj K mg μ H ds vs->ds.length=vs.length
 | [],vs,h=>by subst h;rfl
 |d::ds,vs,h=>by obtain⟨w,W,rfl,r,q⟩:=h;simp[aj.length q]
theorem aj.get:∀{ds:List D} {vs:List V} {i:Nat} {d:D},aj K mg μ H ds vs->ds[i]?=Nz d->∃v,vs[i]?=Nz v/\Rep K mg μ H d v
 | [],vs,i,d,h,e=>by simp_all
 |c::ds,vs,i,d,h,e=>by
  obtain⟨w,W,rfl,r,q⟩:=h;cases i with
  |zero=>simp_all
  |succ i=>simpa using aj.get q (by simp_all)
theorem aj.of:∀{ds:List D} {vs:List V},ds.length=vs.length->(∀(i:Nat) d v,ds[i]?=Nz d->vs[i]?=Nz v->Rep K mg μ H d v)->aj K mg μ H ds vs
 | [],[],_,_=>rfl
 | [],_::_,h,_=>by trivial
 |_::_,[],h,_=>by trivial
 |d::ds,v::vs,h,k=>by exact⟨v,_,rfl,k 0 d v rfl rfl,aj.of (by simp_all) λi a e b c=>k (i+1) _ _ (by trivial) (by trivial)⟩
theorem aj.nil:aj K mg μ H [] []:=rfl
theorem aj.cons{d:D}{ds:List D}{vs:List V}(h:Rep K mg μ H d v)(t:aj K mg μ H ds vs):aj K mg μ H (d::ds) (v::vs):=by unfold aj;exact⟨v,vs,rfl,h,t⟩
theorem aj.uncons{d:D}{ds:List D}{vs:List V}(h:aj K mg μ H (d::ds) vs):∃v w,vs=v::w/\Rep K mg μ H d v/\aj K mg μ H ds w:=by exact h
theorem aj.append:∀{ds es:List D} {vs w:List V},aj K mg μ H ds vs->aj K mg μ H es w->aj K mg μ H (ds++es) (vs++w)
 | [],es,vs,w,h,k=>by subst h;exact k
 |d::ds,es,vs,w,h,k=>by obtain⟨v,u,rfl,r,q⟩:=h.uncons;exact .cons r (aj.append q k)
theorem aj.take:∀{ds:List D} {vs:List V} (n:Nat),aj K mg μ H ds vs->aj K mg μ H (ds.take n) (vs.take n)
 | [],vs,n,h=>by subst h;simpa using aj.nil
 |d::ds,vs,0,h=>rfl
 |d::ds,vs,n+1,h=>by obtain⟨v,u,rfl,r,q⟩:=h.uncons;exact .cons r (aj.take n q)
theorem aj.drop:∀{ds:List D} {vs:List V} (n:Nat),aj K mg μ H ds vs->aj K mg μ H (ds.drop n) (vs.drop n)
 | [],vs,n,h=>by subst h;simpa using aj.nil
 |d::ds,vs,0,h=>h
 |d::ds,vs,n+1,h=>by obtain⟨v,u,rfl,r,q⟩:=h.uncons;exact aj.drop n q
theorem aj.set:∀{ds:List D} {vs:List V} (i:Nat) {d:D} {v:V},aj K mg μ H ds vs->Rep K mg μ H d v->aj K mg μ H (ds.set i d) (vs.set i v)
 | [],vs,i,_,_,h,_=>by subst h;rfl
 |d::ds,vs,0,_,_,h,k=>by obtain⟨v,u,rfl,r,q⟩:=h.uncons;exact .cons k q
 |d::ds,vs,i+1,_,_,h,k=>by obtain⟨v,u,rfl,r,q⟩:=h.uncons;exact .cons r (aj.set i q k)
theorem Ext.laid{p:ND}{o:HO}(b:H p=none):Ext μ H μ (bg H p o):=
 ⟨⟨[],by simp⟩,λa u h _=>by rw[a_ (dF h b)];exact h,λa u h=>⟨u,by rw[a_ (dF h b)];exact h⟩,λ_ h=>.inl h⟩
theorem aO.notin{S:aa}{p:ND}(s:aO K mg μ S H)(b:H p=none):p∉μ:=λz=>by obtain⟨n,a,e⟩:=ZD.mp z;have E:S[n]?=Nz (S[n]'(by rw[<-s.len];exact a)):=Zf _;obtain⟨vs,h,_⟩:=s.at_ n p _ (by simp_all) E;simp_all
theorem aO.notF{S:aa}{p:ND}(s:aO K mg μ S H)(a:H p=none):p∉mg.F:=λz=>by obtain⟨o,h⟩:=s.live p z;simp_all
theorem aO.laid{S:aa}{p:ND}{o:HO}(s:aO K mg μ S H)(b:H p=none):aO K mg μ S (bg H p o):=by refine⟨λa h=>(Ext.laid (μ:=μ) b).there a _ (s.live a h).choose_spec,s.len,s.nd,λn a D c d=>?_⟩;obtain⟨vs,h,r⟩:=s.at_ n a _ c d;exact⟨_,by rw[a_ (dF h b)];exact h,aj.mono (Ext.laid b) _ _ r⟩
theorem Ext.boxed{p:ND}{o:HO}(b:H p=none):Ext μ H (μ++[p]) (bg H p o):=
 ⟨⟨[p],rfl⟩,λa u h _=>by rw[a_ (dF h b)];exact h,λa u h=>⟨u,by rw[a_ (dF h b)];exact h⟩,λa h=>by
  rcases Zp.mp h with h|h
  ·exact .inl h
  ·have:a=p:=by simpa using h
   subst this;exact .inr b⟩
theorem aO.boxed{S:aa}{p:ND}{ds:List D}{vs:List V}(s:aO K mg μ S H)(e:H p=none)(r:aj K mg μ H ds vs):
  aO K mg (μ++[p]) (S++[ds]) (bg H p (.lst vs)):=by
 have N:=s.notin e;refine⟨λa h=>(Ext.laid (μ:=μ) e).there a _ (s.live a h).choose_spec,by simp[s.len],?_,λn a g c d=>?_⟩
 ·rw[ZN]
  exact⟨s.nd,by simp,λa i b j=>by
   have:b=p:=by simpa using j
   subst this;intro z;subst z;exact N i⟩
 ·by_cases f:n<μ.length
  ·rw[Zu f]at c;rw[Zu (by rw[<-s.len];exact f)]at d;obtain⟨w,h,q⟩:=s.at_ n a g c d;exact⟨w,by rw[a_ (dF h e)];exact h,aj.mono (Ext.boxed e) _ _ q⟩
  ·have k:=s.len;have E:n=μ.length:=by have:=(Zm.mp c).1;simp at this;omega
   subst E;rw[Zs (Zg _)]at c;rw[Zs (by omega)]at d;simp[k]at c d;subst c;subst d;exact⟨vs,dr,aj.mono (Ext.boxed e) _ _ r⟩
theorem Ext.wrote{xs:List V}{y:List V}(d:a∈μ)(h:H a=Nz (.lst xs)):Ext μ H μ (bg H a (.lst y)):=by
 refine⟨⟨[],by simp⟩,λb o e c=>?_,λb o e=>?_,λ_ h=>.inl h⟩
 ·have:b≠a:=by grind
  rw[a_ this];exact e
 ·by_cases z:b=a
  ·subst z;exact⟨_,dr⟩
  ·exact⟨o,by rw[a_ z];exact e⟩
theorem aO.wrote{S:aa}{ds:List D}{xs vs:List V}(s:aO K mg μ S H)(hn:μ[n]?=Nz a)(h:H a=Nz (.lst xs))(r:aj K mg μ H ds vs):
  aO K mg μ (S.set n ds) (bg H a (.lst vs)):=by
 have ha:=ZA hn;have hl:=s.len;refine⟨λb hb=>(Ext.wrote ha h).there b _ (s.live b hb).choose_spec,by simp_all,s.nd,λm b es h1 h2=>?_⟩;by_cases e:m=n
 ·subst e;rw[hn]at h1;cases h1;rw[N5 (by grind)]at h2;cases h2;exact⟨_,dr,aj.mono (Ext.wrote ha h) _ _ r⟩
 ·rw[Oi (Ne.symm e)]at h2;obtain⟨ws,q,r'⟩:=s.at_ m b _ h1 h2;have:b≠a:=by rintro rfl;exact e (L2_nodup s.nd h1 hn)
  exact⟨_,by rw[a_ this];exact q,aj.mono (Ext.wrote ha h) _ _ r'⟩
where
 L2_nodup {l:List _} (nd:l.Nodup) {i j:Nat} {x:ND} (a:l[i]?=Nz x) (b:l[j]?=Nz x):i=j:=by obtain⟨h1,e1⟩:=Zm.mp a;obtain⟨h2,e2⟩:=Zm.mp b;exact(TX nd).mp (e1.trans e2.symm)
end
end Py
variable {xs ys ds:List Py.D}{T S S1 S' S2:Py.aa}{d W v8:Py.D}{Γ:Str->Option Py.D}{O:ND->List Py.D->List L2.V->L2.HO->Prop}{x5 x6 x3 x2 x4 x0 x7:Option Py.D}
namespace Py
open PySem.Sem (wp)
open PySem.Builtin
end Py
namespace Py
set_option genInjectivity false in
structure Exc where
 cls:Str
 fs:List D
inductive Res (α:Type) where
 |ok (a:α) (S:aa)
 |err (x:Exc) (S:aa)
 |fail
abbrev bt:Nat:=16777216
theorem ma:sizeLine=bt:=PC
noncomputable def aU(K:Fg)(m:GS)(μ:La)(H:Hp)(Q:VK):Res D->Prop
 | .ok d S'=>∀μ' H' v,Ext μ H μ' H'->aO K m μ' S' H'->Rep K m μ' H' d v->Q v H'
 |_=>False
section
variable {mg:GS}{Q:VK}
theorem aU.now(w:aU K mg μ H Q (.ok d S))(s:aO K mg μ S H)(r:Rep K mg μ H d v):Q v H:=w _ H v .refl s r
theorem aU.tup{vs:List V}(w:aU K mg μ H Q (.ok (.tup ds) S))(s:aO K mg μ S H)(r:aj K mg μ H ds vs)(p:ND)(h:H p=none):Q (.ref p) (bg H p (.tup vs)):=
 w _ _ _ (.laid h) (s.laid h) (by exact⟨p,_,rfl,ca.of dr,aj.mono (.laid h) _ _ r⟩)
theorem aU.lst{vs:List V}(w:aU K mg μ H Q (.ok (.lst ds) S))(s:aO K mg μ S H)(r:aj K mg μ H ds vs)(p:ND)(h:H p=none):Q (.ref p) (bg H p (.lst vs)):=
 w _ _ _ (.laid h) (s.laid h) (by exact⟨p,_,rfl,dr,⟨s.notin h,s.notF h⟩,aj.mono (.laid h) _ _ r⟩)
theorem aU.box{vs:List V}(w:aU K mg μ H Q (.ok (.ref S.length) (S++[ds])))(s:aO K mg μ S H)(r:aj K mg μ H ds vs)(p:ND)(h:H p=none):Q (.ref p) (bg H p (.lst vs)):=
 w _ _ _ (.boxed h) (s.boxed h r) (by exact⟨p,rfl,by rw[Zs (by rw[s.len];simp_all),s.len];simp⟩)
theorem aU.wrote{xs vs:List V}(w:aU K mg μ H Q (.ok d (S.set n ds)))(s:aO K mg μ S H)(b:μ[n]?=Nz a)(h:H a=Nz (.lst xs))(r:aj K mg μ H ds vs)
  (R:Rep K mg μ H d v):Q v (bg H a (.lst vs)):=
 w _ _ _ (.wrote (ZA b) h) (s.wrote b h r) (Rep.mono (.wrote (ZA b) h) _ _ R)
noncomputable def dL(S:aa):D->Option (List D)
 | .lst xs=>Nz xs
 | .ref n=>S[n]?
 |_=>none
noncomputable def av(S:aa):D->Option (List D)
 | .lst xs=>Nz xs
 | .ref n=>S[n]?
 | .tup xs=>Nz xs
 | .scr xs=>Nz xs
 |_=>none
theorem dM(s:aO K mg μ S H)(r:Rep K mg μ H d v)(e:dL S d=Nz xs):∃a vs,v=.ref a/\H a=Nz (.lst vs)/\aj K mg μ H xs vs:=by
 cases d with
 |lst y=>unfold dL at e;cases e;unfold Rep at r;obtain⟨a,vs,e,h,_,q⟩:=r;exact⟨a,vs,e,h,q⟩
 |ref n=>unfold dL at e;unfold Rep at r;obtain⟨a,E,h⟩:=r;obtain⟨vs,b,q⟩:=s.at_ n a xs h e;exact⟨a,vs,E,b,q⟩
 |_=>cases e
theorem ff(s:aO K mg μ S H)(r:Rep K mg μ H d v)(e:av S d=Nz xs):∃a vs,v=.ref a/\(c8 K H a vs\/ca K H a vs)/\aj K mg μ H xs vs:=by
 cases d with
 |lst y=>obtain⟨a,vs,E,h,q⟩:=dM s r (show dL S (.lst y)=Nz xs from e);exact⟨a,vs,E,.inl (.of h),q⟩
 |ref n=>obtain⟨a,vs,E,h,q⟩:=dM s r (show dL S (.ref n)=Nz xs from e);exact⟨a,vs,E,.inl (.of h),q⟩
 |tup y=>cases e;obtain⟨a,vs,e,h,q⟩:=r;exact⟨a,vs,e,.inr h,q⟩
 |scr y=>cases e;obtain⟨a,vs,e,h,q⟩:=r;exact⟨a,vs,e,.inl h.sq,q⟩
 |_=>cases e
theorem aJ{i:Int}(r:Rep K mg μ H (.int i) v):v=.int i:=by exact r
theorem f6{i:Bool}(r:Rep K mg μ H (.bl i) v):v=.bl i:=by exact r
theorem eK{i:Str}(r:Rep K mg μ H (.str i) v):v=.str i:=by exact r
theorem gP(r:Rep K mg μ H .non v):v=.non:=by exact r
theorem b3(r:Rep K mg μ H (.tup ds) v):∃a vs,v=.ref a/\ca K H a vs/\aj K mg μ H ds vs:=by exact r
theorem bI{i:Int}:Rep K mg μ H (.int i) (.int i):=rfl
theorem cS{i:Bool}:Rep K mg μ H (.bl i) (.bl i):=rfl
theorem js{i:Str}:Rep K mg μ H (.str i) (.str i):=rfl
theorem jt:Rep K mg μ H .non .non:=rfl
end
noncomputable def rD(K:Fg)(m:Mg)(g:D->D->aa->Res D):R2:=λx y H Q=>∃F μ S d e,aO K ⟨m,F⟩ μ S H/\Rep K ⟨m,F⟩ μ H d x/\Rep K ⟨m,F⟩ μ H e y/\aU K ⟨m,F⟩ μ H Q (g d e S)
noncomputable def iE(d e:D)(S:aa):Res D:=match d,e with
 | .int i,.int j=>.ok (.int (i+j)) S
 | .str x,.str y=>if x.length+y.length<=bt then .ok (.str (x++y)) S else .fail
 | .tup a,.tup b=>if a.length+b.length<=bt then .ok (.tup (a++b)) S else .fail
 |d,e=>match dL S d,dL S e with
  |some a,Nz b=>if a.length+b.length<=bt then .ok (.lst (a++b)) S else .fail
  |_,_=>.fail
noncomputable def me(d e:D)(S:aa):Res D:=match d,e with
 | .int i,.int j=>.ok (.int (i-j)) S
 |_,_=>.fail
noncomputable def sd(d e:D)(S:aa):Res D:=match d,e with
 | .int i,.int j=>if(-(2^64)<i/\i<2^64)\/(-(2^64)<j/\j<2^64)then .ok (.int (i*j)) S else if PD i<=100000/\PD j<=100000 then .ok (.int (i*j)) S else .fail
 | .lst a,.int k=>if-(2^63)<=k/\k<2^63/\a.length*k.toNat<=bt then .ok (.lst (NG k.toNat a).flatten) S else .fail
 |_,_=>.fail
theorem F9:cQ X (binaryOp .FloorDiv) (rI (λ_ j=>0<j/\j<2^100) λi j=>.int (i/j)):=vT λi j _ _ _ _ _ h q=>by
 have a:(0:Int)<j:=h.1;have b:j<2^100:=h.2;refine floordiv_int (by omega) (by rw[Qm i (by omega)];exact q) (.inl (PyProof.noPylong_of_log2 ?_));have H:j.natAbs<2^100:=by omega
 exact Sv ((Nat.log2_lt (by omega)).mpr H) (by decide)
noncomputable def ju(d e:D)(S:aa):Res D:=match d,e with
 | .int i,.int j=>if 0<j/\j<1073741824 then .ok (.int (i/j)) S else if 0<j/\j<2^100 then .ok (.int (i/j)) S else .fail
 |_,_=>.fail
noncomputable def se(d e:D)(S:aa):Res D:=match d,e with
 | .int i,.int j=>if 0<j then .ok (.int (i%j)) S else .fail
 |_,_=>.fail
noncomputable def sf(d e:D)(S:aa):Res D:=match d,e with
 | .int i,.int j=>if 0<=j then .ok (.int (i/2^j.toNat)) S else .fail
 |_,_=>.fail
noncomputable def sg(d e:D)(S:aa):Res D:=match d,e with
 | .int i,.int j=>.ok (.int (QO i j)) S
 |_,_=>.fail
noncomputable def F_(d e:D)(S:aa):Res D:=match d,e with
 | .int i,.int j=>.ok (.int (TY i j)) S
 |_,_=>.fail
noncomputable def dD:RS->D->D->aa->Res D
 | .Add=>iE| .Sub=>me| .Mult=>sd| .FloorDiv=>ju| .Mod=>se| .Pow=>λ_ _ _=>.fail | .RShift=>sf| .LShift=>λ_ _ _=>.fail | .BitAnd=>sg| .BitOr=>F_
 |_=>λ_ _ _=>.fail
theorem Ga{t b:ND}{W:Lv}(k:Ss s.heap t #[])(g:Ss s.heap b W.toArray)
  (h1:Q (.ref b) s):wpAny (model prog w) A (binaryOp .Add (.ref t) (.ref b)) Q E s:=by
 obtain⟨⟨cls,l,D,sl⟩,e,i,n,j⟩:=id k;obtain⟨⟨c,f,d,S⟩,h,H,N,a⟩:=id g;subst i j H a
 exact Tu ⟨_,e,rfl⟩ ⟨_,h,rfl⟩ R1 SV PySem.F.slot_tuple_add PySem.F.entry_tuple_add (PySem.F.args_tuple_add_2 _ _)
   (tuple_addW0 t b _ _ n _ _ _ _ _ rfl) ⟨e,h,h1⟩
theorem Gb:cQ X (binaryOp .Add) (λx y H Q=>∃a b ys,x=.ref a/\y=.ref b/\ca X.K H a []/\ca X.K H b ys/\Q (.ref b) H):=by intro j s l H x y v u Q I R g h;obtain⟨a,b,ys,rfl,rfl,c,d,q⟩:=h;subst R;subst g;obtain⟨f,r,p,_⟩:=I.tuple c;obtain⟨i,k,P,_⟩:=I.tuple d;have e:=r.zero;subst e;exact Ga p P ⟨.ref b,H,I,rfl,q⟩
theorem mf:cQ X (binaryOp .Mult) (rI (λi j=>PD i<=100000/\PD j<=100000) λi j=>.int (i*j)):=vT λ_ _ _ _ _ _ _ h q=>PyProof.Rows.mul_int q (PySem.IntMulOk.of_le h.1 h.2 (by lia))
theorem Gd(O:RS):cQ X (binaryOp O) (rD X.K X.mg (dD O)):=by
 intro P s g H x y v u Q I r R h;obtain⟨F,n,S,d,e,c,i,j,w⟩:=h;have D:=ma;cases O with
 |Add=>
  replace w:aU X.K ⟨X.mg,F⟩ n H Q (iE d e S):=w;unfold iE at w;split at w
  ·have:=aJ i;have:=aJ j;subst x y
   exact rA P s g H _ _ v u Q I r R ⟨_,_,rfl,rfl,w.now c bI⟩
  ·have:=eK i;have:=eK j;subst x y
   split at w
   ·exact Fw P s g H _ _ v u Q I r R ⟨_,_,rfl,rfl,by omega,w.now c js⟩
   ·exact w.elim
  ·split at w
   ·obtain⟨a,vs,rfl,o,q⟩:=b3 i;obtain⟨b,W,rfl,l,z⟩:=b3 j;have L:=q.length;have C:=z.length;cases vs with
    |nil=>refine Gb P s g H _ _ v u Q I r R ⟨a,b,W,rfl,rfl,o,l,?_⟩;rename_i as bs _;have:as=[]:=ZK (by grind);subst this;exact w.now c j
    |cons v0 vs=>
     refine l4 P s g H _ _ v u Q I r R ⟨a,b,v0::vs,W,rfl,rfl,o,l,by simp,by omega,?_,?_⟩
     ·intro hw;subst hw;rename_i as bs _;have:bs=[]:=ZK (by grind);subst this;rw[Yf]at w;exact w.now c i
     ·intro _ p t;exact w.tup c (q.append z) p t
   ·exact w.elim
  ·split at w
   ·rename_i as bs E A;split at w
    ·obtain⟨a,vs,rfl,o,q⟩:=dM c i E;obtain⟨b,W,rfl,l,z⟩:=dM c j A;have L:=q.length;have C:=z.length;exact r6 P s g H _ _ v u Q I r R ⟨a,b,vs,W,rfl,rfl,o,l,by omega,λp t=>w.lst c (q.append z) p t⟩
    ·exact w.elim
   ·exact w.elim
 |Sub=>
  replace w:aU X.K ⟨X.mg,F⟩ n H Q (me d e S):=w;unfold me at w;split at w
  ·have:=aJ i;have:=aJ j;subst x y
   exact rB P s g H _ _ v u Q I r R ⟨_,_,rfl,rfl,w.now c bI⟩
  ·exact w.elim
 |Mult=>
  replace w:aU X.K ⟨X.mg,F⟩ n H Q (sd d e S):=w;unfold sd at w;split at w
  ·have:=aJ i;have:=aJ j;subst x y
   split at w
   ·rename_i f;exact rE P s g H _ _ v u Q I r R ⟨_,_,rfl,rfl,f,w.now c bI⟩
   ·split at w
    ·rename_i f;exact mf P s g H _ _ v u Q I r R ⟨_,_,rfl,rfl,f,w.now c bI⟩
    ·exact w.elim
  ·split at w
   ·rename_i as k f;obtain⟨a,vs,rfl,o,q⟩:=dM c i rfl;have:=aJ j;subst y;refine jr P s g H _ _ v u Q I r R ⟨a,k,vs,rfl,rfl,o,f.1,f.2.1,by rw[<-q.length];omega,λp t=>w.lst c ?_ p t⟩;generalize k.toNat=m;clear f w
    induction m with
    |zero=>simpa using aj.nil
    |succ m B=>rw[Pe,Pe,Qv,Qv];exact q.append B
   ·exact w.elim
  ·exact w.elim
 |FloorDiv=>
  replace w:aU X.K ⟨X.mg,F⟩ n H Q (ju d e S):=w;unfold ju at w;split at w
  ·have:=aJ i;have:=aJ j;subst x y
   split at w
   ·rename_i f;exact lO P s g H _ _ v u Q I r R ⟨_,_,rfl,rfl,f,w.now c bI⟩
   ·split at w
    ·rename_i f;exact F9 P s g H _ _ v u Q I r R ⟨_,_,rfl,rfl,f,w.now c bI⟩
    ·exact w.elim
  ·exact w.elim
 |Mod=>
  replace w:aU X.K ⟨X.mg,F⟩ n H Q (se d e S):=w;unfold se at w;split at w
  ·have:=aJ i;have:=aJ j;subst x y
   split at w
   ·rename_i f;exact rF P s g H _ _ v u Q I r R ⟨_,_,rfl,rfl,f,w.now c bI⟩
   ·exact w.elim
  ·exact w.elim
 |Pow=>exact w.elim
 |RShift=>
  replace w:aU X.K ⟨X.mg,F⟩ n H Q (sf d e S):=w;unfold sf at w;split at w
  ·have:=aJ i;have:=aJ j;subst x y
   split at w
   ·rename_i f;exact rG P s g H _ _ v u Q I r R ⟨_,_,rfl,rfl,f,w.now c bI⟩
   ·exact w.elim
  ·exact w.elim
 |LShift=>exact w.elim
 |BitAnd=>
  replace w:aU X.K ⟨X.mg,F⟩ n H Q (sg d e S):=w;unfold sg at w;split at w
  ·have:=aJ i;have:=aJ j;subst x y
   exact rH P s g H _ _ v u Q I r R ⟨_,_,rfl,rfl,w.now c bI⟩
  ·exact w.elim
 |BitOr=>
  replace w:aU X.K ⟨X.mg,F⟩ n H Q (F_ d e S):=w;unfold F_ at w;split at w
  ·have:=aJ i;have:=aJ j;subst x y
   exact wy P s g H _ _ v u Q I r R ⟨_,_,rfl,rfl,w.now c bI⟩
  ·exact w.elim
 |_=>exact w.elim
noncomputable def ij(d e:D)(S:aa):Res D:=match d,e with
 | .lst a,.int k=>if-(2^63)<=k/\k<2^63/\a.length*k.toNat<=bt then .ok (.ref S.length) (S++[(NG k.toNat a).flatten])else .fail
 |_,_=>.fail
theorem xf:cQ X (binaryOp .Mult) (rD X.K X.mg ij):=by
 intro P s o H x y v u Q I j n h;obtain⟨F,z,S,d,e,c,r,R,w⟩:=h;have t:=ma;unfold ij at w;split at w
 ·split at w
  ·rename_i as k b;obtain⟨a,vs,rfl,f,q⟩:=dM c r rfl;have:=aJ R;subst y;have l:=q.length;refine jr P s o H _ _ v u Q I j n ⟨a,k,vs,rfl,rfl,f,b.1,b.2.1,by rw[<-l];omega,λp g=>w.box c ?_ p g⟩;generalize k.toNat=m;clear b w
   induction m with
   |zero=>simpa using aj.nil
   |succ m i=>rw[Pe,Pe,Qv,Qv];exact q.append i
  ·exact w.elim
 ·exact w.elim
end Py
variable {φ:List Py.D->Py.aa->Py.Res Py.D}
namespace Py
set_option genInjectivity false in
inductive Sh where
 |non|bl (b:Bool)|int (i:Int)|str (x:Str)|tup (xs:List D)|lst (xs:List D)
noncomputable def sh(S:aa):D->Option Sh
 | .non=>Nz .non
 | .bl b=>Nz (.bl b)
 | .int i=>Nz (.int i)
 | .str x=>Nz (.str x)
 | .tup xs=>Nz (.tup xs)
 | .lst xs=>Nz (.lst xs)
 | .ref n=>(S[n]?).map .lst
 |_=>none
noncomputable def bw:List (Option Bool)->Option Bool
 | []=>Nz NA
 |o::r=>match o,bw r with
  |some b,Nz c=>Nz (b&&c)
  |_,_=>none
noncomputable def si(f:D->D->Option Bool):Sh->Sh->Option Bool
 | .non,.non=>Nz NA
 | .bl a,.bl b=>Nz (a==b)
 | .int a,.int b=>Nz (a==b)
 | .str a,.str b=>Nz (a==b)
 | .bl a,.int b=>Nz ((if a then 1 else 0)==b)
 | .int a,.bl b=>Nz (a==(if b then 1 else 0))
 | .tup a,.tup b=>(bw (NL f a b)).map (· &&a.length==b.length)
 | .lst a,.lst b=>if a.length=b.length then bw (NL f a b)else Nz NB
 |_,_=>Nz NB
noncomputable def cF(S:aa):Nat->D->D->Option Bool
 |0,_,_=>none
 |n+1,d,e=>match sh S d,sh S e with
  |some x,Nz y=>si (cF S n) x y
  |_,_=>none
noncomputable def eJ(l:List (Option Bool))(j:Nat):Bool:=match l[j]? with
 |some (Nz b)=>b
 |_=>NA
theorem mj:∀(l:List (Option Bool)) (k:Bool),bw l=Nz k->(∀(j:Nat) o,l[j]?=Nz o->o=Nz (eJ l j))/\k=(NJ l.length).all (eJ l)
 | [],k,h=>by dsimp only[bw]at h;simp_all
 |o::r,k,h=>by
  dsimp only[bw]at h;split at h
  ·rename_i b c E;cases h;obtain⟨H,a⟩:=mj r c E;refine⟨λj o e=>?_,?_⟩
   ·cases j with
    |zero=>simp at e;subst e;rfl
    |succ j=>rw[H j o (by trivial)];rfl
   ·simp only[ZJ,List.range_succ_eq_map,PR,List.all_map,a];rfl
  ·cases h
section
noncomputable def sj(K:Fg)(m:GS)(μ:La)(H:Hp)(s:NC)(u:NF):Sh->Prop
 | .non=>u=.none
 | .bl b=>u=.bool b
 | .int i=>∃t,u=.int i t
 | .str x=>∃t,u=.str x t
 | .tup ds=>∃a its vs,u=.ref a/\s.heap.IsTuple a its.toArray/\Vals vs its/\aj K m μ H ds vs
 | .lst ds=>∃a its vs,u=.ref a/\s.heap.IsList a its.toArray/\Vals vs its/\aj K m μ H ds vs
theorem ml(I:Inv X pq σ H s)(c:aO X.K ⟨X.mg,F⟩ μ S H){x:Sh}(r:Rep X.K ⟨X.mg,F⟩ μ H d v)(q:RelV v u)(e:sh S d=Nz x):sj X.K ⟨X.mg,F⟩ μ H s u x:=by
 cases d with
 |non=>cases e;cases gP r;exact q
 |bl b=>cases e;cases f6 r;exact q
 |int b=>cases e;cases aJ r;exact q
 |str b=>cases e;cases eK r;exact q
 |tup f=>cases e;obtain⟨a,vs,rfl,h,k⟩:=b3 r;cases q;obtain⟨i,R,p,_⟩:=I.tuple h;exact⟨a,_,_,rfl,p,R,k⟩
 |lst f=>cases e;obtain⟨a,vs,rfl,h,k⟩:=dM c r rfl;cases q;obtain⟨i,R,p,_⟩:=I.list (.of h);exact⟨a,_,_,rfl,p.isList,R,k⟩
 |ref n=>
  replace e:S[n]?.map _=Nz x:=e;cases E:S[n]? with
  |none=>simp_all
  |some f=>rw[E]at e;cases e;obtain⟨a,vs,rfl,h,k⟩:=dM c r E;subst q;obtain⟨i,R,p,_⟩:=I.list (.of h);exact⟨a,_,_,rfl,p.isList,R,k⟩
 |_=>cases e
def ql(A:OH)(s:NC)(f:D->D->Option Bool)(K:Fg)(m:GS)(μ:La)(H:Hp):Prop:=
 ∀d e v w u z k,Rep K m μ H d v->RelV v u->Rep K m μ H e w->RelV w z->f d e=Nz k->SeqAt.EqAt A s u z k
theorem xg{f:D->D->Option Bool}{m:GS}(F:ql A s f K m μ H){es:List D}{vs W:List V}{Z:Lv}(r:aj K m μ H ds vs)(q:Vals vs us)(R:aj K m μ H es W)(Q:Vals W Z){k:Bool}
  (h:bw (NL f ds es)=Nz k):∀j (h1:j<us.toArray.size) (h2:j<Z.toArray.size),SeqAt.EqAt A s us.toArray[j] Z.toArray[j] (eJ (NL f ds es) j):=by
 intro j h1 h2;have L:=r.length;have y:=R.length;have G:=q.length;have I:=Q.length
 have p:j<us.length:=by simpa using h1
 have t:j<Z.length:=by simpa using h2
 have a:ds[j]?=Nz (ds[j]'(by omega)):=Zf _;have b:es[j]?=Nz (es[j]'(by omega)):=Zf _;obtain⟨v,B,C⟩:=r.get a;obtain⟨w,c,i⟩:=R.get b;obtain⟨u,d,l⟩:=q.get B;obtain⟨z,g,n⟩:=Q.get c
 have E:us.toArray[j]=u:=by have:=Zm.mp d;obtain⟨_,e⟩:=this;simpa using e
 have o:Z.toArray[j]=z:=by have:=Zm.mp g;obtain⟨_,e⟩:=this;simpa using e
 rw[E,o];have x:(NL f ds es)[j]?=Nz (f (ds[j]'(by omega)) (es[j]'(by omega))):=by rw[QT,a,b]
 exact F _ _ v w u z _ C l i n ((mj _ _ h).1 j _ x)
theorem xh{f:D->D->Option Bool}{es:List D}{k:Bool}(h:bw (NL f ds es)=Nz k)(m:Nat)(H:m=min ds.length es.length):(NJ m).all (eJ (NL f ds es))=k:=by have:=(mj _ _ h).2;simp_all
open PySem.SeqAt
theorem Nm{M:GS}{f:D->D->Option Bool}(F:ql A.in1 s f K M μ H)(c:A.units<cLine){z:NF}:∀{x y:Sh} {k:Bool},sj K M μ H s u x->sj K M μ H s z y->si f x y=Nz k->
  RcAt A s u z k/\RcNeAt A s u z (!k):=by
 intro x y k j d h;cases x with
 |non=>
  cases j;cases y with
  |non=>cases d;cases h;exact⟨RcAt.none_none,RcNeAt.none_none⟩
  |bl b=>cases d;cases h;exact⟨RcAt.none_bool b,RcNeAt.none_bool b⟩
  |int b=>obtain⟨t,rfl⟩:=d;cases h;exact⟨RcAt.none_int b t,RcNeAt.none_int b t⟩
  |str b=>obtain⟨t,rfl⟩:=d;cases h;exact⟨RcAt.none_str b t,RcNeAt.none_str b t⟩
  |tup b=>obtain⟨a,e,vs,rfl,p,_⟩:=d;cases h;exact⟨RcAt.none_tuple p c,RcNeAt.none_tuple p c⟩
  |lst b=>obtain⟨a,e,vs,rfl,p,_⟩:=d;cases h;exact⟨RcAt.none_list p c,RcNeAt.none_list p c⟩
 |bl a=>
  cases j;cases y with
  |non=>cases d;cases h;exact⟨RcAt.bool_none a,RcNeAt.bool_none a⟩
  |bl b=>cases d;cases h;exact⟨RcAt.bool_bool a b,RcNeAt.bool_bool a b⟩
  |int b=>obtain⟨t,rfl⟩:=d;cases h;exact⟨RcAt.bool_int a b t,RcNeAt.bool_int a b t⟩
  |str b=>obtain⟨t,rfl⟩:=d;cases h;exact⟨RcAt.bool_str a b t,RcNeAt.bool_str a b t⟩
  |tup b=>obtain⟨_,e,vs,rfl,p,_⟩:=d;cases h;exact⟨RcAt.bool_tuple a p c,RcNeAt.bool_tuple a p c⟩
  |lst b=>obtain⟨_,e,vs,rfl,p,_⟩:=d;cases h;exact⟨RcAt.bool_list a p c,RcNeAt.bool_list a p c⟩
 |int a=>
  obtain⟨T,rfl⟩:=j;cases y with
  |non=>cases d;cases h;exact⟨RcAt.int_none a T,RcNeAt.int_none a T⟩
  |bl b=>cases d;cases h;exact⟨RcAt.int_bool a T b,RcNeAt.int_bool a T b⟩
  |int b=>obtain⟨t,rfl⟩:=d;cases h;exact⟨RcAt.int_int a T b t,RcNeAt.int_int a T b t⟩
  |str b=>obtain⟨t,rfl⟩:=d;cases h;exact⟨RcAt.int_str a T b t,RcNeAt.int_str a T b t⟩
  |tup b=>obtain⟨_,e,vs,rfl,p,_⟩:=d;cases h;exact⟨RcAt.int_tuple a T p c,RcNeAt.int_tuple a T p c⟩
  |lst b=>obtain⟨_,e,vs,rfl,p,_⟩:=d;cases h;exact⟨RcAt.int_list a T p c,RcNeAt.int_list a T p c⟩
 |str a=>
  obtain⟨T,rfl⟩:=j;cases y with
  |non=>cases d;cases h;exact⟨RcAt.str_none a T,RcNeAt.str_none a T⟩
  |bl b=>cases d;cases h;exact⟨RcAt.str_bool a T b,RcNeAt.str_bool a T b⟩
  |int b=>obtain⟨t,rfl⟩:=d;cases h;exact⟨RcAt.str_int a T b t,RcNeAt.str_int a T b t⟩
  |str b=>obtain⟨t,rfl⟩:=d;cases h;exact⟨RcAt.str_str a T b t,RcNeAt.str_str a T b t⟩
  |tup b=>obtain⟨_,e,vs,rfl,p,_⟩:=d;cases h;exact⟨RcAt.str_tuple a T p c,RcNeAt.str_tuple a T p c⟩
  |lst b=>obtain⟨_,e,vs,rfl,p,_⟩:=d;cases h;exact⟨RcAt.str_list a T p c,RcNeAt.str_list a T p c⟩
 |tup a=>
  obtain⟨G,I,V,rfl,P,q,r⟩:=j;cases y with
  |non=>cases d;cases h;exact⟨RcAt.tuple_none P c,RcNeAt.tuple_none P c⟩
  |bl b=>cases d;cases h;exact⟨RcAt.tuple_bool b P c,RcNeAt.tuple_bool b P c⟩
  |int b=>obtain⟨t,rfl⟩:=d;cases h;exact⟨RcAt.tuple_int b t P c,RcNeAt.tuple_int b t P c⟩
  |str b=>obtain⟨t,rfl⟩:=d;cases h;exact⟨RcAt.tuple_str b t P c,RcNeAt.tuple_str b t P c⟩
  |tup b=>
   obtain⟨n,i,v,rfl,g,Q,R⟩:=d;replace h:(bw (NL f a b)).map (· &&a.length==b.length)=Nz k:=h;obtain⟨O,w,J⟩:=N3.mp h;have m:=xg F r q R Q w;have L:=r.length;have B:=R.length;have o:=q.length;have C:=Q.length
   have E:k=((NJ (min I.toArray.size i.toArray.size)).all (eJ (NL f a b))&&I.toArray.size==i.toArray.size):=by rw[<-J,xh w _ (by grind),Zy,Zy,<-o,<-C,<-L,<-B]
   rw[E];exact⟨RcAt.tuples P g c m,RcNeAt.tuples P g c m⟩
  |lst b=>obtain⟨n,i,v,rfl,g,_⟩:=d;cases h;exact⟨RcAt.tuple_list P g c,RcNeAt.tuple_list P g c⟩
 |lst a=>
  obtain⟨G,I,V,rfl,P,q,r⟩:=j;cases y with
  |non=>cases d;cases h;exact⟨RcAt.list_none P c,RcNeAt.list_none P c⟩
  |bl b=>cases d;cases h;exact⟨RcAt.list_bool b P c,RcNeAt.list_bool b P c⟩
  |int b=>obtain⟨t,rfl⟩:=d;cases h;exact⟨RcAt.list_int b t P c,RcNeAt.list_int b t P c⟩
  |str b=>obtain⟨t,rfl⟩:=d;cases h;exact⟨RcAt.list_str b t P c,RcNeAt.list_str b t P c⟩
  |tup b=>obtain⟨n,i,v,rfl,g,_⟩:=d;cases h;exact⟨RcAt.list_tuple P g c,RcNeAt.list_tuple P g c⟩
  |lst b=>
   obtain⟨n,i,v,rfl,g,Q,R⟩:=d;have L:=r.length;have B:=R.length;have o:=q.length;have C:=Q.length
   replace h:(if a.length=b.length then bw (NL f a b)else Nz NB)=Nz k:=h;split at h
   ·rename_i N;have m:=xg F r q R Q h
    have E:k=(NJ I.toArray.size).all (eJ (NL f a b)):=by rw[xh h _ (by rw[Zy,<-o,<-L];omega)]
    rw[E];have l:I.toArray.size=i.toArray.size:=by grind
    exact⟨RcAt.lists P g l c m,RcNeAt.lists P g l c m⟩
   ·rename_i N;cases h;have l:(I.toArray.size !=i.toArray.size)=NA:=by grind
    exact⟨RcAt.lists_lengths P g l c,RcNeAt.lists_lengths P g l c⟩
theorem xi(I:Inv X pq σ H s)(sk:aO X.K ⟨X.mg,F⟩ μ S H):∀(n:Nat) (d e:D) (v:V) (k:Bool),Rep X.K ⟨X.mg,F⟩ μ H d v->Rep X.K ⟨X.mg,F⟩ μ H e v->cF S n d e=Nz k->k=NA:=by
 intro n
 induction n with
 |zero=>intro d e v k _ _ h;cases h
 |succ n ih=>
  intro d e v k rd re h
  have L:∀(p E:List D) (vs:List V) (k:Bool),aj X.K ⟨X.mg,F⟩ μ H p vs->aj X.K ⟨X.mg,F⟩ μ H E vs->bw (NL (cF S n) p E)=Nz k->k=NA:=by
   intro p
   induction p with
   |nil=>intro E vs k _ _ h;cases h;rfl
   |cons d p Z=>
    intro E vs k R r h;obtain⟨v,W,rfl,T,b1⟩:=R.uncons;cases E with
    |nil=>cases h;rfl
    |cons e E=>
     obtain⟨v',ws',q,G,b2⟩:=r.uncons;cases q;rw[List.zipWith_cons_cons]at h;unfold bw at h;split at h
     ·rename_i x y q K;cases h;rw[ih d e v x T G q,Z E W y b1 b2 K];rfl
     ·cases h
  unfold cF at h;cases q:sh S d with
  |none=>rw[q]at h;cases h
  |some x=>
   cases K:sh S e with
   |none=>rw[q,K]at h;cases h
   |some y=>
    rw[q,K]at h;replace h:si (cF S n) x y=Nz k:=h
    obtain⟨u,ru⟩:∃u,RelV v u:=by
     cases v with
     |non=>exact⟨_,rfl⟩
     |bl b=>exact⟨_,rfl⟩
     |int i=>exact⟨.int i 0,0,rfl⟩
     |str x=>exact⟨.str x 0,0,rfl⟩
     |byt x=>exact⟨.bytes x 0,0,rfl⟩
     |flt x=>exact⟨.float x 0,0,rfl⟩
     |ref a=>exact⟨_,rfl⟩
     |ty n=>exact⟨_,rfl⟩
    have C:=ml I sk rd ru q;have f:=ml I sk re ru K
    have len:∀{p E:List D} {vs W:List V} {us:Lv},aj X.K ⟨X.mg,F⟩ μ H p vs->Vals vs us->aj X.K ⟨X.mg,F⟩ μ H E W->Vals W us->vs=W/\p.length=E.length:=λR O r Q=>by have:=O.inj Q;subst this;exact⟨rfl,R.length.trans r.length.symm⟩
    cases x with
    |non=>
     cases C;cases y with
     |non=>cases h;rfl
     |bl b=>cases f
     |int b=>obtain⟨t,z⟩:=f;cases z
     |str b=>obtain⟨t,z⟩:=f;cases z
     |tup b=>obtain⟨_,_,_,z,_⟩:=f;cases z
     |lst b=>obtain⟨_,_,_,z,_⟩:=f;cases z
    |bl a=>
     cases C;cases y with
     |non=>cases f
     |bl b=>cases f;cases h;simp
     |int b=>obtain⟨t,z⟩:=f;cases z
     |str b=>obtain⟨t,z⟩:=f;cases z
     |tup b=>obtain⟨_,_,_,z,_⟩:=f;cases z
     |lst b=>obtain⟨_,_,_,z,_⟩:=f;cases z
    |int a=>
     obtain⟨t',rfl⟩:=C;cases y with
     |non=>cases f
     |bl b=>cases f
     |int b=>obtain⟨t,z⟩:=f;cases z;cases h;simp
     |str b=>obtain⟨t,z⟩:=f;cases z
     |tup b=>obtain⟨_,_,_,z,_⟩:=f;cases z
     |lst b=>obtain⟨_,_,_,z,_⟩:=f;cases z
    |str a=>
     obtain⟨t',rfl⟩:=C;cases y with
     |non=>cases f
     |bl b=>cases f
     |int b=>obtain⟨t,z⟩:=f;cases z
     |str b=>obtain⟨t,z⟩:=f;cases z;cases h;simp
     |tup b=>obtain⟨_,_,_,z,_⟩:=f;cases z
     |lst b=>obtain⟨_,_,_,z,_⟩:=f;cases z
    |tup a=>
     obtain⟨T,m,A,rfl,N,O,R⟩:=C;cases y with
     |non=>cases f
     |bl b=>cases f
     |int b=>obtain⟨t,z⟩:=f;cases z
     |str b=>obtain⟨t,z⟩:=f;cases z
     |tup b=>
      obtain⟨G,j,B,z,P,Q,r⟩:=f;cases z
      have U:m=j:=by
       obtain⟨o,w,_,n,M⟩:=N;obtain⟨o',g,_,n',l⟩:=P;rw[w]at g;cases g;rw[M]at l;injection l with z _
       simpa using Yj Array.toList z
      subst U;obtain⟨rfl,Y⟩:=len R O r Q;replace h:(bw (NL (cF S n) a b)).map (· &&a.length==b.length)=Nz k:=h;obtain⟨k1,e3,e4⟩:=N3.mp h;rw[<-e4,L a b A k1 R r e3,Y];simp
     |lst b=>obtain⟨G,j,B,z,P,Q,r⟩:=f;cases z;obtain⟨o,w,c,n,M⟩:=N;obtain⟨o',g,J,n',l⟩:=P;rw[w]at g;cases g;rw[c]at J;exact absurd J (by decide)
    |lst a=>
     obtain⟨T,m,A,rfl,N,O,R⟩:=C;cases y with
     |non=>cases f
     |bl b=>cases f
     |int b=>obtain⟨t,z⟩:=f;cases z
     |str b=>obtain⟨t,z⟩:=f;cases z
     |tup b=>obtain⟨G,j,B,z,P,Q,r⟩:=f;cases z;obtain⟨o,w,c,n,M⟩:=N;obtain⟨o',g,J,n',l⟩:=P;rw[w]at g;cases g;rw[c]at J;exact absurd J (by decide)
     |lst b=>
      obtain⟨G,j,B,z,P,Q,r⟩:=f;cases z
      have U:m=j:=by
       obtain⟨o,w,_,n,M⟩:=N;obtain⟨o',g,_,n',l⟩:=P;rw[w]at g;cases g;rw[M]at l;injection l with z _
       simpa using Yj Array.toList z
      subst U;obtain⟨rfl,Y⟩:=len R O r Q;replace h:(if a.length=b.length then bw (NL (cF S n) a b)else Nz NB)=Nz k:=h;rw[if_pos Y]at h;exact L a b A k R r h
theorem vV(I:Inv X pq σ H s)(G:aO X.K ⟨X.mg,F⟩ μ S H):∀(n:Nat) (A:OH),A.units+n<cLine->∀d e v w u z k,Rep X.K ⟨X.mg,F⟩ μ H d v->RelV v u->Rep X.K ⟨X.mg,F⟩ μ H e w->RelV w z->cF S n d e=Nz k->
  RcAt A s u z k/\RcNeAt A s u z (!k)/\EqAt A s u z k:=by
 intro n
 induction n with
 |zero=>intro A _ d e v w u z k _ _ _ _ h;cases h
 |succ n Z=>
  intro A hA d e v w u z k L R M B h;have o:=λ(D:v=w)=>xi I G (n+1) d e v k L (D▸M) h;unfold cF at h;cases E:sh S d with
  |none=>rw[E]at h;cases h
  |some x=>
   cases C:sh S e with
   |none=>rw[E,C]at h;cases h
   |some y=>
    rw[E,C]at h;replace h:si (cF S n) x y=Nz k:=h;have j:=ml I G L R E;have f:=ml I G M B C;have Y:A.in1.units=A.units+1:=rfl;obtain⟨J,O⟩:=Nm (λd e v w u z k a b c Q h=>(Z A.in1 (by omega) d e v w u z k a b c Q h).2.2) (by omega) j f h;refine⟨J,O,?_⟩
    have r:∀{l b:ND},u=.ref l->z=.ref b->EqAt A s u z k:=λ{l b} U W=>by
     subst U;subst W;by_cases K:l=b
     ·subst K
      have D:v=w:=by
       cases v<;>first| (cases R;done)|skip
       all_goals first| (obtain⟨_,q⟩:=R;cases q;done)|skip
       cases w<;>first| (cases B;done)|skip
       all_goals first| (obtain⟨_,q⟩:=B;cases q;done)|skip
       cases R;cases B;rfl
      rw[o D];exact EqAt.same _
     ·exact .of_refs K J
    have g:A.units<cLine:=by omega
    cases x with
    |non=>
     cases j;cases y with
     |non=>cases f;cases h;exact EqAt.same _
     |bl b=>cases f;cases h;exact EqAt.none_bool b
     |int b=>obtain⟨t,rfl⟩:=f;cases h;exact EqAt.none_int b t
     |str b=>obtain⟨t,rfl⟩:=f;cases h;exact EqAt.none_str b t
     |tup b=>obtain⟨a,i,vs,rfl,p,_⟩:=f;cases h;exact EqAt.none_tuple p g
     |lst b=>obtain⟨a,i,vs,rfl,p,_⟩:=f;cases h;exact EqAt.none_list p g
    |bl a=>
     cases j;cases y with
     |non=>cases f;cases h;exact EqAt.bool_none a
     |bl b=>cases f;cases h;exact EqAt.bool_bool a b
     |int b=>obtain⟨t,rfl⟩:=f;cases h;exact EqAt.bool_int a b t
     |str b=>obtain⟨t,rfl⟩:=f;cases h;exact EqAt.bool_str a b t
     |tup b=>obtain⟨_,i,vs,rfl,p,_⟩:=f;cases h;exact EqAt.bool_tuple a p g
     |lst b=>obtain⟨_,i,vs,rfl,p,_⟩:=f;cases h;exact EqAt.bool_list a p g
    |int a=>
     obtain⟨T,rfl⟩:=j;cases y with
     |non=>cases f;cases h;exact EqAt.int_none a T
     |bl b=>cases f;cases h;exact EqAt.int_bool a T b
     |int b=>obtain⟨t,rfl⟩:=f;cases h;exact EqAt.int_int a T b t
     |str b=>obtain⟨t,rfl⟩:=f;cases h;exact EqAt.int_str a T b t
     |tup b=>obtain⟨_,i,vs,rfl,p,_⟩:=f;cases h;exact EqAt.int_tuple a T p g
     |lst b=>obtain⟨_,i,vs,rfl,p,_⟩:=f;cases h;exact EqAt.int_list a T p g
    |str a=>
     obtain⟨T,rfl⟩:=j;cases y with
     |non=>cases f;cases h;exact EqAt.str_none a T
     |bl b=>cases f;cases h;exact EqAt.str_bool a T b
     |int b=>obtain⟨t,rfl⟩:=f;cases h;exact EqAt.str_int a T b t
     |str b=>obtain⟨t,rfl⟩:=f;cases h;exact EqAt.str_str a T b t
     |tup b=>obtain⟨_,i,vs,rfl,p,_⟩:=f;cases h;exact EqAt.str_tuple a T p g
     |lst b=>obtain⟨_,i,vs,rfl,p,_⟩:=f;cases h;exact EqAt.str_list a T p g
    |tup a=>
     obtain⟨N,m,V,rfl,P,_⟩:=j;cases y with
     |non=>cases f;cases h;exact EqAt.tuple_none P g
     |bl b=>cases f;cases h;exact EqAt.tuple_bool b P g
     |int b=>obtain⟨t,rfl⟩:=f;cases h;exact EqAt.tuple_int b t P g
     |str b=>obtain⟨t,rfl⟩:=f;cases h;exact EqAt.tuple_str b t P g
     |tup b=>obtain⟨_,i,vs,rfl,p,_⟩:=f;exact r rfl rfl
     |lst b=>obtain⟨_,i,vs,rfl,p,_⟩:=f;exact r rfl rfl
    |lst a=>
     obtain⟨N,m,V,rfl,P,_⟩:=j;cases y with
     |non=>cases f;cases h;exact EqAt.list_none P g
     |bl b=>cases f;cases h;exact EqAt.list_bool b P g
     |int b=>obtain⟨t,rfl⟩:=f;cases h;exact EqAt.list_int b t P g
     |str b=>obtain⟨t,rfl⟩:=f;cases h;exact EqAt.list_str b t P g
     |tup b=>obtain⟨_,i,vs,rfl,p,_⟩:=f;exact r rfl rfl
     |lst b=>obtain⟨_,i,vs,rfl,p,_⟩:=f;exact r rfl rfl
end
noncomputable def xj(_ _:D)(_:aa):Res D:=.fail
noncomputable def MS(_ _:D):Option Bool:=none
noncomputable def MU(_:D)(_ _:Option Int)(_:aa):Res D:=.fail
noncomputable def xk(_:List D)(_:aa):Res D:=.fail
theorem jv{e:D}{k:Bool}(h:MS d e=Nz k):∃x y,d=.str x/\e=.str y/\(!(Qc y x 0 y.length 1).isEmpty)=k:=by cases h
theorem Ge:wX X (rD X.K X.mg xj):=by intro V a p s j H x y v u Q I c f h b;obtain⟨F,i,S,d,e,g,r,R,w⟩:=h;exact w.elim
theorem xl{xs:List V}{Q:VK}(I:L2.Inv X pq σ H s)(r:Vals xs us)(a:aO X.K ⟨X.mg,F⟩ μ S H)(R:aj X.K ⟨X.mg,F⟩ μ H ds xs)(w:aU X.K ⟨X.mg,F⟩ μ H Q (xk ds S)):wpAny (model X.prog X.w) X.A (call (.type "int") us) (EP X pq σ Q) X.xe s:=w.elim
theorem Gf{x:V}{v:NF}{lo:Option Int}{Q:VK}(I:L2.Inv X pq σ H s)(R:RelV x v)(hs:s.heap.IsSliceOf sl vl vu .none)(pl:QP vl lo)(p:QP vu hi)(a:aO X.K ⟨X.mg,F⟩ μ S H)(r:Rep X.K ⟨X.mg,F⟩ μ H d x)(w:aU X.K ⟨X.mg,F⟩ μ H Q (MU d lo hi S)):
  ∃T id,typeLookup (.type T) "__getitem__"=pure (Nz (.builtin id))/\s.TypeIs v T/\wpAny (model X.prog X.w) X.A (getItem v (.ref sl)) (EP X pq σ Q) X.xe s:=w.elim
noncomputable def vW(eq lt:D->D->Option Bool):List D->List D->Option Bool
 | [],[]=>Nz NB
 | [],_::_=>Nz NA
 |_::_,[]=>Nz NB
 |a::as,b::bs=>match eq a b with
  |some NA=>vW eq lt as bs
  |some NB=>lt a b
  |none=>none
noncomputable def jw(S:aa):Nat->D->D->Option Bool
 |0,_,_=>none
 |n+1,.int a,.int b=>Nz (decide (a<b))
 |n+1,.tup a,.tup b=>vW (cF S n) (jw S n) a b
 |_,_,_=>none
open PySem.SeqAt
def f7(A:OH)(s:NC)(y x:NF)(b:Bool):Prop:=
 ∀(prog:NU) (w:N0) (E:Vs) (Q:Vs),Q (.bool b) s->wpAny (model prog w) A (richCompare .Lt y x) Q E s
inductive cG (A:OH)(s:NC):Lv->Lv->Bool->Prop where
 |nn:cG A s [] [] NB
 |nc {w ws}:cG A s [] (w::ws) NA
 |cn {v vs}:cG A s (v::vs) [] NB
 |eq {v w vs ws k}:EqAt A s v w NA->cG A s vs ws k->cG A s (v::vs) (w::ws) k
 |lt {v w vs ws k}:EqAt A s v w NB->f7 A s v w k->cG A s (v::vs) (w::ws) k
section
open PySem.AutoSeq1 (wpAny_loadPart')
open PySem.MeetsSeq PySem.MeetsSeq2 PySem.MeetsSeq3
theorem xm(l b:ND)(items i:Av)(n N:Nat)(B D:Option ND)(sl z:Array (Ov))(k:Bool):
  Meets (OO.«tuple.__lt__» ⟨[.ref l,.ref b],[]⟩)
   (λA R s=>s.heap.get? l=Nz {cls:=.type "tuple",dict:=B,data:=.seq items n,slots:=sl}/\s.heap.get? b=Nz {cls:=.type "tuple",dict:=D,data:=.seq i N,slots:=z}/\
    cG A.in1 s items.toList i.toList k/\R (.ok (.ret (.bool k))) s):=
 .of_wp λp w A R s h=>by
  obtain⟨t,g,d,T,O⟩:=s;obtain⟨F,C,q,h⟩:=h;have K:=RO
  wp_walk using Q8 F,Q8 C,P8 _ (λr b S=>b.1=none/\S=⟨t,g,d,T,O⟩/\∃(vs W:Lv),r=vs.zip W/\
   cG A.in1 ⟨t,g,d,T,O⟩ vs W k/\vs.length+i.size=W.length+items.size/\R (.ok (.ret (.bool k))) ⟨t,g,d,T,O⟩) _
  case turn=>
   rintro⟨y,x⟩ r b S ⟨e,rfl,vs,W,a,f,H,hR⟩;cases f with
   |nn=>rw[Qw]at a;cases a
   |nc=>rw[Qw]at a;cases a
   |cn=>rw[Rj]at a;cases a
   |eq m o=>
    rw[Ym]at a;injection a with j c
    injection j with v q
    subst v q;simp only[ZJ]at H;refine Za (m p w _ _ ?_)
    wp_walk
    exact⟨rfl,rfl,_,_,c,o,by omega,hR⟩
   |lt m o=>
    rw[Ym]at a;injection a with j c
    injection j with v q
    subst v q;refine Za (m p w _ _ ?_);have u:=λ(E:Vs) (Q:Vs)=>o p w E Q
    wp_walk using u
    exact⟨_,rfl,by simpa using hR⟩
  case fin=>
   rintro⟨I,J⟩ S ⟨e,rfl,vs,W,a,f,H,hR⟩;simp only at e;subst e
   have G:k=decide (items.size<i.size):=by
    cases f with
    |nn=>simp only[Oj]at H;exact(ZQ (by omega)).symm
    |nc=>simp only[Oj,ZJ]at H;exact(ZO (by omega)).symm
    |cn=>simp only[Oj,ZJ]at H;exact(ZQ (by omega)).symm
    |eq m o=>rw[Ym]at a;cases a
    |lt m o=>rw[Ym]at a;cases a
   rw[G]at hR
   wp_walk
   exact⟨_,rfl,by simpa[QU]using hR⟩
  case h=>exact⟨rfl,rfl,items.toList,i.toList,rfl,q,by simp;omega,h⟩
end
theorem f7.tuples{l b:ND}{vs W:Lv}{k:Bool}(m:s.heap.IsTuple l vs.toArray)(g:s.heap.IsTuple b W.toArray)(o:A.units<cLine)(r:cG A.in1 s vs W k):f7 A s (.ref l) (.ref b) k:=λp w E Q h=>by
 obtain⟨⟨cls,q,D,sl⟩,e,i,n,j⟩:=id m;obtain⟨⟨C,f,d,S⟩,H,a,N,c⟩:=id g;subst i j a c
 exact Tz ⟨_,e,rfl⟩ ⟨_,H,rfl⟩ PySem.F.slot_tuple_lt PySem.F.entry_tuple_lt (PySem.F.args_tuple_lt_2 _ _) (xm l b _ _ n _ _ _ _ _ k)
  ⟨e,H,by omega,show RQ k≠Sw/\Q _ s from⟨(λx=>nomatch x),h⟩⟩ o
def xn(A:OH)(s:NC)(y x:NF)(b:Bool):Prop:=
 ∀(prog:NU) (w:N0) (E:Vs) (Q:Vs),Q (.bool b) s->wpAny (model prog w) A (richCompare .LtE y x) Q E s
inductive dN (A:OH)(s:NC):Lv->Lv->Bool->Prop where
 |nl {ws}:dN A s [] ws NA
 |cn {v vs}:dN A s (v::vs) [] NB
 |eq {v w vs ws k}:EqAt A s v w NA->dN A s vs ws k->dN A s (v::vs) (w::ws) k
 |le {v w vs ws k}:EqAt A s v w NB->xn A s v w k->dN A s (v::vs) (w::ws) k
section
open PySem.AutoSeq1 (wpAny_loadPart')
open PySem.MeetsSeq PySem.MeetsSeq2 PySem.MeetsSeq3
theorem Gg(l b:ND)(xs Y:Av)(n N:Nat)(z D:Option ND)(sl v:Array (Ov))(k:Bool):
  Meets (OO.«tuple.__le__» ⟨[.ref l,.ref b],[]⟩)
   (λA R s=>s.heap.get? l=Nz {cls:=.type "tuple",dict:=z,data:=.seq xs n,slots:=sl}/\s.heap.get? b=Nz {cls:=.type "tuple",dict:=D,data:=.seq Y N,slots:=v}/\
    dN A.in1 s xs.toList Y.toList k/\R (.ok (.ret (.bool k))) s):=
 .of_wp λp w A R s h=>by
  obtain⟨q,g,d,T,O⟩:=s;obtain⟨C,B,o,h⟩:=h;have J:=RO
  wp_walk using Q8 C,Q8 B,P8 _ (λr b S=>b.1=none/\S=⟨q,g,d,T,O⟩/\∃(vs W:Lv),r=vs.zip W/\
   dN A.in1 ⟨q,g,d,T,O⟩ vs W k/\vs.length+Y.size=W.length+xs.size/\R (.ok (.ret (.bool k))) ⟨q,g,d,T,O⟩) _
  case turn=>
   rintro⟨y,x⟩ r b S ⟨e,rfl,vs,W,a,f,H,hR⟩;cases f with
   |nl=>rw[Qw]at a;cases a
   |cn=>rw[Rj]at a;cases a
   |eq j m=>
    rw[Ym]at a;injection a with i c
    injection i with u o
    subst u o;simp only[ZJ]at H;refine Za (j p w _ _ ?_)
    wp_walk
    exact⟨rfl,rfl,_,_,c,m,by omega,hR⟩
   |le j m=>
    rw[Ym]at a;injection a with i c
    injection i with u o
    subst u o;refine Za (j p w _ _ ?_);have t:=λ(E:Vs) (Q:Vs)=>m p w E Q
    wp_walk using t
    exact⟨_,rfl,by simpa using hR⟩
  case fin=>
   rintro⟨G,I⟩ S ⟨e,rfl,vs,W,a,f,H,hR⟩;simp only at e;subst e
   have F:k=decide (xs.size<=Y.size):=by
    cases f with
    |nl=>simp only[Oj]at H;exact(ZO (by omega)).symm
    |cn=>simp only[Oj,ZJ]at H;exact(ZQ (by omega)).symm
    |eq j m=>rw[Ym]at a;cases a
    |le j m=>rw[Ym]at a;cases a
   rw[F]at hR
   wp_walk
   exact⟨_,rfl,by simpa[QU]using hR⟩
  case h=>exact⟨rfl,rfl,xs.toList,Y.toList,rfl,o,by simp;omega,h⟩
end
theorem Gh{l b:ND}{vs W:Lv}{k:Bool}(m:s.heap.IsTuple l vs.toArray)(g:s.heap.IsTuple b W.toArray)(o:A.units<cLine)(r:dN A.in1 s vs W k):xn A s (.ref l) (.ref b) k:=λp w E Q h=>by
 obtain⟨⟨cls,q,D,sl⟩,e,i,n,j⟩:=id m;obtain⟨⟨C,f,d,S⟩,H,a,N,c⟩:=id g;subst i j a c
 exact Tz ⟨_,e,rfl⟩ ⟨_,H,rfl⟩ PySem.F.slot_tuple_le PySem.F.entry_tuple_le (PySem.F.args_tuple_le_2 _ _) (Gg l b _ _ n _ _ _ _ _ k)
  ⟨e,H,by omega,show RQ k≠Sw/\Q _ s from⟨(λx=>nomatch x),h⟩⟩ o
noncomputable def xo:List D->List D->Option Bool
 | [],_=>Nz NA
 |_::_,[]=>Nz NB
 | .int a::as,.int b::bs=>if a=b then xo as bs else Nz (decide (a<=b))
 |_::_,_::_=>none
theorem jx{K:Fg}{m:GS}{μ:La}{H:Hp}{A:OH}{s:NC}:∀(ds es:List D) (vs W:List V) (us zs:Lv) (k:Bool),aj K m μ H ds vs->Vals vs us->aj K m μ H es W->Vals W zs->xo ds es=Nz k->dN A s us zs k
 | [],es,vs,W,us,zs,k,r,q,R,i,h=>by
  unfold aj at r;subst r;have:=q.zero;subst this
  cases h;exact .nl
 |d::ds,[],vs,W,us,zs,k,r,q,R,i,h=>by
  obtain⟨v,vs,rfl,l,B⟩:=r.uncons;unfold aj at R;subst R;have:=i.zero;subst this
  cases q;have f:Nz NB=Nz k:=by cases d<;>exact h
  cases f;exact .cn
 |d::ds,e::es,vs,W,us,zs,k,r,q,R,i,h=>by
  obtain⟨v,vs,rfl,l,B⟩:=r.uncons;obtain⟨w,W,rfl,n,o⟩:=R.uncons;cases d with
  |int a=>cases e with
   |int b=>
    have:=aJ l;have:=aJ n;subst v w
    cases q with
    |cons C x=>cases i with
     |cons u y=>
      obtain⟨t,rfl⟩:=C;obtain⟨T,rfl⟩:=u;have f:(if a=b then xo ds es else Nz (decide (a<=b)))=Nz k:=h;have g:=EqAt.int_int (A:=A) (s:=s) a t b T;by_cases c:a=b
      ·rw[if_pos c]at f;have j:(a==b)=NA:=by simpa using c
       rw[j]at g;exact .eq g (jx ds es vs W _ _ k B x o y f)
      ·rw[if_neg c]at f;have j:(a==b)=NB:=by simpa using c
       rw[j]at g;cases f;exact .le g λp w E Q z=>(PyProof.Rows.le_int z:wpAny (model p w) A (compareOp .LtE (.int _ t) (.int _ T)) Q E s)
   |_=>cases h
  |_=>
   have f:(none:Option Bool)=Nz k:=by cases e<;>exact h
   cases f
theorem jy(I:Inv X pq σ H s)(K:aO X.K ⟨X.mg,F⟩ μ S H):∀(n:Nat) (A:OH),A.units+n<cLine->∀d e v w u z k,Rep X.K ⟨X.mg,F⟩ μ H d v->RelV v u->Rep X.K ⟨X.mg,F⟩ μ H e w->RelV w z->jw S n d e=Nz k->f7 A s u z k:=by
 intro n
 induction n with
 |zero=>intro A _ d e v w u z k _ _ _ _ h;cases h
 |succ n ih=>
  intro A hA d e v w u z k y G B J h;have hin:A.in1.units=A.units+1:=rfl
  have L:∀(f c:List D) (vs W:List V) (U Z:Lv),aj X.K ⟨X.mg,F⟩ μ H f vs->Vals vs U->aj X.K ⟨X.mg,F⟩ μ H c W->Vals W Z->vW (cF S n) (jw S n) f c=Nz k->cG A.in1 s U Z k:=by
   intro f
   induction f with
   |nil=>
    intro c vs W U Z R g r q h;unfold aj at R;subst R;have:=g.zero;subst this
    cases c with
    |nil=>unfold aj at r;subst r;have:=q.zero;subst this;cases h;exact .nn
    |cons e c=>obtain⟨w,W,rfl,_,_⟩:=r.uncons;cases q;cases h;exact .nc
   |cons d f x=>
    intro c vs W U Z R g r q h;obtain⟨v,vs,rfl,i,M⟩:=R.uncons;cases g with
    |cons C O=>
     cases c with
     |nil=>unfold aj at r;subst r;have:=q.zero;subst this;cases h;exact .cn
     |cons e c=>
      obtain⟨w,W,rfl,j,N⟩:=r.uncons;cases q with
      |cons l P=>
       unfold vW at h;split at h
       ·rename_i m;exact .eq (vV I K n A.in1 (by omega) d e v w _ _ NA i C j l m).2.2 (x c vs W _ _ M O N P h)
       ·rename_i m;exact .lt (vV I K n A.in1 (by omega) d e v w _ _ NB i C j l m).2.2 (ih A.in1 (by omega) d e v w _ _ k i C j l h)
       ·cases h
  unfold jw at h;split at h
  ·rename_i T;cases T
  ·have:=aJ y;have:=aJ B;subst v w
   obtain⟨t,rfl⟩:=G;obtain⟨t',rfl⟩:=J;cases h;exact λp w E Q hq=>(PyProof.Rows.lt_int hq:wpAny (model p w) A (compareOp .Lt (.int _ t) (.int _ t')) Q E s)
  ·rename_i n' f c o;cases o;obtain⟨a,vs,rfl,Y,R⟩:=b3 y;obtain⟨b,W,rfl,h2,r⟩:=b3 B;cases G;cases J;obtain⟨U,g,p1,_⟩:=I.tuple Y;obtain⟨Z,q,p2,_⟩:=I.tuple h2;exact f7.tuples p1 p2 (by omega) (L f c vs W U Z R g r q h)
  ·cases h
noncomputable def bE:Nat:=40
noncomputable def ik:D->Bool
 | .non=>NA
 |_=>NB
noncomputable def aQ(o:Option Bool)(S:aa):Res D:=match o with
 |some k=>.ok (.bl k) S
 |none=>.fail
noncomputable def fg(l:List (Option Bool)):Option Bool:=(bw (l.map λo=>o.map not)).map not
noncomputable def fc(d e:D)(S:aa):Option Bool:=match av S e with
 |some xs=>fg (xs.map λy=>cF S bE y d)
 |none=>MS d e
noncomputable def Ez(d e:D)(S:aa):Res D:=match d,e with
 | .int i,.int j=>.ok (.bl (decide (i<=j))) S
 | .tup a,.tup b=>aQ (xo a b) S
 |_,_=>.fail
noncomputable def Gi(d e:D)(S:aa):Res D:=match d,e with
 | .int i,.int j=>.ok (.bl (decide (j<i))) S
 |_,_=>.fail
noncomputable def Gj(d e:D)(S:aa):Res D:=match d,e with
 | .int i,.int j=>.ok (.bl (decide (j<=i))) S
 |_,_=>.fail
noncomputable def EA(d e:D)(S:aa):Res D:=match e with
 | .non=>.ok (.bl (ik d)) S
 |_=>.fail
noncomputable def sm(d e:D)(S:aa):Res D:=match e with
 | .non=>.ok (.bl (!ik d)) S
 |_=>.fail
noncomputable def a7(o:QI)(d e:D)(S:aa):Res D:=match o with
 | .Eq=>aQ (cF S bE d e) S
 | .NotEq=>aQ ((cF S bE d e).map not) S
 | .Lt=>aQ (jw S bE d e) S
 | .LtE=>Ez d e S
 | .Gt=>Gi d e S
 | .GtE=>Gj d e S
 | .In=>aQ (fc d e S) S
 | .NotIn=>aQ ((fc d e S).map not) S
 | .Is=>EA d e S
 | .IsNot=>sm d e S
theorem xp{m:GS}(r:Rep K m μ H d v):decide (v=.non)=ik d:=by
 cases d with
 |non=>cases gP r;rfl
 |bl b=>cases f6 r;rfl
 |int b=>cases aJ r;rfl
 |str b=>cases eK r;rfl
 |tup b=>obtain⟨a,vs,rfl,_⟩:=b3 r;rfl
 |lst b=>obtain⟨a,vs,rfl,_⟩:=r;rfl
 |ref b=>obtain⟨a,rfl,_⟩:=r;rfl
 |scr b=>obtain⟨a,vs,rfl,_⟩:=r;rfl
 |fn b=>obtain⟨a,rfl,_⟩:=r;rfl
 |dct=>obtain⟨a,rfl,_⟩:=r;rfl
 |dks b=>obtain⟨a,_,rfl,_⟩:=r;rfl
 |ty n=>subst r;rfl
theorem fL{m:GS}{Q:VK}{o:Option Bool}(w:aU K m μ H Q (aQ o S))(s:aO K m μ S H):∃k,o=Nz k/\Q (.bl k) H:=by
 cases o with
 |none=>exact w.elim
 |some k=>exact⟨k,rfl,w.now s cS⟩
theorem xq{l:List (Option Bool)}{k:Bool}(h:fg l=Nz k):(∀o∈l,o.isSome=NA)/\k=l.any (λo=>o==Nz NA):=by
 obtain⟨K,e,E⟩:=N3.mp h;subst E;clear h
 induction l generalizing K with
 |nil=>cases e;simp_all
 |cons o r i=>
  rw[ZV]at e;unfold bw at e;split at e
  ·simp_all
  ·cases e
theorem qm(I:Inv X pq σ H s)(P:aO X.K ⟨X.mg,F⟩ μ S H)(hu:A.units+64<cLine){e:D}{w:V}{z:NF}{k:Bool}(rd:Rep X.K ⟨X.mg,F⟩ μ H d v)(ru:RelV v u)(re:Rep X.K ⟨X.mg,F⟩ μ H e w)(rz:RelV w z)
  (l:(av S e).isSome=NA) (h:fc d e S=Nz k):∃(a:ND) (its:Lv) (f:NF->Bool),z=.ref a/\(s.heap.IsList a its.toArray\/s.heap.IsTuple a its.toArray)/\(∀y∈its.toArray,EqAt A.in1 s y u (f y))/\its.toArray.any f=k:=by
 unfold fc at h;split at h
 ·rename_i i J;obtain⟨a,vs,rfl,l,r⟩:=ff P re J;cases rz
  obtain⟨its,q,hp⟩:∃its,Vals vs its/\(s.heap.IsList a its.toArray\/s.heap.IsTuple a its.toArray):=by
   rcases l with l|l
   ·obtain⟨its,q,p,_⟩:=I.list l;exact⟨its,q,.inl p.isList⟩
   ·obtain⟨its,q,p,_⟩:=I.tuple l;exact⟨its,q,.inr p⟩
  have Y:A.in1.units=A.units+1:=rfl;have B:bE=40:=rfl;obtain⟨Q,R⟩:=xq h
  classical
  have m:∀(j:Nat) (x:D) (y:NF),i[j]?=Nz x->its[j]?=Nz y->∀b,cF S bE x d=Nz b->EqAt A.in1 s y u b:=λj x y M C b n=>by obtain⟨v',T,U⟩:=r.get M;obtain⟨y',O,W⟩:=q.get T;rw[C]at O;cases O;exact(vV I P bE A.in1 (by omega) x d v' v _ u b U W rd ru n).2.2
  have len:i.length=its.length:=r.length.trans q.length;refine⟨a,its,λy=>decide (∃(j:Nat) (x:D),its[j]?=Nz y/\i[j]?=Nz x/\cF S bE x d=Nz NA),rfl,hp,λy C=>?_,?_⟩
  ·obtain⟨j,L,K⟩:=ZD.mp (show y∈its by simpa using C);have g:its[j]?=Nz y:=by rw[Zf L,K]
   have c:i[j]?=Nz (i[j]'(by omega)):=Zf _;by_cases t:∃(j:Nat) (x:D),its[j]?=Nz y/\i[j]?=Nz x/\cF S bE x d=Nz NA
   ·obtain⟨j',x',N,E,G⟩:=id t;show EqAt A.in1 s y u (decide (∃(j:Nat) (x:D),its[j]?=Nz y/\i[j]?=Nz x/\cF S bE x d=Nz NA));rw[ZO t];exact m j' x' y E N NA G
   ·show EqAt A.in1 s y u (decide (∃(j:Nat) (x:D),its[j]?=Nz y/\i[j]?=Nz x/\cF S bE x d=Nz NA));rw[ZQ t];obtain⟨b,n⟩:=Qr.mp (Q (cF S bE (i[j]'(by omega)) d) (Zq.mpr ⟨_,ZA c,rfl⟩));cases b with
    |false=>exact m j _ y c g NB n
    |true=>exact absurd ⟨j,_,g,c,n⟩ t
  ·rw[R];apply P6.mpr;rw[List.any_toArray,OP,OP];constructor
   ·rintro⟨y,C,B⟩;obtain⟨j,x,N,E,G⟩:=of_decide_eq_true B;exact⟨Nz NA,Zq.mpr ⟨x,ZA E,G⟩,rfl⟩
   ·rintro⟨o,Z,B⟩;obtain⟨x,M,rfl⟩:=Zq.mp Z;obtain⟨j,L,K⟩:=ZD.mp M;have c:i[j]?=Nz x:=by rw[Zf L,K]
    have g:its[j]?=Nz (its[j]'(by omega)):=Zf _;exact⟨_,ZA g,ZO ⟨j,x,g,c,by simpa using B⟩⟩
 ·rename_i J;rw[J]at l;cases l
theorem fA(O:QI)(D:X.A.units+64<cLine):cQ X (compareOp O) (rD X.K X.mg (a7 O)):=by
 intro p s l H x y v u Q I g i h;obtain⟨F,z,S,d,e,c,r,R,w⟩:=h;have hd:bE=40:=rfl;have fin:∀{k:Bool},Q (.bl k) H->EP X p l Q (.bool k) s:=λ{k} q=>⟨.bl k,H,I,rfl,q⟩;cases O with
 |Eq=>obtain⟨k,E,q⟩:=fL (o:=cF S bE d e) w c;exact(vV I c bE X.A (by omega) d e x y v u k r g R i E).1 X.prog X.w _ _ (fin q)
 |NotEq=>obtain⟨k,E,q⟩:=fL (o:=(cF S bE d e).map not) w c;obtain⟨K,m,rfl⟩:=N3.mp E;exact(vV I c bE X.A (by omega) d e x y v u K r g R i m).2.1 X.prog X.w _ _ (fin q)
 |Lt=>obtain⟨k,E,q⟩:=fL (o:=jw S bE d e) w c;exact jy I c bE X.A (by omega) d e x y v u k r g R i E X.prog X.w _ _ (fin q)
 |LtE=>
  replace w:aU X.K ⟨X.mg,F⟩ z H Q (Ez d e S):=w;unfold Ez at w;split at w
  ·have:=aJ r;have:=aJ R;subst x y
   exact wz p s l H _ _ v u Q I g i ⟨_,_,rfl,rfl,w.now c cS⟩
  ·rename_i as bs;obtain⟨k,E,q⟩:=fL (o:=xo as bs) w c;obtain⟨a,vs,rfl,G,T⟩:=b3 r;obtain⟨b,W,rfl,J,U⟩:=b3 R;cases g;cases i;obtain⟨V,M,P,_⟩:=I.tuple G;obtain⟨zs,N,L,_⟩:=I.tuple J;exact Gh P L (by omega) (jx as bs vs W V zs k T M U N E) X.prog X.w _ _ (fin q)
  ·exact w.elim
 |Gt=>
  replace w:aU X.K ⟨X.mg,F⟩ z H Q (Gi d e S):=w;unfold Gi at w;split at w
  ·have:=aJ r;have:=aJ R;subst x y
   exact wC p s l H _ _ v u Q I g i ⟨_,_,rfl,rfl,w.now c cS⟩
  ·exact w.elim
 |GtE=>
  replace w:aU X.K ⟨X.mg,F⟩ z H Q (Gj d e S):=w;unfold Gj at w;split at w
  ·have:=aJ r;have:=aJ R;subst x y
   exact wD p s l H _ _ v u Q I g i ⟨_,_,rfl,rfl,w.now c cS⟩
  ·exact w.elim
 |In=>
  obtain⟨k,E,q⟩:=fL (o:=fc d e S) w c;cases t:av S e with
  |some Z=>
   obtain⟨a,C,f,rfl,j,n,rfl⟩:=qm I c (A:=X.A) D r g R i (by rw[t];rfl) E;rcases j with j|j
   ·exact in_listAt f j n (fin q)
   ·exact in_tupleAt f j n (fin q)
  |none=>obtain⟨Y,y',rfl,rfl,B⟩:=jv (by unfold fc at E;rw[t]at E;exact E);cases eK r;cases eK R;exact Fp p s l H _ _ v u Q I g i ⟨_,_,rfl,rfl,by rw[B];exact q⟩
 |NotIn=>
  obtain⟨k,E,q⟩:=fL (o:=(fc d e S).map not) w c;obtain⟨K,m,rfl⟩:=N3.mp E;cases t:av S e with
  |some Z=>
   obtain⟨a,C,f,rfl,j,n,rfl⟩:=qm I c (A:=X.A) D r g R i (by rw[t];rfl) m;rcases j with j|j
   ·exact notIn_listAt f j n (fin q)
   ·exact notIn_tupleAt f j n (fin q)
  |none=>obtain⟨Y,y',rfl,rfl,B⟩:=jv (by unfold fc at m;rw[t]at m;exact m);cases eK r;cases eK R;exact Fq p s l H _ _ v u Q I g i ⟨_,_,rfl,rfl,by rw[B];exact q⟩
 |Is=>
  replace w:aU X.K ⟨X.mg,F⟩ z H Q (EA d e S):=w;unfold EA at w;split at w
  ·cases gP R;exact rK p s l H _ _ v u Q I g i ⟨rfl,by rw[xp r];exact w.now c cS⟩
  ·exact w.elim
 |IsNot=>
  replace w:aU X.K ⟨X.mg,F⟩ z H Q (sm d e S):=w;unfold sm at w;split at w
  ·cases gP R;exact lR p s l H _ _ v u Q I g i ⟨rfl,by rw[xp r];exact w.now c cS⟩
  ·exact w.elim
end Py
namespace Py
def rC(K:Fg)(m:Mg)(g:List D->aa->Res D):List V->Hp->VK->Prop:=λxs H Q=>∃F μ S ds,aO K ⟨m,F⟩ μ S H/\aj K ⟨m,F⟩ μ H ds xs/\aU K ⟨m,F⟩ μ H Q (g ds S)
theorem aj.one{m:GS}{vs:List V}(r:aj K m μ H [d] vs):∃v,vs=[v]/\Rep K m μ H d v:=by obtain⟨v,w,rfl,h,t⟩:=r.uncons;unfold aj at t;simp_all
theorem aj.two{m:GS}{e:D}{vs:List V}(r:aj K m μ H [d,e] vs):∃v w,vs=[v,w]/\Rep K m μ H d v/\Rep K m μ H e w:=by obtain⟨v,W,rfl,h,t⟩:=r.uncons;obtain⟨w,rfl,a⟩:=t.one;exact⟨v,w,rfl,h,a⟩
theorem mm{m:GS}{vs:List V}{i:Int}(r:aj K m μ H ds vs)(h:fX ds i=Nz d):∃v,fX vs i=Nz v/\Rep K m μ H d v:=by
 unfold fX at h⊢;rw[<-r.length];cases e:gL _ i with
 |none=>simp_all
 |some j=>rw[e]at h;exact r.get h
noncomputable def bi(d e:D)(S:aa):Res D:=match av S d,e with
 |some xs,.int i=>match fX xs i with
  |some y=>.ok y S
  |none=>.fail
 |_,_=>xj d e S
theorem Gk:wX X (rD X.K X.mg bi):=by
 intro V b p s k H x y v u Q I R j h c;obtain⟨F,t,S,d,e,g,n,o,w⟩:=h;unfold bi at w;split at w
 ·rename_i A i E;split at w
  ·rename_i Y q;obtain⟨a,vs,rfl,f,r⟩:=ff g n E;cases aJ o;obtain⟨z,l,m⟩:=mm r q;rcases f with f|f
   ·exact l5 V b p s k H _ _ v u Q I R j ⟨a,vs,i,z,rfl,rfl,f,l,w.now g m⟩ c
   ·exact rY V b p s k H _ _ v u Q I R j ⟨a,vs,i,z,rfl,rfl,f,l,w.now g m⟩ c
  ·exact w.elim
 ·exact Ge V b p s k H _ _ v u Q I R j ⟨F,t,S,_,_,g,n,o,w⟩ c
noncomputable def f8(ds:List D)(S:aa):Res D:=match ds with
 | [.str x]=>if x.length<=bt then .ok (.int x.length) S else .fail
 | [d]=>match av S d with
  |some xs=>.ok (.int xs.length) S
  |none=>.fail
 |_=>.fail
theorem xr:aX X (.builtin "len") (rC X.K X.mg f8):=by
 intro p s j H g u Q I r h;obtain⟨F,i,S,D,c,R,w⟩:=h;unfold f8 at w;split at w
 ·split at w
  ·obtain⟨v,rfl,b⟩:=R.one;cases eK b;exact FW _ s _ H _ _ Q I r ⟨_,rfl,by trivial,w.now c bI⟩
  ·exact w.elim
 ·split at w
  ·rename_i x e;obtain⟨v,rfl,b⟩:=R.one;obtain⟨a,vs,rfl,d,f⟩:=ff c b e;refine FV _ s _ H _ _ Q I r ⟨a,_,rfl,d,?_⟩;rw[<-f.length];exact w.now c bI
  ·exact w.elim
 ·exact w.elim
noncomputable def sn(ds:List D)(S:aa):Res D:=match ds with
 | [.tup xs]=>.ok (.tup xs) S
 | [d]=>match av S d with
  |some xs=>.ok (.tup xs) S
  |none=>.fail
 |_=>.fail
theorem xt{m:GS}(s:aO K m μ S H)(r:Rep K m μ H d v)(e:av S d=Nz xs)(b:∀ys,d≠.tup ys):∃a vs,v=.ref a/\c8 K H a vs/\aj K m μ H xs vs:=by
 cases d with
 |lst ys=>obtain⟨a,vs,E,h,q⟩:=dM s r (show dL S _=Nz _ from e);exact⟨a,_,E,.of h,q⟩
 |ref n=>obtain⟨a,vs,E,h,q⟩:=dM s r (show dL S _=Nz _ from e);exact⟨a,_,E,.of h,q⟩
 |tup ys=>simp_all
 |scr ys=>cases e;obtain⟨a,vs,e,h,q⟩:=r;exact⟨a,_,e,h.sq,q⟩
 |_=>cases e
theorem mn:aX X (.type "tuple") (rC X.K X.mg sn):=by
 intro P s m H k u Q I r h;obtain⟨F,l,S,D,f,g,w⟩:=h;unfold sn at w;split at w
 ·obtain⟨v,rfl,b⟩:=g.one;obtain⟨a,vs,rfl,c,R⟩:=b3 b;exact w4 _ s _ H _ _ Q I r ⟨a,_,rfl,.inr ⟨c,w.now f b⟩⟩
 ·rename_i d i;split at w
  ·rename_i x e;obtain⟨v,rfl,b⟩:=g.one;obtain⟨a,vs,rfl,c,R⟩:=xt f b e λy z=>i y (by omega);exact w4 _ s _ H _ _ Q I r ⟨a,_,rfl,.inl ⟨c,λp j=>w.tup f R p j⟩⟩
  ·exact w.elim
 ·exact w.elim
noncomputable def jz(box:Bool)(ds:List D)(S:aa):Res D:=match ds with
 | [d]=>match av S d with
  |some xs=>if box then .ok (.ref S.length) (S++[xs])else .ok (.lst xs) S
  |none=>.fail
 |_=>.fail
theorem sr(box:Bool):aX X (.type "list") (rC X.K X.mg (jz box)):=by
 intro P s k H i u Q I r h;obtain⟨F,j,S,D,b,g,w⟩:=h;unfold jz at w;split at w
 ·split at w
  ·rename_i x e;obtain⟨v,rfl,f⟩:=g.one;obtain⟨a,vs,rfl,d,R⟩:=ff b f e;refine FX _ s _ H _ _ Q I r ⟨a,_,rfl,d,λp c=>?_⟩;split at w
   ·exact w.box b R p c
   ·exact w.lst b R p c
  ·exact w.elim
 ·exact w.elim
noncomputable def intD(ds:List D)(S:aa):Res D:=match ds with
 | [.int i]=>.ok (.int i) S
 | [.bl b]=>.ok (.int (if b then 1 else 0)) S
 |_=>xk ds S
theorem xu:aX X (.type "int") (rC X.K X.mg intD):=by
 intro p s c H x u Q I r h;obtain⟨F,e,S,d,b,R,w⟩:=h;unfold intD at w;split at w
 ·obtain⟨v,rfl,a⟩:=R.one;cases aJ a;exact wF p s c H _ u Q I r (.inl ⟨_,rfl,w.now b bI⟩)
 ·obtain⟨v,rfl,a⟩:=R.one;cases f6 a;exact wF p s c H _ u Q I r (.inr ⟨_,rfl,w.now b bI⟩)
 ·exact xl I r b R w
noncomputable def mq(ds:List D)(S:aa):Res D:=match ds with
 | [.int i,.int j]=>.ok (.int (if j<i then j else i)) S
 |_=>.fail
noncomputable def mr(ds:List D)(S:aa):Res D:=match ds with
 | [.int i,.int j]=>.ok (.int (if j>i then j else i)) S
 |_=>.fail
theorem xv(a:X.calm=NA):aX X (.builtin "min") (rC X.K X.mg mq):=by
 intro p s f H x u Q I r h;obtain⟨F,e,S,d,c,R,w⟩:=h;unfold mq at w;split at w
 ·obtain⟨v,W,rfl,b,hw⟩:=R.two;cases aJ b;cases aJ hw;exact Fy a _ s _ H _ _ Q I r ⟨_,_,rfl,w.now c bI⟩
 ·exact w.elim
theorem xw(a:X.calm=NA):aX X (.builtin "max") (rC X.K X.mg mr):=by
 intro p s f H x u Q I r h;obtain⟨F,e,S,d,c,R,w⟩:=h;unfold mr at w;split at w
 ·obtain⟨v,W,rfl,b,hw⟩:=R.two;cases aJ b;cases aJ hw;exact Fx a _ s _ H _ _ Q I r ⟨_,_,rfl,w.now c bI⟩
 ·exact w.elim
noncomputable def bN(S:aa):D->Option Bool
 | .non=>Nz NB
 | .bl b=>Nz b
 | .int i=>Nz (i !=0)
 | .str x=>if x.length<=bt then Nz ((x.length:Int) !=0)else none
 |d=>(av S d).map λxs=> !xs.isEmpty
theorem qo{m:GS}{k:Bool}(j:aO K m μ S H)(r:Rep K m μ H d v)(e:bN S d=Nz k):iB K v H k:=by
 have seq:∀(x:List D),av S d=Nz x->k= !x.isEmpty->iB K v H k:=λx f E=>by
  obtain⟨a,vs,rfl,c,q⟩:=ff j r f;have i:=q.length;have g:x.isEmpty=vs.isEmpty:=by cases x<;>cases vs<;>simp at i⊢
  rw[g]at E;rcases c with c|c
  ·exact .inl ⟨_,c,E⟩
  ·exact .inr (.inl ⟨_,c,E⟩)
 have s:(av S d).map _=Nz k->iB K v H k:=λh=>by obtain⟨x,f,E⟩:=N3.mp h;exact seq _ f E.symm
 cases d with
 |non=>cases gP r;cases e;rfl
 |bl b=>cases f6 r;cases e;rfl
 |int b=>cases aJ r;cases e;rfl
 |str b=>
  cases eK r;replace e:(if b.length<=bt then Nz _ else none)=Nz k:=e;split at e
  ·cases e;exact⟨by trivial,rfl⟩
  ·cases e
 |tup b=>exact s e
 |lst b=>exact s e
 |ref b=>exact s e
 |scr b=>exact s e
 |fn b=>exact s e
 |dct=>exact s e
 |dks b=>exact s e
 |ty b=>exact s e
noncomputable def bZ(xs:List D)(lo hi:Option Int):List D:=(xs.drop (HT.bH xs.length 0 lo)).take (HT.bH xs.length xs.length hi-HT.bH xs.length 0 lo)
theorem xx{m:GS}{vs:List V}{lo:Option Int}(r:aj K m μ H ds vs):aj K m μ H (bZ ds lo hi) (gO vs lo hi):=by unfold bZ gO;rw[r.length];exact(r.drop _).take _
noncomputable def jj(d:D)(lo hi:Option Int)(S:aa):Res D:=match d with
 | .tup xs=>.ok (.tup (bZ xs lo hi)) S
 |d=>match av S d with
  |some xs=>.ok (.lst (bZ xs lo hi)) S
  |none=>MU d lo hi S
def Nn(K:Fg)(m:Mg):V->Option Int->Option Int->Hp->VK->Prop:=λx lo hi H Q=>∃F μ S d,aO K ⟨m,F⟩ μ S H/\Rep K ⟨m,F⟩ μ H d x/\aU K ⟨m,F⟩ μ H Q (jj d lo hi S)
theorem Gm{t:ND}{lo:Option Int}(H:Ss s.heap t items)(hs:s.heap.IsSliceOf sl vl vu .none)(pl:QP vl lo)(p:QP vu hi)
  (hw:HT.bH items.size 0 lo=0/\HT.bH items.size items.size hi=items.size) (h:Q (.ref t) s):wpAny (model prog w) A (getItem (.ref t) (.ref sl)) Q E s:=by
 obtain⟨o,b,a,c⟩:=id hs;unfold getItem
 try with_reducible refine Z8 ?_
 refine Za (wpAny_sequenceKey H.typeIs (rfl) ?_)
 refine Za (Z4 H.typeIs OD
  (Z1 OD H.typeIs entry_tuple_getitem ?_ (args_tuple_getitem _ _)))
 show wpAny _ _ (Rb _>>=_) _ _ s;refine Za (tupleItemsOf_ H ?_);refine Za (Qu ⟨_,b,a⟩ ?_);refine Za (HT.wQ hs pl p ?_);show wpAny _ _ (if(((HT.bH _ 0 _:Nat):Int)==0&&(1)==1&&(HT.bH _ _ _-HT.bH _ 0 _)==items.size)=NA then _ else _) _ _ s;rw[if_pos (by simp_all)];exact Za (Za (Qu H.typeIs (Ze (Za (Ob (Ze ⟨_,rfl,Ze h⟩))))))
theorem Gn:Ex X (Nn X.K X.mg):=by
 intro y s B H x v V A l g sl Q I m j P k h;obtain⟨F,G,S,d,c,R,w⟩:=h;unfold jj at w;split at w
 ·rename_i q;obtain⟨a,vs,rfl,i,r⟩:=b3 R;have t:=r.length;by_cases f:HT.bH vs.length 0 l=0/\HT.bH vs.length vs.length g=vs.length
  ·cases m;obtain⟨o,D,u,E⟩:=I.tuple i;have b:o.toArray.size=vs.length:=by rw[Zy];exact D.length.symm
   refine⟨"tuple",_,PyProof.Rows.slot_tuple_getitem.lookup,u.typeIs,?_⟩;refine Gm u j P k (by rw[b];exact f) ⟨.ref a,H,I,rfl,?_⟩;have e:bZ q l g=q:=by unfold bZ;rw[t,f.1,f.2];simp[<-t]
   rw[e]at w;exact w.now c R
  ·exact sl_tup y s B H _ v V A l g sl Q I m j P k ⟨a,vs,rfl,i,f,λp n=>w.tup c (xx r) p n⟩
 ·rename_i d C;split at w
  ·rename_i q e;obtain⟨a,vs,rfl,i,r⟩:=xt c R e (λY z=>C Y z);exact l6 y s B H _ v V A l g sl Q I m j P k ⟨a,vs,rfl,i,λp n=>w.lst c (xx r) p n⟩
  ·exact Gf I m j P k c R w
noncomputable def ss(S:aa):D->Option String
 | .non=>Nz "NoneType"
 | .bl _=>Nz "bool"
 | .int _=>Nz "int"
 | .str _=>Nz "str"
 | .tup _=>Nz "tuple"
 | .lst _=>Nz "list"
 | .ref n=>(S[n]?).map λ_=>"list"
 | .scr _=>Nz "list"
 | .dct=>Nz "dict"
 |_=>none
noncomputable def jA(t c:String):Option Bool:=
 if ["NoneType","bool","int","str","tuple","list","dict"].contains t&&["bool","int","str","tuple","list","dict"].contains c then Nz (t==c||(t=="bool"&&c=="int"))else none
theorem ms{t c:String}{b:Bool}(h:jA t c=Nz b):PySem.W.kitOne K (.type t) (.type c)=Nz b:=by
 unfold jA at h;split at h
 ·rename_i H;simp at H;cases h;obtain⟨a,d⟩:=H;rcases a with rfl|rfl|rfl|rfl|rfl|rfl|rfl<;>rcases d with rfl|rfl|rfl|rfl|rfl|rfl<;>first|rfl|decide+kernel
 ·cases h
noncomputable def f9(ds:List D)(S:aa):Res D:=match ds with
 | [d,.ty c]=>match ss S d with
  |some t=>aQ (jA t c) S
  |none=>.fail
 |_=>.fail
theorem Gp:aX X (.builtin "isinstance") (rC X.K X.mg f9):=by
 intro P s B H V us Q I r h;obtain⟨F,μ,S,W,m,N,w⟩:=h;unfold f9 at w;split at w
 ·rename_i d c;split at w
  ·rename_i t E;obtain⟨b,J,q⟩:=fL w m;obtain⟨v,z,rfl,g,x⟩:=N.two;have k:z=.ty c:=by unfold Rep at x;exact x
   subst k;obtain⟨u,y,rfl,R,U⟩:=r.two;cases U;have e:=ms (K:=X.K) J;have fin:∀T,EP X P B Q (.bool b) {s with toks:=T}:=λT=>⟨.bl b,H,I.tok _,rfl,q⟩
   have lst:∀a vs,v=.ref a->c8 X.K H a vs->t="list"->wpAny (model X.prog X.w) X.A (call _ [u,.type c]) (EP X P B Q) X.xe s:=λa vs L f E=>by subst L;subst E;cases R;obtain⟨l,O,M,_⟩:=I.list f;obtain⟨o,i,j,_⟩:=M.isList;exact PySem.W.kia_one PySem.W.kitx_list I.kIn ⟨o,i,j⟩ e (λz=>nomatch z) fin
   cases d with
   |non=>cases gP g;cases R;cases E;exact PySem.W.kia_one PySem.W.kitx_none I.kIn RX e (λz=>nomatch z) fin
   |bl b=>cases f6 g;cases R;cases E;exact PySem.W.kia_one PySem.W.kitx_bool I.kIn RX e (λz=>nomatch z) fin
   |int b=>cases aJ g;obtain⟨t,rfl⟩:=R;cases E;exact PySem.W.kia_one PySem.W.kitx_int I.kIn RX e (λz=>nomatch z) fin
   |str b=>cases eK g;obtain⟨t,rfl⟩:=R;cases E;exact PySem.W.kia_one PySem.W.kitx_str I.kIn RX e (λz=>nomatch z) fin
   |tup b=>obtain⟨a,vs,rfl,f,_⟩:=b3 g;cases R;cases E;obtain⟨l,O,p,_⟩:=I.tuple f;obtain⟨o,i,j,_⟩:=p;exact PySem.W.kia_one PySem.W.kitx_tuple I.kIn ⟨o,i,j⟩ e (λz=>nomatch z) fin
   |lst b=>obtain⟨a,vs,rfl,f,_⟩:=dM m g rfl;cases E;exact lst a vs rfl (.of f) rfl
   |ref n=>obtain⟨V,C,D⟩:=N3.mp E;obtain⟨a,vs,rfl,f,_⟩:=dM m g C;exact lst a vs rfl (.of f) D.symm
   |scr b=>obtain⟨a,vs,rfl,f,_⟩:=g;cases E;exact lst a vs rfl f.sq rfl
   |dct=>obtain⟨a,rfl,G⟩:=g;cases R;cases E;obtain⟨_,_,vs,_,p⟩:=(show bx X.prog X.w H s.heap a (.dK [])from I.hok a _ G);obtain⟨o,Z,Y,i,j,_⟩:=p;exact PySem.W.kia_one PySem.W.kitx_dict I.kIn ⟨o,i,j.1⟩ e (λz=>nomatch z) fin
   |fn b=>cases E
   |ty b=>cases E
   |dks b=>cases E
  ·exact w.elim
 ·exact w.elim
noncomputable def eB:D->Option Bool
 | .bl b=>Nz b
 |_=>none
noncomputable def jB(ds:List D)(S:aa):Res D:=match ds with
 | [d]=>match av S d with
  |some xs=>aQ (bw (xs.map eB)) S
  |none=>.fail
 |_=>.fail
noncomputable def f_(ds:List D)(S:aa):Res D:=match ds with
 | [d]=>match av S d with
  |some xs=>aQ (fg (xs.map eB)) S
  |none=>.fail
 |_=>.fail
theorem xy{M:GS}{vs:List V}(r:aj K M μ H xs vs)(q:Vals vs its)(h:∀(j:Nat) o,(xs.map eB)[j]?=Nz o->o=Nz (eJ (xs.map eB) j)):
  ∀(i:Nat) v,its.toArray[i]?=Nz v->v=.bool (eJ (xs.map eB) i):=λi v m=>by
 have L:=r.length;have p:=q.length
 have a:its[i]?=Nz v:=by simpa using m
 have n:i<its.length:=(Zm.mp a).1;have g:xs[i]?=Nz (xs[i]'(by omega)):=Zf _;obtain⟨w,k,e⟩:=r.get g;obtain⟨u,f,l⟩:=q.get k;rw[a]at f;cases f;have c:=h i (eB (xs[i]'(by omega))) (by rw[Z0,g];rfl);revert e c;generalize xs[i]'(by omega)=d;intro e c;cases d with
 |bl b=>
  cases f6 e;have:b=eJ (xs.map eB) i:=by simpa[eB]using c
  rw[<-this];exact l
 |_=>cases c
theorem jC(C:X.calm=NA)(I:Inv X pq σ H s)(M:aO X.K ⟨X.mg,F⟩ μ S H)(G:Rep X.K ⟨X.mg,F⟩ μ H d v)(J:RelV v u)(e:av S d=Nz xs)
  (h:∀(j:Nat) o,(xs.map eB)[j]?=Nz o->o=Nz (eJ (xs.map eB) j)) (b:Bool->Bool) {Q:VK} {fb:Nat->Bool} (q:Q (.bl (fb xs.length)) H):
  wpAny (model X.prog X.w) X.A.in1 (pyIter u) (λit g=>∃I fp wr n P St,it=.ref I/\Walks X.prog X.w X.A.in1 I fp wr n P St/\St 0 g.heap/\TruthOf X.prog X.w X.A.in1 P (eJ (xs.map eB))/\
   ∀h' tk,(∀b o,b∉wr->g.heap.get? b=Nz o->h'.get? b=Nz o)->EP X pq σ Q (.bool (fb n)) {g with heap:=h',toks:=tk}) X.xe s:=by
 obtain⟨a,vs,rfl,m,r⟩:=ff M G e;cases J;have y:X.A.in1.handled=none:=I.ok.hd C;rcases m with m|m
 ·obtain⟨c,R,p,D⟩:=I.list m;have B:=xy r R h;refine Yo p.isList ?_;have k:a≠s.heap.objs.size:=by obtain⟨o,f,_⟩:=p.isList;exact ZC (Zo f)
  refine⟨_,_,_,_,_,_,rfl,Walks.list y s.heap.objs.size a k c.toArray,⟨⟨_,Zk _ rfl,rfl,rfl⟩,Sg p.isList _⟩,?_,λh' tk K=>?_⟩
  ·intro i v L A E w l;rw[B i v w];exact Yn l
  ·have t:c.toArray.size=xs.length:=by rw[Zy,<-R.length,<-r.length]
   rw[t];refine⟨.bl _,H,I.kept (h':=h') (t':=tk) λb o f=>K b o ?_ (Zc _ f),rfl,q⟩;intro z;have Z:b=s.heap.objs.size:=by simpa using z
   exact absurd (Zo f) (by rw[Z];exact Yl _)
 ·obtain⟨c,R,p,D⟩:=I.tuple m;have B:=xy r R h;refine Yi (show s.heap.IsTuple a c.toArray from p) ?_;have k:a≠s.heap.objs.size:=by obtain⟨o,f,_⟩:=p;exact ZC (Zo f)
  refine⟨_,_,_,_,_,_,rfl,Walks.tuple y s.heap.objs.size a k c.toArray,⟨⟨_,Zk _ rfl,rfl,rfl⟩,by obtain⟨o,f,r⟩:=p;exact⟨o,Zc _ f,r⟩⟩,?_,λh' tk K=>?_⟩
  ·intro i v L A E w l;rw[B i v w];exact Yn l
  ·have t:c.toArray.size=xs.length:=by rw[Zy,<-R.length,<-r.length]
   rw[t];refine⟨.bl _,H,I.kept (h':=h') (t':=tk) λb o f=>K b o ?_ (Zc _ f),rfl,q⟩;intro z;have Z:b=s.heap.objs.size:=by simpa using z
   exact absurd (Zo f) (by rw[Z];exact Yl _)
theorem xz(t:X.calm=NA):aX X (.builtin "all") (rC X.K X.mg jB):=by
 intro C s K H G U Q I r h;obtain⟨F,J,S,D,b,R,w⟩:=h;unfold jB at w;split at w
 ·split at w
  ·rename_i d Y e;obtain⟨k,E,q⟩:=fL w b;obtain⟨v,rfl,x⟩:=R.one;obtain⟨u,rfl,y⟩:=r.one;obtain⟨p,a⟩:=mj _ _ E;have hw:=jC t I b x y e p id (Q:=Q) (fb:=λn=>(NJ n).all (eJ (Y.map eB))) (by rw[Zh]at a;rw[<-a];exact q);exact call_all_walk (Oz hw (λit c Z=>by obtain⟨f,o,W,n,P,g,A,i,j,l,m⟩:=Z;exact(⟨f,o,W,n,P,g,_,A,i,j,l,m⟩)) λ_ _ z=>z)
  ·exact w.elim
 ·exact w.elim
theorem xA(R:X.calm=NA):aX X (.builtin "any") (rC X.K X.mg f_):=by
 intro pq s σ H xs us Q I r h;obtain⟨F,μ,S,Y,p,U,w⟩:=h;unfold f_ at w;split at w
 ·split at w
  ·rename_i d y e;obtain⟨k,J,q⟩:=fL w p;obtain⟨v,rfl,T⟩:=U.one;obtain⟨u,rfl,V⟩:=r.one;obtain⟨M,N⟩:=xq J
   have i:∀(j:Nat) o,(y.map eB)[j]?=Nz o->o=Nz (eJ (y.map eB) j):=λj o g=>by
    have:=M o (ZA g);cases o with
    |none=>cases this
    |some b=>simp[eJ,g]
   have O:k=(NJ y.length).any (eJ (y.map eB)):=by
    rw[N];apply P6.mpr;rw[OP,OP];constructor
    ·rintro⟨o,g,l⟩;obtain⟨j,f,K⟩:=ZD.mp g;have a:(y.map eB)[j]?=Nz o:=by rw[Zf f,K]
     have:o=Nz NA:=by simpa using l
     refine⟨j,by simpa using f,?_⟩;have m:=i j o a;rw[this]at m;exact(Yk m).symm
    ·rintro⟨j,f,l⟩;have c:j<(y.map eB).length:=by simpa using f
     have a:(y.map eB)[j]?=Nz ((y.map eB)[j]):=Zf c;refine⟨_,Z6 c,?_⟩;rw[i j _ a,l];rfl
   have hw:=jC R I p T V e i id (Q:=Q) (fb:=λn=>(NJ n).any (eJ (y.map eB))) (by rw[<-O];exact q);exact call_any_walk (Oz hw (λit t Z=>by obtain⟨x,L,W,n,P,A,B,C,D,E,G⟩:=Z;exact(⟨x,L,W,n,P,A,_,B,C,D,E,G⟩)) λ_ _ z=>z)
  ·exact w.elim
 ·exact w.elim
def rM(K:Fg)(m:Mg)(g:D->List D->aa->Res D):V->List V->Hp->VK->Prop:=λx xs H Q=>∃F μ S d ds,aO K ⟨m,F⟩ μ S H/\Rep K ⟨m,F⟩ μ H d x/\aj K ⟨m,F⟩ μ H ds xs/\aU K ⟨m,F⟩ μ H Q (g d ds S)
theorem jD{m:GS}(s:aO K m μ S H)(r:Rep K m μ H (.ref n) v)(e:S[n]?=Nz xs):∃a vs,v=.ref a/\μ[n]?=Nz a/\H a=Nz (.lst vs)/\aj K m μ H xs vs:=by obtain⟨a,rfl,h⟩:=r;obtain⟨vs,b,q⟩:=s.at_ n a _ h e;exact⟨a,_,rfl,h,b,q⟩
noncomputable def fh(d:D)(ds:List D)(S:aa):Res D:=match d,ds with
 | .ref n,[y]=>match S[n]? with
  |some xs=>if xs.length<bt then .ok .non (S.set n (xs++[y]))else .fail
  |none=>.fail
 |_,_=>.fail
theorem Gq:rX X "list.append" (rM X.K X.mg fh):=by
 intro p s t H x o v u Q I k j h;obtain⟨F,q,S,d,D,c,i,R,w⟩:=h;have l:=ma;unfold fh at w;split at w
 ·split at w
  ·rename_i n y Y e;split at w
   ·obtain⟨a,vs,rfl,f,b,r⟩:=jD c i e;obtain⟨z,rfl,g⟩:=R.one;have m:=r.length;exact xa _ s _ H _ _ v _ Q I k j ⟨a,_,z,rfl,rfl,b,by simp_all,w.wrote c f b (r.append (.cons g .nil)) jt⟩
   ·exact w.elim
  ·exact w.elim
 ·exact w.elim
noncomputable def f'(d:D)(ds:List D)(S:aa):Res D:=match d,ds with
 | .ref n,[y]=>match S[n]?,dL S y with
  |some xs,Nz ys=>if xs.length+ys.length<=bt then .ok .non (S.set n (xs++ys))else .fail
  |_,_=>.fail
 |_,_=>.fail
theorem Gr:rX X "list.extend" (rM X.K X.mg f'):=by
 intro P s C H x A v u Q I p o h;obtain⟨F,B,S,d,D,c,m,R,w⟩:=h;have q:=ma;unfold f' at w;split at w
 ·split at w
  ·rename_i n y Y Z e E;split at w
   ·obtain⟨a,vs,rfl,k,f,r⟩:=jD c m e;obtain⟨z,rfl,l⟩:=R.one;obtain⟨b,W,rfl,i,g⟩:=dM c l E;have t:=r.length;have j:=g.length;exact FZ _ s _ H _ _ v _ Q I p o ⟨a,b,_,_,rfl,rfl,f,i,by simp_all,w.wrote c k f (r.append g) jt⟩
   ·exact w.elim
  ·exact w.elim
 ·exact w.elim
theorem aj.dropLast{m:GS}{vs:List V}(r:aj K m μ H ds vs):aj K m μ H ds.dropLast vs.dropLast:=by rw[Sx,Sx,r.length];exact r.take _
noncomputable def jE(d:D)(ds:List D)(S:aa):Res D:=match d,ds with
 | .ref n,[]=>match S[n]? with
  |some xs=>match xs[xs.length-1]? with
   |some y=>.ok y (S.set n xs.dropLast)
   |none=>.fail
  |none=>.fail
 |_,_=>.fail
theorem xB:rX X "list.pop" (rM X.K X.mg jE):=by
 intro p s q H x m v u Q I l k h;obtain⟨F,o,S,d,D,f,j,R,w⟩:=h;unfold jE at w;split at w
 ·split at w
  ·rename_i n Y e;split at w
   ·rename_i y E;obtain⟨a,vs,rfl,i,c,r⟩:=jD f j e;subst R;obtain⟨z,b,g⟩:=r.get E;rw[r.length]at b;exact r3 _ s _ H _ _ v _ Q I l k ⟨a,_,z,rfl,rfl,c,b,w.wrote f i c r.dropLast g⟩
   ·exact w.elim
  ·exact w.elim
 ·exact w.elim
noncomputable def iF(d e f:D)(S:aa):Option aa:=match d,e with
 | .ref n,.int i=>match S[n]? with
  |some xs=>match gL xs.length i with
   |some j=>Nz (S.set n (xs.set j f))
   |none=>none
  |none=>none
 |_,_=>none
noncomputable def Gs(K:Fg)(m:Mg):lG:=λo i v H Q=>∃F μ S d e f,aO K ⟨m,F⟩ μ S H/\Rep K ⟨m,F⟩ μ H d o/\Rep K ⟨m,F⟩ μ H e i/\Rep K ⟨m,F⟩ μ H f v/\
 ∃S',iF d e f S=Nz S'/\∀μ' H',Ext μ H μ' H'->aO K ⟨m,F⟩ μ' S' H'->Q H'
theorem xC:rc X (Gs X.K X.mg):=by
 intro P s C H o i v O A u Q I x t y h;obtain⟨F,B,S,d,e,f,l,R,p,q,z,E,w⟩:=h;unfold iF at E;split at E
 ·split at E
  ·rename_i n k _ Y m;split at E
   ·rename_i j c;cases E;obtain⟨a,vs,rfl,g,b,r⟩:=jD l R m;cases aJ p;rw[r.length]at c;exact FP _ s _ H _ _ v _ _ u Q I x t y ⟨a,_,k,j,rfl,rfl,b,c,w _ _ (.wrote (ZA g) b) (l.wrote g b (r.set j q))⟩
   trivial
  trivial
 trivial
noncomputable def b6(env:Env):List (Str×Ol)->List (Str×ND)->List (Str×ND)
 | [],cs=>cs
 | (n,k)::r,cs=>b6 env r (if k== .free then(match env.cells.lookup n with|some c=>(n,c)::cs|none=>cs)else cs)
theorem Gu(h:∀x∈scope.names,x.2=.free->∃c,env.cells.lookup x.1=Nz c):closureFor scope env=pure (b6 env scope.names []):=by
 unfold closureFor
 have K:∀(l:List (Str×Ol)) (C:List (Str×ND)),(∀x∈l,x.2=.free->∃c,env.cells.lookup x.1=Nz c)->
   (forIn l C λx r=>(if(x.2==O_)=NA then do let c <-cellOf env x.1;pure (N4 ((x.1,c)::r))else pure (N4 r):Sem _))=pure (b6 env l C):=by
  intro l
  induction l with
  |nil=>intro C _;rfl
  |cons x l i=>
   intro C a;obtain⟨n,k⟩:=x;rw[Pj];unfold b6;by_cases e:k=.free
   ·subst e;obtain⟨c,d⟩:=a (n,.free) (by simp) rfl;have H:cellOf env n=pure c:=by unfold cellOf;rw[d]
    simp only[beq_self_eq_true,if_true,H,d];simp only[pure_bind];exact i _ λy b=>a y (Zb _ b)
   ·have f:(k==O_)=NB:=by simpa using e
    simp only[f,Z9,if_false,pure_bind];exact i _ λy b=>a y (Zb _ b)
 have:=K scope.names [] h
 first
  | (rw[<-this];rfl)
  | (simp only[bind_pure];exact this)
  | (show(do let r <-_;pure r)=_;rw[bind_pure];exact this)
theorem su{env:Env}:∀(l:List (Str×Ol)) (cs:List (Str×ND)),(∀p∈cs,env.cells.lookup p.1=Nz p.2)->∀p∈b6 env l cs,env.cells.lookup p.1=Nz p.2
 | [],cs,h,p,a=>h p a
 | (n,k)::r,cs,h,p,a=>by
  unfold b6 at a;refine su r _ (λq H=>?_) p a;split at H
  ·split at H
   ·rename_i c b;rcases Zi.mp H with rfl|H
    ·exact b
    ·exact h q H
   ·exact h q H
  ·exact h q H
theorem xD{env:Env}:∀(l:List (Str×Ol)) (cs:List (Str×ND)),∀p∈cs,p∈b6 env l cs
 | [],cs,p,h=>h
 | (n,k)::r,cs,p,h=>by
  unfold b6;refine xD r _ p ?_;split
  ·split
   ·exact Zb _ h
   ·exact h
  ·exact h
theorem xE{env:Env}{x:Str}{c:ND}(H:env.cells.lookup x=Nz c):∀(l:List (Str×Ol)) (cs:List (Str×ND)),(x,O_)∈l->(x,c)∈b6 env l cs
 | [],cs,h=>by simp_all
 | (n,k)::r,cs,h=>by
  rcases Zi.mp h with e|h
  ·refine xD r _ _ ?_;simp_all
  ·exact xE H r _ h
theorem xF{a:Type}{x:Str}{c:a}:∀{l:List (Str×a)},(x,c)∈l->∃d,l.lookup x=Nz d
 | [],h=>by simp_all
 | (n,d)::r,h=>by
  dsimp only[OB];cases e:x==n with
  |true=>simp
  |false=>
   rcases Zi.mp h with E|h
   ·simp_all
   ·exact xF h
theorem xG{env:Env}:∀{N:List (Str×Ol)} {x:Str} {k:Ol},(N.map λ(n,k)=>if(k==O_&&env.scope.kind== .function&&env.kindOf n==Nz .cell)then(n,NT)else(n,k)).lookup x=Nz k->
  ∃K,N.lookup x=Nz K/\(k=K\/(K=.free/\k=.cell))
 | [],_,_,h=>by simp at h
 | (n,a)::r,x,k,h=>by
  have i:= @xG env r x k;rw[ZV]at h;rw[OB];by_cases H:(a==O_&&env.scope.kind== .function&&env.kindOf n==Nz .cell)=NA
  ·simp only[H,if_true,OB]at h;cases e:x==n with
   |true=>rw[e]at h;cases h;refine⟨a,rfl,.inr ⟨?_,rfl⟩⟩;rw[ZL,ZL]at H;exact Rt H.1.1
   |false=>rw[e]at h;exact i h
  ·simp only[H,Z9,if_false,OB]at h;cases e:x==n with
   |true=>rw[e]at h;cases h;exact⟨a,rfl,.inl rfl⟩
   |false=>rw[e]at h;exact i h
theorem xH{env:Env}:∀{N:List (Str×Ol)} {x:Str},N.lookup x=Nz .free->
  let m:=(N.map λ(n,k)=>if(k==O_&&env.scope.kind== .function&&env.kindOf n==Nz .cell)then(n,NT)else(n,k))
  m.lookup x=Nz .cell\/m.lookup x=Nz .free
 | [],_,h=>by simp at h
 | (n,K)::r,x,h=>by
  have i:= @xH env r x;rw[OB]at h;dsimp only;rw[ZV];by_cases H:(K==O_&&env.scope.kind== .function&&env.kindOf n==Nz .cell)=NA
  ·simp only[H,if_true,OB];cases e:x==n with
   |true=>exact .inl rfl
   |false=>rw[e]at h;exact i h
  ·simp only[H,Z9,if_false,OB];cases e:x==n with
   |true=>rw[e]at h;cases h;exact .inr rfl
   |false=>rw[e]at h;exact i h
theorem jF:∀(N:List (Str×Ol)) (n:Nat) (a b:List (Str×ND)),cellsFrom n N (a++b)=cellsFrom n N a++b
 | [],_,_,_=>rfl
 | (x,k)::r,n,a,b=>by
  show(if(k==NT)=NA then cellsFrom _ r _ else cellsFrom n r _)=(if(k==NT)=NA then cellsFrom _ r _ else cellsFrom n r a)++b;split
  ·exact jF r _ ((x,n)::a) b
  ·exact jF r n a b
theorem sv{x:Str}{c:ND}:∀(N:List (Str×Ol)) (n:Nat) (a:List (Str×ND)),(x,c)∈cellsFrom n N a->(x,c)∈a\/(x,NT)∈N
 | [],_,_,h=>.inl h
 | (y,k)::r,n,a,h=>by
  replace h:(x,c)∈if(k==NT)=NA then cellsFrom _ r _ else cellsFrom n r a:=h;split at h
  ·rcases sv r _ _ h with h|h
   ·grind
   simp[*]
  ·rcases sv r n _ h with h|h
   ·exact .inl h
   simp_all
theorem sw{M:Model}{A:OH}{E:Vs}:∀(n:List (Str×Ol)) (cs:List (Str×ND)) (s:NC) (Q:List (Str×ND)->NC->Prop),Q (cellsFrom s.heap.objs.size n cs) {s with heap:=pushCells s.heap n}->
  wpAny M A (forIn n cs λx r=>match x with
   | (name,kind)=>if(kind==NT)=NA then do
     let c <-alloc {cls:=NN "cell",data:=TZ none}
     pure (N4 ((name,c)::r))
    else pure (N4 r)) Q E s
 | [],cs,s,Q,h=>by exact Ze h
 | (x,k)::r,cs,s,Q,h=>by
  rw[Pj];have h:Q (if(k==NT)=NA then cellsFrom (s.heap.objs.size+1) r ((x,s.heap.objs.size)::cs)else cellsFrom s.heap.objs.size r cs) {s with heap:=if(k==NT)=NA then pushCells (s.heap.push {cls:=.type "cell",data:=.cell none}) r else pushCells s.heap r}:=h;cases a:(k==NT)with
  |true=>refine Za ?_;show wpAny M A (if(k==NT)=NA then _ else _) _ _ _;rw[a];refine Za (wpAny_alloc (Ze ?_));refine sw r _ {s with heap:=s.heap.push {cls:=.type "cell",data:=.cell none}} Q ?_;simp_all
  |false=>rw[a,if_neg (by simp)]at h;refine Za ?_;show wpAny M A (if(k==NT)=NA then _ else _) _ _ _;rw[a];exact Ze (sw r _ s Q h)
theorem Gv{M:Model}{A:OH}{E:Vs}{g:ND}{c:List (Str×ND)}{q:Str}{out:Env}{bl:ND}{Q:Env->NC->Prop}
  (h:Q ⟨scope,s.heap.objs.size,g,cellsFrom (s.heap.objs.size+1) scope.names c,q,none,out.code,out.frame,out.builtins⟩ {s with heap:=pushCells (s.heap.push {cls:=.type "dict",data:=.dict #[]}) scope.names}):
  wpAny M A (newFunctionEnv scope g c [] q none .none (Nz out) bl) Q E s:=by
 refine Za (wpAny_alloc (Za (sw _ _ _ _ ?_)));refine Za (Ze (Ze ?_));simp_all
noncomputable def fM(X:Cx)(scope:Scope)(N:Ls)(C:ND)(S:NC)(a:Hp)(f:La):Cx:=
 {X with N:=N,s₀:=S,H₀:=a,env:=compEnvC scope (cellsFrom (C+1) scope.names (b6 X.env scope.names [])) C X.env,outer:=X.stack,stack:=X.stack,ex:=f,fn:=λx=>scope.names.lookup x==Nz .cell,pn:=[],xe:=λ_ _=>False}
structure ei (X:Cx)(scope:Scope):Prop where
 kind:scope.kind=.function
 cel:∀y∈scope.names,y.2=.cell->scope.names.lookup y.1=Nz .cell
 loc:∀y∈scope.names,y.2=.local->scope.names.lookup y.1=Nz .local
 free:∀y∈scope.names,y.2=.free->X.env.kindOf y.1=Nz .cell\/X.env.kindOf y.1=Nz .free
theorem jG(I:Inv X pq σ H s){b:ND}(h1:b≠X.env.locals)(h:b∉X.fs):b∉dH X.stack:=λz=>(Zi.mp (I.stkSub b z)).elim h1 h
theorem gQ{x:Str}{c:ND}(h:(cellsFrom n scope.names (b6 X.env scope.names [])).lookup x=Nz c):(cellsFrom n scope.names []).lookup x=Nz c\/((cellsFrom n scope.names []).lookup x=none/\(b6 X.env scope.names []).lookup x=Nz c):=by have e:=jF scope.names n [] (b6 X.env scope.names []);rw[N8]at e;rw[e,Rk]at h;simp_all
theorem Gw{x:Str}{c:ND}(h:(cellsFrom n scope.names []).lookup x=Nz c):(cellsFrom n scope.names (b6 X.env scope.names [])).lookup x=Nz c:=by have e:=jF scope.names n [] (b6 X.env scope.names []);rw[N8]at e;rw[e,Rk,h];rfl
theorem xI{x:Str}{c:ND}(h:(cellsFrom n scope.names []).lookup x=none)(H:(b6 X.env scope.names []).lookup x=Nz c):(cellsFrom n scope.names (b6 X.env scope.names [])).lookup x=Nz c:=by have e:=jF scope.names n [] (b6 X.env scope.names []);rw[N8]at e;rw[e,Rk,h];exact H
theorem Gx{m:Mg}{tk:Nat}(hc:X.calm=NA)(I:Inv X pq σ H s)(S:ei X scope)(T:∀b∈fp,dI X pq H b)(U:∀b∈fp,∃o,s.heap.get? b=Nz o)
  (hn:h1.Ns s.heap.objs.size m) (old:∀b o,s.heap.get? b=Nz o->h1.get? b=Nz o) (f:CellsOk h1 (s.heap.objs.size+1) (cellsFrom (s.heap.objs.size+1) scope.names [])) (hl:σ'.length=N.length)
  (hσ:∀(i:Nat) (v:V) (x:Str),N[i]?=Nz x->σ'[i]?=Nz (Nz v)->scope.names.lookup x=Nz .free/\∃j:Nat,X.N[j]?=Nz x/\σ[j]?=Nz (Nz v)):
  Inv (fM X scope N s.heap.objs.size s H fp) (X.pn++pq) σ' H {s with heap:=h1,toks:=tk}:=by
 have lt:∀{b:ND} {o:Obj},s.heap.get? b=Nz o->b≠s.heap.objs.size:=λe=>ZC (Zo e);have C:∀x c,(b6 X.env scope.names []).lookup x=Nz c->X.env.cells.lookup x=Nz c:=λx c h=>su scope.names [] (λ_ z=>nomatch z) (x,c) (ZS h);have a:∀x c,X.env.cells.lookup x=Nz c->c<s.heap.objs.size:=λx c h=>by obtain⟨v,q⟩:=I.cell x c h;exact q.lt
 have O:∀x c,(cellsFrom (s.heap.objs.size+1) scope.names []).lookup x=Nz c->h1.IsCell c none/\s.heap.objs.size+1<=c:=λx c h=>f.empty x c (ZS h)
 have J:∀x c,(cellsFrom (s.heap.objs.size+1) scope.names []).lookup x=Nz c->scope.names.lookup x=Nz .cell:=λx c h=>by
  rcases sv scope.names _ _ (ZS h)with z|z
  ·cases z
  ·exact S.cel _ z rfl
 have G:∀x,scope.names.lookup x=Nz .free->(cellsFrom (s.heap.objs.size+1) scope.names []).lookup x=none/\∃c,(b6 X.env scope.names []).lookup x=Nz c:=λx h=>by
  refine⟨?_,?_⟩
  ·cases z:(cellsFrom (s.heap.objs.size+1) scope.names []).lookup x with
   |none=>rfl
   |some c=>have:=J x c z;rw[h]at this;cases this
  ·have hm:=ZS h;obtain⟨c,w⟩:=I.ok.has x (S.free _ hm rfl);exact xF (xE w scope.names [] hm)
 have K:∀x,((fM X scope N s.heap.objs.size s H fp).env.kindOf x=Nz .cell\/(fM X scope N s.heap.objs.size s H fp).env.kindOf x=Nz .free)->scope.names.lookup x=Nz .free\/scope.names.lookup x=Nz .cell:=λx h=>by
  have go:∀k,(k=NT\/k=.free)->(relabel scope X.env).names.lookup x=Nz k->scope.names.lookup x=Nz .free\/scope.names.lookup x=Nz .cell:=λk W h=>by
   obtain⟨k',h1,g⟩:=xG h;rcases g with rfl| ⟨rfl,_⟩
   ·rcases W with rfl|rfl
    ·exact .inr h1
    ·exact .inl h1
   ·exact .inl h1
  rcases h with h|h
  ·exact go _ (.inl rfl) h
  ·exact go _ (.inr rfl) h
 have A:∀x y c,(cellsFrom (s.heap.objs.size+1) scope.names []).lookup x=Nz c->(cellsFrom (s.heap.objs.size+1) scope.names []).lookup y=Nz c->x=y:=λx y c h1 g=>by
  have m1:=ZS h1;have m2:=ZS g;have ap:=f.apart;generalize cellsFrom (s.heap.objs.size+1) scope.names []=l at m1 m2 ap
  induction l with
  |nil=>cases m1
  |cons p l ih=>
   obtain⟨a1,a2⟩:=ZM.mp ap;rcases Zi.mp m1 with rfl|n1
   ·rcases Zi.mp m2 with z|n2
    ·injection z with z _;exact z.symm
    ·exact(a1 (y,c) n2 rfl).elim
   ·rcases Zi.mp m2 with rfl|n2
    ·exact(a1 (x,c) n1 rfl).elim
    ·exact ih n1 n2 a2
 refine⟨⟨I.ok.mod,?_,I.ok.glob,I.ok.blt,Zg _,λx y c h1 g=>?_,λx h=>?_,λx c h g=>?_,I.ok.hd,I.ok.frames,.inl rfl,λb D=>?_,I.bs,Zw I.ok.bsz I.sz,λb o e D=>?_,λb D=>?_,I.stack,I.stkFree⟩,
  rfl,I.bare,Un.kept old,⟨m,hn,λi x v e1 e2 e3=>?_⟩,λx c h=>?_,I.hok.fresh (Zg _),λx c h=>?_,λp hp=>?_,I.hok.kept old,hl⟩
 ·show(relabel scope X.env).kind=.function;unfold relabel;exact S.kind
 ·rcases gQ h1 with z| ⟨_,z⟩<;>rcases gQ g with Y| ⟨_,Y⟩
  ·exact A x y c z Y
  ·exact absurd (a _ _ (C _ _ Y)) (Qn.mpr (OL (O _ _ z).2))
  ·exact absurd (a _ _ (C _ _ z)) (Qn.mpr (OL (O _ _ Y).2))
  ·exact I.ok.inj x y c (C x c z) (C y c Y)
 ·rcases K x h with h|h
  ·obtain⟨z,c,t⟩:=G x h;exact⟨c,xI z t⟩
  ·have:=PySem.W.cellsFrom_some (x:=x) scope.names (s.heap.objs.size+1) [] (.inl h);obtain⟨c,t⟩:=Qr.mp this;exact⟨c,Gw t⟩
 ·have W:scope.names.lookup x=Nz .cell:=by simpa[fM]using h
  rcases gQ g with z| ⟨z,_⟩
  ·exact OL (O _ _ z).2
  ·have:=PySem.W.cellsFrom_some (x:=x) scope.names (s.heap.objs.size+1) [] (.inl W);rw[z]at this;cases this
 ·obtain⟨f0,M,P,F,Q,f5⟩:=T b D;obtain⟨o,E⟩:=U b D;refine⟨lt E,λx c h=>?_⟩;rcases gQ h with z| ⟨_,z⟩
  ·exact λq=>absurd (Zo E) (Qn.mpr (q▸OL (O _ _ z).2))
  ·exact Q x c (C x c z)
 ·obtain⟨f0,M,P,F,Q,f5⟩:=T b D;rcases F with F|F
  ·exact I.ok.noex b o e F
  ·exact absurd (Zo (I.ok.bs b o e).1) (Qn.mpr F)
 ·obtain⟨f0,M,P,F,Q,f5⟩:=T b D;exact jG I M P
 ·obtain⟨L,j,g2,g3⟩:=hσ i v x e1 e2;obtain⟨m0,_,l0⟩:=I.loc
  have hv:v_ X.env.scope x:=by
   rcases S.free _ (ZS L) rfl with q|q
   ·exact .inr (.inl q)
   ·exact .inr (.inr q)
  obtain⟨u,r,q⟩:=l0 j x v g2 g3 hv;refine⟨u,r,.inr ⟨xH L,?_⟩⟩;obtain⟨z,c,f⟩:=G x L;have w:=C x c f;refine⟨c,xI z f,?_⟩;have B:=S.free _ (ZS L) rfl;rcases q with⟨q,_⟩| ⟨_,c',q1,q2⟩
  ·rcases B with B|B
   ·rw[q]at B;cases B
   ·rw[q]at B;cases B
  ·rw[w]at q1;cases q1;obtain⟨o,E,R⟩:=q2;exact⟨o,old _ _ E,R⟩
 ·rcases gQ h with z| ⟨_,z⟩
  ·exact⟨none,(O _ _ z).1⟩
  ·obtain⟨v,o,E,R⟩:=I.cell x c (C x c z);exact⟨v,o,old _ _ E,R⟩
 ·rcases gQ h with z| ⟨_,z⟩
  ·exact I.hok.fresh (OL (O _ _ z).2)
  ·exact I.freeC x c (C x c z)
 ·have Z:p∈X.pn++pq:=by simpa[fM]using hp
  obtain⟨e,n,ne,nf,d⟩:=I.pin p Z;exact⟨old _ _ e,n,lt e,jG I ne nf,d⟩
theorem Gy{C:ND}(I:Inv X pq σ H s)(j:∀b∈fp,dI X pq H b)(i:C=s.heap.objs.size)(J:Inv (fM X scope N C s H fp) pins' σ' H' s')(hs:NR C s'.heap h'):
  Inv X pq σ H' {s' with heap:=h'}:=by
 have ne:∀{b:ND} {o:Obj},s.heap.get? b=Nz o->b≠C:=λe=>by rw[i];exact ZC (Zo e)
 have B:=J.base
 have u:Un _ _ H _ _ _:=
  ⟨λb o e n h a=>(hs.2 b (ne e)).trans (B.keep b o e n h a),λb o e n h a=>by obtain⟨sl,q⟩:=B.slot b o e n h a;exact⟨_,(hs.2 b (ne e)).trans q⟩,B.free,
   λb o e a=>by obtain⟨v,q⟩:=B.there b o e a;exact⟨_,(hs.2 b (ne e)).trans q⟩,B.tups,B.frzs,B.tbls⟩
 have d:H' C=none:=J.free;have f:=λb O e=>by refine(J.hok b O e).stay (λc w t q=>(hs.2 c ?_).trans q) (λ_ q=>q) λ_ _ q=>q;lia
 exact I.call' J.os u f J.bare λb h=>by obtain⟨F,k,l,m,p,r⟩:=j b h;trivial
def PB(X:Cx)(body:Sem Unit)(t:L2.St->Hp->(L2.St->Hp->Prop)->Prop):Prop:=
 ∀(pq:Lp) (s:NC) (σ:L2.St) (H:Hp) (Q:L2.St->Hp->Prop),Inv X pq σ H s->t σ H Q->wpAny (model X.prog X.w) X.A body (λ_ s'=>∃σ' H',Inv X pq σ' H' s'/\Q σ' H') X.xe s
theorem ga{m:Sem α}{Q:α->NC->Prop}(H:X.xe=λ_ _=>False)(h:wpAny M A m Q X.xe s):wpAny M A m Q E s:=by rw[H]at h;exact Oz h (λ_ _ q=>q) λ_ _ z=>z.elim
noncomputable def iG:Expr->Bool
 | .ListComp .. =>NA
 | .SetComp .. =>NA
 |_=>NB
theorem mu(h:iG ce=NA){d:Nat}{it a:NF}:(model prog w).den (.compLoop ce d it a env)=(compTurn ce d it a env).onRaise (λx=>do noteFrame x env;theTreesLotGoes x)/\A.under (.compLoop ce d it a env)=A/\(model prog w).den (.compStart ce d it a env)=(compStart ce d it a env).onRaise (λx=>do noteFrame x env;standAt theWindowsPlace)/\A.under (.compStart ce d it a env)=A:=by cases ce<;>first|exact⟨rfl,rfl,rfl,rfl⟩|cases h
theorem xJ{d:Nat}{c:NF}{p:Pos}{body:Sem Unit}{g:TG}{R:RH->NC->Prop}{Fin:L2.St->Hp->Prop}
  (k:iG ce=NA) (l:X.xe=λ_ _=>False) (P:X.calm=NA)
  (D:compTurn ce d (.ref it) c X.env=(standAt p>>=λ_=>pyNext (.ref it)>>=λr=>match r with
   |none=>pure (.done .next)
   |some v=>letOwnedTupleGo tg (.ref it) v>>=λ_=>assign tg X.env v>>=λ_=>body>>=λ_=>again (.compLoop ce d (.ref it) c X.env)))
  (T:Turn X.prog X.w X.K tg J fp it tn) (hg:PG X tg g) (h:PB X body tb) (I:Inv X pq σ H s) (st:tn 0 s.heap) (Q:∀b∈fp,dI X pq H b)
  (W:∃W:Nat->Nat->L2.St->Hp->Prop,(∃m,W 0 m σ H)/\∀i m σ H,W i m σ H->
   (J.stop i H/\Fin σ H)\/(J.go i H/\∃Nx:L2.St->Hp->Prop,(∀σ' H',Nx σ' H'->∃M,M<m/\W (i+1) M σ' H')/\∀x H',J.yld i H x H'->g x σ H' λG H2=>tb G H2 Nx))
  (hR:∀s' σ' H',Inv X pq σ' H' s'->(∀b∈fp,H' b=none)->Fin σ' H'->R (.ok .next) s'):codeAny (model X.prog X.w) X.A (.compLoop ce d (.ref it) c X.env) R s:=by
 obtain⟨W,⟨m0,w0⟩,turn⟩:=W;have S:∀{H':Hp},(∀b∈fp,H' b=none)->∀b∈fp,dI X pq H' b:=λhn b h=>⟨hn b h,(Q b h).2⟩;refine codeAny_loop rfl (λn s'=>∃i σ' H',Inv X pq σ' H' s'/\tn i s'.heap/\(∀b∈fp,H' b=none)/\W i n σ' H') ?_ m0 ⟨0,σ,H,I,st,λb h=>(Q b h).1,w0⟩;rintro n V ⟨i,a,y,O,q,f,w3⟩;rw[(mu (A:=X.A) k).1,(mu (prog:=X.prog) (w:=X.w) k).2.1];refine wpAny_noted ?_;rw[D];refine Za (QN ?_);rcases turn i n a y w3 with⟨stop,qn⟩| ⟨go,Nx,hN,step⟩
 ·refine Za (ga l (a' (T.done X rfl rfl rfl P i pq V a y X.xe O (S f) q stop) λr Y z=>z.elim λE I4=>?_));subst E;exact Ze (hR Y a y I4 f qn)
 ·refine Za (ga l (a' (T.item X rfl rfl rfl P i pq V a y X.xe O (S f) q go) λr Y z=>?_));obtain⟨u,E,h4⟩:=z;subst E;refine Za (ga l (a' h4 λ_ s5 z=>?_));obtain⟨x,L,I5,r5,y5,j,F⟩:=z;have B:=I5.pinned (S F) (T.obj _ _ j);refine Za (ga l (a' (hg _ s5 a L x u _ B r5 (step x L y5)) λ_ s6 z=>?_));obtain⟨K,Z,I6,q6⟩:=z;refine Za (ga l (a' (h _ s6 K Z _ I6 q6) λ_ s7 z=>?_));obtain⟨t,N,C,n7⟩:=z;refine Ze ?_;obtain⟨M,hm,w7⟩:=hN t N n7;refine⟨rfl,M,hm,i+1,t,N,C.unpinned,T.keep _ _ _ j λb h o e=>(C.pin (b,o) (Zt _ (Zt _ (lK h e)))).1,λb h=>?_,w7⟩;obtain⟨o,e,d⟩:=T.obj _ _ j b h;exact(C.pin (b,o) (Zt _ (Zt _ (lK h e)))).2.1
theorem xK{R:RH->NC->Prop}{d:Nat}{it a:NF}{t i:Expr}{fs:Lx}(H:iG ce=NA)(e:(clausesOf ce)[d]?=Nz ⟨t,i,fs,0⟩)
  (c:codeAny (model prog w) A (.compLoop ce d it a env) R s)
  (h:wpAny (model prog w) A (pyIter it) (λI s'=>codeAny (model prog w) A (.compLoop ce d I a env) R s') (notedBy (model prog w) A env λx s'=>R (.error x) s') s):
  codeAny (model prog w) A (.compStart ce d it a env) R s:=by
 refine Qo ?_;rw[(mu (A:=A) H).2.2.1,(mu (prog:=prog) (w:=w) H).2.2.2];refine wpAny_notedAt ?_;unfold compStart;rw[e];refine Za (Pk (P9 ?_));split
 ·first
   |rfl
   |exact Ze (And.intro rfl c)
 ·first
   |exact Za (Ob (Za (QN (Za (Oz h (λI s' b=>Ze (And.intro rfl b)) λ_ _ x=>x)))))
   |lia
abbrev TU:=L2.St->Hp->(L2.St->Hp->Prop)->Prop
noncomputable def mw:List TT->(L2.St->Hp->(Bool->Hp->Prop)->Prop)
 | []=>λ_ H Q=>Q NA H
 |t::r=>λσ H Q=>t σ H λb H1=>if b=NA then mw r σ H1 Q else Q NB H1
noncomputable def xL(X:Cx):Lx->List TT->Prop
 | [],[]=>True
 |e::es,t::ts=>PT X e t/\xL X es ts
 |_,_=>False
theorem xM{M:Model}{A:OH}{E:Vs}{env:Env}{Q:Bool->NC->Prop}{s:NC}:∀(ifs:Lx),Q NB s->
  wpAny M A (forIn ifs NB λc r=>if r=NA then do let ok <-isTrue c env (eval c env);pure (N4 ok)else pure (N4 r)) Q E s
 | [],h=>Ze h
 |c::r,h=>by rw[Pj];exact Za (Ze (xM r h))
theorem xN:∀(ifs:Lx) (ts:List TT),xL X ifs ts->∀(pq:Lp) (s:NC) (σ:L2.St) (H:Hp) (Q:Bool->Hp->Prop),Inv X pq σ H s->mw ts σ H Q->
  wpAny (model X.prog X.w) X.A (forIn ifs NA λc r=>if r=NA then do let ok <-isTrue c X.env (eval c X.env);pure (N4 ok)else pure (N4 r)) (TP X pq σ Q) X.xe s
 | [],[],_,pq,s,σ,H,Q,I,h=>Ze ⟨H,I,h⟩
 |e::E,t::ts,p,pq,s,σ,H,Q,I,h=>by
  rw[Pj];refine Za (Za (a' (p.1 _ s _ H _ I h) λb S z=>z.elim λ_ z=>z.elim λa q=>Ze ?_));cases b with
  |true=>exact xN _ _ p.2 _ _ _ _ Q a q
  |false=>exact xM _ ⟨_,a,q⟩
 | [],_::_,p,_,_,_,_,_,_,_=>p.elim
 |_::_,[],p,_,_,_,_,_,_,_=>p.elim
noncomputable def xO(a:ND)(t:TE):TU:=λσ H Q=>t σ H λv H1=>∃ys,H1 a=Nz (.lst ys)/\ys.length<sizeLine/\Q σ (bg H1 a (.lst (ys++[v])))
noncomputable def xP(ts:List TT)(t:TU):TU:=λσ H Q=>mw ts σ H λb H1=>if b=NA then t σ H1 Q else Q σ H1
noncomputable def sx(w:TI)(g:TG)(tb:TU):TU:=λσ H Q=>w σ H λJ H1=>∃W:Nat->Nat->L2.St->Hp->Prop,(∃m,W 0 m σ H1)/\∀i m σ H,W i m σ H->
   (J.stop i H/\Q σ H)\/(J.go i H/\∃N:L2.St->Hp->Prop,(∀σ' H',N σ' H'->∃M,M<m/\W (i+1) M σ' H')/\∀x H',J.yld i H x H'->g x σ H' λa H2=>tb a H2 N)
noncomputable def jH(o0:ND->HO)(cs:L2.St->L2.St)(w:TI)(g:TG)(tb:ND->TU):TE:=λσ H Q=>w σ H λJ H1=>∀acc,H1 acc=none->
 ∃W:Nat->Nat->L2.St->Hp->Prop,(∃m,W 0 m (cs σ) (bg H1 acc (o0 acc)))/\∀i m σ H,W i m σ H->
   (J.stop i H/\Q (.ref acc) H)\/(J.go i H/\∃N:L2.St->Hp->Prop,(∀σ' H',N σ' H'->∃M,M<m/\W (i+1) M σ' H')/\∀x H',J.yld i H x H'->g x σ H' λa H2=>tb acc a H2 N)
def mx(X:Cx)(scope:Scope)(N:Ls)(cs:L2.St->L2.St):Prop:=∀σ:L2.St,σ.length=X.N.length->(cs σ).length=N.length/\
 ∀(i:Nat) (v:V) (x:Str),N[i]?=Nz x->(cs σ)[i]?=Nz (Nz v)->scope.names.lookup x=Nz .free/\∃j:Nat,X.N[j]?=Nz x/\σ[j]?=Nz (Nz v)
theorem xQ(I:Inv X pq σ H s)(S:ei X scope):closureFor scope X.env=pure (b6 X.env scope.names []):=
 Gu λx a h=>I.ok.has _ (S.free x a h)
theorem Gz(H:NO)(d:Obj)(n:List (Str×Ol)):CellsOk (pushCells (H.push d) n) (H.objs.size+1) (cellsFrom (H.objs.size+1) n []):=by have:=cellsFrom_ok n (H.push d) (H.objs.size+1) _ ⟨(λ_ _ h=>by cases h),.nil⟩ (by simp_all);simp_all
theorem xR{G:List N1}{O:Obj}{o0:ND->HO}{mk:Sem NF}{scope:Scope}{N:Ls}{cs:L2.St->L2.St}{J:It}{g:TG}{tb:ND->TU}{R:NF->ND->RH->NC->Prop}{Fin:V->Hp->Prop}
  {P:Lp} {σ:L2.St} {H:Hp}  {it:ND} {f:La} {tn:Nat->NO->Prop} {E:Vs} (D:iG ce=NA) (hce:clausesOf ce=⟨tg,iter,ifs,0⟩::G) (hmk:∀{s:NC} {Q:Vs},Q (.ref s.heap.objs.size) {s with heap:=s.heap.push O}->wpAny (model X.prog X.w) X.A mk Q E s) (hob:bx X.prog X.w (bg H s.heap.objs.size (o0 s.heap.objs.size)) (s.heap.push O) s.heap.objs.size (o0 s.heap.objs.size)) (hc:X.calm=NA) (sc:ei X scope) (hcs:mx X scope N cs) (I:Inv X P σ H s) (T:Turn X.prog X.w X.K tg J f it tn) (st:tn 0 s.heap) (hf:∀b∈f,dI X P H b)
  (body:ND->Env->Sem Unit)
  (heq:∀(acc:ND) (env:Env),compTurn ce 0 (.ref it) (.ref acc) env=(standAt iter.pos>>=λ_=>pyNext (.ref it)>>=λr=>match r with
   |none=>pure (.done .next)
   |some v=>letOwnedTupleGo tg (.ref it) v>>=λ_=>assign tg env v>>=λ_=>body acc env>>=λ_=>again (.compLoop ce 0 (.ref it) (.ref acc) env)))
  (hin:∀(C:ND) (s0:NC) (H0:Hp) (f:La) (acc:ND),PG (fM X scope N C s0 H0 f) tg g/\PB (fM X scope N C s0 H0 f) (body acc (fM X scope N C s0 H0 f).env) (tb acc))
  (W:∀acc,H acc=none->∃W:Nat->Nat->L2.St->Hp->Prop,(∃m,W 0 m (cs σ) (bg H acc (o0 acc)))/\∀i m σ H,W i m σ H->
   (J.stop i H/\Fin (.ref acc) H)\/(J.go i H/\∃Nx:L2.St->Hp->Prop,(∀σ' H',Nx σ' H'->∃m',m'<m/\W (i+1) m' σ' H')/\∀x H',J.yld i H x H'->g x σ H' λσ2 H2=>tb acc σ2 H2 Nx))
  (hR:∀(acc C:ND) (s':NC) (H':Hp) (m:Mg),s'.heap.Ns C m->C≠X.env.locals->(∀x c,X.env.cells.lookup x=Nz c->c≠C)->H' C=none->X.s₀.heap.objs.size<=C->(∀p∈X.pn++P,p.1≠C)->(∀h',NR C s'.heap h'->Inv X P σ H' {s' with heap:=h'})->Fin (.ref acc) H'->R (.ref acc) C (.ok .next) s'):
  wpAny (model X.prog X.w) X.A mk (λacc K=>wpAny (model X.prog X.w) X.A (newFunctionEnv scope X.env.globals (b6 X.env scope.names []) [] X.env.qual none .none (Nz X.env)) (λl M=>
   codeAny (model X.prog X.w) X.A (.compStart ce 0 (.ref it) acc {l with scope:=relabel scope X.env}) (R acc l.locals) M) E K) E s:=by
 refine hmk (Gv ?_);have hfr:H s.heap.objs.size=none:=I.hok.fresh (Zg _);have u:Inv X P σ (bg H s.heap.objs.size (o0 s.heap.objs.size)) {s with heap:=s.heap.push O,toks:=s.toks}:=I.laid (t':=s.toks) (λb o e=>Zc _ e) (Zg _) hob;have A:∀b∈f,∃o,s.heap.get? b=Nz o:=λb j=>by obtain⟨o,e,_⟩:=T.obj _ _ st b j;exact⟨o,e⟩
 have w:∀b∈f,dI X P (bg H s.heap.objs.size (o0 s.heap.objs.size)) b:=λb j=>by obtain⟨Z,f1⟩:=hf b j;obtain⟨o,y⟩:=A b j;exact⟨by rw[a_ (ZC (Zo y))];exact Z,f1⟩
 have F:∀b∈f,∃o,(s.heap.push O).get? b=Nz o:=λb j=>by obtain⟨o,y⟩:=A b j;exact⟨o,Zc _ y⟩
 obtain⟨k1,k2⟩:=hcs σ I.len;obtain⟨a,U⟩:∃a,a=pushCells ((s.heap.push O).push {cls:=.type "dict",data:=.dict #[]}) scope.names:=⟨_,rfl⟩;have n:∀b o,(s.heap.push O).get? b=Nz o->a.get? b=Nz o:=λb o e=>by rw[U];exact pushCells_keeps _ _ _ _ (Zc _ e)
 have k:a.Ns (s.heap.push O).objs.size λ_=>none:=by rw[U];exact⟨_,_,_,pushCells_keeps _ _ _ _ (Zk _ rfl),rfl,(λx h=>by simp at h),λ_=>rfl⟩
 have B:CellsOk a ((s.heap.push O).objs.size+1) (cellsFrom ((s.heap.push O).objs.size+1) scope.names []):=by rw[U];exact Gz _ _ _
 rw[<-U];have J0:=Gx (tk:=s.toks) (N:=N) (scope:=scope) (σ':=cs σ) hc u sc w F k n B k1 k2;have old:∀b o,s.heap.get? b=Nz o->a.get? b=Nz o:=λb o e=>n b o (Zc _ e);have S:tn 0 a:=T.keep _ _ _ st λb _ o e=>old b o e;have hlt:X.env.locals<(s.heap.push O).objs.size:=u.lt
 have L:codeAny (model X.prog X.w) X.A (.compLoop ce 0 (.ref it) (.ref s.heap.objs.size) (fM X scope N (s.heap.push O).objs.size {s with heap:=s.heap.push O,toks:=s.toks} (bg H s.heap.objs.size (o0 s.heap.objs.size)) f).env)
   (R (.ref s.heap.objs.size) (s.heap.push O).objs.size) {s with heap:=a,toks:=s.toks}:=by
  obtain⟨p1,p2⟩:=hin (s.heap.push O).objs.size {s with heap:=s.heap.push O,toks:=s.toks} (bg H s.heap.objs.size (o0 s.heap.objs.size)) f s.heap.objs.size;refine xJ (X:=fM X scope N _ _ _ f) (Fin:=λ_ H'=>Fin (.ref s.heap.objs.size) H') D rfl hc (heq _ _) T p1 p2 J0 S (λb j=>?_) ?_ ?_
  ·obtain⟨Z,f1,f2,f3,f4,f5⟩:=w b j;obtain⟨o,y⟩:=F b j;refine⟨Z,ZC (Zo y),jG u f1 f2,.inl j,λx c h=>?_,λp hp=>f5 p (by simpa[fM]using hp)⟩;rcases gQ h with z| ⟨_,z⟩
   ·exact λq=>absurd (Zo y) (Qn.mpr (q▸OL (B.empty x c (ZS z)).2))
   ·exact f4 x c (su scope.names [] (λ_ z=>nomatch z) (x,c) (ZS z))
  ·exact W _ hfr
  ·intro s' σ' H' Y _ fin;obtain⟨m,hm,_⟩:=id Y.loc;refine hR _ _ s' H' m hm (OV hlt) (λx c h z=>?_) Y.free u.sz (λp hp z=>?_) (λh' hs'=>?_) fin
   ·obtain⟨v,q⟩:=u.cell x c h;exact absurd q.lt (by rw[z];exact Yl _)
   ·exact absurd (Zo (u.pin p hp).1) (by rw[z];exact Yl _)
   ·exact Gy u w rfl Y hs'
 exact xK D (by rw[hce];rfl) L (T.self _ 0 _ _ _ S L)
theorem my{R:List N1}{pos:Pos}{cs:L2.St->L2.St}{g:TG}{tb:ND->TU}(o:X.calm=NA)(S:ei X scope)(a:mx X scope N cs)(hi:PI X tg iter wi)(body:ND->Env->Sem Unit)
  (b:∀(it acc:ND) (env:Env),compTurn (.ListComp elt (⟨tg,iter,ifs,0⟩::R) scope pos) 0 (.ref it) (.ref acc) env=(standAt iter.pos>>=λ_=>pyNext (.ref it)>>=λr=>match r with
   |none=>pure (.done .next)
   |some v=>letOwnedTupleGo tg (.ref it) v>>=λ_=>assign tg env v>>=λ_=>body acc env>>=λ_=>again (.compLoop (.ListComp elt (⟨tg,iter,ifs,0⟩::R) scope pos) 0 (.ref it) (.ref acc) env)))
  (c:∀(C:ND) (f:NC) (H0:Hp) (fp:La) (acc:ND),PG (fM X scope N C f H0 fp) tg g/\PB (fM X scope N C f H0 fp) (body acc (fM X scope N C f H0 fp).env) (tb acc))
  (hs:∀x,foldedSetIterable iter X.env x=pure x:=by intro _;rfl):PE X (.ListComp elt (⟨tg,iter,ifs,0⟩::R) scope pos) (jH (λ_=>.lst []) cs wi g tb):=by
 intro P s E H Q I h;refine SW rfl hs (xQ I S) S.kind S.loc (Oz (hi _ s _ H _ I h) (λv A k=>Oz k (λt B l=>?_) λ_ _ e=>e) λ_ _ e=>e);obtain⟨it,fp,D,J,w,e,j,T,i,F,W⟩:=l;subst e;refine xR (o0:=λ_=>.lst _) rfl rfl (λq=>Yg q) ⟨Yp _,_,0,.nil,Zk _ rfl⟩ o S a j T i F _ (b _) c W ?_;intro acc C z u m p _ _ _ _ _ n fin;exact⟨m,p,λy d=>⟨.ref _,_,n _ d,rfl,fin⟩⟩
theorem mz{c:List N1}{pos d p:Pos}{cs:L2.St->L2.St}{g:TG}{tb:ND->TU}{x:Str}{j:Nat}(hc:X.calm=NA)(hN:X.N.Nodup)(hj:X.N[j]?=Nz x)(Z:X.env.scope.names.lookup x=Nz .local)
  (L:swapsWith (.ListComp elt (⟨tg,iter,ifs,0⟩::c) scope pos) (Nz (.Name x p)) d.line X.env=pure NA)
  (l:ei X scope) (B:mx X scope N cs) (hi:PI X tg iter wi) (body:ND->Env->Sem Unit)
  (E:∀(it acc:ND) (env:Env),compTurn (.ListComp elt (⟨tg,iter,ifs,0⟩::c) scope pos) 0 (.ref it) (.ref acc) env=(standAt iter.pos>>=λ_=>pyNext (.ref it)>>=λr=>match r with
   |none=>pure (.done .next)
   |some v=>letOwnedTupleGo tg (.ref it) v>>=λ_=>assign tg env v>>=λ_=>body acc env>>=λ_=>again (.compLoop (.ListComp elt (⟨tg,iter,ifs,0⟩::c) scope pos) 0 (.ref it) (.ref acc) env)))
  (F:∀(C:ND) (O:NC) (H0:Hp) (fp:La) (acc:ND),PG (fM X scope N C O H0 fp) tg g/\PB (fM X scope N C O H0 fp) (body acc (fM X scope N C O H0 fp).env) (tb acc))
  (hs:∀x,foldedSetIterable iter X.env x=pure x:=by intro _;rfl):PS X (.Assign [.Name x p] (.ListComp elt (⟨tg,iter,ifs,0⟩::c) scope pos) d) (rh (jH (λ_=>.lst []) cs wi g tb) (eR j)):=by
 intro P s V H D I h;rw[exec_Assign_Name_used _ _ _ _ L];refine Za (QN (Za ?_));show wpAny _ X.A (do let _ <-comprehension (.ListComp elt (⟨tg,iter,ifs,0⟩::c) scope pos) scope X.env _ (newList []) NB (eval iter X.env) (Nz (assign (.Name x p) X.env))) _ _ s
 refine Za (Oz (SW (use:=Nz (assign (.Name x p) X.env)) (Q:=λ_ S=>SP X P D .next S) rfl hs (xQ I l) l.kind l.loc
  (Oz (hi P s V H _ I h) (λv s1 h1=>Oz h1 (λitv s2 h2=>?_) λ_ _ e=>e) λ_ _ e=>e)) (λ_ S hq=>Ze (Ze hq)) λ_ _ e=>e)
 obtain⟨it,fp,tn,J,H2,e,I2,T,U,f2,W⟩:=h2;subst e;refine xR (o0:=λ_=>.lst []) rfl rfl (λq=>Yg q) ⟨Yp _,[],0,.nil,Zk _ rfl⟩ (R:=λacc C=>compPost (model X.prog X.w) X.A X.xe (Nz (assign (.Name x p) X.env)) (λ_ S=>SP X P D .next S) acc C) (Fin:=λv k=>eR j v V k D.nx) hc l B I2 T U f2 body (E it) F W ?_;intro acc C S k m hm f i n t u hI fin;show wpAny _ X.A (assign (.Name x p) X.env (.ref acc)) _ _ S
 have I4:Inv X P V k S:=by have:=hI S.heap (.refl ..);simpa using this
 refine wpAny_assign_Name (wb I4 hN hj (.inl Z) (v:=.ref acc) rfl (λM I5 A=>?_) (.inr Z));obtain⟨a,K,y⟩:=A
 have w:C≠a:=by
  rcases y with rfl|y
  ·exact f
  ·exact λz=>i x a y z.symm
 refine⟨m,hm.sameBut K w,λY G=>?_⟩;exact⟨_,k,I5.turned (h':=Y) (t':=M.toks) (it:=C) (λb o hb e=>(G.2 b hb).trans e) n f (.inr t) i u,fin⟩
theorem aj.eraseIdx{m:GS}:∀{ds:List D} {vs:List V} (i:Nat),aj K m μ H ds vs->aj K m μ H (ds.eraseIdx i) (vs.eraseIdx i)
 | [],vs,i,h=>by subst h;rfl
 |d::ds,vs,0,h=>by obtain⟨v,u,rfl,r,q⟩:=h.uncons;exact q
 |d::ds,vs,i+1,h=>by obtain⟨v,u,rfl,r,q⟩:=h.uncons;exact .cons r (aj.eraseIdx i q)
noncomputable def sy(d:D)(ds:List D)(S:aa):Res D:=match d,ds with
 | .ref n,[.int i]=>match S[n]? with
  |some xs=>match gL xs.length i with
   |some k=>match xs[k]? with
    |some y=>if xs.length<=bt then .ok y (S.set n (xs.eraseIdx k))else .fail
    |none=>.fail
   |none=>.fail
  |none=>.fail
 |_,_=>.fail
theorem mB:rX X "list.pop" (rM X.K X.mg sy):=by
 intro P s J H x C v U Q I t p h;obtain⟨F,G,S,d,D,c,m,R,w⟩:=h;unfold sy at w;split at w
 ·split at w
  ·rename_i n i _ Y e;split at w
   ·rename_i k f;split at w
    ·rename_i y E;split at w
     ·obtain⟨a,vs,rfl,l,b,r⟩:=jD c m e;obtain⟨V,rfl,o⟩:=R.one;cases aJ o;obtain⟨z,g,j⟩:=r.get E;obtain⟨q,u,A,B⟩:=rV f;rw[r.length]at q;exact F1 _ s _ H _ _ v _ Q I t p ⟨a,_,i,k,z,rfl,rfl,b,by lia,by lia,q,g,w.wrote c l b (r.eraseIdx k) j⟩
     ·exact w.elim
    ·exact w.elim
   ·exact w.elim
  ·exact w.elim
 ·exact w.elim
noncomputable def eC:List D->Option (Li)
 | []=>Nz []
 | .int i::r=>(eC r).map (i:: ·)
 |_=>none
theorem xS:∀{xs:List D} {ns:Li},eC xs=Nz ns->xs=ns.map D.int
 | [],ns,h=>by cases h;rfl
 |x::xs,ns,h=>by
  cases x with
  |int i=>
   dsimp only[eC]at h;cases e:eC xs with
   |none=>simp_all
   |some m=>rw[e]at h;cases h;rw[xS e];rfl
  |_=>cases h
noncomputable def jI(ds:List D)(S:aa):Res D:=match ds with
 | [d]=>match dL S d with
  |some xs=>match eC xs with
   |some (n::ns)=>.ok (.int (ns.foldl max n)) S
   |_=>.fail
  |none=>.fail
 |ds=>mr ds S
theorem GA{lt:Int->Int->Bool}(H:∀a b,g a b=if lt b a=NA then b else a)(n:Int)(ns:Li):∀k,k<=ns.length->(n::ns).getD (argBest (λi j=>lt ((n::ns).getD i 0) ((n::ns).getD j 0)) k) 0=(ns.take k).foldl g n:=by
 intro k
 induction k with
 |zero=>intro _;rfl
 |succ k I=>
  intro h;have c:=I (by omega);have e:ns.take (k+1)=ns.take k++[ns[k]]:=by rw[QZ,Zf (by omega)];rfl
  have E:(n::ns).getD (k+1) 0=ns[k]:=by simp[Qe,Zf (show k<ns.length by omega)]
  rw[e,List.foldl_append,OJ,List.foldl_nil,H,<-c,argBest];rw[E];split
  ·exact E
  ·rfl
theorem sA:∀{its:Lv},Vals (ns.map V.int) its->∀i v,its.toArray[i]?=Nz v->∃t,v=Qa (ns.getD i 0) t:=λ{its} r i v b=>by
 have a:=r.length;simp only[Zh]at a;have h:its[i]?=Nz v:=by simpa using b
 have H:i<ns.length:=by rw[a];exact(Zm.mp h).1
 have E:(ns.map V.int)[i]?=Nz (.int ns[i]):=by rw[Z0,Zf H];rfl
 obtain⟨u,e,R⟩:=r.get E;rw[h]at e;cases e;obtain⟨t,rfl⟩:=R;exact⟨t,by simp[Qe,Zf H]⟩
theorem GB{m:GS}:∀(ns:Li) (vs:List V),aj K m μ H (ns.map D.int) vs->vs=ns.map V.int:=by
 intro ns
 induction ns with
 |nil=>intro vs r;exact r
 |cons n ns i=>intro vs r;obtain⟨v,w,rfl,R,a⟩:=r.uncons;cases aJ R;rw[i _ a];rfl
theorem mC(B:X.calm=NA):aX X (.builtin "max") (rC X.K X.mg jI):=by
 intro Z s σ H xs us Q I r h;obtain⟨F,D,S,ds,y,C,w⟩:=h;unfold jI at w;split at w
 ·rename_i d;obtain⟨v,rfl,rd⟩:=C.one;obtain⟨u,rfl,ru⟩:=vals1 r;split at w
  ·rename_i ys e;split at w
   ·rename_i n N J;have t:=xS J;subst t;obtain⟨a,vs,rfl,V,rr⟩:=dM y rd e;cases ru;have W:=GB _ vs rr;subst W;have M:X.A.in1.handled=none:=I.ok.hd B;obtain⟨f,R,p,hz⟩:=I.list (.of V);have U:f.toArray.size=N.length+1:=by rw[Zy,<-R.length,Zh];rfl
    refine call_max_walk (Yo p.isList ?_);have c:a<s.heap.objs.size:=by obtain⟨o,k,_⟩:=p.isList;exact Zo k
    have m:a≠s.heap.objs.size:=ZC c;refine⟨_,_,_,_,_,_,λi j=>decide ((n::N).getD i 0>(n::N).getD j 0),rfl,Walks.list M s.heap.objs.size a m f.toArray,⟨⟨_,Zk _ rfl,rfl,rfl⟩,Sg p.isList _⟩,?_,by omega,?_,λv A tk K Y=>?_⟩
    ·intro b L;have x:∀o,(s.heap.push o).objs.size=s.heap.objs.size+1:=λo=>by simp[Heap.push]
     have l:b=s.heap.objs.size\/b=a:=by simpa using L
     refine Nat.lt_of_lt_of_eq ?_ (x _).symm;rcases l with h|h
     ·rw[h];exact Oh _
     ·rw[h];exact Qy c
    ·intro i j vi vj s' G E O P q;obtain⟨t1,rfl⟩:=sA R i vi O;obtain⟨t2,rfl⟩:=sA R j vj P;exact(PyProof.Rows.gt_int q:wpAny (model X.prog X.w) X.A.in1 (compareOp .Gt _ _) G E s')
    ·obtain⟨T,rfl⟩:=sA R _ v K;rw[U]at*;have:=GA (g:=max) (lt:=λa b=>decide (a>b)) (λa b=>by simp only[Yh];omega) n N N.length (Zg _);rw[QC]at this;rw[show N.length+1-1=N.length from rfl,this];refine⟨.int (N.foldl max n),H,I.kept (h':=A) (t':=tk) λb o k=>Y b o ?_ (Zc _ k),⟨T,rfl⟩,w D H _ .refl y bI⟩;intro z;have z':b=s.heap.objs.size:=by simpa using z
     exact absurd (Zo k) (by rw[z'];exact Yl _)
   ·exact w.elim
  ·exact w.elim
 ·exact xw B Z s σ H xs us Q I r ⟨F,D,S,_,y,C,w⟩
noncomputable def mD(ds:List D)(S:aa):Res D:=mq ds S
theorem GC(h:X.calm=NA)(H:1=1):aX X (.builtin "min") (rC X.K X.mg mD):=xv h
mutual
noncomputable def xT:D->Option PyData
 | .non=>Nz .none
 | .bl b=>Nz (.bool b)
 | .int i=>Nz (.int i)
 | .str x=>Nz (.str x)
 | .tup ds=>(dO ds).map .tuple
 | .lst ds=>(dO ds).map .list
 |_=>none
noncomputable def dO:List D->Option (List PyData)
 | []=>Nz []
 |d::ds=>match xT d,dO ds with
  |some p,Nz ps=>Nz (p::ps)
  |_,_=>none
end
mutual
theorem GD(I:Inv X pq σ H s):∀(d:D) (v:V) (u:NF) (p:PyData),Rep X.K ⟨X.mg,F⟩ μ H d v->RelV v u->xT d=Nz p->p.hasDict=NB/\∃as,Reads s.heap u p as
 | .non,v,u,p,r,q,h=>by cases gP r;subst(q);cases h;exact⟨rfl,_,.none⟩
 | .bl b,v,u,p,r,q,h=>by cases f6 r;subst(q);cases h;exact⟨rfl,_,.bool b⟩
 | .int i,v,u,p,r,q,h=>by cases aJ r;obtain⟨t,rfl⟩:=q;cases h;exact⟨rfl,_,.int i t⟩
 | .str x,v,u,p,r,q,h=>by cases eK r;obtain⟨t,rfl⟩:=q;cases h;exact⟨rfl,_,.str x t⟩
 | .tup c,v,u,p,r,q,h=>by
  obtain⟨a,vs,rfl,l,R⟩:=b3 r;subst(q);obtain⟨f,m,⟨o,g,j,n,k⟩,_⟩:=I.tuple l;have h:(dO c).map PyData.tuple=Nz p:=h;cases e:dO c with
  |none=>rw[e]at h;cases h
  |some P=>rw[e]at h;cases h;obtain⟨K,as,w⟩:=sB I c vs f P R m e;exact⟨K,as,.tuple g j k (by grind)⟩
 | .lst c,v,u,p,r,q,h=>by
  unfold Rep at r;obtain⟨a,vs,rfl,l,_,R⟩:=r;subst(q);obtain⟨f,m,y,_⟩:=I.list (.of l);obtain⟨o,g,j,n,k⟩:=y.isList;have h:(dO c).map PyData.list=Nz p:=h;cases e:dO c with
  |none=>rw[e]at h;cases h
  |some P=>rw[e]at h;cases h;obtain⟨K,as,w⟩:=sB I c vs f P R m e;exact⟨K,_,.list g j k (by simpa using w)⟩
 | .ref _,v,u,p,r,q,h=>by cases h
 | .scr _,v,u,p,r,q,h=>by cases h
 | .fn _,v,u,p,r,q,h=>by cases h
 | .dct,v,u,p,r,q,h=>by cases h
 | .dks _,v,u,p,r,q,h=>by cases h
 | .ty _,v,u,p,r,q,h=>by cases h
theorem sB(I:Inv X pq σ H s):∀(ds:List D) (vs:List V) (us:Lv) (ps:List PyData),aj X.K ⟨X.mg,F⟩ μ H ds vs->Vals vs us->dO ds=Nz ps->PyData.hasDictAll ps=NB/\∃as,ReadsAll s.heap us ps as
 | [],vs,us,ps,r,q,h=>by unfold aj at r;subst r;cases q.zero;cases h;exact⟨rfl,_,.nil⟩
 |d::ds,vs,us,ps,r,q,h=>by
  obtain⟨w,W,rfl,R,f⟩:=r.uncons;obtain⟨u,U,rfl,Q,c⟩:=q.un;unfold dO at h;split at h
  ·rename_i p P e E;cases h;obtain⟨k,as,K⟩:=GD I d w u p R Q e;obtain⟨a,bs,b⟩:=sB I ds W U P f c E;exact⟨by show(PyData.hasDict p||PyData.hasDictAll P)=NB;rw[k,a];rfl,_,.cons K b⟩
  ·cases h
end
open PySem.SeqAt PySem.MeetsSeq PySem.MeetsSeq2 PySem.MeetsSeq3
open PySem.AutoSeq1 (wpAny_loadPart')
end Py
namespace Py
section
variable {E:XK}{Φ:FT}
end
open Builtin.Str (occurrences partsBetween)
end Py
namespace Py
section
open PySem.AutoSeq1 (wpAny_loadPart')
open PySem.MeetsSeq PySem.MeetsSeq2 PySem.MeetsSeq3
open PySem.AutoSeq1
end
set_option genInjectivity false in
inductive ej where
 |int|seq (t:ej)
 deriving DecidableEq
set_option genInjectivity false in
inductive jJ where
 |len|tuple|list (box:Bool)|int|min|max|isinst|all|any|sum|repr|abs|str|sorted (box:Bool) (t:ej)
 deriving DecidableEq
inductive qp where
 |append|extend|pop|count|insert|index
 deriving DecidableEq
set_option genInjectivity false in
inductive CT where
 |var (i:Nat)
 |tup (ts:List CT)
set_option genInjectivity false in
inductive CE where
 |var (i:Nat)
 |lit (d:D)
 |glob (x:Str)
 |ty (n:String)
 |bin (op:RS) (a b:CE)
 |binB (a b:CE)
 |neg (a:CE)
 |cmp (op:QI) (a b:CE)
 |chain (op op':QI) (a b c:CE)
 |chain3 (op op' op'':QI) (a b c d:CE)
 |band (a b:CE)
 |bor (a b:CE)
 |bnot (a:CE)
 |ite (c a b:CE)
 |tup (es:List CE)
 |lst (box:Bool) (es:List CE)
 |idx (a b:CE)
 |sl (a:CE) (lo hi:List CE)
 |call (f:Str) (es:List CE)
 |blt (b:jJ) (es:List CE)
 |meth (m:qp) (o:CE) (es:List CE)
 |tix (o:CE) (es:List CE)
 |lenset (a:CE)
 |sset (a:CE)
 |comp (box:Bool) (N:Ls) (fr:List (Option Nat)) (tg:CT) (it:CE) (ifs:List CE) (body:CE)
 |emit (e:CE)
 |inner (tg:CT) (it:CE) (ifs:List CE) (body:CE)
 |seq (e:CE)
 |range (es:List CE)
 |zip (es:List CE)
 |down (es:List CE)
 |dct
 |enum (es:List CE)
set_option genInjectivity false in
inductive CS where
 |asg (i:Nat) (e:CE)
 |asgT (t:CT) (e:CE)
 |set (o i v:CE)
 |expr (e:CE)
 |ret (e:CE)
 |retN
 |pass
 |brk
 |cont
 |ite (c:CE) (a b:List CS)
 |for_ (t:CT) (it:CE) (body:List CS)
 |while_ (n:Nat) (c:CE) (body:List CS)
 |never
 |raise_ (x:Str) (es:List CE)
abbrev bC:=List (Option D)
abbrev FT:=Str->Option (List D->aa->Res D)
noncomputable def Res.bind{b c:Type}(r:Res b)(f:b->aa->Res c):Res c:=match r with
 | .ok a S=>f a S
 | .err x S=>.err x S
 | .fail=>.fail
noncomputable def Res.noErr{b:Type}:Res b->Res b
 | .ok a S=>.ok a S
 |_=>.fail
noncomputable def bj{a:Type}(d:D)(f:Bool->Res a):Res a:=match d with
 | .bl k=>f k
 |_=>.fail
noncomputable def cc:List CT->List D->bC->Option bC
 | [],ds,ρ=>if ds.isEmpty=NA then Nz ρ else none
 |t::ts,ds,ρ=>match t,ds with
  | .var i,d::ds=>cc ts ds (ρ.set i (Nz d))
  |_,_=>none
noncomputable def aE:CT->D->bC->Option bC
 | .var i,d,ρ=>Nz (ρ.set i (Nz d))
 | .tup ts,d,ρ=>match d with
  | .tup ds=>cc ts ds ρ
  |_=>none
noncomputable def fi:List CT->List Nat
 | []=>[]
 |t::ts=>match t with
  | .var i=>i::fi ts
  | .tup _=>fi ts
noncomputable def slots:CT->List Nat
 | .var i=>[i]
 | .tup ts=>fi ts
noncomputable def cf:bC->List Nat->Bool
 |ρ,is=>is.all λi=>match ρ[i]? with
  |some none=>NA
  |_=>NB
noncomputable def aH(t:CT)(d:D)(ρ:bC):Option bC:=if cf ρ (slots t)=NA then aE t d ρ else none
set_option genInjectivity false in
inductive iH where
 |items (xs:List D)|live (f:Nat) (get:aa->Nat->Option (Option D))
noncomputable def bz(step:D->List D->aa->Res (List D)):List D->List D->aa->Res (List D)
 | [],acc,S=>.ok acc S
 |x::xs,acc,S=>(step x acc S).bind λa S'=>bz step xs a S'
noncomputable def bA(step:D->List D->aa->Res (List D))(get:aa->Nat->Option (Option D)):Nat->Nat->List D->aa->Res (List D)
 |0,_,_,_=>.fail
 |f+1,i,acc,S=>match get S i with
  |none=>.fail
  |some none=>.ok acc S
  |some (Nz x)=>(step x acc S).bind λa S'=>bA step get f (i+1) a S'
noncomputable def bO(step:D->List D->aa->Res (List D))(its:iH)(a:List D)(S:aa):Res (List D):=match its with
 | .items xs=>bz step xs a S
 | .live f get=>bA step get f 0 a S
noncomputable def bP(n:Nat):aa->Nat->Option (Option D):=λS i=>(S[n]?).map λxs=>xs[i]?
noncomputable def cB(S:aa):D->Option iH
 | .tup xs=>Nz (.items xs)
 | .lst xs=>Nz (.items xs)
 | .scr xs=>Nz (.items xs)
 | .ref n=>Nz (.live (((S[n]?).getD []).length+1) (bP n))
 |_=>none
noncomputable def gb:D->Option (List D)
 | .tup xs=>Nz xs
 | .lst xs=>Nz xs
 | .scr xs=>Nz xs
 |_=>none
noncomputable def mE(d e:D):aa->Nat->Option (Option D):=λS i=>match av S d,av S e with
 |some xs,Nz ys=>Nz (match xs[i]?,ys[i]? with
  |some x,Nz y=>Nz (.tup [x,y])
  |_,_=>none)
 |_,_=>none
noncomputable def cU:D->Bool
 | .tup _=>NB
 |_=>NA
noncomputable def fB(S:aa)(d e:D):Option iH:=match gb d,gb e with
  |some xs,Nz ys=>Nz (.items (NL (λx y=>.tup [x,y]) xs ys))
  |_,_=>match av S d,av S e with
   |some xs,Nz ys=>Nz (.live (min xs.length ys.length+1) (mE d e))
   |_,_=>none
noncomputable def eS(lo:Int):Nat->List D
 |0=>[]
 |n+1=>.int lo::eS (lo+1) n
noncomputable def dj:Nat->List D->List D
 |_,[]=>[]
 |k,x::xs=>.tup [.int (k:Nat),x]::dj (k+1) xs
noncomputable def cV:Nat->List D
 |0=>[]
 |n+1=>.int (n:Nat)::cV n
noncomputable def dk:List D->Option (Option Int)
 | []=>Nz none
 | [.int i]=>Nz (Nz i)
 |_=>none
noncomputable def cL(ds:List D)(S:aa):Res (Option Int):=match dk ds with
 |some o=>.ok o S
 |none=>.fail
noncomputable def aw:ej->D->Bool
 | .int,.int _=>NA
 | .seq t,.tup xs=>xs.all (aw t)
 |_,_=>NB
noncomputable def bQ(f:D->D->Bool):List D->List D->Bool
 | [],[]=>NB
 | [],_::_=>NA
 |_::_,[]=>NB
 |x::xs,y::ys=>if f x y=NA then NA else if f y x=NA then NB else bQ f xs ys
noncomputable def bJ:ej->D->D->Bool
 | .int,.int i,.int j=>decide (i<j)
 | .seq t,.tup xs,.tup ys=>bQ (bJ t) xs ys
 |_,_,_=>NB
noncomputable def insB(f:D->D->Bool)(x:D):List D->List D
 | []=>[x]
 |y::ys=>if f x y=NA then x::y::ys else y::insB f x ys
noncomputable def eT(f:D->D->Bool)(xs:List D):List D:=xs.foldl (λacc x=>insB f x acc) []
noncomputable def bR:ej->Bool
 | .int=>NA
 | .seq t=>bR t
noncomputable def dP:D->Bool
 | .tup []=>NA
 |_=>NB
noncomputable def gR:ej->List D->Bool
 | .int,_=>NA
 | .seq t,xs=>bR t&&((xs.all λd=> !dP d)||dP (xs.headD .non))
noncomputable def fN(box:Bool)(t:ej)(ds:List D)(S:aa):Res D:=match ds with
 | [d]=>match av S d with
  |some xs=>if xs.all (aw t)=NA/\xs.length<65536/\gR t xs=NA then(if box=NA then .ok (.ref S.length) (S++[eT (bJ t) xs])else .ok (.lst (eT (bJ t) xs)) S)else .fail
  |none=>.fail
 |_=>.fail
noncomputable def cg:D->Option Int
 | .int i=>Nz i
 |_=>none
noncomputable def eL(ns:Li):Li:=ns.foldl Q3 []
noncomputable def il:D->Li
 | .tup ds=>ds.filterMap cg
 |_=>[]
noncomputable def gS(K:List (Li)):List (Li):=K.foldl (λacc k=>if acc.contains k=NA then acc else acc++[k]) []
noncomputable def jK(d:D)(S:aa):Res D:=match av S d with
  |some xs=>if xs.all (aw .int)=NA/\xs.length<1000 then .ok (.int ((eL (xs.filterMap cg)).length:Nat)) S else
   if xs.all (aw (.seq .int))=NA/\xs.length<76 then .ok (.int ((gS (xs.map il)).length:Nat)) S else .fail
  |none=>.fail
noncomputable def jL:D->Bool
 | .int n=>decide (0<=n)&&decide (n<8)
 |_=>NB
noncomputable def gc(d:D)(S:aa):Res D:=match av S d with
 |some xs=>if xs.all jL=NA then .ok (.lst (((NJ 8).filter λk:Nat=>(xs.filterMap cg).contains (k:Int)).map λk:Nat=>D.int k)) S else .fail
 |none=>.fail
noncomputable def cj:ej->Nat
 | .int=>1
 | .seq t=>cj t+1
noncomputable def sC:jJ->Bool
 | .sorted _ t=>decide (cj t<=40)
 | .sum=>NB
 | .repr=>NB
 | .abs=>NB
 | .str=>NB
 |_=>NA
noncomputable def bh:jJ->List D->aa->Res D
 | .len=>f8| .tuple=>sn| .list b=>jz b| .int=>intD| .min=>mD| .max=>jI| .isinst=>f9| .all=>jB| .any=>f_| .sum=>λ_ _=>.fail | .repr=>λ_ _=>.fail | .abs=>λ_ _=>.fail | .str=>λ_ _=>.fail
 | .sorted b t=>fN b t
noncomputable def xU(d:D)(ds:List D)(S:aa):Res D:=match ds with
 | []=>jE d [] S
 |ds=>sy d ds S
noncomputable def cH:qp->D->List D->aa->Res D
 | .append=>fh| .extend=>f'| .pop=>xU| .count=>λ_ _ _=>.fail | .insert=>λ_ _ _=>.fail | .index=>λ_ _ _=>.fail
section
variable (Φ:FT)(Γ:Str->Option D)
mutual
noncomputable def ak:CE->bC->aa->Res D
 | .var i,ρ,S=>match ρ[i]? with
  |some (Nz d)=>.ok d S
  |_=>.fail
 | .dct,ρ,S=>.ok .dct S
 | .lit d,ρ,S=>.ok d S
 | .glob x,ρ,S=>match Γ x with
  |some d=>.ok d S
  |none=>.fail
 | .ty n,ρ,S=>.ok (.ty n) S
 | .bin op a b,ρ,S=>(ak a ρ S).bind λd S1=>(ak b ρ S1).bind λe S2=>(dD op d e S2).noErr
 | .binB a b,ρ,S=>(ak a ρ S).bind λd S1=>(ak b ρ S1).bind λe S2=>(ij d e S2).noErr
 | .neg a,ρ,S=>(ak a ρ S).bind λd S1=>match d with
  | .int i=>.ok (.int (-i)) S1
  |_=>.fail
 | .cmp op a b,ρ,S=>(ak a ρ S).bind λd S1=>(ak b ρ S1).bind λe S2=>(a7 op d e S2).noErr
 | .chain3 _ _ _ _ _ _ _,_,_=>.fail
 | .chain op op' a b c,ρ,S=>(ak a ρ S).bind λd S1=>(ak b ρ S1).bind λe S2=>(a7 op d e S2).noErr.bind λk S3=>bj k λk=>if k=NA then(ak c ρ S3).bind λf p=>(a7 op' e f p).noErr else .ok (.bl NB) S3
 | .band a b,ρ,S=>(ak a ρ S).bind λd S1=>bj d λk=>if k=NA then ak b ρ S1 else .ok (.bl NB) S1
 | .bor a b,ρ,S=>(ak a ρ S).bind λd S1=>bj d λk=>if k=NA then .ok (.bl NA) S1 else ak b ρ S1
 | .bnot a,ρ,S=>(ak a ρ S).bind λd S1=>match bN S1 d with
  |some k=>.ok (.bl (!k)) S1
  |none=>.fail
 | .ite c a b,ρ,S=>(au c ρ S).bind λk S1=>if k=NA then ak a ρ S1 else ak b ρ S1
 | .tup es,ρ,S=>(al es ρ S).bind λds S1=>.ok (.tup ds) S1
 | .lst box es,ρ,S=>(al es ρ S).bind λds S1=>if box=NA then .ok (.ref S1.length) (S1++[ds])else .ok (.lst ds) S1
 | .idx a b,ρ,S=>(ak a ρ S).bind λd S1=>(ak b ρ S1).bind λe S2=>(bi d e S2).noErr
 | .sl a lo hi,ρ,S=>(ak a ρ S).bind λd S1=>((al lo ρ S1).bind cL).bind λl S2=>((al hi ρ S2).bind cL).bind λh S3=>(jj d l h S3).noErr
 | .call f es,ρ,S=>match Φ f with
  |some φ=>(al es ρ S).bind λds S1=>φ ds S1
  |none=>.fail
 | .blt b es,ρ,S=>(al es ρ S).bind λds S1=>(bh b ds S1).noErr
 | .meth m o es,ρ,S=>(ak o ρ S).bind λd S1=>match d with
  | .ref n=>(al es ρ S1).bind λds S2=>(cH m (.ref n) ds S2).noErr
  |_=>.fail
 | .tix _ _,_,_=>.fail
 | .lenset a,ρ,S=>(ak a ρ S).bind λd S1=>(jK d S1).noErr
 | .sset a,ρ,S=>(ak a ρ S).bind λd S1=>(gc d S1).noErr
 | .comp box N fr tg it ifs body,ρ,S=>(aK it ρ S).bind λits S1=>
   (bO (λx acc S2=>match aH tg x (fr.map λj=>j.bind λj=>(ρ[j]?).join)with
    |some ρ'=>(ax ifs ρ' S2).bind λk S3=>if k=NA then aN body ρ' acc S3 else .ok acc S3
    |none=>.fail) its [] S1).noErr.bind λys g=>if box=NA then .ok (.ref g.length) (g++[ys])else .ok (.lst ys) g
 | .emit _,_,_=>.fail
 | .inner _ _ _ _,_,_=>.fail
 | .seq _,_,_=>.fail
 | .range _,_,_=>.fail
 | .zip _,_,_=>.fail
 | .down _,_,_=>.fail
 | .enum _,_,_=>.fail
noncomputable def au:CE->bC->aa->Res Bool
 | .band a b,ρ,S=>(au a ρ S).bind λk S1=>if k=NA then au b ρ S1 else .ok NB S1
 | .bor a b,ρ,S=>(au a ρ S).bind λk S1=>if k=NA then .ok NA S1 else au b ρ S1
 | .bnot a,ρ,S=>(au a ρ S).bind λk S1=>.ok (!k) S1
 | .cmp op a b,ρ,S=>(ak a ρ S).bind λd S1=>(ak b ρ S1).bind λe S2=>(a7 op d e S2).noErr.bind λk S3=>bj k λk=>.ok k S3
 | .chain3 _ _ _ _ _ _ _,_,_=>.fail
 | .chain op op' a b c,ρ,S=>(ak a ρ S).bind λd S1=>(ak b ρ S1).bind λe S2=>(a7 op d e S2).noErr.bind λk S3=>bj k λk=>if k=NA then(ak c ρ S3).bind λf g=>(a7 op' e f g).noErr.bind λk h=>bj k λk=>.ok k h else .ok NB S3
 | .var i,ρ,S=>match ρ[i]? with
  |some (Nz d)=>match bN S d with
   |some k=>.ok k S
   |none=>.fail
  |_=>.fail
 | .call f es,ρ,S=>match Φ f with
  |some φ=>(al es ρ S).bind λds S1=>(φ ds S1).bind λd S2=>match bN S2 d with
   |some k=>.ok k S2
   |none=>.fail
  |none=>.fail
 | .blt b es,ρ,S=>(al es ρ S).bind λds S1=>(bh b ds S1).noErr.bind λd S2=>match bN S2 d with
   |some k=>.ok k S2
   |none=>.fail
 | .lit d,ρ,S=>match bN S d with
   |some k=>.ok k S
   |none=>.fail
 |_,_,_=>.fail
noncomputable def al:List CE->bC->aa->Res (List D)
 | [],_,S=>.ok [] S
 |e::es,ρ,S=>(ak e ρ S).bind λd S1=>(al es ρ S1).bind λds S2=>.ok (d::ds) S2
noncomputable def ax:List CE->bC->aa->Res Bool
 | [],_,S=>.ok NA S
 |e::es,ρ,S=>(au e ρ S).bind λk S1=>if k=NA then ax es ρ S1 else .ok NB S1
noncomputable def aK:CE->bC->aa->Res iH
 | .seq e,ρ,S=>(ak e ρ S).bind λd S1=>match cB S1 d with
  |some xs=>.ok xs S1
  |none=>.fail
 | .range es,ρ,S=>(al es ρ S).bind λds S1=>match ds with
  | [.int j]=>if-(2^62)<=j/\j<2^62 then .ok (.items (eS 0 j.toNat)) S1 else .fail
  | [.int i,.int j]=>if-(2^62)<=i/\i<2^62/\ -(2^62)<=j/\j<2^62 then .ok (.items (eS i (j-i).toNat)) S1 else .fail
  |_=>.fail
 | .enum es,ρ,S=>(al es ρ S).bind λds S1=>match ds with
  | [d]=>(match gb d with
   |some xs=>.ok (.items (dj 0 xs)) S1
   |none=>.fail)
  |_=>.fail
 | .down es,ρ,S=>(al es ρ S).bind λds S1=>match ds with
  | [.int j]=>if-(2^62)<=j/\j<2^62 then .ok (.items (cV j.toNat)) S1 else .fail
  |_=>.fail
 | .zip es,ρ,S=>(al es ρ S).bind λds S2=>match ds with
  | [d,e]=>(match fB S2 d e with
   |some its=>.ok its S2
   |none=>.fail)
  |_=>.fail
 |_,_,_=>.fail
noncomputable def aN:CE->bC->List D->aa->Res (List D)
 | .emit e,ρ,acc,S=>(ak e ρ S).bind λy S1=>if acc.length<bt then .ok (acc++[y]) S1 else .fail
 | .inner tg it ifs body,ρ,acc,S=>(aK it ρ S).bind λits S1=>
   bO (λx acc S2=>match aH tg x ρ with
    |some ρ'=>(ax ifs ρ' S2).bind λk S3=>if k=NA then aN body ρ' acc S3 else .ok acc S3
    |none=>.fail) its acc S1
 |_,_,_,_=>.fail
end
set_option genInjectivity false in
inductive Fl where
 |next(ρ:bC)|ret (d:D)|brk (ρ:bC)|cont (ρ:bC)
noncomputable def b0(step:D->bC->aa->Res Fl):List D->bC->aa->Res Fl
 | [],ρ,S=>.ok (.next ρ) S
 |x::xs,ρ,S=>(step x ρ S).bind λf S'=>match f with
  | .next ρ'=>b0 step xs ρ' S'
  | .cont ρ'=>b0 step xs ρ' S'
  | .brk ρ'=>.ok (.next ρ') S'
  | .ret d=>.ok (.ret d) S'
noncomputable def cC(step:D->bC->aa->Res Fl)(get:aa->Nat->Option (Option D)):Nat->Nat->bC->aa->Res Fl
 |0,_,_,_=>.fail
 |f+1,i,ρ,S=>match get S i with
  |none=>.fail
  |some none=>.ok (.next ρ) S
  |some (Nz x)=>(step x ρ S).bind λF S'=>match F with
    | .next ρ'=>cC step get f (i+1) ρ' S'
    | .cont ρ'=>cC step get f (i+1) ρ' S'
    | .brk ρ'=>.ok (.next ρ') S'
    | .ret d=>.ok (.ret d) S'
noncomputable def mF(step:D->bC->aa->Res Fl)(its:iH)(ρ:bC)(S:aa):Res Fl:=match its with
 | .items xs=>b0 step xs ρ S
 | .live f get=>cC step get f 0 ρ S
noncomputable def fO(c:bC->aa->Res Bool)(step:bC->aa->Res Fl):Nat->bC->aa->Res Fl
 |0,_,_=>.fail
 |n+1,ρ,S=>(c ρ S).bind λk S1=>if k=NA then(step ρ S1).bind λf S'=>match f with
   | .next ρ'=>fO c step n ρ' S'
   | .cont ρ'=>fO c step n ρ' S'
   | .brk ρ'=>.ok (.next ρ') S'
   | .ret d=>.ok (.ret d) S'
  else .ok (.next ρ) S1
mutual
noncomputable def aC:CS->bC->aa->Res Fl
 | .asg i e,ρ,S=>(ak Φ Γ e ρ S).bind λd S1=>.ok (.next (ρ.set i (Nz d))) S1
 | .asgT t e,ρ,S=>(ak Φ Γ e ρ S).bind λd S1=>match aE t d ρ with
  |some ρ'=>.ok (.next ρ') S1
  |none=>.fail
 | .set o i v,ρ,S=>(ak Φ Γ v ρ S).bind λf S1=>(ak Φ Γ o ρ S1).bind λd S2=>(ak Φ Γ i ρ S2).bind λe S3=>match iF d e f S3 with
  |some g=>.ok (.next ρ) g
  |none=>.fail
 | .expr e,ρ,S=>(ak Φ Γ e ρ S).bind λ_ S1=>.ok (.next ρ) S1
 | .ret e,ρ,S=>(ak Φ Γ e ρ S).bind λd S1=>.ok (.ret d) S1
 | .retN,_,S=>.ok (.ret .non) S
 | .pass,ρ,S=>.ok (.next ρ) S
 | .brk,ρ,S=>.ok (.brk ρ) S
 | .cont,ρ,S=>.ok (.cont ρ) S
 | .ite c a b,ρ,S=>(au Φ Γ c ρ S).bind λk S1=>if k=NA then ah a ρ S1 else ah b ρ S1
 | .for_ t it body,ρ,S=>(aK Φ Γ it ρ S).bind λxs S1=>mF (λx ρ S=>match aE t x ρ with
   |some ρ'=>ah body ρ' S
   |none=>.fail) xs ρ S1
 | .while_ n c body,ρ,S=>fO (au Φ Γ c) (ah body) n ρ S
 | .never,_,_=>.fail
 | .raise_ _ _,_,_=>.fail
noncomputable def ah:List CS->bC->aa->Res Fl
 | [],ρ,S=>.ok (.next ρ) S
 |c::cs,ρ,S=>(aC c ρ S).bind λf S1=>match f with
  | .next ρ'=>ah cs ρ' S1
  |f=>.ok f S1
end
end
end Py
variable {body:List Py.CS}{Φ:Py.FT}{ρ ρ' r0:Py.bC}
namespace Py
def xV(m:Mg)(x:Exc)(cls:NF)(d:Option ND)(H:Hp):Prop:=m x.cls=Nz cls/\x.fs=[]
def xW(m:Mg)(E:XK)(x:Exc)(H:Hp):Prop:=∀cls d,xV m x cls d H->E cls d H
noncomputable def am{c d:Type}(K:Fg)(m:GS)(E:XK)(Rel:La->Hp->c->d->Prop)(μ:La)(H:Hp)(Q:d->Hp->Prop):Res c->Prop
 | .ok a S'=>∀μ' H' b,Ext μ H μ' H'->aO K m μ' S' H'->Rel μ' H' a b->Q b H'
 | .err x S'=>∀μ' H',Ext μ H μ' H'->aO K m μ' S' H'->xW m.mg E x H'
 | .fail=>False
section
variable {mg:GS}{E:XK}
theorem dQ{Q:VK}{r:Res D}(w:am K mg E (Rep K mg) μ H Q r.noErr):aU K mg μ H Q r:=by cases r<;>first|exact w|exact w.elim
theorem am.ext{Rel:La->Hp->α->β->Prop}{Q:β->Hp->Prop}{r:Res α}(x:Ext μ H μ' H')(w:am K mg E Rel μ H Q r):am K mg E Rel μ' H' Q r:=by
 cases r with
 |ok d S=>exact λa b v X s R=>w _ _ v (x.trans X) s R
 |err y S=>exact λa b X s=>w _ _ (x.trans X) s
 |fail=>exact w
theorem am.bind{c d:Type}{Rel:La->Hp->α->β->Prop}{R:La->Hp->c->d->Prop}{Q:d->Hp->Prop}{r:Res α}{f:α->aa->Res c}(w:am K mg E R μ H Q (r.bind f)):
  am K mg E Rel μ H (λb H'=>∃μ' S' a,Ext μ H μ' H'/\aO K mg μ' S' H'/\Rel μ' H' a b/\am K mg E R μ' H' Q (f a S')) r:=by
 cases r with
 |ok a S'=>exact λe g b x s r=>⟨_,_,a,x,s,r,am.ext x (show am K _ E _ _ H Q _ from w)⟩
 |err y S'=>exact w
 |fail=>exact w
theorem am.mono{Rel:La->Hp->α->β->Prop}{Q c:β->Hp->Prop}{r:Res α}(w:am K mg E Rel μ H Q r)(h:∀b H',Q b H'->c b H'):am K mg E Rel μ H c r:=by
 cases r with
 |ok a S=>exact λd e b x s r=>h b _ (w _ _ b x s r)
 |err y S=>exact w
 |fail=>exact w
def bb(K:Fg)(m:GS)(μ:La)(H:Hp)(ρ:bC)(σ:L2.St):Prop:=
 ρ.length=σ.length/\∀(i:Nat) (d:D),ρ[i]?=Nz (Nz d)->∃v,σ[i]?=Nz (Nz v)/\Rep K m μ H d v
theorem bb.mono(x:Ext μ H μ' H')(h:bb K mg μ H ρ σ):bb K mg μ' H' ρ σ:=
 ⟨h.1,λi d e=>(by obtain⟨v,a,b⟩:=h.2 i d e;exact(⟨v,a,Rep.mono x _ _ b⟩))⟩
theorem bb.set{i:Nat}(h:bb K mg μ H ρ σ)(r:Rep K mg μ H d v):bb K mg μ H (ρ.set i (Nz d)) (σ.set i (Nz v)):=by
 refine⟨by simp[h.1],λj e a=>?_⟩;by_cases b:j=i
 ·subst b;have c:j<ρ.length:=by have:=(Zm.mp a).1;simpa using this
  rw[N5 c]at a;cases a;exact⟨v,N5 (by rw[<-h.1];exact c),r⟩
 ·rw[Oi (Ne.symm b)]at a⊢;exact h.2 j e a
end
section
variable (K:Fg)(mg:Mg)(E:XK)(Φ:FT)(Γ:Str->Option D)
noncomputable def tE(c:CE):TE:=λσ H Q=>∃F μ ρ S,aO K ⟨mg,F⟩ μ S H/\bb K ⟨mg,F⟩ μ H ρ σ/\am K ⟨mg,F⟩ E (Rep K ⟨mg,F⟩) μ H Q (ak Φ Γ c ρ S)
noncomputable def tT(c:CE):TT:=λσ H Q=>∃F μ ρ S,aO K ⟨mg,F⟩ μ S H/\bb K ⟨mg,F⟩ μ H ρ σ/\am K ⟨mg,F⟩ E (λ_ _ a b=>a=b) μ H Q (au Φ Γ c ρ S)
noncomputable def tL(cs:List CE):TA:=λσ H Q=>∃F μ ρ S,aO K ⟨mg,F⟩ μ S H/\bb K ⟨mg,F⟩ μ H ρ σ/\am K ⟨mg,F⟩ E (aj K ⟨mg,F⟩) μ H Q (al Φ Γ cs ρ S)
end
theorem aY{t t':TE}(h:PE X e t)(w:∀σ H Q,t' σ H Q->t σ H Q):PE X e t':=λp s σ H Q I q=>h _ s _ H Q I (w _ H Q q)
theorem eD{t t':TT}(h:PT X e t)(w:∀σ H Q,t' σ H Q->t σ H Q):PT X e t':=λp s σ H Q I q=>h _ s _ H Q I (w _ H Q q)
theorem qq{e:Lx}{t t':TA}(h:PA X e t)(w:∀σ H Q,t' σ H Q->t σ H Q):PA X e t':=λpos p s σ H Q I q=>h _ _ s _ H Q I (w _ H Q q)
noncomputable def mG(s:List (Str×Ol))(x:Str):Bool:=match s.lookup x with
 |some .local=>NA|some .cell=>NA|some .free=>NA
 |_=>NB
noncomputable def bB(s:List (Str×Ol))(x:Str):Bool:=s.lookup x==Nz .globalImplicit&& !(x==("__debug__":Str))&& !(x==("__name__":Str))
noncomputable def mH(x:Str):Bool:= !(x==("__debug__":Str))&& !(x==("__classdict__":Str))
noncomputable def b7:Expr->Bool
 | .Starred _ _=>NB
 |_=>NA
noncomputable def jM:D->Const->Bool
 | .non,.none=>NA
 | .bl b,.bool c=>b==c
 | .int i,.int j=>i==j
 | .str x,.str y=>x==y
 |_,_=>NB
noncomputable def gT:jJ->Str
 | .len=>"len"| .tuple=>"tuple"| .list _=>"list"| .int=>"int"| .min=>"min"| .max=>"max"| .isinst=>"isinstance"| .all=>"all"| .any=>"any"| .sum=>"sum"| .repr=>"repr"| .abs=>"abs"| .str=>"str"| .sorted _ _=>"sorted"
noncomputable def jN:jJ->NF
 | .len=>.builtin "len"| .tuple=>.type "tuple"| .list _=>.type "list"| .int=>.type "int"| .min=>.builtin "min"| .max=>.builtin "max"| .isinst=>.builtin "isinstance"| .all=>.builtin "all"| .any=>.builtin "any"| .sum=>.builtin "sum"| .repr=>.builtin "repr"| .abs=>.builtin "abs"| .str=>.type "str"| .sorted _ _=>.builtin "sorted"
theorem GF(b:jJ):bootBuiltins (gT b)=Nz (jN b):=by
 cases b with
 |list box=>rfl
 |sorted box t=>rfl
 |_=>decide+kernel
noncomputable def iI:List String:=["int","bool","str","tuple","list","dict"]
theorem mI{n:String}(h:iI.contains n=NA):bootBuiltins (OA n)=Nz (.type n):=by simp[iI]at h;rcases h with rfl|rfl|rfl|rfl|rfl|rfl<;>decide+kernel
abbrev Sc:=List (Str×Ol)
noncomputable def jO(N s:Sc):Sc:=N.map λ(n,k)=>if(k== .free&&s.lookup n==Nz .cell)then(n,.cell)else(n,k)
noncomputable def sD(n:Sc):Str->Bool:=λx=>n.lookup x==Nz .cell
noncomputable def GG(scope:Scope)(s:Sc):Bool:=scope.kind== .function&&scope.names.all λ(n,k)=>(k !=.cell||scope.names.lookup n==Nz .cell)&&(k !=.local||scope.names.lookup n==Nz .local)&&(k !=.free||(s.lookup n==Nz .cell||s.lookup n==Nz .free))
noncomputable def GH(n:Sc)(a N:Ls)(fr:List (Option Nat)):Bool:=fr.length==a.length&&(NJ a.length).all λi=>match fr[i]? with
 |some (Nz j)=>(match a[i]? with
  |some x=>n.lookup x==Nz .free&&N[j]?==Nz x
  |none=>NB)
 |_=>NA
noncomputable def iJ:Ls->Bool
 | []=>NA
 |x::r=> !r.contains x&&iJ r
noncomputable def iK:Expr->Bool
 | .Slice _ _ _ _=>NB
 |_=>NA
theorem GI{b:Expr}(h:iK b=NA):wV b:=by intro o i;cases b<;>first|rfl|cases h
noncomputable def mJ:qp->Str
 | .append=>"append"| .extend=>"extend"| .pop=>"pop"| .count=>"count"| .insert=>"insert"| .index=>"index"
noncomputable def xX:Expr->Bool
 | .Name _ _=>NA
 |_=>NB
noncomputable def eU:Expr->Bool
 | .Tuple _ _ _=>NA
 |_=>NB
noncomputable def mK:Expr->Bool
 | .Set _ _ _=>NB
 |_=>NA
noncomputable def dE:Expr:=.Name "" ⟨0,0,0,0⟩
noncomputable def dG:N1:=⟨dE,dE,[],0⟩
set_option genInjectivity false in
structure Nd where
 e0:Expr:=dE
 e1:Expr:=dE
 e2:Expr:=dE
 es:Lx:=[]
 lo:Option Expr:=none
 hi:Option Expr:=none
 gs:List N1:=[]
 sc:Scope:=default
 k:Nat:=0
 pos:Pos:=⟨0,0,0,0⟩
noncomputable def vw:Expr->Nd
 | .BoolOp _ vs p=>{es:=vs,pos:=p}
 | .BinOp l _ r p=>{e0:=l,e1:=r,pos:=p}
 | .UnaryOp _ x p=>{e0:=x,pos:=p}
 | .IfExp t x y p=>{e0:=t,e1:=x,e2:=y,pos:=p}
 | .ListComp a g sc p=>{e0:=a,gs:=g,sc:=sc,pos:=p}
 | .SetComp a g sc p=>{e0:=a,gs:=g,sc:=sc,pos:=p}
 | .Compare l _ R p=>{e0:=l,es:=R,pos:=p}
 | .Call f xs ks p=>{e0:=f,es:=xs,e1:=(ks.headD ⟨none,dE,⟨0,0,0,0⟩⟩).value,e2:=.Name "" (ks.headD ⟨none,dE,⟨0,0,0,0⟩⟩).pos,pos:=p}
 | .Constant _ k p=>{k:=k,pos:=p}
 | .Attribute v _ p=>{e0:=v,pos:=p}
 | .Subscript v s p=>{e0:=v,e1:=s,pos:=p}
 | .Name _ p=>{pos:=p}
 | .List es p=>{es:=es,pos:=p}
 | .Tuple es k p=>{es:=es,k:=k,pos:=p}
 | .Slice l u s p=>{lo:=l,hi:=u,e2:=s.getD dE,pos:=p}
 | .Dict _ _ p=>{pos:=p}
 | .JoinedStr vs p=>{es:=vs,pos:=p}
 | .FormattedValue v _ _ p=>{e0:=v,pos:=p}
 |_=>{}
noncomputable def xY:D->Const
 | .bl b=>.bool b
 | .int i=>.int i
 | .str x=>.str x
 |_=>.none
noncomputable def jP:CT->Bool
 | .tup _=>NA
 |_=>NB
noncomputable def jQ:CE->Bool
 | .band _ _=>NA
 |_=>NB
noncomputable def gf:CE->Bool
 | .bor _ _=>NA
 |_=>NB
noncomputable def jR:CE->Bool
 | .comp .. =>NA
 |_=>NB
mutual
noncomputable def iL:CT->Ls->Expr->Expr
 | .var i,N,e=>.Name (N.getD i "") (vw e).pos
 | .tup ts,N,e=>.Tuple (gU ts N (vw e).es) (vw e).k (vw e).pos
noncomputable def gU:List CT->Ls->Lx->Lx
 | [],_,_=>[]
 |t::ts,N,es=>iL t N (es.headD dE)::gU ts N es.tail
end
mutual
noncomputable def qr(c:Str->Bool)(N:Ls)(s:Sc):CT->Bool
 | .var i=>N[i]?==Nz (N.getD i "")&&(s.lookup (N.getD i "")==Nz .local||(c (N.getD i "")&&s.lookup (N.getD i "")==Nz .cell))
 | .tup ts=>sE c N s ts
noncomputable def sE(c:Str->Bool)(N:Ls)(s:Sc):List CT->Bool
 | []=>NA
 |t::ts=>qr c N s t&&sE c N s ts
end
mutual
noncomputable def bD:CE->Ls->Expr->Expr
 | .var i,N,e=>.Name (N.getD i "") (vw e).pos
 | .dct,_,e=>.Dict [] [] (vw e).pos
 | .lit d,_,e=>.Constant (xY d) (vw e).k (vw e).pos
 | .glob y,_,e=>.Name y (vw e).pos
 | .ty n,_,e=>.Name (OA n) (vw e).pos
 | .bin op a b,N,e=>.BinOp (bD a N (vw e).e0) op (bD b N (vw e).e1) (vw e).pos
 | .binB a b,N,e=>.BinOp (bD a N (vw e).e0) .Mult (bD b N (vw e).e1) (vw e).pos
 | .neg a,N,e=>.UnaryOp .USub (bD a N (vw e).e0) (vw e).pos
 | .cmp op a b,N,e=>.Compare (bD a N (vw e).e0) [op] [bD b N ((vw e).es.headD dE)] (vw e).pos
 | .chain3 _ _ _ _ _ _ _,_,e=>e
 | .chain op op' a b c,N,e=>.Compare (bD a N (vw e).e0) [op,op'] [bD b N ((vw e).es.headD dE),bD c N ((vw e).es.tail.headD dE)] (vw e).pos
 | .band a b,N,e=>.BoolOp .And (bD a N ((vw e).es.headD dE)::cond ((vw e).es.length==2) [bD b N ((vw e).es.tail.headD dE)] (vw (bD b N (.BoolOp .And (vw e).es.tail (vw e).pos))).es) (vw e).pos
 | .bor a b,N,e=>.BoolOp .Or (bD a N ((vw e).es.headD dE)::cond ((vw e).es.length==2) [bD b N ((vw e).es.tail.headD dE)] (vw (bD b N (.BoolOp .Or (vw e).es.tail (vw e).pos))).es) (vw e).pos
 | .bnot a,N,e=>.UnaryOp .Not (bD a N (vw e).e0) (vw e).pos
 | .ite c a b,N,e=>.IfExp (bD c N (vw e).e0) (bD a N (vw e).e1) (bD b N (vw e).e2) (vw e).pos
 | .tup es,N,e=>.Tuple (fP es N (vw e).es) (vw e).k (vw e).pos
 | .lst _ es,N,e=>.List (fP es N (vw e).es) (vw e).pos
 | .idx a b,N,e=>.Subscript (bD a N (vw e).e0) (bD b N (vw e).e1) (vw e).pos
 | .sl a lo hi,N,e=>.Subscript (bD a N (vw e).e0) (.Slice (fP lo N (vw (vw e).e1).lo.toList).head? (fP hi N (vw (vw e).e1).hi.toList).head? none (vw (vw e).e1).pos) (vw e).pos
 | .call f es,N,e=>.Call (.Name f (vw (vw e).e0).pos) (fP es N (vw e).es) [] (vw e).pos
 | .blt b es,N,e=>.Call (.Name (gT b) (vw (vw e).e0).pos) (fP es N (vw e).es) [] (vw e).pos
 | .tix _ _,_,e=>e
 | .meth m o es,N,e=>.Call (.Attribute (bD o N (vw (vw e).e0).e0) (mJ m) (vw (vw e).e0).pos) (fP es N (vw e).es) [] (vw e).pos
 | .lenset a,N,e=>.Call (.Name "len" (vw (vw e).e0).pos) [.Call (.Name "set" (vw (vw ((vw e).es.headD dE)).e0).pos) [bD a N ((vw ((vw e).es.headD dE)).es.headD dE)] [] (vw ((vw e).es.headD dE)).pos] [] (vw e).pos
 | .sset a,N,e=>.Call (.Name "sorted" (vw (vw e).e0).pos) [.Call (.Name "set" (vw (vw ((vw e).es.headD dE)).e0).pos) [bD a N ((vw ((vw e).es.headD dE)).es.headD dE)] [] (vw ((vw e).es.headD dE)).pos] [] (vw e).pos
 | .comp _ N' _ tg it ifs body,N,e=>.ListComp (mL body N' (vw e).e0) (⟨iL tg N' ((vw e).gs.headD dG).target,sG it N ((vw e).gs.headD dG).iter,fP ifs N' ((vw e).gs.headD dG).ifs,0⟩::sF body N' (vw e).gs.tail) (vw e).sc (vw e).pos
 | .emit _,_,e=>e
 | .inner _ _ _ _,_,e=>e
 | .seq _,_,e=>e
 | .range _,_,e=>e
 | .zip _,_,e=>e
 | .down _,_,e=>e
 | .enum _,_,e=>e
noncomputable def mL:CE->Ls->Expr->Expr
 | .emit a,N,e=>bD a N e
 | .inner _ _ _ body,N,e=>mL body N e
 |_,_,e=>e
noncomputable def sF:CE->Ls->List N1->List N1
 | .inner tg it ifs body,N,g=>⟨iL tg N (g.headD dG).target,sG it N (g.headD dG).iter,fP ifs N (g.headD dG).ifs,0⟩::sF body N g.tail
 |_,_,_=>[]
noncomputable def fP:List CE->Ls->Lx->Lx
 | [],_,_=>[]
 |c::cs,N,es=>bD c N (es.headD dE)::fP cs N es.tail
noncomputable def sG:CE->Ls->Expr->Expr
 | .seq c,N,e=>bD c N e
 | .range es,N,e=>.Call (.Name "range" (vw (vw e).e0).pos) (fP es N (vw e).es) [] (vw e).pos
 | .enum es,N,e=>.Call (.Name "enumerate" (vw (vw e).e0).pos) (fP es N (vw e).es) [] (vw e).pos
 | .down es,N,e=>.Call (.Name "reversed" (vw (vw e).e0).pos) [.Call (.Name "range" (vw (vw ((vw e).es.headD dE)).e0).pos) (fP es N (vw ((vw e).es.headD dE)).es) [] (vw ((vw e).es.headD dE)).pos] [] (vw e).pos
 | .zip es,N,e=>.Call (.Name "zip" (vw (vw e).e0).pos) (fP es N (vw e).es) [] (vw e).pos
 |_,_,e=>e
end
mutual
noncomputable def ck:CE->Ls->Sc->Expr->Bool
 | .var i,N,sc,_=>N[i]?==Nz (N.getD i "")&&(mG sc (N.getD i "")&&mH (N.getD i ""))
 | .dct,_,_,_=>NA
 | .lit d,_,_,_=>jM d (xY d)
 | .glob y,_,sc,_=>bB sc y
 | .ty n,_,sc,_=>bB sc (OA n)&&iI.contains n
 | .bin _ a b,N,sc,e=>ck a N sc (vw e).e0&&ck b N sc (vw e).e1
 | .binB a b,N,sc,e=>ck a N sc (vw e).e0&&ck b N sc (vw e).e1
 | .neg a,N,sc,e=>ck a N sc (vw e).e0
 | .cmp op a b,N,sc,e=>ck a N sc (vw e).e0&&(ck b N sc ((vw e).es.headD dE)&& !behindInMarks op (bD b N ((vw e).es.headD dE)))
 | .chain3 _ _ _ _ _ _ _,_,_,_=>NB
 | .chain _ op' a b c,N,sc,e=>ck a N sc (vw e).e0&&(ck b N sc ((vw e).es.headD dE)&&(ck c N sc ((vw e).es.tail.headD dE)&& !behindInMarks op' (bD c N ((vw e).es.tail.headD dE))))
 | .band a b,N,sc,e=>ck a N sc ((vw e).es.headD dE)&&cond ((vw e).es.length==2) (ck b N sc ((vw e).es.tail.headD dE)) (jQ b&&ck b N sc (.BoolOp .And (vw e).es.tail (vw e).pos))
 | .bor a b,N,sc,e=>ck a N sc ((vw e).es.headD dE)&&cond ((vw e).es.length==2) (ck b N sc ((vw e).es.tail.headD dE)) (gf b&&ck b N sc (.BoolOp .Or (vw e).es.tail (vw e).pos))
 | .bnot a,N,sc,e=>ck a N sc (vw e).e0
 | .ite c a b,N,sc,e=>ck c N sc (vw e).e0&&(ck a N sc (vw e).e1&&ck b N sc (vw e).e2)
 | .tup es,N,sc,e=>fY es N sc (vw e).es&&decide (es.length<1000)
 | .lst _ es,N,sc,e=>fY es N sc (vw e).es&&decide (es.length<1000)
 | .idx a b,N,sc,e=>ck a N sc (vw e).e0&&(ck b N sc (vw e).e1&&iK (bD b N (vw e).e1))
 | .sl a lo hi,N,sc,e=>ck a N sc (vw e).e0&&(fY lo N sc (vw (vw e).e1).lo.toList&&(fY hi N sc (vw (vw e).e1).hi.toList&&(decide (lo.length<2)&&decide (hi.length<2))))
 | .call f es,N,sc,e=>bB sc f&&(fY es N sc (vw e).es&& !es.isEmpty)
 | .blt b es,N,sc,e=>bB sc (gT b)&&(fY es N sc (vw e).es&&(!es.isEmpty&&sC b))
 | .tix _ _,_,_,_=>NB
 | .meth m o es,N,sc,e=>xX (bD o N (vw (vw e).e0).e0)&&((vw (vw e).e0).pos.endLine==(vw e).pos.line&&(ck o N sc (vw (vw e).e0).e0&&(fY es N sc (vw e).es&&decide (es.length<20))))
 | .lenset a,N,sc,e=>bB sc "len"&&(bB sc "set"&&(ck a N sc ((vw ((vw e).es.headD dE)).es.headD dE)&&b7 (bD a N ((vw ((vw e).es.headD dE)).es.headD dE))))
 | .sset a,N,sc,e=>bB sc "sorted"&&(bB sc "set"&&(ck a N sc ((vw ((vw e).es.headD dE)).es.headD dE)&&b7 (bD a N ((vw ((vw e).es.headD dE)).es.headD dE))))
 | .comp _ N' fr tg it ifs body,N,sc,e=>GG (vw e).sc sc&&(GH (vw e).sc.names N' N fr&&(iJ N'&&(qr (sD (vw e).sc.names) N' (jO (vw e).sc.names sc) tg&&(xZ it N sc tg ((vw e).gs.headD dG).iter&&(mK (sG it N ((vw e).gs.headD dG).iter)&&(fY ifs N' (jO (vw e).sc.names sc) ((vw e).gs.headD dG).ifs&&EB body NB (sD (vw e).sc.names) N' (jO (vw e).sc.names sc) (vw e).gs.tail (vw e).e0))))))
 | .emit _,_,_,_=>NB
 | .inner _ _ _ _,_,_,_=>NB
 | .seq _,_,_,_=>NB
 | .range _,_,_,_=>NB
 | .zip _,_,_,_=>NB
 | .down _,_,_,_=>NB
 | .enum _,_,_,_=>NB
noncomputable def EB:CE->Bool->(Str->Bool)->Ls->Sc->List N1->Expr->Bool
 | .emit a,k,_,N,sc,_,e=> !k&&ck a N sc e
 | .inner tg it ifs body,k,cell,N,sc,g,e=>qr cell N sc tg&&(xZ it N sc tg (g.headD dG).iter&&(mK (sG it N (g.headD dG).iter)&&(fY ifs N sc (g.headD dG).ifs&&EB body k cell N sc g.tail e)))
 |_,_,_,_,_,_,_=>NB
noncomputable def fY:List CE->Ls->Sc->Lx->Bool
 | [],_,_,_=>NA
 |c::cs,N,sc,es=>ck c N sc (es.headD dE)&&(b7 (bD c N (es.headD dE))&&fY cs N sc es.tail)
noncomputable def xZ:CE->Ls->Sc->CT->Expr->Bool
 | .seq c,N,sc,_,e=>ck c N sc e
 | .range es,N,sc,_,e=>bB sc "range"&&(fY es N sc (vw e).es&&(es.length==1||es.length==2))
 | .enum es,N,sc,t,e=>bB sc "enumerate"&&(fY es N sc (vw e).es&&(es.length==1&&jP t))
 | .down es,N,sc,_,e=>bB sc "reversed"&&(bB sc "range"&&(fY es N sc (vw ((vw e).es.headD dE)).es&&es.length==1))
 | .zip es,N,sc,t,e=>bB sc "zip"&&(fY es N sc (vw e).es&&(es.length==2&&jP t))
 |_,_,_,_,_=>NB
end
theorem ab{a b:Bool}(h:(a&&b)=NA):a=NA/\b=NA:=PZ.mp h
theorem jS{p:Prop} [Decidable p] (h:decide p=NA):p:=of_decide_eq_true h
theorem gW{a:Bool}(h:(!a)=NA):a=NB:=by lia
end Py
variable {sc:Py.Sc}
namespace Py
noncomputable def sH(K:Fg)(m:Mg)(n:Nat)(a:List D->aa->Res D):Sp:=λvs H Q E=>vs.length=n/\∃F μ S ds,aO K ⟨m,F⟩ μ S H/\aj K ⟨m,F⟩ μ H ds vs/\am K ⟨m,F⟩ E (Rep K ⟨m,F⟩) μ H Q (a ds S)
structure bV (P:NU)(w:N0)(K:Fg)(mg:Mg)(base:NO)(CX:ef)(k:Nat)(f:Str)(φ:List D->aa->Res D):Prop where
 ex:∃fa fd ps,mg f=Nz (.ref fa)/\PySem.W.keepIn K (.ref fa)=NA/\Binds K fd ps []/\c_ P w K mg base CX k fa fd ps (sH K mg ps.length φ)/\∀ds S,φ ds S≠.fail->ds.length=ps.length
noncomputable def gh:Ls:=["len","tuple","list","int","min","max","isinstance","all","any","sorted","bool","str","dict","range","zip","set","sum","reversed","repr","abs","enumerate"]
structure EC (P:NU)(w:N0)(K:Fg)(mg:Mg)(base:NO)(CX:ef)(Φ:FT)(Γ:Str->Option D)(k:Nat):Prop where
 fns:∀f φ,Φ f=Nz φ->bV P w K mg base CX k f φ
 gl:∀x d,Γ x=Nz d->∃v u,mg x=Nz u/\RelV v u/\∀F μ H,Rep K ⟨mg,F⟩ μ H d v
 bl:∀x∈gh,mg x=none
structure cI (X:Cx)(cell:Str->Bool)(N:Ls)(sc:Sc)(CX:ef)(E:XK)(Φ:FT)(Γ:Str->Option D)(k:Nat):Prop where
 n:X.N=N
 nd:N.Nodup
 sc:X.env.scope.names=sc
 kd:X.env.scope.kind=.function
 calm:X.calm=NA
 room:cR k X.A
 fn:∀x,cell x=NA->X.fn x=NA
 mod:EC X.prog X.w X.K X.mg X.base CX Φ Γ k
 pass:lU CX X E
 cx0:∀outer H s e s',CX outer H s E0 e s'->False
section
variable {E:XK}{l r:Expr}{pos:Pos}{a b c:CE}
theorem x_{o:RS}(h:PE X l (tE X.K X.mg E Φ Γ a))(c:PE X r (tE X.K X.mg E Φ Γ b)):PE X (.BinOp l o r pos) (tE X.K X.mg E Φ Γ (.bin o a b)):=
 aY (qi (Gd _) h c) λA H Q z=>aG z λF u y S g e w=>
  ⟨F,_,_,S,g,e,(am.bind w).mono λv H1 z=>aM z λk p D x s R W=>⟨F,_,_,_,s,e.mono x,(am.bind W).mono λV n z=>aM z λm q t j f d i=>⟨F,_,_,_,_,f,Rep.mono j _ _ R,d,dQ i⟩⟩⟩
theorem sI(h:PE X l (tE X.K X.mg E Φ Γ a))(c:PE X r (tE X.K X.mg E Φ Γ b)):PE X (.BinOp l .Mult r pos) (tE X.K X.mg E Φ Γ (.binB a b)):=
 aY (qi xf h c) λy H Q z=>aG z λF t u S g e w=>
  ⟨F,_,_,S,g,e,(am.bind w).mono λv H1 z=>aM z λk o D x s R W=>⟨F,_,_,_,s,e.mono x,(am.bind W).mono λV n z=>aM z λm p q j f d i=>⟨F,_,_,_,_,f,Rep.mono j _ _ R,d,dQ i⟩⟩⟩
theorem ya{o:QI}(f:X.A.units+64<cLine)(h:PE X l (tE X.K X.mg E Φ Γ a))(c:PE X r (tE X.K X.mg E Φ Γ b))(d:behindInMarks o r=NB):PE X (.Compare l [o] [r] pos) (tE X.K X.mg E Φ Γ (.cmp o a b)):=
 aY (lS (fA _ f) h c d) λC H Q z=>aG z λF A B S j e w=>
  ⟨F,_,_,S,j,e,(am.bind w).mono λV H1 z=>aM z λn t D x s R W=>⟨F,_,_,_,s,e.mono x,(am.bind W).mono λy q z=>aM z λp u v m i g k=>⟨F,_,_,_,_,i,Rep.mono m _ _ R,g,dQ k⟩⟩⟩
theorem iM{m:GS}{E:XK}{Rel:La->Hp->α->β->Prop}{Q:β->Hp->Prop}{f:Bool->Res α}
  (w:am K m E Rel μ H Q (bj d f)) (r:Rep K m μ H d v):∃k,v=.bl k/\d=.bl k/\am K m E Rel μ H Q (f k):=by
 cases d with
 |bl k=>exact⟨k,f6 r,rfl,w⟩
 |_=>exact w.elim
theorem yb{o:QI}(f:X.A.units+64<cLine)(h:PE X l (tE X.K X.mg E Φ Γ a))(c:PE X r (tE X.K X.mg E Φ Γ b))(d:behindInMarks o r=NB):PT X (.Compare l [o] [r] pos) (tT X.K X.mg E Φ Γ (.cmp o a b)):=
 eD (lT (fA _ f) h c d) λU H Q z=>aG z λF P T S n e w=>
  ⟨F,_,_,S,n,e,(am.bind w).mono λV H1 z=>aM z λv D J x s R W=>⟨F,_,_,_,s,e.mono x,(am.bind W).mono λM B z=>aM z λy G K u j g p=>
   ⟨F,_,_,_,_,j,Rep.mono u _ _ R,g,dQ ((am.bind p).mono λN C z=>aM z λA I L O m i q=>by obtain⟨k,rfl,rfl,t⟩:=iM q i;exact⟨k,rfl,t _ _ k .refl m rfl⟩)⟩⟩⟩
theorem mM{o:QI}(h:X.A.units+64<cLine)(g:PE X l (tE X.K X.mg E Φ Γ a))(i:PE X r (tE X.K X.mg E Φ Γ b))(j:PE X r' (tE X.K X.mg E Φ Γ c))(m:behindInMarks op' r'=NB):PE X (.Compare l [o,op'] [r,r'] pos) (tE X.K X.mg E Φ Γ (.chain o op' a b c)):=
 aY (Fs (fA _ h) (fA _ h) g i j m) λσ H Q z=>aG z λF μ ρ S y e w=>
  ⟨F,_,_,S,y,e,(am.bind w).mono λv1 H1 z=>aM z λI P Y x t n A=>⟨F,_,_,_,t,e.mono x,(am.bind A).mono λv2 M z=>aM z λJ T Z d u R B=>
   ⟨F,_,_,_,_,u,Rep.mono d _ _ n,R,dQ ((am.bind B).mono λv3 N z=>aM z λK U d3 f s p C=>by
    obtain⟨k,rfl,rfl,W⟩:=iM C p;refine⟨k,rfl,?_⟩;cases k with
    |true=>exact⟨F,_,_,_,s,(e.mono x).mono (d.trans f),(am.bind W).mono λv4 O z=>aM z λL V d4 G v q D=>⟨F,_,_,_,_,v,Rep.mono (f.trans G) _ _ R,q,dQ D⟩⟩
    |false=>exact W _ _ _ .refl s cS)⟩⟩⟩
theorem mN{o:QI}(h:X.A.units+64<cLine)(g:PE X l (tE X.K X.mg E Φ Γ a))(i:PE X r (tE X.K X.mg E Φ Γ b))(j:PE X r' (tE X.K X.mg E Φ Γ c))(m:behindInMarks op' r'=NB):PT X (.Compare l [o,op'] [r,r'] pos) (tT X.K X.mg E Φ Γ (.chain o op' a b c)):=
 eD (Ft (fA _ h) (fA _ h) g i j m) λσ H Q z=>aG z λF μ ρ S B e w=>
  ⟨F,_,_,S,B,e,(am.bind w).mono λv1 H1 z=>aM z λM S1 d1 x u n C=>⟨F,_,_,_,u,e.mono x,(am.bind C).mono λv2 U z=>aM z λN S2 d2 d v R D=>
   ⟨F,_,_,_,_,v,Rep.mono d _ _ n,R,dQ ((am.bind D).mono λv3 V z=>aM z λO S3 d3 f s p G=>by
    obtain⟨k,rfl,rfl,W⟩:=iM G p;refine⟨k,rfl,?_⟩;cases k with
    |true=>exact⟨F,_,_,_,s,(e.mono x).mono (d.trans f),(am.bind W).mono λv4 Y z=>aM z λP S4 d4 L y q I=>⟨F,_,_,_,_,y,Rep.mono (f.trans L) _ _ R,q,dQ ((am.bind I).mono λv5 Z z=>aM z λT S5 d5 x5 A t J=>by obtain⟨k,rfl,rfl,K⟩:=iM J t;exact⟨k,rfl,K _ _ k .refl A rfl⟩)⟩⟩
    |false=>exact⟨_,rfl,W _ _ _ .refl s rfl⟩)⟩⟩⟩
theorem qs(h:PE X l (tE X.K X.mg E Φ Γ a))(c:PE X (.BoolOp .And (r::rest) pos) (tE X.K X.mg E Φ Γ b)):PE X (.BoolOp .And (l::r::rest) pos) (tE X.K X.mg E Φ Γ (.band a b)):=
 aY (q8 h c) λn H Q z=>aG z λF j m S d e w=>
  ⟨F,_,_,S,d,e,(am.bind w).mono λv H1 z=>aM z λg i D x s R f=>by
   obtain⟨k,rfl,rfl,W⟩:=iM f R;refine⟨k,rfl,?_⟩;cases k with
   |true=>exact⟨F,_,_,_,s,e.mono x,W⟩
   |false=>exact W _ _ _ .refl s cS⟩
theorem yc(h:PE X l (tE X.K X.mg E Φ Γ a))(c:PE X (.BoolOp .Or (r::rest) pos) (tE X.K X.mg E Φ Γ b)):PE X (.BoolOp .Or (l::r::rest) pos) (tE X.K X.mg E Φ Γ (.bor a b)):=
 aY (wh h c) λn H Q z=>aG z λF j m S d e w=>
  ⟨F,_,_,S,d,e,(am.bind w).mono λv H1 z=>aM z λg i D x s R f=>by
   obtain⟨k,rfl,rfl,W⟩:=iM f R;refine⟨k,rfl,?_⟩;cases k with
   |true=>exact W _ _ _ .refl s cS
   |false=>exact⟨F,_,_,_,s,e.mono x,W⟩⟩
theorem mO(c:PE X l ta):PE X (.UnaryOp .Not l pos) (λσ H Q=>ta σ H λx H'=>∃k,iB X.K x H' k/\Q (.bl (!k)) H'):=by intro p s σ H Q I h;exact UnaryOp_ (a' (c _ s _ H _ I h) λv S z=>z.elim λx z=>z.elim λ_ z=>z.elim λa z=>z.elim λr z=>z.elim λk z=>z.elim λt q=>not_of (a' (jp _ _ _ _ x v (λk H'=>Q (.bl !k) H') a r ⟨k,t,q⟩) λK e z=>by obtain⟨_,b,d⟩:=z;exact(⟨.bl _,_,b,rfl,d⟩)))
theorem yd{m:GS}{E:XK}{Rel:La->Hp->α->β->Prop}{Q:β->Hp->Prop}{f:Bool->Res α}
  (w:am K m E Rel μ H Q (match bN S d with|some k=>f k|none=>.fail)):∃k,bN S d=Nz k/\am K m E Rel μ H Q (f k):=by
 cases e:bN S d with
 |none=>rw[e]at w;exact w.elim
 |some k=>simp_all
theorem ye(h:PE X l (tE X.K X.mg E Φ Γ a)):PE X (.UnaryOp .Not l pos) (tE X.K X.mg E Φ Γ (.bnot a)):=
 aY (mO h) λm H Q z=>aG z λF i j S c b w=>⟨F,_,_,S,c,b,(am.bind w).mono λv H1 z=>aM z λf g D x s r W=>by obtain⟨k,e,d⟩:=yd W;exact⟨k,qo s r e,d _ _ _ .refl s cS⟩⟩
theorem yf(h:PE X l (tE X.K X.mg E Φ Γ a)):PE X (.UnaryOp .USub l pos) (tE X.K X.mg E Φ Γ (.neg a)):=
 aY (wx rJ h) λk H Q z=>aG z λF g j S b e w=>⟨F,_,_,S,b,e,(am.bind w).mono λv H1 z=>aM z λc f d x s r W=>by
  cases d with
  |int i=>exact⟨i,aJ r,W _ _ _ .refl s bI⟩
  |_=>exact W.elim⟩
theorem qt(h:PT X l (tT X.K X.mg E Φ Γ a))(f:PW X (.BoolOp .And (r::rest) pos) (tT X.K X.mg E Φ Γ b)):PW X (.BoolOp .And (l::r::rest) pos) (tT X.K X.mg E Φ Γ (.band a b)):=λm p s q H Q I z=>aG z λF n o S g e w=>
 q0 h f _ _ s _ H Q I ⟨F,_,_,S,g,e,(am.bind w).mono λk H1 z=>aM z λi j K x c d W=>by
  subst d;cases K with
  |true=>exact⟨F,_,_,_,c,e.mono x,W⟩
  |false=>exact W _ _ _ .refl c rfl⟩
theorem yg(h:PT X l (tT X.K X.mg E Φ Γ a))(f:PW X (.BoolOp .Or (r::rest) pos) (tT X.K X.mg E Φ Γ b)):PW X (.BoolOp .Or (l::r::rest) pos) (tT X.K X.mg E Φ Γ (.bor a b)):=λm p s q H Q I z=>aG z λF n o S g e w=>
 wf h f _ _ s _ H Q I ⟨F,_,_,S,g,e,(am.bind w).mono λk H1 z=>aM z λi j K x c d W=>by
  subst d;cases K with
  |true=>exact W _ _ _ .refl c rfl
  |false=>exact⟨F,_,_,_,c,e.mono x,W⟩⟩
theorem yh(h:PT X l (tT X.K X.mg E Φ Γ a)):PT X (.UnaryOp .Not l pos) (tT X.K X.mg E Φ Γ (.bnot a)):=
 eD (q7 h) λj H Q z=>aG z λF g i S c b w=>⟨F,_,_,S,c,b,(am.bind w).mono λk H1 z=>aM z λd f K x s e W=>by subst e;exact W _ _ _ .refl s rfl⟩
theorem yi{t x y:Expr}(i:PT X t (tT X.K X.mg E Φ Γ c))(h:PE X x (tE X.K X.mg E Φ Γ a))(g:PE X y (tE X.K X.mg E Φ Γ b)):PE X (.IfExp t x y pos) (tE X.K X.mg E Φ Γ (.ite c a b)):=
 aY (EX i h g) λp H Q z=>aG z λF n o S j e w=>⟨F,_,_,S,j,e,(am.bind w).mono λk H1 z=>aM z λl m K d s f W=>by
  subst f;cases K with
  |true=>exact⟨F,_,_,_,s,e.mono d,W⟩
  |false=>exact⟨F,_,_,_,s,e.mono d,W⟩⟩
theorem yj:PA X [] (tL X.K X.mg E Φ Γ []):=qq rL λc H Q z=>aG z λF a b S s e w=>w _ H _ .refl s .nil
theorem da{es:Lx}(h:b7 e=NA):starEach (e::es) env=(NB,eval e env)::starEach es env:=by cases e<;>first|rfl|cases h
theorem sJ{es:Lx}{cs:List CE}(j:b7 e=NA)(i:PE X e (tE X.K X.mg E Φ Γ a))(k:PA X es (tL X.K X.mg E Φ Γ cs)):PA X (e::es) (tL X.K X.mg E Φ Γ (a::cs)):=
 qq (rN i k (da j)) λu H Q z=>aG z λF p f S m d w=>⟨F,p,f,S,m,d,(am.bind w).mono λv H1 z=>aM z λb h D x s r W=>
  ⟨F,b,f,h,s,d.mono x,(am.bind W).mono λvs g z=>aM z λc q t o l R n=>n c g _ .refl l (.cons (Rep.mono o _ _ r) R)⟩⟩
end
theorem sK:∀{cs:List CE} {N:Ls} {es:Lx},(fP cs N es).length=cs.length
 | [],N,es=>rfl
 |c::cs,N,es=>Yj _ sK
theorem fj:∀{cs:List CE} {N:Ls} {sc:Sc} {es:Lx},fY cs N sc es=NA->∀e∈fP cs N es,b7 e=NA
 | [],N,sc,es,h,e,H=>absurd H ZX
 |c::cs,N,sc,es,h,e,H=>by
  rcases Zi.mp H with rfl|H
  ·exact(ab (ab h).2).1
  ·exact fj (ab (ab h).2).2 e H
theorem mP:∀{es:Lx} {env:Env} {pos:Pos},(∀e∈es,b7 e=NA)->(backTo pos (starEach es env)).any (·.1)=NB
 | [],env,pos,h=>rfl
 |e::es,env,pos,h=>by rw[da (h e Zd)];show(NB||(backTo _ _).any _)=NB;rw[mP λe H=>h e (Zb _ H)];rfl
theorem yk:∀{es:Lx} {env:Env} {pos:Pos},(∀e∈es,b7 e=NA)->(backTo pos (starEach es env)).all (λx=> !x.1)=NA
 | [],env,pos,h=>rfl
 |e::es,env,pos,h=>by rw[da (h e Zd)];show(!NB&&(backTo _ _).all _)=NA;rw[yk λe H=>h e (Zb _ H)];rfl
theorem sL:∀{cs:List CE} {ρ:bC} {S S':aa} {ds:List D},al Φ Γ cs ρ S=.ok ds S'->ds.length=cs.length
 | [],ρ,S,S',ds,h=>by cases h;rfl
 |c::cs,ρ,S,S',ds,h=>by
  dsimp[al]at h;cases e:ak _ _ c _ S with
  |ok d a=>
   rw[e]at h;cases E:al Φ Γ cs ρ a with
   |ok f b=>simp only[Res.bind,E]at h;cases h;simp[sL E]
   |err x b=>simp only[Res.bind,E]at h;cases h
   |fail=>simp only[Res.bind,E]at h;cases h
  |err x a=>rw[e]at h;cases h
  |fail=>rw[e]at h;cases h
theorem GJ{x:Str}{s:Scope}(hs:s.names=sc)(h:mG sc x=NA):v_ s x:=by unfold v_;unfold mG at h;lia
theorem yl{x:Str}(h:mH x=NA):(x==("__debug__":Str))=NB/\(x==("__classdict__":Str))=NB:=by unfold mH at h;simp only[ZL,O3]at h;exact h
theorem dR{x:Str}(h:bB sc x=NA):sc.lookup x=Nz .globalImplicit/\(x==("__debug__":Str))=NB/\x≠"__name__":=by unfold bB at h;simp_all
section
variable {E:XK}{l r:Expr}{es:Lx}{pos:Pos}{a b c:CE}{cs:List CE}{x:Str}
theorem cI.gl(O:cI X cell N sc CX E Φ Γ k)(h:sc.lookup x=Nz .globalImplicit):Gl X x:=by show X.env.scope.names.lookup x=_;rw[O.sc];exact h
theorem qu(O:cI X cell N sc CX E Φ Γ k){i:Nat}(h1:(N[i]?==Nz x)=NA)(c:mG sc x=NA)(h:mH x=NA):PE X (.Name x pos) (tE X.K X.mg E Φ Γ (.var i)):=by
 refine aY (qV (by rw[O.n];simpa using h1) (GJ O.sc c) (yl h).1 (yl h).2) λj H Q z=>aG z λF f g S s b w=>?_;dsimp[ak]at w;split at w
 ·rename_i d e;obtain⟨v,a,r⟩:=b.2 i d e;exact⟨v,a,w _ H v .refl s r⟩
 ·exact w.elim
theorem qv{cn:Const}{j}(h:jM d cn=NA):PE X (.Constant cn j pos) (tE X.K X.mg E Φ Γ (.lit d)):=by
 unfold jM at h;split at h
 ·exact aY qX λf H Q z=>aG z λF b c S s a w=>w _ H _ .refl s jt
 ·have e:=beq_iff_eq.mp h;subst e;exact aY wd λf H Q z=>aG z λF b c S s a w=>w _ H _ .refl s cS
 ·have e:=beq_iff_eq.mp h;subst e;exact aY qW λf H Q z=>aG z λF b c S s a w=>w _ H _ .refl s bI
 ·have e:=beq_iff_eq.mp h;subst e;exact aY qY λf H Q z=>aG z λF b c S s a w=>w _ H _ .refl s js
 ·cases h
theorem sM(O:cI X cell N sc CX E Φ Γ k)(h:bB sc x=NA):PE X (.Name x pos) (tE X.K X.mg E Φ Γ (.glob x)):=by
 obtain⟨a,b,j⟩:=dR h;cases e:Γ x with
 |none=>intro p s g H Q I ⟨F,_,_,S,_,_,w⟩;simp[ak]at w;rw[e]at w;exact w.elim
 |some d=>obtain⟨v,u,m,M,c⟩:=O.mod.gl x d e;refine aY (lw (O.gl a) m M b) λg H Q z=>aG z λF l n S f i w=>?_;simp[ak]at w;rw[e]at w;exact w _ H v .refl f (c F _ H)
theorem mQ{n:String}(h:iI.contains n=NA):(OA n)∈gh:=by simp[iI]at h;rcases h with rfl|rfl|rfl|rfl|rfl|rfl<;>decide+kernel
theorem GK(O:cI X cell N sc CX E Φ Γ k){n:String}(h:bB sc (OA n)=NA)(a:iI.contains n=NA):PE X (.Name (OA n) pos) (tE X.K X.mg E Φ Γ (.ty n)):=by obtain⟨b,c,d⟩:=dR h;exact aY (lx (v:=.ty n) (O.gl b) (O.mod.bl _ (mQ a)) (mI a) rfl d c) λi H Q z=>aG z λF f g S s e w=>w _ H _ .refl s rfl
theorem jT{m:GS}{Q:List V->Hp->Prop}(h:cs.length<1000)(w:am K m E (aj K m) μ H Q (al Φ Γ cs ρ S)):am K m E (aj K m) μ H (λvs H'=>vs.length<=sizeLine/\Q vs H') (al Φ Γ cs ρ S):=by
 cases e:al _ _ _ _ S with
 |ok d a=>rw[e]at w;intro b H' vs x s r;refine⟨?_,w _ _ _ x s r⟩;rw[<-r.length,sL e];exact OU (ZR h (by decide))
 |err y a=>rw[e]at w;exact w
 |fail=>rw[e]at w;exact w
theorem ym{x1}(a:cs.length<1000)(h:PA X es (tL X.K X.mg E Φ Γ cs)):PE X (.Tuple es x1 pos) (tE X.K X.mg E Φ Γ (.tup cs)):=
 aY (rO h) λi H Q Z=>aG Z λF f g S d e w=>⟨F,_,_,S,d,e,(jT a (am.bind w)).mono λvs H1 z=>by obtain⟨c,_,_,_,_,s,r,W⟩:=z;exact(⟨c,λp b=>by exact aU.tup (show aU _ _ _ _ Q _ from W) s r p b⟩)⟩
theorem yn{box:Bool}(b:cs.length<1000)(h:PA X es (tL X.K X.mg E Φ Γ cs)):PE X (.List es pos) (tE X.K X.mg E Φ Γ (.lst box cs)):=
 aY (rP h) λi H Q Z=>aG Z λF f g S d e w=>⟨F,_,_,S,d,e,(jT b (am.bind w)).mono λvs H1 z=>by obtain⟨c,_,_,_,_,s,r,W⟩:=z;exact(⟨c,λp a=>by
  cases box with
  |true=>exact aU.box (show aU _ _ _ _ Q _ from W) s r p a
  |false=>exact aU.lst (show aU _ _ _ _ Q _ from W) s r p a⟩)⟩
theorem yo:PE X (.Dict [] [] pos) (tE X.K X.mg E Φ Γ .dct):=λp s l H Q I Z=>aG Z λF i k S g j w=>by
 have h:mainGlobals<s.heap.objs.size:=ZR I.mod.glob.lt (Zw I.ok.bsz I.sz);have a:H s.heap.objs.size=none:=I.hok.fresh (Zg _);refine wpAny_Dict_empty ⟨.ref s.heap.objs.size,bg H s.heap.objs.size (.dK []),I.laid (t':=s.toks) (o:=.dK []) (λb O q=>Zc _ q) (Zg _) ?_,rfl,?_⟩
 ·refine⟨Yp _,?_,[],.nil,_, #[],_,Zk _ rfl,⟨rfl,rfl,rfl⟩,rfl,λe f=>by simp at f,.nil,.nil⟩;have d:mainGlobals=3:=rfl;have c:sysModules=1:=rfl;rw[beq_eq_false_iff_ne];intro z;rw[z,c,d]at h;exact absurd h (by decide)
 ·exact w i _ _ (.laid a) (g.laid a) (by unfold Rep;exact⟨_,rfl,dr⟩)
theorem yp(hs:iK r=NA)(h:PE X l (tE X.K X.mg E Φ Γ a))(c:PE X r (tE X.K X.mg E Φ Γ b)):PE X (.Subscript l r pos) (tE X.K X.mg E Φ Γ (.idx a b)):=
 aY (wY Gk h c (GI hs)) λy H Q z=>aG z λF t u S g e w=>
  ⟨F,_,_,S,g,e,(am.bind w).mono λv H1 z=>aM z λk o D x s R W=>⟨F,_,_,_,s,e.mono x,(am.bind W).mono λV n z=>aM z λm p q j f d i=>⟨F,_,_,_,_,f,Rep.mono j _ _ R,d,dQ i⟩⟩⟩
noncomputable def yq(K:Fg)(m:Mg)(E:XK)(Φ:FT)(Γ:Str->Option D)(cs:List CE):TO:=λσ H Q=>∃F μ ρ S,aO K ⟨m,F⟩ μ S H/\bb K ⟨m,F⟩ μ H ρ σ/\
 am K ⟨m,F⟩ E (λ_ _ o o'=>o=o') μ H Q ((al Φ Γ cs ρ S).bind cL)
theorem mR:PO X none (yq X.K X.mg E Φ Γ []):=by intro p s b H Q I ⟨F,_,_,S,a,_,w⟩;exact lZ _ s _ H Q I (w _ H _ .refl a rfl)
theorem mS(h:PE X e (tE X.K X.mg E Φ Γ a)):PO X (Nz e) (yq X.K X.mg E Φ Γ [a]):=by
 intro p s q H Q I ⟨F,l,c,S,j,f,w⟩;refine l3 h _ s _ H Q I ⟨F,_,_,S,j,f,?_⟩
 have k:am X.K ⟨X.mg,F⟩ E (λ_ _ o O=>o=O) l H Q ((ak Φ Γ a c S).bind λd b=>cL [d] b):=by
  have n:(al Φ Γ [a] c S).bind cL=(ak Φ Γ a c S).bind λd b=>cL [d] b:=by dsimp only[al];cases ak _ _ a _ S<;>rfl
  simp_all
 refine(am.bind k).mono λv H1 z=>aM z λm b d x g r W=>?_;cases d with
 |int i=>exact⟨i,aJ r,W _ _ _ .refl g rfl⟩
 |_=>exact W.elim
theorem GL{lo hi:Option Expr}{c ch:List CE}(h:PE X l (tE X.K X.mg E Φ Γ a))(i:PO X lo (yq X.K X.mg E Φ Γ c))(g:PO X hi (yq X.K X.mg E Φ Γ ch)):PE X (.Subscript l (.Slice lo hi none p2) pos) (tE X.K X.mg E Φ Γ (.sl a c ch)):=
 aY (FJ Gn h i g) λM H Q z=>aG z λF K L S m e w=>⟨F,_,_,S,m,e,(am.bind w).mono λV H1 z=>aM z λt B G x s r W=>⟨F,_,_,_,s,e.mono x,
  (am.bind W).mono λo y z=>aM z λu C I b j d n=>⟨F,_,_,_,j,(e.mono x).mono b,(am.bind n).mono λJ A z=>aM z λv D O q k f p=>by subst d;subst f;exact⟨F,_,_,_,k,Rep.mono (b.trans q) _ _ r,dQ p⟩⟩⟩⟩
theorem jU(O:cI X cell N sc CX E Φ Γ k){f:Str}(h:bB sc f=NA)(a:∀x∈e::es,b7 x=NA)(i:PA X (e::es) (tL X.K X.mg E Φ Γ cs)):PE X (.Call (.Name f p2) (e::es) [] pos) (tE X.K X.mg E Φ Γ (.call f cs)):=by
 obtain⟨d,g,B⟩:=dR h;cases b:Φ f with
 |none=>intro P s u H Q I ⟨F,_,_,S,_,_,w⟩;simp[ak]at w;rw[b]at w;exact w.elim
 |some L=>obtain⟨y,A,C,m,M,l,n,o⟩:=(O.mod.fns f _ b).ex;refine aY (lV n O.room (O.gl d) m M l .nil O.pass i g (da (a e Zd)) (mP λx j=>a x (Zb _ j))) λu H Q Z=>aG Z λF J K S q c w=>?_;simp[ak]at w;rw[b]at w;refine⟨F,_,_,S,q,c,(am.bind w).mono λvs H1 Z=>aM Z λt v D G p r W=>?_⟩;rw[Yf];refine⟨?_,F,_,_,_,p,r,W⟩;rw[<-r.length];exact o _ _ λz=>by rw[z]at W;exact W
theorem qw(O:cI X cell N sc CX E Φ Γ k){b:jJ}(g:aX X (jN b) (rC X.K X.mg (bh b)))(h:bB sc (gT b)=NA)(j:∀x∈e::es,b7 x=NA)(f:PA X (e::es) (tL X.K X.mg E Φ Γ cs)):PE X (.Call (.Name (gT b) p2) (e::es) [] pos) (tE X.K X.mg E Φ Γ (.blt b cs)):=by
 obtain⟨a,c,d⟩:=dR h
 have i:X.mg (gT b)=none:=O.mod.bl _ (by
  cases b with
  |list box=>show(OA _)∈gh;decide+kernel
  |sorted box t=>show(OA _)∈gh;decide+kernel
  |_=>decide+kernel)
 have K:PE X (.Call (.Name (gT b) p2) (e::es) [] pos) (FD (rC X.K X.mg (bh b)) (tL X.K X.mg E Φ Γ cs)):=by
  have s:=da (env:=X.env) (es:=es) (j e Zd);have m:=mP (env:=X.env) (pos:=pos) λx q=>j x (Zb _ q);have l:=GF b;cases b with
  |tuple=>exact lW g (O.gl a) i l f d c s m
  |list box=>exact lW g (O.gl a) i l f d c s m
  |int=>exact lW g (O.gl a) i l f d c s m
  |str=>exact lW g (O.gl a) i l f d c s m
  |_=>exact FE g (O.gl a) i l f d c s m
 refine aY K λC H Q z=>aG z λF v A S u p w=>⟨F,v,A,S,u,p,(am.bind w).mono λvs H1 z=>aM z λy o D B s r W=>⟨F,_,o,D,s,r,dQ W⟩⟩
theorem GN{m:GS}(s:aO K m μ S H)(r:Rep K m μ H (.ref n) v):w5 K "list" v H:=by
 obtain⟨a,rfl,h⟩:=r;have c:n<S.length:=by rw[<-s.len];exact(Zm.mp h).1
 obtain⟨vs,b,q⟩:=s.at_ n a _ h (Zf c);exact .inl ⟨rfl,_,.of b⟩
noncomputable def jV:qp->String
 | .append=>"list.append"| .extend=>"list.extend"| .pop=>"list.pop"| .count=>"list.count"| .insert=>"list.insert"| .index=>"list.index"
theorem jW(m:qp):rX X (jV m) (rM X.K X.mg (cH m)):=by
 cases m with
 |append=>exact Gq
 |count=>exact λ_ _ _ _ _ _ _ _ _ _ _ _ ⟨_,_,_,_,_,_,_,_,w⟩=>w.elim
 |insert=>exact λ_ _ _ _ _ _ _ _ _ _ _ _ ⟨_,_,_,_,_,_,_,_,w⟩=>w.elim
 |index=>exact λ_ _ _ _ _ _ _ _ _ _ _ _ ⟨_,_,_,_,_,_,_,_,w⟩=>w.elim
 |extend=>exact Gr
 |pop=>
  intro p s i H x f v u Q I b a h;obtain⟨F,g,S,d,D,c,R,r,w⟩:=h;cases D with
  |nil=>exact xB p s i H x f v u Q I b a ⟨F,g,S,d,[],c,R,r,w⟩
  |cons e E=>exact mB p s i H x f v u Q I b a ⟨F,g,S,d,e::E,c,R,r,w⟩
theorem yr(m:qp):Slot "list" (mJ m) (jV m):=by
 cases m with
 |append=>exact PySem.F.slot_list_append
 |count=>exact PySem.F.slot_list_count
 |insert=>exact PySem.F.slot_list_insert
 |index=>exact PySem.F.slot_list_index
 |extend=>exact PySem.F.slot_list_extend
 |pop=>exact PySem.F.slot_list_pop
theorem yt(m:qp):typeOf (.builtin (jV m))=pure (.type "method_descriptor"):=by
 cases m with
 |append=>exact PySem.F.type_list_append
 |count=>exact PySem.F.type_list_count
 |insert=>exact PySem.F.type_list_insert
 |index=>exact PySem.F.type_list_index
 |extend=>exact PySem.F.type_list_extend
 |pop=>exact PySem.F.type_list_pop
theorem sN{m:qp}{o:Expr}(L:xX o=NA)(A:(apos.endLine==pos.line)=NA)(f:∀x∈es,b7 x=NA)(U:es.length<20)(l:cs.length=es.length)(B:PE X o (tE X.K X.mg E Φ Γ a))(J:PA X es (tL X.K X.mg E Φ Γ cs)):
  PE X (.Call (.Attribute o (mJ m) apos) es [] pos) (tE X.K X.mg E Φ Γ (.meth m a cs)):=by
 have h:attributeBase o (mJ m) X.env (eval o X.env)=eval o X.env:=by cases o<;>first|rfl|cases L
 have k:∀{F b d H1 c D Q v},aO X.K ⟨X.mg,F⟩ b d H1->Rep X.K ⟨X.mg,F⟩ b H1 D v->am X.K ⟨X.mg,F⟩ E (Rep X.K ⟨X.mg,F⟩) b H1 Q (match D with
   | .ref n=>(al Φ Γ cs c d).bind λj i=>(cH m (.ref n) j i).noErr
   |_=>.fail)->w5 X.K "list" v H1/\am X.K ⟨X.mg,F⟩ E (aj X.K ⟨X.mg,F⟩) b H1 (λvs y=>rM X.K X.mg (cH m) v vs y Q) (al Φ Γ cs c d):=by
  intro F b d H1 c D Q v s r W;cases D with
  |ref n=>exact⟨GN s r,(am.bind W).mono λvs y z=>aM z λu i j P N R O=>⟨F,u,i,_,j,N,Rep.mono P _ _ r,R,dQ O⟩⟩
  |_=>exact W.elim
 cases es with
 |nil=>have e:cs=[]:=ZK l;subst e;refine aY (rZ PySem.F.plainAttrs_list (yr m) (yt m) (jW m) B h A) λT H Q z=>aG z λF t c S q g w=>⟨F,t,c,S,q,g,(am.bind w).mono λv H1 z=>aM z λb d D C s r W=>?_⟩;obtain⟨K,p⟩:=k s r W;exact⟨K,p b H1 [] .refl s .nil⟩
 |cons e es=>
  refine aY (w6 PySem.F.plainAttrs_list (yr m) (yt m) (jW m) B J h ?_ A (da (f e Zd)) (mP λx M=>f x (Zb _ M))) λT H Q z=>aG z λF t c S q g w=>⟨F,t,c,S,q,g,(am.bind w).mono λv H1 z=>aM z λb d D C s r W=>?_⟩
  ·rw[yk f];have G:(backToKw pos (keywordEach [] X.env)).all (λx=>x.1.isSome)=NA:=rfl;rw[G];simp only[Pg,Yh];have I:(if([]:List Keyword).isEmpty then 0 else 1)=0:=rfl;rw[I];simp only[Oj];omega
  ·obtain⟨K,p⟩:=k s r W;exact⟨K,F,b,c,d,s,g.mono C,p⟩
end
theorem yu{t:ND}{i:Nat}{x:NF}(h:s.heap.IsTupleIter it t i)(g:s.heap.IsTuple t items)(j:items[i]?=Nz x)
  (e:∀h',h'.IsTupleIter it t (i+1)->NR it s.heap h'->Q x {s with heap:=h'}):wpAny (model prog w) A (NP (.ref it)) Q E s:=by
 obtain⟨o,a,f,H⟩:=id h;obtain⟨O,c,_,nl,b⟩:=g;refine Za (Z4 h.typeIs Pd (Z1 Pd h.typeIs R8 ?_ (R3 _)));show wpAny _ _ (field _ 0>>=_) _ _ s;refine Za (Z7 a H rfl ?_);refine Za (Z7 a H rfl ?_);refine Za (Om c b ?_);simp_all;exact Za (QB a H (by simp) (Ze ⟨x,rfl,Ze (e _ ⟨_,NW _ a (QW (OX H _)),(Ry ..).trans f,by rw[OX H];rfl⟩ (Yb ..))⟩))
theorem yv{t:ND}{i:Nat}{Q:Vs}(g:A.handled=none)(h:s.heap.IsTupleIter it t i)(j:s.heap.IsTuple t items)(k:items[i]?=none)
  (f:∀h' e,RI it s.heap h'->(∃o,h'.get? e=Nz o/\o.cls=.type "StopIteration")->E (.ref e) {s with heap:=h'}):wpAny (model prog w) A (NP (.ref it)) Q E s:=by
 obtain⟨o,b,l,H⟩:=id h;obtain⟨O,c,_,nl,a⟩:=j;refine Za (Z4 h.typeIs Pd (Z1 Pd h.typeIs R8 ?_ (R3 _)));show wpAny _ _ (field (.ref it) 0>>=_) _ _ s;refine Za (Z7 b H (x:=.ref t) rfl ?_);refine Za (Z7 b H rfl ?_);refine Za (Om c a ?_);simp only[OM,k];refine Za (Ob (Za (QB b H (by simp) ?_)));refine Za ?_;refine Za (m:=firstArgMember _ _) (PF (rfl) ?_);refine Yg ?_ (by size_fits);refine Za (wpAny_handled ?_)
 first|lia|rw[g]
 exact Za (Ze (wpAny_throw (f _ _ (((Yb ..).extBut.push _).push _) ⟨_,Zk _ rfl,rfl⟩)))
def bK(b:Bool)(h:NO)(l:ND)(xs:Av):Prop:=match b with
 |true=>h.IsList l xs
 |false=>h.IsTuple l xs
def bc(b:Bool)(h:NO)(it l:ND)(i:Nat):Prop:=match b with
 |true=>h.IsListIter it l i
 |false=>h.IsTupleIter it l i
theorem bK.at{b:Bool}{l:ND}{xs:Av}(q:bK b h l xs)(k:∀o,h.get? l=Nz o->h'.get? l=Nz o):bK b h' l xs:=by
 cases b with
 |true=>exact Heap.IsList.at q k
 |false=>obtain⟨o,e,r⟩:=q;exact⟨o,k o e,r⟩
theorem bc.at{b:Bool}{l:ND}{i:Nat}(q:bc b h it l i)(k:∀o,h.get? it=Nz o->h'.get? it=Nz o):bc b h' it l i:=by
 cases b with
 |true=>exact Heap.IsListIter.at q k
 |false=>exact Heap.IsTupleIter.at q k
theorem bc.obj{b:Bool}{l:ND}{i:Nat}(q:bc b h it l i):∃o,h.get? it=Nz o/\∀v,o.data≠.cell v:=by
 cases b with
 |true=>obtain⟨o,e,c,d⟩:=q;simp_all
 |false=>obtain⟨o,e,c,d⟩:=q;simp_all
theorem im(d:A.handled=none)(b:Bool)(it l:ND)(a:l≠it)(items:Av):
  Draws prog w A it [it,l] items.size (λi v=>items[i]?=Nz v) (λi h=>bc b h it l i/\bK b h l items):=by
 cases b with
 |true=>exact Draws.list d _ l a _
 |false=>exact{
   live:=λ_ _ S=>(by obtain⟨o,ho,_⟩:=S.1;exact(⟨o,ho⟩))
   frame:=λ_ _ _ S f=>⟨S.1.at λo e=>f _ (by simp) o e,S.2.at λo e=>f l (by simp) o e⟩
   item:=λi s Q E m S j=>by exact yu S.1 S.2 (x:=items[i]) (by simp) λk H c=>j _ _ _ (by simp) ⟨H,S.2.at λo e=>c.extBut _ _ a e⟩ c
   done:=λs Q E S g=>yv d S.1 S.2 (by simp) g}
structure ek (z TI TO i1 i2 l1 l2:ND):Prop where
 TIz:TI≠z
 TOz:TO≠z
 i1z:i1≠z
 i2z:i2≠z
 TITO:TI≠TO
 TIi1:TI≠i1
 TIi2:TI≠i2
 TOi1:TO≠i1
 TOi2:TO≠i2
 i12:i1≠i2
 l1:l1≠z/\l1≠TO/\l1≠i1/\l1≠i2
 l2:l2≠z/\l2≠TO/\l2≠i1/\l2≠i2
theorem sO{prog:NU}{w:N0}{b:Bool}{t:ND}{i:Nat}{Q:Vs}(c:A.handled=none)(h:bc b s.heap it t i)(d:bK b s.heap t items)(f:items[i]?=none)
  (H:∀h' e,RI it s.heap h'->(∃o,h'.get? e=Nz o/\o.cls=.type "StopIteration")->E (.ref e) {s with heap:=h'}):wpAny (model prog w) A (NP (.ref it)) Q E s:=by
 cases b with
 |true=>exact wpAny_nextOf_list_end c h d f H
 |false=>exact yv c h d f H
section
variable {z TI TO i1 i2 l1 l2:ND}{k1 k2:Nat}{xs ys:Av}{a b:NF}
theorem sP(D:ek z TI TO i1 i2 l1 l2)(hh:A.handled=none){x y:NF}
  (O:QK s.heap z TI TO .none) (hTI:OY s.heap TI (.ref i1) (.ref i2)) (hTO:OY s.heap TO a b)
  (h1:bc b1 s.heap i1 l1 k1) (h2:bc b2 s.heap i2 l2 k2) (hl1:bK b1 s.heap l1 xs) (hl2:bK b2 s.heap l2 ys) (hx:xs[k1]?=Nz x) (hy:ys[k2]?=Nz y)
  (hQ:∀h',QK h' z TI TO (rawInt s.heap.objs.size)->OY h' TO x y->bc b1 h' i1 l1 (k1+1)->bc b2 h' i2 l2 (k2+1)->OY h' s.heap.objs.size x y->h'.objs.size=s.heap.objs.size+1->
   (∀c o,c≠z->c≠TO->c≠i1->c≠i2->s.heap.get? c=Nz o->h'.get? c=Nz o)->∀tk,Q (.ref s.heap.objs.size) {s with heap:=h',toks:=tk}):
  wpAny (model prog w) A (OO.«zip.__next__» ⟨[.ref z],[]⟩) (λfin s'=>∃v,fin=.done (.ret v)/\Q v s') E s:=by
 have D1:=im (prog:=prog) (w:=w) (A:=A) hh b1 i1 l1 D.l1.2.2.1 xs;have D2:=im (prog:=prog) (w:=w) (A:=A) hh b2 i2 l2 D.l2.2.2.2 ys;have n1:k1<xs.size:=(O7.mp hx).1;have n2:k2<ys.size:=(O7.mp hy).1;show wpAny _ _ (field (.ref z) 2>>=_) _ _ _;refine Za (Z7 O rfl (x:=.bool NB) rfl ?_);show wpAny _ _ (field (.ref z) 3>>=_) _ _ _;refine Za (Z7 O rfl (x:=.ref TI) rfl ?_);refine Za (Om hTI rfl ?_);show wpAny _ _ (NM (.ref z)>>=_) _ _ _;refine Za ?_;unfold NM;refine Za (Z7 O rfl (x:=.none) rfl (Ze ?_));simp only[if_true];refine Za (Ob ?_);refine Za (Z7 O rfl (x:=.ref TO) rfl ?_);refine Za (Yc O (by simp) λR q H=>?_);replace q:QK R z TI TO .ellipsis:=q;refine Za ?_;simp only[RF,List.zipIdx_nil,Pj,List.forIn_nil];refine Za (Za (RG ?_));show wpAny _ _ (NP (.ref i1)>>=_) _ _ _;refine Za (D1.item k1 _ _ _ n1 ⟨h1.at λo e=>H.extBut _ _ D.i1z e,hl1.at λo e=>H.extBut _ _ D.l1.1 e⟩ λx' T tk M S d=>Ze ?_);rw[hx]at M;cases M;have t:OY T TO a b:=d.extBut _ _ D.TOi1 (H.extBut _ _ D.TOz hTO);refine Za (Om t rfl ?_);refine Za (Rm t λU k f=>?_);replace k:OY U TO x b:=k;refine Za (R9 (Ze ?_));refine Za (Za (RG ?_));show wpAny _ _ (NP (.ref i2)>>=_) _ _ _;refine Za (D2.item k2 _ _ _ n2 ⟨h2.at λo e=>f.extBut _ _ D.TOi2.symm (d.extBut _ _ D.i12.symm (H.extBut _ _ D.i2z e)),hl2.at λo e=>f.extBut _ _ D.l2.2.1 (d.extBut _ _ D.l2.2.2.1 (H.extBut _ _ D.l2.1 e))⟩ λy' V tk2 N K i=>Ze ?_);rw[hy]at N;cases N;have u:OY V TO x b:=i.extBut _ _ D.TOi2 k;refine Za (Om u rfl ?_);refine Za (Rm u λh g j=>?_);replace g:OY h TO x y:=g;refine Za (R9 (Ze (Ze ?_)));refine Za (Om g rfl ?_);refine Za (Sy ?_);have L:h.objs.size=s.heap.objs.size:=by rw[j.1,i.1,f.1,d.1,H.1]
 have C:QK h z TI TO .ellipsis:=j.extBut _ _ D.TOz.symm (i.extBut _ _ D.i2z.symm (f.extBut _ _ D.TOz.symm (d.extBut _ _ D.i1z.symm q)));have I:∀c o,c≠z->c≠TO->c≠i1->c≠i2->s.heap.get? c=Nz o->h.get? c=Nz o:=λc o G X Z c4 e=>j.extBut _ _ X (i.extBut _ _ c4 (f.extBut _ _ X (d.extBut _ _ Z (H.extBut _ _ G e))));have g1:bc b1 h i1 l1 (k1+1):=S.1.at λo e=>j.extBut _ _ D.TOi1.symm (i.extBut _ _ D.i12 (f.extBut _ _ D.TOi1.symm e));have g2:bc b2 h i2 l2 (k2+1):=K.1.at λo e=>j.extBut _ _ D.TOi2.symm e;have F:z<h.objs.size:=Zo C;show wpAny _ _ (N_ (.ref z) (.ref h.objs.size)>>=_) _ _ _;refine Za ?_;unfold N_;have J:QK (h.push {cls:=.type "tuple",data:=.seq #[x,y]}) z TI TO .ellipsis:=Zc _ C;refine Za (Yc J (by simp) λW r n=>?_);replace r:QK W z TI TO (rawInt h.objs.size):=r;refine Yc r (by simp) λm l p=>?_;replace l:QK m z TI TO (rawInt h.objs.size):=l;have Y:∀c o,c≠z->h.get? c=Nz o->m.get? c=Nz o:=λc o G e=>p.extBut _ _ G (n.extBut _ _ G (Zc _ e));have B:OY m h.objs.size x y:=p.extBut _ _ (OV F) (n.extBut _ _ (OV F) (Zk _ rfl));have P:m.objs.size=h.objs.size+1:=by rw[p.1,n.1,N6]
 rw[L]at l B P;refine Ze ⟨_,rfl,?_⟩;show Q (.ref h.objs.size) _;rw[L];exact hQ m l (Y _ _ D.TOz g) (g1.at λo e=>Y _ o D.i1z e) (g2.at λo e=>Y _ o D.i2z e) B P (λc o G X Z c4 e=>Y c o G (I c o G X Z c4 e)) _
theorem GO(D:ek z TI TO i1 i2 l1 l2)(I:A.handled=none){Q:Fin->NC->Prop}
  (v:QK s.heap z TI TO .none) (K:OY s.heap TI (.ref i1) (.ref i2)) (L:OY s.heap TO a b)
  (h1:bc b1 s.heap i1 l1 k1) (Z:bc b2 s.heap i2 l2 k2) (u:bK b1 s.heap l1 xs) (N:bK b2 s.heap l2 ys) (t:xs[k1]?=none\/ys[k2]?=none)
  (P:∀h' e tk,(∀c o,c≠z->c≠TO->c≠i1->c≠i2->s.heap.get? c=Nz o->h'.get? c=Nz o)->(∃o,h'.get? e=Nz o/\o.cls=.type "StopIteration")->E (.ref e) {s with heap:=h',toks:=tk}):
  wpAny (model prog w) A (OO.«zip.__next__» ⟨[.ref z],[]⟩) Q E s:=by
 have W:=im (prog:=prog) (w:=w) (A:=A) I b1 i1 l1 D.l1.2.2.1 xs;have D2:=im (prog:=prog) (w:=w) (A:=A) I b2 i2 l2 D.l2.2.2.2 ys;show wpAny _ _ (field (.ref z) 2>>=_) _ _ _;refine Za (Z7 v rfl (x:=.bool NB) rfl ?_);show wpAny _ _ (field (.ref z) 3>>=_) _ _ _;refine Za (Z7 v rfl (x:=.ref TI) rfl ?_);refine Za (Om K rfl ?_);show wpAny _ _ (NM (.ref z)>>=_) _ _ _;refine Za ?_;unfold NM;refine Za (Z7 v rfl (x:=.none) rfl (Ze ?_));simp only[if_true];refine Za (Ob ?_);refine Za (Z7 v rfl (x:=.ref TO) rfl ?_);refine Za (Yc v (by simp) λy f h=>?_);replace f:QK y z TI TO .ellipsis:=f;refine Za ?_;simp only[RF,List.zipIdx_nil,Pj,List.forIn_nil];refine Za (Za (RG ?_));show wpAny _ _ (NP (.ref i1)>>=_) _ _ _;by_cases U:k1<xs.size
 ·have hy:ys[k2]?=none:=t.resolve_left (by simp[U]);refine Za (W.item k1 _ _ _ U ⟨h1.at λo e=>h.extBut _ _ D.i1z e,u.at λo e=>h.extBut _ _ D.l1.1 e⟩ λx p tk T S H=>Ze ?_);have i:OY p TO a b:=H.extBut _ _ D.TOi1 (h.extBut _ _ D.TOz L);refine Za (Om i rfl ?_);refine Za (Rm i λq G d=>?_);refine Za (R9 (Ze ?_));refine Za (Za (RG ?_));show wpAny _ _ (NP (.ref i2)>>=_) _ _ _;refine Za (sO I (Z.at λo e=>d.extBut _ _ D.TOi2.symm (H.extBut _ _ D.i12.symm (h.extBut _ _ D.i2z e))) (N.at λo e=>d.extBut _ _ D.l2.2.1 (H.extBut _ _ D.l2.2.2.1 (h.extBut _ _ D.l2.1 e))) hy λB e k M=>?_);obtain⟨O,g,j⟩:=M;have n:QK B z TI TO .ellipsis:=k _ _ D.i2z.symm (d.extBut _ _ D.TOz.symm (H.extBut _ _ D.i1z.symm f));have r:e≠z:=λx=>by subst x;rw[n]at g;cases g;simp at j
  exact Yc n (by simp) λF _ l=>P F e _ (λc o C X J Y x=>l.extBut _ _ C (k _ _ Y (d.extBut _ _ X (H.extBut _ _ J (h.extBut _ _ C x))))) ⟨O,l.extBut _ _ r g,j⟩
 ·have T:xs[k1]?=none:=by simp;omega
  refine Za (sO I (h1.at λo e=>h.extBut _ _ D.i1z e) (u.at λo e=>h.extBut _ _ D.l1.1 e) T λp e H M=>?_);obtain⟨O,g,j⟩:=M;have m:QK p z TI TO .ellipsis:=H _ _ D.i1z.symm f;have r:e≠z:=λx=>by subst x;rw[m]at g;cases g;simp at j
  exact Yc m (by simp) λq _ d=>P q e _ (λc o C _ J _ x=>d.extBut _ _ C (H _ _ J (h.extBut _ _ C x))) ⟨O,d.extBut _ _ r g,j⟩
theorem GP(D:ek z TI TO i1 i2 l1 l2)(v:A.handled=none){x y:NF}{Q:Ov->NC->Prop}
  (i:QK s.heap z TI TO .none) (h:OY s.heap TI (.ref i1) (.ref i2)) (H:OY s.heap TO a b)
  (h1:bc b1 s.heap i1 l1 k1) (r:bc b2 s.heap i2 l2 k2) (d:bK b1 s.heap l1 xs) (e:bK b2 s.heap l2 ys) (B:xs[k1]?=Nz x) (C:ys[k2]?=Nz y)
  (u:∀h',QK h' z TI TO (rawInt s.heap.objs.size)->OY h' TO x y->bc b1 h' i1 l1 (k1+1)->bc b2 h' i2 l2 (k2+1)->OY h' s.heap.objs.size x y->h'.objs.size=s.heap.objs.size+1->
   (∀c o,c≠z->c≠TO->c≠i1->c≠i2->s.heap.get? c=Nz o->h'.get? c=Nz o)->∀tk,Q (Nz (.ref s.heap.objs.size)) {s with heap:=h',toks:=tk}):
  wpAny (model prog w) A (pyNext (.ref z)) Q E s:=by
 have f:s.TypeIs (.ref z) _:=⟨_,i,rfl⟩
 exact Za (Ps (Z4 f Q0
  (Z1 Q0 f F.entry_zip_next (sP D (show A.in1.handled=none from v) i h H h1 r d e B C λh' j k l m n p q tk=>Ze (u _ j k l m n p q _)) (F.args_zip_next_1 _))))
theorem GQ(D:ek z TI TO i1 i2 l1 l2)(q:A.handled=none){Q:Ov->NC->Prop}
  (k:QK s.heap z TI TO .none) (H:OY s.heap TI (.ref i1) (.ref i2)) (d:OY s.heap TO a b)
  (h1:bc b1 s.heap i1 l1 k1) (l:bc b2 s.heap i2 l2 k2) (f:bK b1 s.heap l1 xs) (g:bK b2 s.heap l2 ys) (h:xs[k1]?=none\/ys[k2]?=none)
  (m:∀h' tk,(∀c o,c≠z->c≠TO->c≠i1->c≠i2->s.heap.get? c=Nz o->h'.get? c=Nz o)->Q none {s with heap:=h',toks:=tk}):wpAny (model prog w) A (pyNext (.ref z)) Q E s:=by
 have i:s.TypeIs (.ref z) _:=⟨_,k,rfl⟩
 refine Za (Ps (Z4 i Q0
  (Z1 Q0 i F.entry_zip_next (GO D (show A.in1.handled=none from q) k H d h1 l f g h λh' e tk r p=>?_) (F.args_zip_next_1 _))))
 obtain⟨o,u,n⟩:=p;exact Za (QX ⟨o,u,n⟩ Sz (Ze (m _ _ r)))
end
noncomputable def dn(b:Bool)(l:ND):Obj:={cls:=.type (match b with|true=>"list_iterator"|false=>"tuple_iterator"),data:=.fields #[.ref l,.int 0 0]}
noncomputable def yw(h:NO)(b:Bool)(l:ND):NO:=h.push (dn b l)
noncomputable def yx(h:NO)(b B:Bool)(l L:ND):NO:=(yw h b l).push (dn B L)
noncomputable def yy(h:NO)(b B:Bool)(l L:ND):NO:=(yx h b B l L).push {cls:=.type "tuple",data:=.seq #[.ref h.objs.size,.ref (yw h b l).objs.size]}
noncomputable def yz(h:NO)(b B:Bool)(l L:ND):NO:=(yy h b B l L).push {cls:=.type "tuple",data:=.seq #[.none,.none]}
noncomputable def qx(h:NO)(b B:Bool)(l L:ND):NO:=(yz h b B l L).push {cls:=.type "zip",data:=.fields #[.none,.bool NB,.bool NB,.ref (yx h b B l L).objs.size,.ref (yy h b B l L).objs.size]}
theorem mT(c B:Bool)(l L:ND)(xs y:Av):
  Meets (OO.«zip.__new__» ⟨[.type "zip",.ref l,.ref L],[]⟩) (λ_ R s=>bK c s.heap l xs/\bK B s.heap L y/\R (.ok (.ret (.ref (yz s.heap c B l L).objs.size))) {s with heap:=qx s.heap c B l L}):=
 .of_wp λp w A R s h=>by
  obtain⟨b,g,d,t,O⟩:=s;obtain⟨f,i,h⟩:=h;have k:=sub_zip;have H:bK B (yw b c l) L y:=i.at λo e=>Zc _ e;cases c with
  |true=>
   have a:RJ (Pl ⟨b,g,d,t,O⟩) l xs:=f;cases B with
   |true=>
    have H:RJ (Pl ⟨b.push {cls:=.type "list_iterator",data:=.fields #[.ref l,.int 0 0]},g,d,t,O⟩) L y:=H
    wp_walk using Yo a,Yo H
    exact⟨_,rfl,h⟩
   |false=>
    have H:Rv (Pl ⟨b.push {cls:=.type "list_iterator",data:=.fields #[.ref l,.int 0 0]},g,d,t,O⟩) L y:=H
    wp_walk using Yo a,Yi H
    exact⟨_,rfl,h⟩
  |false=>
   have a:Rv (Pl ⟨b,g,d,t,O⟩) l xs:=f;cases B with
   |true=>
    have H:RJ (Pl ⟨b.push {cls:=.type "tuple_iterator",data:=.fields #[.ref l,.int 0 0]},g,d,t,O⟩) L y:=H
    wp_walk using Yi a,Yo H
    exact⟨_,rfl,h⟩
   |false=>
    have H:Rv (Pl ⟨b.push {cls:=.type "tuple_iterator",data:=.fields #[.ref l,.int 0 0]},g,d,t,O⟩) L y:=H
    wp_walk using Yi a,Yi H
    exact⟨_,rfl,h⟩
theorem sQ{b:Bool}{l:ND}(e:h.get? it=Nz (dn b l)):bc b h it l 0:=by
 cases b with
 |true=>exact⟨_,e,rfl,rfl⟩
 |false=>exact⟨_,e,rfl,rfl⟩
theorem GR{l L:ND}{xs y:Av}(H:bK b1 s.heap l xs)(a:bK b2 s.heap L y)
  (h:∀h',QK h' (s.heap.objs.size+4) (s.heap.objs.size+2) (s.heap.objs.size+3) .none->OY h' (s.heap.objs.size+2) (.ref s.heap.objs.size) (.ref (s.heap.objs.size+1))->
   OY h' (s.heap.objs.size+3) .none .none->bc b1 h' s.heap.objs.size l 0->bc b2 h' (s.heap.objs.size+1) L 0->h'.objs.size=s.heap.objs.size+5->
   (∀c o,s.heap.get? c=Nz o->h'.get? c=Nz o)->Q (.ref (s.heap.objs.size+4)) {s with heap:=h'}):
  wpAny (model prog w) A (call (.type "zip") [.ref l,.ref L]) Q E s:=by
 refine callType_new F.called_zip (by decide) (F.typeCall_zip_2 _ _) (F.newCall_zip_2 _ _) (λobj=>F.args_object_init_3 obj _ _) F.entry_zip_new (mT b1 b2 l L xs y) ⟨H,a,?_⟩;have z:(yw s.heap b1 l).objs.size=s.heap.objs.size+1:=N6 ..;have Z:(yx s.heap b1 b2 l L).objs.size=s.heap.objs.size+2:=by unfold yx;rw[N6,z]
 have b:(yy s.heap b1 b2 l L).objs.size=s.heap.objs.size+3:=by unfold yy;rw[N6,Z]
 have d:(yz s.heap b1 b2 l L).objs.size=s.heap.objs.size+4:=by unfold yz;rw[N6,b]
 have k:(qx s.heap b1 b2 l L).objs.size=s.heap.objs.size+5:=by unfold qx;rw[N6,d]
 have g:(qx s.heap b1 b2 l L).get? (yz s.heap b1 b2 l L).objs.size=Nz _:=Zk _ rfl;have f:(qx s.heap b1 b2 l L).get? (yy s.heap b1 b2 l L).objs.size=Nz _:=Zc _ (Zk _ rfl);have e:(qx s.heap b1 b2 l L).get? (yx s.heap b1 b2 l L).objs.size=Nz _:=Zc _ (Zc _ (Zk _ rfl));have G:(qx s.heap b1 b2 l L).get? (yw s.heap b1 l).objs.size=Nz (dn b2 L):=Zc _ (Zc _ (Zc _ (Zk _ (by cases b2<;>rfl))));have j:(qx s.heap b1 b2 l L).get? s.heap.objs.size=Nz (dn b1 l):=Zc _ (Zc _ (Zc _ (Zc _ (Zk _ (by cases b1<;>rfl)))));show _/\_;rw[Z,b,d]at g;rw[z,Z]at e;rw[b]at f;rw[z]at G;rw[d]
 exact⟨⟨_,g,rfl⟩,h _ g e f (sQ j) (sQ G) k λc o x=>
  Zc _ (Zc _ (Zc _ (Zc _ (Zc _ x))))⟩
def gj(b:Bool)(K:Fg)(H:Hp)(l:ND)(xs:List V):Prop:=match b with
 |true=>c8 K H l xs
 |false=>ca K H l xs
noncomputable def MV(K:Fg)(b B:Bool)(l L:ND):It:=
 ⟨λi H=>∃xs ys x y,gj b K H l xs/\gj B K H L ys/\xs[i]?=Nz x/\ys[i]?=Nz y,
  λi H v H'=>∃T x y,v=.ref T/\H T=none/\H'=bg H T (.tup [x,y])/\(∀xs,gj b K H l xs->xs[i]?=Nz x)/\(∀ys,gj B K H L ys->ys[i]?=Nz y),
  λi H=>∃xs ys,gj b K H l xs/\gj B K H L ys/\(xs.length<=i\/ys.length<=i)⟩
theorem fQ{b:Bool}{l:ND}{xs:List V}(I:Inv X pq σ H s)(h:gj b X.K H l xs):∃its,Vals xs its/\bK b s.heap l its.toArray:=by
 cases b with
 |true=>obtain⟨its,r,p,_⟩:=I.list h;exact⟨_,r,p.isList⟩
 |false=>obtain⟨its,r,p,_⟩:=I.tuple h;exact⟨_,r,p⟩
theorem sR{b:Bool}{l:ND}{xs y:List V}(I:Inv X pq σ H s)(h:gj b X.K H l xs)(h':gj b X.K H l y):xs=y:=by
 cases b with
 |true=>exact I.list_inj h h'
 |false=>exact I.tuple_inj h h'
theorem db{b:Bool}{l c:ND}{xs:List V}(I:Inv X pq σ H s)(h:gj b X.K H l xs)(d:dI X pq H c):l≠c:=by
 have k:∀{o:Obj},X.K.lookup l=Nz o->l≠c:=λ{o} e=>by
  have E:=I.mod.kin l o e;rintro rfl;rcases d.2.2.2.1 with z|z
  ·exact I.ok.noex l o E z
  ·exact absurd (ZR (Zo E) (Zw I.ok.bsz z)) (Yl _)
 have a:∀{o:HO},H l=Nz o->l≠c:=λ{o} e=>by rintro rfl;rw[d.1]at e;cases e
 cases b with
 |true=>
  rcases h with(h| ⟨o,h⟩)| ⟨o,i,n,h,_⟩
  ·exact a h
  ·exact a h
  ·exact k h
 |false=>
  rcases h with(h| ⟨o,h⟩)| ⟨o,i,n,h,_⟩
  ·exact a h
  ·exact a h
  ·exact k h
theorem jX{t':Nat}(I:Inv X pq σ H s)(k:∀b o,b∉ch->s.heap.get? b=Nz o->h'.get? b=Nz o)(a:∀b∈ch,dI X pq H b):Inv X pq σ H {s with heap:=h',toks:=t'}:=by
 have N:∀b u,H b=Nz u->b∉ch:=λb u e z=>by rw[(a b z).1]at e;cases e
 refine I.step (λb f=>?_) (λb o _ _ h e _=>k b o h e) (λb o _ _ h e _=>⟨_,k b o h e⟩) (λ_ _ _ _ n=>n)
  (λb o h e=>⟨o,k b o h e⟩) (λ_ _ e=>e) (λ_ _ _ e=>e) (λb P e=>⟨#[],by trivial⟩) (λm g=>?_) (λb u e=>?_) I.bare
 ·obtain⟨_,F,_,l,p,w⟩:=a b f;trivial
 ·obtain⟨o,j,E,i,r⟩:=g;exact⟨o,_,_,k _ o (λz=>(a _ z).2.1 rfl) i,r⟩
 ·refine(I.hok b u e).stay (λc v h q=>k c v ?_ q) (λ_ q=>q) λ_ _ q=>q
  grind
def Np(b B:Bool)(z TI TO I c l L:ND)(i:Nat)(h:NO):Prop:=QK h z TI TO .none/\OY h TI (.ref I) (.ref c)/\(∃a b,OY h TO a b)/\bc b h I l i/\bc B h c L i
theorem GU{es:Lx}{x1}{pos:Pos}(b b':Bool)(z TI TO i1 i2 l1 l2:ND)(n1:TI≠z)(n2:TO≠z)(n3:i1≠z)(n4:i2≠z)(n5:TI≠TO)(n6:TI≠i1)(n7:TI≠i2)(n8:TO≠i1)(n9:TO≠i2)(n10:i1≠i2):
  Turn P w K (.Tuple es x1 pos) (MV K b b' l1 l2) [z,TI,TO,i1,i2] z (Np b b' z TI TO i1 i2 l1 l2) where
 mem:=by simp
 obj:=λi h ⟨hz,hTI,⟨a,c,hTO⟩,h1,h2⟩ d hd=>by
  simp only[Zi,ZX,or_false]at hd;rcases hd with rfl|rfl|rfl|rfl|rfl
  ·exact⟨_,hz,λv q=>by have q':SJ _=TZ v:=q;cases q'⟩
  ·exact⟨_,hTI,λv q=>by grind⟩
  ·exact⟨_,hTO,λv q=>by grind⟩
  ·exact h1.obj
  ·exact h2.obj
 keep:=λi h h' ⟨hz,hTI,⟨a,c,hTO⟩,h1,h2⟩ k=>⟨k z (by simp) _ hz,k TI (by simp) _ hTI,⟨a,c,k TO (by simp) _ hTO⟩,h1.at λo e=>k i1 (by simp) o e,h2.at λo e=>k i2 (by simp) o e⟩
 item:=by
  intro X hP hw hK hc i pq s σ H E I hf st hg;subst hP hw hK;obtain⟨hz,hTI,⟨a,c,hTO⟩,h1,h2⟩:=st;obtain⟨xs,ys,x,y,q1,q2,ex,ey⟩:=hg;obtain⟨us,r1,s1⟩:=fQ I q1;obtain⟨ws,r2,s2⟩:=fQ I q2;obtain⟨u,eu,ru⟩:=r1.get ex;obtain⟨v,ev,rv⟩:=r2.get ey
  have Dp:ek z TI TO i1 i2 l1 l2:=⟨n1,n2,n3,n4,n5,n6,n7,n8,n9,n10,⟨db I q1 (hf z (by simp)),db I q1 (hf TO (by simp)),db I q1 (hf i1 (by simp)),db I q1 (hf i2 (by simp))⟩,
   ⟨db I q2 (hf z (by simp)),db I q2 (hf TO (by simp)),db I q2 (hf i1 (by simp)),db I q2 (hf i2 (by simp))⟩⟩
  refine GP Dp (I.ok.hd hc) hz hTI hTO h1 h2 s1 s2 (x:=u) (y:=v) (by simpa using eu) (by simpa using ev) λh' a1 a2 a3 a4 a5 a6 kk tk=>?_;refine⟨_,rfl,?_⟩;refine wpAny_letOwnedTupleGo_zip (s:={s with heap:=h',toks:=tk}) a1 λh2' b1 sb=>?_;have hTn:H s.heap.objs.size=none:=I.hok.fresh (Zg _)
  have kk2:∀c o,c∉[z,TI,TO,i1,i2]->s.heap.get? c=Nz o->h2'.get? c=Nz o:=λc o hc e=>by simp only[Zi,ZX,or_false,not_or]at hc;exact(sb.2 c hc.1).trans (kk c o hc.1 hc.2.2.1 hc.2.2.2.1 hc.2.2.2.2 e)
  have hTz:∀c∈[z,TI,TO,i1,i2],s.heap.objs.size≠c:=λc hc e=>by
   obtain⟨o,q,_⟩:∃o,s.heap.get? c=Nz o/\True:=by
    simp only[Zi,ZX,or_false]at hc;rcases hc with rfl|rfl|rfl|rfl|rfl
    ·exact⟨_,hz,trivial⟩
    ·exact⟨_,hTI,trivial⟩
    ·exact⟨_,hTO,trivial⟩
    ·exact⟨_,h1.obj.choose_spec.1,trivial⟩
    ·exact⟨_,h2.obj.choose_spec.1,trivial⟩
   exact absurd (Zo q) (by rw[e];exact Yl _)
  have I2:Inv X pq σ (bg H s.heap.objs.size (.tup [x,y])) {s with heap:=h2',toks:=tk}:=by
   have Im:Inv X pq σ (bg H s.heap.objs.size (.tup [x,y])) {s with heap:=s.heap.push {cls:=.type "tuple",data:=.seq #[u,v]},toks:=s.toks}:=
    I.laid (λb o e=>Zc _ e) (Zg _) ⟨by show 2<=sizeLine;decide,[u,v],.cons ru (.cons rv .nil),⟨_,Zk _ rfl,rfl,_,rfl⟩,_,Zk _ rfl,rfl⟩
   refine jX (s:={s with heap:=s.heap.push {cls:=.type "tuple",data:=.seq #[u,v]},toks:=s.toks}) Im (ch:=[z,TI,TO,i1,i2]) (λb o hb e=>?_) λb hb=>?_
   ·rcases SK e with⟨rfl,rfl⟩|e'
    ·exact(sb.2 _ (hTz z (by simp))).trans a5
    ·exact kk2 b o hb e'
   ·obtain⟨f0,f1⟩:=hf b hb;exact⟨by rw[a_ (λe=>hTz b hb e.symm)];exact f0,f1⟩
  refine⟨.ref s.heap.objs.size,bg H s.heap.objs.size (.tup [x,y]),I2,rfl,⟨s.heap.objs.size,x,y,rfl,hTn,rfl,λzs hq=>by rw[sR I hq q1];exact ex,λzs hq=>by rw[sR I hq q2];exact ey⟩,
   ⟨b1,(sb.2 TI n1).trans (kk TI _ n1 n5 n6 n7 hTI),⟨u,v,(sb.2 TO n2).trans a2⟩,a3.at λo e=>(sb.2 i1 n3).trans e,a4.at λo e=>(sb.2 i2 n4).trans e⟩,λc hc=>?_⟩
  rw[a_ (λe=>hTz c hc e.symm)];exact(hf c hc).1
 done:=by
  intro X hP hw hK hc i pq s σ H E I hf st hg;subst hP hw hK;obtain⟨hz,hTI,⟨a,c,hTO⟩,h1,h2⟩:=st;obtain⟨xs,ys,q1,q2,en⟩:=hg;obtain⟨us,r1,s1⟩:=fQ I q1;obtain⟨ws,r2,s2⟩:=fQ I q2;have hl1:=r1.length;have hl2:=r2.length
  have Dp:ek z TI TO i1 i2 l1 l2:=⟨n1,n2,n3,n4,n5,n6,n7,n8,n9,n10,⟨db I q1 (hf z (by simp)),db I q1 (hf TO (by simp)),db I q1 (hf i1 (by simp)),db I q1 (hf i2 (by simp))⟩,
   ⟨db I q2 (hf z (by simp)),db I q2 (hf TO (by simp)),db I q2 (hf i1 (by simp)),db I q2 (hf i2 (by simp))⟩⟩
  refine GQ Dp (I.ok.hd hc) hz hTI hTO h1 h2 s1 s2 (en.elim (λen=>.inl (by simp;omega)) λen=>.inr (by simp;omega)) λh' tk kk=>?_;refine⟨rfl,jX I (ch:=[z,TI,TO,i1,i2]) (λc o hc e=>?_) hf⟩;simp only[Zi,ZX,or_false,not_or]at hc;exact kk c o hc.1 hc.2.2.1 hc.2.2.2.1 hc.2.2.2.2 e
 self:=λ_ _ _ _ _ st h=>wpAny_pyIter_zip st.1 h
noncomputable def jY(b:Int):Bool:=NS 0&&NS b&&NS 1&&NS (-1)&&NS (0-1)&&NS (OF 0 b 1)
theorem GV(r:ND)(b:Int)(t u v:Tok)(H:¬(!jY b)=NA):
  Meets (OO.«range.__reversed__» ⟨[.ref r],[]⟩) (λ_ R s=>s.heap.get? r=Nz {cls:=.type "range",dict:=none,data:=.fields #[.int 0 t,.int b u,.int 1 v],slots:= #[]}/\
   R (.ok (.ret (Oy s.heap.objs.size))) {s with heap:=s.heap.push {cls:=NN (if jY b=NA then "range_iterator" else "longrange_iterator"),data:=SJ #[rawInt (0+(OF 0 b 1-1)*1),rawInt (OF 0 b 1),rawInt (-1)]},toks:=s.toks}):=
 .of_wp λp w A R s h=>by
  obtain⟨e,g,d,f,o⟩:=s;obtain⟨c,h⟩:=h;unfold jY at H h
  wp_walk
  rw[if_neg H]
  wp_walk
  exact⟨_,rfl,h⟩
theorem GW{b:Int}(h1: -(2^62)<=b)(h:b<2^62):jY b=NA:=by
 unfold jY;rw[SU];unfold NS
 grind
theorem GX:isSubtype (.type "range_iterator") (.type "reversed")=pure NB:=by kernel_rfl
noncomputable def fC(n:Nat):Obj:={cls:=.type "range_iterator",data:=.fields #[rawInt ((n:Int)-1),rawInt (n:Int),rawInt (-1)]}
theorem GY{r:ND}{b:Int}{t u v:Tok}(a:IsRange s.heap r 0 b 1 t u v)(h1: -(2^62)<=b)(d:b<2^62)
  (h:Q (.ref s.heap.objs.size) {s with heap:=s.heap.push (fC b.toNat)}):wpAny (model prog w) A (call (.builtin "range.__reversed__") [.ref r]) Q E s:=by
 have f:s.TypeIs (.ref r) _:=⟨_,a,rfl⟩;have g:=GW h1 d;refine P7 F.slot_range_reversed f F.entry_range_reversed (F.args_range_reversed_1 _) (GV r b t u v (by lia)) ⟨a,?_⟩;rw[g];have e:OF 0 b 1=b.toNat:=by rw[SU];lia
 rw[e];have c:0+((b.toNat)-1)*1=(b.toNat:Int)-1:=by omega
 rw[c];exact h
theorem GZ{r:ND}{b:Int}{t u v:Tok}(c:IsRange s.heap r 0 b 1 t u v)(h1: -(2^62)<=b)(d:b<2^62)
  (h:Q₁ (.ref s.heap.objs.size) {s with heap:=s.heap.push (fC b.toNat)}):
  codeAny (model prog w) A (.call (.builtin "reversed.__new__") ⟨[.type "reversed",.ref r],[]⟩) (wants Q₁ E) s:=by
 have e:s.TypeIs (.ref r) "range":=⟨_,c,rfl⟩;refine Qo ?_;show wpAny _ A.in1 (do checkBuiltinCall "reversed.__new__" ⟨[.type "reversed",.ref r],[]⟩;again (.builtin "reversed.__new__" ⟨[.type "reversed",.ref r],[]⟩)) _ _ s;refine Za (PF (F.newCall_reversed_1 _) (Ze ⟨Qb TC _,Og F.entry_reversed_new ?_⟩));rw[NZ TC _];unfold OO.«reversed.__new__»;refine Za (PF (newClass_reversed _) ?_)
 try dsimp only
 refine Za (PF (a:=()) (by first|rfl|kernel_rfl) ?_);refine Za (PF (a:=()) (by first|rfl|kernel_rfl) ?_)
 try dsimp only
 refine Za (Si e F.slot_range_reversed.lookup ?_)
 try dsimp only
 refine Za (PF (F.slot_range_reversed.bind _) ?_)
 try dsimp only
 first
 |rw[if_neg (show ¬((R4 "range.__reversed__"==NE)=NA)from Qg)]
 | (show wpAny _ _ (if(R4 "range.__reversed__"==NE)=NA then _ else _) _ _ _;rw[if_neg (show ¬((R4 "range.__reversed__"==NE)=NA)from Qg)])
 refine Za (Ob ?_);refine Za (m:=runValue (.call (.builtin "range.__reversed__") ⟨[.ref r],[]⟩)) (show wpAny _ _ (call (.builtin "range.__reversed__") [.ref r]) _ _ _ from GY c h1 d ?_)
 first
 |exact Ze h
 |exact Za (Ze (Ze h))
theorem G1{r:ND}{b:Int}{t u v:Tok}(d:IsRange s.heap r 0 b 1 t u v)(h1: -(2^62)<=b)(c:b<2^62)
  (h:Q (.ref s.heap.objs.size) {s with heap:=s.heap.push (fC b.toNat)}):wpAny (model prog w) A (call (.type "reversed") [.ref r]) Q E s:=by
 refine callType_other (U:="range_iterator") (Q₁:=λobj S=>obj=.ref s.heap.objs.size/\S={s with heap:=s.heap.push (fC b.toNat)}) (by decide+kernel) F.create_reversed ⟨_,_,F.mro_reversed⟩ F.made_reversed GX (F.typeCall_reversed_1 _) (GZ d h1 c ⟨rfl,rfl⟩) ?_;rintro obj S ⟨rfl,rfl⟩;exact⟨⟨_,Zk _ rfl,rfl⟩,h⟩
noncomputable def G2(n:Nat):It:=⟨λi _=>i<n,λi H x H'=>H'=H/\x=.int ((n:Int)-1-i),λi _=>n<=i⟩
theorem G3(it:ND)(n:Nat):Turn P w K tg (G2 n) [it] it (λi h=>IsRangeIter h it (((n:Int)-1)+(i:Nat)*(-1)) ((n:Int)-(i:Nat)) (-1)) where
 mem:=by simp
 obj:=λi h st b hb=>by simp_all
 keep:=λi h h' st k=>k _ (by simp) _ st
 item:=by intro X hP hw hK hc i pq s σ H E I hf st hg;subst hP hw hK;obtain⟨f0,f1,f2,f3,f4,f5⟩:=hf it (by simp);have W:=Walks.range (prog:=X.prog) (w:=X.w) (I.ok.hd hc) it ((n)-1) (-1) n;refine W.item i s _ _ hg st λv h' tk hv st' kk=>?_;obtain⟨t,rfl⟩:=hv;have I1:Inv X _ _ H {s with heap:=h',toks:=tk}:=I.turned (λb o hb e=>kk b o (by simp_all) e) f0 f1 f3 f4 f5;refine⟨_,rfl,ii st' rfl rfl (rfl) ⟨.int _,H,I1,⟨t,?_⟩,⟨rfl,rfl⟩,st',λb hb=>(hf b hb).1⟩⟩;lia
 done:=by intro X hP hw hK hc i pq s σ H E I hf st hg;obtain⟨f0,f1,f2,f3,f4,f5⟩:=hf it (by simp);exact Tt (I.ok.hd hc) st (by have:n<=i:=hg;omega) λh' eb=>⟨rfl,I.turned (λb o hb e=>eb b o hb e) f0 f1 f3 f4 f5⟩
 self:=λ_ _ _ _ _ st h=>Q2 st h
theorem G4:bootBuiltins (OA "reversed")=Nz (.type "reversed"):=by decide+kernel
noncomputable def yA(t:TA):TI:=λσ H R=>t σ H λvs H1=>∃j:Int,vs=[.int j]/\ -(2^62)<=j/\j<2^62/\R (G2 j.toNat) H1
theorem mU{a:Expr}{v:TA}{G n p u:Pos}(i:Gl X "reversed")(k:X.mg "reversed"=none)(C:Gl X "range")(D:X.mg "range"=none)(A:PA X [a] v)(hs:starEach [a] X.env=[(NB,eval a X.env)]:=by rfl):
  PI X tg (.Call (.Name "reversed" G) [.Call (.Name "range" n) [a] [] p] [] u) (yA v):=by
 intro P s l H R I h;refine Call_ (eh I i k G4 (Z2 ?_ rfl rfl));show wpAny _ _ (spliced ((NB,eval (.Call (.Name "range" n) [a] [] p) X.env)::backTo u (starEach [] X.env))) _ _ s;refine Qd ?_;refine Call_ (eh I C D boot_range (Z2 (a' (A p P s l H _ I h) λU S Z=>?_) hs rfl));obtain⟨vs,H1,w,K,Q⟩:=Z;obtain⟨j,e,Q,J,q⟩:=Q;subst e;cases K with
 |cons r L=>
  cases L;obtain⟨t,rfl⟩:=r;refine call_range_1 ?_;have m:Inv X P l H1 {S with heap:=S.heap.push {cls:=.type "range",data:=.fields #[.int 0 S.toks,.int j t,.int 1 (S.toks+1)]},toks:=S.toks+1+1}:=w.kept λb o e=>Zc _ e;refine Pr ?_;generalize E:S.heap.push {cls:=.type "range",data:=.fields #[.int 0 S.toks,.int j t,.int 1 (S.toks+1)]}=c at m⊢;have F:IsRange c S.heap.objs.size 0 j 1 S.toks t (S.toks+1):=by rw[<-E];exact IsRange.new ..
  have f:Inv X P l H1 {S with heap:=c,toks:=S.toks+1+1}:=m;refine G1 (s:={S with heap:=c,toks:=S.toks+1+1}) F Q J ?_;have g:(c.push (fC j.toNat)).get? c.objs.size=Nz (fC j.toNat):=Zk _ rfl;refine Q2 (x:=(j.toNat:Int)-1) (left:=(j.toNat:Int)) (step:= -1) g ?_;refine⟨c.objs.size,[c.objs.size],_,_,H1,rfl,f.kept (t':=S.toks+1+1) λb o e=>Zc _ e,G3 _ j.toNat,?_,λb B=>?_,q⟩
  ·have y:((j.toNat:Int)-1)+((0:Nat):Int)*(-1)=(j.toNat:Int)-1:=by omega
   have z:(j.toNat:Int)-((0:Nat):Int)=(j.toNat:Int):=by omega
   show IsRangeIter _ _ (((j.toNat:Int)-1)+((0:Nat):Int)*(-1)) ((j.toNat:Int)-((0:Nat):Int)) (-1);rw[y,z];exact g
  ·have e:b=c.objs.size:=by simpa using B
   subst e;exact f.fpOk (Zg _) (f.hok.fresh (Zg _))
noncomputable def G5(it:ND):Obj:={cls:=.type "enumerate",data:=.fields #[.none,.bool NB,.ref it,rawInt 0,.none,.none]}
theorem G6(b:Bool)(l:ND)(vs:Av)(o:Obj):
  Meets (OO.«enumerate.__new__» ⟨[.type "enumerate",.ref l],[]⟩) (λ_ R s=>s.heap.get? l=Nz o/\bK b s.heap l vs/\R (.ok (.ret (.ref (s.heap.push (dn b l)).objs.size))) {s with heap:=(s.heap.push (dn b l)).push (G5 s.heap.objs.size)}):=
 .of_wp λp w A R s h=>by
  obtain⟨f,g,d,t,O⟩:=s;obtain⟨a,H,h⟩:=h;have q:=sub_enumerate;cases b with
  |true=>
   have H:RJ (Pl ⟨f,g,d,t,O⟩) l vs:=H
   wp_walk using Oe a
   refine wpAny_stack_any λS=>Ze ?_;split
   ·rename_i c _ _ _ _ _;cases(c==NN "enumerate")<;>(wp_walk using Oe a,Yo H)<;>exact⟨_,rfl,h⟩
   ·wp_walk using Oe a,Yo H
    exact⟨_,rfl,h⟩
  |false=>
   have H:Rv (Pl ⟨f,g,d,t,O⟩) l vs:=H
   wp_walk using Oe a
   refine wpAny_stack_any λS=>Ze ?_;split
   ·rename_i c _ _ _ _ _;cases(c==NN "enumerate")<;>(wp_walk using Oe a,Yi H)<;>exact⟨_,rfl,h⟩
   ·wp_walk using Oe a,Yi H
    exact⟨_,rfl,h⟩
theorem G7{b:Bool}{l:ND}{vs:Av}(H:bK b s.heap l vs)
  (h:∀h',Q4 h' (s.heap.objs.size+1) s.heap.objs.size 0 .none->bc b h' s.heap.objs.size l 0->h'.objs.size=s.heap.objs.size+2->(∀b o,s.heap.get? b=Nz o->h'.get? b=Nz o)->Q (.ref (s.heap.objs.size+1)) {s with heap:=h'}):
  wpAny (model prog w) A (call (.type "enumerate") [.ref l]) Q E s:=by
 obtain⟨o,f⟩:∃o,s.heap.get? l=Nz o:=by
  cases b with
  |true=>obtain⟨o,e,_⟩:=H;exact⟨o,e⟩
  |false=>obtain⟨o,e,_⟩:=H;exact⟨o,e⟩
 refine callType_new F.called_enumerate (by decide) (F.typeCall_enumerate_1 _) (F.newCall_enumerate_1 _) (λobj=>F.args_object_init_2 obj _) F.entry_enumerate_new (G6 b l vs o) ⟨f,H,?_⟩;have a:(s.heap.push (dn b l)).objs.size=s.heap.objs.size+1:=N6 ..;show _/\_;rw[a]
 have c:Q4 ((s.heap.push (dn b l)).push (G5 s.heap.objs.size)) (s.heap.objs.size+1) s.heap.objs.size 0 .none:=by have:=Zk (s.heap.push (dn b l)) (o:=G5 s.heap.objs.size) rfl;rw[a]at this;exact this
 exact⟨⟨_,c,rfl⟩,h _ c (sQ (Zc _ (Zk _ rfl))) (by rw[N6,a]) λb o x=>Zc _ (Zc _ x)⟩
theorem sS{b:Bool}{t:ND}{i:Nat}{x:NF}(h:bc b s.heap it t i)(c:bK b s.heap t items)(d:items[i]?=Nz x)
  (H:∀h',bc b h' it t (i+1)->NR it s.heap h'->Q x {s with heap:=h'}):wpAny (model prog w) A (NP (.ref it)) Q E s:=by
 cases b with
 |true=>exact wpAny_nextOf_list_item h c d H
 |false=>exact yu h c d H
theorem mV{b:Bool}{e l:ND}{i:Nat}{vs:Av}{x old:NF}{Q:Vs}(P:Q4 s.heap e it i old)(R:bc b s.heap it l i)(Z:bK b s.heap l vs)(hx:vs[i]?=Nz x)(H:e≠it)
  (Y:∀h',Te h' e it ((i:Int)+1) x s.heap.objs.size->bc b h' it l (i+1)->h'.get? s.heap.objs.size=Nz {cls:=.type "tuple",data:=.seq #[.int i s.toks,x]}->h'.objs.size=s.heap.objs.size+1->
   (∀b o,b≠e->b≠it->s.heap.get? b=Nz o->h'.get? b=Nz o)->Q (.ref s.heap.objs.size) {s with heap:=h',toks:=s.toks+1}):
  wpAny (model prog w) A (OO.«enumerate.__next__» ⟨[.ref e],[]⟩) (λfin s'=>∃v,fin=.done (.ret v)/\Q v s') E s:=by
 obtain⟨c,g,d,t,O⟩:=s;show wpAny _ _ (field (.ref e) 2>>=_) _ _ _;refine Za (Z7 P rfl (x:=.ref it) rfl (Za (sS R Z hx λk W S=>?_)));replace S:NR it c k:=S;have y:Q4 k e it i old:=(S.2 e H).trans P;show wpAny _ _ (field (.ref e) 3>>=_) _ _ ⟨k,g,d,t,O⟩;refine Za (Z7 y rfl (x:=rawInt i) rfl ?_);show wpAny _ _ (field (.ref e) 4>>=_) _ _ ⟨k,g,d,t,O⟩;refine Za (Z7 y rfl (x:=.none) rfl ?_);show wpAny _ _ (mkInt i>>=_) _ _ ⟨k,g,d,t,O⟩;refine Za (wpAny_mkInt ?_);show wpAny _ _ (setField (.ref e) 3 (rawInt ((i:Int)+1))>>=_) _ _ ⟨k,g,d,t+1,O⟩;refine Za (Yc y (by simp) λr z n=>?_);replace n:NR e k r:=n;replace z:Q4 r e it ((i:Int)+1) old:=z;show wpAny _ _ (setField (.ref e) 4 .none>>=_) _ _ ⟨r,g,d,t+1,O⟩;refine Za (Yc z (by simp) λK B p=>?_);replace p:NR e r K:=p;replace B:Q4 K e it ((i:Int)+1) old:=B;show wpAny _ _ (newTuple [.int i t,x]>>=_) _ _ ⟨K,g,d,t+1,O⟩;refine Za (Sy ?_);have C:Q4 (K.push {cls:=.type "tuple",data:=.seq #[.int i t,x]}) e it ((i:Int)+1) old:=Zc _ B;generalize u:K.push {cls:=.type "tuple",data:=.seq #[.int i t,x]}=m at C;have a:K.objs.size=c.objs.size:=by rw[p.1,n.1,S.1]
 have t4:m.get? c.objs.size=Nz {cls:=.type "tuple",data:=.seq #[.int i t,x]}:=by rw[<-u,<-a];exact Zk _ rfl
 have z4:m.objs.size=c.objs.size+1:=by rw[<-u,N6,a]
 have kp:∀b o,b≠e->b≠it->c.get? b=Nz o->m.get? b=Nz o:=λb o h j f=>by rw[<-u];exact Zc _ (p.extBut b o h (n.extBut b o h (S.extBut b o j f)))
 have i4:bc b m it l (i+1):=by rw[<-u];exact W.at λo q=>Zc _ (p.extBut _ o (Ne.symm H) (n.extBut _ o (Ne.symm H) q))
 show wpAny _ _ (NM (.ref e)>>=_) _ _ ⟨m,g,d,t+1,O⟩;rw[a];clear u B p z n y S W a K r k;refine Za ?_;unfold NM;refine Za (Z7 C rfl (x:=.none) rfl (Ze ?_));simp only[if_true];refine Za (Ob (Za (Z7 C rfl (x:=old) rfl (Za (Yc C (by simp) λD L G=>?_)))));replace G:NR e m D:=G;replace L:Q4 D e it ((i:Int)+1) x:=L;show wpAny _ _ (N_ (.ref e) (.ref c.objs.size)>>=_) _ _ ⟨D,g,d,t+1,O⟩;refine Za ?_;unfold N_;refine Za (Yc L (by simp) λT M I=>?_);replace I:NR e D T:=I;replace M:Te T e it ((i:Int)+1) x c.objs.size:=M;refine Yc M (by simp) λF N J=>?_;replace J:NR e T F:=J;replace N:Te F e it ((i:Int)+1) x c.objs.size:=N;have U:∀b o,b≠e->m.get? b=Nz o->F.get? b=Nz o:=λb o f q=>J.extBut b o f (I.extBut b o f (G.extBut b o f q));exact Za (R9 (Ze ⟨_,rfl,Y F N (i4.at λo q=>U _ o (Ne.symm H) q) (U _ _ (OV (Zo P)) t4) (by rw[J.1,I.1,G.1,z4]) λb o h j f=>U b o h (kp b o h j f)⟩))
theorem G8{b:Bool}{e l:ND}{i:Nat}{vs:Av}{x old:NF}{Q:Ov->NC->Prop}(g:Q4 s.heap e it i old)(h:bc b s.heap it l i)(n:bK b s.heap l vs)(p:vs[i]?=Nz x)(H:e≠it)
  (m:∀h',Te h' e it ((i:Int)+1) x s.heap.objs.size->bc b h' it l (i+1)->h'.get? s.heap.objs.size=Nz {cls:=.type "tuple",data:=.seq #[.int i s.toks,x]}->h'.objs.size=s.heap.objs.size+1->
   (∀b o,b≠e->b≠it->s.heap.get? b=Nz o->h'.get? b=Nz o)->Q (Nz (.ref s.heap.objs.size)) {s with heap:=h',toks:=s.toks+1}):wpAny (model prog w) A (pyNext (.ref e)) Q E s:=by
 have f:s.TypeIs (.ref e) _:=⟨_,g,rfl⟩
 exact Za (Ps (Z4 f P0 (Z1 P0 f SX
   (mV g h n p H λh' a b c d k=>Ze (m _ a b c d k)) (SM _))))
theorem G9{b:Bool}{e l:ND}{i:Nat}{vs:Av}{old:NF}{Q:Ov->NC->Prop}(k:A.handled=none)(d:Q4 s.heap e it i old)(H:bc b s.heap it l i)(m:bK b s.heap l vs)(p:vs[i]?=none)
  (g:∀h',RI it s.heap h'->Q none {s with heap:=h'}):wpAny (model prog w) A (pyNext (.ref e)) Q E s:=by
 have c:s.TypeIs (.ref e) _:=⟨_,d,rfl⟩;refine Za (Ps (Z4 c P0 (Z1 P0 c SX ?_ (SM _))));show wpAny _ _ (field _ 2>>=_) _ _ _;refine Za (Z7 d rfl rfl (Za (sO k H m p λh' y h a=>?_)));obtain⟨o,n,j⟩:=a;exact Za (QX ⟨o,n,j⟩ Sz (Ze (g _ h)))
noncomputable def MW(K:Fg)(b:Bool)(l:ND):It:=
 ⟨λi H=>∃xs x,gj b K H l xs/\xs[i]?=Nz x,
  λi H v H'=>∃T x,v=.ref T/\H T=none/\H'=bg H T (.tup [.int (i:Nat),x])/\∀xs,gj b K H l xs->xs[i]?=Nz x,
  λi H=>∃xs,gj b K H l xs/\xs.length<=i⟩
theorem yB{es:Lx}{x1}{pos:Pos}(b:Bool)(e it l:ND)(hne:e≠it):
  Turn P w K (.Tuple es x1 pos) (MW K b l) [e,it] e (λi h=>(∃old,Q4 h e it i old)/\bc b h it l i) where
 mem:=by simp
 obj:=λi h ⟨⟨old,he⟩,hi⟩ d hd=>by
  simp only[Zi,ZX,or_false]at hd;rcases hd with rfl|rfl
  ·exact⟨_,he,λv q=>by have q':SJ _=TZ v:=q;cases q'⟩
  ·exact bc.obj hi
 keep:=λi h h' ⟨⟨old,he⟩,hi⟩ k=>⟨⟨old,k e (by simp) _ he⟩,hi.at λo q=>k it (by simp) o q⟩
 item:=by
  intro X hP hw hK hc i pq s σ H E I hf st hg;subst hP hw hK;obtain⟨⟨old,he⟩,hi⟩:=st;obtain⟨xs,x,q1,ex⟩:=hg;obtain⟨us,r1,s1⟩:=fQ (b:=b) I q1;obtain⟨u,eu,ru⟩:=r1.get ex;refine G8 he hi s1 (x:=u) (by simpa using eu) hne λh' a1 a2 a3 a4 kk=>?_;refine⟨_,rfl,?_⟩;refine wpAny_letOwnedTupleGo_enum (s:={s with heap:=h',toks:=s.toks+1}) a1 λh2' b1 sb=>?_;have hTn:H s.heap.objs.size=none:=I.hok.fresh (Zg _)
  have kk2:∀c o,c∉[e,it]->s.heap.get? c=Nz o->h2'.get? c=Nz o:=λc o hc q=>by simp only[Zi,ZX,or_false,not_or]at hc;exact(sb.2 c hc.1).trans (kk c o hc.1 hc.2 q)
  have I1:Inv X pq σ H {s with heap:=h2',toks:=s.toks+1}:=jX I kk2 hf
  have hTz:∀c∈[e,it],s.heap.objs.size≠c:=λc hc q=>by
   obtain⟨o,z⟩:∃o,s.heap.get? c=Nz o:=by
    simp only[Zi,ZX,or_false]at hc;rcases hc with rfl|rfl
    ·exact⟨_,he⟩
    ·obtain⟨o,z,_⟩:=bc.obj hi;exact⟨o,z⟩
   exact absurd (Zo z) (by rw[q];exact Yl _)
  have hT2:h2'.get? s.heap.objs.size=Nz {cls:=.type "tuple",data:=.seq #[.int i s.toks,u]}:=(sb.2 _ (hTz e (by simp))).trans a3
  have I2:Inv X pq σ (bg H s.heap.objs.size (.tup [.int (i:Nat),x])) {s with heap:=h2',toks:=s.toks+1}:=by
   have Im:Inv X pq σ (bg H s.heap.objs.size (.tup [.int (i:Nat),x])) {s with heap:=s.heap.push {cls:=.type "tuple",data:=.seq #[.int i s.toks,u]},toks:=s.toks}:=
    I.laid (λb o q=>Zc _ q) (Zg _) ⟨by show 2<=sizeLine;decide,[.int i s.toks,u],.cons ⟨_,rfl⟩ (.cons ru .nil),⟨_,Zk _ rfl,rfl,_,rfl⟩,_,Zk _ rfl,rfl⟩
   refine jX (s:={s with heap:=s.heap.push {cls:=.type "tuple",data:=.seq #[.int i s.toks,u]},toks:=s.toks}) Im (ch:=[e,it]) (λb o hb q=>?_) λb hb=>?_
   ·rcases SK q with⟨rfl,rfl⟩|q'
    ·exact hT2
    ·exact kk2 b o hb q'
   ·obtain⟨f0,f1⟩:=hf b hb;exact⟨by rw[a_ (λz=>hTz b hb z.symm)];exact f0,f1⟩
  refine⟨.ref s.heap.objs.size,bg H s.heap.objs.size (.tup [.int (i:Nat),x]),I2,rfl,⟨s.heap.objs.size,x,rfl,hTn,rfl,λzs hq=>by rw[sR (b:=b) I hq q1];exact ex⟩,
   ⟨⟨u,b1⟩,a2.at λo q=>(sb.2 it (Ne.symm hne)).trans q⟩,λc hc=>?_⟩
  rw[a_ (λz=>hTz c hc z.symm)];exact(hf c hc).1
 done:=by intro X hP hw hK hc i pq s σ H E I hf st hg;subst hP hw hK;obtain⟨⟨old,he⟩,hi⟩:=st;obtain⟨xs,q1,en⟩:=hg;obtain⟨us,r1,s1⟩:=fQ (b:=b) I q1;have hl1:=r1.length;refine G9 (I.ok.hd hc) he hi s1 (by simp;omega) λh' kk=>?_;refine⟨rfl,jX (t':=s.toks) I (ch:=[e,it]) (λc o hc q=>?_) hf⟩;simp only[Zi,ZX,or_false,not_or]at hc;exact kk c o hc.2 q
 self:=λ_ _ _ _ _ st h=>by obtain⟨⟨old,he⟩,_⟩:=st;exact RT ⟨_,he,rfl⟩ Tf (Z1 Tf ⟨_,he,rfl⟩ F.entry_enumerate_iter (Ze ⟨_,rfl,"enumerate",_,⟨_,he,rfl⟩,F.slot_enumerate_next.lookup,h⟩) (F.args_enumerate_iter_1 _))
structure dc (K:Fg)(F:La)(μ:La)(H:Hp)(F':La)(μ':La)(H':Hp):Prop where
 tup:∀a vs,ca K H a vs->ca K H' a vs
 lst:∀a vs,H a=Nz (.lst vs)->a∉μ->a∉F->H' a=Nz (.lst vs)/\a∉μ'/\a∉F'
 frz:∀a vs,r_ K H a vs->r_ K H' a vs
 box:∀(n:Nat) a,μ[n]?=Nz a->μ'[n]?=Nz a
 dct:∀a,H a=Nz (.dK [])->H' a=Nz (.dK [])
 ext:∀a φ,H a=Nz (.ext φ)->a∉F->H' a=Nz (.ext φ)/\a∉F'
section
variable {F':La}
mutual
theorem Rep.chg(x:dc K F μ H F' μ' H'):∀(d:D) (v:V),Rep K ⟨mg,F⟩ μ H d v->Rep K ⟨mg,F'⟩ μ' H' d v
 | .non,_,h=>h
 | .bl _,_,h=>h
 | .int _,_,h=>h
 | .str _,_,h=>h
 | .tup _,v,h=>by obtain⟨a,vs,e,q,r⟩:=h;exact⟨a,_,e,x.tup a _ q,aj.chg x _ _ r⟩
 | .lst _,v,h=>by obtain⟨a,vs,e,q,n,r⟩:=h;obtain⟨b,f,g⟩:=x.lst a _ q n.1 n.2;exact⟨a,_,e,b,⟨f,g⟩,aj.chg x _ _ r⟩
 | .scr _,v,h=>by obtain⟨a,vs,e,q,r⟩:=h;exact⟨a,_,e,x.frz a _ q,aj.chg x _ _ r⟩
 | .ref n,v,h=>by obtain⟨a,e,q⟩:=h;exact⟨a,e,x.box n a q⟩
 | .fn y,v,h=>h
 | .ty y,v,h=>h
 | .dct,v,h=>by obtain⟨a,e,q⟩:=h;exact⟨a,e,x.dct a q⟩
 | .dks _,v,h=>by obtain⟨a,C,e,q,n,r,k⟩:=h;obtain⟨b,f⟩:=x.ext a _ q n;exact⟨a,_,e,b,f,r,λc i=>x.tup _ _ (k c i)⟩
theorem aj.chg(x:dc K F μ H F' μ' H'):∀(ds:List D) (vs:List V),aj K ⟨mg,F⟩ μ H ds vs->aj K ⟨mg,F'⟩ μ' H' ds vs
 | [],vs,h=>h
 |d::ds,vs,h=>by obtain⟨w,W,e,r,q⟩:=h;exact⟨w,_,e,Rep.chg x d w r,aj.chg x _ _ q⟩
end
theorem bb.chg(x:dc K F μ H F' μ' H')(h:bb K ⟨mg,F⟩ μ H ρ σ):bb K ⟨mg,F'⟩ μ' H' ρ σ:=
 ⟨h.1,λi d e=>(by obtain⟨v,a,b⟩:=h.2 i d e;exact(⟨v,a,Rep.chg x _ _ b⟩))⟩
theorem dc.start{o:HO}(h:H acc=none):dc K F μ H (acc::F) μ (bg H acc o):=by
 have x:Ext _ H μ (bg H _ o):=.laid h;refine⟨λa vs q=>x.sqT q,λa vs q b c=>⟨(x.lst q b).1,b,λz=>?_⟩,λa vs q=>x.frz q,λn a q=>q,λa q=>x.keep _ _ q (.inl λ_ z=>by trivial),λa d q c=>⟨x.keep _ _ q (.inl λ_ z=>by trivial),λz=>?_⟩⟩
 ·simp_all
 simp_all
noncomputable def io:HO->Bool
 | .lst _=>NA
 | .ext _=>NA
 |_=>NB
theorem dc.more{u:HO}(d:acc∈F)(h:H acc=Nz u)(f:io u=NA):dc K F μ H F μ (bg H acc u'):=by
 have ne:∀{a:ND} {o:HO},H a=Nz o->io o=NB->a≠acc:=λe n z=>by simp_all
 refine⟨λa vs q=>?_,λa vs q c b=>⟨?_,c,b⟩,λa vs q=>?_,λn a q=>q,λa q=>?_,λa g q b=>⟨by rw[a_ (show a≠acc from λz=>b (by simp_all))];exact q,b⟩⟩
 ·rcases q with(q| ⟨o,q⟩)|q
  ·exact .inl (.inl (by rw[a_ (ne q rfl)];exact q))
  ·exact .inl (.inr ⟨o,by rw[a_ (ne q rfl)];exact q⟩)
  ·exact .inr q
 ·have:a≠acc:=λz=>by simp_all
  rw[a_ this];exact q
 ·rcases q with⟨o,q⟩|q
  ·exact .inl ⟨o,by rw[a_ (ne q rfl)];exact q⟩
  ·exact .inr q
 ·rw[a_ (ne q rfl)];exact q
theorem dc.out:dc K (acc::F) μ H F μ H:=
 ⟨λ_ _ q=>q,λa vs q b c=>⟨q,b,λz=>c (Zb _ z)⟩,λ_ _ q=>q,λ_ _ q=>q,λ_ q=>q,λ_ _ q h=>⟨q,λz=>h (Zb _ z)⟩⟩
theorem dc.outBox:dc K (acc::F) μ H F (μ++[acc]) H:=by
 refine⟨λ_ _ q=>q,λa vs q c b=>⟨q,λz=>?_,λz=>b (Zb _ z)⟩,λ_ _ q=>q,λn a q=>?_,λ_ q=>q,λ_ _ q h=>⟨q,λz=>h (Zb _ z)⟩⟩
 ·rcases Zp.mp z with z|z
  ·exact c z
  ·have:a=acc:=by simpa using z
   subst this;exact b Zd
 ·rw[Zu (Zm.mp q).1];exact q
theorem aO.start{o:HO}(s:aO K ⟨mg,F⟩ μ S H)(h:H acc=none):aO K ⟨mg,acc::F⟩ μ S (bg H acc o):=by
 have x:Ext μ H _ (bg H _ o):=.laid h;refine⟨λa b=>?_,s.len,s.nd,λn a D c d=>?_⟩
 ·rcases Zi.mp b with rfl|b
  ·exact⟨o,dr⟩
  ·obtain⟨O,q⟩:=s.live a b;exact x.there a _ q
 ·obtain⟨vs,q,r⟩:=s.at_ n a _ c d;exact⟨_,by rw[a_ (dF q h)];exact q,aj.chg (.start h) _ _ r⟩
theorem aO.more{u:HO}(s:aO K ⟨mg,F⟩ μ S H)(f:acc∈F)(j:acc∉μ)(h:H acc=Nz u)(i:io u=NA):aO K ⟨mg,F⟩ μ S (bg H acc u'):=by
 refine⟨λa g=>?_,s.len,s.nd,λn a d b c=>?_⟩
 ·by_cases e:a=acc
  ·subst e;exact⟨_,dr⟩
  ·obtain⟨o,q⟩:=s.live a g;exact⟨o,by rw[a_ e];exact q⟩
 ·obtain⟨vs,q,r⟩:=s.at_ n a d b c;have:a≠acc:=λz=>by subst z;exact j (ZA b)
  exact⟨vs,by rw[a_ this];exact q,aj.chg (.more f h i) _ _ r⟩
theorem aO.out(s:aO K ⟨mg,acc::F⟩ μ S H):aO K ⟨mg,F⟩ μ S H:=
 ⟨λa c=>s.live a (Zb _ c),s.len,s.nd,λn a d h b=>by obtain⟨vs,q,r⟩:=s.at_ n a _ h b;exact⟨_,q,aj.chg .out _ _ r⟩⟩
theorem aO.outBox{vs:List V}(s:aO K ⟨mg,acc::F⟩ μ S H)(j:acc∉μ)(h:H acc=Nz (.lst vs))(r:aj K ⟨mg,acc::F⟩ μ H ys vs):aO K ⟨mg,F⟩ (μ++[acc]) (S++[ys]) H:=by
 refine⟨λa e=>s.live a (Zb _ e),by simp[s.len],?_,λn a f c d=>?_⟩
 ·rw[ZN]
  exact⟨s.nd,by simp,λa e b g=>by
   have:b=acc:=by simpa using g
   subst this;intro z;subst z;exact j e⟩
 ·have i:=s.len;by_cases k:n<μ.length
  ·rw[Zu k]at c;rw[Zu (by omega)]at d;obtain⟨w,q,R⟩:=s.at_ n a f c d;exact⟨w,q,aj.chg .outBox _ _ R⟩
  ·have E:n=μ.length:=by
    have:=(Zm.mp c).1;simp at this;omega
   subst E;rw[Zs (Zg _)]at c;rw[Zs (by omega)]at d;simp[i]at c d;subst c;subst d;exact⟨vs,h,aj.chg .outBox _ _ r⟩
theorem Ext.more{o:HO}(x:Ext μ H μ1 H1)(h:H acc=none):Ext μ H μ1 (bg H1 acc o):=
 ⟨x.pre,λa u e c=>by rw[a_ (dF e h)];exact x.keep a u e c,λa u e=>by rw[a_ (dF e h)];exact x.there a u e,x.fresh⟩
theorem Ext.outBox(x:Ext μ H μ1 H1)(h:H acc=none):Ext μ H (μ1++[acc]) H1:=by
 obtain⟨r,e⟩:=x.pre;refine⟨⟨r++[acc],by simp_all⟩,x.keep,x.there,λa b=>?_⟩;rcases Zp.mp b with b|b
 ·exact x.fresh a b
 simp_all
end
noncomputable def aR:iH->aa->Nat->Option (Option D)
 | .items xs=>λ_ i=>Nz xs[i]?
 | .live _ get=>get
def eV(K:Fg)(m:GS)(J:It)(get:aa->Nat->Option (Option D))(μ:La)(H:Hp):Prop:=
 ∀(i:Nat) μ' S' H' F',dc K m.F μ H F' μ' H'->aO K ⟨m.mg,F'⟩ μ' S' H'->
  (∀x,get S' i=Nz (Nz x)->J.go i H'/\∀y H'',J.yld i H' y H''->Ext μ' H' μ' H''/\aO K ⟨m.mg,F'⟩ μ' S' H''/\Rep K ⟨m.mg,F'⟩ μ' H'' x y)/\(get S' i=Nz none->J.stop i H')
noncomputable def tI(K:Fg)(m:Mg)(E:XK)(Φ:FT)(Γ:Str->Option D)(c:CE):TI:=λσ H R=>∃F μ ρ S,aO K ⟨m,F⟩ μ S H/\bb K ⟨m,F⟩ μ H ρ σ/\am K ⟨m,F⟩ E (λμ' H' its J=>eV K ⟨m,F⟩ J (aR its) μ' H') μ H R (aK Φ Γ c ρ S)
theorem dc.refl:dc K F μ H F μ H:=⟨λ_ _ q=>q,λ_ _ q a b=>⟨q,a,b⟩,λ_ _ q=>q,λ_ _ q=>q,λ_ q=>q,λ_ _ q h=>⟨q,h⟩⟩
theorem dc.trans{d e c:La}{f:Hp}(a:dc K F μ H d μ1 H1)(b:dc K d μ1 H1 e c f):dc K F μ H e c f:=
 ⟨λx vs q=>b.tup x _ (a.tup x _ q),λx vs q g i=>by obtain⟨p,P,j⟩:=a.lst x _ q g i;exact b.lst x _ p P j,λx vs q=>b.frz x _ (a.frz x _ q),λn x q=>b.box n x (a.box n x q),λx q=>b.dct x (a.dct x q),λx k q h=>by obtain⟨p,P⟩:=a.ext x _ q h;exact b.ext x _ p P⟩
theorem dc.of_ext{b:La}(x:Ext μ H μ' H')(d:∀a∈b,a∈F\/H a=none):dc K F μ H b μ' H':=by
 refine⟨λa vs q=>x.sqT q,λa vs q c h=>⟨(x.lst q c).1,(x.lst q c).2,λz=>?_⟩,λa vs q=>x.frz q,λn a q=>x.get q,λa q=>x.keep _ _ q (.inl λ_ z=>by lia),λa e q h=>⟨x.keep _ _ q (.inl λ_ z=>by lia),λz=>?_⟩⟩<;>rcases d a z with z|z
 ·exact h z
 ·simp_all
 ·exact h z
 simp_all
section
variable {E:XK}{l:Expr}{pos:Pos}{c:CE}
theorem sT{R:It->Hp->Prop}{xs:List V}(I:Inv X pq σ H s)(c:c8 X.K H a xs)(q:R (Eu X.K a) H):wpAny (model X.prog X.w) X.A (pyIter (.ref a)) (Et X pq σ tg R) E' s:=by
 obtain⟨i,r,p,d⟩:=I.list c;refine Yo p.isList ?_;refine⟨_,_,_,_,H,rfl,I.kept λb o e=>Zc _ e,Fa a _,⟨_,Zk _ rfl,rfl,rfl⟩,λb h=>?_,q⟩;have e:=by simpa using h
 subst e;exact I.fpOk (Zg _) (I.hok.fresh (Zg _))
theorem G_{R:It->Hp->Prop}{xs:List V}(I:Inv X pq σ H s)(c:ca X.K H a xs)(q:R (E_ X.K a) H):wpAny (model X.prog X.w) X.A (pyIter (.ref a)) (Et X pq σ tg R) E' s:=by
 obtain⟨i,r,p,d⟩:=I.tuple c;refine Yi (show s.heap.IsTuple a _ from p) ?_;refine⟨_,_,_,_,H,rfl,I.kept λb o e=>Zc _ e,Fb a _,⟨_,Zk _ rfl,rfl,rfl⟩,λb h=>?_,q⟩;have e:=by simpa using h
 subst e;exact I.fpOk (Zg _) (I.hok.fresh (Zg _))
theorem yC{m:GS}{vs:List V}{i:Nat}(r:aj K m μ H ds vs)(h:aR (.items ds) S i=Nz none):vs.length<=i:=by have a:=Oc.mp (by simpa[aR]using h);have b:=r.length;simp_all
theorem yD{m:GS}{vs:List V}(h:∀F' μ' H',dc K m.F μ H F' μ' H'->c8 K H' a vs)(r:aj K m μ H ds vs):eV K m (Eu K a) (aR (.items ds)) μ H:=by
 intro i μ' S H' F' c s;have l:=r.length;refine⟨λy b=>?_,λk=>⟨vs,h _ _ _ c,yC r k⟩⟩;have b:ds[i]?=Nz y:=by simpa[aR]using b
 obtain⟨v,f,j⟩:=r.get b;refine⟨⟨vs,v,h _ _ _ c,f⟩,λz g d=>?_⟩;obtain⟨rfl,d⟩:=d;have e:=d vs (h _ _ _ c);rw[f]at e;cases e;exact⟨.refl,s,Rep.chg c _ _ j⟩
theorem G'{m:GS}{vs:List V}(h:ca K H a vs)(r:aj K m μ H ds vs):eV K m (E_ K a) (aR (.items ds)) μ H:=by
 intro i l S n F c s;have o:=r.length;refine⟨λy b=>?_,λk=>⟨vs,c.tup _ _ h,yC r k⟩⟩;have b:ds[i]?=Nz y:=by simpa[aR]using b
 obtain⟨v,f,j⟩:=r.get b;refine⟨⟨vs,v,c.tup _ _ h,f⟩,λz g d=>?_⟩;obtain⟨rfl,d⟩:=d;have e:=d vs (c.tup _ _ h);rw[f]at e;cases e;exact⟨.refl,s,Rep.chg c _ _ j⟩
theorem Ha{M:GS}(g:μ[n]?=Nz a):eV K M (Eu K a) (bP n) μ H:=by
 intro i o S p F C s;have f:n<S.length:=by rw[<-s.len];exact(Zm.mp (C.box _ _ g)).1
 have j:=Zf f;obtain⟨vs,b,r⟩:=s.at_ n a _ (C.box _ _ g) j;have f:=r.length;refine⟨λy h=>?_,λm=>⟨_,.of b,?_⟩⟩
 ·unfold bP at h;rw[j]at h;simp at h;obtain⟨v,d,l⟩:=r.get h;refine⟨⟨_,v,.of b,d⟩,λz k c=>?_⟩;obtain⟨rfl,c⟩:=c;have e:=c _ (.of b);rw[d]at e;cases e;exact⟨.refl,s,l⟩
 ·unfold bP at m;simp_all
theorem yE(y:PE X l (tE X.K X.mg E Φ Γ c)):PI X tg l (tI X.K X.mg E Φ Γ (.seq c)):=by
 intro P s K H R I h;obtain⟨F,G,J,S,B,t,w⟩:=h;refine a' (y P s K H _ I ⟨F,G,J,S,B,t,am.bind w⟩) λu L Z=>?_;obtain⟨v,H1,j,k,e,q,d,M,b,g,W⟩:=Z;cases d with
 |tup D=>obtain⟨a,vs,rfl,f,r⟩:=b3 g;cases k;exact G_ j f (W e H1 _ .refl b (G' f r))
 |lst D=>unfold Rep at g;obtain⟨a,vs,rfl,f,i,r⟩:=g;cases k;exact sT j (.of f) (W e H1 _ .refl b (yD (λo m p C=>.of (C.lst a vs f i.1 i.2).1) r))
 |scr D=>unfold Rep at g;obtain⟨a,vs,rfl,f,r⟩:=g;cases k;exact sT j f.sq (W e H1 _ .refl b (yD (λo m p C=>(C.frz a vs f).sq) r))
 |ref n=>
  have A:=g;unfold Rep at g;obtain⟨a,rfl,i⟩:=g;cases k;have z:n<q.length:=by rw[<-b.len];exact(Zm.mp i).1
  obtain⟨vs,x,r⟩:=b.at_ n a _ i (Zf z);exact sT j (.of x) (W e H1 _ .refl b (Ha i))
 |_=>exact W.elim
theorem yF(lo:Int)(n:Nat):(eS lo n).length=n:=by
 induction n generalizing lo with
 |zero=>rfl
 |succ n i=>unfold eS;simp_all
theorem Hc(lo:Int)(n i:Nat)(h:i<n):(eS lo n)[i]?=Nz (.int (lo+i)):=by
 induction n generalizing lo i with
 |zero=>omega
 |succ n I=>
  unfold eS;cases i with
  |zero=>simp
  |succ i=>rw[Zl,I (lo+1) i (by omega)];congr 2;omega
theorem yG{m:GS}(lo:Int)(n:Nat):eV K m (wt lo n) (aR (.items (eS lo n))) μ H:=by
 intro i d S e F C s;refine⟨λy h=>?_,λa=>?_⟩
 ·have h:=by simpa[aR]using h
  have a:=by have:=(Zm.mp h).1;rwa [yF]at this
  rw[Hc _ n i a]at h;cases h;refine⟨a,λz b c=>?_⟩;obtain⟨rfl,rfl⟩:=c;exact⟨.refl,s,bI⟩
 ·have:(eS lo n)[i]?=none:=by simpa[aR]using a
  have:=Oc.mp this;rw[yF]at this;exact this
variable {es:Lx}{cs:List CE}{a b:CE}{r:Expr}
theorem jZ{m:GS}{Q:List V->Hp->Prop}(w:am K m E (aj K m) μ H Q (al Φ Γ cs ρ S)):am K m E (aj K m) μ H (λvs H'=>vs.length=cs.length/\Q vs H') (al Φ Γ cs ρ S):=by
 cases e:al _ _ _ _ S with
 |ok d a=>rw[e]at w;intro b H' vs x s r;refine⟨?_,w _ _ _ x s r⟩;rw[<-r.length,sL e]
 |err y a=>rw[e]at w;exact w
 |fail=>rw[e]at w;exact w
theorem Hd(O:cI X cell N sc CX E Φ Γ k)(h:bB sc "range"=NA)(i:b7 l=NA)(g:cs.length=1)(f:PA X [l] (tL X.K X.mg E Φ Γ cs)):PI X tg (.Call (.Name "range" p2) [l] [] pos) (tI X.K X.mg E Φ Γ (.range cs)):=by
 obtain⟨d,_,_⟩:=dR h;intro p s u H R I ⟨F,q,t,S,o,e,w⟩;refine Fe (O.gl d) (O.mod.bl _ (by decide+kernel)) f (by rw[da i];rfl) p s u H R I ⟨F,q,t,S,o,e,(jZ (am.bind w)).mono λvs H1 z=>?_⟩;obtain⟨y,b,x,D,A,n,r,W⟩:=z;have a:=r.length;split at W
 ·rename_i j;split at W
  ·rename_i c;obtain⟨v,rfl,m⟩:=r.one;cases aJ m;exact⟨j,rfl,c.1,c.2,W b H1 _ .refl n (yG 0 j.toNat)⟩
  ·exact W.elim
 ·simp only[ZJ,Oj]at a;omega
 ·exact W.elim
theorem He(O:cI X cell N sc CX E Φ Γ k)(h:bB sc "range"=NA)(p:b7 l=NA)(a:b7 r=NA)(n:cs.length=2)(m:PA X [l,r] (tL X.K X.mg E Φ Γ cs)):PI X tg (.Call (.Name "range" p2) [l,r] [] pos) (tI X.K X.mg E Φ Γ (.range cs)):=by
 obtain⟨g,_,_⟩:=dR h;intro P s A H R I ⟨F,x,y,S,u,f,w⟩;refine Ff (O.gl g) (O.mod.bl _ (by decide+kernel)) m (by rw[da p,da a];rfl) (by rw[da a];rfl) P s A H R I ⟨F,x,y,S,u,f,(jZ (am.bind w)).mono λvs H1 z=>?_⟩;obtain⟨C,d,B,D,G,t,e,W⟩:=z;have b:=e.length;split at W
 ·simp only[ZJ,Oj]at b;omega
 ·rename_i i j;split at W
  ·rename_i o;obtain⟨v,V,rfl,q,c⟩:=e.two;cases aJ q;cases aJ c;exact⟨i,j,rfl,o,W d H1 _ .refl t (yG i (j-i).toNat)⟩
  ·exact W.elim
 ·exact W.elim
theorem yH(n:Nat):(cV n).length=n:=by
 induction n with
 |zero=>rfl
 |succ n i=>unfold cV;simp_all
theorem Hf(n i:Nat)(h:i<n):(cV n)[i]?=Nz (.int ((n:Int)-1-i)):=by
 induction n generalizing i with
 |zero=>omega
 |succ n I=>
  unfold cV;cases i with
  |zero=>rw[Zj];congr 2;omega
  |succ i=>rw[Zl,I i (by omega)];congr 2;omega
theorem Hg{m:GS}(n:Nat):eV K m (G2 n) (aR (.items (cV n))) μ H:=by
 intro i d S e F C s;refine⟨λy h=>?_,λa=>?_⟩
 ·have h:=by simpa[aR]using h
  have a:=by have:=(Zm.mp h).1;rwa [yH]at this
  rw[Hf n i a]at h;cases h;refine⟨a,λz b c=>?_⟩;obtain⟨rfl,rfl⟩:=c;exact⟨.refl,s,bI⟩
 ·have:(cV n)[i]?=none:=by simpa[aR]using a
  have:=Oc.mp this;rw[yH]at this;exact this
theorem sU(O:cI X cell N sc CX E Φ Γ k)(h:bB sc "reversed"=NA)(h':bB sc "range"=NA)(f:b7 l=NA)(d:PA X [l] (tL X.K X.mg E Φ Γ cs)):PI X tg (.Call (.Name "reversed" p1) [.Call (.Name "range" p2) [l] [] p3] [] pos) (tI X.K X.mg E Φ Γ (.down cs)):=by
 obtain⟨b,_,_⟩:=dR h;obtain⟨c,_,_⟩:=dR h';intro p s o H R I ⟨F,_,_,S,m,e,w⟩;refine mU (O.gl b) (O.mod.bl _ (by decide+kernel)) (O.gl c) (O.mod.bl _ (by decide+kernel)) d (by rw[da f];rfl) _ s _ H R I ⟨F,_,_,S,m,e,(am.bind w).mono λvs H1 ⟨n,_,_,_,i,r,W⟩=>?_⟩;split at W
 ·rename_i j;split at W
  ·rename_i a;obtain⟨v,rfl,g⟩:=r.one;cases aJ g;exact⟨j,rfl,a.1,a.2,W _ _ _ .refl i (Hg _)⟩
  ·exact W.elim
 ·exact W.elim
theorem sV{m:GS}(s:aO K m μ S H)(r:Rep K m μ H d v)(e:av S d=Nz xs):∃a,v=.ref a/\
  ∀μ' S' H' F',dc K m.F μ H F' μ' H'->aO K ⟨m.mg,F'⟩ μ' S' H'->∃ys vs,av S' d=Nz ys/\gj (cU d) K H' a vs/\aj K ⟨m.mg,F'⟩ μ' H' ys vs:=by
 cases d with
 |tup D=>obtain⟨a,vs,rfl,b,q⟩:=b3 r;exact⟨a,rfl,λμ' S' H' F' c f=>⟨_,_,rfl,c.tup _ _ b,aj.chg c _ _ q⟩⟩
 |lst D=>obtain⟨a,vs,rfl,b,h,q⟩:=r;exact⟨a,rfl,λμ' S' H' F' c f=>⟨_,_,rfl,c8.of (c.lst a _ b h.1 h.2).1,aj.chg c _ _ q⟩⟩
 |scr D=>obtain⟨a,vs,rfl,b,q⟩:=r;exact⟨a,rfl,λμ' S' H' F' c f=>⟨_,_,rfl,(c.frz a _ b).sq,aj.chg c _ _ q⟩⟩
 |ref n=>
  obtain⟨a,rfl,h⟩:=r;refine⟨a,rfl,λμ' S' H' F' c f=>?_⟩;have i:n<S'.length:=by rw[<-f.len];exact(Zm.mp (c.box _ _ h)).1
  obtain⟨vs,g,q⟩:=f.at_ n a _ (c.box _ _ h) (Zf _);exact⟨_,_,Zf i,c8.of g,q⟩
 |_=>cases e
theorem iN(h:gb d=Nz xs)(S:aa):av S d=Nz xs:=by unfold gb at h;split at h<;>first|exact h|cases h
theorem Hh{e:D}{its:iH}(h:fB S d e=Nz its):(∃xs ys,av S d=Nz xs/\av S e=Nz ys)/\∀S' i,(∃xs ys,av S' d=Nz xs/\av S' e=Nz ys)->aR its S' i=mE d e S' i:=by
 unfold fB at h;split at h
 ·rename_i xs ys E a;cases h;refine⟨⟨xs,ys,iN E S,iN a S⟩,λS' i _=>?_⟩;show Nz (NL (λx y=>D.tup [x,y]) xs ys)[i]?=_;unfold mE;rw[iN E S',iN a S',QT]
  show Nz _=Nz (match xs[i]?,ys[i]? with
   |some x,Nz y=>Nz (D.tup [x,y])
   |_,_=>none)
  cases xs[i]? <;>cases ys[i]? <;>rfl
 ·split at h
  ·rename_i xs ys E a;cases h;exact⟨⟨xs,ys,E,a⟩,λS' i _=>rfl⟩
  ·cases h
theorem Hi{m:GS}{e:D}{u:V}{its:iH}(j:aO K m μ S H)(rd:Rep K m μ H d v)(re:Rep K m μ H e u)(h:fB S d e=Nz its):
  ∃a b,v=.ref a/\u=.ref b/\(∃vs,gj (cU d) K H a vs)/\(∃vs,gj (cU e) K H b vs)/\eV K m (MV K (cU d) (cU e) a b) (aR its) μ H:=by
 obtain⟨⟨xs,ys,O,P⟩,U⟩:=Hh h;obtain⟨a,rfl,G⟩:=sV j rd O;obtain⟨b,rfl,I⟩:=sV j re P;obtain⟨_,va,_,X,_⟩:=G μ S H m.F .refl j;obtain⟨_,vb,_,Z,_⟩:=I μ S H m.F .refl j;refine⟨a,b,rfl,rfl,⟨va,X⟩,⟨vb,Z⟩,λi f k n F C s=>?_⟩;obtain⟨x,vs,r,Q,R⟩:=G f k n F C s;obtain⟨Y,w,t,l,J⟩:=I f k n F C s;rw[U k i ⟨x,Y,r,t⟩];unfold mE;rw[r,t];have l1:=R.length;have l2:=J.length;refine⟨λy c=>?_,λc=>⟨vs,w,Q,l,?_⟩⟩
 ·have c:=Yk c;cases g1:x[i]? with
  |none=>rw[g1]at c;cases c
  |some p=>
   cases g2:Y[i]? with
   |none=>rw[g1,g2]at c;cases c
   |some q=>rw[g1,g2]at c;cases c;obtain⟨L,A,rp⟩:=R.get g1;obtain⟨M,B,rq⟩:=J.get g2;refine⟨⟨vs,w,L,M,Q,l,A,B⟩,λz N W=>?_⟩;obtain⟨T,x',y',rfl,g,rfl,z1,z2⟩:=W;have E:=z1 vs Q;rw[A]at E;cases E;have o:=z2 w l;rw[B]at o;cases o;refine⟨.laid g,s.laid g,?_⟩;unfold Rep;exact⟨T,[L,M],rfl,ca.of dr,.cons (Rep.mono (.laid g) _ _ rp) (.cons (Rep.mono (.laid g) _ _ rq) .nil)⟩
 grind
theorem vX{i j:Nat}(h:i≠j):n+i≠n+j:=λe=>h (Tg e)
theorem sW{j:Nat}(h:0≠j):n≠n+j:=λe=>h (Tg (n:=n) (by lia))
theorem ip{j:Nat}(h:0≠j):n+j≠n:=λe=>sW h e.symm
theorem Hj:bootBuiltins "zip"=Nz (.type "zip"):=by decide+kernel
theorem yI(O:cI X cell N sc CX E Φ Γ k)(h:bB sc "zip"=NA)(L:eU tg=NA)(K:b7 l=NA)(n:b7 r=NA)(J:PA X [l,r] (tL X.K X.mg E Φ Γ cs)):PI X tg (.Call (.Name "zip" p2) [l,r] [] pos) (tI X.K X.mg E Φ Γ (.zip cs)):=by
 obtain⟨G,_,_⟩:=dR h;intro P s y H R I ⟨F,μ,ρ,S,sk,C,w⟩;refine Call_ (eh I (O.gl G) (O.mod.bl _ (by decide+kernel)) Hj (Z2 (a' (J pos P s y H _ I ⟨F,μ,ρ,S,sk,C,am.bind w⟩) λus f zq=>?_) (da K) (by rw[da n];rfl)));obtain⟨vs,H1,g,rv,o,B,ds,x1,j,Z,W⟩:=zq;split at W
 ·rename_i d e;obtain⟨v,u,rfl,rd,re⟩:=Z.two;cases m:fB B d e with
  |none=>rw[m]at W;exact W.elim
  |some M=>
   rw[m]at W;obtain⟨a,b,rfl,rfl,⟨va,V⟩,⟨vb,Y⟩,ok⟩:=Hi j rd re m;cases rv with
   |cons p q=>
    cases q with
    |cons T U=>
     cases U;cases p;cases T;obtain⟨as,ra,sa⟩:=fQ g V;obtain⟨bs,rb,sb⟩:=fQ g Y;refine GR sa sb λD z z2 z3 z4 z5 z6 Q=>?_;refine wpAny_pyIter_zip z ?_;have A:Inv X P y H1 {f with heap:=D}:=g.kept (t':=f.toks) Q;cases tg with
     |Tuple ts x1 tp=>
      refine⟨f.heap.objs.size+4,[f.heap.objs.size+4,f.heap.objs.size+2,f.heap.objs.size+3,f.heap.objs.size,f.heap.objs.size+1],_,_,H1,rfl,A,
       GU (cU d) (cU e) (f.heap.objs.size+4) (f.heap.objs.size+2) (f.heap.objs.size+3) f.heap.objs.size (f.heap.objs.size+1) a b (vX (by decide)) (vX (by decide)) (sW (by decide)) (vX (by decide)) (vX (by decide)) (ip (by decide)) (vX (by decide)) (ip (by decide)) (vX (by decide)) (sW (by decide)),⟨z,z2,⟨_,_,z3⟩,z4,z5⟩,λc t=>?_,W o H1 _ .refl j ok⟩
      have i:f.heap.objs.size<=c:=by
       simp only[Zi,ZX,or_false]at t;rcases t with rfl|rfl|rfl|rfl|rfl
       ·exact OR _ _
       ·exact OR _ _
       ·exact OR _ _
       ·exact Zg _
       ·exact OR _ _
      exact g.fpOk i (g.hok.fresh i)
     |_=>cases L
 ·exact W.elim
theorem sX:∀(xs:List D) (k i:Nat),(dj k xs)[i]?=(xs[i]?).map λx=>D.tup [.int ((k+i:Nat):Int),x]
 | [],k,i=>rfl
 |x::xs,k,0=>rfl
 |x::xs,k,i+1=>by
  have:=sX xs (k+1) i;have e:(dj k (x::xs))[i+1]?=(dj _ _)[i]? :=rfl
  grind
theorem Hk{m:GS}(j:aO K m μ S H)(R:Rep K m μ H d v)(c:gb d=Nz xs):∃a,v=.ref a/\(∃vs,gj (cU d) K H a vs)/\eV K m (MW K (cU d) a) (aR (.items (dj 0 xs))) μ H:=by
 obtain⟨a,rfl,g⟩:=sV j R (iN c S);obtain⟨_,A,_,Q,_⟩:=g _ S H _ .refl j;refine⟨a,rfl,⟨_,Q⟩,λi t w u F C s=>?_⟩;obtain⟨x,vs,f,q,r⟩:=g _ _ _ _ C s;rw[iN c _]at f;cases f;have L:=r.length;refine⟨λy h=>?_,λh=>⟨_,q,?_⟩⟩
 ·have h:=by simpa[aR]using h
  rw[sX]at h;cases g1:xs[i]? with
  |none=>simp_all
  |some p=>rw[g1]at h;cases h;obtain⟨V,k,o⟩:=r.get g1;refine⟨⟨_,_,q,k⟩,λz l n=>?_⟩;obtain⟨T,X,rfl,b,rfl,Z⟩:=n;have e:=Z _ q;rw[k]at e;cases e;refine⟨.laid b,s.laid b,?_⟩;refine⟨T,_,rfl,ca.of dr,.cons ?_ (.cons (Rep.mono (.laid b) _ _ o) .nil)⟩;rw[Pz];exact bI
 ·have h:(dj 0 xs)[i]?=none:=by simpa[aR]using h
  rw[sX,Option.map_eq_none_iff,Oc]at h;omega
theorem Hl:bootBuiltins "enumerate"=Nz (.type "enumerate"):=by decide+kernel
theorem sY(O:cI X cell N sc CX E Φ Γ k)(h:bB sc "enumerate"=NA)(B:eU tg=NA)(A:b7 l=NA)(y:PA X [l] (tL X.K X.mg E Φ Γ cs)):PI X tg (.Call (.Name "enumerate" p2) [l] [] pos) (tI X.K X.mg E Φ Γ (.enum cs)):=by
 obtain⟨x,_,_⟩:=dR h;rintro n s o H R I ⟨F,V,Y,S,M,t,w⟩;refine Call_ (eh I (O.gl x) (O.mod.bl _ (by decide+kernel)) Hl (Z2 (a' (y pos n s o H _ I ⟨F,V,Y,S,M,t,am.bind w⟩) λus b U=>?_) (da A) rfl));obtain⟨vs,H1,g,J,i,S1,ds,T,f,D,W⟩:=U;split at W
 ·rename_i d;cases hd:gb d with
  |none=>rw[hd]at W;exact W.elim
  |some xs=>
  rw[hd]at W;obtain⟨v,rfl,G⟩:=D.one;obtain⟨a,rfl,⟨va,Q⟩,ok⟩:=Hk f G hd;cases J with
  |cons p q=>
   cases q;cases p;obtain⟨as,ra,L⟩:=fQ g Q;refine G7 L λu z Z z3 C=>?_;have r:Inv X n o H1 {b with heap:=u}:=g.kept (t':=b.toks) C;refine(yB (es:=[]) (x1:=0) (pos:=⟨0,0,0,0⟩) (P:=X.prog) (w:=X.w) (K:=X.K) (cU d) (b.heap.objs.size+1) b.heap.objs.size a (ip (by decide))).self _ _ _ _ _ ⟨⟨.none,z⟩,Z⟩ ?_;cases tg with
   |Tuple ts y1 tp=>
    refine⟨b.heap.objs.size+1,[b.heap.objs.size+1,b.heap.objs.size],_,_,H1,rfl,r,yB (cU d) (b.heap.objs.size+1) b.heap.objs.size a (ip (by decide)),⟨⟨.none,z⟩,Z⟩,λc j=>?_,W i H1 _ .refl f ok⟩
    have e:b.heap.objs.size<=c:=by
     simp only[Zi,ZX,or_false]at j;rcases j with rfl|rfl
     ·exact OR _ _
     ·exact Zg _
    exact g.fpOk e (g.hok.fresh e)
   |_=>cases B
 ·exact W.elim
end
noncomputable def eW(i:Lx)(env:Env):Sem Bool:=forIn i NA (λc r=>if r=NA then do let ok <-isTrue c env (eval c env);pure (N4 ok)else pure (N4 r))
noncomputable def bu(c:Expr)(e:Sem Unit)(g:List N1)(d:Nat)(a:NF)(env:Env):Sem Unit:=match g[d+1]? with
 |some g'=>do
   let x <-eval g'.iter env
   standAt g'.iter.pos
   let x <-if g'.is_async !=0 then foldedIterable g'.iter x else foldedSetIterable g'.iter env x
   let _ <-runOwn (.compStart c (d+1) (<-holding [x] (if g'.is_async !=0 then asyncIter x else pyIter x)) a env) env
 |none=>e
noncomputable def sZ(e:Expr)(a:NF)(env:Env):Sem Unit:=do let _ <-call (.builtin "list.append") [a,<-eval e env]
theorem Hm{C:Expr}{e:Sem Unit}{d:Nat}{it a:NF}{env:Env}{t i:Expr}{fs:Lx}(h:gens[d]?=Nz ⟨t,i,fs,0⟩):
  (do
    let Nz g:=gens[d]? |unsupported "internal:comprehension-depth"
    standAt (if g.is_async !=0 then C.pos else g.iter.pos)
    match <-if g.is_async !=0 then asyncNext it else pyNext it with
    |none=>pure (.done .next)
    |some v=>
     letOwnedTupleGo g.target it v
     assign g.target env v
     let mut ok:=NA
     for c in g.ifs do
      if ok then ok <-isTrue c env (eval c env)
     if ok then
      match gens[d+1]? with
      |some g'=>
       let x <-eval g'.iter env
       standAt g'.iter.pos
       let x <-if g'.is_async !=0 then foldedIterable g'.iter x else foldedSetIterable g'.iter env x
       let _ <-runOwn (.compStart C (d+1) (<-holding [x] (if g'.is_async !=0 then asyncIter x else pyIter x)) a env) env
      |none=>e
     again (.compLoop C d it a env):Sem Fin)=(standAt i.pos>>=λ_=>pyNext it>>=λr=>match r with
   |none=>pure (.done .next)
   |some v=>letOwnedTupleGo t it v>>=λ_=>assign t env v>>=λ_=>(eW fs env>>=λok=>if ok=NA then bu C e gens d a env else pure ())>>=λ_=>
    again (.compLoop C d it a env)):=by
 simp only[h];show(standAt i.pos>>=λ_=>pyNext it>>=_)=_;congr 1;funext _;congr 1;funext r;cases r with
 |none=>rfl
 |some v=>
  show(letOwnedTupleGo t it v>>=λ_=>assign t env v>>=λ_=>_>>=λok=>_)=_;congr 1;funext _;congr 1;funext _
  conv=>rhs;rw[bind_assoc]
  unfold eW;refine Yj (λk=>_>>=k) (funext λok=>?_);cases ok with
  |true=>
   unfold bu;cases gens[d+1]? with
   |none=>rfl
   |some g'=>
    by_cases H:(g'.is_async !=0)=NA
    ·simp_all
    simp_all
  |false=>simp_all
section
variable {em:Sem Unit}{d:Nat}
theorem mW{fs:Lx}{ts:List TT}{t:TU}(e:xL X fs ts)(c:PB X (bu ce em gens d (.ref acc) X.env) t):
  PB X (eW fs X.env>>=λok=>if ok=NA then bu ce em gens d (.ref acc) X.env else pure ()) (xP ts t):=by
 intro p s f H Q I h;refine Za (a' (xN _ _ e _ s _ H _ I h) λb S z=>?_);obtain⟨_,a,q⟩:=z;cases b with
 |false=>exact Ze ⟨_,_,a,q⟩
 |true=>exact c _ _ _ _ Q a q
theorem mX(g:gens[d+1]?=none)(f:PE X elt te):PB X (bu ce (sZ elt (.ref acc) X.env) gens d (.ref acc) X.env) (xO acc te):=by intro p s l H Q I h;unfold bu;rw[g];exact Za (a' (f _ s _ H _ I h) λu S z=>z.elim λv z=>z.elim λ_ z=>z.elim λb z=>z.elim λr z=>z.elim λ_ z=>z.elim λe z=>z.elim λi q=>Za (a' (xa _ _ _ _ (.ref _) _ _ _ (λ_ a=>Q _ a) b rfl (.cons r .nil) ⟨_,_,v,rfl,rfl,e,i,q⟩) λ_ k z=>by obtain⟨_,_,c,_,j⟩:=z;exact(Ze ⟨_,_,c,j⟩)))
theorem Hn{t i:Expr}{fs:Lx}{g:TG}{tb:TU}(c:iG ce=NA)(k:clausesOf ce=gens)(m:∀it:ND,compTurn ce (d+1) (.ref it) (.ref acc) X.env=(standAt i.pos>>=λ_=>pyNext (.ref it)>>=λr=>match r with
   |none=>pure (.done .next)
   |some v=>letOwnedTupleGo t (.ref it) v>>=λ_=>assign t X.env v>>=λ_=>(eW fs X.env>>=λok=>if ok=NA then bu ce em gens (d+1) (.ref acc) X.env else pure ())>>=λ_=>again (.compLoop ce (d+1) (.ref it) (.ref acc) X.env))) (C:X.xe=λ_ _=>False) (B:X.calm=NA) (o:gens[d+1]?=Nz ⟨t,i,fs,0⟩) (hi:PI X t i wi) (hs:∀x,foldedSetIterable i X.env x=pure x) (n:PG X t g)
  (A:PB X (eW fs X.env>>=λok=>if ok=NA then bu ce em gens (d+1) (.ref acc) X.env else pure ()) tb):PB X (bu ce em gens d (.ref acc) X.env) (sx wi g tb):=by
 intro p s G H Q I h;unfold bu;rw[o];show wpAny _ _ (eval i X.env>>=λx=>standAt i.pos>>=λ_=>foldedSetIterable i X.env x>>=λx=>holding [x] (pyIter x)>>=λit=>runOwn (.compStart ce (d+1) it (.ref acc) X.env) X.env>>=λ_=>pure ()) _ _ s;refine Za (a' (hi p s G H _ I h) λv M y=>Za (QN (Za ?_)));rw[hs];refine Ze (Za (Z8 (a' y λD E z=>Za ?_)));obtain⟨it,L,N,J,K,e,w,T,j,F,W⟩:=z;subst e
 have l:codeAny (model X.prog X.w) X.A (.compLoop ce (d+1) (.ref it) (.ref acc) X.env) (λr S=>match r with
   | .ok f=>∃a b,Inv X p a b S/\Q a b
   | .error e=>cameBackBy (model X.prog X.w) X.A X.env X.xe e S) E:=
  xJ (Fin:=Q) c C B (m it) T n A w j F W λS a b u _ q=>⟨a,b,u,q⟩
 refine wpAny_runOwn (h:=none) ?_
 refine Ph (R:=λr S=>match r with
   | .ok f=>∃a b,Inv X p a b S/\Q a b
   | .error e=>cameBackBy (model X.prog X.w) X.A X.env X.xe e S) (xK c (by rw[k];exact o) l (T.self _ 0 _ _ _ j l)) λr S q=>?_
 cases r with
 |ok f=>exact Ze q
 |error e=>exact q
end
noncomputable def ED:List CT->qg
 | []=>wo
 |t::ts=>match t with
  | .var i=>qh (eR i) (ED ts)
  | .tup _=>λ_ _ _ _=>False
noncomputable def qy(K:Fg):CT->TG
 | .var i=>eR i
 | .tup ts=>wq K ts.length (ED ts)
section
variable {E:XK}
theorem qz(O:cI X cell N sc CX E Φ Γ k){i:Nat}{p:Pos}(h:qr cell N sc (.var i)=NA):PG X (.Name (N.getD i "") p) (eR i):=by
 have H:=(ab h).1;have a:=(ab h).2;generalize N.getD i _=x at H a;simp at H a
 have b:L2.Loc X.env.scope x:=by unfold L2.Loc;rw[O.sc];lia
 refine lH (by rw[O.n];exact O.nd) (by rw[O.n];exact H) b ?_;rcases a with z|z
 ·exact .inr (by rw[O.sc];exact z)
 ·exact .inl (O.fn x z.1)
theorem s8{env:Env}:∀{ts:List CT} {es:Lx},((assignEach (gU ts N es) env).length=ts.length/\(assignEach (gU ts N es) env).findIdx? (·.1)=none)
 | [],_=>⟨rfl,rfl⟩
 |t::ts,es=>by
  have i:=s8 (env:=env) (ts:=ts) (es:=es.tail);have e:assignEach (gU (t::ts) N es) env=(NB,assign (iL t N (es.headD dE)) env)::assignEach (gU ts N es.tail) env:=by cases t<;>rfl
  rw[e];exact⟨by rw[ZJ,i.1,ZJ],by rw[List.findIdx?_cons,i.2];rfl⟩
theorem qA(O:cI X cell N sc CX E Φ Γ k):∀{ts:List CT} {es:Lx},sE cell N sc ts=NA->wn X (gU ts N es) (ED ts)
 | [],es,h=>lI
 |t::ts,es,h=>by
  cases t with
  |tup _=>exact λ_ _ _ _ _ _ _ _ _ z=>z.elim
  |var i=>exact E6 (qz O (ab h).1) (qA O (ab h).2)
theorem j0(O:cI X cell N sc CX E Φ Γ k){t:CT}(h:qr cell N sc t=NA):PG X (iL t N e) (qy X.K t):=by
 cases t with
 |var i=>exact qz O h
 |tup T=>exact rf O.calm (qA O h) s8.1 s8.2
theorem qB{F μ:La}{H:Hp}{K:Fg}{m:Mg}{ρ':bC}{Q:L2.St->Hp->Prop}:∀{ts:List CT} {ds:List D} {vs:List V} {ρ:bC} {σ:L2.St},cc ts ds ρ=Nz ρ'->aj K ⟨m,F⟩ μ H ds vs->bb K ⟨m,F⟩ μ H ρ σ->(∀σ',bb K ⟨m,F⟩ μ H ρ' σ'->Q σ' H)->ED ts vs σ H Q
 | [],ds,vs,ρ,σ,h,r,e,q=>by
  cases ds with
  |nil=>cases h;exact⟨r,q _ e⟩
  |cons _ _=>cases h
 |t::ts,ds,vs,ρ,σ,h,r,e,q=>by
  cases t with
  |tup _=>cases h
  |var i=>
   cases ds with
   |nil=>cases h
   |cons d ds=>obtain⟨v,w,rfl,R,a⟩:=r.uncons;exact⟨v,w,rfl,qB h a (e.set R) q⟩
theorem s9{ρ':bC}:∀{ts:List CT} {ds:List D} {ρ:bC},cc ts ds ρ=Nz ρ'->ts.length=ds.length/\ρ'.length=ρ.length
 | [],ds,ρ,h=>by
  cases ds with
  |nil=>cases h;simp_all
  |cons _ _=>cases h
 |t::ts,ds,ρ,h=>by
  cases t with
  |tup _=>cases h
  |var i=>
   cases ds with
   |nil=>cases h
   |cons d ds=>have:=s9 (ts:=ts) h;simp_all
theorem yJ{ρ':bC}{j:Nat}:∀{ts:List CT} {ds:List D} {ρ:bC},cc ts ds ρ=Nz ρ'->(∀i∈fi ts,i≠j)->ρ'[j]?=ρ[j]?
 | [],ds,ρ,h,H=>by
  cases ds with
  |nil=>cases h;rfl
  |cons _ _=>cases h
 |t::ts,ds,ρ,h,H=>by
  cases t with
  |tup _=>cases h
  |var i=>
   cases ds with
   |nil=>cases h
   |cons d ds=>rw[yJ (ts:=ts) h λk a=>H k (Zb _ a),Oi (H i Zd)]
theorem s_{Q:L2.St->Hp->Prop}{t:CT}(h:aE t d ρ=Nz ρ')(r:Rep K ⟨mg,F⟩ μ H d v)(e:bb K ⟨mg,F⟩ μ H ρ σ)
  (q:∀σ',bb K ⟨mg,F⟩ μ H ρ' σ'->Q σ' H):qy K t v σ H Q:=by
 cases t with
 |var i=>cases h;exact q _ (e.set r)
 |tup T=>
  cases d with
  |tup D=>obtain⟨a,vs,rfl,b,R⟩:=b3 r;exact⟨a,_,rfl,b,by rw[<-R.length];exact(s9 h).1.symm,qB h R e q⟩
  |_=>cases h
end
theorem Ho{l:List Nat}{i:Nat}(h:cf ρ l=NA)(hi:i∈l):ρ[i]?=Nz none:=by
 dsimp only[cf]at h
 grind
theorem mY{t:CT}(h:aE t d ρ=Nz ρ'):ρ'.length=ρ.length/\∀j,(∀i∈slots t,i≠j)->ρ'[j]?=ρ[j]? :=by
 cases t with
 |var i=>cases h;exact⟨RN,λj H=>Oi (H i Zd)⟩
 |tup T=>
  cases d with
  |tup D=>exact⟨(s9 h).2,λj H=>yJ h H⟩
  |_=>cases h
theorem Hq{m:GS}{t:CT}(h:aH t d ρ=Nz ρ')(E:bb K m μ H ρ' σ):bb K m μ H ρ σ:=by
 unfold aH at h;by_cases a:cf ρ (slots t)=NA
 ·rw[if_pos a]at h;have g:=mY h;refine⟨by rw[<-E.1,g.1],λj D e=>E.2 j _ ?_⟩;rw[g.2 j λi b z=>by subst z;rw[Ho a b]at e;cases e];exact e
 simp_all
theorem Hr{t:CT}(h:aH t d ρ=Nz ρ'):aE t d ρ=Nz ρ':=by unfold aH at h;simp_all
structure gM (K:Fg)(mg:Mg)(F:La)(acc:ND)(O:List D->List V->HO->Prop)(B:La->Hp->Prop)(μ0:La)(H0:Hp)(μ:La)(S:aa)(H:Hp)(ρ:bC)(σ:L2.St)(ds:List D)(vs:List V):Prop where
 n0:H0 acc=none
 ext:Ext μ0 H0 μ H
 sok:aO K ⟨mg,acc::F⟩ μ S H
 nin:acc∉μ
 env:bb K ⟨mg,acc::F⟩ μ H ρ σ
 at_:∃o,H acc=Nz o/\O ds vs o
 rep:aj K ⟨mg,acc::F⟩ μ H ds vs
 b:B μ H
def iO(K:Fg)(F:La)(B:La->Hp->Prop):Prop:=∀μ H μ1 H1,B μ H->dc K F μ H F μ1 H1->B μ1 H1
noncomputable def eE(K:Fg)(m:Mg)(F:La)(a:ND)(O:List D->List V->HO->Prop)(B:La->Hp->Prop)(b:La)(H:Hp)(ρ:bC)(Q:L2.St->Hp->Prop):Res (List D)->Prop
 | .ok d S'=>∀μ' H' σ' v,gM K m F a O B b H μ' S' H' ρ σ' d v->Q σ' H'
 |_=>False
noncomputable def tB(K:Fg)(m:Mg)(O:ND->List D->List V->HO->Prop)(Φ:FT)(Γ:Str->Option D)(c:CE)(a:ND):TU:=λσ H Q=>∃F B μ0 H0 μ ρ S ds vs,iO K (a::F) B/\gM K m F a (O a) B μ0 H0 μ S H ρ σ ds vs/\eE K m F a (O a) B μ0 H0 ρ Q (aN Φ Γ c ρ ds S)
noncomputable def fD(Φ:FT)(Γ:Str->Option D)(i:List CE)(body:CE)(ρ:bC)(ds:List D)(S:aa):Res (List D):=(ax Φ Γ i ρ S).bind λk S3=>if k=NA then aN Φ Γ body ρ ds S3 else .ok ds S3
noncomputable def tC(K:Fg)(m:Mg)(O:ND->List D->List V->HO->Prop)(Φ:FT)(Γ:Str->Option D)(i:List CE)(c:CE)(a:ND):TU:=λσ H Q=>∃F B μ0 H0 μ ρ S ds vs,iO K (a::F) B/\gM K m F a (O a) B μ0 H0 μ S H ρ σ ds vs/\eE K m F a (O a) B μ0 H0 ρ Q (fD Φ Γ i c ρ ds S)
section
variable {O:List D->List V->HO->Prop}{vs:List V}
theorem gM.next(hB:iO K (acc::F) B)(c:gM K mg F acc O B μ0 H0 μ S H ρ σ ds vs)(x:Ext μ H μ1 H1)(s:aO K ⟨mg,acc::F⟩ μ1 S1 H1):gM K mg F acc O B μ0 H0 μ1 S1 H1 ρ σ ds vs where
 n0:=c.n0
 ext:=c.ext.trans x
 sok:=s
 nin:=λz=>by
  rcases x.fresh _ z with z|z
  ·exact c.nin z
  ·obtain⟨o,e,_⟩:=c.at_;simp_all
 env:=c.env.mono x
 at_:=(by obtain⟨o,e,h⟩:=c.at_;exact(⟨o,x.keep _ _ e (.inr c.nin),h⟩))
 rep:=aj.mono x _ _ c.rep
 b:=hB _ H _ _ c.b (.of_ext x λ_ z=>.inl z)
theorem gM.put{u:HO}(f:iO K (acc::F) B)(c:gM K mg F acc O B μ0 H0 μ S H ρ σ ds vs)(h:H acc=Nz u)(a:io u=NA)(r:Rep K ⟨mg,acc::F⟩ μ H d v)(g:O (ds++[d]) (vs++[v]) u'):gM K mg F acc O B μ0 H0 μ S (bg H acc u') ρ σ (ds++[d]) (vs++[v]):=by
 have C:dc K _ _ H (acc::F) μ (bg H _ u'):=.more Zd h a
 exact{
  n0:=c.n0
  ext:=c.ext.more c.n0
  sok:=c.sok.more Zd c.nin h a
  nin:=c.nin
  env:=c.env.chg C
  at_:=⟨_,dr,g⟩
  rep:=aj.append (aj.chg C _ _ c.rep) (.cons (Rep.chg C _ _ r) .nil)
  b:=f _ _ _ _ c.b C}
theorem Hs{E:XK}:∀{cs:List CE} {σ:L2.St} {Q:Bool->Hp->Prop},aO X.K ⟨X.mg,F⟩ μ S H->bb X.K ⟨X.mg,F⟩ μ H ρ σ->am X.K ⟨X.mg,F⟩ E (λ_ _ a b=>a=b) μ H Q (ax Φ Γ cs ρ S)->mw (cs.map (tT X.K X.mg E Φ Γ)) σ H Q:=by
 intro cs
 induction cs generalizing μ H S with
 |nil=>exact λs e w=>w _ H _ .refl s rfl
 |cons c cs i=>
  intro σ Q s e w;refine⟨F,_,_,S,s,e,(am.bind w).mono λk H1 z=>aM z λg h K x d f W=>?_⟩;subst f;cases K with
  |true=>exact i d (e.mono x) W
  |false=>exact W _ _ _ .refl d rfl
end
section
variable {E:XK}
theorem PB.weak{body:Sem Unit}{t t':TU}(h:PB X body t)(w:∀σ H Q,t' σ H Q->t σ H Q):PB X body t':=λp s σ H Q I q=>h _ s _ H Q I (w _ H Q q)
theorem Ht{vs:List V}{i:List CE}{c:CE}{Q:L2.St->Hp->Prop}
  (h:iO K (acc::F) B) (st:gM K mg F acc (O acc) B μ0 H0 μ S H ρ σ ds vs) (w:eE K mg F acc (O acc) B μ0 H0 ρ Q (fD Φ Γ i c ρ ds S)):
  am K ⟨mg,acc::F⟩ E (λ_ _ a b=>a=b) μ H (λb H1=>if b=NA then tB K mg O Φ Γ c acc σ H1 Q else Q σ H1) (ax Φ Γ i ρ S):=by
 unfold fD at w;cases e:ax _ _ _ _ S with
 |ok k f=>
  rw[e]at w;intro j H1 b x s g;subst g;have d:=st.next h x s;cases k with
  |true=>exact⟨F,B,_,_,_,_,_,_,_,h,d,w⟩
  |false=>exact w _ _ _ _ d
 |err y f=>rw[e]at w;exact w.elim
 |fail=>rw[e]at w;exact w.elim
theorem tf{e:Sem Unit}{d:Nat}{fs:Lx}{i:List CE}{c:CE}(b:xL X fs (i.map (tT X.K X.mg E Φ Γ)))(a:PB X (bu ce e gens d (.ref acc) X.env) (tB X.K X.mg O Φ Γ c acc)):
  PB X (eW fs X.env>>=λok=>if ok=NA then bu ce e gens d (.ref acc) X.env else pure ()) (tC X.K X.mg O Φ Γ i c acc):=
 PB.weak (mW b a) λl H Q z=>r9 z λF B f g j k S D vs h s w=>Hs s.sok s.env (Ht h s w)
def oL(_:ND)(_:List D)(vs:List V)(o:HO):Prop:=o=.lst vs
theorem ti{d:Nat}{c:CE}(k:gens[d+1]?=none)(j:PE X elt (tE X.K X.mg E Φ Γ c)):PB X (bu ce (sZ elt (.ref acc) X.env) gens d (.ref acc) X.env) (tB X.K X.mg oL Φ Γ (.emit c) acc):=
 PB.weak (mX k j) λq H Q z=>r9 z λF B l n o p S D vs g b w=>by
  refine⟨_,_,_,S,b.sok,b.env,?_⟩;dsimp[aN]at w;cases e:ak _ _ c _ S with
  |ok y i=>
   rw[e]at w;intro m H1 v x s r;have a:=b.next g x s;have W:eE _ _ F _ _ B _ _ _ Q (if D.length<bt then .ok _ _ else .fail):=w;by_cases h:D.length<bt
   ·rw[if_pos h]at W;obtain⟨_,f,rfl⟩:=a.at_;exact⟨_,f,by rw[<-a.rep.length];exact h,W _ _ _ _ (a.put g f rfl r rfl)⟩
   ·rw[if_neg h]at W;exact W.elim
  |err y i=>rw[e]at w;exact w.elim
  |fail=>rw[e]at w;exact w.elim
end
noncomputable def j1:iH->Nat
 | .items xs=>xs.length+1
 | .live f _=>f
theorem yK(step:D->List D->aa->Res (List D))(xs:List D):∀(n i:Nat) (acc:List D) (S:aa),i+n=xs.length->bA step (λ_ i=>Nz xs[i]?) (n+1) i acc S=bz step (xs.drop i) acc S
 |0,i,acc,S,h=>by rw[OS (by omega)];dsimp only[bA];have:xs[i]?=none:=Oc.mpr (by omega);rw[this];rfl
 |n+1,i,acc,S,h=>by
  have H:i<xs.length:=by lia
  rw[Ye H];dsimp only[bA];rw[Zf H];show(step _ _ S).bind _=(step _ _ S).bind _;congr 1;funext a b;exact yK _ _ n _ _ _ (by grind)
theorem yL(step:D->List D->aa->Res (List D))(its:iH)(a:List D)(S:aa):bO step its a S=bA step (aR its) (j1 its) 0 a S:=by
 cases its with
 |items x=>exact(yK _ _ _ 0 _ S (by omega)).symm
 |live f get=>rfl
noncomputable def eF(Φ:FT)(Γ:Str->Option D)(tg:CT)(i:List CE)(body:CE)(ρ:bC):D->List D->aa->Res (List D):=λx acc S2=>match aH tg x ρ with
 |some ρ'=>fD Φ Γ i body ρ' acc S2
 |none=>.fail
theorem gM.back{a:La->Hp->Prop}{vs:List V}(c:gM K mg F acc (O acc) B μ0 H0 μ S H ρ σ ds vs)(b:a μ H)(e:bb K ⟨mg,acc::F⟩ μ H ρ' σ'):gM K mg F acc (O acc) a μ0 H0 μ S H ρ' σ' ds vs:=
 ⟨c.n0,c.ext,c.sok,c.nin,e,c.at_,c.rep,b⟩
theorem Hu{tg:CT}{i:List CE}{body:CE}{x:D}(h:aH tg x ρ=Nz ρ'):eF Φ Γ tg i body ρ x ds S=fD Φ Γ i body ρ' ds S:=by unfold eF;rw[h]
theorem Hv{tg:CT}{i:List CE}{body:CE}{x:D}(h:aH tg x ρ=none):eF Φ Γ tg i body ρ x ds S=.fail:=by unfold eF;rw[h]
theorem yM{j:La}{d:La}{k:Hp}{get:aa->Nat->Option (Option D)}{tg:CT}{I:List CE}{body:CE}{Q:L2.St->Hp->Prop}(l:iO K (acc::F) B)(ok:eV K ⟨mg,j⟩ J get d k)
        {vs:List V} (ch:dc K j d k (acc::F) μ H) (st:gM K mg F acc (O acc) B μ0 H0 μ S H ρ σ ds vs) (w:eE K mg F acc (O acc) B μ0 H0 ρ Q (bA (eF Φ Γ tg I body ρ) get n 0 ds S)):
  ∃W:Nat->Nat->L2.St->Hp->Prop,(∃m,W 0 m σ H)/\∀i m σ H,W i m σ H->
   (J.stop i H/\Q σ H)\/(J.go i H/\∃Nx:L2.St->Hp->Prop,(∀σ' H',Nx σ' H'->∃M,M<m/\W (i+1) M σ' H')/\∀x H',J.yld i H x H'->qy K tg x σ H' λf H2=>tC K mg O Φ Γ I body acc f H2 Nx):=by
 refine⟨λi m σ H=>∃μ S ds vs,dc K _ _ _ _ μ H/\gM K _ F _ _ B _ _ μ S H _ σ ds vs/\eE K _ F _ _ B _ _ _ Q (bA _ _ m i ds S),⟨n,_,S,_,_,ch,st,w⟩,?_⟩;rintro i m σ H ⟨μ,S,ds,vs,ch,st,w⟩;cases m with
 |zero=>exact w.elim
 |succ m=>
  unfold bA at w;obtain⟨u,v⟩:=ok i _ S H _ ch st.sok;cases e:get S i with
  |none=>rw[e]at w;exact w.elim
  |some o=>
   cases o with
   |none=>rw[e]at w;exact .inl ⟨v e,w _ H _ _ st⟩
   |some x=>
    rw[e]at w;obtain⟨G,Y⟩:=u x e;refine .inr ⟨G,_,λσ' H' q=>⟨m,Oh m,q⟩,λy H' t=>?_⟩;obtain⟨X,A,R⟩:=Y y _ t;have b:=st.next l X A;have C:=ch.trans (.of_ext X λ_ z=>.inl z);have a:eE K _ F _ _ B _ _ _ Q ((eF _ _ _ _ _ _ x _ S).bind _):=w;cases E:aH _ x _ with
    |none=>rw[Hv E]at a;exact a.elim
    |some U=>
     rw[Hu E]at a;refine s_ (Hr E) R b.env λf g=>?_;refine⟨F,λμ H=>B _ H/\dc K _ _ _ _ _ H,_,_,_,_,S,_,_,λP Z T Hb q c=>⟨l _ _ _ _ q.1 c,q.2.trans c⟩,b.back ⟨b.b,C⟩ g,?_⟩;cases h:fD _ _ _ _ _ _ S with
     |ok r p=>rw[h]at a;intro N H2 σ' L s;exact⟨_,_,_,_,s.b.2,s.back s.b.1 (Hq E s.env),a⟩
     |err z p=>rw[h]at a;exact a.elim
     |fail=>rw[h]at a;exact a.elim
section
variable {E:XK}
theorem mZ{a:Sem Unit}{d:Nat}{t i:Expr}{fs:Lx}{tg:CT}{it:CE}{I:List CE}{body:CE}(f:iG ce=NA)(h:clausesOf ce=gens)(b:∀it:ND,compTurn ce (d+1) (.ref it) (.ref acc) X.env=(standAt i.pos>>=λ_=>pyNext (.ref it)>>=λr=>match r with
   |none=>pure (.done .next)
   |some v=>letOwnedTupleGo t (.ref it) v>>=λ_=>assign t X.env v>>=λ_=>(eW fs X.env>>=λok=>if ok=NA then bu ce a gens (d+1) (.ref acc) X.env else pure ())>>=λ_=>again (.compLoop ce (d+1) (.ref it) (.ref acc) X.env))) (o:X.xe=λ_ _=>False) (m:X.calm=NA) (n:gens[d+1]?=Nz ⟨t,i,fs,0⟩)
  (hi:PI X t i (tI X.K X.mg E Φ Γ it)) (hs:∀x,foldedSetIterable i X.env x=pure x) (c:PG X t (qy X.K tg))
  (l:PB X (eW fs X.env>>=λok=>if ok=NA then bu ce a gens (d+1) (.ref acc) X.env else pure ()) (tC X.K X.mg O Φ Γ I body acc)):PB X (bu ce a gens d (.ref acc) X.env) (tB X.K X.mg O Φ Γ (.inner tg it I body) acc):=
 PB.weak (Hn f h b o m n hi hs c l) λK H Q z=>r9 z λF B q A C G S D vs j g w=>by
  refine⟨_,_,_,S,g.sok,g.env,?_⟩;dsimp[aN]at w;cases e:aK _ _ _ _ S with
  |ok p k=>rw[e]at w;intro u H1 J x s ok;have W:eE _ _ F _ _ B _ _ _ Q (bO _ _ _ _):=w;rw[yL]at W;exact yM j ok .refl (g.next j x s) W
  |err y k=>rw[e]at w;exact w.elim
  |fail=>rw[e]at w;exact w.elim
noncomputable def gk(fr:List (Option Nat)):L2.St->L2.St:=λσ=>fr.map λj=>j.bind λj=>(σ[j]?).join
theorem tj{m:GS}(c:bb K m μ H ρ σ):bb K m μ H (fr.map λj=>j.bind λj=>(ρ[j]?).join) (gk fr σ):=by
 refine⟨by simp[gk],λi d e=>?_⟩;rw[Z0]at e;cases b:fr[i]? with
 |none=>simp_all
 |some o=>
  rw[b]at e;have e:=Yk e;cases o with
  |none=>cases e
  |some j=>
   have E:ρ[j]?.join=Nz d:=e;cases a:ρ[j]? with
   |none=>simp_all
   |some o=>rw[a]at E;subst(E);obtain⟨v,f,k⟩:=c.2 j d a;exact⟨v,by unfold gk;simp_all,k⟩
theorem j3{tg0:Expr}{box:Bool}{tg:CT}{it:CE}{I:List CE}{body:CE}{Q:VK}(h:tE X.K X.mg E Φ Γ (.comp box N' fr tg it I body) σ H Q):
  jH (λ_=>.lst []) (gk fr) (tI X.K X.mg E Φ Γ it) (qy X.K tg) (tC X.K X.mg oL Φ Γ I body) σ H Q:=by
 obtain⟨F,k,m,S,D,t,w⟩:=h;refine⟨F,k,m,S,D,t,?_⟩;simp only[ak]at w;refine am.mono (Rel:=λf l i J=>eV X.K ⟨X.mg,F⟩ J (aR i) f l) (am.bind w) λJ H1 h A a=>?_;obtain⟨d,o,i,M,p,ok,L⟩:=h
 have K:gM X.K X.mg F A (oL A) (λk H=>dc X.K F d H1 (A::F) k H) d H1 d o (bg H1 A (.lst [])) (fr.map λj=>j.bind λj=>(m[j]?).join) (gk fr σ) [] []:={
  n0:=a
  ext:=.laid a
  sok:=p.start a
  nin:=p.notin a
  env:=(tj (t.mono M)).chg (.start a)
  at_:=⟨_,dr,rfl⟩
  rep:=.nil
  b:=.start a}
 refine yM (Q:=λ_ H=>Q (.ref A) H) (B:=λk H=>dc X.K F d H1 (A::F) k H) (n:=j1 i) (λO T P U q c=>q.trans c) ok (.start a) K ?_;have W:am X.K ⟨X.mg,F⟩ E (Rep X.K ⟨X.mg,F⟩) d H1 Q ((bO (eF Φ Γ tg I body (fr.map λj=>j.bind λj=>(m[j]?).join)) i [] o).noErr.bind λY g=>if box=NA then .ok (.ref g.length) (g++[Y])else .ok (.lst Y) g):=L;rw[yL]at W;cases e:bA (eF Φ Γ tg I body (fr.map λj=>j.bind λj=>(m[j]?).join)) (aR i) (j1 i) 0 [] o with
 |ok Y g=>
  rw[e]at W;intro f l R v s;have z:A∉F:=p.notF a;obtain⟨_,r,rfl⟩:=s.at_;cases box with
  |false=>refine W f l (.ref A) s.ext s.sok.out ?_;unfold Rep;exact⟨A,v,rfl,r,⟨s.nin,z⟩,aj.chg .out _ _ s.rep⟩
  |true=>refine W (f++[A]) l (.ref A) (s.ext.outBox a) (s.sok.outBox s.nin r s.rep) ?_;unfold Rep;refine⟨A,rfl,?_⟩;have C:=s.sok.len;rw[Zs (by omega)];simp[C]
 |err y g=>rw[e]at W;exact W.elim
 |fail=>rw[e]at W;exact W.elim
end
noncomputable def bS(l:Bool):Obj:={cls:=.type "set",dict:=none,data:=.set #[] 0 (.fresh 0 0 l)}
theorem Hw{t:ND}{vs:Av}(hh:A.handled=none)(ht:s.heap.IsTuple t vs)(hi:Ru vs.toList ns)(z:vs.size+1<scanBound)
  (h:∀(h':NO) (tk:Nat),h'.SetOf (intKind prog w) s.heap.objs.size (λM=>(firstMet (λi=>ns.getD i 0) vs.size).any (· ==M)) (firstMet (λi=>ns.getD i 0) vs.size).length->
   (∀b o,b<s.heap.objs.size->s.heap.get? b=Nz o->h'.get? b=Nz o)->Q (.ref s.heap.objs.size) {s with heap:=h',toks:=tk}):wpAny (model prog w) A (call (.type "set") [.ref t]) Q E s:=by
 obtain⟨c,tl,X⟩:=F.called_set.mro;have J:=F.called_set.made;have Y:=F.called_set.sub;refine wpAny_call (Qo ?_);show wpAny _ _ (callAny (.type "set") _) _ _ _;refine Ze ⟨Th _ (by decide+kernel),Og F.entry_type_call ?_⟩;rw[SN (T1 "set" [.ref t] []) rfl];have g1:=F.called_set.notType;have g2:=F.called_set.canCreate;have g3:=F.typeCall_set_1 (.ref t)
 repeat(any_goals (first|assumption|wp_step))
 refine Ph (code_set_new_1 (.ref t) (E:=E) (Q₁:=λobj S=>∃l:Bool,obj=.ref s.heap.objs.size/\S={s with heap:=s.heap.push (bS l)}) λl=>⟨l,rfl,rfl⟩) λr S K=>?_;cases r with
 |error e=>exact K
 |ok fl=>
  cases fl with
  |ret obj=>
   obtain⟨l,rfl,rfl⟩:=K;have W:(s.heap.push (bS l)).get? s.heap.objs.size=Nz (bS l):=Zk _ rfl;have hT:Q5 {s with heap:=s.heap.push (bS l)} (.ref s.heap.objs.size) "set":=⟨_,W,rfl⟩;have hli:=F.called_set.init.lookup;have hbi:=F.called_set.init.bind (.ref s.heap.objs.size)
   repeat(any_goals (first|assumption|wp_step))
   refine Ph (codeAny_call_builtin (R:=wants (λr d=>r=.none/\∃h' tk,d={s with heap:=h',toks:=tk}/\h'.SetOf (intKind prog w) s.heap.objs.size (λM=>(firstMet (λi=>ns.getD i 0) vs.size).any (· ==M)) (firstMet (λi=>ns.getD i 0) vs.size).length/\
     (∀b o,b<s.heap.objs.size->s.heap.get? b=Nz o->h'.get? b=Nz o)) E) F.called_set.init.plain F.entry_set_init (check_set_init_1 hT ?_)) λy d H=>?_
   ·obtain⟨⟨Z,j,N,O⟩,u,k,nl,m⟩:=ht;simp only at k m;subst k;subst m;have x:(s.heap.push (bS l)).get? t=Nz {cls:=.type "tuple",dict:=j,data:=.seq vs nl,slots:=O}:=Zc _ u;have q1:=F.sub_tuple_set;have q2:=Tj;have q3:(NN "tuple"==NN "dict")=NB:=by decide
    have n:(s.heap.push (bS l)).IsTuple t vs:=⟨_,x,rfl,nl,rfl⟩;unfold OO.«set.__init__» noKeywords Pm;generalize C:pyIter=PI
    wp_walk
    subst C;refine Yi n (Za (Rn ?_));have p:t<s.heap.objs.size:=Zo u;have G:A.in1.in1.in1.handled=none:=by simp[hh]
    have L:(s.heap.push (bS l)).objs.size=s.heap.objs.size+1:=N6 ..;have q:t≠(s.heap.push (bS l)).objs.size:=by rw[L];exact ZC (Qy p)
    have D:s.heap.objs.size∉[(s.heap.push (bS l)).objs.size,t]:=by rw[L];simp only[Zi,ZX,or_false,not_or];exact⟨ZC (Oh _),OV p⟩
    refine codeAny_set_update_loopS ((Walks.tuple G _ t q vs).toS) s.heap.objs.size D (λi=>ns.getD i 0) (λi v hv=>hi.int_at i v (by rw[ZT];exact hv)) z (vs.size-0) 0 _ (by omega) (Yp _) ⟨⟨_,Zk _ rfl,rfl,rfl⟩,(n.push _)⟩ ?hS0 ?hR
    case hS0=>exact SetOf_congr ((setObjOf_fresh (knd:=intKind prog w) l).setOf (Zc _ W) (by unfold scanBound;omega)) (λ_=>rfl) rfl
    case hR=>intro s' B g;obtain⟨h',g',d',U,P⟩:=s';have eg:g'=s.gens:=B.gens;have ed:d'=s.drawn:=B.drawn;have eo:P=s.os:=B.os;subst eg ed eo;show wpAny _ _ _ _ _ _;refine Ze ?_;show wpAny _ _ (ret NE) _ _ _;refine Ze ⟨rfl,h',U,rfl,g,λb o z e=>B.heap b o ?_ (Zc _ (Zc _ e))⟩;simp only[Zi,ZX,or_false,not_or];rw[L];exact⟨ZC z,ZC (Qy z)⟩
   ·cases y with
    |error e=>exact H
    |ok f=>
     cases f with
     |ret r=>
      obtain⟨rfl,h',tk,rfl,g,I⟩:=H
      repeat(any_goals (first|assumption|wp_step))
      exact h _ _ g I
     |_=>exact H.elim
  |_=>exact K.elim
def iq(xs:Array Nat):Prop:=∀i j (hi:i<xs.size) (h:j<xs.size),i<j->xs[i]<xs[j]
theorem Hy{xs:Array Nat}(h:iq xs)(j:Nat):∀(f lo hi:Nat),hi-lo<=f->lo<=hi->hi<=xs.size->(∀i (g:i<xs.size),i<lo->xs[i]<j)->(∀i (g:i<xs.size),hi<=i->j<=xs[i])->
  lo<=O' xs j f lo hi/\O' xs j f lo hi<=hi/\(∀i (g:i<xs.size),i<O' xs j f lo hi->xs[i]<j)/\(∀i (g:i<xs.size),O' xs j f lo hi<=i->j<=xs[i]):=by
 intro f
 induction f with
 |zero=>
  intro lo hi p r o k l;have:lo=hi:=by omega
  subst this;exact⟨Zg _,Zg _,k,l⟩
 |succ f I=>
  intro lo hi p r o k l;unfold O';split
  ·rename_i t;have m:(lo+hi)/2<xs.size:=by omega
   have q:xs.getD ((lo+hi)/2) j=xs[(lo+hi)/2]:=by simp[SY,m]
   dsimp only;rw[q];split
   ·rename_i g
    obtain⟨a,b,c,d⟩:=I ((lo+hi)/2+1) hi (by omega) (by omega) o (λi H n=>by
     by_cases e:i=(lo+hi)/2
     ·subst e;exact g
     ·exact Sv (h i _ H m (by omega)) g) l
    exact⟨by omega,b,c,d⟩
   ·rename_i g
    obtain⟨a,b,c,d⟩:=I lo ((lo+hi)/2) (by omega) (by omega) (by omega) k (λi H s=>by
     by_cases e:i=(lo+hi)/2
     ·subst e;omega
     ·exact Zw (by omega) (OU (h _ i m H (by omega))))
    exact⟨a,by omega,c,d⟩
  ·have:lo=hi:=by omega
   subst this;exact⟨Zg _,Zg _,k,l⟩
theorem m4{xs:Array Nat}(h:iq xs)(j:Nat):NI xs j<=xs.size/\(∀i (H:i<xs.size),i<NI xs j->xs[i]<j)/\(∀i (H:i<xs.size),NI xs j<=i->j<=xs[i]):=by
 obtain⟨_,b,c,d⟩:=Hy h j xs.size 0 _ (by simp) (by simp) (Zg _) λi _ h=>by simp_all λi H h=>by lia
 exact⟨b,c,d⟩
theorem Hz{xs:Array Nat}(h:iq xs){i:Nat}(hi:i<xs.size):NI xs (xs[i]+1)=i+1:=by
 obtain⟨a,b,c⟩:=m4 h (xs[i]+1)
 have d:i<NI xs (xs[i]+1):=by
  by_cases e:i<NI xs (xs[i]+1)
  ·exact e
  ·have:=c i hi (by omega);omega
 by_cases e:i+1<NI xs (xs[i]+1)
 ·have H:i+1<xs.size:=by omega
  have:=b (i+1) H e;have:=h i (i+1) hi H (by omega);omega
 ·omega
theorem HA(xs:Array Nat)(h:iq xs):NI xs 0=0:=by
 obtain⟨a,b,c⟩:=m4 h 0;by_cases e:0<NI xs 0
 ·have:=b 0 (by lia) e;simp_all
 simp_all
theorem HB{xs:Array Nat}(h:iq xs){j:Nat}(r:∀i (n:i<xs.size),xs[i]≠j):iq (NQ xs (NI xs j) j):=by
 obtain⟨a,b,c⟩:=m4 h j;have q:(NQ xs (NI xs j) j).toList=xs.toList.take (NI xs j)++j::xs.toList.drop (NI xs j):=by unfold NQ;simp;exact Ot (by simp)
 have s:(xs.toList.take (NI xs j)++j::xs.toList.drop (NI xs j)).Pairwise (· < ·):=by
  have n:xs.toList.Pairwise (· < ·):=Yd.mpr λi k e g f=>by simpa using h i k (by simpa using e) (by simpa using g) f
  rw[ZG];refine⟨n.sublist (Qt _ _),ZM.mpr ⟨λy l=>?_,n.sublist (Rw _ _)⟩,λx o y l=>?_⟩
  ·obtain⟨i,e,rfl⟩:=ZD.mp l;rw[PM]at e;rw[TD];have H:NI xs j+i<xs.size:=by simpa using(by omega:NI xs j+i<xs.toList.length)
   have p:=c _ H (by omega);have t:=r _ H;simp only[QY];omega
  ·obtain⟨i,e,rfl⟩:=ZD.mp o;rw[N2]at e;rw[List.getElem_take];have H:i<xs.size:=by simpa using(by omega:i<xs.toList.length)
   have p:=b i H (by omega);simp only[QY];rcases Zi.mp l with rfl|l
   ·exact p
   ·obtain⟨k,g,rfl⟩:=ZD.mp l;rw[PM]at g;rw[TD];have m:NI xs j+k<xs.size:=by simpa using(by omega:NI xs j+k<xs.toList.length)
    have u:=c _ m (by omega);simp only[QY];omega
 intro i k e g f;have d:(NQ xs (NI xs j) j).size=(NQ xs (NI xs j) j).toList.length:=by simp
 have:=Yd.mp (q▸s) i k (by rw[<-d];exact e) (by rw[<-d];exact g) f;simpa using this
theorem yN{l:List Nat}(h:l.Pairwise (· < ·)):iq l.toArray:=λi j a b H=>by have:=Yd.mp h i j (by omega) (by omega) H;trivial
theorem tm{c d:Type}(f:c->Option d):∀l:List c,((l.filterMap λj=>(f j).map (j, ·)).map (·.1)).Sublist l
 | []=>.slnil
 |a::l=>by
  cases e:f a with
  |none=>rw[R_ (by simp_all)];exact(tm f l).cons a
  |some b=>rw[R' (b:=(a,b)) (by simp_all)];exact(tm f l).cons₂ a
open SetTable (Probe runEnd leap bits turns)
noncomputable def m5(mask:Nat)(p:Probe):Probe:=
 if p.more>0 then{p with j:=p.j+1,more:=p.more-1}else
 {p with j:=(leap mask p.i p.perturb).1,more:=runEnd mask (leap mask p.i p.perturb).1-(leap mask p.i p.perturb).1,i:=(leap mask p.i p.perturb).1,perturb:=(leap mask p.i p.perturb).2}
theorem tq(t:NV)(p:Probe):t.advance p=m5 t.mask p:=rfl
noncomputable def pos(mask:Nat):Probe->Nat->Probe
 |p,0=>p
 |p,n+1=>pos mask (m5 mask p) n
noncomputable def jk(mask i p:Nat):Probe:=⟨i,runEnd mask i-i,i,p,none⟩
noncomputable def eX(mask:Nat)(h:Int):Probe:=jk mask (bits h%(mask+1)) (bits h)
theorem iP{mask:Nat}:∀(m n:Nat) (p:Probe),pos mask p (m+n)=pos mask (pos mask p m) n
 |0,n,p=>by rw[Pz];rfl
 |m+1,n,p=>by rw[Nat.succ_add];exact iP m n _
theorem HC(p:Probe)(n:Nat):pos mask p (n+1)=m5 mask (pos mask p n):=iP n 1 p
theorem m6{mask i p:Nat}{d:Option Nat}:∀(k r j:Nat),k<=r->pos mask ⟨j,r,i,p,d⟩ k=⟨j+k,r-k,i,p,d⟩
 |0,r,j,_=>rfl
 |k+1,r,j,h=>by
  show pos _ _ k=_;have:m5 mask ⟨j,r,i,p,d⟩=⟨j+1,r-1,i,p,d⟩:=by dsimp[m5];lia
  rw[this,m6 k _ _ (by lia)];lia
theorem run_next{i p r j:Nat}{d:Option Nat}:pos mask ⟨j,r,i,p,d⟩ (r+1)=⟨(leap mask i p).1,runEnd mask (leap mask i p).1-(leap mask i p).1,(leap mask i p).1,(leap mask i p).2,d⟩:=by rw[HC,m6 r r j (Zg _)];unfold m5;lia
noncomputable def cM(mask:Nat):Nat->Nat×Nat->Nat×Nat
 |0,x=>x
 |r+1,x=>cM mask r (leap mask x.1 x.2)
theorem m7{i:Nat}:runEnd mask i-i<=9:=by unfold runEnd;split<;>omega
theorem j4{mask:Nat}:∀(r:Nat) (x:Nat×Nat),∃n,n<=10*r/\pos mask (jk mask x.1 x.2) n=jk mask (cM mask r x).1 (cM mask r x).2
 |0,x=>⟨0,by simp,rfl⟩
 |r+1,x=>by obtain⟨n,h,e⟩:=j4 r _;have:=m7 (mask:=mask) (i:=x.1);refine⟨runEnd mask x.1-x.1+1+n,by lia,?_⟩;rw[iP];show pos _ (pos _ ⟨_,_,_,_,_⟩ _) n=_;rw[run_next];exact e
theorem yO{mask:Nat}:∀(a b:Nat) (x:Nat×Nat),cM mask (a+b) x=cM mask b (cM mask a x)
 |0,b,x=>by rw[Pz];rfl
 |a+1,b,x=>by rw[Nat.succ_add];exact yO a b _
theorem yP{mask:Nat}:∀(r:Nat) (x:Nat×Nat),x.1<=mask->(cM mask r x).1<=mask
 |0,x,h=>h
 |r+1,x,h=>yP r _ (by show(x.1*5+1+x.2/32)%(mask+1)<=mask;have:=Ro (x.1*5+1+x.2/32) (show 0<mask+1 by simp);lia)
theorem yQ{mask:Nat}:∀(r:Nat) (x:Nat×Nat),(cM mask r x).2=x.2/32^r
 |0,x=>by simp[cM]
 |r+1,x=>by show(cM _ r _).2=_;rw[yQ r];show x.2/32/32^r=_;rw[Nat.div_div_eq_div_mul,Nat.pow_succ,Su]
noncomputable def EE(m:Nat):Nat->Nat->Nat
 |0,i=>i
 |r+1,i=>EE m r ((i*5+1)%m)
noncomputable def yR(m:Nat):Nat->Nat->Nat
 |0,i=>1<<<i
 |r+1,i=>(1<<<i)|||yR m r ((i*5+1)%m)
theorem yS{i e:Nat}(h:(1<<<i).testBit e=NA):i=e:=by rw[Nat.one_shiftLeft,Nat.testBit_two_pow]at h;simp_all
theorem yT{m e:Nat}:∀(r i:Nat),(yR m r i).testBit e=NA->∃k,k<=r/\EE m k i=e
 |0,i,h=>⟨0,Zg _,yS h⟩
 |r+1,i,h=>by
  dsimp only[yR]at h;rw[Nat.testBit_or,QQ]at h;rcases h with h|h
  ·exact⟨0,Yp _,yS h⟩
  ·obtain⟨k,H,e⟩:=yT r _ h;exact⟨k+1,by simp_all,e⟩
theorem m8:∀mask∈[7,31,127],∀i∈NJ (mask+1),yR (mask+1) mask i=2^(mask+1)-1:=by decide+kernel
theorem yU{mask:Nat}:∀(r i:Nat),(cM mask r (i,0)).1=EE (mask+1) r i
 |0,i=>rfl
 |r+1,i=>by show(cM _ r (leap _ i 0)).1=EE _ r _;rw[<-yU r];rfl
def eM(mask:Nat):Prop:=mask∈[7,31,127]
theorem qC(c:eM mask){i p e:Nat}(hi:i<=mask)(d:p<2^64)(f:e<=mask):∃r,r<=mask+13/\(cM mask r (i,p)).1=e:=by
 have h:(cM mask 13 (i,p)).2=0:=by rw[yQ];exact Nat.div_eq_of_lt (ZR d (by decide))
 have H:=yP 13 (i,p) hi;have a:=m8 mask c _ (ZW.mpr (Qz H))
 have b:(yR (mask+1) mask (cM mask 13 (i,p)).1).testBit e=NA:=by rw[a,Nat.testBit_two_pow_sub_one];exact ZO (by omega)
 obtain⟨k,g,E⟩:=yT _ _ b;refine⟨13+k,by omega,?_⟩;rw[yO,show cM mask 13 (i,p)=((cM mask 13 (i,p)).1,0)from SH rfl h,yU];exact E
theorem yV(h:Int):bits h<2^64:=by simp[bits];lia
theorem HD(b:eM mask){e:Nat}(H:e<=mask)(h:Int):∃n,n<10*turns mask/\(pos mask (eX mask h) n).j=e:=by obtain⟨r,d,E⟩:=qC b (i:=bits h%(mask+1)) (by have:=Ro (bits h) (show 0<mask+1 by simp);lia) (yV h) H;obtain⟨n,c,a⟩:=j4 r (bits h%(mask+1),bits h);exact⟨n,by unfold turns;lia,by rw[show eX _ h=jk _ _ _ from rfl,a];exact E⟩
theorem tr{mask:Nat}:∀(n:Nat) {p:Probe},(pos mask p n).dummy=p.dummy
 |0,p=>rfl
 |n+1,p=>by show(pos _ _ n).dummy=_;rw[tr n];unfold m5;split<;>rfl
theorem tu:∀(m:Nat) (l:List Nat),l.length<m->∃e,e<m/\e∉l
 |0,l,h=>by omega
 |m+1,l,h=>by
  by_cases H:m∈l
  ·have b:(l.filter (· !=m)).length<l.length:=List.length_filter_lt_length_iff_exists.mpr ⟨m,H,by simp⟩;obtain⟨e,c,a⟩:=tu m (l.filter (· !=m)) (by omega);refine⟨e,by omega,λz=>a (Zn.mpr ⟨z,?_⟩)⟩;have:e≠m:=by omega
   simpa using this
  ·exact⟨m,Oh m,H⟩
def Fd(mask:Nat)(P:Nat->Prop)(h:Int)(j:Nat):Prop:=∃n,(pos mask (eX mask h) n).j=j/\∀m,m<n->P (pos mask (eX mask h) m).j
theorem Fd.mono{P a:Nat->Prop}{h:Int}{j:Nat}(x:Fd mask P h j)(hs:∀y,P y->a y):Fd mask a h j:=by obtain⟨n,e,f⟩:=x;exact⟨n,e,λm H=>hs _ (f m H)⟩
theorem HE(H:eM mask){pl:List Nat}(j:pl.length<=mask)(h:Int):∃n,n<10*turns mask/\(pos mask (eX mask h) n).j∉pl/\∀m,m<n->(pos mask (eX mask h) m).j∈pl:=by
 obtain⟨e,g,c⟩:=tu (mask+1) pl (by omega);obtain⟨n,d,E⟩:=HD H (e:=e) (by omega) h
 have K:∀n,(pos mask (eX mask h) n).j∉pl->∃k,k<=n/\(pos mask (eX mask h) k).j∉pl/\∀m,m<k->(pos mask (eX mask h) m).j∈pl:=by
  intro n
  induction n using Nat.strongRecOn with
  |ind n i=>
   intro f;by_cases z:∃m,m<n/\(pos mask (eX mask h) m).j∉pl
   ·obtain⟨m,H,a⟩:=z;obtain⟨k,b,r⟩:=i m H a;exact⟨k,by omega,r⟩
   ·exact⟨n,Zg _,f,λm H=>O5 λa=>z ⟨m,H,a⟩⟩
 obtain⟨k,b,r⟩:=K n (by rw[E];exact c);exact⟨k,by omega,r⟩
structure Tk (t:NV)(hs:Li):Prop where
 dum:t.dummies= #[]
 ris:iq t.place
 siz:t.place.size=hs.length
 msk:eM t.mask
 ful:t.tooFull=NB
 fnd:∀x∈hs.zip t.place.toList,Fd t.mask (· ∈t.place.toList) x.1 x.2
theorem HF{xs:Array Nat}(h:iq xs){i:Nat}(hi:i<xs.size):NI xs xs[i]=i:=by
 obtain⟨a,b,c⟩:=m4 h xs[i];have H:NI xs xs[i]<=i:=by grind
 by_cases z:NI xs xs[i]<i
 ·have:=h _ i (by omega) hi z;have:=c _ (by omega) (Zg _);omega
 ·lia
theorem yW{t:NV}(h:iq t.place){i:Nat}(hi:i<t.place.size):t.slot t.place[i]=.live i:=by unfold TF;rw[HF h _];simp_all
theorem yX{t:NV}(h:iq t.place){j:Nat}(H:j∈t.place.toList):∃i,∃hi:i<t.place.size,t.place[i]=j/\t.slot j=.live i:=by
 obtain⟨i,hi,e⟩:=ZD.mp H;have E:=by simpa using e
 exact⟨i,_,E,by rw[<-E];exact yW h _⟩
theorem yY{t:NV}(h:t.dummies= #[]){j:Nat}(H:j∉t.place.toList):t.slot j=.empty:=by
 unfold TF;dsimp only;rw[if_neg,h]
 ·rfl
 ·intro z;have:=Rt z;exact H (SA.mpr (Array.mem_of_getElem? this))
theorem Tk.fits{t:NV}(x:Tk t hs):t.place.size<=t.mask/\t.fits hs.length=NA:=by
 have h:=x.ful;unfold Qs Qh at h;rw[x.dum]at h;have a:¬((t.place.size+(#[]:Array Nat).size)*5>=t.mask*3):=of_decide_eq_false h;have b:(#[]:Array Nat).size=0:=rfl;have H:t.place.size<=t.mask:=by omega
 refine⟨H,?_⟩;unfold RP Qh;rw[x.siz,x.dum,beq_self_eq_true,Pg];exact ZO (by rw[<-x.siz];omega)
theorem yZ{t:NV}{hashAt:Nat->Int}{h:Int}:∀(n f:Nat) (p:Probe),n<f->p.dummy=none->(∀m,m<n->∃i,t.slot (pos t.mask p m).j=.live i/\hashAt i≠h)->
  (t.slot (pos t.mask p n).j=.empty->Ou t hashAt h f p=Nz (.empty (pos t.mask p n).j none))/\
  (∀i,t.slot (pos t.mask p n).j=.live i->hashAt i=h->Ou t hashAt h f p=Nz (.candidate (pos t.mask p n).j i (pos t.mask p (n+1))))
 |0,f+1,p,_,b,_=>by
  constructor
  ·intro e;have e:t.slot p.j=.empty:=e;dsimp only[Ou];rw[e,b];rfl
  ·intro i e H;have e:t.slot p.j=.live i:=e;dsimp only[Ou];rw[e];dsimp;rw[if_pos (by simp_all)];rfl
 |n+1,f+1,p,g,b,c=>by
  obtain⟨i,H,a⟩:=c 0 (Nat.succ_pos n);have H:t.slot p.j=.live i:=H
  have step:Ou t hashAt h (f+1) p=Ou t hashAt h f (m5 t.mask p):=by
   conv=>lhs;unfold Ou
   rw[H];dsimp;rw[if_neg λz=>a (Rt z),tq]
  rw[step];exact yZ n _ _ (by simp_all) (by rw[show(m5 _ p).dummy=(pos _ p 1).dummy from rfl,tr];exact b) λm d=>c (m+1) (by simp_all)
theorem m9{a:List α}{b:List β}(c:a.length=b.length)(p:Nat)(x:α)(y:β){z:α×β}(H:z∈(a.take p++x::a.drop p).zip (b.take p++y::b.drop p)):z=(x,y)\/z∈a.zip b:=by
 rw[List.zip_append (by simp_all),Ym,Zp,Zi]at H;rcases H with h|h|h
 ·rw[S0,<-List.take_zipWith]at h;exact .inr (P1 h)
 ·exact .inl h
 ·rw[S0,<-List.drop_zipWith]at h;exact .inr (P2 h)
theorem Tk.put{t:NV}(x:Tk t hs){h:Int}(g:(pos t.mask (eX t.mask h) n).j∉t.place.toList)(d:∀m,m<n->(pos t.mask (eX t.mask h) m).j∈t.place.toList):
  let r:=t.put (pos t.mask (eX t.mask h) n).j
  r.1.dummies= #[]/\iq r.1.place/\r.1.place.size=hs.length+1/\r.1.mask=t.mask/\r.1.led=t.led/\r.1.plain=t.plain/\r.2=NI t.place (pos t.mask (eX t.mask h) n).j/\
  ∀z∈(hs.take r.2++h::hs.drop r.2).zip r.1.place.toList,Fd t.mask (· ∈r.1.place.toList) z.1 z.2:=by
 intro r;have c:r.1.place.toList=t.place.toList.take r.2++(pos t.mask (eX t.mask h) n).j::t.place.toList.drop r.2:=Qi _ _ _
 have a:∀y,y∈t.place.toList->y∈r.1.place.toList:=λy H=>by
  rw[c,Zp,Zi];rw[<-O0 r.2 t.place.toList,Zp]at H;rcases H with H|H
  ·exact .inl H
  ·exact .inr (.inr H)
 refine⟨?_,HB x.ris λi j e=>g (by rw[<-e];simp),?_,rfl,rfl,rfl,rfl,λz b=>?_⟩
 ·show(if SetTable.has t.dummies _ then _ else t.dummies)= #[];rw[x.dum];rfl
 ·show(NQ _ _ _).size=_;rw[<-Zv,(QA _ _ _).length_eq,Zv,T2,x.siz]
 ·rw[c]at b;rcases m9 (by rw[<-x.siz,Zv]) _ _ _ b with rfl|b
  ·exact⟨n,rfl,λm f=>a _ (d m f)⟩
  ·exact(x.fnd z b).mono a
abbrev dU:=Array (Option Nat)
def m_(o:dU)(j:Nat):Prop:=∃q,o[j]?=Nz (Nz q)
theorem HG{o:dU}{j:Nat}(H:j<o.size)(h:(o.getD j (Nz 0)).isNone=NB):m_ o j:=by
 have:o.getD j (Nz 0)=o[j]:=by simp_all
 cases e:o[j]with
 |none=>simp_all
 |some q=>exact⟨q,by simp_all⟩
theorem HH{o:dU}{j:Nat}(h:(o.getD j (Nz 0)).isNone=NA):o[j]?=Nz none:=by
 by_cases H:j<o.size
 ·simp_all
 simp_all
theorem y0{mask:Nat}{o:dU}(hs:o.size=mask+1):∀(f i p:Nat),i<=mask->
  (∃j n,OG mask o f i p=Nz j/\(pos mask (jk mask i p) n).j=j/\o[j]?=Nz none/\∀m,m<n->m_ o (pos mask (jk mask i p) m).j)\/
  (OG mask o f i p=none/\∀r,r<f->m_ o (cM mask r (i,p)).1)
 |0,i,p,w=>.inr ⟨rfl,λr h=>by omega⟩
 |f+1,i,p,w=>by
  have y:i+(runEnd mask i-i)=runEnd mask i/\runEnd mask i<=mask:=by unfold runEnd;split<;>omega
  have d:runEnd mask i+1-i=(runEnd mask i-i)+1:=by omega
  have O:∀k,k<=runEnd mask i-i->(o.getD (i+k) (Nz 0)).isNone=NB->m_ o (pos mask (jk mask i p) k).j:=λk b h=>by unfold jk;rw[m6 k _ i b];exact HG (j:=i+k) (by omega) h
  unfold OG;cases c:(NJ (runEnd mask i+1-i)).find? λk=>(o.getD (i+k) (Nz 0)).isNone with
  |some k=>
   obtain⟨t,u,v⟩:=List.find?_range_eq_some.mp c;have b:=ZW.mp u;refine .inl ⟨i+k,k,rfl,?_,HH t,λm g=>O m (by omega) ?_⟩
   ·unfold jk;rw[m6 k _ i (by omega)]
   ·have:=v m g;simpa using this
  |none=>
   have H:=List.find?_eq_none.mp c;have l:∀k,k<=runEnd mask i-i->m_ o (pos mask (jk mask i p) k).j:=λk b=>O k b (by have:=H k (ZW.mpr (by omega));exact TH.mpr this);dsimp only;have x:(leap mask i p).1<=mask:=by show(i*5+1+p/32)%(mask+1)<=mask;have:=Ro (i*5+1+p/32) (show 0<mask+1 by omega);omega
   have a:pos mask (jk mask i p) (runEnd mask i-i+1)=jk mask (leap mask i p).1 (leap mask i p).2:=run_next;rcases y0 hs f (leap mask i p).1 (leap mask i p).2 x with⟨j,n,e,E,q,s⟩| ⟨e,E⟩
   ·refine .inl ⟨j,(runEnd mask i-i+1)+n,e,by rw[iP,a];exact E,q,λm g=>?_⟩;by_cases z:m<=runEnd mask i-i
    ·exact l m z
    ·have:=s (m-(runEnd mask i-i+1)) (by omega);rw[<-a,<-iP]at this;rw[show runEnd mask i-i+1+(m-(runEnd mask i-i+1))=m by omega]at this;exact this
   ·refine .inr ⟨e,λr A=>?_⟩;cases r with
    |zero=>exact l 0 (Yp _)
    |succ r=>exact E r (by omega)
structure Ow (mask:Nat)(hs:Li)(k:Nat)(ow:dU):Prop where
 sz:ow.size=mask+1
 ok:∀j q:Nat,ow[j]?=Nz (Nz q)->q<k/\∃h,hs[q]?=Nz h/\Fd mask (m_ ow) h j
 all:∀q:Nat,q<k->∃j:Nat,ow[j]?=Nz (Nz q)
 inj:∀j j' q:Nat,ow[j]?=Nz (Nz q)->ow[j']?=Nz (Nz q)->j=j'
theorem Ow.hole{o:dU}(x:Ow mask hs k o)(i:k<=mask):∃e,e<=mask/\o[e]?=Nz none:=by
 have a:∀q:Nat,∃j:Nat,q<k->o[j]?=Nz (Nz q):=λq=>by
  by_cases z:q<k
  ·obtain⟨j,e⟩:=x.all q z;exact⟨j,λ_=>e⟩
  ·exact⟨0,λh=>absurd h z⟩
 obtain⟨e,f,g⟩:=Py.tu (mask+1) ((NJ k).map λq=>Classical.choose (a q)) (by simp;omega);refine⟨e,by omega,?_⟩;have H:e<o.size:=by rw[x.sz];exact f
 rw[Oa H];cases d:o[e]with
 |none=>rfl
 |some q=>
  exfalso;have E:o[e]?=Nz (Nz q):=by rw[Oa H,d]
  have b:=(x.ok e q E).1;have c:=Classical.choose_spec (a q) b;exact g (Zq.mpr ⟨q,ZW.mpr b,(x.inj _ _ q E c).symm⟩)
theorem Ow.add(d:eM mask){o:dU}(x:Ow mask hs k o)(B:k<=mask){h:Int}(y:hs[k]?=Nz h):∃j,OG mask o (turns mask) (bits h%(mask+1)) (bits h)=Nz j/\Ow mask hs (k+1) (o.setIfInBounds j (Nz k)):=by
 have l:bits h%(mask+1)<=mask:=by have:=Ro (bits h) (show 0<mask+1 by omega);omega
 rcases y0 x.sz (turns mask) (bits h%(mask+1)) (bits h) l with⟨j,n,f,c,E,p⟩| ⟨f,c⟩
 ·refine⟨j,f,?_⟩;have A:j<o.size:=(O7.mp E).1
  have g:∀i,(o.setIfInBounds j (Nz k))[i]?=if j=i then Nz (Nz k)else o[i]? :=λi=>by
   rw[Array.getElem?_setIfInBounds];split
   ·rename_i z;subst z;first|rfl|rw[if_pos A]
   ·rfl
  have O:∀i,m_ o i->m_ (o.setIfInBounds j (Nz k)) i:=λi ⟨q,b⟩=>by
   unfold m_;rw[g];split
   ·exact⟨k,rfl⟩
   ·exact⟨q,b⟩
  refine⟨by rw[R5];exact x.sz,λi q H=>?_,λq b=>?_,λi I q H a=>?_⟩
  ·rw[g]at H;split at H
   ·rename_i z;subst z;cases H;exact⟨Oh _,h,y,n,c,λm d=>O _ (p m d)⟩
   ·obtain⟨C,s,u,v⟩:=x.ok i q H;exact⟨by omega,s,u,v.mono O⟩
  ·by_cases z:q=k
   ·subst z;exact⟨j,by rw[g,if_pos rfl]⟩
   ·obtain⟨i,H⟩:=x.all q (by omega);exact⟨i,by rw[g,if_neg (λe=>by rw[<-e,E]at H;cases H)];exact H⟩
  ·rw[g]at H a;split at H
   ·rename_i z;cases H;split at a
    ·rename_i Z;omega
    ·have:=(x.ok I k a).1;omega
   ·split at a
    ·cases a;have:=(x.ok i k H).1;omega
    ·exact x.inj i I q H a
 ·exfalso;obtain⟨e,w,t⟩:=x.hole B;obtain⟨r,D,E⟩:=qC d l (yV h) w;obtain⟨q,b⟩:=c r (by unfold turns;omega);rw[E,t]at b;cases b
theorem y8{mask:Nat}(H:eM mask){hs:Li}(a:hs.length<=mask):∀(rest done:Li) (ow:dU),hs=done++rest->Ow mask hs done.length ow->
  ∃o,rest.foldl (λacc h=>do
   let(owner,k) <-acc
   let j <-OG mask owner (turns mask) (bits h%(mask+1)) (bits h)
   pure (owner.setIfInBounds j (Nz k),k+1)) (Nz (ow,done.length))=Nz (o,hs.length)/\Ow mask hs hs.length o
 | [],done,ow,e,x=>by simp_all
 |h::rest,done,ow,e,x=>by obtain⟨j,E,y⟩:=x.add H (by grind) (h:=h) (by simp_all);have:=y8 H a rest (done++[h]) _ (by simp_all) (by rw[Zz];exact y);simp_all
theorem HI(c:eM mask)(b:hs.length<=mask):∃ow,SD mask hs.toArray=Nz ow/\Ow mask hs hs.length ow:=by
 have H:∀j q:Nat,(T3 (mask+1) (none:Option Nat))[j]?=Nz (Nz q)->False:=λj q h=>by rw[Array.getElem?_replicate]at h;split at h<;>cases h
 have a:Ow mask hs ([]:Li).length (T3 (mask+1) none):=⟨by simp,λj q h=>(H j q h).elim,λq h=>(by simp at h),λj J q h=>(H j q h).elim⟩;obtain⟨ow,e,x⟩:=y8 c b hs [] _ rfl a;refine⟨ow,?_,x⟩;unfold SD;rw[List.foldl_toArray];have E:=Yj (Option.map Prod.fst) e;exact E
theorem y9{mask:Nat}{P:Nat->Prop}{hs:Li}:∀(live:List (Nat×Nat)),(∀x∈live,∃h,hs[x.2]?=Nz h/\Fd mask P h x.1)->∀z∈(((live.map (·.2)).filterMap (hs[·]?)).zip (live.map (·.1))),Fd mask P z.1 z.2
 | [],_,z,H=>by simp_all
 |x::live,a,z,H=>by
  obtain⟨h,e,f⟩:=a x Zd;rw[ZV,R' e]at H;rcases Zi.mp H with rfl|H
  ·exact f
  ·exact y9 _ (λy b=>a y (Zb _ b)) z H
theorem HJ{t:NV}(r:eM (NX wanted-1))(C:hs.length*5<(NX wanted-1)*3):
  ∃t' o,t.relaid hs.toArray wanted=Nz (t',o)/\o.toList.Perm (NJ hs.length)/\t'.led=t.led/\t'.plain=t.plain/\Tk t' (o.toList.filterMap (hs[·]?)):=by
 generalize f:NX wanted-1=mask at r C;obtain⟨O,e,x⟩:=HI r (hs:=hs) (by omega)
 have H:∀y∈((NJ (mask+1)).filterMap λj=>(O.getD j none).map (j, ·)),O[y.1]?=Nz (Nz y.2):=λy m=>by
  obtain⟨j,d,E⟩:=Of.mp m;have d:j<O.size:=by rw[x.sz];exact ZW.mp d
  have p:O.getD j none=O[j]:=by simp[SY,d]
  rw[p]at E;cases i:O[j]with
  |none=>rw[i]at E;cases E
  |some q=>rw[i]at E;cases E;exact(Oa d).trans (Yj Nz i)
 have c:∀j q:Nat,O[j]?=Nz (Nz q)->(j,q)∈((NJ (mask+1)).filterMap λj=>(O.getD j none).map (j, ·)):=λj q h=>by
  obtain⟨d,i⟩:=O7.mp h;refine Of.mpr ⟨j,ZW.mpr (by rw[<-x.sz];exact d),?_⟩;have p:O.getD j none=O[j]:=by simp[SY,d]
  rw[p,i];rfl
 have l:=tm (λj=>O.getD j none) (NJ (mask+1));have k:t.relaid hs.toArray wanted=Nz ({mask:=mask,place:=((((NJ (mask+1)).filterMap λj=>(O.getD j none).map (j, ·)).map (·.1)).toArray),dummies:= #[],finger:=t.finger,led:=t.led,moves:=t.movedTo mask,plain:=t.plain},(((NJ (mask+1)).filterMap λj=>(O.getD j none).map (j, ·)).map (·.2)).toArray):=by unfold SetTable.relaid SetTable.laid;rw[f,e];rfl
 rw[k];generalize((NJ (mask+1)).filterMap λj=>(O.getD j none).map (j, ·))=live at*;have g:=List.pairwise_lt_range.sublist l
 have P:(live.map (·.2)).Perm (NJ hs.length):=by
  refine(Qj ?_ List.nodup_range).mpr λq=>?_
  ·rw[Z3]at g;unfold RY;rw[Z3];refine g.imp_of_mem λ{a b} v A w z=>?_;have n:=H b A;rw[<-z]at n;have:=x.inj _ _ _ (H a v) n;omega
  ·rw[ZW,Zq];constructor
   ·rintro⟨y,m,rfl⟩;exact(x.ok _ _ (H y m)).1
   ·intro s;obtain⟨j,d⟩:=x.all q s;exact⟨(j,q),c j q d,rfl⟩
 have G:live.length=hs.length:=by have:=P.length_eq;simpa using this
 have B:((live.map (·.2)).filterMap (hs[·]?)).length=hs.length:=by rw[(P.filterMap (hs[·]?)).length_eq];have:=QR hs.toArray;simpa using Yj Po this
 refine⟨_,_,rfl,P,rfl,rfl,rfl,yN g,?_,r,?_,y9 live λy m=>?_⟩
 ·rw[B];simpa using G
 ·unfold Qs Qh;refine ZQ ?_;simp;omega
 ·obtain⟨_,h,u,n⟩:=x.ok _ _ (H y m);exact⟨h,u,n.mono λj ⟨q,s⟩=>Zq.mpr ⟨(j,q),c j q s,rfl⟩⟩
end Py
variable {ow:Py.dU}
namespace Py
noncomputable def fk(w:N0):Bool:=w.params.followText "set-order"
theorem HK(v:NF){R:Vs}(fin:R (.ref s.heap.objs.size) {s with heap:=s.heap.push (bS (!fk w))}):codeAny (model prog w) A (.call (.builtin "set.__new__") ⟨[.type "set",v],[]⟩) (wants R E) s:=by
 refine Qo (Za (m:=checkBuiltinCall "set.__new__" ⟨[.type "set",v],[]⟩) (PF (F.newCall_set_1 v) (Ze ⟨Qb F.plain_set_new _,Og F.entry_set_new ?_⟩)));rw[NZ F.plain_set_new _];have S:=sub_set_self;unfold OO.«set.__new__» Builtin.Frozenset.newClass;cases s;dsimp only
 wp_walk
 exact Pk (Ze (Za (wpAny_alloc (Ze (Ze fin)))))
open SetTable (Probe turns)
abbrev cW(prog:NU)(w:N0)(h:NO)(k:Li)(a:ND):Prop:=IsTupleKey (intKind prog w) h k a
abbrev hK(prog:NU)(w:N0)(k:Li):Int:=tupleKeyHash (intKind prog w) k
theorem cW.kept{k:Li}(x:cW prog w h k a)(K:∀o,h.get? a=Nz o->h'.get? a=Nz o):cW prog w h' k a:=by obtain⟨o,items,n,g,r⟩:=x;exact⟨o,_,n,K o g,r⟩
theorem y_{k:Li}{vs:Lv}(h:ItemsAre (intKind prog w) k vs):∀v∈vs,∃i t,v=.int i t:=by
 induction h with
 |nil=>simp_all
 |cons a _ I=>
  intro v H;rcases Zi.mp H with rfl|H
  ·obtain⟨t,b⟩:=Qq a;simp_all
  simp_all
theorem zc{k:Li}{Q:Bool->NC->Prop}(x:cW prog w s.heap k a)(q:Q NB s):wpAny (model prog w) A (ofAClassStatement 8 (.ref a)) Q E s:=by
 have c:=x.typeIs;obtain⟨o,items,n,f,_,d,e⟩:=x;have h:=y_ e;unfold ofAClassStatement;refine Za (Qu c ?_);refine Za (Ze ?_);refine Za (Om f d ?_);refine Za ?_;rw[<-S6];refine P8 _ (λR r S=>r.1=none/\S=s/\∀v∈R,∃i t,v=Qa i t) _ ?_ ?_ _ _ ⟨rfl,rfl,h⟩
 ·rintro v R r S ⟨H,rfl,b⟩;obtain⟨i,t,rfl⟩:=b v Zd;exact Ze ⟨rfl,rfl,λu g=>b u (Zb _ g)⟩
 ·rintro⟨j,l⟩ S ⟨H,rfl,_⟩;subst H;exact Ze q
theorem zd{k:Li}{Q:Bool->NC->Prop}(x:cW prog w s.heap k a)(q:Q NA s):wpAny (model prog w) A (hashByValue 8 (.ref a)) Q E s:=by
 have c:=x.typeIs;obtain⟨o,items,n,f,_,d,e⟩:=x;have h:=y_ e;refine Za (Si c F.slot_tuple_hash.lookup ?_);refine Za (Om f d ?_);refine Za ?_;rw[<-S6];refine P8 _ (λR r S=>r.1=none/\S=s/\∀v∈R,∃i t,v=Qa i t) _ ?_ ?_ _ _ ⟨rfl,rfl,h⟩
 ·rintro v R r S ⟨H,rfl,b⟩;obtain⟨i,t,rfl⟩:=b v Zd;exact Ze ⟨rfl,rfl,λu g=>b u (Zb _ g)⟩
 ·rintro⟨j,l⟩ S ⟨H,rfl,_⟩;subst H;exact Ze q
theorem tw{k:Li}{b:ND}(x:cW prog w s.heap k b)(l:Lv){Q:Bool->NC->Prop}(e:∀v∈l,∃K a,v=.ref a/\cW prog w s.heap K a)(q:Q NB s):wpAny (model prog w) A (searchCouldBeSeen (.ref b) l) Q E s:=by
 refine Za ?_;refine P8 _ (λR r S=>r.1=none/\S=s/\∀v∈R,v∈l) _ ?_ ?_ _ _ ⟨rfl,rfl,λ_ h=>h⟩
 ·rintro v R r S ⟨c,rfl,d⟩;obtain⟨K,a,rfl,y⟩:=e v (d v Zd);have g:=λu f=>d u (Zb _ f);by_cases H:(b==a||carriedByValue (.ref b)&&carriedByValue (.ref a))=NA
  ·rw[if_pos H];exact Ze ⟨rfl,rfl,g⟩
  ·rw[if_neg H];refine Za (T4 x ?_);refine Za (T4 y ?_);exact Za (zc x (Za (zc y (Ze ⟨rfl,rfl,g⟩))))
 ·rintro⟨i,j⟩ S ⟨c,rfl,_⟩;subst c;exact Ze q
end Py
namespace Py
open SetTable (Probe turns)
theorem ze{t:NV}(f:iq t.place){hashAt:Nat->Int}{h:Int}{p:Nat->Probe}{n:Nat}(b:∀m,m<n->(p m).j∈t.place.toList):∀(d m:Nat),n-m=d->m<=n->
  ∃M,m<=M/\M<=n/\(∀i,m<=i->i<M->∃q,t.slot (p i).j=.live q/\hashAt q≠h)/\(M=n\/∃q,t.slot (p M).j=.live q/\hashAt q=h)
 |0,m,e,a=>⟨m,Zg _,a,λi c H=>by grind,.inl (by grind)⟩
 |d+1,m,e,a=>by
  obtain⟨q,_,_,l⟩:=yX f (b m (by omega));by_cases z:hashAt q=h
  ·exact⟨m,Zg _,a,λi c H=>by lia,.inr ⟨q,l,z⟩⟩
  ·obtain⟨M,c,H,o,g⟩:=ze f b d (m+1) (by grind) (by lia);refine⟨_,by lia,H,λi j k=>?_,g⟩
   grind
noncomputable def bp(prog:NU)(w:N0)(c:Li×ND):Int×NF:=(hK prog w c.1,.ref c.2)
theorem ng:∀m∈[7,31,127],(m%2==0)=NB:=by decide
theorem HL{b:ND}{t:NV}(g:s.heap.get? a=Nz o)(d:o.data=.set (cs.map (bp prog w)).toArray ep t)(x:Tk t (cs.map λc=>hK prog w c.1))(key:∀c∈cs,cW prog w s.heap c.1 c.2)
  {k:Li} (hx:cW prog w s.heap k b) (hu:A.units<cLine)  (hn:n<10*turns t.mask) (D:(pos t.mask (eX t.mask (hK prog w k)) n).j∉t.place.toList) (O:∀m,m<n->(pos t.mask (eX t.mask (hK prog w k)) m).j∈t.place.toList)
  {Q:SetFound->NC->Prop} (T:k∈cs.map (·.1)->Q (.there none) s) (F:k∉cs.map (·.1)->Q (.free (pos t.mask (eX t.mask (hK prog w k)) n).j NB) s):
  ∀(f m:Nat) (st:Option Probe),n-m<f->m<=n->st.getD (t.probeStart (hK prog w k))=pos t.mask (eX t.mask (hK prog w k)) m->(∀i,i<m->∀(q:Nat) (c),t.slot (pos t.mask (eX t.mask (hK prog w k)) i).j=.live q->cs[q]?=Nz c->c.1≠k)->
   wpAny (model prog w) A (setSearchFrom a (.ref b) (hK prog w k) NA f st) Q E s:=by
 have hsz:(cs.map (bp prog w)).toArray.size=(cs.map λc=>hK prog w c.1).length:=by simp
 have P:t.fits (cs.map (bp prog w)).toArray.size=NA:=by rw[hsz];exact x.fits.2
 have hpl:t.place.size=cs.length:=by rw[x.siz,Zh]
 have X:∀q:Nat,(cs.map (bp prog w)).toArray[q]?=cs[q]?.map (bp prog w):=λq=>by simp
 generalize hP:(λm=>pos t.mask (eX t.mask (hK prog w k)) m)=p;have H:∀m,pos t.mask (eX t.mask (hK prog w k)) m=p m:=λm=>congrFun hP m;intro f
 induction f with
 |zero=>intro m st h;omega
 |succ f ih=>
  intro m st hf hm hst Y;obtain⟨M,h1,h2,h3,h4⟩:=ze (hashAt:=λi=>(((cs.map (bp prog w)).toArray[i]?).map (·.1)).getD 0) (h:=hK prog w k) x.ris (p:=p) (n:=n) (λm hm=>by rw[<-H];exact O m hm) (n-m) m rfl hm;have K:∀i,pos t.mask (p m) i=p (m+i):=λi=>by rw[<-H,<-H,iP]
  obtain⟨g1,g2⟩:=yZ (t:=t) (hashAt:=λi=>(((cs.map (bp prog w)).toArray[i]?).map (·.1)).getD 0) (h:=hK prog w k) (M-m) (10*turns t.mask) (p m) (by omega) (by rw[<-H,tr];rfl) (λi hi=>by rw[K];exact h3 (m+i) (by omega) (by omega));rw[K,show m+(M-m)=M by omega]at g1 g2;rw[K,show m+(M-m+1)=M+1 by omega]at g2;have U:∀(q:Nat) (c),cs[q]?=Nz c->(((cs.map (bp prog w)).toArray[q]?).map (·.1)).getD 0=hK prog w c.1:=λq c e=>by rw[X,e];rfl
  unfold setSearchFrom;refine Za (Od g d P ?_);dsimp only;refine P9 ?_;rw[if_neg (by unfold SetTable.gaveWay;rw[ng _ x.msk];decide),hst,H];generalize hz:t.probe _ _ _=met;rcases h4 with rfl| ⟨q,I,hh⟩
  ·have V:t.slot (p M).j=.empty:=yY x.dum (by rw[<-H];exact D);have e:met=Nz (.empty (p M).j none):=hz.symm.trans (g1 V);subst e;dsimp only;rw[H]at F;refine Ze (F λL=>?_);obtain⟨c,hc,rfl⟩:=Zq.mp L;obtain⟨q,I,e⟩:=ZD.mp hc;have hqp:q<t.place.size:=by omega
   have j:=yW x.ris hqp;have l:cs[q]?=Nz c:=by rw[Zf I,e]
   obtain⟨N,e0,f0⟩:=x.fnd (hK prog w c.1,t.place[q]) (by refine ZD.mpr ⟨q,by simp;omega,?_⟩;simp[e]);have e0:(p N).j=t.place[q]:=by rw[<-H];exact e0
   have hin:(p N).j∈t.place.toList:=by rw[e0];simp
   have hlt:N<M:=by
    by_cases z:N<M
    ·exact z
    ·by_cases zz:N=M
     ·subst zz;exact absurd (by rw[H];exact hin) D
     ·exact absurd (f0 M (by omega)) D
   rw[<-e0]at j;by_cases zz:N<m
   ·exact Y N zz q c (by rw[H];exact j) l rfl
   ·obtain⟨q',Z,C⟩:=h3 N (by omega) hlt;rw[j]at Z;cases Z;exact C (U q c l)
  ·have e:met=Nz (.candidate (p M).j q (p (M+1))):=hz.symm.trans (g2 q I hh);subst e;dsimp only
   have hmn:M<n:=by
    by_cases z:M=n
    ·subst z;rw[yY x.dum (by rw[<-H];exact D)]at I;cases I
    ·omega
   obtain⟨q',hq1,hq2,hq3⟩:=yX x.ris (O M hmn);rw[H,I]at hq3;cases hq3;have hqc:q<cs.length:=by omega
   obtain⟨c,l⟩:∃c,cs[q]?=Nz c:=⟨_,Zf hqc⟩;have G:=ZA l;have hy:=key c G;have W:(cs.map (bp prog w)).toArray[q]?=Nz (hK prog w c.1,.ref c.2):=by rw[X,l];rfl
   have R:wpAny (model prog w) A (do
     let Nz (_,y):=(cs.map (bp prog w)).toArray[q]? |unsupported "internal:set-entry"
     let u <-holding [y] (eqBool y (.ref b))
     let(es',_,t') <-setState a
     if NA&&u then return SetFound.there none
     let Nz same:=t'.sameMemory t.moves t.mask|unsupported "set.changed-during-lookup:is-the-new-block-at-the-old-address"
     let S <-match(if same then t'.slot (p M).j else .empty)with
      | .live i'=>match es'[i']? with
       |some (_,y')=>do pure (if <-isSame y' y then Nz i' else none)
       |none=>pure none
      |_=>pure none
     match S with
     |none=>rule "set.search.anew";setSearchFrom a (.ref b) (hK prog w k) NA f none
     |some i'=>if u then return .there (Nz i')else setSearchFrom a (.ref b) (hK prog w k) NA f (Nz (p (M+1)))) Q E s:=by
    rw[W];dsimp only;refine Za (Z8 (wpAny_eqBool_tuple hu hy hx ?_));refine Za (Od g d P ?_);dsimp only;by_cases L:c.1=k
    ·rw[ZO L];exact Ze (T (Zq.mpr ⟨c,G,L⟩))
    ·rw[ZQ L];have hsm:t.sameMemory t.moves t.mask=Nz NA:=by unfold SetTable.sameMemory;rw[if_pos (beq_self_eq_true _)]
     rw[hsm];dsimp only;simp only[Bool.and_false,Z9,if_false,if_true];rw[I];dsimp only;rw[W];dsimp only;refine Za (wpAny_isSame_ref_self (Za (Ze ?_)));rw[if_pos rfl];dsimp only;refine ih (M+1) (Nz (p (M+1))) (by omega) (by omega) (by rw[H];rfl) λi hi q' c' B r=>?_;rw[H]at B;by_cases z:i<m
     ·exact Y i z q' c' (by rw[H];exact B) r
     ·by_cases zz:i=M
      ·subst zz;rw[I]at B;cases B;rw[l]at r;cases r;exact L
      ·obtain⟨q2,J,C⟩:=h3 i (by omega) (by omega);rw[B]at J;cases J;rw[U _ _ r]at C;exact λe=>C (by rw[e])
   by_cases hl:t.led=NA
   ·rw[hl];exact R
   ·rw[TH.mpr hl];refine P9 ?_;rw[if_pos (by decide)];refine Za (tw hx _ (λv hv=>?_) ?_)
    ·obtain⟨e,he,rfl⟩:=Zq.mp hv;have he2:=(Array.mem_filter.mp (SA.mp he)).1;have he3:e∈cs.map (bp prog w):=by simpa using he2
     obtain⟨c2,r,rfl⟩:=Zq.mp he3;exact⟨c2.1,c2.2,rfl,key c2 r⟩
    ·exact R
end Py
namespace Py
open SetTable (Probe turns)
def HM(prog:NU)(w:N0)(h:NO)(a:ND)(cs:List (Li×ND)):Prop:=∃o ep t,h.get? a=Nz o/\o.ExactSet/\o.data=.set (cs.map (bp prog w)).toArray ep t/\t.led=(!fk w)/\t.plain=NA/\Tk t (cs.map λc=>hK prog w c.1)
structure el (prog:NU)(w:N0)(h:NO)(a:ND)(cs:List (Li×ND)):Prop where
 obj:HM prog w h a cs
 key:∀c∈cs,cW prog w h c.1 c.2
 nod:(cs.map (·.1)).Nodup
theorem el.kept(x:el prog w h a cs)(k:∀b o,h.get? b=Nz o->(b=a\/∃c∈cs,b=c.2)->h'.get? b=Nz o):el prog w h' a cs:=by obtain⟨⟨o,E,t,g,r⟩,y,z⟩:=x;exact⟨⟨o,_,t,k a o g (.inl rfl),r⟩,λc H=>(y c H).kept λo e=>k _ o e (.inr ⟨c,H,rfl⟩),z⟩
theorem zf{t t':NV}(g:h.get? a=Nz o)(E:o.ExactSet)(d:o.data=.set es ep t):
  ∃o',(h.update a (Qp es' t')).get? a=Nz o'/\o'.ExactSet/\o'.data=.set es' (ep+1) t':=by
 have e:(h.update a (Qp _ t')).get? a=Nz _:=NW _ g (by rw[Tl es' _ d];rfl);rw[Tl _ _ d]at e;exact⟨_,e,E,rfl⟩
theorem nh{t:NV}{Q:Unit->NC->Prop}(g:s.heap.get? a=Nz o)(r:o.ExactSet)(d:o.data=.set (cs.map (bp prog w)).toArray ep t)(F:t.fits cs.length=NA)
  (b:eM (NX wanted-1)) (v:cs.length*5<(NX wanted-1)*3) (hw:NX wanted<=128) (l:t.led=(!fk w)) (pl:t.plain=NA)
  (fin:∀h' C,NR a s.heap h'->C.Perm cs->HM prog w h' a C->Q () {s with heap:=h'}):wpAny (model prog w) A (setRelay a wanted) Q E s:=by
 have f:t.fits (cs.map (bp prog w)).toArray.size=NA:=by rw[Zy,Zh];exact F
 obtain⟨T,O,j,P,k,m,x⟩:=HJ (t:=t) (hs:=cs.map λc=>hK prog w c.1) (wanted:=wanted) b (by rw[Zh];exact v);rw[Zh]at P;have p:(O.toList.filterMap (cs[·]?)).Perm cs:=by refine(P.filterMap _).trans (.of_eq ?_);have:=QR cs.toArray;simpa using this
 have X:Tk T ((O.toList.filterMap (cs[·]?)).map λc=>hK prog w c.1):=by
  have:O.toList.filterMap ((cs.map λc=>hK prog w c.1)[·]?)=(O.toList.filterMap (cs[·]?)).map λc=>hK prog w c.1:=by rw[Tn];exact Yj (List.filterMap · _) (funext λi=>Z0)
  rw[<-this];exact x
 have n:O.filterMap ((cs.map (bp prog w)).toArray[·]?)=((O.toList.filterMap (cs[·]?)).map (bp prog w)).toArray:=by apply RU;rw[Sj,Tn];refine Yj (List.filterMap · _) (funext λi=>?_);rw[List.getElem?_toArray,Z0]
 have u:(cs.map (bp prog w)).toArray.map (·.1)=(cs.map λc=>hK prog w c.1).toArray:=by rw[List.map_toArray,ZY];rfl
 unfold setRelay;refine Za (Od g d f ?_);dsimp only;refine P9 ?_;rw[if_neg (by rw[PC];omega),u,j];refine Za ?_;show wpAny _ _ (if((O.filterMap ((cs.map (bp prog w)).toArray[·]?)).size !=(cs.map (bp prog w)).toArray.size)=NA then _ else _) _ _ _;rw[n];generalize O.toList.filterMap (cs[·]?)=C at p X
 have h:(C.map (bp prog w)).toArray.size=(cs.map (bp prog w)).toArray.size:=by rw[Zy,Zy,Zh,Zh,p.length_eq]
 rw[h,bne_self_eq_false,if_neg (by decide)];refine Ze (QL g d ?_ ?_)
 ·obtain⟨y,G,e,D⟩:=zf (es':=(C.map (bp prog w)).toArray) (t':=T) g r d;exact fin _ C (Yb ..) p ⟨y,_,T,G,e,D,k.trans l,m.trans pl,X⟩
 ·refine QM ?_;rw[Zy,Zh,p.length_eq];unfold scanBound;have:=(by simpa[eM]using b:NX wanted-1=7\/NX wanted-1=31\/NX wanted-1=127);omega
theorem zg{b:ND}{k:Li}{Q:Bool->NC->Prop}(x:el prog w s.heap a cs)(hx:cW prog w s.heap k b)(hu:A.units<cLine)(few:cs.length<76)
  (fin:∀h' C r,NR a s.heap h'->el prog w h' a C->(∀K,K∈C.map (·.1)↔K∈cs.map (·.1)\/K=k)->(∀c∈C,c∈cs\/c=(k,b))->C.length<=cs.length+1->Q r {s with heap:=h'}):
  wpAny (model prog w) A (setAddHashed a (.ref b) (hK prog w k)) Q E s:=by
 obtain⟨o,ep,t,g,ex,d,M,W,T⟩:=x.obj;have N:∀{K:Li} {Y:ND},cW prog w s.heap K Y->Y≠a:=λ{K Y} y e=>by obtain⟨o',_,_,g',_,d',_⟩:=y;subst e;rw[g]at g';cases g';rw[d]at d';cases d'
 have D:t.fits (cs.map (bp prog w)).toArray.size=NA:=by have:=T.fits.2;rw[Zh]at this;rw[Zy,Zh];exact this
 have hsz:t.place.size=cs.length:=by rw[T.siz,Zh]
 obtain⟨n,hn,J,B⟩:=HE T.msk (pl:=t.place.toList) (by rw[Zv];exact T.fits.1) (hK prog w k);have hmsk:=(by simpa[eM]using T.msk:t.mask=7\/t.mask=31\/t.mask=127);unfold setAddHashed setAddHashedIn;refine Z8 (Za (Od g d D ?_));dsimp only;refine P9 ?_;rw[if_neg (show ¬byScan (.ref b) (cs.map (bp prog w)).toArray=NA by unfold byScan;rw[show(Oy b).scannable=NB from rfl];simp)];unfold setSearch;refine Za (HL g d T x.key hx hu hn J B (λhin=>?_) (λL=>?_) 100000 0 none (by unfold turns at hn;omega) (Yp _) rfl (λi hi=>by omega))
 ·exact Ze (fin s.heap cs NB (R6 ..) x (λK=>⟨.inl,λz=>z.elim id λe=>e▸hin⟩) (λc l=>.inl l) (Nat.le_succ _))
 ·dsimp only;refine Za (Od g d D ?_);dsimp only;obtain⟨p1,p2,O,R,p5,V,p7,p8⟩:=T.put J B;generalize(pos t.mask (eX t.mask (hK prog w k)) n).j=j at*;rw[Zh]at O;refine P9 ?_;rw[if_pos (show(t.put j).1.plain=NA from V.trans W)];refine Za (zd hx ?_);simp only[if_true];generalize hput:t.put j=r at*;obtain⟨u,p⟩:=r;dsimp only at p1 p2 O R p5 V p7 p8⊢;have Z:NQ (cs.map (bp prog w)).toArray p (hK prog w k,Oy b)=((cs.take p++(k,b)::cs.drop p).map (bp prog w)).toArray:=by apply RU;rw[Qi,N9,ZV,PU,PV];rfl
  have hhs:(cs.take p++(k,b)::cs.drop p).map (λc=>hK prog w c.1)=(cs.map λc=>hK prog w c.1).take p++hK prog w k::(cs.map λc=>hK prog w c.1).drop p:=by rw[N9,ZV,PU,PV]
  rw[<-hhs]at p8;rw[Z];have pm:(cs.take p++(k,b)::cs.drop p).Perm ((k,b)::cs):=by refine OQ.trans (.cons _ (.of_eq (O0 p cs)))
  generalize cs.take p++(k,b)::cs.drop p=f at p8 pm⊢;have H:f.length=cs.length+1:=by rw[pm.length_eq,ZJ]
  have F:(f.map (bp prog w)).toArray.size<scanBound:=by rw[Zy,Zh];unfold scanBound;omega
  have G:(cs.map (bp prog w)).toArray.size=cs.length:=by simp
  refine Za (QL g d ?_ (QM F));obtain⟨o1,g1,v,d1⟩:=zf (es':=(f.map (bp prog w)).toArray) (t':=u) g ex d;have S:=Yb s.heap a (Qp (f.map (bp prog w)).toArray u)
  have done:∀h' C,NR a s.heap h'->C.Perm f->HM prog w h' a C->Q NA {s with heap:=h'}:=λh' C X q ob=>by
   have P:=q.trans pm
   have pk:∀c∈C,c∈cs\/c=(k,b):=λc l=>by
    rcases Zi.mp (P.mem_iff.mp l)with e|e
    ·exact .inr e
    ·exact .inl e
   refine fin h' C NA X ⟨ob,λc l=>?_,?_⟩ (λK=>?_) pk (by rw[P.length_eq];exact Zg _)
   ·have y:cW prog w s.heap c.1 c.2:=by
     rcases pk c l with e|e
     ·exact x.key c e
     ·rw[e];exact hx
    exact y.kept λo e=>by rw[X.2 c.2 (N y)];exact e
   ·refine((P.map (·.1)).nodup_iff).mpr ?_;rw[ZV,Ya];exact⟨L,x.nod⟩
   ·rw[(P.map (·.1)).mem_iff,ZV,Zi];exact Or.comm
  have h:u.fill=cs.length+1:=by unfold Qh;rw[O,p1];rfl
  cases U:u.tooFull with
  |false=>rw[if_neg (by decide)];refine Ze (done _ f S (.refl _) ⟨o1,_,u,g1,v,d1,p5.trans M,V.trans W,p1,p2,by rw[Zh,O,H],by rw[R];exact T.msk,U,by rw[R];exact p8⟩)
  |true=>
   rw[if_pos (by decide),G];refine Za ?_;have hfull:(cs.length+1)*5>=t.mask*3:=by unfold Qs at U;rw[h,R]at U;exact of_decide_eq_true U
   have hnot:¬(cs.length*5>=t.mask*3):=by have:=T.ful;unfold Qs Qh at this;rw[T.dum,hsz]at this;exact of_decide_eq_false this
   have I:u.fits f.length=NA:=by
    unfold RP;rw[h,O,H,R];have:cs.length+1<=t.mask:=by omega
    simp[this]
   have l:cs.length+1=5\/cs.length+1=19:=by omega
   refine nh (s:={s with heap:=s.heap.update a (Qp (f.map (bp prog w)).toArray u)}) (cs:=f) g1 v d1 I ?_ ?_ ?_ (p5.trans M) (V.trans W) λh' C X q ob=>Ze (done h' C (S.trans X) q ob)
   ·rcases l with e|e<;>rw[e]<;>(unfold eM;decide+kernel)
   ·rw[H];rcases l with e|e<;>rw[e]<;>decide+kernel
   ·rcases l with e|e<;>rw[e]<;>decide+kernel
end Py
namespace Py
noncomputable def gX(e:Int×NF):Int:=match e.2 with
 | .int k _=>k
 |_=>0
section
theorem j5{l:List (Int×NF)}(h:TJ (intKind prog w) l):∀e∈l,∃t,e.2=.int (gX e) t:=λe H=>by obtain⟨⟨k,a,_⟩,_⟩:=h e H;obtain⟨t,b⟩:=Qq a;refine⟨t,?_⟩;unfold gX;rw[b]
theorem tx{l:List (Int×NF)}(h:TJ (intKind prog w) l)(k:Int):(∃e∈l,(intKind prog w).is k e.2=NA)↔k∈l.map gX:=by
 rw[Zq];constructor
 ·rintro⟨e,H,b⟩;obtain⟨t,a⟩:=Qq b;exact⟨e,H,by unfold gX;rw[a]⟩
 ·rintro⟨e,H,rfl⟩;obtain⟨t,a⟩:=j5 h e H;exact⟨e,H,by rw[a];exact SE _ _ _ _⟩
variable {R:RH->NC->Prop}{P:Nat->NF->Prop}{St:Nat->NO->Prop}
end
noncomputable def cT(l:Bool)(k:List Nat):NV:={mask:=if k.length<=4 then 7 else 31,place:=k.toArray,dummies:= #[],finger:=0,led:=l,moves:=if k.length<=4 then 0 else 1,plain:=NA}
noncomputable def ni:List Nat->List (List Nat)
 | []=>[[]]
 |a::l=>ni l++(ni l).map (a:: ·)
noncomputable def cX(v:Nat)(k:List Nat):List Nat:=k.takeWhile (· <v)++v::k.dropWhile (· <v)
noncomputable def tP(l:Bool)(v:Nat)(k:List Nat):NV:=((cT l k).put v).1
theorem tz:∀led:Bool,∀ks∈ni [0,1,2,3,4,5,6,7],∀v∈[0,1,2,3,4,5,6,7],v∉ks->
  (cT led ks).freeSlot (v:Int)=Nz (v,NB)/\((cT led ks).put v).2=(ks.takeWhile (· <v)).length/\(tP led v ks).fits (ks.length+1)=NA/\(tP led v ks).plain=NA/\
  ((tP led v ks).tooFull=NB->tP led v ks=cT led (cX v ks))/\
  ((tP led v ks).tooFull=NA->(tP led v ks).relaid ((cX v ks).map λk:Nat=>(k:Int)).toArray (To (ks.length+1))=Nz (cT led (cX v ks),SF (ks.length+1))/\(cT led (cX v ks)).fits (ks.length+1)=NA/\coversAll (SF (ks.length+1)) (ks.length+1)=NA):=by
 decide+kernel
abbrev p8:List (List Nat):=ni [0,1,2,3,4,5,6,7]
theorem iQ:∀ks∈p8,ks.Pairwise (· < ·)/\(∀k∈ks,k<8)/\ks.length<=8/\(∀led:Bool,(cT led ks).fits ks.length=NA)/\∀v∈[0,1,2,3,4,5,6,7],v∉ks->cX v ks∈p8:=by decide+kernel
theorem zh:∀v∈[0,1,2,3,4,5,6,7],hashInt (v:Nat)=((v:Nat):Int):=by decide+kernel
theorem j6{v:Nat}(h:v<8):v∈[0,1,2,3,4,5,6,7]:=by exact(by decide:∀n:Fin 8,n.val∈[0,1,2,3,4,5,6,7]) ⟨v,h⟩
theorem j7(v:Nat)(k:List Nat):k.take (k.takeWhile (· <v)).length=k.takeWhile (· <v)/\k.drop (k.takeWhile (· <v)).length=k.dropWhile (· <v):=by have h:k.takeWhile (· <v)++k.dropWhile (· <v)=k:=ON;generalize k.takeWhile (· <v)=x at h⊢;generalize k.dropWhile (· <v)=y at h⊢;subst h;simp
noncomputable def j8(k:Nat):Int×Int:=((k:Int),(k:Int))
noncomputable def gm(e:Int×NF):Int×Int:=(e.1,gX e)
theorem nj{v:Nat}{tok:Tok}(h:es.toList.map gm=ks.map j8):(NQ es (ks.takeWhile (· <v)).length ((v:Int),.int v tok)).toList.map gm=(cX v ks).map j8:=by rw[Qi,N9,ZV,PU,PV,h,<-PU,<-PV,(j7 v _).1,(j7 v _).2];unfold cX;rw[N9];rfl
theorem HN(es:Array α):(SF es.size).filterMap (es[·]?)=es:=by apply RU;rw[Sj,Array.toList_range];exact QR _
theorem zi{v:Nat}{x:NF}(b:ks∈p8)(d:v<8)(c:v∉ks)(hs:es.size=ks.length):layNew (cT led ks) es (v:Int) x=(NQ es (ks.takeWhile (· <v)).length ((v:Int),x),tP led v ks,NB,NB):=by
 obtain⟨h,H,a,_⟩:=tz _ _ b v (j6 d) c;unfold layNew;rw[h];dsimp;have e:(NQ es ((cT led ks).put v).2 (v,x)).size=ks.length+1:=by rw[<-Zv,(QA _ _ _).length_eq,Zv,T2,hs]
 rw[e,<-H];unfold SetTable.orStandIn;rw[show((cT _ _).put v).1.fits _=NA from a];rfl
theorem nk{e:Array (Int×NF)}{v:Nat}(i:ks∈p8)(l:v<8)(j:v∉ks)(h:e.toList.map gm=(cX v ks).map j8)(f:(tP led v ks).tooFull=NA):relayAll (tP led v ks) e (To e.size)=(e,cT led (cX v ks),NB):=by
 obtain⟨_,_,_,_,_,a⟩:=tz _ _ i v (j6 l) j;obtain⟨b,c,d⟩:=a f
 have H:e.size=ks.length+1:=by
  have:=Yj Po h;simp only[Zh,Zh,Zv]at this;have m:(cX v ks).length=ks.length+1:=by unfold cX;rw[Zz,ZJ,<-Rl,<-Zz,ON]
  simp_all
 have g:e.map (·.1)=((cX v ks).map λk:Nat=>(k:Int)).toArray:=by apply RU;rw[RA];have:=Yj (Q1 (·.1)) h;rw[ZY,ZY]at this;exact this
 dsimp only[relayAll];rw[g,H,b];dsimp;rw[<-H,HN,H,c,d];rfl
structure du (prog:NU)(w:N0)(h:NO)(a:ND)(ks:List Nat)(es:Array (Int×NF)):Prop where
 obj:∃o ep,h.get? a=Nz o/\o.ExactSet/\o.data=.set es ep (cT (!fk w) ks)
 ent:es.toList.map gm=ks.map j8
 els:TJ (intKind prog w) es.toList
 pow:ks∈p8
theorem du.size(x:du prog w h a ks es):es.size=ks.length:=by have:=Yj Po x.ent;simp_all
theorem du.kept(x:du prog w h a ks es)(k:∀o,h.get? a=Nz o->h'.get? a=Nz o):du prog w h' a ks es:=by obtain⟨⟨o,e,q,r⟩,z,Z,b⟩:=x;exact⟨⟨o,_,k o q,r⟩,z,Z,b⟩
theorem du.born(h:NO):du prog w (h.push (bS (!fk w))) h.objs.size [] #[]:=⟨⟨_,0,Zk _ rfl,⟨rfl,rfl,rfl⟩,rfl⟩,rfl,λe H=>by simp_all,by decide+kernel⟩
theorem zj{t t':NV}(g:h.get? a=Nz o)(E:o.ExactSet)(d:o.data=.set es ep t):
  ∃o',(h.update a (Qp es' t')).get? a=Nz o'/\o'.ExactSet/\o'.data=.set es' (ep+1) t':=by
 have e:(h.update a (Qp _ t')).get? a=Nz _:=NW _ g (by rw[Tl es' _ d];rfl);rw[Tl _ _ d]at e;exact⟨_,e,E,rfl⟩
theorem zk{v:Nat}{tok:Tok}{Q:Bool->NC->Prop}(x:du prog w s.heap a ks es)(y:v<8)
  (fin:∀h' K es' b,NR a s.heap h'->du prog w h' a K es'->(∀k,k∈K↔k∈ks\/k=v)->Q b {s with heap:=h'}):
  wpAny (model prog w) A (setAddHashed a (.int v tok) ((intKind prog w).hash v)) Q E s:=by
 obtain⟨⟨o,ep,g,Z,d⟩,n,B,I⟩:=id x;have U:=x.size;obtain⟨_,low,len,u,more⟩:=iQ ks I;have t:(cT (!fk w) ks).fits es.size=NA:=by rw[U];exact u _
 have M:es.size<scanBound:=by rw[U];unfold scanBound;omega
 have C:(intKind prog w).is (v:Int) (.int v tok)=NA:=SE _ _ _ _
 have G:∀(b:Bool) (z:NC) (J:Unit->NC->Prop),J () z->wpAny (model prog w) A (match b with|true=>rule "set.scan.the-table-gave-way"|false=>pure ()) J E z:=λb z J q=>by
  cases b
  ·exact Ze q
  ·exact Ob q
 have l:(∃e∈es.toList,(intKind prog w).is (v:Int) e.2=NA)↔v∈ks:=by
  rw[tx B];have:=Yj (Q1 (·.2)) n;rw[ZY,ZY]at this;rw[show es.toList.map gX=ks.map λk:Nat=>(k:Int)from this,Zq];constructor
  ·rintro⟨k,C,e⟩;have:k=v:=by omega
   exact this▸C
  ·exact λh=>⟨v,h,rfl⟩
 have H:(intKind prog w).hash (v:Int)=(v:Int):=zh v (j6 y);unfold setAddHashed setAddHashedIn;refine Z8 (Za (Od g d t ?_));dsimp only;rw[byScan_of (knd:=intKind prog w) rfl M B,if_pos rfl];unfold setAddByScan;refine Za (Za (Ob (Za (wpAny_setScan_of C g d t B ?_))));cases X:List.findIdx? (λe=>(intKind prog w).is (v:Int) e.2) es.toList with
 |some j=>obtain⟨hj,hp,_⟩:=List.findIdx?_eq_some_iff_getElem.mp X;have T:=l.mp ⟨_,Z6 hj,hp⟩;exact Ze (Ze (fin s.heap ks es NB (R6 a s.heap) x λk=>⟨.inl,λz=>z.elim id λe=>e▸T⟩))
 |none=>
  have N:v∉ks:=λz=>by obtain⟨e,he,q⟩:=l.mpr z;have:=List.findIdx?_eq_none_iff.mp X e he;rw[q]at this;cases this
  obtain⟨_,_,ft,pl,nf,fu⟩:=tz (!fk w) ks I v (j6 y) N;have R:hashByValue 8 (.int v tok)=pure NA:=hashByValue_scannable 8 rfl
  have i:∀k,k∈cX v ks↔k∈ks\/k=v:=λk=>by
   unfold cX;rw[Zp,Zi];have:ks.takeWhile (· <v)++ks.dropWhile (· <v)=ks:=ON;rw[<-Yj (k∈ ·) this];rw[Zp];constructor
   ·rintro(h|h|h)
    ·exact .inl (.inl h)
    ·exact .inr h
    ·exact .inl (.inr h)
   ·rintro((h|h)|h)
    ·exact .inl h
    ·exact .inr (.inr h)
    ·exact .inr (.inl h)
  have c:=nj (v:=v) (tok:=tok) n;have m:TJ (intKind prog w) (NQ es (ks.takeWhile (· <v)).length ((v:Int),.int v tok)).toList:=by have p:=QA es (ks.takeWhile (· <v)).length ((v:Int),Qa v tok);rw[OK]at p;have q:=B.push C (x:=.int v tok) rfl;rw[H]at q;exact q.perm p
  have P:=more v (j6 y) N;dsimp only;rw[H,zi I y N U];generalize NQ es (ks.takeWhile (· <v)).length ((v:Int),Qa v tok)=f at c m⊢
  have F:f.size<scanBound:=by
   have:=Yj Po c;rw[Zh,Zh,Zv]at this;have h2:(cX v ks).length=ks.length+1:=by unfold cX;rw[Zz,ZJ,<-Rl,<-Zz,ON]
   unfold scanBound;omega
  dsimp only;refine Za (G NB s _ ?_);rw[if_pos pl];refine Za ?_;rw[R];refine Ze ?_;simp only[if_true];refine Za (QL g d ?_ (QM F));obtain⟨o1,O,r,D⟩:=zj (es':=f) (t':=tP (!fk w) v ks) g Z d;have S:=Yb s.heap a (Qp f (tP (!fk w) v ks));cases W:(tP (!fk w) v ks).tooFull with
  |true=>simp only[Bool.not_false,Bool.and_self,if_true];rw[nk I y N c W];refine Za (G NB _ _ (Za (QL O D (Ze (Ze ?_)) (QM F))));obtain⟨o2,g2,L,Y⟩:=zj (es':=f) (t':=cT (!fk w) (cX v ks)) O r D;exact fin _ _ f NA (S.trans (Yb _ a _)) ⟨⟨o2,_,g2,L,Y⟩,c,m,P⟩ i
  |false=>simp only[Bool.not_false,Bool.and_false,Z9,if_false];rw[nf W]at D;exact Ze (Ze (fin _ _ f NA S ⟨⟨o1,_,O,r,D⟩,c,m,P⟩ i))
section
variable {R:RH->NC->Prop}{P:Nat->NF->Prop}{St:Nat->NO->Prop}
theorem tD(W:Walks prog w A.in1 I fp wr n P St)(S:ND)(out:S∉fp)(val:Nat->Int)(H:∀i v,P i v->∃t,v=.int (val i) t)(low:∀i,i<n->0<=val i/\val i<8):
  ∀(k i:Nat) (s:NC) (ks:List Nat) (es:Array (Int×NF)),n-i=k->i<=n->St i s.heap->du prog w s.heap S ks es->(∀k:Nat,k∈ks↔∃j,j<i/\val j=k)->
  (∀h' tk d es',(∀b o,b∉wr->b≠S->s.heap.get? b=Nz o->h'.get? b=Nz o)->du prog w h' S d es'->(∀k:Nat,k∈d↔∃j,j<n/\val j=k)->R (.ok (.ret .none)) {s with heap:=h',toks:=tk})->
  codeAny (model prog w) A (.builtin "set.update.loop" ⟨[.ref S,.ref I],[]⟩) R s:=by
 have L:S∉wr:=λz=>out (W.sub S z);intro k
 induction k with
 |zero=>
  intro i s ks es O Q a x y fin;obtain rfl:i=n:=by omega
  exact Og Pu (by rw[NZ Oo];exact Za (W.done s _ _ a λh' tk K=>Ze (fin h' tk ks es (λb o N _ e=>K b o N e) (x.kept λo e=>K S o L e) y)))
 |succ k Y=>
  intro i s ks es O Q a x y fin;have lt:i<n:=by omega
  refine Og Pu ?_;rw[NZ Oo];refine Za (W.item i s _ _ lt a λv h' tk Z c K=>?_);obtain⟨t,rfl⟩:=H i v Z;have x1:du prog w h' S ks es:=x.kept λo e=>K S o L e;obtain⟨u,J⟩:∃u:Nat,val i=(u:Int):=⟨(val i).toNat,by have:=low i lt;omega⟩;have p:u<8:=by have:=low i lt;omega
  refine Za (m:=holding [Qa (val i) t] (setAdd S (.int (val i) t))) (Z8 ?_);unfold setAdd;refine Z8 (Za ((intKind prog w).pyHash (k:=val i) (SE _ _ _ _) ?_));rw[J];refine zk (s:={s with heap:=h',toks:=tk+1}) x1 p λh2 f E b M x2 l=>?_
  have B:∀k:Nat,k∈f↔∃j,j<i+1/\val j=k:=λk=>by
   rw[l k,y k];constructor
   ·rintro(⟨j,X,e⟩|rfl)
    ·exact⟨j,by omega,e⟩
    ·exact⟨i,by omega,J⟩
   ·rintro⟨j,X,e⟩;by_cases z:j=i
    ·subst z;exact .inr (by omega)
    ·exact .inl ⟨j,by omega,e⟩
  refine Ze ⟨Qb Oo _,Y (i+1) _ f E (by omega) lt (W.frame _ _ _ c λb U o e=>?_) x2 B λV D r g q x3 C=>?_⟩
  ·rw[M.2 b λz=>out (z▸U)];exact e
  ·refine fin V D r g (λb o N G e=>q b o N G ?_) x3 C;rw[M.2 b G];exact K b o N e
end
structure zl (prog:NU)(w:N0)(A:OH)(s:NC)(vs:Av)(led:Bool)(dV:NO->Prop):Prop where
 go:∀{I:ND} {fp wr:La} {St:Nat->NO->Prop} {R:RH->NC->Prop} (s':NC),Walks prog w A.in1.in1.in1 I fp wr vs.size (λi v=>vs[i]?=Nz v) St->s.heap.objs.size∉fp->St 0 s'.heap->(∀b o,(s.heap.push (bS led)).get? b=Nz o->s'.heap.get? b=Nz o)->(∀b∈wr,s.heap.objs.size<b)->
   (∀h' tk,(∀b o,b∉wr->b≠s.heap.objs.size->s'.heap.get? b=Nz o->h'.get? b=Nz o)->dV h'->R (.ok (.ret .none)) {s' with heap:=h',toks:=tk})->codeAny (model prog w) A.in1.in1 (.builtin "set.update.loop" ⟨[.ref s.heap.objs.size,.ref I],[]⟩) R s'
theorem zm{t:ND}{vs:Av}{dV:NO->Prop}(hh:A.handled=none)(B:s.heap.IsList t vs\/s.heap.IsTuple t vs)
  (L:zl prog w A s vs (!fk w) dV)
  (h:∀(h':NO) (tk:Nat),dV h'->(∀b o,b<s.heap.objs.size->s.heap.get? b=Nz o->h'.get? b=Nz o)->Q (.ref s.heap.objs.size) {s with heap:=h',toks:=tk}):wpAny (model prog w) A (call (.type "set") [.ref t]) Q E s:=by
 obtain⟨c,tl,Y⟩:=F.called_set.mro;have P:=F.called_set.made;have Z:=F.called_set.sub;refine wpAny_call (Qo ?_);show wpAny _ _ (callAny (.type "set") _) _ _ _;refine Ze ⟨Th _ (by decide+kernel),Og F.entry_type_call ?_⟩;rw[SN (T1 "set" [.ref t] []) rfl];have g1:=F.called_set.notType;have g2:=F.called_set.canCreate;have g3:=F.typeCall_set_1 (.ref t)
 repeat(any_goals (first|assumption|wp_step))
 refine Ph (HK (.ref t) (E:=E) (R:=λobj S=>obj=.ref s.heap.objs.size/\S={s with heap:=s.heap.push (bS (!fk w))}) ⟨rfl,rfl⟩) λr S U=>?_;cases r with
 |error e=>exact U
 |ok fl=>
  cases fl with
  |ret obj=>
   obtain⟨rfl,rfl⟩:=U;generalize(!fk w)=l at L⊢;have hS:(s.heap.push (bS l)).get? s.heap.objs.size=Nz (bS l):=Zk _ rfl;have hT:Q5 {s with heap:=s.heap.push (bS l)} (.ref s.heap.objs.size) "set":=⟨_,hS,rfl⟩;have hli:=F.called_set.init.lookup;have hbi:=F.called_set.init.bind (.ref s.heap.objs.size)
   repeat(any_goals (first|assumption|wp_step))
   refine Ph (codeAny_call_builtin (R:=wants (λr q=>r=.none/\∃h' tk,q={s with heap:=h',toks:=tk}/\dV h'/\
     (∀b o,b<s.heap.objs.size->s.heap.get? b=Nz o->h'.get? b=Nz o)) E) F.called_set.init.plain F.entry_set_init (check_set_init_1 hT ?_)) λJ q H=>?_
   ·have D:A.in1.in1.in1.handled=none:=by simp[hh]
    have V:(s.heap.push (bS l)).objs.size=s.heap.objs.size+1:=N6 ..;have G:t<s.heap.objs.size:=by rcases B with⟨_,d,_⟩| ⟨_,d,_⟩<;>exact Zo d
    have n:t≠(s.heap.push (bS l)).objs.size:=by rw[V];exact ZC (Qy G)
    have C:s.heap.objs.size∉[(s.heap.push (bS l)).objs.size,t]:=by rw[V];simp only[Zi,ZX,or_false,not_or];exact⟨ZC (Oh _),OV G⟩
    have x:∀b∈[(s.heap.push (bS l)).objs.size],s.heap.objs.size<b:=λb m=>by rw[V,ZB]at m;rw[m];exact Oh _
    have p:∀b,b<s.heap.objs.size->b∉[(s.heap.push (bS l)).objs.size]:=λb m z=>by have:=x b z;omega
    rcases B with B|B
    ·obtain⟨⟨I,a,y,O⟩,d,f,nl,g⟩:=B;simp only at f g;subst f;subst g;have k:(s.heap.push (bS l)).get? t=Nz {cls:=.type "list",dict:=a,data:=.seq vs nl,slots:=O}:=Zc _ d;have q1:=F.sub_list_set;have q2:=F.sub_list_frozenset;have q3:(NN "list"==NN "dict")=NB:=by decide
     have j:(s.heap.push (bS l)).IsList t vs:=⟨_,k,rfl,nl,rfl⟩;unfold OO.«set.__init__» noKeywords Pm;generalize v:pyIter=PI
     wp_walk
     subst v;refine Yo j (Za (Rn ?_));exact L.go _ (Walks.list D _ t n vs) C ⟨⟨_,Zk _ rfl,rfl,rfl⟩,(j.push _)⟩ (λb o e=>Zc _ e) x λh' T W X=>Ze (Ze ⟨rfl,h',T,rfl,X,λb o m e=>W b o (p b m) (ZC m) (Zc _ (Zc _ e))⟩)
    ·obtain⟨⟨I,a,y,O⟩,d,f,nl,g⟩:=B;simp only at f g;subst f;subst g;have k:(s.heap.push (bS l)).get? t=Nz {cls:=.type "tuple",dict:=a,data:=.seq vs nl,slots:=O}:=Zc _ d;have q1:=F.sub_tuple_set;have q2:=Tj;have q3:(NN "tuple"==NN "dict")=NB:=by decide
     have j:(s.heap.push (bS l)).IsTuple t vs:=⟨_,k,rfl,nl,rfl⟩;unfold OO.«set.__init__» noKeywords Pm;generalize v:pyIter=PI
     wp_walk
     subst v;refine Yi j (Za (Rn ?_));exact L.go _ (Walks.tuple D _ t n vs) C ⟨⟨_,Zk _ rfl,rfl,rfl⟩,(j.push _)⟩ (λb o e=>Zc _ e) x λh' T W X=>Ze (Ze ⟨rfl,h',T,rfl,X,λb o m e=>W b o (p b m) (ZC m) (Zc _ (Zc _ e))⟩)
   ·cases J with
    |error e=>exact H
    |ok u=>
     cases u with
     |ret r=>
      obtain⟨rfl,h',tk,rfl,M,N⟩:=H
      repeat(any_goals (first|assumption|wp_step))
      exact h _ _ M N
     |_=>exact H.elim
  |_=>exact U.elim
theorem HP{t:ND}{vs:Av}(d:A.handled=none)(j:s.heap.IsList t vs\/s.heap.IsTuple t vs)(hi:Ru vs.toList ns)(low:∀n∈ns,0<=n/\n<8)
  (h:∀(h':NO) (tk:Nat),(∃ks es,du prog w h' s.heap.objs.size ks es/\∀k:Nat,k∈ks↔(k:Int)∈ns)->
   (∀b o,b<s.heap.objs.size->s.heap.get? b=Nz o->h'.get? b=Nz o)->Q (.ref s.heap.objs.size) {s with heap:=h',toks:=tk}):wpAny (model prog w) A (call (.type "set") [.ref t]) Q E s:=by
 have a:vs.size=ns.length:=by exact hi.length
 refine zm d j ⟨λy W out S m l fin=>?_⟩ h;refine tD W _ out _ (λi v u=>hi.int_at i v (by simp_all)) (λi g=>low _ (by simp_all)) _ 0 _ _ _ (by omega) (Yp _) S ((du.born _).kept λo e=>m _ o e) (λk=>⟨λz=>(by cases z),λZ=>Z.elim λi Z=>Z.elim λz _=>by omega⟩) λh' r q c K x p=>fin _ _ K ⟨_,_,x,λk=>(p k).trans ⟨λZ=>by obtain⟨i,z,e⟩:=Z;exact(by grind),λz=>by obtain⟨i,f,e⟩:=ZD.mp z;exact⟨i,by omega,by simp_all⟩⟩⟩
theorem el.born(h:NO):el prog w (h.push (bS (!fk w))) h.objs.size []:=⟨⟨_,0,_,Zk _ rfl,⟨rfl,rfl,rfl⟩,rfl,rfl,rfl,rfl,λi j H=>absurd H (Nat.not_lt_zero _),rfl,Zd,rfl,λx b=>by simp_all⟩,λc a=>(by simp_all),.nil⟩
theorem tF{R:RH->NC->Prop}{P:Nat->NF->Prop}{St:Nat->NO->Prop}(W:Walks prog w A.in1 I fp wr n P St)(S:ND)(out:S∉fp)(D:∀b∈wr,S<b)(val:Nat->Li×ND)(p:∀i v,P i v->v=.ref (val i).2)(X:A.in1.units<cLine)(few:n<76):
  ∀(k i:Nat) (s:NC) (cs:List (Li×ND)),n-i=k->i<=n->St i s.heap->el prog w s.heap S cs->(∀j,j<n->cW prog w s.heap (val j).1 (val j).2/\(val j).2<S)->(∀c∈cs,∃j,j<n/\c=val j)->(∀K,K∈cs.map (·.1)↔∃j,j<i/\(val j).1=K)->cs.length<=i->
  (∀h' tk C,(∀b o,b∉wr->b≠S->s.heap.get? b=Nz o->h'.get? b=Nz o)->el prog w h' S C->(∀K,K∈C.map (·.1)↔∃j,j<n/\(val j).1=K)->(∀c∈C,∃j,j<n/\c=val j)->R (.ok (.ret .none)) {s with heap:=h',toks:=tk})->
  codeAny (model prog w) A (.builtin "set.update.loop" ⟨[.ref S,.ref I],[]⟩) R s:=by
 have Y:S∉wr:=λz=>out (W.sub S z);have low:∀b,b<S->b∉wr:=λb g z=>Yl _ (Sv g (D b z));intro k
 induction k with
 |zero=>
  intro i s cs Z e1 a x tup M G len fin;have L:∀c∈cs,c.2<S:=λc H=>let⟨j,h,e⟩:=M c H;e▸(tup j h).2
  obtain rfl:i=n:=by omega
  exact Og Pu (by rw[NZ Oo];exact Za (W.done s _ _ a λh' tk d=>Ze (fin h' tk cs (λb o N _ e=>d b o N e) (x.kept λb o e g=>d b o (by rcases g with rfl| ⟨c,H,rfl⟩;exact Y;exact low _ (L c H)) e) G M)))
 |succ k ih=>
  intro i s cs Z e1 a x tup M G len fin;have L:∀c∈cs,c.2<S:=λc H=>let⟨j,h,e⟩:=M c H;e▸(tup j h).2
  have lt:i<n:=by omega
  refine Og Pu ?_;rw[NZ Oo];refine Za (W.item i s _ _ lt a λv h' tk pv q d=>?_);obtain rfl:=p i v pv;have x1:el prog w h' S cs:=x.kept λb o e g=>d b o (by rcases g with rfl| ⟨c,H,rfl⟩;exact Y;exact low _ (L c H)) e;have t:∀j,j<n->cW prog w h' (val j).1 (val j).2/\(val j).2<S:=λj h=>⟨(tup j h).1.kept λo e=>d _ o (low _ (tup j h).2) e,(tup j h).2⟩;refine Za (m:=holding [Oy (val i).2] (setAdd S (.ref (val i).2))) (Z8 ?_);unfold setAdd;refine Z8 (Za (wpAny_pyHash_tuple X (t i lt).1 ?_));refine zg (s:={s with heap:=h',toks:=tk+((val i).1.length+1)}) x1 (t i lt).1 X (by omega) λh2 f b Q x2 B r bU=>?_
  have J:∀K,K∈f.map (·.1)↔∃j,j<i+1/\(val j).1=K:=λK=>by
   rw[B K,G K];constructor
   ·rintro(⟨j,h,e⟩|rfl)
    ·exact⟨j,by omega,e⟩
    ·exact⟨i,by omega,rfl⟩
   ·rintro⟨j,h,e⟩;by_cases z:j=i
    ·subst z;exact .inr e.symm
    ·exact .inl ⟨j,by omega,e⟩
  refine Ze ⟨Qb Oo _,ih (i+1) _ f (by omega) lt (W.frame _ _ _ q λb fb o e=>?_) x2 (λj h=>⟨(t j h).1.kept λo e=>?_,(t j h).2⟩) (λc H=>?_) J (by omega) λh3 U y E x3 O u=>?_⟩
  ·rw[Q.2 b λz=>out (z▸fb)];exact e
  ·rw[Q.2 _ (ZC (t j h).2)];exact e
  ·rcases r c H with z|z
   ·exact M c z
   ·exact⟨i,lt,z⟩
  ·refine fin h3 U y (λb o N V e=>E b o N V ?_) x3 O u;rw[Q.2 b V];exact d b o N e
theorem HQ{t:ND}{vs:Av}{K:List (Li×ND)}(G:A.handled=none)(N:A.units+64<cLine)(L:s.heap.IsList t vs\/s.heap.IsTuple t vs)(l:vs.toList=K.map λc=>Oy c.2)(J:∀c∈K,cW prog w s.heap c.1 c.2)(F:K.length<76)
  (h:∀(h':NO) (tk:Nat),(∃cs,el prog w h' s.heap.objs.size cs/\(∀u,u∈cs.map (·.1)↔u∈K.map (·.1))/\∀c∈cs,c∈K)->
   (∀b o,b<s.heap.objs.size->s.heap.get? b=Nz o->h'.get? b=Nz o)->Q (.ref s.heap.objs.size) {s with heap:=h',toks:=tk}):wpAny (model prog w) A (call (.type "set") [.ref t]) Q E s:=by
 have r:vs.size=K.length:=by rw[<-Zv,l,Zh]
 have H:∀i,i<K.length->K.getD i ([],0)∈K/\K[i]?=Nz (K.getD i ([],0)):=λi d=>by rw[Qk,Zf d];exact⟨Z6 d,rfl⟩
 refine zm G L ⟨λO W out S x n fin=>?_⟩ h;refine tF W s.heap.objs.size out n (λi=>K.getD i ([],0)) (λi v M=>?_) (by show A.units+1+1+1<cLine;omega) (by omega) (vs.size-0) 0 _ [] (by omega) (Yp _) S ((el.born s.heap).kept λb o e _=>x b o e) (λj I=>?_) (λc f=>by cases f) (λk=>⟨λz=>(by cases z),λZ=>Z.elim λi Z=>Z.elim λz _=>(by omega)⟩) (Zg _) λh' T C p X P m=>fin h' T p ⟨C,X,λk=>(P k).trans ⟨λZ=>Z.elim λi Z=>Z.elim λz e=>?_,λz=>?_⟩,λc f=>(by obtain⟨j,I,e⟩:=m c f;exact(e▸(H j (by omega)).1))⟩
 ·have a:vs.toList[i]?=Nz v:=by rw[ZT];exact M
  rw[l,Z0]at a
  have d:i<K.length:=by
   by_cases z:i<K.length
   ·exact z
   ·rw[PJ (by omega)]at a;cases a
  rw[(H i d).2]at a;exact(Yk a).symm
 ·have y:=J _ (H j (by omega)).1;refine⟨y.kept λo e=>x _ o (Zc _ e),?_⟩;obtain⟨o,_,_,g,_⟩:=y;exact Zo g
 ·rw[<-e];exact Zq.mpr ⟨_,(H i (by omega)).1,rfl⟩
 ·obtain⟨c,f,e⟩:=Zq.mp z;obtain⟨i,d,D⟩:=ZD.mp f;refine⟨i,by omega,?_⟩;have:=(H i d).2;rw[Zf d,D]at this;rw[<-Yk this];exact e
theorem zn(ns:Li):firstMet (λi=>ns.getD i 0) ns.length=eL ns:=by unfold firstMet eL;congr 1;refine PN (by simp) λi H h=>?_;simp[h]
theorem HR(c:X.calm=NA):aX X (.type "set") (λxs H Q=>∃p ns,xs=[.ref p]/\c8 X.K H p (ns.map V.int)/\ns.length+1<scanBound/\∀l S,H l=none->Q (.ref l) (bg H l (.set S (eL ns).length))):=by
 intro n s v H xs U Q I r h;obtain⟨p,ns,rfl,f,k,q⟩:=h;obtain⟨u,rfl,g⟩:=vals1 r;subst g;obtain⟨i,R,P,_⟩:=I.list f;have m:=R.length;refine call_set_list (I.ok.hd c) P.isList (by exact rT R) (by simp_all) λj t a d=>?_;have E:i.toArray.size=ns.length:=by simp_all
 rw[E,zn]at a;exact⟨.ref _,_,I.laid (λb o e=>d b o (Zo e) e) (Zg _) (show bx _ _ _ _ _ (.set _ _)from a),rfl,q _ _ (I.hok.fresh (Zg _))⟩
theorem HS(c:X.calm=NA):aX X (.type "set") (λxs H Q=>∃p ns,xs=[.ref p]/\ca X.K H p (ns.map V.int)/\ns.length+1<scanBound/\∀l S,H l=none->Q (.ref l) (bg H l (.set S (eL ns).length))):=by
 intro n s v H xs U Q I r h;obtain⟨p,ns,rfl,f,k,q⟩:=h;obtain⟨u,rfl,g⟩:=vals1 r;subst g;obtain⟨i,R,P,_⟩:=I.tuple f;have m:=R.length;refine Hw (I.ok.hd c) P (by exact rT R) (by simp_all) λj t a d=>?_;have E:i.toArray.size=ns.length:=by simp_all
 rw[E,zn]at a;exact⟨.ref _,_,I.laid (λb o e=>d b o (Zo e) e) (Zg _) (show bx _ _ _ _ _ (.set _ _)from a),rfl,q _ _ (I.hok.fresh (Zg _))⟩
theorem HU(c:X.calm=NA):aX X (.type "set") (λxs H Q=>∃p ns,xs=[.ref p]/\(c8 X.K H p (ns.map V.int)\/ca X.K H p (ns.map V.int))/\ns.length+1<scanBound/\∀l S,H l=none->Q (.ref l) (bg H l (.set S (eL ns).length))):=by
 intro P s d H xs u Q I r h;obtain⟨p,ns,e,a,b,q⟩:=h;rcases a with a|a
 ·exact HR c _ s _ H _ _ Q I r ⟨p,_,e,a,b,q⟩
 ·exact HS c _ s _ H _ _ Q I r ⟨p,_,e,a,b,q⟩
theorem HV:aX X (.builtin "len") (λxs H Q=>∃p S n,xs=[.ref p]/\H p=Nz (.set S n)/\n<100000/\Q (.int n) H):=by intro P s i H xs U Q I r h;obtain⟨p,S,n,rfl,e,g,q⟩:=h;obtain⟨u,rfl,R⟩:=vals1 r;subst R;obtain⟨o,f,E,t,d,a,b,_,_,_,c,rfl⟩:=I.hok p _ e;exact call_len_set d a b c (by lia) ⟨.int _,H,I.tok _,⟨_,rfl⟩,q⟩
theorem zo:bootBuiltins "set"=Nz (.type "set"):=by decide+kernel
theorem nq(ns:Li):(eL ns).length<=ns.length:=by
 have k:∀(ns a:Li),(ns.foldl Q3 a).length<=a.length+ns.length:=by
  intro ns
  induction ns with
  |nil=>simp
  |cons n ns i=>intro a;refine Zw (i _) ?_;unfold Q3;split<;>simp<;>lia
 simpa[eL]using k _ []
theorem nr:∀{xs:List D},xs.all (aw .int)=NA->xs=(xs.filterMap cg).map D.int
 | [],_=>rfl
 |x::xs,h=>by
  simp only[PR,ZL]at h;cases x with
  |int i=>simp[cg];rw[<-nr h.2]
  |_=>simp[aw]at h
theorem nt{K:Fg}{m:GS}{μ:La}{H:Hp}:∀{ns:Li} {vs:List V},aj K m μ H (ns.map D.int) vs->vs=ns.map V.int
 | [],vs,r=>by subst r;rfl
 |n::ns,vs,r=>by obtain⟨v,w,rfl,R,a⟩:=r.uncons;cases aJ R;rw[nt a];rfl
def tG(K:Fg):List V->Hp->VK->Prop:=λxs H Q=>∃p ns,xs=[.ref p]/\(c8 K H p (ns.map V.int)\/ca K H p (ns.map V.int))/\ns.length+1<scanBound/\∀l S,H l=none->Q (.ref l) (bg H l (.set S (eL ns).length))
def qD:List V->Hp->VK->Prop:=λxs H Q=>∃p S n,xs=[.ref p]/\H p=Nz (.set S n)/\n<100000/\Q (.int n) H
theorem tH:∀(ks acc:List (Li)),acc.Nodup->(ks.foldl (λacc k=>if acc.contains k=NA then acc else acc++[k]) acc).Nodup/\∀k,k∈ks.foldl (λacc k=>if acc.contains k=NA then acc else acc++[k]) acc↔k∈acc\/k∈ks
 | [],acc,h=>⟨h,λk=>by simp⟩
 |x::ks,acc,h=>by
  rw[OJ];by_cases z:acc.contains x=NA
  ·rw[if_pos z];obtain⟨a,b⟩:=tH ks acc h;refine⟨a,λk=>(b k).trans ?_⟩;have:x∈acc:=PK.mp z;constructor
   ·rintro(h|h)
    ·exact .inl h
    ·exact .inr (Zb _ h)
   ·rintro(h|h)
    ·exact .inl h
    ·rcases Zi.mp h with rfl|h
     ·exact .inl this
     ·exact .inr h
  ·rw[if_neg z];have d:x∉acc:=λh=>z (PK.mpr h);obtain⟨a,b⟩:=tH ks (acc++[x]) (ZN.mpr ⟨h,by simp,λa c b H=>by simp at H;subst H;exact λe=>d (e▸c)⟩);refine⟨a,λk=>(b k).trans ?_⟩;simp[or_assoc]
theorem HW(K:List (Li)):(gS K).Nodup/\∀k,k∈gS K↔k∈K:=by obtain⟨a,b⟩:=tH _ _ OC;exact⟨a,λk=>(b k).trans (by simp)⟩
theorem HX{K l:List (Li)}(H:l.Nodup)(h:∀k,k∈l↔k∈K):l.length=(gS K).length:=by obtain⟨a,b⟩:=HW _;exact((Qj H a).mpr λk=>(h k).trans (b k).symm).length_eq
theorem zp{prog:NU}{w:N0}:∀{k:Li} {its:Lv},Vals (k.map V.int) its->ItemsAre (intKind prog w) k its
 | [],its,r=>by cases r;exact .nil
 |n::k,its,r=>by
  cases r with
  |cons h H=>obtain⟨t,rfl⟩:=h;exact .cons (SE _ _ _ _) (zp H)
theorem nu{k:Li}(I:Inv X pq σ H s)(h:ca X.K H a (k.map V.int)):cW X.prog X.w s.heap k a:=by obtain⟨i,r,p,_⟩:=I.tuple h;obtain⟨o,g,c,n,d⟩:=p;exact⟨o,_,n,g,c,d,zp r⟩
theorem zr:∀{ks:List (Li×ND)} {its:Lv},Vals (ks.map λc=>V.ref c.2) its->its=ks.map λc=>Oy c.2
 | [],its,r=>by cases r;rfl
 |c::ks,its,r=>by
  cases r with
  |cons h H=>subst h;rw[zr H];rfl
noncomputable def HY(K:Fg)(H:Hp)(p:ND)(k:List (Li×ND)):Prop:=(c8 K H p (k.map λc=>V.ref c.2)\/ca K H p (k.map λc=>V.ref c.2))/\(∀c∈k,ca K H c.2 (c.1.map V.int))/\k.length<76
theorem nv{p:ND}{K:List (Li×ND)}{E:Vs}{Q:Vs}(g:X.calm=NA)(q:X.A.units+64<cLine)(I:Inv X pq σ H s)(h:HY X.K H p K)
  (fin:∀h' tk cs,el X.prog X.w h' s.heap.objs.size cs->(∀k,k∈cs.map (·.1)↔k∈K.map (·.1))->(∀c∈cs,c∈K)->Inv X pq σ H {s with heap:=h',toks:=tk}->(∀b o,s.heap.get? b=Nz o->h'.get? b=Nz o)->Q (.ref s.heap.objs.size) {s with heap:=h',toks:=tk}):wpAny (model X.prog X.w) X.A (call (.type "set") [.ref p]) Q E s:=by
 obtain⟨d,n,f⟩:=h
 obtain⟨i,r,P⟩:∃i,Vals _ i/\(s.heap.IsList p i.toArray\/s.heap.IsTuple p i.toArray):=by
  rcases d with d|d
  ·obtain⟨i,r,P,_⟩:=I.list d;exact⟨_,r,.inl P.isList⟩
  ·obtain⟨i,r,P,_⟩:=I.tuple d;exact⟨_,r,.inr P⟩
 exact HQ (I.ok.hd g) q P (zr r) (λc g=>nu I (n c g)) f λh' tk z j=>by obtain⟨_,x,l,m⟩:=z;exact(fin _ _ _ x l m (I.kept λb o e=>j b o (Zo e) e) λb o e=>j b o (Zo e) e)
noncomputable def HZ(K:Fg)(v:V)(H:Hp)(Q:VK):Prop:=(tG K [v] H λy H2=>qD [y] H2 Q)\/∃p ks,v=.ref p/\HY K H p ks/\Q (.int ((gS (ks.map (·.1))).length:Nat)) H
theorem H3(A:X.calm=NA)(R:X.A.units+64<cLine)(i:Gl X "len")(j:Gl X "set")(l:X.mg "len"=none)(m:X.mg "set"=none)(O:b7 z=NA)(M:PE X z ta):
  PE X (.Call (.Name "len" p1) [.Call (.Name "set" p2) [z] [] p3] [] p4) (λσ H Q=>ta σ H λx H1=>HZ X.K x H1 Q):=by
 intro P s σ H Q I h;have F:=da (env:=X.env) (es:=[]) O;refine OI (eh I i l PySem.boot_len ?_ (by decide) (by decide));refine Pn ?_ rfl rfl;refine Qd ?_;refine OI (eh I j m zo ?_ (by decide) (by decide))
 refine Z2 (a' (rN M rL F p3 P s σ H (λvs H1=>match vs with
  | [x]=>HZ X.K x H1 Q
  |_=>False) I h) λus S ⟨vs,H1,w,r,q⟩=>?_) F rfl
 match vs,q with
 | [v],.inl q=>exact a' (HU A P S σ H1 [v] us (λy a=>qD [y] a Q) w r q) λu Z ⟨v2,a,b,Y,V⟩=>Pr (HV P Z σ a [v2] [u] Q b (.cons Y .nil) V)
 | [v],.inr ⟨p,U,e,D,q⟩=>
  subst e;obtain⟨u,rfl,W⟩:=r.one;cases W;refine nv A R w D λK tk c x E e2 b _=>?_;refine Pr ?_;obtain⟨o,ep,t,g,J,d,_,_,tt⟩:=x.obj;have n:(c.map (bp X.prog X.w)).toArray.size=c.length:=by simp
  have hl:c.length=(gS (U.map (·.1))).length:=by rw[<-HX x.nod E,Zh]
  have f:=tt.fits.2;rw[Zh]at f;have C:c.length<76:=by have L:=x.nod.length_le_of_subset λk N=>(E k).mp N;have:=D.2.2;rw[Zh,Zh]at L;omega
  exact call_len_set (s:={S with heap:=K,toks:=tk}) g J d (by grind) (by grind) ⟨.int c.length,H1,b.tok _,⟨_,by rw[n]⟩,by grind⟩
theorem zt{K:Fg}{m:GS}{μ:La}{H:Hp}:∀{xs:List D} {vs:List V},xs.all (aw (.seq .int))=NA->aj K m μ H xs vs->∃ks:List (Li×ND),vs=(ks.map λc=>V.ref c.2)/\(∀c∈ks,ca K H c.2 (c.1.map V.int))/\ks.map (·.1)=xs.map il
 | [],vs,_,r=>by unfold aj at r;subst r;exact⟨[],rfl,λc h=>(by cases h),rfl⟩
 |x::xs,vs,h,r=>by
  simp only[PR,ZL]at h;obtain⟨v,w,rfl,R,k⟩:=r.uncons;obtain⟨ks,rfl,g,i⟩:=zt h.2 k;cases x with
  |tup f=>
   have d:f.all (aw .int)=NA:=h.1;obtain⟨a,u,rfl,j,q⟩:=b3 R;rw[nr d]at q;have e:=nt q;subst e;refine⟨(f.filterMap cg,a)::ks,rfl,λc b=>?_,by rw[ZV,i];rfl⟩;rcases Zi.mp b with rfl|b
   ·exact j
   ·exact g c b
  |_=>simp[aw]at h
theorem tJ(s:aO K ⟨mg,F⟩ μ S H)(r:Rep K ⟨mg,F⟩ μ H d v)(e:av S d=Nz xs)(c:xs.all (aw (.seq .int))=NA/\xs.length<76):∃p ks,v=.ref p/\HY K H p ks/\ks.map (·.1)=xs.map il:=by obtain⟨a,vs,rfl,f,R⟩:=ff s r e;obtain⟨ks,rfl,b,h⟩:=zt c.1 R;refine⟨a,ks,rfl,⟨f,b,?_⟩,h⟩;have:=Yj Po h;rw[Zh,Zh]at this;omega
theorem H4{Q:VK}(s:aO K ⟨mg,F⟩ μ S H)(r:Rep K ⟨mg,F⟩ μ H d v)(w:aU K ⟨mg,F⟩ μ H Q (jK d S)):HZ K v H Q:=by
 unfold jK at w;split at w
 ·rename_i x e;split at w
  ·rename_i h;obtain⟨a,vs,rfl,b,R⟩:=ff s r e;have f:(x.filterMap cg).length<1000:=by grind
   rw[nr h.1]at R;have g:=nt R;subst g;exact .inl ⟨a,_,rfl,b,by unfold scanBound;omega,λl i c=>⟨l,_,_,rfl,dr,by have:=nq (x.filterMap cg);omega,w _ _ _ (.laid c) (s.laid c) bI⟩⟩
  ·split at w
   ·rename_i h;obtain⟨p,k,rfl,b,E⟩:=tJ s r e h;exact .inr ⟨p,_,rfl,b,by rw[E];exact w _ _ _ .refl s bI⟩
   ·exact w.elim
 ·exact w.elim
section
variable {R:RH->NC->Prop}{P:Nat->NF->Prop}{St:Nat->NO->Prop}
end
theorem zu{a:Type}(f:Nat->Nat):∀(n k:Nat) (left:List a) (out:Array a),left.length=n->(pickOrder.go f n k left out).toList.Perm (out.toList++left)
 |0,k,left,out,h=>by have:left=[]:=ZK h;subst this;unfold pickOrder.go;simp
 |n+1,k,left,out,h=>by
  have H:f k%left.length<left.length:=Ro _ (by omega);unfold pickOrder.go;rw[Zf H];dsimp only;refine(zu f n (k+1) _ _ (by rw[List.length_eraseIdx_of_lt H];omega)).trans ?_;rw[OK,ZP];refine Pq _ ?_;have:left=left.take (f k%left.length)++left[f k%left.length]::left.drop (f k%left.length+1):=by rw[<-Ye H,O0]
  rw[RB];refine QD.trans ?_ (SO this.symm);rw[List.singleton_append];exact(OQ).symm
theorem H5(f:Nat->Nat)(xs:Array α):(pickOrder f xs).toList.Perm xs.toList:=by have:=zu f xs.size 0 xs.toList #[] (by simp);simpa[pickOrder]using this
noncomputable def cJ(w:N0)(a:ND)(ep:Nat)(es:Array (Int×NF)):List (Int×NF):=if fk w=NA then(pickOrder (w.params.setOrder a ep) es).toList else es.toList
noncomputable def bY(w:N0)(k:List Nat):Nat->Nat
 |0=>0
 |i+1=>if fk w=NA then 0 else k.getD i 0+1
theorem j9(w:N0)(a:ND)(ep:Nat)(es:Array (Int×NF)):(cJ w a ep es).Perm es.toList:=by
 unfold cJ;split
 ·exact H5 _ _
 simp_all
structure TB (w:N0)(t:NV)(n:Nat):Prop where
 fit:t.fits n=NA
 led:t.led=(!fk w)
 pl:t.plain=NA
 ris:iq t.place
theorem TB.size{t:NV}(x:TB w t n):n=t.place.toList.length:=by have:=x.fit;unfold RP at this;simp_all
theorem j_{t:NV}{i:Nat}{Q:Option (NF×Nat)->NC->Prop}(T:TB w t es.size)(g:s.heap.get? a=Nz o)(d:o.data=.set es ep t)(hi:i<=es.size)
  (fin:Q (((cJ w a ep es)[i]?).map λe=>(e.2,bY w t.place.toList (i+1))) s):wpAny (model prog w) A (setNext a (bY w t.place.toList i) i ep) Q E s:=by
 have p:=T.size;have f:=T.fit;unfold setNext;refine Za (Od g d f ?_);dsimp only;refine Za (m:=setsByText) (Za (Pk (Ze ?_)));cases h:fk w with
 |true=>
  have H:w.params.followText "set-order"=NA:=h;show wpAny _ _ (if(w.params.followText "set-order")=NA then _ else _) _ _ _;rw[if_pos H];simp only[bne_self_eq_false,Z9,if_false];refine Za ?_;unfold setWalk;refine Za (Od g d f ?_);dsimp only;refine Za (m:=setsByText) (Za (Pk (Ze ?_)));show wpAny _ _ (if(w.params.followText "set-order")=NA then _ else _) _ _ _;rw[if_pos H];refine Za (Pk (Ze (Ze ?_)));have j:cJ w a ep es=(pickOrder (w.params.setOrder a ep) es).toList:=by unfold cJ;rw[if_pos h]
  have k:bY w t.place.toList (i+1)=bY w t.place.toList i:=by
   cases i with
   |zero=>simp[bY,h]
   |succ i=>simp[bY,h]
  rw[j,k,ZT]at fin;exact fin
 |false=>
  have H:w.params.followText "set-order"=NB:=h;show wpAny _ _ (if(w.params.followText "set-order")=NA then _ else _) _ _ _;rw[if_neg (by grind)];refine P9 ?_
  rw[if_neg (λz=>by have z:(!t.plain&&decide (es.size>1))=NA:=z;rw[T.pl]at z;simp at z)];refine Za ?_;show wpAny _ _ (if(!t.led&& !es.isEmpty)=NA then _ else pure ()) _ _ _;rw[if_neg (by rw[T.led,h];simp)];refine Ze (Ze ?_);have n:=T.ris;have j:cJ w a ep es=es.toList:=by unfold cJ;rw[if_neg (by grind)]
  have l:NI t.place (bY w t.place.toList i)=i:=by
   cases i with
   |zero=>exact HA _ n
   |succ i=>
    have b:i<t.place.size:=by grind
    have e:bY w t.place.toList (i+1)=t.place[i]+1:=by show(if fk w=NA then 0 else t.place.toList.getD i 0+1)=_;rw[h];simp[b]
    rw[e];exact Hz n _
  rw[j,ZT]at fin;rw[l];by_cases b:i<es.size
  ·have c:i<t.place.size:=by grind
   have k:bY w t.place.toList (i+1)=t.place[i]+1:=by show(if fk w=NA then 0 else t.place.toList.getD i 0+1)=_;rw[h];simp[c]
   rw[Oa b]at fin⊢;rw[k]at fin;simpa[c]using fin
  ·rw[Sk (by omega)]at fin⊢;exact fin
theorem iR:Slot "set_iterator" "__next__" "set_iterator.__next__":=.of (owner:="set_iterator") (n:="__next__") (by rw[typeLookup_type,T5];kernel_rfl) (by decide+kernel) (by decide+kernel) (by decide+kernel) (by first|exact .inl (by decide+kernel)|exact .inr (by decide+kernel)) (by rw[SG];kernel_rfl)
theorem zv:Slot "set_iterator" "__iter__" "set_iterator.__iter__":=.of (owner:="set_iterator") (n:="__iter__") (by rw[typeLookup_type,T5];kernel_rfl) (by decide+kernel) (by decide+kernel) (by decide+kernel) (by first|exact .inl (by decide+kernel)|exact .inr (by decide+kernel)) (by rw[SG];kernel_rfl)
theorem H7:entryFor table "set_iterator.__iter__"=Nz OO.«dict_keyiterator.__iter__»:=entryFor_alias (id':="dict_keyiterator.__iter__") (rfl) rfl (by decide+kernel) (rfl)
theorem H8(v:NF):argsOk "set_iterator.__iter__" ⟨[v],[]⟩:=by kernel_rfl
theorem zw:entryFor table "set_iterator.__next__"=Nz OO.«set_iterator.__next__»:=entryFor_of_tree rfl
theorem zx(v:NF):argsOk "set_iterator.__next__" ⟨[v],[]⟩:=by kernel_rfl
theorem H9:entryFor table "set.__iter__"=Nz OO.«frozenset.__iter__»:=entryFor_alias (id':="frozenset.__iter__") (rfl) rfl (by decide+kernel) (rfl)
def ka(h:NO)(it a:ND)(sl i n ep:Nat):Prop:=∃o,h.get? it=Nz o/\o.cls=.type "set_iterator"/\o.data=.fields #[.int sl 0,.int i 0,.ref a,.int n 0,.int ep 0]
theorem tK{t:NV}(T:TB w t es.size)(g:s.heap.get? a=Nz o)(e:o.ExactSet)(d:o.data=.set es ep (t))
  (fin:Q (.ref s.heap.objs.size) {s with heap:=s.heap.push {cls:=.type "set_iterator",data:=.fields #[.int 0 0,.int 0 0,.ref a,.int es.size 0,.int ep 0]}}):wpAny (model prog w) A (pyIter (.ref a)) Q E s:=by
 have f:=T.fit;have ty:s.TypeIs (.ref a) _:=⟨o,g,e.1⟩;refine RT ty F.slot_set_iter (Z1 F.slot_set_iter ty H9 ?_ (F.args_set_iter_1 _));refine Za (Za (Ze (Ze ?_)));refine Za (Za (RC g d f (Ze ?_)));refine Za ?_;refine Za (Od g d f ?_);refine Za (Za (Pk (Ze (Ze ?_))))
 rw[if_neg (show ¬_ from λz=>by have z:(!(w.params.followText _)&&(!t.plain&&decide _))=NA:=z;rw[T.pl]at z;simp at z)];exact Za (Ze (Za (wpAny_setEpoch_of g d f (Za (Yg (Ze ⟨_,rfl,_,_,⟨_,Zk _ rfl,rfl⟩,iR.lookup,fin⟩))))))
theorem nw{t:NV}{i:Nat}{e:Int×NF}{Q:Ov->NC->Prop}(h:ka s.heap it a (bY w t.place.toList i) i es.size ep)(T:TB w t es.size)(g:s.heap.get? a=Nz o)(d:o.data=.set es ep (t))
  (j:(cJ w a ep es)[i]?=Nz e) (fin:∀h',ka h' it a (bY w t.place.toList (i+1)) (i+1) es.size ep->NR it s.heap h'->Q (Nz e.2) {s with heap:=h'}):wpAny (model prog w) A (pyNext (.ref it)) Q E s:=by
 obtain⟨O,G,c,D⟩:=id h;have ty:s.TypeIs (.ref it) "set_iterator":=⟨O,G,c⟩
 have l:i<=es.size:=by have k:=(Zm.mp j).1;rw[(j9 w a ep es).length_eq,Zv]at k;omega
 unfold pyNext;refine Za (Ps (Z4 ty iR (Z1 iR ty zw ?_ (zx _))));refine Za (Ze ?_);refine Za (wpAny_fieldsOf G D ?_);dsimp only;refine Za (RC g d T.fit ?_);rw[if_neg (by simp)];refine Za ?_;rw[OM,OM,OM];refine j_ T g d l ?_;rw[j];refine Za (QB G D (by simp) ?_);have f:=NW (Obj.mapFields (·.setIfInBounds 0 (rawInt (bY w t.place.toList (i+1):Nat)))) G (QW (OX D _));have b:=OX D (·.setIfInBounds 0 (rawInt (bY w t.place.toList (i+1):Nat)));refine Za (QB f b (by simp) ?_);refine Ze ⟨_,rfl,Ze (fin _ ⟨_,NW (Obj.mapFields (·.setIfInBounds 1 (rawInt ((i:Int)+1)))) f (QW (OX b _)),?_,?_⟩ ((Yb _ it _).trans (Yb _ it _)))⟩
 ·rw[Ry,Ry];exact c
 ·rw[OX b (·.setIfInBounds 1 (rawInt ((i:Int)+1)))];simp[rawInt]
theorem tM{t:NV}{Q:Ov->NC->Prop}(c:A.handled=none)(h:ka s.heap it a (bY w t.place.toList es.size) es.size es.size ep)(T:TB w t es.size)(g:s.heap.get? a=Nz o)(d:o.data=.set es ep (t))
  (fin:∀h',RI it s.heap h'->Q none {s with heap:=h'}):wpAny (model prog w) A (pyNext (.ref it)) Q E s:=by
 obtain⟨O,G,C,D⟩:=id h;have ty:s.TypeIs (.ref it) "set_iterator":=⟨O,G,C⟩;unfold pyNext;refine Za (Ps (Z4 (name:=OA "__next__") ty iR (Z1 iR ty zw ?_ (zx _))));unfold OO.«set_iterator.__next__»;refine Za (Ze ?_);refine Za (wpAny_fieldsOf G D ?_);dsimp only;refine Za (RC g d T.fit ?_);rw[if_neg (by simp)];refine Za ?_;rw[OM,OM,OM];refine j_ T g d (Zg _) ?_;rw[PJ (by rw[(j9 w a ep es).length_eq,Zv];exact Zg _)];dsimp only[Option.map_none];refine Za (QB G D (by simp) (Za ?_));simp only[newExc,newTuple];refine Za (Yg (Za (m:=firstArgMember _ _) (PF (a:=NE) (by first|rfl| (simp only[firstArgMember];rfl)) (Yg ?_ (by size_fits)))) (by size_fits));simp only[raiseNew];refine Za (wpAny_handled ?_);rw[show A.in1.handled=none from c];refine Za (Ze (wpAny_throw ?_));exact Za (QX (T:="StopIteration") (b:=NA) ⟨_,Zk _ rfl,rfl⟩ Sz (Ze (fin _ (((Yb ..).extBut.push _).push _))))
theorem Walks.setC(calm:A.handled=none)(hne:a≠it){t:NV}(T:TB w t es.size)(d:o.data=.set es ep (t)):
  Walks prog w A it [it,a] [it] es.size (λi v=>∃e,(cJ w a ep es)[i]?=Nz e/\v=e.2) (λi h=>ka h it a (bY w t.place.toList i) i es.size ep/\h.get? a=Nz o) where
 sub:=λb hb=>by simp_all
 frame:=λi h h' st k=>by obtain⟨⟨oi,gi,ri⟩,g⟩:=st;exact⟨⟨_,k _ (by simp) _ gi,ri⟩,k a (by simp) o g⟩
 item:=λi s Q E hi st hQ=>by
  have hl:i<(cJ w a ep es).length:=by rw[(j9 w a _ _).length_eq];exact hi
  refine nw st.1 T st.2 d (Zf hl) λh' hit' sb=>?_;refine hQ _ _ _ ⟨_,Zf _,rfl⟩ ⟨hit',sb.extBut a o hne st.2⟩ λb o hb e=>sb.extBut b o (λh=>hb (by simp[h])) e
 done:=λs Q E st hQ=>tM calm st.1 T st.2 d λh' he=>hQ _ _ λb o hb e=>he b o (λh=>hb (by simp[h])) e
 self:=λi s Q E st hQ=>by obtain⟨⟨oi,gi,ci,di⟩,_⟩:=st;have ty:s.TypeIs (.ref _) _:=⟨_,gi,ci⟩;exact RT ty zv (Z1 zv ty H7 (Ze ⟨_,rfl,_,_,ty,iR.lookup,hQ⟩) (H8 _))
theorem H_{t:NV}{Q:Lv->NC->Prop}(C:A.handled=none)(T:TB w t es.size)(g:s.heap.get? a=Nz o)(q:o.ExactSet)(d:o.data=.set es ep t)(few:es.size<1000)
  (fin:∀(h':NO) (tk:Nat) (vs:Lv),(∀b o,s.heap.get? b=Nz o->h'.get? b=Nz o)->vs.Perm (es.toList.map (·.2))->Q vs {s with heap:=h',toks:=tk}):wpAny (model prog w) A (collect (.ref a)) Q E s:=by
 have N:=Zo g;unfold collect;refine Za (Rn (Og F.entry_proto_collect ?_));rw[NZ F.plain_proto_collect];refine Za (m:=newList []) (Yg (Ze ⟨Qb F.plain_list_iadd _,Og F.entry_list_iadd ?_⟩));rw[NZ F.plain_list_iadd];generalize p:s.heap.objs.size=S;have z:(s.heap.push {cls:=.type "list",data:=.seq ([]:Lv).toArray}).get? S=Nz {cls:=.type "list",data:=.seq #[]}:=by rw[<-p];exact Zk _ rfl
 have G:(s.heap.push {cls:=.type "list",data:=.seq ([]:Lv).toArray}).get? a=Nz o:=Zc _ g;have D:∀b o,s.heap.get? b=Nz o->(s.heap.push {cls:=.type "list",data:=.seq ([]:Lv).toArray}).get? b=Nz o:=λ_ _ e=>Zc _ e;generalize s.heap.push {cls:=.type "list",data:=.seq ([]:Lv).toArray}=h at z G D⊢;have ty:Q5 {s with heap:=h} (.ref a) "set":=⟨o,G,q.1⟩;show wpAny _ A.in1 (Rc (.ref S) (.ref a) (.ref S)) _ _ _;unfold Rc;refine Za (Qu ty ?_)
 rw[if_neg (by
  have:S≠a:=by rw[<-p];exact OV N
  simp[Builtin.List.listSameRef,this])]
 refine Za (tK T G q d ?_);have x:a<h.objs.size:=Zo G;have K:∀b o,h.get? b=Nz o->(h.push {cls:=.type "set_iterator",data:=.fields #[.int 0 0,.int 0 0,.ref a,.int es.size 0,.int ep 0]}).get? b=Nz o:=λ_ _ e=>Zc _ e;have k:ka (h.push {cls:=.type "set_iterator",data:=.fields #[.int 0 0,.int 0 0,.ref a,.int es.size 0,.int ep 0]}) h.objs.size a (bY w t.place.toList 0) 0 es.size ep:=⟨_,Zk _ rfl,rfl,rfl⟩;show wpAny _ A.in1 _ _ _ {s with heap:=h.push {cls:=.type "set_iterator",data:=.fields #[.int 0 0,.int 0 0,.ref a,.int es.size 0,.int ep 0]}};generalize h.push {cls:=.type "set_iterator",data:=.fields #[.int 0 0,.int 0 0,.ref a,.int es.size 0,.int ep 0]}=i at K k⊢;have f:Q5 {s with heap:=i} (.ref a) "set":=⟨o,K a o G,q.1⟩;refine Za (Z8 ?_);unfold Builtin.List.listLengthHint;refine Za (Si f F.slot_set_len.lookup ?_);have sp:splitId "set.__len__"=Nz ("set","__len__"):=by decide+kernel
 dsimp only;rw[sp];dsimp only;refine Za (QX (b:=NA) f (by rw[SG];kernel_rfl) ?_);rw[if_neg (show ¬((!NA)=NA)by decide)];refine P9 ?_;rw[if_pos]
 rotate_left
 ·decide+kernel
 refine Za (Qu f (Ze ?_));refine P9 ?_;rw[if_pos]
 rotate_left
 ·decide+kernel
 refine Za (Ob ?_);have l:=K S _ z;refine Za (m:=Builtin.List.listTouch (.ref S)) (Za (m:=updateSeq S (·.push .none)) (wpAny_updateSeq l rfl ?_));have n:=NW (N7 (·.push NE)) l rfl;refine wpAny_updateSeq n rfl ?_;have B:=NW (N7 (·.pop)) n rfl;have J:∀b o,b≠S->i.get? b=Nz o->((i.update S (N7 (·.push NE))).update S (N7 (·.pop))).get? b=Nz o:=λb o U e=>(Pt _ _ (Ne.symm U)).trans ((Pt _ _ (Ne.symm U)).trans e);have u:a≠S:=by rw[<-p];exact ZC N
 have v:h.objs.size≠S:=OV (Zo z);have out:S∉[h.objs.size,a]:=by grind
 have W:=(Walks.setC (A:=A.in1) (prog:=prog) (w:=w) (by simpa using C) (ZC x) (it:=h.objs.size) (o:=o) (ep:=ep) T d).toS;refine Ze ⟨Qb F.plain_extend_loop _,codeAny_extend_loopS W (by rw[PC];omega) S out _ es.size 0 _ _ _ rfl (Yp _) ⟨?_,J a o u (K a o G)⟩ B ?_ λs' c c' mv r I=>?_⟩
 ·obtain⟨V,gi,ri⟩:=k;exact⟨V,J _ V v gi,ri⟩
 ·exact ItemsOf.nil _
 ·refine Za (wpAny_load r (Ze ?_));obtain⟨h',g',d',M,L⟩:=s';obtain⟨mh,mg,md,mo,_⟩:=mv;have Y:g'=s.gens:=mg;have eo:L=s.os:=mo;subst Y md eo;refine fin h' M _ (λb O e=>?_) ?_
  ·have hb:=Zo (D b O e);have y:=Zo e;have R:b≠S:=by rw[<-p];exact ZC y
   refine mh b O ?_ (J b O R (K b O (D b O e)));simp only[Zi,ZX,or_false,not_or];exact⟨R,ZC hb⟩
  ·have Z:c.toList=(cJ w a ep es).map (·.2):=by
    refine TK λj=>?_;rw[ZT,Z0];have hz:(cJ w a ep es).length=es.size:=by rw[(j9 w a ep es).length_eq,Zv]
    by_cases P:j<c.size
    ·obtain⟨e,h,i⟩:=I.2 j _ (Oa P);rw[Oa P,h,i];rfl
    ·have h0:=I.1;rw[Sk (by omega),PJ (by omega)];rfl
   rw[Z];exact(j9 w a ep es).map _
end Py
section
set_option autoImplicit false
namespace Srt
theorem iS{σ:Type}{m:StateT σ Sem α}{f:α->StateT σ Sem β}{Q:β->σ->Prop}{st:σ}(h:∀g,g=f->wpS M A E s m (λa S=>wpS M A E s (g a) Q S) st):wpS M A E s (m>>=f) Q st:=Zx (h f rfl)
theorem iT{σ:Type}{a b:Nat}{f:Nat->β->StateT σ Sem (ForInStep β)}(I:Nat->β->σ->Prop){Q:β->σ->Prop}
  (H:∀g,g=f->∀i c st,a<=i->i<b->I i c st->wpS M A E s (g i c) (λr S=>match r with| .done C=>Q C S| .yield C=>I (i+1) C S) st)
  (d:∀c st,I (max a b) c st->Q c st) {c:β} {st:σ} (h:I a c st):wpS M A E s (forIn [a:b] c f) Q st:=OE I (H f rfl) d h
noncomputable def zy:Bool->NH->Array NH->Nat->Nat->Nat->StateT NK Sem (Option Nat):=sortPriv%PySem.Builtin.gallop
noncomputable def Ia:Array NH->Array NH->StateT NK Sem (Array NH):=sortPriv%PySem.Builtin.mergeLo
noncomputable def Ib:Array NH->Array NH->StateT NK Sem (Array NH):=sortPriv%PySem.Builtin.mergeHi
noncomputable def dK:NH:=(NE,NE)
structure ir (prog:NU)(w:N0)(A:OH)(s:NC)(κ:OT)(P:NH->Prop)(K:NH->Nat):Prop where
 lt:∀x,P x->∀y,P y->∀(Q:Bool->NC->Prop) (E:Vs),Q (decide (K x<K y)) s->wpAny (model prog w) A (keyLt' κ x.1 y.1) Q E s
noncomputable def R(K:NH->Nat)(xs:Array NH)(i:Nat):Nat:=K (xs.getD i dK)
theorem zA{x hi:Nat}(h:hi-lo<=n-x)(H:lo<hi):lo+(hi-lo)/2-lo<=n-(x+1):=by rw[Nat.add_sub_cancel_left];exact Zw (S7 (Nat.div_lt_self (T6 H) (by decide))) (O9 h 1)
theorem zB{x hi:Nat}(h:hi-lo<=n-x):hi-(lo+(hi-lo)/2+1)<=n-(x+1):=
 Zw (Rf (Pb (OR lo _)) hi) (O9 h 1)
theorem qE{hi:Nat}(H:lo<hi):lo+(hi-lo)/2+1<=hi:=by
 have h:=Nat.add_lt_add_left (Nat.div_lt_self (T6 H) (by decide:1<2)) lo
 rwa [Nat.add_sub_of_le (OU H)]at h
theorem zC{o l:Nat}(h1:l<o)(h:hint+l<n):hint+l+1<=hint+min o (n-hint):=
 Tp (Nat.le_min.mpr ⟨h1,Nat.lt_sub_iff_add_lt'.mpr h⟩) hint
theorem zD{o l:Nat}(h1:l<o)(h:l<=hint):hint+1-min o (hint+1)<=hint-l:=
 Zw (Rf (Nat.le_min.mpr ⟨h1,Pb h⟩) _) (Nat.le_of_eq (Nat.add_sub_add_right hint 1 l))
theorem zE{o i:Nat}(hi:i<hint+1-min o (hint+1))(h:o<=hint):i<=hint-o:=by rw[RV (RD h),Nat.succ_sub h]at hi;exact Nat.le_of_lt_succ hi
theorem zF{x l r:Nat}(h:r-l<=k-x)(a:l<r):(l+r)/2-l<=k-(x+1):=by have H:(l+r)/2<r:=Nat.div_lt_of_lt_mul (by rw[Nat.two_mul];exact Nat.add_lt_add_right a r);refine Zw (O9 (S7 H) l) ?_;rw[Nat.sub_right_comm];exact O9 h 1
theorem zG{x l r:Nat}(h:r-l<=k-x)(a:l<r):r-((l+r)/2+1)<=k-(x+1):=by have H:l<=(l+r)/2:=(Nat.le_div_iff_mul_le (by decide)).mpr (by rw[Nat.mul_two];exact Tp (OU a) l);exact Zw (Rf (Pb H) r) (O9 h 1)
section
variable {P:NH->Prop}{K:NH->Nat}
theorem ny{xs:Array NH}{i:Nat}(h:i<xs.size):xs.getD i dK=xs[i]:=by simp_all
theorem cl{xs:Array NH}{i:Nat}(h:i<xs.size):R K xs i=K xs[i]:=by unfold R;rw[ny h]
theorem nz(C:ir prog w A s κ P K){x y:NH}(a:P x)(b:P y)(H:kindOf st=κ){Q:Option Bool->NK->Prop}(h:Q (Nz (decide (K x<K y))) st):wpS (model prog w) A E s (lt' x y) Q st:=by rw[lt'_eq];refine Zx (Qx ?_);rw[H];exact Zx (Rp (Ps (C.lt x a y b _ _ ⟨rfl,Zr h⟩)))
theorem iU{xs:Array NH}{i:Nat}(hi:i<xs.size){Q:NH->NK->Prop}(h:Q xs[i] st):wpS (model prog w) A E s (elem' xs i) Q st:=by rw[elem'_eq,getElem?_pos _ i hi];exact Zr h
theorem cN{xs:Array NH}{i:Nat}(hi:i<xs.size){f:NH->StateT NK Sem α}{Q:α->NK->Prop}(h:wpS (model prog w) A E s (f xs[i]) Q st):wpS (model prog w) A E s (elem' xs i>>=f) Q st:=Zx (iU hi h)
theorem zH(C:ir prog w A s κ P K){x y:NH}(a:P x)(b:P y)(H:kindOf st=κ){f:Option Bool->StateT NK Sem α}{Q:α->NK->Prop}(h:wpS (model prog w) A E s (f (Nz (decide (K x<K y)))) Q st):wpS (model prog w) A E s (lt' x y>>=f) Q st:=Zx (nz C a b H h)
noncomputable def dv(K:NH->Nat)(left:Bool)(k:NH):Nat:=if left=NA then K k else K k+1
theorem kb(C:ir prog w A s κ P K){left:Bool}{arr:Array NH}{i:Nat}(d:∀x∈arr.toList,P x)(c:P key)(H:kindOf st=κ)(hi:i<arr.size){Q:Option Bool->NK->Prop}(h:Q (Nz (decide (R K arr i<dv K left key))) st):
  wpS (model prog w) A E s (elem' arr i>>=λx=>if left=NA then lt' x key else lt' key x>>=λr=>pure (r.map λb=> !b)) Q st:=by
 refine Zx (iU hi ?_);have a:P arr[i]:=d _ (by simp);rw[cl hi]at h;cases left with
 |true=>exact nz C a c H h
 |false=>
  refine Zx (nz C c a H ?_);refine Zr ?_;have e:(!decide (K key<K arr[i]))=decide (K arr[i]<dv K NB key):=by rw[<-decide_not];exact decide_eq_decide.mpr (by show ¬K _<K _↔K _<K _+1;lia)
  simp_all
theorem tN(C:ir prog w A s κ P K){left:Bool}{arr:Array NH}{base:Nat}(y:∀x∈arr.toList,P x)(B:P key)(z:kindOf st=κ)(Y:base+n<=arr.size)(X:hint<n)
  (hs:∀i j,i<=j->j<n->R K arr (base+i)<=R K arr (base+j)) {Q:Option Nat->NK->Prop}
  (h:∀k,k<=n->(∀i,i<k->R K arr (base+i)<dv K left key)->(∀i,k<=i->i<n->dv K left key<=R K arr (base+i))->Q (Nz k) st):wpS (model prog w) A E s (zy left key arr base n hint) Q st:=by
 have last:∀L H:Nat,L<=H->H<=n->(∀i,i<L->R K arr (base+i)<dv K left key)->(∀i,H<=i->i<n->dv K left key<=R K arr (base+i))->
   ∀{f:Nat->Option (Option Nat)×Nat×Nat->StateT NK Sem (ForInStep (Option (Option Nat)×Nat×Nat))} {g:Option (Option Nat)×Nat×Nat->StateT NK Sem (Option Nat)},
   (∀x L H,L<H->H<=n->∀v,(R K arr (base+(L+(H-L)/2))<dv K left key->v (.yield (none,L+(H-L)/2+1,H)) st)->(¬R K arr (base+(L+(H-L)/2))<dv K left key->v (.yield (none,L,L+(H-L)/2)) st)->wpS (model prog w) A E s (f x (none,L,H)) v st)->
   (∀x L H,H<=L->f x (none,L,H)=pure (.done (none,L,H)))->(∀L H,g (none,L,H)=pure (Nz H))->wpS (model prog w) A E s (forIn [:n] (none,L,H) f>>=g) Q st:=by
  intro L H r u M N f g T O U
  refine Zx (OZ (OE (I:=λx c S=>S=st/\∃L H,c=(none,L,H)/\L<=H/\H<=n/\H-L<=n-x/\(∀i,i<L->R K arr (base+i)<dv K left key)/\(∀i,H<=i->i<n->dv K left key<=R K arr (base+i)))
   (Q:=λc S=>S=st/\∃H,c=(none,H,H)/\H<=n/\(∀i,i<H->R K arr (base+i)<dv K left key)/\(∀i,H<=i->i<n->dv K left key<=R K arr (base+i))) ?_ ?_ ⟨rfl,L,H,rfl,r,u,by lia,M,N⟩) ?_)
  ·rintro x c S _ J ⟨rfl,L,H,rfl,m,q,d,b,p⟩;by_cases e:H<=L
   ·rw[O x L H e];have:L=H:=by lia
    subst this;exact Zr ⟨rfl,L,rfl,q,b,p⟩
   ·have e:=RK e;refine T x L H e q _ (λa=>⟨rfl,_,_,rfl,qE e,q,zB d,λi V=>?_,p⟩) (λa=>⟨rfl,_,_,rfl,OR _ _,Zw (OL (qE e)) q,zA d e,b,λi r u=>?_⟩)
    ·have:=hs i (L+(H-L)/2) (by lia) (by lia);lia
    ·have:=hs (L+(H-L)/2) i (by lia) (by lia);lia
  ·rintro c S ⟨rfl,L,H,rfl,m,q,d,b,p⟩;have:L=H:=by lia
   subst this;exact⟨rfl,L,rfl,q,b,p⟩
  ·rintro c S ⟨rfl,H,rfl,q,b,p⟩;rw[U];exact Zr (h H q b p)
 refine Zx (kb C y B z (by lia) ?_);by_cases D:R K arr (base+hint)<dv K left key
 ·rw[ZO D]
  refine Zx (OZ (OE (I:=λx c S=>S=st/\∃l o,c=(none,l,o)/\l<o/\x+1<=o/\hint+l<n/\R K arr (base+(hint+l))<dv K left key)
   (Q:=λc S=>S=st/\∃l o,c=(none,l,o)/\l<o/\hint+l<n/\R K arr (base+(hint+l))<dv K left key/\(n-hint<=o\/(hint+o<n/\dv K left key<=R K arr (base+(hint+o))))) ?_ ?_ ⟨rfl,0,1,rfl,by lia,by lia,by lia,D⟩) ?_)
  ·rintro x c S _ J ⟨rfl,l,o,rfl,m,q,d,b⟩;dsimp only;by_cases t:o>=n-hint
   ·rw[if_pos t];exact Zr ⟨rfl,l,o,rfl,m,d,b,.inl t⟩
   ·rw[if_neg t];refine Zx (kb C y B z (by lia) ?_);by_cases a:R K arr (base+(hint+o))<dv K left key
    ·rw[ZO a];exact Zr ⟨rfl,o,2*o+1,rfl,by lia,by lia,by lia,a⟩
    ·rw[ZQ a];exact Zr ⟨rfl,l,o,rfl,m,d,b,.inr ⟨by lia,by lia⟩⟩
  ·rintro c S ⟨rfl,l,o,rfl,m,q,d,b⟩;exact⟨rfl,l,o,rfl,m,d,b,.inl (by lia)⟩
  ·rintro c S ⟨rfl,l,o,rfl,m,d,b,p⟩;refine last (hint+l+1) (hint+min o (n-hint)) (zC m d) (by lia) (λi H=>?_) (λi r u=>?_) (λx L H r u v F G=>?_) (λx L H r=>if_pos r) (λL H=>rfl)
   ·have:=hs i (hint+l) (by lia) (by lia);lia
   ·rcases p with p| ⟨p,W⟩
    ·lia
    ·have:=hs (hint+o) i (by lia) (by lia);lia
   ·dsimp only;rw[if_neg (by lia)];refine Zx (kb C y B z (by lia) ?_);by_cases a:R K arr (base+(L+(H-L)/2))<dv K left key
    ·rw[ZO a];exact Zr (F a)
    ·rw[ZQ a];exact Zr (G a)
 ·rw[ZQ D]
  refine Zx (OZ (OE (I:=λx c S=>S=st/\∃l o,c=(none,l,o)/\l<o/\x+1<=o/\l<=hint/\dv K left key<=R K arr (base+(hint-l)))
   (Q:=λc S=>S=st/\∃l o,c=(none,l,o)/\l<o/\l<=hint/\dv K left key<=R K arr (base+(hint-l))/\(hint+1<=o\/(o<=hint/\R K arr (base+(hint-o))<dv K left key))) ?_ ?_ ⟨rfl,0,1,rfl,by lia,by lia,by lia,by simpa using D⟩) ?_)
  ·rintro x c S _ J ⟨rfl,l,o,rfl,m,q,d,b⟩;dsimp only;by_cases t:o>=hint+1
   ·rw[if_pos t];exact Zr ⟨rfl,l,o,rfl,m,d,b,.inl t⟩
   ·rw[if_neg t];refine Zx (kb C y B z (by lia) ?_);by_cases a:R K arr (base+(hint-o))<dv K left key
    ·rw[ZO a];exact Zr ⟨rfl,l,o,rfl,m,d,b,.inr ⟨by lia,a⟩⟩
    ·rw[ZQ a];exact Zr ⟨rfl,o,2*o+1,rfl,by lia,by lia,by lia,by lia⟩
  ·rintro c S ⟨rfl,l,o,rfl,m,q,d,b⟩;exact⟨rfl,l,o,rfl,m,d,b,.inl (by lia)⟩
  ·rintro c S ⟨rfl,l,o,rfl,m,d,b,p⟩;refine last (hint+1-min o (hint+1)) (hint-l) (zD m d) (by lia) (λi H=>?_) (λi r u=>?_) (λx L H r u v F G=>?_) (λx L H r=>if_pos r) (λL H=>rfl)
   ·rcases p with p| ⟨p,W⟩
    ·lia
    ·have:=hs i (hint-o) (zE H p) (by lia);lia
   ·have:=hs (hint-l) i (by lia) (by lia);lia
   ·dsimp only;rw[if_neg (by lia)];refine Zx (kb C y B z (by lia) ?_);by_cases a:R K arr (base+(L+(H-L)/2))<dv K left key
    ·rw[ZO a];exact Zr (F a)
    ·rw[ZQ a];exact Zr (G a)
theorem nA(C:ir prog w A s κ P K){left:Bool}{arr:Array NH}{base:Nat}(H:∀x∈arr.toList,P x)(c:P key)(b:kindOf st=κ)(d:base+n<=arr.size)(a:hint<n)
  (hs:∀i j,i<=j->j<n->R K arr (base+i)<=R K arr (base+j)) {f:Option Nat->StateT NK Sem α} {Q:α->NK->Prop}
  (h:∀k,k<=n->(∀i,i<k->R K arr (base+i)<dv K left key)->(∀i,k<=i->i<n->dv K left key<=R K arr (base+i))->wpS (model prog w) A E s (f (Nz k)) Q st):wpS (model prog w) A E s (zy left key arr base n hint>>=f) Q st:=Zx (tN C H c b d a hs h)
end
end Srt
end
section
set_option autoImplicit false
namespace Srt
section
variable {K:NH->Nat}
def LS(K:NH->Nat)(l:List NH):Prop:=l.Pairwise λx y=>K x<=K y
def Good(K:NH->Nat)(t:List NH)(r:Array NH):Prop:=r.toList.Perm t/\LS K r.toList
structure MI (K:NH->Nat)(tot o ra rb:List NH):Prop where
 perm:(o++ra++rb).Perm tot
 so:LS K o
 sa:LS K ra
 sb:LS K rb
 oa:∀x∈o,∀y∈ra,K x<=K y
 ob:∀x∈o,∀y∈rb,K x<=K y
variable {tot o ra rb c:List NH}
theorem MI.stepA(h:MI K tot o (c++ra) rb)(b:∀x∈c,∀y∈rb,K x<=K y):MI K tot (o++c) ra rb:=by
 have s:=ZG.mp h.sa;refine⟨?_,ZG.mpr ⟨h.so,s.1,λx a y H=>h.oa x a y (ZH _ H)⟩,s.2.1,h.sb,λx a y H=>?_,λx a y H=>?_⟩
 ·have:=h.perm;simp_all
 ·rcases Zp.mp a with z|z
  ·exact h.oa x z y (Zt _ H)
  ·exact s.2.2 x z y H
 ·rcases Zp.mp a with z|z
  ·exact h.ob x z y H
  ·exact b x z y H
theorem MI.stepB(h:MI K tot o ra (c++rb))(b:∀x∈c,∀y∈ra,K x<=K y):MI K tot (o++c) ra rb:=by
 have s:=ZG.mp h.sb;refine⟨?_,ZG.mpr ⟨h.so,s.1,λx a y H=>h.ob x a y (ZH _ H)⟩,h.sa,s.2.1,λx a y H=>?_,λx a y H=>?_⟩
 ·refine QD.trans ?_ h.perm;rw[ZP,ZP,ZP];refine Pq _ ?_;rw[<-ZP,<-ZP];exact RW _ QV
 ·rcases Zp.mp a with z|z
  ·exact h.oa x z y H
  ·exact b x z y H
 ·rcases Zp.mp a with z|z
  ·exact h.ob x z y (Zt _ H)
  ·exact s.2.2 x z y H
theorem MI.done(h:MI K tot o ra []):(o++ra++[]).Perm tot/\LS K (o++ra++[]):=by refine⟨h.perm,?_⟩;rw[Yf];exact ZG.mpr ⟨h.so,h.sa,h.oa⟩
theorem MI.last(h:MI K tot o ra rb)(a:∀y∈rb,∀z∈ra,K y<=K z):(o++rb++ra).Perm tot/\LS K (o++rb++ra):=by
 refine⟨QD.trans ?_ h.perm,ZG.mpr ⟨ZG.mpr ⟨h.so,h.sb,h.ob⟩,h.sa,λx b y H=>?_⟩⟩
 ·rw[ZP,ZP];exact Pq _ QV
 ·rcases Zp.mp b with z|z
  ·exact h.oa x z y H
  ·exact a x z y H
theorem nB{a:Array NH}{i:Nat}:(a.extract i).toList=a.toList.drop i:=by rw[O8];unfold List.extract;rw[Ot (by simp)]
theorem zI{a:Array NH}{i:Nat}:(a.extract i (i+k)).toList=(a.toList.drop i).take k:=by simp_all
theorem zJ{a:Array NH}{i:Nat}(h:i<a.size):a.toList.drop i=a[i]::a.toList.drop (i+1):=by rw[Ye _];rfl
theorem zK{a:Array NH}{i:Nat}:a.toList.drop i=(a.toList.drop i).take k++a.toList.drop (i+k):=by rw[<-List.drop_drop,O0]
theorem LS.mono{a:Array NH}(h:LS K a.toList){i j:Nat}(b:i<=j)(H:j<a.size):R K a i<=R K a j:=by
 rw[cl H,cl (show i<a.size by lia)];rcases Nat.lt_or_ge i j with z|z
 ·exact Yd.mp h i j (by simp;lia) (by simpa using H) z
 ·have:i=j:=by lia
  subst this;exact Zg _
theorem tO{a:Array NH}{i:Nat}{x:NH}(h:x∈(a.toList.drop i).take k):∃j,j<k/\i+j<a.size/\K x=R K a (i+j):=by obtain⟨j,H,rfl⟩:=ZD.mp h;simp at H;refine⟨j,by lia,by lia,?_⟩;rw[cl (show i+j<a.size by lia)];simp
theorem tQ{a:Array NH}{i:Nat}{x:NH}(h:x∈a.toList.drop i):∃j,i<=j/\j<a.size/\K x=R K a j:=by obtain⟨j,H,rfl⟩:=ZD.mp h;simp at H;refine⟨i+j,by lia,by lia,?_⟩;rw[cl (show i+j<a.size by lia)];simp
end
noncomputable def bm(st:NK)(g:Nat):NK:=QE (kindOf st) (arrOf st) (pendingOf st) g (failedOf st)
section
variable {P:NH->Prop}{K:NH->Nat}
structure ML (K:NH->Nat)(a b out:Array NH)(ia ib:Nat):Prop where
 mi:MI K (a.toList++b.toList) out.toList (a.toList.drop ia) (b.toList.drop ib)
 la:ia+1<a.size
 lb:ib<b.size
variable {a b out:Array NH}{ia ib:Nat}
theorem nC(h:MI K (a.toList++b.toList) out.toList (a.toList.drop ia) (b.toList.drop ib))(e:ib=b.size):Good K (a.toList++b.toList) (out++a.extract ia++b.extract ib):=by have E:b.toList.drop ib=[]:=OS (by simp_all);unfold Good;rw[Z5,Z5,nB,nB,E];rw[E]at h;exact h.done
theorem nD(H:∀y∈b.toList,K y<R K a (a.size-1))(h:MI K (a.toList++b.toList) out.toList (a.toList.drop ia) (b.toList.drop ib))(e:ia+1=a.size):Good K (a.toList++b.toList) (out++b.extract ib++a.extract ia):=by unfold Good;rw[Z5,Z5,nB,nB];refine h.last λy c z d=>?_;obtain⟨j,f,g,E⟩:=tQ (K:=K) d;have:=H y (P2 c);rw[E,show j=a.size-1 by lia];lia
theorem zL(h:MI K (a.toList++b.toList) out.toList (a.toList.drop ia) (b.toList.drop ib))(hi:ia<a.size)(H:∀y∈b.toList.drop ib,K a[ia]<=K y):MI K (a.toList++b.toList) (out.push a[ia]).toList (a.toList.drop (ia+1)) (b.toList.drop ib):=by
 rw[OK];refine MI.stepA ?_ λx c y d=>?_
 ·rw[zJ _]at h;exact h
 ·rw[ZB.mp c];exact H y d
theorem tR(h:MI K (a.toList++b.toList) out.toList (a.toList.drop ia) (b.toList.drop ib))(hi:ib<b.size)(H:∀y∈a.toList.drop ia,K b[ib]<=K y):MI K (a.toList++b.toList) (out.push b[ib]).toList (a.toList.drop ia) (b.toList.drop (ib+1)):=by
 rw[OK];refine MI.stepB ?_ λx c y d=>?_
 ·rw[zJ hi]at h;exact h
 ·rw[ZB.mp c];exact H y d
theorem zM(h:MI K (a.toList++b.toList) out.toList (a.toList.drop ia) (b.toList.drop ib))(c:∀i,i<k->∀y∈b.toList.drop ib,R K a (ia+i)<=K y):MI K (a.toList++b.toList) (out++a.extract ia (ia+k)).toList (a.toList.drop (ia+k)) (b.toList.drop ib):=by
 rw[Z5,zI];refine MI.stepA ?_ λx d y f=>?_
 ·rw[<-zK];exact h
 ·obtain⟨j,H,g,e⟩:=tO (K:=K) d;rw[e];exact c j H y f
theorem zN(h:MI K (a.toList++b.toList) out.toList (a.toList.drop ia) (b.toList.drop ib))(c:∀i,i<k->∀y∈a.toList.drop ia,R K b (ib+i)<=K y):MI K (a.toList++b.toList) (out++b.extract ib (ib+k)).toList (a.toList.drop ia) (b.toList.drop (ib+k)):=by
 rw[Z5,zI];refine MI.stepB ?_ λx d y f=>?_
 ·rw[<-zK];exact h
 ·obtain⟨j,H,g,e⟩:=tO (K:=K) d;rw[e];exact c j H y f
end
end Srt
end
section
set_option autoImplicit false
namespace Srt
abbrev MX:=Option (Array NH)×Array NH×Nat×Nat×Nat×Nat×Nat
noncomputable def YG(K:NH->Nat)(a b:Array NH)(st:NK)(n:Nat)(c:MX)(s:NK):Prop:=(∃g,s=bm st g)/\∃out j J mg ac B,c=(none,out,j,J,mg,ac,B)/\ML K a b out j J/\n<=j+J
noncomputable def DG(K:NH->Nat)(a b:Array NH)(st:NK)(n:Nat)(c:MX)(s:NK):Prop:=(∃g,s=bm st g)/\((∃r C,c=(Nz r,C)/\Good K (a.toList++b.toList) r)\/∃out j J mg ac B,c=(none,out,j,J,mg,ac,B)/\ML K a b out j J/\n<=j+J)
def dV{a:Type}(D Y:a->NK->Prop):ForInStep a->NK->Prop:=λr s=>match r with
 | .done c=>D c s
 | .yield c=>Y c s
theorem zO{X:Type _}{p:X->Prop}{c:Prop}{d:Decidable c}{f:Nat->X}{a:Nat}(k:∀o,p (f o)):∀O,p (if c then f O else f a):=λO=>by split<;>exact k _
theorem zP{X:Type _}{p:X->Prop}{c:Prop}{D:Decidable c}{d:∀j,Decidable (c1 j)}{x1 f:Array NH->Nat->X}{C H:Array NH->Nat->Prop}(k:∀o j,C o j->p (f o j))(e:¬c->C o2 j2)(h1:∀o j,H o j->c1 j->p (x1 o j))(g:∀o j,H o j->¬c1 j->C o j):
  ∀J O,H O J->p (if c then(if c1 J then x1 O J else f O J)else f o2 j2):=λJ O h=>by
 by_cases b:c
 ·rw[if_pos b];by_cases a:c1 J
  ·rw[if_pos a];exact h1 _ _ h a
  ·rw[if_neg a];exact k _ _ (g _ _ h a)
 ·rw[if_neg b];exact k _ _ (e b)
theorem zQ{X:Type _}{p:X->Prop}{c:Prop}{b:Nat->Prop}{m:Decidable c}{D:∀j,Decidable (c1 j)}{e:∀j,Decidable (b j)}{x1 x2 f:Array NH->Nat->X}{C H:Array NH->Nat->Prop}(k:∀o j,C o j->p (f o j))(g:¬c->C o2 j2)(h1:∀o j,H o j->c1 j->p (x1 o j))(i:∀o j,H o j->¬c1 j->¬b j)(l:∀o j,H o j->¬c1 j->C o j):
  ∀J O,H O J->p (if c then(if c1 J then x1 O J else if b J then x2 O J else f O J)else f o2 j2):=λJ O h=>by
 by_cases d:c
 ·rw[if_pos d];by_cases a:c1 J
  ·rw[if_pos a];exact h1 _ _ h a
  ·rw[if_neg a,if_neg (i _ _ h a)];exact k _ _ (l _ _ h a)
 ·rw[if_neg d];exact k _ _ (g d)
section
variable {P:NH->Prop}{K:NH->Nat}{a b:Array NH}
theorem Ic(C:ir prog w A s κ P K)(hk:kindOf st=κ)(ha:∀x∈a.toList,P x)(hb:∀x∈b.toList,P x)(sa:LS K a.toList)(sb:LS K b.toList)(a1:1<=a.size)(b1:1<=b.size)
  (h0:R K b 0<R K a 0) (hl:∀y∈b.toList,K y<R K a (a.size-1)) {Q:Array NH->NK->Prop} (h:∀r g,Good K (a.toList++b.toList) r->Q r (bm st g)):wpS (model prog w) A E s (Ia a b) Q st:=by
 have hB:∀{i:Nat} (u:i<b.size),R K b i=K b[i]:=λu=>cl u;have hA:∀{i:Nat} (u:i<a.size),R K a i=K a[i]:=λu=>cl u;have pA:∀{i:Nat} (u:i<a.size),P a[i]:=λu=>ha _ (by simp);have pB:∀{i:Nat} (u:i<b.size),P b[i]:=λu=>hb _ (by simp);have lA:∀{i j:Nat},i<=j->j<a.size->R K a i<=R K a j:=λn t=>sa.mono n t;have lB:∀{i j:Nat},i<=j->j<b.size->R K b i<=R K b j:=λn t=>sb.mono n t
 have dA:∀{i:Nat} {c:Nat},(∀j,i<=j->j<a.size->c<=R K a j)->∀y∈a.toList.drop i,c<=K y:=λhc y N=>by obtain⟨j,n,t,e⟩:=tQ (K:=K) N;rw[e];exact hc j n t
 have dB:∀{i:Nat} {c:Nat},(∀j,i<=j->j<b.size->c<=R K b j)->∀y∈b.toList.drop i,c<=K y:=λhc y N=>by obtain⟨j,n,t,e⟩:=tQ (K:=K) N;rw[e];exact hc j n t
 have hlb:∀{i:Nat} (u:i<b.size),R K b i<R K a (a.size-1):=λu=>by rw[hB u];exact hl _ (by simp)
 have m0:MI K (a.toList++b.toList) #[b[0]].toList (a.toList.drop 0) (b.toList.drop 1):=by have m:MI K (a.toList++b.toList) (#[]:Array NH).toList (a.toList.drop 0) (b.toList.drop 0):=⟨.refl _,.nil,sa,sb,λx hx=>by simp at hx,λx hx=>by simp at hx⟩;exact tR m (by lia) (dA λj n t=>by rw[<-hB];have:=lA (i:=0) (j:=j) (by lia) t;lia)
 have kg:∀g,kindOf (bm st g)=κ:=λg=>hk;have gg:∀g g',bm (bm st g) g'=bm st g':=λ_ _=>rfl;refine Zx (Rp (Ob ⟨rfl,?_⟩));refine cN (by lia) ?_;dsimp only;by_cases e1:1=b.size
 ·rw[if_pos (by simpa using e1)];exact Zr (h _ (gallopOf st) (nC m0 e1))
 rw[if_neg (by simpa using e1)];by_cases e2:0+1=a.size
 ·rw[if_pos (by simpa using e2)];exact Zr (h _ (gallopOf st) (nD hl m0 e2))
 rw[if_neg (by simpa using e2)];refine Zx (Qx ?_)
 refine iS (λG W=>OZ (iT (I:=λx c S=>(∃g,S=bm st g)/\∃out X Y mg,c=(none,out,X,Y,mg)/\ML K a b out X Y/\x<=X+Y)
  (Q:=λc S=>(∃g,S=bm st g)/\∃r c',c=(Nz r,c')/\Good K (a.toList++b.toList) r) ?_ ?_ ⟨⟨gallopOf st,rfl⟩,_,_,_,_,rfl,⟨m0,by lia,by lia⟩,by lia⟩) ?_)
 case _=>
  rintro F hF x c S _ hx ⟨⟨g,rfl⟩,out,X,Y,mg,rfl,m,hp⟩;subst hF;dsimp only
  refine iS (λG W=>OZ (iT (I:=λy c S=>S=bm st g/\∃out d f ac V,c=(none,out,d,f,ac,V)/\ML K a b out d f/\X+Y+y<=d+f)
   (Q:=λc S=>S=bm st g/\((∃r c',c=(Nz r,c')/\Good K (a.toList++b.toList) r)\/∃out d f ac V,c=(none,out,d,f,ac,V)/\ML K a b out d f/\X+Y+1<=d+f)) ?_ ?_ ⟨rfl,_,_,_,_,_,rfl,m,by lia⟩) ?_)
  ·rintro F hF y c S _ N ⟨rfl,out,d,f,ac,V,rfl,m,hp'⟩;subst hF;have Z:=m.la;have L:=m.lb;dsimp only;refine cN L ?_;refine cN (by lia) ?_;refine zH C (pB L) (pA (by lia)) (kg g) ?_;by_cases hw:K b[f]<K a[d]
   ·rw[ZO hw];refine cN L ?_;have B:=tR m.mi L (dA λj n t=>by have:=lA n t;rw[hA (show d<a.size by lia)]at this;lia);by_cases e:f+1=b.size
    ·rw[if_pos (by simpa using e)];exact Zr ⟨rfl,.inl ⟨_,_,rfl,nC B e⟩⟩
    ·rw[if_neg (by simpa using e)];by_cases U:V+1>=mg
     ·rw[if_pos U];exact Zr ⟨rfl,.inr ⟨_,_,_,_,_,rfl,⟨B,Z,by lia⟩,by lia⟩⟩
     ·rw[if_neg U];exact Zr ⟨rfl,_,_,_,_,_,rfl,⟨B,Z,by lia⟩,by lia⟩
   ·rw[ZQ hw];refine cN (by lia) ?_;have B:=zL m.mi (show d<a.size by lia) (dB λj n t=>by have:=lB n t;rw[hB L]at this;lia);by_cases e:d+1+1=a.size
    ·rw[if_pos (by simpa using e)];exact Zr ⟨rfl,.inl ⟨_,_,rfl,nD hl B e⟩⟩
    ·rw[if_neg (by simpa using e)];by_cases U:ac+1>=mg
     ·rw[if_pos U];exact Zr ⟨rfl,.inr ⟨_,_,_,_,_,rfl,⟨B,by lia,L⟩,by lia⟩⟩
     ·rw[if_neg U];exact Zr ⟨rfl,_,_,_,_,_,rfl,⟨B,by lia,L⟩,by lia⟩
  ·rintro c S ⟨rfl,out,d,f,ac,V,rfl,m,hp'⟩;have Z:=m.la;have L:=m.lb;exfalso;lia
  ·rintro c S ⟨rfl,⟨r,c',rfl,gd⟩| ⟨out,d,f,ac,V,rfl,m,hp'⟩⟩
   ·subst W;exact Zr ⟨⟨g,rfl⟩,r,_,rfl,gd⟩
   ·subst W;refine Zx (Rp (Ob ⟨rfl,?_⟩));refine iS (λG W=>OZ (iT (I:=λy=>YG K a b st (d+f+y)) (Q:=DG K a b st (d+f)) ?_ ?_ ⟨⟨g,rfl⟩,_,_,_,_,_,_,rfl,m,by dsimp only;lia⟩) ?_)
    ·rintro F hF y c S _ N ⟨⟨g1,rfl⟩,out,J,l,T,ac1,bc1,rfl,m,hq⟩;subst hF;have Z:=m.la;have L:=m.lb;dsimp only;show wpS (model prog w) A E s _ (dV (DG K a b st (d+f)) (YG K a b st (d+f+(y+1)))) (bm st g1);generalize T-1=q;revert q;refine zO (p:=λm=>wpS (model prog w) A E s m (dV (DG K a b st (d+f)) (YG K a b st (d+f+(y+1)))) (bm st g1)) λM=>?_;refine Zx (O4 (show wpS _ _ _ _ _ _ (bm st M)from ?_));refine cN L ?_;refine nA C ha (pB L) (kg M) (by lia) (by lia) (λi j n t=>lA (by lia) (by lia)) λk k1 k2 k3=>?_;have t1:dv K NB b[l]=R K b l+1:=by rw[hB L];rfl
     rw[t1]at k2 k3
     have kn:k<a.size-J:=by
      rcases Nat.lt_or_ge k (a.size-J)with z|z
      ·exact z
      ·have n:=k2 (a.size-J-1) (by lia);have e:=hlb L;rw[show J+(a.size-J-1)=a.size-1 by lia]at n;lia
     have z0:∀j,J+k<=j->j<a.size->R K b l<=R K a j:=λj n t=>by have:=k3 (j-J) (by lia) (by lia);rw[show J+(j-J)=j by lia]at this;lia
     have mk:=zM m.mi (k:=k) λi u y N=>by have n:=k2 i u;have:=dB (i:=l) (c:=R K b l) (λj n t=>lB n t) y N;lia
     dsimp only;have H1:MI K (a.toList++b.toList) (out++a.extract J (J+k)).toList (a.toList.drop (J+k)) (b.toList.drop l)/\J<=J+k/\J+k<a.size/\∀j,J+k<=j->j<a.size->R K b l<=R K a j:=⟨mk,by lia,by lia,z0⟩;have c0:¬k>0->ML K a b out J l/\d+f+y<=J+l/\∀i,J<=i->i<a.size->R K b l<=R K a i:=λhk0=>⟨m,hq,λj n t=>z0 j (by lia) t⟩;revert H1;generalize J+k=ja1;generalize out++a.extract J ja1=O;revert O ja1;refine zQ (p:=λm=>wpS (model prog w) A E s m (dV (DG K a b st (d+f)) (YG K a b st (d+f+(y+1)))) (bm st M)) (C:=λo j=>ML K a b o j l/\d+f+y<=j+l/\∀i,j<=i->i<a.size->R K b l<=R K a i) (H:=λo j=>MI K (a.toList++b.toList) o.toList (a.toList.drop j) (b.toList.drop l)/\J<=j/\j<a.size/\∀i,j<=i->i<a.size->R K b l<=R K a i) (λout J hC=>?_) c0 (λo j v e=>?_) (λo j v e=>?_) (λo j v e=>?_)
     rotate_left
     ·exact Zr ⟨⟨M,rfl⟩,.inl ⟨_,_,rfl,nD hl v.1 (by simpa using e)⟩⟩
     ·have:=v.2.2.1;simp;lia
     ·exact⟨⟨v.1,by have:=v.2.2.1;simp at e;lia,L⟩,by have:=v.2.1;lia,v.2.2.2⟩
     clear mk z0 kn k2 k3 hq m;obtain⟨m,hq,hge⟩:=hC;have Z:=m.la;refine cN L ?_;have B:=tR m.mi L (dA λj n t=>by rw[<-hB L];exact hge j n t);by_cases e:l+1=b.size
     ·rw[if_pos (by simpa using e)];exact Zr ⟨⟨M,rfl⟩,.inl ⟨_,_,rfl,nC B e⟩⟩
     rw[if_neg (by simpa using e)];refine cN (show J<a.size by lia) ?_;refine nA C hb (pA (show J<a.size by lia)) (kg M) (by lia) (by lia) (λi j n t=>lB (by lia) (by lia)) λD k1' k2' k3'=>?_;have t2:dv K NA a[J]=R K a J:=by rw[hA (show J<a.size by lia)];rfl
     rw[t2]at k2' k3'
     have z1:∀j,l+1+D<=j->j<b.size->R K a J<=R K b j:=λj n t=>by
      have:=k3' (j-(l+1)) (by lia) (by lia)
      rwa [show l+1+(j-(l+1))=j by lia]at this
     have mk:=zN B (k:=D) λi u y N=>by have n:=k2' i u;have:=dA (i:=J) (c:=R K a J) (λj n t=>lA n t) y N;lia
     dsimp only;have H2:MI K (a.toList++b.toList) (out.push b[l]++b.extract (l+1) (l+1+D)).toList (a.toList.drop J) (b.toList.drop (l+1+D))/\l+1+D<=b.size/\l+1<=l+1+D/\∀j,l+1+D<=j->j<b.size->R K a J<=R K b j:=⟨mk,by lia,by lia,z1⟩;have c0:¬D>0->MI K (a.toList++b.toList) (out.push b[l]).toList (a.toList.drop J) (b.toList.drop (l+1))/\l+1<b.size/\l+1<=l+1/\∀i,l+1<=i->i<b.size->R K a J<=R K b i:=λhk0=>⟨B,by lia,by lia,λj n t=>z1 j (by lia) t⟩;revert H2;generalize l+1+D=jb1;generalize out.push b[l]++b.extract (l+1) jb1=O;revert O jb1;refine zP (p:=λm=>wpS (model prog w) A E s m (dV (DG K a b st (d+f)) (YG K a b st (d+f+(y+1)))) (bm st M)) (C:=λo j=>MI K (a.toList++b.toList) o.toList (a.toList.drop J) (b.toList.drop j)/\j<b.size/\l+1<=j/\∀i,j<=i->i<b.size->R K a J<=R K b i) (H:=λo j=>MI K (a.toList++b.toList) o.toList (a.toList.drop J) (b.toList.drop j)/\j<=b.size/\l+1<=j/\∀i,j<=i->i<b.size->R K a J<=R K b i) (λout jb' hC=>?_) c0 (λo j v e'=>?_) (λo j v e'=>?_)
     rotate_left
     ·exact Zr ⟨⟨M,rfl⟩,.inl ⟨_,_,rfl,nC v.1 (by simpa using e')⟩⟩
     ·exact⟨v.1,by have:=v.2.1;simp at e';lia,v.2.2.1,v.2.2.2⟩
     obtain⟨m2,hb',hq',hge'⟩:=hC;refine cN (show J<a.size by lia) ?_;have m3:=zL m2 (show J<a.size by lia) (dB λj n t=>by rw[<-hA (show J<a.size by lia)];exact hge' j n t);by_cases e:J+1+1=a.size
     ·rw[if_pos (by simpa using e)];exact Zr ⟨⟨M,rfl⟩,.inl ⟨_,_,rfl,nD hl m3 e⟩⟩
     rw[if_neg (by simpa using e)];by_cases U:(decide (k<7)&&decide (D<7))=NA
     ·rw[if_pos U];exact Zr ⟨⟨M,rfl⟩,.inr ⟨_,_,_,_,_,_,rfl,⟨m3,by lia,hb'⟩,by lia⟩⟩
     ·rw[if_neg U];exact Zr ⟨⟨M,rfl⟩,_,_,_,_,_,_,rfl,⟨m3,by lia,hb'⟩,by lia⟩
    ·rintro c S ⟨⟨g1,rfl⟩,out,J,l,T,ac1,bc1,rfl,m,hq⟩;have Z:=m.la;have L:=m.lb;exfalso;lia
    ·rintro c S ⟨⟨g1,rfl⟩,⟨r,c',rfl,gd⟩| ⟨out,J,l,T,ac1,bc1,rfl,m,hq⟩⟩
     ·subst W;exact Zr ⟨⟨g1,rfl⟩,r,_,rfl,gd⟩
     ·subst W;refine Zx (O4 (?_:wpS _ _ _ _ _ _ (bm st (T+1))));exact Zr ⟨⟨_,rfl⟩,_,_,_,_,rfl,m,by dsimp only;lia⟩
 case _=>rintro c S ⟨⟨g,rfl⟩,out,X,Y,mg,rfl,m,hp⟩;have Z:=m.la;have L:=m.lb;exfalso;lia
 case _=>rintro c S ⟨⟨g,rfl⟩,r,c',rfl,gd⟩;subst W;exact Zr (h r g gd)
end
end Srt
end
section
set_option autoImplicit false
namespace Srt
section
variable {K:NH->Nat}
structure MH (K:NH->Nat)(tot ra rb o:List NH):Prop where
 perm:(ra++rb++o).Perm tot
 sa:LS K ra
 sb:LS K rb
 so:LS K o
 ao:∀x∈ra,∀y∈o,K x<=K y
 bo:∀x∈rb,∀y∈o,K x<=K y
variable {tot o ra rb c:List NH}
theorem MH.stepA(h:MH K tot (ra++c) rb o)(b:∀x∈rb,∀y∈c,K x<=K y):MH K tot ra rb (c++o):=by
 have s:=ZG.mp h.sa;refine⟨?_,s.1,h.sb,ZG.mpr ⟨s.2.1,h.so,λx H y a=>h.ao x (Zt _ H) y a⟩,λx H y a=>?_,λx H y a=>?_⟩
 ·refine QD.trans ?_ h.perm
  grind
 ·rcases Zp.mp a with z|z
  ·simp_all
  ·exact h.ao x (ZH _ H) y z
 ·rcases Zp.mp a with z|z
  ·simp_all
  ·exact h.bo x H y z
theorem MH.stepB(h:MH K tot ra (rb++c) o)(b:∀x∈ra,∀y∈c,K x<=K y):MH K tot ra rb (c++o):=by
 have s:=ZG.mp h.sb;refine⟨?_,h.sa,s.1,ZG.mpr ⟨s.2.1,h.so,λx H y a=>h.bo x (Zt _ H) y a⟩,λx H y a=>?_,λx H y a=>?_⟩
 ·have:=h.perm;simp_all
 ·rcases Zp.mp a with z|z
  ·exact b x H y z
  ·exact h.ao x H y z
 ·rcases Zp.mp a with z|z
  ·exact s.2.2 x H y z
  ·exact h.bo x (ZH _ H) y z
theorem zR{a:Array NH}{i:Nat}(h:i<a.size):a.toList.take (i+1)=a.toList.take i++[a[i]]:=by rw[QZ,Zf _];rfl
theorem nE{a:Array NH}{i j:Nat}(h:i<=j):a.toList.take j=a.toList.take i++(a.extract i j).toList:=by rw[O8,<-List.take_add,show i+(j-i)=j by lia]
theorem nF{a:Array NH}{j:Nat}:(a.extract 0 j).toList=a.toList.take j:=by simp_all
theorem tU{a:Array NH}{i:Nat}{x:NH}(h:x∈a.toList.take i):∃j,j<i/\j<a.size/\K x=R K a j:=by obtain⟨j,H,rfl⟩:=ZD.mp h;simp at H;refine⟨j,by lia,by lia,?_⟩;rw[cl (show j<a.size by lia)];simp
theorem tV{a:Array NH}{i j:Nat}{x:NH}(h:x∈(a.extract i j).toList):∃n,i<=n/\n<j/\n<a.size/\K x=R K a n:=by rw[O8]at h;obtain⟨n,b,H,e⟩:=tO h;exact⟨_,by lia,by lia,H,e⟩
end
section
variable {P:NH->Prop}{K:NH->Nat}
abbrev MT(K:NH->Nat)(a b out:Array NH)(na nb:Nat):Prop:=MH K (a.toList++b.toList) (a.toList.take na) (b.toList.take nb) out.toList.reverse
structure MR (K:NH->Nat)(a b out:Array NH)(na nb:Nat):Prop where
 mt:MT K a b out na nb
 la:1<=na
 lb:2<=nb
 za:na<=a.size
 zb:nb<=b.size
variable {a b out:Array NH}{na nb:Nat}
theorem nG(h:MT K a b out na nb)(e:na=0):Good K (a.toList++b.toList) (a.extract 0 na++b.extract 0 nb++out.reverse):=by unfold Good;rw[Z5,Z5,nF,nF,PX];refine⟨h.perm,?_⟩;subst e;exact ZG.mpr ⟨h.sb,h.so,h.bo⟩
theorem nH(d:∀y∈a.toList,R K b 0<=K y)(h:MT K a b out na nb)(e:nb=1):Good K (a.toList++b.toList) (b.extract 0 nb++a.extract 0 na++out.reverse):=by
 unfold Good;rw[Z5,Z5,nF,nF,PX];refine⟨QD.trans (RW _ QV) h.perm,ZG.mpr ⟨ZG.mpr ⟨h.sb,h.sa,λx c y H=>?_⟩,h.so,λx c y H=>?_⟩⟩
 ·obtain⟨j,f,g,E⟩:=tU (K:=K) c;rw[E,show j=0 by lia];exact d y (P1 H)
 ·rcases Zp.mp c with z|z
  ·exact h.bo x z y H
  ·exact h.ao x z y H
theorem tW(h:MT K a b out (na+1) nb)(hi:na<a.size)(H:∀x∈b.toList.take nb,K x<=R K a na):MT K a b (out.push a[na]) na nb:=by unfold MT at h⊢;rw[OK,P_];rw[zR _]at h;exact h.stepA λx c y d=>by rw[ZB.mp d,<-cl (K:=K) _];exact H x c
theorem zS(h:MT K a b out na (nb+1))(hi:nb<b.size)(H:∀x∈a.toList.take na,K x<=R K b nb):MT K a b (out.push b[nb]) na nb:=by unfold MT at h⊢;rw[OK,P_];rw[zR _]at h;exact h.stepB λx c y d=>by rw[ZB.mp d,<-cl (K:=K) _];exact H x c
theorem zT{t:Nat}(h:MT K a b out na nb)(g:t<=na)(f:∀i,t<=i->i<na->i<a.size->∀x∈b.toList.take nb,K x<=R K a i):MT K a b (out++(a.extract t na).reverse) t nb:=by unfold MT at h⊢;rw[Z5,PX,P_,SQ];rw[nE g]at h;exact h.stepA λx j y k=>by obtain⟨n,H,c,d,e⟩:=tV (K:=K) k;rw[e];exact f n H c d x j
theorem zU{t:Nat}(h:MT K a b out na nb)(g:t<=nb)(f:∀i,t<=i->i<nb->i<b.size->∀x∈a.toList.take na,K x<=R K b i):MT K a b (out++(b.extract t nb).reverse) na t:=by unfold MT at h⊢;rw[Z5,PX,P_,SQ];rw[nE g]at h;exact h.stepB λx j y k=>by obtain⟨n,H,c,d,e⟩:=tV (K:=K) k;rw[e];exact f n H c d x j
abbrev MY:=Option (Array NH)×Nat×Nat×Array NH×Nat×Nat×Nat
noncomputable def YH(K:NH->Nat)(a b:Array NH)(st:NK)(n:Nat)(c:MY)(s:NK):Prop:=(∃g,s=bm st g)/\∃out j J mg ac B,c=(none,j,J,out,mg,ac,B)/\MR K a b out j J/\n+j+J<=a.size+b.size
noncomputable def DH(K:NH->Nat)(a b:Array NH)(st:NK)(n:Nat)(c:MY)(s:NK):Prop:=(∃g,s=bm st g)/\((∃r C,c=(Nz r,C)/\Good K (a.toList++b.toList) r)\/∃out j J mg ac B,c=(none,j,J,out,mg,ac,B)/\MR K a b out j J/\n+j+J<=a.size+b.size)
theorem Ie(C:ir prog w A s κ P K)(hk:kindOf st=κ)(ha:∀x∈a.toList,P x)(hb:∀x∈b.toList,P x)(sa:LS K a.toList)(sb:LS K b.toList)(a1:1<=a.size)(b1:1<=b.size)
  (h0:R K b 0<R K a 0) (hl:∀y∈b.toList,K y<R K a (a.size-1)) {Q:Array NH->NK->Prop} (h:∀r g,Good K (a.toList++b.toList) r->Q r (bm st g)):wpS (model prog w) A E s (Ib a b) Q st:=by
 have hB:∀{i:Nat} (D:i<b.size),R K b i=K b[i]:=λD=>cl D;have hA:∀{i:Nat} (D:i<a.size),R K a i=K a[i]:=λD=>cl D;have pA:∀{i:Nat} (D:i<a.size),P a[i]:=λD=>ha _ (by simp);have pB:∀{i:Nat} (D:i<b.size),P b[i]:=λD=>hb _ (by simp);have lA:∀{i j:Nat},i<=j->j<a.size->R K a i<=R K a j:=λf u=>sa.mono f u;have lB:∀{i j:Nat},i<=j->j<b.size->R K b i<=R K b j:=λf u=>sb.mono f u
 have dA:∀{i:Nat} {c:Nat},(∀j,j<i->j<a.size->R K a j<=c)->∀y∈a.toList.take i,K y<=c:=λhc y L=>by obtain⟨j,f,u,e⟩:=tU (K:=K) L;rw[e];exact hc j f u
 have dB:∀{i:Nat} {c:Nat},(∀j,j<i->j<b.size->R K b j<=c)->∀y∈b.toList.take i,K y<=c:=λhc y L=>by obtain⟨j,f,u,e⟩:=tU (K:=K) L;rw[e];exact hc j f u
 have hf:∀y∈a.toList,R K b 0<=K y:=λy L=>by
  obtain⟨j,hj,rfl⟩:=ZD.mp L;have hj':j<a.size:=by simpa using hj
  have:=lA (i:=0) (j:=j) (by lia) hj';rw[hA hj']at this;have e:a.toList[j]=a[j]:=by simp
  rw[e];lia
 obtain⟨v,hna⟩:∃n,a.size=n+1:=⟨a.size-1,by lia⟩;have ea:a.size-1=v:=by lia
 have m0:MT K a b #[a[v]] v b.size:=by
  have m:MT K a b #[] (v+1) b.size:=by
   refine⟨?_,?_,?_,.nil,λ_ _ y L=>by simp at L,λ_ _ y L=>by simp at L⟩
   ·rw[Ot (by simp;lia),Ot (by simp)];simp
   ·rw[Ot (by simp;lia)];exact sa
   ·rw[Ot (by simp)];exact sb
  exact tW m (by lia) (dB λj f u=>by have:=hl b[j] (by simp);rw[hB u];rw[ea]at this;lia)
 have kg:∀g,kindOf (bm st g)=κ:=λg=>hk;refine Zx (Rp (Ob ⟨rfl,?_⟩));refine cN (by lia) ?_;simp only[ea];by_cases e1:v=0
 ·rw[if_pos (by simpa using e1)];exact Zr (h _ (gallopOf st) (nG m0 e1))
 rw[if_neg (by simpa using e1)];by_cases e2:b.size=1
 ·rw[if_pos (by simpa using e2)];exact Zr (h _ (gallopOf st) (nH hf m0 e2))
 rw[if_neg (by simpa using e2)];refine Zx (Qx ?_)
 refine iS (λG hG=>OZ (iT (I:=λx c S=>(∃g,S=bm st g)/\∃out na nb mg,c=(none,na,nb,out,mg)/\MR K a b out na nb/\x+na+nb<=a.size+b.size)
  (Q:=λc S=>(∃g,S=bm st g)/\∃r c',c=(Nz r,c')/\Good K (a.toList++b.toList) r) ?_ ?_ ⟨⟨gallopOf st,rfl⟩, #[a[v]],v,b.size,_,rfl,⟨m0,by lia,by lia,by lia,Zg _⟩,(by lia:0+v+b.size<=a.size+b.size)⟩) ?_)
 case _=>
  rintro F hF x c S _ hx ⟨⟨g,rfl⟩,out,na,nb,mg,rfl,m,hp⟩;subst hF;dsimp only
  refine iS (λG hG=>OZ (iT (I:=λy c S=>S=bm st g/\∃out N d ac Z,c=(none,N,d,out,ac,Z)/\MR K a b out N d/\y+N+d<=na+nb)
   (Q:=λc S=>S=bm st g/\((∃r c',c=(Nz r,c')/\Good K (a.toList++b.toList) r)\/∃out N d ac Z,c=(none,N,d,out,ac,Z)/\MR K a b out N d/\1+N+d<=na+nb)) ?_ ?_ ⟨rfl,_,_,_,_,_,rfl,m,by lia⟩) ?_)
  ·rintro F hF y c S _ L ⟨rfl,out,N,d,ac,Z,rfl,m,hp'⟩;subst hF;obtain⟨i,rfl⟩:∃i,N=i+1:=⟨N-1,by have:=m.la;lia⟩;obtain⟨j,rfl⟩:∃j,d=j+1:=⟨d-1,by have:=m.lb;lia⟩;have lb:=m.lb;have za:=m.za;have zb:=m.zb;dsimp only;simp only[Rq];refine cN (show j<b.size by lia) ?_;refine cN (show i<a.size by lia) ?_;refine zH C (pB (by lia)) (pA (by lia)) (kg g) ?_;rw[<-hA (show i<a.size by lia),<-hB (show j<b.size by lia)];by_cases hw:R K b j<R K a i
   ·rw[ZO hw];refine cN (show i<a.size by lia) ?_;have O:=tW m.mt (by lia) (dB λn f u=>by have:=lB (show n<=j by lia) (by lia);lia);by_cases e:i=0
    ·rw[if_pos (by simpa using e)];exact Zr ⟨rfl,.inl ⟨_,_,rfl,nG O e⟩⟩
    ·rw[if_neg (by simpa using e)];by_cases Y:ac+1>=mg
     ·rw[if_pos Y];exact Zr ⟨rfl,.inr ⟨_,_,_,_,_,rfl,⟨O,by lia,lb,by lia,zb⟩,by lia⟩⟩
     ·rw[if_neg Y];exact Zr ⟨rfl,_,_,_,_,_,rfl,⟨O,by lia,lb,by lia,zb⟩,by lia⟩
   ·rw[ZQ hw];refine cN (show j<b.size by lia) ?_;have O:=zS m.mt (by lia) (dA λn f u=>by have:=lA (show n<=i by lia) (by lia);lia);by_cases e:j=1
    ·rw[if_pos (by simpa using e)];exact Zr ⟨rfl,.inl ⟨_,_,rfl,nH hf O e⟩⟩
    ·rw[if_neg (by simpa using e)];by_cases Y:Z+1>=mg
     ·rw[if_pos Y];exact Zr ⟨rfl,.inr ⟨_,_,_,_,_,rfl,⟨O,by lia,by lia,za,by lia⟩,by lia⟩⟩
     ·rw[if_neg Y];exact Zr ⟨rfl,_,_,_,_,_,rfl,⟨O,by lia,by lia,za,by lia⟩,by lia⟩
  ·rintro c S ⟨rfl,out,N,d,ac,Z,rfl,m,hp'⟩;have la:=m.la;have lb:=m.lb;exfalso;lia
  ·rintro c S ⟨rfl,⟨r,c',rfl,gd⟩| ⟨out,N,d,ac,Z,rfl,m,hp'⟩⟩
   ·subst hG;exact Zr ⟨⟨g,rfl⟩,r,_,rfl,gd⟩
   ·subst hG;refine Zx (Rp (Ob ⟨rfl,?_⟩));refine iS (λG hG=>OZ (iT (I:=λy=>YH K a b st (x+1+y)) (Q:=DH K a b st (x+1)) ?_ ?_ ⟨⟨g,rfl⟩,_,_,_,_,_,_,rfl,m,by dsimp only;lia⟩) ?_)
    ·rintro F hF y c S _ L ⟨⟨g1,rfl⟩,out,J,jb,X,ac1,bc1,rfl,m,hq⟩;subst hF;have la:=m.la;have za:=m.za;have zb:=m.zb;obtain⟨j,rfl⟩:∃j,jb=j+1:=⟨jb-1,by have:=m.lb;lia⟩;have lb:=m.lb;dsimp only;simp only[Rq];show wpS (model prog w) A E s _ (dV (DH K a b st (x+1)) (YH K a b st (x+1+(y+1)))) (bm st g1);generalize X-1=q;revert q;refine zO (p:=λm=>wpS (model prog w) A E s m (dV (DH K a b st (x+1)) (YH K a b st (x+1+(y+1)))) (bm st g1)) λM=>?_;refine Zx (O4 (show wpS _ _ _ _ _ _ (bm st M)from ?_));refine cN (show j<b.size by lia) ?_;refine nA C ha (pB (show j<b.size by lia)) (kg M) (by lia) (by lia) (λi j f u=>lA (by lia) (by lia)) λt k1 k2 k3=>?_;simp only[Pz]at k2 k3;have t1:dv K NB b[j]=R K b j+1:=by rw[hB (show j<b.size by lia)];rfl
     rw[t1]at k2 k3;have mk:=zT m.mt k1 λi f u h3=>dB λn h4 h5=>by have:=k3 i f u;have:=lB (show n<=j by lia) (by lia);lia
     dsimp only;have H1:MT K a b (out++(a.extract t J).reverse) t (j+1)/\t<=J/\∀i,i<t->R K a i<=R K b j:=⟨mk,k1,λi D=>by have:=k2 i D;lia⟩;generalize hkk:J-t=k;have c0:¬k>0->MR K a b out J (j+1)/\x+1+y+J+(j+1)<=a.size+b.size/\∀i,i<J->R K a i<=R K b j:=λhk0=>⟨m,hq,λi D=>by have:=k2 i (by lia);lia⟩;revert H1;generalize out++(a.extract t J).reverse=T;generalize t=na1;revert T;revert na1;refine zP (p:=λm=>wpS (model prog w) A E s m (dV (DH K a b st (x+1)) (YH K a b st (x+1+(y+1)))) (bm st M)) (C:=λo i=>MR K a b o i (j+1)/\x+1+y+i+(j+1)<=a.size+b.size/\∀n,n<i->R K a n<=R K b j) (H:=λo i=>MT K a b o i (j+1)/\i<=J/\∀n,n<i->R K a n<=R K b j) (λout J hC=>?_) c0 (λo i B e=>?_) (λo i B e=>?_)
     rotate_left
     ·exact Zr ⟨⟨M,rfl⟩,.inl ⟨_,_,rfl,nG B.1 (by simpa using e)⟩⟩
     ·exact⟨⟨B.1,by simp at e;lia,lb,by have:=B.2.1;lia,zb⟩,by have:=B.2.1;lia,B.2.2⟩
     clear mk k1 k2 k3 hq m hkk c0 la za;obtain⟨m,hq,hge⟩:=hC;obtain⟨i,rfl⟩:∃i,J=i+1:=⟨J-1,by have:=m.la;lia⟩;have za:=m.za;simp only[Rq];refine cN (show j<b.size by lia) ?_;have O:=zS m.mt (by lia) (dA λn f u=>hge n f);by_cases e:j=1
     ·rw[if_pos (by simpa using e)];exact Zr ⟨⟨M,rfl⟩,.inl ⟨_,_,rfl,nH hf O e⟩⟩
     rw[if_neg (by simpa using e)];refine cN (show i<a.size by lia) ?_;refine nA C hb (pA (show i<a.size by lia)) (kg M) (by lia) (by lia) (λi j f u=>lB (by lia) (by lia)) λU k1' V W=>?_;simp only[Pz]at V W;have t2:dv K NA a[i]=R K a i:=by rw[hA (show i<a.size by lia)];rfl
     rw[t2]at V W
     have t0:1<=U:=by
      rcases Nat.eq_zero_or_pos U with z|z
      ·have f:=W 0 (by lia) (by lia);have u:=lA (show 0<=i by lia) (by lia);lia
      ·exact z
     have mk:=zU O k1' λn f u h3=>dA λl h4 h5=>by have:=W n f u;have:=lA (show l<=i by lia) (by lia);lia
     dsimp only;have H2:MT K a b (out.push b[j]++(b.extract U j).reverse) (i+1) U/\1<=U/\U<=j/\∀n,n<U->R K b n<=R K a i:=⟨mk,t0,k1',λn hn=>by have:=V n hn;lia⟩;generalize hkk':j-U=k';have c0:¬k'>0->MT K a b (out.push b[j]) (i+1) j/\2<=j/\j<=j/\∀n,n<j->R K b n<=R K a i:=λhk0=>⟨O,by lia,Zg _,λn hn=>by have:=V n (by lia);lia⟩;revert H2;generalize out.push b[j]++(b.extract U j).reverse=T;generalize U=nb1;revert T;revert nb1;refine zQ (p:=λm=>wpS (model prog w) A E s m (dV (DH K a b st (x+1)) (YH K a b st (x+1+(y+1)))) (bm st M)) (C:=λo n=>MT K a b o (i+1) n/\2<=n/\n<=j/\∀l,l<n->R K b l<=R K a i) (H:=λo n=>MT K a b o (i+1) n/\1<=n/\n<=j/\∀l,l<n->R K b l<=R K a i) (λout jb' hC=>?_) c0 (λo n B e'=>?_) (λo n B e'=>?_) (λo n B e'=>?_)
     rotate_left
     ·exact Zr ⟨⟨M,rfl⟩,.inl ⟨_,_,rfl,nH hf B.1 (by simpa using e')⟩⟩
     ·have:=B.2.1;simp;lia
     ·exact⟨B.1,by have:=B.2.1;simp at e';lia,B.2.2.1,B.2.2.2⟩
     obtain⟨m2,hb',hq',hge'⟩:=hC;refine cN (show i<a.size by lia) ?_;have m3:=tW m2 (show i<a.size by lia) (dB λn f u=>hge' n f);by_cases e:i=0
     ·rw[if_pos (by simpa using e)];exact Zr ⟨⟨M,rfl⟩,.inl ⟨_,_,rfl,nG m3 e⟩⟩
     rw[if_neg (by simpa using e)];by_cases Y:(decide (k<7)&&decide (k'<7))=NA
     ·rw[if_pos Y];exact Zr ⟨⟨M,rfl⟩,.inr ⟨_,_,_,_,_,_,rfl,⟨m3,by lia,hb',by lia,by lia⟩,by lia⟩⟩
     ·rw[if_neg Y];exact Zr ⟨⟨M,rfl⟩,_,_,_,_,_,_,rfl,⟨m3,by lia,hb',by lia,by lia⟩,by lia⟩
    ·rintro c S ⟨⟨g1,rfl⟩,out,J,jb,X,ac1,bc1,rfl,m,hq⟩;have la:=m.la;have lb:=m.lb;exfalso;lia
    ·rintro c S ⟨⟨g1,rfl⟩,⟨r,c',rfl,gd⟩| ⟨out,J,jb,X,ac1,bc1,rfl,m,hq⟩⟩
     ·subst hG;exact Zr ⟨⟨g1,rfl⟩,r,_,rfl,gd⟩
     ·subst hG;refine Zx (O4 (?_:wpS _ _ _ _ _ _ (bm st (X+1))));exact Zr ⟨⟨_,rfl⟩,_,_,_,_,rfl,m,by dsimp only;lia⟩
 case _=>rintro c S ⟨⟨g,rfl⟩,out,ia,ib,mg,rfl,m,hp⟩;have la:=m.la;have lb:=m.lb;exfalso;lia
 case _=>rintro c S ⟨⟨g,rfl⟩,r,c',rfl,gd⟩;subst hG;exact Zr (h r g gd)
end
end Srt
end
section
set_option autoImplicit false
namespace Srt
section
variable {K:NH->Nat}{xs ys:Array NH}
theorem dW{i j:Nat}(h:xs[i]?=ys[j]?):R K xs i=R K ys j:=by
 have e:∀(z:Array _) n,z.getD n dK=z[n]?.getD dK:=λz n=>by simp
 unfold R;rw[e,e,h]
def SR(K:NH->Nat)(xs:Array NH)(lo hi:Nat):Prop:=∀i j,lo<=i->i<=j->j<hi->R K xs i<=R K xs j
def Fr(lo hi:Nat)(xs y:Array NH):Prop:=∀i,i<lo\/hi<=i->y[i]?=xs[i]?
theorem Fr.refl{hi:Nat}:Fr lo hi xs xs:=λ_ _=>rfl
theorem Fr.trans{hi:Nat}{z:Array NH}(h:Fr lo hi xs ys)(k:Fr lo hi ys z):Fr lo hi xs z:=λi hi=>(k i hi).trans (h i hi)
structure SB (a0:Array NH)(κ:OT)(st:NK):Prop where
 perm:(arrOf st).Perm a0
 failed:failedOf st=none
 kind:kindOf st=κ
theorem SB.size(h:SB a0 κ st):(arrOf st).size=a0.size:=h.perm.size_eq
theorem SB.arr(h:SB a0 κ st)(H:ys.Perm (arrOf st)):SB a0 κ (setArr st ys):=⟨H.trans h.perm,h.failed,h.kind⟩
theorem SB.all(h:SB a0 κ st):∀x∈(arrOf st).toList,x∈a0.toList:=λx H=>(Qf.mp h.perm).mem_iff.mp H
theorem cm{c:Prop}{d:Decidable c}{x y:StateT NK Sem α}{Q:α->NK->Prop}(h:c)(k:wpS (model prog w) A E s x Q st):wpS (model prog w) A E s (@ite _ c d x y) Q st:=by rw[if_pos h];exact k
theorem bT{c:Prop}{d:Decidable c}{x y:StateT NK Sem α}{Q:α->NK->Prop}(h:¬c)(k:wpS (model prog w) A E s y Q st):wpS (model prog w) A E s (@ite _ c d x y) Q st:=by lia
theorem tX{c:Prop}{d:Decidable c}{T m:StateT NK Sem α}{Q:α->NK->Prop}{C:Array NH->Prop}(k:∀ys,C ys->wpS (model prog w) A E s m Q (setArr st ys))(h1:c->(∀ys,C ys->wpS (model prog w) A E s m Q (setArr st ys))->wpS (model prog w) A E s T Q st)(H:¬c->C (arrOf st)):wpS (model prog w) A E s (@ite _ c d T m) Q st:=by
 by_cases h:c
 ·rw[if_pos h];exact h1 h k
 ·rw[if_neg h];exact k _ (H h)
theorem nI(C:ir prog w A s κ (· ∈a0.toList) K)(H:SB a0 κ st){i j:Nat}(hi:i<a0.size)(a:j<a0.size){Q:Option Bool->NK->Prop}(h1:R K (arrOf st) i<R K (arrOf st) j->Q (Nz NA) st)(b:¬R K (arrOf st) i<R K (arrOf st) j->Q (Nz NB) st):
  wpS (model prog w) A E s (ltAt' i j) Q st:=by
 rw[<-H.size]at hi a;rw[ltAt'_eq];refine Zx (Qx ?_);refine Zx (iU hi (Zx (iU a ?_)));refine nz C (H.all _ (by simp)) (H.all _ (by simp)) H.kind ?_;rw[cl hi,cl a]at h1 b;by_cases h:K (arrOf st)[i]<K (arrOf st)[j]
 ·rw[ZO h];exact h1 h
 ·rw[ZQ h];exact b h
theorem gY{i j:Nat}(H:j<=xs.size)(k:Nat):R K (mirror xs i j ((j-i)/2)) k=if i<=k/\k<j then R K xs (i+j-1-k)else R K xs k:=by
 have h:=getElem?_mirror_all (i:=i) H k;by_cases c:i<=k/\k<j
 ·rw[if_pos c]at h⊢;exact dW h
 ·rw[if_neg c]at h⊢;exact dW h
theorem nJ{hi i j:Nat}(h:j<=xs.size)(h1:lo<=i)(H:j<=hi):Fr lo hi xs (mirror xs i j ((j-i)/2)):=λk a=>by rw[getElem?_mirror_all h,if_neg (by lia)]
theorem nK{i j:Nat}{Q:Unit->NK->Prop}(h:Q () (setArr st (mirror (arrOf st) i j ((j-i)/2)))):wpS (model prog w) A E s (reverseSlice' i j) Q st:=by exact O4 h
theorem zV{a:Nat}{f:Nat->AscSt->StateT NK Sem (ForInStep AscSt)}(g:∀x n,1<=n->n<nrem->∀b:ForInStep AscSt->NK->Prop,(R K (arrOf st) (lo+n)<R K (arrOf st) (lo+n-1)->b (.done (none,n)) st)->(¬R K (arrOf st) (lo+n)<R K (arrOf st) (lo+n-1)->b (.yield (none,n+1)) st)->wpS (model prog w) A E s (f x (none,n)) b st)
  (h1:1<=a) (d:a<=nrem) (hs:SR K (arrOf st) lo (lo+a)) {Q:AscSt->NK->Prop} (h:∀n,a<=n->n<=nrem->SR K (arrOf st) lo (lo+n)->(n=nrem\/R K (arrOf st) (lo+n)<R K (arrOf st) (lo+n-1))->Q (none,n) st):
  wpS (model prog w) A E s (forIn [a:nrem] (none,a) f) Q st:=by
 refine OE (I:=λx c S=>S=st/\c=(none,x)/\x<=nrem/\SR K _ _ (lo+x)) ?_ ?_ ⟨rfl,rfl,d,hs⟩
 ·rintro x c S l H ⟨rfl,rfl,_,hs⟩;refine g x x (by lia) H _ (λhw=>h x l (by lia) hs (.inr hw)) λhw=>⟨rfl,rfl,by lia,λi j k m p=>?_⟩;by_cases e:j=lo+x
  ·by_cases o:i=lo+x
   ·simp_all
   ·have:=hs i (lo+x-1) k (by lia) (by lia);lia
  ·exact hs i j k m (by lia)
 simp_all
theorem Ig(C:ir prog w A s κ (· ∈a0.toList) K)(B:SB a0 κ st)(hz:lo+nrem<=a0.size)(h1:1<=nrem){Q:Option Nat->NK->Prop}
  (h:∀m ys,ys.Perm (arrOf st)->Fr lo (lo+nrem) (arrOf st) ys->1<=m->m<=nrem->SR K ys lo (lo+m)->Q (Nz m) (setArr st ys)):wpS (model prog w) A E s (countRun' lo nrem) Q st:=by
 have l:∀{S:NK},SB a0 κ S->∀n,1<=n->n<nrem->∀{α:Type} {T:α->NK->Prop} {f:Option Bool->StateT NK Sem α},(R K (arrOf S) (lo+n)<R K (arrOf S) (lo+n-1)->wpS (model prog w) A E s (f (Nz NA)) T S)->(¬R K (arrOf S) (lo+n)<R K (arrOf S) (lo+n-1)->wpS (model prog w) A E s (f (Nz NB)) T S)->wpS (model prog w) A E s (ltAt' (lo+n) (lo+n-1)>>=f) T S:=λhB' n D N α T f Y Z=>Zx (nI C hB' (by lia) (by lia) Y Z);rw[countRun'_eq];refine Zx (zV (lo:=lo) (K:=K) (λx n D N T Y Z=>l B n D N (λhw=>cm rfl (Zr (Y hw))) (λhw=>bT (by decide) (Zr (Z hw)))) (Zg 1) h1 (λi j b g U=>by have:i=j:=(by lia);subst this;exact Zg _) λn D N M hor=>?_);by_cases L:n=nrem
 ·exact cm (by simpa using L) (Zr (h n _ (.refl _) .refl D N M))
 refine bT (by simpa using L) ?_;have v:=hor.resolve_left L;have hsz:=B.size;refine tX (C:=λys=>ys.Perm (arrOf st)/\Fr lo (lo+nrem) (arrOf st) ys/\∀i j,lo<=i->i<=j->j<lo+n+1->R K ys j<=R K ys i) (λys F=>?_) (λJ t=>?_) (λJ=>⟨.refl _,.refl,λi j b g U=>?_⟩)
 ·obtain⟨hp,hF,hN⟩:=F;have hB1:=B.arr hp;have hz1:ys.size=a0.size:=hB1.size;refine Zx (Rp (Ob ⟨rfl,?_⟩))
  refine Zx (OZ (OE (I:=λx c S=>∃z q,S=setArr st z/\c=(none,x,q)/\z.Perm (arrOf st)/\Fr lo (lo+nrem) (arrOf st) z/\x<=nrem/\q<x/\(∀i j,lo<=i->i<=j->j<lo+x->R K z j<=R K z i)/\∀k,lo+x-(q+1)<=k->k<lo+x->R K z k=R K z (lo+x-1))
   (Q:=λc S=>∃z m q,S=setArr st z/\c=(none,m,q)/\z.Perm (arrOf st)/\Fr lo (lo+nrem) (arrOf st) z/\1<=m/\m<=nrem/\q<m/\(∀i j,lo<=i->i<=j->j<lo+m->R K z j<=R K z i)/\∀k,lo+m-(q+1)<=k->k<lo+m->R K z k=R K z (lo+m-1)) ?_ ?_ ?_) ?_)
  ·rintro x c S hx hx2 ⟨z,q,rfl,rfl,H,a,_,hq,d,u⟩;have o:=B.arr H;have r:z.size=a0.size:=o.size
   have up:∀W:Array NH,(∀k,k<=lo+x->lo<=k->R K W k=R K z k)->R K z (lo+x)<=R K z (lo+x-1)->∀i j,lo<=i->i<=j->j<lo+(x+1)->R K W j<=R K W i:=λW hw hl i j b g U=>by
    rw[hw i (by lia) b,hw j (by lia) (by lia)];by_cases e:j=lo+x
    ·subst e;by_cases e2:i=lo+x
     ·subst e2;exact Zg _
     ·exact Zw hl (d i (lo+x-1) b (by lia) (by lia))
    ·exact d i j b g (by lia)
   refine l o x (by lia) hx2 (λhw=>cm rfl ?_) (λhw=>bT (by decide) ?_)
   ·have hw:R K z (lo+x)<R K z (lo+x-1):=hw;refine tX (st:=setArr st z) (C:=λW=>W.Perm (arrOf st)/\Fr lo (lo+nrem) (arrOf st) W/\∀k,k<=lo+x->lo<=k->R K W k=R K z k) (λW F=>?_) (λhg t=>?_) (λhg=>⟨H,a,λ_ _ _=>rfl⟩)
    ·refine Zr ⟨W,0,rfl,rfl,F.1,F.2.1,by lia,by lia,up W F.2.2 (by lia),λk b g=>by rw[show k=lo+(x+1)-1 by lia]⟩
    ·refine Zx (nK (t _ ⟨(Sa _ _ _ _).trans H,a.trans (nJ (i:=lo+x-(q+1)) (j:=lo+x) (by rw[r];lia) (by lia) (by lia)),λk b g=>?_⟩));show R K (mirror z (lo+x-(q+1)) (lo+x) ((lo+x-(lo+x-(q+1)))/2)) k=_;rw[gY (by rw[r];lia)];by_cases c:lo+x-(q+1)<=k/\k<lo+x
     ·rw[if_pos c,u k c.1 c.2,u _ (by lia) (by lia)]
     ·rw[if_neg c]
   ·have hw:¬R K z (lo+x)<R K z (lo+x-1):=hw;refine Zx (nI (i:=lo+x-1) (j:=lo+x) C o (by lia) (by lia) (λp=>cm rfl (Zr ⟨z,x,q,rfl,rfl,H,a,by lia,by lia,hq,d,u⟩)) (λp=>bT (by decide) (Zr ⟨z,q+1,rfl,rfl,H,a,by lia,by lia,?_,λk b g=>?_⟩)))
    ·have p:¬R K z (lo+x-1)<R K z (lo+x):=p;exact up z (λ_ _ _=>rfl) (by lia)
    ·have p:¬R K z (lo+x-1)<R K z (lo+x):=p;rw[show lo+(x+1)-1=lo+x by lia];by_cases e:k=lo+x
     ·rw[e]
     ·rw[u k (by lia) (by lia)];lia
  ·rintro c S ⟨z,q,rfl,rfl,H,a,hx,hq,d,u⟩;exact⟨z,_,q,rfl,rfl,H,a,by lia,hx,hq,d,u⟩
  ·exact⟨ys,0,rfl,rfl,hp,hF,by lia,by lia,λi j b g U=>hN i j b g (by lia),λk b g=>by rw[show k=lo+(n+1)-1 by lia]⟩
  ·rintro c S ⟨z,m,q,rfl,rfl,H,a,m1,m2,hq,d,u⟩;have o:=B.arr H;have r:z.size=a0.size:=o.size;refine tX (st:=setArr st z) (C:=λW=>W.Perm (arrOf st)/\Fr lo (lo+nrem) (arrOf st) W/\∀k,k<lo+m->lo<=k->R K W k=R K z k) (λW F=>?_) (λhg t=>?_) (λhg=>⟨H,a,λ_ _ _=>rfl⟩)
   ·obtain⟨X,hF3,V⟩:=F;have hB3:=B.arr X;have P:W.size=a0.size:=hB3.size;refine Zx (nK ?_);show wpS (model prog w) A E s _ Q (setArr st (mirror W lo (lo+m) ((lo+m-lo)/2)));have y:(mirror W lo (lo+m) ((lo+m-lo)/2)).Perm (arrOf st):=(Sa _ _ _ _).trans X;have G:Fr lo (lo+nrem) (arrOf st) (mirror W lo (lo+m) ((lo+m-lo)/2)):=hF3.trans (nJ (by rw[P];lia) (Zg _) (by lia))
    have O:SR K (mirror W lo (lo+m) ((lo+m-lo)/2)) lo (lo+m):=λi j b g U=>by rw[gY (by rw[P];lia),gY (by rw[P];lia),if_pos ⟨b,by lia⟩,if_pos ⟨by lia,U⟩,V _ (by lia) (by lia),V _ (by lia) (by lia)];exact d _ _ (by lia) (by lia) (by lia)
    revert y G O;generalize mirror W lo (lo+m) ((lo+m-lo)/2)=vs;intro y G O;refine Zx (zV (st:=setArr st vs) (lo:=lo) (K:=K) (λx n D N T Y Z=>l (B.arr y) n D N (λhw=>cm rfl (Zr (Y hw))) (λhw=>bT (by decide) (Zr (Z hw)))) m1 m2 O λn D N M _=>?_);exact Zr (h n vs y G (by lia) N M)
   ·refine Zx (nK (t _ ⟨(Sa _ _ _ _).trans H,a.trans (nJ (i:=lo+m-(q+1)) (j:=lo+m) (by rw[r];lia) (by lia) (by lia)),λk b g=>?_⟩));show R K (mirror z (lo+m-(q+1)) (lo+m) ((lo+m-(lo+m-(q+1)))/2)) k=_;rw[gY (by rw[r];lia)];by_cases c:lo+m-(q+1)<=k/\k<lo+m
    ·rw[if_pos c,u k c.1 c.2,u _ (by lia) (by lia)]
    ·rw[if_neg c]
 ·refine Zx (nI C B (by lia) (by lia) (λhr=>cm rfl (Zr (h n _ (.refl _) .refl D N M))) (λhr=>bT (by decide) ?_));have hr:¬R K (arrOf st) lo<R K (arrOf st) (lo+n-1):=hr;have v:R K (arrOf st) (lo+n)<R K (arrOf st) (lo+n-1):=v;refine Zx (nK (t _ ⟨Sa _ _ _ _,nJ (by lia) (Zg _) (by lia),λi j b g U=>?_⟩))
  have eq:∀k,lo<=k->k<lo+n->R K (mirror (arrOf st) lo (lo+n) ((lo+n-lo)/2)) k=R K (arrOf st) lo:=λk b g=>by rw[gY (by lia),if_pos ⟨b,g⟩];have e1:=M lo (lo+(lo+n)-1-k) (by lia) (by lia) (by lia);have e2:=M (lo+(lo+n)-1-k) (lo+n-1) (by lia) (by lia) (by lia);lia
  show R K (mirror (arrOf st) lo (lo+n) ((lo+n-lo)/2)) j<=R K (mirror (arrOf st) lo (lo+n) ((lo+n-lo)/2)) i;by_cases e:j<lo+n
  ·rw[eq i b (by lia),eq j (by lia) e];exact Zg _
  ·have e':j=lo+n:=by lia
   subst e';rw[gY (by lia) (lo+n),if_neg (by lia)];by_cases e2:i=lo+n
   ·subst e2;rw[gY (by lia) (lo+n),if_neg (by lia)];exact Zg _
   ·rw[eq i b (by lia)];have e1:=M lo (lo+n-1) (by lia) (by lia) (by lia);lia
 ·have v:R K (arrOf st) (lo+n)<R K (arrOf st) (lo+n-1):=v;have J:¬n>1:=J;have e1:n=1:=by lia
  subst e1;by_cases e:i=j
  ·subst e;exact Zg _
  ·rw[show i=lo+1-1 by lia,show j=lo+1 by lia];lia
end
end Srt
end
section
set_option autoImplicit false
namespace Srt
section
variable {K:NH->Nat}{xs ys:Array NH}
theorem Ih{d:Nat}(hs:src<xs.size)(H:d<=src)(k:Nat):R K (bubble xs src d) k=if k=src-d then R K xs src else if src-d<k/\k<=src then R K xs (k-1)else R K xs k:=by
 have h:=getElem?_bubble hs d H k;by_cases c:k=src-d
 ·rw[if_pos c]at h⊢;exact dW h
 ·rw[if_neg c]at h⊢;by_cases C:src-d<k/\k<=src
  ·rw[if_pos C]at h⊢;exact dW h
  ·rw[if_neg C]at h⊢;exact dW h
theorem Ii{hi d:Nat}(hs:src<xs.size)(h:d<=src)(h1:lo<=src-d)(H:src<hi):Fr lo hi xs (bubble xs src d):=λk a=>by rw[getElem?_bubble hs d h,if_neg (by lia),if_neg (by lia)]
theorem Ij(C:ir prog w A s κ (· ∈a0.toList) K)(M:SB a0 κ st){ok:Nat}(W:lo+n<=a0.size)(O:ok<=n)(hs:SR K (arrOf st) lo (lo+ok)){Q:Bool->NK->Prop}
  (h:∀ys,ys.Perm (arrOf st)->Fr lo (lo+n) (arrOf st) ys->SR K ys lo (lo+n)->Q NA (setArr st ys)):wpS (model prog w) A E s (binarySort' lo n ok) Q st:=by
 rw[binarySort'_eq]
 refine Zx (OZ (OE (I:=λk c S=>∃z,S=setArr st z/\c=(none,())/\z.Perm (arrOf st)/\Fr lo (lo+n) (arrOf st) z/\SR K z lo (lo+min k n))
  (Q:=λc S=>∃z,S=setArr st z/\c=(none,())/\z.Perm (arrOf st)/\Fr lo (lo+n) (arrOf st) z/\SR K z lo (lo+n)) ?_ ?_ ?_) ?_)
 ·rintro k c S U N ⟨z,rfl,rfl,f,t,H⟩;rw[RV (by lia)]at H;have q:=M.arr f;have u:z.size=a0.size:=q.size
  refine Zx (OZ (OE (I:=λx c S=>S=setArr st z/\∃l r,c=(none,l,r)/\l<=r/\r<=k/\r-l<=k-x/\(∀i,i<l->R K z (lo+i)<=R K z (lo+k))/\(∀i,r<=i->i<k->R K z (lo+k)<R K z (lo+i)))
   (Q:=λc S=>S=setArr st z/\∃l r,c=(none,l,r)/\l<=k/\(∀i,i<l->R K z (lo+i)<=R K z (lo+k))/\(∀i,l<=i->i<k->R K z (lo+k)<R K z (lo+i))) ?_ ?_ ⟨rfl,0,k,rfl,by lia,by lia,by lia,λi T=>by lia,λi a d=>by lia⟩) ?_)
  ·rintro x c S _ V ⟨rfl,l,r,rfl,P,v,y,g,o⟩;by_cases b:l>=r
   ·have:l=r:=by lia
    subst this;exact cm b (Zr ⟨rfl,l,l,rfl,v,g,o⟩)
   ·refine bT b (Zx (nI (i:=lo+k) (j:=lo+(l+r)/2) C q (by lia) (by lia) (λhw=>cm rfl (Zr ⟨rfl,l,(l+r)/2,rfl,by lia,by lia,zF y (RK b),g,λi a d=>?_⟩)) (λhw=>bT (by decide) (Zr ⟨rfl,(l+r)/2+1,r,rfl,by lia,v,zG y (RK b),λi a=>?_,o⟩))))
    ·have hw:R K z (lo+k)<R K z (lo+(l+r)/2):=hw;have:=H (lo+(l+r)/2) (lo+i) (by lia) (by lia) (by lia);lia
    ·have hw:¬R K z (lo+k)<R K z (lo+(l+r)/2):=hw;have:=H (lo+i) (lo+(l+r)/2) (by lia) (by lia) (by lia);lia
  ·rintro c S ⟨rfl,l,r,rfl,P,v,y,g,o⟩;have:l=r:=by lia
   subst this;exact⟨rfl,l,l,rfl,v,g,o⟩
  ·rintro c S ⟨rfl,l,r,rfl,v,g,o⟩;refine Zx (m:=moveDown' (lo+k) (lo+l)) ?_;rw[moveDown'_eq];refine O4 (Zr ⟨bubble z (lo+k) (lo+k-(lo+l)),rfl,rfl,(bubble_perm _ _ _).trans f,t.trans (Ii (by rw[u];lia) (by lia) (by lia) (by lia)),?_⟩);rw[RV (by lia)];have e:∀i,R K (bubble z (lo+k) (lo+k-(lo+l))) i=if i=lo+l then R K z (lo+k)else if lo+l<i/\i<=lo+k then R K z (i-1)else R K z i:=λi=>by rw[Ih (by rw[u];lia) (by lia),show lo+k-(lo+k-(lo+l))=lo+l by lia]
   have G:∀i,lo<=i->i<lo+l->R K z i<=R K z (lo+k):=λi a d=>by have:=g (i-lo) (by lia);rwa [show lo+(i-lo)=i by lia]at this
   have J:∀i,lo+l<=i->i<lo+k->R K z (lo+k)<R K z i:=λi a d=>by have:=o (i-lo) (by lia) (by lia);rwa [show lo+(i-lo)=i by lia]at this
   intro i j a d L;rw[e i,e j];by_cases B:i=lo+l
   ·rw[if_pos B];by_cases p:j=lo+l
    ·rw[if_pos p];exact Zg _
    ·rw[if_neg p,if_pos ⟨by lia,by lia⟩];exact OU (J _ (by lia) (by lia))
   ·rw[if_neg B];by_cases D:lo+l<i/\i<=lo+k
    ·rw[if_pos D,if_neg (by lia),if_pos ⟨by lia,by lia⟩];exact H _ _ (by lia) (by lia) (by lia)
    ·rw[if_neg D];by_cases p:j=lo+l
     ·rw[if_pos p];exact G i a (by lia)
     ·rw[if_neg p];by_cases F:lo+l<j/\j<=lo+k
      ·rw[if_pos F];exact H _ _ a (by lia) (by lia)
      ·rw[if_neg F];exact H _ _ a d (by lia)
 ·rintro c S ⟨z,rfl,rfl,f,t,H⟩;rw[show min (max (max ok 1) n) n=n by lia]at H;exact⟨z,rfl,rfl,f,t,H⟩
 ·refine⟨arrOf st,rfl,rfl,.refl _,.refl,λi j a d L=>?_⟩;by_cases e:i=j
  ·subst e;exact Zg _
  ·exact hs i j a d (by lia)
 ·rintro c S ⟨z,rfl,rfl,f,t,H⟩;exact Zr (h z f t H)
end
end Srt
end
section
set_option autoImplicit false
namespace Srt
section
variable {K:NH->Nat}{xs ys:Array NH}
theorem zW{base:Nat}:∀(l:List NH) (k:Nat) (arr:Array NH),base+k+l.length<=arr.size->((l.zipIdx k).foldl (λa (x:NH×Nat)=>a.setIfInBounds (base+x.2) x.1) arr).toList=arr.toList.take (base+k)++l++arr.toList.drop (base+k+l.length)
 | [],k,arr,h=>by simp
 |x::l,k,arr,h=>by
  simp only[ZJ]at h;rw[RF,OJ,zW l (k+1) _ (by rw[R5];lia)];have H:base+k<arr.toList.length:=by grind
  have e:(arr.toList.set (base+k) x).take (base+(k+1))=arr.toList.take (base+k)++[x]:=by rw[show base+(k+1)=(base+k)+1 by rfl,QZ,S8 (Zg _),N5 H];rfl
  have E:(arr.toList.set (base+k) x).drop (base+(k+1)+l.length)=arr.toList.drop (base+k+(x::l).length):=by rw[S9 (by lia),ZJ,show base+(k+1)+l.length=base+k+(l.length+1)by lia]
  simp_all
theorem zX{i j:Nat}(h1:i<=j)(h:j<=xs.size):(xs.extract i j).size=j-i:=by simp_all
theorem gn{i j:Nat}(h:j<=xs.size)(H:i+n<j):R K (xs.extract i j) n=R K xs (i+n):=by refine dW ?_;rw[Array.getElem?_extract,if_pos (by lia)]
theorem kc{i j:Nat}(a:j<=xs.size)(hs:SR K xs i j):LS K (xs.extract i j).toList:=by
 refine Yd.mpr λn m c b h=>?_;have H:m<(xs.extract i j).size:=by omega
 have e:(xs.extract i j).size<=j-i:=by simp_all
 have k:=gn (K:=K) a (show i+n<j by lia);have:=hs (i+n) (i+m) (by simp) (by lia) (by lia);rw[<-k,<-gn (K:=K) a (show i+m<j by lia),cl (by omega),cl H]at this;trivial
theorem tY{i j:Nat}(b:j<=xs.size){x:NH}(h:x∈(xs.extract i j).toList):∃n,i<=n/\n<j/\K x=R K xs n:=by obtain⟨n,H,a,_,e⟩:=tV h;exact⟨n,H,a,e⟩
theorem nL{x:NK}{Q:PUnit->NK->Prop}(h:Q ⟨⟩ x):wpS (model prog w) A E s (set x:StateT NK Sem PUnit) Q st:=by exact Ze ⟨rfl,h⟩
noncomputable def nM(st:NK)(p:Array (Nat×Nat×Nat)):NK:=QE (kindOf st) (arrOf st) p (gallopOf st) (failedOf st)
theorem Ik(C:ir prog w A s κ (· ∈a0.toList) K)(v:SB a0 κ st){i S N U o V:Nat}(hi:(pendingOf st)[i]?=Nz (S,N,U))(D:(pendingOf st)[i+1]?=Nz (S+N,o,V))(a1:1<=N)(b1:1<=o)(hz:S+N+o<=a0.size)
  (t:SR K (arrOf st) S (S+N)) (u:SR K (arrOf st) (S+N) (S+N+o)) {Q:Bool->NK->Prop}
  (h:∀ys g,ys.Perm (arrOf st)->Fr S (S+N+o) (arrOf st) ys->SR K ys S (S+N+o)->Q NA (bm (setArr (nM st (((pendingOf st).setIfInBounds i (S,N+o,U)).eraseIdxIfInBounds (i+1))) ys) g)):wpS (model prog w) A E s (mergeAt' i) Q st:=by
 have hsz:=v.size;have d:=v.all;have pe:∀{n:Nat} (f:n<(arrOf st).size),(arrOf st)[n]∈a0.toList:=λf=>d _ (by simp);refine Zx (Qx ?_);have e0:((pendingOf st)[i]?,(pendingOf st)[i+1]?)=(Nz (S,N,U),Nz (S+N,o,V)):=by rw[hi,D]
 rw[hi,D];refine Zx (nL ?_);show wpS (model prog w) A E s _ Q (nM st (((pendingOf st).setIfInBounds i (S,N+o,U)).eraseIdxIfInBounds (i+1)));generalize((pendingOf st).setIfInBounds i (S,N+o,U)).eraseIdxIfInBounds (i+1)=p' at h⊢;have q:kindOf (nM st p')=κ:=v.kind;refine Zx (iU (show S+N<(arrOf st).size by lia) ?_);refine Zx (tN C d (pe (by lia)) q (by lia) (by lia) (λi j k1 X=>t _ _ (by lia) (by lia) (by lia)) λk k1 X k3=>?_);have t1:dv K NB (arrOf st)[S+N]=R K (arrOf st) (S+N)+1:=by rw[cl (show S+N<(arrOf st).size by lia)];rfl
 rw[t1]at X k3;have q2:∀n,S<=n->n<S+k->R K (arrOf st) n<=R K (arrOf st) (S+N):=λn H b=>by have:=X (n-S) (by lia);rw[show S+(n-S)=n by lia]at this;lia
 have Z:∀n,S+N<=n->n<S+N+o->R K (arrOf st) (S+N)<=R K (arrOf st) n:=λn H b=>u _ _ (Zg _) H b
 have fin:∀c,c<=R K (arrOf st) (S+N)->(∀n,S<=n->n<S+N->R K (arrOf st) n<=c)->SR K (arrOf st) S (S+N+o):=λc hc f i j H b p=>by
  by_cases c1:j<S+N
  ·exact t i j H b c1
  ·by_cases c2:i<S+N
   ·have:=f i H c2;have:=Z j (by lia) p;lia
   ·exact u i j (by lia) b p
 by_cases e1:N-k=0
 ·refine cm (by simpa using e1) (Zr (h _ (gallopOf st) (.refl _) .refl (fin _ (Zg _) λn H b=>q2 n H (by lia))))
 refine bT (by simpa using e1) ?_;have q3:R K (arrOf st) (S+N)<R K (arrOf st) (S+k):=by have:=k3 k (Zg _) (by lia);lia
 refine Zx (iU (show S+k+(N-k)-1<(arrOf st).size by lia) ?_);refine Zx (tN C d (pe (by lia)) q (by lia) (by lia) (λi j k1 X=>u _ _ (by lia) (by lia) (by lia)) λm m1 m2 m3=>?_);have t2:dv K NA ((arrOf st)[S+k+(N-k)-1]'(by lia))=R K (arrOf st) (S+N-1):=by rw[show S+N-1=S+k+(N-k)-1 by lia,cl (show S+k+(N-k)-1<(arrOf st).size by lia)];rfl
 rw[t2]at m2 m3
 have q4:∀n,S+N<=n->n<S+N+m->R K (arrOf st) n<R K (arrOf st) (S+N-1):=λn H b=>by
  have:=m2 (n-(S+N)) (by lia)
  rwa [show S+N+(n-(S+N))=n by lia]at this
 have q5:∀n,S+N+m<=n->n<S+N+o->R K (arrOf st) (S+N-1)<=R K (arrOf st) n:=λn H b=>by
  have:=m3 (n-(S+N)) (by lia) (by lia)
  rwa [show S+N+(n-(S+N))=n by lia]at this
 by_cases e2:m=0
 ·have:=q5 (S+N) (by lia) (by lia);have:=t (S+k) (S+N-1) (by lia) (by lia) (by lia);exfalso;lia
 refine bT (by simpa using e2) ?_;have M:((arrOf st).extract (S+k) (S+N)).size=N-k:=by rw[zX (by lia) (by lia)];lia
 have hyz:((arrOf st).extract (S+N) (S+N+m)).size=m:=by rw[zX (by lia) (by lia)];lia
 have J:=kc (K:=K) (xs:=arrOf st) (i:=S+k) (j:=S+N) (by lia) (λi j H b p=>t i j (by lia) b p);have O:=kc (K:=K) (xs:=arrOf st) (i:=S+N) (j:=S+N+m) (by lia) (λi j H b p=>u i j (by lia) b (by lia))
 have L:∀x∈((arrOf st).extract (S+k) (S+N)).toList,x∈a0.toList:=λx I=>by rw[O8]at I;exact d x (P2 (P1 I))
 have P:∀x∈((arrOf st).extract (S+N) (S+N+m)).toList,x∈a0.toList:=λx I=>by rw[O8]at I;exact d x (P2 (P1 I))
 have r0:R K ((arrOf st).extract (S+N) (S+N+m)) 0<R K ((arrOf st).extract (S+k) (S+N)) 0:=by rw[gn (by lia) (by lia),gn (by lia) (by lia)];exact q3
 have rl:∀y∈((arrOf st).extract (S+N) (S+N+m)).toList,K y<R K ((arrOf st).extract (S+k) (S+N)) (((arrOf st).extract (S+k) (S+N)).size-1):=λy hy=>by obtain⟨n,H,b,e⟩:=tY (K:=K) (by lia) hy;rw[e,M,gn (by lia) (by lia),show S+k+(N-k-1)=S+N-1 by lia];exact q4 n H b
 have T:∀(r:Array NH) (g:Nat),Good K (((arrOf st).extract (S+k) (S+N)).toList++((arrOf st).extract (S+N) (S+N+m)).toList) r->Q NA (bm (setArr (nM st p') ((r.toList.zipIdx).foldl (λa (x:NH×Nat)=>a.setIfInBounds (S+k+x.2) x.1) (arrOf st))) g):=λr g G=>by
  have hrl:r.toList.length=N-k+m:=by rw[G.1.length_eq,Zz,Zv,Zv,M,hyz]
  have B:∀n,n<r.toList.length->∃j,S+k<=j/\j<S+N+m/\R K r n=R K (arrOf st) j:=λn f=>by
   have hn':n<r.size:=by rwa [Zv]at f
   have hm:r[n]∈r.toList:=by simp
   rw[cl hn'];rcases Zp.mp (G.1.mem_iff.mp hm)with z|z
   ·obtain⟨j,H,b,e⟩:=tY (K:=K) (by lia) z;exact⟨j,H,by lia,e⟩
   ·obtain⟨j,H,b,e⟩:=tY (K:=K) (by lia) z;exact⟨j,by lia,b,e⟩
  have l:=zW (base:=S+k) r.toList 0 (arrOf st) (by lia);generalize(r.toList.zipIdx).foldl (λa (x:NH×Nat)=>a.setIfInBounds (S+k+x.2) x.1) (arrOf st)=ys at l⊢;rw[Nat.add_zero]at l;have F:((arrOf st).toList.take (S+k)).length=S+k:=by rw[N2,Zv];lia
  have o1:∀n,n<S+k->ys[n]?=(arrOf st)[n]? :=λn f=>by rw[<-ZT,l,ZP,Zu (by lia),Pf f,ZT]
  have o2:∀n,S+N+m<=n->ys[n]?=(arrOf st)[n]? :=λn f=>by rw[<-ZT,l,Zs (by rw[Zz];lia),Tq,Zz,F,hrl,<-ZT];congr 1;lia
  have o3:∀n,S+k<=n->n<S+N+m->ys[n]?=r[n-(S+k)]? :=λn H b=>by rw[<-ZT,l,ZP,Zs (by lia),F,Zu (by lia),ZT]
  refine h ys g ?_ (λn f=>?_) (λi j H b p=>?_)
  ·refine Qf.mpr ?_;rw[l];have e:(arrOf st).toList=(arrOf st).toList.take (S+k)++(((arrOf st).extract (S+k) (S+N)).toList++((arrOf st).extract (S+N) (S+N+m)).toList)++(arrOf st).toList.drop (S+k+r.toList.length):=by rw[<-ZP,<-nE (by lia),<-nE (by lia),show S+k+r.toList.length=S+N+m by lia,O0]
   exact((Pq _ G.1).append_right _).trans (SO e.symm)
  ·rcases f with z|z
   ·exact o1 n (by lia)
   ·exact o2 n (by lia)
  ·have ri:∀n,n<S+k->R K ys n=R K (arrOf st) n:=λn f=>dW (o1 n f);have Y:∀n,S+N+m<=n->R K ys n=R K (arrOf st) n:=λn f=>dW (o2 n f);have rm:∀n,S+k<=n->n<S+N+m->R K ys n=R K r (n-(S+k)):=λn H b=>dW (o3 n H b);by_cases c1:j<S+k
   ·rw[ri i (by lia),ri j c1];exact t i j H b (by lia)
   by_cases c2:S+N+m<=i
   ·rw[Y i c2,Y j (by lia)];exact u i j (by lia) b p
   by_cases c3:i<S+k
   ·rw[ri i c3];have u1:=q2 i H c3;by_cases W:S+N+m<=j
    ·rw[Y j W];have:=Z j (by lia) p;lia
    ·rw[rm j (by lia) (by lia)];obtain⟨n,n1,n2,e⟩:=B (j-(S+k)) (by lia);rw[e];by_cases c5:n<S+N
     ·exact t i n H (by lia) c5
     ·have:=Z n (by lia) (by lia);lia
   ·rw[rm i (by lia) (by lia)];by_cases W:S+N+m<=j
    ·rw[Y j W];obtain⟨n,n1,n2,e⟩:=B (i-(S+k)) (by lia);rw[e];by_cases c5:n<S+N
     ·have:=t n (S+N-1) (by lia) (by lia) (by lia);have:=q5 j W p;lia
     ·exact u n j (by lia) (by lia) p
    ·rw[rm j (by lia) (by lia)];exact G.2.mono (by lia) (by rw[<-Zv];lia)
 have hs1:S+k+(N-k)=S+N:=by lia
 by_cases e3:N-k<=m
 ·refine cm e3 (Zx (Ic C q L P J O (by lia) (by lia) r0 rl λr g G=>?_));refine Zx (O4 (Zx (Qx (Zr ?_))));have:=T r g G;show Q (failedOf st).isNone _;rw[v.failed];exact this
 ·refine bT e3 (Zx (Ie C q L P J O (by lia) (by lia) r0 rl λr g G=>?_));refine Zx (O4 (Zx (Qx (Zr ?_))));have:=T r g G;show Q (failedOf st).isNone _;rw[v.failed];exact this
end
end Srt
end
section
set_option autoImplicit false
namespace Srt
noncomputable def Ch(K:NH->Nat)(xs:Array NH):Nat->List (Nat×Nat×Nat)->Nat->Prop
 |a,[],e=>a=e
 |a,t::r,e=>t.1=a/\1<=t.2.1/\SR K xs a (a+t.2.1)/\Ch K xs (a+t.2.1) r e
section
variable {K:NH->Nat}{xs ys:Array NH}
theorem Ch.len:∀{l:List (Nat×Nat×Nat)} {a e:Nat},Ch K xs a l e->a+l.length<=e
 | [],a,e,h=>by subst h;simp
 |t::r,a,e,h=>by
  have:=Ch.len h.2.2.2;have:=h.2.1
  grind
theorem Ch.app:∀{l r:List (Nat×Nat×Nat)} {a e:Nat},Ch K xs a (l++r) e->∃m,Ch K xs a l m/\Ch K xs m r e
 | [],r,a,e,h=>⟨a,rfl,h⟩
 |t::l,r,a,e,h=>by obtain⟨m,H,b⟩:=Ch.app h.2.2.2;exact⟨m,⟨h.1,h.2.1,h.2.2.1,H⟩,b⟩
theorem Ch.join:∀{l r:List (Nat×Nat×Nat)} {a m e:Nat},Ch K xs a l m->Ch K xs m r e->Ch K xs a (l++r) e
 | [],r,a,m,e,h,k=>by subst h;exact k
 |t::l,r,a,m,e,h,k=>⟨h.1,h.2.1,h.2.2.1,Ch.join h.2.2.2 k⟩
theorem Ch.same:∀{l:List (Nat×Nat×Nat)} {a e:Nat},(∀i,a<=i->i<e->R K ys i=R K xs i)->Ch K xs a l e->Ch K ys a l e
 | [],a,e,_,h=>h
 |t::r,a,e,H,h=>by have:=h.2.2.2.len;refine⟨h.1,h.2.1,λi j k b c=>?_,Ch.same (λi k b=>H i (by lia) b) h.2.2.2⟩;rw[H i k (by lia),H j (by lia) (by lia)];exact h.2.2.1 i j k b c
theorem Ch.modify{f:Nat×Nat×Nat->Nat×Nat×Nat}(H:∀t,(f t).1=t.1/\(f t).2.1=t.2.1):∀{l:List (Nat×Nat×Nat)} {i a e:Nat},Ch K xs a l e->Ch K xs a (l.modify i f) e
 | [],i,a,e,h=>by simp_all
 |t::r,0,a,e,h=>by obtain⟨b,c,d,g⟩:=h;refine⟨(H t).1.trans b,by simp_all,by simp_all,by simp_all⟩
 |t::r,i+1,a,e,h=>by exact⟨h.1,h.2.1,h.2.2.1,Ch.modify H h.2.2.2⟩
theorem Il{j:Nat}(h:j+1<L.length):L=L.take j++L[j]::L[j+1]::L.drop (j+2):=by simp
theorem Io{j:Nat}{x:Nat×Nat×Nat}(h:j+1<L.length):(L.set j x).eraseIdx (j+1)=L.take j++x::L.drop (j+2):=by rw[RB,QZ,S8 (Zg _),N5 (by omega),S9 (by lia)];simp
end
section
variable {K:NH->Nat}
structure SI (a0:Array NH)(κ:OT)(K:NH->Nat)(lo:Nat)(st:NK):Prop where
 b:SB a0 κ st
 ch:Ch K (arrOf st) 0 (pendingOf st).toList lo
 le:lo<=a0.size
theorem zY(C:ir prog w A s κ (· ∈a0.toList) K){j:Nat}(I:SI a0 κ K lo st)(N:j+1<(pendingOf st).size){Q:Bool->NK->Prop}(h:∀S,SI a0 κ K lo S->(pendingOf S).size+1=(pendingOf st).size->(∀i,lo<=i->(arrOf S)[i]?=(arrOf st)[i]?)->Q NA S):wpS (model prog w) A E s (mergeAt' j) Q st:=by
 have l:j+1<(pendingOf st).toList.length:=by rwa [Zv]
 have e:=Il l;have k:=I.ch;rw[e]at k;obtain⟨m,f,r⟩:=k.app
 have G:(pendingOf st)[j]?=Nz ((pendingOf st).toList[j].1,(pendingOf st).toList[j].2.1,(pendingOf st).toList[j].2.2):=by rw[<-ZT,Zf]
 have q:(pendingOf st)[j+1]?=Nz ((pendingOf st).toList[j+1].1,(pendingOf st).toList[j+1].2.1,(pendingOf st).toList[j+1].2.2):=by rw[<-ZT,Zf]
 have p:=Io (L:=(pendingOf st).toList) (j:=j) (x:=((pendingOf st).toList[j].1,(pendingOf st).toList[j].2.1+(pendingOf st).toList[j+1].2.1,(pendingOf st).toList[j].2.2)) l;generalize(pendingOf st).toList[j]=t at*;generalize(pendingOf st).toList[j+1]=u at*;obtain⟨T,a,b⟩:=t;obtain⟨O,U,P⟩:=u;obtain⟨rfl,B,D,F⟩:=r;obtain⟨rfl,J,M,o⟩:=F;dsimp only at*;have v:=o.len;refine Ik C I.b G q B J (by have:=I.le;lia) D M λY g y c z=>?_
 have d:(((pendingOf st).setIfInBounds j (T,a+U,b)).eraseIdxIfInBounds (j+1)).toList=(pendingOf st).toList.take j++(T,a+U,b)::(pendingOf st).toList.drop (j+2):=by rw[Array.toList_eraseIdxIfInBounds,Array.toList_setIfInBounds,p]
 have n:=f.len;refine h _ ⟨⟨y.trans I.b.perm,I.b.failed,I.b.kind⟩,?_,I.le⟩ ?_ λi H=>c i (.inr (by lia))
 ·show Ch K Y 0 (((pendingOf st).setIfInBounds j (T,a+U,b)).eraseIdxIfInBounds (j+1)).toList lo;rw[d];refine(f.same λi _ H=>dW (c i (.inl H))).join ⟨rfl,by dsimp only;lia,?_,?_⟩
  ·dsimp only;rw[<-Rl];exact z
  ·dsimp only;rw[<-Rl];exact o.same λi H _=>dW (c i (.inr H))
 ·show(((pendingOf st).setIfInBounds j (T,a+U,b)).eraseIdxIfInBounds (j+1)).size+1=_;rw[<-Zv,d,<-Zv];simp only[Zz,N2,ZJ,PM];lia
end
end Srt
end
section
set_option autoImplicit false
namespace Srt
section
variable {K:NH->Nat}
theorem Ip{c:Nat->Prop}{d:∀n,Decidable (c n)}{f T:Nat->StateT NK Sem α}{Q:α->NK->Prop}{C:Nat->NK->Prop}{H:Nat->Prop}(k:∀n S,C n S->wpS (model prog w) A E s (f n) Q S)(h1:∀n,H n->c n->(∀n S,C n S->wpS (model prog w) A E s (f n) Q S)->wpS (model prog w) A E s (T n) Q st)(b:∀n,H n->¬c n->C n st):
  ∀n,H n->wpS (model prog w) A E s (if c n then T n else f n) Q st:=λn a=>by
 by_cases h:c n
 ·rw[if_pos h];exact h1 n a h k
 ·rw[if_neg h];exact k n st (b n a h)
theorem Iq(C:ir prog w A s κ (· ∈a0.toList) K)(hB:SB a0 κ st)(X:pendingOf st= #[])(h2:2<=a0.size){Q:Unit->NK->Prop}(h:∀d,SB a0 κ d->SR K (arrOf d) 0 a0.size->Q () d):wpS (model prog w) A E s sortRuns' Q st:=by
 have Z:=hB.size;rw[sortRuns'_eq];refine Zx (Qx ?_);dsimp-zeta only;rw[Z];refine Zx (OZ (OE (I:=λx c d=>∃l,c=(none,l)/\SI a0 κ K l d/\x<=l) (Q:=λc d=>∃l,c=(none,l)/\SI a0 κ K l d/\a0.size<=l) ?_ ?_ ⟨0,rfl,⟨hB,by rw[X];rfl,by lia⟩,by lia⟩) ?_)
 ·rintro x c v _ hx ⟨l,rfl,I,hxl⟩;by_cases q:l>=a0.size
  ·exact cm q (Zr ⟨l,rfl,I,q⟩)
  refine bT q (Zx (Ig C I.b (lo:=l) (nrem:=a0.size-l) (by lia) (by lia) λm ys V hF m1 m2 G=>?_));have B:∀{zs:Array NH},(∀i,i<l->zs[i]?=(arrOf v)[i]?)->Ch K zs 0 (pendingOf v).toList l:=λJ=>I.ch.same λi _ z=>dW (J i z);have H:1<=m/\m<=a0.size-l/\SR K ys l (l+m):=⟨m1,m2,G⟩;revert H;clear m1 m2 G;generalize m=m';revert m';refine Ip (C:=λn a=>(SB a0 κ a/\Ch K (arrOf a) 0 (pendingOf a).toList l)/\SR K (arrOf a) l (l+n)/\1<=n/\l+n<=a0.size) (λn a hC=>?_) (λn F o key=>?_) (λn F o=>⟨⟨I.b.arr V,B λi z=>hF i (.inl z)⟩,F.2.2,F.1,by have:=F.2.1;lia⟩)
  ·obtain⟨R,G,n1,n2⟩:=hC;have p:∀S,SB a0 κ S->Ch K (arrOf S) 0 (pendingOf S).toList l->SR K (arrOf S) l (l+n)->SI a0 κ K (l+n) (setPending S ((pendingOf S).push (l,n,0))):=λS M c3 s3=>⟨⟨M.perm,M.failed,M.kind⟩,by show Ch K (arrOf S) 0 ((pendingOf S).push (l,n,0)).toList (l+n);rw[OK];exact c3.join ⟨rfl,n1,s3,rfl⟩,n2⟩;refine Zx (Qx ?_);cases hbk:(pendingOf a).back? with
   |none=>exact Zx (O4 (Zr ⟨l+n,rfl,p a R.1 R.2 G,by lia⟩))
   |some t=>
    refine Zx (OZ (OE (I:=λy c S=>c=(none,())/\(SB a0 κ S/\Ch K (arrOf S) 0 (pendingOf S).toList l)/\SR K (arrOf S) l (l+n)) (Q:=λc S=>c=(none,())/\(SB a0 κ S/\Ch K (arrOf S) 0 (pendingOf S).toList l)/\SR K (arrOf S) l (l+n)) ?_ ?_ ⟨rfl,R,G⟩) ?_)
    ·rintro y c S _ hy ⟨rfl,b,g⟩;refine Zx (Qx ?_);dsimp only;by_cases e:(pendingOf S).size>1
     ·have e1:(if(pendingOf S).size>1 then(pendingOf S)[(pendingOf S).size-2]? else none)=Nz ((pendingOf S)[(pendingOf S).size-2]'(by lia)):=by rw[if_pos e,getElem?_pos]
      rw[e1];generalize((pendingOf S)[(pendingOf S).size-2]'(by lia))=u;by_cases ho:u.2.2<=power' a0.size (2*t.1+t.2.1) (2*t.1+t.2.1+t.2.1+n) a0.size
      ·exact cm ho (Zr ⟨rfl,b,g⟩)
      ·refine bT ho (Zx (zY C ⟨b.1,b.2,by lia⟩ (by lia) λst4 I4 _ D=>?_));refine bT (by decide) (Zr ⟨rfl,⟨I4.b,I4.ch⟩,λi j k1 k2 k3=>?_⟩);rw[dW (D i k1),dW (D j (by lia))];exact g i j k1 k2 k3
     ·rw[if_neg e];exact Zr ⟨rfl,b,g⟩
    ·rintro c S hh;exact hh
    ·rintro c S ⟨rfl,b,g⟩;refine Zx (O4 ?_);refine Zx (O4 (Zr ⟨l+n,rfl,p _ ⟨b.1.perm,b.1.failed,b.1.kind⟩ ?_ g,by lia⟩));show Ch K (arrOf S) 0 ((pendingOf S).modify _ _).toList l;rw[Array.toList_modify];exact Ch.modify (f:=λx=>(x.1,x.2.1,power' a0.size (2*t.1+t.2.1) (2*t.1+t.2.1+t.2.1+n) a0.size)) (λ_=>⟨rfl,rfl⟩) b.2
  ·refine Zx (Rp (Ob ⟨rfl,?_⟩));obtain⟨hm1,hm2,U⟩:=F;have o:n<minRun' a0.size a0.size 0:=o;refine Zx (Ij C (I.b.arr V) (lo:=l) (by lia) (by lia) U λzs W P Y=>?_);refine bT (by decide) (key _ _ ⟨⟨I.b.arr (W.trans V),B λi z=>(P i (.inl z)).trans (hF i (.inl z))⟩,Y,by lia,by lia⟩)
 ·rintro c d ⟨l,rfl,I,hx⟩;exact⟨l,rfl,I,by lia⟩
 ·rintro c v ⟨l,rfl,I,hx⟩;have O:l=a0.size:=by have:=I.le;lia
  subst O;refine Zx (OZ (OE (I:=λy c a=>c=(none,())/\SI a0 κ K a0.size a/\(pendingOf a).size<=1+(a0.size-y)) (Q:=λc a=>c=(none,())/\SI a0 κ K a0.size a/\(pendingOf a).size<=1) ?_ ?_ ⟨rfl,I,?_⟩) ?_)
  ·rintro y c a _ hy ⟨rfl,k,J⟩;refine Zx (Qx ?_);by_cases e:(pendingOf a).size<=1
   ·exact cm e (Zr ⟨rfl,k,e⟩)
   ·refine bT e (Zx (zY C k (by have T:∀(c:Prop) [Decidable c] (x y:Nat),x<=y->(if c then x else y)<=y:=(λc _ x y hxy=>by split<;>lia);exact Nat.lt_of_le_of_lt (Pb (T _ _ _ (Nat.sub_le _ 1))) (by lia)) λS I3 hz3 _=>?_));exact bT (by decide) (Zr ⟨rfl,I3,by lia⟩)
  ·rintro c a ⟨rfl,k,J⟩;exact⟨rfl,k,by lia⟩
  ·have:=I.ch.len;rw[Zv]at this;lia
  ·rintro c a ⟨rfl,k,J⟩;refine Zr (h a k.b ?_);have o:=k.ch;have hl:(pendingOf a).toList.length<=1:=by rwa [Zv]
   generalize(pendingOf a).toList=L at o hl;cases L with
   |nil=>exact absurd (show 0=a0.size from o) (by lia)
   |cons t r=>
    cases r with
    |nil=>obtain⟨e1,e2,e3,N⟩:=o;have N:0+t.2.1=a0.size:=N;rw[N]at e3;exact e3
    |cons _ _=>simp at hl
end
end Srt
end
section
set_option autoImplicit false
namespace Py
open PySem PySem.W PySem.Spec PyProof.Rows Srt
structure gp (n:Nat)(c:Nat->Nat->Bool):Prop where
 irr:∀i,i<n->c i i=NB
 asym:∀i j,i<n->j<n->c i j=NA->c j i=NB
 ntr:∀i j k,i<n->j<n->k<n->c i j=NB->c j k=NB->c i k=NB
noncomputable def bq(n:Nat)(c:Nat->Nat->Bool)(i:Nat):Nat:=((NJ n).filter λj=>c j i).length
theorem tZ{f g:Nat->Bool}:∀(l:List Nat),(∀x∈l,f x=NA->g x=NA)->(l.filter f).length<=(l.filter g).length
 | [],_=>Zg _
 |x::l,h=>by
  have i:=tZ l λy a=>h y (Zb _ a);have H:=h x Zd;rw[QF,QF];cases e:f x<;>cases E:g x
  ·exact i
  ·exact RD i
  ·rw[e,E]at H;cases H rfl
  ·exact Pb i
theorem t5{f g:Nat->Bool}:∀(l:List Nat),(∀x∈l,f x=NA->g x=NA)->(∃x∈l,f x=NB/\g x=NA)->(l.filter f).length<(l.filter g).length
 | [],_,h=>by simp_all
 |x::l,h,k=>by
  have a:=λy H=>h y (Zb x H);rw[QF,QF];cases e:f x<;>cases E:g x
  ·obtain⟨y,H,K,b⟩:=k;rcases Zi.mp H with rfl|H
   ·simp_all
   ·exact t5 l a ⟨y,H,K,b⟩
  ·exact Qz (tZ l a)
  ·simp_all
  ·obtain⟨y,H,K,b⟩:=k;rcases Zi.mp H with rfl|H
   ·simp_all
   ·exact Nat.succ_lt_succ (t5 l a ⟨y,H,K,b⟩)
theorem zZ{c:Nat->Nat->Bool}(o:gp n c){i j:Nat}(hi:i<n)(H:j<n):c i j=decide (bq n c i<bq n c j):=by
 cases e:c i j with
 |true=>
  refine(ZO (t5 (f:=λk=>c k i) _ (λk a h=>?_) ⟨i,ZW.mpr hi,o.irr i hi,e⟩)).symm;cases E:c k j with
  |true=>rfl
  |false=>have:=o.ntr k j i (ZW.mp a) H hi E (o.asym i j hi H e);simp_all
 |false=>
  refine(ZQ (Qn.mpr (tZ _ λk a h=>?_))).symm;cases E:c k i with
  |true=>rfl
  |false=>have:=o.ntr k i j (ZW.mp a) hi H E e;simp_all
theorem Ir{f:α->β}:∀{l2 m:List β},l2.Perm m->∀l1:List α,m=l1.map f->∃l:List α,l.Perm l1/\l.map f=l2:=by
 intro l2 m p
 induction p with
 |nil=>simp_all
 |cons x p j=>
  intro l1 e;cases l1 with
  |nil=>cases e
  |cons a l1=>obtain⟨c,E⟩:=Tr e;obtain⟨l,h,H⟩:=j _ E;exact⟨_,h.cons a,by simp_all⟩
 |swap x y l=>
  intro l1 e;cases l1 with
  |nil=>cases e
  |cons a l1=>
   obtain⟨c,E⟩:=Tr e;cases l1 with
   |nil=>cases E
   |cons b l1=>exact⟨_,.swap a b _,by simp_all⟩
 |trans p q i I=>intro l1 e;obtain⟨l,h,H⟩:=I _ e;obtain⟨L,d,g⟩:=i l H.symm;exact⟨_,d.trans h,g⟩
open Classical in
noncomputable def gq(its:Lv)(x:NH):Nat:=if h:∃i,i<its.length/\its.getD i NE=x.1 then h.choose else 0
theorem nN{c:Nat->Nat->Bool}(o:gp its.length c)(same:∀i j,i<its.length->j<its.length->its.getD i NE=its.getD j NE->bq its.length c i=bq its.length c j)(n:2<=its.length)
  (m:∀i j C,i<its.length->j<its.length->C (c i j) s->kas_ask prog w A κ its i j C s) {Q:NK->NC->Prop}
  (h:∀(S:NK) (p:List Nat),failedOf S=none->(arrOf S).map (·.2)=Ox (p.map λi=>its.getD i NE)->p.Perm (NJ its.length)->p.Pairwise (λi j=>c j i=NB)->Q S s):
  wpAny (model prog w) A ((sortRuns').run (QE κ (its.toArray.zip its.toArray) #[] 7 none)) (λr s'=>Q r.2 s') E s:=by
 have a:∀i,i<its.length->gq its (its.getD i NE,its.getD i NE)<its.length/\its.getD (gq its (its.getD i NE,its.getD i NE)) NE=its.getD i NE:=λi H=>by have b:∃j,j<its.length/\its.getD j NE=its.getD i NE:=⟨i,H,rfl⟩;unfold gq;rw[dif_pos b];exact b.choose_spec
 have d:∀x∈(its.toArray.zip its.toArray).toList,∃i,i<its.length/\x=(its.getD i NE,its.getD i NE):=λx b=>by
  rw[TL]at b;obtain⟨i,H,rfl⟩:=ZD.mp b;have f:i<its.length:=by simp at H;exact H
  refine⟨i,f,?_⟩;have e:its.getD i NE=its[i]:=by simp[Qe,f]
  rw[e];simp
 have C:ir prog w A s κ (· ∈(its.toArray.zip its.toArray).toList) (λx=>bq its.length c (gq its x)):=⟨λx b y V Q E J=>by obtain⟨i,H,rfl⟩:=d x b;obtain⟨j,l,rfl⟩:=d y V;obtain⟨K,W⟩:=a i H;obtain⟨L,X⟩:=a j l;rw[<-zZ o K L]at J;have:=m _ _ Q K L J;unfold kas_ask at this;rw[W,X]at this;exact Oz this (λ_ _ q=>q) λ_ _ z=>z.elim⟩;have D:(its.toArray.zip its.toArray).size=its.length:=by simp
 have F:=Iq (E:=E) (st:=QE κ (its.toArray.zip its.toArray) #[] 7 none) C ⟨.refl _,rfl,rfl⟩ rfl (by rw[D];exact n) (Q:=λ_ S=>Q S s) λS B T=>by
  have v:(its.toArray.zip its.toArray).toList=(NJ its.length).map λi=>(its.getD i NE,its.getD i NE):=by
   apply PN
   ·simp
   ·intro i h1 n;have H:i<its.length:=by simpa using n
    have e:its.getD i NE=its[i]:=by simp[Qe,H]
    simp only[List.getElem_map,List.getElem_range,e];simp
  obtain⟨p,P,M⟩:=Ir (Qf.mp B.perm) _ v;refine h S p B.failed ?_ P ?_
  ·apply TM.mp;rw[RA,<-M,ZY];rfl
  ·refine Yd.mpr λi j H l t=>?_;have O:p.length=its.length:=by rw[P.length_eq,Rx]
   have Y:p[i]<its.length:=ZW.mp (P.mem_iff.mp (Z6 H));have Z:p[j]<its.length:=ZW.mp (P.mem_iff.mp (Z6 l));have U:(arrOf S).size=its.length:=by rw[B.perm.size_eq,D]
   have:=T i j (Yp _) (OU t) (by rw[D];omega)
   have I:∀(k:Nat) (u:k<p.length),R (λx=>bq its.length c (gq its x)) (arrOf S) k=bq its.length c p[k]:=λk u=>by
    have g:k<(arrOf S).size:=by omega
    rw[cl g]
    have e:(arrOf S)[k]=(its.getD p[k] NE,its.getD p[k] NE):=by
     have G:(arrOf S).toList[k]?=Nz (its.getD p[k] NE,its.getD p[k] NE):=by rw[<-M,Z0,Zf u];rfl
     rw[ZT,getElem?_pos (arrOf S) k g]at G;exact Yk G
    rw[e];have N:p[k]<its.length:=ZW.mp (P.mem_iff.mp (Z6 u));obtain⟨q1,q2⟩:=a p[k] N;exact same _ _ q1 N q2
   rw[I i H,I j l]at this;rw[zZ o Z Y];exact ZQ (by omega)
 exact Oz F (λr s' v=>by obtain⟨rfl,q⟩:=v;exact q) λ_ _ e=>e
end Py
end
namespace Py
structure gZ (P:D->Prop)(f:D->D->Bool):Prop where
 irr:∀x,P x->f x x=NB
 asym:∀x y,P x->P y->f x y=NA->f y x=NB
 ntr:∀x y z,P x->P y->P z->f x y=NB->f y z=NB->f x z=NB
 tot:∀x y,P x->P y->f x y=NB->f y x=NB->x=y
section
variable {P:D->Prop}{f:D->D->Bool}
theorem z7(o:gZ P f):∀(xs:List D),(∀x∈xs,P x)->bQ f xs xs=NB
 | [],_=>rfl
 |x::xs,h=>by dsimp only[bQ];rw[o.irr x (h x Zd)];exact z7 o _ λy H=>h y (Zb _ H)
theorem z8(o:gZ P f):∀(xs ys:List D),(∀x∈xs,P x)->(∀x∈ys,P x)->bQ f xs ys=NA->bQ f ys xs=NB
 | [],[],_,_,h=>rfl
 | [],_::_,_,_,_=>rfl
 |_::_,[],_,_,h=>by cases h
 |x::xs,y::ys,a,b,h=>by
  dsimp only[bQ]at h⊢;cases e:f x y with
  |true=>rw[o.asym x y (a x Zd) (b y Zd) e];rfl
  |false=>
   rw[e]at h;cases E:f y x with
   |true=>simp_all
   |false=>rw[E]at h;exact z8 o _ _ (λz H=>a z (Zb _ H)) (λz H=>b z (Zb _ H)) h
theorem lex_tot(o:gZ P f):∀(xs ys:List D),(∀x∈xs,P x)->(∀x∈ys,P x)->bQ f xs ys=NB->bQ f ys xs=NB->xs=ys
 | [],[],_,_,_,_=>rfl
 | [],_::_,_,_,h,_=>by cases h
 |_::_,[],_,_,_,h=>by cases h
 |x::xs,y::ys,b,c,h,H=>by
  dsimp only[bQ]at h H;cases e:f x y with
  |true=>simp_all
  |false=>
   cases E:f y x with
   |true=>simp_all
   |false=>rw[e,E]at h H;rw[o.tot x y (b x Zd) (c y Zd) e E,lex_tot o _ _ (λz a=>b z (Zb _ a)) (λz a=>c z (Zb _ a)) h H]
theorem z9(o:gZ P f):∀(xs ys zs:List D),(∀x∈xs,P x)->(∀x∈ys,P x)->(∀x∈zs,P x)->bQ f xs ys=NB->bQ f ys zs=NB->bQ f xs zs=NB
 | [],[],zs,_,_,_,_,h=>h
 | [],_::_,_,_,_,_,h,_=>by cases h
 |_::_,_,[],_,_,_,_,_=>rfl
 |x::xs,[],z::zs,_,_,_,_,h=>by cases h
 |x::xs,y::ys,z::zs,g,i,j,H,a=>by
  have p:=g x Zd;have b:=i y Zd;have c:=j z Zd;simp only[bQ]at H a⊢;cases e:f x y with
  |true=>simp_all
  |false=>
   cases E:f y z with
   |true=>simp_all
   |false=>
    rw[e]at H;rw[E]at a;rw[o.ntr x y z p b c e E];cases d:f z x with
    |true=>rfl
    |false=>rw[o.ntr y z x b c p E d]at H;rw[o.ntr z x y c p b d e]at a;exact z9 o _ _ _ (λw hw=>g w (Zb _ hw)) (λw hw=>i w (Zb _ hw)) (λw hw=>j w (Zb _ hw)) H a
end
theorem dw(h:aw .int d=NA):∃i,d=.int i:=by cases d<;>first|lia| (simp[aw]at h)
theorem cY{t:ej}(h:aw (.seq t) d=NA):∃xs,d=.tup xs/\∀x∈xs,aw t x=NA:=by
 cases d with
 |tup xs=>exact⟨_,rfl,λx H=>ZF.mp h x H⟩
 |_=>simp[aw]at h
theorem fE:∀(t:ej),bR t=NA->gZ (λd=>aw t d=NA) (bJ t)
 | .int,_=>by
  refine⟨λx h=>?_,λx y H a h=>?_,λx y z H a f b c=>?_,λx y H a b c=>?_⟩
  ·obtain⟨i,rfl⟩:=dw h;simp[bJ]
  ·obtain⟨i,rfl⟩:=dw H;obtain⟨j,rfl⟩:=dw a;simp[bJ]at h⊢;lia
  ·obtain⟨i,rfl⟩:=dw H;obtain⟨j,rfl⟩:=dw a;obtain⟨k,rfl⟩:=dw f;simp[bJ]at b c⊢;lia
  ·obtain⟨i,rfl⟩:=dw H;obtain⟨j,rfl⟩:=dw a;simp[bJ]at b c;grind
 | .seq t,h=>by
  have o:=fE t h;refine⟨λx h=>?_,λx y H a h=>?_,λx y z H a f b c=>?_,λx y H a b c=>?_⟩
  ·obtain⟨X,rfl,k⟩:=cY h;exact z7 o X k
  ·obtain⟨X,rfl,K⟩:=cY H;obtain⟨Y,rfl,e⟩:=cY a;exact z8 o X Y K e h
  ·obtain⟨X,rfl,K⟩:=cY H;obtain⟨Y,rfl,e⟩:=cY a;obtain⟨Z,rfl,g⟩:=cY f;exact z9 o X Y Z K e g b c
  ·obtain⟨X,rfl,K⟩:=cY H;obtain⟨Y,rfl,e⟩:=cY a;exact Yj D.tup (lex_tot o X Y K e b c)
noncomputable def dy(t:ej)(d e:D):Bool:= !bJ t d e&& !bJ t e d
theorem z_{t:ej}(hs:bR t=NA){e:D}(h1:aw t d=NA)(H:aw t e=NA)(h:dy t d e=NA):d=e:=by unfold dy at h;simp at h;exact(fE t hs).tot d e h1 H h.1 h.2
theorem iV{f:D->D->Bool}{x y:D}:bQ f (x::xs) (y::ys)=if f x y=NA then NA else if f y x=NA then NB else bQ f xs ys:=rfl
theorem Aa{t:ej}(hs:bR t=NA):∀(xs ys:List D),(∀x∈xs,aw t x=NA)->(∀x∈ys,aw t x=NA)->dy (.seq t) (.tup xs) (.tup ys)=((NL (dy t) xs ys).all id&&xs.length==ys.length)
 | [],[],_,_=>rfl
 | [],y::ys,_,_=>rfl
 |x::xs,[],_,_=>rfl
 |x::xs,y::ys,h,H=>by
  have i:=Aa hs _ _ (λw hw=>h w (Zb _ hw)) λw hw=>H w (Zb _ hw);cases e:bJ t x y with
  |true=>simp[dy,bJ,bQ,e]
  |false=>
   cases E:bJ t y x with
   |true=>simp[dy,bJ,bQ,E]
   |false=>
    have a:dy t x y=NA:=by simp[dy,e,E]
    have b:dy (.seq t) (.tup (x::xs)) (.tup (y::ys))=dy (.seq t) (.tup xs) (.tup ys):=by show(!bQ _ _ _&& !bQ _ _ _)=(!bQ _ _ _&& !bQ _ _ _);rw[iV,iV,e,E];rfl
    simp_all
theorem allO_map(f:D->D->Bool):∀(xs ys:List D) (g:D->D->Option Bool),(∀x∈xs,∀y∈ys,g x y=Nz (f x y))->bw (NL g xs ys)=Nz ((NL f xs ys).all id)
 | [],_,_,_=>rfl
 |_::_,[],_,_=>rfl
 |x::xs,y::ys,g,h=>by
  have i:=allO_map f xs ys g λa H b d=>h a (Zb _ H) b (Zb _ d)
  show(match g x y,bw (NL g xs ys)with
   |some b,Nz c=>Nz (b&&c)
   |_,_=>none)=_
  rw[h x Zd y Zd,i];rfl
theorem Ab{t:ej}(hs:bR t=NA){eq lt:D->D->Option Bool}:∀(xs ys:List D),(∀x∈xs,aw t x=NA)->(∀x∈ys,aw t x=NA)->(∀x∈xs,∀y∈ys,eq x y=Nz (dy t x y)/\lt x y=Nz (bJ t x y))->vW eq lt xs ys=Nz (bQ (bJ t) xs ys)
 | [],[],_,_,_=>rfl
 | [],_::_,_,_,_=>rfl
 |_::_,[],_,_,_=>rfl
 |x::xs,y::ys,H,d,h=>by
  have i:=Ab hs xs ys (λw hw=>H w (Zb _ hw)) (λw hw=>d w (Zb _ hw)) λa f b g=>h a (Zb _ f) b (Zb _ g);obtain⟨K,k⟩:=h x Zd y Zd;have p:=H x Zd;have P:=d y Zd;unfold vW;rw[K,iV];cases e:bJ t x y with
  |true=>
   have E:dy t x y=NB:=by simp[dy,e]
   rw[E];show lt x y=_;rw[k,e];rfl
  |false=>
   cases c:bJ t y x with
   |true=>
    have E:dy t x y=NB:=by simp[dy,e,c]
    rw[E];show lt x y=_;rw[k,e];rfl
   |false=>
    have E:dy t x y=NA:=by simp[dy,e,c]
    rw[E];exact i
theorem Iu(S:aa):∀(t:ej),bR t=NA->∀n,cj t<=n->∀d e,aw t d=NA->aw t e=NA->cF S n d e=Nz (dy t d e)/\jw S n d e=Nz (bJ t d e)
 | .int,_,0,h,_,_,_,_=>by simp[cj]at h
 | .int,_,n+1,_,d,e,a,b=>by obtain⟨i,rfl⟩:=dw a;obtain⟨j,rfl⟩:=dw b;refine⟨?_,rfl⟩;show Nz (i==j)=Nz (!decide (i<j)&& !decide (j<i));congr 1;lia
 | .seq t,H,0,h,_,_,_,_=>by simp[cj]at h
 | .seq t,H,n+1,h,d,e,a,b=>by obtain⟨X,rfl,k⟩:=cY a;obtain⟨Y,rfl,K⟩:=cY b;have I:=Iu S t H n (by simpa[cj]using h);refine⟨?_,Ab (t:=t) H X Y k K λx c y f=>I x y (k x c) (K y f)⟩;show(bw (NL (cF S n) X Y)).map (· &&X.length==Y.length)=_;simp only[allO_map (dy t) X Y _ λx c y f=>(I x y (k x c) (K y f)).1,Aa (t:=t) H X Y k K];rfl
theorem nO(f:D->D->Bool)(x:D):∀l,(insB f x l).Perm (x::l)
 | []=>.refl _
 |y::Y=>by
  unfold insB;split
  ·exact .refl _
  ·exact((nO f x _).cons y).trans (.swap _ _ _)
theorem iW(f:D->D->Bool)(xs:List D):(eT f xs).Perm xs:=by
 have k:∀(xs a:List D),(xs.foldl (λa x=>insB f x a) a).Perm (a++xs):=by
  intro xs
  induction xs with
  |nil=>simp_all
  |cons x xs i=>intro a;exact(i _).trans (((nO f x _).append_right _).trans OQ.symm)
 simpa[eT]using k _ []
theorem Ac{P:D->Prop}{f:D->D->Bool}(o:gZ P f)(x:D)(p:P x):∀l,(∀y∈l,P y)->l.Pairwise (λa b=>f b a=NB)->(insB f x l).Pairwise (λa b=>f b a=NB)
 | [],_,_=>by simp[insB]
 |y::j,d,h=>by
  simp[insB];have e:=d y Zd;obtain⟨g,i⟩:=ZM.mp h;split
  ·rename_i c;refine ZM.mpr ⟨λz H=>?_,h⟩;have Y:=o.asym x y p e c;rcases Zi.mp H with rfl|H
   ·exact Y
   ·exact o.ntr z y x (d z (Zb _ H)) e p (g z H) Y
  ·refine ZM.mpr ⟨λz H=>?_,Ac o x p _ (λw hw=>d w (Zb _ hw)) i⟩;rcases Zi.mp ((nO f x _).mem_iff.mp H)with rfl|H
   ·simp_all
   simp_all
theorem Ad{P:D->Prop}{f:D->D->Bool}(o:gZ P f)(xs:List D)(e:∀x∈xs,P x):(eT f xs).Pairwise (λa b=>f b a=NB):=by
 have k:∀(xs A:List D),(∀x∈xs,P x)->(∀x∈A,P x)->A.Pairwise (λa b=>f b a=NB)->(xs.foldl (λA x=>insB f x A) A).Pairwise λa b=>f b a=NB:=by
  intro xs
  induction xs with
  |nil=>intro A _ _ h;exact h
  |cons x xs i=>
   intro A c d h;have p:=c x Zd;refine i _ (λy H=>c y (Zb _ H)) (λy H=>?_) (Ac o x p _ d h);rcases Zi.mp ((nO f x _).mem_iff.mp H)with rfl|H
   ·exact p
   simp_all
 exact k _ _ e (by simp) .nil
theorem Ae{t:ej}(hs:bR t=NA)(h:∀x∈xs,aw t x=NA)(p:ys.Perm xs)(s:ys.Pairwise (λa b=>bJ t b a=NB)):ys=eT (bJ t) xs:=by have o:=fE t hs;exact RL (λa b d e H c=>o.tot a b (h a (p.mem_iff.mp d)) (h b ((iW _ _).mem_iff.mp e)) c H) s (Ad o _ h) (p.trans (iW _ _).symm)
open PySem PySem.W PySem.Spec PyProof.Rows
def g4(its:Lv)(c:Nat->Nat->Bool)(out:Lv):Prop:=∃p:List Nat,out=p.map (λi=>its.getD i NE)/\p.Perm (NJ its.length)/\p.Pairwise (λi j=>c j i=NB)
theorem Af{T:Nat}{c:Nat->Nat->Bool}{P:PySem.Fin->NC->Prop}(z:s.heap.get? a=Nz (seqObj "list" its.toArray T))(l:its.length<=sizeLine)
  (F:2<=its.length->∃κ:OT,gp its.length c/\(∀i j,i<its.length->j<its.length->its.getD i NE=its.getD j NE->bq its.length c i=bq its.length c j)/\∀h':NO,(∀b o,b≠a->s.heap.get? b=Nz o->h'.get? b=Nz o)->
   (∀(G:OT->NC->Prop),G κ {s with heap:=h'}->wpAny (model prog w) A (keyKind' its.toArray) G E {s with heap:=h'})/\
   ∀i j C,i<its.length->j<its.length->C (c i j) {s with heap:=h'}->kas_ask prog w A κ its i j C {s with heap:=h'})
  (K:∀h' q out,(∀b o,b≠a->s.heap.get? b=Nz o->h'.get? b=Nz o)->h'.get? a=Nz (seqObj "list" (Ox out) q)->g4 its c out->P (.done (.ret .none)) {s with heap:=h'}):
  wpAny (model prog w) A (OO.«list.sort» ⟨[.ref a],[]⟩) P E s:=by
 have W:a<s.heap.objs.size:=Zo z;have U:=Yb s.heap a (N7 λ_=>(#[]:Av));obtain⟨u,x⟩:∃u,(s.heap.update a (N7 λ_=>(#[]:Av))).get? a=Nz (seqObj "list" #[] u):=⟨_,get?_update_seq z λ_=> #[]⟩
 have k:∀b o,b≠a->s.heap.get? b=Nz o->(((s.heap.update a (N7 λ_=>(#[]:Av))).push (seqObj "tuple" its.toArray 0)).push (seqObj "list" #[] 0)).get? b=Nz o:=λb o y e=>
  Zc _ (Zc _ ((U.2 b y).trans e))
 have m:(((s.heap.update a (N7 λ_=>(#[]:Av))).push (seqObj "tuple" its.toArray 0)).push (seqObj "list" #[] 0)).get? a=Nz (seqObj "list" #[] u):=Zc _ (Zc _ x);rw[list_sort_plain];refine Za (listItems_at z rfl ?_);refine Za (listUpdate_at z rfl ?_ (by rw[Zy];exact l) (Yp _));refine Za (seqEpoch_at x rfl ?_);refine Za (Sy ?_ (by show its.length<=_;exact l));refine Za (S_ ?_ (Yp _));refine Z8 ?_;show wpAny (model prog w) A _ P E {s with heap:=((s.heap.update a (N7 λ_=>(#[]:Av))).push (seqObj "tuple" its.toArray 0)).push (seqObj "list" #[] 0)};generalize((s.heap.update a (N7 λ_=>(#[]:Av))).push (seqObj "tuple" its.toArray 0)).push (seqObj "list" #[] 0)=g at*
 have fin:∀(S:NK) (out:Lv),(arrOf S).map (·.2)=Ox out->failedOf S=none->out.length=its.length->g4 its c out->
   wpAny (model prog w) A (do
    let t:=(<-seqEpoch a) !=u
    RE (.ref a) λ_=>(arrOf S).map (·.2)
    if let Nz e:=failedOf S then rule "list.sort.comparison-raised";throw e
    if t then rule "list.sort.modified";raiseError "ValueError" "list modified during sort"
    ret .none) P E {s with heap:=g}:=by
  intro S out H v d B;have V:=Yb g a (N7 λ_=>Ox out);obtain⟨q,D⟩:∃q,(g.update a (N7 λ_=>Ox out)).get? a=Nz (seqObj "list" (Ox out) q):=⟨_,get?_update_seq m λ_=>Ox out⟩;rw[H];refine Za (seqEpoch_at m rfl ?_);refine Za (listUpdate_at m rfl ?_ (Yp _) (by rw[Zy,d];exact RD l));rw[v];simp only[bne_self_eq_false,Z9,if_false];exact Ze (K _ q out (λb o y e=>(V.2 b y).trans (k b o y e)) D B)
 by_cases n:2<=its.length
 ·have f:¬its.toArray.size<2:=by rw[Zy];omega
  rw[if_neg f,if_neg f];obtain⟨κ,o,same,F⟩:=F n;obtain⟨N,O⟩:=F g k;refine Za (N _ ?_)
  have R:=nN (E:=E) o same n O (Q:=λS J=>J={s with heap:=g}/\failedOf S=none/\∃out:Lv,(arrOf S).map (·.2)=Ox out/\out.length=its.length/\g4 its c out)
   (λS p v H I M=>⟨rfl,v,_,H,by rw[Zh,I.length_eq,Rx],p,rfl,I,M⟩)
  refine Za (Oz R (λr J L=>?_) λ_ _ e=>e);obtain⟨⟨⟩,S⟩:=r;obtain⟨rfl,v,out,H,d,B⟩:=L;exact fin S _ H v d B
 ·have f:its.toArray.size<2:=by rw[Zy];omega
  rw[if_pos f,if_pos f];refine Za (Ze ?_)
  show wpAny (model prog w) A (do
    let t:=(<-seqEpoch a) !=u
    RE (.ref a) λ_=>(arrOf (QE general' (its.toArray.zip its.toArray) #[] 7 none)).map (·.2)
    if let Nz e:=failedOf (QE general' (its.toArray.zip its.toArray) #[] 7 none)then rule "list.sort.comparison-raised";throw e
    if t then rule "list.sort.modified";raiseError "ValueError" "list modified during sort"
    ret .none) P E {s with heap:=g}
  refine fin _ its ?_ rfl rfl ⟨NJ its.length,?_,.refl _,?_⟩
  ·show(its.toArray.zip its.toArray).map (·.2)=its.toArray;apply TM.mp;rw[RA,TL];exact List.map_snd_zip (Zg _)
  ·refine PN (by simp) λi g n=>?_;simp[g]
  ·match its,n with
   | [],_=>simp
   | [_],_=>simp
   |_::_::_,n=>simp at n
end Py
namespace Py
open PySem PySem.W PySem.Spec PyProof.Rows L2
theorem Iv{b:Bool}{l:ND}{c:Nat->Nat->Bool}{Q:Vs}(u:bK b s.heap l its.toArray)(H:its.length<=sizeLine)
  (q:2<=its.length->∃κ:OT,gp its.length c/\(∀i j,i<its.length->j<its.length->its.getD i NE=its.getD j NE->bq its.length c i=bq its.length c j)/\∀h':NO,(∀b o,s.heap.get? b=Nz o->h'.get? b=Nz o)->
   (∀(E':Vs) (t:OT->NC->Prop),t κ {s with heap:=h'}->wpAny (model prog w) A.in1.in1 (keyKind' its.toArray) t E' {s with heap:=h'})/\
   ∀i j C,i<its.length->j<its.length->C (c i j) {s with heap:=h'}->kas_ask prog w A.in1.in1 κ its i j C {s with heap:=h'})
  (y:∀(h1 h':NO) f out,(∀b o,s.heap.get? b=Nz o->h1.get? b=Nz o)->(∀b o,h1.get? b=Nz o->h'.get? b=Nz o)->h'.get? h1.objs.size=Nz (seqObj "list" (Ox out) f)->g4 its c out->Q (.ref h1.objs.size) {s with heap:=h'}):
  wpAny (model prog w) A (call (.builtin "sorted") [.ref l]) Q E s:=by
 refine R0 kind_sorted plain_sorted entry_sorted (args_sorted1 _) ?_;unfold OO.«sorted»;refine Za (m:=checkCount "sorted" 1 1 _) (Ze ?_);have d:its.toArray.size<=sizeLine:=by rw[Zy];exact H
 have G:∀h1:NO,(∀b o,s.heap.get? b=Nz o->h1.get? b=Nz o)->wpAny (model prog w) A.in1 (do
   let l <-newList its
   let _ <-holding [l] (call (.builtin "list.sort") [l])
   ret l) (λfin S=>∃v,fin=.done (.ret v)/\Q v S) E {s with heap:=h1}:=by
  intro h1 k;refine Za (S_ ?_ H);have a:(h1.push (seqObj "list" its.toArray 0)).get? h1.objs.size=Nz (seqObj "list" its.toArray 0):=Zk _ rfl;refine Za (Z8 (Z1 slot_list_sort ⟨_,a,rfl⟩ entry_list_sort ?body (args_list_sort _)))
  case body=>
   refine Af (c:=c) (s:={s with heap:=h1.push (seqObj "list" its.toArray 0)}) a H (λx=>?_) λh' f out K e O=>?_
   ·obtain⟨κ,o,same,q⟩:=q x;refine⟨κ,o,same,λh' K=>?_⟩;obtain⟨z,B⟩:=q h' λb o e=>K b o (ZC (Zo (k b o e))) (Zc _ (k b o e));exact⟨z _,B⟩
   ·exact⟨_,rfl,Ze ⟨_,rfl,y h1 h' f out k (λb o e=>K b o (ZC (Zo e)) (Zc _ e)) e O⟩⟩
 cases b with
 |true=>obtain⟨o,r,g,n,p⟩:=u;exact Za (wpAny_collect_seq l (.inl rfl) r g p (λh1 k=>by simpa using G h1 k) d)
 |false=>obtain⟨o,r,g,n,p⟩:=u;exact Za (wpAny_collect_seq l (.inr rfl) r g p (λh1 k=>by simpa using G h1 k) d)
theorem Ag(I:Inv X pq σ H s)(a:aO X.K ⟨X.mg,F⟩ μ S H){t:ej}(hs:bR t=NA)(g:cj t<=40)(h:A.units+40<cLine){e:D}{z:NF}(h1:aw t d=NA)(f:aw t e=NA)
  (r:Rep X.K ⟨X.mg,F⟩ μ H d v) (q:RelV v u) (R:Rep X.K ⟨X.mg,F⟩ μ H e v') (Q:RelV v' z):PySem.SeqAt.EqAt A s u z (dy t d e)/\f7 A s u z (bJ t d e):=by
 obtain⟨b,c⟩:=Iu S t hs _ g d e h1 f;exact⟨(vV I a _ A h d e v _ u z _ r q R Q b).2.2,jy I a _ A h d e v _ u z _ r q R Q c⟩
theorem Ah{prog:NU}{w:N0}{A:OH}{Q:Bool->NC->Prop}{t:ej}{b:Bool}(g:b=NA->t=.int):∀(ds es:List D) (us zs:Lv) (i:Nat),(∀d∈ds,aw t d=NA)->(∀e∈es,aw t e=NA)->ds.length=us.length->es.length=zs.length->
  (∀(j:Nat) d e u z,ds[j]?=Nz d->es[j]?=Nz e->us[j]?=Nz u->zs[j]?=Nz z->PySem.SeqAt.EqAt A s u z (dy t d e)/\f7 A s u z (bJ t d e)/\(t=.int->∃a b ta tb,d=.int a/\e=.int b/\u=.int a ta/\z=.int b tb))->
  Q (bQ (bJ t) ds es) s->KatLex prog w A b (decide (us.length<zs.length)) Q (us.zip zs) i s
 | [],[],us,zs,i,_,_,L,l,_,q=>by have E:us=[]:=ZK L.symm;have f:zs=[]:=ZK l.symm;subst E;subst f;exact kat_nil q
 | [],e::es,us,zs,i,_,_,L,l,_,q=>by
  have E:us=[]:=ZK L.symm;subst E;have:decide (([]:Lv).length<zs.length)=NA:=by simp at l⊢;omega
  rw[this,Qw];exact kat_nil q
 |d::ds,[],us,zs,i,_,_,L,l,_,q=>by
  have E:zs=[]:=ZK l.symm;subst E;have:decide (us.length<([]:Lv).length)=NB:=by simp
  rw[this,Rj];exact kat_nil q
 |d::ds,e::es,[],zs,i,_,_,L,_,_,_=>by simp at L
 |d::ds,e::es,_::_,[],i,_,_,_,l,_,_=>by simp at l
 |d::ds,e::es,u::us,z::zs,i,I,J,L,l,h,q=>by
  obtain⟨M,O,P⟩:=h 0 d e u z rfl rfl rfl rfl;have G:decide ((u::us).length<(z::zs).length)=decide (us.length<zs.length):=by simp
  rw[G,Ym];refine kat_cons (M prog w _ _ ?_);rw[iV]at q
  have N:∀{k:Bool},bJ t d e=k->dy t d e=NB->Q k s->KatGo prog w A b (decide (us.length<zs.length)) Q u z (us.zip zs) i NB s:=λ{k} n _ o=>by
   clear q;refine kat_no ?_;cases H:(b&&i==0)with
   |false=>exact kat_one u z (O prog w _ _ (by rw[n];exact o))
   |true=>simp only[ZL]at H;obtain⟨a,B,ta,tb,rfl,rfl,rfl,rfl⟩:=P (g H.1);have K:=g H.1;subst K;exact oneLt_int (by rw[show decide (a<B)=k from n];exact o)
  cases E:bJ t d e with
  |true=>
   have c:dy t d e=NB:=by simp[dy,E]
   rw[E]at q;rw[c];exact N E c (by simpa using q)
  |false=>
   cases f:bJ t e d with
   |true=>
    have c:dy t d e=NB:=by simp[dy,E,f]
    rw[E,f]at q;rw[c];exact N E c (by simpa using q)
   |false=>
    have c:dy t d e=NA:=by simp[dy,E,f]
    rw[E,f]at q;rw[c];refine kat_yes (Ah g ds es us zs (i+1) (λx m=>I x (Zb _ m)) (λx m=>J x (Zb _ m)) (by simpa using L) (by simpa using l) (λj C F U Z p r v y=>h (j+1) C F U Z p r v y) (by simpa using q))
end Py
namespace Py
open PySem PySem.W PySem.Spec PyProof.Rows L2
theorem Ai{b a:Type}{M:Model}{f:b->Sem a}{g:b->a}:∀(l:List b) {Q:List a->NC->Prop},(∀v∈l,∀(c:a->NC->Prop),c (g v) s->wpAny M A (f v) c E s)->Q (l.map g) s->wpAny M A (l.mapM f) Q E s
 | [],_,_,h=>by exact Ze h
 |x::l,Q,H,h=>by rw[List.mapM_cons];exact Za (H x (.head _) _ (Za (Ai l (λv d=>H v (.tail _ d)) (Ze h))))
theorem nP{l b:ND}{vs W:Lv}{k:Bool}{Q:Bool->NC->Prop}(o:s.heap.IsTuple l vs.toArray)(m:s.heap.IsTuple b W.toArray)(p:A.units<cLine)(q:cG A.in1 s vs W k)(h:Q k s):wpAny (model prog w) A (oneLt' NA (.ref l) (.ref b)) Q E s:=by obtain⟨⟨cls,j,f,sl⟩,c,g,n,i⟩:=id o;obtain⟨⟨C,D,d,S⟩,e,H,N,a⟩:=id m;simp only at g i H a;subst g i H a;rw[oneLt'_eq];simp only[if_true];refine Za (wpAny_cRoomFor p ?_);refine Za (wpAny_callSpecialIfBound?_slot ⟨_,c,rfl⟩ PySem.F.slot_tuple_lt (P7 PySem.F.slot_tuple_lt ⟨_,c,rfl⟩ PySem.F.entry_tuple_lt (PySem.F.args_tuple_lt_2 _ _) (xm l b vs.toArray W.toArray n N j D sl S k) ⟨c,e,by simpa using q,?_⟩));exact Yn h
end Py
namespace Py
open PySem PySem.W PySem.Spec PyProof.Rows L2
noncomputable def iX:ej->String
 | .int=>"int"
 |_=>"tuple"
theorem ke(I:Inv X pq σ H s){t:ej}(hs:bR t=NA)(h:aw t d=NA)(r:Rep X.K ⟨X.mg,F⟩ μ H d v)(q:RelV v u):Looks (model X.prog X.w) s.heap (typeOf u) (.type (iX t)):=by
 have tup:∀x,d=.tup x->Looks (model X.prog X.w) s.heap (typeOf u) (.type "tuple"):=by
  rintro x rfl;obtain⟨a,vs,rfl,c,_⟩:=b3 r;subst q;obtain⟨e,_,p,_⟩:=I.tuple c;obtain⟨o,b,f,_⟩:=p;have:=show Looks (model X.prog X.w) _ (typeOf (.ref a)) _ from(Looks.ld b).andThen .now
  simp_all
 cases t with
 |int=>obtain⟨i,rfl⟩:=dw h;cases aJ r;obtain⟨T,rfl⟩:=q;exact(show Looks _ _ _ _ from .now)
 |seq t=>obtain⟨x,rfl,_⟩:=cY h;exact tup _ rfl
theorem Aj(I:Inv X pq σ H s){t:ej}(hs:bR t=NA):∀(ys:List D) (vs:List V) (its:Lv),(∀d∈ys,aw (.seq t) d=NA/\d≠.tup [])->aj X.K ⟨X.mg,F⟩ μ H ys vs->Vals vs its->
  ∃fs,KatTups s.heap its fs/\fs.length=its.length/\∀f∈fs,Looks (model X.prog X.w) s.heap (typeOf f) (.type (iX t))
 | [],vs,its,_,r,q=>by subst r;cases q;exact⟨_,KatTups.nil,rfl,λ_ h=>nomatch h⟩
 |d::ys,vs,its,h,r,q=>by
  obtain⟨v,O,rfl,A,B⟩:=r.uncons;cases q with
  |cons Q z=>
   obtain⟨fs,K,J,L⟩:=Aj I hs _ _ _ (λe l=>h e (Zb _ l)) B z;obtain⟨i,G⟩:=h d Zd;obtain⟨c,rfl,y⟩:=cY i;cases c with
   |nil=>simp_all
   |cons x c=>
    obtain⟨a,as,rfl,u,R⟩:=b3 A;cases Q;obtain⟨N,C,p,_⟩:=I.tuple u;obtain⟨w,W,rfl,E,_⟩:=R.uncons;cases C with
    |cons P M=>
     rename_i f U;obtain⟨o,m,j,n,k⟩:=p;refine⟨f::fs,KatTups.cons m j k (by simp) K,by simp_all,λg b=>?_⟩;rcases Zi.mp b with rfl|b
     ·exact ke I hs (y x Zd) E P
     simp_all
theorem Iw(I:Inv X pq σ H s)(sk:aO X.K ⟨X.mg,F⟩ μ S H){t:ej}(hs:bR t=NA)(hd:cj t<=40)(hu:A.units+42<cLine){e:D}{z:NF}(h1:aw (.seq t) d=NA)(h2:aw (.seq t) e=NA)
  (r1:Rep X.K ⟨X.mg,F⟩ μ H d v) (q1:RelV v u) (r2:Rep X.K ⟨X.mg,F⟩ μ H e v') (q2:RelV v' z) {C:Bool->NC->Prop}  (hC:C (bJ (.seq t) d e) s):wpAny (model X.prog X.w) A (keyLt' (tuples' (NN (iX t) !=NN "tuple")) u z) C E s:=by
 obtain⟨y,rfl,c⟩:=cY h1;obtain⟨Y,rfl,f⟩:=cY h2;obtain⟨a,as,rfl,ha,r⟩:=b3 r1;obtain⟨b,bs,rfl,h,R⟩:=b3 r2;cases q1;cases q2;obtain⟨U,q,pa,_⟩:=I.tuple ha;obtain⟨Z,x,pb,_⟩:=I.tuple h;obtain⟨oa,P,_,na,L⟩:=pa;obtain⟨ob,T,_,nb,M⟩:=pb;refine kat_lt P L T M ?_;have l1:y.length=U.length:=by rw[r.length,q.length]
 have l2:Y.length=Z.length:=by rw[R.length,x.length]
 have:=Ah (prog:=X.prog) (w:=X.w) (A:=A) (s:=s) (Q:=C) (t:=t) (b:=(NN (iX t) !=NN "tuple")) (λh=>?_) y Y U Z 0 c f l1 l2 (λj d e u z g G V W=>?_) hC
 ·simpa using this
 ·cases t with
  |int=>rfl
  |seq t=>exact absurd h (by show ¬((NN "tuple" !=NN "tuple")=NA);decide)
 ·obtain⟨w1,N,K⟩:=r.get g;obtain⟨w2,O,m⟩:=R.get G;obtain⟨u',k,n⟩:=q.get N;obtain⟨z',l,o⟩:=x.get O;rw[V]at k;cases k;rw[W]at l;cases l;obtain⟨B,J⟩:=Ag I sk hs hd (A:=A) (by omega) (c d (ZA g)) (f e (ZA G)) K n m o;refine⟨B,J,λht=>?_⟩;subst ht;obtain⟨i,rfl⟩:=dw (c d (ZA g));obtain⟨j,rfl⟩:=dw (f e (ZA G));cases aJ K;cases aJ m;obtain⟨ta,rfl⟩:=n;obtain⟨tb,rfl⟩:=o;exact⟨i,j,ta,tb,rfl,rfl,rfl,rfl⟩
theorem Ak{A:OH}{t:ej}(hs:bR t=NA):∀(ds es:List D) (us zs:Lv),(∀d∈ds,aw t d=NA)->(∀e∈es,aw t e=NA)->ds.length=us.length->es.length=zs.length->(∀(j:Nat) d e u z,ds[j]?=Nz d->es[j]?=Nz e->us[j]?=Nz u->zs[j]?=Nz z->PySem.SeqAt.EqAt A s u z (dy t d e)/\f7 A s u z (bJ t d e))->cG A s us zs (bQ (bJ t) ds es)
 | [],[],us,zs,_,_,L,a,_=>by cases ZK L.symm;cases ZK a.symm;exact .nn
 | [],e::es,us,zs,_,_,L,a,_=>by
  cases ZK L.symm;cases zs with
  |nil=>cases a
  |cons z zs=>exact .nc
 |d::ds,[],us,zs,_,_,L,a,_=>by
  cases ZK a.symm;cases us with
  |nil=>cases L
  |cons u us=>exact .cn
 |d::ds,e::es,us,zs,b,f,L,a,g=>by
  cases us with
  |nil=>cases L
  |cons u us=>
   cases zs with
   |nil=>cases a
   |cons z zs=>
    have T:=b d Zd;obtain⟨c,C⟩:=g 0 d e u z rfl rfl rfl rfl;cases E:dy t d e with
    |true=>rw[E]at c;have h:=z_ hs T (f e Zd) E;subst h;rw[iV,(fE t hs).irr d T];exact .eq c (Ak hs _ _ _ _ (λx H=>b x (Zb _ H)) (λx H=>f x (Zb _ H)) (Q9 L) (Q9 a) λj d e u z G i k m=>g (j+1) d e u z G i k m)
    |false=>
     rw[E]at c
     have:bQ (bJ t) (d::ds) (e::es)=bJ t d e:=by
      rw[iV];cases l:bJ t d e with
      |true=>rfl
      |false=>
       cases n:bJ t e d with
       |true=>rfl
       |false=>unfold dy at E;simp_all
     rw[this];exact .lt c C
theorem Al(I:Inv X pq σ H s)(Y:aO X.K ⟨X.mg,F⟩ μ S H){t:ej}(hs:bR t=NA)(B:cj t<=40)(hu:A.units+42<cLine){e:D}{z:NF}(h1:aw (.seq t) d=NA)(q:aw (.seq t) e=NA)
  (V:Rep X.K ⟨X.mg,F⟩ μ H d v) (T:RelV v u) (W:Rep X.K ⟨X.mg,F⟩ μ H e v') (U:RelV v' z) {C:Bool->NC->Prop}  (w:C (bJ (.seq t) d e) s):wpAny (model X.prog X.w) A (keyLt' oneType' u z) C E s:=by
 obtain⟨xs,rfl,h⟩:=cY h1;obtain⟨ys,rfl,i⟩:=cY q;obtain⟨a,as,rfl,x,r⟩:=b3 V;obtain⟨b,bs,rfl,y,R⟩:=b3 W;cases T;cases U;obtain⟨Z,k,P,_⟩:=I.tuple x;obtain⟨zs,l,Q,_⟩:=I.tuple y;have N:xs.length=Z.length:=by rw[r.length,k.length]
 have O:ys.length=zs.length:=by rw[R.length,l.length]
 refine nP P Q (by omega) (Ak hs _ _ _ _ h i N O λj d e u z g G o p=>?_) w;obtain⟨w1,m,K⟩:=r.get g;obtain⟨w2,n,J⟩:=R.get G;obtain⟨u',c,L⟩:=k.get m;obtain⟨z',f,M⟩:=l.get n;rw[o]at c;cases c;rw[p]at f;cases f;exact Ag I Y hs B (by lia) (h d (ZA g)) (i e (ZA G)) K L J M
theorem Am(I:Inv X pq σ H s){t:ej}{vs:List V}(h2:2<=its.length)(N:∀y∈ys,aw (.seq t) y=NA)(D:dP (ys.headD .non)=NA)(W:aj X.K ⟨X.mg,F⟩ μ H ys vs)(G:Vals vs its){Q:OT->NC->Prop}(q:Q oneType' s):wpAny (model X.prog X.w) A (keyKind' its.toArray) Q E s:=by
 have T:∀(i:Nat) (u:NF),its[i]?=Nz u->∃a U,u=.ref a/\Ss s.heap a (Ox U)/\(i=0->U=[]):=λi u d=>by
  have M:i<its.length:=(Zm.mp d).1;have m:i<ys.length:=by rw[W.length,G.length];exact M
  have O:ys[i]?=Nz ys[i]:=Zf m;obtain⟨v,Z,k⟩:=W.get O;obtain⟨u',P,k2⟩:=G.get Z;rw[d]at P;cases P;obtain⟨Y,R,_⟩:=cY (N _ (Z6 m));rw[R]at k;obtain⟨a,as,rfl,ha,ra⟩:=b3 k;cases k2;obtain⟨U,ru,pa,_⟩:=I.tuple ha;refine⟨a,U,rfl,pa,λz=>?_⟩;subst z
  have:ys.headD .non=.tup Y:=by
   cases ys with
   |nil=>cases O
   |cons y ys=>exact R
  rw[this]at D;cases Y with
  |nil=>have:=ra.length;rw[ru.length]at this;exact ZK this.symm
  |cons _ _=>cases D
 have L:∀u∈its,Looks (model X.prog X.w) s.heap (typeOf u) (.type "tuple"):=λu g=>by
  obtain⟨i,d,rfl⟩:=ZD.mp g;obtain⟨a,U,e,p,_⟩:=T i _ (Zf d);rw[e];obtain⟨o,w,K,_⟩:=p;have:=(show Looks (model X.prog X.w) s.heap (typeOf (.ref a)) o.cls from(Looks.ld w).andThen .now)
  rwa [K]at this
 cases its with
 |nil=>simp at h2
 |cons u0 its=>
 obtain⟨c,us0,rfl,p0,z0⟩:=T 0 u0 rfl;cases z0 rfl
 have C:∀u∈Oy c::its,∃o,(∀(b:Ov->NC->Prop),b o s->wpAny (model X.prog X.w) A (firstOfTuple' u) b E s)/\(u=.ref c->o=none):=λu g=>by
  obtain⟨i,d,rfl⟩:=ZD.mp g;obtain⟨a,U,e,p,_⟩:=T i _ (Zf d);have pp:=id p;obtain⟨o,w,K,n,S⟩:=p;refine⟨U[0]?,λb f=>?_,λz=>?_⟩
  ·rw[e,kas_first_eq];refine Za (Looks.here (show Looks (model X.prog X.w) s.heap (typeOf (.ref a)) o.cls from(Looks.ld w).andThen .now) ?_);rw[K,if_neg (by first|decide|simp)];refine Za (listItems_at w S (Ze ?_));simpa using f
  ·rw[e]at z;cases z;obtain⟨o',B,hc',n',l⟩:=p0;rw[w]at B;cases B;rw[S]at l;cases l;rfl
 have J:∀u∈Oy c::its,∀(b:Ov->NC->Prop),b (open Classical in if h:u∈Oy c::its then(C u h).choose else none) s->wpAny (model X.prog X.w) A (firstOfTuple' u) b E s:=λu g b f=>by rw[dif_pos g]at f;exact(C u g).choose_spec.1 b f
 have g0:(open Classical in if h:Oy c∈Oy c::its then(C _ h).choose else none)=none:=by rw[dif_pos Zd];exact(C _ Zd).choose_spec.2 rfl
 rw[keyKind'_eq,TN,map_eq_pure_bind];refine Za (Za (Ai _ J (Ze ?_)));rw[ZV,g0,if_neg (by simp),if_neg (by simp),oneTypeOnly'_eq,TN,map_eq_pure_bind];refine Za (Za (Za (kas_mapM (r:=.type "tuple") _ (λv G b f=>(L v G).here f) (Ze ?_))));have j:((Q1 (λ_=>NN "tuple") (Oy c::its)).toArray.all λx=>x==NN "tuple")=NA:=by simp only[List.all_toArray,List.all_map,ZF];intro _ _;exact beq_self_eq_true _
 have D:(Q1 (λ_=>NN "tuple") (Oy c::its)).toArray[0]?=Nz (NN "tuple"):=by simp
 rw[D];simp only[j,if_true];exact Ze (Ze q)
section
variable {t:ej}{vs:List V}
theorem kf(h:gR t ys=NA):bR t=NA:=by
 cases t with
 |int=>rfl
 |seq t=>unfold gR at h;simp only[ZL]at h;exact h.1
theorem MZ(h:∀y∈ys,aw t y=NA)(r:aj X.K ⟨X.mg,F⟩ μ H ys vs)(b:Vals vs its):∀i,i<its.length->∃d v u,ys[i]?=Nz d/\vs[i]?=Nz v/\its[i]?=Nz u/\aw t d=NA/\Rep X.K ⟨X.mg,F⟩ μ H d v/\RelV v u/\ys.getD i .non=d/\its.getD i NE=u:=λi c=>by have l:ys.length=vs.length:=r.length;have L:vs.length=its.length:=b.length;have e:ys[i]?=Nz ys[i]:=Zf (by omega);obtain⟨v,E,k⟩:=r.get e;obtain⟨u,a,K⟩:=b.get E;exact⟨_,v,u,e,E,a,h _ (Z6 _),k,K,by simp[Qe,e],by simp[Qe,a]⟩
theorem Iy(I:Inv X pq σ H s)(sk:aO X.K ⟨X.mg,F⟩ μ S H)(hu:X.A.units+64<cLine)(O:cj t<=40)(p:∀y∈ys,aw t y=NA)(P:gR t ys=NA)(rr:aj X.K ⟨X.mg,F⟩ μ H ys vs)(hv:Vals vs its)(h2:2<=its.length):
  ∃κ:OT,gp its.length (λi j=>bJ t (ys.getD i .non) (ys.getD j .non))/\(∀i j,i<its.length->j<its.length->its.getD i NE=its.getD j NE->bq its.length (λi j=>bJ t (ys.getD i .non) (ys.getD j .non)) i=bq its.length (λi j=>bJ t (ys.getD i .non) (ys.getD j .non)) j)/\∀h':NO,(∀b o,s.heap.get? b=Nz o->h'.get? b=Nz o)->
   (∀(E':Vs) (V:OT->NC->Prop),V κ {s with heap:=h'}->wpAny (model X.prog X.w) X.A.in1.in1 (keyKind' its.toArray) V E' {s with heap:=h'})/\
   ∀i j C,i<its.length->j<its.length->C (bJ t (ys.getD i .non) (ys.getD j .non)) {s with heap:=h'}->kas_ask X.prog X.w X.A.in1.in1 κ its i j C {s with heap:=h'}:=by
 have U:bR t=NA:=kf P;have lo:=fE t U;have a:=MZ p rr hv
 have R:gp its.length (λi j=>bJ t (ys.getD i .non) (ys.getD j .non)):=by
  have ty:∀i,i<its.length->aw t (ys.getD i .non)=NA:=λi c=>by obtain⟨d,v,u,Y,Z,M,k1,k2,k3,k4,k5⟩:=a i c;rw[k4];exact k1
  exact⟨λi c=>lo.irr _ (ty i c),λi j c m=>lo.asym _ _ (ty i c) (ty j m),λi j k c m hk=>lo.ntr _ _ _ (ty i c) (ty j m) (ty k hk)⟩
 have same:∀i j,i<its.length->j<its.length->its.getD i NE=its.getD j NE->bq its.length (λi j=>bJ t (ys.getD i .non) (ys.getD j .non)) i=bq its.length (λi j=>bJ t (ys.getD i .non) (ys.getD j .non)) j:=λi j c m hij=>by obtain⟨d,v,u,Y,Z,M,r,A,B,D,E⟩:=a i c;obtain⟨W,v',u',K,L,N,g,G,e,f,l⟩:=a j m;rw[E,l]at hij;subst hij;have ev:v=v':=B.inj e;subst ev;have:=xi I sk 40 d W v _ A G (Iu S t U 40 O d W r g).1;have hde:=z_ U r g this;subst hde;unfold bq;simp only[D,f]
 have hu2:(X.A.in1.in1).units+42<cLine:=by show X.A.units+1+1+42<cLine;omega
 cases t with
 |int=>
  refine⟨oneType',R,same,λh' Q=>⟨λE' V q=>?_,λi j C c m J=>?_⟩⟩
  ·have w:Inv X pq σ H {s with heap:=h'}:=I.kept (t':=s.toks) Q;refine kas_kind (T:=.type "int") h2 (λu hu=>?_) (by decide) (by decide) q;obtain⟨i,c,rfl⟩:=ZD.mp hu;obtain⟨d,v,u,Y,Z,M,r,A,B,D,E⟩:=a i c;rw[Zf c]at M;cases M;exact ke (t:=.int) w rfl r A B
  ·obtain⟨d,v,u,Y,Z,M,r,A,B,D,E⟩:=a i c;obtain⟨W,v',u',K,L,N,g,G,e,f,l⟩:=a j m;unfold kas_ask;rw[E,l];rw[D,f]at J;obtain⟨x,rfl⟩:=dw r;obtain⟨y,rfl⟩:=dw g;cases aJ A;cases aJ G;obtain⟨ta,rfl⟩:=B;obtain⟨tb,rfl⟩:=e;exact kat_lt_int J
 |seq t=>
  unfold gR at P;have hso2:=(PZ.mp P).2;rcases P'.mp hso2 with n|n
  rotate_left
  ·refine⟨oneType',R,same,λh' Q=>⟨λE' V q=>?_,λi j C c m J=>?_⟩⟩
   ·have w:Inv X pq σ H {s with heap:=h'}:=I.kept (t':=s.toks) Q;exact Am w h2 p n rr hv q
   ·have w:Inv X pq σ H {s with heap:=h'}:=I.kept (t':=s.toks) Q;obtain⟨d,v,u,Y,Z,M,r,A,B,D,E⟩:=a i c;obtain⟨W,v',u',K,L,N,g,G,e,f,l⟩:=a j m;unfold kas_ask;rw[E,l];rw[D,f]at J;exact Al (t:=t) w sk U (by simp[cj]at O;omega) hu2 r g A B G e J
  have hne:∀y∈ys,aw (.seq t) y=NA/\y≠.tup []:=λy hy=>⟨p y hy,λz=>by have:=ZF.mp n y hy;rw[z]at this;cases this⟩;refine⟨tuples' (NN (iX t) !=NN "tuple"),R,same,λh' Q=>⟨λE' V q=>?_,λi j C c m J=>?_⟩⟩
  ·have w:Inv X pq σ H {s with heap:=h'}:=I.kept (t':=s.toks) Q;obtain⟨fs,f1,f2,f3⟩:=Aj (t:=t) w U ys vs its hne rr hv;exact kat_kind (T:=.type (iX t)) f1 (by omega) f3 (by simp) q
  ·have w:Inv X pq σ H {s with heap:=h'}:=I.kept (t':=s.toks) Q;obtain⟨d,v,u,Y,Z,M,r,A,B,D,E⟩:=a i c;obtain⟨W,v',u',K,L,N,g,G,e,f,l⟩:=a j m;unfold kas_ask;rw[E,l];rw[D,f]at J;exact Iw (t:=t) w sk U (by simp[cj]at O;omega) hu2 r g A B G e J
theorem Iz(r:gR t ys=NA)(a:∀y∈ys,aw t y=NA)(R:aj X.K ⟨X.mg,F⟩ μ H ys vs)(x:Vals vs its){out:Lv}(O:g4 its (λi j=>bJ t (ys.getD i .non) (ys.getD j .non)) out):∃w,w.length=its.length/\aj X.K ⟨X.mg,F⟩ μ H (eT (bJ t) ys) w/\Vals w out:=by
 have C:bR t=NA:=kf r;have A:=MZ a R x;have L:ys.length=vs.length:=R.length;have K:vs.length=its.length:=x.length;obtain⟨p,rfl,P,J⟩:=O;have u:∀i∈p,i<its.length:=λi z=>by simpa using P.mem_iff.mp z
 have m:p.length=its.length:=by rw[P.length_eq];simp
 have fin:aj X.K ⟨X.mg,F⟩ μ H (p.map λi=>ys.getD i .non) (p.map λi=>vs.getD i .non):=aj.of (by simp) λj d v b k=>by
  rw[Z0]at b k;cases o:p[j]? with
  |none=>rw[o]at b;cases b
  |some i=>
   rw[o]at b k;obtain⟨D,V,U,E,e,n,q,g,G,c,f⟩:=A i (u i (ZA o));cases b;cases k;show Rep X.K ⟨X.mg,F⟩ μ H (ys.getD i .non) (vs.getD i .non);rw[c];have:vs.getD i .non=V:=by simp[Qe,e]
   rw[this];exact g
 have fin2:Vals (p.map λi=>vs.getD i .non) (p.map λi=>its.getD i NE):=by
  have:∀(l:List Nat),(∀i∈l,i<its.length)->Vals (l.map λi=>vs.getD i .non) (l.map λi=>its.getD i NE):=by
   intro l
   induction l with
   |nil=>exact λ_=>.nil
   |cons i l I=>
    intro h;obtain⟨D,V,U,E,e,n,q,g,G,c,f⟩:=A i (h i Zd);refine .cons ?_ (I λj B=>h j (Zb _ B));have:vs.getD i .non=V:=by simp[Qe,e]
    show RelV (vs.getD i .non) (its.getD i NE);rw[this,f];exact G
  exact this p u
 have s:(p.map λi=>ys.getD i .non)=eT (bJ t) ys:=by
  refine Ae C a ?_ ?_
  ·have:=P.map λi=>ys.getD i .non;refine this.trans (.of_eq ?_);refine PN (by simp;omega) λi b k=>?_;simp[k]
  ·rw[Z3];exact J
 rw[<-s];exact⟨_,by rw[Zh];exact m,fin,fin2⟩
end
theorem IA(D:X.A.units+64<cLine)(box:Bool)(t:ej)(l:cj t<=40):aX X (.builtin "sorted") (rC X.K X.mg (fN box t)):=by
 intro Y s σ H xs Z Q I r h;obtain⟨F,μ,S,U,k,M,w⟩:=h;unfold fN at w;split at w
 ·obtain⟨v,rfl,L⟩:=M.one;obtain⟨u,rfl,N⟩:=vals1 r;split at w
  ·rename_i ys e;split at w
   ·rename_i B;obtain⟨m,A,g⟩:=B;have c:=λy G=>ZF.mp m y G;obtain⟨a,vs,rfl,f,R⟩:=ff k L e;cases N
    obtain⟨b,i,C,j⟩:∃b i,bK b _ a (Ox i)/\Vals _ i:=by
     rcases f with f|f
     ·obtain⟨i,n,p,_⟩:=I.list f;exact⟨NA,_,p.isList,n⟩
     ·obtain⟨i,n,p,_⟩:=I.tuple f;exact⟨NB,_,p,n⟩
    refine Iv C (by have:=(R.length.trans j.length).symm;rw[PC];omega) (λz=>Iy I k D l c g R j z) λW V P out K J E O=>?_;obtain⟨ws,q,fin,fin2⟩:=Iz g c R j O;have o:=I.kept (t':=s.toks) K;have x:Inv X _ _ (bg H _ (.lst _)) _:=o.laid (t':=s.toks) J (Zg _) ⟨by have:=(R.length.trans j.length).symm;rw[PC];omega,_,_,fin2,E⟩;have d:=o.hok.fresh (Zg _);refine⟨.ref _,_,x,rfl,?_⟩;cases box with
    |true=>exact aU.box w k fin _ d
    |false=>exact aU.lst w k fin _ d
   ·exact w.elim
  ·exact w.elim
 ·exact w.elim
end Py
namespace Py
open PySem PySem.W PySem.Spec PyProof.Rows L2
noncomputable def kV(v:NF):Int:=match v with
 | .int k _=>k
 |_=>0
theorem IB{a:ND}{L:Lv}(H:∀{Q:Lv->NC->Prop} {E':Vs},(∀(h':NO) (tk:Nat) (vs:Lv),(∀b o,s.heap.get? b=Nz o->h'.get? b=Nz o)->vs.Perm L->Q vs {s with heap:=h',toks:=tk})->wpAny (model prog w) A.in1 (collect (.ref a)) Q E' s)(F:L.length<64)
  (d:∀(h1:NO) (tk:Nat) (vs:Lv),(∀b o,s.heap.get? b=Nz o->h1.get? b=Nz o)->vs.Perm L->∃c,(2<=vs.length->∃κ:OT,gp vs.length c/\(∀i j,i<vs.length->j<vs.length->vs.getD i NE=vs.getD j NE->bq vs.length c i=bq vs.length c j)/\∀h':NO,(∀b o,h1.get? b=Nz o->h'.get? b=Nz o)->
   (∀(E':Vs) (l:OT->NC->Prop),l κ {s with heap:=h',toks:=tk}->wpAny (model prog w) A.in1.in1 (keyKind' vs.toArray) l E' {s with heap:=h',toks:=tk})/\
   ∀i j C,i<vs.length->j<vs.length->C (c i j) {s with heap:=h',toks:=tk}->kas_ask prog w A.in1.in1 κ vs i j C {s with heap:=h',toks:=tk})/\
   ∀(h':NO) (g:Nat) (out:Lv),(∀b o,h1.get? b=Nz o->h'.get? b=Nz o)->h'.get? h1.objs.size=Nz (seqObj "list" out.toArray g)->g4 vs c out->Q (.ref h1.objs.size) {s with heap:=h',toks:=tk}):
  wpAny (model prog w) A (call (.builtin "sorted") [.ref a]) Q E s:=by
 refine R0 kind_sorted plain_sorted entry_sorted (args_sorted1 _) ?_;refine Za (Ze (Za (H λh1 tk vs K p=>?_)));obtain⟨c,d,fin⟩:=d h1 tk vs K p;have q:vs.length<64:=by rw[p.length_eq];exact F
 have m:vs.length<=sizeLine:=by rw[PC];omega
 refine Za (S_ ?_ m);have f:(h1.push _).get? h1.objs.size=Nz (seqObj "list" vs.toArray 0):=Zk _ rfl;refine Za (Z8 (Z1 slot_list_sort ⟨_,f,rfl⟩ entry_list_sort ?body (args_list_sort _)))
 case body=>
  refine Af (c:=c) f m (λn=>?_) λh' g out k e O=>?_
  ·obtain⟨κ,o,same,d⟩:=d n;refine⟨κ,o,same,λh' k=>?_⟩;obtain⟨r,u⟩:=d h' λb o e=>k b o (ZC (Zo e)) (Zc _ e);exact⟨r _,u⟩
  ·exact⟨_,rfl,Ze ⟨_,rfl,fin h' g out (λb o e=>k b o (ZC (Zo e)) (Zc _ e)) e O⟩⟩
theorem IC{t:NV}{Q:Vs}(l:A.handled=none)(T:TB w t es.size)(g:s.heap.get? a=Nz o)(n:o.ExactSet)(d:o.data=.set es ep t)(f:es.size<64)
  (H:∀(h1:NO) (tk:Nat) (vs:Lv),(∀b o,s.heap.get? b=Nz o->h1.get? b=Nz o)->vs.Perm (es.toList.map (·.2))->∃c,(2<=vs.length->∃κ:OT,gp vs.length c/\(∀i j,i<vs.length->j<vs.length->vs.getD i NE=vs.getD j NE->bq vs.length c i=bq vs.length c j)/\∀h':NO,(∀b o,h1.get? b=Nz o->h'.get? b=Nz o)->
   (∀(E':Vs) (k:OT->NC->Prop),k κ {s with heap:=h',toks:=tk}->wpAny (model prog w) A.in1.in1 (keyKind' vs.toArray) k E' {s with heap:=h',toks:=tk})/\
   ∀i j C,i<vs.length->j<vs.length->C (c i j) {s with heap:=h',toks:=tk}->kas_ask prog w A.in1.in1 κ vs i j C {s with heap:=h',toks:=tk})/\
   ∀(h':NO) (m:Nat) (out:Lv),(∀b o,h1.get? b=Nz o->h'.get? b=Nz o)->h'.get? h1.objs.size=Nz (seqObj "list" out.toArray m)->g4 vs c out->Q (.ref h1.objs.size) {s with heap:=h',toks:=tk}):
  wpAny (model prog w) A (call (.builtin "sorted") [.ref a]) Q E s:=
 IB (λfin=>H_ (by omega) T g n d (by lia) fin) (by rw[Zh];exact f) H
theorem ID{t:NV}(f:A.handled=none)(T:TB w t es.size)(g:s.heap.get? a=Nz o)(L:o.ExactSet)(d:o.data=.set es ep t)(l:es.toList.map gm=ks.map j8)(r:TJ (intKind prog w) es.toList)(B:ks∈p8)
  (fin:∀(h1 h':NO) (tk n:Nat) (out:Lv),(∀b o,s.heap.get? b=Nz o->h1.get? b=Nz o)->(∀b o,h1.get? b=Nz o->h'.get? b=Nz o)->h'.get? h1.objs.size=Nz (seqObj "list" out.toArray n)->(∀v∈out,∃t,v=.int (kV v) t)->out.map kV=ks.map (λk:Nat=>(k:Int))->Q (.ref h1.objs.size) {s with heap:=h',toks:=tk}):
  wpAny (model prog w) A (call (.builtin "sorted") [.ref a]) Q E s:=by
 obtain⟨R,low,len,_,_⟩:=iQ ks B;have hs:es.size=ks.length:=by have:=Yj Po l;rw[Zh,Zh,Zv]at this;exact this
 refine IC f T g L d (by omega) λh1 tk vs W G=>?_;have K:es.toList.map gX=ks.map λk:Nat=>(k:Int):=by have:=Yj (Q1 (·.2)) l;rw[ZY,ZY]at this;exact this
 have I:∀v∈vs,∃t,v=.int (kV v) t:=λv z=>by obtain⟨e,S,rfl⟩:=Zq.mp (G.mem_iff.mp z);obtain⟨t,y⟩:=j5 r e S;exact⟨t,by rw[y];rfl⟩
 have F:(vs.map kV).Perm (ks.map λk:Nat=>(k:Int)):=by refine(G.map kV).trans (.of_eq ?_);rw[<-K,ZY];exact Q_ λe _=>rfl
 have hl:vs.length<=8:=by have:=F.length_eq;rw[Zh,Zh]at this;omega
 have c:∀i,i<vs.length->∃t,vs.getD i NE=.int (kV (vs.getD i NE)) t:=λi H=>I _ (by rw[Qk,Zf H];exact Z6 H);refine⟨λi j=>decide (kV (vs.getD i NE)<kV (vs.getD j NE)),λm=>?_,λh' n out X e O=>fin h1 h' tk n out W X e ?_ ?_⟩
 ·refine⟨oneType',⟨λi _=>by simp,λi j _ _ h=>?_,λi j k _ _ _ h g=>?_⟩,λi j _ _ h=>?_,λh' kp=>⟨λZ Q' q=>?_,λi j C H U x=>?_⟩⟩
  ·simp only[Yh,decide_eq_false_iff_not]at h⊢;omega
  ·simp only[decide_eq_false_iff_not]at h g⊢;omega
  ·unfold bq;dsimp only;rw[h]
  ·refine kas_kind (T:=.type "int") m (λu V=>?_) (by decide) (by decide) q;obtain⟨t,y⟩:=I u V;rw[y];exact(show Looks (model prog w) h' (typeOf (.int (kV u) t)) (.type "int")from .now)
  ·unfold kas_ask;dsimp only at x;obtain⟨ta,M⟩:=c i H;obtain⟨tb,N⟩:=c j U;rw[M,N]at x⊢;exact kat_lt_int x
 ·obtain⟨p,rfl,P,_⟩:=O;intro v z;obtain⟨i,H,rfl⟩:=Zq.mp z;exact I _ (by have:=ZW.mp (P.mem_iff.mp H);rw[Qk,Zf this];exact Z6 this)
 ·obtain⟨p,rfl,P,B⟩:=O;have Y:((p.map λi=>vs.getD i NE).map kV).Perm (ks.map λk:Nat=>(k:Int)):=by refine QD.trans ?_ F;refine((P.map λi=>vs.getD i NE).map kV).trans (.of_eq (Yj (Q1 kV) ?_));refine PN (by simp) λi h1 m=>?_;simp[m]
  refine Y.eq_of_pairwise (le:=(· <= ·)) (λa b _ _ h1 m=>Int.le_antisymm h1 m) ?_ ?_
  ·rw[Z3,Z3];refine B.imp λ{i j} h=>?_;simp only[decide_eq_false_iff_not]at h;omega
  ·rw[Z3];exact R.imp λh=>by omega
theorem IE(c:A.handled=none)(x:du prog w s.heap a ks es)
  (fin:∀(h1 h':NO) (tk C:Nat) (out:Lv),(∀b o,s.heap.get? b=Nz o->h1.get? b=Nz o)->(∀b o,h1.get? b=Nz o->h'.get? b=Nz o)->h'.get? h1.objs.size=Nz (seqObj "list" out.toArray C)->(∀v∈out,∃t,v=.int (kV v) t)->out.map kV=ks.map (λk:Nat=>(k:Int))->Q (.ref h1.objs.size) {s with heap:=h',toks:=tk}):
  wpAny (model prog w) A (call (.builtin "sorted") [.ref a]) Q E s:=by
 obtain⟨o,f,g,e,d⟩:=x.obj;exact ID c ⟨by rw[x.size];exact(iQ ks x.pow).2.2.2.1 _,rfl,rfl,yN (iQ ks x.pow).1⟩ g e d x.ent x.els x.pow fin
noncomputable def IF(K:Fg)(m:Mg)(v:V)(H:Hp)(Q:VK):Prop:=(∃(p:ND) (ns:Li) (ks:List Nat),v=.ref p/\(c8 K H p (ns.map V.int)\/ca K H p (ns.map V.int))/\(∀n∈ns,0<=n/\n<8)/\(∀k:Nat,k∈ks↔(k:Int)∈ns)/\ks.Pairwise (· < ·)/\∀l,H l=none->Q (.ref l) (bg H l (.lst (ks.map λk:Nat=>V.int k))))
theorem An:∀{out:Lv} {ks:List Nat},(∀v∈out,∃t,v=.int (kV v) t)->out.map kV=ks.map (λk:Nat=>(k:Int))->Vals (ks.map λk:Nat=>V.int k) out
 | [],[],_,_=>.nil
 | [],_::_,_,h=>by cases h
 |_::_,[],_,h=>by cases h
 |v::out,k::ks,H,h=>by
  injection h with a b
  obtain⟨t,c⟩:=H v Zd;refine .cons ⟨t,?_⟩ (An (λv d=>H v (Zb _ d)) b);rw[c,a]
theorem IG:∀{a b:List Nat},a.Pairwise (· < ·)->b.Pairwise (· < ·)->(∀k,k∈a↔k∈b)->a=b:=λ{a b} H c h=>by
 refine RL λx y _ _ H c=>by omega H c ?_
 exact(Qj (H.imp λh=>ZC h) (c.imp λh=>ZC h)).mpr h
theorem IH(hc:X.calm=NA)(hu:X.A.units+64<cLine)(m:Gl X "sorted")(n:Gl X "set")(y:X.mg "sorted"=none)(A:X.mg "set"=none)(hb:bootBuiltins "sorted"=Nz (.builtin "sorted"))(hn:b7 z=NA)(ha:PE X z ta):
  PE X (.Call (.Name "sorted" p1) [.Call (.Name "set" p2) [z] [] p3] [] p4) (λσ H Q=>ta σ H λx H1=>IF X.K X.mg x H1 Q):=by
 intro C s σ H Q I h;have J:=da (env:=X.env) (es:=[]) hn;refine OI (eh I m y hb ?_ (by decide) (by decide));refine Pn ?_ rfl rfl;refine Qd ?_;refine OI (eh I n A zo ?_ (by decide) (by decide));have hA:PA X [z] (qk ta wG):=rN ha rL J
 refine Z2 (a' (hA p3 C s σ H (λvs H1=>match vs with
  | [x]=>IF X.K X.mg x H1 Q
  |_=>False) I h) λus S ⟨vs,H1,j,r,q⟩=>?_) J rfl
 match vs,q with
 | [v],⟨p,N,ks,e,f,low,hk,D,q⟩=>
  subst e;obtain⟨u,rfl,ru⟩:=r.one;cases ru
  obtain⟨i,R,P⟩:∃i,Vals (N.map V.int) i/\(S.heap.IsList p i.toArray\/S.heap.IsTuple p i.toArray):=by
   rcases f with f|f
   ·obtain⟨i,R,P,_⟩:=j.list f;exact⟨i,R,.inl P.isList⟩
   ·obtain⟨i,R,P,_⟩:=j.tuple f;exact⟨i,R,.inr P⟩
  have c:=j.ok.hd hc;refine HP (vs:=i.toArray) (ns:=N) c P (by simpa using rT R) low λZ T ⟨K,Y,x,w⟩ kp=>?_;have M:Inv X C σ H1 {S with heap:=Z,toks:=T}:=j.kept (t':=T) λb o e=>kp b o (Zo e) e;have E:K=ks:=IG (iQ K x.pow).1 D λk=>(w k).trans (hk k).symm;subst E;refine Pr ?_;refine IE c x λl h2 F O out k1 k2 g B U=>?_;have G:Inv X C σ H1 {S with heap:=l,toks:=T}:=M.kept (t':=T) k1
  have d:(K.map λk:Nat=>V.int k).length<=sizeLine:=by have:=(iQ K x.pow).2.2.1;rw[Zh,PC];omega
  exact⟨.ref l.objs.size,bg H1 l.objs.size (.lst (K.map λk:Nat=>V.int k)),G.laid (t':=F) k2 (Zg _) ⟨d,out,O,An B U,g⟩,rfl,q _ (G.hok.fresh (Zg _))⟩
end Py
namespace Py
noncomputable def vY(kd:Bool)(e:Expr)(g:List N1)(s:Scope)(p:Pos):Expr:=.ListComp e g s p
noncomputable def EF(kd:Bool)(e:Expr)(a:NF)(env:Env):Sem Unit:=sZ e a env
def oK(X:Cx)(kd:Bool):ND->List D->List V->HO->Prop:=oL
theorem t6{kd:Bool}{pos:Pos}{d:Nat}{it a:NF}{t i:Expr}{fs:Lx}(h:gens[d]?=Nz ⟨t,i,fs,0⟩):
  compTurn (vY kd elt gens scope pos) d it a env=(standAt i.pos>>=λ_=>pyNext it>>=λr=>match r with
   |none=>pure (.done .next)
   |some v=>letOwnedTupleGo t it v>>=λ_=>assign t env v>>=λ_=>(eW fs env>>=λok=>if ok=NA then bu (vY kd elt gens scope pos) (EF kd elt a env) gens d a env else pure ())>>=λ_=>
    again (.compLoop (vY kd elt gens scope pos) d it a env)):=by cases kd<;>exact Hm h
section
variable {E:XK}
end
section
variable {E:XK}
end
section
variable {E:XK}
theorem kh(O:cI X cell N sc CX E Φ Γ k)(b:jJ)(h:sC b=NA):aX X (jN b) (rC X.K X.mg (bh b)):=by
 cases b with
 |len=>exact xr
 |tuple=>exact mn
 |list box=>exact sr box
 |int=>exact xu
 |min=>exact GC O.calm rfl
 |max=>exact mC O.calm
 |isinst=>exact Gp
 |all=>exact xz O.calm
 |any=>exact xA O.calm
 |sum=>cases h
 |repr=>cases h
 |abs=>cases h
 |str=>cases h
 |sorted box t=>exact IA O.room.units box t (by unfold sC at h;simpa using h)
theorem t7:∀{l:Ls},iJ l=NA->l.Nodup
 | [],_=>OC
 |x::r,h=>by unfold iJ at h;simp at h;exact Ya.mpr ⟨h.1,t7 h.2⟩
theorem Ao(O:cI X cell N sc CX E Φ Γ k)(h:GG scope sc=NA):ei X scope:=by
 unfold GG at h;simp only[ZL,beq_iff_eq]at h;obtain⟨a,b⟩:=h;have K:∀y∈scope.names,((y.2 !=NT||scope.names.lookup y.1==Nz .cell)&&(y.2 !=.local||scope.names.lookup y.1==Nz .local)&&(y.2 !=.free||(sc.lookup y.1==Nz .cell||sc.lookup y.1==Nz .free)))=NA:=λy H=>ZF.mp b y H;refine⟨a,λy H z=>?_,λy H z=>?_,λy H z=>?_⟩
 ·have:=K y H;rw[z]at this;simp at this;exact this
 ·have:=K y H;rw[z]at this;simp at this;exact this
 ·have:=K y H;rw[z]at this;simp at this;show X.env.scope.names.lookup y.1=_\/X.env.scope.names.lookup y.1=_;rw[O.sc];exact this
theorem Ap(O:cI X cell N sc CX E Φ Γ k)(h:GH scope.names N' N fr=NA):mx X scope N' (gk fr):=by
 unfold GH at h;simp only[ZL,beq_iff_eq]at h;obtain⟨g,l⟩:=h;intro d n;refine⟨by simp[gk,g],λi v x c a=>?_⟩;have m:i<N'.length:=(Zm.mp c).1;have:=ZF.mp l i (ZW.mpr m);unfold gk at a;rw[Z0]at a;cases e:fr[i]? with
 |none=>rw[e]at a;cases a
 |some o=>
  rw[e]at a;cases o with
  |none=>cases a
  |some j=>
   rw[e]at this;simp only[c,ZL,beq_iff_eq]at this;have H:(d[j]?).join=Nz v:=Yk a;refine⟨this.1,j,by rw[O.n];exact this.2,?_⟩;cases b:d[j]? with
   |none=>rw[b]at H;cases H
   |some o=>rw[b]at H;have f:o=Nz v:=H;rw[f]
theorem nQ(O:cI X cell N sc CX E Φ Γ k):(relabel scope X.env).names=jO scope.names sc:=by
 show scope.names.map _=scope.names.map _;congr 1;funext p;obtain⟨n,K⟩:=p;have e:X.env.kindOf n=sc.lookup n:=by show X.env.scope.names.lookup n=_;rw[O.sc]
 simp[e,O.kd,Rg]
theorem Aq(O:cI X cell N sc CX E Φ Γ k)(hs:scope.kind=.function)(hn:iJ N'=NA)(C:ND)(s0:NC)(H0:Hp)(fp:La):cI (fM X scope N' C s0 H0 fp) (sD scope.names) N' (jO scope.names sc) CX E0 Φ Γ k where
 n:=rfl
 nd:=t7 hn
 sc:=nQ O
 kd:=hs
 calm:=O.calm
 room:=O.room
 fn:=λx z=>z
 mod:=O.mod
 pass:=λ_ _ _ _ _ _ _ z=>O.cx0 _ _ _ _ _ z
 cx0:=O.cx0
theorem nR{i:Expr}(h:mK i=NA):∀x,foldedSetIterable i env x=pure x:=by intro x;cases i<;>first|rfl|cases h
theorem iu{e:Expr}{c:CE}(h:PE X e (tE X.K X.mg E Φ Γ c))(g:∀W,isTrue e X.env W=(do let v <-W;standAt e.pos;holding [v] (truthy v))){σ:L2.St}:
  PT X e (λσ H Q=>∃F μ ρ S,aO X.K ⟨X.mg,F⟩ μ S H/\bb X.K ⟨X.mg,F⟩ μ H ρ σ/\am X.K ⟨X.mg,F⟩ E (λ_ _ a b=>a=b) μ H Q ((ak Φ Γ c ρ S).bind λd S1=>match bN S1 d with|some k=>.ok k S1|none=>.fail)):=
 eD (Fv h g) λσ H Q z=>aG z λF μ ρ S i f w=>⟨F,_,_,S,i,f,(am.bind w).mono λv H1 z=>aM z λm S1 d x s r j=>by obtain⟨k,e,l⟩:=yd j;exact⟨k,qo s r e,l _ _ k .refl s rfl⟩⟩
theorem II(O:cI X cell N sc CX E Φ Γ k){a:CE}(h1:bB sc "len"=NA)(h:bB sc "set"=NA)(c:b7 z=NA)(b:PE X z (tE X.K X.mg E Φ Γ a)):PE X (.Call (.Name "len" p1) [.Call (.Name "set" p2) [z] [] p3] [] p4) (tE X.K X.mg E Φ Γ (.lenset a)):=
 aY (H3 O.calm O.room.units (O.gl (dR h1).1) (O.gl (dR h).1) (O.mod.bl _ (by decide+kernel)) (O.mod.bl _ (by decide+kernel)) c b) λm H Q Z=>aG Z λF g j S f e w=>
  ⟨F,g,j,S,f,e,(am.bind w).mono λv H1 Z=>aM Z λi l d x s r W=>H4 s r (dQ W)⟩
theorem Ar:∀{xs:List D},xs.all jL=NA->xs.all (aw .int)=NA/\∀n∈xs.filterMap cg,0<=n/\n<8
 | [],_=>⟨rfl,λn h=>by simp_all⟩
 |x::xs,h=>by
  simp only[PR,ZL]at h;obtain⟨c,b⟩:=Ar h.2;cases x with
  |int i=>
   have a:=h.1;simp[jL]at a;refine⟨by trivial,λn H=>?_⟩;rcases Zi.mp H with rfl|H
   ·exact a
   ·exact b n H
  |_=>cases h.1
theorem t8{Q:VK}(s:aO K ⟨mg,F⟩ μ S H)(r:Rep K ⟨mg,F⟩ μ H d v)(w:aU K ⟨mg,F⟩ μ H Q (gc d S)):IF K mg v H Q:=by
 unfold gc at w;split at w
 ·rename_i x e;split at w
  ·rename_i f;obtain⟨a,vs,rfl,j,R⟩:=ff s r e;clear e;obtain⟨g,low⟩:=Ar f;have b:=nr g;generalize x.filterMap cg=n at low b w;subst b;have m:=nt R;subst m;refine⟨a,n,(NJ 8).filter λk:Nat=>n.contains (k:Int),rfl,j,low,λk=>?_,List.pairwise_lt_range.sublist ZE,λl i=>?_⟩
   ·rw[Zn,ZW,PK];exact⟨λh=>h.2,λh=>⟨by have:=low _ h;omega,h⟩⟩
   ·have o:∀c:List Nat,aj K ⟨mg,F⟩ μ H (c.map λk:Nat=>D.int k) (c.map λk:Nat=>V.int k):=λc=>by
     induction c with
     |nil=>exact .nil
     |cons k c I=>exact .cons bI I
    exact aU.lst w s (o _) l i
  ·exact w.elim
 ·exact w.elim
theorem t9(O:cI X cell N sc CX E Φ Γ k){a:CE}(h1:bB sc "sorted"=NA)(h:bB sc "set"=NA)(c:b7 z=NA)(b:PE X z (tE X.K X.mg E Φ Γ a)):PE X (.Call (.Name "sorted" p1) [.Call (.Name "set" p2) [z] [] p3] [] p4) (tE X.K X.mg E Φ Γ (.sset a)):=
 aY (IH O.calm O.room.units (O.gl (dR h1).1) (O.gl (dR h).1) (O.mod.bl _ (by decide+kernel)) (O.mod.bl _ (by decide+kernel)) (by decide+kernel) c b) λm H Q Z=>aG Z λF g j S f e w=>
  ⟨F,g,j,S,f,e,(am.bind w).mono λv H1 Z=>aM Z λi l d x s r W=>t8 s r (dQ W)⟩
end
section
variable {E:XK}
end
section
variable {a b c d:Expr}{tb tc td:TE}{pos:Pos}
end
section
variable {E:XK}{l r r2:Expr}{pos:Pos}{a b c d:CE}
end
theorem nS{E:XK}{c:CE}(h:∀ρ S,au Φ Γ c ρ S=.fail):PW X e (tT X.K X.mg E Φ Γ c):=λW p s f H Q I z=>aG z λF d ρ S b a w=>by rw[h]at w;exact w.elim
theorem As{l:List α}{d:Nat}{x:α}{r:List α}(h:l.drop d=x::r):l[d]?=Nz x:=by have:=Yj (λl=>l[0]?) h;simpa using this
theorem IJ{l:List α}{d:Nat}(h:l.drop d=[]):l[d]?=none:=by simp_all
theorem IK{l:List α}{d:Nat}{x:α}{r:List α}(h:l.drop d=x::r):l.drop (d+1)=r:=by
 have:(l.drop d).drop 1=r:=by simp_all
 rwa [List.drop_drop]at this
section
variable {E:XK}{a b:CE}{l x y:Expr}{pos:Pos}{n:Bool}
theorem t_(h:PE X l (tE X.K X.mg E Φ Γ a))(h1:n=NA->PE X x (tE X.K X.mg E Φ Γ b))(H:n=NB->∃r rest,y=.BoolOp .And (r::rest) pos/\PE X y (tE X.K X.mg E Φ Γ b)):PE X (.BoolOp .And (l::cond n [x] (vw y).es) pos) (tE X.K X.mg E Φ Γ (.band a b)):=by
 cases n with
 |true=>exact qs h (jm (h1 rfl))
 |false=>obtain⟨r,rest,rfl,q⟩:=H rfl;exact qs h q
theorem Au(h:PE X l (tE X.K X.mg E Φ Γ a))(h1:n=NA->PE X x (tE X.K X.mg E Φ Γ b))(H:n=NB->∃r rest,y=.BoolOp .Or (r::rest) pos/\PE X y (tE X.K X.mg E Φ Γ b)):PE X (.BoolOp .Or (l::cond n [x] (vw y).es) pos) (tE X.K X.mg E Φ Γ (.bor a b)):=by
 cases n with
 |true=>exact yc h (jm (h1 rfl))
 |false=>obtain⟨r,rest,rfl,q⟩:=H rfl;exact yc h q
theorem Aw(h:PT X l (tT X.K X.mg E Φ Γ a))(h1:n=NA->PT X x (tT X.K X.mg E Φ Γ b))(H:n=NB->∃r rest,y=.BoolOp .And (r::rest) pos/\PW X y (tT X.K X.mg E Φ Γ b)):PW X (.BoolOp .And (l::cond n [x] (vw y).es) pos) (tT X.K X.mg E Φ Γ (.band a b)):=by
 cases n with
 |true=>exact qt h (ly (h1 rfl))
 |false=>obtain⟨r,rest,rfl,q⟩:=H rfl;exact qt h q
theorem ki(h:PT X l (tT X.K X.mg E Φ Γ a))(h1:n=NA->PT X x (tT X.K X.mg E Φ Γ b))(H:n=NB->∃r rest,y=.BoolOp .Or (r::rest) pos/\PW X y (tT X.K X.mg E Φ Γ b)):PW X (.BoolOp .Or (l::cond n [x] (vw y).es) pos) (tT X.K X.mg E Φ Γ (.bor a b)):=by
 cases n with
 |true=>exact yg h (qZ (h1 rfl))
 |false=>obtain⟨r,rest,rfl,q⟩:=H rfl;exact yg h q
theorem ua{es:Lx}(h:jQ b=NA):∃r rest,bD b N (.BoolOp .And es pos)=.BoolOp .And (r::rest) pos:=by
 unfold jQ at h;split at h
 ·exact⟨_,_,rfl⟩
 ·cases h
theorem ub{es:Lx}(h:gf b=NA):∃r rest,bD b N (.BoolOp .Or es pos)=.BoolOp .Or (r::rest) pos:=by
 unfold gf at h;split at h
 ·exact⟨_,_,rfl⟩
 ·cases h
theorem kj{tg:CT}(h:jP tg=NA):eU (iL tg N e)=NA:=by
 cases tg with
 |var i=>cases h
 |tup t=>rfl
theorem fF{a b:Bool}(h:cond n a b=NA)(z:n=NA):a=NA:=by rw[z]at h;exact h
theorem cK{a b:Bool}(h:cond n a b=NA)(z:n=NB):b=NA:=by lia
end
def Nq(c:CE):Prop:=∀{X:Cx} {cell:Str->Bool} {N:Ls} {sc:Sc} {CX:ef} {E:XK} {Φ:FT} {Γ:Str->Option D} {k:Nat} {e:Expr},cI X cell N sc CX E Φ Γ k->ck c N sc e=NA->PE X (bD c N e) (tE X.K X.mg E Φ Γ c)
def M0(c:CE):Prop:=∀{X:Cx} {cell:Str->Bool} {N:Ls} {sc:Sc} {CX:ef} {E:XK} {Φ:FT} {Γ:Str->Option D} {k:Nat} {e:Expr},cI X cell N sc CX E Φ Γ k->ck c N sc e=NA->PT X (bD c N e) (tT X.K X.mg E Φ Γ c)
def M1(c:CE):Prop:=∀{X:Cx} {cell:Str->Bool} {N:Ls} {sc:Sc} {CX:ef} {E:XK} {Φ:FT} {Γ:Str->Option D} {k:Nat} {e:Expr},cI X cell N sc CX E Φ Γ k->ck c N sc e=NA->(jQ c||gf c)=NA->PW X (bD c N e) (tT X.K X.mg E Φ Γ c)
def M3(c:CE):Prop:=∀{X:Cx} {cell:Str->Bool} {N:Ls} {sc:Sc} {CX:ef} {E:XK} {Φ:FT} {Γ:Str->Option D} {k:Nat} {tg:CT} {t e:Expr},cI X cell N sc CX E Φ Γ k->xZ c N sc tg e=NA->(jP tg=NA->eU t=NA)->PI X t (sG c N e) (tI X.K X.mg E Φ Γ c)
def M4(c:CE):Prop:=∀{X:Cx} {cell:Str->Bool} {N:Ls} {sc:Sc} {CX:ef} {E:XK} {Φ:FT} {Γ:Str->Option D} {k:Nat} {kd:Bool} {e:Expr} {gens g:List N1} {scope:Scope} {pos:Pos} {d:Nat} {acc:ND},cI X cell N sc CX E Φ Γ k->X.xe=(λ_ _=>False)->gens.drop (d+1)=sF c N g->EB c kd cell N sc g e=NA->
  PB X (bu (vY kd (mL c N e) gens scope pos) (EF kd (mL c N e) (.ref acc) X.env) gens d (.ref acc) X.env) (tB X.K X.mg (oK X kd) Φ Γ c acc)
theorem qF{c:CE}(z:∀Φ Γ ρ S,au Φ Γ c ρ S=.fail):M0 c:=λ_ _=>(nS λ_ _=>z _ _ _ _).pt
theorem Ax{c:CE}(z:(jQ c||gf c)=NB):M1 c:=λ_ _ h=>by rw[z]at h;cases h
theorem Ay{c:CE}(z:∀N sc tg e,xZ c N sc tg e=NB):M3 c:=λ_ h _=>by rw[z]at h;cases h
theorem Az{c:CE}(z:∀kd N sc cell g e,EB c kd cell N sc g e=NB):M4 c:=λ_ _ _ h=>by rw[z]at h;cases h
mutual
theorem aZ(c:CE):Nq c:=by
 intro X J N sc CX E Φ Γ k e O h;cases c with
 |var i=>exact qu O (ab h).1 (ab (ab h).2).1 (ab (ab h).2).2
 |dct=>exact yo
 |lit d=>exact qv h
 |glob y=>exact sM O h
 |ty n=>exact GK O (ab h).1 (ab h).2
 |bin op a b=>exact x_ (aZ a O (ab h).1) (aZ b O (ab h).2)
 |binB a b=>exact sI (aZ a O (ab h).1) (aZ b O (ab h).2)
 |neg a=>exact yf (aZ a O h)
 |cmp op a b=>exact ya O.room.units (aZ a O (ab h).1) (aZ b O (ab (ab h).2).1) (gW (ab (ab h).2).2)
 |chain op D a b c=>exact mM O.room.units (aZ a O (ab h).1) (aZ b O (ab (ab h).2).1) (aZ c O (ab (ab (ab h).2).2).1) (gW (ab (ab (ab h).2).2).2)
 |band a b=>exact t_ (aZ a O (ab h).1) (λz=>aZ b O (fF (ab h).2 z)) λz=>by obtain⟨r,R,q⟩:=ua (pos:=(vw e).pos) (N:=N) (es:=(vw e).es.tail) (ab (cK (ab h).2 z)).1;exact⟨r,R,q,aZ b O (ab (cK (ab h).2 z)).2⟩
 |bor a b=>exact Au (aZ a O (ab h).1) (λz=>aZ b O (fF (ab h).2 z)) λz=>by obtain⟨r,R,q⟩:=ub (pos:=(vw e).pos) (N:=N) (es:=(vw e).es.tail) (ab (cK (ab h).2 z)).1;exact⟨r,R,q,aZ b O (ab (cK (ab h).2 z)).2⟩
 |bnot a=>exact ye (aZ a O h)
 |ite c a b=>exact yi (er c O (ab h).1) (aZ a O (ab (ab h).2).1) (aZ b O (ab (ab h).2).2)
 |tup j=>exact ym (jS (ab h).2) (eN j O (ab h).1)
 |lst box j=>exact yn (jS (ab h).2) (eN j O (ab h).1)
 |idx a b=>exact yp (ab (ab h).2).2 (aZ a O (ab h).1) (aZ b O (ab (ab h).2).1)
 |sl a lo hi=>exact GL (aZ a O (ab h).1) (kl lo O (ab (ab h).2).1 (jS (ab (ab (ab (ab h).2).2).2).1)) (kl hi O (ab (ab (ab h).2).2).1 (jS (ab (ab (ab (ab h).2).2).2).2))
 |call f j=>
  have B:=eN j O (ab (ab h).2).1;cases j with
  |nil=>cases(ab (ab h).2).2
  |cons c p=>exact jU O (ab h).1 (fj (cs:=c::p) (ab (ab h).2).1) B
 |blt b j=>
  have B:=eN j O (ab (ab h).2).1;cases j with
  |nil=>cases(ab (ab (ab h).2).2).1
  |cons c p=>exact qw O (kh O b (ab (ab (ab h).2).2).2) (ab h).1 (fj (cs:=c::p) (ab (ab h).2).1) B
 |chain3 op D K a b c d=>exact λpq s σ H Q I zz=>aG zz λF μ ρ S sk en w=>w.elim
 |tix o j=>cases h
 |meth m o j=>have v:=(ab (ab (ab (ab h).2).2).2).1;exact sN (ab h).1 (ab (ab h).2).1 (fj v) (by rw[sK];exact jS (ab (ab (ab (ab h).2).2).2).2) sK.symm (aZ o O (ab (ab (ab h).2).2).1) (eN j O v)
 |lenset a=>exact II O (ab h).1 (ab (ab h).2).1 (ab (ab (ab h).2).2).2 (aZ a O (ab (ab (ab h).2).2).1)
 |sset a=>exact t9 O (ab h).1 (ab (ab h).2).1 (ab (ab (ab h).2).2).2 (aZ a O (ab (ab (ab h).2).2).1)
 |comp box G fr T it t body=>
  obtain⟨P,h⟩:=ab h;obtain⟨U,h⟩:=ab h;obtain⟨V,h⟩:=ab h;obtain⟨v,h⟩:=ab h;obtain⟨W,h⟩:=ab h;obtain⟨Y,h⟩:=ab h;obtain⟨Z,h8⟩:=ab h;have u:=Ao O P
  refine aY (my (N:=G) (g:=qy X.K T) (tb:=tC X.K X.mg oL Φ Γ t body) O.calm u (Ap O U) (nV it O W kj) (λA l=>eW _ l>>=λok=>if ok=NA then bu (vY NB _ _ _ _) (EF NB _ _ l) (_::_) 0 (.ref A) l else pure ())
   (λit A l=>t6 (kd:=NB) rfl) (λC s0 L M A=>?_) (nR Y)) λσ H Q q=>j3 (tg0:=iL T G ((vw e).gs.headD dG).target) q
  have x:=Aq O u.kind V C s0 L M;exact⟨j0 x v,tf (nU t x Z) (uc body (kd:=NB) x rfl rfl h8)⟩
 |emit e=>cases h
 |inner a b c d=>cases h
 |seq a=>cases h
 |range a=>cases h
 |zip a=>cases h
 |enum a=>cases h
 |down a=>cases h
theorem er(c:CE):M0 c:=by
 cases c with
 |var i=>
  intro X C N s n E j l k e O h;refine eD (iu (σ:=[]) (qu O (ab h).1 (ab (ab h).2).1 (ab (ab h).2).2) λ_=>rfl) λD H Q Z=>aG Z λF B m S A v w=>⟨F,B,m,S,A,v,?_⟩;cases t:m[i]? with
  |none=>simp only[au,t]at w;exact w.elim
  |some o=>
   cases o with
   |none=>simp only[au,t]at w;exact w.elim
   |some d=>simp only[au,t]at w;simp only[ak,t];exact w
 |lit d=>intro X C N s n E j l k e O h;exact eD (iu (Φ:=j) (Γ:=l) (σ:=[]) (qv h) λ_=>rfl) λD H Q Z=>aG Z λF B m S A v w=>⟨F,B,m,S,A,v,w⟩
 |call f x=>
  intro X C N s n E j l k e O h;have J:=eN x O (ab (ab h).2).1;cases x with
  |nil=>cases(ab (ab h).2).2
  |cons c p=>
   refine eD (iu (σ:=[]) (jU O (ab h).1 (fj (cs:=c::p) (ab (ab h).2).1) J) λ_=>rfl) λD H Q Z=>aG Z λF B m S A v w=>⟨F,B,m,S,A,v,?_⟩;simp only[au]at w;simp only[ak];cases t:j f with
   |none=>rw[t]at w;exact w
   |some M=>
    rw[t]at w;show am _ _ _ _ _ _ _ (((al j l (c::p) m S).bind λI G=>M I G).bind _);cases u:al j l (c::p) m S with
    |ok I G=>rw[u]at w;exact w
    |err y G=>rw[u]at w;exact w
    |fail=>rw[u]at w;exact w
 |blt b x=>
  intro X C N s n E j l k e O h;have J:=eN x O (ab (ab h).2).1;cases x with
  |nil=>cases(ab (ab (ab h).2).2).1
  |cons c p=>
   refine eD (iu (σ:=[]) (qw O (kh O b (ab (ab (ab h).2).2).2) (ab h).1 (fj (cs:=c::p) (ab (ab h).2).1) J) λ_=>rfl) λD H Q Z=>aG Z λF B m S A v w=>⟨F,B,m,S,A,v,?_⟩;simp only[au]at w;simp only[ak];cases u:al j l (c::p) m S with
   |ok I G=>rw[u]at w;exact w
   |err y G=>rw[u]at w;exact w
   |fail=>rw[u]at w;exact w
 |cmp op a b=>intro X C N s n E j l k e O h;exact yb O.room.units (aZ a O (ab h).1) (aZ b O (ab (ab h).2).1) (gW (ab (ab h).2).2)
 |chain3 op K L a b c d=>exact qF λ_ _ _ _=>rfl
 |chain op K a b c=>intro X C N s n E j l k e O h;exact mN O.room.units (aZ a O (ab h).1) (aZ b O (ab (ab h).2).1) (aZ c O (ab (ab (ab h).2).2).1) (gW (ab (ab (ab h).2).2).2)
 |band a b=>intro X C N s n E j l k e O h;exact(Aw (er a O (ab h).1) (λz=>er b O (fF (ab h).2 z)) λz=>by have g:=(ab (cK (ab h).2 z)).1;obtain⟨r,R,q⟩:=ua (pos:=(vw e).pos) (N:=N) (es:=(vw e).es.tail) g;exact⟨r,R,q,nT b O (ab (cK (ab h).2 z)).2 (by rw[g];rfl)⟩).pt
 |bor a b=>intro X C N s n E j l k e O h;exact(ki (er a O (ab h).1) (λz=>er b O (fF (ab h).2 z)) λz=>by have g:=(ab (cK (ab h).2 z)).1;obtain⟨r,R,q⟩:=ub (pos:=(vw e).pos) (N:=N) (es:=(vw e).es.tail) g;exact⟨r,R,q,nT b O (ab (cK (ab h).2 z)).2 (by rw[g,Bool.or_true])⟩).pt
 |bnot a=>intro X C N s n E j l k e O h;exact yh (er a O h)
 |_=>exact qF λ_ _ _ _=>rfl
theorem nT(c:CE):M1 c:=by
 cases c with
 |band a b=>intro X C N s d E j i k e O h H;exact Aw (er a O (ab h).1) (λz=>er b O (fF (ab h).2 z)) λz=>by have g:=(ab (cK (ab h).2 z)).1;obtain⟨r,R,q⟩:=ua (pos:=(vw e).pos) (N:=N) (es:=(vw e).es.tail) g;exact⟨r,R,q,nT b O (ab (cK (ab h).2 z)).2 (by rw[g];rfl)⟩
 |bor a b=>intro X C N s d E j i k e O h H;exact ki (er a O (ab h).1) (λz=>er b O (fF (ab h).2 z)) λz=>by have g:=(ab (cK (ab h).2 z)).1;obtain⟨r,R,q⟩:=ub (pos:=(vw e).pos) (N:=N) (es:=(vw e).es.tail) g;exact⟨r,R,q,nT b O (ab (cK (ab h).2 z)).2 (by rw[g,Bool.or_true])⟩
 |_=>exact Ax rfl
theorem eN(cs:List CE):∀{X:Cx} {cell:Str->Bool} {N:Ls} {sc:Sc} {CX:ef} {E:XK} {Φ:FT} {Γ:Str->Option D} {k:Nat} {es:Lx},cI X cell N sc CX E Φ Γ k->fY cs N sc es=NA->PA X (fP cs N es) (tL X.K X.mg E Φ Γ cs):=by
 intro X cell N sc CX E Φ Γ k es O h;cases cs with
 |nil=>exact yj
 |cons c cs=>exact sJ (ab (ab h).2).1 (aZ c O (ab h).1) (eN cs O (ab (ab h).2).2)
theorem kl(cs:List CE):∀{X:Cx} {cell:Str->Bool} {N:Ls} {sc:Sc} {CX:ef} {E:XK} {Φ:FT} {Γ:Str->Option D} {k:Nat} {es:Lx},cI X cell N sc CX E Φ Γ k->fY cs N sc es=NA->cs.length<2->PO X (fP cs N es).head? (yq X.K X.mg E Φ Γ cs):=by
 intro X cell N sc CX E Φ Γ k es O h H;cases cs with
 |nil=>exact mR
 |cons c cs=>cases cs with
  |nil=>exact mS (aZ c O (ab h).1)
  |cons _ _=>exact absurd H (by simp)
theorem nU(cs:List CE):∀{X:Cx} {cell:Str->Bool} {N:Ls} {sc:Sc} {CX:ef} {E:XK} {Φ:FT} {Γ:Str->Option D} {k:Nat} {es:Lx},cI X cell N sc CX E Φ Γ k->fY cs N sc es=NA->xL X (fP cs N es) (cs.map (tT X.K X.mg E Φ Γ)):=by
 intro X cell N sc CX E Φ Γ k es O h;cases cs with
 |nil=>trivial
 |cons c cs=>exact⟨er c O (ab h).1,nU cs O (ab (ab h).2).2⟩
theorem nV(c:CE):M3 c:=by
 cases c with
 |seq a=>intro X C N s m E o n k T t e O h l;exact yE (aZ a O h)
 |range f=>
  intro X C N s m E o n k T t e O h l;have g:=(ab (ab h).2).1;have H:=(ab (ab h).2).2;have i:=fj g;have j:=eN f O g;cases f with
  |nil=>cases H
  |cons a f=>cases f with
   |nil=>exact Hd O (ab h).1 (i _ Zd) rfl j
   |cons b f=>cases f with
    |nil=>exact He O (ab h).1 (i _ Zd) (i _ (Zb _ Zd)) rfl j
    |cons d f=>cases H
 |down f=>
  intro X C N s m E o n k T t e O h l;have g:=(ab (ab (ab h).2).2).1;have H:=(ab (ab (ab h).2).2).2;have i:=fj g;have j:=eN f O g;cases f with
  |nil=>cases H
  |cons a f=>cases f with
   |nil=>exact sU O (ab h).1 (ab (ab h).2).1 (i _ Zd) j
   |cons b f=>cases H
 |enum f=>
  intro X C N s m E o n k T t e O h l;have g:=(ab (ab h).2).1;have H:=(ab (ab h).2).2;have i:=fj g;have j:=eN f O g;cases f with
  |nil=>cases(ab H).1
  |cons a f=>cases f with
   |nil=>exact sY O (ab h).1 (l (ab H).2) (i _ Zd) j
   |cons b f=>cases(ab H).1
 |zip f=>
  intro X C N s m E o n k T t e O h l;have g:=(ab (ab h).2).1;have H:=(ab (ab h).2).2;have i:=fj g;have j:=eN f O g;cases f with
  |nil=>cases(ab H).1
  |cons a f=>cases f with
   |nil=>cases(ab H).1
   |cons b f=>cases f with
    |nil=>exact yI O (ab h).1 (l (ab H).2) (i _ Zd) (i _ (Zb _ Zd)) j
    |cons d f=>cases(ab H).1
 |_=>exact Ay λ_ _ _ _=>rfl
theorem uc(c:CE):M4 c:=by
 cases c with
 |emit a=>
  intro X C N S e E q p k K f g G s pos d A O b H h;cases K with
  |true=>cases h
  |false=>exact ti (IJ H) (aZ a O h)
 |inner t it i body=>intro X C N S e E q p k K f g G s pos d A O b H h;obtain⟨j,h⟩:=ab h;obtain⟨l,h⟩:=ab h;obtain⟨m,h⟩:=ab h;obtain⟨n,o⟩:=ab h;exact mZ (by cases K<;>rfl) (by cases K<;>rfl) (λit=>t6 (As H)) b O.calm (As H) (nV it O l kj) (nR m) (j0 O j) (tf (nU i O n) (uc body O b (IK H) o))
 |_=>exact Az λ_ _ _ _ _ _=>rfl
end
noncomputable def aF(K:Fg)(m:GS)(E:XK)(D:Ends)(μ:La)(H:Hp):Res Fl->Prop
 | .ok (.next ρ') S'=>∀μ' H' σ',Ext μ H μ' H'->aO K m μ' S' H'->bb K m μ' H' ρ' σ'->D.nx σ' H'
 | .ok (.ret d) S'=>∀μ' H' v,Ext μ H μ' H'->aO K m μ' S' H'->Rep K m μ' H' d v->D.rt v H'
 | .ok (.brk ρ') S'=>∀μ' H' σ',Ext μ H μ' H'->aO K m μ' S' H'->bb K m μ' H' ρ' σ'->D.bk σ' H'
 | .ok (.cont ρ') S'=>∀μ' H' σ',Ext μ H μ' H'->aO K m μ' S' H'->bb K m μ' H' ρ' σ'->D.ct σ' H'
 | .err x S'=>∀μ' H',Ext μ H μ' H'->aO K m μ' S' H'->xW m.mg E x H'
 | .fail=>False
noncomputable def tS(K:Fg)(m:Mg)(E:XK)(Φ:FT)(Γ:Str->Option D)(c:CS):TS:=λD σ H=>∃F μ ρ S,aO K ⟨m,F⟩ μ S H/\bb K ⟨m,F⟩ μ H ρ σ/\aF K ⟨m,F⟩ E D μ H (aC Φ Γ c ρ S)
noncomputable def qG(K:Fg)(m:Mg)(E:XK)(Φ:FT)(Γ:Str->Option D)(cs:List CS):TS:=λD σ H=>∃F μ ρ S,aO K ⟨m,F⟩ μ S H/\bb K ⟨m,F⟩ μ H ρ σ/\aF K ⟨m,F⟩ E D μ H (ah Φ Γ cs ρ S)
section
variable {mg:GS}{E:XK}{D D':Ends}
theorem aF.ext{r:Res Fl}(x:Ext μ H μ' H')(w:aF K mg E D μ H r):aF K mg E D μ' H' r:=by
 cases r with
 |ok f S=>
  cases f with
  |next a=>exact λm h s y=>w m h s (x.trans y)
  |ret d=>exact λm h s y=>w m h s (x.trans y)
  |brk a=>exact λm h s y=>w m h s (x.trans y)
  |cont a=>exact λm h s y=>w m h s (x.trans y)
 |err z S=>exact λm h y=>w m h (x.trans y)
 |fail=>exact w
theorem aF.bind{Rel:La->Hp->α->β->Prop}{r:Res α}{f:α->aa->Res Fl}(w:aF K mg E D μ H (r.bind f)):
  am K mg E Rel μ H (λb H'=>∃μ' S' a,Ext μ H μ' H'/\aO K mg μ' S' H'/\Rel μ' H' a b/\aF K mg E D μ' H' (f a S')) r:=by
 cases r with
 |ok a S'=>exact λc d b x s r=>⟨_,_,a,x,s,r,aF.ext x (show aF K _ E D _ H _ from w)⟩
 |err y S'=>exact w
 |fail=>exact w
theorem aF.seq{r:Res Fl}{f:bC->aa->Res Fl}{N:L2.St->Hp->Prop}(w:aF K mg E D μ H (r.bind λF S1=>match F with
   | .next ρ'=>f ρ' S1
   |F=>.ok F S1)) (b:∀μ' H' σ' ρ' S',Ext μ H μ' H'->aO K mg μ' S' H'->bb K mg μ' H' ρ' σ'->aF K mg E D μ' H' (f ρ' S')->N σ' H'):aF K mg E {D with nx:=N} μ H r:=by
 cases r with
 |ok F S=>
  cases F with
  |next a=>exact λm h s x k e=>b m h s _ S x k e (aF.ext x (show aF K _ E D _ H _ from w))
  |ret d=>exact w
  |brk a=>exact w
  |cont a=>exact w
 |err z S=>exact w
 |fail=>exact w
end
theorem cq{st:O1}{t t':TS}(h:PS X st t)(w:∀D σ H,t' D σ H->t D σ H):PS X st t':=λp s σ H D I q=>h _ s _ H D I (w D _ H q)
theorem km{st:List O1}{t t':TS}(h:fW X st t)(w:∀D σ H,t' D σ H->t D σ H):fW X st t':=λp s σ H D I q=>h _ s _ H D I (w D _ H q)
noncomputable def gr:Expr->Bool
 | .ListComp .. =>NB
 | .SetComp .. =>NB
 | .DictComp .. =>NB
 |_=>NA
noncomputable def ud:Expr->Bool
 | .ListComp .. =>NA
 |_=>NB
noncomputable def ue(s:Sc)(x:Str):Bool:=s.lookup x==Nz .local||s.lookup x==Nz .cell
noncomputable def M5(s:Sc)(x:Str)(p:Pos)(v:Expr):Bool:=s.lookup x==Nz .local&&(p.line==(vw v).pos.line&& !((vw v).sc.names.any λ(n,k)=>n==x&&(k== .local||k== .cell)))
noncomputable def dS:O1:=.Pass ⟨0,0,0,0⟩
set_option genInjectivity false in
structure Nr where
 e0:Expr:=dE
 e1:Expr:=dE
 a:List O1:=[]
 b:List O1:=[]
 pos:Pos:=⟨0,0,0,0⟩
 hp:Pos:=⟨0,0,0,0⟩
noncomputable def vs:O1->Nr
 | .Assign ts v p=>{e0:=ts.headD dE,e1:=v,pos:=p}
 | .AugAssign t _ v p=>{e0:=t,e1:=v,pos:=p}
 | .Expr v p=>{e0:=v,pos:=p}
 | .Return v p=>{e0:=v.getD dE,pos:=p}
 | .Pass p=>{pos:=p}
 | .Break p=>{pos:=p}
 | .Continue p=>{pos:=p}
 | .If t x y p=>{e0:=t,a:=x,b:=y,pos:=p}
 | .For t i x _ p=>{e0:=t,e1:=i,a:=x,pos:=p}
 | .While t x _ p=>{e0:=t,a:=x,pos:=p}
 | .Raise v _ p=>{e0:=v.getD dE,pos:=p}
 | .Try x [.ExceptHandler t _ y hp] _ _ p=>{e0:=t.getD dE,a:=x,b:=y,pos:=p,hp:=hp}
 |_=>{}
noncomputable def AA(o i:CE)(N:Ls)(e:Expr):Expr:=.Subscript (bD o N (vw e).e0) (bD i N (vw e).e1) (vw e).pos
noncomputable def AB(o i:CE)(N:Ls)(s:Sc)(e:Expr):Bool:=iK (bD i N (vw e).e1)&&(ck o N s (vw e).e0&&ck i N s (vw e).e1)
mutual
noncomputable def EG:CS->Ls->O1->O1
 | .asg i e,N,st=>.Assign [.Name (N.getD i "") (vw (vs st).e0).pos] (bD e N (vs st).e1) (vs st).pos
 | .asgT t e,N,st=>.Assign [iL t N (vs st).e0] (bD e N (vs st).e1) (vs st).pos
 | .set o i v,N,st=>.Assign [AA o i N (vs st).e0] (bD v N (vs st).e1) (vs st).pos
 | .expr e,N,st=>.Expr (bD e N (vs st).e0) (vs st).pos
 | .ret e,N,st=>.Return (Nz (bD e N (vs st).e0)) (vs st).pos
 | .retN,_,st=>.Return none (vs st).pos
 | .pass,_,st=>.Pass (vs st).pos
 | .brk,_,st=>.Break (vs st).pos
 | .cont,_,st=>.Continue (vs st).pos
 | .ite c a b,N,st=>.If (bD c N (vs st).e0) (fR a N (vs st).a) (fR b N (vs st).b) (vs st).pos
 | .for_ t it body,N,st=>.For (iL t N (vs st).e0) (sG it N (vs st).e1) (fR body N (vs st).a) [] (vs st).pos
 | .while_ _ c body,N,st=>.While (bD c N (vs st).e0) (fR body N (vs st).a) [] (vs st).pos
 | .never,_,st=>st
 | .raise_ _ _,_,st=>st
noncomputable def fR:List CS->Ls->List O1->List O1
 | [],_,_=>[]
 |c::cs,N,st=>EG c N (st.headD dS)::fR cs N st.tail
end
noncomputable def ko:Expr->Bool
 | .Tuple xs _ _=>xs.all (foldedForSure 8)
 |_=>NA
noncomputable def kq(s:Sc):Expr->Bool
 | .Tuple ts _ _=>ts.any fun
  | .Name id _=>s.lookup id==Nz .cell
  |_=>NB
 |_=>NB
mutual
noncomputable def IL:CS->Ls->Sc->O1->Bool
 | .asg i e,N,sc,st=>N[i]?==Nz (N.getD i "")&&(ue sc (N.getD i "")&&(ck e N sc (vs st).e1&&(gr (bD e N (vs st).e1)||(jR e&&(sc.lookup (N.getD i "")==Nz .cell||M5 sc (N.getD i "") (vw (vs st).e0).pos (bD e N (vs st).e1))))))
 | .asgT t e,N,sc,st=>jP t&&((ko (bD e N (vs st).e1)||kq sc (iL t N (vs st).e0))&&(gr (bD e N (vs st).e1)&&(qr (λ_=>NA) N sc t&&ck e N sc (vs st).e1)))
 | .set o i v,N,sc,st=>AB o i N sc (vs st).e0&&(gr (bD v N (vs st).e1)&&ck v N sc (vs st).e1)
 | .expr e,N,sc,st=>gr (bD e N (vs st).e0)&&ck e N sc (vs st).e0
 | .ret e,N,sc,st=>ck e N sc (vs st).e0
 | .retN,_,_,_=>NA
 | .pass,_,_,_=>NA
 | .brk,_,_,_=>NA
 | .cont,_,_,_=>NA
 | .ite c a b,N,sc,st=>ck c N sc (vs st).e0&&(fS a N sc (vs st).a&&fS b N sc (vs st).b)
 | .for_ t it body,N,sc,st=>qr (λ_=>NA) N sc t&&(xZ it N sc t (vs st).e1&&(mK (sG it N (vs st).e1)&&fS body N sc (vs st).a))
 | .while_ _ c body,N,sc,st=>ck c N sc (vs st).e0&&fS body N sc (vs st).a
 | .never,_,_,_=>NA
 | .raise_ _ _,_,_,_=>NA
noncomputable def fS:List CS->Ls->Sc->List O1->Bool
 | [],_,_,_=>NA
 |c::cs,N,sc,st=>IL c N sc (st.headD dS)&&fS cs N sc st.tail
end
section
variable {E:XK}{pos:Pos}
theorem nW{v:Expr}{o:Option Expr}(h:gr v=NA):swapsWith v o line env=pure NB:=by cases v<;>first|rfl|cases h
theorem AD(O:cI X cell N sc CX E Φ Γ k):X.env.blockKind=.function:=by unfold Env.blockKind;rw[O.kd];rfl
theorem nX(O:cI X cell N sc CX E Φ Γ k){v:Expr}{x:Str}{p:Pos}(h:ud v=NA)(H:sc.lookup x=Nz .cell):swapsWith v (Nz (.Name x p)) line X.env=pure NB:=by
 have e:X.env.kindOf x=Nz .cell:=by show X.env.scope.names.lookup x=_;rw[O.sc];exact H
 cases v<;>first| (cases h)|skip
 show(pure _)=pure _;have a:(Nz NT==Nz NameKind.local)=NB:=by rfl
 lia
theorem uf(O:cI X cell N sc CX E Φ Γ k){e:Expr}{g:List N1}{v p:Pos}{x:Str}(h:M5 sc x p (.ListComp e g scope v)=NA):swapsWith (.ListComp e g scope v) (Nz (.Name x p)) line X.env=pure NA:=by
 obtain⟨c,h⟩:=ab h;obtain⟨d,f⟩:=ab h;have b:X.env.kindOf x=Nz .local:=by show X.env.scope.names.lookup x=_;rw[O.sc];exact beq_iff_eq.mp c
 unfold swapsWith;show(pure (X.env.blockKind== .function&&X.env.kindOf x==Nz .local&&p.line==v.line&& !_):Sem Bool)=pure NA;rw[AD O,b,show(p.line==v.line)=NA from d];have H:(!(scope.names.any λa=>match a with| (n,k)=>n==x&&(k== .local||k== .cell)))=NA:=f
 first|rw[H];rfl|simp_all
theorem ug(O:cI X (λ_=>NA) N sc CX E Φ Γ k){x:Str}(h:ue sc x=NA):L2.Loc X.env.scope x:=by unfold L2.Loc;rw[O.sc];unfold ue at h;simpa using h
theorem AE{D:Ends}{i:Nat}{e:CE}(h:tS X.K X.mg E Φ Γ (.asg i e) D σ H):tE X.K X.mg E Φ Γ e σ H λv H1=>D.nx (σ.set i (Nz v)) H1:=by obtain⟨F,g,j,S,b,a,w⟩:=h;exact⟨F,_,_,S,b,a,(aF.bind w).mono λv H1 z=>aM z λc f d x s r W=>W _ _ _ .refl s ((a.mono x).set r)⟩
theorem IM{e:CE}(h:jR e=NA):∃box N fr tg it ifs body,e=.comp box N fr tg it ifs body:=by
 unfold jR at h;split at h
 ·exact⟨_,_,_,_,_,_,_,rfl⟩
 ·cases h
theorem AF(O:cI X (λ_=>NA) N sc CX E Φ Γ k){i:Nat}{e:CE}{st:O1}(h:IL (.asg i e) N sc st=NA):PS X (EG (.asg i e) N st) (tS X.K X.mg E Φ Γ (.asg i e)):=by
 obtain⟨d,h⟩:=ab h;obtain⟨r,h⟩:=ab h;obtain⟨m,b⟩:=ab h;have d:=beq_iff_eq.mp d
 have p:swapsWith (bD e N (vs st).e1) (Nz (.Name (N.getD i "") (vw (vs st).e0).pos)) (vs st).pos.line X.env=pure NB->PS X (EG (.asg i e) N st) (tS X.K X.mg E Φ Γ (.asg i e)):=λt=>
  cq (rj (i:=i) (by rw[O.n];exact O.nd) (by rw[O.n];exact d) (ug O r) (aZ e O m) t (.inl (O.fn _ rfl))) λD M H q=>AE q
 rcases P'.mp b with b|b
 ·exact p (nW b)
 ·obtain⟨b,c⟩:=ab b;obtain⟨box,o,P,T,it,I,body,rfl⟩:=IM b;rcases P'.mp c with c|c
  ·exact p (nX O rfl (beq_iff_eq.mp c))
  ·have l:=uf O (line:=(vs st).pos.line) c;have u:X.env.scope.names.lookup (N.getD i "")=Nz .local:=by rw[O.sc];exact beq_iff_eq.mp (ab c).1
   obtain⟨K,h⟩:=ab m;obtain⟨v,h⟩:=ab h;obtain⟨w,h⟩:=ab h;obtain⟨x,h⟩:=ab h;obtain⟨y,h⟩:=ab h;obtain⟨z,h⟩:=ab h;obtain⟨B,G⟩:=ab h;have s:=Ao O K
   refine cq (mz (N:=o) (j:=i) (g:=qy X.K T) (tb:=tC X.K X.mg oL Φ Γ I body) O.calm (by rw[O.n];exact O.nd) (by rw[O.n];exact d) u l s (Ap O v) (nV it O y kj) (λA a=>eW _ a>>=λok=>if ok=NA then bu (vY NB _ _ _ _) (EF NB _ _ a) (_::_) 0 (.ref A) a else pure ())
    (λit A a=>t6 (kd:=NB) rfl) (λC S n F A=>?_) (nR z)) λD M H q=>j3 (tg0:=.Name (N.getD i "") (vw (vs st).e0).pos) (AE q)
   have f:=Aq O s.kind w C S n F;exact⟨j0 f x,tf (nU I f B) (uc body (kd:=NB) f rfl rfl G)⟩
end
def vZ(h:NO)(H:Hp)(h':NO)(e:ND)(cls:NF):Prop:=
 ∃o vs a0 T O ts,h'.get? e=Nz o/\(o.cls=cls/\vs[0]?=Nz a0)/\o.data=.fields vs/\vs[1]?=Nz (.ref T)/\T≠e/\h'.get? T=Nz O/\O.data=.fields ts/\ts[3]?=Nz .none/\(h.get? e=none/\h.get? T=none)/\H e=none/\H T=none
noncomputable def br(P:NU)(w:N0):ef:=λouter H s E v s'=>∃e cls H',v=.ref e/\s'.os=s.os/\QJ s'.gens/\Un (dH outer) [] H H' s.heap s'.heap/\eI P w H' s'.heap/\E cls none H'/\vZ s.heap H' s'.heap e cls
theorem qH(o:List Env)(H:Hp)(s:NC)(e:NF)(S:NC)(z:br P w o H s E0 e S):False:=by obtain⟨_,_,_,_,_,_,_,_,q,_⟩:=z;exact q
theorem kr{o:HO}(x:bx P w H h a o):∃u,h.get? a=Nz u:=by
 cases o with
 |lst X=>obtain⟨_,_,_,_,e⟩:=x;exact⟨_,e⟩
 |tup X=>obtain⟨_,_,_,_,u,e,_⟩:=x;exact⟨_,e⟩
 |dK k=>obtain⟨_,_,_,_,o,_,_,e,_⟩:=x;exact⟨_,e⟩
 |dT k=>obtain⟨_,_,_,_,o,_,_,e,_⟩:=x;exact⟨_,e⟩
 |set S n=>obtain⟨o,_,_,_,e,_⟩:=x;exact⟨_,e⟩
 |ins C d fs=>obtain⟨_,_,_,e,_⟩:=x;exact⟨_,e⟩
 |own y=>obtain⟨_,e⟩:=x;exact⟨_,e⟩
 |xd fs=>obtain⟨_,⟨_,_,_,e,_⟩,_⟩:=x;exact⟨_,e⟩
 |rng lo b=>obtain⟨_,_,_,e⟩:=x;exact⟨_,e⟩
 |frz O u=>obtain⟨e,_⟩:=x;exact⟨_,e⟩
 |tbl p=>exact⟨_,show h.get? a=Nz _ from x⟩
 |met f y=>exact⟨_,show h.get? a=Nz _ from x⟩
 |ext c=>obtain⟨_,e,_⟩:=x;exact e
section
variable {s3:NC}{e T:ND}{cls a0:NF}{B:NO}{E:XK}
theorem AG(I:Inv X pq σ H' s2)(G:X.ex=[])(L:X.stack=X.env::X.outer)(Q:∀b o,s2.heap.get? b=Nz o->b∉dH X.stack->b≠e->b≠T->B.get? b=Nz o)
  (A:X.s₀.heap.get? e=none/\X.s₀.heap.get? T=none) (w:H' e=none/\H' T=none) (P:Heap.FlyingW B X.outer e cls a0 h') (N:s2.heap.UpToSlots h') (q:E cls none H')
  (V:s3.os=s2.os) (W:s3.gens=s2.gens) (D:s3.heap=h'):br X.prog X.w X.outer X.H₀ X.s₀ E (.ref e) s3:=by
 have U:=I.base;rw[G]at U;have M:=I.stack;have m:∀b,b∈dH X.stack->∃o,s2.heap.get? b=Nz o/\∀vs,o.data≠.fields vs:=λb d=>(M.mem d).2;have n:∀b∈dH X.stack,H' b=none:=I.stkFree;have k:∀b o,s2.heap.get? b=Nz o->b∉dH X.stack->b≠e->b≠T->h'.get? b=Nz o:=λb o h H c g=>P.1 b o (Q b o h H c g);have old:∀b o,X.s₀.heap.get? b=Nz o->b≠e/\b≠T:=λb o h=>⟨λz=>(by rw[z,A.1]at h;cases h),λz=>(by rw[z,A.2]at h;cases h)⟩
 have nl:∀b o,X.s₀.heap.get? b=Nz o->b∉dH X.outer->b∉dH X.stack:=λb o h H c=>by
  rcases Zi.mp (I.stkSub b c)with z|z
  ·have:=Zo h;rw[z]at this;exact absurd this (Qn.mpr I.ok.above)
  ·exact H z
 have sub:∀b∈dH X.outer,b∈dH X.stack:=λb d=>by rw[L];obtain⟨Z,h,H⟩:=Of.mp d;exact Of.mpr ⟨Z,Zb _ h,H⟩
 have r:∀b o,s2.heap.get? b=Nz o->b≠e->b≠T->∃O,h'.get? b=Nz O:=λb o h H c=>by
  by_cases d:b∈dH X.stack
  ·obtain⟨C,g,i⟩:=m b d;obtain⟨sl,l⟩:=N b C g i;exact⟨_,l⟩
  ·exact⟨o,k b o h d H c⟩
 have R:Un (dH X.outer) [] X.H₀ H' X.s₀.heap h':=by
  refine⟨λb o h H c g=>k b o (U.keep b o h H c g) (nl b o h c) (old b o h).1 (old b o h).2,λb o h H c g=>?_,U.free,λb o h H=>?_,U.tups,U.frzs,U.tbls⟩
  ·obtain⟨sl,i⟩:=U.slot b o h H c g;obtain⟨C,l,x⟩:=m b (sub b c);rw[i]at l;cases l;obtain⟨S,y⟩:=N b _ i x;exact⟨S,y⟩
  ·obtain⟨O,i⟩:=U.there b o h H;exact r b O i (old b o h).1 (old b o h).2
 have t:∀b u,H' b=Nz u->b∉dH X.stack/\b≠e/\b≠T:=λb u h=>
  ⟨λz=>(by rw[n b z]at h;cases h),λz=>(by rw[z,w.1]at h;cases h),λz=>(by rw[z,w.2]at h;cases h)⟩
 have K:eI X.prog X.w H' h':=λa o Y=>(I.hok a o Y).stay (λb u d h=>by
  have F:∃u,H' b=Nz u:=by rcases d with rfl|d<;>exact⟨_,by assumption⟩
  obtain⟨u',hu⟩:=F;obtain⟨t1,t2,t3⟩:=t b u' hu;exact k b u h t1 t2 t3) (λ_ q=>q) λ_ _ q=>q
 obtain⟨k1,k2,k3,oe,vs,f,oT,ts,h,H,c,g,i,l,x,y,h9⟩:=P
 have gW:∀o,s2.heap.get? f=Nz o->f=T:=λo J=>by
  refine O5 λhn=>?_;by_cases d:f∈dH X.stack
  ·obtain⟨C,j,s⟩:=m f d;obtain⟨sl,v⟩:=N f C j s;rw[x]at v;cases v;exact s _ y
  ·rw[Q f o J d l hn]at i;cases i
 refine⟨e,cls,H',rfl,by rw[V];exact I.os,by rw[W];exact I.bare,by rw[D];exact R,by rw[D];exact K,q,?_⟩;rw[D];refine⟨oe,vs,a0,f,oT,ts,h,H,c,g,l,x,y,h9,⟨A.1,?_⟩,w.1,?_⟩
 ·cases p:X.s₀.heap.get? f with
  |none=>rfl
  |some o=>obtain⟨O,j⟩:=U.there f o p (by simp);rw[gW O j,A.2]at p;cases p
 ·cases p:H' f with
  |none=>rfl
  |some u=>obtain⟨o,J⟩:=kr (I.hok f u p);rw[gW o J,w.2]at p;cases p
theorem IP{l:List Env}(f:vZ h0 Hx h e cls)(t:h.FunFrames base l):∃T a0,(h0.get? e=none/\h0.get? T=none)/\(Hx e=none/\Hx T=none)/\Heap.FlyingW (PySem.W.hideAll h (e::T::dH l)) l e cls a0 h:=by obtain⟨u,vs,a0,T,O,v,d,g,i,j,k,m,n,p,H,c⟩:=f;exact⟨T,a0,H,c,λb o q=>PySem.W.of_hideAll _ q,PySem.W.hideAll_none _ (by simp),PySem.W.funFrames_hide t (λE s a r=>Zb _ (Zb _ (Of.mpr ⟨E,s,r⟩))),u,vs,T,O,v,d,g,i,j,PySem.W.hideAll_none _ (by simp),k,m,n,p⟩
theorem nY{l:List Env}:∀b o,h.get? b=Nz o->b∉dH l->b≠e->b≠T->(PySem.W.hideAll h (e::T::dH l)).get? b=Nz o:=λb o H a c d=>
 PySem.W.hideAll_get _ H λf=>by grind
theorem nZ{v:NF}(I:Inv X pq σ H s)(c:br X.prog X.w X.stack H s E v s2)(a:X.ex=[]):∃e cls H',v=.ref e/\Inv X pq σ H' s2/\E cls none H'/\vZ s.heap H' s2.heap e cls:=by obtain⟨e,cls,H',rfl,o,B,un,h,q,f⟩:=c;exact⟨e,cls,H',rfl,I.call' o un h B (λb z=>absurd z (by simp_all)),q,f⟩
theorem vZ.old(f:vZ h0 Hx h e cls)(t:∀b o,h1.get? b=Nz o->∃o',h0.get? b=Nz o'):vZ h1 Hx h e cls:=by
 obtain⟨r,vs,a,T,O,s,c,d,i,j,k,l,m,p,g,G⟩:=f
 have n:∀b,h0.get? b=none->h1.get? b=none:=λb H=>by
  cases q:h1.get? b with
  |none=>rfl
  |some o=>obtain⟨o',E⟩:=t b o q;simp_all
 exact⟨r,vs,a,T,O,s,c,d,i,j,k,l,m,p,⟨n _ g.1,n _ g.2⟩,G⟩
end
section
variable {E:XK}
def lq(X:Cx)(E:XK):Prop:=X.ex=[]/\X.stack=X.env::X.outer/\X.env.frame=Nz X.env.locals/\X.xe=λe s'=>wpAny (model X.prog X.w) X.A (leaving X.env e) (λ_ s=>br X.prog X.w X.outer X.H₀ X.s₀ E e s) (λa s=>br X.prog X.w X.outer X.H₀ X.s₀ E a s) s'
theorem lq.of{E:XK}:lq (gN (br P w) P w K mg base N qual scope f cd A outer s H E) E:=
 ⟨rfl,rfl,rfl,rfl⟩
theorem lq.own(L:lq X E):Rr (model X.prog X.w) X.A X.env X.xe:=by rw[L.2.2.2];exact PassesOwn.leaving
theorem lq.pass(L:lq X E):lU (br X.prog X.w) X E:=by intro P r H s v S I c;obtain⟨a,h,k,d⟩:=L;obtain⟨e,cls,l,rfl,g,q,f⟩:=nZ I c a;obtain⟨T,A,n,N,i⟩:=IP (f.old (h1:=X.s₀.heap) λb o j=>I.base.there b o j (by simp_all)) (h▸g.stack);rw[d];exact wpAny_leaves_onW (by rw[I.ok.frames,h]) k i λm F u=>AG (T:=T) g a h (by rw[h];exact nY) n N F u q rfl rfl rfl
theorem lq.made{e C:ND}{A:Lv}(L:lq X E)(I:Inv X pq σ H s)(m:Heap.MadeExcOf s.heap h2 e (.ref C) A)(q:E (.ref C) none H):X.xe (.ref e) {s with heap:=h2}:=by
 obtain⟨g,c,w,j⟩:=L;rw[j];refine wpAny_leaves_madeW (base:=PySem.W.hideAll s.heap (dH X.stack)) (h:=s.heap) (by rw[I.ok.frames,c]) w (λb o z=>PySem.W.of_hideAll _ z) (PySem.W.funFrames_hide (c▸I.stack) (by rw[c];exact λf v a r=>Of.mpr ⟨f,v,r⟩)) m λx t F y B U=>?_
 have ne:X.s₀.heap.get? e=none:=by
  cases i:X.s₀.heap.get? e with
  |none=>rfl
  |some o=>obtain⟨O,d⟩:=I.base.there e o i (by simp_all);rw[m.new]at d;cases d
 have n:H e=none:=by
  cases i:H e with
  |none=>rfl
  |some u=>obtain⟨o,l⟩:=kr (I.hok e u i);rw[m.new]at l;cases l
 exact AG (T:=e) I g c (λb o p h2 _ _=>PySem.W.hideAll_get _ p h2) ⟨ne,ne⟩ ⟨n,n⟩ F ((Heap.UpToSlots.of_keeps m.keeps).trans U) q rfl rfl rfl
end
noncomputable def AH:Lv:=[.type "ValueError",.type "Exception",.type "BaseException",.type "object"]
section
variable {E:XK}{C:ND}{x:Str}
end
open PySem PySem.Spec PySem.Calls PyProof.Rows PySem.W
section
variable {x C:ND}
end
section
variable {x C:ND}
end
end Py
namespace Py
open PySem PySem.Spec PySem.SeqAt PyProof.Rows L2
section
variable {x C:ND}{bf:Str->Bool}{ys:Ls}
end
end Py
namespace Py
section
variable {e T:ND}{B h3:NO}
end
section
variable {y n:Str}{i:Nat}
end
section
variable {D:Ends}{h:ExceptHandler}
variable {pa:ND}{pe n y:Str}{i:Nat}{tp np vp cp rp hp:Pos}
end
set_option genInjectivity false in
inductive Rz where
 |cls (x:Str)|kind (f:Str) (ys ws:Ls)
 deriving DecidableEq
mutual
noncomputable def M6:CS->List Rz
 | .raise_ _ _=>[]
 | .ite _ a b=>fm a++fm b
 | .for_ _ _ body=>fm body
 | .while_ _ _ body=>fm body
 |_=>[]
noncomputable def fm:List CS->List Rz
 | []=>[]
 |c::cs=>M6 c++fm cs
end
noncomputable def XC(P:NU)(w:N0)(K:Fg)(m:Mg):Rz->Prop
 | .cls x=>∃C,m x=Nz (.ref C)/\PySem.W.excIn K C AH "ValueError.__new__"=NA
 | .kind _ _ _=>False
theorem n_{o i:Expr}{p:Pos}(h:iK i=NA):∀v,assign (.Subscript o i p) env v=(do
   let O <-holding [v] (eval o env)
   let I <-holding [v,O] (eval i env)
   standAt p
   holding [v,O,I] (setItem O I v)
   release [v,O,I] []):=by
 intro v;cases i<;>first|rfl|cases h
section
variable {E:XK}{pos:Pos}
end
structure M7 (X:Cx)(N:Ls)(sc:Sc)(CX:ef)(E:XK)(Φ:FT)(Γ:Str->Option D)(k:Nat):Prop where
 x:cI X (λ_=>NA) N sc CX E Φ Γ k
 own:Rr (model X.prog X.w) X.A X.env X.xe
 cx:CX=br X.prog X.w
 fr:X.ex=[]/\X.stack=X.env::X.outer/\X.env.frame=Nz X.env.locals
 made:∀(pq:Lp) (σ:L2.St) (H:Hp) (s:NC) (h2:NO) (e C:ND) (args:Lv),L2.Inv X pq σ H s->Heap.MadeExcOf s.heap h2 e (.ref C) args->E (.ref C) none H->X.xe (.ref e) {s with heap:=h2}
section
variable {E:XK}{pos:Pos}
theorem qI{a c:Type}{f:a->Option c}{x:a}(h:f x=none):∀{l:List a},x∈l->(l.filterMap f).length<l.length
 | [],H=>by cases H
 |y::l,H=>by
  rcases Zi.mp H with rfl|H
  ·rw[R_ h];exact Qz (Sb _ _)
  ·have:=qI h H;have b:=Sb f [y];rw[show y::l=[y]++l from rfl,List.filterMap_append,Zz,Zz];simp at b⊢;omega
theorem og{v:Expr}(hs:env.scope.names=sc)(h1:eU tg=NA)(a:(ko v||kq sc tg)=NA):swappedStores [tg] v env=pure none:=by
 cases tg<;>first| (cases h1;done)|skip
 cases v<;>first|rfl|skip
 rename_i t _ _ u _ _;unfold swappedStores;simp only[];split
 ·rfl
 ·split
  ·rfl
  ·split
   ·rfl
   ·rename_i c;rcases P'.mp a with h|h
    ·have h:(List.all u (foldedForSure 8))=NA:=h
     first|rfl|rw[if_pos h]
    ·exfalso
     have h:(t.any λx=>match x with
      | .Name id _=>sc.lookup id==Nz .cell
      |_=>NB)=NA:=h
     obtain⟨x,d,H⟩:=OP.mp h;refine c ?_
     have b:=qI (f:=λx=>match x with
      |Expr.Name id pos=>if env.kindOf id==Nz .local&&pos.line==(t.head?.map (·.pos.line)).getD 0 then Nz id else none
      |_=>none) (x:=x) (by
       cases x<;>first|rfl|skip
       rename_i id pos;have H:(sc.lookup id==Nz .cell)=NA:=H
       have e:env.kindOf id=Nz .cell:=by show env.scope.names.lookup id=_;rw[hs];exact Rt H
       show(if(env.kindOf id==Nz .local&&_)=NA then _ else _)=none;rw[e];rfl) d
     rw[QQ];exact .inl (bne_iff_ne.mpr (ZC b))
theorem IQ(h1:eU tg=NA):(assignEach [tg] env).map (·.2)=[assign tg env]:=by cases tg<;>first|rfl|cases h1
theorem IS{t v:Expr}(h:swapsWith v (Nz t) line env=pure NB):swapsWithSole [t] v line env=pure NB:=h
theorem uh(O:cI X (λ_=>NA) N sc CX E Φ Γ k){t:CT}{e:CE}{v:Expr}(h1:eU (iL t N tg)=NA)(h:(ko v||kq sc (iL t N tg))=NA)(f:gr v=NA)(g:qr (λ_=>NA) N sc t=NA)(i:PE X v (tE X.K X.mg E Φ Γ e)):PS X (.Assign [iL t N tg] v pos) (tS X.K X.mg E Φ Γ (.asgT t e)):=
 cq (jn i (j0 O g) (nW f) (og O.sc h1 h) (IQ h1)) λD u H z=>aG z λF p q S j c w=>by
  refine⟨F,_,_,S,j,c,(aF.bind w).mono λv H1 z=>aM z λl o d x s r W=>?_⟩;cases a:aE t d _ with
  |none=>rw[a]at W;exact W.elim
  |some m=>rw[a]at W;exact s_ a r (c.mono x) λn b=>W _ _ _ .refl s b
theorem AI{o i v:CE}{k b g:Expr}{p:Pos}(n:iK b=NA)(m:gr g=NA)(q:PE X k (tE X.K X.mg E Φ Γ o))(hi:PE X b (tE X.K X.mg E Φ Γ i))(r:PE X g (tE X.K X.mg E Φ Γ v)):PS X (.Assign [.Subscript k b p] g pos) (tS X.K X.mg E Φ Γ (.set o i v)):=
 cq (jn r (rg q hi xC (n_ n)) (IS (nW m)) rfl) λD σ H z=>aG z λF μ ρ S C a w=>by
  refine⟨F,_,_,S,C,a,(aF.bind w).mono λvv H1 z=>aM z λJ Q f x u R G=>?_⟩;refine⟨F,_,_,_,u,a.mono x,(aF.bind G).mono λZ N z=>aM z λK T d h y s I=>?_⟩;refine⟨F,_,_,_,y,(a.mono x).mono h,(aF.bind I).mono λY O z=>aM z λL U e j A t W=>?_⟩;cases c:iF d e f _ with
  |none=>rw[c]at W;exact W.elim
  |some V=>rw[c]at W;exact⟨F,_,_,d,e,f,A,Rep.mono j _ _ s,t,Rep.mono (h.trans j) _ _ R,_,c,λM P l B=>W _ _ _ l B ((((a.mono x).mono h).mono j).mono l)⟩
theorem ui{e:CE}{v:Expr}(h:gr v=NA)(b:PE X v (tE X.K X.mg E Φ Γ e)):PS X (.Expr v pos) (tS X.K X.mg E Φ Γ (.expr e)):=
 cq (lE b (nW h)) λD k H z=>aG z λF i j S c a w=>by exact⟨F,_,_,S,c,a,(aF.bind w).mono λv H1 z=>aM z λf g d x s r W=>W _ _ _ .refl s (a.mono x)⟩
theorem AJ{e:CE}{v:Expr}(h:PE X v (tE X.K X.mg E Φ Γ e)):PS X (.Return (Nz v) pos) (tS X.K X.mg E Φ Γ (.ret e)):=
 cq (q_ h) λD j H z=>aG z λF f g S c b w=>by simp only[aC]at w;exact⟨F,f,g,S,c,b,(aF.bind w).mono λv H1 z=>aM z λa i d x s r W=>W a H1 v .refl s r⟩
theorem uj:PS X (.Return none pos) (tS X.K X.mg E Φ Γ .retN):=cq lF λD c H z=>aG z λF a b S s e w=>w _ H _ .refl s jt
theorem uk:PS X (.Pass pos) (tS X.K X.mg E Φ Γ .pass):=cq lD λD c H z=>aG z λF a b S s e w=>w _ H _ .refl s e
theorem AK:PS X (.Break pos) (tS X.K X.mg E Φ Γ .brk):=cq E2 λD c H z=>aG z λF a b S s e w=>w _ H _ .refl s e
theorem ul:PS X (.Continue pos) (tS X.K X.mg E Φ Γ .cont):=cq E3 λD c H z=>aG z λF a b S s e w=>w _ H _ .refl s e
theorem IT{c:CE}{a b:List CS}{t:Expr}{x y:List O1}(i:PT X t (tT X.K X.mg E Φ Γ c))(h:fW X x (qG X.K X.mg E Φ Γ a))(g:fW X y (qG X.K X.mg E Φ Γ b)):PS X (.If t x y pos) (tS X.K X.mg E Φ Γ (.ite c a b)):=
 cq (wm i h g) λD p H z=>aG z λF n o S j e w=>by
  refine⟨F,_,_,S,j,e,(aF.bind w).mono λk H1 z=>aM z λl m K d s f W=>?_⟩;subst f;cases K with
  |true=>exact⟨F,_,_,_,s,e.mono d,W⟩
  |false=>exact⟨F,_,_,_,s,e.mono d,W⟩
theorem um:fW X [] (qG X.K X.mg E Φ Γ []):=km lz λD c H z=>aG z λF a b S s e w=>w _ H _ .refl s e
theorem oh{c:CS}{cs:List CS}{s:O1}{st:List O1}(h1:PS X s (tS X.K X.mg E Φ Γ c))(h:fW X st (qG X.K X.mg E Φ Γ cs)):fW X (s::st) (qG X.K X.mg E Φ Γ (c::cs)):=
 km (E1 h1 h) λD n H z=>aG z λF l m S b a w=>by exact⟨F,_,_,S,b,a,aF.seq w λd i g f j x k e W=>⟨F,_,_,_,k,e,W⟩⟩
theorem AL{M:GS}{D:Ends}{r:Res Fl}{f:bC->aa->Res Fl}{Nx:L2.St->Hp->Prop}(w:aF K M E D μ H (r.bind λF S'=>match F with
   | .next ρ'=>f ρ' S'
   | .cont ρ'=>f ρ' S'
   | .brk ρ'=>.ok (.next ρ') S'
   | .ret d=>.ok (.ret d) S')) (a:∀μ' H' σ' ρ' S',Ext μ H μ' H'->aO K M μ' S' H'->bb K M μ' H' ρ' σ'->aF K M E D μ' H' (f ρ' S')->Nx σ' H'):aF K M E {D with nx:=Nx,ct:=Nx,bk:=D.nx} μ H r:=by
 cases r with
 |ok F S=>
  cases F with
  |next b=>exact λm h s x k e=>a m h s _ S x k e (aF.ext x (show aF K _ E D _ H _ from w))
  |ret d=>exact w
  |brk b=>exact w
  |cont b=>exact λm h s x k e=>a m h s _ S x k e (aF.ext x (show aF K _ E D _ H _ from w))
 |err z S=>exact w
 |fail=>exact w
theorem oj{c:CE}{t:Expr}{x:List O1}(r:Rr (model X.prog X.w) X.A X.env X.xe)(p:PT X t (tT X.K X.mg E Φ Γ c))(o:fW X x (qG X.K X.mg E Φ Γ body)):PS X (.While t x [] pos) (tS X.K X.mg E Φ Γ (.while_ n c body)):=
 cq (E8 r p o) λD f H z=>aG z λF a b S s e w=>by
  refine⟨λm f H=>∃a b S,aO _ _ a S H/\bb _ _ a H b f/\aF _ _ E D a H (fO _ _ m b S),⟨n,_,_,S,s,e,w⟩,?_⟩;rintro m f H ⟨a,b,S,s,e,w⟩;cases m with
  |zero=>exact w.elim
  |succ m=>
   refine⟨F,_,_,S,s,e,(aF.bind w).mono λk H1 z=>aM z λy C K i h l W=>?_⟩;subst l;cases K with
   |true=>exact⟨_,λg j q=>⟨m,Oh m,q⟩,F,_,_,_,h,e.mono i,AL W λv j g A B x k d u=>⟨_,_,_,k,d,u⟩⟩
   |false=>exact W _ _ _ .refl h (e.mono i)
end
theorem uo(step:D->bC->aa->Res Fl)(xs:List D):∀(n i:Nat) (ρ:bC) (S:aa),i+n=xs.length->cC step (λ_ i=>Nz xs[i]?) (n+1) i ρ S=b0 step (xs.drop i) ρ S
 |0,i,ρ,S,h=>by rw[OS (by omega)];unfold cC;have:xs[i]?=none:=Oc.mpr (by omega);rw[this];rfl
 |n+1,i,ρ,S,h=>by
  have H:i<xs.length:=by omega
  rw[Ye H];unfold cC;rw[Zf H];show(step _ _ S).bind _=(step _ _ S).bind _;congr 1;funext f b;cases f with
  |next a=>exact uo _ _ n _ _ _ (by omega)
  |cont a=>exact uo _ _ n _ _ _ (by omega)
  |brk a=>rfl
  |ret d=>rfl
theorem ol(step:D->bC->aa->Res Fl)(its:iH)(ρ:bC)(S:aa):mF step its ρ S=cC step (aR its) (j1 its) 0 ρ S:=by
 cases its with
 |items x=>exact(uo step x x.length 0 ρ S (by omega)).symm
 |live f get=>rfl
noncomputable def dX(Φ:FT)(Γ:Str->Option D)(t:CT)(body:List CS):D->bC->aa->Res Fl:=λx ρ S=>match aE t x ρ with
 |some ρ'=>ah Φ Γ body ρ' S
 |none=>.fail
section
variable {E:XK}{pos:Pos}
theorem AM{t:CT}{it:CE}{i:Expr}{x:List O1}(Z:Rr (model X.prog X.w) X.A X.env X.xe)(U:X.calm=NA)(hi:PI X tg i (tI X.K X.mg E Φ Γ it))(V:PG X tg (qy X.K t))(hs:∀x,foldedSetIterable i X.env x=pure x)(T:fW X x (qG X.K X.mg E Φ Γ body)):
  PS X (.For tg i x [] pos) (tS X.K X.mg E Φ Γ (.for_ t it body)):=
 cq (rn Z U hi V T hs) λD u H zz=>aG zz λF b g S s r w=>by
  simp only[aC]at w;refine⟨F,b,g,S,s,r,am.mono (Rel:=λp c I J=>eV X.K ⟨X.mg,F⟩ J (aR I) p c) (aF.bind w) λJ H1 h=>?_⟩;obtain⟨j,M,I,x1,s1,ok,w1⟩:=h;have O:aF X.K ⟨X.mg,F⟩ E D j H1 (mF (dX Φ Γ t body) I g M):=w1;rw[ol]at O;refine⟨λi m u H=>∃b g S,dc X.K F j H1 F b H/\aO X.K ⟨X.mg,F⟩ b S H/\bb X.K ⟨X.mg,F⟩ b H g u/\aF X.K ⟨X.mg,F⟩ E D b H (cC (dX Φ Γ t body) (aR I) m i g S),⟨j1 I,j,g,M,.refl,s1,r.mono x1,O⟩,?_⟩;rintro i m u H ⟨b,g,S,N,s,r,w⟩;cases m with
  |zero=>exact w.elim
  |succ m=>
   unfold cC at w;obtain⟨k1,k2⟩:=ok i b S H F N s;cases e:aR I S i with
   |none=>rw[e]at w;exact w.elim
   |some o=>
    cases o with
    |none=>rw[e]at w;exact .inl ⟨k2 e,w b H u .refl s r⟩
    |some y=>
     rw[e]at w;obtain⟨R,Y⟩:=k1 y e;refine .inr ⟨R,λl c=>∃b g S,dc X.K F j H1 F b c/\aO X.K ⟨X.mg,F⟩ b S c/\bb X.K ⟨X.mg,F⟩ b c g l/\aF X.K ⟨X.mg,F⟩ E D b c (cC (dX Φ Γ t body) (aR I) m (i+1) g S),λl c q=>⟨m,Oh m,q⟩,λv c hv=>?_⟩;obtain⟨L,s2,r2⟩:=Y v c hv;have C:dc X.K F j H1 F b c:=N.trans (.of_ext L λ_ z=>.inl z);have w':=aF.ext L w
     have w3:aF X.K ⟨X.mg,F⟩ E D b c ((dX Φ Γ t body y g S).bind λQ n=>match Q with
      | .next a=>cC (dX Φ Γ t body) (aR I) m (i+1) a n
      | .cont a=>cC (dX Φ Γ t body) (aR I) m (i+1) a n
      | .brk a=>.ok (.next a) n
      | .ret d=>.ok (.ret d) n):=w'
     have W:=AL (f:=λa n=>cC (dX Φ Γ t body) (aR I) m (i+1) a n) (Nx:=λl c=>∃b g S,dc X.K F j H1 F b c/\aO X.K ⟨X.mg,F⟩ b S c/\bb X.K ⟨X.mg,F⟩ b c g l/\aF X.K ⟨X.mg,F⟩ E D b c (cC (dX Φ Γ t body) (aR I) m (i+1) g S)) w3
      λp P l a n x3 k B K=>⟨p,a,n,C.trans (.of_ext x3 λ_ z=>.inl z),k,B,K⟩
     unfold dX at W;cases A:aE t y g with
     |none=>simp only[A]at W;exact W.elim
     |some a=>simp only[A]at W;exact s_ A r2 (r.mono L) λσ2 G=>⟨F,b,a,S,s2,G,W⟩
end
section
variable {E:XK}
end
mutual
theorem uq(c:CS):∀{X:Cx} {N:Ls} {sc:Sc} {CX:ef} {E:XK} {Φ:FT} {Γ:Str->Option D} {k:Nat} {st:O1},M7 X N sc CX E Φ Γ k->IL c N sc st=NA->(∀z∈M6 c,XC X.prog X.w X.K X.mg z)->PS X (EG c N st) (tS X.K X.mg E Φ Γ c):=by
 intro X N sc CX E Φ Γ k st O h d;cases c with
 |asg i e=>exact AF O.x h
 |asgT t e=>exact uh O.x (kj (ab h).1) ((ab (ab h).2).1) (ab (ab (ab h).2).2).1 (ab (ab (ab (ab h).2).2).2).1 (aZ e O.x (ab (ab (ab (ab h).2).2).2).2)
 |set o i v=>exact AI (ab (ab h).1).1 (ab (ab h).2).1 (aZ o O.x (ab (ab (ab h).1).2).1) (aZ i O.x (ab (ab (ab h).1).2).2) (aZ v O.x (ab (ab h).2).2)
 |expr e=>exact ui (ab h).1 (aZ e O.x (ab h).2)
 |ret e=>exact AJ (aZ e O.x h)
 |retN=>exact uj
 |pass=>exact uk
 |brk=>exact AK
 |cont=>exact ul
 |ite c a b=>exact IT (er c O.x (ab h).1) (iY a O (ab (ab h).2).1 λz f=>d z (ZH _ f)) (iY b O (ab (ab h).2).2 λz f=>d z (Zt _ f))
 |for_ t it body=>exact AM O.own O.x.calm (nV it O.x (ab (ab h).2).1 kj) (j0 O.x (ab h).1) (nR (ab (ab (ab h).2).2).1) (iY body O (ab (ab (ab h).2).2).2 d)
 |while_ n c body=>exact oj O.own (er c O.x (ab h).1) (iY body O (ab h).2 d)
 |never=>exact λp s q H D I Z=>aG Z λF l m S j g w=>w.elim
 |raise_ x r=>exact λp s q H D I Z=>aG Z λF l m S j g w=>w.elim
theorem iY(cs:List CS):∀{X:Cx} {N:Ls} {sc:Sc} {CX:ef} {E:XK} {Φ:FT} {Γ:Str->Option D} {k:Nat} {st:List O1},M7 X N sc CX E Φ Γ k->fS cs N sc st=NA->(∀z∈fm cs,XC X.prog X.w X.K X.mg z)->fW X (fR cs N st) (qG X.K X.mg E Φ Γ cs):=by
 intro X N sc CX E Φ Γ k st O h a;cases cs with
 |nil=>exact um
 |cons c cs=>exact oh (uq c O (ab h).1 λz H=>a z (ZH _ H)) (iY cs O (ab h).2 λz H=>a z (Zt _ H))
end
mutual
noncomputable def bF(k:Nat):D->Bool
 | .tup xs=>bd k xs
 | .lst xs=>bd k xs
 | .scr xs=>bd k xs
 | .ref n=>decide (n<k)
 |_=>NA
noncomputable def bd(k:Nat):List D->Bool
 | []=>NA
 |x::xs=>bF k x&&bd k xs
end
noncomputable def cO(k:Nat)(d:D)(S':aa):Res D:=
 if(S'.take k).all (bd k)=NA then
  (if bF k d=NA then .ok d (S'.take k)else match d with
   | .ref n=>(match S'[n]? with
    |some xs=>if bd k xs=NA/\k<=n then .ok (.ref k) (S'.take k++[xs])else .fail
    |none=>.fail)
   |_=>.fail)
 else .fail
noncomputable def az(Φ:FT)(Γ:Str->Option D)(body:List CS)(n N:Nat)(ds:List D)(S:aa):Res D:=
 if ds.length=N then
  (match ah Φ Γ body (ds.map Nz++NG (n-N) none) S with
  | .ok (.ret d) S'=>cO S.length d S'
  | .ok (.next _) S'=>cO S.length .non S'
  | .err x S'=>if(S'.take S.length).all (bd S.length)=NA then .err x (S'.take S.length)else .fail
  |_=>.fail)
 else .fail
section
variable {mg:GS}{μ'':La}
mutual
theorem Rep.low(b:∀n,n<k->μ''[n]?=μ'[n]?)(hs:∀a∈μ'',a∈μ'):∀(d:D) (v:V),bF k d=NA->Rep K mg μ' H d v->Rep K mg μ'' H d v
 | .non,_,_,h=>h
 | .bl _,_,_,h=>h
 | .int _,_,_,h=>h
 | .str _,_,_,h=>h
 | .tup _,v,l,h=>by obtain⟨a,vs,e,q,r⟩:=h;exact⟨a,_,e,q,aj.low b hs _ _ l r⟩
 | .lst _,v,l,h=>by obtain⟨a,vs,e,q,n,r⟩:=h;exact⟨a,_,e,q,⟨λz=>n.1 (hs a z),n.2⟩,aj.low b hs _ _ l r⟩
 | .scr _,v,l,h=>by obtain⟨a,vs,e,q,r⟩:=h;exact⟨a,_,e,q,aj.low b hs _ _ l r⟩
 | .ref n,v,l,h=>by dsimp only[Rep]at h⊢;dsimp only[bF]at l;simp_all
 | .fn y,v,_,h=>h
 | .ty y,v,_,h=>h
 | .dct,v,_,h=>h
 | .dks _,v,_,h=>h
theorem aj.low(b:∀n,n<k->μ''[n]?=μ'[n]?)(hs:∀a∈μ'',a∈μ'):∀(ds:List D) (vs:List V),bd k ds=NA->aj K mg μ' H ds vs->aj K mg μ'' H ds vs
 | [],vs,_,h=>h
 |d::ds,vs,l,h=>by dsimp only[bd]at l;simp at l;obtain⟨w,W,e,r,q⟩:=h;exact⟨w,_,e,Rep.low b hs d w l.1 r,aj.low b hs _ _ l.2 q⟩
end
theorem Ext.cut(x:Ext μ H μ' H'):Ext μ H μ H':=⟨⟨[],by simp⟩,x.keep,x.there,λ_ h=>.inl h⟩
theorem aO.cut(x:Ext μ H μ' H')(f:μ.length=k)(s:aO K mg μ' S' H')(l:(S'.take k).all (bd k)=NA):aO K mg μ (S'.take k) H':=by obtain⟨r,rfl⟩:=x.pre;have g:=s.len;refine⟨s.live,by grind,(ZN.mp s.nd).1,λn a D e h=>?_⟩;have c:=h;rw[Pf (by grind)]at h;obtain⟨vs,q,R⟩:=s.at_ n a _ (by grind) h;exact⟨_,q,aj.low λm i=>by grind (λb d=>ZH _ d) _ _ (ZF.mp l _ (ZA c)) R⟩
theorem AN{E:XK}{Q:VK}(x:Ext μ H μ' H')(u:μ.length=k)(s:aO K mg μ' S' H')(r:Rep K mg μ' H' d v)(w:am K mg E (Rep K mg) μ H Q (cO k d S')):Q v H':=by
 unfold cO at w;split at w
 ·rename_i y;split at w
  ·rename_i J;refine w μ H' v x.cut (aO.cut x u s y) ?_;obtain⟨R,rfl⟩:=x.pre;exact Rep.low (k:=k) (λm l=>by rw[Zu (by omega)]) (λb f=>ZH _ f) _ _ J r
  ·split at w
   ·rename_i n M;split at w
    ·rename_i X N;split at w
     ·rename_i B;unfold Rep at r;obtain⟨a,rfl,p⟩:=r;obtain⟨vs,q,P⟩:=s.at_ n a X p N;have S:=aO.cut x u s y;obtain⟨R,rfl⟩:=x.pre;have j:=ZN.mp s.nd;have L:μ.length<=n:=by omega
      have e:a∈R:=by rw[Zs L]at p;exact ZA p
      have i:a∉μ:=λz=>j.2.2 a z a e rfl
      have t:H a=none:=by
       rcases x.fresh a (Zt _ e)with z|z
       ·exact absurd z i
       ·exact z
      have sub:∀b∈μ++[a],b∈μ++R:=λb f=>by
       rcases Zp.mp f with z|z
       ·exact ZH _ z
       ·have:b=a:=by simpa using z
        subst this;exact Zt _ e
      have same:∀m,m<k->(μ++[a])[m]?=(μ++R)[m]? :=λm l=>by rw[Zu (by omega),Zu (by omega)]
      have A:=s.len;simp at A;refine w (μ++[a]) H' (.ref a) ⟨⟨[a],rfl⟩,x.keep,x.there,λb f=>?_⟩ ⟨s.live,?_,?_,λm b D g h=>?_⟩ ?_
      ·rcases Zp.mp f with z|z
       ·exact .inl z
       ·have:b=a:=by simpa using z
        subst this;exact .inr t
      ·rw[Zz,Zz,N2];simp;omega
      ·rw[ZN]
       exact⟨j.1,by simp,λb f c I=>by
        have:c=a:=by simpa using I
        subst this;intro z;subst z;exact i f⟩
      ·by_cases l:m<μ.length
       ·rw[Zu l]at g;rw[Zu (by rw[N2];omega)]at h;have o:=h;rw[Pf (by omega)]at h;obtain⟨W,O,C⟩:=s.at_ m b D (by rw[Zu l];exact g) h;exact⟨W,O,aj.low (k:=k) same sub _ _ (ZF.mp y D (ZA o)) C⟩
       ·have F:m=μ.length:=by
         have:=(Zm.mp g).1;simp at this;omega
        subst F;rw[Zs (Zg _)]at g;rw[Zs (by rw[N2];omega)]at h;have G:μ.length-(S'.take k).length=0:=by rw[N2];omega
        rw[G]at h;simp at g h;subst g;subst h;exact⟨vs,q,aj.low (k:=k) same sub _ _ B.1 P⟩
      ·unfold Rep;exact⟨a,rfl,by rw[<-u,Zs (Zg _)];simp⟩
     ·exact w.elim
    ·exact w.elim
   ·exact w.elim
 ·exact w.elim
end
theorem IU{m:GS}{vs:List V}(r:aj K m μ H ds vs):bb K m μ H (ds.map Nz++NG (N.length-ds.length) none) (L2.start N vs):=by
 unfold L2.start;have c:=r.length;refine⟨by simp[c],λi d e=>?_⟩;by_cases h:i<ds.length
 ·rw[Zu (by simpa using h),Z0]at e;cases E:ds[i]? with
  |none=>rw[E]at e;cases e
  |some D=>rw[E]at e;cases e;obtain⟨v,a,b⟩:=r.get E;exact⟨v,by rw[Zu (by simp;omega),Z0,a];rfl,b⟩
 ·rw[Zs (by simpa using h),Se]at e;split at e<;>cases e
theorem bV.mono{j:Nat}{f:Str}(F:bV P w K mg base CX j f φ)(h:j<=k):bV P w K mg base CX k f φ:=by obtain⟨d,e,p,m,M,a,b,c⟩:=F.ex;exact⟨_,_,_,m,M,a,b.mono h,c⟩
theorem AO{x:Str}{st:O1}{B:OW}(F:vU K x qual st f B)(S:c9 N ps (dJ st))(M:EC P w K mg base (br P w) Φ Γ k)(U:fR body N (dt st)=dt st)(T:fS body N (dJ st).names (dt st)=NA)(Y:∀z∈fm body,XC P w K mg z):
  c_ P w K mg base (br P w) (k+1) f B ps (sH K mg ps.length (az Φ Γ body N.length ps.length)):=by
 obtain⟨oc,od,kV,J,pm,an,i,ct,Z,rfl,lk,j⟩:=F.ex;refine wN lk j S (λvs H Q E h=>h.1) λA o s H vs Q E X h=>?_
 ·obtain⟨V,F',μ,t,O,D,r,W⟩:=h;have L:lq (gN _ P w K mg base N qual (dJ st) f i A o s H E) E:=lq.of;refine⟨_,U▸iY _ ⟨⟨rfl,S.nd,rfl,S.kind,rfl,X,λ_ _=>rfl,M,L.pass,qH⟩,L.own,rfl,⟨rfl,rfl,rfl⟩,λpq σ H1 s1 h2 e C u I m q=>L.made I m q⟩ T Y,_,_,_,_,D,IU r,?_⟩;have b:O.length=ps.length:=by rw[r.length];exact V
  unfold az at W;rw[if_pos b,<-b]at W;have a:=D.len;cases e:ah _ _ _ _ _ with
  |ok R p=>
   rw[e]at W;cases R with
   |next G=>exact λg n σ' x c _=>AN x a c jt W
   |ret d=>exact λg n v x c r'=>AN x a c r' W
   |brk G=>exact W.elim
   |cont G=>exact W.elim
  |err y p=>
   rw[e]at W;intro g n x c;by_cases l:(p.take t.length).all (bd t.length)=NA
   ·simp[l]at W;exact W _ _ x.cut (aO.cut x a c l)
   ·simp[l]at W;exact W.elim
  |fail=>rw[e]at W;exact W.elim
theorem Nt{x:Str}{st:O1}{a:OW}(F:vU K x qual st f a)(S:c9 N ps (dJ st))(g:mg x=Nz (.ref f))(b:Binds K a ps [])(M:EC P w K mg base (br P w) Φ Γ k)(e:fR body N (dt st)=dt st)(c:fS body N (dJ st).names (dt st)=NA)(i:∀z∈fm body,XC P w K mg z):
  bV P w K mg base (br P w) (k+1) x (az Φ Γ body N.length ps.length):=by
 refine⟨f,a,ps,g,F.kp,b,AO F S M e c i,λd j H=>?_⟩;unfold az at H;by_cases h:d.length=ps.length
 ·exact h
 ·rw[if_neg h]at H;exact absurd rfl H
theorem dY{P:Lv->Prop}(h:∀a,P [a]):∀us:Lv,us.length=1->P us:=λus H=>by obtain⟨a,rfl⟩:=List.length_eq_one_iff.mp H;exact h a
theorem bU{P:Lv->Prop}(h:∀a b,P [a,b]):∀us:Lv,us.length=2->P us:=λus H=>by
 cases us with
 |nil=>cases H
 |cons a us=>exact dY (P:=λus=>P _) (h a) _ (Q9 H)
theorem ur{P:Lv->Prop}(h:∀a b c,P [a,b,c]):∀us:Lv,us.length=3->P us:=λus H=>by
 cases us with
 |nil=>cases H
 |cons a us=>exact bU (P:=λus=>P _) (h a) _ (Q9 H)
noncomputable def tbl(l:List (Str×(List D->aa->Res D))):FT:=λf=>l.lookup f
theorem M8{l:List (Str×(List D->aa->Res D))}(h:∀p∈l,bV P w K mg base (br P w) k p.1 p.2)(b:∀x d,Γ x=Nz d->∃v u,mg x=Nz u/\RelV v u/\∀F μ H,Rep K ⟨mg,F⟩ μ H d v)(a:∀x∈gh,mg x=none):EC P w K mg base (br P w) (tbl l) Γ k:=
 ⟨λf c e=>h _ (ZS e),b,a⟩
end Py
namespace K52
noncomputable def G0:Str->Option D:=λx=>[(("MOST_PLACES":Str),D.int 8)].lookup x
noncomputable def IV:Ls:=["thing"]
noncomputable def IW:List CS:=[.ret (.band (.blt .isinst [.var 0,.ty "int"]) (.bnot (.blt .isinst [.var 0,.ty "bool"])))]
noncomputable def IX:FT:=tbl []
noncomputable def om:List D->aa->Res D:=az IX G0 IW IV.length 1
noncomputable def AQ:Ls:=["thing","low","high"]
noncomputable def AR:List CS:=[.ret (.band (.call "is_number" [.var 0]) (.chain .LtE .LtE (.var 1) (.var 0) (.var 2)))]
noncomputable def AS:FT:=tbl [("is_number",om)]
theorem IY:AS "is_number"=Nz om:=rfl
noncomputable def iZ:List D->aa->Res D:=az AS G0 AR AQ.length 3
noncomputable def IZ:Ls:=["many","thing"]
noncomputable def AU:List CS:=[.ret (.call "is_number_from" [.var 1,.lit (.int 0),.bin .Sub (.var 0) (.lit (.int 1))])]
noncomputable def AV:FT:=tbl [("is_number_from",iZ)]
theorem I0:AV "is_number_from"=Nz iZ:=rfl
noncomputable def oo:List D->aa->Res D:=az AV G0 AU IZ.length 2
noncomputable def AW:Ls:=["things"]
noncomputable def AX:List CS:=[.ret (.blt .all [.comp NB ["one","other"] [none,none] (.tup [.var 0,.var 1]) (.zip [.var 0,.sl (.var 0) [.lit (.int 1)] []]) [] (.emit (.cmp .Lt (.var 0) (.var 1)))])]
noncomputable def I7:FT:=tbl []
noncomputable def et:List D->aa->Res D:=az I7 G0 AX AW.length 1
noncomputable def AY:Ls:=["many","thing"]
noncomputable def AZ:List CS:=[.ret (.band (.blt .isinst [.var 1,.ty "tuple"]) (.blt .all [.comp NB ["place","many"] [none,Nz 0] (.var 0) (.seq (.var 1)) [] (.emit (.call "is_place" [.var 1,.var 0]))]))]
noncomputable def A0:FT:=tbl [("is_place",oo)]
theorem I8:A0 "is_place"=Nz oo:=rfl
noncomputable def gu:List D->aa->Res D:=az A0 G0 AZ AY.length 2
noncomputable def I9:Ls:=["things"]
noncomputable def ut:List CS:=[.ret (.cmp .Eq (.lenset (.var 0)) (.blt .len [.var 0]))]
noncomputable def I_:FT:=tbl []
noncomputable def g5:List D->aa->Res D:=az I_ G0 ut I9.length 1
noncomputable def A3:Ls:=["many","thing"]
noncomputable def A7:List CS:=[.ret (.band (.call "are_places" [.var 0,.var 1]) (.band (.cmp .Eq (.blt .len [.var 1]) (.lit (.int 2))) (.call "is_rising" [.var 1])))]
noncomputable def uu:FT:=tbl [("are_places",gu),("is_rising",et)]
theorem I':uu "are_places"=Nz gu:=rfl
theorem Ja:uu "is_rising"=Nz et:=rfl
noncomputable def i0:List D->aa->Res D:=az uu G0 A7 A3.length 2
noncomputable def A8:Ls:=["thing","many","ties"]
noncomputable def A9:List CS:=[.ite (.bor (.bnot (.blt .isinst [.var 0,.ty "tuple"])) (.cmp .NotEq (.blt .len [.var 0]) (.lit (.int 2)))) [.ret (.lit (.bl NB))] [],.asgT (.tup [.var 1,.var 2]) (.var 0),.ite (.bor (.bnot (.call "is_number_from" [.var 1,.lit (.int 1),.glob "MOST_PLACES"])) (.bnot (.blt .isinst [.var 2,.ty "tuple"]))) [.ret (.lit (.bl NB))] [],.ret (.band (.blt .all [.comp NB ["tie","many"] [none,Nz 1] (.var 0) (.seq (.var 2)) [] (.emit (.call "is_tie" [.var 1,.var 0]))]) (.call "is_rising" [.var 2]))]
noncomputable def oq:FT:=tbl [("is_rising",et),("is_number_from",iZ),("is_tie",i0)]
theorem Jb:oq "is_rising"=Nz et:=rfl
theorem Jc:oq "is_number_from"=Nz iZ:=rfl
theorem A_:oq "is_tie"=Nz i0:=rfl
noncomputable def ot:List D->aa->Res D:=az oq G0 A9 A8.length 1
noncomputable def A':Ls:=["web","thing"]
noncomputable def Ba:List CS:=[.ret (.band (.call "are_places" [.idx (.var 0) (.lit (.int 0)),.var 1]) (.call "is_rising" [.var 1]))]
noncomputable def uv:FT:=tbl [("are_places",gu),("is_rising",et)]
theorem Jd:uv "are_places"=Nz gu:=rfl
theorem Je:uv "is_rising"=Nz et:=rfl
noncomputable def ou:List D->aa->Res D:=az uv G0 Ba A'.length 2
noncomputable def Bb:Ls:=["web","thing"]
noncomputable def Bc:List CS:=[.ite (.bnot (.blt .isinst [.var 1,.ty "tuple"])) [.ret (.lit (.bl NB))] [],.ret (.band (.blt .all [.comp NB ["tie","web"] [none,Nz 0] (.var 0) (.seq (.var 1)) [] (.emit (.band (.call "is_tie" [.idx (.var 1) (.lit (.int 0)),.var 0]) (.cmp .In (.var 0) (.idx (.var 1) (.lit (.int 1))))))]) (.call "is_rising" [.var 1]))]
noncomputable def uw:FT:=tbl [("is_rising",et),("is_tie",i0)]
theorem Jf:uw "is_rising"=Nz et:=rfl
theorem Jg:uw "is_tie"=Nz i0:=rfl
noncomputable def ov:List D->aa->Res D:=az uw G0 Bc Bb.length 2
noncomputable def Bd:Ls:=["thing"]
noncomputable def Be:List CS:=[.ite (.bnot (.call "is_web" [.var 0])) [.raise_ "NoWeb" [.lit (.str "this is no web")]] []]
noncomputable def Bf:FT:=tbl [("is_web",ot)]
theorem Jh:Bf "is_web"=Nz ot:=rfl
noncomputable def fo:List D->aa->Res D:=az Bf G0 Be Bd.length 1
noncomputable def Bg:Ls:=["web","thing"]
noncomputable def Bh:List CS:=[.ite (.bnot (.call "is_some" [.var 0,.var 1])) [.raise_ "NoPlaces" [.lit (.str "this is no rising tuple of places of the web")]] []]
noncomputable def Bi:FT:=tbl [("is_some",ou)]
theorem Ji:Bi "is_some"=Nz ou:=rfl
noncomputable def ox:List D->aa->Res D:=az Bi G0 Bh Bg.length 2
noncomputable def Bj:Ls:=["one","other"]
noncomputable def Bk:List CS:=[.ret (.tup [.blt .min [.var 0,.var 1],.blt .max [.var 0,.var 1]])]
noncomputable def Jj:FT:=tbl []
noncomputable def oy:List D->aa->Res D:=az Jj G0 Bk Bj.length 2
noncomputable def Jk:Ls:=["web","one","other"]
noncomputable def Bl:List CS:=[.ret (.cmp .In (.call "tie_of" [.var 1,.var 2]) (.idx (.var 0) (.lit (.int 1))))]
noncomputable def Bm:FT:=tbl [("tie_of",oy)]
theorem Jl:Bm "tie_of"=Nz oy:=rfl
noncomputable def g6:List D->aa->Res D:=az Bm G0 Bl Jk.length 3
noncomputable def ux:Ls:=["web","left","start","reached","waiting","here","fresh"]
noncomputable def kt:List CS:=[.asg 3 (.lst NA [.var 2]),.asg 4 (.lst NA [.var 2]),.while_ 100 (.var 4) [.asg 5 (.meth .pop (.var 4) []),.asg 6 (.comp NB ["place","reached","web","here"] [none,Nz 3,Nz 0,Nz 5] (.var 0) (.seq (.var 1)) [.band (.cmp .NotIn (.var 0) (.var 1)) (.call "have_tie" [.var 2,.var 3,.var 0])] (.emit (.var 0))),.expr (.meth .extend (.var 3) [.var 6]),.expr (.meth .extend (.var 4) [.var 6])],.ret (.blt .tuple [.blt (.sorted NB (.int)) [.var 3]])]
noncomputable def eY:FT:=tbl [("have_tie",g6)]
theorem Jm:eY "have_tie"=Nz g6:=rfl
noncomputable def ku:List D->aa->Res D:=az eY G0 kt ux.length 3
noncomputable def Bn:Ls:=["web","some","left","found","place"]
noncomputable def Bo:List CS:=[.expr (.call "must_be_web" [.var 0]),.expr (.call "must_be_some" [.var 0,.var 1]),.asg 2 (.comp NB ["place","some"] [none,Nz 1] (.var 0) (.range [.idx (.var 0) (.lit (.int 0))]) [.cmp .NotIn (.var 0) (.var 1)] (.emit (.var 0))),.asg 3 (.lst NA []),.for_ (.var 4) (.seq (.var 2)) [.ite (.bnot (.blt .any [.comp NB ["piece","place"] [none,Nz 4] (.var 0) (.seq (.var 3)) [] (.emit (.cmp .In (.var 1) (.var 0)))])) [.expr (.meth .append (.var 3) [.call "piece_of" [.var 0,.var 2,.var 4]])] []],.ret (.var 3)]
noncomputable def fq:FT:=tbl [("must_be_web",fo),("must_be_some",ox),("piece_of",ku)]
theorem Jn:fq "must_be_web"=Nz fo:=rfl
theorem Jo:fq "must_be_some"=Nz ox:=rfl
theorem Jp:fq "piece_of"=Nz ku:=rfl
noncomputable def oz:List D->aa->Res D:=az fq G0 Bo Bn.length 2
noncomputable def Bp:Ls:=["web","thing"]
noncomputable def Jq:List CS:=[.expr (.call "must_be_web" [.var 0]),.ret (.band (.call "are_ties" [.var 0,.var 1]) (.call "are_unlike" [.comp NB ["tie","place"] [none,none] (.var 0) (.seq (.var 1)) [] (.inner (.var 1) (.seq (.var 0)) [] (.emit (.var 1)))]))]
noncomputable def oA:FT:=tbl [("must_be_web",fo),("are_ties",ov),("are_unlike",g5)]
theorem Jr:oA "must_be_web"=Nz fo:=rfl
theorem Js:oA "are_ties"=Nz ov:=rfl
theorem Jt:oA "are_unlike"=Nz g5:=rfl
noncomputable def oB:List D->aa->Res D:=az oA G0 Jq Bp.length 2
noncomputable def Bq:Ls:=["web","thing"]
noncomputable def Br:List CS:=[.ite (.bnot (.call "is_pairing" [.var 0,.var 1])) [.raise_ "NoPairing" [.lit (.str "this is no pairing of the web")]] []]
noncomputable def Bs:FT:=tbl [("is_pairing",oB)]
theorem Ju:Bs "is_pairing"=Nz oB:=rfl
noncomputable def g7:List D->aa->Res D:=az Bs G0 Br Bq.length 2
noncomputable def Bt:Ls:=["pairing","place","low","high"]
noncomputable def Bu:List CS:=[.for_ (.tup [.var 2,.var 3]) (.seq (.var 0)) [.ite (.cmp .Eq (.var 1) (.var 2)) [.ret (.var 3)] [],.ite (.cmp .Eq (.var 1) (.var 3)) [.ret (.var 2)] []],.ret (.lit (.non))]
noncomputable def kv:FT:=tbl []
noncomputable def fv:List D->aa->Res D:=az kv G0 Bu Bt.length 2
noncomputable def Jv:Ls:=["web","ties"]
noncomputable def Bv:List CS:=[.ret (.blt .tuple [.comp NB ["place","ties"] [none,Nz 1] (.var 0) (.range [.idx (.var 0) (.lit (.int 0))]) [.cmp .Is (.call "mate_of" [.var 1,.var 0]) (.lit (.non))] (.emit (.var 0))])]
noncomputable def Bw:FT:=tbl [("mate_of",fv)]
theorem Jw:Bw "mate_of"=Nz fv:=rfl
noncomputable def oC:List D->aa->Res D:=az Bw G0 Bv Jv.length 2
noncomputable def Jx:Ls:=["web","found","place","ties"]
noncomputable def Bx:List CS:=[.expr (.call "must_be_web" [.var 0]),.asg 1 (.lst NB [.tup []]),.for_ (.var 2) (.down [.idx (.var 0) (.lit (.int 0))]) [.asg 3 (.comp NB ["tie","place"] [none,Nz 2] (.var 0) (.seq (.idx (.var 0) (.lit (.int 1)))) [.cmp .Eq (.idx (.var 0) (.lit (.int 0))) (.var 1)] (.emit (.var 0))),.asg 1 (.bin .Add (.var 1) (.comp NB ["tie","pairing","found"] [none,none,Nz 1] (.var 0) (.seq (.var 3)) [] (.inner (.var 1) (.seq (.var 2)) [.cmp .Is (.call "mate_of" [.var 1,.idx (.var 0) (.lit (.int 1))]) (.lit (.non))] (.emit (.bin .Add (.tup [.var 0]) (.var 1))))))],.ret (.blt (.sorted NA (.seq (.seq .int))) [.var 1])]
noncomputable def gv:FT:=tbl [("must_be_web",fo),("mate_of",fv)]
theorem Jy:gv "must_be_web"=Nz fo:=rfl
theorem Jz:gv "mate_of"=Nz fv:=rfl
noncomputable def i3:List D->aa->Res D:=az gv G0 Bx Jx.length 1
noncomputable def uy:Ls:=["web","found","many"]
noncomputable def JA:CE:=.comp NB ["pairing"] [none] (.var 0) (.seq (.var 1)) [] (.emit (.blt .len [.var 0]))
noncomputable def EH:CE:=.comp NA ["pairing","many"] [none,Nz 2] (.var 0) (.seq (.var 1)) [.cmp .Eq (.blt .len [.var 0]) (.var 1)] (.emit (.var 0))
noncomputable def kw:List CS:=[.asg 1 (.call "all_pairings" [.var 0]),.asg 2 (.blt .max [JA]),.ret EH]
noncomputable def eO:FT:=tbl [("all_pairings",i3)]
theorem JB:eO "all_pairings"=Nz i3:=rfl
noncomputable def i5:List D->aa->Res D:=az eO G0 kw uy.length 1
noncomputable def uz:Ls:=["web","free","missed","others","beside"]
noncomputable def kx:CE:=.comp NB ["pairing","place","web"] [none,none,Nz 0] (.var 0) (.seq (.call "greatest" [.var 0])) [] (.inner (.var 1) (.seq (.call "loose_of" [.var 2,.var 0])) [] (.emit (.var 1)))
noncomputable def By:CE:=.comp NB ["other","web","place"] [none,Nz 2,Nz 0] (.var 0) (.seq (.var 1)) [] (.emit (.call "have_tie" [.var 1,.var 2,.var 0]))
noncomputable def ky:CE:=.comp NB ["place","missed","web"] [none,Nz 2,Nz 0] (.var 0) (.seq (.var 3)) [.blt .any [By]] (.emit (.var 0))
noncomputable def kz:List CS:=[.asg 1 kx,.asg 2 (.blt .tuple [.sset (.var 1)]),.asg 3 (.comp NB ["place","missed"] [none,Nz 2] (.var 0) (.range [.idx (.var 0) (.lit (.int 0))]) [.cmp .NotIn (.var 0) (.var 1)] (.emit (.var 0))),.asg 4 (.blt .tuple [ky]),.ret (.tup [.var 2,.var 4,.blt .tuple [.comp NB ["place","beside"] [none,Nz 4] (.var 0) (.seq (.var 3)) [.cmp .NotIn (.var 0) (.var 1)] (.emit (.var 0))]])]
noncomputable def dd:FT:=tbl [("greatest",i5),("loose_of",oC),("have_tie",g6)]
theorem JC:dd "greatest"=Nz i5:=rfl
theorem JD:dd "loose_of"=Nz oC:=rfl
theorem JE:dd "have_tie"=Nz g6:=rfl
noncomputable def g8:List D->aa->Res D:=az dd G0 kz uz.length 1
noncomputable def JF:Ls:=["web","missed","beside","rest"]
noncomputable def JG:List CS:=[.asgT (.tup [.var 1,.var 2,.var 3]) (.call "parts" [.var 0]),.ret (.call "pieces_without" [.var 0,.blt .tuple [.blt (.sorted NB (.int)) [.bin .Add (.var 2) (.var 3)]]])]
noncomputable def uA:FT:=tbl [("parts",g8),("pieces_without",oz)]
theorem JH:uA "parts"=Nz g8:=rfl
theorem JI:uA "pieces_without"=Nz oz:=rfl
noncomputable def kA:List D->aa->Res D:=az uA G0 JG JF.length 1
noncomputable def uB:Ls:=["web","pairing","missed","beside","rest","homes","mates","inside"]
noncomputable def JJ:CE:=.comp NB ["place","pairing","rest"] [none,Nz 1,Nz 4] (.var 0) (.seq (.var 4)) [] (.emit (.cmp .In (.call "mate_of" [.var 1,.var 0]) (.var 2)))
noncomputable def JK:CE:=.comp NB ["place","pairing"] [none,Nz 1] (.var 0) (.seq (.var 3)) [] (.emit (.call "mate_of" [.var 1,.var 0]))
noncomputable def JL:CE:=.comp NB ["place","missed"] [none,Nz 2] (.var 0) (.seq (.var 6)) [] (.emit (.cmp .In (.var 0) (.var 1)))
noncomputable def JM:CE:=.inner (.var 1) (.seq (.var 2)) [.cmp .In (.var 1) (.var 0)] (.emit (.var 0))
noncomputable def EI:CE:=.comp NB ["piece","place","mates"] [none,none,Nz 6] (.var 0) (.seq (.var 5)) [] JM
noncomputable def M9:CE:=.comp NB ["place","pairing","piece"] [none,Nz 1,Nz 0] (.var 0) (.seq (.var 0)) [.cmp .In (.call "mate_of" [.var 1,.var 0]) (.var 2)] (.emit (.var 0))
noncomputable def JN:CE:=.comp NB ["piece","pairing"] [none,Nz 1] (.var 0) (.seq (.var 5)) [] (.emit (.blt .len [M9]))
noncomputable def JO:CE:=.comp NB ["piece"] [none] (.var 0) (.seq (.var 5)) [] (.emit (.bin .Sub (.blt .len [.var 0]) (.lit (.int 1))))
noncomputable def kB:List CS:=[.expr (.call "must_be_pairing" [.var 0,.var 1]),.asgT (.tup [.var 2,.var 3,.var 4]) (.call "parts" [.var 0]),.asg 5 (.call "missed_pieces" [.var 0]),.ite (.bnot (.blt .all [JJ])) [.ret (.lit (.bl NB))] [],.asg 6 JK,.ite (.bnot (.blt .all [JL])) [.ret (.lit (.bl NB))] [],.ite (.bnot (.call "are_unlike" [EI])) [.ret (.lit (.bl NB))] [],.asg 7 JN,.ret (.cmp .Eq (.var 7) JO)]
noncomputable def bG:FT:=tbl [("must_be_pairing",g7),("parts",g8),("missed_pieces",kA),("mate_of",fv),("are_unlike",g5)]
theorem JP:bG "must_be_pairing"=Nz g7:=rfl
theorem JQ:bG "parts"=Nz g8:=rfl
theorem JR:bG "missed_pieces"=Nz kA:=rfl
theorem uC:bG "mate_of"=Nz fv:=rfl
theorem JS:bG "are_unlike"=Nz g5:=rfl
noncomputable def oD:List D->aa->Res D:=az bG G0 kB uB.length 2
noncomputable def Bz:Ls:=["_law_script","_law_k"]
noncomputable def BA:List CS:=[.ite (.cmp .Lt (.var 1) (.blt .len [.var 0])) [.ret (.idx (.var 0) (.var 1))] [],.ret (.lit (.int 0))]
noncomputable def JT:FT:=tbl []
noncomputable def i6:List D->aa->Res D:=az JT G0 BA Bz.length 2
noncomputable def JU:Ls:=["_law_cell","_law_k","_law_number"]
noncomputable def uD:List CS:=[.asg 2 (.bin .Mod (.bin .Mult (.bin .Add (.bin .Add (.bin .Mod (.var 0) (.lit (.int 2147483647))) (.bin .Mult (.lit (.int 977)) (.var 1))) (.lit (.int 1))) (.lit (.int 48271))) (.lit (.int 2147483647))),.asg 2 (.bin .Mod (.bin .Mult (.var 2) (.var 2)) (.lit (.int 2147483629))),.asg 2 (.bin .Mod (.bin .Mult (.bin .Add (.var 2) (.bin .Mult (.lit (.int 40692)) (.bin .Add (.var 1) (.lit (.int 3))))) (.lit (.int 69621))) (.lit (.int 2147483647))),.ret (.bin .FloorDiv (.var 2) (.lit (.int 8)))]
noncomputable def BB:FT:=tbl []
noncomputable def eZ:List D->aa->Res D:=az BB G0 uD JU.length 2
noncomputable def uE:Ls:=["_law_cell","_law_top","_law_many","_law_left","_law_way","_law_ties","_law_b","_law_a","_law_chance","_law_rows"]
noncomputable def oE:CE:=.bin .BitAnd (.bin .RShift (.bin .FloorDiv (.var 3) (.lit (.int 6))) (.bin .Add (.bin .FloorDiv (.bin .Mult (.var 6) (.bin .Sub (.var 6) (.lit (.int 1)))) (.lit (.int 2))) (.var 7))) (.lit (.int 1))
noncomputable def wW(k:Int)(b:List CS):CS:=.ite (.cmp .Eq (.var 4) (.lit (.int k))) b []
noncomputable def lr:CE:=.call "_law_stir" [.var 0,.bin .Add (.bin .Mult (.lit (.int 8)) (.var 7)) (.var 6)]
noncomputable def oF:CE:=.bin .FloorDiv (.bin .Mod lr (.lit (.int 3))) (.lit (.int 2))
noncomputable def oG:CE:=.bin .FloorDiv (.bin .Add (.bin .Mod lr (.lit (.int 4))) (.lit (.int 2))) (.lit (.int 3))
noncomputable def qJ:CE:=.cmp .Eq (.var 6) (.bin .Add (.var 7) (.lit (.int 1)))
noncomputable def oH:CE:=.bor (.cmp .Eq (.var 6) (.bin .Add (.var 7) (.lit (.int 1)))) (.cmp .Eq (.bin .Sub (.var 6) (.var 7)) (.bin .Sub (.var 2) (.lit (.int 1))))
noncomputable def oI:CE:=.band (.cmp .Eq (.var 6) (.bin .Add (.var 7) (.lit (.int 1)))) (.cmp .Lt (.bin .Mod (.var 7) (.lit (.int 3))) (.lit (.int 2)))
noncomputable def ls:CE:=.lst NB [qJ,oH,.cmp .Eq (.var 7) (.lit (.int 0)),.lit (.bl NA),oI]
noncomputable def lu:CE:=.blt .int [.idx (.var 9) (.bin .Mod (.bin .FloorDiv (.var 3) (.lit (.int 6))) (.lit (.int 5)))]
noncomputable def wB:List CS:=[.asg 8 oE,wW 3 [.asg 8 oF],wW 4 [.asg 8 oG],wW 5 [.asg 9 ls,.asg 8 lu],.ite (.cmp .Eq (.var 8) (.lit (.int 1))) [.expr (.meth .append (.var 5) [.tup [.var 7,.var 6]])] []]
noncomputable def wA:List CS:=[.for_ (.var 7) (.range [.var 6]) wB]
noncomputable def kC:List CS:=[.asg 2 (.bin .Add (.lit (.int 1)) (.bin .Mod (.var 0) (.var 1))),.asg 3 (.bin .FloorDiv (.var 0) (.var 1)),.asg 4 (.bin .Mod (.var 3) (.lit (.int 6))),.asg 5 (.lst NA []),.for_ (.var 6) (.range [.lit (.int 1),.var 2]) wA,.ret (.tup [.var 2,.blt .tuple [.blt (.sorted NB (.seq .int)) [.var 5]]])]
noncomputable def cr:FT:=tbl [("_law_stir",eZ)]
theorem JV:cr "_law_stir"=Nz eZ:=rfl
noncomputable def i7:List D->aa->Res D:=az cr G0 kC uE.length 2
noncomputable def JW:Ls:=["_law_tie","_law_line"]
noncomputable def BC:CE:=.bor (.cmp .In (.idx (.var 1) (.lit (.int 0))) (.var 0)) (.cmp .In (.idx (.var 1) (.lit (.int 1))) (.var 0))
noncomputable def BD:CE:=.comp NB ["_law_one","_law_tie"] [none,Nz 0] (.var 0) (.seq (.var 1)) [] (.emit BC)
noncomputable def kD:List CS:=[.ret (.bnot (.blt .any [BD]))]
noncomputable def fT:FT:=tbl []
noncomputable def g9:List D->aa->Res D:=az fT G0 kD JW.length 2
noncomputable def JX:Ls:=["_law_web_here","_law_rows","_law_tie"]
noncomputable def JY:CE:=.comp NB ["_law_line","_law_tie"] [none,Nz 2] (.var 0) (.seq (.var 1)) [.call "_law_free" [.var 1,.var 0]] (.emit (.bin .Add (.var 0) (.tup [.var 1])))
noncomputable def v6:List CS:=[.asg 1 (.bin .Add (.var 1) JY)]
noncomputable def BE:List CS:=[.asg 1 (.lst NB [.tup []]),.for_ (.var 2) (.seq (.idx (.var 0) (.lit (.int 1)))) v6,.ret (.blt (.sorted NB (.seq (.seq .int))) [.var 1])]
noncomputable def g_:FT:=tbl [("_law_free",g9)]
theorem JZ:g_ "_law_free"=Nz g9:=rfl
noncomputable def gw:List D->aa->Res D:=az g_ G0 BE JX.length 1
noncomputable def uF:Ls:=["_law_web_here","_law_cell","_law_first","_law_often","_law_line","_law_k","_law_tie"]
noncomputable def oJ:CE:=.idx (.var 0) (.lit (.int 1))
noncomputable def J1:CE:=.bin .Mod (.call "_law_stir" [.var 1,.lit (.int 70)]) (.bin .Add (.blt .len [oJ]) (.lit (.int 1)))
noncomputable def J2:CE:=.bin .Add (.lit (.int 1)) (.bin .Mod (.call "_law_stir" [.var 1,.lit (.int 69)]) (.lit (.int 5)))
noncomputable def EJ:CE:=.enum [.bin .Add (.sl oJ [.var 2] []) (.sl oJ [] [.var 2])]
noncomputable def oM:CE:=.cmp .Lt (.bin .Mod (.call "_law_stir" [.var 1,.bin .Add (.lit (.int 71)) (.var 5)]) (.lit (.int 6))) (.bin .Add (.var 3) (.lit (.int 1)))
noncomputable def BF:CE:=.call "_law_free" [.var 6,.var 4]
noncomputable def BG:List CS:=[.ite (.band oM BF) [.expr (.meth .append (.var 4) [.var 6])] []]
noncomputable def kE:List CS:=[.asg 2 J1,.asg 3 J2,.asg 4 (.lst NA []),.for_ (.tup [.var 5,.var 6]) EJ BG,.ret (.blt .tuple [.blt (.sorted NB (.seq .int)) [.var 4]])]
noncomputable def cZ:FT:=tbl [("_law_stir",eZ),("_law_free",g9)]
theorem uG:cZ "_law_stir"=Nz eZ:=rfl
theorem J3:cZ "_law_free"=Nz g9:=rfl
noncomputable def hE:List D->aa->Res D:=az cZ G0 kE uF.length 2
noncomputable def J4:Ls:=["_law_web_here","_law_line","_law_found","_law_one","_law_other"]
noncomputable def J5:List CS:=[.asg 2 (.binB (.lst NB [.neg (.lit (.int 1))]) (.idx (.var 0) (.lit (.int 0)))),.for_ (.tup [.var 3,.var 4]) (.seq (.var 1)) [.set (.var 2) (.var 3) (.var 4),.set (.var 2) (.var 4) (.var 3)],.ret (.var 2)]
noncomputable def i8:FT:=tbl []
noncomputable def kF:List D->aa->Res D:=az i8 G0 J5 J4.length 2
noncomputable def J6:Ls:=["_law_web_here","_law_place"]
noncomputable def J7:List CS:=[.ret (.comp NB ["_law_one","_law_other","_law_place"] [none,none,Nz 1] (.tup [.var 0,.var 1]) (.seq (.idx (.var 0) (.lit (.int 1)))) [.cmp .In (.var 2) (.tup [.var 0,.var 1])] (.emit (.bin .Sub (.bin .Add (.var 0) (.var 1)) (.var 2))))]
noncomputable def BH:FT:=tbl []
noncomputable def i9:List D->aa->Res D:=az BH G0 J7 J6.length 2
noncomputable def J8:Ls:=["_law_web_here","_law_line"]
noncomputable def EK:CE:=.comp NB ["_law_tie","_law_place"] [none,Nz 0] (.var 0) (.seq (.var 1)) [] (.emit (.cmp .In (.var 1) (.var 0)))
noncomputable def J9:CE:=.comp NB ["_law_place","_law_line"] [none,Nz 1] (.var 0) (.range [.idx (.var 0) (.lit (.int 0))]) [.bnot (.blt .any [EK])] (.emit (.var 0))
noncomputable def uH:List CS:=[.ret (.blt .tuple [J9])]
noncomputable def hH:FT:=tbl []
noncomputable def oN:List D->aa->Res D:=az hH G0 uH J8.length 2
noncomputable def J_:Ls:=["_law_web_here","_law_rows","_law_top"]
noncomputable def J':CE:=.comp NB ["_law_line"] [none] (.var 0) (.seq (.var 1)) [] (.emit (.blt .len [.var 0]))
noncomputable def Ka:CE:=.comp NB ["_law_line","_law_top"] [none,Nz 2] (.var 0) (.seq (.var 1)) [.cmp .Eq (.blt .len [.var 0]) (.var 1)] (.emit (.var 0))
noncomputable def BI:List CS:=[.asg 1 (.call "_law_pairings" [.var 0]),.asg 2 (.blt .max [J']),.ret Ka]
noncomputable def i_:FT:=tbl [("_law_pairings",gw)]
theorem Kb:i_ "_law_pairings"=Nz gw:=rfl
noncomputable def fw:List D->aa->Res D:=az i_ G0 BI J_.length 1
noncomputable def Kc:Ls:=["_law_web_here","_law_rows","_law_missed","_law_others","_law_by_these"]
noncomputable def Kd:CE:=.comp NB ["_law_line","_law_web_here"] [none,Nz 0] (.var 0) (.seq (.call "_law_greatest" [.var 0])) [] (.emit (.call "_law_loose" [.var 1,.var 0]))
noncomputable def Nu:CE:=.comp NB ["_law_line","_law_place"] [none,Nz 0] (.var 0) (.seq (.var 1)) [] (.emit (.cmp .In (.var 1) (.var 0)))
noncomputable def Ke:CE:=.comp NB ["_law_place","_law_rows"] [none,Nz 1] (.var 0) (.range [.idx (.var 0) (.lit (.int 0))]) [.blt .any [Nu]] (.emit (.var 0))
noncomputable def Nv:CE:=.comp NB ["_law_other","_law_missed"] [none,Nz 2] (.var 0) (.seq (.call "_law_near" [.var 1,.var 0])) [] (.emit (.cmp .In (.var 0) (.var 1)))
noncomputable def Kf:CE:=.comp NB ["_law_place","_law_web_here","_law_missed"] [none,Nz 0,Nz 2] (.var 0) (.seq (.var 3)) [.blt .any [Nv]] (.emit (.var 0))
noncomputable def BJ:List CS:=[.asg 1 Kd,.asg 2 Ke,.asg 3 (.comp NB ["_law_place","_law_missed"] [none,Nz 2] (.var 0) (.range [.idx (.var 0) (.lit (.int 0))]) [.cmp .NotIn (.var 0) (.var 1)] (.emit (.var 0))),.asg 4 Kf,.ret (.tup [.blt .tuple [.var 2],.blt .tuple [.var 4],.blt .tuple [.comp NB ["_law_place","_law_by_these"] [none,Nz 4] (.var 0) (.seq (.var 3)) [.cmp .NotIn (.var 0) (.var 1)] (.emit (.var 0))]])]
noncomputable def gx:FT:=tbl [("_law_loose",oN),("_law_greatest",fw),("_law_near",i9)]
theorem Kg:gx "_law_loose"=Nz oN:=rfl
theorem Kh:gx "_law_greatest"=Nz fw:=rfl
theorem Ki:gx "_law_near"=Nz i9:=rfl
noncomputable def kG:List D->aa->Res D:=az gx G0 BJ Kc.length 1
noncomputable def BK:Ls:=["_law_web_here","_law_some","_law_left","_law_found","_law_line","_law_place","_law_one"]
noncomputable def BL:List CS:=[.asg 2 (.blt (.list NB) [.var 1]),.asg 3 (.lst NA []),.while_ 100 (.cmp .NotEq (.var 2) (.lst NB [])) [.asg 4 (.lst NA [.idx (.var 2) (.lit (.int 0))]),.for_ (.var 5) (.seq (.var 2)) [.for_ (.var 6) (.seq (.blt (.list NB) [.var 4])) [.expr (.meth .extend (.var 4) [.comp NB ["_law_other","_law_some","_law_line"] [none,Nz 1,Nz 4] (.var 0) (.seq (.call "_law_near" [.var 0,.var 6])) [.band (.cmp .In (.var 0) (.var 1)) (.cmp .NotIn (.var 0) (.var 2))] (.emit (.var 0))])]],.expr (.meth .append (.var 3) [.blt .tuple [.blt (.sorted NB (.int)) [.var 4]]]),.asg 2 (.comp NB ["_law_place","_law_line"] [none,Nz 4] (.var 0) (.seq (.var 2)) [.cmp .NotIn (.var 0) (.var 1)] (.emit (.var 0)))],.ret (.var 3)]
noncomputable def cD:FT:=tbl [("_law_near",i9)]
theorem Kj:cD "_law_near"=Nz i9:=rfl
noncomputable def kH:List D->aa->Res D:=az cD G0 BL BK.length 2
noncomputable def uI:Ls:=["_law_web_here","_law_line","_law_missed","_law_by_these","_law_rest","_law_mates_here","_law_piece","_law_inner"]
noncomputable def BM:CE:=.comp NB ["_law_place","_law_mates_here","_law_rest"] [none,Nz 5,Nz 4] (.var 0) (.seq (.var 4)) [] (.emit (.cmp .In (.idx (.var 1) (.var 0)) (.var 2)))
noncomputable def BN:CE:=.comp NB ["_law_place","_law_mates_here","_law_missed"] [none,Nz 5,Nz 2] (.var 0) (.seq (.var 3)) [] (.emit (.cmp .In (.idx (.var 1) (.var 0)) (.var 2)))
noncomputable def Kk(v:Nat):CE:=.comp NB ["_law_place","_law_mates_here","_law_piece"] [none,Nz 5,Nz 6] (.var 0) (.seq (.var v)) [.cmp .In (.idx (.var 1) (.var 0)) (.var 2)] (.emit (.var 0))
noncomputable def M_:CE:=.bor (.cmp .NotEq (.bin .Add (.blt .len [.var 7]) (.lit (.int 1))) (.blt .len [.var 6])) (.cmp .Gt (.blt .len [Kk 3]) (.lit (.int 1)))
noncomputable def oO:List CS:=[.asg 7 (Kk 6),.ite M_ [.ret (.lit (.bl NB))] []]
noncomputable def kI:List CS:=[.asgT (.tup [.var 2,.var 3,.var 4]) (.call "_law_parts" [.var 0]),.asg 5 (.call "_law_mates" [.var 0,.var 1]),.ite (.bor (.bnot (.blt .all [BM])) (.bnot (.blt .all [BN]))) [.ret (.lit (.bl NB))] [],.for_ (.var 6) (.seq (.call "_law_pieces" [.var 0,.var 2])) oO,.ret (.lit (.bl NA))]
noncomputable def cP:FT:=tbl [("_law_parts",kG),("_law_mates",kF),("_law_pieces",kH)]
theorem Kl:cP "_law_parts"=Nz kG:=rfl
theorem Km:cP "_law_mates"=Nz kF:=rfl
theorem Kn:cP "_law_pieces"=Nz kH:=rfl
noncomputable def oP:List D->aa->Res D:=az cP G0 kI uI.length 2
noncomputable def Ko:Ls:=["_law_web_here","_law_line","_law_found"]
noncomputable def uJ:List CS:=[.asg 2 (.call "is_parted" [.var 0,.var 1]),.ret (.band (.blt .isinst [.var 2,.ty "bool"]) (.cmp .Eq (.var 2) (.call "_law_parted" [.var 0,.var 1])))]
noncomputable def kJ:FT:=tbl [("is_parted",oD),("_law_parted",oP)]
theorem Kp:kJ "is_parted"=Nz oD:=rfl
theorem Kq:kJ "_law_parted"=Nz oP:=rfl
noncomputable def kK:List D->aa->Res D:=az kJ G0 uJ Ko.length 2
noncomputable def kL:Ls:=["_law_script","_law_cell","_law_web_here","_law_rows","_law_first","_law_some","_law_every","_law_line"]
noncomputable def BO:CE:=.tup [.lit (.int 1),.tup []]
noncomputable def BP:CE:=.tup [.lit (.int 4),.tup [.tup [.lit (.int 0),.lit (.int 1)],.tup [.lit (.int 0),.lit (.int 2)],.tup [.lit (.int 1),.lit (.int 2)],.tup [.lit (.int 2),.lit (.int 3)]]]
noncomputable def BQ:CE:=.tup [.tup [.lit (.int 0),.lit (.int 1)],.tup [.lit (.int 2),.lit (.int 3)]]
noncomputable def uK:CE:=.bor (.bnot (.call "_law_right" [BO,.tup []])) (.bnot (.call "_law_right" [BP,BQ]))
noncomputable def oQ:CE:=.seq (.bin .Add (.lst NB [.call "_law_cell_at" [.var 0,.lit (.int 0)]]) (.sl (.var 0) [.lit (.int 1)] [.lit (.int 4)]))
noncomputable def BR:CE:=.bin .Mod (.call "_law_stir" [.var 1,.lit (.int 20)]) (.blt .len [.var 3])
noncomputable def Kr:CE:=.sl (.bin .Add (.sl (.var 3) [.var 4] []) (.sl (.var 3) [] [.var 4])) [] [.lit (.int 3)]
noncomputable def BS:CE:=.comp NB ["_law_line"] [none] (.var 0) (.seq (.var 5)) [] (.emit (.sl (.var 0) [.lit (.int 1)] []))
noncomputable def Ks:CE:=.comp NB ["_law_line"] [none] (.var 0) (.seq (.sl (.var 5) [] [.lit (.int 1)])) [] (.emit (.sl (.var 0) [] [.neg (.lit (.int 1))]))
noncomputable def Kt:CE:=.bin .Add (.bin .Add (.bin .Add (.var 5) BS) Ks) (.lst NB [.tup []])
noncomputable def BU:CE:=.comp NB ["_law_k","_law_every","_law_cell"] [none,Nz 6,Nz 1] (.var 0) (.range [.lit (.int 4)]) [] (.emit (.idx (.var 1) (.bin .Mod (.call "_law_stir" [.var 2,.bin .Add (.lit (.int 21)) (.var 0)]) (.blt .len [.var 1]))))
noncomputable def oR:List CS:=[.ite (.bnot (.call "_law_right" [.var 2,.var 7])) [.ret (.lit (.bl NB))] []]
noncomputable def oS:List CS:=[.asg 2 (.call "_law_web" [.var 1,.lit (.int 8)]),.asg 3 (.call "_law_greatest" [.var 2]),.asg 4 BR,.asg 5 Kr,.asg 5 Kt,.asg 6 (.call "_law_pairings" [.var 2]),.asg 5 (.bin .Add (.var 5) BU),.for_ (.var 7) (.seq (.bin .Add (.var 5) (.lst NB [.call "_law_pairing" [.var 2,.var 1]]))) oR]
noncomputable def iv:List CS:=[.ite uK [.ret (.lit (.bl NB))] [],.for_ (.var 1) oQ oS,.ret (.lit (.bl NA))]
noncomputable def aL:FT:=tbl [("_law_web",i7),("_law_greatest",fw),("_law_pairings",gw),("_law_right",kK),("_law_cell_at",i6),("_law_stir",eZ),("_law_pairing",hE)]
theorem Ku:aL "_law_web"=Nz i7:=rfl
theorem Kv:aL "_law_greatest"=Nz fw:=rfl
theorem Kw:aL "_law_pairings"=Nz gw:=rfl
theorem uL:aL "_law_right"=Nz kK:=rfl
theorem Kx:aL "_law_cell_at"=Nz i6:=rfl
theorem BV:aL "_law_stir"=Nz eZ:=rfl
theorem Ky:aL "_law_pairing"=Nz hE:=rfl
noncomputable def kM:List D->aa->Res D:=az aL G0 iv kL.length 1
end K52
namespace Py
noncomputable def EL(K:Fg)(y:Str):ND:=match PySem.W.nsIn K mainGlobals y with
 |some (Nz (.ref C))=>C
 |_=>0
noncomputable def kN(K:Fg)(y:Str):Bool:=match PySem.W.nsIn K mainGlobals y with
 |some (Nz (.ref _))=>NA
 |_=>NB
theorem Kz{y:Str}(h:kN K y=NA):PySem.W.nsIn K mainGlobals y=Nz (Nz (.ref (EL K y))):=by
 unfold kN at h;unfold EL;split at h
 ·omega
 ·cases h
noncomputable def M'(K:Fg):Rz->Bool
 | .cls x=>kN K x&&PySem.W.excIn K (EL K x) AH "ValueError.__new__"
 | .kind _ _ _=>NB
theorem uM(X:K.In h)(G:h.Ns mainGlobals mg){x:Str}(H:M' K (.cls x)=NA):XC P w K mg (.cls x):=
 ⟨EL K x,PySem.W.mg_of X G (Kz (ab H).1),(ab H).2⟩
end Py
namespace K52
noncomputable def cu(i:Nat):O1:=PySem.Challenge.pw_pairwebs_k52_pairings_well_parted.main.body.getD i (.Pass ⟨0,0,0,0⟩)
def aD(K:Fg)(x:Str)(st:O1):Prop:=∃f fd,PySem.W.nsIn K mainGlobals x=Nz (Nz (.ref f))/\vU K x x st f fd
theorem dm{x:Str}{st:O1}{an:Option ND}{kV:NF}(a:PySem.W.nsIn K mainGlobals x=Nz (Nz (.ref f)))(l:K.lookup f=Nz ⟨oc,od,.func (PySem.W.fnOf x x (iD st) (dt st) (dJ st) .none kV doc pm an cdv ct),osl⟩)
  (c:PySem.W.codeIn K cdv x=NA) (k:PySem.W.keepIn K (.ref f)=NA):aD K x st:=⟨f,_,a,r8 l c k⟩
noncomputable def uN(N P:Ls)(s:Scope):Bool:=(s.kind== .function)&& !s.isCoroutine&& !s.isGenerator&&iJ N&&(N.take P.length==P)&&P.all (λx=>s.names.lookup x==Nz .local||s.names.lookup x==Nz .cell)&&s.names.all (λy=>y.2 !=.free)
theorem BW{P:Ls}{s:Scope}(h:uN N P s=NA):c9 N P s:=by unfold uN at h;simp only[ZL,beq_iff_eq,ZF,QQ,bne_iff_ne,O3]at h;obtain⟨⟨⟨⟨⟨⟨H,a⟩,b⟩,c⟩,d⟩,e⟩,f⟩:=h;exact⟨H,a,b,t7 c,d,e,f⟩
noncomputable def RZ:List Rz:=[.cls "NoPairing",.cls "NoPlaces",.cls "NoWeb"]
structure En (P:NU)(w:N0)(K:Fg)(mg:Mg)(h:NO):Prop where
 X:K.In h
 G:h.Ns mainGlobals mg
 hg:∀x d,G0 x=Nz d->∃v u,mg x=Nz u/\RelV v u/\∀F μ H,Rep K ⟨mg,F⟩ μ H d v
 hb:∀x∈gh,mg x=none
 xc:∀z∈RZ,XC P w K mg z
section
variable {j:Nat}
theorem fe{x:Str}{st:O1}{l:List (Str×(List D->aa->Res D))}(E:En P w K mg h)(d:aD K x st)
  (c:∀(kV doc pm:NF) (an:Option ND) (cdv ct:NF) (us:Lv),us.length=ps.length->bindArgs (PySem.W.fnOf x x (iD st) (dt st) (dJ st) .none kV doc pm an cdv ct) ⟨us,[]⟩=pure (ps.zip us))
  (H:∀p∈l,bV P w K mg base (br P w) k p.1 p.2) (e:fR body N (dt st)=dt st) (S:(uN N ps (dJ st)&&(fS body N (dJ st).names (dt st)&&(fm body).all λz=>decide (z∈RZ)))=NA):bV P w K mg base (br P w) (k+1) x (az (tbl l) G0 body N.length ps.length):=by
 obtain⟨f,i,a,F⟩:=d;have S:=PZ.mp S;have b:=PZ.mp S.2;exact Nt F (BW S.1) (PySem.W.mg_of E.X E.G a) (F.binds c) (M8 H E.hg E.hb) e b.1 λz g=>E.xc z (of_decide_eq_true (ZF.mp b.2 z g))
theorem an:∀p∈([]:List (Str×(List D->aa->Res D))),bV P w K mg base (br P w) k p.1 p.2:=λp h=>(ZX h).elim
theorem ac{x:Str}{l:List (Str×(List D->aa->Res D))}(F:bV P w K mg base (br P w) j x φ)(H:j<=k)(r:∀p∈l,bV P w K mg base (br P w) k p.1 p.2):∀p∈(x,φ)::l,bV P w K mg base (br P w) k p.1 p.2:=λp a=>by
 rcases Zi.mp a with rfl|h
 ·exact F.mono H
 ·exact r p h
end
structure Df (K:Fg):Prop where
 d_is_number:aD K "is_number" (cu 7)
 d_is_number_from:aD K "is_number_from" (cu 8)
 d_is_place:aD K "is_place" (cu 9)
 d_is_rising:aD K "is_rising" (cu 10)
 d_are_places:aD K "are_places" (cu 11)
 d_are_unlike:aD K "are_unlike" (cu 12)
 d_is_tie:aD K "is_tie" (cu 13)
 d_is_web:aD K "is_web" (cu 14)
 d_is_some:aD K "is_some" (cu 15)
 d_are_ties:aD K "are_ties" (cu 16)
 d_must_be_web:aD K "must_be_web" (cu 17)
 d_must_be_some:aD K "must_be_some" (cu 18)
 d_tie_of:aD K "tie_of" (cu 19)
 d_have_tie:aD K "have_tie" (cu 20)
 d_piece_of:aD K "piece_of" (cu 21)
 d_pieces_without:aD K "pieces_without" (cu 22)
 d_is_pairing:aD K "is_pairing" (cu 24)
 d_must_be_pairing:aD K "must_be_pairing" (cu 25)
 d_mate_of:aD K "mate_of" (cu 26)
 d_loose_of:aD K "loose_of" (cu 27)
 d_all_pairings:aD K "all_pairings" (cu 28)
 d_greatest:aD K "greatest" (cu 30)
 d_parts:aD K "parts" (cu 32)
 d_missed_pieces:aD K "missed_pieces" (cu 33)
 d_is_parted:aD K "is_parted" (cu 34)
 d_law_cell_at:aD K "_law_cell_at" (cu 36)
 d_law_stir:aD K "_law_stir" (cu 37)
 d_law_web:aD K "_law_web" (cu 38)
 d_law_free:aD K "_law_free" (cu 39)
 d_law_pairings:aD K "_law_pairings" (cu 40)
 d_law_pairing:aD K "_law_pairing" (cu 41)
 d_law_mates:aD K "_law_mates" (cu 42)
 d_law_near:aD K "_law_near" (cu 43)
 d_law_loose:aD K "_law_loose" (cu 44)
 d_law_greatest:aD K "_law_greatest" (cu 45)
 d_law_parts:aD K "_law_parts" (cu 46)
 d_law_pieces:aD K "_law_pieces" (cu 47)
 d_law_parted:aD K "_law_parted" (cu 48)
 d_law_right:aD K "_law_right" (cu 49)
 d_law:aD K "law" (cu 50)
section
variable (E9:En P w K mg h)(D9:Df K)
include E9 D9
theorem KA:bV P w K mg base (br P w) 1 "is_number" om:=fe (ps:=["thing"]) E9 D9.d_is_number (λ_ _ _ _ _ _=>dY λ_=>rfl) an rfl (by decide+kernel)
theorem BX:bV P w K mg base (br P w) 2 "is_number_from" iZ:=fe (ps:=["thing","low","high"]) E9 D9.d_is_number_from (λ_ _ _ _ _ _=>ur λ_ _ _=>rfl) (ac (KA E9 D9) (by decide) an) rfl (by decide+kernel)
theorem KC:bV P w K mg base (br P w) 3 "is_place" oo:=fe (ps:=["many","thing"]) E9 D9.d_is_place (λ_ _ _ _ _ _=>bU λ_ _=>rfl) (ac (BX E9 D9) (by decide) an) rfl (by decide+kernel)
theorem oU:bV P w K mg base (br P w) 1 "is_rising" et:=fe (ps:=["things"]) E9 D9.d_is_rising (λ_ _ _ _ _ _=>dY λ_=>rfl) an rfl (by decide+kernel)
theorem BY:bV P w K mg base (br P w) 4 "are_places" gu:=fe (ps:=["many","thing"]) E9 D9.d_are_places (λ_ _ _ _ _ _=>bU λ_ _=>rfl) (ac (KC E9 D9) (by decide) an) rfl (by decide+kernel)
theorem BZ:bV P w K mg base (br P w) 1 "are_unlike" g5:=fe (ps:=["things"]) E9 D9.d_are_unlike (λ_ _ _ _ _ _=>dY λ_=>rfl) an rfl (by decide+kernel)
theorem B0:bV P w K mg base (br P w) 5 "is_tie" i0:=fe (ps:=["many","thing"]) E9 D9.d_is_tie (λ_ _ _ _ _ _=>bU λ_ _=>rfl) (ac (BY E9 D9) (by decide) (ac (oU E9 D9) (by decide) an)) rfl (by decide+kernel)
theorem KD:bV P w K mg base (br P w) 6 "is_web" ot:=fe (ps:=["thing"]) E9 D9.d_is_web (λ_ _ _ _ _ _=>dY λ_=>rfl) (ac (oU E9 D9) (by decide) (ac (BX E9 D9) (by decide) (ac (B0 E9 D9) (by decide) an))) rfl (by decide+kernel)
theorem KG:bV P w K mg base (br P w) 5 "is_some" ou:=fe (ps:=["web","thing"]) E9 D9.d_is_some (λ_ _ _ _ _ _=>bU λ_ _=>rfl) (ac (BY E9 D9) (by decide) (ac (oU E9 D9) (by decide) an)) rfl (by decide+kernel)
theorem KH:bV P w K mg base (br P w) 6 "are_ties" ov:=fe (ps:=["web","thing"]) E9 D9.d_are_ties (λ_ _ _ _ _ _=>bU λ_ _=>rfl) (ac (oU E9 D9) (by decide) (ac (B0 E9 D9) (by decide) an)) rfl (by decide+kernel)
theorem uO:bV P w K mg base (br P w) 7 "must_be_web" fo:=fe (ps:=["thing"]) E9 D9.d_must_be_web (λ_ _ _ _ _ _=>dY λ_=>rfl) (ac (KD E9 D9) (by decide) an) rfl (by decide+kernel)
theorem KI:bV P w K mg base (br P w) 6 "must_be_some" ox:=fe (ps:=["web","thing"]) E9 D9.d_must_be_some (λ_ _ _ _ _ _=>bU λ_ _=>rfl) (ac (KG E9 D9) (by decide) an) rfl (by decide+kernel)
theorem KJ:bV P w K mg base (br P w) 1 "tie_of" oy:=fe (ps:=["one","other"]) E9 D9.d_tie_of (λ_ _ _ _ _ _=>bU λ_ _=>rfl) an rfl (by decide+kernel)
theorem B1:bV P w K mg base (br P w) 2 "have_tie" g6:=fe (ps:=["web","one","other"]) E9 D9.d_have_tie (λ_ _ _ _ _ _=>ur λ_ _ _=>rfl) (ac (KJ E9 D9) (by decide) an) rfl (by decide+kernel)
theorem KL:bV P w K mg base (br P w) 3 "piece_of" ku:=fe (ps:=["web","left","start"]) E9 D9.d_piece_of (λ_ _ _ _ _ _=>ur λ_ _ _=>rfl) (ac (B1 E9 D9) (by decide) an) rfl (by decide+kernel)
theorem KN:bV P w K mg base (br P w) 8 "pieces_without" oz:=fe (ps:=["web","some"]) E9 D9.d_pieces_without (λ_ _ _ _ _ _=>bU λ_ _=>rfl) (ac (uO E9 D9) (by decide) (ac (KI E9 D9) (by decide) (ac (KL E9 D9) (by decide) an))) rfl (by decide+kernel)
theorem KO:bV P w K mg base (br P w) 8 "is_pairing" oB:=fe (ps:=["web","thing"]) E9 D9.d_is_pairing (λ_ _ _ _ _ _=>bU λ_ _=>rfl) (ac (uO E9 D9) (by decide) (ac (KH E9 D9) (by decide) (ac (BZ E9 D9) (by decide) an))) rfl (by decide+kernel)
theorem KP:bV P w K mg base (br P w) 9 "must_be_pairing" g7:=fe (ps:=["web","thing"]) E9 D9.d_must_be_pairing (λ_ _ _ _ _ _=>bU λ_ _=>rfl) (ac (KO E9 D9) (by decide) an) rfl (by decide+kernel)
theorem uP:bV P w K mg base (br P w) 1 "mate_of" fv:=fe (ps:=["pairing","place"]) E9 D9.d_mate_of (λ_ _ _ _ _ _=>bU λ_ _=>rfl) an rfl (by decide+kernel)
theorem KQ:bV P w K mg base (br P w) 2 "loose_of" oC:=fe (ps:=["web","ties"]) E9 D9.d_loose_of (λ_ _ _ _ _ _=>bU λ_ _=>rfl) (ac (uP E9 D9) (by decide) an) rfl (by decide+kernel)
theorem KR:bV P w K mg base (br P w) 8 "all_pairings" i3:=fe (ps:=["web"]) E9 D9.d_all_pairings (λ_ _ _ _ _ _=>dY λ_=>rfl) (ac (uO E9 D9) (by decide) (ac (uP E9 D9) (by decide) an)) rfl (by decide+kernel)
theorem KS:bV P w K mg base (br P w) 9 "greatest" i5:=fe (ps:=["web"]) E9 D9.d_greatest (λ_ _ _ _ _ _=>dY λ_=>rfl) (ac (KR E9 D9) (by decide) an) rfl (by decide+kernel)
theorem B2:bV P w K mg base (br P w) 10 "parts" g8:=fe (ps:=["web"]) E9 D9.d_parts (λ_ _ _ _ _ _=>dY λ_=>rfl) (ac (KS E9 D9) (by decide) (ac (KQ E9 D9) (by decide) (ac (B1 E9 D9) (by decide) an))) rfl (by decide+kernel)
theorem KU:bV P w K mg base (br P w) 11 "missed_pieces" kA:=fe (ps:=["web"]) E9 D9.d_missed_pieces (λ_ _ _ _ _ _=>dY λ_=>rfl) (ac (B2 E9 D9) (by decide) (ac (KN E9 D9) (by decide) an)) rfl (by decide+kernel)
theorem KW:bV P w K mg base (br P w) 12 "is_parted" oD:=fe (ps:=["web","pairing"]) E9 D9.d_is_parted (λ_ _ _ _ _ _=>bU λ_ _=>rfl) (ac (KP E9 D9) (by decide) (ac (B2 E9 D9) (by decide) (ac (KU E9 D9) (by decide) (ac (uP E9 D9) (by decide) (ac (BZ E9 D9) (by decide) an))))) rfl (by decide+kernel)
theorem B3:bV P w K mg base (br P w) 1 "_law_cell_at" i6:=fe (ps:=["_law_script","_law_k"]) E9 D9.d_law_cell_at (λ_ _ _ _ _ _=>bU λ_ _=>rfl) an rfl (by decide+kernel)
theorem oV:bV P w K mg base (br P w) 1 "_law_stir" eZ:=fe (ps:=["_law_cell","_law_k"]) E9 D9.d_law_stir (λ_ _ _ _ _ _=>bU λ_ _=>rfl) an rfl (by decide+kernel)
theorem B4:bV P w K mg base (br P w) 2 "_law_web" i7:=fe (ps:=["_law_cell","_law_top"]) E9 D9.d_law_web (λ_ _ _ _ _ _=>bU λ_ _=>rfl) (ac (oV E9 D9) (by decide) an) rfl (by decide+kernel)
theorem B5:bV P w K mg base (br P w) 1 "_law_free" g9:=fe (ps:=["_law_tie","_law_line"]) E9 D9.d_law_free (λ_ _ _ _ _ _=>bU λ_ _=>rfl) an rfl (by decide+kernel)
theorem uQ:bV P w K mg base (br P w) 2 "_law_pairings" gw:=fe (ps:=["_law_web_here"]) E9 D9.d_law_pairings (λ_ _ _ _ _ _=>dY λ_=>rfl) (ac (B5 E9 D9) (by decide) an) rfl (by decide+kernel)
theorem B6:bV P w K mg base (br P w) 2 "_law_pairing" hE:=fe (ps:=["_law_web_here","_law_cell"]) E9 D9.d_law_pairing (λ_ _ _ _ _ _=>bU λ_ _=>rfl) (ac (oV E9 D9) (by decide) (ac (B5 E9 D9) (by decide) an)) rfl (by decide+kernel)
theorem KY:bV P w K mg base (br P w) 1 "_law_mates" kF:=fe (ps:=["_law_web_here","_law_line"]) E9 D9.d_law_mates (λ_ _ _ _ _ _=>bU λ_ _=>rfl) an rfl (by decide+kernel)
theorem B7:bV P w K mg base (br P w) 1 "_law_near" i9:=fe (ps:=["_law_web_here","_law_place"]) E9 D9.d_law_near (λ_ _ _ _ _ _=>bU λ_ _=>rfl) an rfl (by decide+kernel)
theorem KZ:bV P w K mg base (br P w) 1 "_law_loose" oN:=fe (ps:=["_law_web_here","_law_line"]) E9 D9.d_law_loose (λ_ _ _ _ _ _=>bU λ_ _=>rfl) an rfl (by decide+kernel)
theorem uR:bV P w K mg base (br P w) 3 "_law_greatest" fw:=fe (ps:=["_law_web_here"]) E9 D9.d_law_greatest (λ_ _ _ _ _ _=>dY λ_=>rfl) (ac (uQ E9 D9) (by decide) an) rfl (by decide+kernel)
theorem K0:bV P w K mg base (br P w) 4 "_law_parts" kG:=fe (ps:=["_law_web_here"]) E9 D9.d_law_parts (λ_ _ _ _ _ _=>dY λ_=>rfl) (ac (KZ E9 D9) (by decide) (ac (uR E9 D9) (by decide) (ac (B7 E9 D9) (by decide) an))) rfl (by decide+kernel)
theorem K1:bV P w K mg base (br P w) 2 "_law_pieces" kH:=fe (ps:=["_law_web_here","_law_some"]) E9 D9.d_law_pieces (λ_ _ _ _ _ _=>bU λ_ _=>rfl) (ac (B7 E9 D9) (by decide) an) rfl (by decide+kernel)
theorem K2:bV P w K mg base (br P w) 5 "_law_parted" oP:=fe (ps:=["_law_web_here","_law_line"]) E9 D9.d_law_parted (λ_ _ _ _ _ _=>bU λ_ _=>rfl) (ac (K0 E9 D9) (by decide) (ac (KY E9 D9) (by decide) (ac (K1 E9 D9) (by decide) an))) rfl (by decide+kernel)
theorem B8:bV P w K mg base (br P w) 13 "_law_right" kK:=fe (ps:=["_law_web_here","_law_line"]) E9 D9.d_law_right (λ_ _ _ _ _ _=>bU λ_ _=>rfl) (ac (KW E9 D9) (by decide) (ac (K2 E9 D9) (by decide) an)) rfl (by decide+kernel)
theorem K3:bV P w K mg base (br P w) 14 "law" kM:=fe (ps:=["_law_script"]) E9 D9.d_law (λ_ _ _ _ _ _=>dY λ_=>rfl) (ac (B4 E9 D9) (by decide) (ac (uR E9 D9) (by decide) (ac (uQ E9 D9) (by decide) (ac (B8 E9 D9) (by decide) (ac (B3 E9 D9) (by decide) (ac (oV E9 D9) (by decide) (ac (B6 E9 D9) (by decide) an))))))) rfl (by decide+kernel)
end
noncomputable def iw(K:Fg):Sp:=λvs H Q _=>∃(a:ND) (ns:Li),vs=[.ref a]/\l_ H/\c8 K H a (ns.map V.int)/\ns.length<=63/\∀H',Q (.bl NA) H'
def Good(f:List D->aa->Res D):Prop:=∀ns:Li,ns.length<=63->∃S',f [.scr (ns.map D.int)] []=.ok (.bl NA) S'
theorem B9{K:Fg}{m:GS}{μ:La}{H:Hp}:∀ns:Li,aj K m μ H (ns.map D.int) (ns.map V.int)
 | []=>.nil
 |n::ns=>.cons bI (B9 ns)
theorem B_{f:List D->aa->Res D}(g:Good f):∀vs H Q E,iw K vs H Q E->sH K mg 1 f vs H Q E:=by
 rintro vs H Q E ⟨a,N,rfl,i,j,d,q⟩;refine⟨rfl,[],[],[],[.scr (N.map D.int)],⟨λa h=>(by cases h),rfl,OC,λn a l h=>(by cases h)⟩,.cons ?_ .nil,?_⟩
 ·unfold Rep;refine⟨a,N.map V.int,rfl,?_,B9 N⟩;rcases j with(h| ⟨o,h⟩)|h
  ·rcases i a with z| ⟨o,X,z⟩<;>rw[z]at h<;>cases h
  ·exact .inl ⟨o,h⟩
  ·exact .inr h
 ·obtain⟨S,e⟩:=g N d;rw[e];intro k c b x s r;unfold Rep at r;rw[r];exact q c
theorem uS{l:PySem.W.OpenLaw}(X:K.In h)(G:h.Ns mainGlobals mg)(i:mg "law"=Nz (.ref fa))(good:Good kM)(D:Df K)(Z:∀x∈gh,PySem.W.nsIn K mainGlobals x=Nz none)
  {g:Tok} (M:PySem.W.nsIn K mainGlobals "MOST_PLACES"=Nz (Nz (.int 8 g))) (r:RZ.all (M' K)=NA):
  ∃fd:OW,(∀(s:NC) (v:NF),Sn s fd ⟨[v],[]⟩ [("_law_script",v)])/\∀base:NO,K.In base->base.Ns mainGlobals mg->c_ l.prog w K mg base (br l.prog w) 14 fa fd ["_law_script"] (iw K):=by
 have n:∀x d,G0 x=Nz d->∃v u,mg x=Nz u/\RelV v u/\∀F y H,Rep K ⟨mg,F⟩ y H d v:=λx d e=>by
  unfold G0 at e;rw[OB]at e;split at e
  ·rename_i j;cases e;have m:x="MOST_PLACES":=by simpa using j
   subst m;exact⟨.int 8,_,PySem.W.mg_of X G M,⟨_,rfl⟩,λ_ _ _=>bI⟩
  cases e
 have p:=ZF.mp r
 have t:∀z∈RZ,XC l.prog w K mg z:=λz b=>by
  have c:=p z b;simp only[RZ,Zi,T7,or_false]at b;rcases b with rfl|rfl|rfl
  ·exact uM X G c
  ·exact uM X G c
  ·exact uM X G c
 have E:En l.prog w K mg h:=⟨X,G,n,λx j=>PySem.W.mg_none_of X G (Z x j),t⟩;obtain⟨f,fd,a,F⟩:=D.d_law;have e:=i.symm.trans (PySem.W.mg_of X G a);cases e;have S:c9 kL ["_law_script"] (dJ (cu 50)):=BW (by decide+kernel);refine⟨fd,λs v=>?_,λbase _ _=>?_⟩
 ·obtain⟨B,I,kV,o,P,an,C,A,O,rfl,lk,q⟩:=F.ex;exact .of_eq rfl
 ·exact c_.imp (AO (k:=13) F S (M8 (ac (B4 E D) (by decide) (ac (uR E D) (by decide) (ac (uQ E D) (by decide) (ac (B8 E D) (by decide) (ac (B3 E D) (by decide) (ac (oV E D) (by decide) (ac (B6 E D) (by decide) an))))))) n E.hb) rfl (by decide+kernel) λz b=>E.xc z (of_decide_eq_true (ZF.mp (by decide+kernel:((fm iv).all λz=>decide (z∈RZ))=NA) z b))) (B_ good)
mutual
theorem B'{k:Nat}:∀(d:D),bF 0 d=NA->bF k d=NA
 | .non,_=>rfl
 | .bl _,_=>rfl
 | .int _,_=>rfl
 | .str _,_=>rfl
 | .tup _,h=>by exact gy _ h
 | .lst _,h=>by exact gy _ h
 | .scr _,h=>by exact gy _ h
 | .ref n,h=>by dsimp only[bF]at h;simp at h
 | .fn y,_=>rfl
 | .ty y,_=>rfl
 | .dct,_=>rfl
 | .dks _,_=>rfl
theorem gy{k:Nat}:∀(ds:List D),bd 0 ds=NA->bd k ds=NA
 | [],_=>rfl
 |d::ds,h=>by dsimp only[bd]at h⊢;simp at h⊢;exact⟨B' d h.1,gy _ h.2⟩
end
def Flat(S:aa):Prop:=∀xs∈S,bd 0 xs=NA
theorem Flat.all(h:Flat S):S.all (bd k)=NA:=ZF.mpr λx H=>gy _ (h _ H)
theorem Flat.nil:Flat []:=λ_ h=>by cases h
theorem Flat.snoc(h:Flat S)(a:bd 0 xs=NA):Flat (S++[xs]):=λy H=>by
 rcases Zp.mp H with z|z
 ·exact h _ z
 simp_all
theorem Flat.set(h:Flat S)(a:bd 0 xs=NA):Flat (S.set n xs):=λy H=>by
 rcases List.mem_or_eq_of_mem_set H with z|z
 ·exact h _ z
 simp_all
theorem hJ(h:Flat (S'.take k))(H:bF 0 d=NA):cO k d S'=.ok d (S'.take k):=by unfold cO;rw[if_pos h.all,if_pos (B' d H)]
theorem K4(h:Flat S)(H:bF 0 d=NA):cO S.length d S=.ok d S:=by rw[hJ (by simp_all) H,QC]
theorem Ca(a:S.length=k)(h:Flat S)(H:bF 0 d=NA):cO k d S=.ok d S:=by subst a;exact K4 h H
theorem Cb{step:D->List D->aa->Res (List D)}{S:aa}(g:D->Option D):∀(xs acc:List D),(∀x∈xs,∀acc,acc.length<bt->step x acc S=.ok (acc++(g x).toList) S)->acc.length+xs.length<=bt->bz step xs acc S=.ok (acc++xs.filterMap g) S
 | [],acc,_,_=>by simp[bz]
 |x::xs,acc,h,H=>by simp at H;simp[bz];rw[h x Zd _ (by lia)];unfold Res.bind;dsimp;rw[Cb g _ _ (λy a=>h y (Zb _ a)) (by grind)];cases e:g x<;>simp[e]
theorem K5{l:List α}{f:α->Option Bool}(h:∀x∈l,f x=Nz NA):bw (l.map f)=Nz NA:=by
 induction l with
 |nil=>rfl
 |cons x l i=>simp only[ZV];unfold bw;rw[h x Zd,i λy H=>h y (Zb _ H)];rfl
theorem allO_map{l:List α}{f:α->Bool}:bw (l.map λx=>Nz (f x))=Nz (l.all f):=by
 induction l with
 |nil=>rfl
 |cons x l i=>unfold bw;simp_all
theorem oW{l:List α}{f:α->Bool}:fg (l.map λx=>Nz (f x))=Nz (l.any f):=by unfold fg;rw[ZY];have e:(λo=>o.map not)∘(λx=>Nz _)=λx=>Nz !f x:=rfl;rw[e,allO_map];simp[List.not_all_eq_any_not]
noncomputable def ar(t:Int×Int):D:=.tup [.int t.1,.int t.2]
noncomputable def ae(ts:Lq):List D:=ts.map ar
noncomputable def ag(m:Int)(ts:Lq):D:=.tup [.int m,.tup (ae ts)]
theorem EM(t:Int×Int):bF 0 (ar t)=NA:=rfl
theorem ja:∀(ts:Lq),bd 0 (ae ts)=NA
 | []=>rfl
 |t::ts=>by show(bF 0 _&&bd 0 (ae _))=NA;rw[ja _];rfl
theorem e5:∀(ns:Li),bd 0 (ns.map D.int)=NA
 | []=>rfl
 |t::T=>by show(bF 0 _&&bd 0 _)=NA;rw[e5 _];rfl
theorem oX(m:Int)(ts:Lq):bF 0 (ag m ts)=NA:=by show(NA&&(bd 0 _&&NA))=NA;rw[ja];rfl
def aS(a b:Int×Int):Prop:=a.1<b.1\/(a.1=b.1/\a.2<b.2)
instance (a b:Int×Int):Decidable (aS a b):=by unfold aS;exact inferInstance
theorem Cc(S:aa)(n:Nat)(a b:Int):cF S (n+1) (.int a) (.int b)=Nz (a==b):=rfl
theorem oY(S:aa)(n:Nat)(a b:Int×Int):cF S (n+2) (ar a) (ar b)=Nz (decide (a=b)):=by
 have e:cF S (n+2) (ar a) (ar b)=Nz _:=rfl;simp_all
 grind
theorem oZ(S:aa)(n:Nat)(a b:Int×Int):jw S (n+2) (ar a) (ar b)=Nz (decide (aS a b)):=by
 have e:jw S (n+2) (ar a) (ar b)=(match cF S (n+1) (.int a.1) (.int b.1)with
  |some NA=>(match cF S (n+1) (.int a.2) (.int b.2)with
   |some NA=>Nz NB
   |some NB=>Nz (decide (a.2<b.2))
   |none=>none)
  |some NB=>Nz (decide (a.1<b.1))
  |none=>none):=rfl
 rw[e,Cc,Cc];obtain⟨A,c⟩:=a;obtain⟨B,d⟩:=b;unfold aS;dsimp only;by_cases h:A=B
 ·subst h;by_cases H:c=d
  ·subst H;simp
  ·have:(c==d)=NB:=by simpa using H
   simp[this]
 ·have:(A==B)=NB:=by simpa using h
  simp[this,h]
theorem Cd(S:aa)(t:Int×Int)(ts:Lq):fc (ar t) (.tup (ae ts)) S=Nz (decide (t∈ts)):=by
 have e:fc (ar t) (.tup (ae ts)) S=fg _:=rfl;rw[e];unfold ae;rw[ZY];have E:(λy=>cF S bE y (ar t))∘ar=λu=>Nz (decide (u=t)):=by funext u;exact oY S 38 u t
 rw[E,oW]
 grind
theorem kO(S:aa)(p:Int)(t:Int×Int):fc (.int p) (ar t) S=Nz (decide (p=t.1\/p=t.2)):=by
 have e:fc (.int p) (ar t) S=Nz _:=rfl;rw[e];congr 1
 grind
structure bn (m:Int)(ts:Lq):Prop where
 lo:1<=m
 hi:m<=8
 ris:ts.Pairwise aS
 tie:∀t∈ts,0<=t.1/\t.1<t.2/\t.2<m
 few:ts.length<=28
structure aW (ts ps:Lq):Prop where
 ris:ps.Pairwise aS
 sub:∀t∈ps,t∈ts
 un:(ps.flatMap λt=>[t.1,t.2]).Nodup
theorem bL(c:ds.length=np)(h:ah Φ Γ body (ds.map Nz++NG (n-np) none) S=.ok (.ret d) S')(b:S'.length=S.length)(a:Flat S')(H:bF 0 d=NA):az Φ Γ body n np ds S=.ok d S':=by unfold az;rw[if_pos c,h];exact Ca b a H
theorem run_next(b:ds.length=np)(h:ah Φ Γ body (ds.map Nz++NG (n-np) none) S=.ok (.next ρ) S')(a:S'.length=S.length)(H:Flat S'):az Φ Γ body n np ds S=.ok .non S':=by unfold az;rw[if_pos b,h];exact Ca a H rfl
theorem K6(h:Flat S)(i:Int):om [.int i] S=.ok (.bl NA) S:=bL rfl rfl rfl h rfl
theorem Ce(H:Flat S)(i lo hi:Int):iZ [.int i,.int lo,.int hi] S=.ok (.bl (decide (lo<=i/\i<=hi))) S:=by refine bL rfl ?_ rfl H rfl;simp[AR,AQ,ah,aC,au,ak,al,Res.bind,Res.noErr,bj,IY,K6 H,a7,Ez];by_cases h:lo<=i<;>simp[h]
theorem K7(h:Flat S)(m i:Int):oo [.int m,.int i] S=.ok (.bl (decide (0<=i/\i<m))) S:=by refine bL rfl ?_ rfl h rfl;have e:(i<=m-1)=(i<m):=propext (by lia);simp[AU,ah,aC,ak,al,Res.bind,Res.noErr,I0,Ce h,dD,me,e]
theorem o4{step:D->List D->aa->Res (List D)}(h:∀x∈xs,∀acc,acc.length<bt->step x acc S=.ok (acc++[.bl NA]) S)(b:xs.length<=bt):bz step xs [] S=.ok (xs.map λ_=>D.bl NA) S:=by rw[Cb (λ_=>Nz _) _ _ (λx a acc H=>h x a _ H) (by simp_all)];simp
theorem o5:jB [.lst (xs.map λ_=>D.bl NA)] S=.ok (.bl NA) S:=by unfold jB;simp only[av,ZY,show bw (xs.map (eB∘λx=>D.bl _))=Nz _ from K5 λx h=>rfl];rfl
theorem K8(xs:List D):bZ xs (Nz 1) none=xs.drop 1:=by
 unfold bZ;have e:HT.bH xs.length 0 (Nz 1)=min 1 _:=rfl;have E:HT.bH xs.length _ none=xs.length:=rfl;rw[e,E];cases xs with
 |nil=>rfl
 |cons x r=>simp
theorem uT(b:Flat S)(d:xs.length<=1000)(h:∀(i:Nat) x y,xs[i]?=Nz x->xs[i+1]?=Nz y->jw S bE x y=Nz NA):et [.tup xs] S=.ok (.bl NA) S:=by
 refine bL rfl ?_ rfl b rfl;have a:fB S (.tup xs) (.tup (xs.drop 1))=Nz (.items (NL (λx y=>.tup [x,y]) xs (xs.drop 1))):=rfl;simp[AX,AW,ah,aC,au,ak,al,aK,Res.bind,Res.noErr,bj,jj,cL,dk,bh];simp only[K8 xs,a,bO];rw[o4]
 ·simp only[Res.noErr,o5]
 ·intro z a A c;obtain⟨i,H⟩:=List.mem_iff_getElem?.mp a;rw[QT]at H;cases e:xs[i]? with
  |none=>rw[e]at H;cases H
  |some x=>
   cases E:(xs.drop 1)[i]? with
   |none=>rw[e,E]at H;cases H
   |some y=>rw[e,E]at H;cases H;rw[Tq,Nat.add_comm]at E;simp[aH,cf,slots,fi,aE,cc,ax,aN,ak,Res.bind,a7,h i x y e E,aQ,Res.noErr];unfold bt at c;omega
 ·simp;unfold bt;omega
theorem Cf(H:Flat S)(g:ns.length<=1000)(h:∀n∈ns,0<=n/\n<m):gu [.int m,.tup (ns.map D.int)] S=.ok (.bl NA) S:=by
 refine bL rfl ?_ rfl H rfl;have d:f9 [.tup (ns.map D.int),.ty "tuple"] S=.ok (.bl NA) S:=rfl;simp[AZ,AY,ah,aC,au,ak,al,aK,Res.bind,Res.noErr,bj,bh,d,cB];simp only[bO];rw[o4]
 ·simp only[Res.noErr];rw[o5]
 ·intro z f A b;obtain⟨n,e,rfl⟩:=Zq.mp f;have a:=K7 H m n;have c:decide (0<=n/\n<m)=NA:=ZO (h n e);rw[c]at a;simp[aH,cf,slots,fi,aE,cc,ax,aN,ak,al,Res.bind,I8,a,Res.noErr];unfold bt at b;omega
 ·simp;unfold bt;omega
theorem Cg(H:Flat S){t:Int×Int}(h:0<=t.1/\t.1<t.2/\t.2<m):i0 [.int m,ar t] S=.ok (.bl NA) S:=by
 refine bL rfl ?_ rfl H rfl;have b:gu [.int m,ar t] S=.ok (.bl NA) S:=Cf H (ns:=[t.1,t.2]) (by simp) (by intro n a;simp at a;rcases a with rfl|rfl<;>omega)
 have c:et [ar t] S=.ok (.bl NA) S:=uT H (xs:=[.int t.1,.int t.2]) (by simp) (by
  intro i x y E e;have g:i=0:=by have:=(Zm.mp e).1;simp at this;omega
  subst g;simp at E e;subst E;subst e;show Nz (decide (t.1<t.2))=Nz NA;simp[h.2.1])
 have d:bh .len [ar t] S=.ok (.int 2) S:=rfl;have f:a7 .Eq (.int 2) (.int 2) S=.ok (.bl NA) S:=rfl;simp[A7,A3,ah,aC,au,ak,al,Res.bind,Res.noErr,bj,I',Ja,b,c,d,f]
theorem Ci{i:Nat}{x:D}(h:(ae ts)[i]?=Nz x):∃t,ts[i]?=Nz t/\x=ar t:=by
 simp[ae]at h
 grind
theorem Cj(H:Flat S)(a:ts.length<=1000)(h:ts.Pairwise aS):et [.tup (ae ts)] S=.ok (.bl NA) S:=
 uT H (by unfold ae;simpa using a) λi x y e E=>by obtain⟨t,f,rfl⟩:=Ci e;obtain⟨u,F,rfl⟩:=Ci E;rw[show jw S bE _ _=Nz _ from oZ S _ t u];obtain⟨g,rfl⟩:=Zm.mp f;obtain⟨G,rfl⟩:=Zm.mp F;rw[ZO (Yd.mp h i _ _ _ (by omega))]
theorem K9(h:Flat S)(W:bn m ts):ot [ag m ts] S=.ok (.bl NA) S:=by
 have l:=W.few;refine bL rfl ?_ rfl h rfl;have b:f9 [ag m ts,.ty "tuple"] S=.ok (.bl NA) S:=rfl;have c:f8 [ag m ts] S=.ok (.int 2) S:=rfl;have d:a7 .NotEq (.int 2) (.int 2) S=.ok (.bl NB) S:=rfl;have H:=Ce h m 1 8;rw[ZO (⟨W.lo,W.hi⟩:1<=m/\m<=8)]at H;have e:f9 [.tup (ae ts),.ty "tuple"] S=.ok (.bl NA) S:=rfl;have a:=Cj h (show ts.length<=1000 by omega) W.ris;have f:G0 "MOST_PLACES"=Nz (.int 8):=rfl;have g:aE (.tup [.var 1,.var 2]) (ag m ts) [Nz (ag m ts),none,none]=Nz _:=rfl;simp[A9,A8,ah,aC,au,ak,al,aK,Res.bind,Res.noErr,bj,bh,b,c,d,Jb,Jc,A_,H,e,bN,a,f,g,cB];simp only[bO];rw[o4]
 ·simp only[Res.noErr,o5];simp[a]
 ·intro z k A i;obtain⟨t,j,rfl⟩:=Zq.mp k;simp[aH,cf,slots,fi,aE,cc,ax,aN,ak,al,Res.bind,A_,Cg h (W.tie t j),Res.noErr];unfold bt at i;omega
 ·unfold ae bt;simp;omega
theorem uU(h:Flat S)(W:bn m ts):fo [ag m ts] S=.ok .non S:=by refine run_next (ρ:=[Nz (ag m ts)]) rfl ?_ rfl h;simp[Be,Bd,ah,aC,au,ak,al,Res.bind,Jh,K9 h W,bN]
theorem kP{b:Type}{f e:b->D}{p:b->Bool}{step:D->List D->aa->Res (List D)}{S:aa}:∀(xs:List b) (acc:List D),(∀x∈xs,∀acc,acc.length<bt->step (f x) acc S=.ok (if p x=NA then acc++[e x]else acc) S)->acc.length+xs.length<=bt->bz step (xs.map f) acc S=.ok (acc++(xs.filter p).map e) S
 | [],acc,_,_=>by simp[bz]
 |x::xs,acc,h,c=>by
  simp only[ZJ]at c;simp only[ZV];unfold bz;rw[h x Zd acc (by omega)];unfold Res.bind;dsimp only;have i:=λa=>kP (f:=f) (e:=e) (p:=p) (step:=step) xs a (λy d=>h y (Zb _ d));by_cases H:p x=NA
  ·rw[if_pos H,i _ (by simp;omega)];simp[H]
  ·rw[if_neg H,i _ (by omega)];simp[H]
theorem ew{f e:α->D}{p:α->Bool}{step:D->List D->aa->Res (List D)}{xs:List α}(h:∀x∈xs,∀acc,acc.length<bt->step (f x) acc S=.ok (if p x=NA then acc++[e x]else acc) S)(H:xs.length<=bt):bz step (xs.map f) [] S=.ok ((xs.filter p).map e) S:=by rw[kP _ _ h (by simp_all)];simp
theorem be{c:CS}{cs:List CS}(h:aC Φ Γ c ρ S=.ok (.next ρ') S'):ah Φ Γ (c::cs) ρ S=ah Φ Γ cs ρ' S':=by rw[ah,h];rfl
theorem cv{c:CS}{cs:List CS}(h:aC Φ Γ c ρ S=.ok (.ret d) S'):ah Φ Γ (c::cs) ρ S=.ok (.ret d) S':=by rw[ah,h];rfl
theorem e7{t:CT}{it:CE}{its:iH}(h:aK Φ Γ it ρ S=.ok its S1):aC Φ Γ (.for_ t it body) ρ S=mF (λx ρ S=>match aE t x ρ with
   |some ρ'=>ah Φ Γ body ρ' S
   |none=>.fail) its ρ S1:=by
 rw[aC,h];rfl
theorem aI{i:Nat}{e:CE}{cs:List CS}(h:ak Φ Γ e ρ S=.ok d S'):ah Φ Γ (.asg i e::cs) ρ S=ah Φ Γ cs (ρ.set i (Nz d)) S':=
 be (by rw[aC,h];rfl)
noncomputable def ba(lo:Int):Nat->Li
 |0=>[]
 |n+1=>lo::ba (lo+1) n
theorem jc(lo:Int)(n:Nat):eS lo n=(ba lo n).map D.int:=by
 induction n generalizing lo with
 |zero=>rfl
 |succ n i=>unfold eS ba;rw[i];rfl
theorem gz{lo x:Int}:x∈ba lo n->lo<=x/\x<lo+n:=by
 induction n generalizing lo with
 |zero=>intro h;cases h
 |succ n i=>
  intro h;unfold ba at h;rcases Zi.mp h with rfl|h
  ·omega
  ·have:=i h;omega
theorem ez{lo:Int}:(ba lo n).length=n:=by
 induction n generalizing lo with
 |zero=>rfl
 |succ n i=>unfold ba;simp[i]
noncomputable def cw(p:Int)(t:Int×Int):Bool:=decide (p=t.1\/p=t.2)
noncomputable def ay:Lq->Int->Option Int
 | [],_=>none
 |t::ts,p=>if p=t.1 then Nz t.2 else if p=t.2 then Nz t.1 else ay ts p
noncomputable def bW:Option Int->D
 |some i=>.int i
 |none=>.non
theorem o6(o:Option Int):bF 0 (bW o)=NA:=by cases o<;>rfl
theorem Ck{S:aa}{step:D->bC->aa->Res Fl}{p:Int}{P:D}
  (hs:∀(t:Int×Int) (x y:Option D),step (ar t) [Nz P,Nz (.int p),x,y] S=.ok (if p=t.1 then .ret (.int t.2)else if p=t.2 then .ret (.int t.1)else .next [Nz P,Nz (.int p),Nz (.int t.1),Nz (.int t.2)]) S):
  ∀(ts:Lq) (x y:Option D),(∃v,ay ts p=Nz v/\b0 step (ae ts) [Nz P,Nz (.int p),x,y] S=.ok (.ret (.int v)) S)\/(ay ts p=none/\∃X Y,b0 step (ae ts) [Nz P,Nz (.int p),x,y] S=.ok (.next [Nz P,Nz (.int p),X,Y]) S)
 | [],x,y=>.inr ⟨rfl,x,y,rfl⟩
 |t::ts,x,y=>by
  unfold ae;simp;unfold b0 ay;rw[hs];by_cases h:p=t.1
  ·rw[if_pos h,if_pos h];exact .inl ⟨_,rfl,rfl⟩
  ·rw[if_neg h,if_neg h];by_cases H:p=t.2
   ·rw[if_pos H,if_pos H];exact .inl ⟨_,rfl,rfl⟩
   ·rw[if_neg H,if_neg H];exact Ck hs _ _ _
theorem uV(g:Flat S)(ps:Lq)(p:Int):fv [.tup (ae ps),.int p] S=.ok (bW (ay ps p)) S:=by
 refine bL rfl ?_ rfl g (o6 _)
 have i:=Ck (S:=S) (p:=p) (P:=.tup (ae ps)) (step:=λx c S=>match aE (.tup [.var 2,.var 3]) x c with
   |some a=>ah kv G0 [.ite (.cmp .Eq (.var 1) (.var 2)) [.ret (.var 3)] [],.ite (.cmp .Eq (.var 1) (.var 3)) [.ret (.var 2)] []] a S
   |none=>.fail) (λt x y=>by
    simp only[ar,aE,cc];by_cases h:p=t.1
    ·simp[ah,aC,au,ak,Res.bind,Res.noErr,a7,cF,bE,sh,si,aQ,bj,h]
    ·by_cases H:p=t.2
     ·have b:¬t.2=t.1:=λz=>h (H.trans z);simp[ah,aC,au,ak,Res.bind,Res.noErr,a7,cF,bE,sh,si,aQ,bj,h,H,b]
      try omega
     ·simp[ah,aC,au,ak,Res.bind,Res.noErr,a7,cF,bE,sh,si,aQ,bj,h,H]) ps none none
 have e:ah kv G0 Bu ([D.tup (ae ps),D.int p].map Nz++NG (Bt.length-2) none) S=(b0 (λx c S=>match aE (.tup [.var 2,.var 3]) x c with
   |some a=>ah kv G0 [.ite (.cmp .Eq (.var 1) (.var 2)) [.ret (.var 3)] [],.ite (.cmp .Eq (.var 1) (.var 3)) [.ret (.var 2)] []] a S
   |none=>.fail) (ae ps) [Nz (.tup (ae ps)),Nz (.int p),none,none] S).bind λf d=>match f with
    | .next a=>ah kv G0 [.ret (.lit .non)] a d
    |f=>.ok f d:=rfl
 rw[e];rcases i with⟨v,h,H⟩| ⟨h,X,Y,H⟩
 ·rw[H,h];rfl
 ·rw[H,h];rfl
noncomputable def de(m:Int)(ps:Lq):Li:=(ba 0 m.toNat).filter λi=>(ay ps i).isNone
theorem K_(o:Option Int):ik (bW o)=o.isNone:=by cases o<;>rfl
theorem K'(H:Flat S)(h1:1<=m)(g:m<=8)(ts ps:Lq):oC [ag m ts,.tup (ae ps)] S=.ok (.tup ((de m ps).map D.int)) S:=by
 refine bL rfl ?_ rfl H (e5 _);have a:bi (ag m ts) (.int 0) S=.ok _ S:=rfl;have f: -4611686018427387904<=m/\m<4611686018427387904:=by omega
 simp[Bv,ah,aC,ak,al,aK,Res.bind,Res.noErr,bO,a,f,jc];rw[ew (p:=λi=>(ay _ i).isNone)]
 ·rfl
 ·intro i a A c;have h:=c;have d:=uV H ps i;have b:=K_ (ay ps i);cases e:(ay _ i).isNone<;>rw[e]at b<;>simp[aH,cf,slots,aE,ax,au,aN,ak,al,Res.bind,a7,EA,Res.noErr,bj,Jw,d,b,h]
 ·rw[ez];lia
theorem o7{a:Type}{f:a->D}{g:a->List D}{c:Nat}{step:D->List D->aa->Res (List D)}{S:aa}(H:∀x,(g x).length<=c):∀(xs:List a) (acc:List D),(∀x∈xs,∀acc,acc.length+c<=bt->step (f x) acc S=.ok (acc++g x) S)->acc.length+c*xs.length<=bt->bz step (xs.map f) acc S=.ok (acc++xs.flatMap g) S
 | [],acc,_,_=>by simp[bz]
 |x::xs,acc,h,b=>by simp[Ta]at b;simp;unfold bz;rw[h x Zd _ (by omega)];unfold Res.bind;dsimp;rw[o7 H _ _ (λy d=>h y (Zb _ d)) (by grind)];simp
theorem Cm:∀(ns acc:Li),(acc++ns).Nodup->ns.foldl Q3 acc=acc++ns
 | [],acc,_=>by simp
 |n::ns,acc,h=>by
  simp only[OJ]
  have H:acc.any (· ==n)=NB:=by
   rw[TQ];intro x a z;have:x=n:=by simpa using z
   subst this;have:=(ZN.mp h).2.2 x a x Zd;exact this rfl
  have e:Q3 acc n=acc++[n]:=by unfold Q3;rw[H];rfl
  rw[e,Cm ns (acc++[n]) (by rw[ZP];exact h),ZP];rfl
theorem Lb(c:Flat S)(g:ns.length<1000)(h:ns.Nodup):g5 [.lst (ns.map D.int)] S=.ok (.bl NA) S:=by
 refine bL rfl ?_ rfl c rfl
 have H:jK (.lst (ns.map D.int)) S=.ok (.int ns.length) S:=by
  have e:(ns.map D.int).all (aw .int)=NA:=by rw[ZF];intro x d;obtain⟨n,_,rfl⟩:=Zq.mp d;rfl
  have E:(ns.map D.int).filterMap cg=ns:=by rw[Tc];exact List.filterMap_some
  have f:eL ns=ns:=by unfold eL;have:=Cm ns [] (by simp_all);simp_all
  show(if(ns.map _).all _=NA/\(ns.map _).length<1000 then Res.ok _ S else _)=_;simp_all
 have a:f8 [.lst (ns.map D.int)] S=.ok (.int ns.length) S:=by simp[f8,av]
 have b:a7 .Eq (.int ns.length) (.int ns.length) S=.ok (.bl NA) S:=by have:a7 .Eq (.int ns.length) (.int ns.length) S=.ok _ S:=rfl;simp_all
 simp[ut,ah,aC,ak,al,Res.bind,Res.noErr,bh,H,a,b]
noncomputable def aP(ps:Lq):Li:=ps.flatMap λt=>[t.1,t.2]
theorem Lc(ps:Lq):ps.flatMap (λt=>[D.int t.1,D.int t.2])=(aP ps).map D.int:=by unfold aP;rw[QG];rfl
theorem Ld(ps:Lq):(aP ps).length=2*ps.length:=by
 unfold aP
 induction ps with
 |nil=>rfl
 |cons t T i=>simp only[Pw,Zz,i,ZJ];simp;omega
theorem Le(b:Flat S){ps:Lq}(W:bn m ts)(P:aW ts ps)(o:ps.length<=100):ov [ag m ts,.tup (ae ps)] S=.ok (.bl NA) S:=by
 refine bL rfl ?_ rfl b rfl;have e:bi (ag m ts) (.int 0) S=.ok (.int m) S:=rfl;have H:bi (ag m ts) (.int 1) S=.ok (.tup (ae ts)) S:=rfl;have f:f9 [.tup (ae ps),.ty "tuple"] S=.ok (.bl NA) S:=rfl;have g:=Cj b (show ps.length<=1000 by omega) P.ris;unfold Bc;refine(be (ρ':=[Nz (ag m ts),Nz (.tup (ae ps))]) (S':=S) (by simp[Bb,aC,ah,au,ak,al,Res.bind,Res.noErr,bh,f,bN])).trans ?_;refine cv ?_;simp[aC,ak,al,aK,Res.bind,Res.noErr,bj,bh,cB,bO];rw[o4]
 ·simp only[Res.noErr];rw[o5];simp[Jf,g]
 ·intro z k a i;obtain⟨t,d,rfl⟩:=Zq.mp k;have j:=Cg b (W.tie t (P.sub t d));have h:=Cd S t ts;rw[ZO (P.sub t d)]at h;have c:a.length<16777216:=i;simp[aH,cf,slots,fi,aE,cc,ax,aN,ak,al,Res.bind,Jg,j,Res.noErr,e,H,a7,h,aQ,bj,c]
 ·unfold ae bt;simp;omega
theorem Lf(h:Flat S){ps:Lq}(W:bn m ts)(P:aW ts ps)(d:ps.length<=100):oB [ag m ts,.tup (ae ps)] S=.ok (.bl NA) S:=by
 refine bL rfl ?_ rfl h rfl;have j:=Lb h (ns:=aP ps) (by rw[Ld];omega) P.un;refine(be (ρ':=[Nz (ag m ts),Nz (.tup (ae ps))]) (S':=S) (by simp[Bp,aC,ak,al,Res.bind,Jr,uU h W])).trans ?_;refine cv ?_;simp[aC,ak,al,aK,Res.bind,Res.noErr,bj,Js,Jt,Le h W P d,cB,bO];unfold ae;rw[o7 (g:=λt=>[.int t.1,.int t.2]) (c:=2) (λx=>by simp)]
 ·rw[Lc];simp_all
 ·intro t k a H;have b:a.length+2<=16777216:=H;have e:cB S (ar t)=Nz _:=rfl;simp[(rfl),aH,cf,slots,aE,ax,aN,ak,aK,Res.bind,e,bO,bz,show a.length<16777216 by omega,show a.length+1<16777216 by omega]
 grind
theorem Lg(h:Flat S){ps:Lq}(W:bn m ts)(P:aW ts ps)(H:ps.length<=100):g7 [ag m ts,.tup (ae ps)] S=.ok .non S:=by refine run_next (ρ:=[Nz (ag m ts),Nz (.tup (ae ps))]) rfl ?_ rfl h;simp[Br,Bq,ah,aC,au,ak,al,Res.bind,Ju,Lf h W P H,bN]
noncomputable def insI(x:Int×Int):Lq->Lq
 | []=>[x]
 |y::ys=>if aS x y then x::y::ys else y::insI x ys
noncomputable def sortI(l:Lq):Lq:=l.foldl (λacc x=>insI x acc) []
theorem o8(a b:Int×Int):bJ (.seq .int) (ar a) (ar b)=decide (aS a b):=by
 have e:bJ (.seq .int) (ar a) (ar b)=(if decide (a.1<b.1)=NA then NA else if decide (b.1<a.1)=NA then NB else if decide (a.2<b.2)=NA then NA else if decide (b.2<a.2)=NA then NB else NB):=rfl;rw[e];simp only[Yh];by_cases h:aS a b
 ·rw[ZO h];unfold aS at h
  repeat' split
  all_goals first|rfl|omega
 ·rw[ZQ h];unfold aS at h
  repeat' split
  all_goals first|rfl|omega
theorem Cn(x:Int×Int):∀l:Lq,insB (bJ (.seq .int)) (ar x) (ae l)=ae (insI x l)
 | []=>rfl
 |y::Y=>by
  show(if bJ _ _ _=NA then ar x::ar y::ae _ else ar y::insB _ _ (ae _))=ae _;have e:insI x (y::Y)=if aS x y then x::y::Y else y::insI x _:=rfl;rw[o8,Cn x _,e];by_cases h:aS x y
  ·rw[ZO h,if_pos h];rfl
  ·rw[ZQ h,if_neg h];rfl
theorem Co:∀(l acc:Lq),(ae l).foldl (λacc x=>insB (bJ (.seq .int)) x acc) (ae acc)=ae (l.foldl (λacc x=>insI x acc) acc)
 | [],acc=>rfl
 |x::l,acc=>by show(ae l).foldl _ (insB _ _ _)=_;rw[Cn,Co l];rfl
theorem Lh(l:Lq):eT (bJ (.seq .int)) (ae l)=ae (sortI l):=Co l []
theorem o9(x:Int×Int):∀l,(insI x l).Perm (x::l)
 | []=>.refl _
 |y::Y=>by
  unfold insI;split
  ·exact .refl _
  ·exact((o9 x _).cons y).trans (.swap x y _)
theorem Cp:∀(l acc:Lq),(l.foldl (λacc x=>insI x acc) acc).Perm (l++acc)
 | [],acc=>.refl _
 |x::l,acc=>by exact(Cp l _).trans (((o9 x _).append_left l).trans OQ)
theorem kQ(l:Lq):(sortI l).Perm l:=by have:=Cp l [];rw[Yf]at this;exact this
theorem lex_tot{x y:Int×Int}(h:¬aS x y)(n:x≠y):aS y x:=by
 unfold aS at h⊢
 grind
theorem Lj{x y z:Int×Int}(a:aS x y)(b:aS y z):aS x z:=by unfold aS at*;omega
theorem Cq(x:Int×Int):∀l,l.Pairwise aS->x∉l->(insI x l).Pairwise aS
 | [],_,_=>Sl _ _
 |y::Y,h,n=>by
  obtain⟨a,b⟩:=ZM.mp h;unfold insI;by_cases e:aS x y
  ·rw[if_pos e];refine ZM.mpr ⟨λz H=>?_,h⟩;rcases Zi.mp H with rfl|H
   ·exact e
   ·exact Lj e (a z H)
  ·rw[if_neg e];refine ZM.mpr ⟨λz H=>?_,Cq x _ b λz=>n (Zb _ z)⟩;rcases Zi.mp ((o9 x _).mem_iff.mp H)with rfl|H
   ·exact lex_tot e λz=>n (by simp_all)
   simp_all
theorem Cr:∀(l acc:Lq),acc.Pairwise aS->(l++acc).Nodup->(l.foldl (λacc x=>insI x acc) acc).Pairwise aS
 | [],acc,h,_=>h
 |x::l,acc,h,n=>by have N:=n;obtain⟨a,b⟩:=Ya.mp N;exact Cr l _ (Cq x _ h λz=>a (Zt _ z)) ((((o9 x _).append_left l).trans OQ).nodup_iff.mpr N)
theorem Cs{l:Lq}(h:l.Nodup):(sortI l).Pairwise aS:=Cr l _ .nil (by simp_all)
theorem Ct{l:Lq}(H:av S d=Nz (ae l))(b:l.length<64):fN NB (.seq .int) [d] S=.ok (.lst (ae (sortI l))) S:=by
 have e:(ae l).all (aw (.seq .int))=NA:=by rw[ZF];intro x h;obtain⟨t,_,rfl⟩:=Zq.mp h;rfl
 have E:gR (.seq .int) (ae l)=NA:=by
  have:((ae l).all λd=> !dP d)=NA:=by rw[ZF];intro x h;obtain⟨t,_,rfl⟩:=Zq.mp h;rfl
  show(NA&&(((ae l).all λd=> !dP d)||dP ((ae l).headD .non)))=NA;rw[this];rfl
 have a:(ae l).length<65536:=by unfold ae;rw[Zh];omega
 unfold fN;simp only[H];rw[if_pos ⟨e,a,E⟩,Lh];rfl
theorem Lk{l:Lq}(h1:1<=m)(h:m<=8)(a:l.Nodup)(c:∀t∈l,0<=t.1/\t.1<t.2/\t.2<m)(H:l.length<=28):bn m (sortI l):=
 ⟨h1,h,Cs a,λt b=>c t ((kQ l).mem_iff.mp b),by rw[(kQ l).length_eq];exact H⟩
theorem Cu(h1:1<=m)(h:m<=8):m=1\/m=2\/m=3\/m=4\/m=5\/m=6\/m=7\/m=8:=by obtain⟨n,rfl⟩:=Int.eq_ofNat_of_zero_le (Int.le_trans (by decide) h1);exact(by decide:∀n:Fin 9,(1:Int)<=(n.val:Nat)->((n.val:Nat):Int)=1\/((n.val:Nat):Int)=2\/((n.val:Nat):Int)=3\/((n.val:Nat):Int)=4\/((n.val:Nat):Int)=5\/((n.val:Nat):Int)=6\/((n.val:Nat):Int)=7\/((n.val:Nat):Int)=8) ⟨n,Qz (Int.ofNat_le.mp h)⟩ h1
theorem Cv{lo:Int}:(ba lo n).Nodup:=by
 induction n generalizing lo with
 |zero=>exact OC
 |succ n i=>refine Ya.mpr ⟨λh=>?_,i⟩;have:=gz h;omega
theorem hL{c:CE}{a b:List CS}{k:Bool}(h:au Φ Γ c ρ S=.ok k S1):aC Φ Γ (.ite c a b) ρ S=if k=NA then ah Φ Γ a ρ S1 else ah Φ Γ b ρ S1:=by rw[aC,h];rfl
theorem c6{tg:CT}{it:CE}{i:List CE}{body:CE}{a:aa}{its:iH}(h:aK Φ Γ it ρ S=.ok its S1)
  (H:bO (λx acc S2=>match aH tg x (fr.map λj=>j.bind λj=>(ρ[j]?).join)with
    |some ρ'=>(ax Φ Γ i ρ' S2).bind λk S3=>if k=NA then aN Φ Γ body ρ' acc S3 else .ok acc S3
    |none=>.fail) its [] S1=.ok ys a):ak Φ Γ (.comp NB N fr tg it i body) ρ S=.ok (.lst ys) a:=by
 rw[ak,h];exact Eq.trans (Yj (λr=>Res.bind (Res.noErr r) (λys a=>if NB=NA then Res.ok (D.ref a.length) (a++[ys])else Res.ok (.lst ys) a)) H) rfl
section
variable {S3:aa}{d2 r x y:D}{e a b:CE}
theorem ai{i:Nat}(h:ρ[i]?=Nz (Nz d)):ak Φ Γ (.var i) ρ S=.ok d S:=by rw[ak,h]
theorem dz{k:jJ}(h:ak Φ Γ e ρ S=.ok d S1)(H:bh k [d] S1=.ok r S2):ak Φ Γ (.blt k [e]) ρ S=.ok r S2:=by simp[ak,al,h,Res.bind,H,Res.noErr]
theorem hO{f:Str}(H:Φ f=Nz φ)(h1:ak Φ Γ a ρ S=.ok x S1)(h:φ [x] S1=.ok r S2):ak Φ Γ (.call f [a]) ρ S=.ok r S2:=by simp[ak,al,H,h1,h,Res.bind]
theorem dC{f:Str}(c:Φ f=Nz φ)(h1:ak Φ Γ a ρ S=.ok x S1)(H:ak Φ Γ b ρ S1=.ok y S2)(h:φ [x,y] S2=.ok r S3):ak Φ Γ (.call f [a,b]) ρ S=.ok r S3:=by simp[ak,al,c,h1,H,h,Res.bind]
theorem gA(h:ak Φ Γ e ρ S=.ok d S1):aC Φ Γ (.ret e) ρ S=.ok (.ret d) S1:=by rw[aC,h];rfl
end
section
variable {A B:List D}
theorem uW:(S++[A,B])[S.length]?=Nz A:=by rw[Zs (Zg _)];simp
theorem uX:(S++[A,B])[S.length+1]?=Nz B:=by simp_all
theorem Ll{X:List D}:(S++[A,B]).set S.length X=S++[X,B]:=by simp_all
theorem Cw{X:List D}:(S++[A,B]).set (S.length+1) X=S++[A,X]:=by simp_all
theorem Cy(h:Flat S)(H:bd 0 A=NA)(a:bd 0 B=NA):Flat (S++[A,B]):=by have:=(h.snoc H).snoc a;simp_all
end
theorem Cz{step:D->List D->aa->Res (List D)}{S:aa}{k:Nat}{xs:List D}(a:S[k]?=Nz xs)(hs:∀x∈xs,∀acc,acc.length<bt->step x acc S=.ok (acc++[.bl NA]) S\/step x acc S=.ok (acc++[.bl NB]) S):
  ∀(f i:Nat) (acc:List D),xs.length<f+i->i<=xs.length->bA step (bP k) f i acc S=bz step (xs.drop i) acc S\/bt<=acc.length+(xs.length-i)
 |0,i,acc,H,b=>absurd H (by omega)
 |f+1,i,acc,H,b=>by
  unfold bA;have d:bP k S i=Nz xs[i]? :=by unfold bP;rw[a];rfl
  rw[d];by_cases h:i<xs.length
  ·rw[Zf h,Ye h];by_cases c:acc.length<bt
   ·dsimp only;unfold bz;rcases hs xs[i] (Z6 h) acc c with e|e<;>rw[e]<;>dsimp only[Res.bind]
    all_goals
     rcases Cz a hs f (i+1) (acc++[_]) (by omega) (by omega)with z|z
     ·exact .inl z
     ·right;simp at z;omega
   ·right;omega
  ·rw[PJ (by omega),OS (by omega)];exact .inl rfl
noncomputable def hU(t:Int×Int)(fs:Lq):Bool:=fs.all λo=> !cw t.1 o&& !cw t.2 o
structure Found (ts fs:Lq):Prop where
 sub:∀t∈fs,t∈ts
 un:(aP fs).Nodup
theorem Lm(fs:Lq)(t:Int×Int):aP (fs++[t])=aP fs++[t.1,t.2]:=by unfold aP;simp
theorem Ln{fs:Lq}{p:Int}(h:p∈aP fs):∃o∈fs,p=o.1\/p=o.2:=by unfold aP at h;simp_all
theorem Found.add{fs:Lq}{t:Int×Int}(W:bn m ts)(F:Found ts fs)(d:t∈ts)(h:hU t fs=NA):Found ts (fs++[t]):=by
 have j:∀o∈fs,¬(t.1=o.1\/t.1=o.2)/\¬(t.2=o.1\/t.2=o.2):=λo H=>by have:=ZF.mp h o H;simp only[ZL,O3,cw,decide_eq_false_iff_not]at this;exact this
 refine⟨λu k=>?_,?_⟩
 ·rcases Zp.mp k with z|z
  ·exact F.sub u z
  ·have:u=t:=by simpa using z
   subst this;exact d
 ·rw[Lm,ZN];have:=W.tie t d;refine⟨F.un,?_,λa i b c=>?_⟩
  ·simp;omega
  ·obtain⟨o,H,e⟩:=Ln i;obtain⟨f,g⟩:=j o H;simp at c;intro z;subst z;rcases c with rfl|rfl
   ·exact f e
   ·exact g e
theorem Found.length{fs:Lq}(W:bn m ts)(F:Found ts fs):fs.length<=28:=by
 have b:fs.Nodup:=by
  have h:=F.un;clear F
  induction fs with
  |nil=>exact OC
  |cons t fs i=>have e:aP (t::fs)=[t.1,t.2]++aP fs:=rfl;rw[e]at h;obtain⟨d,H,a⟩:=ZN.mp h;refine Ya.mpr ⟨λz=>?_,i H⟩;exact a t.1 (by simp) t.1 (by unfold aP;exact Pa.mpr ⟨t,z,by simp⟩) rfl
 exact Zw (b.length_le_of_subset λt c=>F.sub t c) W.few
theorem Found.nodup{fs:Lq}(F:Found ts fs):fs.Nodup:=by
 have h:=F.un;clear F
 induction fs with
 |nil=>simp_all
 |cons t fs i=>obtain⟨b,H,a⟩:=ZN.mp h;exact Ya.mpr ⟨λz=>a t.1 (by simp) _ (by grind) rfl,i H⟩
theorem Found.pairing{fs:Lq}(F:Found ts fs):aW ts (sortI fs):=
 ⟨Cs F.nodup,λt h=>F.sub t ((kQ _).mem_iff.mp h),((kQ _).flatMap_right _).nodup_iff.mpr F.un⟩
end K52
namespace Py
abbrev Ti:=Int×Int
noncomputable def gB(ts p:List Ti):Prop:=(∀t∈p,t∈ts)/\p.Pairwise (λs t=>s.1<t.1/\s.2≠t.1/\s.2≠t.2)
noncomputable def a8(p:List Ti)(x:Int):Bool:=p.all λs=>decide (x≠s.1)&&decide (x≠s.2)
theorem gC{p:List Ti}{x:Int}:a8 p x=NA↔∀s∈p,x≠s.1/\x≠s.2:=by unfold a8;simp only[ZF,ZL,Yh]
noncomputable def fU(ts:List Ti)(a:Int)(F:List (List Ti)):List (List Ti):=F++(ts.filter λt=>decide (t.1=a)).flatMap λt=>(F.filter λp=>a8 p t.2).map (t:: ·)
def DI(ts:List Ti)(a:Int)(F:List (List Ti)):Prop:=F.Nodup/\∀p,p∈F↔gB ts p/\∀t∈p,a<=t.1
theorem CA{ts p:List Ti}{t:Ti}:gB ts (t::p)↔t∈ts/\gB ts p/\∀s∈p,t.1<s.1/\t.2≠s.1/\t.2≠s.2:=by
 unfold gB;rw[ZM];constructor
 ·rintro⟨H,a,b⟩;exact⟨H t Zd,⟨λs h=>H s (Zb _ h),b⟩,a⟩
 ·rintro⟨H,⟨a,b⟩,c⟩;refine⟨λs h=>?_,c,b⟩;rcases Zi.mp h with rfl|h
  ·exact H
  ·exact a s h
theorem CB{ts:List Ti}{a:Int}{F:List (List Ti)}(r:ts.Nodup)(h:DI ts (a+1) F):DI ts a (fU ts a F):=by
 obtain⟨m,g⟩:=h;unfold fU;refine⟨?_,λp=>?_⟩
 ·rw[ZN];refine⟨m,?_,λp j q i z=>?_⟩
  ·unfold RY;rw[List.pairwise_flatMap];refine⟨λt b=>?_,?_⟩
   ·rw[Z3];exact(Pp _ m).imp λf z=>f (by injection z)
   ·refine(Pp _ r).imp λf x u y v z=>?_;obtain⟨X,_,rfl⟩:=Zq.mp u;obtain⟨Y,_,rfl⟩:=Zq.mp v;injection z with Z _
    exact f Z
  ·subst z;obtain⟨t,b,l⟩:=Pa.mp i;obtain⟨q,i,rfl⟩:=Zq.mp l;have:=((g _).mp j).2 t Zd;have e:t.1=a:=by simpa using(Zn.mp b).2
   omega
 ·rw[Zp,Pa];constructor
  ·rintro(j| ⟨t,b,j⟩)
   ·obtain⟨c,d⟩:=(g p).mp j;exact⟨c,λt b=>by have:=d t b;omega⟩
   ·obtain⟨q,i,rfl⟩:=Zq.mp j;obtain⟨i,k⟩:=Zn.mp i;obtain⟨b,e⟩:=Zn.mp b;have e:t.1=a:=by simpa using e
    obtain⟨c,d⟩:=(g q).mp i;have k:=gC.mp k;refine⟨CA.mpr ⟨b,c,λs H=>⟨by have:=d s H;omega,k s H⟩⟩,λs H=>?_⟩;rcases Zi.mp H with rfl|H
    ·omega
    ·have:=d s H;omega
  ·rintro⟨c,d⟩;cases p with
   |nil=>exact .inl ((g []).mpr ⟨c,λt b=>by cases b⟩)
   |cons t q=>
    obtain⟨n,o,C⟩:=CA.mp c;have D:=d t Zd;by_cases e:t.1=a
    ·right;refine⟨t,Zn.mpr ⟨n,by simpa using e⟩,Zq.mpr ⟨q,Zn.mpr ⟨(g q).mpr ⟨o,λs H=>?_⟩,gC.mpr λs H=>(C s H).2⟩,rfl⟩⟩;have:=(C s H).1;omega
    ·left;refine(g _).mpr ⟨c,λs H=>?_⟩;rcases Zi.mp H with rfl|H
     ·omega
     ·have:=(C s H).1;omega
noncomputable def jd(ts:List Ti):Nat->List (List Ti)->List (List Ti)
 |0,F=>F
 |n+1,F=>jd ts n (fU ts n F)
theorem CC{ts:List Ti}(H:ts.Nodup):∀(n:Nat) (F:List (List Ti)),DI ts n F->DI ts 0 (jd ts n F)
 |0,F,h=>h
 |n+1,F,h=>CC H n _ (CB H h)
theorem CD{ts:List Ti}{m:Nat}(H:∀t∈ts,t.1<(m:Int)):DI ts m [[]]:=by
 refine⟨by simp,λp=>?_⟩;rw[ZB];constructor
 ·rintro rfl;exact⟨⟨λt h=>by(cases h),.nil⟩,λt h=>by cases h⟩
 ·rintro⟨c,d⟩;cases p with
  |nil=>rfl
  |cons t q=>have a:=d t Zd;have b:=H t (c.1 t Zd);omega
theorem CF{ts p:List Ti}{t:Ti}:gB ts (p++[t])↔t∈ts/\gB ts p/\∀s∈p,s.1<t.1/\s.2≠t.1/\s.2≠t.2:=by
 unfold gB;rw[ZG];constructor
 ·rintro⟨H,a,d,b⟩;exact⟨H t (by simp),⟨λs h=>H s (by simp[h]),a⟩,λs h=>b s h t (by simp)⟩
 ·rintro⟨H,⟨a,d⟩,b⟩;refine⟨λs h=>?_,d,by simp,λs h T c=>?_⟩
  ·rcases Zp.mp h with h|h
   ·exact a s h
   ·rw[ZB.mp h];exact H
  ·rw[ZB.mp c];exact b s h
end Py
namespace Pc
inductive b8 (R:Int->Int->Prop):Int->Int->Prop
 |refl (a:Int):b8 R a a
 |step {a b c:Int} (h:b8 R a b) (r:R b c):b8 R a c
theorem b8.trans{R:Int->Int->Prop}{a b c:Int}(h:b8 R a b)(k:b8 R b c):b8 R a c:=by
 induction k with
 |refl=>exact h
 |step _ r i=>exact i.step r
theorem b8.symm{R:Int->Int->Prop}(hR:∀a b,R a b->R b a){a b:Int}(h:b8 R a b):b8 R b a:=by
 induction h with
 |refl=>exact .refl _
 |step _ r i=>exact(b8.step (.refl _) (hR _ _ r)).trans i
noncomputable def cb(ts:Lq)(so:Li)(a b:Int):Prop:=((a,b)∈ts\/(b,a)∈ts)/\a∉so/\b∉so
theorem cb.symm(a b:Int)(h:cb ts so a b):cb ts so b a:=⟨h.1.symm,h.2.2,h.2.1⟩
noncomputable def nm(ns:Li)(p:Int):Int:=ns.getD p.toNat 0
noncomputable def dZ(so:Li)(ns:Li)(t:Int×Int):Li:=
 if t.1∉so/\t.2∉so then(ns.set t.1.toNat (min (nm ns t.1) (nm ns t.2))).set t.2.toNat (min (nm ns t.1) (nm ns t.2))else ns
noncomputable def pass(so:Li)(ts:Lq)(ns:Li):Li:=ts.foldl (dZ so) ns
theorem kR{i p x:Int}(hi:0<=i)(h:i<ns.length)(H:0<=p):nm (ns.set i.toNat x) p=if p=i then x else nm ns p:=by
 unfold nm;simp only[List.getD_eq_getElem?_getD];by_cases q:p=i
 ·subst q;rw[if_pos rfl,List.getElem?_set_self (by omega)];rfl
 ·rw[if_neg q,List.getElem?_set_ne (by omega)]
theorem o_{t:Int×Int}:(dZ so ns t).length=ns.length:=by unfold dZ;split<;>simp
theorem CG:∀{ts:Lq},(pass so ts ns).length=ns.length:=by
 intro ts;unfold pass
 induction ts generalizing ns with
 |nil=>rfl
 |cons t ts i=>rw[OJ,i,o_]
theorem pc{t:Int×Int}(h1:0<=t.1)(a:t.1<ns.length)(b:0<=t.2)(c:t.2<ns.length){p:Int}(H:0<=p):
  nm (dZ so ns t) p=if(t.1∉so/\t.2∉so)/\(p=t.1\/p=t.2)then min (nm ns t.1) (nm ns t.2)else nm ns p:=by
 unfold dZ;by_cases h:t.1∉so/\t.2∉so
 ·rw[if_pos h,kR b (by simp_all) H,kR h1 a H];lia
 lia
def d_(m:Nat)(ts:Lq):Prop:=∀t∈ts,0<=t.1/\t.1<m/\0<=t.2/\t.2<m
theorem uY{m:Nat}{t:Int×Int}(a:ns.length=m)(h:0<=t.1/\t.1<m/\0<=t.2/\t.2<m){p:Int}(H:0<=p):nm (dZ so ns t) p<=nm ns p:=by
 rw[pc h.1 (by simp_all) h.2.2.1 (by simp_all) H]
 grind
theorem kS{m:Nat}{so:Li}{p:Int}(a:0<=p):∀{ts:Lq} {ns:Li},d_ m ts->ns.length=m->nm (pass so ts ns) p<=nm ns p
 | [],ns,_,_=>by unfold pass;simp
 |t::ts,ns,h,H=>by have c:=uY (so:=so) H (h t Zd) a;have d:=kS (so:=so) a (ns:=dZ so _ t) (λu b=>h u (Zb _ b)) (by rw[o_,H]);show nm (pass _ ts _) p<=_;lia
theorem uZ{m:Nat}{so:Li}:∀{ts:Lq} {ns:Li},d_ m ts->ns.length=m->∀t∈ts,t.1∉so->t.2∉so->nm (pass so ts ns) t.1<=nm ns t.2/\nm (pass so ts ns) t.2<=nm ns t.1
 | [],ns,_,_,t,h,_,_=>by simp_all
 |u::ts,ns,g,i,t,h,d,f=>by
  have c:=g u Zd;have a:=λv k=>g v (Zb _ k);have b:(dZ so ns u).length=m:=by rw[o_,i]
  have H:=g t h;show nm (pass _ ts _) _<=_/\nm (pass _ ts _) _<=_;rcases Zi.mp h with e|e
  ·subst e;have A:=kS (so:=so) H.1 a b;have j:=kS (so:=so) H.2.2.1 a b;rw[pc c.1 (by omega) c.2.2.1 (by omega) H.1,if_pos ⟨⟨d,f⟩,.inl rfl⟩]at A;rw[pc c.1 (by omega) c.2.2.1 (by omega) H.2.2.1,if_pos ⟨⟨d,f⟩,.inr rfl⟩]at j
   grind
  ·obtain⟨B,l⟩:=uZ a b t e d f;have C:=uY (so:=so) i c H.1;have n:=uY (so:=so) i c H.2.2.1;lia
theorem Lo{m:Nat}{TS:Lq}{t:Int×Int}(j:ns.length=m)(H:0<=t.1/\t.1<m/\0<=t.2/\t.2<m)(f:t∈TS)(h:∀p:Int,0<=p->p<m->b8 (cb TS so) p (nm ns p)):∀p:Int,0<=p->p<m->b8 (cb TS so) p (nm (dZ so ns t) p):=by
 intro p P k;rw[pc H.1 (by simp_all) H.2.2.1 (by simp_all) P];split
 ·rename_i d;obtain⟨⟨b,c⟩,i⟩:=d;have a:cb _ _ _ _:=⟨.inl f,b,c⟩;have e:=h _ H.1 H.2.1;have E:=h _ H.2.2.1 H.2.2.2;have F:=(b8.step (.refl _) a).trans E;have g:=(b8.step (.refl _) a.symm).trans e;lia
 simp_all
theorem CH{m:Nat}{TS:Lq}{so:Li}:∀{ts:Lq} {ns:Li},d_ m ts->ns.length=m->(∀t∈ts,t∈TS)->(∀p:Int,0<=p->p<m->b8 (cb TS so) p (nm ns p))->∀p:Int,0<=p->p<m->b8 (cb TS so) p (nm (pass so ts ns) p)
 | [],ns,_,_,_,h=>h
 |t::ts,ns,a,b,c,h=>by show ∀p:Int,0<=p->p<m->b8 _ p (nm (pass _ ts _) p);exact CH (λu H=>a u (Zb _ H)) (by rw[o_,b]) (λu H=>c u (Zb _ H)) (Lo b (a t Zd) (c t Zd) h)
noncomputable def bM(so:Li)(ts:Lq):Nat->Li->Li
 |0,ns=>ns
 |k+1,ns=>bM so ts k (pass so ts ns)
theorem u2:∀{k:Nat},bM so ts (k+1) ns=pass so ts (bM so ts k ns):=by
 intro k
 induction k generalizing ns with
 |zero=>rfl
 |succ k i=>exact i
theorem Lr:∀{k:Nat},(bM so ts k ns).length=ns.length:=by
 intro k
 induction k generalizing ns with
 |zero=>rfl
 |succ k i=>show(bM _ _ k _).length=_;rw[i,CG]
theorem Lu{m:Nat}(a:d_ m ts)(H:ns.length=m)(h:∀p:Int,0<=p->p<m->b8 (cb ts so) p (nm ns p)):∀{k:Nat} (p:Int),0<=p->p<m->b8 (cb ts so) p (nm (bM so ts k ns) p):=by
 intro k
 induction k generalizing ns with
 |zero=>exact h
 |succ k i=>exact i (by rw[CG,H]) (CH a H (λt b=>b) h)
noncomputable def cnt(m:Nat)(f:Nat->Bool):Nat:=((NJ m).filter f).length
theorem u3{m:Nat}{f:Nat->Bool}:cnt m f<=m:=by exact Zw (ZI _ _) (by simp)
theorem CI{a:Type}{f g:a->Bool}:∀(l:List a),(∀x∈l,f x=NA->g x=NA)->(l.filter f).length<=(l.filter g).length
 | [],_=>Zg _
 |x::l,h=>by
  have i:=CI l λy H=>h y (Zb _ H)
  grind
theorem CJ{a:Type}{f g:a->Bool}:∀(l:List a),(∀x∈l,f x=NA->g x=NA)->(∃x∈l,f x=NB/\g x=NA)->(l.filter f).length<(l.filter g).length
 | [],_,h=>by simp_all
 |x::l,h,d=>by
  have I:=CI l λy H=>h y (Zb _ H);obtain⟨y,H,b,c⟩:=d;rcases Zi.mp H with e|e
  ·grind
  ·have i:=CJ l (λy H=>h y (Zb _ H)) ⟨y,e,b,c⟩
   grind
theorem Lw{m:Nat}(j:d_ m ts)(D:ns.length=m)(B:∀p:Int,0<=p->p<m->nm ns p=p){c:Int}(o:0<=c)(x:c<m)(M:∀q,b8 (cb ts so) c q->c<=q):
  ∀p,b8 (cb ts so) c p->nm (bM so ts m ns) p=c:=by
 have inR:∀{q:Int},b8 (cb ts so) c q->0<=q/\q<m:=by
  intro q h;cases h with
  |refl=>exact⟨o,x⟩
  |step _ r=>
   rcases r.1 with r|r
   ·have:=j _ r;dsimp only at this;omega
   ·have:=j _ r;dsimp only at this;omega
 have g:∀{k:Nat} (p:Int),0<=p->p<m->b8 (cb ts so) p (nm (bM so ts k ns) p):=Lu j D λp Q R=>by rw[B p Q R];exact .refl _
 have l:∀{k:Nat} (p:Int),b8 (cb ts so) c p->c<=nm (bM so ts k ns) p:=λp d=>M _ (d.trans (g p (inR d).1 (inR d).2));have H:∀{k:Nat},(bM so ts k ns).length=m:=by intro k;rw[Lr,D]
 let A:Nat->Nat->Bool:=λk i=>decide (nm (bM so ts k ns) i=c)
 have n:∀k,nm (bM so ts k ns) c=c:=by
  intro k
  induction k with
  |zero=>exact B c o x
  |succ k F=>have:=kS (so:=so) o j (H (k:=k));rw[<-u2]at this;have:=l (k:=k+1) c (.refl _);omega
 have b:∀(k:Nat) (p:Int),b8 (cb ts so) c p->nm (bM so ts k ns) p=c->nm (bM so ts (k+1) ns) p=c:=by intro k p d e;have K:=kS (so:=so) (inR d).1 j (H (k:=k));rw[<-u2]at K;have L:=l (k:=k+1) p d;omega
 have C:∀k,(∀p,b8 (cb ts so) c p->nm (bM so ts k ns) p=c)\/k+1<=cnt m (A k):=by
  intro k
  induction k with
  |zero=>right;unfold cnt;refine Ra.mpr λz=>?_;have:c.toNat∈(NJ m).filter (A 0):=Zn.mpr ⟨ZW.mpr (by omega),by show decide (nm (bM so ts 0 ns) (c.toNat:Int)=c)=NA;rw[Rh o,n 0];simp⟩;rw[z]at this;cases this
  |succ k F=>
   by_cases w:∀p,b8 (cb ts so) c p->nm (bM so ts k ns) p=c
   ·left;intro p d;exact b k p d (w p d)
   ·right
    have P:k+1<=cnt m (A k):=by
     rcases F with z|z
     ·exact absurd z w
     ·exact z
    have E:∃q r,b8 (cb ts so) c q/\nm (bM so ts k ns) q=c/\cb ts so q r/\nm (bM so ts k ns) r≠c:=by
     refine O5 λu=>w λp d=>?_
     induction d with
     |refl=>exact n k
     |step v r I=>exact O5 λz=>u ⟨_,_,v,I,r,z⟩
    obtain⟨q,r,v,S,a,G⟩:=E;have s:b8 (cb ts so) c r:=v.step a
    have J:nm (bM so ts (k+1) ns) r=c:=by
     have L:=l (k:=k+1) r s
     have T:nm (bM so ts (k+1) ns) r<=nm (bM so ts k ns) q:=by
      rw[u2];rcases a.1 with z|z
      ·exact(uZ j (H (k:=k)) _ z a.2.1 a.2.2).2
      ·exact(uZ j (H (k:=k)) _ z a.2.2 a.2.1).1
     omega
    have lt:cnt m (A k)<cnt m (A (k+1)):=by
     refine CJ _ (λi N e=>?_) ⟨r.toNat,ZW.mpr (by have:=inR s;omega),?_,?_⟩
     ·have y:nm (bM so ts k ns) (i:Int)=c:=by simpa[A]using e
      have O:=ZW.mp N;have t:b8 (cb ts so) c i:=by have:=g (k:=k) (i:Int) (by omega) (by omega);rw[y]at this;exact this.symm cb.symm
      show decide (nm (bM so ts (k+1) ns) (i:Int)=c)=NA;rw[b k i t y];simp
     ·show decide (nm (bM so ts k ns) (r.toNat:Int)=c)=NB;rw[Rh (inR s).1];simpa using G
     ·show decide (nm (bM so ts (k+1) ns) (r.toNat:Int)=c)=NA;rw[Rh (inR s).1,J];simp
    omega
 rcases C m with z|z
 ·exact z
 ·have:=u3 (m:=m) (f:=A m);omega
noncomputable def fx(t:Int->Int->Bool)(left:Li):Nat->Li->Li->Li
 |0,r,_=>r
 |f+1,r,w=>match w.getLast? with
  |none=>r
  |some h=>fx t left f (r++left.filter λp=> !r.contains p&&t h p) (w.dropLast++left.filter λp=> !r.contains p&&t h p)
theorem Ly{w:Li}{h p:Int}(e:w.getLast? =Nz h):p∈w↔p∈w.dropLast\/p=h:=by
 have hw:w≠[]:=λz=>by simp_all
 have E:w.getLast hw=h:=by grind
 rw[<-E]
 conv=>lhs;rw[<-List.dropLast_concat_getLast hw]
 simp
theorem CK{R:Int->Int->Prop}{t:Int->Int->Bool}{left:Li}(l:left.Nodup)(hR:∀a b,a∈left->(R a b↔b∈left/\t a b=NA)){st:Int}:
  ∀(f:Nat) (r w:Li),r.Nodup->w.Nodup->(∀p∈r,p∈left/\b8 R st p)->(∀p∈w,p∈r)->(∀p∈r,p∉w->∀q,R p q->q∈r)->st∈r->w.length+left.length<f+r.length->
  (fx t left f r w).Nodup/\∀p,p∈fx t left f r w↔b8 R st p
 |0,r,w,n,_,c,_,_,_,u=>by have:r.length<=left.length:=n.length_le_of_subset λp H=>(c p H).1;omega
 |f+1,r,w,n,x,c,j,s,o,u=>by
  unfold fx;cases e:w.getLast? with
  |none=>
   have hw:w=[]:=R7.mp e;subst hw;refine⟨n,λp=>⟨λH=>(c p H).2,λH=>?_⟩⟩
   induction H with
   |refl=>exact o
   |step _ y I=>exact s _ I (by simp) _ y
  |some h=>
   have M:=λp=>Ly (p:=p) e;have k:h∈r:=j h ((M h).mpr (.inr rfl));have i:=(c h k).1;have hw:w≠[]:=λz=>by rw[z]at e;cases e
   have v:0<w.length:=Ra.mpr hw
   let F:=left.filter λp=> !r.contains p&&t h p
   have m:∀p,p∈F↔p∈left/\p∉r/\t h p=NA:=λp=>by simp[F]
   have N:F.Nodup:=l.sublist ZE;refine CK l hR f (r++F) (w.dropLast++F) ?_ ?_ ?_ ?_ ?_ ?_ ?_
   ·exact ZN.mpr ⟨n,N,λa d b g z=>by subst z;exact((m a).mp g).2.1 d⟩
   ·refine ZN.mpr ⟨x.sublist (PL _),N,λa d b g z=>?_⟩;subst z;exact((m a).mp g).2.1 (j a ((M a).mpr (.inl d)))
   ·intro p H;rcases Zp.mp H with z|z
    ·exact c p z
    ·obtain⟨Z,B,A⟩:=(m p).mp z;exact⟨Z,(c h k).2.step ((hR h p i).mpr ⟨Z,A⟩)⟩
   ·grind
   ·grind
   ·exact ZH _ o
   ·simp only[Zz,PY];omega
theorem pd{R:Int->Int->Prop}(H:left.Nodup)(hR:∀a b,a∈left->(R a b↔b∈left/\tie a b=NA)){st:Int}(hs:st∈left){f:Nat}(c:left.length<f):
  (fx tie left f [st] [st]).Nodup/\∀p,p∈fx tie left f [st] [st]↔b8 R st p:=
 CK H hR f _ _ (by simp) (by simp) (λp h=>have e:p=st:=(by simp_all);⟨e▸hs,e▸.refl _⟩) (λp h=>h) (λp h hw=>absurd h hw) (by simp) (by lia)
theorem kT:∀{l k:Li},l.Pairwise (· < ·)->k.Pairwise (· < ·)->(∀p,p∈l↔p∈k)->l=k
 | [],[],_,_,_=>rfl
 | [],y::k,_,_,h=>absurd ((h y).mpr Zd) (by simp)
 |x::l,[],_,_,h=>absurd ((h x).mp Zd) (by simp)
 |x::l,y::k,b,a,h=>by
  obtain⟨L,d⟩:=ZM.mp b;obtain⟨K,c⟩:=ZM.mp a
  have e:x=y:=by
   rcases Zi.mp ((h x).mp Zd)with z|z
   ·exact z
   ·rcases Zi.mp ((h y).mpr Zd)with w|w
    ·exact w.symm
    ·have:=K x z;have:=L y w;omega
  subst e;rw[kT d c λp=>⟨λH=>?_,λH=>?_⟩]
  ·rcases Zi.mp ((h p).mp (Zb _ H))with z|z
   ·have:=L p H;omega
   ·exact z
  ·rcases Zi.mp ((h p).mpr (Zb _ H))with z|z
   ·have:=K p H;omega
   ·exact z
open K52
theorem CL{P:Int->Prop}(e:∀p,P p->0<=p):∀(n:Nat) (p:Int),P p->p.toNat<=n->∃c,P c/\c<=p/\∀q,P q->c<=q
 |0,p,H,f=>⟨p,H,by lia,λq b=>by grind⟩
 |n+1,p,H,f=>by
  by_cases h:∀q,P q->p<=q
  ·exact⟨p,H,by lia,h⟩
  ·obtain⟨q,b⟩:=QH.mp h;obtain⟨a,g⟩:=Q6.mp b;obtain⟨c,C,i,d⟩:=CL e n q a (by lia);exact⟨c,C,by simp_all,d⟩
theorem gD{lo:Int}:(ba lo n).Pairwise (· < ·):=by
 induction n generalizing lo with
 |zero=>exact .nil
 |succ n i=>unfold ba;exact ZM.mpr ⟨λx h=>by have:=gz h;omega,i⟩
theorem hV{lo x:Int}:x∈ba lo n↔lo<=x/\x<lo+n:=by
 refine⟨gz,λh=>?_⟩
 induction n generalizing lo with
 |zero=>lia
 |succ n i=>
  simp only[ba]
  grind
theorem Lz{m:Nat}{p:Int}(h:0<=p)(h1:p<m):nm (ba 0 m) p=p:=by
 have key:∀(n:Nat)(l:Int)(i:Nat),i<n->(ba l n)[i]?=some (l+i):=by
  intro n
  induction n with
  |zero=>intro l i h;omega
  |succ n ih=>
   intro l i h;unfold ba
   cases i with
   |zero=>simp
   |succ i=>rw[List.getElem?_cons_succ,ih (l+1) i (by omega)];congr 1;omega
 unfold nm;rw[List.getD_eq_getElem?_getD,key m 0 p.toNat (by omega)];show(0:Int)+(p.toNat:Int)=p;omega
section
variable {m:Nat}
noncomputable def fin(so:Li)(ts:Lq)(m:Nat):Li:=bM so ts m (ba 0 m)
theorem hW(H:d_ m ts){p q:Int}(a:0<=p)(h1:p<m)(h:b8 (cb ts so) p q):0<=q/\q<m:=by
 cases h with
 |refl=>simp_all
 |step _ r=>
  rcases r.1 with r|r
  ·have:=H _ r;simp_all
  ·have:=H _ r;simp_all
theorem u4{p q:Int}(H:p∉so)(h:b8 (cb ts so) p q):q∉so:=by
 cases h with
 |refl=>exact H
 |step _ r=>exact r.2.2
theorem hX(h:d_ m ts){p:Int}(a:0<=p)(h1:p<m):b8 (cb ts so) p (nm (fin so ts m) p)/\∀q,b8 (cb ts so) p q->nm (fin so ts m) p<=q:=by obtain⟨c,C,g,d⟩:=CL (λq H=>(hW h a h1 H).1) _ p (.refl _) (Zg _);have b:=hW h a h1 C;have e:nm (fin so _ m) p=c:=Lw h ez (λq Q f=>Lz Q f) b.1 b.2 (λq H=>d q (C.trans H)) p (C.symm cb.symm);simp_all
theorem pf(H:d_ m ts){p q:Int}(c:0<=p)(h1:p<m)(g:0<=q)(G:q<m):nm (fin so ts m) p=nm (fin so ts m) q↔b8 (cb ts so) p q:=by
 obtain⟨a,A⟩:=hX H c h1;obtain⟨b,B⟩:=hX H g G;refine⟨λe=>?_,λh=>?_⟩
 ·rw[e]at a;exact a.trans (b.symm cb.symm)
 ·have:=A _ (h.trans b);have:=B _ ((h.symm cb.symm).trans a);lia
theorem LA(H:d_ m ts){p:Int}(h:0<=p)(h1:p<m):nm (fin so ts m) (nm (fin so ts m) p)=nm (fin so ts m) p:=by obtain⟨a,A⟩:=hX H h h1;have b:=hW H h h1 a;exact((pf H h h1 b.1 b.2).mpr a).symm
theorem kU(H:d_ m ts){p:Int}(h:0<=p)(h1:p<m):nm (fin so ts m) p<=p:=(hX H h h1).2 p (.refl _)
noncomputable def chain(so:Li)(ts:Lq)(m:Nat)(c:Int):Li:=(ba 0 m).filter λp=>decide (nm (fin so ts m) p=c)&& !so.contains p
theorem gE{c p:Int}:p∈chain so ts m c↔(0<=p/\p<m)/\nm (fin so ts m) p=c/\p∉so:=by unfold chain;rw[Zn,hV];simp
theorem LB(H:d_ m ts){c:Int}(f:0<=c)(h1:c<m):chain so ts m c≠[]↔c∉so/\nm (fin so ts m) c=c:=by
 refine⟨λh=>?_,λ⟨g,i⟩ z=>?_⟩
 ·obtain⟨p,j⟩:=List.exists_mem_of_ne_nil _ h;obtain⟨⟨P,d⟩,e,k⟩:=gE.mp j;have a:=(hX (so:=so) H P d).1;have b:=LA (so:=so) H P d;rw[e]at a b;exact⟨u4 k a,b⟩
 ·have:=gE.mpr ⟨⟨f,h1⟩,i,g⟩;simp_all
theorem CM{c:Int}:(chain so ts m c).Pairwise (· < ·):=gD.sublist ZE
theorem CN(a:d_ m ts){c:Int}(H:0<=c)(h1:c<m)(hs:c∉so)(d:nm (fin so ts m) c=c)(f:l.Pairwise (· < ·))(g:∀p,p∈l↔b8 (cb ts so) c p):l=chain so ts m c:=by
 refine kT f CM λp=>?_;rw[g,gE];refine⟨λh=>?_,λ⟨⟨P,i⟩,e,_⟩=>?_⟩
 ·have b:=hW a H h1 h;refine⟨b,?_,u4 hs h⟩;rw[<-(pf a H h1 b.1 b.2).mpr h,d]
 ·refine(pf a H h1 P i).mp ?_;rw[e,d]
theorem LC(b:d_ m ts){p:Int}(H:0<=p)(h1:p<m)(hs:p∉so):(∃c,(0<=c/\c<p)/\p∈chain so ts m c)↔nm (fin so ts m) p≠p:=by
 refine⟨λ⟨c,_,d⟩=>?_,λh=>?_⟩
 ·obtain⟨_,e,_⟩:=gE.mp d;lia
 ·have:=kU (so:=so) b H h1;have a:=hW b H h1 (hX (so:=so) b H h1).1;exact⟨_,by lia,gE.mpr ⟨⟨H,h1⟩,rfl,hs⟩⟩
end
end Pc
namespace K52
theorem LD(c:Flat S)(a b:Int):oy [.int a,.int b] S=.ok (ar (min a b,max a b)) S:=by
 refine bL rfl ?_ rfl c rfl;have h:mD [.int a,.int b] S=.ok (.int (min a b)) S:=by simp[mD,mq];split<;>omega
 have H:jI [.int a,.int b] S=.ok (.int (max a b)) S:=by simp[jI,mr];split<;>omega
 simp[Bk,Bj,ah,aC,ak,al,Res.bind,Res.noErr,bh,h,H,ar]
noncomputable def aV(ts:Lq)(a b:Int):Bool:=decide ((min a b,max a b)∈ts)
theorem CO(h:Flat S)(m:Int)(ts:Lq)(a b:Int):g6 [ag m ts,.int a,.int b] S=.ok (.bl (aV ts a b)) S:=by refine bL rfl ?_ rfl h rfl;have H:bi (ag m ts) (.int 1) S=.ok _ S:=rfl;simp[Bl,ah,aC,ak,al,Res.bind,Res.noErr,Jl,LD h a b,H,a7,K52.Cd S (min a b,max a b) ts,aQ,aV]
noncomputable def fG(m:Int)(ts:Lq)(p:Int):Li:=(K52.ba 0 m.toNat).filter λq=>aV ts p q
theorem LF(h:Flat S)(f:so.length<=100)(h1:∀p∈so,0<=p/\p<m)(H:so.Pairwise (· < ·)):ou [ag m ts,.tup (so.map D.int)] S=.ok (.bl NA) S:=by
 refine bL rfl ?_ rfl h rfl;have d:bi (ag m ts) (.int 0) S=.ok (.int m) S:=rfl;have A:gu [.int m,.tup (so.map D.int)] S=.ok (.bl NA) S:=K52.Cf h (by omega) h1
 have c:et [.tup (so.map D.int)] S=.ok (.bl NA) S:=K52.uT h (by simp;omega) λi x y e E=>by
  rw[Z0]at e E;cases f1:so[i]? with
  |none=>rw[f1]at e;cases e
  |some a=>
   cases f2:so[i+1]? with
   |none=>rw[f2]at E;cases E
   |some b=>rw[f1]at e;rw[f2]at E;cases e;cases E;obtain⟨g,rfl⟩:=Zm.mp f1;obtain⟨G,rfl⟩:=Zm.mp f2;show Nz (decide (so[i]<so[i+1]))=Nz NA;rw[ZO (Yd.mp H i (i+1) g G (by omega))]
 simp[Ba,A',ah,aC,ak,al,Res.bind,Res.noErr,bj,Jd,Je,d,A,c]
theorem LG(h:Flat S)(a:so.length<=100)(h1:∀p∈so,0<=p/\p<m)(H:so.Pairwise (· < ·)):ox [ag m ts,.tup (so.map D.int)] S=.ok .non S:=by refine run_next (ρ:=[Nz (ag m ts),Nz (.tup (so.map D.int))]) rfl ?_ rfl h;simp[Bh,Bg,ah,aC,au,ak,al,Res.bind,Ji,LF h a h1 H,bN]
noncomputable def eP(x:Int):Li->Li
 | []=>[x]
 |y::ys=>if x<y then x::y::ys else y::eP x ys
noncomputable def a9(l:Li):Li:=l.foldl (λacc x=>eP x acc) []
theorem CP(x:Int):∀l:Li,insB (bJ .int) (.int x) (l.map D.int)=(eP x l).map D.int
 | []=>rfl
 |y::Y=>by
  have e:eP x (y::Y)=if x<y then x::y::Y else y::eP x _:=rfl;show(if decide _=NA then D.int x::D.int y::Y.map _ else D.int y::insB _ _ _)=_;rw[CP x _]
  grind
theorem CQ:∀(l acc:Li),(l.map D.int).foldl (λacc x=>insB (bJ .int) x acc) (acc.map D.int)=(l.foldl (λacc x=>eP x acc) acc).map D.int
 | [],acc=>rfl
 |x::l,acc=>by show(l.map _).foldl _ (insB _ _ _)=_;rw[CP,CQ l];rfl
theorem pg(x:Int):∀l,(eP x l).Perm (x::l)
 | []=>.refl _
 |y::Y=>by
  unfold eP;split
  ·exact .refl _
  ·exact((pg x _).cons y).trans (.swap x y _)
theorem CU:∀(l acc:Li),(l.foldl (λacc x=>eP x acc) acc).Perm (l++acc)
 | [],acc=>.refl _
 |x::l,acc=>(CU l _).trans (((pg x _).append_left l).trans OQ)
theorem gF(l:Li):(a9 l).Perm l:=by have:=CU l [];rw[Yf]at this;exact this
theorem CV(x:Int):∀l,l.Pairwise (· < ·)->x∉l->(eP x l).Pairwise (· < ·)
 | [],_,_=>Sl _ _
 |y::Y,h,n=>by
  obtain⟨a,b⟩:=ZM.mp h;unfold eP;by_cases e:x<y
  ·rw[if_pos e];refine ZM.mpr ⟨λz H=>?_,h⟩;rcases Zi.mp H with rfl|H
   ·exact e
   ·have:=a z H;omega
  ·rw[if_neg e];refine ZM.mpr ⟨λz H=>?_,CV x Y b λz=>n (Zb _ z)⟩;rcases Zi.mp ((pg x Y).mem_iff.mp H)with rfl|H
   ·have:z≠y:=λq=>n (by subst q;exact Zd);omega
   ·exact a z H
theorem CW:∀(l acc:Li),acc.Pairwise (· < ·)->(l++acc).Nodup->(l.foldl (λacc x=>eP x acc) acc).Pairwise (· < ·)
 | [],acc,h,_=>h
 |x::l,acc,h,n=>by have N:=n;obtain⟨a,b⟩:=Ya.mp N;exact CW l _ (CV x _ h λz=>a (Zt _ z)) ((((pg x _).append_left l).trans OQ).nodup_iff.mpr N)
theorem ph(h:l.Nodup):(a9 l).Pairwise (· < ·):=CW l _ .nil (by simp_all)
theorem u5(h:av S d=Nz (l.map D.int))(a:l.length<64):fN NB .int [d] S=.ok (.lst ((a9 l).map D.int)) S:=by
 have e:(l.map D.int).all (aw .int)=NA:=by rw[ZF];intro x H;obtain⟨t,_,rfl⟩:=Zq.mp H;rfl
 unfold fN;simp only[h];rw[if_pos ⟨e,by simp;omega,rfl⟩,show eT (bJ .int) (l.map D.int)=(a9 l).map D.int from CQ l []];rfl
theorem CY(W:bn m ts){p:Int}(r:0<=p/\p<m):fG m ts p=a9 ((ts.filter (K52.cw p)).map λt=>t.1+t.2-p):=by
 have d:ts.Nodup:=W.ris.imp λ{a b} h e=>by subst e;unfold aS at h;omega
 refine Pc.kT (Pc.gD.sublist ZE) (ph ?_) λq=>?_
 ·have H:(ts.filter (K52.cw p)).Nodup:=d.sublist ZE;have c:(ts.filter (K52.cw p)).Pairwise λa b=>a.1+a.2-p≠b.1+b.2-p:=by refine P4 (λ{a b} j k f e=>f ?_) H;have A:=(Zn.mp j).2;have B:=(Zn.mp k).2;have l:=W.tie a (Zn.mp j).1;have n:=W.tie b (Zn.mp k).1;simp only[K52.cw,Yh]at A B;exact SH (by omega) (by omega)
  exact Z3.mpr c
 ·rw[(gF _).mem_iff,Zq];unfold fG;rw[Zn,Pc.hV];refine⟨λ⟨s,g⟩=>?_,λ⟨t,g,e⟩=>?_⟩
  ·have i:=by simpa[aV]using g
   refine⟨_,Zn.mpr ⟨i,?_⟩,?_⟩
   ·simp only[K52.cw,Yh];omega
   lia
  ·obtain⟨H,c⟩:=Zn.mp g;have o:=W.tie t H;simp only[K52.cw,Yh]at c;refine⟨by omega,?_⟩;have:(min p q,max p q)=t:=SH (by dsimp only;omega) (by dsimp only;omega);simp[aV,this,H]
theorem gG(h:av S d=Nz (l.map D.int))(q:Int):fc (.int q) d S=Nz (decide (q∈l)):=by
 unfold fc;simp_all;have e:(λy=>cF S bE y (.int q))∘D.int=λu=>Nz _:=rfl;rw[e,K52.oW]
 grind
noncomputable def pi:List CS:=[.asg 5 (.meth .pop (.var 4) []),.asg 6 (.comp NB ["place","reached","web","here"] [none,Nz 3,Nz 0,Nz 5] (.var 0) (.seq (.var 1)) [.band (.cmp .NotIn (.var 0) (.var 1)) (.call "have_tie" [.var 2,.var 3,.var 0])] (.emit (.var 0))),.expr (.meth .extend (.var 3) [.var 6]),.expr (.meth .extend (.var 4) [.var 6])]
theorem pj(q:Flat S){r w:Li}{h:Int}{st:D}(u:left.length<=100)(B:r.length<=1000)(v:w.length<=1000)(hw:w.getLast? =Nz h):
  ah eY G0 pi [Nz (ag m ts),Nz (.lst (left.map D.int)),Nz st,Nz (.ref S.length),Nz (.ref (S.length+1)),x5,x6] (S++[r.map D.int,w.map D.int])=
   .ok (.next [Nz (ag m ts),Nz (.lst (left.map D.int)),Nz st,Nz (.ref S.length),Nz (.ref (S.length+1)),Nz (.int h),Nz (.lst ((left.filter λp=> !r.contains p&&aV ts h p).map D.int))])
    (S++[(r++left.filter λp=> !r.contains p&&aV ts h p).map D.int,(w.dropLast++left.filter λp=> !r.contains p&&aV ts h p).map D.int]):=by
 have a:xU (.ref (S.length+1)) [] (S++[r.map D.int,w.map D.int])=.ok (.int h) (S++[r.map D.int,w.dropLast.map D.int]):=by
  show jE (.ref (S.length+1)) [] (S++[r.map D.int,w.map D.int])=_;unfold jE;simp only[uX];have e:(w.map D.int)[(w.map D.int).length-1]?=Nz (.int h):=by rw[Z0,Zh];rw[List.getLast?_eq_getElem?]at hw;rw[hw];rfl
  rw[e];simp only[Cw,List.map_dropLast]
 unfold pi;rw[aI (d:=.int h) (S':=S++[r.map D.int,w.dropLast.map D.int]) (by simp[ak,al,Res.bind,Res.noErr,cH,a])];simp only[ZU,ZZ];have o:Flat (S++[r.map D.int,w.dropLast.map D.int]):=Cy q (K52.e5 _) (K52.e5 _)
 have H:ak eY G0 (.comp NB ["place","reached","web","here"] [none,Nz 3,Nz 0,Nz 5] (.var 0) (.seq (.var 1)) [.band (.cmp .NotIn (.var 0) (.var 1)) (.call "have_tie" [.var 2,.var 3,.var 0])] (.emit (.var 0))) [Nz (ag m ts),Nz (.lst (left.map D.int)),Nz st,Nz (.ref S.length),Nz (.ref (S.length+1)),Nz (.int h),x6] (S++[r.map D.int,w.dropLast.map D.int])=
   .ok (.lst ((left.filter λp=> !r.contains p&&aV ts h p).map D.int)) (S++[r.map D.int,w.dropLast.map D.int]):=by
  refine c6 (its:=.items (left.map D.int)) (S1:=S++[r.map D.int,w.dropLast.map D.int]) (by simp[aK,ak,Res.bind,cB]) ?_;refine ew (f:=D.int) (e:=D.int) (p:=λp=> !r.contains p&&aV ts h p) (λp z A s=>?_) (by unfold bt;omega);have g:A.length<16777216:=s;have b:=CO o m ts h p
  have c:fc (.int p) (.ref S.length) (S++[r.map D.int,w.dropLast.map D.int])=Nz (r.contains p):=by rw[gG (l:=r) (by show(S++[r.map D.int,w.dropLast.map D.int])[S.length]?=_;exact uW)];simp
  generalize S++[r.map D.int,w.dropLast.map D.int]=T at b c;cases E:r.contains p<;>cases n:aV ts h p<;>rw[E]at c<;>rw[n]at b<;>simp[aH,cf,slots,fi,aE,cc,ax,au,aN,ak,al,Res.bind,Res.noErr,bj,a7,c,aQ,Jm,b,bN,g]
 rw[aI H];simp only[ZU,ZZ];generalize i:(left.filter λp=> !r.contains p&&aV ts h p)=F;have t:F.length<=100:=by rw[<-i];exact Zw (ZI _ _) u
 have x:f' (.ref S.length) [.lst (F.map D.int)] (S++[r.map D.int,w.dropLast.map D.int])=.ok .non (S++[(r++F).map D.int,w.dropLast.map D.int]):=by unfold f';simp only[uW,Py.dL,Zh];rw[if_pos (by unfold bt;omega),Ll,N9]
 have X:f' (.ref (S.length+1)) [.lst (F.map D.int)] (S++[(r++F).map D.int,w.dropLast.map D.int])=.ok .non (S++[(r++F).map D.int,(w.dropLast++F).map D.int]):=by unfold f';simp only[uX,Py.dL,Zh,PY];rw[if_pos (by unfold bt;omega),Cw,<-N9]
 rw[be (ρ':=[Nz (ag m ts),Nz (.lst (left.map D.int)),Nz st,Nz (.ref S.length),Nz (.ref (S.length+1)),Nz (.int h),Nz (.lst (F.map D.int))]) (S':=S++[(r++F).map D.int,w.dropLast.map D.int]) (by simp only[aC,ak,al,Res.bind,Res.noErr,cH,Zl,Zj,x])];rw[be (ρ':=[Nz (ag m ts),Nz (.lst (left.map D.int)),Nz st,Nz (.ref S.length),Nz (.ref (S.length+1)),Nz (.int h),Nz (.lst (F.map D.int))]) (S':=S++[(r++F).map D.int,(w.dropLast++F).map D.int]) (by simp only[aC,ak,al,Res.bind,Res.noErr,cH,Zl,Zj,X])];rw[ah]
theorem CZ{S:aa}(i:Flat S){m:Int}{ts:Lq}{left:Li}{st:D}(j:left.length<=100)(k:left.Nodup):∀(f:Nat) (r w:Li) (x5 x6:Option D),r.Nodup->(∀p∈r,p∈left)->w.Nodup->(∀p∈w,p∈r)->w.length+left.length<f+r.length->
  ∃y Y,fO (au eY G0 (.var 4)) (ah eY G0 pi) f [Nz (ag m ts),Nz (.lst (left.map D.int)),Nz st,Nz (.ref S.length),Nz (.ref (S.length+1)),x5,x6] (S++[r.map D.int,w.map D.int])=
   .ok (.next [Nz (ag m ts),Nz (.lst (left.map D.int)),Nz st,Nz (.ref S.length),Nz (.ref (S.length+1)),y,Y]) (S++[(Pc.fx (aV ts) left f r w).map D.int,[]])
 |0,r,w,x5,x6,n,s,_,_,v=>by have:r.length<=left.length:=n.length_le_of_subset s;omega
 |f+1,r,w,x5,x6,n,s,N,g,v=>by
  have A:r.length<=left.length:=n.length_le_of_subset s;have B:w.length<=r.length:=N.length_le_of_subset g
  have t:au eY G0 (.var 4) [Nz (ag m ts),Nz (.lst (left.map D.int)),Nz st,Nz (.ref S.length),Nz (.ref (S.length+1)),x5,x6] (S++[r.map D.int,w.map D.int])=.ok (!w.isEmpty) (S++[r.map D.int,w.map D.int]):=by
   have e:bN (S++[r.map D.int,w.map D.int]) (.ref (S.length+1))=Nz (!w.isEmpty):=by show((S++[r.map D.int,w.map D.int])[S.length+1]?).map (λX=> !X.isEmpty)=_;rw[uX];cases w<;>rfl
   simp only[au,Zl,Zj,e]
  unfold fO;rw[t];cases e:w.getLast? with
  |none=>have hw:w=[]:=R7.mp e;subst hw;refine⟨x5,x6,?_⟩;unfold Pc.fx;rfl
  |some h=>
   have hw:w≠[]:=λz=>by rw[z]at e;cases e
   have u:(!w.isEmpty)=NA:=by cases w with
    |nil=>exact absurd rfl hw
    |cons a b=>rfl
   have x:=pj (m:=m) (ts:=ts) (x5:=x5) (x6:=x6) (st:=st) (left:=left) (r:=r) (w:=w) i j (by omega) (by omega) e;have M:∀p,p∈(left.filter λp=> !r.contains p&&aV ts h p)↔p∈left/\p∉r/\aV ts h p=NA:=λp=>by simp
   have o:(left.filter λp=> !r.contains p&&aV ts h p).Nodup:=k.sublist ZE;have l:0<w.length:=Ra.mpr hw
   obtain⟨y,Y,E⟩:=CZ (m:=m) (ts:=ts) (st:=st) i j k f (r++left.filter λp=> !r.contains p&&aV ts h p) (w.dropLast++left.filter λp=> !r.contains p&&aV ts h p) (Nz (.int h)) (Nz (.lst ((left.filter λp=> !r.contains p&&aV ts h p).map D.int)))
    (ZN.mpr ⟨n,o,λa H b c z=>by subst z;exact((M a).mp c).2.1 H⟩)
    (λp d=>by
     rcases Zp.mp d with z|z
     ·exact s p z
     ·exact((M p).mp z).1)
    (ZN.mpr ⟨N.sublist (PL _),o,λa H b c z=>by subst z;exact((M a).mp c).2.1 (g a ((PL _).subset H))⟩)
    (λp d=>by
     rcases Zp.mp d with z|z
     ·exact ZH _ (g p ((PL _).subset z))
     ·exact Zt _ z)
    (by simp only[Zz,PY];omega)
   refine⟨y,Y,?_⟩;rw[u];show(Res.bind (ah eY G0 pi [Nz (ag m ts),Nz (.lst (left.map D.int)),Nz st,Nz (.ref S.length),Nz (.ref (S.length+1)),x5,x6] (S++[r.map D.int,w.map D.int])) _)=_;rw[x]
   have q:Pc.fx (aV ts) left (f+1) r w=Pc.fx (aV ts) left f (r++left.filter λp=> !r.contains p&&aV ts h p) (w.dropLast++left.filter λp=> !r.contains p&&aV ts h p):=by
    show(match w.getLast? with
     |none=>r
     |some h=>Pc.fx (aV ts) left f (r++left.filter λp=> !r.contains p&&aV ts h p) (w.dropLast++left.filter λp=> !r.contains p&&aV ts h p))=_
    rw[e]
   rw[q];exact E
theorem LH(H:Flat S){p:Int}(n:left.length<=60)(g:left.Nodup)(i:p∈left)(c:(Pc.fx (aV ts) left 100 [p] [p]).length<64):ku [ag m ts,.lst (left.map D.int),.int p] S=.ok (.tup ((a9 (Pc.fx (aV ts) left 100 [p] [p])).map D.int)) S:=by
 obtain⟨y,Y,e⟩:=CZ (m:=m) (ts:=ts) (st:=.int p) H (show left.length<=100 by omega) g 100 [p] [p] none none (by simp) (λq h=>(show q=p by simpa using h)▸i) (by simp) (λq h=>h) (by simp;omega)
 have f:ah eY G0 kt [Nz (ag m ts),Nz (.lst (left.map D.int)),Nz (.int p),none,none,none,none] S=.ok (.ret (.tup ((a9 (Pc.fx (aV ts) left 100 [p] [p])).map D.int))) (S++[(Pc.fx (aV ts) left 100 [p] [p]).map D.int,[]]):=by
  unfold kt;rw[aI (d:=.ref S.length) (S':=S++[[.int p]]) (by simp[ak,al,Res.bind])];rw[aI (d:=.ref (S.length+1)) (S':=S++[[.int p],[.int p]]) (by simp[ak,al,Res.bind])];simp only[ZU,ZZ];refine(be (ρ':=[Nz (ag m ts),Nz (.lst (left.map D.int)),Nz (.int p),Nz (.ref S.length),Nz (.ref (S.length+1)),y,Y]) (S':=S++[(Pc.fx (aV ts) left 100 [p] [p]).map D.int,[]]) ?_).trans ?_
  ·rw[aC];exact e
  ·refine cv (gA (dz (dz (ai rfl) (u5 (l:=Pc.fx (aV ts) left 100 [p] [p]) ?_ c)) rfl));exact uW
 show az eY G0 kt ux.length 3 [ag m ts,.lst (left.map D.int),.int p] S=_;unfold az;rw[if_pos (show [ag m ts,D.lst (left.map D.int),D.int p].length=3 from rfl)];rw[show ah eY G0 kt ([ag m ts,D.lst (left.map D.int),D.int p].map Nz++NG (ux.length-3) none) S=_ from f];have b:(S++[(Pc.fx (aV ts) left 100 [p] [p]).map D.int,[]]).take S.length=S:=by simp
 have:=K52.hJ (k:=S.length) (d:=.tup ((a9 (Pc.fx (aV ts) left 100 [p] [p])).map D.int)) (S':=S++[(Pc.fx (aV ts) left 100 [p] [p]).map D.int,[]]) (by rw[b];exact H) (K52.e5 _);rw[b]at this;exact this
open Pc
theorem LI{f:α->D}{g:α->Bool}{step:D->List D->aa->Res (List D)}{cs:List α}(a:S[k]?=Nz (cs.map f))(d:cs.length<=1000)(hs:∀c∈cs,∀acc,acc.length<bt->step (f c) acc S=.ok (acc++[.bl (g c)]) S):
  bA step (bP k) ((cs.map f).length+1) 0 [] S=.ok (cs.map λc=>D.bl (g c)) S:=by
 rcases K52.Cz a (step:=step) (λx h acc H=>by obtain⟨c,b,rfl⟩:=Zq.mp h;simp_all) ((cs.map f).length+1) 0 _ (by simp) (by simp)with z|z
 ·refine Eq.trans z ?_;refine Eq.trans (ew (p:=λ_=>NA) (λx h acc H=>Eq.trans (hs x h _ H) rfl) (by lia)) ?_;rw[Oq.mpr λ_ _=>rfl]
 ·unfold bt at z;simp at z;lia
theorem u6{cs:List α}{g:α->Bool}:f_ [.lst (cs.map λo=>D.bl (g o))] S=.ok (.bl (cs.any g)) S:=by unfold f_;simp only[av];rw[ZY];rw[show fg (cs.map (eB∘λo=>D.bl _))=Nz _ from K52.oW];rfl
noncomputable def aq(so:Li)(m:Nat):Li:=(ba 0 m).filter λp=> !so.contains p
noncomputable def own(so:Li)(ts:Lq)(m:Nat)(c:Int):Bool:=decide (nm (fin so ts m) c=c)
noncomputable def EN(so:Li)(ts:Lq)(m:Nat)(c:Int):D:=.tup ((chain so ts m c).map D.int)
noncomputable def eG(so:Li)(ts:Lq)(m:Nat)(l:Li):List D:=(l.filter (own so ts m)).map (EN so ts m)
theorem C0(so:Li)(ts:Lq)(m:Nat)(l:Li):bd 0 (eG so ts m l)=NA:=by
 unfold eG
 induction l.filter _ with
 |nil=>rfl
 |cons c C i=>show(bF 0 _&&bd 0 _)=NA;rw[i,Rg];exact K52.e5 _
theorem je(W:bn m ts):d_ m.toNat ts:=λt h=>by
 have:=W.tie t h
 grind
theorem df{m:Nat}{p:Int}:p∈aq so m↔(0<=p/\p<m)/\p∉so:=by unfold aq;rw[Zn,hV];simp
theorem C1(W:bn m ts)(a b:Int)(H:a∈aq so m.toNat):cb ts so a b↔b∈aq so m.toNat/\aV ts a b=NA:=by
 simp[aV];rw[df]at H⊢;refine⟨λ⟨h,_,_⟩=>?_,λ⟨⟨_,c⟩,h⟩=>⟨?_,H.2,c⟩⟩
 ·rcases h with h|h
  ·have t:=W.tie _ h
   grind
  ·have t:=W.tie _ h
   grind
 lia
theorem LJ(W:bn m ts){p:Int}(c:p∈aq so m.toNat)(l:own so ts m.toNat p=NA)(i:Flat S):ku [ag m ts,.lst ((aq so m.toNat).map D.int),.int p] S=.ok (EN so ts m.toNat p) S:=by
 have g:(aq so m.toNat).Nodup:=K52.Cv.sublist ZE;have k:(aq so m.toNat).length<=8:=by have:=ZI (λp=> !so.contains p) (ba 0 m.toNat);rw[K52.ez]at this;have:=W.hi;unfold aq;lia
 obtain⟨B,d⟩:=pd g (λa b j=>C1 W a b j) c (f:=100) (by lia);have h:=df.mp c
 have H:(fx _ _ _ _ _).length<=(ba 0 m.toNat).length:=B.length_le_of_subset λq n=>by rw[hV];have:=hW (je W) h.1.1 h.1.2 ((d q).mp n);simp_all
 rw[K52.ez]at H;have o:=W.hi;rw[LH i (by lia) g c (by omega)];have e:=CN (je W) h.1.1 h.1.2 h.2 (by simpa[own]using l) (ph B) λq=>by rw[(gF _).mem_iff];exact d q
 rw[e];rfl
theorem b9{A:List D}:(S++[A])[S.length]?=Nz A:=by rw[Zs (Zg _)];simp
theorem C2{A B:List D}:(S++[A]).set S.length B=S++[B]:=by rw[List.set_append_right _ _ (Zg _)];simp
theorem po{A:List D}(b:ds.length=np)(h:ah Φ Γ body (ds.map Nz++NG (n-np) none) S=.ok (.ret (.ref S.length)) (S++[A]))(a:Flat S)(H:bd 0 A=NA):az Φ Γ body n np ds S=.ok (.ref S.length) (S++[A]):=by unfold az;rw[if_pos b,h];dsimp only[cO];rw[NY rfl,if_pos a.all,if_neg (by dsimp only[bF];simp)];simp only[b9];rw[if_pos ⟨K52.gy A H,Zg _⟩]
noncomputable def ix:CE:=.comp NB ["piece","place"] [none,Nz 4] (.var 0) (.seq (.var 3)) [] (.emit (.cmp .In (.var 1) (.var 0)))
noncomputable def u7:List CS:=[.ite (.bnot (.blt .any [ix])) [.expr (.meth .append (.var 3) [.call "piece_of" [.var 0,.var 2,.var 4]])] []]
theorem u8{m:Int}{d0 d1 d2:D}{p:Int}(g:l.length<=100):ak fq G0 ix [Nz d0,Nz d1,Nz d2,Nz (.ref S.length),Nz (.int p)] (S++[eG so ts k l])=
  .ok (.lst ((l.filter (own so ts k)).map λc=>D.bl (decide (p∈chain so ts k c)))) (S++[eG so ts k l]):=by
 refine c6 (its:=.live ((eG so ts k l).length+1) (bP S.length)) (S1:=S++[eG so ts k l]) ?_ ?_
 ·simp only[aK,ak,Res.bind,Zl,Zj,cB,b9];rfl
 ·have e:=ZI (own so ts k) l;simp[bO];unfold eG;refine LI b9 (by lia) λc f a b=>?_;generalize S++[(l.filter _).map _]=T;have h:=b;have H:fc _ (EN so ts k c) T=Nz _:=gG rfl p;simp[aH,cf,slots,aE,ax,aN,ak,Res.bind,Res.noErr,a7,H,aQ,h]
theorem C3{S:aa}(A:Flat S){m:Int}{ts:Lq}(W:bn m ts){so:Li}{d1:D}:∀(rest done:Li),aq so m.toNat=done++rest->∀x4:Option D,∃y,
  b0 (λx ρ S=>match aE (.var 4) x ρ with
   |some ρ'=>ah fq G0 u7 ρ' S
   |none=>.fail) (rest.map D.int) [Nz (ag m ts),Nz d1,Nz (.lst ((aq so m.toNat).map D.int)),Nz (.ref S.length),x4] (S++[eG so ts m.toNat done])=
  .ok (.next [Nz (ag m ts),Nz d1,Nz (.lst ((aq so m.toNat).map D.int)),Nz (.ref S.length),y]) (S++[eG so ts m.toNat (done++rest)])
 | [],done,_,x4=>⟨x4,by rw[Yf];rfl⟩
 |p::rest,done,b,x4=>by
  have h:(aq so m.toNat).Pairwise (· < ·):=gD.sublist ZE;have i:p∈aq so m.toNat:=by rw[b];simp
  obtain⟨⟨P,M⟩,N⟩:=df.mp i;have B:=je W
  have F:(aq so m.toNat).length<=8:=by have:=ZI (λp=> !so.contains p) (ba 0 m.toNat);rw[K52.ez]at this;have:=W.hi;unfold aq;omega
  have s:done.length<=100:=by have:=Yj Po b;simp at this;omega
  have f:((done.filter (own so ts m.toNat)).any λc=>decide (p∈chain so ts m.toNat c))= !own so ts m.toNat p:=by
   rw[P6];rw[OP];have K:=LC (so:=so) B P M N;have I:(!own so ts m.toNat p)=NA↔nm (fin so ts m.toNat) p≠p:=by simp[own]
   rw[I,<-K];refine⟨λ⟨c,q,j⟩=>?_,λ⟨c,⟨C,O⟩,j⟩=>?_⟩
   ·obtain⟨g,L⟩:=Zn.mp q;have H:c∈aq so m.toNat:=by rw[b];exact ZH _ g
    refine⟨c,⟨(df.mp H).1.1,?_⟩,by simpa using j⟩;rw[b]at h;exact(ZG.mp h).2.2 c g p Zd
   ·have t:chain so ts m.toNat c≠[]:=λz=>by rw[z]at j;cases j
    obtain⟨G,cn⟩:=(LB B C (by omega)).mp t;have H:c∈aq so m.toNat:=df.mpr ⟨⟨C,by omega⟩,G⟩;rw[b]at H h
    have r:c∈done:=by
     rcases Zp.mp H with z|z
     ·exact z
     ·rcases Zi.mp z with z|z
      ·omega
      ·have:=(ZM.mp (ZG.mp h).2.1).1 c z;omega
    exact⟨c,Zn.mpr ⟨r,by simp[own,cn]⟩,by simpa using j⟩
  have J:Flat (S++[eG so ts m.toNat done]):=A.snoc (C0 _ _ _ _);have n:=u8 (S:=S) (m:=m) (ts:=ts) (so:=so) (l:=done) (k:=m.toNat) (d0:=ag m ts) (d1:=d1) (d2:=.lst ((aq so m.toNat).map D.int)) (p:=p) s
  have q:au fq G0 (.bnot (.blt .any [ix])) [Nz (ag m ts),Nz d1,Nz (.lst ((aq so m.toNat).map D.int)),Nz (.ref S.length),Nz (.int p)] (S++[eG so ts m.toNat done])=.ok (own so ts m.toNat p) (S++[eG so ts m.toNat done]):=by
   have d:bh .any [.lst ((done.filter (own so ts m.toNat)).map λc=>D.bl (decide (p∈chain so ts m.toNat c)))] (S++[eG so ts m.toNat done])=.ok (.bl (!own so ts m.toNat p)) (S++[eG so ts m.toNat done]):=by rw[<-f];exact u6
   revert n;generalize ix=E;intro n;simp[au,al,n,Res.bind,Res.noErr,d,bN]
  have a:ah fq G0 u7 [Nz (ag m ts),Nz d1,Nz (.lst ((aq so m.toNat).map D.int)),Nz (.ref S.length),Nz (.int p)] (S++[eG so ts m.toNat done])=.ok (.next [Nz (ag m ts),Nz d1,Nz (.lst ((aq so m.toNat).map D.int)),Nz (.ref S.length),Nz (.int p)]) (S++[eG so ts m.toNat (done++[p])]):=by
   unfold u7;refine(be ?_).trans rfl;rw[hL q];cases u:own so ts m.toNat p with
   |true=>
    rw[if_pos rfl];have v:=LJ W i u J
    have o:fh (.ref S.length) [EN so ts m.toNat p] (S++[eG so ts m.toNat done])=.ok .non (S++[eG so ts m.toNat (done++[p])]):=by have T:=ZI (own so ts m.toNat) done;unfold fh;simp only[b9];rw[if_pos (by unfold bt eG;simp;omega),C2];unfold eG;simp[Ts,u]
    simp[ah,aC,ak,al,Res.bind,Res.noErr,cH,Jp,v,o]
   |false=>
    rw[if_neg Qg];have e:eG so ts m.toNat (done++[p])=eG so ts m.toNat done:=by unfold eG;simp[Ts,u]
    rw[e,ah]
  obtain⟨y,w⟩:=C3 A W (d1:=d1) rest (done++[p]) (by rw[b];simp) (Nz (.int p));refine⟨y,?_⟩;simp only[ZV];unfold b0;simp only[aE,cc,ZU,ZZ];rw[a];rw[ZP]at w;exact w
theorem LK(H:Flat S)(W:bn m ts)(o:so.length<=100)(h1:∀p∈so,0<=p/\p<m)(k:so.Pairwise (· < ·)):
  oz [ag m ts,.tup (so.map D.int)] S=.ok (.ref S.length) (S++[eG so ts m.toNat (aq so m.toNat)]):=by
 refine po rfl ?_ H (C0 _ _ _ _);have i:fo [ag m ts] S=.ok .non S:=K52.uU H W;have j:=LG (ts:=ts) H o h1 k;have w:=W.lo;have t:=W.hi;unfold Bo;refine(be (ρ':=[Nz (ag m ts),Nz (.tup (so.map D.int)),none,none,none]) (S':=S) (by simp[Bn,aC,ak,al,Res.bind,Jn,i])).trans ?_;refine(be (ρ':=[Nz (ag m ts),Nz (.tup (so.map D.int)),none,none,none]) (S':=S) (by simp[aC,ak,al,Res.bind,Jo,j])).trans ?_;have n:bi (ag m ts) (.int 0) S=.ok (.int m) S:=rfl
 have q:aK fq G0 (.range [.idx (.var 0) (.lit (.int 0))]) [Nz (ag m ts),Nz (.tup (so.map D.int)),none,none,none] S=.ok (.items ((ba 0 m.toNat).map D.int)) S:=by simp[aK,al,ak,Res.bind,Res.noErr,n,K52.jc];omega
 have h:ak fq G0 (.comp NB ["place","some"] [none,Nz 1] (.var 0) (.range [.idx (.var 0) (.lit (.int 0))]) [.cmp .NotIn (.var 0) (.var 1)] (.emit (.var 0))) [Nz (ag m ts),Nz (.tup (so.map D.int)),none,none,none] S=.ok (.lst ((aq so m.toNat).map D.int)) S:=by refine c6 q ?_;refine ew (f:=D.int) (e:=D.int) (p:=λp=> !so.contains p) (λp s A l=>?_) (by rw[K52.ez];unfold bt;omega);have c:A.length<16777216:=l;have g:fc (.int p) (.tup (so.map D.int)) S=Nz (decide (p∈so)):=gG rfl p;by_cases e:p∈so<;>simp[aH,cf,slots,fi,aE,cc,ax,au,aN,ak,Res.bind,Res.noErr,bj,a7,g,aQ,e,c]
 rw[aI h];rw[aI (d:=.ref S.length) (S':=S++[[]]) (by simp[ak,al,Res.bind])];simp only[ZU,ZZ];obtain⟨y,e⟩:=C3 H W (so:=so) (d1:=.tup (so.map D.int)) (aq so m.toNat) [] rfl none;refine(be (ρ':=[Nz (ag m ts),Nz (.tup (so.map D.int)),Nz (.lst ((aq so m.toNat).map D.int)),Nz (.ref S.length),y]) (S':=S++[eG so ts m.toNat (aq so m.toNat)]) ?_).trans rfl;exact e
noncomputable def C4(l:Li):D:=.tup (l.map D.int)
theorem pr{step:D->bC->aa->Res Fl}(J:bC->aa->Prop):∀(xs:List D),(∀x∈xs,∀ρ S,J ρ S->∃ρ' S',J ρ' S'/\step x ρ S=.ok (.next ρ') S')->∀ρ S,J ρ S->∃ρ' S',J ρ' S'/\b0 step xs ρ S=.ok (.next ρ') S'
 | [],_,ρ,S,j=>⟨_,S,j,rfl⟩
 |x::xs,h,ρ,S,j=>by obtain⟨c,f,a,e⟩:=h x Zd _ S j;obtain⟨d,g,b,E⟩:=pr J _ (λy H=>h y (Zb _ H)) _ _ a;refine⟨_,_,b,?_⟩;unfold b0;rw[e];exact E
theorem pu(so:Li)(ts:Lq)(m:Nat)(l:Li):eG so ts m l=((l.filter (own so ts m)).map (chain so ts m)).map C4:=by rw[ZY];rfl
theorem C5{A:List D}(h:A.length<bt):fh (.ref T.length) [d] (T++[A])=.ok .non (T++[A++[d]]):=by unfold fh;simp only[b9];rw[if_pos h,C2]
end K52
namespace K52
noncomputable def pD(p:List Ti):D:=.tup (ae p)
theorem C6(x:Int):∀p:List Ti,(ay p x).isNone=a8 p x
 | []=>rfl
 |t::p=>by
  have i:=C6 x p;unfold ay a8;unfold a8 at i
  grind
noncomputable def pw:CE:=.comp NB ["tie","pairing","found"] [none,none,Nz 1] (.var 0) (.seq (.var 3)) [] (.inner (.var 1) (.seq (.var 2)) [.cmp .Is (.call "mate_of" [.var 1,.idx (.var 0) (.lit (.int 1))]) (.lit (.non))] (.emit (.bin .Add (.tup [.var 0]) (.var 1))))
noncomputable def u9:CE:=.comp NB ["tie","place"] [none,Nz 2] (.var 0) (.seq (.idx (.var 0) (.lit (.int 1)))) [.cmp .Eq (.idx (.var 0) (.lit (.int 0))) (.var 1)] (.emit (.var 0))
noncomputable def u_:List CS:=[.asg 3 u9,.asg 1 (.bin .Add (.var 1) pw)]
theorem C7{a:Int}{ts:List Ti}{x1:Option D}(g:ts.length<=28):ak gv G0 u9 [Nz (ag m ts),x1,Nz (.int a),x3] S=.ok (.lst (ae (ts.filter λt=>decide (t.1=a)))) S:=by
 have c:bi (ag m ts) (.int 1) S=.ok _ S:=rfl;simp[u9,ak,aK,Res.bind,Res.noErr,cB,bO,c];unfold ae;rw[ew]
 ·intro t i A f;have h:=f;have d:bi (ar t) (.int 0) S=.ok _ S:=rfl;have b:a7 .Eq (.int t.1) (.int a) S=.ok (.bl (decide _)) S:=rfl;have H:aH (.var 0) (ar t) [none,Nz (.int a)]=Nz _:=rfl;cases e:decide (t.1=a)<;>rw[e]at b<;>simp[H,ax,au,aN,ak,Res.bind,d,b,Res.noErr,bj,h]
 lia
theorem hY:∀F:List (List Ti),bd 0 (F.map pD)=NA
 | []=>rfl
 |p::F=>by rw[ZV];unfold bd;rw[hY F,Rg];exact K52.ja p
theorem C8(q:Flat S){a:Int}{ts:List Ti}{F:List (List Ti)}{T:List Ti}(r:T.length<=28)(o:F.length<=65536)(n:∀p∈F,p.length<=1000):ak gv G0 pw [Nz (ag m ts),Nz (.lst (F.map pD)),Nz (.int a),Nz (.lst (ae T))] S=.ok (.lst ((T.flatMap λt=>(F.filter λp=>a8 p t.2).map (t:: ·)).map pD)) S:=by
 simp[pw,ak,aK,al,ax,Res.bind,Res.noErr,cB,bO];unfold ae;rw[o7 (f:=ar) (c:=F.length) (g:=λt=>(F.filter λp=>a8 p t.2).map λp=>pD (t::p))]
 ·simp[QG,Function.comp_def]
 ·intro t;simp only[Zh];exact ZI _ _
 ·intro t v A h;have b:aH (.var 0) (ar t) [none,none,Nz (.lst (F.map pD))]=Nz [Nz (ar t),none,Nz (.lst (F.map pD))]:=rfl;simp[b,aN,aK,ak,Res.bind,cB,bO];rw[kP (f:=pD) (p:=λp=>a8 p t.2) (e:=λp=>pD (t::p))]
  ·intro p s A h;have H:A.length<16777216:=h;have d:aH (.var 1) (pD p) [Nz (ar t),none,Nz (.lst (F.map pD))]=Nz [Nz (ar t),Nz (pD p),Nz (.lst (F.map pD))]:=rfl;have j:bi (ar t) (.int 1) S=.ok (.int t.2) S:=rfl;have k:fv [pD p,.int t.2] S=.ok (bW (ay p t.2)) S:=K52.uV q p t.2
   have i:a7 .Is (bW (ay p t.2)) .non S=.ok (.bl (a8 p t.2)) S:=by rw[<-C6];cases ay p t.2<;>rfl
   have l:dD .Add (.tup [ar t]) (pD p) S=.ok (pD (t::p)) S:=by
    have u:=n p s;have:(ae p).length=p.length:=by unfold ae;simp
    have E:dD .Add (.tup [ar t]) (.tup (ae p)) S=if [ar t].length+(ae p).length<=bt then .ok (.tup ([ar t]++ae p)) S else .fail:=by simp only[dD,iE]
    unfold pD;rw[E,if_pos (by rw[this];unfold bt;simp;omega)];rfl
   cases e:a8 p t.2<;>rw[e]at i<;>simp[d,ax,au,aN,ak,al,Res.bind,j,k,i,l,Jz,Res.noErr,bj,H]
  ·exact h
 ·have:F.length*T.length<=65536*28:=Nat.mul_le_mul o r;unfold bt;simp;omega
theorem vc{hi:Int}:∀(l:Li) (lo:Int),l.Pairwise (· < ·)->(∀x∈l,lo<=x/\x<hi)->l.length<=(hi-lo).toNat
 | [],_,_,_=>Yp _
 |x::l,lo,H,h=>by rw[ZM]at H;have b:=h x Zd;have:=vc l (x+1) H.2 λy a=>⟨by have:=H.1 y a;omega,(h y (Zb _ a)).2⟩;rw[ZJ];omega
theorem vd{ts:List Ti}(W:bn m ts)(a:Int)(d:a<8):(ts.filter λt=>decide (t.1=a)).length<=(7-a).toNat:=by
 have w:=W.hi
 have:=vc (hi:=8) ((ts.filter λt=>decide (t.1=a)).map (·.2)) (a+1) (by
  rw[Z3];refine P4 (λ{s t} g H h=>?_) (Pp _ W.ris);have E:s.1=a:=by simp_all
  have c:t.1=a:=by simp_all
  rcases h with h|h
  ·omega
  ·exact h.2) λx b=>by
  obtain⟨t,H,rfl⟩:=Zq.mp b;obtain⟨H,e⟩:=Zn.mp H;have e:=by simpa using e
  have:=W.tie t H;omega
 rw[Zh]at this;omega
theorem C9{a b:Type}{f:a->List b}{c:Nat}(h:∀x,(f x).length<=c):∀l:List a,(l.flatMap f).length<=l.length*c
 | []=>by simp
 |x::l=>by have:=C9 h l;have:=h x;rw[Pw,Zz,ZJ,Nat.add_mul];omega
theorem ve{ts:List Ti}(W:bn m ts)(a:Int)(h:a<8)(F:List (List Ti)):(fU ts a F).length<=F.length*((7-a).toNat+1):=by unfold fU;rw[Zz];have H:=C9 (f:=λt:Ti=>(F.filter λp=>a8 p t.2).map (t:: ·)) (c:=F.length) (λt=>by rw[Zh];exact ZI _ _) (ts.filter λt=>decide (t.1=a));have b:=Q7 F.length (vd W a h);rw[Ta,Nat.mul_one,Su F.length];omega
noncomputable def hZ:Nat->Nat
 |0=>1
 |n+1=>hZ n*(n+1)
theorem C_(h:n<=8):hZ n<=40320:=by
 have:∀n<9,hZ n<=40320:=by decide+kernel
 exact this n (by omega)
theorem C'{ts:List Ti}(W:bn m ts):ts.Nodup:=W.ris.imp λh z=>by subst z;rcases h with h|h<;>omega
theorem px{ts p:List Ti}(W:bn m ts)(c:gB ts p):p.length<=8:=by
 have w:=W.hi;have:=vc (hi:=8) _ 0 (by rw[Z3];exact c.2.imp λh=>h.1) λx a=>by obtain⟨t,H,rfl⟩:=Zq.mp a;have:=W.tie t (c.1 t H);omega
 simp_all
theorem py(i:Flat S){ts:List Ti}(W:bn m ts)(l:n<8){F:List (List Ti)}(g:F.length<=40320)(f:∀p∈F,p.length<=1000):
  ah gv G0 u_ [Nz (ag m ts),Nz (.lst (F.map pD)),Nz (.int (n:Nat)),x3] S=.ok (.next [Nz (ag m ts),Nz (.lst ((fU ts n F).map pD)),Nz (.int (n:Nat)),Nz (.lst (ae (ts.filter λt=>decide (t.1=(n:Int)))))]) S:=by
 have b:=W.few;have j:(ts.filter λt=>decide (t.1=(n:Int))).length<=28:=Zw (ZI _ _) b;have c:=C8 i (m:=m) (a:=n) (ts:=ts) j (by omega) f;have H:=ve W n (by omega) F;have k:F.length*(7-(n:Int).toNat+1)<=40320*8:=Nat.mul_le_mul g (by omega);unfold u_;rw[aI (C7 b)];simp
 have d:ak gv G0 (.bin .Add (.var 1) pw) [Nz (ag m ts),Nz (.lst (F.map pD)),Nz (.int (n)),Nz (.lst (ae (ts.filter λt=>decide (t.1=(n)))))] S=.ok (.lst ((fU ts n F).map pD)) S:=by
  simp[ak,Zl,Zj,Res.bind,c];have e:∀A B,A.length+B.length<=bt->(dD .Add (.lst A) (.lst B) S).noErr=.ok (.lst (A++B)) S:=λA B h=>by simp[dD,iE,Py.dL,h,Res.noErr]
  rw[e _ _ (by unfold fU at H;grind),<-N9];rfl
 rw[aI d];rfl
theorem Dc{S:aa}(H:Flat S){m:Int}{ts:List Ti}(W:bn m ts):∀(n:Nat) (F:List (List Ti)) (x2 x3:Option D),n<=8->DI ts n F->F.length<=hZ (8-n)->∃y Y,
  b0 (λx ρ S=>match aE (.var 2) x ρ with
   |some ρ'=>ah gv G0 u_ ρ' S
   |none=>.fail) (cV n) [Nz (ag m ts),Nz (.lst (F.map pD)),x2,x3] S=.ok (.next [Nz (ag m ts),Nz (.lst ((jd ts n F).map pD)),y,Y]) S
 |0,F,x2,x3,_,_,_=>⟨_,_,rfl⟩
 |n+1,F,x2,x3,c,hd,h=>by
  have a:=Zw h (C_ (by omega))
  obtain⟨y,Y,i⟩:=Dc H W n _ _ _ (by omega) (CB (C' W) hd) (by
   refine Zw (ve W n (by omega) F) ?_;have e:8-n=8-(n+1)+1:=by omega
   have E:(7-(n:Int)).toNat=8-(n+1):=by omega
   rw[e,E];exact Q7 _ h)
  refine⟨y,Y,?_⟩;unfold cV b0;simp[aE,ZU];rw[py H W (by omega) a λp b=>by have:=px W ((hd.2 p).mp b).1;omega];exact i
noncomputable def cy(F:List (List Ti)):List D:=eT (bJ (.seq (.seq .int))) (F.map pD)
theorem kW(p:List Ti):aw (.seq (.seq .int)) (pD p)=NA:=by show(ae p).all _=NA;rw[ZF];intro x h;obtain⟨t,_,rfl⟩:=Zq.mp h;rfl
theorem pz:∀{l:List D},bd 0 l=NA↔∀x∈l,bF 0 x=NA
 | []=>by simp[bd]
 |x::l=>by unfold bd;rw[ZL,pz];simp
theorem Dd(F:List (List Ti)):bd 0 (cy F)=NA:=pz.mpr λx h=>pz.mp (hY F) x ((iW _ _).mem_iff.mp h)
theorem De{ts:List Ti}:∀(n:Nat) (F:List (List Ti)),F.head? =Nz []->(jd ts n F).head? =Nz []
 |0,F,h=>h
 |n+1,F,h=>De n _ (by unfold fU;simp_all)
theorem Dg{m:Int}{ts:List Ti}(W:bn m ts):∀(n:Nat) (F:List (List Ti)),n<=8->F.length<=hZ (8-n)->(jd ts n F).length<=40320
 |0,F,_,h=>Zw h (C_ (by omega))
 |n+1,F,H,h=>Dg W n _ (by omega) (by
   refine Zw (ve W n (by omega) F) ?_;have e:8-n=8-(n+1)+1:=by omega
   have E:(7-(n:Int)).toNat=8-(n+1):=by omega
   rw[e,E];exact Q7 _ h)
noncomputable def gH(m:Int)(ts:List Ti):List (List Ti):=jd ts m.toNat [[]]
theorem vf{ts:List Ti}(W:bn m ts):(gH m ts).length<=40320:=by
 have:=W.hi
 exact Dg W m.toNat _ (by omega) (by
  have:∀n<9,1<=hZ n:=by decide+kernel
  exact this (8-m.toNat) (by omega))
theorem pC{ts:List Ti}(W:bn m ts):DI ts 0 (gH m ts):=CC (C' W) _ _ (CD λt h=>by have:=W.tie t h;have:=W.lo;omega)
theorem Dh{F:List (List Ti)}(c:F.length<65536)(h:F.head? =Nz []\/∀p∈F,p≠[])(box:Bool)(b:av S d=Nz (F.map pD)):fN box (.seq (.seq .int)) [d] S=if box=NA then .ok (.ref S.length) (S++[cy F])else .ok (.lst (cy F)) S:=by
 have e:(F.map pD).all (aw (.seq (.seq .int)))=NA:=by rw[ZF];intro x H;obtain⟨p,_,rfl⟩:=Zq.mp H;exact kW p
 have E:=by
  show(NA&&((F.map pD).all λd=> !dP d)||dP ((F.map pD).headD .non))=NA;rcases h with h|h
  ·cases F with
   |nil=>cases h
   |cons a F=>cases h;rfl
  ·have:((F.map pD).all λd=> !dP d)=NA:=by
    rw[ZF];intro x H;obtain⟨p,f,rfl⟩:=Zq.mp H;cases p with
    |nil=>lia
    |cons _ _=>rfl
   rw[this];rfl
 unfold fN;simp only[b];rw[if_pos ⟨e,by simp_all,E⟩];rfl
theorem LL(h:Flat S){ts:List Ti}(W:bn m ts):i3 [ag m ts] S=.ok (.ref S.length) (S++[cy (gH m ts)]):=by
 refine po rfl ?_ h (Dd _);have w:=W.lo;have l:=W.hi;have e:fo _ S=.ok .non S:=K52.uU h W
 obtain⟨y,Y,b⟩:=Dc h W m.toNat [[]] none none (by omega) (CD λt g=>by have:=W.tie t g;omega) (by
  have:∀n<9,1<=hZ n:=by decide+kernel
  exact this _ (by omega))
 show ah _ G0 _ [Nz _,none,none,none] S=_;unfold Bx;rw[be (ρ':=[Nz (ag m ts),none,none,none]) (S':=S) (by simp[aC,ak,al,Res.bind,Jy,e])];rw[aI (rfl)];have c:bi (ag m ts) (.int 0) S=.ok _ S:=rfl
 rw[be (ρ':=[Nz _,Nz (.lst ((gH m ts).map pD)),y,Y]) (by
  rw[e7 (its:=.items (cV m.toNat)) (S1:=S) (by
   have f: -4611686018427387904<=m/\m<4611686018427387904:=by omega
   simp[aK,al,ak,Res.bind,c,Res.noErr,f])]
  exact b)]
 refine cv ?_;have H:=Dh (S:=S) (F:=gH m ts) (by have:=vf W;omega) (.inl (De _ _ rfl)) NA (d:=.lst _) rfl;rw[if_pos rfl]at H;simp only[aC,ak,al,Zl,Zj,Res.bind,bh,H,Res.noErr]
theorem Di{p:Lq}(W:bn m ts)(h:gB ts p):aW ts p:=by
 obtain⟨f,c⟩:=h;refine⟨c.imp λ{a b} q=>.inl q.1,f,?_⟩;have H:∀t∈p,t.1<t.2:=λt i=>(W.tie t (f t i)).2.1;clear f
 induction p with
 |nil=>exact .nil
 |cons t p I=>rw[ZM]at c;rw[Pw];have i:=H t (by simp);refine ZN.mpr ⟨by simp;omega,I c.2 λs e=>H s (by simp[e]),?_⟩;intro a g b d;simp only[Zi,ZX,or_false]at g;obtain⟨s,e,d⟩:=Pa.mp d;simp only[Zi,ZX,or_false]at d;have:=c.1 s e;have:=H s (by simp[e]);rcases g with rfl|rfl<;>rcases d with rfl|rfl<;>omega
end K52
namespace Py
def pE(s t:Ti):Prop:=s.1<t.1\/(s.1=t.1/\s.2<t.2)
noncomputable def fy(t:Ti)(F:List (List Ti)):List (List Ti):=F++(F.filter λp=>a8 p t.1&&a8 p t.2).map (· ++[t])
def v7(us:List Ti)(F:List (List Ti)):Prop:=F.Nodup/\∀p,p∈F↔gB us p
theorem Dj{us:List Ti}{t:Ti}{p:List Ti}(h:gB us p):gB (us++[t]) p:=⟨λs H=>Zp.mpr (.inl (h.1 s H)),h.2⟩
theorem kX{us:List Ti}{t:Ti}{F:List (List Ti)}(x:t.1<t.2)(j:∀s∈us,pE s t)(h:v7 us F):v7 (us++[t]) (fy t F):=by
 obtain⟨m,a⟩:=h
 have N:t∉us:=λz=>by
  rcases j t z with q|q
  ·omega
  ·omega
 have w:∀{p},gB us p->t∉p:=λc z=>N (c.1 t z);unfold fy;refine⟨?_,λp=>?_⟩
 ·rw[ZN];refine⟨m,?_,λp d q b z=>?_⟩
  ·unfold RY;rw[Z3];exact(Pp _ m).imp λi z=>i (List.append_inj_left' z rfl)
  ·subst z;obtain⟨q,b,rfl⟩:=Zq.mp b;exact w ((a _).mp d) (by simp)
 ·rw[Zp];constructor
  ·rintro(d|d)
   ·exact Dj ((a p).mp d)
   ·obtain⟨q,b,rfl⟩:=Zq.mp d;obtain⟨b,g⟩:=Zn.mp b;rw[ZL]at g;have l:=gC.mp g.1;have v:=gC.mp g.2;have c:=(a q).mp b;refine CF.mpr ⟨by simp,Dj c,λs H=>⟨?_,λz=>(l s H).2 z.symm,λz=>(v s H).2 z.symm⟩⟩;have:=(l s H).1;rcases j s (c.1 s H)with q|q
    ·exact q
    ·omega
  ·intro c
   have back:∀{q:List Ti},gB (us++[t]) q->t∉q->gB us q:=λ{q} c z=>⟨λs H=>by
    rcases Zp.mp (c.1 s H)with k|k
    ·exact k
    ·rw[ZB.mp k]at H;exact absurd H z,c.2⟩
   rcases List.eq_nil_or_concat p with rfl| ⟨q,s,e⟩
   ·exact .inl ((a []).mpr ⟨λs H=>(by cases H),.nil⟩)
   ·rw[List.concat_eq_append]at e;subst e;obtain⟨n,o,C⟩:=CF.mp c;by_cases e:s=t
    ·subst e;right;have u:=back o λz=>by have:=(C s z).1;omega
     refine Zq.mpr ⟨q,Zn.mpr ⟨(a q).mpr u,?_⟩,rfl⟩;rw[ZL,gC,gC];exact⟨λr f=>⟨by have:=(C r f).1;omega,λz=>(C r f).2.1 z.symm⟩,λr f=>⟨by have:=(C r f).1;omega,λz=>(C r f).2.2 z.symm⟩⟩
    ·left;refine(a _).mpr (back c λz=>?_)
     have H:s∈us:=by
      rcases Zp.mp n with k|k
      ·exact k
      ·exact absurd (ZB.mp k) e
     rcases Zp.mp z with z|z
     ·have:=(C t z).1;rcases j s H with q|q<;>omega
     ·exact e (ZB.mp z).symm
noncomputable def gJ:List Ti->List (List Ti)->List (List Ti)
 | [],F=>F
 |t::ts,F=>gJ ts (fy t F)
theorem Dk:∀(ts us:List Ti) (F:List (List Ti)),(∀t∈ts,t.1<t.2)->ts.Pairwise pE->(∀s∈us,∀t∈ts,pE s t)->v7 us F->v7 (us++ts) (gJ ts F)
 | [],us,F,_,_,_,h=>by rw[Yf];exact h
 |t::ts,us,F,c,d,b,h=>by
  obtain⟨p,P⟩:=ZM.mp d
  have:=Dk ts (us++[t]) (fy t F) (λs H=>c s (Zb _ H)) P (λs H r a=>by
   rcases Zp.mp H with H|H
   ·exact b s H r (Zb _ a)
   ·rw[ZB.mp H];exact p r a) (kX (c t Zd) (λs H=>b s H t Zd) h)
  rw[ZP]at this;exact this
theorem Dl:v7 [] [[]]:=⟨by simp,λp=>by
 rw[ZB];constructor
 ·rintro rfl;exact⟨λt h=>by lia,.nil⟩
 ·intro c;cases p with
  |nil=>rfl
  |cons t q=>have:=c.1 t Zd;cases this⟩
theorem Dm:∀(ts:List Ti) (F:List (List Ti)),F.head? =Nz []->(gJ ts F).head? =Nz []
 | [],F,h=>h
 |t::ts,F,h=>by refine Dm ts _ ?_;unfold fy;simp_all
theorem LM(t:Ti)(F:List (List Ti)):F.length<=(fy t F).length:=by unfold fy;simp_all
theorem Dn:∀(ts:List Ti) (F:List (List Ti)),F.length<=(gJ ts F).length
 | [],F=>Zg _
 |t::ts,F=>Zw (LM t F) (Dn _ _)
end Py
namespace K52
section
variable {T A:List (List D)}{a u b:Int}{ts c:List Ti}
end
theorem LN{F G:List (List Ti)}(h:F.Perm G):cy F=cy G:=by
 refine Ae rfl (λx H=>?_) ((iW _ _).trans (h.map _)) (Ad (fE _ rfl) _ λx H=>?_)
 ·obtain⟨p,_,rfl⟩:=Zq.mp H;exact kW p
 ·obtain⟨p,_,rfl⟩:=Zq.mp H;exact kW p
theorem Dq{b:Type} [DecidableEq b]:∀{l L:List b},l.Nodup->L.Nodup->(∀x,x∈l↔x∈L)->l.Perm L
 | [],L,_,_,h=>by
  cases L with
  |nil=>exact .nil
  |cons x _=>exact absurd ((h x).mpr Zd) (by simp)
 |x::l,L,H,a,h=>by
  rw[Ya]at H;have c:=(h x).mp Zd;refine QD.trans (.cons x (Dq H.2 (a.erase x) λy=>?_)) (List.perm_cons_erase c).symm;rw[a.mem_erase_iff,<-h y,Zi];constructor
  ·exact λz=>⟨λ(e:y=x)=>H.1 (by rw[<-e];exact z),.inr z⟩
  ·rintro⟨e,z|z⟩
   ·exact absurd z e
   ·exact z
theorem LO(F:List (List Ti)):(cy F).length=F.length:=by unfold cy;rw[(iW _ _).length_eq,Zh]
section
variable {u a r:Int}{ts:List Ti}
end
section
variable {u:Int}{ts:List Ti}
end
theorem LP:i3=K52.i3:=rfl
theorem Dr:∀{p q:List Ti},ae p=ae q->p=q
 | [],[],_=>rfl
 | [],_::_,h=>by cases h
 |_::_,[],h=>by cases h
 |s::p,t::q,h=>by
  injection h with H a
  rw[Dr a];unfold ar at H
  grind
theorem vg{p q:List Ti}(h:pD p=pD q):p=q:=by
 injection h with h
 exact Dr h
theorem kY:∀l:List D,(∀x∈l,∃p:List Ti,x=pD p)->∃G:List (List Ti),l=G.map pD
 | [],_=>⟨[],rfl⟩
 |x::l,h=>by obtain⟨p,rfl⟩:=h x Zd;obtain⟨G,rfl⟩:=kY l λy H=>h y (Zb _ H);exact⟨p::G,rfl⟩
theorem Ds(F:List (List Ti)):∃G:List (List Ti),cy F=G.map pD/\G.length=F.length/\∀p,p∈G↔p∈F:=by
 have b:(cy F).Perm _:=iW _ _
 obtain⟨G,e⟩:=kY (cy F) λx d=>by
  grind
 have H:=LO F;rw[e]at b;rw[e,Zh]at H;refine⟨G,e,H,λp=>?_⟩;have:=b.mem_iff (a:=pD p);simp at this;constructor
 ·intro h;obtain⟨q,c,z⟩:=this.mp ⟨p,h,rfl⟩
  rwa [<-vg z]
 ·intro h;obtain⟨q,c,z⟩:=this.mpr ⟨p,h,rfl⟩
  rwa [<-vg z]
theorem vh{f e:α->D}{p:α->Bool}{step:D->List D->aa->Res (List D)}{xs:List α}(a:S[k]?=Nz (xs.map f))(hs:∀x∈xs,∀acc,acc.length<bt->step (f x) acc S=.ok (if p x=NA then acc++[e x]else acc) S):∀n i acc,i+n=xs.length->acc.length+n<=bt->bA step (bP k) (n+1) i acc S=.ok (acc++((xs.drop i).filter p).map e) S:=by
 have H:∀i,bP k S i=Nz (xs.map f)[i]? :=λi=>by unfold bP;rw[a];rfl
 intro n
 induction n with
 |zero=>unfold bA;simp_all
 |succ n I=>
  intro i acc h c;have b:(xs.map f)[i]?=Nz (f xs[i]):=by grind
  unfold bA;rw[H,b,Ye (by omega)];dsimp;rw[hs _ (Z6 _) acc (by omega)];refine(I _ _ (by omega) (by grind)).trans ?_
  grind
theorem Dt{k:Int}:∀(ns:Li) (n:Int),(∀x∈n::ns,x<=k)->k∈n::ns->ns.foldl max n=k
 | [],n,_,h=>by rw[ZB]at h;exact h.symm
 |x::ns,n,a,H=>by
  rw[OJ];have c:=a n Zd;have d:=a x (by simp);refine Dt ns (max n x) (λy b=>?_) ?_
  ·rcases Zi.mp b with rfl|b
   ·omega
   ·exact a y (by simp[b])
  ·rcases Zi.mp H with z|H
   ·exact Zi.mpr (.inl (by omega))
   ·rcases Zi.mp H with z|H
    ·exact Zi.mpr (.inl (by omega))
    ·exact Zb _ H
theorem Du:∀ns:Li,eC (ns.map D.int)=Nz ns
 | []=>rfl
 |n::ns=>by rw[ZV];unfold eC;rw[Du _];rfl
structure fz (m:Int)(ts:List Ti)(G:List (List Ti))(k:Nat):Prop where
 is:cy (gH m ts)=G.map pD
 few:G.length<=40320
 le:∀p∈G,p.length<=k
 at_:∃p∈G,p.length=k
theorem LQ:kw=[.asg 1 (.call "all_pairings" [.var 0]),.asg 2 (.blt .max [JA]),.ret EH]:=rfl
noncomputable def aA(G:List (List Ti))(k:Nat):List (List Ti):=G.filter λp=>decide (p.length=k)
theorem vk(p:List Ti):f8 [pD p] S=.ok (.int (p.length:Nat)) S:=by
 have:(ae p).length=p.length:=by unfold ae;simp_all
 show Res.ok _ S=_;rw[this]
theorem Dv{p:List Ti}{a:List D}(d:a.length<bt):(match aH (.var 0) (pD p) [none,Nz (.int (k:Int))]with
    |some ρ'=>(ax Φ Γ [.cmp .Eq (.blt .len [.var 0]) (.var 1)] ρ' S).bind λk S3=>if k=NA then aN Φ Γ (.emit (.var 0)) ρ' a S3 else .ok a S3
    |none=>.fail)=.ok (if decide (p.length=k)=NA then a++[pD p]else a) S:=by
 have h:=d;have c:=vk (S:=S) p
 have b:a7 .Eq (.int (p.length)) (.int k) S=.ok (.bl (decide (p.length=k))) S:=by have:a7 .Eq (.int (p.length)) (.int k) S=.ok _ S:=rfl;rw[this];congr 2;lia
 have H:aH (.var 0) (pD p) [none,Nz (.int k)]=Nz _:=rfl;rw[H];cases e:decide (p.length=k)<;>rw[e]at b<;>simp[ax,au,aN,ak,al,Res.bind,bh,c,b,Res.noErr,bj,h]
theorem Dw{ts:List Ti}{G:List (List Ti)}(M:fz m ts G k):bh .max [.lst (G.map λp=>D.int ((p.length:Nat):Int))] S=.ok (.int (k:Int)) S:=by
 obtain⟨P,H,b⟩:=M.at_;have c:=M.le;have e:(G.map λp=>D.int (p.length))=(G.map λp=>(p.length)).map D.int:=by simp_all
 have h:(k:Int)∈G.map λp=>(p.length):=Zq.mpr ⟨_,H,by lia⟩
 have a:∀x∈G.map λp=>(p.length:Int),x<=k:=λx g=>by
  grind
 rw[e];generalize G.map _=N at h a;cases N with
 |nil=>cases h
 |cons n N=>
  have d:=Dt _ n a h;have f:=Du (n::N)
  show(match eC _ with
   |some (n::N)=>Res.ok _ S
   |_=>.fail)=_
  simp_all
theorem LR(H:Flat S){ts:List Ti}(W:bn m ts){G:List (List Ti)}(M:fz m ts G k):i5 [ag m ts] S=.ok (.ref S.length) (S++[(aA G k).map pD]):=by
 have E:=K52.LL H W;rw[<-LP,M.is]at E;have o:=M.few;have z:Flat (S++[G.map pD]):=H.snoc (hY G)
 have s:ak eO G0 JA [Nz (ag m ts),Nz (.ref S.length),none] (S++[G.map pD])=.ok (.lst (G.map λp=>D.int ((p.length:Nat):Int))) (S++[G.map pD]):=by
  refine c6 (its:=.live ((G.map pD).length+1) (bP S.length)) (S1:=S++[G.map pD]) (by simp only[aK,ak,Zl,Zj,Res.bind,cB,b9,PH]) ?_
  have:=vh (xs:=G) (f:=pD) (p:=λ_=>NA) (e:=λp=>D.int ((p.length:Nat):Int)) (S:=S++[G.map pD]) (k:=S.length) (step:=λx a g=>match aH (.var 0) x [none]with
    |some b=>(ax eO G0 [] b g).bind λk c=>if k=NA then aN eO G0 (.emit (.blt .len [.var 0])) b a c else .ok a c
    |none=>.fail) b9 (λp F a i=>by have j:a.length<16777216:=i;have v:=vk (S:=S++[G.map pD]) p;have l:aH (.var 0) (pD p) [none]=Nz [Nz (pD p)]:=rfl;rw[l];simp[ax,aN,ak,al,Res.bind,bh,v,Res.noErr,j]) G.length 0 [] (by simp) (by show 0+G.length<=16777216;omega)
  rw[N8,Px,Oq.mpr (λ_ _=>rfl)]at this;rw[Zh];exact this
 have t:=Dw (S:=S++[G.map pD]) M
 have u:ak eO G0 EH [Nz (ag m ts),Nz (.ref S.length),Nz (.int (k:Int))] (S++[G.map pD])=.ok (.ref (S.length+1)) (S++[G.map pD]++[(aA G k).map pD]):=by
  have w:aK eO G0 (.seq (.var 1)) [Nz (ag m ts),Nz (.ref S.length),Nz (.int (k:Int))] (S++[G.map pD])=.ok (.live ((G.map pD).length+1) (bP S.length)) (S++[G.map pD]):=by simp only[aK,ak,Zl,Zj,Res.bind,cB,b9,PH]
  have:=vh (xs:=G) (f:=pD) (p:=λp=>decide (p.length=k)) (e:=pD) (S:=S++[G.map pD]) (k:=S.length) (step:=λx a g=>match aH (.var 0) x [none,Nz (.int (k:Int))]with
    |some b=>(ax eO G0 [.cmp .Eq (.blt .len [.var 0]) (.var 1)] b g).bind λk c=>if k=NA then aN eO G0 (.emit (.var 0)) b a c else .ok a c
    |none=>.fail) b9 (λp F a i=>Dv i) G.length 0 [] (by simp) (by show 0+G.length<=16777216;omega)
  rw[N8,Px]at this;unfold EH;rw[ak,w,Zh];refine Eq.trans (Yj (λr=>Res.bind (Res.noErr r) (λy h=>if NA=NA then Res.ok (D.ref h.length) (h++[y])else Res.ok (.lst y) h)) this) ?_;simp[Res.bind,Res.noErr,aA]
 have A:ah eO G0 kw [Nz (ag m ts),none,none] S=.ok (.ret (.ref (S.length+1))) (S++[G.map pD]++[(aA G k).map pD]):=by rw[LQ];rw[aI (d:=.ref S.length) (S':=S++[G.map pD]) (by simp only[ak,al,Res.bind,Zj,JB,E])];simp only[ZU,ZZ];rw[aI (d:=.int (k:Int)) (S':=S++[G.map pD]) (by rw[ak,al,s];simp only[al,Res.bind,t,Res.noErr])];simp only[ZU,ZZ];refine cv ?_;rw[aC,u];rfl
 show az eO G0 kw uy.length 1 [ag m ts] S=_;have n:ah eO G0 kw (([ag m ts]:List D).map Nz++NG (uy.length-1) none) S=_:=A;unfold az;rw[if_pos (show [ag m ts].length=1 from rfl),n];show cO S.length (.ref (S.length+1)) (S++[G.map pD]++[(aA G k).map pD])=_;have I:(S++[G.map pD]++[(aA G k).map pD]).take S.length=S:=by rw[ZP,NY rfl]
 have B:(S++[G.map pD]++[(aA G k).map pD])[S.length+1]?=Nz ((aA G k).map pD):=by rw[Zs (by simp)];simp
 have C:bd S.length ((aA G k).map pD)=NA:=K52.gy _ (hY _);unfold cO;rw[I,if_pos H.all,if_neg (by unfold bF;simp)];simp only[B];rw[if_pos ⟨C,by omega⟩]
theorem Dx{l:List α}{f:α->Bool}:fg (l.map λx=>Nz (f x))=Nz (l.any f):=by unfold fg;rw[ZY];have:bw (l.map ((λo=>o.map not)∘λx=>Nz (f x)))=Nz _:=K52.allO_map;rw[this];simp[List.all_eq_not_any_not]
theorem pF(x:Int)(s:Ti):a7 .In (.int x) (ar s) S=.ok (.bl (!(decide (x≠s.1)&&decide (x≠s.2)))) S:=by
 show Res.ok _ S=_
 grind
theorem LU:kD=[.ret (.bnot (.blt .any [BD]))]:=rfl
noncomputable def cE(t s:Ti):Bool:= !(decide (t.1≠s.1)&&decide (t.1≠s.2))|| !(decide (t.2≠s.1)&&decide (t.2≠s.2))
theorem pG(l:Flat S)(t:Ti)(q:List Ti)(r:q.length<=1000):g9 [ar t,pD q] S=.ok (.bl (a8 q t.1&&a8 q t.2)) S:=by
 refine bL rfl ?_ rfl l rfl;show ah fT G0 kD [Nz (ar t),Nz (pD q)] S=_;have g:bi (ar t) (.int 0) S=.ok (.int t.1) S:=rfl;have j:bi (ar t) (.int 1) S=.ok (.int t.2) S:=rfl
 have n:ak fT G0 BD [Nz (ar t),Nz (pD q)] S=.ok (.lst (q.map λs=>.bl (cE t s))) S:=by
  refine c6 (S1:=S) (rfl) ?_
  have:=ew (f:=ar) (p:=λ_=>NA) (e:=λs=>D.bl (cE t s)) (xs:=q) (S:=S) (step:=λx a d=>match aH (.var 0) x [none,Nz (ar t)]with
    |some b=>(ax fT G0 [] b d).bind λk c=>if k=NA then aN fT G0 (.emit BC) b a c else .ok a c
    |none=>.fail) (λs u a h=>by have H:aH (.var 0) (ar s) [none,Nz (ar t)]=Nz [Nz (ar s),Nz (ar t)]:=rfl;have i:=pF (S:=S) t.1 s;rw[H];unfold cE;cases e: !(decide (t.1≠s.1)&&decide (t.1≠s.2))<;>rw[e]at i<;>simp only[BC,ax,aN,ak,al,Res.bind,g,j,i,pF (S:=S) t.2 s,Res.noErr,bj,Zl,Zj,if_true,Bool.false_or,Bool.true_or,Z9,if_false]<;>simp[h]) (show q.length<=16777216 by omega)
  refine Eq.trans this ?_;rw[Oq.mpr (λ_ _=>rfl)]
 have h:f_ [.lst (q.map λs=>.bl (cE t s))] S=.ok (.bl (q.any (cE t))) S:=by show aQ _ S=_;rw[ZY];have:(q.map (eB∘λs=>D.bl (cE t s)))=q.map λs=>Nz (cE t s):=rfl;rw[this,Dx];rfl
 have m:(!q.any (cE t))=(a8 q t.1&&a8 q t.2):=by
  rw[P6,ZL,gC,gC];simp only[O3,TQ,cE,QQ,O3,Bool.and_eq_false_iff,Decidable.not_not,not_or]
  grind
 rw[LU];refine cv ?_;rw[<-m,aC,ak,ak,al,n];simp[al,Res.bind,bh,h,bN,Res.noErr]
theorem LV:BE=[.asg 1 (.lst NB [.tup []]),.for_ (.var 2) (.seq (.idx (.var 0) (.lit (.int 1)))) v6,.ret (.blt (.sorted NB (.seq (.seq .int))) [.var 1])]:=rfl
theorem pH(q:List Ti)(t:Ti)(h:q.length<=1000):dD .Add (pD q) (.tup [ar t]) S=.ok (pD (q++[t])) S:=by
 have:(ae q).length=q.length:=by unfold ae;simp
 have e:dD .Add (.tup _) (.tup _) S=if(ae q).length+[ar t].length<=bt then .ok _ S else .fail:=rfl;unfold pD;rw[e,if_pos (by grind)];simp[ae]
theorem Dy(i:Flat S){F:List (List Ti)}{t:Ti}(l:F.length<=65536)(H:∀p∈F,p.length<=1000):ak g_ G0 JY [Nz W,Nz (.lst (F.map pD)),Nz (ar t)] S=.ok (.lst (((F.filter λp=>a8 p t.1&&a8 p t.2).map (· ++[t])).map pD)) S:=by
 refine c6 (rfl) ?_
 have:=ew (p:=λp=>a8 p _&&a8 p _) (e:=λp=>pD (p++[t])) (S:=S) (step:=λx a g=>match aH _ x _ with
    |some b=>(ax g_ G0 [.call "_law_free" [.var 1,.var 0]] b g).bind λk c=>if k=NA then aN g_ G0 (.emit (.bin .Add (.var 0) (.tup [.var 1]))) b a c else .ok a c
    |none=>.fail) (λp f a j=>by have h:aH (.var 0) (pD p) [none,Nz (ar t)]=Nz _:=rfl;have d:=pG i t p (H p f);rw[h];cases e:a8 p _&&a8 p _<;>rw[e]at d<;>simp[ax,au,aN,ak,al,Res.bind,JZ,d,pH (S:=S) p t (H p f),j,bN,Res.noErr]) (show F.length<=16777216 by omega)
 refine Eq.trans this ?_;simp_all
theorem pI(hS:Flat S){F:List (List Ti)}{t:Ti}(hF:F.length<=65536)(hB:∀p∈F,p.length<=1000):ah g_ G0 v6 [Nz W,Nz (.lst (F.map pD)),Nz (ar t)] S=.ok (.next [Nz W,Nz (.lst ((fy t F).map pD)),Nz (ar t)]) S:=by
 have h1:=Dy hS (W:=W) (t:=t) hF hB
 have hl:((F.filter λp=>a8 p t.1&&a8 p t.2).map (· ++[t])).length<=65536:=by
  grind
 unfold fy;generalize(F.filter _).map _=G at*
 have h2:dD .Add (.lst (F.map pD)) (.lst (G.map pD)) S=.ok (.lst ((F++G).map pD)) S:=by
  show(if(F.map _).length+(G.map _).length<=bt then Res.ok _ S else .fail)=_
  grind
 unfold v6;rw[aI (d:=.lst ((F++G).map pD)) (S':=S) (by rw[ak,den_v' rfl];simp[Res.bind,h1,h2,Res.noErr])];rfl
where
 den_v' {i:Nat} {d:D} {ρ:bC} {S:aa} (h:ρ[i]?=Nz (Nz d)):ak _ _ _ _ S=.ok d S:=by rw[ak,h]
theorem kZ{s t:Ti}(h:aS s t):pE s t:=h
theorem Dz{S:aa}(b:Flat S){m:Int}{all:List Ti}(W:bn m all){w:D}:∀(ts us:List Ti) (F:List (List Ti)) (x2:Option D),us++ts=all->v7 us F->(gJ ts F).length<=40320->∃y,
  b0 (λx ρ S=>match aE (.var 2) x ρ with
   |some ρ'=>ah g_ G0 v6 ρ' S
   |none=>.fail) (ts.map ar) [Nz w,Nz (.lst (F.map pD)),x2] S=.ok (.next [Nz w,Nz (.lst ((gJ ts F).map pD)),y]) S
 | [],us,F,x2,_,_,_=>⟨x2,rfl⟩
 |t::ts,us,F,x2,e,a,g=>by
  have k:=Dn (t::ts) F;have f:∀p∈F,p.length<=1000:=λp i=>by have c:=(a.2 p).mp i;have C:gB all p:=⟨λs H=>by rw[<-e];exact Zp.mpr (.inl (c.1 s H)),c.2⟩;have:=px W C;omega
  have j:t∈all:=by rw[<-e];simp
  have d:=W.ris;rw[<-e,ZG]at d;have h:=kX (W.tie t j).2.1 (λs H=>kZ (d.2.2 s H t Zd)) a;obtain⟨y,I⟩:=Dz b W (w:=w) ts (us++[t]) (fy t F) (Nz (ar t)) (by rw[<-e];simp) h g;refine⟨y,?_⟩;rw[ZV];unfold b0;simp only[aE,ZU,ZZ];rw[pI b (by omega) f];exact I
theorem LW{ts:List Ti}(W:bn m ts):(gJ ts [[]]).Perm (gH m ts):=by have h:=Dk _ _ _ (λt H=>(W.tie t H).2.1) (W.ris.imp λh=>kZ h) (λs a=>by cases a) Dl;refine Dq h.1 (pC W).1 λp=>?_;rw[h.2,(pC W).2];exact⟨λc=>⟨c,λt H=>(W.tie t (c.1 t H)).1⟩,λc=>c.1⟩
theorem DA(h:Flat S){ts:List Ti}(W:bn m ts):gw [ag m ts] S=.ok (.lst (cy (gH m ts))) S:=by
 have H:=LW W;have c:(gJ ts [[]]).length<=40320:=by rw[H.length_eq];exact vf W
 obtain⟨y,b⟩:=Dz h W _ _ _ _ rfl Dl c;have a:=Dh (S:=S) (by omega) (.inl (Dm ts [[]] rfl)) NB (d:=.lst _) rfl;rw[LN H]at a;refine bL rfl ?_ rfl h (K52.Dd _)
 rw[LV,aI rfl,be (by exact b)];refine cv ?_;simp[aC,ak,al,Res.bind,bh,a,Res.noErr,JY,v6]
theorem DB:∀(G:List (List Ti)),G≠[]->∃k,(∀p∈G,p.length<=k)/\∃p∈G,p.length=k
 | [],h=>absurd rfl h
 | [p],_=>⟨p.length,λq c=>by rw[ZB.mp c];exact Zg _,p,by simp,rfl⟩
 |p::q::G,_=>by
  obtain⟨k,a,r,d,b⟩:=DB (q::G) (by simp);by_cases h:p.length<=k
  ·exact⟨k,λs H=>by rcases Zi.mp H with rfl|H;exact h;exact a s H,r,Zb _ d,b⟩
  ·exact⟨p.length,λs H=>by rcases Zi.mp H with rfl|H;exact Zg _;have:=a s H;omega,p,Zd,rfl⟩
theorem DC{ts:List Ti}(W:bn m ts):∃G k,fz m ts G k:=by
 obtain⟨G,g,a,b⟩:=Ds _;have d:=(b _).mpr (((pC W).2 _).mpr ⟨⟨λt h=>(by cases h),.nil⟩,λt h=>by cases h⟩);obtain⟨k,H,c⟩:=DB G λz=>by simp_all
 exact⟨G,k,g,by rw[a];exact vf W,H,c⟩
theorem LX:BI=[.asg 1 (.call "_law_pairings" [.var 0]),.asg 2 (.blt .max [J']),.ret Ka]:=rfl
theorem DD(g:Flat S){ts:List Ti}(W:bn m ts){G:List (List Ti)}(M:fz m ts G k):fw [ag m ts] S=.ok (.lst ((aA G k).map pD)) S:=by
 have E:=DA g W;rw[M.is]at E;have i:=M.few
 have n:ak i_ G0 J' [Nz (ag m ts),Nz (.lst (G.map pD)),none] S=.ok (.lst (G.map λp=>D.int (p.length:Int))) S:=by
  refine c6 (rfl) ?_
  have:=ew (p:=λ_=>NA) (e:=λp=>D.int (p.length:Nat)) (S:=S) (step:=λx a l=>match aH (.var 0) x [none]with
    |some b=>(ax i_ G0 [] b l).bind λk f=>if k=NA then aN i_ G0 (.emit (.blt .len [.var 0])) b a f else .ok a f
    |none=>.fail) (λp s a h=>by have H:=h;have r:=vk (S:=S) p;have c:aH (.var 0) (pD p) [none]=Nz _:=rfl;rw[c];simp[ax,aN,ak,al,Res.bind,bh,r,Res.noErr,H]) (show G.length<=16777216 by omega)
  rw[Oq.mpr (λ_ _=>rfl)]at this;exact this
 have o:bh .max _ S=.ok _ S:=K52.Dw M;have q:ak i_ G0 Ka [Nz (ag m ts),Nz (.lst (G.map pD)),Nz (.int k)] S=.ok (.lst ((aA G k).map pD)) S:=by refine c6 (rfl) ?_;exact ew (λp s a h=>Dv h) (show G.length<=16777216 by omega)
 refine bL rfl ?_ rfl g (hY _);show ah _ G0 _ [Nz _,none,none] S=_;rw[LX];rw[aI (d:=.lst (G.map pD)) (S':=S) (by simp only[ak,al,Res.bind,Zj,Kb,E])];simp;rw[aI (d:=.int k) (S':=S) (by rw[ak,al,n];simp only[al,Res.bind,o,Res.noErr])];simp;refine cv ?_;rw[aC,q];rfl
section
variable {A B C:List D}{P:List (List Ti)}
end
section
variable {ts:List Ti}{P:List (List Ti)}
end
theorem ec(x y:Int):dD .Add (.int x) (.int y) S=.ok (.int (x+y)) S:=rfl
theorem k0(x y:Int):dD .Sub (.int x) (.int y) S=.ok (.int (x-y)) S:=rfl
theorem e8{x:Int}(h:(-(2^64)<x/\x<2^64)\/(-(2^64)<y/\y<2^64)):dD .Mult (.int x) (.int y) S=.ok (.int (x*y)) S:=by show(if-2^64<x/\x<2^64\/ -2^64<y/\y<2^64 then Res.ok _ S else _)=_;rw[if_pos h]
theorem cz{x:Int}(h:0<y):dD .Mod (.int x) (.int y) S=.ok (.int (x%y)) S:=by show(if 0<y then Res.ok _ S else .fail)=_;rw[if_pos h]
theorem fH{x:Int}(h:0<y/\y<1073741824):dD .FloorDiv (.int x) (.int y) S=.ok (.int (x/y)) S:=by show(if 0<y/\y<1073741824 then Res.ok _ S else if 0<y/\y<2^100 then Res.ok _ S else .fail)=_;rw[if_pos h]
theorem DE{x:Int}(h:0<=y):dD .RShift (.int x) (.int y) S=.ok (.int (x/2^y.toNat)) S:=by show(if 0<=y then Res.ok _ S else .fail)=_;rw[if_pos h]
theorem DF(x y:Int):dD .BitAnd (.int x) (.int y) S=.ok (.int (QO x y)) S:=rfl
theorem pJ(x y:Int):a7 .Eq (.int x) (.int y) S=.ok (.bl (x==y)) S:=rfl
theorem LY(x y:Int):a7 .Lt (.int x) (.int y) S=.ok (.bl (decide (x<y))) S:=rfl
noncomputable def iy(c k:Int):Int:=(c%2147483647+977*k+1)*48271
noncomputable def iz(X:Int):Int:=X%2147483647*(X%2147483647)%2147483629
noncomputable def bv(c k:Int):Int:=(iz (iy c k)+40692*(k+3))*69621%2147483647/8
theorem pK(h:Flat S)(c k:Int):eZ [.int c,.int k] S=.ok (.int (bv c k)) S:=by have m:∀x:Int,dD .Mult (.int x) (.int 48271) S=.ok _ S:=λx=>e8 (.inr (by decide));have M:∀x:Int,dD .Mult (.int 977) (.int x) S=.ok _ S:=λx=>e8 (.inl (by decide));have e:∀x:Int,dD .Mult (.int 40692) (.int x) S=.ok _ S:=λx=>e8 (.inl (by decide));have f:∀x:Int,dD .Mult (.int x) (.int 69621) S=.ok _ S:=λx=>e8 (.inr (by decide));have D:∀x:Int,dD .Mod (.int x) (.int 2147483647) S=.ok _ S:=λx=>cz (by decide);have b:∀x:Int,dD .Mod (.int x) (.int 2147483629) S=.ok _ S:=λx=>cz (by decide);refine bL rfl ?_ rfl h rfl;show ah BB G0 uD [Nz (.int c),Nz (.int k),none] S=_;have g:∀x:Int,dD .Mult (.int (x%2147483647)) (.int (x%2147483647)) S=.ok _ S:=λx=>e8 (.inl (by omega));unfold uD;rw[aI (S':=S) (d:=.int (iy c k%2147483647)) (by unfold iy;simp only[ak,Res.bind,Res.noErr,Zl,Zj,D,M,ec,m])];simp;unfold bv;generalize iy c k=X;rw[aI (S':=S) (d:=.int (iz X)) (by unfold iz;simp only[ak,Res.bind,Res.noErr,Zl,Zj,g,b])];simp;generalize iz X=Y;rw[aI (S':=S) (d:=.int ((Y+40692*(k+3))*69621%2147483647)) (by simp only[ak,Res.bind,Res.noErr,Zl,Zj,ec,e,f,D])];rfl
theorem LZ:kC=[.asg 2 (.bin .Add (.lit (.int 1)) (.bin .Mod (.var 0) (.var 1))),.asg 3 (.bin .FloorDiv (.var 0) (.var 1)),.asg 4 (.bin .Mod (.var 3) (.lit (.int 6))),.asg 5 (.lst NA []),.for_ (.var 6) (.range [.lit (.int 1),.var 2]) wA,.ret (.tup [.var 2,.blt .tuple [.blt (.sorted NB (.seq .int)) [.var 5]]])]:=rfl
section
variable {c t l w a b:Int}{x8 x9:Option D}
abbrev rW(c t m l w:Int)(n:Nat)(x6 x7 x8 x9:Option D):bC:=[Nz (.int c),Nz (.int t),Nz (.int m),Nz (.int l),Nz (.int w),Nz (.ref n),x6,x7,x8,x9]
theorem L0(f:0<=a)(g:1<=b)(e:b<=8):∃ch:Int,ak cr G0 oE (rW c t m l w n (Nz (.int b)) (Nz (.int a)) x8 x9) T=.ok (.int ch) T:=by
 have H:=fH (S:=T) (x:=b*(b-1)) (y:=2) (by simp);have h:0<=b*(b-1)/2+a:=by have:0<=b*(b-1):=Int.mul_nonneg (by lia) (by simp_all);lia
 have d:=DE (S:=T) (x:=l/6) h;exact⟨QO (l/6/2^(b*(b-1)/2+a).toNat) 1,by simp only[oE,ak,Res.bind,Res.noErr,Zl,Zj,fH (S:=T) (x:=l) (y:=6) (by simp),k0,e8 (S:=T) (x:=b) (y:=b-1) (.inl (by lia)),H,ec,d,DF]⟩
theorem DJ(h:Flat T):∃r:Int,ak cr G0 lr (rW c t m l w n (Nz (.int b)) (Nz (.int a)) x8 x9) T=.ok (.int r) T:=by exact⟨bv c (8*a+b),by simp only[lr,ak,al,Res.bind,Res.noErr,Zl,Zj,e8 (S:=T) (x:=8) (y:=a) (.inl (by decide)),ec,JV,pK h c (8*a+b)]⟩
theorem k6{k:Int}{e:CE}(h:∃ch:Int,ak cr G0 e (rW c t m l w n (Nz (.int b)) (Nz (.int a)) (Nz v8) x9) T=.ok (.int ch) T)(H:∃i:Int,v8=.int i):
  ∃ch:Int,aC cr G0 (wW k [.asg 8 e]) (rW c t m l w n (Nz (.int b)) (Nz (.int a)) (Nz v8) x9) T=.ok (.next (rW c t m l w n (Nz (.int b)) (Nz (.int a)) (Nz (.int ch)) x9)) T:=by
 obtain⟨i,rfl⟩:=H;obtain⟨ch,h⟩:=h;unfold wW;rw[hL rfl];cases w==k
 ·exact⟨i,rfl⟩
 ·refine⟨ch,?_⟩;rw[aI h];rfl
theorem L1:∃q:List Bool,q.length=5/\ak cr G0 ls (rW c t m l w n (Nz (.int b)) (Nz (.int a)) x8 x9) T=.ok (.lst (q.map D.bl)) T:=by
 have e:ak cr G0 qJ (rW c t m l w n (Nz (.int b)) (Nz (.int a)) x8 x9) T=.ok _ T:=rfl;have E:ak cr G0 oH (rW c t m l w n (Nz (.int b)) (Nz (.int a)) x8 x9) T=.ok (.bl (b==a+1||b-a==m-1)) T:=by dsimp only[oH,ak,Res.bind,Res.noErr,Zl,Zj,ec,k0,pJ,bj];lia
 have d:ak cr G0 oI (rW c t m l w n (Nz (.int b)) (Nz (.int a)) x8 x9) T=.ok (.bl (b==a+1&&decide (a%3<2))) T:=by simp only[oI,ak,Res.bind,Res.noErr,Zl,Zj,ec,cz (S:=T) (x:=a) (y:=3) (by simp),pJ,LY,bj];lia
 refine⟨[b==a+1,b==a+1||b-a==m-1,a==0,NA,b==a+1&&decide (a%3<2)],rfl,?_⟩;simp only[ls,ak,al,Res.bind,Res.noErr,Zl,Zj,e,E,d,pJ];rfl
theorem L3{q:List Bool}(g:q.length=5):∃ch:Int,ak cr G0 lu (rW c t m l w n (Nz (.int b)) (Nz (.int a)) x8 (Nz (.lst (q.map D.bl)))) T=.ok (.int ch) T:=by
 have h:=cz (S:=T) (x:=l/6) (y:=5) (by simp);have H:0<=l/6%5/\l/6%5<5:=by lia
 generalize l/6%5=i at h H;obtain⟨v,j⟩:∃v,q[i.toNat]?=Nz v:=⟨_,Zf (by simp_all)⟩
 have d:bi (.lst (q.map D.bl)) (.int i) T=.ok (.bl v) T:=by
  have e:fX (q.map D.bl) i=Nz (.bl v):=by
   have k:gL (q.map D.bl).length i=Nz i.toNat:=by unfold gL;simp_all
   unfold fX;simp_all
  unfold bi;simp[av,e]
 have f:intD [.bl v] T=.ok _ T:=rfl;exact⟨if v=NA then 1 else 0,by simp only[lu,ak,al,Res.bind,Res.noErr,Zl,Zj,fH (S:=T) (x:=l) (y:=6) (by decide),h,d,bh,f]⟩
theorem vm(h:∃i:Int,v8=.int i):∃(ch:Int) (y:Option D),aC cr G0 (wW 5 [.asg 9 ls,.asg 8 lu]) (rW c t m l w n (Nz (.int b)) (Nz (.int a)) (Nz v8) x9) T=.ok (.next (rW c t m l w n (Nz (.int b)) (Nz (.int a)) (Nz (.int ch)) y)) T:=by
 obtain⟨i,rfl⟩:=h;obtain⟨q,H,e⟩:=L1;obtain⟨ch,E⟩:=L3 H;unfold wW;rw[hL rfl];cases w==5
 ·exact⟨i,_,rfl⟩
 ·refine⟨ch,Nz (.lst (q.map D.bl)),?_⟩;rw[aI e];dsimp;rw[aI E];rfl
theorem vn{us:List Ti}(z:Flat T)(J:us.length<1000)(A:0<=a)(B:1<=b)(d:b<=8):∃(k:Bool) (G Y:Option D),
  ah cr G0 wB (rW c t m l w T.length (Nz (.int b)) (Nz (.int a)) x8 x9) (T++[ae us])=.ok (.next (rW c t m l w T.length (Nz (.int b)) (Nz (.int a)) G Y)) (T++[ae (if k=NA then us++[(a,b)]else us)]):=by
 have h:Flat (T++[ae us]):=z.snoc (K52.ja us);obtain⟨i,E⟩:=L0 (T:=T++[ae us]) (c:=c) (t:=t) (m:=m) (l:=l) (w:=w) (n:=T.length) (x8:=x8) (x9:=x9) A B d;obtain⟨j,p⟩:=k6 (T:=T++[ae us]) (c:=c) (t:=t) (m:=m) (l:=l) (w:=w) (n:=T.length) (a:=a) (b:=b) (x9:=x9) (k:=3) (e:=oF) (v8:=.int i) (by obtain⟨r,f⟩:=DJ (T:=T++[ae us]) (c:=c) (t:=t) (m:=m) (l:=l) (w:=w) (n:=T.length) (a:=a) (b:=b) (x8:=Nz (.int i)) (x9:=x9) h;exact⟨r%3/2,by unfold oF;rw[ak,ak,f];simp only[ak,Res.bind,Res.noErr,cz (S:=T++[ae us]) (x:=r) (y:=3) (by decide),fH (S:=T++[ae us]) (x:=r%3) (y:=2) (by decide)]⟩) ⟨_,rfl⟩;obtain⟨o,q⟩:=k6 (T:=T++[ae us]) (c:=c) (t:=t) (m:=m) (l:=l) (w:=w) (n:=T.length) (a:=a) (b:=b) (x9:=x9) (k:=4) (e:=oG) (v8:=.int j) (by obtain⟨r,f⟩:=DJ (T:=T++[ae us]) (c:=c) (t:=t) (m:=m) (l:=l) (w:=w) (n:=T.length) (a:=a) (b:=b) (x8:=Nz (.int j)) (x9:=x9) h;exact⟨(r%4+2)/3,by unfold oG;rw[ak,ak,ak,f];simp only[ak,Res.bind,Res.noErr,cz (S:=T++[ae us]) (x:=r) (y:=4) (by decide),ec,fH (S:=T++[ae us]) (x:=r%4+2) (y:=3) (by decide)]⟩) ⟨_,rfl⟩;obtain⟨C,Y,s⟩:=vm (T:=T++[ae us]) (c:=c) (t:=t) (m:=m) (l:=l) (w:=w) (n:=T.length) (a:=a) (b:=b) (x9:=x9) (v8:=.int o) ⟨_,rfl⟩;refine⟨C==1,Nz (.int C),Y,?_⟩;unfold wB;rw[aI E];simp only[ZU,ZZ,be p,be q,be s];have F:au cr G0 (.cmp .Eq (.var 8) (.lit (.int 1))) (rW c t m l w T.length (Nz (.int b)) (Nz (.int a)) (Nz (.int C)) Y) (T++[ae us])=.ok (C==1) (T++[ae us]):=by simp only[au,ak,Res.bind,Zl,Zj,pJ,Res.noErr,bj]
 refine(be (ρ':=rW c t m l w T.length (Nz (.int b)) (Nz (.int a)) (Nz (.int C)) Y) ?_).trans rfl;rw[hL F];cases C==1
 ·rfl
 ·rw[if_pos rfl,if_pos rfl];have H:fh (.ref T.length) [.tup [.int a,.int b]] (T++[ae us])=.ok .non (T++[ae us++[.tup [.int a,.int b]]]):=C5 (by unfold ae;rw[Zh];show _<16777216;omega);have u:ae us++[.tup [.int a,.int b]]=ae (us++[(a,b)]):=by unfold ae;simp[ar]
  rw[u]at H;refine(be (ρ':=rW c t m l w T.length (Nz (.int b)) (Nz (.int a)) (Nz (.int C)) Y) (S':=T++[ae (us++[(a,b)])]) ?_).trans rfl;simp only[aC,ak,al,Res.bind,Res.noErr,cH,Zl,Zj,H]
theorem DK(H:Flat T)(f:1<=b)(h:b<=8):∀(as:Li) (us:List Ti) (x7 x8 x9:Option D),(∀a∈as,0<=a)->us.length+as.length<1000->∃(vs:List Ti) (y Y d:Option D),vs.Sublist (as.map λa=>(a,b))/\
  b0 (λx ρ S=>match aE (.var 7) x ρ with
   |some ρ'=>ah cr G0 wB ρ' S
   |none=>.fail) (as.map D.int) (rW c t m l w T.length (Nz (.int b)) x7 x8 x9) (T++[ae us])=.ok (.next (rW c t m l w T.length (Nz (.int b)) y Y d)) (T++[ae (us++vs)])
 | [],us,x7,x8,x9,_,_=>⟨[],x7,x8,x9,.slnil,by rw[Yf];rfl⟩
 |a::as,us,x7,x8,x9,g,n=>by
  obtain⟨k,z,Z,e⟩:=vn (c:=c) (t:=t) (m:=m) (l:=l) (w:=w) (x8:=x8) (x9:=x9) (us:=us) H (by lia) (g a Zd) f h;obtain⟨vs,y,Y,d,i,I⟩:=DK H f h as (if k=NA then us++[(a,b)]else us) (Nz (.int a)) z Z (λx j=>g x (Zb _ j)) (by grind);refine⟨(if k=NA then [(a,b)]else [])++vs,y,Y,d,?_,?_⟩
  ·cases k
   ·exact i.cons _
   ·exact i.cons_cons _
  ·rw[ZV];unfold b0;dsimp only[aE,ZU,ZZ];rw[e];refine I.trans ?_;cases k<;>simp
noncomputable def k7(bs:Li):List Ti:=bs.flatMap λb=>(ba 0 b.toNat).map λa=>(a,b)
theorem DL(k:Flat T):∀(bs:Li) (us:List Ti) (x6 x7 x8 x9:Option D),(∀b∈bs,1<=b/\b<=8)->us.length+8*bs.length<1000->∃(vs:List Ti) (y Y g i:Option D),vs.Sublist (k7 bs)/\
  b0 (λx ρ S=>match aE (.var 6) x ρ with
   |some ρ'=>ah cr G0 wA ρ' S
   |none=>.fail) (bs.map D.int) (rW c t m l w T.length x6 x7 x8 x9) (T++[ae us])=.ok (.next (rW c t m l w T.length y Y g i)) (T++[ae (us++vs)])
 | [],us,x6,x7,x8,x9,_,_=>⟨[],x6,x7,x8,x9,.slnil,by rw[Yf];rfl⟩
 |b::bs,us,x6,x7,x8,x9,n,q=>by
  rw[ZJ]at q;obtain⟨p,H⟩:=n b Zd;have h:(ba 0 b.toNat).length=b.toNat:=K52.ez;obtain⟨vs,z,Z,j,r,e⟩:=DK (c:=c) (t:=t) (m:=m) (l:=l) (w:=w) k p H (ba 0 b.toNat) us x7 x8 x9 (λa o=>(K52.gz o).1) (by rw[h];omega);have s:vs.length<=8:=by grind
  obtain⟨W,y,Y,g,i,f,I⟩:=DL k bs (us++vs) (Nz (.int b)) z Z j (λx u=>n x (Zb _ u)) (by rw[Zz];omega);refine⟨vs++W,y,Y,g,i,?_,?_⟩
  ·unfold k7;rw[Pw];exact r.append f
  ·rw[ZV];unfold b0;simp only[aE,ZU,ZZ]
   have E:ah cr G0 wA (rW c t m l w T.length (Nz (.int b)) x7 x8 x9) (T++[ae us])=.ok (.next (rW c t m l w T.length (Nz (.int b)) z Z j)) (T++[ae (us++vs)]):=by
    unfold wA;refine(be (ρ':=rW c t m l w T.length (Nz (.int b)) z Z j) (S':=T++[ae (us++vs)]) ?_).trans rfl;have d:(-4611686018427387904:Int)<=b/\b<4611686018427387904:=by omega
    rw[e7 (its:=.items ((ba 0 b.toNat).map D.int)) (S1:=T++[ae us]) (by simp[aK,al,ak,Res.bind,Res.noErr,d,K52.jc])];exact e
   rw[E,<-ZP];exact I
end
theorem L4(h1:1<=m)(h:m<=8):(k7 (ba 1 (m-1).toNat)).Nodup/\(∀t∈k7 (ba 1 (m-1).toNat),0<=t.1/\t.1<t.2/\t.2<m)/\(k7 (ba 1 (m-1).toNat)).length<=28:=by rcases K52.Cu h1 h with rfl|rfl|rfl|rfl|rfl|rfl|rfl|rfl<;>exact⟨by decide+kernel,by decide+kernel,by decide+kernel⟩
theorem vo(n:Flat S)(c:Int):∃m ts,bn m ts/\i7 [.int c,.int 8] S=.ok (ag m ts) S:=by
 have h:1<=1+c%8/\1+c%8<=8:=by omega
 obtain⟨P,s,u⟩:=L4 h.1 h.2;obtain⟨vs,Y,v,z,A,f,g⟩:=DL (T:=S) (c:=c) (t:=8) (m:=1+c%8) (l:=c/8) (w:=c/8%6) n (ba 1 (1+c%8-1).toNat) [] none none none none (λb o=>by have:=K52.gz o;omega) (by rw[K52.ez];simp;omega);rw[N8]at g;have q:vs.length<=28:=Zw f.length_le u;refine⟨1+c%8,sortI vs,Lk h.1 h.2 (f.nodup P) (λt r=>s t (f.subset r)) q,?_⟩;have i:=cz (S:=S) (x:=c) (y:=8) (by decide);have j:=fH (S:=S) (x:=c) (y:=8) (by decide);have k:=cz (S:=S) (x:=c/8) (y:=6) (by decide)
 have p:ah cr G0 kC [Nz (.int c),Nz (.int 8),none,none,none,none,none,none,none,none] S=.ok (.ret (ag (1+c%8) (sortI vs))) (S++[ae vs]):=by
  have e:(-4611686018427387904:Int)<=1+c%8/\1+c%8<4611686018427387904:=by omega
  rw[LZ];rw[aI (d:=.int (1+c%8)) (S':=S) (by simp only[ak,Res.bind,Res.noErr,Zl,Zj,i,ec,oE,lr,oF,oG,qJ,oH,oI,ls,lu,wB,wA])];simp only[ZU,ZZ];rw[aI (d:=.int (c/8)) (S':=S) (by simp only[ak,Res.bind,Res.noErr,Zl,Zj,j,oE,lr,oF,oG,qJ,oH,oI,ls,lu,wB,wA])];simp only[ZU,ZZ];rw[aI (d:=.int (c/8%6)) (S':=S) (by simp only[ak,Res.bind,Res.noErr,Zl,Zj,k,oE,lr,oF,oG,qJ,oH,oI,ls,lu,wB,wA])];simp only[ZU,ZZ];rw[aI (d:=.ref S.length) (S':=S++[ae []]) (by simp[ak,al,Res.bind,ae,oE,lr,oF,oG,qJ,oH,oI,ls,lu,wB,wA])];simp only[ZU,ZZ];rw[be (ρ':=rW c 8 (1+c%8) (c/8) (c/8%6) S.length Y v z A) (S':=S++[ae vs]) (by rw[e7 (its:=.items ((ba 1 (1+c%8-1).toNat).map D.int)) (S1:=S++[ae []]) (by simp[aK,al,ak,Res.bind,Res.noErr,e,K52.jc,oE,lr,oF,oG,qJ,oH,oI,ls,lu,wB,wA])];exact g)];refine cv ?_;simp only[aC,ak,al,Res.bind,Res.noErr,Zl,Zj,bh,Ct (S:=S++[ae vs]) (d:=.ref S.length) (l:=vs) b9 (by omega),(rfl)];rfl
 show az cr G0 kC uE.length 2 [.int c,.int 8] S=_;have H:ah cr G0 kC (([.int c,.int 8]:List D).map Nz++NG (uE.length-2) none) S=_:=p;unfold az;rw[if_pos (show [D.int c,D.int 8].length=2 from rfl),H];show cO S.length (ag (1+c%8) (sortI vs)) (S++[ae vs])=_;rw[K52.hJ (by grind) (K52.oX _ _),NY rfl]
theorem pL(b:Flat S)(ns:Li):∃c:Int,i6 [.scr (ns.map D.int),.int 0] S=.ok (.int c) S:=by
 cases ns with
 |nil=>exact⟨0,bL rfl rfl rfl b rfl⟩
 |cons n ns=>
  refine⟨n,bL rfl ?_ rfl b rfl⟩;have h:f8 [.scr ((n::ns).map D.int)] S=.ok (.int ((n::ns).map D.int).length) S:=rfl
  have H:a7 .Lt (.int 0) (.int ((n::ns).map D.int).length) S=.ok (.bl NA) S:=by have:a7 .Lt (.int 0) (.int ((n::ns).map D.int).length) S=.ok (.bl (decide ((0:Int)<((n::ns).map D.int).length))) S:=rfl;rw[this,ZO (by simp)]
  have a:bi (.scr ((n::ns).map D.int)) (.int 0) S=.ok (.int n) S:=by
   unfold bi
   have:fX ((n::ns).map D.int) 0=Nz (.int n):=by
    unfold fX gL;simp
    try omega
   simp only[av,this]
  generalize(n::ns).map D.int=x at h H a;simp[BA,Bz,ah,aC,au,ak,al,Res.bind,Res.noErr,bj,bh,h,H,a]
noncomputable def af(s:Li):D:=.tup (s.map D.int)
section
variable {ts p:List Ti}{G:List (List Ti)}
theorem pM(s:Li):bF 0 (af s)=NA:=K52.e5 s
theorem DM(n:Nat):∀p q:Li,bw (NL (cF S (n+1)) (p.map D.int) (q.map D.int))=Nz (decide (p.take q.length=q.take p.length))
 | [],q=>by simp[bw]
 |a::p,[]=>rfl
 |a::p,b::q=>by
  have i:=DM n p q
  show(match Nz _,bw _ with
   |some b,Nz c=>Nz (b&&c)
   |_,_=>none)=_
  rw[i];by_cases h:a=b<;>simp[h]
theorem L5:uH=[.ret (.blt .tuple [J9])]:=rfl
theorem DN:∀(ps:List Ti) (i:Int),(ay ps i).isNone= !(ps.any (cw i))
 | [],i=>rfl
 |t::ps,i=>by
  have I:=DN ps i;unfold ay;by_cases h:i=t.1
  ·simp[cw,h]
  ·by_cases H:i=t.2
   ·simp[cw];simp_all
   ·rw[if_neg h,if_neg H,I];simp[cw,h,H]
theorem L6(s:Flat S)(h1:1<=m)(w:m<=8)(y:p.length<=1000):oN [ag m ts,pD p] S=.ok (af (de m p)) S:=by
 refine bL rfl ?_ rfl s (pM _);show ah hH G0 uH [Nz (ag m ts),Nz (pD p)] S=_;have l:bi (ag m ts) (.int 0) S=.ok (.int m) S:=rfl;have u:(-4611686018427387904:Int)<=m/\m<4611686018427387904:=by omega
 have r:∀i:Int,ak hH G0 EK [Nz (.int i),Nz (pD p)] S=.ok (.lst (p.map λt=>D.bl (cw i t))) S:=λi=>by
  refine c6 (its:=.items (p.map ar)) (S1:=S) rfl ?_
  have:=ew (xs:=p) (f:=ar) (p:=λ_=>NA) (e:=λt=>D.bl (cw i t)) (S:=S) (step:=λx a d=>match aH (.var 0) x [none,Nz (.int i)]with
    |some c=>(ax hH G0 [] c d).bind λk j=>if k=NA then aN hH G0 (.emit (.cmp .In (.var 1) (.var 0))) c a j else .ok a j
    |none=>.fail) (λt z a g=>by
   have h:a.length<16777216:=g;have v:fc (.int i) (ar t) S=Nz (cw i t):=K52.kO S i t;have H:aH (.var 0) (ar t) [none,Nz (.int i)]=Nz [Nz (ar t),Nz (.int i)]:=rfl;rw[H];generalize ar t=T at*;simp[ax,aN,ak,Res.bind,a7,v,aQ,Res.noErr,h]) (show p.length<=16777216 by omega)
  rw[Oq.mpr (λ_ _=>rfl)]at this;exact this
 have q:ak hH G0 J9 [Nz (ag m ts),Nz (pD p)] S=.ok (.lst ((de m p).map D.int)) S:=by
  refine c6 (its:=.items ((ba 0 m.toNat).map D.int)) (S1:=S) (by simp[aK,al,ak,Res.bind,Res.noErr,l,u,K52.jc]) ?_
  exact ew (xs:=ba 0 m.toNat) (f:=D.int) (p:=λi=>(ay p i).isNone) (e:=D.int) (S:=S) (step:=λx a d=>match aH (.var 0) x [none,Nz (pD p)]with
    |some c=>(ax hH G0 [.bnot (.blt .any [EK])] c d).bind _
    |none=>.fail) (λi l a g=>by
   have h:a.length<16777216:=g;have H:aH (.var 0) (.int i) [none,Nz (pD p)]=Nz [Nz (.int i),Nz (pD p)]:=rfl;have E:=r i;have o:f_ [.lst (p.map λt=>D.bl (cw i t))] S=.ok (.bl (p.any (cw i))) S:=K52.u6;rw[H,DN];generalize EK=C at*;generalize p.any (cw i)=b at*;cases b<;>simp[ax,au,aN,ak,al,Res.bind,bh,E,o,Res.noErr,bN,h]) (show(ba 0 m.toNat).length<=16777216 by rw[K52.ez];omega)
 rw[L5];refine cv ?_;rw[aC,ak,al,q];rfl
theorem DO(M:fz m ts G k)(W:bn m ts){p:List Ti}(H:p∈G):gB ts p:=by
 obtain⟨a,g,d,b⟩:=K52.Ds _;have h:pD p∈a.map pD:=by rw[<-g,M.is];exact List.mem_map_of_mem H
 obtain⟨q,c,e⟩:=Zq.mp h;obtain rfl:=K52.vg e;exact(((K52.pC W).2 _).mp ((b _).mp c)).1
end
section
variable {ts:List Ti}
end
theorem e9{e:CE}{tg:CT}{rs:α->bC}{it:CE}{ds:List α}{h:α->D}{f:α->D}(hi:aK Φ G0 it ρ S=.ok (.items (ds.map h)) S)(o:fr.map (λj=>j.bind λj=>(ρ[j]?).join)=r0)
  (m:∀d∈ds,aH tg (h d) r0=Nz (rs d)) (q:ds.length<=100000) (n:∀d∈ds,ak Φ G0 e (rs d) S=.ok (f d) S):ak Φ G0 (.comp NB N fr tg it [] (.emit e)) ρ S=.ok (.lst (ds.map f)) S:=by
 refine c6 hi ?_;rw[o]
 have:=ew (f:=h) (p:=λ_=>NA) (e:=f) (xs:=ds) (S:=S) (step:=λy a l=>match aH tg y r0 with
    |some b=>(ax Φ G0 [] b l).bind λk c=>if k=NA then aN Φ G0 (.emit e) b a c else .ok a c
    |none=>.fail) (λd i a g=>by
     have H:a.length<16777216:=g
     show(match aH tg (h d) r0 with
      |some b=>(ax Φ G0 [] b S).bind λk c=>if k=NA then aN Φ G0 (.emit e) b a c else .ok a c
      |none=>.fail)=_
     rw[m d i];simp[ax,aN,Res.bind,n d i,H]) (show ds.length<=16777216 by omega)
 rw[Oq.mpr (λ_ _=>rfl)]at this;exact this
theorem e_{b:jJ}{e:CE}{r:D}(h:ak Φ G0 e ρ S=.ok d S)(H:bh b [d] S=.ok r S):ak Φ G0 (.blt b [e]) ρ S=.ok r S:=by simp[ak,al,h,Res.bind,H,Res.noErr]
theorem qK{b:jJ}{es:List CE}{k:Bool}(h:ak Φ G0 (.blt b es) ρ S=.ok (.bl k) S):au Φ G0 (.blt b es) ρ S=.ok k S:=by
 simp only[ak]at h;dsimp only[au];cases e:al _ _ _ _ S with
 |ok D a=>
  rw[e]at h;dsimp[Res.bind]at h⊢;cases E:bh b _ _ with
  |ok d c=>rw[E]at h;cases h;rfl
  |err x c=>rw[E]at h;cases h
  |fail=>rw[E]at h;cases h
 |err x a=>rw[e]at h;cases h
 |fail=>rw[e]at h;cases h
theorem bX{e:CE}(h:ak Φ G0 e ρ S=.ok d S)(hi:cB S d=Nz (.items ds)):aK Φ G0 (.seq e) ρ S=.ok (.items ds) S:=by rw[aK,h];simp[Res.bind,hi]
theorem eA{i:Nat}(h:ρ[i]?=Nz (Nz d)):ak Φ G0 (.var i) ρ S=.ok d S:=by simp[ak,h]
theorem cA:ak Φ G0 (.lit d) ρ S=.ok d S:=rfl
theorem h7{a b:CE}{x e:D}(h1:ak Φ G0 a ρ S=.ok d S1)(h:ak Φ G0 b ρ S1=.ok e S2)(H:bi d e S2=.ok x S2):ak Φ G0 (.idx a b) ρ S=.ok x S2:=by simp[ak,h1,h,Res.bind,H,Res.noErr]
theorem dg{o:RS}{a b:CE}{x e:D}(h1:ak Φ G0 a ρ S=.ok d S1)(h:ak Φ G0 b ρ S1=.ok e S2)(H:dD o d e S2=.ok x S2):ak Φ G0 (.bin o a b) ρ S=.ok x S2:=by simp[ak,h1,h,Res.bind,H,Res.noErr]
theorem k8{o:QI}{a b:CE}{x e:D}(h1:ak Φ G0 a ρ S=.ok d S1)(h:ak Φ G0 b ρ S1=.ok e S2)(H:a7 o d e S2=.ok x S2):ak Φ G0 (.cmp o a b) ρ S=.ok x S2:=by simp[ak,h1,h,Res.bind,H,Res.noErr]
theorem DP{p q:List D}(h:p.length+q.length<=1000):dD .Add (.tup p) (.tup q) S=.ok (.tup (p++q)) S:=by have e:dD .Add (.tup p) (.tup q) S=if p.length+q.length<=bt then .ok _ S else .fail:=rfl;lia
theorem vq{f:Str}{a b:CE}{x y:D}{k:Bool}(c:Φ f=Nz φ)(h1:ak Φ G0 a ρ S=.ok x S)(H:ak Φ G0 b ρ S=.ok y S)(h:φ [x,y] S=.ok (.bl k) S):au Φ G0 (.call f [a,b]) ρ S=.ok k S:=by simp[au,al,c,h1,H,Res.bind,h,bN]
theorem eH{e:CE}{k:Bool}(h:au Φ G0 e ρ S=.ok k S):au Φ G0 (.bnot e) ρ S=.ok (!k) S:=by simp[au,h,Res.bind]
noncomputable def gI(ns:Li)(i:Nat):Int:=ns.getD i 0
theorem vr{i:Nat}(h:i<ns.length):(ns.map D.int)[i]?=Nz (.int (gI ns i)):=by simp[gI,h]
theorem k9{c:CE}{cs:List CS}(h:au Φ G0 c ρ S=.ok NA S):ah Φ G0 (.ite c [.ret (.lit (.bl NB))] []::cs) ρ S=.ok (.ret (.bl NB)) S:=by refine cv ?_;rw[hL h];rfl
theorem jf{c:CE}{cs:List CS}(h:au Φ G0 c ρ S=.ok NB S):ah Φ G0 (.ite c [.ret (.lit (.bl NB))] []::cs) ρ S=ah Φ G0 cs ρ S:=by refine be ?_;rw[hL h];rfl
theorem vt{a b:CE}{x y:Bool}(h1:au Φ G0 a ρ S=.ok x S)(h:au Φ G0 b ρ S=.ok y S):au Φ G0 (.bor a b) ρ S=.ok (x||y) S:=by
 simp only[au,h1,Res.bind];cases x
 ·simp[h]
 ·simp
theorem h_{o:QI}{a b:CE}{e:D}{k:Bool}(h1:ak Φ G0 a ρ S=.ok d S)(h:ak Φ G0 b ρ S=.ok e S)(H:a7 o d e S=.ok (.bl k) S):au Φ G0 (.cmp o a b) ρ S=.ok k S:=by simp only[au,h1,h,Res.bind,H,Res.noErr,bj]
theorem pN{f:Str}{a:CE}{x:D}{k:Bool}(H:Φ f=Nz φ)(h1:ak Φ G0 a ρ S=.ok x S)(h:φ [x] S=.ok (.bl k) S):au Φ G0 (.call f [a]) ρ S=.ok k S:=by simp[au,al,H,h1,Res.bind,h,bN]
theorem pO{e c:CE}{tg:CT}{rs:α->bC}{it:CE}{ds:List α}{h f:α->D}{p:α->Bool}(hi:aK Φ G0 it ρ S=.ok (.items (ds.map h)) S)(k:fr.map (λj=>j.bind λj=>(ρ[j]?).join)=r0)
  (b:∀d∈ds,aH tg (h d) r0=Nz (rs d)) (l:ds.length<=1000000) (i:∀d∈ds,au Φ G0 c (rs d) S=.ok (p d) S) (g:∀d∈ds,ak Φ G0 e (rs d) S=.ok (f d) S):ak Φ G0 (.comp NB N fr tg it [c] (.emit e)) ρ S=.ok (.lst ((ds.filter p).map f)) S:=by
 refine c6 hi ?_;rw[k]
 exact ew λd a A H=>by
     rw[b d a];simp[ax,i d a,Res.bind];cases p d with
     |true=>simp[aN,Res.bind,g d a,H]
     |false=>dsimp (show ds.length<=16777216 by lia)
section
variable {ps:Lq}
theorem vx{f:Str}{a b:CE}{x y r:D}(c:Φ f=Nz φ)(h1:ak Φ G0 a ρ S=.ok x S)(H:ak Φ G0 b ρ S=.ok y S)(h:φ [x,y] S=.ok r S):ak Φ G0 (.call f [a,b]) ρ S=.ok r S:=by simp only[ak,al,c,h1,H,Res.bind,h]
end
section
variable {ps:Lq}
end
section
variable {ps:Lq}
end
abbrev Ti:=Int×Int
section
variable {ts ps:List Ti}
structure DQ (m:Int)(ts ps:List Ti):Prop where
 W:bn m ts
 P:aW ts ps
end
noncomputable def b4(ts:Lq)(p:Int):Li:=(ts.filter λt=>decide (p=t.1\/p=t.2)).map λt=>t.1+t.2-p
theorem DR(ts:Lq)(p:Int):(b4 ts p).length<=ts.length:=by unfold b4;rw[Zh];exact ZI _ _
theorem L7(W:bn m ts)(p:Int):(b4 ts p).Nodup:=by unfold b4 RY;rw[Z3];refine(W.ris.filter _).imp_of_mem λ{a b} e g c=>?_;obtain⟨f,h⟩:=Zn.mp e;obtain⟨d,H⟩:=Zn.mp g;have h:=of_decide_eq_true h;have H:=of_decide_eq_true H;have:=W.tie b d;unfold K52.aS at c;omega
theorem DS(H:Flat S)(W:bn m ts)(p:Int):i9 [ag m ts,.int p] S=.ok (.lst ((b4 ts p).map D.int)) S:=by
 refine bL rfl ?_ rfl H ((λl=>K52.e5 l) _);have a:bi (ag m ts) (.int 1) S=.ok _ S:=rfl;have b:=W.few;refine cv (K52.gA ?_)
 have h:=pO (Φ:=BH) (N:=["_law_one","_law_other","_law_place"]) (fr:=[none,none,Nz 1]) (tg:=.tup [.var 0,.var 1]) (c:=.cmp .In (.var 2) (.tup [.var 0,.var 1])) (e:=.bin _ (.bin _ (.var 0) (.var 1)) (.var 2)) (ρ:=[Nz _,Nz _]) (bX (h7 (eA (i:=0) rfl) cA a) rfl) rfl (λ_ _=>rfl) (by omega) (λt _=>by refine h_ (eA rfl) rfl ?_;have:=K52.kO S p t;show aQ (fc (.int p) (ar t) S) S=_;rw[this];rfl) λt _=>dg (dg (eA rfl) (eA rfl) (ec _ _)) (eA rfl) (k0 _ _);unfold b4;rw[ZY];exact h
section
variable {ts ps:List Ti}
noncomputable def mt(ps:List Ti)(p:Int):Int:=(ay ps p).getD (-1)
end
section
variable {ps:Lq}
theorem vy{o:Li}{i:Nat}(H:av T d=Nz (o.map D.int))(h:i<o.length):bi d (.int (i:Nat)) T=.ok (.int (gI o i)) T:=by
 have e:fX (o.map D.int) (i:Nat)=Nz (.int (gI o i)):=by unfold fX gL;rw[Zh,if_pos (by omega),if_pos (by omega)];exact vr h
 unfold bi;simp_all
end
section
variable {ts ps:List Ti}
theorem qL{a b:CE}{x y:Bool}(h1:au Φ G0 a ρ S=.ok x S)(h:au Φ G0 b ρ S=.ok y S):au Φ G0 (.band a b) ρ S=.ok (x&&y) S:=by simp[au,Res.bind];lia
theorem EO(xs:List D):bN T (.lst xs)=Nz (!xs.isEmpty):=rfl
end
section
variable {ts ps:List Ti}
theorem vz{f:α->D}{g:α->List D}{c:Nat}{step:D->List D->aa->Res (List D)}{xs:List α}(e:∀x,(g x).length<=c)(a:S[k]?=Nz (xs.map f))(h:∀x∈xs,∀acc,acc.length+c<=bt->step (f x) acc S=.ok (acc++g x) S):∀n i acc,i+n=xs.length->acc.length+c*n<=bt->bA step (bP k) (n+1) i acc S=.ok (acc++(xs.drop i).flatMap g) S:=by
 have H:∀i,bP k S i=Nz ((xs.map f)[i]?):=λi=>by unfold bP;rw[a];rfl
 intro n
 induction n with
 |zero=>unfold bA;simp_all
 |succ n I=>
  intro i acc j b;rw[Ta]at b;have d:(xs.map f)[i]?=Nz (f xs[i]):=by grind
  unfold bA;rw[H,d,Ye _];dsimp;rw[h _ (Z6 _) acc (by omega)];refine(I _ _ (by omega) (by grind)).trans ?_;rw[Pw,ZP]
end
open Pc
theorem k_:∀l:List (Li),bd 0 (l.map C4)=NA
 | []=>rfl
 |x::l=>by show(bF 0 _&&bd 0 _)=NA;rw[k_ l,Rg];exact K52.e5 _
end K52
namespace K52
section
variable {ts ps:List Ti}
end
section
variable {ts ps:List Ti}
theorem DT{r:Li}{i v:Int}(h:0<=i)(h1:i<r.length):iF (.ref S.length) (.int i) (.int v) (S++[r.map D.int])=Nz (S++[(r.set i.toNat v).map D.int]):=by
 unfold iF;simp only[b9];have e:gL (r.map D.int).length i=Nz i.toNat:=by unfold gL;simp_all
 rw[e];simp_all
theorem L8{k:Int}(h:0<=k/\k<=1000):ij (.lst [.int (-1)]) (.int k) S=.ok (.ref S.length) (S++[(NG k.toNat (-1:Int)).map D.int]):=by
 have z:∀n,(NG n [D.int (-1)]).flatten=(NG n (-1)).map D.int:=λn=>by simp_all
 show(if-2^63<=k/\k<2^63/\1*k.toNat<=bt then Res.ok _ _ else .fail)=_
 grind
noncomputable def aT(m:Int)(ps:List Ti):Li:=(NJ m.toNat).map λi=>mt ps (i:Nat)
theorem L9(q rs:List Ti)(p:Int):ay (q++rs) p=(ay q p).or (ay rs p):=by
 induction q with
 |nil=>rfl
 |cons t q i=>
  have e:∀l,ay (t::l) p=if p=t.1 then Nz _ else if p=t.2 then Nz _ else ay l p:=λ_=>rfl;rw[List.cons_append,e,e];split
  ·rfl
  ·split
   ·rfl
   ·exact i
theorem DU{x:Int}:∀{q:List Ti},x∉aP q->ay q x=none
 | [],_=>rfl
 |t::q,h=>by have e:aP (t::q)=t.1::t.2::aP _:=rfl;rw[e]at h;simp at h;show(if x=t.1 then Nz _ else if x=t.2 then Nz _ else ay _ x)=none;rw[if_neg h.1,if_neg h.2.1];exact DU h.2.2
theorem pP{q:List Ti}{a b:Int}(h:ay q a=none)(H:ay q b=none)(p:Int):mt (q++[(a,b)]) p=if p=b then a else if p=a then b else mt q p:=by
 unfold mt;rw[L9];rcases TR (p=b)with e|e
 ·rw[if_pos e,e,H];show(if b=a then Nz b else if b=b then Nz a else none).getD _=a;simp_all
 ·rw[if_neg e];rcases TR (p=a)with E|E
  ·rw[if_pos E,E,h];show(if a=a then Nz b else _).getD _=b;simp_all
  ·have:ay [(a,b)] p=none:=by
    show(if p=a then Nz b else if p=b then Nz a else none)=none;simp_all
   simp_all
theorem DV{a:Nat}{f:Nat->Int}{v:Int}:((NJ n).map f).set a v=(NJ n).map λi=>if i=a then v else f i:=by
 refine TK λi=>?_
 grind
theorem L_{q:List Ti}{a b:Int}(h:ay q a=none)(H:ay q b=none)(c:0<=a)(h1:0<=b):((aT m q).set a.toNat b).set b.toNat a=aT m (q++[(a,b)]):=by
 unfold aT;rw[DV,DV];refine Q_ λi _=>?_;rw[pP h H]
 grind
noncomputable def L':List CS:=[.set (.var 2) (.var 3) (.var 4),.set (.var 2) (.var 4) (.var 3)]
noncomputable def Na:CE:=.binB (.lst NB [.neg (.lit (.int 1))]) (.idx (.var 0) (.lit (.int 0)))
theorem DW(O:DQ m ts ps){w p:Option D}:∀(rs Q:List Ti) (x3 x4:Option D),ps=Q++rs->∃y Y,b0 (λx ρ S=>match aE (.tup [.var 3,.var 4]) x ρ with
   |some ρ'=>ah i8 G0 L' ρ' S
   |none=>.fail) (rs.map ar) [w,p,Nz (.ref S.length),x3,x4] (S++[(aT m Q).map D.int])=.ok (.next [w,p,Nz (.ref S.length),y,Y]) (S++[(aT m ps).map D.int])
 | [],Q,x3,x4,h=>⟨x3,x4,by rw[h,Yf];rfl⟩
 | (a,b)::rs,Q,x3,x4,h=>by
  have l:(a,b)∈ps:=by rw[h];simp
  have g:=O.W.tie _ (O.P.sub _ l);have g:0<=a/\a<b/\b<m:=g;have H:∀q:List Ti,(aT m q).length=m.toNat:=λq=>by unfold aT;simp
  have c:(aP ps).Nodup:=O.P.un
  have d:∀x,x=a\/x=b->ay Q x=none:=λx n=>by
   have:x∉aP Q:=λf=>by
    rw[h]at c;have e:aP (Q++(a,b)::rs)=aP Q++aP ((a,b)::rs):=by simp[aP]
    rw[e]at c;have:=(ZN.mp c).2.2 x f x (by rcases n with rfl|rfl<;>simp[aP]);exact this rfl
   exact DU this
  have o:=DT (S:=S) (r:=aT m Q) (i:=a) (v:=b) (by omega) (by rw[H];omega);have s:=DT (S:=S) (r:=(aT m Q).set a.toNat b) (i:=b) (v:=a) (by omega) (by rw[RN,H];omega);rw[L_ (d a (.inl rfl)) (d b (.inr rfl)) (by omega) (by omega)]at s;obtain⟨y,Y,I⟩:=DW O (w:=w) (p:=p) rs (Q++[(a,b)]) (Nz (.int a)) (Nz (.int b)) (by rw[h];simp);refine⟨y,Y,?_⟩;rw[ZV];unfold b0;have E:aE (.tup [.var 3,.var 4]) (ar (a,b)) [w,p,Nz (.ref S.length),x3,x4]=Nz [w,p,Nz (.ref S.length),Nz (.int a),Nz (.int b)]:=rfl
  have k:ah i8 G0 L' [w,p,Nz (.ref S.length),Nz (.int a),Nz (.int b)] (S++[(aT m Q).map D.int])=.ok (.next [w,p,Nz (.ref S.length),Nz (.int a),Nz (.int b)]) (S++[(aT m (Q++[(a,b)])).map D.int]):=by
   unfold L';refine(be (ρ':=[w,p,Nz (.ref S.length),Nz (.int a),Nz (.int b)]) (S':=S++[((aT m Q).set a.toNat b).map D.int]) ?_).trans ?_
   ·simp only[aC,ak,Res.bind,Zl,Zj,o]
   ·refine(be (ρ':=[w,p,Nz (.ref S.length),Nz (.int a),Nz (.int b)]) (S':=S++[(aT m (Q++[(a,b)])).map D.int]) ?_).trans rfl;simp only[aC,ak,Res.bind,Zl,Zj,s]
  rw[E];dsimp only;rw[k];exact I
theorem Ma(O:DQ m ts ps)(h:Flat S):kF [ag m ts,.tup (ae ps)] S=.ok (.ref S.length) (S++[(aT m ps).map D.int]):=by
 have w:=O.W.lo;have W:=O.W.hi;refine K52.po rfl ?_ h (K52.pz.mpr λx a=>by obtain⟨n,_,rfl⟩:=Zq.mp a;rfl)
 have b:ak i8 G0 Na [Nz (ag m ts),Nz (.tup (ae ps)),none,none,none] S=.ok (.ref S.length) (S++[(aT m ([])).map D.int]):=by
  have e:(aT m ([])).map D.int=(NG m.toNat (-1)).map D.int:=by unfold aT;rw[show(λi:Nat=>mt ([]) (i))=λ_=> -1 from rfl,List.map_const',Rx]
  rw[e];have hw:ak i8 G0 (.idx (.var 0) (.lit (.int 0))) [Nz (ag m ts),Nz (.tup (ae ps)),none,none,none] S=.ok _ S:=h7 (eA rfl) cA rfl;have H:ak i8 G0 (.lst NB [.neg (.lit (.int 1))]) [Nz (ag m ts),Nz (.tup (ae ps)),none,none,none] S=.ok _ S:=rfl;have:=L8 (S:=S) (k:=m) (by omega);unfold Na;rw[ak,H];simp[Res.bind,hw,this,Res.noErr]
 obtain⟨y,Y,E⟩:=DW O _ [] _ _ rfl;refine(aI b).trans ?_;refine(be (ρ':=[Nz (ag m ts),Nz (.tup (ae ps)),Nz (.ref S.length),y,Y]) (S':=S++[(aT m ps).map D.int]) ?_).trans ?_
 ·exact(e7 (bX (eA rfl) rfl)).trans E
 rfl
end
section
variable {ts ps:List Ti}
theorem ee{e t:CE}{tg:CT}{rs:α->bC}{it:CE}{ds:List α}{h:α->D}{f:α->D}{p:α->Bool}(hi:aK Φ G0 it ρ S=.ok (.items (ds.map h)) S)(r:fr.map (λj=>j.bind λj=>(ρ[j]?).join)=r0)
  (n:∀d∈ds,aH tg (h d) r0=Nz (rs d)) (u:ds.length<=100000) (s:∀d∈ds,au Φ G0 t (rs d) S=.ok (p d) S) (o:∀d∈ds,p d=NA->ak Φ G0 e (rs d) S=.ok (f d) S):ak Φ G0 (.comp NB N fr tg it [t] (.emit e)) ρ S=.ok (.lst ((ds.filter p).map f)) S:=by
 refine c6 hi ?_;rw[r]
 have:=kP (p:=p) (e:=f) (S:=S) (step:=λy a m=>match aH _ y _ with
    |some b=>(ax Φ G0 [t] b m).bind λk l=>if k=NA then aN Φ G0 (.emit e) b a l else .ok a l
    |none=>.fail) _ [] (λd i a c=>by
     have H:=c;rw[n d i];have q:=s d i;cases g:p d with
     |false=>rw[g]at q;simp[ax,q,Res.bind,if_false]
     |true=>rw[g]at q;simp[ax,q,Res.bind,aN,o d i g,H]) (show 0+ds.length<=16777216 by omega)
 exact this
theorem DX(h:T[k]?=Nz ((aT m ps).map D.int)){p:Int}(H:0<=p)(h1:p<m):bi (.ref k) (.int p) T=.ok (.int (mt ps p)) T:=by
 have b:p=(p.toNat):=by omega
 have a:gI (aT m ps) p.toNat=mt ps p:=by
  unfold gI aT
  grind
 have:=vy (d:=.ref k) (i:=p.toNat) h (by unfold aT;simp;omega);lia
end
theorem Mb:i5=K52.i5:=rfl
theorem Mc:fw=K52.fw:=rfl
section
variable {ts p:List Ti}{G:List (List Ti)}
noncomputable def gK(m:Int)(P:List (List Ti))(q:Int):Bool:=P.any λp=>decide (q∈de m p)
noncomputable def aB(m:Int)(P:List (List Ti)):Li:=(ba 0 m.toNat).filter (gK m P)
noncomputable def dh(ts:List Ti)(M O:Li):Li:=O.filter λq=>M.any λo=>aV ts q o
noncomputable def eQ(B O:Li):Li:=O.filter λq=> !B.contains q
theorem ic{f:Int->Bool}:((ba 0 m.toNat).filter f).length<=m.toNat:=by refine Zw (ZI _ _) ?_;rw[K52.ez];simp_all
theorem DY{q:Int}(h:q∈de m p):0<=q/\q<m.toNat:=by have:=gz (Zn.mp h).1;omega
theorem vA{a b:CE}{q:Int}(H:ak Φ G0 a ρ S=.ok (.int q) S)(c:ak Φ G0 b ρ S=.ok d S)(e:av S d=Nz (l.map D.int)):ak Φ G0 (.cmp .In a b) ρ S=.ok (.bl (decide (q∈l))) S:=by have h:=gG e q;simp[ak,H,c,Res.bind,Res.noErr,a7,h,aQ]
theorem pQ{a b:CE}{q:Int}(H:ak Φ G0 a ρ S=.ok (.int q) S)(c:ak Φ G0 b ρ S=.ok d S)(f:av S d=Nz (l.map D.int)):au Φ G0 (.cmp .NotIn a b) ρ S=.ok (!l.contains q) S:=by
 have h:=gG f q;have e:decide (q∈l)=l.contains q:=by simp_all
 simp[au,H,c,Res.bind,Res.noErr,a7,h,aQ,bj]
theorem DZ(h1:1<=m)(a:m<=8)(h:ρ[0]?=Nz (Nz (ag m ts))):aK Φ G0 (.range [.idx (.var 0) (.lit (.int 0))]) ρ S=.ok (.items ((ba 0 m.toNat).map D.int)) S:=by have H:bi (ag m ts) (.int 0) S=.ok _ S:=rfl;simp[aK,al,ak,Res.bind,Res.noErr,h,H,K52.jc];omega
theorem lc{v:Nat}(h1:1<=m)(H:m<=8)(h:ρ[0]?=Nz (Nz (ag m ts)))(b:ρ[v]?=Nz (Nz d))(a:av S d=Nz (l.map D.int)):ak Φ G0 (.comp NB N [none,Nz v] (.var 0) (.range [.idx (.var 0) (.lit (.int 0))]) [.cmp .NotIn (.var 0) (.var 1)] (.emit (.var 0))) ρ S=.ok (.lst ((aq l m.toNat).map D.int)) S:=
 ee (r0:=[none,Nz d]) (DZ h1 H h) (by simp_all) (λ_ _=>rfl) (by rw[K52.ez];omega) (λq _=>pQ (ai rfl) (ai rfl) a) λq _ _=>ai rfl
theorem lf{v u:Nat}{O:Li}(a:O.length<=1000)(H:ρ[u]?=Nz (Nz (.lst (O.map D.int))))(b:ρ[v]?=Nz (Nz d))(h:av S d=Nz (l.map D.int)):ak Φ G0 (.comp NB N [none,Nz v] (.var 0) (.seq (.var u)) [.cmp .NotIn (.var 0) (.var 1)] (.emit (.var 0))) ρ S=.ok (.lst ((eQ l O).map D.int)) S:=
 ee (r0:=[none,Nz d]) (bX (ai H) rfl) (by simp_all) (λ_ _=>rfl) (by omega) (λq _=>pQ (ai rfl) (ai rfl) h) λq _ _=>ai rfl
theorem vB{L:List α}{g:α->Bool}{e:CE}(h:ak Φ G0 e ρ S=.ok (.lst (L.map λo=>D.bl (g o))) S):au Φ G0 (.blt .any [e]) ρ S=.ok (L.any g) S:=
 qK (e_ h K52.u6)
theorem Md(W:bn m ts)(M:fz m ts G k){p:List Ti}(h:p∈aA G k):aW ts p/\p.length<=8:=by have H:=K52.DO M W (Zn.mp h).1;exact⟨K52.Di W H,K52.px W H⟩
theorem D0{a b c:CE}{x y z:D}(h1:ak Φ G0 a ρ S=.ok x S)(h:ak Φ G0 b ρ S=.ok y S)(H:ak Φ G0 c ρ S=.ok z S):ak Φ G0 (.tup [a,b,c]) ρ S=.ok (.tup [x,y,z]) S:=by simp[ak,al,h1,h,H,Res.bind]
theorem D3(a b c:Li):bF 0 (.tup [af a,af b,af c])=NA:=by show(bF 0 _&&(bF 0 _&&(bF 0 _&&NA)))=NA;rw[pM,pM,pM];rfl
theorem Me:BJ=[.asg 1 Kd,.asg 2 Ke,.asg 3 (.comp NB ["_law_place","_law_missed"] [none,Nz 2] (.var 0) (.range [.idx (.var 0) (.lit (.int 0))]) [.cmp .NotIn (.var 0) (.var 1)] (.emit (.var 0))),.asg 4 Kf,.ret (.tup [.blt .tuple [.var 2],.blt .tuple [.var 4],.blt .tuple [.comp NB ["_law_place","_law_by_these"] [none,Nz 4] (.var 0) (.seq (.var 3)) [.cmp .NotIn (.var 0) (.var 1)] (.emit (.var 0))]])]:=rfl
noncomputable def fI(ts:List Ti)(M O:Li):Li:=O.filter λq=>(b4 ts q).any λo=>decide (o∈M)
theorem Mf(H:Flat S)(W:bn m ts)(M:fz m ts G k):kG [ag m ts] S=.ok (.tup [af (aB m (aA G k)),af (fI ts (aB m (aA G k)) (aq (aB m (aA G k)) m.toNat)),af (eQ (fI ts (aB m (aA G k)) (aq (aB m (aA G k)) m.toNat)) (aq (aB m (aA G k)) m.toNat))]) S:=by
 have w:=W.lo;have b:=W.hi;have c:(aA G k).length<=40320:=Zw (ZI _ _) M.few;have e:=K52.DD H W M;rw[<-Mc]at e;refine bL rfl ?_ rfl H ?_
 ·rw[Me];generalize j:aA G k=P at*;have a:∀p∈P,p.length<=1000:=λp a=>by rw[<-j]at a;have:=(Md W M a).2;omega
  have s:ak gx G0 Kd [Nz (ag m ts),none,none,none,none] S=.ok (.lst (P.map λp=>af (de m p))) S:=
   e9 (h:=pD) (f:=λp=>af (de m p)) (ds:=P) (r0:=[none,Nz (ag m ts)]) (bX (hO Kh (ai rfl) e) rfl) rfl (λ_ _=>rfl) (by omega) λp n=>dC Kg (ai rfl) (ai rfl) (L6 H w b (a p n))
  refine(aI s).trans ?_;generalize g:aB m P=N;have t:ak gx G0 Ke [Nz (ag m ts),Nz (.lst (P.map λp=>af (de m p))),none,none,none] S=.ok (.lst (N.map D.int)) S:=by rw[<-g];refine ee (h:=D.int) (f:=D.int) (p:=gK m P) (DZ w b rfl) rfl (λ_ _=>rfl) (by rw[K52.ez];omega) (λq _=>vB ?_) λq _ _=>ai rfl;exact e9 (h:=λp=>af (de m p)) (ds:=P) (r0:=[none,Nz (.int q)]) (bX (ai rfl) rfl) rfl (λ_ _=>rfl) (by omega) λp _=>vA (ai rfl) (ai rfl) rfl
  refine(aI t).trans ?_;refine(aI (lc (l:=N) w b rfl rfl rfl)).trans ?_;generalize i:aq N m.toNat=O;have L:O.length<=8:=by rw[<-i];have:=ic (m:=m) (f:=λp=> !N.contains p);unfold aq;omega
  have x:ak gx G0 Kf [Nz (ag m ts),Nz (.lst (P.map λp=>af (de m p))),Nz (.lst (N.map D.int)),Nz (.lst (O.map D.int)),none] S=.ok (.lst ((fI ts N O).map D.int)) S:=by refine ee (h:=D.int) (f:=D.int) (bX (ai rfl) rfl) rfl (λ_ _=>rfl) (by omega) (λq _=>vB ?_) λq _ _=>ai rfl;have E:=K52.DS H W q;exact e9 (h:=D.int) (f:=λo=>D.bl (decide (o∈N))) (ds:=b4 ts q) (r0:=[none,Nz (.lst (N.map D.int))]) (bX (dC Ki (ai rfl) (ai rfl) E) rfl) rfl (λ_ _=>rfl) (by have:=K52.DR ts q;have:=W.few;omega) λo _=>vA (ai rfl) (ai rfl) rfl
  refine(aI x).trans ?_;have y:=lf (S:=S) (Φ:=gx) (N:=["_law_place","_law_by_these"]) (l:=fI ts N O) (O:=O) (v:=4) (u:=3) (ρ:=[Nz (ag m ts),Nz (.lst (P.map λp=>af (de m p))),Nz (.lst (N.map D.int)),Nz (.lst (O.map D.int)),Nz (.lst ((fI ts N O).map D.int))]) (by omega) rfl rfl rfl;refine cv (gA ?_);exact D0 (dz (ai rfl) rfl) (dz (ai rfl) rfl) (dz y rfl)
 ·exact D3 _ _ _
end
section
variable {ts p:List Ti}{G:List (List Ti)}
theorem Mh:kz=[.asg 1 kx,.asg 2 (.blt .tuple [.sset (.var 1)]),.asg 3 (.comp NB ["place","missed"] [none,Nz 2] (.var 0) (.range [.idx (.var 0) (.lit (.int 0))]) [.cmp .NotIn (.var 0) (.var 1)] (.emit (.var 0))),.asg 4 (.blt .tuple [ky]),.ret (.tup [.var 2,.var 4,.blt .tuple [.comp NB ["place","beside"] [none,Nz 4] (.var 0) (.seq (.var 3)) [.cmp .NotIn (.var 0) (.var 1)] (.emit (.var 0))]])]:=rfl
noncomputable def dq(m:Int)(P:List (List Ti)):Li:=P.flatMap (de m)
theorem D4(h:m<=8)(p:List Ti):(de m p).length<=8:=by refine Zw (ZI _ _) ?_;rw[K52.ez];omega
theorem vC{w:D}{L:Li}{a:List D}(c:a.length+1*L.length<=16777216):bz (λx a S2=>match aH (.var 1) x [Nz d,none,Nz w]with
    |some ρ'=>(ax dd G0 [] ρ' S2).bind λk S3=>if k=NA then aN dd G0 (.emit (.var 1)) ρ' a S3 else .ok a S3
    |none=>.fail) (L.map D.int) a T=.ok (a++L.flatMap λq=>[D.int q]) T:=by
 refine o7 (λ_=>Zg 1) L _ (λq e a H=>?_) c;have b:a.length+1<=16777216:=H;have h:aH (.var 1) (.int q) [Nz d,none,Nz w]=Nz _:=rfl;rw[h];have:a.length<16777216:=by omega
 simp[ax,aN,ak,Res.bind,this]
theorem vD(d:Flat S)(W:bn m ts)(M:fz m ts G k):ak dd G0 kx [Nz (ag m ts),none,none,none,none] S=.ok (.lst ((dq m (aA G k)).map D.int)) (S++[(aA G k).map pD]):=by
 have e:=K52.LR d W M;rw[<-Mb]at e;have f:(aA G k).length<=40320:=Zw (ZI _ _) M.few;have h:=d.snoc (hY (aA G k));refine c6 (its:=.live (((aA G k).map pD).length+1) (bP S.length)) (S1:=S++[(aA G k).map pD]) (by simp only[aK,ak,al,Zj,Res.bind,JC,e,cB,b9,PH]) ?_
 have:=K52.vz (xs:=aA G k) (g:=λp=>(de m p).map D.int) (k:=S.length) (step:=λx a i=>match aH (.var 0) x _ with
    |some b=>(ax dd G0 [] b i).bind λk c=>if k=NA then aN dd G0 (.inner (.var 1) (.seq (.call "loose_of" [.var 2,.var 0])) [] (.emit (.var 1))) b a c else .ok a c
    |none=>.fail) (λp=>by rw[Zh];exact D4 W.hi p) b9 (λp s a n=>by have o:a.length+8<=16777216:=n;have j:=K52.K' h W.lo W.hi ts p;have r:=D4 W.hi p;have H:aH (.var 0) (pD p) [none,none,Nz _]=Nz [Nz (pD p),none,Nz (ag m ts)]:=rfl;rw[H];generalize S++[(aA G k).map pD]=T at*;simp only[ax,Res.bind,if_true];rw[aN];have l:aK dd G0 (.seq (.call "loose_of" [.var 2,.var 0])) [Nz (pD p),none,Nz _] T=.ok _ T:=bX (dC JD (ai rfl) (ai rfl) j) rfl;rw[l];generalize de m p=L at*;refine Eq.trans (vC (show a.length+1*L.length<=16777216 by omega)) ?_;rw[<-Tb]) (aA G k).length 0 [] (by simp) (by show 0+8*(aA G k).length<=16777216;omega)
 rw[N8,Px]at this;rw[Zh];refine Eq.trans this ?_;unfold dq;rw[QG]
theorem vE:∀l:Li,(l.map D.int).filterMap cg=l
 | []=>rfl
 |x::l=>by show x::(l.map _).filterMap _=_;rw[vE l]
theorem Mi(g:m<=8){P:List (List Ti)}:gc (.lst ((dq m P).map D.int)) T=.ok (.lst ((aB m P).map D.int)) T:=by
 have b:∀q,q∈dq m P↔∃p∈P,q∈de m p:=λq=>Pa;have e:gc (.lst _) T=if((dq m P).map D.int).all jL=NA then .ok _ T else _:=rfl;rw[e,if_pos,vE]
 ·have:((NJ 8).filter λk:Nat=>(dq m P).contains (k:Int)).map (λk:Nat=>(k:Int))=aB m P:=by
   refine Pc.kT ?_ (Pc.gD.sublist ZE) λq=>?_
   ·rw[Z3];exact(List.pairwise_lt_range.sublist ZE).imp λh=>by omega
   ·unfold aB gK;rw[Zq,Zn,Pc.hV,OP];constructor
    ·rintro⟨n,c,rfl⟩;obtain⟨p,a,H⟩:=(b _).mp (PK.mp (Zn.mp c).2);have:=DY H;exact⟨by omega,p,a,ZO H⟩
    ·rintro⟨f,p,a,H⟩;refine⟨q.toNat,Zn.mpr ⟨ZW.mpr (by omega),?_⟩,by omega⟩
     grind
  rw[<-this,ZY];rfl
 ·refine ZF.mpr λx d=>?_;obtain⟨q,H,rfl⟩:=Zq.mp d;obtain⟨p,a,H⟩:=(b q).mp H;have:=DY H;simp only[jL,ZL,Yh];omega
theorem D5(H:Flat S)(W:bn m ts)(M:fz m ts G k):g8 [ag m ts] S=.ok (.tup [af (aB m (aA G k)),af (dh ts (aB m (aA G k)) (aq (aB m (aA G k)) m.toNat)),af (eQ (dh ts (aB m (aA G k)) (aq (aB m (aA G k)) m.toNat)) (aq (aB m (aA G k)) m.toNat))]) S:=by
 have x:=W.lo;have w:=W.hi;have s:=vD H W M;have a:Flat (S++[(aA G k).map pD]):=H.snoc (hY (aA G k))
 have g:ah dd G0 kz [Nz (ag m ts),none,none,none,none] S=.ok (.ret (.tup [af (aB m (aA G k)),af (dh ts (aB m (aA G k)) (aq (aB m (aA G k)) m.toNat)),af (eQ (dh ts (aB m (aA G k)) (aq (aB m (aA G k)) m.toNat)) (aq (aB m (aA G k)) m.toNat))])) (S++[(aA G k).map pD]):=by
  rw[Mh];refine(aI s).trans ?_;generalize S++[(aA G k).map pD]=T at*;generalize aA G k=P at*;have j:ak dd G0 (.blt .tuple [.sset (.var 1)]) [Nz (ag m ts),Nz (.lst ((dq m P).map D.int)),none,none,none] T=.ok (af (aB m P)) T:=by refine dz (d:=.lst ((aB m P).map D.int)) (S1:=T) ?_ rfl;rw[ak,ai (d:=.lst ((dq m P).map D.int)) rfl];simp only[Res.bind,Mi w,Res.noErr]
  refine(aI j).trans ?_;generalize c:aB m P=N;have L:N.length<=8:=by rw[<-c];have:=ic (m:=m) (f:=gK m P);unfold aB;omega
  refine(aI (lc (l:=N) x w rfl rfl rfl)).trans ?_;generalize e:aq N m.toNat=O;have B:O.length<=8:=by rw[<-e];have:=ic (m:=m) (f:=λp=> !N.contains p);unfold aq;omega
  have n:ak dd G0 ky [Nz (ag m ts),Nz (.lst ((dq m P).map D.int)),Nz (af N),Nz (.lst (O.map D.int)),none] T=.ok (.lst ((dh ts N O).map D.int)) T:=by refine ee (h:=D.int) (f:=D.int) (p:=λq=>N.any λo=>aV ts q o) (r0:=[none,Nz (af N),Nz (ag m ts)]) (rs:=λq=>[Nz (.int q),Nz (af N),Nz (ag m ts)]) (bX (ai rfl) rfl) rfl (λ_ _=>rfl) (by omega) (λq _=>vB ?_) λq _ _=>ai rfl;refine e9 (h:=D.int) (f:=λo=>D.bl (aV ts q o)) (ds:=N) (r0:=[none,Nz (ag m ts),Nz (.int q)]) (rs:=λo=>[Nz (.int o),Nz (ag m ts),Nz (.int q)]) (bX (ai rfl) rfl) rfl (λ_ _=>rfl) (by omega) λo _=>?_;have b:g6 [ag m ts,.int q,.int o] T=.ok (.bl (aV ts q o)) T:=K52.CO a m ts q o;simp only[ak,al,Res.bind,Zl,Zj,JE,b]
  refine(aI (dz n (r:=af (dh ts N O)) (S2:=T) rfl)).trans ?_;have t:=lf (S:=T) (Φ:=dd) (N:=["place","beside"]) (l:=dh ts N O) (O:=O) (v:=4) (u:=3) (ρ:=[Nz (ag m ts),Nz (.lst ((dq m P).map D.int)),Nz (af N),Nz (.lst (O.map D.int)),Nz (af (dh ts N O))]) (by omega) rfl rfl rfl;exact cv (gA (D0 (ai rfl) (ai rfl) (dz t rfl)))
 show az dd G0 kz uz.length 1 [ag m ts] S=_;unfold az;rw[if_pos (show [ag m ts].length=1 from rfl),show ah dd G0 kz (([ag m ts]:List D).map Nz++NG (uz.length-1) none) S=_ from g];show cO S.length _ (S++[(aA G k).map pD])=_;rw[K52.hJ (by rw[NY rfl];exact H) (D3 _ _ _),NY rfl]
theorem Mj(W:bn m ts){N O:Li}(h:∀q∈O,0<=q/\q<m)(b:∀q∈N,0<=q/\q<m):fI ts N O=dh ts N O:=by
 refine TV λq H=>?_;have a:=K52.CY W (h q H)
 have c:∀o,o∈b4 _ q↔0<=o/\o<m/\aV ts q o=NA:=λo=>by
  have e:o∈b4 ts q↔o∈fG m ts q:=by rw[a,(K52.gF _).mem_iff];rfl
  rw[e];unfold fG;rw[Zn,Pc.hV]
  grind
 grind
end
open Pc
section
variable {ts:List Ti}
noncomputable def iA(ts:List Ti)(so l:Li)(a:Int):Li:=l++(b4 ts a).filter λq=>decide (q∈so)&& !l.contains q
noncomputable def D6(ts:List Ti)(so l:Li):Li:=l.foldl (iA ts so) l
noncomputable def b5(ts:List Ti)(so:Li):Nat->Li->Li
 |0,l=>l
 |n+1,l=>b5 ts so n (D6 ts so l)
theorem vF(W:bn m ts){M:Li}(b:aq so m.toNat=M){a q:Int}(h:a∈M):(q∈b4 ts a/\q∈M)↔cb ts so a q:=by
 rw[<-b]at h⊢;have c:=K52.df.mp h;have d:=K52.CY W (p:=a) (by omega);rw[K52.C1 W a q h]
 have e:q∈b4 ts a↔q∈fG m ts a:=by rw[d,(gF _).mem_iff];rfl
 rw[e];unfold fG;rw[Zn,hV];constructor
 ·simp_all
 ·rintro⟨H,f⟩;have:=(K52.df.mp H).1;lia
structure ie (ts:List Ti)(so M:Li)(p:Int)(l:Li):Prop where
 nd:l.Nodup
 st:p∈l
 ok:∀q∈l,q∈M/\b8 (cb ts so) p q
theorem D7(W:bn m ts){M:Li}{p a:Int}(d:aq so m.toNat=M)(h:ie ts so M p l)(f:a∈l):ie ts so M p (iA ts M l a):=by
 have g:=K52.L7 W a;refine⟨?_,ZH _ h.st,λq i=>?_⟩
 ·refine ZN.mpr ⟨h.nd,g.sublist ZE,λx j y k e=>?_⟩;simp_all
 ·rcases Zp.mp i with H|H
  ·exact h.ok q H
  ·obtain⟨c,b⟩:=Zn.mp H;simp only[ZL,Yh]at b;have:=h.ok a f;exact⟨b.1,this.2.step ((vF W d this.1).mp ⟨c,b.1⟩)⟩
theorem vG(W:bn m ts){M:Li}{p:Int}(e:aq so m.toNat=M):∀(xs l:Li),ie ts so M p l->(∀a∈xs,a∈l)->ie ts so M p (xs.foldl (iA ts M) l)/\(∀q∈l,q∈xs.foldl (iA ts M) l)/\l.length<=(xs.foldl (iA ts M) l).length/\∀a∈xs,∀q,cb ts so a q->q∈xs.foldl (iA ts M) l
 | [],l,h,_=>⟨h,λ_ h=>h,Zg _,λa c=>by cases c⟩
 |a::xs,l,h,g=>by
  have c:=g a Zd;have j:=D7 W e h c;obtain⟨I,i,k,n⟩:=vG W e _ _ j λb H=>ZH _ (g b (Zb _ H));refine⟨I,λq d=>i q (ZH _ d),Zw (by unfold iA;simp_all) k,λb H q d=>?_⟩;rcases Zi.mp H with rfl|H
  ·refine i q ?_;obtain⟨N,o⟩:=(vF W e (h.ok b c).1).mpr d;by_cases f:q∈l
   ·exact ZH _ f
   ·refine Zt _ (Zn.mpr ⟨N,?_⟩);simp[o,f]
  ·exact n b H q d
def D8(ts:List Ti)(so l:Li):Prop:=∀a∈l,∀q,cb ts so a q->q∈l
theorem pR(W:bn m ts){M:Li}{p a:Int}(b:aq so m.toNat=M)(h:ie ts so M p l)(c:D8 ts so l)(H:a∈l):iA ts M l a=l:=by unfold iA;rw[List.filter_eq_nil_iff.mpr,Yf];intro q d z;simp at z;exact z.2 (c a H q ((vF W b (h.ok a H).1).mp ⟨d,z.1⟩))
theorem D_(W:bn m ts){M l:Li}{p:Int}(H:aq so m.toNat=M)(h:ie ts so M p l)(c:D8 ts so l):∀xs:Li,(∀a∈xs,a∈l)->xs.foldl (iA ts M) l=l
 | [],_=>rfl
 |a::xs,d=>by rw[OJ,pR W H h c (d a Zd)];exact D_ W H h c _ λb e=>d b (Zb _ e)
theorem Ea(W:bn m ts){M l:Li}{p:Int}(H:aq so m.toNat=M)(h:ie ts so M p l)(a:D8 ts so l):∀n:Nat,b5 ts M n l=l
 |0=>rfl
 |n+1=>by have e:D6 _ M l=l:=D_ W H h a l λ_ h=>h;show b5 _ M n _=l;rw[e];exact Ea W H h a n
theorem pS(W:bn m ts){M:Li}{p:Int}(H:aq so m.toNat=M):∀(n:Nat) (l:Li),ie ts so M p l->ie ts so M p (b5 ts M n l)/\(D8 ts so (b5 ts M n l)\/l.length+n<=(b5 ts M n l).length)
 |0,l,h=>⟨h,.inr (Zg _)⟩
 |n+1,l,h=>by
  obtain⟨I,k,r,o⟩:=vG W H l l h λ_ h=>h;obtain⟨J,j⟩:=pS W H n (D6 _ M l) I;refine⟨J,?_⟩;by_cases c:D8 ts so l
  ·rw[Ea W H h c];exact .inl c
  ·rcases j with j|j
   ·exact .inl j
   ·refine .inr ?_;obtain⟨a,b⟩:=QH.mp c;obtain⟨b,g⟩:=Q6.mp b;obtain⟨q,d⟩:=QH.mp g;obtain⟨d,i⟩:=Q6.mp d
    have f:(q::l).length<=(D6 _ M l).length:=(Ya.mpr ⟨i,h.nd⟩).length_le_of_subset λx e=>by
     rcases Zi.mp e with rfl|e
     ·exact o a b x d
     ·exact k x e
    show l.length+n+1<=(b5 _ M n _).length;rw[ZJ]at f;omega
theorem Mk(W:bn m ts){M L:Li}{p:Int}(f:aq so m.toNat=M)(e:∀q∈L,q∈M)(i:p∈L)(g:∀q,b8 (cb ts so) p q->q∈L):(b5 ts M L.length [p]).Nodup/\∀q,q∈b5 ts M L.length [p]↔b8 (cb ts so) p q:=by
 have b:ie ts so M p _:=⟨by simp,ZB.mpr rfl,λq a=>by rw[ZB.mp a];exact⟨e p i,.refl _⟩⟩;obtain⟨H,c⟩:=pS W f _ _ b;refine⟨H.nd,λq=>⟨λh=>(H.ok q h).2,λh=>?_⟩⟩;have d:=by refine c.resolve_right λz=>?_;have:=H.nd.length_le_of_subset λq a=>g q (H.ok q a).2;rw[QS]at z;omega
 induction h with
 |refl=>exact H.st
 |step _ r I=>exact d _ I _ r
noncomputable def qM(ts:List Ti)(M:Li):Nat->Li->List (Li)
 |0,_=>[]
 |_+1,[]=>[]
 |n+1,p::L=>a9 (b5 ts M (p::L).length [p])::qM ts M n ((p::L).filter λq=> !(b5 ts M (p::L).length [p]).contains q)
theorem lg(W:bn m ts){M:Li}(f:aq so m.toNat=M):∀(n:Nat) (L:Li),L.length<n->L.Pairwise (· < ·)->(∀q∈L,q∈M)->(∀a∈L,∀q,b8 (cb ts so) a q->q∈L)->qM ts M n L=(L.filter (own so ts m.toNat)).map (chain so ts m.toNat)
 |0,_,h,_,_,_=>by omega
 |_+1,[],_,_,_,_=>rfl
 |n+1,p::L,G,x,g,v=>by
  have o:=g p Zd;rw[<-f]at o;have H:=K52.df.mp o;obtain⟨r,B⟩:=Mk W f g Zd (v p Zd);obtain⟨R,y⟩:=ZM.mp x;have i:=K52.je W;obtain⟨D,F⟩:=hX (so:=so) i H.1.1 H.1.2
  have l:nm (fin so ts m.toNat) p=p:=by
   have s:=F p (.refl _)
   grind
  have e:=CN i H.1.1 H.1.2 H.2 l (ph r) (λq=>by rw[(gF _).mem_iff];exact B q);have j:p∈b5 ts M (p::L).length [p]:=(B p).mpr (.refl _);generalize t:b5 ts M (p::L).length [p]=X at*
  have w:(p::L).filter (λq=> !X.contains q)=L.filter λq=> !X.contains q:=by rw[Sm];simp[j]
  have I:=lg W f n (L.filter λq=> !X.contains q) (by grind) (y.sublist ZE) (λq b=>g q (Zb _ (Zn.mp b).1)) (λa u q b=>by
   obtain⟨C,A⟩:=Zn.mp u;simp only[O3,List.contains_eq_mem,decide_eq_false_iff_not]at A;have J:q∉X:=λz=>A ((B a).mpr (((B q).mp z).trans (b.symm cb.symm)))
   grind)
  show a9 (b5 ts M (p::L).length [p])::qM ts M n ((p::L).filter λq=> !(b5 ts M (p::L).length [p]).contains q)=_;rw[t,w,I,e,List.filter_cons_of_pos (by simp[own,l]),ZV];congr 2;rw[List.filter_filter];refine TV λq b=>?_;cases k:own so ts m.toNat q with
  |false=>rfl
  |true=>
   have:q∉X:=λz=>by
    have c:=g q (Zb _ b);rw[<-f]at c;have d:=(K52.df.mp c).1;have s:=(pf (so:=so) i H.1.1 H.1.2 d.1 d.2).mpr ((B q).mp z);have E:nm (fin so ts m.toNat) q=q:=by simpa[own]using k
    have:=R q b;omega
   simp[this]
end
end K52
namespace K52
section
variable {ts:List Ti}{G:List (List Ti)}
end
section
variable {ts:List Ti}{G:List (List Ti)}{x1:Option D}
end
section
variable {ts p:List Ti}
end
open Pc
section
variable {R:aa}{F:List (Li)}{ts:List Ti}{M:Li}{p:Int}{b:Nat}
noncomputable def Nw:CE:=.band (.cmp .In (.var 0) (.var 1)) (.cmp .NotIn (.var 0) (.var 2))
noncomputable def Nb:CE:=.comp NB ["_law_other","_law_some","_law_line"] [none,Nz 1,Nz 4] (.var 0) (.seq (.call "_law_near" [.var 0,.var 6])) [Nw] (.emit (.var 0))
noncomputable def Ml:List CS:=[.expr (.meth .extend (.var 4) [Nb])]
noncomputable def Mm:List CS:=[.for_ (.var 6) (.seq (.blt (.list NB) [.var 4])) Ml]
noncomputable def Ny:CE:=.comp NB ["_law_place","_law_line"] [none,Nz 4] (.var 0) (.seq (.var 2)) [.cmp .NotIn (.var 0) (.var 1)] (.emit (.var 0))
noncomputable def Mn:List CS:=[.asg 4 (.lst NA [.idx (.var 2) (.lit (.int 0))]),.for_ (.var 5) (.seq (.var 2)) Mm,.expr (.meth .append (.var 3) [.blt .tuple [.blt (.sorted NB (.int)) [.var 4]]]),.asg 2 Ny]
noncomputable def Mo:CE:=.cmp .NotEq (.var 2) (.lst NB [])
theorem Eb(W:bn m ts)(a:aq so m.toNat=M)(h:ie ts so M p l):l.length<=8:=by
 have c:=h.nd.length_le_of_subset λq b=>(h.ok q b).1;have H:=ic (m:=m) (f:=λp=> !so.contains p);have:M.length<=m.toNat:=by rw[<-a];exact H
 have:=W.hi;omega
theorem Ec(l:Li):bd 0 (l.map D.int)=NA:=K52.e5 l
theorem Ed(k:Flat T)(W:bn m ts)(r:l.length<=8)(a:Int):ah cD G0 Ml [Nz (ag m ts),Nz (af M),x2,x3,Nz (.ref T.length),x5,Nz (.int a)] (T++[l.map D.int])=.ok (.next [Nz (ag m ts),Nz (af M),x2,x3,Nz (.ref T.length),x5,Nz (.int a)]) (T++[(iA ts M l a).map D.int]):=by
 have H:=k.snoc (Ec l);have E:=K52.DS H W a;have s:=K52.DR ts a;have hw:=W.few
 have o:av (T++[l.map D.int]) (.ref T.length)=Nz (l.map D.int):=by exact b9
 have e:ak cD G0 Nb [Nz (ag m ts),Nz (af M),x2,x3,Nz (.ref T.length),x5,Nz (.int a)] (T++[l.map D.int])=.ok (.lst (((b4 ts a).filter λq=>decide (q∈M)&& !l.contains q).map D.int)) (T++[l.map D.int]):=by
  refine ee (h:=D.int) (f:=D.int) (bX (dC Kj (ai rfl) (ai rfl) E) rfl) rfl (λ_ _=>rfl) (by omega) (λq _=>?_) λq _ _=>ai rfl;have d:au cD G0 (.cmp .NotIn (.var 0) (.var 2)) [Nz (.int q),Nz (af M),Nz (.ref T.length)] (T++[l.map D.int])=.ok (!l.contains q) _:=pQ (ai rfl) (ai rfl) o
  have j:au cD G0 (.cmp .In (.var 0) (.var 1)) [Nz (.int q),Nz (af M),Nz (.ref T.length)] (T++[l.map D.int])=.ok (decide (q∈M)) (T++[l.map D.int]):=K52.h_ (ai rfl) (ai rfl) (by have c:fc (.int q) (af M) (T++[l.map D.int])=Nz (decide (q∈M)):=gG rfl q;show aQ _ _=_;rw[c];rfl);exact K52.qL j d
 generalize n:(b4 ts a).filter _=g at*
 have p:f' (.ref T.length) [.lst (g.map D.int)] (T++[l.map D.int])=.ok .non (T++[(l++g).map D.int]):=by
  show(match(T++[l.map D.int])[T.length]?,Nz (g.map D.int)with
   |some x,Nz y=>if x.length+y.length<=bt then Res.ok D.non _ else .fail
   |_,_=>.fail)=_
  grind
 have b:iA ts M l a=l++g:=by unfold iA;rw[n]
 rw[b];refine(be ?_).trans rfl;rw[aC,ak,ai (i:=4) rfl];simp only[Res.bind,al,e,cH,p,Res.noErr]
theorem Ee(b:Flat T)(W:bn m ts)(H:aq so m.toNat=M){x2 x3 x5:Option D}:∀(xs l:Li) (x6:Option D),ie ts so M p l->(∀a∈xs,a∈l)->∃y,b0 (λx ρ S=>match aE (.var 6) x ρ with
   |some ρ'=>ah cD G0 Ml ρ' S
   |none=>.fail) (xs.map D.int) [Nz (ag m ts),Nz (af M),x2,x3,Nz (.ref T.length),x5,x6] (T++[l.map D.int])=.ok (.next [Nz (ag m ts),Nz (af M),x2,x3,Nz (.ref T.length),x5,y]) (T++[(xs.foldl (iA ts M) l).map D.int])
 | [],l,x6,_,_=>⟨_,rfl⟩
 |a::xs,l,x6,h,d=>by have e:=Ed b W (M:=M) (Eb W H h) a (x2:=x2) (x3:=x3) (x5:=x5);obtain⟨y,E⟩:=Ee b W H _ _ _ (D7 W H h (d a Zd)) λc f=>ZH _ (d c (Zb _ f));refine⟨y,?_⟩;show(ah _ _ _ [Nz _,Nz _,x2,x3,Nz _,x5,Nz _] _).bind _=_;rw[e];exact E
theorem qN(b:Flat T)(W:bn m ts)(H:aq so m.toNat=M){x2 x3:Option D}:∀(L l:Li) (x5 x6:Option D),ie ts so M p l->∃Y y,b0 (λx ρ S=>match aE (.var 5) x ρ with
   |some ρ'=>ah cD G0 Mm ρ' S
   |none=>.fail) (L.map D.int) [Nz (ag m ts),Nz (af M),x2,x3,Nz (.ref T.length),x5,x6] (T++[l.map D.int])=.ok (.next [Nz (ag m ts),Nz (af M),x2,x3,Nz (.ref T.length),Y,y]) (T++[(b5 ts M L.length l).map D.int])
 | [],l,x5,x6,_=>⟨_,_,rfl⟩
 |a::L,l,x5,x6,h=>by
  obtain⟨y,e⟩:=Ee b W H l l _ h λ_ h=>h;obtain⟨z,Z,E⟩:=qN b W H L _ _ _ (vG W H l l h λ_ h=>h).1;refine⟨z,Z,?_⟩;show(ah _ _ _ [Nz _,Nz _,x2,x3,Nz _,Nz _,x6] _).bind _=_
  have c:aK cD G0 (.seq (.blt (.list NB) [.var 4])) [Nz (ag m ts),Nz (af M),x2,x3,Nz (.ref T.length),Nz (.int a),x6] (T++[l.map D.int])=.ok (.items (l.map D.int)) (T++[l.map D.int]):=by
   refine bX (d:=.lst _) (e_ (ai rfl) ?_) rfl
   show(match av _ _ with
    |some _=>Res.ok _ _
    |none=>.fail)=_
   rw[show av _ _=Nz _ from b9]
  have f:ah cD G0 Mm [Nz (ag m ts),Nz (af M),x2,x3,Nz (.ref T.length),Nz (.int a),x6] (T++[l.map D.int])=.ok (.next [Nz (ag m ts),Nz (af M),x2,x3,Nz (.ref T.length),Nz (.int a),y]) (T++[(D6 ts M l).map D.int]):=by refine(be ?_).trans rfl;exact(e7 c).trans e
  rw[f];exact E
theorem Ef{A:List D}:(S++A::R)[S.length]?=Nz A:=by rw[Zs (Zg _)];simp
theorem Eg{A B:List D}:(S++A::R).set S.length B=S++B::R:=by simp_all
theorem Eh{A B:List D}:S++A::R++[B]=S++A::(R++[B]):=by simp
theorem vH(o:Flat (S++(F.map af)::R))(W:bn m ts)(n:aq so m.toNat=M)(N:F.length<=1000){p:Int}{L:Li}(O:(p::L).length<=8)(G:p∈M):∃K y Y B,Flat (S++((F++[a9 (b5 ts M (p::L).length [p])]).map af)::(R++[B]))/\
  ah cD G0 Mn [Nz (ag m ts),Nz (af M),Nz (.lst ((p::L).map D.int)),Nz (.ref S.length),x4,x5,x6] (S++(F.map af)::R)=.ok (.next [Nz (ag m ts),Nz (af M),Nz (.lst (((p::L).filter λq=> !(b5 ts M (p::L).length [p]).contains q).map D.int)),Nz (.ref S.length),K,y,Y]) (S++((F++[a9 (b5 ts M (p::L).length [p])]).map af)::(R++[B])):=by
 have v:ie ts so M p [p]:=⟨by simp,ZB.mpr rfl,λq I=>by rw[ZB.mp I];exact⟨G,.refl _⟩⟩;generalize w:S++(F.map af)::R=T at o;obtain⟨y,Y,e⟩:=qN o W n (x2:=Nz (.lst ((p::L).map D.int))) (x3:=Nz (.ref S.length)) (p::L) [p] x5 x6 v;have g:=(pS W n (p::L).length [p] v).1;have x:=Eb W n g;generalize P:b5 ts M (p::L).length [p]=X at*;have s:av (T++[X.map D.int]) (.ref T.length)=Nz (X.map D.int):=b9;have r:=K52.u5 (S:=T++[X.map D.int]) (d:=.ref T.length) (l:=X) s (by omega);have a:T++[X.map D.int]=S++(F.map af)::(R++[X.map D.int]):=by rw[<-w];exact Eh
 have H:S++((F++[a9 X]).map af)::(R++[X.map D.int])=(T++[X.map D.int]).set S.length ((F++[a9 X]).map af):=by rw[a,Eg]
 have b:fh (.ref S.length) [af (a9 X)] (T++[X.map D.int])=.ok .non (S++((F++[a9 X]).map af)::(R++[X.map D.int])):=by
  show(match(T++[X.map D.int])[S.length]? with
   |some z=>if z.length<bt then Res.ok D.non ((T++[X.map D.int]).set S.length (z++[af (a9 X)]))else .fail
   |none=>.fail)=_
  rw[a,Ef];show(if(F.map af).length<bt then Res.ok D.non ((S++(F.map af)::(R++[X.map D.int])).set S.length (F.map af++[af (a9 X)]))else .fail)=_;rw[if_pos (by rw[Zh];show _<16777216;omega),Eg,N9];rfl
 have k:Flat (S++((F++[a9 X]).map af)::(R++[X.map D.int])):=by rw[H];exact(o.snoc (Ec X)).set (K52.k_ _)
 refine⟨Nz (.ref T.length),y,Y,X.map D.int,k,?_⟩
 have c:bi (.lst ((p::L).map D.int)) (.int 0) T=.ok (.int p) T:=by
  have A:fX ((p::L).map D.int) 0=Nz (.int p):=by
   unfold fX gL;simp
   try omega
  unfold bi;simp only[av,A]
 unfold Mn;refine(aI (d:=.ref T.length) (S':=T++[[p].map D.int]) ?_).trans ?_
 ·have E:ak cD G0 (.idx (.var 2) (.lit (.int 0))) [Nz (ag m ts),Nz (af M),Nz (.lst ((p::L).map D.int)),Nz (.ref S.length),x4,x5,x6] T=.ok (.int p) T:=h7 (ai rfl) cA c;rw[ak,al,E];simp only[al,Res.bind,if_true];rfl
 refine(be (ρ':=[Nz (ag m ts),Nz (af M),Nz (.lst ((p::L).map D.int)),Nz (.ref S.length),Nz (.ref T.length),y,Y]) (S':=T++[X.map D.int]) ?_).trans ?_
 ·have C:aK cD G0 (.seq (.var 2)) [Nz (ag m ts),Nz (af M),Nz (.lst ((p::L).map D.int)),Nz (.ref S.length),Nz (.ref T.length),x5,x6] (T++[[p].map D.int])=.ok (.items ((p::L).map D.int)) (T++[[p].map D.int]):=bX (ai rfl) rfl;exact(e7 (Γ:=G0) C).trans e
 refine(be (ρ':=[Nz (ag m ts),Nz (af M),Nz (.lst ((p::L).map D.int)),Nz (.ref S.length),Nz (.ref T.length),y,Y]) (S':=S++((F++[a9 X]).map af)::(R++[X.map D.int])) ?_).trans ?_
 ·have J:ak cD G0 (.blt .tuple [.blt (.sorted NB (.int)) [.var 4]]) [Nz (ag m ts),Nz (af M),Nz (.lst ((p::L).map D.int)),Nz (.ref S.length),Nz (.ref T.length),y,Y] (T++[X.map D.int])=.ok (af (a9 X)) (T++[X.map D.int]):=dz (dz (ai rfl) r) rfl;rw[aC,ak,ai (i:=3) (d:=.ref S.length) rfl];simp only[Res.bind,al,J,cH,b,Res.noErr]
 have j:av (S++((F++[a9 X]).map af)::(R++[X.map D.int])) (.ref T.length)=Nz (X.map D.int):=by show(S++((F++[a9 X]).map af)::(R++[X.map D.int]))[T.length]?=_;rw[H,Oi (by rw[<-w];simp)];exact b9
 exact(aI (ee (h:=D.int) (f:=D.int) (p:=λq=> !X.contains q) (r0:=[none,Nz (.ref T.length)]) (rs:=λq=>[Nz (.int q),Nz (.ref T.length)]) (bX (ai rfl) rfl) rfl (λ_ _=>rfl) (by omega) (λq _=>pQ (ai rfl) (ai rfl) j) λq _ _=>ai rfl)).trans rfl
theorem lh(W:bn m ts)(H:aq so m.toNat=M):∀(n:Nat) (L:Li) (F:List (Li)) (R:aa) (x4 x5 x6:Option D),L.length<n->L.length<=8->F.length+L.length<=500->(∀q∈L,q∈M)->Flat (S++(F.map af)::R)->∃u y Y i a,fO (au cD G0 Mo) (ah cD G0 Mn) n [Nz (ag m ts),Nz (af M),Nz (.lst (L.map D.int)),Nz (.ref S.length),x4,x5,x6] (S++(F.map af)::R)=.ok (.next [Nz (ag m ts),Nz (af M),u,Nz (.ref S.length),y,Y,i]) (S++((F++qM ts M n L).map af)::a)
 |0,L,F,R,x4,x5,x6,h,_,_,_,_=>by omega
 |n+1,[],F,R,x4,x5,x6,_,_,_,_,_=>by refine⟨Nz (.lst []),x4,x5,x6,R,?_⟩;rw[fO];have c:au cD G0 Mo [Nz (ag m ts),Nz (af M),Nz (.lst []),Nz (.ref S.length),x4,x5,x6] (S++(F.map af)::R)=.ok NB (S++(F.map af)::R):=rfl;rw[show(Q1 D.int [])=[]from rfl,c,show qM ts M (n+1) []=[]from rfl,Yf];rfl
 |n+1,p::L,F,R,x4,x5,x6,s,j,k,g,hR=>by
  obtain⟨y,Y,i,B,b,e⟩:=vH hR W H (by simp only[ZJ]at k;omega) j (g p Zd) (x4:=x4) (x5:=x5) (x6:=x6);have t:p∈b5 ts M (p::L).length [p]:=by have o:ie ts so M p [p]:=⟨by simp,ZB.mpr rfl,λq f=>by rw[ZB.mp f];exact⟨g p Zd,.refl _⟩⟩;exact(pS W H (p::L).length [p] o).1.st
  have E:qM ts M (n+1) (p::L)=a9 (b5 ts M (p::L).length [p])::qM ts M n _:=rfl;generalize b5 ts M (p::L).length [p]=X at*;have d:(p::L).filter (λq=> !X.contains q)=L.filter λq=> !X.contains q:=by rw[Sm];simp[t]
  rw[d]at e E;have r:=ZI (λq=> !X.contains q) L;simp only[ZJ]at s j k;obtain⟨z,Z,v,w,a,l⟩:=lh W H n (L.filter λq=> !X.contains q) (F++[a9 X]) (R++[B]) y Y i (by omega) (by omega) (by rw[Zz,QS];omega) (λq f=>g q (Zb _ (Zn.mp f).1)) b;refine⟨z,Z,v,w,a,?_⟩;rw[fO];have c:au cD G0 Mo [Nz (ag m ts),Nz (af M),Nz (.lst ((p::L).map D.int)),Nz (.ref S.length),x4,x5,x6] (S++(F.map af)::R)=.ok NA (S++(F.map af)::R):=rfl;rw[c];simp only[Res.bind,if_true];rw[e];simp only;rw[l,E,ZP];rfl
end
end K52
namespace K52
section
variable {ts:List Ti}
end
section
variable {ts:List Ti}
end
open PySem.Builtin.Int (intBits)
section
variable {ts:List Ti}
end
end K52
namespace K52
open Pc
section
variable {R:aa}{ts:List Ti}{M:Li}{G:List (List Ti)}
noncomputable def jl(so:Li)(ts:List Ti)(m:Nat):List (Li):=((aq so m).filter (own so ts m)).map (chain so ts m)
theorem pT(h:m<=8):(aq so m.toNat).length<=8:=by have:=ic (m:=m) (f:=λp=> !so.contains p);unfold aq;omega
theorem pU(h:m<=8):(jl so ts m.toNat).length<=8:=by unfold jl;rw[Zh];have:=ZI (own so ts m.toNat) (aq so m.toNat);have:=pT (so:=so) h;omega
theorem Mp(W:bn m ts){a q:Int}(b:a∈aq so m.toNat)(h:b8 (cb ts so) a q):q∈aq so m.toNat:=by have H:=K52.df.mp b;exact K52.df.mpr ⟨hW (K52.je W) H.1.1 H.1.2 h,u4 H.2 h⟩
theorem Mq(b:Flat S)(W:bn m ts)(H:aq so m.toNat=M):kH [ag m ts,af M] S=.ok (.ref S.length) (S++[(jl so ts m.toNat).map af]):=by
 have f:M.length<=8:=by rw[<-H];exact pT W.hi
 have E:qM ts M 100 M=jl so ts m.toNat:=by have:=lg W H 100 M (by omega) (by rw[<-H];exact gD.sublist ZE) (λ_ h=>h) (λa c q g=>by rw[<-H]at c⊢;exact Mp W c g);rw[this];unfold jl;rw[H]
 obtain⟨y,Y,i,j,R,e⟩:=lh W H 100 M [] [] _ _ _ (by omega) f (by simp;omega) (λ_ h=>h) (b.snoc rfl);rw[E]at e
 have d:ah cD G0 BL [Nz (ag m ts),Nz (af M),none,none,none,none,none] S=.ok (.ret (.ref S.length)) (S++(jl so ts m.toNat).map af::R):=by
  refine(aI (dz (ai rfl) rfl)).trans ?_;refine(aI (rfl)).trans ?_;refine(be (ρ':=[Nz (ag m ts),Nz (af M),y,Nz (.ref S.length),Y,i,j]) (S':=S++((jl so ts m.toNat).map af)::R) ?_).trans ?_
  ·exact e
  rfl
 show az _ G0 _ _ 2 _ S=_;unfold az;rw[show ah _ G0 _ ([ag m ts,af M].map _++NG (BK.length-2) _) S=_ from d];show cO _ _ _=_;unfold cO;rw[NY rfl,if_pos b.all,if_neg (by unfold bF;simp)];simp only[Ef];rw[if_pos ⟨K52.gy _ (K52.k_ _),Zg _⟩]
theorem Ei(W:bn m ts){c:Int}(j:c∈(aq so m.toNat).filter (own so ts m.toNat)):∃l,chain so ts m.toNat c=c::l:=by
 obtain⟨f,g⟩:=Zn.mp j;have H:=K52.df.mp f;have i:=by simpa[own]using g
 have h:=gE.mpr ⟨H.1,i,H.2⟩;cases e:chain _ _ _ c with
 |nil=>simp_all
 |cons d l=>
  have a:=CM (so:=so) (ts:=ts) (m:=m.toNat) (c:=c);have k:d∈chain so ts m.toNat c:=by simp_all
  rw[e]at h a;rcases Zi.mp h with rfl|h
  ·simp_all
  ·have:=(ZM.mp a).1 c h;obtain⟨⟨D,b⟩,n,o⟩:=gE.mp k;have:=kU (so:=so) (K52.je W) D b;omega
theorem Mr(W:bn m ts)(n:∀q∈M,0<=q/\q<m.toNat)(l:M.Pairwise (· < ·))(B:Li)(g:B=dh ts M (aq M m.toNat)):∃so,a9 (B++eQ B (aq M m.toNat))=so/\so.length<=8/\(∀q∈so,0<=q/\q<m)/\so.Pairwise (· < ·)/\aq so m.toNat=M/\(B++eQ B (aq M m.toNat)).length<=8:=by
 have i:(aq M m.toNat).Nodup:=K52.Cv.sublist ZE;have j:∀q,q∈B->q∈aq M m.toNat:=λq H=>by rw[g]at H;exact(Zn.mp H).1
 have d:(B++eQ B (aq M m.toNat)).Nodup:=by refine ZN.mpr ⟨by rw[g];exact i.sublist ZE,i.sublist ZE,λa o c k e=>?_⟩;subst e;have:=(Zn.mp k).2;simp_all
 have f:∀q,q∈B++eQ B (aq M m.toNat)↔q∈aq M m.toNat:=λq=>by
  rw[Zp];constructor
  ·rintro(h|h)
   ·exact j q h
   ·exact(Zn.mp h).1
  ·intro h;by_cases H:q∈B
   ·exact .inl H
   ·exact .inr (Zn.mpr ⟨h,by simp[H]⟩)
 have b:=Zw (d.length_le_of_subset λq H=>(f q).mp H) (pT W.hi);refine⟨_,rfl,by rw[(gF _).length_eq];exact b,λq H=>?_,ph d,?_,b⟩
 ·have:=(K52.df.mp ((f q).mp ((gF _).mem_iff.mp H))).1;omega
 ·refine kT (gD.sublist ZE) l λq=>?_;rw[K52.df,(gF _).mem_iff,f,K52.df]
  grind
theorem Ms(h:Flat S)(W:bn m ts)(Y:fz m ts G k):∃so,aq so m.toNat=aB m (aA G k)/\∀S,Flat S->kA [ag m ts] S=.ok (.ref S.length) (S++[(jl so ts m.toNat).map af]):=by
 have b:∀q∈aB m (aA G k),0<=q/\q<m.toNat:=λq c=>by have:=gz (Zn.mp c).1;omega
 obtain⟨so,e,L,H,r,l,i⟩:=Mr W b (gD.sublist ZE) _ rfl;refine⟨_,l,λS h=>?_⟩;have E:=D5 h W Y
 have a:=by have:=K52.LK h W (by omega) H r;rw[K52.pu]at this;exact this
 generalize aB m _=N at*;generalize dh _ N _=B at*;generalize eQ B _=Q at*;refine K52.po rfl ?_ h (K52.k_ _);refine(be (ρ':=[Nz (ag m ts),Nz (af N),Nz (af B),Nz (af Q)]) (S':=S) ?_).trans ?_
 ·rw[aC,hO JH (ai rfl) E];rfl
 ·refine cv (gA (dC JI (ai rfl) (dz (d:=.lst _) (dz (dg (ai rfl) (ai rfl) (DP (by grind))) ?_) rfl) a));rw[<-e];exact K52.u5 (d:=.tup _) (by rw[N9];rfl) (by omega)
end
end K52
namespace K52
section
variable {R:aa}{ts:List Ti}{M:Li}{G:List (List Ti)}
end
section
variable {ts ps:List Ti}{bar:Li}
end
section
variable {ts ps:List Ti}
end
section
variable {ts ps:List Ti}
end
section
variable {ts ps:List Ti}
end
section
variable {ts ps:List Ti}
end
section
variable {ps:Lq}
theorem Ej(l:List D)(lo hi:Option Int):(bZ l lo hi).Sublist l:=(Qt _ _).trans (Rw _ _)
theorem pV(l:List D)(lo hi:Option Int):(bZ l lo hi).length<=l.length:=(Ej l _ _).length_le
theorem sl_tup(l:List D)(lo hi:Option Int):jj (.tup l) lo hi S=.ok (.tup (bZ l lo hi)) S:=rfl
theorem pW{r:Int}(H:av S d=Nz xs)(h:0<=r)(h1:r<(xs.length:Nat)):∃x∈xs,bi d (.int r) S=.ok x S:=by
 have:fX xs r=Nz xs[r.toNat]:=by simp[fX,gL];simp_all
 unfold bi;simp_all
end
section
variable {ts ps:List Ti}
theorem Mt(r:Flat T)(t:Ti){b:Nat}{q:List Ti}(m:T[b]?=Nz (ae q))(y:q.length<=1000):g9 [ar t,.ref b] T=.ok (.bl (hU t q)) T:=by
 refine bL rfl ?_ rfl r rfl;show ah fT G0 kD [Nz (ar t),Nz (.ref b)] T=_;have o:bi (ar t) (.int 0) T=.ok (.int t.1) T:=rfl;have p:bi (ar t) (.int 1) T=.ok (.int t.2) T:=rfl
 have u:ak fT G0 BD [Nz (ar t),Nz (.ref b)] T=.ok (.lst (q.map λs=>.bl (cE t s))) T:=by
  refine c6 (its:=.live (q.length+1) (bP b)) (S1:=T) (by simp only[aK,ak,Res.bind,Zl,Zj,cB,m,PH,show(ae q).length=q.length from Zh ..]) ?_
  have:=vz (f:=ar) (g:=λs=>[D.bl (cE t s)]) (c:=1) (S:=T) (k:=b) (xs:=q) (step:=λx a n=>match aH (.var 0) x [none,Nz (ar t)]with
    |some d=>(ax fT G0 [] d n).bind λk j=>if k=NA then aN fT G0 (.emit BC) d a j else .ok a j
    |none=>.fail) (λ_=>by simp) m (λs z a l=>by
     have h:a.length<16777216:=by grind
     have H:aH (.var 0) (ar s) [none,Nz (ar t)]=Nz [Nz (ar s),Nz (ar t)]:=rfl;have I:=pF (S:=T) t.1 s;rw[H];unfold cE;cases e: !(decide (t.1≠s.1)&&decide (t.1≠s.2))<;>rw[e]at I<;>simp only[BC,ax,aN,ak,al,Res.bind,o,p,I,pF (S:=T) t.2 s,Res.noErr,bj,Zl,Zj,if_true,Bool.false_or,Bool.true_or,Z9,if_false,h]) q.length 0 [] (by simp) (by grind)
  rw[N8,Px]at this;refine Eq.trans this ?_;congr 1;exact(Tb ..).symm
 have l:f_ [.lst (q.map λs=>.bl (cE t s))] T=.ok (.bl (q.any (cE t))) T:=by show aQ (fg ((q.map λs=>D.bl (cE t s)).map eB)) T=_;rw[ZY];have:(q.map (eB∘λs=>D.bl (cE t s)))=q.map λs=>Nz (cE t s):=rfl;rw[this,Dx];rfl
 have i:(!q.any (cE t))=hU t q:=by unfold hU;rw[List.not_any_eq_all_not];congr 1;funext s;unfold cE cw;simp_all
 have E:kD=[.ret (.bnot (.blt .any [BD]))]:=rfl;rw[E];refine cv ?_;rw[<-i,aC,ak,ak,al,u];simp[al,Res.bind,bh,l,bN,Res.noErr]
theorem pX:kE=[.asg 2 J1,.asg 3 J2,.asg 4 (.lst NA []),.for_ (.tup [.var 5,.var 6]) EJ BG,.ret (.blt .tuple [.blt (.sorted NB (.seq .int)) [.var 4]])]:=rfl
theorem Ek{x:D}:∀{xs:List D} {k:Nat},x∈dj k xs->∃(i:Nat),∃y∈xs,x=.tup [.int (i:Nat),y]
 | [],k,h=>by cases h
 |y::xs,k,h=>by
  rcases Zi.mp h with rfl|h
  ·exact⟨k,y,Zd,rfl⟩
  ·obtain⟨i,z,H,e⟩:=Ek h;exact⟨i,z,Zb _ H,e⟩
theorem pY(W:bn m ts)(k:Flat S){fs:List Ti}(F:Found ts fs){t:Ti}(n:t∈ts){i:Nat}{c o:Int}:∃fs',Found ts fs'/\ah cZ G0 BG [x0,Nz (.int c),x2,Nz (.int o),Nz (.ref S.length),Nz (.int (i:Nat)),Nz (ar t)] (S++[ae fs])=.ok (.next [x0,Nz (.int c),x2,Nz (.int o),Nz (.ref S.length),Nz (.int (i:Nat)),Nz (ar t)]) (S++[ae fs']):=by
 have s:=F.length W;have h:Flat (S++[ae fs]):=k.snoc (K52.ja fs);have l:=Mt h t (b:=S.length) (q:=fs) b9 (by omega);have j:eZ [.int c,.int (71+(i:Int))] (S++[ae fs])=.ok (.int (bv c (71+(i:Int)))) (S++[ae fs]):=K52.pK h _ _;have g:dD .Mod (.int (bv c (71+(i:Int)))) (.int 6) (S++[ae fs])=.ok (.int (bv c (71+(i:Int))%6)) (S++[ae fs]):=K52.cz (by omega);have f:=C5 (T:=S) (A:=ae fs) (d:=ar t) (by unfold ae;rw[Zh];show _<16777216;omega);have H:fh (.ref S.length) [ar t] (S++[ae fs])=.ok .non (S++[ae (fs++[t])]):=by rw[f];unfold ae;rw[N9];rfl
 have p:au cZ G0 oM [x0,Nz (.int c),x2,Nz (.int o),Nz (.ref S.length),Nz (.int (i:Nat)),Nz (ar t)] (S++[ae fs])=.ok (decide (bv c (71+(i:Int))%6<o+1)) (S++[ae fs]):=
  h_ (dg (vx uG (eA (i:=1) rfl) (dg cA (eA (i:=5) rfl) rfl) j) cA g) (dg (eA (i:=3) rfl) cA rfl) rfl
 have r:au cZ G0 BF [x0,Nz (.int c),x2,Nz (.int o),Nz (.ref S.length),Nz (.int (i:Nat)),Nz (ar t)] (S++[ae fs])=.ok (hU t fs) (S++[ae fs]):=by unfold BF;generalize ar t=d at*;simp only[au,al,ak,Res.bind,J3,l,bN,Zl,Zj]
 have a:au cZ G0 (.band oM BF) [x0,Nz (.int c),x2,Nz (.int o),Nz (.ref S.length),Nz (.int (i:Nat)),Nz (ar t)] (S++[ae fs])=.ok (decide (bv c (71+(i:Int))%6<o+1)&&hU t fs) (S++[ae fs]):=qL p r;unfold BG;generalize CE.band oM BF=q at a⊢;cases e:(decide (bv c (71+(i:Int))%6<o+1)&&hU t fs)with
 |false=>rw[e]at a;exact⟨fs,F,by simp only[ah,aC,a,Res.bind,Z9,if_false]⟩
 |true=>rw[e]at a;rw[ZL]at e;refine⟨fs++[t],F.add W n e.2,?_⟩;generalize ar t=d at*;simp only[ah,aC,a,Res.bind,if_true,ak,al,cH,H,Res.noErr,Zl,Zj]
theorem Mu(W:bn m ts)(A:Flat S)(c:Int):∃ps,aW ts ps/\ps.length<=28/\hE [ag m ts,.int c] S=.ok (.tup (ae ps)) S:=by
 have s:(ae ts).length<=28:=by unfold ae;rw[Zh];exact W.few
 have g:∀(k:Int),eZ [.int c,.int k] S=.ok (.int (bv c k)) S:=λk=>K52.pK A _ _
 have E:ak cZ G0 J1 [Nz (ag m ts),Nz (.int c),none,none,none,none,none] S=.ok (.int (bv c 70%(((ae ts).length:Int)+1))) S:=
  dg (vx uG (eA (i:=1) rfl) cA (g 70)) (dg (e_ (h7 (eA (i:=0) rfl) cA rfl) rfl) cA rfl) (K52.cz (by omega))
 generalize bv c 70%(((ae ts).length:Int)+1)=f at E
 have z:ak cZ G0 J2 [Nz (ag m ts),Nz (.int c),Nz (.int f),none,none,none,none] S=.ok (.int (1+bv c 69%5)) S:=
  dg cA (dg (vx uG (eA (i:=1) rfl) cA (g 69)) cA (K52.cz (by omega))) rfl
 generalize 1+bv c 69%5=o at z;have J:∀L B,(bZ (ae ts) L B).length<=28:=λL B=>Zw (pV _ _ _) s
 have I:aK cZ G0 EJ [Nz (ag m ts),Nz (.int c),Nz (.int f),Nz (.int o),Nz (.ref S.length),none,none] (S++[ae []])=.ok (.items (dj 0 (bZ (ae ts) (Nz f) none++bZ (ae ts) none (Nz f)))) (S++[ae []]):=by have Q:bi (ag m ts) (.int 1) (S++[ae []])=.ok (.tup (ae ts)) (S++[ae []]):=rfl;have R:jj (.tup (ae ts)) (Nz f) none (S++[ae []])=.ok (.tup (bZ (ae ts) (Nz f) none)) (S++[ae []]):=rfl;have T:jj (.tup (ae ts)) none (Nz f) (S++[ae []])=.ok (.tup (bZ (ae ts) none (Nz f))) (S++[ae []]):=rfl;have V:=K52.DP (S:=S++[ae []]) (p:=bZ (ae ts) (Nz f) none) (q:=bZ (ae ts) none (Nz f)) (by grind);unfold EJ oJ;generalize ag m ts=w at*;generalize D.tup (ae ts)=tt at*;generalize S++[ae []]=U at*;simp only[aK,ak,al,Res.bind,Q,cL,dk,Res.noErr,R,T,V,gb,Zl,Zj]
 obtain⟨a,v,⟨fs,Y,Z,F,rfl,rfl⟩,H⟩:=pr (step:=λx j S=>match aE (.tup [.var 5,.var 6]) x j with
   |some a=>ah cZ G0 BG a S
   |none=>.fail) (λj U=>∃fs X C,Found ts fs/\j=[Nz (ag m ts),Nz (.int c),Nz (.int f),Nz (.int o),Nz (.ref S.length),X,C]/\U=S++[ae fs]) (dj 0 (bZ (ae ts) (Nz f) none++bZ (ae ts) none (Nz f))) (by
    rintro x O j U ⟨fs,X,C,F,rfl,rfl⟩;obtain⟨i,y,P,rfl⟩:=Ek O;have u:y∈ae ts:=by rcases Zp.mp P with h|h<;>exact(Ej _ _ _).subset h
    obtain⟨t,N,rfl⟩:=Zq.mp u;obtain⟨n,G,e⟩:=pY W A F N (i:=i) (c:=c) (o:=o) (x0:=Nz (ag m ts)) (x2:=Nz (.int f));exact⟨_,_,⟨n,_,_,G,rfl,rfl⟩,e⟩) [Nz (ag m ts),Nz (.int c),Nz (.int f),Nz (.int o),Nz (.ref S.length),none,none] (S++[ae []]) ⟨[],none,none,⟨λt h=>(by cases h),OC⟩,rfl,rfl⟩
 have M:=F.length W;refine⟨sortI fs,F.pairing,by rw[(kQ fs).length_eq];exact M,?_⟩
 have K:ah cZ G0 kE [Nz (ag m ts),Nz (.int c),none,none,none,none,none] S=.ok (.ret (.tup (ae (sortI fs)))) (S++[ae fs]):=by
  rw[pX];refine(aI E).trans ?_;show ah cZ G0 _ [Nz (ag m ts),Nz (.int c),Nz (.int f),none,none,none,none] S=_;refine(aI z).trans ?_;show ah cZ G0 _ [Nz (ag m ts),Nz (.int c),Nz (.int f),Nz (.int o),none,none,none] S=_;refine(aI (d:=.ref S.length) (S':=S++[ae []]) (by simp only[ak,al,Res.bind,if_true];rfl)).trans ?_;show ah cZ G0 _ [Nz (ag m ts),Nz (.int c),Nz (.int f),Nz (.int o),Nz (.ref S.length),none,none] _=_;refine(be (ρ':=[Nz (ag m ts),Nz (.int c),Nz (.int f),Nz (.int o),Nz (.ref S.length),Y,Z]) (S':=S++[ae fs]) ?_).trans ?_
  ·exact(e7 (Γ:=G0) I).trans H
  ·exact cv (K52.gA (K52.dz (K52.dz (K52.ai (i:=4) rfl) (K52.Ct (l:=fs) b9 (by omega))) rfl))
 show az cZ G0 kE uF.length 2 [ag m ts,.int c] S=_;have r:ah cZ G0 kE (([ag m ts,.int c]:List D).map Nz++NG (uF.length-2) none) S=_:=K;unfold az;rw[if_pos (show [ag m ts,D.int c].length=2 from rfl),r];show cO S.length (.tup (ae (sortI fs))) _=_;have b:bF 0 (.tup (ae (sortI fs)))=NA:=K52.ja _;rw[K52.hJ (by grind) b,NY rfl]
end
theorem Mv:g7=K52.g7:=rfl
section
variable {ts ps:List Ti}
noncomputable def b_(ps:List Ti)(l:Li)(q:Int):Bool:=decide (K52.mt ps q∈l)
theorem li(H:av T d=Nz (l.map D.int))(a:∀x∈l,0<=x)(q:Int):fc (bW (ay ps q)) d T=Nz (b_ ps l q):=by
 unfold b_ K52.mt;cases e:ay _ q with
 |some v=>exact gG H v
 |none=>
  have b:¬(none.getD (-1)∈l):=λh=>by have:=a _ h;simp at this
  rw[ZQ b];unfold fc;simp only[H];rw[ZY];have E:(λy=>cF T bE y (bW none))∘D.int=λ_=>Nz _:=rfl;rw[E,K52.oW];simp
theorem lj{a b:CE}{q:Int}(h1:ak Φ G0 a ρ T=.ok (bW (ay ps q)) T)(H:ak Φ G0 b ρ T=.ok d T)(c:av T d=Nz (l.map D.int))(h:∀x∈l,0<=x):ak Φ G0 (.cmp .In a b) ρ T=.ok (.bl (b_ ps l q)) T:=
 k8 h1 H (by show aQ _ T=_;rw[li c h];rfl)
theorem ll{a b:CE}{q:Int}(h1:ak Φ G0 a ρ T=.ok (bW (ay ps q)) T)(H:ak Φ G0 b ρ T=.ok d T)(c:av T d=Nz (l.map D.int))(h:∀x∈l,0<=x):au Φ G0 (.cmp .In a b) ρ T=.ok (b_ ps l q) T:=
 h_ h1 H (by show aQ _ T=_;rw[li c h];rfl)
theorem pZ{L:List α}{g:α->Bool}{e:CE}(h:ak Φ G0 e ρ T=.ok (.lst (L.map λo=>D.bl (g o))) T):au Φ G0 (.blt .all [e]) ρ T=.ok (L.all g) T:=
 qK (e_ h (by show aQ _ T=_;rw[ZY,show(eB∘λo=>D.bl _)=λo=>Nz _ from rfl,K52.allO_map];rfl))
theorem qO{e:CE}{tg:CT}{rs:α->bC}{it:CE}{ds:List α}{h f:α->D}(n:T[k]?=Nz (ds.map h))(hi:aK Φ G0 it ρ T=.ok (.live (ds.length+1) (bP k)) T)(o:fr.map (λj=>j.bind λj=>(ρ[j]?).join)=r0)
  (l:∀d∈ds,aH tg (h d) r0=Nz (rs d)) (q:ds.length<=100000) (m:∀d∈ds,ak Φ G0 e (rs d) T=.ok (f d) T):ak Φ G0 (.comp NB N fr tg it [] (.emit e)) ρ T=.ok (.lst (ds.map f)) T:=by
 refine c6 hi ?_;rw[o]
 have:=K52.vh (p:=λ_=>NA) (e:=f) (step:=λy a i=>match aH _ y _ with
    |some b=>(ax Φ G0 [] b i).bind λk S=>if k=NA then aN Φ G0 (.emit e) b a S else .ok a S
    |none=>.fail) n (λd g a c=>by have H:=c;rw[l d g];simp[ax,Res.bind,aN,m d g,H]) ds.length 0 [] (by simp) (by show 0+ds.length<=16777216;omega)
 rw[N8,Px]at this;refine Eq.trans this ?_;rw[Oq.mpr λ_ _=>rfl]
theorem vI{v:Nat}(H:ρ[v]?=Nz (Nz (.ref k)))(h:T[k]?=Nz xs):aK Φ G0 (.seq (.var v)) ρ T=.ok (.live (xs.length+1) (bP k)) T:=by simp[aK,ak,H,Res.bind,cB,h]
theorem vJ:∀(ks acc:List (Li)),acc.Nodup->(ks.foldl (λacc k=>if acc.contains k=NA then acc else acc++[k]) acc).length<=acc.length+ks.length/\((ks.foldl (λacc k=>if acc.contains k=NA then acc else acc++[k]) acc).length=acc.length+ks.length↔(acc++ks).Nodup)
 | [],acc,h=>by simp[h]
 |k::ks,acc,h=>by
  by_cases a:acc.contains k=NA
  ·have i:=(vJ ks _ h).1
   grind
  ·have H:(acc++[k]).Nodup:=by
    grind
   have i:=vJ ks _ H
   grind
theorem Mw(L:List (Li)):(L.map af).map il=L:=by rw[ZY];refine(Q_ λl _=>?_).trans (List.map_id L);exact K52.vE l
theorem Mx(f:Flat S){L:List (Li)}(i:L.length<76):g5 [.lst (L.map af)] S=.ok (.bl (decide L.Nodup)) S:=by
 refine bL rfl ?_ rfl f rfl
 have H:∃n:Nat,jK (.lst (L.map af)) S=.ok (.int (n:Nat)) S/\(n=L.length↔L.Nodup):=by
  cases L with
  |nil=>exact⟨0,rfl,by simp⟩
  |cons c L=>
   have E:¬(((c::L).map af).all (aw .int)=NA/\((c::L).map af).length<1000):=λz=>by have:=z.1;rw[ZV]at this;have e:aw .int (af c)=NB:=rfl;simp_all
   have b:((c::L).map af).all (aw (.seq .int))=NA:=by rw[ZF];intro x a;obtain⟨t,_,rfl⟩:=Zq.mp a;show(t.map D.int).all _=NA;rw[ZF];intro x a;obtain⟨t,_,rfl⟩:=Zq.mp a;rfl
   have h:=(vJ (c::L) [] OC).2;rw[Oj,Pz]at h;refine⟨(gS (c::L)).length,?_,h⟩;show(if((c::L).map af).all (aw .int)=NA/\((c::L).map af).length<1000 then Res.ok (D.int ((eL (((c::L).map af).filterMap cg)).length:Nat)) S else if((c::L).map af).all _=NA/\((c::L).map af).length<76 then Res.ok _ S else .fail)=_;rw[if_neg E,if_pos ⟨b,by simp_all⟩,Mw]
 obtain⟨n,H,g⟩:=H;have d:bh .len [.lst (L.map af)] S=.ok (.int (L.length:Nat)) S:=by show Res.ok _ S=_;simp_all
 have h:a7 .Eq (.int (n:Nat)) (.int (L.length:Nat)) S=.ok (.bl (decide L.Nodup)) S:=by
  have e:a7 .Eq (.int (n:Nat)) (.int (L.length:Nat)) S=.ok _ S:=rfl;rw[e];have:((n:Int)==(L.length:Int))=decide L.Nodup:=by lia
  rw[this]
 simp[ut,ah,aC,ak,al,Res.bind,Res.noErr,H,d,h]
theorem My(p q:Li)(h:p.length=q.length):a7 .Eq (.lst (p.map D.int)) (.lst (q.map D.int)) S=.ok (.bl (decide (p=q))) S:=by have e:cF S bE (.lst _) (.lst _)=if(p.map D.int).length=(q.map D.int).length then bw _ else Nz _:=rfl;show aQ _ S=_;rw[e,if_pos (by simp_all),K52.DM,<-h,QC,h,QC];rfl
theorem p6:kB=[.expr (.call "must_be_pairing" [.var 0,.var 1]),.asgT (.tup [.var 2,.var 3,.var 4]) (.call "parts" [.var 0]),.asg 5 (.call "missed_pieces" [.var 0]),.ite (.bnot (.blt .all [JJ])) [.ret (.lit (.bl NB))] [],.asg 6 JK,.ite (.bnot (.blt .all [JL])) [.ret (.lit (.bl NB))] [],.ite (.bnot (.call "are_unlike" [EI])) [.ret (.lit (.bl NB))] [],.asg 7 JN,.ret (.cmp .Eq (.var 7) JO)]:=rfl
noncomputable def c7(ps:List Ti)(B:Li)(C:List (Li)):List (Li):=C.flatMap λc=>(B.filter (b_ ps c)).map λ_=>c
theorem vK{B c:Li}{a:List D}(d:∀x∈c,0<=x)(g:a.length+B.length<=16777216):bz (λx a S2=>match aH (.var 1) x [Nz (af c),none,Nz (.lst (B.map λq=>bW (ay ps q)))]with
    |some ρ'=>(ax bG G0 [.cmp .In (.var 1) (.var 0)] ρ' S2).bind λk S3=>if k=NA then aN bG G0 (.emit (.var 0)) ρ' a S3 else .ok a S3
    |none=>.fail) (B.map λq=>bW (ay ps q)) a T=.ok (a++(B.filter (b_ ps c)).map λ_=>af c) T:=by
 refine kP B _ (λq j a f=>?_) g;have h:=f;generalize i:D.lst _=M;have H:aH (.var 1) (bW (ay ps q)) [Nz (af c),none,Nz M]=Nz _:=rfl;rw[H];have b:au bG _ (.cmp _ (.var 1) (.var 0)) [Nz (af c),Nz _,Nz M] T=.ok (b_ ps c q) T:=ll (ai rfl) (ai rfl) rfl d;cases e:b_ _ c q<;>rw[e]at b<;>simp[ax,b,aN,ak,Res.bind,h]
theorem vL{B:Li}{b:Nat}{x1:Option D}(H:T[b]?=Nz (C.map af))(L:B.length<=8)(o:C.length<=8)(f:∀c∈C,∀x∈c,0<=x):ak bG G0 EI [x0,x1,x2,x3,x4,Nz (.ref b),Nz (.lst (B.map λq=>bW (ay ps q))),x7] T=.ok (.lst ((c7 ps B C).map af)) T:=by
 have m:=vI (Φ:=bG) (v:=5) (ρ:=[x0,x1,x2,x3,x4,Nz _,Nz (.lst (B.map λq=>bW (ay ps q))),x7]) rfl H;refine c6 m ?_
 have:=K52.vz (g:=λc=>(B.filter _).map _) (c:=8) (step:=λx a e=>match aH _ x _ with
    |some d=>(ax bG G0 [] d e).bind λk S=>if k=NA then aN _ G0 JM d a S else .ok a S
    |none=>.fail) (λc=>by grind) H (λc l a i=>by have j:a.length+8<=16777216:=i;have h:aH (.var 0) _ [none,none,Nz _]=Nz [Nz (af c),none,Nz (.lst (B.map λq=>bW (ay ps q)))]:=rfl;rw[h];simp[ax,Res.bind];unfold JM;rw[aN];have n:aK bG G0 (.seq (.var 2)) [Nz (af c),none,Nz (.lst (B.map λq=>bW (ay ps q)))] T=.ok _ T:=bX (ai rfl) rfl;exact vK (f c l) (by omega)) C.length 0 [] (by simp) (by show 0+8*C.length<=16777216;omega)
 rw[N8]at this;rw[Zh];refine Eq.trans this ?_;unfold c7;rw[QG];congr 1;congr 1;funext c;simp_all
end
section
variable {ts ps:List Ti}{G:List (List Ti)}{N B Q:Li}
noncomputable def insB(ps:List Ti)(c:Li):Bool:=decide ((c.filter (b_ ps c)).length+1=c.length)
noncomputable def ig(ps:List Ti)(N B Q:Li)(C:List (Li)):Bool:=Q.all (b_ ps Q)&&(B.all (b_ ps N)&&(decide (c7 ps B C).Nodup&&C.all (insB ps)))
theorem El(l:B.length<=8):∀C:List (Li),(c7 ps B C).length<=8*C.length
 | []=>Yp _
 |c::C=>by
  have i:=El l C;show((B.filter _).map _++c7 _ B C).length<=_
  grind
theorem p9:decide (C.map (λc=>(((c.filter (b_ ps c)).length:Nat):Int))=C.map λc=>((c.length:Nat):Int)-1)=C.all (insB ps):=by
 induction C with
 |nil=>rfl
 |cons c C i=>
  rw[PR,<-i,ZV];unfold insB
  grind
theorem Mz(n:Flat S)(O:DQ m ts ps)(hp:ps.length<=28)(ep:g8 [ag m ts] S=.ok (.tup [af N,af B,af Q]) S)(e:kA [ag m ts] S=.ok (.ref S.length) (S++[C.map af]))(lN:N.length<=8)(L:B.length<=8)(lQ:Q.length<=8)(W:C.length<=8)(P:∀x∈N,0<=x)(U:∀x∈Q,0<=x)(l:∀c∈C,c.length<=1000/\∀x∈c,0<=x):oD [ag m ts,pD ps] S=.ok (.bl (ig ps N B Q C)) S:=by
 have I:g7 [ag m ts,pD ps] S=.ok .non S:=by rw[Mv];exact K52.Lg n O.W O.P (by omega)
 have H:Flat (S++[C.map af]):=n.snoc (K52.k_ C)
 have V:ah bG G0 kB [Nz (ag m ts),Nz (pD ps),none,none,none,none,none,none] S=.ok (.ret (.bl (ig ps N B Q C))) (S++[C.map af]):=by
  rw[p6];refine(be (ρ':=[Nz (ag m ts),Nz (pD ps),none,none,none,none,none,none]) (S':=S) (by rw[aC,dC JP (ai rfl) (ai rfl) I];rfl)).trans ?_;refine(be (ρ':=[Nz (ag m ts),Nz (pD ps),Nz (af N),Nz (af B),Nz (af Q),none,none,none]) (S':=S) (by rw[aC,hO JQ (ai rfl) ep];rfl)).trans ?_;refine(aI (d:=.ref S.length) (S':=S++[C.map af]) (hO JR (ai rfl) e)).trans ?_;have g:(S++[C.map af])[S.length]?=Nz (C.map af):=b9;generalize S++[C.map af]=T at*;generalize S.length=b at*;generalize ag m ts=w at*;show ah bG G0 _ [Nz w,Nz (pD ps),Nz (af N),Nz (af B),Nz (af Q),Nz (.ref b),none,none] T=_;have e:∀q,fv [pD ps,.int q] T=.ok (bW (ay ps q)) T:=λq=>K52.uV H ps q
  have t:au bG G0 (.bnot (.blt .all [JJ])) [Nz w,Nz (pD ps),Nz (af N),Nz (af B),Nz (af Q),Nz (.ref b),none,none] T=.ok (!(Q.all (b_ ps Q))) T:=
   eH (pZ (e9 (h:=D.int) (f:=λq=>D.bl (b_ ps Q q)) (ds:=Q) (r0:=[none,Nz (pD ps),Nz (af Q)]) (rs:=λq=>[Nz (.int q),Nz (pD ps),Nz (af Q)]) (bX (ai rfl) rfl) rfl (λ_ _=>rfl) (by omega) λq _=>lj (dC uC (ai rfl) (ai rfl) (e q)) (ai rfl) rfl U))
  unfold ig;cases u:Q.all (b_ ps Q)with
  |false=>rw[u]at t;rw[Ql];exact k9 t
  |true=>
  rw[u]at t;rw[Pg];refine(jf t).trans ?_
  have A:ak bG G0 JK [Nz w,Nz (pD ps),Nz (af N),Nz (af B),Nz (af Q),Nz (.ref b),none,none] T=.ok (.lst (B.map λq=>bW (ay ps q))) T:=
   e9 (h:=D.int) (f:=λq=>bW (ay ps q)) (ds:=B) (r0:=[none,Nz (pD ps)]) (rs:=λq=>[Nz (.int q),Nz (pD ps)]) (bX (ai rfl) rfl) rfl (λ_ _=>rfl) (by omega) λq _=>dC uC (ai rfl) (ai rfl) (e q)
  refine(aI A).trans ?_;show ah bG G0 _ [Nz w,Nz (pD ps),Nz (af N),Nz (af B),Nz (af Q),Nz (.ref b),Nz (.lst (B.map λq=>bW (ay ps q))),none] T=_
  have j:au bG G0 (.bnot (.blt .all [JL])) [Nz w,Nz (pD ps),Nz (af N),Nz (af B),Nz (af Q),Nz (.ref b),Nz (.lst (B.map λq=>bW (ay ps q))),none] T=.ok (!(B.all (b_ ps N))) T:=
   eH (pZ (e9 (h:=λq=>bW (ay ps q)) (f:=λq=>D.bl (b_ ps N q)) (ds:=B) (r0:=[none,Nz (af N)]) (rs:=λq=>[Nz (bW (ay ps q)),Nz (af N)]) (bX (ai rfl) rfl) rfl (λ_ _=>rfl) (by omega) λq _=>lj (ai rfl) (ai rfl) rfl P))
  cases y:B.all (b_ ps N)with
  |false=>rw[y]at j;rw[Ql];exact k9 j
  |true=>
  rw[y]at j;rw[Pg];refine(jf j).trans ?_;have E:=vL (ps:=ps) (B:=B) (x0:=Nz w) (x1:=Nz (pD ps)) (x2:=Nz (af N)) (x3:=Nz (af B)) (x4:=Nz (af Q)) (x7:=none) g L W λc a=>(l c a).2
  have k:au bG G0 (.bnot (.call "are_unlike" [EI])) [Nz w,Nz (pD ps),Nz (af N),Nz (af B),Nz (af Q),Nz (.ref b),Nz (.lst (B.map λq=>bW (ay ps q))),none] T=.ok (!(decide (c7 ps B C).Nodup)) T:=
   eH (pN JS E (Mx H (by have:=El (ps:=ps) L C;omega)))
  cases z:decide (c7 ps B C).Nodup with
  |false=>rw[z]at k;rw[Ql];exact k9 k
  |true=>
  rw[z]at k;rw[Pg];refine(jf k).trans ?_;generalize D.lst (B.map λq=>bW (ay ps q))=X at*
  have F:ak bG G0 JN [Nz w,Nz (pD ps),Nz (af N),Nz (af B),Nz (af Q),Nz (.ref b),Nz X,none] T=.ok (.lst (C.map λc=>D.int ((c.filter (b_ ps c)).length:Nat))) T:=by
   refine qO (h:=af) (f:=λc=>D.int ((c.filter (b_ ps c)).length:Nat)) (ds:=C) (r0:=[none,Nz (pD ps)]) (rs:=λc=>[Nz (af c),Nz (pD ps)]) g ?_ rfl (λ_ _=>rfl) (by omega) λc a=>?_
   ·have:=vI (Φ:=bG) (v:=5) (ρ:=[Nz w,Nz (pD ps),Nz (af N),Nz (af B),Nz (af Q),Nz (.ref b),Nz X,none]) rfl g;rw[Zh]at this;exact this
   ·have M:ak bG G0 M9 [Nz (af c),Nz (pD ps)] T=.ok (.lst ((c.filter (b_ ps c)).map D.int)) T:=
     ee (h:=D.int) (f:=D.int) (p:=b_ ps c) (r0:=[none,Nz (pD ps),Nz (af c)]) (rs:=λq=>[Nz (.int q),Nz (pD ps),Nz (af c)]) (bX (ai rfl) rfl) rfl (λ_ _=>rfl) (by have:=(l c a).1;omega) (λq _=>ll (dC uC (ai rfl) (ai rfl) (e q)) (ai rfl) rfl (l c a).2) λq _ _=>ai rfl
    refine e_ M ?_;show Res.ok (D.int (((c.filter (b_ ps c)).map D.int).length:Nat)) T=_;rw[Zh]
  refine(aI F).trans ?_;show ah bG G0 _ [Nz w,Nz (pD ps),Nz (af N),Nz (af B),Nz (af Q),Nz (.ref b),Nz X,Nz (.lst (C.map λc=>D.int ((c.filter (b_ ps c)).length:Nat)))] T=_
  have G:ak bG G0 JO [Nz w,Nz (pD ps),Nz (af N),Nz (af B),Nz (af Q),Nz (.ref b),Nz X,Nz (.lst (C.map λc=>D.int ((c.filter (b_ ps c)).length:Nat)))] T=.ok (.lst (C.map λc=>D.int (((c.length:Nat):Int)-1))) T:=by
   refine qO (h:=af) (f:=λc=>D.int (((c.length:Nat):Int)-1)) (ds:=C) (r0:=[none]) (rs:=λc=>[Nz (af c)]) g ?_ rfl (λ_ _=>rfl) (by omega) λc a=>?_
   ·have:=vI (Φ:=bG) (v:=5) (ρ:=[Nz w,Nz (pD ps),Nz (af N),Nz (af B),Nz (af Q),Nz (.ref b),Nz X,Nz (.lst (C.map λc=>D.int ((c.filter (b_ ps c)).length:Nat)))]) rfl g;rw[Zh]at this;exact this
   ·refine dg (d:=.int ((c.length:Nat):Int)) (e_ (d:=af c) (ai rfl) ?_) cA rfl;show Res.ok (D.int ((c.map D.int).length:Nat)) T=_;rw[Zh]
  refine cv (gA (k8 (ai rfl) G ?_));have J:(C.map λc=>D.int ((c.filter (b_ ps c)).length:Nat))=(C.map λc=>(((c.filter (b_ ps c)).length:Nat):Int)).map D.int:=by rw[ZY];rfl
  have K:(C.map λc=>D.int (((c.length:Nat):Int)-1))=(C.map λc=>((c.length:Nat):Int)-1).map D.int:=by rw[ZY];rfl
  rw[J,K,My _ _ (by rw[Zh,Zh]),p9]
 show az bG G0 kB uB.length 2 [ag m ts,pD ps] S=_;unfold az;rw[if_pos (show [ag m ts,pD ps].length=2 from rfl),show ah bG G0 kB (([ag m ts,pD ps]:List D).map Nz++NG (uB.length-2) none) S=_ from V];show cO S.length (.bl (ig ps N B Q C)) (S++[C.map af])=_;rw[K52.hJ (by rw[NY rfl];exact n) rfl,NY rfl]
noncomputable def fV(ps:List Ti)(B c:Li):Bool:=insB ps c&& !decide (1<(B.filter (b_ ps c)).length)
noncomputable def fJ(ps:List Ti)(N B Q:Li)(C:List (Li)):Bool:=(Q.all (b_ ps Q)&&B.all (b_ ps N))&&C.all (fV ps B)
theorem MA{c:Li}:∀F:Li,(F.map λ_=>c).Nodup↔F.length<=1
 | []=>by simp
 | [a]=>by simp
 |a::b::F=>by simp
theorem MB(h:C.Nodup):(c7 ps B C).Nodup↔∀c∈C,(B.filter (b_ ps c)).length<=1:=by
 induction C with
 |nil=>exact⟨λ_ c H=>(by cases H),λ_=>OC⟩
 |cons c C i=>
  rw[Ya]at h;have e:c7 _ B (c::C)=(B.filter _).map _++c7 ps B C:=rfl
  have g:∀x,x∈c7 ps B C->x∈C:=λx a=>by obtain⟨d,f,b⟩:=Pa.mp a;simp_all
  rw[e,ZN,MA]
  grind
theorem MC(h:C.Nodup):fJ ps N B Q C=ig ps N B Q C:=by
 unfold fJ ig;rw[Bool.and_assoc];congr 1;congr 1;rw[P6,ZL,Yh,MB h];unfold fV
 grind
theorem MD{step:D->bC->aa->Res Fl}{xs:List α}{f:α->D}{p:α->Bool}{J:bC->Prop}(d:T[k]?=Nz (xs.map f))(hs:∀x∈xs,∀ρ,J ρ->if p x=NA then ∃ρ',J ρ'/\step (f x) ρ T=.ok (.next ρ') T else step (f x) ρ T=.ok (.ret (.bl NB)) T):∀n i ρ,i+n=xs.length->J ρ->if(xs.drop i).all p=NA then ∃ρ',J ρ'/\cC step (bP k) (n+1) i ρ T=.ok (.next ρ') T else cC step (bP k) (n+1) i ρ T=.ok (.ret (.bl NB)) T:=by
 have H:∀i,bP k T i=Nz ((xs.map f)[i]?):=λi=>by unfold bP;rw[d];rfl
 intro n
 induction n with
 |zero=>
  intro i ρ c j;rw[OS (by omega),if_pos (show([]:List α).all p=NA from rfl)];refine⟨ρ,j,?_⟩;unfold cC
  grind
 |succ n I=>
  intro i ρ c j;have b:(xs.map f)[i]?=Nz (f xs[i]):=by grind
  rw[Ye (by omega),PR];have h:=hs xs[i] (Z6 _) ρ j;cases a:p xs[i]with
  |false=>rw[a,if_neg (by decide)]at h;rw[Ql,if_neg (by decide)];unfold cC;rw[H,b];dsimp only;rw[h];rfl
  |true=>rw[a,if_pos rfl]at h;obtain⟨ρ',g,e⟩:=h;rw[Pg];have:=I (i+1) ρ' (by omega) g;unfold cC;rw[H,b];dsimp only;rw[e];exact this
theorem p_:kI=[.asgT (.tup [.var 2,.var 3,.var 4]) (.call "_law_parts" [.var 0]),.asg 5 (.call "_law_mates" [.var 0,.var 1]),.ite (.bor (.bnot (.blt .all [BM])) (.bnot (.blt .all [BN]))) [.ret (.lit (.bl NB))] [],.for_ (.var 6) (.seq (.call "_law_pieces" [.var 0,.var 2])) oO,.ret (.lit (.bl NA))]:=rfl
theorem lm{v b:Nat}{c:Li}{x1:Option D}(e:T[b]?=Nz ((aT m ps).map D.int))(f:[x0,x1,x2,x3,x4,Nz (.ref b),Nz (af c),x7][v]?=Nz (Nz (af l)))(g:l.length<=1000)(a:∀q∈l,0<=q/\q<m):ak cP G0 (Kk v) [x0,x1,x2,x3,x4,Nz (.ref b),Nz (af c),x7] T=.ok (.lst ((l.filter (b_ ps c)).map D.int)) T:=
 ee (bX (ai f) rfl) rfl (λ_ _=>rfl) (by omega) (λq H=>h_ (h7 (ai rfl) (ai rfl) (DX e (a q H).1 (a q H).2)) (ai rfl) (by have h:=gG (S:=T) (d:=af c) rfl (K52.mt ps q);show aQ _ T=_;rw[h];rfl)) λq _ _=>ai rfl
theorem Em(l:Li):bh .len [.lst (l.map D.int)] T=.ok (.int (l.length:Nat)) T:=by show Res.ok _ T=_;simp_all
theorem ME(l:Li):bh .len [af l] T=.ok (.int (l.length:Nat)) T:=by show Res.ok _ T=_;simp_all
theorem qa{b:Nat}{c:Li}{x1:Option D}(H:T[b]?=Nz ((aT m ps).map D.int))(l:c.length<=1000)(L:B.length<=8)(g:∀q∈c,0<=q/\q<m)(f:∀q∈B,0<=q/\q<m):if fV ps B c=NA then ∃y,ah cP G0 oO [x0,x1,x2,Nz (af B),x4,Nz (.ref b),Nz (af c),x7] T=.ok (.next [x0,x1,x2,Nz (af B),x4,Nz (.ref b),Nz (af c),y]) T else ah cP G0 oO [x0,x1,x2,Nz (af B),x4,Nz (.ref b),Nz (af c),x7] T=.ok (.ret (.bl NB)) T:=by
 have d:=lm (v:=6) (x0:=x0) (x1:=x1) (x2:=x2) (x3:=Nz (af B)) (x4:=x4) (x7:=x7) H rfl l g
 have h:au cP G0 M_ [x0,x1,x2,Nz (af B),x4,Nz (.ref b),Nz (af c),Nz (.lst ((c.filter (b_ ps c)).map D.int))] T=.ok (!(fV ps B c)) T:=by
  have e:=lm (v:=3) (c:=c) (x0:=x0) (x1:=x1) (x2:=x2) (x4:=x4) (x7:=Nz (.lst ((c.filter (b_ ps c)).map D.int))) H rfl (by omega) f
  have Q:au cP G0 (.cmp .NotEq (.bin .Add (.blt .len [.var 7]) (.lit (.int 1))) (.blt .len [.var 6])) [x0,x1,x2,Nz (af B),x4,Nz (.ref b),Nz _,Nz (.lst ((c.filter (b_ ps c)).map _))] T=.ok _ T:=
   h_ (dg (e_ (ai rfl) (Em _)) cA rfl) (e_ (ai rfl) (ME c)) rfl
  have i:au _ G0 (.cmp .Gt _ (.lit (.int 1))) _ T=.ok _ T:=
   h_ (e_ e (Em _)) cA rfl
  have:=vt Q i;refine Eq.trans this ?_;congr 1;unfold fV insB
  grind
 cases a:fV ps B c with
 |true=>rw[a]at h;refine⟨Nz (.lst ((c.filter (b_ ps c)).map D.int)),?_⟩;refine(aI d).trans ?_;exact(jf h).trans rfl
 |false=>rw[a]at h;refine(aI d).trans ?_;exact k9 h
theorem MF(r:Flat S)(O:DQ m ts ps)(ep:∀T,Flat T->kG [ag m ts] T=.ok (.tup [af N,af B,af Q]) T)(W:∀T,Flat T->kH [ag m ts,af N] T=.ok (.ref T.length) (T++[C.map af]))(lB:B.length<=8)(lQ:Q.length<=8)(lC:C.length<=8)(A:∀x∈B,0<=x/\x<m)(Y:∀x∈Q,0<=x/\x<m)(E:∀c∈C,c.length<=1000/\∀x∈c,0<=x/\x<m):oP [ag m ts,pD ps] S=.ok (.bl (fJ ps N B Q C)) S:=by
 have M:=ep S r;have P:kF [ag m ts,pD ps] S=.ok (.ref S.length) (S++[(aT m ps).map D.int]):=K52.Ma O r;have u:Flat (S++[(aT m ps).map D.int]):=r.snoc (K52.e5 _);have U:=W _ u
 have v:∃R,ah cP G0 kI [Nz (ag m ts),Nz (pD ps),none,none,none,none,none,none] S=.ok (.ret (.bl (fJ ps N B Q C))) (S++R):=by
  rw[p_];have a:(S++[(aT m ps).map D.int])[S.length]?=Nz ((aT m ps).map D.int):=b9;have o:∀(T:aa),T[S.length]?=Nz ((aT m ps).map D.int)->∀(l:Li) (q:Int),0<=q/\q<m->ak cP G0 (.cmp .In (.idx (.var 1) (.var 0)) (.var 2)) [Nz (.int q),Nz (.ref S.length),Nz (af l)] T=.ok (.bl (b_ ps l q)) T:=λT Z l q g=>vA (l:=l) (d:=af l) (q:=K52.mt ps q) (h7 (ai rfl) (ai rfl) (DX Z g.1 g.2)) (ai rfl) rfl
  have y:ah cP G0 [.asgT (.tup [.var 2,.var 3,.var 4]) (.call "_law_parts" [.var 0]),.asg 5 (.call "_law_mates" [.var 0,.var 1]),.ite (.bor (.bnot (.blt .all [BM])) (.bnot (.blt .all [BN]))) [.ret (.lit (.bl NB))] [],.for_ (.var 6) (.seq (.call "_law_pieces" [.var 0,.var 2])) oO,.ret (.lit (.bl NA))] [Nz (ag m ts),Nz (pD ps),none,none,none,none,none,none] S=ah cP G0 [.ite (.bor (.bnot (.blt .all [BM])) (.bnot (.blt .all [BN]))) [.ret (.lit (.bl NB))] [],.for_ (.var 6) (.seq (.call "_law_pieces" [.var 0,.var 2])) oO,.ret (.lit (.bl NA))] [Nz (ag m ts),Nz (pD ps),Nz (af N),Nz (af B),Nz (af Q),Nz (.ref S.length),none,none] (S++[(aT m ps).map D.int]):=by refine(be (ρ':=[Nz (ag m ts),Nz (pD ps),Nz (af N),Nz (af B),Nz (af Q),none,none,none]) (S':=S) (by rw[aC,hO Kl (ai rfl) M];rfl)).trans ?_;exact(aI (d:=.ref S.length) (S':=S++[(aT m ps).map D.int]) (dC Km (ai rfl) (ai rfl) P))
  rw[y]
  have n:au cP G0 (.bor (.bnot (.blt .all [BM])) (.bnot (.blt .all [BN]))) [Nz (ag m ts),Nz (pD ps),Nz (af N),Nz (af B),Nz (af Q),Nz (.ref S.length),none,none] (S++[(aT m ps).map D.int])=.ok (!(Q.all (b_ ps Q))|| !(B.all (b_ ps N))) (S++[(aT m ps).map D.int]):=
   vt (eH (pZ (e9 (h:=D.int) (f:=λq=>D.bl (b_ ps Q q)) (ds:=Q) (r0:=[none,Nz (.ref S.length),Nz (af Q)]) (rs:=λq=>[Nz (.int q),Nz (.ref S.length),Nz (af Q)]) (bX (ai rfl) rfl) rfl (λ_ _=>rfl) (by omega) λq g=>o _ a Q q (Y q g))))
    (eH (pZ (e9 (h:=D.int) (f:=λq=>D.bl (b_ ps N q)) (ds:=B) (r0:=[none,Nz (.ref S.length),Nz (af N)]) (rs:=λq=>[Nz (.int q),Nz (.ref S.length),Nz (af N)]) (bX (ai rfl) rfl) rfl (λ_ _=>rfl) (by omega) λq g=>o _ a N q (A q g))))
  unfold fJ;rw[<-Bool.not_and]at n;cases I:(Q.all (b_ ps Q)&&B.all (b_ ps N))with
  |false=>rw[I]at n;rw[Ql];exact⟨_,k9 n⟩
  |true=>
  rw[I]at n;rw[Pg];refine⟨[(aT m ps).map D.int,C.map af],(jf n).trans ?_⟩;have V:S++[(aT m ps).map D.int,C.map af]=S++[(aT m ps).map D.int]++[C.map af]:=by rw[ZP];rfl
  rw[V];have w:(S++[(aT m ps).map D.int]++[C.map af])[S.length]?=Nz ((aT m ps).map D.int):=by rw[Zu (by simp)];exact a
  have i:(S++[(aT m ps).map D.int]++[C.map af])[(S++[(aT m ps).map D.int]).length]?=Nz (C.map af):=b9;have F:aK cP G0 (.seq (.call "_law_pieces" [.var 0,.var 2])) [Nz (ag m ts),Nz (pD ps),Nz (af N),Nz (af B),Nz (af Q),Nz (.ref S.length),none,none] (S++[(aT m ps).map D.int])=.ok (.live (C.length+1) (bP (S++[(aT m ps).map D.int]).length)) (S++[(aT m ps).map D.int]++[C.map af]):=by simp only[aK,ak,al,Zl,Zj,Res.bind,Kn,U,cB,i,PH,Zh]
  generalize S++[(aT m ps).map D.int]++[C.map af]=T at*
  have H:=MD (T:=T) (k:=(S++[(aT m ps).map D.int]).length) (xs:=C) (f:=af) (p:=fV ps B) (step:=λx s S=>match aE (.var 6) x s with
   |some e=>ah cP G0 oO e S
   |none=>.fail) (J:=λs=>∃z X,s=[Nz (ag m ts),Nz (pD ps),Nz (af N),Nz (af B),Nz (af Q),Nz (.ref S.length),z,X]) i (by
    rintro c G s ⟨z,X,rfl⟩;have h:=qa (T:=T) (b:=S.length) (c:=c) (B:=B) (x0:=Nz (ag m ts)) (x1:=Nz (pD ps)) (x2:=Nz (af N)) (x4:=Nz (af Q)) (x7:=X) w (E c G).1 lB (E c G).2 A;cases j:fV ps B c with
    |true=>rw[j,if_pos rfl]at h;rw[if_pos rfl];obtain⟨y7,h⟩:=h;exact⟨_,⟨Nz (af c),y7,rfl⟩,h⟩
    |false=>rw[j,if_neg (by decide)]at h;rw[if_neg (by decide)];exact h) C.length 0 _ (Pz _) ⟨none,none,rfl⟩
  rw[Px]at H;cases j:C.all (fV ps B)with
  |true=>rw[j,if_pos rfl]at H;obtain⟨e,⟨z,X,rfl⟩,H⟩:=H;refine(be (Eq.trans (e7 (t:=.var 6) (body:=oO) F) H)).trans rfl
  |false=>rw[j,if_neg (by decide)]at H;exact cv (Eq.trans (e7 (t:=.var 6) (body:=oO) F) H)
 obtain⟨R,v⟩:=v;show az cP G0 kI uI.length 2 [ag m ts,pD ps] S=_;unfold az;rw[if_pos (show [ag m ts,pD ps].length=2 from rfl),show ah cP G0 kI (([ag m ts,pD ps]:List D).map Nz++NG (uI.length-2) none) S=_ from v];show cO S.length (.bl (fJ ps N B Q C)) (S++R)=_;rw[K52.hJ (by rw[NY rfl];exact r) rfl,NY rfl]
end
theorem qb:i7=K52.i7:=rfl
theorem MG:i6=K52.i6:=rfl
theorem MJ:fw=K52.fw:=rfl
theorem MK:gw=K52.gw:=rfl
theorem MM:hE=K52.hE:=rfl
section
variable {ts ps:List Ti}{G:List (List Ti)}{N B Q:Li}
theorem MN(W:bn m ts):(jl so ts m.toNat).Nodup:=by unfold jl;have d:((aq so m.toNat).filter (K52.own so ts m.toNat)).Pairwise _:=(Pc.gD.sublist ZE).sublist ZE;rw[List.nodup_iff_pairwise_ne,Z3];refine P4 (λ{a b} H c h e=>?_) d;obtain⟨l,E⟩:=K52.Ei W H;obtain⟨k,f⟩:=K52.Ei W c;simp_all
noncomputable def Eo:List CS:=[.asg 2 (.call "is_parted" [.var 0,.var 1]),.ret (.band (.blt .isinst [.var 2,.ty "bool"]) (.cmp .Eq (.var 2) (.call "_law_parted" [.var 0,.var 1])))]
theorem vM:uJ=Eo:=rfl
theorem vN(b:Flat S)(W:bn m ts)(P:aW ts ps)(J:ps.length<=28):kK [ag m ts,pD ps] S=.ok (.bl NA) S:=by
 have X:=W.lo;have y:=W.hi;have O:DQ m ts ps:=⟨W,P⟩;obtain⟨G,k,Y⟩:=K52.DC W;obtain⟨so,M,E⟩:=K52.Ms b W Y;have A:=K52.D5 b W Y;have n:=λ(T:aa) (j:Flat T)=>K52.Mf j W Y;have o:∀q∈aB m (aA G k),0<=q/\q<m:=λq h=>by have:=gz (Zn.mp h).1;omega
 have i:∀q∈aq (aB m (aA G k)) m.toNat,0<=q/\q<m:=λq h=>by have:=(K52.df.mp h).1;omega
 rw[K52.Mj W i o]at n;have K:(aB m (aA G k)).length<=8:=by have:=K52.ic (m:=m) (f:=gK m (aA G k));unfold aB;omega
 have t:=K52.pT (so:=aB m (aA G k)) y;have z:=λ(T:aa) (j:Flat T)=>K52.Mq j W M;have E:=E S b;have I:∀q∈dh ts (aB m (aA G k)) (aq (aB m (aA G k)) m.toNat),0<=q/\q<m:=λq h=>i q (Zn.mp h).1;have r:∀q∈eQ (dh ts (aB m (aA G k)) (aq (aB m (aA G k)) m.toNat)) (aq (aB m (aA G k)) m.toNat),0<=q/\q<m:=λq h=>i q (Zn.mp h).1;have L:(dh ts (aB m (aA G k)) (aq (aB m (aA G k)) m.toNat)).length<=8:=Zw (ZI _ _) t;have u:(eQ (dh ts (aB m (aA G k)) (aq (aB m (aA G k)) m.toNat)) (aq (aB m (aA G k)) m.toNat)).length<=8:=Zw (ZI _ _) t;generalize aB m (aA G k)=N at*;generalize dh ts N (aq N m.toNat)=B at*;generalize eQ B (aq N m.toNat)=Q at*;have s:=K52.pU (so:=so) (ts:=ts) y;have l:=MN (so:=so) W
 have g:∀c∈jl so ts m.toNat,c.length<=1000/\∀x∈c,0<=x/\x<m:=λc e=>by
  obtain⟨a,_,rfl⟩:=Zq.mp e;refine⟨?_,λx H=>?_⟩
  ·have:=K52.ic (m:=m) (f:=λp=>decide (Pc.nm (Pc.fin so ts m.toNat) p=a)&& !so.contains p);unfold Pc.chain;omega
  ·have:=(Pc.gE.mp H).1;omega
 generalize jl so ts m.toNat=C at*;have U:=Mz b O J A E K L u s (λx H=>(o x H).1) (λx H=>(r x H).1) λc e=>⟨(g c e).1,λx H=>((g c e).2 x H).1⟩;have R:=MF b O n z L u s I r g;rw[MC l]at R;generalize ig ps N B Q C=v at*;refine bL rfl ?_ rfl b rfl;show ah kJ G0 uJ [Nz (ag m ts),Nz (pD ps),none] S=_;rw[vM];generalize ag m ts=w at*;generalize pD ps=d at*;unfold Eo;refine(aI (d:=.bl v) (S':=S) (dC Kp (ai rfl) (ai rfl) U)).trans ?_;show ah kJ G0 _ [Nz w,Nz d,Nz (.bl v)] S=_;refine cv (gA ?_);have D:f9 [.bl v,.ty "bool"] S=.ok (.bl NA) S:=rfl;have F:a7 .Eq (.bl v) (.bl v) S=.ok (.bl NA) S:=by cases v<;>rfl
 simp only[ak,al,Res.bind,Res.noErr,bh,Zl,Zj,D,bj,if_true,Kq,R,F]
theorem MO{f:Ti->Li}{x y:List Ti}(h:x.Sublist y):(x.flatMap f).Sublist (y.flatMap f):=by
 induction h with
 |slnil=>simp_all
 |cons a h i=>simp_all
 |cons_cons a h i=>simp_all
theorem MP{p q:List Ti}(P:aW ts p/\p.length<=28)(h:q.Sublist p):aW ts q/\q.length<=28:=⟨⟨P.1.ris.sublist h,λt H=>P.1.sub t (h.subset H),P.1.un.sublist (MO h)⟩,Zw h.length_le P.2⟩
structure jg (ts:List Ti)(n:Nat)(L:List (List Ti)):Prop where
 few:L.length<=n
 ok:∀p∈L,aW ts p/\p.length<=28
theorem jh{f:α->D}(L:List α)(lo hi:Option Int):∃a:List α,bZ (L.map f) lo hi=a.map f/\a.Sublist L:=
 ⟨_,by unfold bZ;rw[<-PV,<-PU],(Qt _ _).trans (Rw _ _)⟩
theorem jg.sub{L a:List (List Ti)}(h:jg ts n L)(s:a.Sublist L):jg ts n a:=⟨Zw s.length_le h.few,λp H=>h.ok p (s.subset H)⟩
theorem jg.app{a b:Nat}{L c:List (List Ti)}(h:jg ts a L)(h':jg ts b c):jg ts (a+b) (L++c):=⟨by rw[Zz];have:=h.few;have:=h'.few;omega,λp H=>(Zp.mp H).elim (h.ok p) (h'.ok p)⟩
theorem Ep{a x:CE}{L:List (List Ti)}{i:Int}(h1:ak Φ G0 a ρ S=.ok (.lst (L.map pD)) S)(h:ak Φ G0 x ρ S=.ok (.int i) S):∃b:List (List Ti),b.Sublist L/\ak Φ G0 (.sl a [x] []) ρ S=.ok (.lst (b.map pD)) S:=by
 obtain⟨b,e,s⟩:=jh L _ _;refine⟨_,s,?_⟩;have H:jj (.lst (L.map pD)) (Nz i) none S=.ok (.lst (b.map pD)) S:=by rw[<-e];rfl
 simp[ak,al,h1,h,Res.bind,cL,dk,H,Res.noErr]
theorem ln{a x:CE}{L:List (List Ti)}{i:Int}(h1:ak Φ G0 a ρ S=.ok (.lst (L.map pD)) S)(h:ak Φ G0 x ρ S=.ok (.int i) S):∃b:List (List Ti),b.Sublist L/\ak Φ G0 (.sl a [] [x]) ρ S=.ok (.lst (b.map pD)) S:=by
 obtain⟨b,e,s⟩:=jh L _ _;refine⟨_,s,?_⟩;have H:jj (.lst (L.map pD)) none (Nz i) S=.ok (.lst (b.map pD)) S:=by rw[<-e];rfl
 simp[ak,al,h1,h,Res.bind,cL,dk,H,Res.noErr]
theorem ji{a b:CE}{L c:List (List Ti)}(h1:ak Φ G0 a ρ S=.ok (.lst (L.map pD)) S)(h:ak Φ G0 b ρ S=.ok (.lst (c.map pD)) S)(H:L.length+c.length<=1000000):ak Φ G0 (.bin .Add a b) ρ S=.ok (.lst ((L++c).map pD)) S:=by
 refine dg h1 h ?_;show(if(L.map _).length+(c.map _).length<=bt then Res.ok _ S else .fail)=_
 grind
theorem Er{N:Ls}{it:CE}{lo hi:List CE}{l u:Option Int}{L:List (List Ti)}(h:jg ts n L)(k:n<=100000)(H:aK Φ G0 it ρ S=.ok (.items (L.map pD)) S)(g:∀ρ,(al Φ G0 lo ρ S).bind cL=.ok l S)(j:∀ρ,(al Φ G0 hi ρ S).bind cL=.ok u S):∃a:List (List Ti),jg ts n a/\ak Φ G0 (.comp NB N [none] (.var 0) it [] (.emit (.sl (.var 0) lo hi))) ρ S=.ok (.lst (a.map pD)) S:=by
 refine⟨L.map λp=>(jh (f:=ar) p l u).choose,⟨by rw[Zh];exact h.few,λp b=>?_⟩,?_⟩
 ·obtain⟨q,i,rfl⟩:=Zq.mp b;exact MP (h.ok q i) (jh q l u).choose_spec.2
 ·have:=e9 (N:=N) (fr:=[none]) (tg:=.var 0) H rfl (λ_ _=>rfl) (by have:=h.few;omega) λp b=>by
   have e:=(jh (f:=ar) p l u).choose_spec.1;have c:jj (pD p) l u S=.ok _ S:=Yj (λx=>Res.ok _ S) e
   have d:ak Φ G0 (.sl (.var 0) lo hi) [Nz (pD p)] S=.ok (pD (jh (f:=ar) p l u).choose) S:=by show(((al _ _ _ _ S).bind _).bind _)=_;rw[g];show(((al _ _ _ _ S).bind _).bind _)=_;rw[j];show(jj (pD p) l u S).noErr=_;rw[c];rfl
   exact d
  refine this.trans ?_;simp_all
theorem MQ:iv=[.ite uK [.ret (.lit (.bl NB))] [],.for_ (.var 1) oQ oS,.ret (.lit (.bl NA))]:=rfl
theorem qc(a:Flat S)(f:ns.length<=63){x1:Option D}:∃cs:Li,aK aL G0 oQ [Nz (.scr (ns.map D.int)),x1,x2,x3,x4,x5,x6,x7] S=.ok (.items (cs.map D.int)) S:=by
 obtain⟨c,e⟩:=K52.pL a ns;rw[<-MG]at e;obtain⟨cs,b,d⟩:∃cs:Li,bZ (ns.map D.int) (Nz 1) (Nz 4)=cs.map D.int/\cs.length<=63:=by refine⟨_,by unfold bZ;rw[<-PV,<-PU],?_⟩;simp;omega
 refine⟨c::cs,?_⟩;have h:jj (.scr (ns.map D.int)) (Nz 1) (Nz 4) S=.ok (.lst (cs.map D.int)) S:=by rw[<-b];rfl
 have H:iE (.lst [.int c]) (.lst (cs.map D.int)) S=.ok (.lst ([.int c]++cs.map D.int)) S:=by show(if 1+(cs.map D.int).length<=bt then Res.ok _ S else .fail)=_;rw[if_pos (by unfold bt;simp;omega)]
 simp[oQ,aK,ak,al,Res.bind,Res.noErr,Kx,e,cL,dk,h,dD,H,cB]
theorem vO:bn 1 []:=⟨by lia,by lia,.nil,λt h=>(by cases h),by decide⟩
theorem vP:bn 4 [(0,1),(0,2),(1,2),(2,3)]:=⟨by lia,by lia,by decide+kernel,by decide+kernel,by decide⟩
theorem qP{ts:List Ti}:aW ts []:=⟨.nil,λt h=>(by cases h),OC⟩
theorem qd:aW [(0,1),(0,2),(1,2),(2,3)] [(0,1),(2,3)]:=⟨by decide+kernel,by decide+kernel,by decide+kernel⟩
theorem vQ:au aL G0 uK ρ []=.ok NB []:=by have r:=vN Flat.nil vO qP (by decide);have R:=vN Flat.nil vP qd (by decide);have d:ak aL G0 BO ρ []=.ok _ _:=rfl;have D:ak aL G0 BP ρ _=.ok _ []:=rfl;have a:ak aL G0 BQ ρ _=.ok _ []:=rfl;have b:ak aL G0 (.tup []) ρ _=.ok _ []:=rfl;exact vt (eH (vq uL d b r)) (eH (vq uL D a R))
theorem lp(L:List (List Ti)):bh .len [.lst (L.map pD)] S=.ok (.int (L.length:Nat)) S:=by show Res.ok _ S=_;simp_all
theorem vR{s:D}(c:Int)(B:Flat S):∃y2 y3 y4 y5 y6 y7,ah aL G0 oS [Nz s,Nz (.int c),x2,x3,x4,x5,x6,x7] S=.ok (.next [Nz s,Nz (.int c),y2,y3,y4,y5,y6,y7]) S:=by
 obtain⟨m,o,W,e2⟩:=K52.vo B c;rw[<-qb]at e2;obtain⟨G,k,Y⟩:=K52.DC W;have e3:=K52.DD B W Y;rw[<-MJ]at e3;have e6:=K52.DA B W;rw[<-MK,Y.is]at e6;obtain⟨M,P,z,U⟩:=K52.Mu W B c;rw[<-MM]at U;have U:hE [ag m o,.int c] S=.ok (pD M) S:=U
 have hG:jg o 40320 G:=⟨Y.few,λp z=>by have hc:=K52.DO Y W z;have:=K52.px W hc;exact⟨K52.Di W hc,by omega⟩⟩;have V:jg o 40320 (aA G k):=hG.sub ZE;obtain⟨p0,J,hk0⟩:=Y.at_;have hT0:0<(aA G k).length:=So (a:=p0) (Zn.mpr ⟨J,by simp[hk0]⟩);have hG0:0<G.length:=So J;have right:∀q,aW o q/\q.length<=28->kK [ag m o,pD q] S=.ok (.bl NA) S:=λq C=>vN B W C.1 C.2;have K:∀j,eZ [.int c,.int j] S=.ok (.int (K52.bv c j)) S:=λj=>K52.pK B c j;generalize aA G k=g at*;generalize ag m o=w at*;unfold oS;refine⟨Nz w,Nz (.lst (g.map pD)),Nz (.int (K52.bv c 20%(g.length:Nat))),?_⟩;have s1:ak aL G0 (.call "_law_web" [.var 1,.lit (.int 8)]) [Nz s,Nz (.int c),x2,x3,x4,x5,x6,x7] S=.ok w S:=dC Ku (ai rfl) cA e2;have s2:ak aL G0 (.call "_law_greatest" [.var 2]) [Nz s,Nz (.int c),Nz w,x3,x4,x5,x6,x7] S=.ok (.lst (g.map pD)) S:=hO Kv (ai rfl) e3
 have s3:ak aL G0 BR [Nz s,Nz (.int c),Nz w,Nz (.lst (g.map pD)),x4,x5,x6,x7] S=.ok (.int (K52.bv c 20%(g.length:Nat))) S:=
  dg (dC BV (ai rfl) cA (K 20)) (e_ (ai rfl) (lp g)) (K52.cz (by omega))
 generalize K52.bv c 20%(g.length:Nat)=f at*;obtain⟨A1,a1,d1⟩:=Ep (Φ:=aL) (S:=S) (a:=.var 3) (x:=.var 4) (ρ:=[Nz s,Nz (.int c),Nz w,Nz (.lst (g.map pD)),Nz (.int f),x5,x6,x7]) (L:=g) (i:=f) (ai rfl) (ai rfl);obtain⟨A2,a2,d2⟩:=ln (Φ:=aL) (S:=S) (a:=.var 3) (x:=.var 4) (ρ:=[Nz s,Nz (.int c),Nz w,Nz (.lst (g.map pD)),Nz (.int f),x5,x6,x7]) (L:=g) (i:=f) (ai rfl) (ai rfl);have hA:=(V.sub a1).app (V.sub a2);have d3:=ji d1 d2 (by have:=(V.sub a1).few;have:=(V.sub a2).few;omega);obtain⟨A,a3,s4⟩:=ln (x:=.lit (.int 3)) d3 cA;have H:=hA.sub a3;generalize f=F at*;obtain⟨A4,h4,d4⟩:=Er (Φ:=aL) (S:=S) (ρ:=[Nz s,Nz (.int c),Nz w,Nz (.lst (g.map pD)),Nz (.int F),Nz (.lst (A.map pD)),x6,x7]) (N:=["_law_line"]) (it:=.seq (.var 5)) (lo:=[.lit (.int 1)]) (hi:=[]) (l:=Nz 1) (u:=none) H (by omega) (bX (ai rfl) rfl) (λn=>by simp only[al,ak,Res.bind,cL,dk]) (λn=>by simp only[al,Res.bind,cL,dk]);obtain⟨A5,a5,d5⟩:=ln (Φ:=aL) (S:=S) (a:=.var 5) (x:=.lit (.int 1)) (ρ:=[Nz s,Nz (.int c),Nz w,Nz (.lst (g.map pD)),Nz (.int F),Nz (.lst (A.map pD)),x6,x7]) (L:=A) (i:=1) (ai rfl) cA
 have hng:∀n,(al aL G0 [.neg (.lit (.int 1))] n S).bind cL=.ok (Nz (-1)) S:=λn=>by
  have:ak aL G0 (.neg (.lit (.int 1))) n S=.ok (.int (-1)) S:=by rw[ak];rfl
  simp only[al,this,Res.bind,cL,dk]
 obtain⟨A6,h6,d6⟩:=Er (Φ:=aL) (S:=S) (ρ:=[Nz s,Nz (.int c),Nz w,Nz (.lst (g.map pD)),Nz (.int F),Nz (.lst (A.map pD)),x6,x7]) (N:=["_law_line"]) (it:=.seq (.sl (.var 5) [] [.lit (.int 1)])) (lo:=[]) (hi:=[.neg (.lit (.int 1))]) (l:=none) (u:=Nz (-1)) (H.sub a5) (by omega) (bX d5 rfl) (λn=>by simp only[al,Res.bind,cL,dk]) hng;have d7:ak aL G0 (.lst NB [.tup []]) [Nz s,Nz (.int c),Nz w,Nz (.lst (g.map pD)),Nz (.int F),Nz (.lst (A.map pD)),x6,x7] S=.ok (.lst (([[]]:List (List Ti)).map pD)) S:=by rw[ak];simp only[al,ak,Res.bind,Z9,if_false];rfl
 have d8:=ji (a:=.var 5) (b:=BS) (L:=A) (ai rfl) d4 (by have:=H.few;have:=h4.few;omega);have h8:=H.app h4;have d9:=ji d8 d6 (by have:=h8.few;have:=h6.few;omega);have h9:=h8.app h6;have s5:=ji d9 d7 (by have:=h9.few;simp;rw[Zz]at this;simp at this;omega);have hn1:jg o 1 ([[]]:List (List Ti)):=⟨Zg _,λp z=>by rw[ZB.mp z];exact⟨qP,by decide⟩⟩;have I:=h9.app hn1;generalize A++A4++A6++[[]]=E at*;have s6:ak aL G0 (.call "_law_pairings" [.var 2]) [Nz s,Nz (.int c),Nz w,Nz (.lst (g.map pD)),Nz (.int F),Nz (.lst (E.map pD)),x6,x7] S=.ok (.lst (G.map pD)) S:=hO Kw (ai rfl) e6
 obtain⟨R,hR,X⟩:∃R:List (List Ti),jg o 4 R/\ak aL G0 BU [Nz s,Nz (.int c),Nz w,Nz (.lst (g.map pD)),Nz (.int F),Nz (.lst (E.map pD)),Nz (.lst (G.map pD)),x7] S=.ok (.lst (R.map pD)) S:=by
  have y:∀i:Int,∃q∈G,bi (.lst (G.map pD)) (.int (K52.bv c (21+i)%(G.length:Nat))) S=.ok (pD q) S:=λi=>by obtain⟨x,y,e⟩:=K52.pW (S:=S) (d:=.lst (G.map pD)) (xs:=G.map pD) (r:=K52.bv c (21+i)%(G.length:Nat)) rfl (Int.emod_nonneg _ (by omega)) (by rw[Zh];exact Int.emod_lt_of_pos _ (by omega));obtain⟨q,C,rfl⟩:=Zq.mp y;exact⟨q,C,e⟩
  refine⟨([0,1,2,3]:Li).map λi=>(y i).choose,⟨by simp,λp z=>?_⟩,?_⟩
  ·obtain⟨i,_,rfl⟩:=Zq.mp z;exact hG.ok _ (y i).choose_spec.1
  ·have:=e9 (S:=S) (Φ:=aL) (N:=["_law_k","_law_every","_law_cell"]) (fr:=[none,Nz 6,Nz 1]) (tg:=.var 0) (it:=.range [.lit (.int 4)]) (e:=.idx (.var 1) (.bin .Mod (.call "_law_stir" [.var 2,.bin .Add (.lit (.int 21)) (.var 0)]) (.blt .len [.var 1]))) (ρ:=[Nz s,Nz (.int c),Nz w,Nz (.lst (g.map pD)),Nz (.int F),Nz (.lst (E.map pD)),Nz (.lst (G.map pD)),x7]) (h:=D.int) (f:=λi=>pD (y i).choose) (ds:=[0,1,2,3]) (r0:=[none,Nz (.lst (G.map pD)),Nz (.int c)]) (rs:=λi=>[Nz (.int i),Nz (.lst (G.map pD)),Nz (.int c)]) (by rw[aK];rfl) rfl (λ_ _=>rfl) (by simp) λi _=>h7 (ai rfl) (dg (dC BV (ai rfl) (dg cA (ai rfl) rfl) (K _)) (e_ (ai rfl) (lp G)) (K52.cz (by omega))) (y i).choose_spec.2;refine this.trans ?_;rw[ZY];rfl
 have s7:=ji (a:=.var 5) (L:=E) (ai rfl) X (by have:=I.few;have:=hR.few;omega);have v:=I.app hR;generalize E++R=Z at*
 have d11:ak aL G0 (.lst NB [.call "_law_pairing" [.var 2,.var 1]]) [Nz s,Nz (.int c),Nz w,Nz (.lst (g.map pD)),Nz (.int F),Nz (.lst (Z.map pD)),Nz (.lst (G.map pD)),x7] S=.ok (.lst ([M].map pD)) S:=by have:ak aL G0 (.call "_law_pairing" [.var 2,.var 1]) [Nz s,Nz (.int c),Nz w,Nz (.lst (g.map pD)),Nz (.int F),Nz (.lst (Z.map pD)),Nz (.lst (G.map pD)),x7] S=.ok (pD M) S:=dC Ky (ai rfl) (ai rfl) U;rw[ak];simp only[al,this,Res.bind,Z9,if_false];rfl
 have d12:=ji (a:=.var 5) (L:=Z) (ai rfl) d11 (by have:=v.few;simp;omega);have hI:aK aL G0 (.seq (.bin .Add (.var 5) (.lst NB [.call "_law_pairing" [.var 2,.var 1]]))) [Nz s,Nz (.int c),Nz w,Nz (.lst (g.map pD)),Nz (.int F),Nz (.lst (Z.map pD)),Nz (.lst (G.map pD)),x7] S=.ok (.items ((Z++[M]).map pD)) S:=bX d12 rfl
 obtain⟨Q,S',⟨⟨y7,rfl⟩,rfl⟩,hf⟩:=pr (step:=λx n S=>match aE (.var 7) x n with
   |some Q=>ah aL G0 oR Q S
   |none=>.fail) (λn T=>(∃x7,n=[Nz s,Nz (.int c),Nz w,Nz (.lst (g.map pD)),Nz (.int F),Nz (.lst (Z.map pD)),Nz (.lst (G.map pD)),x7])/\T=S) ((Z++[M]).map pD) (by
    rintro x y n T ⟨⟨x7,rfl⟩,rfl⟩;obtain⟨q,C,rfl⟩:=Zq.mp y
    have hq2:aW o q/\q.length<=28:=by
     rcases Zp.mp C with h|h
     ·exact v.ok q h
     ·rw[ZB.mp h];exact⟨P,z⟩
    refine⟨_,T,⟨⟨Nz (pD q),rfl⟩,rfl⟩,?_⟩;show ah aL G0 oR [Nz s,Nz (.int c),Nz w,Nz (.lst (g.map pD)),Nz (.int F),Nz (.lst (Z.map pD)),Nz (.lst (G.map pD)),Nz (pD q)] T=_;exact(jf (eH (vq uL (ai rfl) (ai rfl) (right q hq2)))).trans rfl) _ S ⟨⟨x7,rfl⟩,rfl⟩
 refine⟨Nz (.lst (Z.map pD)),Nz (.lst (G.map pD)),y7,?_⟩;refine(aI s1).trans ((aI s2).trans ((aI s3).trans ((aI s4).trans ((aI s5).trans ((aI s6).trans ((aI s7).trans ?_))))));exact(be (Eq.trans (e7 (t:=.var 7) (body:=oR) hI) hf)).trans rfl
theorem good(ns:Li)(n:ns.length<=63):∃S',kM [.scr (ns.map D.int)] []=.ok (.bl NA) S':=by
 obtain⟨C,H⟩:=qc Flat.nil n
 obtain⟨a,S',_,m⟩:=pr (step:=λx b S=>match aE (.var 1) x b with
   |some a=>ah _ _ _ a S
   |none=>.fail) (λb S=>(∃X e f g i j k,b=[Nz (.scr (ns.map D.int)),X,e,f,g,i,j,k])/\Flat S) _ (by rintro x o b S ⟨⟨X,e,f,g,i,j,k,rfl⟩,d⟩;obtain⟨c,_,rfl⟩:=Zq.mp o;obtain⟨y,Y,p,q,r,s,h⟩:=vR c d;exact⟨_,S,⟨⟨_,_,_,_,_,_,_,rfl⟩,d⟩,h⟩) _ _ ⟨⟨_,_,_,_,_,_,_,rfl⟩,Flat.nil⟩
 have l:ah aL G0 iv [Nz (.scr (ns.map D.int)),none,none,none,none,none,none,none] []=.ok (.ret (.bl NA)) S':=by rw[MQ];rw[be (by rw[hL vQ];rfl)];refine(be (ρ':=a) ?_).trans rfl;rw[e7 H];exact m
 refine⟨[],?_⟩;show az _ _ _ _ 1 _ _=_;unfold az;rw[show ah _ _ _ ([D.scr _].map _++NG (kL.length-1) _) _=_ from l];rfl
end
end K52
section
namespace K52
theorem walk{l:PySem.W.OpenLaw}{q:NU}{d:DefRec}{K:Params->Fg}(i:l.most=Nz 63)(H:d.params.defaults=[])
  (e:∀(w:N0) (h:NO),YP w h->(K w.params).In h)
  (F:∀(w:N0) (mg:Mg) (fa:ND) (h:NO),(K w.params).In h->h.Ns mainGlobals mg->mg d.name=Nz (.ref fa)->
   ∃fd:OW,(∀(s:NC) (u:NF),Sn s fd ⟨[u],[]⟩ [("_law_script",u)])/\∀base:NO,(K w.params).In base->base.Ns mainGlobals mg->c_ l.prog w (K w.params) mg base (br l.prog w) 14 fa fd ["_law_script"] (iw (K w.params))):
  PySem.W.WalkO q loose XP YP l.row.toRowW d [] (λf vs=>PySem.call f vs):=
 L2.l' (n:=63) (k:=14) (x:="_law_script") (CX:=λw=>br l.prog w) (sp:=λw=>iw (K w.params)) i (by decide) H ⟨rfl,by decide,by decide,rfl⟩ e F (λ_ _ a N g b c=>⟨a,N,rfl,b,c,g,λ_=>rfl⟩) λ_ _ _ _ _ z=>qH _ _ _ _ _ z
end K52
namespace PySem.W.Fast
def tw5416285888436227288:=Nat
def tw8094627128572089392:=Nat
def tw8492201603476589509:=Nat
def tw3938359475632330525:=Nat
def tw17913058371747863930:=Nat
def tw17300600163476078255:=Nat
def tw3321635487446604616:=Nat
def tw15257991990184543799:=Nat
def tw641591863038927503:=Nat
def tw12582855334241474055:=Nat
def tw11656296430996246419:=Nat
def tw1438049168455454021:=Nat
def tw6920298690545878793:=Nat
def tw8371505111202114590:=Nat
def tw17777477895018820875:=Nat
def tw10312297570260891955:=Nat
def tw16650439528165400895:=Nat
def tw13353335229419235414:=Nat
def tw15633514734771975507:=Nat
def tw9844099755772618519:=Nat
def tw2140333158142032074:=Nat
def tw16120585782224175130:=Nat
def tw9027524237915385391:=Nat
def tw6775347623953897579:=Nat
def tw10905929810683686102:=Nat
def tw17020590330224999835:=Nat
def tw7513576245724448434:=Nat
def tw17228284970229599703:=Nat
def tw14869341393370112578:=Nat
def tw5956832051366489384:=Nat
def tw484300628468355851:=Nat
def tw17151765524514273312:=Nat
def tw16137569642475290848:=Nat
def tw13717720240519679195:=Nat
def tw14668973455324760444:=Nat
def tw12979747772807977486:=Nat
def tw4624989463640742277:=Nat
def tw16923743525730228625:=Nat
def tw8241765504909266868:=Nat
def tw749220767081352058:=Nat
def tw9182480966304255356:=Nat
def tw13152465779667008823:=Nat
def tw18337205144489633702:=Nat
def tw9905493094754013600:=Nat
def tw5513438247957748236:=Nat
def tw16231181575859080441:=Nat
def tw16977925438149107536:=Nat
def tw3931811431907901419:=Nat
def tw15957308583980663415:=Nat
def tw13463489378151839861:=Nat
def tw10609517794266463885:=Nat
def tw13625777175299459011:=Nat
def tw8209460736727123536:=Nat
def tw18212045352251441104:=Nat
def tw7903210295820565459:=Nat
def tw5854645334055306988:=Nat
def tw5504776823851640942:=Nat
def tw18190924730063546086:=Nat
def tw9750783899080509511:=Nat
def tw9479776144876429405:=Nat
def tw8997116082339841083:=Nat
def tw8690735433191580477:=Nat
def tw780225657616421063:=Nat
def tw6236059691490848273:=Nat
def tw5651215744144323987:=Nat
def tw5354291141866875532:=Nat
def tw5302458884560878893:=Nat
def tw4866193785039149671:=Nat
def tw4416363431514734785:=Nat
def tw4395832630074317131:=Nat
def tw2230361854945269373:=Nat
def tw17492745504596544718:=Nat
def tw17423765490998184807:=Nat
def tw1637974782195170448:=Nat
def tw15925082584849359551:=Nat
def tw14481632183758963988:=Nat
def tw14385620474737594464:=Nat
def tw1357459596659958384:=Nat
def tw13382870983059327813:=Nat
def tw13356383105328389295:=Nat
def tw12422679740508169183:=Nat
def tw12272005457655918910:=Nat
def tw12238205684357977888:=Nat
def tw12106729143010934121:=Nat
def tw12055239072895926431:=Nat
def tw11430889636180123011:=Nat
def tw10620307097588722519:=Nat
def tw10428365200172905505:=Nat
def tw12399381004670027949:=Nat
def tw14993912882868002127:=Nat
def tw6832466588940239605:=Nat
def tw18285484570759977086:=Nat
def tw17301337201857364593:=Nat
def tw16661310159856359998:=Nat
def tw12844510485064840301:=Nat
def tw11095022979929431867:=Nat
def tw12298480159644468483:=Nat
def tw5456583266064189528:=Nat
def tw12487157593261904851:=Nat
def tw12277507048313268654:=Nat
def tw16804763905482844488:=Nat
def tw3280823125121593146:=Nat
def tw5270296958315937637:=Nat
def tw14403092943314068355:=Nat
def tw12930544267074842697:=Nat
def tw11211225782947100494:=Nat
def tw5417799891170142780:=Nat
def tw18333733533593781952:=Nat
def tw11869855742200451206:=Nat
def tw11722866105708968641:=Nat
def tw2378829003395887883:=Nat
def tw13652087729195983269:=Nat
def tw2617391714822792862:=Nat
def tw2859163780164173287:=Nat
def tw5363677647565996885:=Nat
def tw1574428934455601073:=Nat
def tw5696771789144522499:=Nat
def tw402658433094743394:=Nat
def tw15186226015275498305:=Nat
def tw1998459713164967038:=Nat
def tw6636809135907673812:=Nat
def tw14119690599135148067:=Nat
def tw2989285185828206175:=Nat
def tw153623513777587526:=Nat
def tw15319768296463169568:=Nat
def tw743887119277615072:=Nat
def tw5352048400233355716:=Nat
def tw12460997189563588745:=Nat
def tw1344755358021189406:=Nat
def tw15444994380805963961:=Nat
def tw724689816745095478:=Nat
def tw2157526509761639758:=Nat
def tw6019663351673526797:=Nat
def tw168330917967976415:=Nat
def tw13642751577868985650:=Nat
def tw9537545747699956058:=Nat
def tw8473279949271840384:=Nat
def tw5977428165296724442:=Nat
def tw15714761434029215719:=Nat
def tw4765788613504378271:=Nat
def tw5798229425745084403:=Nat
def tw466120155252686761:=Nat
def tw9622016566760311619:=Nat
def tw15455121640395605030:=Nat
def tw14177856431018305743:=Nat
def tw3382238924439671179:=Nat
def tw12254717603703135013:=Nat
def tw6364477523458747367:=Nat
def tw4837734033242747994:=Nat
def tw1018195684929269942:=Nat
def tw9663694422040475108:=Nat
def tw6290347352234768276:=Nat
def tw12618347536000279736:=Nat
def tw157902030168241589:=Nat
def tw4111610006442928730:=Nat
def tw3889146007442980878:=Nat
def tw9574246553924124054:=Nat
def tw2535213374864827840:=Nat
def tw2324067547273806637:=Nat
def tw324271980375681825:=Nat
def tw970750127465156785:=Nat
def tw11500032591658230671:=Nat
def tw10364372734136218257:=Nat
def tw9848484732818470180:=Nat
def tw6098542875599986528:=Nat
def tw5639193410815058405:=Nat
def tw15398124576488514423:=Nat
def tw13624957007944759439:=Nat
def tw15155121136504661823:=Nat
def tw5988396009282991813:=Nat
def tw14461141354836819123:=Nat
def tw13097799763178013783:=Nat
def tw6679589815689594700:=Nat
def tw10935187484618829326:=Nat
def tw18183450508769605509:=Nat
def tw11594902286766352238:=Nat
def tw2221938899061242336:=Nat
def tw10018400742303117828:=Nat
def tw1957470368363689933:=Nat
def tw13591877421576382920:=Nat
def tw7811315265113943514:=Nat
def tw14044173427539611801:=Nat
def tw12857526674374668694:=Nat
def tw6026344346828858079:=Nat
def tw3605671762124242546:=Nat
def tw16060629168265242659:=Nat
def tw11269397819957529544:=Nat
def tw5454448333206992922:=Nat
def tw1300931869089389422:=Nat
def tw2311726064099974405:=Nat
def tw557112513721485591:=Nat
def tw5326874050658352726:=Nat
def tw17709085858257845462:=Nat
def tw9677844685670509861:=Nat
def tw15325432064995401270:=Nat
def tw970624325022807529:=Nat
def tw164520144436003543:=Nat
def tw12848924852765846488:=Nat
def tw12758007313849369564:=Nat
def tw5434748292106888934:=Nat
def tw16712926723668398323:=Nat
def tw41571041376926010:=Nat
def tw5907690798428893587:=Nat
def tw3441501236971666330:=Nat
def tw11507659752545765838:=Nat
end PySem.W.Fast
open PySem PySem.W PyProof.Rows
set_option maxRecDepth 100000 in
set_option maxHeartbeats 0 in
theorem PySem.Challenge.cw_pairwebs_k52_pairings_well_parted_holds : PySem.Challenge.rw_pairwebs_k52_pairings_well_parted.Holds := by
 w_on;o_law;k_head;(case hw=>w_witness2)
 k_fill
 refine K52.walk (l:=PySem.Challenge.rw_pairwebs_k52_pairings_well_parted) rfl rfl (λw h Y=>PySem.W.kIn_of Y) ?F
 case F=>
  intro w mg fa h KX G hmg
  refine' K52.uS KX G hmg K52.good ⟨K52.dm ?_ ?_ ?_ ?_,K52.dm ?_ ?_ ?_ ?_,K52.dm ?_ ?_ ?_ ?_,K52.dm ?_ ?_ ?_ ?_,K52.dm ?_ ?_ ?_ ?_,K52.dm ?_ ?_ ?_ ?_,K52.dm ?_ ?_ ?_ ?_,K52.dm ?_ ?_ ?_ ?_,K52.dm ?_ ?_ ?_ ?_,K52.dm ?_ ?_ ?_ ?_,K52.dm ?_ ?_ ?_ ?_,K52.dm ?_ ?_ ?_ ?_,K52.dm ?_ ?_ ?_ ?_,K52.dm ?_ ?_ ?_ ?_,K52.dm ?_ ?_ ?_ ?_,K52.dm ?_ ?_ ?_ ?_,K52.dm ?_ ?_ ?_ ?_,K52.dm ?_ ?_ ?_ ?_,K52.dm ?_ ?_ ?_ ?_,K52.dm ?_ ?_ ?_ ?_,K52.dm ?_ ?_ ?_ ?_,K52.dm ?_ ?_ ?_ ?_,K52.dm ?_ ?_ ?_ ?_,K52.dm ?_ ?_ ?_ ?_,K52.dm ?_ ?_ ?_ ?_,K52.dm ?_ ?_ ?_ ?_,K52.dm ?_ ?_ ?_ ?_,K52.dm ?_ ?_ ?_ ?_,K52.dm ?_ ?_ ?_ ?_,K52.dm ?_ ?_ ?_ ?_,K52.dm ?_ ?_ ?_ ?_,K52.dm ?_ ?_ ?_ ?_,K52.dm ?_ ?_ ?_ ?_,K52.dm ?_ ?_ ?_ ?_,K52.dm ?_ ?_ ?_ ?_,K52.dm ?_ ?_ ?_ ?_,K52.dm ?_ ?_ ?_ ?_,K52.dm ?_ ?_ ?_ ?_,K52.dm ?_ ?_ ?_ ?_,K52.dm ?_ ?_ ?_ ?_⟩ ?Z ?_ ?R
  case R=>kernel_rfl
  case Z=>intro x hx;simp only[Py.gh,Zi,T7,or_false]at hx;rcases hx with rfl|rfl|rfl|rfl|rfl|rfl|rfl|rfl|rfl|rfl|rfl|rfl|rfl|rfl|rfl|rfl|rfl|rfl|rfl|rfl|rfl<;>k_is
  all_goals first|k_is|skip
end
