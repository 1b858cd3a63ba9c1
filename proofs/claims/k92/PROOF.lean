import PyProof.Rows.All
import Wide.All
import OpenK.AllK
import Wide.FinOn
import Lean
import PyProof.EqAt
import PyProof.EqKinds
import PyProof.TupleCall
import PyProof.ListMulAny
import PyProof.FactsAll.tuple
import KE.IntBitsLaws
import PyProof.NeKinds
import KE.KIntText
import PyProof.SliceStr2
import PyProof.StrCalls2
import PyProof.StrCalls3
import PyProof.FactsAll.tuple_2
import PyProof.SumWalkG
import PyProof.WalksMore
import PyProof.MinMaxWalk
import PyProof.Rows.SeqMore
import PyProof.FactsAll.tuple_3
import KE.KRevIter
import PyProof.FactsAll.range_2
import PyProof.EnumFor
import PyProof.TupleOfGen
import PyProof.ListRange
import PyProof.Rows.SetFrom
import PyProof.FactsAll.subtypes_4
import PyProof.TupleKey
import PyProof.IsRules
import PyProof.RangeFor
import PyProof.FactsAll.set_1
import PyProof.CollectIter
import PyProof.FactsAll.set_2
import KE.KSortAsk
import KE.KSortTup
import PyProof.DictWalks
import PyProof.DictRoadsH
import PyProof.CallStr
import PyProof.Rows.FStr
import PyProof.ToksMono
import PyProof.StrCalls6
import PyProof.ExcBaseAll.ValueError
import PyProof.Rows.TopTwo
import PyProof.ExcAttrAll.ValueError
import KE.KIsAll
import KE.KTryMore
import PyProof.StrLawsTight
import PyProof.Rows.StrRev
import PySem.Challenge.RW_pairwebs_k92_pairings_read
noncomputable section
set_option genSizeOfSpec false
set_option genSizeOf false
set_option compiler.extract_closed false
set_option bootstrap.genMatcherCode false
set_option backward.eqns.nonrecursive false
set_option backward.eqns.deepRecursiveSplit false
set_option Elab.async false
set_option linter.all false
set_option maxRecDepth 100000
set_option maxHeartbeats 16000000
namespace L2
end L2
namespace Py
end Py
open PySem renaming wpAny_bind->Za,wpAny_pure->Ze,mem_of_lookup->ZF,wpAny_holding->ZL,wpAny_field->ZM,wpAny_callSpecial?_slot->ZN,wpAny_call_entry->ZO,wpAny_truthy_bool->ZQ,wpAny_newObj_type->ZR,Shared->Oz,Addr->OA,Value->OB,Program->OF,Heap->OI,World->ON,Comprehension->OU,wpAny_mono->O0,SetTable->O7,Around->Pf,wpAny_Call_Name_kw->Pg,wpAny_pyIter_tuple->Ph,NameKind->Pm,wpAny_seqItems->Pn,wpAny_setState_of->Pq,FuncData->Pr,Builtin->PF,codeAny_builtin->PJ,wpAny_pyIter_list->PL,IsPair->PY,codeAny_mono->P2,wpAny_Call_method_late->P5,call_meets->P6,wpAny_setField_rec->P7,wpAny_passesOwn->P_,Stmt->Qi,sizeLine_eq->Qj,typeIs_str->Qk,wpAny_typeOf->Qm,wpAny_forIn_list->Qn,wpAny_askSetting->Qp,wpAny_ite->QM,wpAny_attempt->QN,codeAny_call_builtin->QP,wpAny_loadPart'->QW,CmpOp->QZ,IsPart->Q_,wpAny_setField->Rb,Keyword->Rl,wpAny_sequenceKey->Rm,IsZip->Rp,wpAny_standAt->Rr,PassesOwn->RB,Result->RL,wpAny_rule->RM,wpAny_execs_nil->RO,codeAny_of_tree->RQ,wpAny_updateSeq_pair->R0,wpAny_runValue->R1,wpAny_setEntries_of->Sd,wpAny_onRaise->Sg,plainId_quiet->Si,ExceptHandler->Sj,wpAny_call->Sk,size_glued->Sn,Operator->Sx,noFill_tuple_add->SK,wpAny_isInstance->SN,BindsTo->S_,wpAny_newFunctionEnv_cells->Tf,isSubtype_type->Tq,seq_tuple_add->TJ,wpAny_getItem_list_slice->TK,wpAny_comprehension_free->TM,evalPart_some->TN,filterMap_getElem?_range->TR,wpAny_newList->TX,wpAny_getItem_str_slice->T6,concat_meets->Ud,seqIndex_neg->Ue,richCompare_meets_room->Ui,codeAny_call_function->Ur,weight_type_call_type->Ut,wpAny_eqIsQuiet_tuple->Uv,builtinLookup_eq_fast->Uw
open PySem.Heap renaming get?_push_of_some->Zb,get?_push_size->Zi,lt_size->Zm,get?_update_self->O8,SameBut->PC,size_push->PN,get?_update_other->Qv,MadeExcOf->SI,IsTuple->Tb,FlyingW->Tc,ExtBut->Tw,IsList->Tx
open List renaming mem_cons_of_mem->Zc,mem_cons_self->Zd,getElem?_eq_some_iff->Zg,mem_cons->Zh,getElem?_eq_getElem->Zj,length_append->Zk,length_map->Zn,getElem?_cons_zero->Zo,all_eq_true->Zp,getElem?_append_right->Zq,getElem?_cons_succ->Zr,mem_map->Zs,not_mem_nil->Zt,size_toArray->Zu,getElem?_append_left->Zv,mem_of_getElem?->Zx,mem_append->ZC,mem_append_right->ZD,length_cons->ZE,exists_cons_of_length_eq_add_one->ZJ,eq_nil_of_length_eq_zero->ZP,nodup_append->ZT,mem_iff_getElem->ZU,map_cons->ZV,getElem?_map->ZW,append_assoc->ZX,mem_filterMap->Z0,length_nil->Z2,zip_cons_cons->Z4,pairwise_cons->Z5,mem_append_left->Z7,getElem?_set_self->Z8,zipWith->OC,range->OD,replicate->OG,toArray->OK,nodup_cons->OS,mem_singleton->OT,length_take->OV,lookup_cons->OW,length_singleton->O9,all_cons->Pa,map_map->Pb,mem_range->Pd,getElem?_set_ne->Pe,pairwise_iff_getElem->Px,length_reverse->PM,filterMap_map->PV,append_nil->P0,nil_append->P1,perm_ext_iff_of_nodup->Qa,nodup_nil->Qb,getElem?_eq_none_iff->Qg,drop_eq_getElem_cons->Qh,forIn_cons->Qo,map_append->Qr,take_sublist->Qu,pairwise_map->Qw,getElem?_zipWith->QC,getElem?_eq_none->QD,length_drop->QE,any_eq_true->QF,perm_middle->QG,getElem_mem->QH,of_mem_zip->QK,filterMap_cons->QL,getD_eq_getElem?_getD->QQ,set_cons_succ->QU,set_cons_zero->QV,reverse_cons->Q3,zip_nil_left->Q4,drop_sublist->Q6,getElem?_take_of_lt->Q7,map_drop->Q9,getElem?_replicate->Rf,length_tail->Rg,ext_getElem->Rh,take_length->Ri,zipWith_cons_cons->Rn,take_of_length_le->Ro,drop_eq_nil_of_le->Rq,foldl_cons->Rt,getElem?_toArray->Rx,take_append_drop->Ry,length->RG,map_eq_cons_iff->RI,set_append_left->RJ,count_le_length->RK,replicate_succ->RP,mem_map_of_mem->RR,map_take->RT,zip_nil_right->RW,lookup_append->RX,mem_filter->So,take_left'->Sv,idxOf_lt_length_of_mem->Sz,length_eraseIdx_of_lt->SG,filterMap_cons_none->SU,filterMap_cons_some->SV,length_filterMap_le->SX,not_of_lt_findIdx->Ta,dropLast_eq_take->Tj,getElem?_reverse->Tn,filterMap_append->Tr,mem_iff_getElem?->Ts,getElem_toArray->Tv,pairwise_append->TC,zip_eq_zipWith->TQ,filterMap_some->TY,filter_sublist->TZ,filter_eq_self->T1,length_pos_iff->T2,map_congr_left->T3,map_filterMap->T_,getElem?_drop->T',count_eq_zero->Ua,flatten_cons->Uh,getElem_drop->Uj,count_append->Ul,tail_sublist->Um,getElem_inj->Uo,zipIdx_cons->Us,mem_nil_iff->UA,mem_flatMap->UB,cons_append->UC,mem_reverse->UD,map_reverse->UE
open Nat renaming le_refl->Zf,le_trans->Zl,ne_of_lt->Zz,lt_of_lt_of_le->ZB,zero_le->ZY,lt_irrefl->OR,lt_succ_self->Ps,le_of_succ_le->P8,ne_of_gt->Qe,le_of_lt->Qx,not_lt->QX,lt_succ_of_le->Q8,le_add_right->Rj,zero_add->Ru,le_add_left->RA,mod_lt->R3,lt_trans->R_,lt_succ_of_lt->Sb,le_of_add_right_le->Tu,le_succ->TL,add_left_cancel->T8,le_succ_of_le->Ux
open Bool renaming false_eq_true->Zw,and_eq_true->ZG,false_ne_true->Z6,true->Ox,false->Oy,eq_iff_iff->Pk,true_and->Ql,and_eq_true_iff->QI,not_eq_true'->Q5,or_eq_true_iff->RS,eq_false_iff->R8,or_eq_true->Sr,not_true->SW
open Array renaming length_toList->ZH,getD_eq_getD_getElem?->OX,getElem?_eq_getElem->O5,getElem?_toList->O6,getElem?_eq_some_iff->P',getElem_toList->RD,getD->SA,getElem?_eq_none->SY,mem_toList_iff->To,toList_append->TH,forIn_toList->TV,getElem_mem->T7,replicate->Uu
open Nat.succ renaming inj->ZI
open PyProof.Rows renaming slot_tuple_getitem->ZK,callWith_type1->OO,step_dedup->Pj,callWith_builtin1->Qs,entry_tuple_getitem->Q1,args_tuple_getitem->Ra,SortKind->Rc,AllBare->Rk,IntsAre->R6,tupleItemsOf_->Sf,tail_any->Sy,IsTup->SR,Subscript_->Tg,subscriptTail_builtinR->Ug
open LawfulBEq renaming eq_of_beq->Z1
open PySem.Heap.SameBut renaming update->Z9
open PySem.SetTable renaming below->OE,sizeAbove->OQ,insertAt->Pu,fill->QT,tooFull->Q2,fits->Ss,toList_insertAt->Su,layClean->Tp,slot->Uk
open PySem.Builtin.Slice renaming slicePlaces->OH,sliceAdjust->OZ,sliceApplied->QB
open PySem.Value renaming none->OJ,type->O3,ref->PK,bool->QA,int->SQ,notImplemented->Th,isInt_shape->T4
open PySem.NameKind renaming cell->OL,free->Qc
open PySem.Builtin.SmallTypes renaming nextOf->OM,ownedTupleIsFree->O',ownedTupleHandOut->QS
open PySem.Builtin.Str renaming occurrences->OP,glued->RF,strKind->SF
open Option.some renaming inj->OY
open Option renaming map_eq_some_iff->O1,isSome_iff_exists->PD,getD_none->T5,bind_some->Ub
open ForInStep renaming yield->O2
open PySem.Obj renaming mapSeq->O4,data_mapFields->PX,isFreed_of_fields->RC,cls_mapFields->Sa,putSet->SO
open PySem.Calls renaming spliced_cons->O_,callWith_builtin->Po,evalArgs_plain->Pz,Constant_str->QO,spliced_nil->Q0,Name_function_global->Sw,call_function_entry->SH
open Int renaming toNat_natCast->Pl,eq_ofNat_of_zero_le->Qt,emod_lt_of_pos->R5,emod_nonneg->SD,fdiv_eq_ediv_of_nonneg->SJ,ediv_one->Tl
open PySem.SetTable.probe renaming go->Pp
open PySem.Txt renaming join->Pt,replace->QJ,split->QR
open PySem.SetTable.layClean renaming free->Pw
open PySem.Str renaming ofString->PH,join->PQ
open PySem.StrLaws renaming join_split->PR,glued_eq_join->PZ,split_free->Tt
open PySem.Builtin.Tuple renaming tupleItemsOf->PU,tupleExact->P4,tupleCompareSizes->Rw
open PySem.Around renaming under_plainId->P9,under_plain->Tz
open PySem.SetTable.below renaming go->Qd
open PySem.F renaming slot_tuple_iterator_next->Qf,slot_zip_next->RH,args_tuple_iterator_next_1->SM,entry_tuple_iterator_next->SS,sub_tuple_frozenset->T9
open PySem.Builtin.Frozenset renaming updateFrom->Qq
open PySem.Heap.IsSliceOf renaming new->Qy
open PySem.Builtin.Int renaming intBits->Qz
open PySem.Shared renaming heap->QY,TypeIs->RN
open PyProof.Rows.F renaming plain_set_update_loop->Rv,entry_set_update_loop->TD
open PySem.Builtin.ObjectAttr renaming bindTo->RE,find->Uy,dataDescriptor?->Uz
open PySem.Builtin.List renaming listExtendWith->RU,listTooLong->R7,listUpdate->Se
open PySem.Code renaming quiet_builtin->RY
open PySem.Heap.UpToSlots renaming of_keeps->R4
open PyProof.Rows.IsTup renaming new->R9
open List.Perm renaming eq_of_pairwise->Sl
open PySem.AutoSeq1 renaming sub_tuple_tuple->Sq
open True renaming intro->SE
open PySem.Builtin.Getset_descriptor renaming descrGet->S0,descrGetter->S6,descrCheckInstance->S8,descrNameAndClass->S9
open Sum renaming inl->Td,inr->Te
open PyProof.Rows.SortSt renaming mk'->TF
open PySem.Builtin renaming bitAnd->Uc,bitOr->Uq
open PySem PySem.Spec PyProof.Rows L2 Py
abbrev Mg:=Str->Option OB
abbrev Vs:=OB->Oz->Prop
abbrev Fg:=PySem.W.Frag
abbrev Lp:=List (OA×Obj)
abbrev Lq:=List (Int×Int)
abbrev Li:=List Int
abbrev La:=List OA
abbrev Lv:=List OB
abbrev Ls:=List Str
abbrev Lx:=List Expr
abbrev Ov:=Option OB
abbrev Av:=Array OB
def Zy:=@decide_eq_false
def ZA:=@decide_eq_true
def ZS:=@of_decide_eq_true
def ZZ:=@or_false
def Z3:=@if_false
variable {us its its' args:Lv}{u cd doc pm cdv ct oc vl vu cls a0:OB}{a it C dx f sl fa acc I pa:OA}{o ob:Obj}{w:ON}{h h' h1 h2 base h0 h3:OI}{α β:Type}{e tg iter r' z ce elt:Expr}{pq pins':Lp}{s s' s2:Oz}{g':Array GenState}{t' n tk mask wanted ep line np:Nat}{d':PySem.Drawn}{ch fp μ μ' F wr μ1 μ0:La}{N ys loose N' W:Ls}{M:Model}{A:Pf}{E Q R E':Vs}{rest es ifs:Lx}{y name qual pe:Str}{K:Fg}{st:Qi}{pos' apos p2 cpos p1 p3 p4 vp tp cp rp hp:Pos}{lo hi:Option Int}{op' op'':QZ}{prog:OF}{mg:Mg}{ps ts ls:Lq}{m:Int}{ks:List (Li×OA)}{scope:Scope}{outer:List Env}{od:Option OA}{osl:Array (Ov)}{items:Av}{ns hs:Li}{XP:(Mg)->OI->Prop}{YP:ON->OI->Prop}{env:Env}{tn:Nat->OI->Prop}{cell bf:Str->Bool}{b1 b2:Bool}{gens:List OU}{fr:List (Option Nat)}{nb:Option (Str×Nat×Pos×Pos)}
namespace L2
abbrev Key:=Sum Int Str
noncomputable def rP:Key->OB->Bool
 | .inl k,v=>Value.isInt k v
 | .inr x,v=>Value.isStrOf x v
noncomputable def Gi(w:ON):Key->Int
 | .inl k=>hashInt k
 | .inr x=>hashStr w x
theorem fX:∀{k:Key} {v:OB},rP k v=Ox->(∃i t,k=Td i/\v=SQ i t)\/(∃x t,k=Te x/\v=Value.str x t)
 | .inl i,v,h=>by obtain⟨t,e⟩:=T4 h;exact .inl ⟨i,t,rfl,e⟩
 | .inr x,v,h=>by obtain⟨t,e⟩:=Value.isStrOf_shape h;exact .inr ⟨x,t,rfl,e⟩
theorem sW(a b:Int):decide ((Td a:Key)=Td b)=(a==b):=by lia
theorem sX(a b:Str):decide ((Te a:Key)=Te b)=decide (a=b):=by lia
theorem sY(a:Int)(b:Str):decide ((Td a:Key)=Te b)=Oy:=Zy λq=>nomatch q
theorem sZ(a:Str)(b:Int):decide ((Te a:Key)=Td b)=Oy:=Zy λq=>nomatch q
noncomputable def s9(prog:OF)(w:ON):PySem.KeyKind prog w Key where
 is:=rP
 hash:=Gi w
 inj:=λv a b ha hb=>by
  rcases fX ha with⟨i,t,rfl,rfl⟩| ⟨x,t,rfl,rfl⟩
  ·rcases fX hb with⟨j,u,rfl,e⟩| ⟨y,u,rfl,e⟩
   ·injection e with e1 _;rw[e1]
   ·exact nomatch e
  ·rcases fX hb with⟨j,u,rfl,e⟩| ⟨y,u,rfl,e⟩
   ·exact nomatch e
   ·injection e with e1 _;rw[e1]
 byValue:=λk v h=>by rcases fX h with⟨i,t,rfl,rfl⟩| ⟨x,t,rfl,rfl⟩<;>rfl
 pyHash:=λhv h=>by
  rcases fX hv with⟨i,t,rfl,rfl⟩| ⟨x,t,rfl,rfl⟩
  ·exact wpAny_pyHash_int h
  ·exact wpAny_pyHash_str h
 eqBool:=λhu hv h=>by
  rcases fX hu with⟨i,t,rfl,rfl⟩| ⟨x,t,rfl,rfl⟩
  ·rcases fX hv with⟨j,u,rfl,rfl⟩| ⟨y,u,rfl,rfl⟩
   ·rw[sW]at h;exact wpAny_eqBool_int h
   ·rw[sY]at h;exact SeqAt.EqAt.int_str i t y u _ _ _ _ h
  ·rcases fX hv with⟨j,u,rfl,rfl⟩| ⟨y,u,rfl,rfl⟩
   ·rw[sZ]at h;exact SeqAt.EqAt.str_int x t j u _ _ _ _ h
   ·rw[sX]at h;exact wpAny_eqBool_str h
 «strs»:=λk x t v h=>by
  rcases fX h with⟨i,u,rfl,e⟩| ⟨y,u,rfl,e⟩
  ·exact nomatch e
  ·injection e with e1 _
   subst e1;cases v<;>rfl
inductive V where
 |non|bl (b:Bool)|int (i:Int)|str (x:Str)|byt (b:Array UInt8)|flt (b:UInt64)|ref (a:OA)|ty (n:String)
 deriving DecidableEq
noncomputable def RelV:V->OB->Prop
 | .non,u=>u=OJ
 | .bl b,u=>u=QA b
 | .int i,u=>∃t,u=SQ i t
 | .str x,u=>∃t,u=Value.str x t
 | .byt b,u=>∃t,u=Value.bytes b t
 | .flt b,u=>∃t,u=Value.float b t
 | .ref a,u=>u=PK a
 | .ty n,u=>u=O3 n
abbrev Vals:List V->Lv->Prop:=Paired RelV
theorem Vals.length{xs:List V}(r:Vals xs us):xs.length=us.length:=Paired.length r
theorem Vals.get:∀{xs:List V} {us:Lv} {i:Nat} {x:V},Vals xs us->xs[i]?=some x->∃u,us[i]?=some u/\RelV x u
 |_,_,_,_,.nil,e=>by simp_all
 |_,_,0,_,.cons r _,e=>by simp_all
 |_,_,i+1,x,.cons _ t,e=>by obtain⟨u,h,H⟩:=Vals.get t (by simpa using e);simp_all
theorem Vals.set{x:V}(r:RelV x u):∀{xs:List V} {us:Lv} (i:Nat),Vals xs us->Vals (xs.set i x) (us.set i u)
 |_,_,_,.nil=>.nil
 |_,_,0,.cons _ t=>.cons r t
 |_,_,i+1,.cons q t=>.cons q (Vals.set r i t)
theorem Vals.append:∀{xs ys:List V} {us ws:Lv},Vals xs us->Vals ys ws->Vals (xs++ys) (us++ws)
 |_,_,_,_,.nil,s=>s
 |_,_,_,_,.cons r t,s=>.cons r (Vals.append t s)
theorem Vals.take:∀{xs:List V} {us:Lv} (n:Nat),Vals xs us->Vals (xs.take n) (us.take n)
 |_,_,0,_=>.nil
 |_,_,_+1,.nil=>.nil
 |_,_,n+1,.cons r t=>.cons r (Vals.take n t)
theorem Vals.drop:∀{xs:List V} {us:Lv} (n:Nat),Vals xs us->Vals (xs.drop n) (us.drop n)
 |_,_,0,r=>r
 |_,_,_+1,.nil=>.nil
 |_,_,n+1,.cons _ t=>Vals.drop n t
noncomputable def yD:Option V->Ov->Prop
 |some v,some u=>RelV v u
 |none,none=>True
 |_,_=>False
def KV{a:Type}:List (a×V)->List (a×OB)->Prop:=Paired λ(p:a×V) (q:a×OB)=>p.1=q.1/\RelV p.2 q.2
noncomputable def kV:Key->V
 | .inl i=>.int i
 | .inr x=>.str x
inductive HO where
 |lst (xs:List V)
 |tup (xs:List V)
 |dK (kvs:List (Key×V))|dT (kvs:List (List Key×V))
 |set (S:Int->Bool) (n:Nat)
 |ins (C dx:OA) (fs:List (Str×V))
 |own (x:OA)
 |xd (fs:List (Str×V))
 |met (f x:OA)
 |rng (lo hi:Int)
 |frz (o:Obj) (u:HO)
 |tbl (ps:Av)
 |ext (φ:OI->Prop)
abbrev Hp:=OA->Option HO
noncomputable def ba(H:Hp)(a:OA)(o:HO):Hp:=λb=>if b=a then some o else H b
theorem bU{H:Hp}{o:HO}:ba H a o a=some o:=by unfold ba;simp_all
theorem aI{H:Hp}{b:OA}{o:HO}(h:b≠a):ba H a o b=H b:=by unfold ba;rw[if_neg h]
theorem bV{H:Hp}{b:OA}{o:HO}(h:H a=some o)(h':H b=none):a≠b:=by lia
def mC(h:OI)(a:OA):Prop:=∃o,h.get? a=some o/\o.dict=none
theorem mC.new(h:OI)(items:Av):mC (h.push {cls:=.type "tuple",data:=.seq items}) h.objs.size:=⟨_,Zi _ rfl,rfl⟩
section
variable (P:OF)(w:ON)
noncomputable def bg(H:Hp)(h:OI)(a:OA):HO->Prop
 | .lst xs=>xs.length<=sizeLine/\∃(its:Lv) (n:Nat),Vals xs its/\h.get? a=some {cls:=.type "list",data:=.seq its.toArray n}
 | .tup xs=>xs.length<=sizeLine/\∃its:Lv,Vals xs its/\SR h a its.toArray/\mC h a
 | .dK k=>k.length<=sizeLine/\(a==sysModules)=Oy/\∃vs,KV k vs/\h.DictOf (s9 P w) a vs
 | .dT k=>k.length<=sizeLine/\(a==sysModules)=Oy/\∃xs:List (List Key×OA×OB),
   Paired (λ(p:List Key×V) (q:List Key×OA×OB)=>p.1=q.1/\H q.2.1=some (.tup (p.1.map kV))/\RelV p.2 q.2.2) k xs/\
   ∃o es ep,h.get? a=some o/\o.ExactDict/\o.data=.dict es ep/\es.toList=xs.map (entryOfKey (tupleKind (s9 P w)))/\(xs.map (·.1)).Nodup
 | .set S n=>h.SetOf (intKind P w) a S n
 | .ins C dx fs=>H dx=some (.own a)/\fs.length<=1000/\dx≠a/\h.get? a=some (PySem.W.instObj C dx)/\
   ∃mA,h.Ns1 dx mA/\(∀f,yD (fs.lookup f) (mA f))/\PySem.Within mA (fs.map (·.1))
 | .own _=>∃o,h.get? a=some o
 | .xd fs=>∃mA,h.Ns1 a mA/\∀f,yD (fs.lookup f) (mA f)
 | .rng lo hi=>∃t u v,h.get? a=some {cls:=.type "range",data:=.fields #[.int lo t,.int hi u,.int 1 v]}
 | .frz o u=>h.get? a=some o/\bg H h a u
 | .tbl ps=>h.get? a=some {cls:=.none,data:=.fields ps}
 | .met f x=>h.get? a=some (PySem.W.methodObj (.ref f) (.ref x))
 | .ext φ=>φ h/\(∃o,h.get? a=some o)/\∀h1 h2:OI,φ h1->(∀o,h1.get? a=some o->h2.get? a=some o)->φ h2
def er(H:Hp)(h:OI):Prop:=∀a o,H a=some o->bg P w H h a o
end
section
variable {P:OF}{H H':Hp}{o:HO}
theorem bg.lt(x:bg P w H h a o):a<h.objs.size:=by
 cases o with
 |lst X=>obtain⟨_,_,_,_,e⟩:=x;exact Zm e
 |tup X=>obtain⟨_,_,_,p,_⟩:=x;exact p.lt
 |dK k=>obtain⟨_,_,_,_,o,_,_,e,_⟩:=x;exact Zm e
 |dT k=>obtain⟨_,_,_,_,o,_,_,e,_⟩:=x;exact Zm e
 |set S n=>obtain⟨o,_,_,_,e,_⟩:=x;exact Zm e
 |ins C d fs=>obtain⟨_,_,_,e,_⟩:=x;exact Zm e
 |own y=>obtain⟨_,e⟩:=x;exact Zm e
 |xd fs=>obtain⟨_,⟨_,_,_,e,_⟩,_⟩:=x;exact Zm e
 |rng lo b=>obtain⟨_,_,_,e⟩:=x;exact Zm e
 |frz O u=>obtain⟨e,_⟩:=x;exact Zm e
 |tbl c=>exact Zm (show h.get? a=some _ from x)
 |met f y=>exact Zm (show h.get? a=some _ from x)
 |ext g=>obtain⟨_,⟨_,e⟩,_⟩:=x;exact Zm e
theorem Paired.mapP{F G:α->β->Prop}:∀{l:List α} {L:List β},Paired F l L->(∀a b,F a b->G a b)->Paired G l L
 |_,_,.nil,_=>.nil
 |_,_,.cons r t,f=>.cons (f _ _ r) (Paired.mapP t f)
theorem bg.stay(x:bg P w H h a o)(k:∀b u,(b=a\/H b=some (.own a))->h.get? b=some u->h'.get? b=some u)
  (A:∀b,H b=some (.own a)->H' b=some (.own a)) (B:∀b xs,H b=some (.tup xs)->H' b=some (.tup xs)):bg P w H' h' a o:=by
 induction o with
 |lst xs=>obtain⟨z,i,n,r,e⟩:=x;exact⟨z,_,n,r,k _ _ (.inl rfl) e⟩
 |tup xs=>obtain⟨z,i,r,⟨O,e,c⟩,D,l,j⟩:=x;exact⟨z,_,r,⟨_,k _ _ (.inl rfl) e,c⟩,_,k _ _ (.inl rfl) l,j⟩
 |dK K=>obtain⟨z,y,vs,r,O,g,E,e,c⟩:=x;exact⟨z,y,_,r,_,_,_,k _ _ (.inl rfl) e,c⟩
 |dT K=>obtain⟨z,y,xs,r,O,g,E,e,c⟩:=x;exact⟨z,y,_,Paired.mapP r λp q z=>⟨z.1,B _ _ z.2.1,z.2.2⟩,_,_,_,k _ _ (.inl rfl) e,c⟩
 |set S n=>obtain⟨O,g,E,t,e,c⟩:=x;exact⟨_,_,_,t,k _ _ (.inl rfl) e,c⟩
 |ins C G fs=>obtain⟨d,z,ne,e,M,⟨F,g,E,m,c⟩,r⟩:=x;exact⟨A _ d,z,ne,k _ _ (.inl rfl) e,_,⟨_,_,_,k _ _ (.inr d) m,c⟩,r⟩
 |own y=>obtain⟨O,e⟩:=x;exact⟨_,k _ _ (.inl rfl) e⟩
 |xd fs=>obtain⟨M,⟨F,g,E,e,c⟩,r⟩:=x;exact⟨_,⟨_,_,_,k _ _ (.inl rfl) e,c⟩,r⟩
 |rng lo J=>obtain⟨t,u,v,e⟩:=x;exact⟨t,u,v,k _ _ (.inl rfl) e⟩
 |frz O u I=>obtain⟨e,q⟩:=x;exact⟨k _ _ (.inl rfl) e,I q⟩
 |tbl L=>exact k a _ (.inl rfl) x
 |met f y=>exact k a _ (.inl rfl) x
 |ext N=>obtain⟨p,⟨o,e⟩,s⟩:=x;exact⟨s _ _ p λo q=>k _ _ (.inl rfl) q,⟨o,k _ _ (.inl rfl) e⟩,s⟩
theorem er.lt(x:er P w H h)(e:H a=some o):a<h.objs.size:=(x a o e).lt
theorem er.fresh(x:er P w H h)(e:h.objs.size<=a):H a=none:=by
 cases q:H a with
 |none=>rfl
 |some u=>exact absurd (ZB (x.lt q) e) (OR _)
theorem er.kept(x:er P w H h)(k:∀b u,h.get? b=some u->h'.get? b=some u):er P w H h':=λa o e=>
 (x a o e).stay (λb u _ q=>k b u q) (λ_ q=>q) λ_ _ q=>q
theorem er.laid(x:er P w H h)(k:∀b u,h.get? b=some u->h'.get? b=some u)(g:h.objs.size<=a)(new:bg P w (ba H a o) h' a o):er P w (ba H a o) h':=λb u e=>by
 have f:=x.fresh g;by_cases d:b=a
 ·subst d;rw[bU]at e;simp_all
 ·rw[aI d]at e;exact(x b u e).stay (λc v _ q=>k c v q) (λc q=>by rw[aI (bV q f)];exact q) λc X q=>by rw[aI (bV q f)];exact q
end
def Rd(H:Hp)(a:OA)(u:HO):Prop:=H a=some u\/∃o,H a=some (.frz o u)
theorem Rd.ok{P:OF}{H:Hp}{u:HO}(r:Rd H a u)(x:er P w H h):bg P w H h a u:=by
 rcases r with r| ⟨o,r⟩
 ·exact x a u r
 ·obtain⟨_,q⟩:=x a _ r;exact q
noncomputable def FW:Option HO->Prop
 |some (.lst _)=>True
 |some (.dK _)=>True
 |some (.dT _)=>True
 |some (.set _ _)=>True
 |some (.ins _ _ _)=>True
 |some (.ext _)=>True
 |_=>False
section
variable {P:OF}{H:Hp}{x e:OA}{o':HO}
theorem er.write(ok:er P w H h)(m:FW (H x))(i:e=x\/H e=some (.own x))(k:∀b u,b≠e->h.get? b=some u->h'.get? b=some u)(a:∃u,h'.get? e=some u)
  (new:bg P w (ba H x o') h' x o'):er P w (ba H x o') h':=λb u q=>by
 have n:∀c y,H c=some (.own y)->c≠x:=λc y r z=>by subst z;rw[r]at m;exact m
 have N:∀c X,H c=some (.tup X)->c≠x:=λc X r z=>by subst z;rw[r]at m;exact m
 by_cases d:b=x
 ·subst d;rw[bU]at q;simp_all
 ·rw[aI d]at q;by_cases f:b=e
  ·have Q:H b=some (.own x):=by lia
   rw[q]at Q;cases Q;obtain⟨v,j⟩:=a;exact⟨v,by lia⟩
  ·refine(ok b u q).stay (λc v g r=>k c v ?_ r) (λc r=>by rw[aI (n c b r)];exact r) λc X r=>by rw[aI (N c _ r)];exact r
   grind
end
structure Un (fs ex:La)(H H':Hp)(h h':OI):Prop where
 keep:∀b o,h.get? b=some o->H b=none->b∉fs->b∉ex->h'.get? b=some o
 slot:∀b o,h.get? b=some o->H b=none->b∈fs->b∉ex->∃sl,h'.get? b=some {o with slots:=sl}
 free:∀b o,h.get? b=some o->H b=none->b∉ex->H' b=none
 there:∀b o,h.get? b=some o->b∉ex->∃o',h'.get? b=some o'
 tups:∀b xs,H b=some (.tup xs)->H' b=some (.tup xs)
 frzs:∀b o u,H b=some (.frz o u)->H' b=some (.frz o u)
 tbls:∀b ps,H b=some (.tbl ps)->∃more,H' b=some (.tbl (ps++more))
section
variable {fs fs' ex ex':La}{H H1 H2:Hp}{x e:OA}{o:HO}
theorem Un.any(u:Un fs ex H H1 h h1){b:OA}(q:h.get? b=some ob)(n:H b=none)(c:b∉ex):∃sl,h1.get? b=some {ob with slots:=sl}:=by
 by_cases a:b∈fs
 ·exact u.slot b _ q n a c
 ·exact⟨_,u.keep b _ q n a c⟩
theorem Un.kept(k:∀b u,h.get? b=some u->h'.get? b=some u):Un fs ex H H h h':=
 ⟨λb o q _ _ _=>k b _ q,λb o q _ _ _=>⟨_,k b _ q⟩,λ_ _ _ n _=>n,λb o q _=>⟨_,k b _ q⟩,λ_ _ q=>q,λ_ _ _ q=>q,λ_ p q=>⟨#[],by simp_all⟩⟩
theorem Un.refl:Un fs ex H H h h:=Un.kept λ_ _ q=>q
theorem Un.laid(k:∀b u,h.get? b=some u->h'.get? b=some u)(hp:h.objs.size<=a)(hn:H a=none):Un fs ex H (ba H a o) h h' where
 keep:=λb u q _ _ _=>k b u q
 slot:=λb u q _ _ _=>⟨_,k b u q⟩
 free:=λb u q n _=>by rw[aI (Zz (ZB (Zm q) hp))];exact n
 there:=λb u q _=>⟨u,k b u q⟩
 tups:=λb xs q=>by rw[aI (bV q hn)];exact q
 frzs:=λb u xs q=>by rw[aI (bV q hn)];exact q
 tbls:=λb ps q=>⟨#[],by rw[aI (bV q hn),q];simp⟩
theorem Un.write(m:FW (H x))(g:e=x\/H e=some (.own x))(k:∀b u,b≠e->h.get? b=some u->h'.get? b=some u)(d:∃u,h'.get? e=some u):Un fs ex H (ba H x o) h h':=by
 have f:∀b,H b=none->b≠x:=λb n z=>by subst z;rw[n]at m;exact m
 have c:∀b,H b=none->b≠e:=λb n z=>by lia
 have a:∀b u,H b=some u->¬FW (some u)->b≠x:=λb u q N z=>by lia
 refine⟨λb u q n _ _=>k b u (c b n) q,λb u q n _ _=>⟨_,k b u (c b n) q⟩,λb u q n _=>by rw[aI (f b n)];exact n,λb u q _=>?_,
  λb X q=>by rw[aI (a b _ q λz=>z)];exact q,λb u X q=>by rw[aI (a b _ q λz=>z)];exact q,λb p q=>⟨#[],by rw[aI (a b _ q λz=>z),q];simp⟩⟩
 grind
end
noncomputable def N2(h:OI)(H:Hp):La:=(OD h.objs.size).filter λa=>(H a).isSome
noncomputable def gz(h:OI)(H:Hp):OI:=PySem.W.hideAll h (N2 h H)
theorem Gj(h:OI)(H:Hp):(gz h H).objs.size=h.objs.size:=PySem.W.hideAll_size _ _
theorem Gk{H:Hp}{b:OA}(e:h.get? b=some o)(n:H b=none):(gz h H).get? b=some o:=
 PySem.W.hideAll_get _ e λa=>by have q:=(So.mp a).2;simp_all
theorem mD{H:Hp}{b:OA}(e:(gz h H).get? b=some o):h.get? b=some o/\H b=none:=by
 have E:=PySem.W.of_hideAll _ e;refine⟨E,?_⟩;cases q:H b with
 |none=>rfl
 |some x=>have z:(gz h H).get? b=none:=PySem.W.hideAll_none _ (So.mpr ⟨Pd.mpr (Zm E),by simp[q]⟩);simp_all
structure Mod (K:Fg)(mg:Mg)(base:OI):Prop where
 kin:K.In base
 glob:base.Ns mainGlobals mg
 blt:∃mb,base.Ns builtinsNs mb/\∀x:Str,x≠"__name__"->mb x=bootBuiltins x
 nolimit:base.NoLimit
structure Cx where
 prog:OF
 w:ON
 K:Fg
 mg:Mg
 base:OI
 A:Pf
 N:Ls
 s₀:Oz
 H₀:Hp
 env:Env
 outer:List Env
 stack:List Env
 ex:La
 fn:Str->Bool
 calm:Bool
 pn:Lp
 xe:Vs
noncomputable def bW(l:List Env):La:=l.filterMap (·.frame)
abbrev Cx.fs(X:Cx):La:=bW X.outer
def yE(s:Scope)(x:Str):Prop:=s.names.lookup x=some .local\/s.names.lookup x=some .cell\/s.names.lookup x=some .free
def Loc(s:Scope)(x:Str):Prop:=s.names.lookup x=some .local\/s.names.lookup x=some .cell
def Look(env:Env)(h:OI)(m:Mg)(x:Str)(u:OB):Prop:=
 (env.kindOf x=some .local/\m x=some u)\/((env.kindOf x=some .cell\/env.kindOf x=some .free)/\∃c,env.cells.lookup x=some c/\h.IsCell c (some u))
structure Cx.Ok (X:Cx):Prop where
 mod:Mod X.K X.mg X.base
 kind:X.env.scope.kind=.function
 glob:X.env.globals=mainGlobals
 blt:X.env.builtins=builtinsNs
 above:X.s₀.heap.objs.size<=X.env.locals
 inj:∀x y c,X.env.cells.lookup x=some c->X.env.cells.lookup y=some c->x=y
 has:∀x,(X.env.kindOf x=some .cell\/X.env.kindOf x=some .free)->∃c,X.env.cells.lookup x=some c
 cab:∀x c,X.fn x=Ox->X.env.cells.lookup x=some c->X.s₀.heap.objs.size<=c
 hd:X.calm=Ox->X.A.handled=none
 frames:X.A.frames=some X.stack
 stk:X.stack=X.outer\/(X.stack=X.env::X.outer/\X.env.frame=some X.env.locals)
 exf:∀b∈X.ex,b≠X.env.locals/\∀x c,X.env.cells.lookup x=some c->c≠b
 bs:∀b o,X.base.get? b=some o->X.s₀.heap.get? b=some o/\X.H₀ b=none
 bsz:X.base.objs.size<=X.s₀.heap.objs.size
 noex:∀b o,X.base.get? b=some o->b∉X.ex
 exfs:∀b∈X.ex,b∉X.fs
 funs:X.s₀.heap.FunFrames X.base X.outer
 frf:∀b∈X.fs,X.H₀ b=none
structure Inv (X:Cx)(pq:Lp)(σ:List (Option V))(H:Hp)(s:Oz):Prop where
 ok:X.Ok
 os:s.os=X.s₀.os
 bare:Rk s.gens
 base:Un X.fs X.ex X.H₀ H X.s₀.heap s.heap
 loc:∃m,s.heap.Ns X.env.locals m/\∀(i:Nat) (x:Str) (v:V),X.N[i]?=some x->σ[i]?=some (some v)->yE X.env.scope x->∃u,RelV v u/\Look X.env s.heap m x u
 cell:∀x c,X.env.cells.lookup x=some c->∃v,s.heap.IsCell c v
 free:H X.env.locals=none
 freeC:∀x c,X.env.cells.lookup x=some c->H c=none
 pin:∀p∈X.pn++pq,s.heap.get? p.1=some p.2/\H p.1=none/\p.1≠X.env.locals/\p.1∉X.fs/\∀v,p.2.data≠.cell v
 hok:er X.prog X.w H s.heap
 len:σ.length=X.N.length
section
variable {X:Cx}{σ:List (Option V)}{H H':Hp}
theorem Cx.Ok.nofr(ok:X.Ok){b:OA}(e:X.base.get? b=some o):b∉X.fs:=λh=>by have:=(ok.funs.mem h).1;simp_all
theorem Inv.bs(I:Inv X pq σ H s):∀b o,X.base.get? b=some o->s.heap.get? b=some o/\H b=none:=λb o e=>
 ⟨I.base.keep b o (I.ok.bs b o e).1 (I.ok.bs b o e).2 (I.ok.nofr e) (I.ok.noex b o e),I.base.free b o (I.ok.bs b o e).1 (I.ok.bs b o e).2 (I.ok.noex b o e)⟩
theorem Inv.bk(I:Inv X pq σ H s):∀b o,X.base.get? b=some o->s.heap.get? b=some o:=λb o e=>(I.bs b o e).1
theorem Inv.mod(I:Inv X pq σ H s):Mod X.K X.mg X.base:=I.ok.mod
theorem Inv.kIn(I:Inv X pq σ H s):X.K.In s.heap:=I.ok.mod.kin.keeps I.bk
theorem Inv.lt(I:Inv X pq σ H s):X.env.locals<s.heap.objs.size:=(by obtain⟨_,h,_⟩:=I.loc;exact(h.lt))
theorem Inv.sz(I:Inv X pq σ H s):X.s₀.heap.objs.size<=s.heap.objs.size:=Zl I.ok.above (Qx I.lt)
theorem Inv.nofs(I:Inv X pq σ H s)(h:s.heap.objs.size<=a):a∉X.fs:=λb=>by obtain⟨_,o,c,_⟩:=I.ok.funs.mem b;exact absurd (ZB (Zm c) (Zl I.sz h)) (OR _)
theorem Inv.cne(I:Inv X pq σ H s):∀x c,X.env.cells.lookup x=some c->c≠X.env.locals:=λx c e z=>by obtain⟨v,o,f,d⟩:=I.cell x c e;obtain⟨m,⟨O,b,E,a,h,_⟩,_⟩:=I.loc;simp_all
theorem Inv.funs(I:Inv X pq σ H s):s.heap.FunFrames X.base X.outer:=by
 have all:∀(l:List _),(∀b∈bW l,b∈X.fs)->X.s₀.heap.FunFrames X.base l->s.heap.FunFrames X.base l:=by
  intro l
  induction l with
  |nil=>intro _ _;trivial
  |cons E r n=>intro d i;obtain⟨g,⟨L,o,c,j,k,f⟩,m⟩:=i;have h:=d L (by unfold bW;simp_all);obtain⟨sl,e⟩:=I.base.slot L o k (I.ok.frf L h) h λz=>I.ok.exfs L z h;exact⟨g,⟨L,_,c,j,e,f⟩,n (λb a=>d b (by unfold bW;simp only[QL,c];exact Zc _ a)) m⟩
 exact all _ (λ_ a=>a) I.ok.funs
theorem Inv.stack(I:Inv X pq σ H s):s.heap.FunFrames X.base X.stack:=by
 rcases I.ok.stk with e| ⟨e,h⟩
 ·rw[e];exact I.funs
 ·rw[e];obtain⟨m,a,_⟩:=I.loc;exact .cons (by rw[I.ok.kind];decide) h a (Heap.get?_none_of_le (Zl I.ok.bsz I.ok.above)) I.funs
theorem Inv.stkSub(I:Inv X pq σ H s):∀b∈bW X.stack,b∈X.env.locals::X.fs:=λb h=>by
 rcases I.ok.stk with e| ⟨e,a⟩
 ·simp_all
 ·rw[e]at h;unfold bW at h;rw[QL,a]at h;exact h
theorem Inv.stkFree(I:Inv X pq σ H s):∀b∈bW X.stack,H b=none:=λb h=>by
 rcases Zh.mp (I.stkSub b h)with e|h
 ·rw[e];exact I.free
 ·obtain⟨_,o,a,_⟩:=I.ok.funs.mem h;exact I.base.free b o a (I.ok.frf b h) λz=>I.ok.exfs b z h
theorem Inv.step{J:Array GenState}{t':Nat}{Q:PySem.Drawn}(I:Inv X pq σ H s)
  (a:∀b∈ch,(b∈X.ex\/X.s₀.heap.objs.size<=b)/\b≠X.env.locals/\(∀x c,X.env.cells.lookup x=some c->c≠b)/\∀p∈X.pn++pq,p.1≠b)
  (K:∀b o,b≠X.env.locals->b∉X.fs->b∉ch->s.heap.get? b=some o->H b=none->h'.get? b=some o)
  (S:∀b o,b≠X.env.locals->b∈X.fs->b∉ch->s.heap.get? b=some o->H b=none->∃sl,h'.get? b=some {o with slots:=sl}) (f:∀b o,b∉ch->s.heap.get? b=some o->H b=none->H' b=none)
  (t:∀b o,b∉ch->s.heap.get? b=some o->∃o',h'.get? b=some o')
  (T:∀b xs,H b=some (.tup xs)->H' b=some (.tup xs)) (F:∀b o u,H b=some (.frz o u)->H' b=some (.frz o u)) (O:∀b ps,H b=some (.tbl ps)->∃more,H' b=some (.tbl (ps++more)))
  (ns:∀m,s.heap.Ns X.env.locals m->h'.Ns X.env.locals m) (D:er X.prog X.w H' h') (U:Rk J):
  Inv X pq σ H' {s with heap:=h',gens:=J,drawn:=Q,toks:=t'}:=by
 have y:∀b o,X.s₀.heap.get? b=some o->b≠X.env.locals:=λb o e=>Zz (ZB (Zm e) I.ok.above)
 have N:∀b o,X.s₀.heap.get? b=some o->b∉X.ex->b∉ch:=λb o e h g=>by
  rcases(a b g).1 with z|z
  ·exact h z
  ·exact absurd (ZB (Zm e) z) (OR _)
 have C:∀x c,X.env.cells.lookup x=some c->∀v,s.heap.IsCell c v->h'.IsCell c v:=λx c e v Z=>by obtain⟨o,j,B⟩:=Z;exact(by
  have w:c∉ch:=λz=>(a c z).2.2.1 x c e rfl;by_cases L:c∈X.fs
  ·obtain⟨sl,q⟩:=S c o (I.cne x c e) L w j (I.freeC x c e);exact⟨_,q,B⟩
  ·exact⟨o,K c o (I.cne x c e) L w j (I.freeC x c e),B⟩)
 refine⟨I.ok,I.os,U,⟨λb o e n g h=>?_,λb o e n g h=>?_,λb o e n h=>?_,λb o e h=>?_,λb xs e=>T b xs (I.base.tups b xs e),λb o xs e=>F b o xs (I.base.frzs b o xs e),λb ps e=>?_⟩,?_,λx c e=>?_,?_,λx c e=>?_,λp Y=>?_,D,I.len⟩
 ·exact K b o (y b o e) g (N b o e h) (I.base.keep b o e n g h) (I.base.free b o e n h)
 ·obtain⟨sl,E⟩:=I.base.slot b o e n g h;obtain⟨G,A⟩:=S b _ (y b o e) g (N b o e h) E (I.base.free b o e n h);exact⟨G,A⟩
 ·obtain⟨o',E⟩:=I.base.there b o e h;exact f b o' (N b o e h) E (I.base.free b o e n h)
 ·obtain⟨o',E⟩:=I.base.there b o e h;exact t b o' (N b o e h) E
 ·obtain⟨m1,E⟩:=I.base.tbls b ps e
  grind
 ·obtain⟨m,W,V⟩:=I.loc;refine⟨m,ns m W,λi x v E A R=>?_⟩;obtain⟨u,r,l⟩:=V i x v E A R;refine⟨u,r,?_⟩;rcases l with l| ⟨k,c,e,z⟩
  ·exact .inl l
  ·exact .inr ⟨k,c,e,C x c e _ z⟩
 ·obtain⟨v,z⟩:=I.cell x c e;exact⟨v,C x c e v z⟩
 ·obtain⟨m,⟨o,_,_,j,_⟩,_⟩:=I.loc;exact f _ o (λz=>(a _ z).2.1 rfl) j I.free
 ·obtain⟨v,o,j,B⟩:=I.cell x c e;exact f c o (λz=>(a c z).2.2.1 x c e rfl) j (I.freeC x c e)
 ·obtain⟨e,n,ne,nf,d⟩:=I.pin p Y
  grind
theorem Inv.un{t':Nat}(I:Inv X pq σ H s)(u:Un X.fs [] H H' s.heap h')(c:er X.prog X.w H' h'):Inv X pq σ H' {s with heap:=h',toks:=t'}:=by obtain⟨m,⟨o,l,k,f,r⟩,_⟩:=id I.loc;obtain⟨sl,i⟩:=u.any f I.free (by simp);exact I.step (ch:=[]) (λ_ z=>nomatch z) (λb o _ a _ e n=>u.keep b o e n a (by simp)) (λb o _ a _ e n=>u.slot b o e n a (by simp)) (λb o _ e n=>u.free b o e n (by simp)) (λb o _ e=>u.there b o e (by simp)) u.tups u.frzs u.tbls (λM j=>by obtain⟨O,g,E,h,R⟩:=j;rw[f]at h;cases h;exact⟨_,_,_,i,R⟩) c I.bare
theorem Inv.call{t':Nat}{D:PySem.Drawn}(I:Inv X pq σ H s)(u:Un (bW X.stack) ch H H' s.heap h')(g:er X.prog X.w H' h')(q:Rk g')
  (a:∀b∈ch,(b∈X.ex\/X.s₀.heap.objs.size<=b)/\b≠X.env.locals/\(∀x c,X.env.cells.lookup x=some c->c≠b)/\∀p∈X.pn++pq,p.1≠b):
  Inv X pq σ H' {s with heap:=h',gens:=g',drawn:=D,toks:=t'}:=by
 obtain⟨m,⟨o,y,w,j,r⟩,_⟩:=id I.loc;obtain⟨sl,f⟩:=u.any j I.free λz=>(a _ z).2.1 rfl;exact I.step a (λb o f l h e n=>u.keep b o e n (λz=>(Zh.mp (I.stkSub b z)).elim f l) h) (λb o _ _ h e n=>u.any e n h) (λb o h e n=>u.free b o e n h) (λb o h e=>u.there b o e h) u.tups u.frzs u.tbls (λM v=>by obtain⟨O,k,E,d,R⟩:=v;rw[j]at d;cases d;exact⟨_,_,_,f,R⟩) g q
theorem Inv.turned{t':Nat}(I:Inv X pq σ H s)(k:∀b o,b≠it->s.heap.get? b=some o->h'.get? b=some o)(y:H it=none)(d:it≠X.env.locals)
  (h1:it∈X.ex\/X.s₀.heap.objs.size<=it) (j:∀x c,X.env.cells.lookup x=some c->c≠it) (l:∀p∈X.pn++pq,p.1≠it):Inv X pq σ H {s with heap:=h',toks:=t'}:=by
 refine I.step (ch:=[it]) (λb w=>?_) (λb o _ _ h e _=>k b o (λz=>h (by simp[z])) e) (λb o _ _ h e _=>⟨_,k b o (λz=>h (by simp[z])) e⟩) (λ_ _ _ _ n=>n)
  (λb o h e=>⟨o,k b o (λz=>h (by simp[z])) e⟩) (λ_ _ e=>e) (λ_ _ _ e=>e) (λb P e=>⟨#[],by simp_all⟩) (λm f=>?_) (λb u e=>?_) I.bare
 ·grind
 ·obtain⟨o,i,E,g,r⟩:=f;exact⟨o,_,_,k _ o (Ne.symm d) g,r⟩
 ·refine(I.hok b u e).stay (λc v h q=>k c v ?_ q) (λ_ q=>q) λ_ _ q=>q
  grind
theorem Inv.tok(I:Inv X pq σ H s)(t:Nat):Inv X pq σ H {s with toks:=t}:=I.un Un.refl I.hok
theorem Inv.kept{t':Nat}(I:Inv X pq σ H s)(k:∀b u,s.heap.get? b=some u->h'.get? b=some u):Inv X pq σ H {s with heap:=h',toks:=t'}:=I.un (Un.kept k) (I.hok.kept k)
theorem Inv.laid{o:HO}{t':Nat}(I:Inv X pq σ H s)(k:∀b u,s.heap.get? b=some u->h'.get? b=some u)(h:s.heap.objs.size<=a)(new:bg X.prog X.w (ba H a o) h' a o):
  Inv X pq σ (ba H a o) {s with heap:=h',toks:=t'}:=I.un (Un.laid k h (I.hok.fresh h)) (I.hok.laid k h new)
theorem Inv.write{x e:OA}{o:HO}{t':Nat}(I:Inv X pq σ H s)(m:FW (H x))(a:e=x\/H e=some (.own x))(k:∀b u,b≠e->s.heap.get? b=some u->h'.get? b=some u)(h:∃u,h'.get? e=some u)
  (new:bg X.prog X.w (ba H x o) h' x o):Inv X pq σ (ba H x o) {s with heap:=h',toks:=t'}:=I.un (Un.write m a k h) (I.hok.write m a k h new)
theorem Inv.pins_of(I:Inv X pq σ H s)(h:∀p∈pins',s.heap.get? p.1=some p.2/\H p.1=none/\p.1≠X.env.locals/\p.1∉X.fs/\∀v,p.2.data≠.cell v):Inv X pins' σ H s:=
 ⟨I.ok,I.os,I.bare,I.base,I.loc,I.cell,I.free,I.freeC,λp a=>(ZC.mp a).elim (λz=>I.pin p (Z7 _ z)) (h p),I.hok,I.len⟩
theorem yF(h:N.Nodup){i j:Nat}{x:Str}(a:N[i]?=some x)(b:N[j]?=some x):i=j:=by obtain⟨H,e⟩:=Zg.mp a;obtain⟨c,E⟩:=Zg.mp b;exact(Uo h).mp (e.trans E.symm)
theorem yG{M:Model}{A:Pf}{E:Vs}{i:Nat}{x:Str}{v:V}{Q:Unit->Oz->Prop}(I:Inv X pq σ H s)(hN:X.N.Nodup)(P:X.N[i]?=some x)(w:Loc X.env.scope x)(r:RelV v u)
  (h:∀s',Inv X pq (σ.set i (some v)) H s'->(∃a,PC a s.heap s'.heap/\(a=X.env.locals\/X.env.cells.lookup x=some a))->Q () s') (hf:X.fn x=Ox\/X.env.scope.names.lookup x=some .local:=by first|exact .inl rfl|exact .inr rfl|assumption):wpAny M A (storeName X.env x u) Q E s:=by
 obtain⟨m,U,hl⟩:=id I.loc;have D:i<σ.length:=by rw[I.len];exact(Zg.mp P).1
 have cne:=I.cne
 have t:∀{a:OA} {K:OI},(∃o,s.heap.get? a=some o/\H a=none)->PC a s.heap K->er X.prog X.w H K:=λ{a K} ha f b ob e=>by
  obtain⟨_,_,B⟩:=ha;refine(I.hok b ob e).stay (λc W l q=>(f.2 c ?_).trans q) (λ_ q=>q) λ_ _ q=>q;rintro rfl;rcases l with rfl|l
  ·rw[B]at e;cases e
  ·rw[B]at l;cases l
 rcases w with L|L
 ·refine wpAny_storeName_local L U (λK Y f=>?_) (by rw[I.ok.kind];rfl);obtain⟨oL,_,_,Z,_⟩:=id U;refine h _ ⟨I.ok,I.os,I.bare,⟨λb o e n F w=>?_,λb o e n F w=>?_,I.base.free,λb o e w=>?_,I.base.tups,I.base.frzs,I.base.tbls⟩,⟨_,Y,λj y v' g C T=>?_⟩,λy c e=>?_,I.free,I.freeC,λp hp=>?_,t ⟨oL,Z,I.free⟩ f,by simpa using I.len⟩ ⟨_,f,.inl rfl⟩
  ·exact(f.2 b (Zz (ZB (Zm e) I.ok.above))).trans (I.base.keep b o e n F w)
  ·obtain⟨sl,g⟩:=I.base.slot b o e n F w;exact⟨sl,(f.2 b (Zz (ZB (Zm e) I.ok.above))).trans g⟩
  ·obtain⟨o',g⟩:=I.base.there b o e w;exact⟨o',(f.2 b (Zz (ZB (Zm e) I.ok.above))).trans g⟩
  ·by_cases J:j=i
   ·subst J;rw[P]at g;cases g;rw[Z8 D]at C;cases C;exact⟨u,r,.inl ⟨L,by simp⟩⟩
   ·rw[Pe (Ne.symm J)]at C;obtain⟨u',r',q⟩:=hl j y v' g C T;refine⟨u',r',?_⟩;rcases q with⟨k,e⟩| ⟨k,c,e,z⟩
    ·refine .inl ⟨k,?_⟩;have:y≠x:=λe=>J (yF hN g (e▸P));simp[this,e]
    ·exact .inr ⟨k,c,e,z.sameBut f (cne y c e)⟩
  ·obtain⟨W,z⟩:=I.cell y c e;exact⟨W,z.sameBut f (cne y c e)⟩
  ·obtain⟨e,n,ne,nf,d⟩:=I.pin p hp;exact⟨(f.2 p.1 ne).trans e,n,ne,nf,d⟩
 ·have G:X.fn x=Ox:=by grind
  obtain⟨c,l⟩:=I.ok.has x (.inl L);obtain⟨W,z⟩:=I.cell x c l;refine wpAny_storeName_cell I.ok.kind L l z (λK N f=>?_);obtain⟨oc,R,hocd⟩:=id z;refine h {s with heap:=K} ⟨I.ok,I.os,I.bare,⟨λb o e n F w=>?_,λb o e n F w=>?_,I.base.free,λb o e w=>?_,I.base.tups,I.base.frzs,I.base.tbls⟩,⟨m,U.sameBut f (Ne.symm (cne x c l)),λj y v' g C T=>?_⟩,λy S e=>?_,I.free,I.freeC,λp hp=>?_,t ⟨oc,R,I.freeC x c l⟩ f,by simpa using I.len⟩ ⟨c,f,.inr l⟩
  ·exact(f.2 b (Zz (ZB (Zm e) (I.ok.cab x c G l)))).trans (I.base.keep b o e n F w)
  ·obtain⟨sl,g⟩:=I.base.slot b o e n F w;exact⟨sl,(f.2 b (Zz (ZB (Zm e) (I.ok.cab x c G l)))).trans g⟩
  ·obtain⟨o',g⟩:=I.base.there b o e w;exact⟨o',(f.2 b (Zz (ZB (Zm e) (I.ok.cab x c G l)))).trans g⟩
  ·by_cases J:j=i
   ·subst J;rw[P]at g;cases g;rw[Z8 D]at C;cases C;exact⟨u,r,.inr ⟨.inl L,c,l,N⟩⟩
   ·rw[Pe (Ne.symm J)]at C;obtain⟨u',r',q⟩:=hl j y v' g C T;refine⟨u',r',?_⟩;rcases q with q| ⟨k,S,e,z'⟩
    ·exact .inl q
    ·refine .inr ⟨k,S,e,z'.sameBut f ?_⟩;rintro rfl;exact J (yF hN g (I.ok.inj _ _ _ e l▸P))
  ·by_cases O:S=c
   ·subst O;exact⟨_,N⟩
   ·obtain⟨w2,z2⟩:=I.cell y S e;exact⟨w2,z2.sameBut f O⟩
  ·obtain⟨e,n,ne,nf,d⟩:=I.pin p hp;refine⟨(f.2 p.1 ?_).trans e,n,ne,nf,d⟩;intro q;rw[q,R]at e;exact d W (by grind)
theorem s_{M:Model}{A:Pf}{E:Vs}{i:Nat}{x:Str}{v:V}{Q:Unit->Oz->Prop}(I:Inv X pq σ H s)(b:X.N.Nodup)(d:X.N[i]?=some x)(e:Loc X.env.scope x)(r:RelV v u)
  (h:∀s',Inv X pq (σ.set i (some v)) H s'->Q () s') (c:X.fn x=Ox\/X.env.scope.names.lookup x=some .local:=by first|exact .inl rfl|exact .inr rfl|assumption):wpAny M A (storeName X.env x u) Q E s:=
 yG I b d e r (λs' a _=>h _ a) c
theorem Inv.call'(I:Inv X pq σ H s)(e:s'.os=s.os)(u:Un (bW X.stack) ch H H' s.heap s'.heap)(a:er X.prog X.w H' s'.heap)(d:Rk s'.gens)
  (h:∀b∈ch,(b∈X.ex\/X.s₀.heap.objs.size<=b)/\b≠X.env.locals/\(∀x c,X.env.cells.lookup x=some c->c≠b)/\∀p∈X.pn++pq,p.1≠b):Inv X pq σ H' s':=by
 obtain⟨f,g,D,t,o⟩:=s';subst(e);exact I.call u a d h
end
abbrev XK:=OB->Option OA->Hp->Prop
abbrev St:=List (Option V)
abbrev VK:=V->Hp->Prop
abbrev TE:=St->Hp->VK->Prop
abbrev TT:=St->Hp->(Bool->Hp->Prop)->Prop
abbrev TA:=St->Hp->(List V->Hp->Prop)->Prop
set_option genInjectivity false in
structure Ends where
 nx:St->Hp->Prop
 rt:VK
 bk:St->Hp->Prop:=λ_ _=>False
 ct:St->Hp->Prop:=λ_ _=>False
abbrev TS:=Ends->St->Hp->Prop
def EP(X:Cx)(p:Lp)(σ:St)(Q:VK)(u:OB)(s:Oz):Prop:=∃v H',Inv X p σ H' s/\RelV v u/\Q v H'
def TP(X:Cx)(p:Lp)(σ:St)(Q:Bool->Hp->Prop)(b:Bool)(s:Oz):Prop:=∃H',Inv X p σ H' s/\Q b H'
def AP(X:Cx)(p:Lp)(σ:St)(Q:List V->Hp->Prop)(u:Lv)(s:Oz):Prop:=∃vs H',Inv X p σ H' s/\Vals vs u/\Q vs H'
def SP(X:Cx)(p:Lp)(D:Ends)(f:Flow)(s:Oz):Prop:=
 match f with
 | .next=>∃σ' H',Inv X p σ' H' s/\D.nx σ' H'
 | .brk=>∃σ' H',Inv X p σ' H' s/\D.bk σ' H'
 | .cont=>∃σ' H',Inv X p σ' H' s/\D.ct σ' H'
 | .ret u=>∃v σ' H',Inv X p σ' H' s/\RelV v u/\D.rt v H'
def PE(X:Cx)(e:Expr)(t:TE):Prop:=
 ∀(pq:Lp) (s:Oz) (σ:St) (H:Hp) (Q:VK),Inv X pq σ H s->t σ H Q->wpAny (model X.prog X.w) X.A (eval e X.env) (EP X pq σ Q) X.xe s
def PT(X:Cx)(e:Expr)(t:TT):Prop:=
 ∀(pq:Lp) (s:Oz) (σ:St) (H:Hp) (Q:Bool->Hp->Prop),Inv X pq σ H s->t σ H Q->wpAny (model X.prog X.w) X.A (isTrue e X.env (eval e X.env)) (TP X pq σ Q) X.xe s
def PW(X:Cx)(e:Expr)(t:TT):Prop:=
 ∀(whole:Sem OB) (pq:Lp) (s:Oz) (σ:St) (H:Hp) (Q:Bool->Hp->Prop),Inv X pq σ H s->t σ H Q->wpAny (model X.prog X.w) X.A (isTrue e X.env whole) (TP X pq σ Q) X.xe s
theorem PW.pt{X:Cx}{t:TT}(h:PW X e t):PT X e t:=h _
def PA(X:Cx)(es:Lx)(t:TA):Prop:=
 ∀(pos:Pos) (pq:Lp) (s:Oz) (σ:St) (H:Hp) (Q:List V->Hp->Prop),Inv X pq σ H s->t σ H Q->wpAny (model X.prog X.w) X.A (spliced (backTo pos (starEach es X.env))) (AP X pq σ Q) X.xe s
def PS(X:Cx)(st:Qi)(t:TS):Prop:=
 ∀(pq:Lp) (s:Oz) (σ:St) (H:Hp) (D:Ends),Inv X pq σ H s->t D σ H->wpAny (model X.prog X.w) X.A (exec st X.env) (SP X pq D) X.xe s
def eL(X:Cx)(st:List Qi)(t:TS):Prop:=
 ∀(pq:Lp) (s:Oz) (σ:St) (H:Hp) (D:Ends),Inv X pq σ H s->t D σ H->wpAny (model X.prog X.w) X.A (execs st X.env) (SP X pq D) X.xe s
theorem aT{t:Sem α}{Q b:α->Oz->Prop}(h:wpAny M A t Q E s)(H:∀a s,Q a s->b a s):wpAny M A t b E s:=O0 h H λ_ _ x=>x
section
variable {X:Cx}
noncomputable def tf(i:Nat):TE:=λσ H Q=>∃v,σ[i]?=some (some v)/\Q v H
noncomputable def tC(v:V):TE:=λ_ H Q=>Q v H
theorem ti{i:Nat}{x:Str}{pos:Pos}(j:X.N[i]?=some x)(p:yE X.env.scope x)(f:(x==("__debug__":Str))=Oy:=by decide)(d:(x==("__classdict__":Str))=Oy:=by decide):PE X (.Name x pos) (tf i):=by
 intro P s q H Q I h;obtain⟨v,e,h⟩:=h;obtain⟨m,o,k⟩:=I.loc;obtain⟨u,r,l⟩:=k i x v j e p;have fin:EP X _ _ Q u s:=⟨v,H,I,r,h⟩;rcases l with⟨b,n⟩| ⟨b,c,g,a⟩
 ·exact wpAny_Name (wpAny_loadName_local I.ok.kind b o n fin) f
 ·rcases b with b|b
  ·exact wpAny_Name (wpAny_loadName_cell I.ok.kind b g a fin) f
  ·exact wpAny_Name (wpAny_loadName_free I.ok.kind b g a fin d) f
theorem jM{i j pos}:PE X (.Constant (.int i) j pos) (tC (.int i)):=λ_ _ _ H _ I h=>wpAny_Constant_int ⟨.int i,H,I.tok _,⟨_,rfl⟩,h⟩
theorem rQ{b j pos}:PE X (.Constant (.bool b) j pos) (tC (.bl b)):=λ_ _ _ H _ I h=>Constant_bool ⟨.bl b,H,I,rfl,h⟩
theorem tj{j pos}:PE X (.Constant .none j pos) (tC .non):=λ_ _ _ H _ I h=>Constant_none ⟨.non,H,I,rfl,h⟩
theorem tm{x j pos}:PE X (.Constant (.str x) j pos) (tC (.str x)):=λ_ _ _ H _ I h=>QO ⟨.str x,H,I.tok _,⟨_,rfl⟩,h⟩
def Gl(X:Cx)(x:Str):Prop:=X.env.kindOf x=some .globalImplicit
theorem jN{E:Vs}{σ:St}{H:Hp}{x:Str}{pos:Pos}(I:Inv X pq σ H s)(b:Gl X x)(c:X.mg x=some u)(h:Q u s)
  (a:(x==("__debug__":Str))=Oy:=by decide):wpAny (model X.prog X.w) X.A (eval (.Name x pos) X.env) Q E s:=
 Sw I.ok.kind b (Calls.loadGlobal_global (by rw[I.ok.glob];exact I.mod.glob.keeps I.bk) c h) a
theorem fC{E:Vs}{σ:St}{H:Hp}{x:Str}{pos:Pos}(I:Inv X pq σ H s)(d:Gl X x)(e:X.mg x=none)(g:bootBuiltins x=some u)(h:Q u s)
  (f:x≠"__name__":=by decide) (c:(x==("__debug__":Str))=Oy:=by decide):wpAny (model X.prog X.w) X.A (eval (.Name x pos) X.env) Q E s:=by
 obtain⟨m,a,b⟩:=I.mod.blt;exact Sw I.ok.kind d (Calls.loadGlobal_builtin (by rw[I.ok.glob];exact I.mod.glob.keeps I.bk) e (by rw[I.ok.blt];exact a.keeps I.bk) ((b x f).trans g) h) c
theorem yH{x:Str}{v:V}{pos:Pos}(b:Gl X x)(c:X.mg x=some u)(r:RelV v u)(a:(x==("__debug__":Str))=Oy:=by decide):PE X (.Name x pos) (tC v):=
 λ_ _ _ H _ I h=>jN I b c ⟨v,H,I,r,h⟩ a
theorem yI{x:Str}{v:V}{pos:Pos}(b:Gl X x)(c:X.mg x=none)(e:bootBuiltins x=some u)(r:RelV v u)(d:x≠"__name__":=by decide)(a:(x==("__debug__":Str))=Oy:=by decide):PE X (.Name x pos) (tC v):=
 λ_ _ _ H _ I h=>fC I b c e ⟨v,H,I,r,h⟩ d a
variable {a b:Expr}{ta tb:TE}{pos:Pos}
noncomputable def tB(t:TE):TT:=λσ H Q=>t σ H λx H1=>∃c,x=.bl c/\Q c H1
theorem tq{t:TE}(h:PE X e t)(b:∀w,isTrue e X.env w=(do let v <-w;standAt e.pos;holding [v] (truthy v)):=by intro _;rfl):PT X e (tB t):=by intro p s f H Q I hw;refine isTrue_plain (aT (h p s f H _ I hw) λv S ⟨x,H1,a,r,c⟩=>?_) (b _);obtain⟨d,rfl,q⟩:=c;cases r;exact ZQ ⟨H1,a,q⟩
variable {tA tB':TT}
noncomputable def Gm(t u:TT):TT:=λσ H Q=>t σ H λc H1=>if c=Ox then u σ H1 Q else Q Oy H1
noncomputable def N3(t u:TT):TT:=λσ H Q=>t σ H λc H1=>if c=Ox then Q Ox H1 else u σ H1 Q
noncomputable def Gn(t:TT):TT:=λσ H Q=>t σ H λc H1=>Q (!c) H1
theorem mE(b:PT X a tA):PW X (.BoolOp .And [a] pos) tA:=by
 intro w p s d H Q I h;refine isTrue_and (aT (b _ s _ H Q I h) λc S e=>?_);cases c with
 |true=>exact isTrue_and_nil e
 |false=>exact e
theorem jO(b:PT X a tA):PW X (.BoolOp .Or [a] pos) tA:=by
 intro w p s d H Q I h;refine isTrue_or (aT (b _ s _ H Q I h) λc S e=>?_);cases c with
 |false=>exact isTrue_or_nil e
 |true=>exact e
theorem tr(e:PT X a tA)(f:PW X (.BoolOp .And (b::rest) pos) tB'):PW X (.BoolOp .And (a::b::rest) pos) (Gm tA tB'):=by
 intro w p s g H Q I h;refine isTrue_and (aT (e _ s _ H _ I h) λc S z=>?_);obtain⟨_,d,q⟩:=z;cases c with
 |true=>exact f _ _ _ _ _ Q d q
 |false=>exact⟨_,d,q⟩
theorem rR(e:PT X a tA)(f:PW X (.BoolOp .Or (b::rest) pos) tB'):PW X (.BoolOp .Or (a::b::rest) pos) (N3 tA tB'):=by
 intro w p s g H Q I h;refine isTrue_or (aT (e _ s _ H _ I h) λc S z=>?_);obtain⟨_,d,q⟩:=z;cases c with
 |true=>exact⟨_,d,q⟩
 |false=>exact f _ _ _ _ _ Q d q
theorem jP(b:PT X a tA):PT X (.UnaryOp .Not a pos) (Gn tA):=by intro p s c H Q I h;exact isTrue_not (b _ s _ H _ I h)
noncomputable def yJ(t tb:TE):TE:=λσ H Q=>t σ H λx H1=>∃c,x=.bl c/\if c=Ox then tb σ H1 Q else Q (.bl Oy) H1
noncomputable def Gp(t tb:TE):TE:=λσ H Q=>t σ H λx H1=>∃c,x=.bl c/\if c=Ox then Q (.bl Ox) H1 else tb σ H1 Q
theorem jQ{op}{t:TE}(h:PE X a t):PE X (.BoolOp op [a] pos) t:=λp s b H Q I hw=>BoolOp_one (h _ s _ H Q I hw)
theorem tt(e:PE X a ta)(f:PE X (.BoolOp .And (b::rest) pos) tb):PE X (.BoolOp .And (a::b::rest) pos) (yJ ta tb):=by
 intro p s g H Q I h;refine BoolOp_and (aT (e _ s _ H _ I h) λv S z=>?_);obtain⟨x,_,d,r,q⟩:=z;obtain⟨c,rfl,q⟩:=q;subst r;refine ZQ ?_;cases c with
 |true=>exact f _ _ _ _ Q d q
 |false=>exact⟨.bl _,_,d,rfl,q⟩
theorem yK(e:PE X a ta)(f:PE X (.BoolOp .Or (b::rest) pos) tb):PE X (.BoolOp .Or (a::b::rest) pos) (Gp ta tb):=by
 intro p s g H Q I h;refine BoolOp_or (aT (e _ s _ H _ I h) λv S z=>?_);obtain⟨x,_,d,r,q⟩:=z;obtain⟨c,rfl,q⟩:=q;subst r;refine ZQ ?_;cases c with
 |false=>exact f _ _ _ _ Q d q
 |true=>exact⟨.bl _,_,d,rfl,q⟩
noncomputable def N4(t:TT)(T tb:TE):TE:=λσ H Q=>t σ H λc H1=>if c=Ox then T σ H1 Q else tb σ H1 Q
theorem Gq{c:Expr}(i:PT X c tA)(f:PE X a ta)(g:PE X b tb):PE X (.IfExp c a b pos) (N4 tA ta tb):=by
 intro p s j H Q I h;refine wpAny_IfExp (aT (i _ s _ H _ I h) λd S z=>?_);obtain⟨_,e,q⟩:=z;cases d with
 |true=>exact f _ _ _ _ Q e q
 |false=>exact g _ _ _ _ Q e q
end
def c8(K:Fg)(H:Hp)(a:OA)(xs:List V):Prop:=
 Rd H a (.lst xs)\/
  ∃(o:Obj) (its:Av) (n:Nat),K.lookup a=some o/\o.cls=.type "list"/\o.dict=none/\o.data=.seq its n/\its.size<=sizeLine/\Vals xs its.toList
def b7(K:Fg)(H:Hp)(a:OA)(xs:List V):Prop:=
 Rd H a (.tup xs)\/
  ∃(o:Obj) (its:Av) (n:Nat),K.lookup a=some o/\o.cls=.type "tuple"/\o.dict=none/\o.data=.seq its n/\its.size<=sizeLine/\Vals xs its.toList
noncomputable def Gr:OB->Option V
 | .none=>some .non
 | .bool b=>some (.bl b)
 | .int i _=>some (.int i)
 | .str x _=>some (.str x)
 | .bytes b _=>some (.byt b)
 | .float b _=>some (.flt b)
 | .ref a=>some (.ref a)
 | .type n=>some (.ty n)
 |_=>none
theorem RelV.abs{x:V}(r:RelV x u):Gr u=some x:=by
 cases x with
 |non=>cases r;rfl
 |bl _=>cases r;rfl
 |int _=>obtain⟨t,rfl⟩:=r;rfl
 |str _=>obtain⟨t,rfl⟩:=r;rfl
 |byt _=>obtain⟨t,rfl⟩:=r;rfl
 |flt _=>obtain⟨t,rfl⟩:=r;rfl
 |ref _=>cases r;rfl
 |ty _=>cases r;rfl
theorem RelV.inj{x y:V}(r:RelV x u)(q:RelV y u):x=y:=OY (r.abs.symm.trans q.abs)
theorem Vals.inj:∀{xs ys:List V} {us:Lv},Vals xs us->Vals ys us->xs=ys
 |_,_,_,.nil,.nil=>rfl
 |_,_,_,.cons r t,.cons R T=>by rw[r.inj R,Vals.inj t T]
section
variable {X:Cx}{σ:St}{H:Hp}{xs ys:List V}
theorem c8.of(h:H a=some (.lst xs)):c8 K H a xs:=.inl (.inl h)
theorem b7.of(h:H a=some (.tup xs)):b7 K H a xs:=.inl (.inl h)
theorem Inv.list(I:Inv X pq σ H s)(h:c8 X.K H a xs):∃its:Lv,Vals xs its/\PlainL s.heap a its.toArray/\xs.length<=sizeLine:=by
 rcases h with h| ⟨o,its,n,c,b,hd,d,f,r⟩
 ·obtain⟨z,its,n,r,e⟩:=h.ok I.hok;exact⟨_,r,⟨_,n,e,rfl,rfl,rfl⟩,z⟩
 ·refine⟨_,r,⟨o,n,I.kIn a o c,b,hd,by simp_all⟩,?_⟩;have e:=r.length;simp_all
theorem Inv.tuple(I:Inv X pq σ H s)(h:b7 X.K H a xs):∃its:Lv,Vals xs its/\SR s.heap a its.toArray/\xs.length<=sizeLine:=by
 rcases h with h| ⟨o,its,n,c,b,_,d,f,r⟩
 ·obtain⟨z,its,r,p,_⟩:=h.ok I.hok;exact⟨_,r,p,z⟩
 ·refine⟨_,r,⟨o,I.kIn a o c,b,n,by simp_all⟩,?_⟩;have e:=r.length;simp_all
theorem Inv.noD(I:Inv X pq σ H s)(h:b7 X.K H a xs):mC s.heap a:=by
 rcases h with h| ⟨o,i,n,c,d,b,e,f,r⟩
 ·obtain⟨z,i,r,p,q⟩:=h.ok I.hok;exact q
 ·exact⟨o,I.kIn a o c,b⟩
theorem Inv.list_inj(I:Inv X pq σ H s)(h:c8 X.K H a xs)(h':c8 X.K H a ys):xs=ys:=by
 obtain⟨b,r,⟨o,n,e,_,_,d⟩,_⟩:=I.list h;obtain⟨i,R,⟨O,N,E,_,_,D⟩,_⟩:=I.list h';have:b=i:=by simp_all
 subst this;exact r.inj R
theorem Inv.tuple_inj(I:Inv X pq σ H s)(h:b7 X.K H a xs)(h':b7 X.K H a ys):xs=ys:=by
 obtain⟨b,r,⟨o,e,_,n,d⟩,_⟩:=I.tuple h;obtain⟨i,R,⟨O,E,_,N,D⟩,_⟩:=I.tuple h';have:b=i:=by simp_all
 subst this;exact r.inj R
end
section
variable {X:Cx}{σ:St}{H:Hp}
end
section
variable {X:Cx}{rest:List Qi}{t u:TS}{te:TE}{pos:Pos}
noncomputable def rS:TS:=λD σ H=>D.nx σ H
noncomputable def Gs(t u:TS):TS:=λD σ H=>t {D with nx:=u D} σ H
theorem mF:eL X [] rS:=λ_ _ a H _ I h=>RO ⟨_,H,I,h⟩
theorem fY(h1:PS X st t)(b:eL X rest u):eL X (st::rest) (Gs t u):=by
 intro p s e H D I h;refine wpAny_execs_cons (aT (h1 _ s _ H _ I h) λf S q=>?_);cases f with
 |next=>obtain⟨c,d,a,q⟩:=q;exact b _ _ _ _ D a q
 |ret v=>exact q
 |brk=>exact q
 |cont=>exact q
noncomputable def tx:TS:=λD σ H=>D.bk σ H
noncomputable def yL:TS:=λD σ H=>D.ct σ H
theorem mG:PS X (.Pass pos) rS:=λ_ _ a H _ I h=>wpAny_Pass ⟨_,H,I,h⟩
theorem Gu:PS X (.Break pos) tx:=λ_ _ a H _ I h=>wpAny_Break ⟨_,H,I,h⟩
theorem Gv:PS X (.Continue pos) yL:=λ_ _ a H _ I h=>wpAny_Continue ⟨_,H,I,h⟩
theorem Inv.quiet{σ:St}{H:Hp}(I:Inv X pq σ H s):interactive X.env=Oy:=by simp[interactive,I.ok.kind]
noncomputable def yM(t:TE):TS:=λD σ H=>t σ H λ_ H1=>D.nx σ H1
theorem mH(b:PE X e te)(hs:swapsWith e none pos.line X.env=pure Oy:=by rfl):PS X (.Expr e pos) (yM te):=by intro p s c H D I h;exact wpAny_Expr_any (aT (b _ s _ H _ I h) λv S z=>by obtain⟨x,_,a,_,q⟩:=z;exact(⟨_,_,a,q⟩)) I.quiet hs
noncomputable def Gw(t:TE):TS:=λD σ H=>t σ H D.rt
theorem tz(b:PE X e te):PS X (.Return (some e) pos) (Gw te):=by intro p s c H D I h;exact wpAny_Return_some (aT (b _ s _ H _ I h) λv S z=>by obtain⟨x,_,a,r,q⟩:=z;exact(⟨x,_,_,a,r,q⟩))
noncomputable def yN:TS:=λD _ H=>D.rt .non H
theorem mI:PS X (.Return none pos) yN:=λ_ _ a H _ I h=>wpAny_Return_none ⟨.non,_,H,I,rfl,h⟩
noncomputable def Gx(c:TT)(t u:TS):TS:=λD σ H=>c σ H λb H1=>if b=Ox then t D σ H1 else u D σ H1
theorem rT{c:Expr}{a b:List Qi}{T:TT}(i:PT X c T)(f:eL X a t)(g:eL X b u):PS X (.If c a b pos) (Gx T t u):=by
 intro p s j H D I h;refine wpAny_If (aT (i _ s _ H _ I h) λd S z=>?_);obtain⟨_,e,q⟩:=z;cases d with
 |true=>exact f _ _ _ _ D e q
 |false=>exact g _ _ _ _ D e q
noncomputable def tH:TS:=λ_ _ _=>False
theorem Gy{s:List Qi}:eL X s tH:=λ_ _ _ _ _ _ h=>h.elim
end
abbrev TG:=V->St->Hp->(St->Hp->Prop)->Prop
abbrev rV:=List V->St->Hp->(St->Hp->Prop)->Prop
def PG(X:Cx)(target:Expr)(t:TG):Prop:=
 ∀(pq:Lp) (s:Oz) (σ:St) (H:Hp) (v:V) (u:OB) (Q:St->Hp->Prop),Inv X pq σ H s->RelV v u->t v σ H Q->
  wpAny (model X.prog X.w) X.A (assign target X.env u) (λ_ s'=>∃σ' H',Inv X pq σ' H' s'/\Q σ' H') X.xe s
def yO(X:Cx)(ts:Lx)(t:rV):Prop:=
 ∀(pq:Lp) (s:Oz) (σ:St) (H:Hp) (vs:List V) (us:Lv) (Q:St->Hp->Prop),Inv X pq σ H s->Vals vs us->t vs σ H Q->
  wpAny (model X.prog X.w) X.A (assignInOrder ((assignEach ts X.env).map (·.2)) us) (λ_ s'=>∃σ' H',Inv X pq σ' H' s'/\Q σ' H') X.xe s
abbrev mJ:=V->V->V->Hp->(Hp->Prop)->Prop
def tJ(X:Cx)(t:mJ):Prop:=
 ∀(pq:Lp) (s:Oz) (σ:St) (H:Hp) (o i v:V) (O I u:OB) (Q:Hp->Prop),Inv X pq σ H s->RelV o O->RelV i I->RelV v u->t o i v H Q->
  wpAny (model X.prog X.w) X.A (setItem O I u) (λ_ s'=>∃H',Inv X pq σ H' s'/\Q H') X.xe s
section
variable {X:Cx}{pos:Pos}
noncomputable def et(i:Nat):TG:=λv σ H Q=>Q (σ.set i (some v)) H
theorem mK{i:Nat}{x:Str}(b:X.N.Nodup)(d:X.N[i]?=some x)(e:Loc X.env.scope x)(c:X.fn x=Ox\/X.env.scope.names.lookup x=some .local:=by first|exact .inl rfl|exact .inr rfl|assumption):PG X (.Name x pos) (et i):=by intro p s f H v u Q I r h;exact wpAny_assign_Name (s_ I b d e r (λS a=>⟨_,H,a,h⟩) c)
noncomputable def yP:rV:=λvs σ H Q=>vs=[]/\Q σ H
noncomputable def rW(t:TG)(u:rV):rV:=λvs σ H Q=>∃v r,vs=v::r/\t v σ H λσ' H'=>u r σ' H' Q
theorem mL:yO X [] yP:=by intro p s a H vs u Q I r h;obtain⟨e,h⟩:=h;exact assignInOrder_nil ⟨_,H,I,h⟩
theorem Gz{t:TG}{u:rV}(h1:PG X e t)(b:yO X es u)
  (hs:(assignEach (e::es) X.env).map (·.2)=assign e X.env::(assignEach es X.env).map (·.2):=by rfl):yO X (e::es) (rW t u):=by
 intro p s c H vs U Q I r h;obtain⟨v,V,E,h⟩:=h;subst E;cases r with
 |cons r R=>rw[hs];exact assignInOrder_cons (aT (h1 _ s _ H _ _ _ I r h) λ_ S z=>by obtain⟨_,_,a,q⟩:=z;exact(b _ _ _ _ _ _ Q a R q))
noncomputable def yQ(K:Fg)(n:Nat)(t:rV):TG:=λv σ H Q=>∃a xs,v=.ref a/\b7 K H a xs/\xs.length=n/\t xs σ H Q
theorem tK{k:Nat}{t:rV}(d:X.calm=Ox)(h:yO X es t)
  (g:(assignEach es X.env).length=n:=by rfl) (c:(assignEach es X.env).findIdx? (·.1)=none:=by rfl):PG X (.Tuple es k pos) (yQ X.K n t):=by
 intro P s w H v u Q I r hw;obtain⟨a,x,E,i,f,hw⟩:=hw;subst E;subst r;obtain⟨m,R,j,q⟩:=I.tuple i;exact assign_Tuple_tuple (I.ok.hd d) j (by simp[g,<-f,R.length]) c λp l=>h _ _ _ H _ _ Q (I.kept (t':=s.toks) λb o e=>l b o (Zz (Zm e)) e) (by omega) hw
noncomputable def GA(to T:TE)(t:mJ):TG:=λv σ H Q=>to σ H λo H1=>T σ H1 λi H2=>t o i v H2 λa=>Q σ a
theorem tM{o i:Expr}{to T:TE}{t:mJ}(f:PE X o to)(e:PE X i T)(hs:tJ X t)
  (l:∀v,assign (.Subscript o i pos) X.env v=(do
   let O <-holding [v] (eval o X.env)
   let a <-holding [v,O] (eval i X.env)
   standAt pos
   holding [v,O,a] (setItem O a v)
   release [v,O,a] []):=by intro _;rfl):PG X (.Subscript o i pos) (GA to T t):=by
 intro p s w H v u Q I r h;refine Za (ZL (aT (f _ s _ H _ I h) λO S z=>?_));obtain⟨x,_,b,R,q⟩:=z;exact Za (ZL (aT (e _ _ _ _ _ b q) λa m z=>z.elim λy z=>z.elim λ_ z=>z.elim λc z=>z.elim λk g=>Za (Rr (Za (ZL (aT (hs _ _ _ _ x y v _ _ u _ c R k r g) λ_ n z=>by obtain⟨_,d,j⟩:=z;exact(wpAny_release ⟨_,_,d,j⟩)))))))
noncomputable def mM(t:TE)(g:TG):TS:=λD σ H=>t σ H λx H1=>g x σ H1 D.nx
theorem jR{t:TE}{g:TG}(b:PE X e t)(c:PG X tg g)(hs:swapsWithSole [tg] e pos.line X.env=pure Oy:=by rfl)(hw:swappedStores [tg] e X.env=pure none:=by rfl)
  (h1:(assignEach [tg] X.env).map (·.2)=[assign tg X.env]:=by rfl):PS X (.Assign [tg] e pos) (mM t g):=by
 intro p s f H D I h;refine wpAny_Assign_stores (aT (b _ s _ H _ I h) λv S z=>?_) hs hw;obtain⟨x,_,a,r,Q⟩:=z;rw[h1];exact aT (c _ _ _ _ x v _ a r Q) λ_ d q=>q
theorem jS{i:Nat}{x:Str}{t:TE}(c:X.N.Nodup)(g:X.N[i]?=some x)(j:Loc X.env.scope x)(d:PE X e t)(hs:swapsWith e (some (.Name x pos')) pos.line X.env=pure Oy:=by rfl)(f:X.fn x=Ox\/X.env.scope.names.lookup x=some .local:=by first|exact .inl rfl|exact .inr rfl|assumption):
  PS X (.Assign [.Name x pos'] e pos) (mM t (et i)):=by
 intro p s l H D I h;exact wpAny_Assign_Name (aT (d _ s _ H _ I h) λv S z=>by obtain⟨y,_,a,r,q⟩:=z;exact(s_ a c g j r (λk b=>⟨_,_,b,q⟩) f)) hs
end
section
variable {X:Cx}{pos:Pos}
noncomputable def tN(c:TT)(tb:TS):TS:=λD σ H=>∃W:Nat->St->Hp->Prop,(∃m,W m σ H)/\∀m σ H,W m σ H->
 c σ H λb H1=>if b=Ox then ∃N:St->Hp->Prop,(∀σ' H',N σ' H'->∃M,M<m/\W M σ' H')/\tb {D with nx:=N,ct:=N,bk:=D.nx} σ H1 else D.nx σ H1
theorem GB{c:Expr}{body:List Qi}{T:TT}{tb:TS}(u:RB (model X.prog X.w) X.A X.env X.xe)(z:PT X c T)(y:eL X body tb):PS X (.While c body [] pos) (tN T tb):=by
 intro p s F H D I h;obtain⟨W,⟨M,C⟩,turn⟩:=h;refine wpAny_While (codeAny_whileLoop (λn S=>∃g l,Inv X p g l S/\W n g l) ?_ M ⟨F,H,I,C⟩);rintro n A ⟨d,H1,x,E⟩;refine P_ u (aT (z p A d H1 _ x (turn n d H1 E)) λb B Z=>?_);obtain⟨o,r,q⟩:=Z;cases b with
 |true=>
  obtain⟨N,t,q⟩:=q;rw[if_pos rfl];refine P_ u (aT (y p B d o _ r q) λf G Q=>?_);cases f with
  |next=>obtain⟨a,e,i,k⟩:=Q;obtain⟨m,j,w⟩:=t a e k;exact⟨m,j,a,e,i,w⟩
  |cont=>obtain⟨a,e,i,k⟩:=Q;obtain⟨m,j,w⟩:=t a e k;exact⟨m,j,a,e,i,w⟩
  |brk=>exact Q
  |ret v=>exact Q
 |false=>rw[if_neg Z6];exact RO ⟨d,o,r,q⟩
end
set_option genInjectivity false in
structure It where
 go:Nat->Hp->Prop
 yld:Nat->Hp->V->Hp->Prop
 stop:Nat->Hp->Prop
def dH(X:Cx)(P:Lp)(H:Hp)(b:OA):Prop:=
 H b=none/\b≠X.env.locals/\b∉X.fs/\(b∈X.ex\/X.s₀.heap.objs.size<=b)/\(∀x c,X.env.cells.lookup x=some c->c≠b)/\∀p∈X.pn++P,p.1≠b
theorem Inv.fpOk{X:Cx}{σ:St}{H a:Hp}{b:OA}(I:Inv X pq σ H s)(h:s.heap.objs.size<=b)(d:a b=none):dH X pq a b:=by
 refine⟨d,Qe (ZB I.lt h),I.nofs h,.inr (Zl I.sz h),λx c e z=>?_,λp f z=>?_⟩
 ·obtain⟨v,q⟩:=I.cell x c e;exact absurd (ZB q.lt (by simp_all)) (OR _)
 ·exact absurd (ZB (Zm (I.pin p f).1) (by simp_all)) (OR _)
structure Turn (P:OF)(w:ON)(K:Fg)(tg:Expr)(J:It)(fp:La)(it:OA)(tn:Nat->OI->Prop):Prop where
 mem:it∈fp
 obj:∀i h,tn i h->∀b∈fp,∃o,h.get? b=some o/\∀v,o.data≠.cell v
 keep:∀i h h',tn i h->(∀b∈fp,∀o,h.get? b=some o->h'.get? b=some o)->tn i h'
 item:∀(X:Cx),X.prog=P->X.w=w->X.K=K->X.calm=Ox->∀(i:Nat) (pq:Lp) (s:Oz) (σ:St) (H:Hp) (E:Vs),Inv X pq σ H s->(∀b∈fp,dH X pq H b)->tn i s.heap->J.go i H->
  wpAny (model P w) X.A (pyNext (.ref it)) (λr s1=>∃u,r=some u/\
   wpAny (model P w) X.A (letOwnedTupleGo tg (.ref it) u) (λ_ s2=>∃x H',Inv X pq σ H' s2/\RelV x u/\J.yld i H x H'/\tn (i+1) s2.heap/\∀b∈fp,H' b=none) E s1) E s
 done:∀(X:Cx),X.prog=P->X.w=w->X.K=K->X.calm=Ox->∀(i:Nat) (pq:Lp) (s:Oz) (σ:St) (H:Hp) (E:Vs),Inv X pq σ H s->(∀b∈fp,dH X pq H b)->tn i s.heap->J.stop i H->
  wpAny (model P w) X.A (pyNext (.ref it)) (λr s1=>r=none/\Inv X pq σ H s1) E s
 self:∀(A:Pf) (i:Nat) (s:Oz) (Q:Vs) (E:Vs),tn i s.heap->Q (.ref it) s->wpAny (model P w) A (pyIter (.ref it)) Q E s
abbrev TI:=St->Hp->(It->Hp->Prop)->Prop
def FX(X:Cx)(p:Lp)(σ:St)(t:Expr)(R:It->Hp->Prop)(i:OB)(s2:Oz):Prop:=
 ∃(it:OA) (fp:La) (tn:Nat->OI->Prop) (J:It) (H':Hp),i=.ref it/\Inv X p σ H' s2/\Turn X.prog X.w X.K t J fp it tn/\tn 0 s2.heap/\(∀b∈fp,dH X p H' b)/\R J H'
def PI(X:Cx)(t i:Expr)(w:TI):Prop:=
 ∀(pq:Lp) (s:Oz) (σ:St) (H:Hp) (R:It->Hp->Prop),Inv X pq σ H s->w σ H R->
  wpAny (model X.prog X.w) X.A (eval i X.env) (λv S=>wpAny (model X.prog X.w) X.A (pyIter v) (FX X pq σ t R) X.xe S) X.xe s
theorem jT{n:String}{vs:Av}{Q:Unit->Oz->Prop}(b:s.heap.get? it=some o)(H:o.cls=.type n)(a:o.data=.fields vs)
  (c:["enumerate","zip","dict_itemiterator","dict_reverseitemiterator","odict_iterator","itertools.zip_longest","itertools.pairwise"].contains n=Oy) (h:Q () s):wpAny M A (letOwnedTupleGo tg (.ref it) u) Q E s:=by
 cases tg<;>first
  |exact Ze h
  | (cases u<;>first
    |exact Ze h
    | (refine Za (wpAny_load b ?_)
       rw[H,a];show wpAny M A (if(["enumerate","zip","dict_itemiterator","dict_reverseitemiterator","odict_iterator","itertools.zip_longest","itertools.pairwise"].contains n&&vs[0]?==some _)=Ox then _ else _) Q E s;rw[if_neg (by lia)];exact Ze h))
noncomputable def FY(K:Fg)(a:OA):It:=
 ⟨λi H=>∃xs x,c8 K H a xs/\xs[i]?=some x,λi H x H'=>H'=H/\∀xs,c8 K H a xs->xs[i]?=some x,λi H=>∃xs,c8 K H a xs/\xs.length<=i⟩
noncomputable def GC(K:Fg)(a:OA):It:=
 ⟨λi H=>∃xs x,b7 K H a xs/\xs[i]?=some x,λi H x H'=>H'=H/\∀xs,b7 K H a xs->xs[i]?=some x,λi H=>∃xs,b7 K H a xs/\xs.length<=i⟩
noncomputable def yR(l:Int)(n:Nat):It:=⟨λi _=>i<n,λi H x H'=>H'=H/\x=.int (l+i),λi _=>n<=i⟩
theorem GD{P:OF}(a it:OA):Turn P w K tg (FY K a) [it] it (λi h=>h.IsListIter it a i) where
 mem:=by simp
 obj:=λi h st b hb=>by
  have e:=by simpa using hb
  obtain⟨o,e,c,d⟩:=st;simp_all
 keep:=λi h h' st k=>st.at λo e=>k _ (by simp) o e
 item:=by intro X hP hw hK hc i pq s σ H E I hf st hg;subst hP hw hK;obtain⟨xs,x,hq,hx⟩:=hg;obtain⟨its,rv,p,hz⟩:=I.list hq;obtain⟨u,hu,ru⟩:=rv.get hx;obtain⟨f0,f1,f2,f3,f4,f5⟩:=hf it (by simp);refine wpAny_pyNext_list_item st p.isList (by simpa using hu) λh' st' sb=>?_;obtain⟨o,e,c,d⟩:=id st';exact⟨u,rfl,jT e c d (rfl) ⟨x,H,I.turned (t':=s.toks) (λb o hb e=>(sb.2 b hb).trans e) f0 f1 f3 f4 f5,ru,⟨rfl,λys hy=>by rw[I.list_inj hy hq];exact hx⟩,st',λb hb=>(hf b hb).1⟩⟩
 done:=by intro X hP hw hK hc i pq s σ H E I hf st hg;subst hP hw hK;obtain⟨xs,hq,hx⟩:=hg;obtain⟨its,rv,p,hz⟩:=I.list hq;obtain⟨f0,f1,f2,f3,f4,f5⟩:=hf it (by simp);have hl:=rv.length;exact wpAny_pyNext_list_end (I.ok.hd hc) st p.isList (by simp_all) λh' eb=>⟨rfl,I.turned (λb o hb e=>eb b o hb e) f0 f1 f3 f4 f5⟩
 self:=λ_ _ _ _ _ st h=>wpAny_pyIter_listiter st h
theorem GF{P:OF}(a it:OA):Turn P w K tg (GC K a) [it] it (λi h=>h.IsTupleIter it a i) where
 mem:=by simp
 obj:=λi h st b hb=>by
  have e:=by simpa using hb
  obtain⟨o,e,c,d⟩:=st;simp_all
 keep:=λi h h' st k=>st.at λo e=>k _ (by simp) o e
 item:=by intro X hP hw hK hc i pq s σ H E I hf st hg;subst hP hw hK;obtain⟨xs,x,hq,hx⟩:=hg;obtain⟨its,rv,p,hz⟩:=I.tuple hq;obtain⟨u,hu,ru⟩:=rv.get hx;obtain⟨f0,f1,f2,f3,f4,f5⟩:=hf it (by simp);refine wpAny_pyNext_tuple_item st (show s.heap.IsTuple a _ from p) (by simpa using hu) λh' st' sb=>?_;obtain⟨o,e,c,d⟩:=id st';exact⟨u,rfl,jT e c d (rfl) ⟨x,H,I.turned (t':=s.toks) (λb o hb e=>(sb.2 b hb).trans e) f0 f1 f3 f4 f5,ru,⟨rfl,λys hy=>by rw[I.tuple_inj hy hq];exact hx⟩,st',λb hb=>(hf b hb).1⟩⟩
 done:=by intro X hP hw hK hc i pq s σ H E I hf st hg;subst hP hw hK;obtain⟨xs,hq,hx⟩:=hg;obtain⟨its,rv,p,hz⟩:=I.tuple hq;obtain⟨f0,f1,f2,f3,f4,f5⟩:=hf it (by simp);have hl:=rv.length;exact wpAny_pyNext_tuple_end (I.ok.hd hc) st (show s.heap.IsTuple a _ from p) (by simp_all) λh' eb=>⟨rfl,I.turned (λb o hb e=>eb b o hb e) f0 f1 f3 f4 f5⟩
 self:=λ_ _ _ _ _ st h=>wpAny_pyIter_tupleiter st h
theorem GG{P:OF}(it:OA)(lo:Int)(n:Nat):Turn P w K tg (yR lo n) [it] it (λi h=>IsRangeIter h it (lo+(i:Nat)*1) ((n:Int)-(i:Nat)) 1) where
 mem:=by simp
 obj:=λi h st b hb=>by simp_all
 keep:=λi h h' st k=>k _ (by simp) _ st
 item:=by intro X hP hw hK hc i pq s σ H E I hf st hg;subst hP hw hK;obtain⟨f0,f1,f2,f3,f4,f5⟩:=hf it (by simp);refine(Walks.range (prog:=X.prog) (w:=X.w) (I.ok.hd hc) it lo 1 n).item i s _ _ hg st λv h' tk hv st' kk=>?_;obtain⟨t,rfl⟩:=hv;have I1:Inv X _ _ H {s with heap:=h',toks:=tk}:=I.turned (λb o hb e=>kk b o (by simp_all) e) f0 f1 f3 f4 f5;refine⟨_,rfl,jT st' rfl rfl (rfl) ⟨.int _,H,I1,⟨t,?_⟩,⟨rfl,rfl⟩,st',λb hb=>(hf b hb).1⟩⟩;simp_all
 done:=by intro X hP hw hK hc i pq s σ H E I hf st hg;obtain⟨f0,f1,f2,f3,f4,f5⟩:=hf it (by simp);exact wpAny_pyNext_range_end (I.ok.hd hc) st (by have:n<=i:=hg;omega) λh' eb=>⟨rfl,I.turned (λb o hb e=>eb b o hb e) f0 f1 f3 f4 f5⟩
 self:=λ_ _ _ _ _ st h=>wpAny_pyIter_rangeiter st h
section
variable {X:Cx}
theorem yS{σ:St}{H:Hp}{R:It->Hp->Prop}{l h:Int}{t u v:Tok}{tk:Nat}(I:Inv X pq σ H s)(h1: -(2^62)<=l)(g:l<2^62)(i: -(2^62)<=h)(j:h<2^62)
  (q:R (yR l (h-l).toNat) H):wpAny (model X.prog X.w) X.A (pyIter (.ref s.heap.objs.size)) (FX X pq σ tg R) E {s with heap:=s.heap.push {cls:=.type "range",data:=.fields #[.int l t,.int h u,.int 1 v]},toks:=tk}:=by
 refine wpAny_pyIter_range (IsRange.new ..) (small_one h1 g i j) ?_;have c:Inv X _ _ H {s with heap:=s.heap.push {cls:=.type "range",data:=.fields #[.int l t,.int h u,.int 1 v]},toks:=tk}:=I.kept λb o e=>Zb _ e
 refine⟨_,_,_,_,H,rfl,
  c.kept λb o e=>Zb _ e,GG _ _ _,?_,λb k=>?_,q⟩
 ·have d:l+(0:Nat)*1=l:=by simp
  have f:(h-l).toNat-(0:Nat)=Builtin.Range.rangeSize l h 1:=by rw[rangeSize_one];grind
  rw[d,f];exact Zi _ rfl
 ·have e:b=(s.heap.push {cls:=.type "range",data:=.fields #[.int l t,.int h u,.int 1 v]}).objs.size:=by simp_all
  subst e;exact c.fpOk (Zf _) (c.hok.fresh (Zf _))
noncomputable def yT(t:TA):TI:=λσ H R=>t σ H λvs H1=>∃j:Int,vs=[.int j]/\ -(2^62)<=j/\j<2^62/\R (yR 0 j.toNat) H1
noncomputable def yU(t:TA):TI:=λσ H R=>t σ H λvs H1=>∃i j:Int,vs=[.int i,.int j]/\(-(2^62)<=i/\i<2^62/\ -(2^62)<=j/\j<2^62)/\R (yR i (j-i).toNat) H1
theorem GH{a:Expr}{T:TA}{p pos:Pos}(d:Gl X "range")(f:X.mg "range"=none)(c:PA X [a] T)(hs:starEach [a] X.env=[(Oy,eval a X.env)]:=by rfl):PI X tg (.Call (.Name "range" p) [a] [] pos) (yT T):=by
 intro P s l H R I h;refine Call_ (fC I d f boot_range (OO (aT (c _ _ s _ H _ I h) λu S z=>?_) hs rfl));obtain⟨_,_,b,i,Q⟩:=z;obtain⟨j,e,Q,g,q⟩:=Q;subst e;cases i with
 |cons r k=>cases k;obtain⟨t,rfl⟩:=r;exact call_range_1 (yS b (by simp) (by simp) Q g (by simp_all))
theorem GI{a b:Expr}{T:TA}{p pos:Pos}(k:Gl X "range")(l:X.mg "range"=none)(g:PA X [a,b] T)(hs:starEach [a,b] X.env=[(Oy,eval a X.env),(Oy,eval b X.env)]:=by rfl)(c:starEach [b] X.env=[(Oy,eval b X.env)]:=by rfl):
  PI X tg (.Call (.Name "range" p) [a,b] [] pos) (yU T):=by
 intro P s x H R I h;refine Call_ (fC I k l boot_range (OO (aT (g _ _ s _ H _ I h) λU S z=>?_) (by simp_all) (by rw[c];rfl)));obtain⟨_,_,f,v,Q⟩:=z;obtain⟨i,j,e,⟨Q,m,n,o⟩,q⟩:=Q;subst e;cases v with
 |cons r d=>
  cases d with
  |cons u d=>cases d;obtain⟨t,rfl⟩:=r;obtain⟨w,rfl⟩:=u;exact call_range_2 (yS f Q m n o q)
noncomputable def GJ(w:TI)(g:TG)(tb:TS):TS:=λD σ H=>w σ H λJ H1=>∃W:Nat->Nat->St->Hp->Prop,(∃m,W 0 m σ H1)/\∀i m σ H,W i m σ H->
 (J.stop i H/\D.nx σ H)\/(J.go i H/\∃N:St->Hp->Prop,(∀σ' H',N σ' H'->∃M,M<m/\W (i+1) M σ' H')/\∀x H',J.yld i H x H'->g x σ H' λa H2=>tb {D with nx:=N,ct:=N,bk:=D.nx} a H2)
noncomputable def mO(f:La)(h:OI):Lp:=f.filterMap λb=>(h.get? b).map λo=>(b,o)
theorem mP{b:OA}(H:b∈fp)(e:h.get? b=some o):(b,o)∈mO fp h:=Z0.mpr ⟨b,H,by simp_all⟩
theorem GK{p:OA×Obj}(H:p∈mO fp h):p.1∈fp/\h.get? p.1=some p.2:=by
 obtain⟨b,a,e⟩:=Z0.mp H;cases q:h.get? b with
 |none=>simp_all
 |some o=>
  grind
theorem Inv.pinned{σ:St}{H:Hp}(I:Inv X pq σ H s)(a:∀b∈fp,dH X pq H b)(d:∀b∈fp,∃o,s.heap.get? b=some o/\∀v,o.data≠.cell v):Inv X (pq++mO fp s.heap) σ H s:=
 I.pins_of λp c=>(ZC.mp c).elim (λz=>I.pin p (ZD _ z)) λz=>by
  obtain⟨h,e⟩:=GK z;obtain⟨f0,f,F,_⟩:=a _ h
  grind
theorem Inv.unpinned{pl:Lp}{σ:St}{H:Hp}(I:Inv X (pq++pl) σ H s):Inv X pq σ H s:=I.pins_of λp h=>I.pin p (ZD _ (Z7 _ h))
theorem tO{body:List Qi}{wi:TI}{g:TG}{tb:TS}{pos:Pos}(y:RB (model X.prog X.w) X.A X.env X.xe)(Z:X.calm=Ox)(hi:PI X tg iter wi)(hg:PG X tg g)(k:eL X body tb)
  (hs:∀x,foldedSetIterable iter X.env x=pure x:=by intro _;rfl):PS X (.For tg iter body [] pos) (GJ wi g tb):=by
 intro P s σ H D I h;refine wpAny_For (aT (hi P s σ H _ I h) λv s1 h1=>aT h1 λitv s2 h2=>?_) hs;obtain⟨it,F,tn,J,H2,e,I2,T,O,Y,W,⟨m0,w0⟩,turn⟩:=h2;subst e;have S:∀{q:Hp},(∀b∈F,q b=none)->∀b∈F,dH X P q b:=λhn b k=>⟨hn b k,(Y b k).2⟩;refine codeAny_forLoop_any (λn s'=>∃i l q,Inv X P l q s'/\tn i s'.heap/\(∀b∈F,q b=none)/\W i n l q) ?_ m0 ⟨0,σ,H2,I2,O,λb k=>(Y b k).1,w0⟩;rintro n s3 ⟨i,p,E,V,C,w,w3⟩;rcases turn i n p E w3 with⟨stop,qn⟩| ⟨go,N,hN,step⟩
 ·refine P_ y (aT (T.done X rfl rfl rfl Z i P s3 p E X.xe V (S w) C stop) λr s4 z=>z.elim λL I4=>?_);subst L;exact RO ⟨p,E,I4,qn⟩
 ·refine P_ y (aT (T.item X rfl rfl rfl Z i P s3 p E X.xe V (S w) C go) λr s4 z=>?_);obtain⟨u,L,h4⟩:=z;subst L;refine P_ y (aT h4 λ_ s5 z=>?_);obtain⟨x,U,I5,r5,y5,t,K⟩:=z;have G:=I5.pinned (S K) (T.obj _ _ t);refine P_ y (aT (hg _ s5 p U x u _ G r5 (step x U y5)) λ_ s6 z=>?_);obtain⟨R,H6,I6,q6⟩:=z;refine P_ y (aT (k _ s6 R H6 _ I6 q6) λf M Q=>?_)
  have A:∀{a:St} {c:Hp},Inv X (P++mO F s5.heap) a c M->N a c->∃m,m<n/\∃i l q,Inv X P l q M/\tn i M.heap/\(∀b∈F,q b=none)/\W i m l q:=λ{a c} j B=>by obtain⟨m',hm,w7⟩:=hN a c B;refine⟨m',hm,i+1,a,c,j.unpinned,T.keep _ _ _ t λb k o e=>(j.pin (b,o) (ZD _ (ZD _ (mP k e)))).1,λb k=>?_,w7⟩;obtain⟨o,e,d⟩:=T.obj _ _ t b k;exact(j.pin (b,o) (ZD _ (ZD _ (mP k e)))).2.1
  cases f with
  |next=>obtain⟨a,c,j,B⟩:=Q;exact A j B
  |cont=>obtain⟨a,c,j,B⟩:=Q;exact A j B
  |brk=>obtain⟨a,c,j,Q⟩:=Q;exact⟨a,c,j.unpinned,Q⟩
  |ret v=>obtain⟨x7,a,c,j,r7,Q⟩:=Q;exact⟨x7,a,c,j.unpinned,r7,Q⟩
end
abbrev R2:=V->V->Hp->VK->Prop
def cv(X:Cx)(f:OB->OB->Sem OB)(r:R2):Prop:=
 ∀(pq:Lp) (s:Oz) (σ:St) (H:Hp) (x y:V) (v u:OB) (Q:VK),Inv X pq σ H s->RelV x v->RelV y u->r x y H Q->
  wpAny (model X.prog X.w) X.A (f v u) (EP X pq σ Q) X.xe s
def GL(X:Cx)(f:OB->Sem OB)(r:V->Hp->VK->Prop):Prop:=
 ∀(pq:Lp) (s:Oz) (σ:St) (H:Hp) (x:V) (v:OB) (Q:VK),Inv X pq σ H s->RelV x v->r x H Q->
  wpAny (model X.prog X.w) X.A (f v) (EP X pq σ Q) X.xe s
def bn(X:Cx)(f:OB)(r:List V->Hp->VK->Prop):Prop:=
 ∀(pq:Lp) (s:Oz) (σ:St) (H:Hp) (xs:List V) (us:Lv) (Q:VK),Inv X pq σ H s->Vals xs us->r xs H Q->
  wpAny (model X.prog X.w) X.A (call f us) (EP X pq σ Q) X.xe s
def GN(X:Cx)(r:V->Hp->(Bool->Hp->Prop)->Prop):Prop:=
 ∀(pq:Lp) (s:Oz) (σ:St) (H:Hp) (x:V) (v:OB) (Q:Bool->Hp->Prop),Inv X pq σ H s->RelV x v->r x H Q->
  wpAny (model X.prog X.w) X.A (truthy v) (TP X pq σ Q) X.xe s
noncomputable def FZ(r:R2)(t tb:TE):TE:=λσ H Q=>t σ H λx H1=>tb σ H1 λy H2=>r x y H2 Q
noncomputable def N5(r:V->Hp->VK->Prop)(t:TE):TE:=λσ H Q=>t σ H λx H1=>r x H1 Q
noncomputable def rI(C:Int->Int->Prop)(g:Int->Int->V):R2:=λx y H Q=>∃i j,x=.int i/\y=.int j/\C i j/\Q (g i j) H
noncomputable def mQ(g:Int->Int->V):R2:=λx y H Q=>∃i j,x=.int i/\y=.int j/\Q (g i j) H
def rU(g:Int->V):V->Hp->VK->Prop:=λx H Q=>∃i,x=.int i/\Q (g i) H
section
variable {X:Cx}{a b c:Expr}{ta tb tc:TE}{pos:Pos}
theorem tP(g:PE X a ta)(i:PE X b tb){σ:St}{H:Hp}{R:V->V->Hp->Prop}(I:Inv X pq σ H s)
  (h:ta σ H λx H1=>tb σ H1 λy H2=>R x y H2)  {f:OB->OB->Sem OB}
  (j:∀v u s2 x y H2,Inv X pq σ H2 s2->RelV x v->RelV y u->R x y H2->wpAny (model X.prog X.w) X.A (f v u) Q X.xe s2):
  wpAny (model X.prog X.w) X.A (eval a X.env) (λv S=>wpAny (model X.prog X.w) X.A (eval b X.env) (λu c=>wpAny (model X.prog X.w) X.A (f v u) Q X.xe c) X.xe S) X.xe s:=by
 refine aT (g pq s σ H _ I h) λv m z=>?_;obtain⟨x,H1,d,r,q⟩:=z;refine aT (i pq m σ H1 _ d q) λu s2 z=>?_;obtain⟨y,H2,e,l,k⟩:=z;exact j v u s2 x y H2 e r l k
theorem iA{o:Sx}{r:R2}(f:cv X (binaryOp o) r)(d:PE X a ta)(e:PE X b tb):PE X (.BinOp a o b pos) (FZ r ta tb):=by intro p s j H Q I h;exact wpAny_BinOp (tP d e I h λv u S x y i c R g q=>f _ _ _ _ x y v u Q c R g q)
theorem yV{o:UnaryOp}{r:V->Hp->VK->Prop}(d:GL X (unaryOp o) r)(c:PE X a ta):PE X (.UnaryOp o a pos) (N5 r ta):=by intro p s e H Q I h;exact UnaryOp_ (aT (c _ s _ H _ I h) λv S z=>by obtain⟨x,_,b,R,q⟩:=z;exact(d _ _ _ _ x v Q b R q))
theorem tQ{f:OB->OB->Sem OB}{C:Int->Int->Prop}{g:Int->Int->Int}
  (r:∀(i j:Int) (t u:Tok) (s:Oz) (Q:Vs) (E:Vs),C i j->Q (.int (g i j) s.toks) {s with toks:=s.toks+1}->wpAny (model X.prog X.w) X.A (f (.int i t) (.int j u)) Q E s):
  cv X f (rI C λi j=>.int (g i j)):=by
 intro p s d H x y v u Q I R b h;obtain⟨i,j,rfl,rfl,a,q⟩:=h;obtain⟨t,rfl⟩:=R;obtain⟨c,rfl⟩:=b;exact r i j t _ s _ _ a ⟨.int _,H,I.tok _,⟨_,rfl⟩,q⟩
theorem mR{f:OB->OB->Sem OB}{g:Int->Int->Int}
  (r:∀(i j:Int) (t u:Tok) (s:Oz) (Q:Vs) (E:Vs),Q (.int (g i j) s.toks) {s with toks:=s.toks+1}->wpAny (model X.prog X.w) X.A (f (.int i t) (.int j u)) Q E s):
  cv X f (mQ λi j=>.int (g i j)):=by
 intro p s c H x y v u Q I R a h;obtain⟨i,j,rfl,rfl,q⟩:=h;obtain⟨t,rfl⟩:=R;obtain⟨b,rfl⟩:=a;exact r i j t _ s _ _ ⟨.int _,H,I.tok _,⟨_,rfl⟩,q⟩
theorem tR{f:OB->OB->Sem OB}{g:Int->Int->Bool}
  (r:∀(i j:Int) (t u:Tok) (s:Oz) (Q:Vs) (E:Vs),Q (.bool (g i j)) s->wpAny (model X.prog X.w) X.A (f (.int i t) (.int j u)) Q E s):
  cv X f (mQ λi j=>.bl (g i j)):=by
 intro p s b H x y v u Q I R a h;obtain⟨i,j,rfl,rfl,q⟩:=h;obtain⟨t,rfl⟩:=R;obtain⟨T,rfl⟩:=a;exact r i j t _ s _ _ ⟨.bl _,H,I,rfl,q⟩
def GO(i j:Int):Prop:=0<j/\j<1073741824
def GP(i j:Int):Prop:=0<=j/\j<=1000000/\i.natAbs<2^64
noncomputable def tU(i j:Int):Prop:=(-(2^64)<i/\i<2^64)\/(-(2^64)<j/\j<2^64)
theorem tU.ok{i j:Int}(h:tU i j):IntMulOk i j:=by
 rcases h with⟨H,a⟩| ⟨H,a⟩
 ·exact .of_left (intBits_le_64 H a)
 ·exact .of_right (intBits_le_64 H a)
theorem GQ(k:Nat):(0:Int)<=2^k:=by lia
theorem tV:cv X (binaryOp .Add) (mQ λi j=>.int (i+j)):=mR λ_ _ _ _ _ _ _ q=>add_int q
theorem tW:cv X (binaryOp .Sub) (mQ λi j=>.int (i-j)):=mR λ_ _ _ _ _ _ _ q=>sub_int q
theorem tX:cv X (binaryOp .Mult) (rI tU λi j=>.int (i*j)):=tQ λ_ _ _ _ _ _ _ h q=>mul_int q h.ok
theorem mS:cv X (binaryOp .FloorDiv) (rI GO λi j=>.int (i/j)):=tQ λi j _ _ _ _ _ h q=>by have H:=h.1;have a:=h.2;exact floordiv_int (by omega) (by grind) (.inl (PyProof.noPylong_small (by omega)))
theorem tY:cv X (binaryOp .Mod) (rI (λ_ j=>0<j) λi j=>.int (i%j)):=tQ λi j _ _ _ _ _ h q=>by exact mod_int' (by lia) (by grind)
theorem tZ:cv X (binaryOp .Pow) (rI GP λi j=>.int (i^j.toNat)):=tQ λ_ _ _ _ _ _ _ h q=>pow_int_small h.1 h.2.1 h.2.2 q
theorem t4:cv X (binaryOp .RShift) (rI (λ_ j=>0<=j) λi j=>.int (i/2^j.toNat)):=tQ λi j _ _ _ _ _ h q=>
 rshift_int h (by rw[SJ i (GQ _)];exact q)
theorem t5:cv X (binaryOp .BitAnd) (mQ λi j=>.int (Uc i j)):=mR λ_ _ _ _ _ _ _ q=>and_int q
theorem yW:cv X (binaryOp .BitOr) (mQ λi j=>.int (Uq i j)):=mR λ_ _ _ _ _ _ _ q=>or_int q
theorem N6{f:OB->Sem OB}{g:Int->Int}
  (r:∀(i:Int) (t:Tok) (s:Oz) (Q:Vs) (E:Vs),Q (.int (g i) s.toks) {s with toks:=s.toks+1}->wpAny (model X.prog X.w) X.A (f (.int i t)) Q E s):
  GL X f (rU λi=>.int (g i)):=by
 intro p s a H x v Q I R h;obtain⟨i,rfl,q⟩:=h;obtain⟨t,rfl⟩:=R;exact r i t s _ _ ⟨.int _,H,I.tok _,⟨_,rfl⟩,q⟩
theorem t6:GL X (unaryOp .USub) (rU λi=>.int (-i)):=N6 λ_ _ _ _ _ q=>neg_int q
end
noncomputable def GR:V->V->Bool
 | .non,.non=>Ox| .non,.int _=>Ox| .int _,.non=>Ox| .non,.bl _=>Ox| .bl _,.non=>Ox| .non,.str _=>Ox| .str _,.non=>Ox
 | .int _,.int _=>Ox| .bl _,.bl _=>Ox| .str _,.str _=>Ox| .byt _,.byt _=>Ox
 | .int _,.str _=>Ox| .str _,.int _=>Ox| .bl _,.str _=>Ox| .str _,.bl _=>Ox
 |_,_=>Oy
noncomputable def N7:R2:=λx y H Q=>GR x y=Ox/\Q (.bl (!decide (x=y))) H
theorem mT{i j:Int}:decide (V.int i=V.int j)=(i==j):=by rw[Pk];simp
theorem t7{i j:Bool}:decide (V.bl i=V.bl j)=(i==j):=by rw[Pk];simp
theorem mU{i j:Str}:decide (V.str i=V.str j)=(i==j):=by rw[Pk];simp
theorem mV{i j:Array UInt8}:decide (V.byt i=V.byt j)=(i.toList==j.toList):=by rw[Pk];cases i;cases j;simp
section
variable {X:Cx}{a b c:Expr}{ta tb tc:TE}{pos:Pos}
theorem cw{σ:St}{H:Hp}{Q:VK}{k K:Bool}(I:Inv X pq σ H s)(q:Q (.bl k) H)(e:k=K):EP X pq σ Q (.bool K) s:=by subst e;exact⟨.bl k,H,I,rfl,q⟩
theorem yX:cv X (compareOp .NotEq) N7:=by
 intro p s b H x y v u Q I R r h;obtain⟨a,q⟩:=h;cases x with
 |non=>
  cases R;cases y with
  |non=>cases r;exact PySem.EqNone.ne_none_none (cw I q (by simp))
  |bl j=>cases r;exact PySem.EqNone.ne_none_bool (cw I q (by simp))
  |int j=>obtain⟨T,rfl⟩:=r;exact PySem.EqNone.ne_none_int (cw I q (by simp))
  |str j=>obtain⟨T,rfl⟩:=r;exact PySem.EqNone.ne_none_str (cw I q (by simp))
  |_=>exact absurd (show Oy=Ox from a) Z6
 |bl i=>
  cases R;cases y with
  |non=>cases r;exact PySem.EqNone.ne_bool_none (cw I q (by simp))
  |bl j=>cases r;exact ne_bool (cw I q (congrArg not t7))
  |str j=>obtain⟨T,rfl⟩:=r;exact PySem.EqMixed.ne_bool_str (cw I q (by simp))
  |_=>exact absurd (show Oy=Ox from a) Z6
 |int i=>
  obtain⟨t,rfl⟩:=R;cases y with
  |non=>cases r;exact PySem.EqNone.ne_int_none (cw I q (by simp))
  |int j=>obtain⟨T,rfl⟩:=r;exact ne_int (cw I q (congrArg not mT))
  |str j=>obtain⟨T,rfl⟩:=r;exact PySem.EqMixed.ne_int_str (cw I q (by simp))
  |_=>exact absurd (show Oy=Ox from a) Z6
 |str i=>
  obtain⟨t,rfl⟩:=R;cases y with
  |non=>cases r;exact PySem.EqNone.ne_str_none (cw I q (by simp))
  |bl j=>cases r;exact PySem.EqMixed.ne_str_bool (cw I q (by simp))
  |int j=>obtain⟨T,rfl⟩:=r;exact PySem.EqMixed.ne_str_int (cw I q (by simp))
  |str j=>obtain⟨T,rfl⟩:=r;exact ne_str (cw I q (congrArg not mU))
  |_=>exact absurd (show Oy=Ox from a) Z6
 |byt i=>
  obtain⟨t,rfl⟩:=R;cases y with
  |byt j=>obtain⟨T,rfl⟩:=r;exact PySem.W.ne_bytes (cw I q (congrArg not mV))
  |_=>exact absurd (show Oy=Ox from a) Z6
 |_=>cases y<;>exact absurd (show Oy=Ox from a) Z6
theorem yY:cv X (compareOp .LtE) (mQ λi j=>.bl (decide (i<=j))):=tR λ_ _ _ _ _ _ _ q=>le_int q
theorem yZ:cv X (compareOp .Gt) (mQ λi j=>.bl (decide (j<i))):=tR λ_ _ _ _ _ _ _ q=>gt_int q
theorem y0:cv X (compareOp .GtE) (mQ λi j=>.bl (decide (j<=i))):=tR λ_ _ _ _ _ _ _ q=>ge_int q
theorem GU:cv X (compareOp .In) (λx y H Q=>∃i j,x=.str i/\y=.str j/\Q (.bl (!(OP j i 0 j.length 1).isEmpty)) H):=by intro p s a H x y v u Q I r R h;obtain⟨i,j,rfl,rfl,q⟩:=h;obtain⟨t,rfl⟩:=r;obtain⟨T,rfl⟩:=R;exact in_str (cw I q rfl)
theorem t8:cv X (compareOp .Is) (λx y H Q=>y=.non/\Q (.bl (decide (x=.non))) H):=by
 intro p s a H x y v u Q I r R h;obtain⟨rfl,q⟩:=h;subst R;refine is_none_gen (cw I q ?_)
 cases x<;>first
  |lia
  | (obtain⟨t,rfl⟩:=r;rfl)
theorem mW:cv X (compareOp .IsNot) (λx y H Q=>y=.non/\Q (.bl (!decide (x=.non))) H):=by
 intro p s a H x y v u Q I r R h;obtain⟨rfl,q⟩:=h;subst R;refine isnot_none_gen (cw I q ?_)
 cases x<;>first
  |lia
  | (obtain⟨t,rfl⟩:=r;rfl)
theorem GV:cv X (compareOp .NotIn) (λx y H Q=>∃i j,x=.str i/\y=.str j/\Q (.bl (!(!(OP j i 0 j.length 1).isEmpty))) H):=by intro p s a H x y v u Q I r R h;obtain⟨i,j,rfl,rfl,q⟩:=h;obtain⟨t,rfl⟩:=r;obtain⟨T,rfl⟩:=R;exact notIn_str (cw I q rfl)
theorem mX{o:QZ}{r:R2}(g:cv X (compareOp o) r)(d:PE X a ta)(e:PE X b tb)(f:behindInMarks o b=Oy):PE X (.Compare a [o] [b] pos) (FZ r ta tb):=by intro p s k H Q I h;exact wpAny_Compare1 (tP d e I h λv u S x y j c R i q=>g _ _ _ _ x y v u Q c R i q) f
noncomputable def rX(t:TE):TT:=λσ H Q=>t σ H λx H'=>∃k,x=.bl k/\Q k H'
theorem y7{o:QZ}{r:R2}(m:cv X (compareOp o) r)(i:PE X a ta)(j:PE X b tb)(l:behindInMarks o b=Oy):PT X (.Compare a [o] [b] pos) (rX (FZ r ta tb)):=by
 intro P s C H Q I h
 refine wpAny_isTrue_Compare1 (aT (i _ s _ H _ I h) λv S Z=>Z.elim λx Z=>Z.elim λ_ Z=>Z.elim λd Z=>Z.elim λR q=>aT (j _ _ _ _ _ d q) λu A Z=>
  Z.elim λy Z=>Z.elim λ_ Z=>Z.elim λf Z=>Z.elim λt n=>aT (m _ _ _ _ x y v u _ f R t n) λc B Z=>?_) l
 obtain⟨z,_,g,w,k,e,p⟩:=Z;subst e;subst w;exact ZQ ⟨_,g,p⟩
noncomputable def jU(r R:R2)(t tb T:TE):TE:=λσ H Q=>t σ H λx H1=>tb σ H1 λy H2=>r x y H2 λz a=>∃k,z=.bl k/\
 (if k=Ox then T σ a λw b=>R y w b Q else Q (.bl Oy) a)
theorem GW{o:QZ}{r R:R2}(A:cv X (compareOp o) r)(f:cv X (compareOp op') R)(n:PE X a ta)(p:PE X b tb)(t:PE X c tc)
  (w:lastMarks [o,op'] [b,c]=Oy:=by with_unfolding_all rfl):PE X (.Compare a [o,op'] [b,c] pos) (jU r R ta tb tc):=by
 intro P s L H Q I h
 refine Compare_chain (aT (n _ s _ H _ I h) λv S Z=>Z.elim λx Z=>Z.elim λ_ Z=>Z.elim λj Z=>Z.elim λE B=>chain_link (aT (p _ _ _ _ _ j B) λu G Z=>
  Z.elim λy Z=>Z.elim λ_ Z=>Z.elim λl Z=>Z.elim λi C=>aT (A _ _ _ _ x y v u _ l E i C) λd J Z=>?_)) w
 obtain⟨z,_,g,F,k,e,q⟩:=Z;subst e;subst F;refine ZQ ?_;cases k with
 |false=>exact ite_ff ⟨.bl _,_,g,rfl,q⟩
 |true=>exact ite_tt (chain_last (aT (t _ _ _ _ _ g q) λW K Z=>by obtain⟨_,_,m,r4,D⟩:=Z;exact(f _ _ _ _ y _ u _ Q m i r4 D)))
theorem GX{o:QZ}{r R:R2}(L:cv X (compareOp o) r)(g:cv X (compareOp op') R)(F:PE X a ta)(G:PE X b tb)(J:PE X c tc)
  (K:lastMarks [o,op'] [b,c]=Oy:=by with_unfolding_all rfl):PT X (.Compare a [o,op'] [b,c] pos) (rX (jU r R ta tb tc)):=by
 intro p s f H Q I h
 refine isTrue_chain (aT (F p s f H _ I h) λv W Z=>Z.elim λx Z=>Z.elim λH1 Z=>Z.elim λw Z=>Z.elim λT N=>test_link (aT (G p W f H1 _ w N) λu Y Z=>
  Z.elim λy Z=>Z.elim λm Z=>Z.elim λA Z=>Z.elim λl O=>aT (L p Y f m x y v u _ A T l O) λd s3 Z=>?_)) K
 obtain⟨z,i,j,U,k,e,q⟩:=Z;subst e;cases U;refine ZQ ?_;cases k with
 |false=>obtain⟨k',E,M⟩:=q;cases E;exact ite_ff ⟨i,j,M⟩
 |true=>refine ite_tt (test_last (aT (J p s3 f i _ j q) λw' s4 Z=>Z.elim λz' Z=>Z.elim λn Z=>Z.elim λB Z=>Z.elim λr4 P=>aT (g p s4 f n y z' u w' _ B l r4 P) λd' s5 Z=>?_));obtain⟨z2,t,C,V,k2,D,S⟩:=Z;subst D;cases V;exact ZQ ⟨t,C,S⟩
def iO(K:Fg)(x:V)(H:Hp)(k:Bool):Prop:=
 match x with
 | .non=>k=Oy
 | .bl b=>k=b
 | .int i=>k=(i !=0)
 | .str y=>y.length<=sizeLine/\k=((y.length:Int) !=0)
 | .byt y=>y.size<=sizeLine/\k=((y.size:Int) !=0)
 | .ref p=>(∃xs,c8 K H p xs/\k= !xs.isEmpty)\/(∃xs,b7 K H p xs/\k= !xs.isEmpty)\/∃a,H p=some (.dK a)/\k= !a.isEmpty
 |_=>False
theorem GY{a:Type}{k:List (a×V)}{vs:List (a×OB)}(r:KV k vs):(!vs.isEmpty)= !k.isEmpty:=by cases r<;>rfl
theorem y8{xs:List V}(r:Vals xs its):(!its.toArray.isEmpty)= !xs.isEmpty:=by cases r<;>simp
theorem hZ:(sizeLine:Nat)<2^63:=by decide
theorem jV:GN X (λx H Q=>∃k,iO X.K x H k/\Q k H):=by
 intro u s w H x v Q I R h;obtain⟨k,e,q⟩:=h;have n:=hZ;have o:sizeLine=16777216:=Qj;cases x with
 |non=>cases R;subst(e);exact truthy_none ⟨H,I,q⟩
 |bl b=>cases R;have E:k=b:=e;subst E;exact ZQ ⟨H,I,q⟩
 |int i=>obtain⟨t,rfl⟩:=R;subst(e);exact PySem.P.truthy_int ⟨H,I,q⟩
 |str y=>obtain⟨t,rfl⟩:=R;obtain⟨l,E⟩:y.length<=sizeLine/\k=((y.length:Int) !=0):=e;subst E;exact PySem.P.truthy_str (by omega) ⟨H,I.tok _,q⟩
 |byt y=>obtain⟨t,rfl⟩:=R;obtain⟨l,E⟩:y.size<=sizeLine/\k=((y.size:Int) !=0):=e;subst E;exact PySem.W.truthy_bytes (by omega) ⟨H,I.tok _,q⟩
 |ref p=>
  cases R;have E:(∃c,c8 X.K H p c/\k= !c.isEmpty)\/(∃c,b7 X.K H p c/\k= !c.isEmpty)\/∃K,H p=some (.dK K)/\k= !K.isEmpty:=e;rcases E with⟨c,d,E⟩| ⟨c,d,E⟩| ⟨K,d,E⟩
  ·subst E;obtain⟨f,r,P,g⟩:=I.list d;have a:=r.length;exact wpAny_truthy_list P.isList (by grind) ⟨H,I.tok _,by rw[y8 r];exact q⟩
  ·subst E;obtain⟨f,r,P,g⟩:=I.tuple d;have a:=r.length;exact truthy_tuple P (by grind) ⟨H,I.tok _,by rw[y8 r];exact q⟩
  ·subst E;obtain⟨g,j,vs,r,m⟩:K.length<=sizeLine/\(p==sysModules)=Oy/\∃vs,KV K vs/\s.heap.DictOf (s9 X.prog X.w) p vs:=I.hok p _ d;have a:K.length=vs.length:=Paired.length r;exact wpAny_truthy_dict j m (by omega) ⟨H,I.tok _,by rw[GY r];exact q⟩
 |_=>exact(show False from e).elim
theorem GZ(c:PE X a ta)(d:∀w,isTrue a X.env w=(do let v <-w;standAt a.pos;holding [v] (truthy v))):
  PT X a (λσ H Q=>ta σ H λx H'=>∃k,iO X.K x H' k/\Q k H'):=by
 intro p s σ H Q I h;exact isTrue_plain (aT (c _ s _ H _ I h) λv S z=>by obtain⟨x,_,b,r,q⟩:=z;exact(jV _ _ _ _ x v Q b r q)) (d _)
theorem G1:cv X (binaryOp .Add) (λx y H Q=>∃i j,x=.str i/\y=.str j/\i.length+j.length<=sizeLine/\Q (.str (i++j)) H):=by intro p s c H x y v u Q I r R h;obtain⟨i,j,rfl,rfl,a,q⟩:=h;obtain⟨t,rfl⟩:=r;obtain⟨T,rfl⟩:=R;exact add_str (λT b=>⟨.str _,H,I.tok _,⟨_,rfl⟩,q⟩) a
theorem vals1{x:V}(r:Vals [x] us):∃u,us=[u]/\RelV x u:=by
 cases r with
 |cons a R=>cases R;simp_all
theorem y9:bn X (.type "int") (λxs H Q=>(∃i,xs=[.int i]/\Q (.int i) H)\/∃k,xs=[.bl k]/\Q (.int (if k then 1 else 0)) H):=by
 intro p s a H xs U Q I r h;rcases h with⟨i,rfl,q⟩| ⟨k,rfl,q⟩
 ·obtain⟨u,rfl,t,rfl⟩:=vals1 r;exact call_int_int ⟨.int i,H,I,⟨_,rfl⟩,q⟩
 ·obtain⟨u,rfl,R⟩:=vals1 r;subst R;exact call_int_bool ⟨.int _,H,I.tok _,⟨_,rfl⟩,q⟩
end
section
variable {x:OA}{mA:Mg}{v:OB}
end
section
variable {P:OF}{H H':Hp}{fs fs':List (Str×V)}
end
section
variable {X:Cx}{σ:St}{H:Hp}{fs:List (Str×V)}{f:Str}{v:V}
end
section
variable {X:Cx}{o value:Expr}{f:Str}{pos tpos:Pos}{ta tv:TE}
end
section
variable {X:Cx}{σ:St}{H:Hp}{c:OB}{b:Bool}
end
structure cO (k:Nat)(A:Pf):Prop where
 hd:A.handled=none
 dp:A.depth+3*k+5<recursionLimit
 un:A.units+16*k+200<cLine
 gd:A.guards=some []
theorem cO.mono{j k:Nat}(r:cO k A)(h:j<=k):cO j A:=⟨r.hd,by have:=r.dp;lia,by have:=r.un;lia,r.gd⟩
theorem cO.deeper{k:Nat}(r:cO (k+1) A)(env:Env):cO k (A.deeper env):=
 ⟨r.hd,by have:=r.dp;show A.depth+1+3*k+5<_;lia,by have:=r.un;show A.units+3+16*k+200<_;lia,r.gd⟩
theorem cO.depth{k:Nat}(r:cO k A):A.depth<recursionLimit:=by have:=r.dp;lia
theorem cO.units{k:Nat}(r:cO k A):A.units+64<cLine:=by have:=r.un;lia
noncomputable def mY:TA:=λ_ H Q=>Q [] H
noncomputable def ez(t:TE)(T:TA):TA:=λσ H Q=>t σ H λx H1=>T σ H1 λxs H2=>Q (x::xs) H2
section
variable {X:Cx}{te:TE}{t:TA}{pos:Pos}
theorem fD:PA X [] mY:=λ_ _ _ _ H Q I h=>Q0 ⟨_,H,I,.nil,h⟩
theorem dI(c:PE X e te)(d:PA X es t)(hs:starEach (e::es) X.env=(Oy,eval e X.env)::starEach es X.env:=by rfl):PA X (e::es) (ez te t):=by intro pos p s i H Q I h;rw[hs];show wpAny _ _ (spliced ((Oy,eval e _)::backTo _ _)) _ _ s;exact O_ (aT (c _ s _ H _ I h) λu S z=>z.elim λx z=>z.elim λ_ z=>z.elim λa z=>z.elim λr q=>aT (d _ _ _ _ _ _ a q) λU g z=>by obtain⟨_,_,b,R,f⟩:=z;exact(⟨_,_,b,.cons r R,f⟩))
noncomputable def G2(t:TA):TE:=λσ H Q=>t σ H λxs H1=>xs.length<=sizeLine/\∀p,H1 p=none->Q (.ref p) (ba H1 p (.tup xs))
noncomputable def G3(t:TA):TE:=λσ H Q=>t σ H λxs H1=>xs.length<=sizeLine/\∀p,H1 p=none->Q (.ref p) (ba H1 p (.lst xs))
theorem t9{x1}(h:PA X es t):PE X (.Tuple es x1 pos) (G2 t):=by intro p s f H Q I d;refine wpAny_Tuple_spliced (aT (h _ _ s _ H _ I d) λU S Z=>Z.elim λ_ Z=>Z.elim λ_ Z=>Z.elim λa Z=>Z.elim λr Z=>Z.elim λz q=>⟨by rw[<-r.length];exact z,?_⟩);have c:=a.hok.fresh (Zf _);refine⟨.ref _,_,a.laid (λb u e=>Zb _ e) (Zf _) ?_,rfl,q _ c⟩;exact⟨z,_,r,⟨_,Zi _ rfl,rfl,_,rfl⟩,_,Zi _ rfl,rfl⟩
theorem h9(h:PA X es t):PE X (.List es pos) (G3 t):=by intro p s f H Q I d;refine wpAny_List_spliced (aT (h _ _ s _ H _ I d) λU S Z=>Z.elim λ_ Z=>Z.elim λ_ Z=>Z.elim λa Z=>Z.elim λr Z=>Z.elim λz q=>⟨by rw[<-r.length];exact z,?_⟩);have c:=a.hok.fresh (Zf _);refine⟨.ref _,_,a.laid (λb u e=>Zb _ e) (Zf _) ?_,rfl,q _ c⟩;exact⟨z,_,0,r,Zi _ rfl⟩
end
abbrev Sp:=List V->Hp->VK->XK->Prop
abbrev dJ:=List Env->Hp->Oz->XK->Vs
structure mZ (P:OF)(w:ON)(K:Fg)(mg:Mg)(base:OI)(A:Pf)(outer:List Env)(s:Oz)(H:Hp):Prop where
 frames:A.frames=some outer
 mod:Mod K mg base
 bs:∀b o,base.get? b=some o->s.heap.get? b=some o/\H b=none
 bsz:base.objs.size<=s.heap.objs.size
 funs:s.heap.FunFrames base outer
 frf:∀b∈bW outer,H b=none
 hok:er P w H s.heap
 bare:Rk s.gens
def CE(o:List Env)(P:OF)(w:ON)(H:Hp)(s:Oz)(Q:VK)(u:OB)(S:Oz):Prop:=
 ∃v H',S.os=s.os/\Rk S.gens/\Un (bW o) [] H H' s.heap S.heap/\er P w H' S.heap/\RelV v u/\Q v H'
def CR(CX:dJ)(o:List Env)(P:OF)(w:ON)(H:Hp)(s:Oz)(Q:VK)(E:XK)(r:RL)(S:Oz):Prop:=
 match r with
 | .ok (.ret u)=>CE o P w H s Q u S
 | .ok _=>False
 | .error e=>CX o H s E e S
structure c9 (P:OF)(w:ON)(K:Fg)(mg:Mg)(base:OI)(CX:dJ)(k:Nat)(f:OA)(fd:Pr)(ps:Ls)(sp:Sp):Prop where
 len:∀vs H Q E,sp vs H Q E->vs.length=ps.length
 run:∀(A:Pf) (outer:List Env) (s:Oz) (H:Hp) (args:Args) (us:Lv) (vs:List V) (Q:VK) (E:XK),cO k A->mZ P w K mg base A outer s H->S_ s fd args (ps.zip us)->Vals vs us->sp vs H Q E->
  codeAny (model P w) A (.call (.ref f) args) (CR CX outer P w H s Q E) s
theorem c9.mono{P:OF}{CX:dJ}{j k:Nat}{b:Pr}{ps:Ls}{sp:Sp}(F:c9 P w K mg base CX j f b ps sp)(h:j<=k):
  c9 P w K mg base CX k f b ps sp:=⟨F.len,λA o s H a u vs Q E c=>F.run A _ s H _ _ _ Q E (c.mono h)⟩
theorem c9.imp{P:OF}{CX:dJ}{k:Nat}{b:Pr}{ps:Ls}{sp S:Sp}(F:c9 P w K mg base CX k f b ps sp)
  (h:∀vs H Q E,S vs H Q E->sp vs H Q E):c9 P w K mg base CX k f b ps S:=
 ⟨λvs H Q E q=>F.len _ H Q E (h _ _ _ _ q),λA o s H a u vs Q E e d c i g=>F.run A _ s H _ _ _ Q E e d c i (h _ _ _ _ g)⟩
section
variable {X:Cx}{σ:St}{H:Hp}
theorem Inv.env0(I:Inv X pq σ H s):mZ X.prog X.w X.K X.mg X.base X.A X.stack s H:=
 ⟨I.ok.frames,I.ok.mod,I.bs,Zl I.ok.bsz I.sz,I.stack,I.stkFree,I.hok,I.bare⟩
theorem Inv.after{Q:VK}(I:Inv X pq σ H s)(h:CE X.stack X.prog X.w H s Q u s'):EP X pq σ Q u s':=by obtain⟨v,c,O,B,un,a,r,q⟩:=h;obtain⟨e,g,d,t,o⟩:=s';obtain rfl:o=s.os:=O;exact⟨v,_,I.call un a B λb z=>absurd z (by nofun),r,q⟩
end
noncomputable def y_(sp:Sp)(d:List V)(E:XK)(t:TA):TE:=λσ H Q=>t σ H λvs H1=>sp (vs++d) H1 Q E
def Binds(K:Fg)(f:Pr)(ps:Ls)(ds:Lv):Prop:=
 ∀(s:Oz) (us:Lv),K.In s.heap->(us++ds).length=ps.length->S_ s f ⟨us,[]⟩ (ps.zip (us++ds))
theorem Binds.all{f:Pr}{ps:Ls}(h:∀us:Lv,us.length=ps.length->bindArgs f ⟨us,[]⟩=pure (ps.zip us)):Binds K f ps []:=λs us _ H=>by rw[P0]at H⊢;exact .of_eq (h _ H)
def jW(CX:dJ)(X:Cx)(E:XK):Prop:=∀(pq:Lp) (σ:St) (H:Hp) (s:Oz) (e:OB) (s':Oz),Inv X pq σ H s->CX X.stack H s E e s'->X.xe e s'
section
variable {X:Cx}{CX:dJ}{k:Nat}{fd:Pr}{ps:Ls}{sp:Sp}{dvs:List V}{ds:Lv}{E:XK}{x m:Str}{p pos:Pos}{o:Expr}{ta:TE}{t:TA}
theorem t_{σ:St}{H:Hp}{Q:VK}{vs:List V}(F:c9 X.prog X.w X.K X.mg X.base CX k f fd ps sp)(g:cO k X.A)(c:Binds X.K fd ps ds)(d:Vals dvs ds)(i:jW CX X E)
  (I:Inv X pq σ H s) (r:Vals vs us) (h:sp (vs++dvs) H Q E):wpAny (model X.prog X.w) X.A (call (.ref f) us) (EP X pq σ Q) X.xe s:=by
 have R:=r.append d;refine Sk (P2 (F.run _ _ s H _ _ _ Q E g I.env0 (c s _ I.kIn (by rw[<-R.length];exact F.len _ _ _ _ h)) R h) λr S a=>?_);cases r with
 |error e=>exact i _ _ H s e _ I a
 |ok b=>
  cases b with
  |ret u=>exact I.after a
  |next=>exact False.elim a
  |brk=>exact False.elim a
  |cont=>exact False.elim a
theorem m5(F:c9 X.prog X.w X.K X.mg X.base CX k f fd ps sp)(o:cO k X.A)(l:Gl X x)(n:X.mg x=some (.ref f))(m:PySem.W.keepIn X.K (.ref f)=Ox)(g:Binds X.K fd ps ds)(i:Vals dvs ds)(u:jW CX X E)
  (d:PA X (e::es) t) (a:(x==("__debug__":Str))=Oy:=by decide) (j:starEach (e::es) X.env=(Oy,eval e X.env)::starEach es X.env:=by rfl) (b:(backTo pos (starEach es X.env)).any (·.1)=Oy:=by rfl):
  PE X (.Call (.Name x p) (e::es) [] pos) (y_ sp dvs E t):=by
 intro P s v H Q I h;exact Pg (jN I l n (PySem.W.callWith_K I.ok.mod.kin m (aT (d _ _ s _ H _ I h) λU S z=>by obtain⟨_,_,c,r,q⟩:=z;exact(⟨c.kIn,t_ F o g i u c r q⟩)) j b) a)
end
section
variable {X:Cx}{CX:dJ}{k:Nat}{fd:Pr}{ps ks:Ls}{sp:Sp}{E:XK}{x m:Str}{p pos kpos:Pos}{o:Expr}{F9:List Rl}{te ta:TE}{t tk:TA}{nm:Option Str}
variable {g:Lv->Lv->Lv}{gV:List V->List V->List V}
end
structure bP (N P:Ls)(sc:Scope):Prop where
 kind:sc.kind=.function
 co:sc.isCoroutine=Oy
 gen:sc.isGenerator=Oy
 nd:N.Nodup
 pre:N.take P.length=P
 par:∀x∈P,sc.names.lookup x=some .local\/sc.names.lookup x=some .cell
 nofree:∀y∈sc.names,y.2≠.free
theorem za{kindOf:Str->Option Pm}{x:Str}:∀{binds:List (Str×OB)} {m:Mg},(∀v,(x,v)∉binds)->bindL kindOf binds m x=m x
 | [],_,_=>rfl
 | (n,v)::r,m,h=>by
  unfold bindL;rw[za λw hw=>h w (Zc _ hw)];split
  ·have:x≠n:=by rintro rfl;exact h v Zd
   simp[this]
  ·rfl
theorem zb{kindOf:Str->Option Pm}{x:Str}:∀{binds:List (Str×OB)} {m:Mg},(∀v,(x,v)∉binds)->bindC kindOf binds m x=m x
 | [],_,_=>rfl
 | (n,v)::r,m,h=>by
  unfold bindC;rw[zb λw hw=>h w (Zc _ hw)];split
  ·rfl
  grind
theorem zc{kindOf:Str->Option Pm}{x:Str}{v:OB}:∀{P:Ls} {vs:Lv} {i:Nat} {m:Mg},P.Nodup->P[i]?=some x->vs[i]?=some v->kindOf x=some .local->
  bindL kindOf (P.zip vs) m x=some v
 | [],_,_,_,_,h,_,_=>by trivial
 |_::_,[],_,_,_,_,h,_=>by trivial
 |p::P,w::vs,0,m,n,H,a,b=>by simp at H a;subst H;subst a;show bindL _ ((p,w)::P.zip _) m p=_;dsimp only[bindL];rw[za λv c=>(OS.mp n).1 (QK c).1,if_pos b];simp
 |p::P,w::vs,i+1,m,n,H,a,b=>by unfold bindL;exact zc (OS.mp n).2 (by exact H) (by trivial) b
theorem zd{kindOf:Str->Option Pm}{x:Str}{v:OB}:∀{P:Ls} {vs:Lv} {i:Nat} {m:Mg},P.Nodup->P[i]?=some x->vs[i]?=some v->kindOf x≠some .local->
  bindC kindOf (P.zip vs) m x=some v
 | [],_,_,_,_,h,_,_=>by simp_all
 |_::_,[],_,_,_,_,h,_=>by simp_all
 |p::P,w::vs,0,m,n,H,a,b=>by simp at H a;subst H;subst a;show bindC _ ((p,w)::P.zip _) m p=_;unfold bindC;rw[zb λv c=>(OS.mp n).1 (QK c).1,if_neg b];simp
 |p::P,w::vs,i+1,m,n,H,a,b=>by unfold bindC;exact zd (OS.mp n).2 (by simpa using H) (by simp_all) b
noncomputable def start(N:Ls)(vs:List V):St:=vs.map some++OG (N.length-vs.length) none
noncomputable def fZ(CX:dJ)(P:OF)(w:ON)(K:Fg)(mg:Mg)(base:OI)(N:Ls)(qual:Str)(scope:Scope)(f:OA)(cd:OB)(A:Pf)(outer:List Env)(s:Oz)(H:Hp)(E:XK):Cx where
 prog:=P
 w:=w
 K:=K
 mg:=mg
 base:=base
 A:=A.deeper (envOfC qual scope s.heap.objs.size f cd)
 N:=N
 s₀:=s
 H₀:=H
 env:=envOfC qual scope s.heap.objs.size f cd
 outer:=outer
 stack:=envOfC qual scope s.heap.objs.size f cd::outer
 ex:=[]
 calm:=Ox
 fn:=λ_=>Ox
 pn:=[]
 xe:=λe s'=>wpAny (model P w) (A.deeper (envOfC qual scope s.heap.objs.size f cd)) (leaving (envOfC qual scope s.heap.objs.size f cd) e) (λ_ s''=>CX outer H s E e s'') (λe' s''=>CX outer H s E e' s'') s'
theorem ze{s:Scope}{x:Str}(h:s.names.lookup x=some .cell):∃c,(cellsFrom n s.names []).lookup x=some c:=by exact PD.mp (PySem.W.cellsFrom_some _ n [] (.inl h))
theorem zf{CX:dJ}{P:OF}{ps:Ls}{D:Oz}{H:Hp}{E:XK}{vs:List V}
  (S:bP N ps scope) (G:A.handled=none) (e0:mZ P w K mg base A outer s H) (L:vs.length=ps.length) (r:Vals vs us)
  (x:InCallC s s.heap.objs.size (bindL (envOfC qual scope s.heap.objs.size f cd).kindOf (ps.zip us) λ_=>none) (cellsFrom (s.heap.objs.size+1) scope.names []) (bindC (envOfC qual scope s.heap.objs.size f cd).kindOf (ps.zip us) λ_=>none) D):
  Inv (fZ CX P w K mg base N qual scope f cd A outer s H E) [] (start N vs) H D:=by
 have I:ps.length<=N.length:=by have:=congrArg RG S.pre;rw[OV]at this;omega
 obtain⟨o,T,rfl,B⟩:=x.done;have j:∀b:OA,b∉(fZ CX P w K mg base N qual scope f cd A outer s H E).ex:=λb z=>absurd (show b∈([]:La)from z) (by simp)
 refine⟨⟨e0.mod,S.kind,rfl,rfl,Zf _,λy z c o d=>?_,λy g=>?_,λy c _ h=>?_,λ_=>G,Around.frames_deeper e0.frames,.inr ⟨rfl,rfl⟩,λb z=>absurd z (j b),e0.bs,e0.bsz,λb _ _=>j b,λb z=>absurd z (j b),e0.funs,e0.frf⟩,
  rfl,e0.bare,Un.kept B,⟨_,x.toInCall.ns,λi y v o d J=>?_⟩,λy c h=>⟨_,x.cell y c h⟩,e0.hok.fresh (Zf _),λy c h=>?_,λp l=>absurd (show p∈([]:Lp)from l) (by simp),e0.hok.kept B,?_⟩
 ·exact name_of_addr x.apart (ZF o) (ZF d)
 ·have g:scope.names.lookup y=some .cell\/scope.names.lookup y=some .free:=g;rcases g with g|g
  ·exact ze g
  ·exact absurd rfl (S.nofree _ (ZF g))
 ·exact Qx (x.above y c (ZF h))
 ·have t:i<vs.length:=by
   unfold start at d;by_cases t:i<vs.length
   ·exact t
   ·rw[Zq (by simpa using t)]at d;rw[Rf]at d;split at d<;>cases d
  have F:vs[i]?=some v:=by
   unfold start at d;rw[Zv (by simpa using t),ZW]at d;cases e:vs[i]? with
   |none=>rw[e]at d;cases d
   |some a=>rw[e]at d;cases d;rfl
  obtain⟨u,C,R⟩:=r.get F;have l:ps[i]?=some y:=by rw[<-S.pre,Q7 (by omega)];exact o
  have m:ps.Nodup:=by rw[<-S.pre];exact S.nd.sublist (Qu _ _)
  refine⟨u,R,?_⟩;rcases S.par y (Zx l)with k|k
  ·exact .inl ⟨k,zc m l C k⟩
  ·obtain⟨c,e⟩:=ze (n:=s.heap.objs.size+1) k;refine .inr ⟨.inl k,c,e,?_⟩;have q:=x.cell y c e;rw[zd m l C (by show scope.names.lookup y≠_;rw[k];decide)]at q;exact q
 ·exact e0.hok.fresh (Qx (x.above y c (ZF h)))
 ·unfold start;show _=N.length;rw[Zk,Zn,List.length_replicate];omega
theorem zg{CX:dJ}{P:OF}{k:Nat}{p:Arguments}{body:List Qi}{D kV:OB}{an:Option OA}
   {ps:Ls} {sp:Sp} (lk:K.lookup f=some ⟨oc,od,.func (PySem.W.fnOf name qual p body scope D kV doc pm an cdv ct),osl⟩) (j:PySem.W.codeIn K cdv qual=Ox) (S:bP N ps scope)
  (len:∀vs H Q E,sp vs H Q E->vs.length=ps.length)
  (h:∀(A:Pf) (outer:List Env) (s:Oz) (H:Hp) (vs:List V) (Q:VK) (E:XK),cO k (A.deeper (envOfC qual scope s.heap.objs.size f cdv))->sp vs H Q E->
   ∃t,eL (fZ CX P w K mg base N qual scope f cdv A outer s H E) body t/\t {nx:=λ_ H'=>Q .non H',rt:=Q} (start N vs) H):
  c9 P w K mg base CX (k+1) f (PySem.W.fnOf name qual p body scope D kV doc pm an cdv ct) ps sp:=by
 refine⟨len,λA outer s H m W vs Q E l g C r i=>?_⟩;have M:=len _ _ _ _ i;have KX:=g.mod.kin.keeps λb o e=>(g.bs b o e).1;have L:=g.mod.nolimit.keeps λb o e=>(g.bs b o e).1
 have c:∀y∈ps.zip W,scope.names.lookup y.1=some _\/(scope.names.lookup y.1=some _/\((cellsFrom (s.heap.objs.size+1) _ []).lookup y.1).isSome=Ox):=λZ U=>by obtain⟨n,v⟩:=Z;exact(by
  rcases S.par n (QK U).1 with q|q
  ·exact .inl q
  ·exact .inr ⟨q,PySem.W.cellsFrom_some _ _ _ (.inl q)⟩)
 refine Ur l.depth (KX _ _ lk) rfl S.co S.gen rfl (PySem.W.codeRec_of KX j) (C _ _ _ _ ?_);refine Tf S.kind c λB G s1 x=>?_;subst G;refine⟨L.keeps x.toInCall.keep,codeAny_func ?_⟩;obtain⟨t,T,O⟩:=h A _ s H _ Q E (l.deeper _) i;have I:Inv (fZ CX P w K _ _ N _ _ f _ A _ s H E) _ _ H _:=zf S l.hd g M r x;refine O0 (T _ _ _ H _ I O) (λF z d=>?_) λe z d=>d
 have fin:∀{a:St} {H':Hp} {v:V} {u:OB},Inv (fZ CX P w K mg base N qual scope f cdv A _ s H E) [] a _ _->RelV v u->Q v H'->CE outer P w H s Q u z:=
  λ{a H' v u} J R q=>⟨v,_,J.os,J.bare,J.base,J.hok,R,q⟩
 cases F with
 |ret u=>obtain⟨v,a,H',J,R,q⟩:=d;exact fin J R q
 |next=>obtain⟨a,H',J,q⟩:=d;exact fin (v:=V.non) J rfl q
 |brk=>obtain⟨_,_,_,q⟩:=d;simp_all
 |cont=>obtain⟨_,_,_,q⟩:=d;simp_all
section
variable {X:Cx}{x:Str}{p pos:Pos}{t:TA}{id T:String}{r:List V->Hp->VK->Prop}
noncomputable def G4(r:List V->Hp->VK->Prop)(t:TA):TE:=λσ H Q=>t σ H λvs H1=>r vs H1 Q
theorem ua(f:bn X (.builtin id) r)(i:Gl X x)(j:X.mg x=none)(l:bootBuiltins x=some (.builtin id))(d:PA X (e::es) t)(k:x≠"__name__":=by decide)(a:(x==("__debug__":Str))=Oy:=by decide)
  (g:starEach (e::es) X.env=(Oy,eval e X.env)::starEach es X.env:=by rfl) (b:(backTo pos (starEach es X.env)).any (·.1)=Oy:=by rfl):PE X (.Call (.Name x p) (e::es) [] pos) (G4 r t):=by
 intro P s m H Q I h;exact Pg (fC I i j l (Qs (aT (d _ _ s _ H _ I h) λu S z=>by obtain⟨_,_,c,R,q⟩:=z;exact(f _ _ _ _ _ _ Q c R q)) g b) k a)
theorem m6(f:bn X (.type T) r)(i:Gl X x)(j:X.mg x=none)(l:bootBuiltins x=some (.type T))(d:PA X (e::es) t)(k:x≠"__name__":=by decide)(a:(x==("__debug__":Str))=Oy:=by decide)
  (g:starEach (e::es) X.env=(Oy,eval e X.env)::starEach es X.env:=by rfl) (b:(backTo pos (starEach es X.env)).any (·.1)=Oy:=by rfl):PE X (.Call (.Name x p) (e::es) [] pos) (G4 r t):=by
 intro P s m H Q I h;exact Pg (fC I i j l (OO (aT (d _ _ s _ H _ I h) λu S ⟨_,_,c,R,q⟩=>f _ _ _ _ _ _ Q c R q) g b) k a)
end
end L2
namespace HT
section
open PySem.SeqAt
open PySem.AutoSeq1 (wpAny_loadPart')
open PySem.MeetsSeq PySem.MeetsSeq2 PySem.MeetsSeq3
end
theorem m9{t b:OA}{vs ws:Lv}(l:SR s.heap t vs.toArray)(g:SR s.heap b ws.toArray)(p:vs≠[])
  (h1:ws=[]->Q (.ref t) s) (o:ws≠[]->Q (.ref s.heap.objs.size) {s with heap:=s.heap.push {cls:=.type "tuple",data:=.seq (vs++ws).toArray}})
  (k:vs.length+ws.length<=sizeLine):wpAny (model prog w) A (binaryOp .Add (.ref t) (.ref b)) Q E s:=by
 obtain⟨⟨cls,m,d,sl⟩,H,i,n,j⟩:=id l;obtain⟨⟨C,f,D,S⟩,h,a,N,c⟩:=id g;subst i j a c;by_cases hw:ws=[]
 ·exact Ud ⟨_,H,rfl⟩ ⟨_,h,rfl⟩ SK TJ PySem.F.slot_tuple_add PySem.F.entry_tuple_add (PySem.F.args_tuple_add_2 _ _)
   (tuple_addW1 t b _ _ n _ _ _ _ _ (by simp_all) (by simp_all)) ⟨H,h,h1 hw⟩
 ·refine Ud ⟨_,H,rfl⟩ ⟨_,h,rfl⟩ SK TJ PySem.F.slot_tuple_add PySem.F.entry_tuple_add (PySem.F.args_tuple_add_2 _ _)
   (tuple_addW2 t b _ _ n _ _ _ _ _ (by simp_all) (by simp_all) (by simp_all)) ⟨H,h,?_⟩
  simp_all
noncomputable def bt(n d:Nat):Option Int->Nat
 |none=>d
 |some v=>if v<0 then(v+(n:Int)).toNat else min v.toNat n
theorem m_(n d k:Nat):bt n d (some (k:Int))=min k n:=rfl
theorem ub(n d:Nat)(H:d<=n)(o:Option Int):bt n d o<=n:=by
 cases o with
 |none=>exact H
 |some v=>
  show(if v<0 then(v+(n:Int)).toNat else min v.toNat n)<=n;by_cases h:v<0
  ·rw[if_pos h];omega
  ·rw[if_neg h];exact Nat.min_le_right _ _
theorem zh(v:Int)(n d:Nat):(if v<0 then max (v+(n:Int)) 0 else min v (n:Int))=((bt n d (some v):Nat):Int):=by
 show(if v<0 then max _ 0 else min v _)=((if v<0 then(v+(n)).toNat else min _ n):Nat)
 grind
theorem G5(l h:Option Int)(n:Nat):OZ l h 1 (n:Int)=(((bt n 0 l:Nat):Int),((bt n n h:Nat):Int)):=by
 refine Prod.ext ?_ ?_
 ·cases l with
  |none=>rfl
  |some v=>exact zh v n 0
 ·cases h with
  |none=>rfl
  |some v=>exact zh v n n
theorem G6(i j:Nat):OH (i:Int) (j:Int) 1=j-i:=by unfold OH;lia
theorem ng{v:OB}{o:Option Int}{Q:Option Int->Oz->Prop}(p:Q_ v o)(h:Q o s):wpAny (model prog w) A (Builtin.Slice.slicePartIndex v) Q E s:=by
 cases p with
 |none=>exact slicePart_none h
 |int i t=>exact slicePart_int h
theorem zi{Q:Int×Int×Nat->Oz->Prop}(hs:s.heap.IsSliceOf sl vl vu .none)(pl:Q_ vl lo)(p:Q_ vu hi)
  (h:Q (((bt n 0 lo:Nat):Int),1,bt n n hi-bt n 0 lo) s):wpAny (model prog w) A (QB (.ref sl) (pure (n:Int))) Q E s:=by
 obtain⟨o,a,b,H⟩:=id hs;refine Za (Za (ZM a H rfl (Za (ZM a H rfl (Za (ZM a H rfl (Ze ?_)))))));refine Za (slicePart_none ?_);refine Za (ng pl (Za (ng p (Za (Ze ?_)))));show wpAny _ _ (match OZ _ _ 1 n with| (lo,hi)=>pure (lo,(1:Int),OH lo hi 1)) _ _ s;rw[G5 _ _ n];show wpAny _ _ (pure _) _ _ s;rw[G6];exact Ze h
theorem G7(xs:Av)(i k:Nat):((OD k).filterMap λ(m:Nat)=>xs[((i:Int)+(m:Int)*1).toNat]?).toArray=((xs.toList.drop i).take k).toArray:=by
 have e:(λ(m:Nat)=>xs[((i:Int)+(m:Int)*1).toNat]?)=λm=>xs[i+m]? :=by
  funext m;have:((i:Int)+(m:Int)*1).toNat=i+m:=by omega
  rw[this]
 rw[e];have:=pick_run xs i k;rw[PV]at this;have E:((λx=>xs[x]?)∘λx=>i+x)=λm=>xs[i+m]? :=rfl;rw[E]at this;rw[this]
theorem G8{t:OA}(a:SR s.heap t items)(hs:s.heap.IsSliceOf sl vl vu .none)(pl:Q_ vl lo)(p:Q_ vu hi)
  (hw:¬(bt items.size 0 lo=0/\bt items.size items.size hi=items.size))
  (h:Q (.ref s.heap.objs.size) {s with heap:=s.heap.push {cls:=.type "tuple",data:=.seq ((items.toList.drop (bt items.size 0 lo)).take (bt items.size items.size hi-bt items.size 0 lo)).toArray}})
  (i:items.size<=sizeLine):wpAny (model prog w) A (getItem (.ref t) (.ref sl)) Q E s:=by
 have H:sizeOk (.seq ((items.toList.drop (bt items.size 0 lo)).take (bt items.size items.size hi-bt items.size 0 lo)).toArray):=by show((items.toList.drop (bt items.size 0 lo)).take (bt items.size items.size hi-bt items.size 0 lo)).toArray.size<=sizeLine;rw[Zu,OV,QE,ZH];omega
 have j:bt items.size items.size hi<=items.size:=ub _ _ (Zf _) hi;obtain⟨o,e,c,g⟩:=id hs;have b:s.TypeIs (.ref sl) "slice":=⟨o,e,c⟩;unfold getItem
 try with_reducible refine ZL ?_
 first|refine Za (Ze ?_)|skip
 refine Za (Rm a.typeIs (by decide) ?_)
 refine Za (ZN (name:=PH "__getitem__") a.typeIs ZK
  (ZO ZK a.typeIs Q1 ?_ (Ra _ _)))
 show wpAny _ _ (PU (.ref t)>>=_) _ _ s;refine Za (Sf a ?_);refine Za (Qm b ?_);rw[if_pos (by decide)];refine Za (zi hs pl p ?_);have d:¬((((bt items.size 0 lo:Nat):Int)==0&&(1:Int)==1&&(bt items.size items.size hi-bt items.size 0 lo)==items.size)=Ox):=by intro q;rw[ZG,ZG]at q;have k:((bt items.size 0 lo:Nat):Int)=0:=Z1 q.1.1;have l:bt items.size items.size hi-bt items.size 0 lo=items.size:=Z1 q.2;exact hw ⟨by omega,by omega⟩
 show wpAny _ _ (if(((bt items.size 0 lo:Nat):Int)==0&&(1:Int)==1&&(bt items.size items.size hi-bt items.size 0 lo)==items.size)=Ox then _ else _) _ _ s;rw[if_neg d,G7]
 first
  |exact Za (m:=P4 _) (ZR (Ze ⟨_,rfl,Ze h⟩) H)
  |exact Za (m:=P4 _) (ZR (Za (Ze (Ze ⟨_,rfl,Ze h⟩))) H)
  |exact Za (Za (m:=P4 _) (ZR (Ze (Ze ⟨_,rfl,Ze h⟩)) H))
  |exact Za (Za (m:=P4 _) (ZR (Ze ⟨_,rfl,Ze h⟩) H))
end HT
namespace L2
abbrev TO:=St->Hp->(Option Int->Hp->Prop)->Prop
def PO(X:Cx)(e:Option Expr)(t:TO):Prop:=
 ∀(pq:Lp) (s:Oz) (σ:St) (H:Hp) (Q:Option Int->Hp->Prop),Inv X pq σ H s->t σ H Q->
  wpAny (model X.prog X.w) X.A (evalPart e X.env) (λu s'=>∃o H',Inv X pq σ H' s'/\Q_ u o/\Q o H') X.xe s
noncomputable def nh:TO:=λ_ H Q=>Q none H
noncomputable def zj(t:TE):TO:=λσ H Q=>t σ H λx H1=>∃i,x=.int i/\Q (some i) H1
theorem zk:∀{us:Lv},Vals (ns.map V.int) us->R6 us ns:=by
 induction ns with
 |nil=>intro us r;cases r;exact .nil
 |cons n ns i=>
  intro us r;cases r with
  |cons R a=>obtain⟨t,e⟩:=R;subst e;exact .cons n t (i a)
section
variable {X:Cx}{te:TE}{lo hi:Option Expr}{tl th:TO}{pos:Pos}
theorem ni:PO X none nh:=by intro p s a H Q I h;exact Ze ⟨_,H,I,.none,h⟩
theorem nj(h:PE X e te):PO X (some e) (zj te):=by intro p s c H Q I hw;refine aT (h _ s _ H _ I hw) λu S z=>?_;obtain⟨x,_,a,r,b⟩:=z;obtain⟨i,rfl,q⟩:=b;obtain⟨t,rfl⟩:=r;exact⟨_,_,a,.int i t,q⟩
def F0(X:Cx)(r:V->Option Int->Option Int->Hp->VK->Prop):Prop:=
 ∀(pq:Lp) (s:Oz) (σ:St) (H:Hp) (x:V) (v vl vu:OB) (lo hi:Option Int) (sl:OA) (Q:VK),Inv X pq σ H s->RelV x v->s.heap.IsSliceOf sl vl vu .none->Q_ vl lo->Q_ vu hi->r x lo hi H Q->
  ∃T id,typeLookup (.type T) "__getitem__"=pure (some (.builtin id))/\s.TypeIs v T/\wpAny (model X.prog X.w) X.A (getItem v (.ref sl)) (EP X pq σ Q) X.xe s
noncomputable def N8(r:V->Option Int->Option Int->Hp->VK->Prop)(t:TE)(tl th:TO):TE:=λσ H Q=>t σ H λx H1=>tl σ H1 λl H2=>th σ H2 λu a=>r x l u a Q
theorem G9{r:V->Option Int->Option Int->Hp->VK->Prop}(n:F0 X r)(j:PE X e te)(m:PO X lo tl)(p:PO X hi th):PE X (.Subscript e (.Slice lo hi none p2) pos) (N8 r te tl th):=by intro C s F H Q I h;refine Tg (aT (j _ s _ H _ I h) λv D z=>?_);obtain⟨x,_,c,R,w⟩:=z;refine wpAny_Slice (aT (m _ _ _ _ _ c w) λB E z=>z.elim λl z=>z.elim λ_ z=>z.elim λd z=>z.elim λP y=>aT (p _ _ _ _ _ d y) λvu S z=>?_);obtain⟨u,_,f,t,A⟩:=z;refine Ze ?_;have g:Inv X _ _ _ {S with heap:=S.heap.push {cls:=.type "slice",data:=.fields #[B,vu,.none]}}:=f.kept λb O q=>Zb _ q;obtain⟨T,id,i,o,k⟩:=n _ _ _ _ x v _ _ l u _ Q g R (Qy ..) P t A;exact Sy o i k rfl
noncomputable def h_(xs:List V)(l h:Option Int):List V:=(xs.drop (HT.bt xs.length 0 l)).take (HT.bt xs.length xs.length h-HT.bt xs.length 0 l)
theorem zl(xs:List V)(l h:Option Int):(h_ xs l h).length<=xs.length:=by unfold h_;rw[OV,QE];omega
def G_(K:Fg):V->Option Int->Option Int->Hp->VK->Prop:=λx lo hi H Q=>∃a xs,x=.ref a/\b7 K H a xs/\
 ¬(HT.bt xs.length 0 lo=0/\HT.bt xs.length xs.length hi=xs.length)/\∀p,H p=none->Q (.ref p) (ba H p (.tup (h_ xs lo hi)))
theorem sl_tup:F0 X (G_ X.K):=by
 intro m s u H x v V n l e sl Q I R j p P h;obtain⟨a,d,rfl,k,hw,q⟩:=h;cases R;obtain⟨i,r,f,g⟩:=I.tuple k;have c:i.toArray.size=d.length:=by rw[Zu];exact r.length.symm
 refine⟨"tuple",_,PyProof.Rows.slot_tuple_getitem.lookup,f.typeIs,?_⟩;refine HT.G8 f j p P (by rw[c];exact hw) ?_ (by rw[c];exact g);rw[c];refine⟨.ref s.heap.objs.size,_,I.laid (t':=s.toks) (o:=.tup (h_ d l e)) (λb O q=>Zb _ q) (Zf _) ?_,rfl,q _ (I.hok.fresh (Zf _))⟩;exact⟨Zl (zl d l e) g,_,(r.drop (HT.bt d.length 0 l)).take (HT.bt d.length d.length e-HT.bt d.length 0 l),R9 _ _,mC.new _ _⟩
noncomputable def zm(K:Fg):R2:=λx y H Q=>∃a b xs ys,x=.ref a/\y=.ref b/\b7 K H a xs/\b7 K H b ys/\xs≠[]/\xs.length+ys.length<=sizeLine/\
 (ys=[]->Q (.ref a) H)/\(ys≠[]->∀p,H p=none->Q (.ref p) (ba H p (.tup (xs++ys))))
theorem Vals.nil_iff{xs:List V}(r:Vals xs us):us=[]↔xs=[]:=by
 cases r with
 |nil=>simp
 |cons _ _=>simp
theorem nk:cv X (binaryOp .Add) (zm X.K):=by intro n s A H x y v u Q I l m h;obtain⟨a,b,t,Y,rfl,rfl,c,d,e,f,j,k⟩:=h;subst l;subst m;obtain⟨g,R,p,_⟩:=I.tuple c;obtain⟨i,r,P,_⟩:=I.tuple d;refine HT.m9 p P (λz=>e (R.nil_iff.mp z)) (λz=>⟨.ref a,H,I,rfl,j (r.nil_iff.mp z)⟩) (λz=>?_) (by rw[<-R.length,<-r.length];exact f);refine⟨.ref _,_,I.laid (λb o q=>Zb _ q) (Zf _) ?_,rfl,k (λw=>z (r.nil_iff.mpr w)) _ (I.hok.fresh (Zf _))⟩;exact⟨by simp_all,_,R.append r,R9 _ _,mC.new _ _⟩
end
noncomputable def hV(n:Nat)(i:Int):Option Nat:=if 0<=i then(if i<n then some i.toNat else none)else if-(n:Int)<=i then some (i+n).toNat else none
noncomputable def fA{a:Type}(xs:List a)(i:Int):Option a:=(hV xs.length i).bind λj=>xs[j]?
theorem uc{i:Int}{j:Nat}(h:hV n i=some j):seqIndex? i n=some j/\j<n/\ -(n:Int)<=i/\i<n:=by
 unfold hV at h;by_cases a:0<=i
 ·rw[if_pos a]at h;by_cases H:i<n
  ·rw[if_pos H]at h;have e:=OY h;exact⟨by rw[seqIndex_of a H,e],by lia,by lia,H⟩
  simp_all
 ·rw[if_neg a]at h;by_cases H: -n<=i
  ·rw[if_pos H]at h;have e:=OY h;exact⟨by rw[Ue (by simp_all) H,e],by lia,H,by lia⟩
  simp_all
theorem ud{xs:List α}{i:Int}{v:α}(h:fA xs i=some v):∃j,seqIndex? i xs.length=some j/\xs[j]?=some v/\j<xs.length/\ -(xs.length:Int)<=i/\i<xs.length:=by
 unfold fA at h;cases e:hV xs.length i with
 |none=>simp_all
 |some j=>rw[e]at h;obtain⟨H,a,b,c⟩:=uc e;exact⟨j,H,h,a,b,c⟩
def zn(b:Expr):Prop:=∀o i,subscripted b Oy o i=operate [o,i] (getItem o i)
def yn(X:Cx)(r:R2):Prop:=
 ∀(value S:Expr) (pq:Lp) (s:Oz) (σ:St) (H:Hp) (x y:V) (v u:OB) (Q:VK),Inv X pq σ H s->RelV x v->RelV y u->r x y H Q->
  subscripted S Oy v u=operate [v,u] (getItem v u)->wpAny (model X.prog X.w) X.A (subscriptTail value S v u) (EP X pq σ Q) X.xe s
def jX(X:Cx)(id:String)(r:V->List V->Hp->VK->Prop):Prop:=
 ∀(pq:Lp) (s:Oz) (σ:St) (H:Hp) (x:V) (xs:List V) (v:OB) (us:Lv) (Q:VK),Inv X pq σ H s->RelV x v->Vals xs us->r x xs H Q->
  wpAny (model X.prog X.w) X.A (call (.builtin id) (v::us)) (EP X pq σ Q) X.xe s
section
variable {X:Cx}{a b:Expr}{ta tb:TE}{pos:Pos}
theorem rY{r:R2}(f:yn X r)(d:PE X a ta)(e:PE X b tb)(hs:zn b):PE X (.Subscript a b pos) (FZ r ta tb):=by intro p s j H Q I h;exact Tg (tP d e I h λv u S x y i c R g q=>f a b _ _ _ _ x y v u Q c R g q (hs _ _))
noncomputable def G'(K:Fg):R2:=λx y H Q=>∃p xs i v,x=.ref p/\y=.int i/\c8 K H p xs/\fA xs i=some v/\Q v H
noncomputable def Hc(K:Fg):R2:=λx y H Q=>∃p xs i v,x=.ref p/\y=.int i/\b7 K H p xs/\fA xs i=some v/\Q v H
noncomputable def Hd:R2:=λx y H Q=>∃z i c,x=.str z/\y=.int i/\z.length<=sizeLine/\fA z.cps.toList i=some c/\Q (.str ⟨#[c]⟩) H
theorem zo:yn X (G' X.K):=by
 intro V S F s J H x y v u Q I n o h d;obtain⟨p,G,i,z,rfl,rfl,m,k,q⟩:=h;cases n;obtain⟨t,rfl⟩:=o;obtain⟨a,r,P,D⟩:=I.list m;obtain⟨j,c,e,A,f,g⟩:=ud k;obtain⟨w,E,R⟩:=r.get e;have B:=r.length;have C:=hZ;have fin:EP X _ _ Q w s:=⟨z,H,I,R,q⟩;by_cases b:0<=i
 ·have l:i.toNat=j:=by
   rw[seqIndex_of b g]at c;simp_all
  exact item_listR P.isList b (by omega) (by simp_all) fin d
 ·have l:(i+a.toArray.size).toNat=j:=by
   rw[Ue (by omega) f]at c;simp_all
  exact Ug P.isList.typeIs slot_list_getitem.lookup
   (wpAny_getItem_list_neg P.isList (by omega) (by simp_all) (by omega) (by simp_all) ⟨rfl,fin⟩) d
theorem ue:yn X (Hc X.K):=by
 intro V S C s F H x y v u Q I f g h d;obtain⟨p,D,i,z,rfl,rfl,c,b,q⟩:=h;cases f;obtain⟨t,rfl⟩:=g;obtain⟨e,r,P,B⟩:=I.tuple c;obtain⟨j,k,a,l,m,n⟩:=ud b;obtain⟨w,E,R⟩:=r.get a;have o:=r.length;have A:=hZ;have fin:EP X _ _ Q w s:=⟨z,H,I,R,q⟩
 exact Ug P.typeIs slot_tuple_getitem.lookup
  (getItem_tuple (j:=j) P (by omega) (by omega) (by simp_all) (by simp_all) ⟨rfl,fin⟩) d
theorem uf:yn X Hd:=by
 intro V S p s w H x y v u Q I r R h l;obtain⟨z,i,c,rfl,rfl,o,g,q⟩:=h;obtain⟨t,rfl⟩:=r;obtain⟨T,rfl⟩:=R;obtain⟨j,a,b,m,d,f⟩:=ud g;have k:z.cps.toList.length=z.length:=by simp[Str.length]
 rw[k]at a d f;have n:=hZ
 exact Sy (Qk s z t) slot_str_getitem.lookup (getItem_str (c:=c) (by have e:decide (i< -(2^63:Int))=Oy:=Zy (by omega);have E:decide (i>=2^63)=Oy:=Zy (by omega);rw[e,E,Bool.or_false]) (by rw[a];simpa using b) ⟨.str ⟨#[c]⟩,H,I.tok _,⟨_,rfl⟩,q⟩) l
theorem He(its:Lv)(n j:Nat)(u:OB):O4 (·.setIfInBounds j u) {cls:=.type "list",data:=.seq its.toArray n}={cls:=.type "list",data:=.seq (its.set j u).toArray n}:=by simp[O4]
theorem Inv.lst{σ:St}{H:Hp}{p:OA}{xs:List V}(I:Inv X pq σ H s)(h:H p=some (.lst xs)):
  ∃(its:Lv) (n:Nat),Vals xs its/\s.heap.get? p=some {cls:=.type "list",data:=.seq its.toArray n}/\xs.length<=sizeLine:=by
 obtain⟨z,its,n,r,e⟩:=I.hok p _ h;exact⟨_,n,r,e,z⟩
theorem Inv.lstUpd{σ:St}{H:Hp}{p:OA}{xs ys:List V}{its i:Lv}{n N:Nat}{f:Obj->Obj}(I:Inv X pq σ H s)(h:H p=some (.lst xs))
  (g:s.heap.get? p=some {cls:=.type "list",data:=.seq its.toArray n}) (c:f {cls:=.type "list",data:=.seq its.toArray n}={cls:=.type "list",data:=.seq i.toArray N}) (r:Vals ys i) (j:ys.length<=sizeLine) (t:Nat):
  Inv X pq σ (ba H p (.lst ys)) {s with heap:=s.heap.update p f,toks:=t}:=by
 have e:(s.heap.update p f).get? p=some {cls:=.type "list",data:=.seq i.toArray N}:=by rw[O8 f g (by rw[c]<;>rfl),c]
 refine I.write (by rw[h];trivial) (.inl rfl) (λb u d q=>(Qv _ _ (Ne.symm d)).trans q) ⟨_,e⟩ ?_;exact⟨j,_,_,r,e⟩
def zp:V->V->V->Hp->(Hp->Prop)->Prop:=λo i v H Q=>∃p xs k j,o=.ref p/\i=.int k/\H p=some (.lst xs)/\hV xs.length k=some j/\Q (ba H p (.lst (xs.set j v)))
theorem Hf:tJ X zp:=by
 intro P s D H o i v O G u Q I A R B h;obtain⟨p,C,k,j,rfl,rfl,x,y,q⟩:=h;cases A;obtain⟨t,rfl⟩:=R;obtain⟨a,n,r,e,z⟩:=I.lst x;obtain⟨b,E,l,m⟩:=uc y;have d:=r.length;have F:=hZ
 have f:Inv X P D (ba H p (.lst (C.set j v))) {s with heap:=s.heap.update p (O4 (·.setIfInBounds j u))}:=
  I.lstUpd x e (He a n j u) (r.set B j) (by rw[List.length_set];exact z) s.toks
 by_cases g:0<=k
 ·have c:k.toNat=j:=by
   rw[seqIndex_of g m]at b;exact OY b
  exact PySem.W.ki_setAt e g (by omega) (by rw[Zu,<-d];exact m) (by rw[c];exact⟨_,f,q⟩)
 ·have c:(k+(a.toArray.size:Int)).toNat=j:=by
   rw[Ue (by omega) l]at b;rw[Zu,<-d];exact OY b
  exact PySem.W.ki_setBack e (by omega) (by rw[Zu,<-d];exact l) (by omega) (by rw[c];exact⟨_,f,q⟩)
theorem Hg(l H:Option Int)(n:Nat):(sliceBounds l H none n).1=((HT.bt n 0 l:Nat):Int)/\(sliceBounds l H none n).2.1=((HT.bt n n H:Nat):Int)/\(sliceBounds l H none n).2.2=1:=by
 refine⟨?_,?_,rfl⟩
 ·cases l with
  |none=>rfl
  |some i=>
   simp only[sliceBounds,HT.bt,T5,show(1:Int)>0 by decide,if_true];by_cases h:i<0
   ·simp only[h,if_true]<;>omega
   ·simp only[h,Z3]<;>omega
 ·cases H with
  |none=>rfl
  |some i=>
   simp only[sliceBounds,HT.bt,T5,show(1:Int)>0 by decide,if_true];by_cases h:i<0
   ·simp only[h,if_true]<;>omega
   ·simp only[h,Z3]<;>omega
theorem Hh(its:Lv)(l h:Option Int):slicePick its.toArray l h none=((its.drop (HT.bt its.length 0 l)).take (HT.bt its.length its.length h-HT.bt its.length 0 l)).toArray:=by obtain⟨H,a,b⟩:=Hg _ _ _;unfold slicePick;rw[H,a,b];simp only[sliceRange_one,pick_run]<;>rfl
def Hi(K:Fg):V->Option Int->Option Int->Hp->VK->Prop:=λx lo hi H Q=>∃a xs,x=.ref a/\c8 K H a xs/\∀p,H p=none->Q (.ref p) (ba H p (.lst (h_ xs lo hi)))
theorem nq:F0 X (Hi X.K):=by intro k s t H x v V m l j sl Q I R e p P h;obtain⟨a,n,rfl,f,q⟩:=h;subst R;obtain⟨i,r,d,g⟩:=I.list f;have c:=r.length;refine⟨_,_,slot_list_getitem.lookup,d.isList.typeIs,?_⟩;refine TK d.isList e p P .none (by decide) ?_ (by simp_all);rw[Hh,<-c];refine⟨.ref _,_,I.laid (λb o q=>Zb _ q) (Zf _) ?_,rfl,q _ (I.hok.fresh (Zf _))⟩;exact⟨Zl (zl _ _ _) g,_,0,(r.drop _).take _,Zi _ rfl⟩
theorem Hj:bn X (.builtin "len") (λxs H Q=>∃p ys,xs=[.ref p]/\(c8 X.K H p ys\/b7 X.K H p ys)/\Q (.int ys.length) H):=by
 intro f s g H xs U Q I r h;obtain⟨p,ys,rfl,b,q⟩:=h;obtain⟨u,rfl,d⟩:=vals1 r;cases d;have e:=hZ;rcases b with b|b
 ·obtain⟨i,R,P,c⟩:=I.list b;have a:=R.length;exact Calls.call_len_list P.isList (by grind) ⟨.int _,H,I.tok _,⟨s.toks+1,by simp_all⟩,q⟩
 ·obtain⟨i,R,P,c⟩:=I.tuple b;have a:=R.length;exact len_tuple P (by grind) ⟨.int _,H,I.tok _,⟨s.toks+1,by simp_all⟩,q⟩
theorem Hk:bn X (.builtin "len") (λxs H Q=>∃z,xs=[.str z]/\z.length<=sizeLine/\Q (.int z.length) H):=by intro p s c H xs U Q I r h;obtain⟨z,rfl,b,q⟩:=h;obtain⟨u,rfl,t,rfl⟩:=vals1 r;have a:=hZ;exact len_str (by lia) ⟨.int _,H,I.tok _,⟨_,rfl⟩,q⟩
theorem Hl:bn X (.type "list") (λxs H Q=>∃p ys,xs=[.ref p]/\(c8 X.K H p ys\/b7 X.K H p ys)/\∀l,H l=none->Q (.ref l) (ba H l (.lst ys))):=by
 intro v s w H xs U Q I r h;obtain⟨p,ys,rfl,d,q⟩:=h;obtain⟨u,rfl,t⟩:=vals1 r;subst t
 have fin:∀(i:List _),Vals _ i->ys.length<=sizeLine->∀(a:OI) (C:Nat),(∀b O,s.heap.get? b=some _->a.get? b=some _)->
   a.get? _=some _->EP X _ _ Q _ _:=λi R f a C k e=>
  ⟨.ref _,_,I.laid (t':=s.toks) k (Zf _) (show bg _ _ _ _ _ (.lst _)from⟨f,_,C,R,e⟩),rfl,q _ (I.hok.fresh (Zf _))⟩
 rcases d with d|d
 ·obtain⟨i,R,P,f⟩:=I.list d;have c:=R.length;obtain⟨o,m,g,n,j⟩:=P.isList;exact call_list_seq p (.inl rfl) m g j (λa C k e=>fin _ R f _ _ k e) (by simp_all)
 ·obtain⟨i,R,P,f⟩:=I.tuple d;have c:=R.length;obtain⟨o,m,g,n,j⟩:=P;exact call_list_seq p (.inr rfl) m g j (λa C k e=>fin _ R f _ _ k e) (by simp_all)
theorem zr:bn X (.type "tuple") (λxs H Q=>∃p ys,xs=[.ref p]/\((c8 X.K H p ys/\∀l,H l=none->Q (.ref l) (ba H l (.tup ys)))\/(b7 X.K H p ys/\Q (.ref p) H))):=by
 intro n s v H xs U Q I r h;obtain⟨p,ys,rfl,h⟩:=h;obtain⟨u,rfl,j⟩:=vals1 r;subst j;rcases h with⟨a,q⟩| ⟨a,q⟩
 ·obtain⟨i,R,P,f⟩:=I.list a;have d:=R.length;refine call_tuple_list P.isList (λm k=>?_) (by simp_all);have c:=I.kept (t':=s.toks) k
  have g:=
   c.laid (t':=s.toks) (λb o e=>Zb _ e) (Zf _) (show bg _ _ _ _ _ (.tup _)from⟨f,_,R,R9 _ _,mC.new _ _⟩)
  exact⟨.ref _,_,g,rfl,q _ (c.hok.fresh (Zf _))⟩
 ·obtain⟨i,R,P,f⟩:=I.tuple a;exact call_tuple_same P ⟨.ref p,H,I,rfl,q⟩
def zt(K:Fg)(T:String)(x:V)(H:Hp):Prop:=match x with
 | .str _=>T="str"
 | .int _=>T="int"
 | .ref p=>(T="list"/\∃xs,c8 K H p xs)\/(T="tuple"/\∃o,K.lookup p=some o/\o.cls=.type "tuple"/\o.dict=none)\/
   (T="dict"/\((∃k,H p=some (.dK k))\/∃k,H p=some (.dT k)))\/(T="set"/\∃S n,H p=some (.set S n))
 |_=>False
theorem jY{σ:St}{H:Hp}{T:String}{x:V}{v:OB}(I:Inv X pq σ H s)(r:RelV x v)(ty:zt X.K T x H):
  s.TypeIs v T/\∀a,v=.ref a->∃ob,s.heap.get? a=some ob/\ob.dict=none:=by
 cases x with
 |str z=>
  obtain⟨t,rfl⟩:=r;cases show T="str" from ty
  exact⟨Qk s z t,λ_ e=>nomatch e⟩
 |int i=>
  obtain⟨t,rfl⟩:=r;cases show T="int" from ty
  exact⟨typeIs_int s i t,λ_ e=>nomatch e⟩
 |ref p=>
  cases r;rcases ty with⟨rfl,l,g⟩| ⟨rfl,o,h,f,d⟩| ⟨rfl,h⟩| ⟨rfl,S,n,h⟩
  ·obtain⟨j,_,P,_⟩:=I.list g;refine⟨P.isList.typeIs,λa e=>?_⟩;obtain⟨o,n,e,c,d,_⟩:=P;simp_all
  ·refine⟨⟨o,I.kIn p o h,f⟩,λa e=>?_⟩;cases e;exact⟨o,I.kIn _ o h,d⟩
  ·have z:∃o,s.heap.get? p=some o/\o.ExactDict:=by
    rcases h with⟨k,h⟩| ⟨k,h⟩
    ·obtain⟨_,_,_,_,o,_,_,e,E,_⟩:=I.hok p _ h;simp_all
    ·obtain⟨_,_,_,_,o,_,_,e,E,_⟩:=I.hok p _ h;simp_all
   obtain⟨o,e,E⟩:=z;refine⟨⟨o,e,E.1⟩,λa b=>?_⟩;cases b;exact⟨o,e,E.2.1⟩
  ·obtain⟨o,_,_,_,e,E,_⟩:=I.hok p _ h;refine⟨⟨o,e,E.1⟩,λa b=>?_⟩;cases b;exact⟨o,e,E.2.1⟩
 |_=>exact False.elim ty
noncomputable def Hm(K:Fg)(T:String)(r:V->List V->Hp->VK->Prop)(to:TE):TE:=λσ H Q=>to σ H λx H1=>zt K T x H1/\r x [] H1 Q
noncomputable def Nr(K:Fg)(T:String)(r:V->List V->Hp->VK->Prop)(to:TE)(t:TA):TE:=λσ H Q=>to σ H λx H1=>zt K T x H1/\t σ H1 λxs H2=>r x xs H2 Q
variable {o:Expr}{to:TE}{t:TA}{T id:String}{r:V->List V->Hp->VK->Prop}
theorem ug(p:PlainAttrs T)(S:Slot T name id)(c:typeOf (.builtin id)=pure (.type "method_descriptor"))(g:jX X id r)(i:PE X o to)
  (a:attributeBase o name X.env (eval o X.env)=eval o X.env:=by rfl) (b:(apos.endLine==cpos.line)=Ox:=by rfl):PE X (.Call (.Attribute o name apos) [] [] cpos) (Hm X.K T r to):=by
 intro P s k H Q I h;refine wpAny_Call_method0_late a b (aT (i _ s _ H _ I h) λv j z=>?_);obtain⟨x,_,d,R,ty,q⟩:=z;obtain⟨e,f⟩:=jY d R ty;exact⟨T,_,p,S,c,e,f,Po rfl (PySem.evalArgs_none (g _ _ _ _ x _ v _ Q d R .nil q))⟩
theorem rZ(P:PlainAttrs T)(S:Slot T name id)(f:typeOf (.builtin id)=pure (.type "method_descriptor"))(n:jX X id r)(p:PE X o to)(m:PA X (e::es) t)
  (a:attributeBase o name X.env (eval o X.env)=eval o X.env:=by rfl)
  (c:((backTo cpos (starEach (e::es) X.env)).all (λx=> !x.1)&&(backToKw cpos (keywordEach [] X.env)).all (λx=>x.1.isSome)
   &&decide ((e::es).length+([]:List Rl).length+(if([]:List Rl).isEmpty then 0 else 1)<30))=Ox:=by rfl)
  (b:(apos.endLine==cpos.line)=Ox:=by rfl) (hs:starEach (e::es) X.env=(Oy,eval e X.env)::starEach es X.env:=by rfl) (d:(backTo cpos (starEach es X.env)).any (·.1)=Oy:=by rfl):
  PE X (.Call (.Attribute o name apos) (e::es) [] cpos) (Nr X.K T r to t):=by
 intro y s C H Q I h;refine P5 a c b rfl (aT (p _ s _ H _ I h) λv A z=>?_);obtain⟨x,_,g,R,ty,q⟩:=z;obtain⟨k,l⟩:=jY g R ty;refine⟨T,_,P,S,f,k,l,?_⟩;have i:=m cpos _ _ _ _ _ g q;rw[hs]at i⊢;exact Po (by assumption) (Pz (aT i λU B z=>by obtain⟨_,_,j,w,u⟩:=z;exact(n _ _ _ _ x _ v _ Q j R w u)))
end
def Hn(X:Cx)(id:String)(r:V->List V->Hp->VK->Prop):Prop:=
 ∀(pq:Lp) (s:Oz) (σ:St) (H:Hp) (x:V) (xs:List V) (v:OB) (us:Lv) (Q:VK),Inv X pq σ H s->RelV x v->Vals xs us->r x xs H Q->
  wpAny (model X.prog X.w) X.A (call (.builtin id) (v::us)) (EP X pq σ Q) X.xe s
theorem Vals.un{x:V}{xs:List V}(h:Vals (x::xs) us):∃u r,us=u::r/\RelV x u/\Vals xs r:=by
 cases h with
 |cons r t=>exact⟨_,_,rfl,r,t⟩
theorem Vals.nul(h:Vals [] us):us=[]:=by cases h;rfl
theorem Vals.one{x:V}(h:Vals [x] us):∃u,us=[u]/\RelV x u:=by obtain⟨u,r,rfl,H,a⟩:=h.un;cases a.nul;exact⟨u,rfl,H⟩
theorem Vals.two{x y:V}(h:Vals [x,y] us):∃u v,us=[u,v]/\RelV x u/\RelV y v:=by obtain⟨u,r,rfl,a,H⟩:=h.un;obtain⟨v,rfl,b⟩:=H.one;lia
theorem Vals.zero:∀{us:Lv},Vals [] us->us=[]
 |_,.nil=>rfl
theorem Vals.dropLast{xs:List V}(h:Vals xs us):Vals xs.dropLast us.dropLast:=by
 induction h with
 |nil=>exact .nil
 |cons r t i=>
  cases t with
  |nil=>exact .nil
  |cons q T=>exact .cons r i
theorem Vals.eraseIdx:∀{xs:List V} {us:Lv} (i:Nat),Vals xs us->Vals (xs.eraseIdx i) (us.eraseIdx i)
 |_,_,_,.nil=>.nil
 |_,_,0,.cons _ t=>t
 |_,_,i+1,.cons r t=>.cons r (Vals.eraseIdx i t)
theorem Vals.reverse{xs:List V}(h:Vals xs us):Vals xs.reverse us.reverse:=by
 induction h with
 |nil=>exact .nil
 |cons r t i=>rw[Q3,Q3];exact Vals.append i (.cons r .nil)
theorem Vals.rep{xs:List V}(h:Vals xs us):∀k:Nat,Vals (OG k xs).flatten (OG k us).flatten
 |0=>.nil
 |k+1=>by exact Vals.append h (Vals.rep h k)
theorem zu{a:Type}:∀(l:List a) (i:Nat),(l.eraseIdx i).length<=l.length
 | [],_=>Zf _
 |_::_,0=>TL _
 |_::r,i+1=>Nat.succ_le_succ (zu r i)
theorem zv(its:Lv):∀(k:Nat) (acc:Lv),
  List.foldl (λx1 x2=>x1++x2) acc.toArray (OG k its.toArray)=(acc++(OG k its).flatten).toArray
 |0,acc=>by simp
 |k+1,acc=>by
  have e:acc.toArray++its.toArray=(acc++its).toArray:=by simp
  have E:acc++its++(OG k its).flatten=acc++(OG (k+1) its).flatten:=by grind
  rw[<-E,<-zv _ k _,<-e,RP,Rt]
section
variable {X:Cx}{σ:St}{H:Hp}{l b:OA}{xs ys zs:List V}
theorem Inv.lset{its i:Lv}{n:Nat}{f:Av->Av}{t':Nat}(I:Inv X pq σ H s)(a:H l=some (.lst xs))
  (e:s.heap.get? l=some {cls:=.type "list",data:=.seq its.toArray n}) (c:f its.toArray=i.toArray) (g:Vals ys i) (j:ys.length<=sizeLine):
  Inv X pq σ (ba H l (.lst ys)) {s with heap:=s.heap.update l (O4 f),toks:=t'}:=by
 have q:=PySem.IsL.update e f;rw[c]at q;refine I.write (by rw[a];exact trivial) (.inl rfl) (λB u b d=>(Qv _ _ (Ne.symm b)).trans d) ⟨_,q⟩ ?_;exact⟨j,_,_,g,q⟩
theorem Inv.lnew{t':Nat}(I:Inv X pq σ H s)(a:Vals ys its)(b:ys.length<=sizeLine):
  Inv X pq σ (ba H s.heap.objs.size (.lst ys)) {s with heap:=s.heap.push {cls:=.type "list",data:=.seq its.toArray},toks:=t'}:=
 I.laid (λ_ _ q=>Zb _ q) (Zf _) ⟨b,_,0,a,Zi _ rfl⟩
theorem Inv.fresh(I:Inv X pq σ H s):H s.heap.objs.size=none:=I.hok.fresh (Zf _)
theorem Inv.lstM(I:Inv X pq σ H s)(h:H l=some (.lst xs)):xs.length<=sizeLine/\∃(its:Lv) (n:Nat),Vals xs its/\xs.length=its.length/\s.heap.get? l=some {cls:=.type "list",data:=.seq its.toArray n}:=by obtain⟨z,its,n,r,e⟩:=I.hok l _ h;exact⟨z,_,n,r,r.length,e⟩
theorem Ho(h:n<=sizeLine):R7 n=Oy:=by exact Zy (by omega)
end
section
variable {X:Cx}
def nr:V->List V->Hp->VK->Prop:=λx vs H Q=>∃l xs y,x=.ref l/\vs=[y]/\H l=some (.lst xs)/\xs.length<sizeLine/\Q .non (ba H l (.lst (xs++[y])))
theorem zw:Hn X "list.append" nr:=by intro p s j H x vs v U Q I c b h;obtain⟨l,g,y,rfl,rfl,a,f,q⟩:=h;cases c;obtain⟨u,rfl,R⟩:=b.one;obtain⟨z,i,n,r,d,e⟩:=I.lstM a;refine P6 F.slot_list_append ⟨_,e,rfl⟩ F.entry_list_append (F.args_list_append_2 _ _) (PySem.list_append l _ n u (by simp_all)) ⟨e,?_⟩;refine⟨.non,_,I.lset a e (by simp) (r.append (.cons R .nil)) ?_,rfl,q⟩;rw[Zk,O9];omega
def Hq:V->List V->Hp->VK->Prop:=λx vs H Q=>∃l xs y,x=.ref l/\vs=[]/\H l=some (.lst xs)/\xs[xs.length-1]?=some y/\Q y (ba H l (.lst xs.dropLast))
theorem uh:Hn X "list.pop" Hq:=by
 intro p s o H x vs v U Q I g f h;obtain⟨l,m,y,rfl,rfl,c,d,q⟩:=h;cases g;have a:=f.zero;subst a;obtain⟨z,i,n,r,j,e⟩:=I.lstM c;obtain⟨u,k,R⟩:=r.get d;have b:i.toArray[i.toArray.size-1]?=some u:=by simp_all
 refine P6 F.slot_list_pop ⟨_,e,rfl⟩ F.entry_list_pop (F.args_list_pop_1 _) (MeetsSeq.list_pop_last l _ n u b (by simp_all)) ⟨e,?_⟩;refine⟨y,_,I.lset c e ?_ r.dropLast ?_,R,q⟩
 ·simp_all
 ·rw[List.length_dropLast];omega
def ui:V->List V->Hp->VK->Prop:=λx vs H Q=>∃l xs i k y,x=.ref l/\vs=[.int i]/\H l=some (.lst xs)/\ -(2^63)<=i/\i<2^63/\seqIndex? i xs.length=some k/\xs[k]?=some y/\Q y (ba H l (.lst (xs.eraseIdx k)))
theorem Hr:Hn X "list.pop" ui:=by
 intro P s B H x vs v U Q I m j h;obtain⟨l,o,i,k,y,rfl,rfl,a,b,c,p,d,q⟩:=h;cases m;obtain⟨u,rfl,g⟩:=j.one;obtain⟨t,rfl⟩:=g;obtain⟨z,f,n,r,A,e⟩:=I.lstM a;obtain⟨w,hw,R⟩:=r.get d
 refine P6 F.slot_list_pop ⟨_,e,rfl⟩ F.entry_list_pop (F.args_list_pop_2 _ _)
  (MeetsSeq.list_pop_at l _ n i t k w (fitsIndex_both b c) (by simp_all) (by simp_all) (by simp_all)) ⟨e,?_⟩
 refine⟨y,_,I.lset a e ?_ (r.eraseIdx k) ?_,R,q⟩
 ·simp_all
 ·have:=zu o k;omega
noncomputable def Hs:R2:=λx y H Q=>∃l b xs zs,x=.ref l/\y=.ref b/\H l=some (.lst xs)/\H b=some (.lst zs)/\xs.length+zs.length<=sizeLine/\∀p,H p=none->Q (.ref p) (ba H p (.lst (xs++zs)))
theorem nu:cv X (binaryOp .Add) Hs:=by
 intro p s A H x y v u Q I j k h;obtain⟨l,b,t,w,rfl,rfl,f,d,o,q⟩:=h;subst j;subst k;obtain⟨z,a,n,r,m,e⟩:=I.lstM f;obtain⟨Z,i,N,R,g,E⟩:=I.lstM d;refine PySem.P.add_list e E ?_ (by simp_all);have c:a.toArray++i.toArray=(a++i).toArray:=by simp
 rw[c];exact⟨.ref _,_,I.lnew (r.append R) (by simp_all),rfl,q _ I.fresh⟩
noncomputable def Ht:R2:=λx y H Q=>∃l k xs,x=.ref l/\y=.int k/\H l=some (.lst xs)/\ -(2^63)<=k/\k<2^63/\xs.length*k.toNat<=sizeLine/\
 ∀p,H p=none->Q (.ref p) (ba H p (.lst (OG k.toNat xs).flatten))
theorem nv(xs:List α)(k:Nat):(OG k xs).flatten.length=k*xs.length:=by simp_all
theorem uj:cv X (binaryOp .Mult) Ht:=by
 intro P s J H x y v u Q I R A h;obtain⟨l,k,G,rfl,rfl,p,j,o,w,q⟩:=h;cases R;obtain⟨t,rfl⟩:=A;obtain⟨z,i,n,r,D,e⟩:=I.lstM p;have f:i.toArray.size*k.toNat<=sizeLine:=by simp_all
 have c:¬i.toArray.size*k.toNat>(2^63-1)/8:=by
  have:(sizeLine)<=(2^63-1)/8:=by decide
  omega
 have d:¬(!Builtin.List.listFitsIndex k)=Ox:=by rw[fitsIndex_both j o];simp_all
 have b:¬R7 (i.toArray.size*k.toNat)=Ox:=by rw[Ho f];simp_all
 have g:List.foldl (λB C=>B++C) #[] (OG (if i.toArray.isEmpty=Ox then 0 else k.toNat) i.toArray)=(OG k.toNat i).flatten.toArray:=by
  have f0:=λm=>by have:=zv i m [];omega
  cases i with
  |nil=>simp
  |cons a E=>simp_all
 refine wpAny_binaryOp_repeat_ref (by lia) ⟨_,e,rfl⟩ (λS=>typeIs_int _ k t) noFill_list_mul F.fills_int_mul F.slot_int_rmul repeat_list F.slot_int_index.lookup
  (P6 F.slot_int_rmul (typeIs_int s k t) F.entry_int_rmul (F.args_int_rmul_2 _ _) (int___rmul___int_list k t l _ n)
   ⟨e,rfl,⟨_,e,rfl⟩,P6 F.slot_list_mul ⟨_,e,rfl⟩ F.entry_list_mul (F.args_list_mul_2 _ _) (AutoListH.list___mul___list_int_3 l _ n k t d c b) ⟨e,?_⟩⟩)
 rw[g];exact⟨.ref _,_,I.lnew (r.rep _) (by rw[nv,Nat.mul_comm];exact w),rfl,q _ I.fresh⟩
end
set_option maxRecDepth 100000 in
section
variable {X:Cx}
end
end L2
namespace Att
open PySem PySem.W PySem.Calls PyProof.Rows
theorem Hu{P:Params}:∀(ns:Li) (vs:Lv),WellAll P h vs (ns.map WData.int)->R6 vs ns:=by
 intro ns
 induction ns with
 |nil=>intro vs w;cases w;exact .nil
 |cons n ns i=>
  intro vs w;cases w with
  |cons a b=>cases a;exact .cons _ _ (i _ b)
theorem Hv{l:OpenLaw}(k:l.most=some n){P:Params}{A:List WData}{v:Lv}
  (H:l.row.toRowW.claim.pre A=Ox) (f:WellAll P h v A):
  ∃a vs ns,v=[PK a]/\A=[WData.list (ns.map WData.int)]/\h.get? a=some {cls:=.type "list",data:=.seq vs.toArray}/\R6 vs ns/\ns.length<=n:=by
 obtain⟨d,r,rfl,g,i⟩:=hasAllW_cons (pre_splitW H).1;obtain rfl:=hasAllW_nil i;obtain⟨x,rfl,j⟩:=hasW_list g;obtain⟨ns,rfl⟩:=items_int j
 have c:ns.length<=n:=by
  have e:=by have e:=(holds_andW (pre_splitW H).2).1;rw[k]at e;exact e
  have o:=condW_of e (w_not (w_lt w_lit (w_len_list (w_arg rfl))));simp_all
 cases f with
 |cons w W=>
  cases W;cases w with
  |list m b=>exact⟨_,_,_,rfl,rfl,m,Hu _ _ b,c⟩
theorem Hw(l:OpenLaw)(a:List WData):l.row.toRowW.claim.post a (.bool Ox) a=Ox:=
 postW_of
  (show WShape.has _ _ _=Ox by rfl)
  (show(WTm.eq _ _).value _ _=some _ from w_eq_bool (w_res rfl) w_lit) rfl
theorem Hy{l:OpenLaw}{q:OF}{d:DefRec}
  (C:l.most=some n) (g:d.params.defaults=[])
  (call:∀(w:ON) (S s:Oz) (mg m:Mg) (fa:OA) (o:Obj) (pm cd doc:OB) (a:OA) (vs:Lv) (ns:Li),
   Ground q loose [] XP w S mg m s.heap->YP w s.heap->
   s.heap.get? fa=some o->o.data=.func (docDef d.name d.params d.body d.scope pm cd doc)->s.heap.CodeRec cd d.name->mg d.name=some (.ref fa)->
   s.heap.get? a=some {cls:=.type "list",data:=.seq vs.toArray}->R6 vs ns->ns.length<=n->s.gens= #[]->
   codeAny (model l.prog w) callerA (.call (.ref fa) ⟨[.ref a],[]⟩) (λr s'=>r=.ok (.ret (.bool Ox))/\OldK s.heap s'.heap/\s'.os=s.os/\Rk s'.gens) s):
  WalkO q loose XP YP l.row.toRowW d [] (λf vs=>PySem.call f vs):=by
 intro w S s mg m G Y fa o pm cd doc D kV E x e hD i y A v as c k I j z;obtain rfl:D=.none:=Dflts.none hD g;obtain rfl:kV=.none:=Dflts.noKw hD;obtain⟨a,vs,ns,rfl,rfl,b,h,H⟩:=Hv C c j;refine enter_call (P2 (call w _ _ _ _ _ o _ _ _ a _ _ G Y E (fd_plain x) e i b h H y) λr s' F=>?_);obtain⟨rfl,p,t,u⟩:=F;exact⟨.inl ⟨_,_,_,rfl,λ_=>rfl,.bool _,Hw l _,λ_=>⟨List.Pairwise.nil,λ_ B=>nomatch B⟩⟩,p,t,u⟩
section
variable {K:Frag}
end
end Att
namespace L2
theorem zx:∀{vs:Lv} {ns:Li},R6 vs ns->Vals (ns.map V.int) vs
 |_,_,.nil=>.nil
 |_,_,.cons n t h=>.cons ⟨t,rfl⟩ (zx h)
def nw(H:Hp):Prop:=∀b,H b=none\/∃o xs,H b=some (.frz o (.lst xs))
theorem Hz{P:OF}{w:ON}{M:Mg}{CX:dJ}{k:Nat}{C:OA}{R:Pr}{x:Str}{sp:Sp}{S:Oz}{vs:Lv}{ns:Li}
  (KX:K.In S.heap) (p:S.heap.Ns mainGlobals mg) (f:S.heap.Ns builtinsNs M) (I:∀x:Str,x≠"__name__"->M x=bootBuiltins x) (l:S.heap.NoLimit) (hg:S.gens= #[])
  (G:S.heap.get? a=some {cls:=.type "list",data:=.seq vs.toArray}) (U:R6 vs ns) (hl:ns.length<=sizeLine) (hr:cO k callerA)
  (F:∀base:OI,K.In base->base.Ns mainGlobals mg->c9 P w K mg base CX k C R [x] sp) (g:∀(s:Oz) (u:OB),S_ s R ⟨[u],[]⟩ [(x,u)])
  (L:∀H:Hp,nw H->c8 K H a (ns.map V.int)->sp [.ref a] H (λv _=>v=.bl Ox) λ_ _ _=>False)
  (D:∀H e s',CX [] H S (λ_ _ _=>False) e s'->False):
  codeAny (model P w) callerA (.call (.ref C) ⟨[.ref a],[]⟩) (λr s'=>r=.ok (.ret (.bool Ox))/\OldK S.heap s'.heap/\s'.os=S.os/\Rk s'.gens) S:=by
 have rv:=zx U
 have c:∀H:Hp,nw H->c8 K H a (ns.map V.int)->er P w H S.heap->(∀b,H b≠none->b=a)->(H a≠none->K.lookup a=none)->
   codeAny (model P w) callerA (.call (.ref C) ⟨[.ref a],[]⟩) (λr s'=>r=.ok (.ret (.bool Ox))/\OldK S.heap s'.heap/\s'.os=S.os/\Rk s'.gens) S:=by
  intro H T hS t hA hK;have B:∀{b:OA} {o:Obj},S.heap.get? b=some o->H b=none->(gz S.heap H).get? b=some o:=λe n=>Gk e n;have O:∀{b:OA} {o:Obj} {A:Array DictEntry} {E:Nat},S.heap.get? b=some o->o.data=.dict A E->H b=none:=λ{b o A E} e d=>by grind
  have N:∀{b:OA} {m:Mg},S.heap.Ns b m->(gz S.heap H).Ns b m:=λ{b m} zq=>by obtain⟨o,A,E,e,d,r⟩:=zq;exact(⟨o,A,E,B e (O e d),d,r⟩)
  have j:K.In (gz S.heap H):=λb o e=>B (KX b o e) (by grind);have hM:Mod K mg (gz S.heap H):=⟨j,N p,⟨M,N f,I⟩,(by obtain⟨mc,Y,Z⟩:=l;exact(⟨mc,N Y,Z⟩))⟩;refine P2 ((F _ j (N p)).run callerA [] S H ⟨[.ref a],[]⟩ [.ref a] [.ref a] _ _ hr ⟨rfl,hM,λb o e=>mD e,Nat.le_of_eq (Gj _ _),trivial,λb f=>absurd (show b∈([]:La)from f) (by simp),t,.of_eq hg⟩ (g S (.ref a)) (.cons rfl .nil) (L H T hS)) λr s' h=>?_;cases r with
  |error e=>exact(D H e s' h).elim
  |ok X=>
   cases X with
   |next=>exact False.elim h
   |brk=>exact False.elim h
   |cont=>exact False.elim h
   |ret u=>
    obtain⟨v,H',os,i,un,y,r',q⟩:=h;subst(q);obtain rfl:u=QA Ox:=r';refine⟨rfl,OldK.of_keep λb o e=>?_,os,i⟩;cases q:H b with
    |none=>exact un.keep b o e q (by intro z;exact absurd (show b∈([]:La)from z) (by simp)) (by simp)
    |some u=>
     rcases T b with z| ⟨ob,xs,z⟩
     ·rw[q]at z;cases z
     ·obtain⟨Q,_⟩:=t b _ z;obtain⟨W,_⟩:=y b _ (un.frzs b ob _ z);rw[e]at Q;cases Q;exact W
 cases J:K.lookup a with
 |some o=>have e:=KX a o J;rw[G]at e;cases e;refine c (λ_=>none) (λ_=>.inl rfl) (.inr ⟨_,vs.toArray,_,J,rfl,rfl,rfl,by rw[Zu,U.length];exact hl,by grind⟩) (λb u z=>by grind) (λb z=>absurd rfl z) λz=>absurd rfl z
 |none=>
  refine c (λb=>if b=a then some _ else none) (λb=>?_) (.inl (.inr ⟨{cls:=.type "list",data:=.seq vs.toArray},if_pos rfl⟩)) (λb u z=>?_) (λb z=>?_) λ_=>J
  ·grind
  ·by_cases f:b=a
   ·cases(if_pos f).symm.trans z;subst f;exact⟨G,by grind,vs,_,rv,G⟩
   ·cases(if_neg f).symm.trans z
  simp_all
theorem ny{l:PySem.W.OpenLaw}{k:Nat}{q:OF}{d:DefRec}{K:Params->Fg}{CX:ON->dJ}{sp:ON->Sp}{x:Str}
  (J:l.most=some n) (p:n<=sizeLine) (j:d.params.defaults=[]) (L:cO k callerA)
  (B:∀(w:ON) (h:OI),YP w h->(K w.params).In h)
  (F:∀(w:ON) (mg:Mg) (fa:OA) (h:OI),(K w.params).In h->h.Ns mainGlobals mg->mg d.name=some (.ref fa)->
   ∃fd:Pr,(∀(s:Oz) (u:OB),S_ s fd ⟨[u],[]⟩ [(x,u)])/\
    ∀base:OI,(K w.params).In base->base.Ns mainGlobals mg->c9 l.prog w (K w.params) mg base (CX w) k fa fd [x] (sp w))
  (r:∀(w:ON) (H:Hp) (a:OA) (ns:Li),ns.length<=n->nw H->c8 (K w.params) H a (ns.map V.int)->sp w [.ref a] H (λv _=>v=.bl Ox) λ_ _ _=>False)
  (i:∀(w:ON) (H:Hp) (s:Oz) (e:OB) (s':Oz),CX w [] H s (λ_ _ _=>False) e s'->False):
  PySem.W.WalkO q loose XP YP l.row.toRowW d [] (λf vs=>PySem.call f vs):=by
 refine Att.Hy J j λw S t mg P fa o Q M D a vs ns G Y O N E m g c b I=>?_;have KX:=B w _ Y;obtain⟨fd,C,y⟩:=F w _ _ _ KX G.T.g m;exact Hz KX G.T.g G.T.b G.T.builtins G.T.nolimit I g c (Zl b p) L y C (λH z A=>r w H a _ b z A) λH e s'=>i w H _ e _
noncomputable def ia(s:Qi):Arguments:=match s with
 | .FunctionDef _ a _ _ _ _ _ _ _ _=>a
 |_=>{posonlyargs:=[],args:=[],vararg:=none,kwonlyargs:=[],kw_defaults:=[],kwarg:=none,defaults:=[]}
noncomputable def bX(s:Qi):List Qi:=match s with
 | .FunctionDef _ _ b _ _ _ _ _ _ _=>b
 |_=>[]
noncomputable def bx(s:Qi):Scope:=match s with
 | .FunctionDef _ _ _ _ _ _ sc _ _ _=>sc
 |_=>{kind:=.function,names:=[],isGenerator:=Oy,isCoroutine:=Oy}
abbrev HA:dJ:=λ_ _ _ _ _ _=>False
abbrev E0:XK:=λ_ _ _=>False
structure nz (K:Fg)(x qual:Str)(st:Qi)(f:OA)(fd:Pr):Prop where
 ex:∃(oc:OB) (od:Option OA) (kV doc pm:OB) (an:Option OA) (cdv ct:OB) (osl:Array (Ov)),
  fd=PySem.W.fnOf x qual (ia st) (bX st) (bx st) .none kV doc pm an cdv ct/\K.lookup f=some ⟨oc,od,.func fd,osl⟩/\PySem.W.codeIn K cdv qual=Ox
 kp:PySem.W.keepIn K (.ref f)=Ox
section
variable {P:OF}
theorem nz.binds{x:Str}{a:Pr}{ps:Ls}(F:nz K x qual st f a)
  (h:∀(kV doc pm:OB) (an:Option OA) (cdv ct:OB) (us:Lv),us.length=ps.length->bindArgs (PySem.W.fnOf x qual (ia st) (bX st) (bx st) .none kV doc pm an cdv ct) ⟨us,[]⟩=pure (ps.zip us)):Binds K a ps []:=by
 obtain⟨O,b,kV,doc,pm,an,cdv,ct,o,rfl,lk,H⟩:=F.ex;exact .all (h _ _ _ _ _ _)
theorem uk{x:Str}{an:Option OA}{kV:OB}(l:K.lookup f=some ⟨oc,od,.func (PySem.W.fnOf x qual (ia st) (bX st) (bx st) .none kV doc pm an cdv ct),osl⟩)
  (c:PySem.W.codeIn K cdv qual=Ox) (k:PySem.W.keepIn K (.ref f)=Ox):nz K x qual st f (PySem.W.fnOf x qual (ia st) (bX st) (bx st) .none kV doc pm an cdv ct):=⟨⟨_,_,_,_,_,_,_,_,_,rfl,l,c⟩,k⟩
end
section
variable {X:Cx}
end
end L2
variable {H H' H1 H0 Hx:L2.Hp}{X:L2.Cx}{σ σ':L2.St}{v:L2.V}{ta te to:L2.TE}{tb:L2.St->L2.Hp->(L2.St->L2.Hp->Prop)->Prop}{tc:L2.TT}{g:L2.TG}{wi:L2.TI}{r:L2.V->List L2.V->L2.Hp->L2.VK->Prop}{CX:L2.dJ}{sp:L2.Sp}{u':L2.HO}{B:La->L2.Hp->Prop}
namespace Py
theorem aG{C:Prop}{a b c d:Sort _}{p q r:a->b->c->d->Prop}(h:∃x y z w,p x y z w/\q x y z w/\r x y z w)(k:∀x y z w,p x y z w->q x y z w->r x y z w->C):C:=by
 grind
theorem ul{C:Prop}{a b c d e f g h i:Sort _}{p q r:a->b->c->d->e->f->g->h->i->Prop}(z:∃x1 x2 x3 x4 x5 x6 x7 x8 x9,p x1 x2 x3 x4 x5 x6 x7 x8 x9/\q x1 x2 x3 x4 x5 x6 x7 x8 x9/\r x1 x2 x3 x4 x5 x6 x7 x8 x9)(k:∀x1 x2 x3 x4 x5 x6 x7 x8 x9,p x1 x2 x3 x4 x5 x6 x7 x8 x9->q x1 x2 x3 x4 x5 x6 x7 x8 x9->r x1 x2 x3 x4 x5 x6 x7 x8 x9->C):C:=by grind
theorem ay{C:Prop}{a b c:Sort _}{p q r t:a->b->c->Prop}(h:∃x y z,p x y z/\q x y z/\r x y z/\t x y z)(k:∀x y z,p x y z->q x y z->r x y z->t x y z->C):C:=by obtain⟨x,y,z,H,d,e,f⟩:=h;exact k x y z H d e f
inductive D where
 |non|bl (b:Bool)|int (i:Int)|str (x:Str)
 |tup (xs:List D)|lst (xs:List D)|ref (n:Nat)|scr (xs:List D)
 |fn (x:Str)|dct|ty (n:String)|dks (ks:List (Li))
 deriving Inhabited
abbrev af:=List (List D)
set_option genInjectivity false in
structure GS where
 mg:Mg
 F:La
noncomputable def um(K:Fg)(H:Hp)(a:OA)(vs:List V):Prop:=(∃o,H a=some (.frz o (.lst vs)))\/
 ∃(o:Obj) (its:Av) (n:Nat),K.lookup a=some o/\o.cls=.type "list"/\o.dict=none/\o.data=.seq its n/\its.size<=sizeLine/\Vals vs its.toList
theorem um.sq{vs:List V}(h:um K H a vs):c8 K H a vs:=by
 rcases h with⟨o,h⟩|h
 ·exact .inl (.inr ⟨o,h⟩)
 ·exact .inr h
noncomputable def hD(k:Li):Int:=reduceHash (Builtin.Tuple.tupleHashOf (k.map hashInt))
noncomputable def N9(h:OI)(a:OA)(cs:List (Li×OA)):Prop:=(a==sysModules)=Oy/\∃o es ep,h.get? a=some o/\o.ExactDict/\o.data=.dict es ep/\es.toList=cs.map λc=>⟨hD c.1,.ref c.2,.bool Ox⟩
section
variable (K:Fg)(mg:GS)(μ:La)(H:Hp)
mutual
def Rep:D->V->Prop
 | .non,v=>v=.non
 | .bl b,v=>v=.bl b
 | .int i,v=>v=.int i
 | .str x,v=>v=.str x
 | .tup ds,v=>∃a vs,v=.ref a/\b7 K H a vs/\aj ds vs
 | .lst ds,v=>∃a vs,v=.ref a/\H a=some (.lst vs)/\(a∉μ/\a∉mg.F)/\aj ds vs
 | .scr ds,v=>∃a vs,v=.ref a/\um K H a vs/\aj ds vs
 | .ref n,v=>∃a,v=.ref a/\μ[n]?=some a
 | .fn x,v=>∃a,v=.ref a/\mg.mg x=some (.ref a)
 | .dct,v=>∃a,v=.ref a/\H a=some (.dK [])
 | .ty n,v=>v=.ty n
 | .dks ks,v=>∃a cs,v=.ref a/\H a=some (.ext λh=>N9 h a cs)/\a∉mg.F/\(cs.map (·.1)=ks/\ks.Nodup)/\∀c∈cs,b7 K H c.2 (c.1.map V.int)
def aj:List D->List V->Prop
 | [],vs=>vs=[]
 |d::ds,vs=>∃w W,vs=w::W/\Rep d w/\aj ds W
end
end
structure aK (K:Fg)(mg:GS)(μ:La)(S:af)(H:Hp):Prop where
 live:∀a∈mg.F,∃o,H a=some o
 len:μ.length=S.length
 nd:μ.Nodup
 at_:∀(n:Nat) (a:OA) (ds:List D),μ[n]?=some a->S[n]?=some ds->∃vs,H a=some (.lst vs)/\aj K mg μ H ds vs
structure Ext (μ:La)(H:Hp)(μ':La)(H':Hp):Prop where
 pre:∃r,μ'=μ++r
 keep:∀a o,H a=some o->((∀xs,o≠.lst xs)\/a∉μ)->H' a=some o
 there:∀a o,H a=some o->∃o',H' a=some o'
 fresh:∀a∈μ',a∈μ\/H a=none
section
variable {mg:GS}{μ'':La}{H'':Hp}
theorem Ext.refl:Ext μ H μ H:=⟨⟨[],by simp⟩,λ_ _ h _=>h,λ_ o h=>⟨o,h⟩,λ_ h=>.inl h⟩
theorem Ext.trans(a:Ext μ H μ' H')(b:Ext μ' H' μ'' H''):Ext μ H μ'' H'':=by
 obtain⟨r,e⟩:=a.pre;obtain⟨R,E⟩:=b.pre;refine⟨⟨r++R,by simp_all⟩,λx o h c=>?_,λx o h=>?_,λx h=>?_⟩
 ·refine b.keep x o (a.keep x o h c) ?_;rcases c with c|c
  ·exact .inl c
  ·refine .inr λz=>?_;rcases a.fresh x z with z|z
   ·exact c z
   simp_all
 ·obtain⟨o1,d⟩:=a.there x o h;exact b.there x _ d
 ·rcases b.fresh x h with h|h
  ·exact a.fresh x h
  ·refine .inr ?_;cases e:H x with
   |none=>rfl
   |some o=>obtain⟨o1,d⟩:=a.there x o e;simp_all
theorem Ext.sqT{vs:List V}(x:Ext μ H μ' H')(h:b7 K H a vs):b7 K H' a vs:=by
 rcases h with(h| ⟨o,h⟩)|h
 ·exact .inl (.inl (x.keep _ _ h (.inl λ_ z=>by lia)))
 ·exact .inl (.inr ⟨o,x.keep _ _ h (.inl λ_ z=>by lia)⟩)
 ·exact .inr h
theorem Ext.frz{vs:List V}(x:Ext μ H μ' H')(h:um K H a vs):um K H' a vs:=by
 rcases h with⟨o,h⟩|h
 ·exact .inl ⟨o,x.keep _ _ h (.inl λ_ z=>by lia)⟩
 ·exact .inr h
theorem Ext.lst{vs:List V}(x:Ext μ H μ' H')(h:H a=some (.lst vs))(b:a∉μ):H' a=some (.lst vs)/\a∉μ':=by
 refine⟨x.keep _ _ h (.inr b),λz=>?_⟩;rcases x.fresh a z with z|z
 ·exact b z
 simp_all
theorem Ext.get(x:Ext μ H μ' H')(h:μ[n]?=some a):μ'[n]?=some a:=by obtain⟨r,rfl⟩:=x.pre;rw[Zv (Zg.mp h).1];exact h
mutual
theorem Rep.mono(x:Ext μ H μ' H'):∀(d:D) (v:V),Rep K mg μ H d v->Rep K mg μ' H' d v
 | .non,_,h=>h
 | .bl _,_,h=>h
 | .int _,_,h=>h
 | .str _,_,h=>h
 | .tup _,v,h=>by obtain⟨a,vs,e,q,r⟩:=h;exact⟨a,_,e,x.sqT q,aj.mono x _ _ r⟩
 | .lst _,v,h=>by obtain⟨a,vs,e,q,n,r⟩:=h;exact⟨a,_,e,(x.lst q n.1).1,⟨(x.lst q n.1).2,n.2⟩,aj.mono x _ _ r⟩
 | .scr _,v,h=>by obtain⟨a,vs,e,q,r⟩:=h;exact⟨a,_,e,x.frz q,aj.mono x _ _ r⟩
 | .ref n,v,h=>by obtain⟨a,e,q⟩:=h;exact⟨a,e,x.get q⟩
 | .fn y,v,h=>h
 | .ty y,v,h=>h
 | .dct,v,h=>by obtain⟨a,e,q⟩:=h;exact⟨a,e,x.keep _ _ q (.inl λ_ z=>by trivial)⟩
 | .dks _,v,h=>by obtain⟨a,C,e,q,n,r,k⟩:=h;exact⟨a,_,e,x.keep _ _ q (.inl λ_ z=>by trivial),n,r,λc b=>x.sqT (k c b)⟩
theorem aj.mono(x:Ext μ H μ' H'):∀(ds:List D) (vs:List V),aj K mg μ H ds vs->aj K mg μ' H' ds vs
 | [],vs,h=>h
 |d::ds,vs,h=>by obtain⟨w,W,e,r,q⟩:=h;exact⟨w,_,e,Rep.mono x d w r,aj.mono x _ _ q⟩
end
theorem aj.length:∀{ds:List D} {vs:List V},aj K mg μ H ds vs->ds.length=vs.length
 | [],vs,h=>by subst h;rfl
 |d::ds,vs,h=>by obtain⟨w,W,rfl,r,q⟩:=h;simp[aj.length q]
theorem aj.get:∀{ds:List D} {vs:List V} {i:Nat} {d:D},aj K mg μ H ds vs->ds[i]?=some d->∃v,vs[i]?=some v/\Rep K mg μ H d v
 | [],vs,i,d,h,e=>by simp_all
 |c::ds,vs,i,d,h,e=>by
  obtain⟨w,W,rfl,r,q⟩:=h;cases i with
  |zero=>simp_all
  |succ i=>simpa using aj.get q (by simp_all)
theorem aj.of:∀{ds:List D} {vs:List V},ds.length=vs.length->(∀(i:Nat) d v,ds[i]?=some d->vs[i]?=some v->Rep K mg μ H d v)->aj K mg μ H ds vs
 | [],[],_,_=>rfl
 | [],_::_,h,_=>by trivial
 |_::_,[],h,_=>by trivial
 |d::ds,v::vs,h,k=>by exact⟨v,_,rfl,k 0 d v rfl rfl,aj.of (by simp_all) λi a e b c=>k (i+1) _ _ (by trivial) (by trivial)⟩
theorem aj.nil:aj K mg μ H [] []:=rfl
theorem aj.cons{d:D}{ds:List D}{vs:List V}(h:Rep K mg μ H d v)(t:aj K mg μ H ds vs):aj K mg μ H (d::ds) (v::vs):=by unfold aj;exact⟨v,vs,rfl,h,t⟩
theorem aj.uncons{d:D}{ds:List D}{vs:List V}(h:aj K mg μ H (d::ds) vs):∃v ws,vs=v::ws/\Rep K mg μ H d v/\aj K mg μ H ds ws:=by exact h
theorem aj.append:∀{ds es:List D} {vs ws:List V},aj K mg μ H ds vs->aj K mg μ H es ws->aj K mg μ H (ds++es) (vs++ws)
 | [],es,vs,ws,h,k=>by subst h;exact k
 |d::ds,es,vs,ws,h,k=>by obtain⟨v,u,rfl,r,q⟩:=h.uncons;exact .cons r (aj.append q k)
theorem aj.take:∀{ds:List D} {vs:List V} (n:Nat),aj K mg μ H ds vs->aj K mg μ H (ds.take n) (vs.take n)
 | [],vs,n,h=>by subst h;simpa using aj.nil
 |d::ds,vs,0,h=>rfl
 |d::ds,vs,n+1,h=>by obtain⟨v,u,rfl,r,q⟩:=h.uncons;exact .cons r (aj.take n q)
theorem aj.drop:∀{ds:List D} {vs:List V} (n:Nat),aj K mg μ H ds vs->aj K mg μ H (ds.drop n) (vs.drop n)
 | [],vs,n,h=>by subst h;simpa using aj.nil
 |d::ds,vs,0,h=>h
 |d::ds,vs,n+1,h=>by obtain⟨v,u,rfl,r,q⟩:=h.uncons;exact aj.drop n q
theorem aj.reverse:∀{ds:List D} {vs:List V},aj K mg μ H ds vs->aj K mg μ H ds.reverse vs.reverse
 | [],vs,h=>by subst h;rfl
 |d::ds,vs,h=>by obtain⟨v,u,rfl,r,q⟩:=h.uncons;rw[Q3,Q3];exact aj.append (aj.reverse q) (.cons r .nil)
theorem aj.set:∀{ds:List D} {vs:List V} (i:Nat) {d:D} {v:V},aj K mg μ H ds vs->Rep K mg μ H d v->aj K mg μ H (ds.set i d) (vs.set i v)
 | [],vs,i,_,_,h,_=>by subst h;rfl
 |d::ds,vs,0,_,_,h,k=>by obtain⟨v,u,rfl,r,q⟩:=h.uncons;exact .cons k q
 |d::ds,vs,i+1,_,_,h,k=>by obtain⟨v,u,rfl,r,q⟩:=h.uncons;exact .cons r (aj.set i q k)
theorem Ext.laid{p:OA}{o:HO}(b:H p=none):Ext μ H μ (ba H p o):=
 ⟨⟨[],by simp⟩,λa u h _=>by rw[aI (bV h b)];exact h,λa u h=>⟨u,by rw[aI (bV h b)];exact h⟩,λ_ h=>.inl h⟩
theorem aK.notin{S:af}{p:OA}(s:aK K mg μ S H)(b:H p=none):p∉μ:=λz=>by obtain⟨n,a,e⟩:=ZU.mp z;have E:S[n]?=some (S[n]'(by rw[<-s.len];exact a)):=Zj _;obtain⟨vs,h,_⟩:=s.at_ n p _ (by simp_all) E;simp_all
theorem aK.notF{S:af}{p:OA}(s:aK K mg μ S H)(a:H p=none):p∉mg.F:=λz=>by obtain⟨o,h⟩:=s.live p z;simp_all
theorem aK.laid{S:af}{p:OA}{o:HO}(s:aK K mg μ S H)(b:H p=none):aK K mg μ S (ba H p o):=by refine⟨λa h=>(Ext.laid (μ:=μ) b).there a _ (s.live a h).choose_spec,s.len,s.nd,λn a D c d=>?_⟩;obtain⟨vs,h,r⟩:=s.at_ n a _ c d;exact⟨_,by rw[aI (bV h b)];exact h,aj.mono (Ext.laid b) _ _ r⟩
theorem Ext.boxed{p:OA}{o:HO}(b:H p=none):Ext μ H (μ++[p]) (ba H p o):=
 ⟨⟨_,rfl⟩,λa u h _=>by rw[aI (bV h b)];exact h,λa u h=>⟨u,by rw[aI (bV h b)];exact h⟩,λa h=>by
  grind⟩
theorem aK.boxed{S:af}{p:OA}{ds:List D}{vs:List V}(s:aK K mg μ S H)(e:H p=none)(r:aj K mg μ H ds vs):
  aK K mg (μ++[p]) (S++[ds]) (ba H p (.lst vs)):=by
 have N:=s.notin e;refine⟨λa h=>(Ext.laid (μ:=μ) e).there a _ (s.live a h).choose_spec,by simp[s.len],?_,λn a g c d=>?_⟩
 ·rw[ZT]
  exact⟨s.nd,by simp,λa i b j=>by
   have:b=p:=by simpa using j
   subst this;intro z;subst z;exact N i⟩
 ·by_cases f:n<μ.length
  ·rw[Zv f]at c;rw[Zv (by rw[<-s.len];exact f)]at d;obtain⟨w,h,q⟩:=s.at_ n a g c d;exact⟨w,by rw[aI (bV h e)];exact h,aj.mono (Ext.boxed e) _ _ q⟩
  ·have k:=s.len;have E:n=μ.length:=by have:=(Zg.mp c).1;simp at this;omega
   subst E;rw[Zq (Zf _)]at c;rw[Zq (by omega)]at d;simp[k]at c d;subst c;subst d;exact⟨vs,bU,aj.mono (Ext.boxed e) _ _ r⟩
theorem Ext.wrote{xs:List V}{ys:List V}(d:a∈μ)(h:H a=some (.lst xs)):Ext μ H μ (ba H a (.lst ys)):=by
 refine⟨⟨[],by simp⟩,λb o e c=>?_,λb o e=>?_,λ_ h=>.inl h⟩
 ·have:b≠a:=by grind
  rw[aI this];exact e
 ·by_cases z:b=a
  ·subst z;exact⟨_,bU⟩
  ·exact⟨o,by rw[aI z];exact e⟩
theorem aK.wrote{S:af}{ds:List D}{xs vs:List V}(s:aK K mg μ S H)(hn:μ[n]?=some a)(h:H a=some (.lst xs))(r:aj K mg μ H ds vs):
  aK K mg μ (S.set n ds) (ba H a (.lst vs)):=by
 have ha:=Zx hn;have hl:=s.len;refine⟨λb hb=>(Ext.wrote ha h).there b _ (s.live b hb).choose_spec,by simp_all,s.nd,λm b es h1 h2=>?_⟩;by_cases e:m=n
 ·subst e;rw[hn]at h1;cases h1;rw[Z8 (by grind)]at h2;cases h2;exact⟨_,bU,aj.mono (Ext.wrote ha h) _ _ r⟩
 ·rw[Pe (Ne.symm e)]at h2;obtain⟨ws,q,r'⟩:=s.at_ m b _ h1 h2;have:b≠a:=by rintro rfl;exact e (L2_nodup s.nd h1 hn)
  exact⟨_,by rw[aI this];exact q,aj.mono (Ext.wrote ha h) _ _ r'⟩
where
 L2_nodup {l:List _} (nd:l.Nodup) {i j:Nat} {x:OA} (a:l[i]?=some x) (b:l[j]?=some x):i=j:=by obtain⟨h1,e1⟩:=Zg.mp a;obtain⟨h2,e2⟩:=Zg.mp b;exact(Uo nd).mp (e1.trans e2.symm)
end
end Py
variable {xs ds:List Py.D}{T S S1 S' S2:Py.af}{d:Py.D}{Γ:Str->Option Py.D}{O:OA->List Py.D->List L2.V->L2.HO->Prop}{x2 x4 x5 x8:Option Py.D}
namespace Py
open PySem.Sem (wp)
open PySem.Builtin
end Py
namespace Py
set_option genInjectivity false in
structure Exc where
 cls:Str
 fs:List D
inductive Res (α:Type) where
 |ok (a:α) (S:af)
 |err (x:Exc) (S:af)
 |fail
abbrev a':Nat:=16777216
theorem ib:sizeLine=a':=Qj
noncomputable def aO(K:Fg)(m:GS)(μ:La)(H:Hp)(Q:VK):Res D->Prop
 | .ok d S'=>∀μ' H' v,Ext μ H μ' H'->aK K m μ' S' H'->Rep K m μ' H' d v->Q v H'
 |_=>False
section
variable {mg:GS}{Q:VK}
theorem aO.now(w:aO K mg μ H Q (.ok d S))(s:aK K mg μ S H)(r:Rep K mg μ H d v):Q v H:=w _ H v .refl s r
theorem aO.tup{vs:List V}(w:aO K mg μ H Q (.ok (.tup ds) S))(s:aK K mg μ S H)(r:aj K mg μ H ds vs)(p:OA)(h:H p=none):Q (.ref p) (ba H p (.tup vs)):=
 w _ _ _ (.laid h) (s.laid h) (by exact⟨p,_,rfl,b7.of bU,aj.mono (.laid h) _ _ r⟩)
theorem aO.lst{vs:List V}(w:aO K mg μ H Q (.ok (.lst ds) S))(s:aK K mg μ S H)(r:aj K mg μ H ds vs)(p:OA)(h:H p=none):Q (.ref p) (ba H p (.lst vs)):=
 w _ _ _ (.laid h) (s.laid h) (by exact⟨p,_,rfl,bU,⟨s.notin h,s.notF h⟩,aj.mono (.laid h) _ _ r⟩)
theorem aO.box{vs:List V}(w:aO K mg μ H Q (.ok (.ref S.length) (S++[ds])))(s:aK K mg μ S H)(r:aj K mg μ H ds vs)(p:OA)(h:H p=none):Q (.ref p) (ba H p (.lst vs)):=
 w _ _ _ (.boxed h) (s.boxed h r) (by exact⟨p,rfl,by rw[Zq (by rw[s.len];simp_all),s.len];simp⟩)
theorem aO.wrote{xs vs:List V}(w:aO K mg μ H Q (.ok d (S.set n ds)))(s:aK K mg μ S H)(b:μ[n]?=some a)(h:H a=some (.lst xs))(r:aj K mg μ H ds vs)
  (R:Rep K mg μ H d v):Q v (ba H a (.lst vs)):=
 w _ _ _ (.wrote (Zx b) h) (s.wrote b h r) (Rep.mono (.wrote (Zx b) h) _ _ R)
noncomputable def cy(S:af):D->Option (List D)
 | .lst xs=>some xs
 | .ref n=>S[n]?
 |_=>none
noncomputable def aB(S:af):D->Option (List D)
 | .lst xs=>some xs
 | .ref n=>S[n]?
 | .tup xs=>some xs
 | .scr xs=>some xs
 |_=>none
theorem dw(s:aK K mg μ S H)(r:Rep K mg μ H d v)(e:cy S d=some xs):∃a vs,v=.ref a/\H a=some (.lst vs)/\aj K mg μ H xs vs:=by
 cases d with
 |lst y=>unfold cy at e;cases e;unfold Rep at r;obtain⟨a,vs,e,h,_,q⟩:=r;exact⟨a,vs,e,h,q⟩
 |ref n=>unfold cy at e;unfold Rep at r;obtain⟨a,E,h⟩:=r;obtain⟨vs,b,q⟩:=s.at_ n a xs h e;exact⟨a,vs,E,b,q⟩
 |_=>cases e
theorem f6(s:aK K mg μ S H)(r:Rep K mg μ H d v)(e:aB S d=some xs):∃a vs,v=.ref a/\(c8 K H a vs\/b7 K H a vs)/\aj K mg μ H xs vs:=by
 cases d with
 |lst y=>obtain⟨a,vs,E,h,q⟩:=dw s r (show cy S (.lst y)=some xs from e);exact⟨a,vs,E,.inl (.of h),q⟩
 |ref n=>obtain⟨a,vs,E,h,q⟩:=dw s r (show cy S (.ref n)=some xs from e);exact⟨a,vs,E,.inl (.of h),q⟩
 |tup y=>cases e;obtain⟨a,vs,e,h,q⟩:=r;exact⟨a,vs,e,.inr h,q⟩
 |scr y=>cases e;obtain⟨a,vs,e,h,q⟩:=r;exact⟨a,vs,e,.inl h.sq,q⟩
 |_=>cases e
theorem aH{i:Int}(r:Rep K mg μ H (.int i) v):v=.int i:=by exact r
theorem gA{i:Bool}(r:Rep K mg μ H (.bl i) v):v=.bl i:=by exact r
theorem cc{i:Str}(r:Rep K mg μ H (.str i) v):v=.str i:=by exact r
theorem ic(r:Rep K mg μ H .non v):v=.non:=by exact r
theorem bQ(r:Rep K mg μ H (.tup ds) v):∃a vs,v=.ref a/\b7 K H a vs/\aj K mg μ H ds vs:=by exact r
theorem bL{i:Int}:Rep K mg μ H (.int i) (.int i):=rfl
theorem cP{i:Bool}:Rep K mg μ H (.bl i) (.bl i):=rfl
theorem dy{i:Str}:Rep K mg μ H (.str i) (.str i):=rfl
theorem nA:Rep K mg μ H .non .non:=rfl
end
noncomputable def rD(K:Fg)(m:Mg)(g:D->D->af->Res D):R2:=λx y H Q=>∃F μ S d e,aK K ⟨m,F⟩ μ S H/\Rep K ⟨m,F⟩ μ H d x/\Rep K ⟨m,F⟩ μ H e y/\aO K ⟨m,F⟩ μ H Q (g d e S)
noncomputable def gB(d e:D)(S:af):Res D:=match d,e with
 | .int i,.int j=>.ok (.int (i+j)) S
 | .str x,.str y=>if x.length+y.length<=a' then .ok (.str (x++y)) S else .fail
 | .tup a,.tup b=>if a.length+b.length<=a' then .ok (.tup (a++b)) S else .fail
 |d,e=>match cy S d,cy S e with
  |some a,some b=>if a.length+b.length<=a' then .ok (.lst (a++b)) S else .fail
  |_,_=>.fail
noncomputable def jZ(d e:D)(S:af):Res D:=match d,e with
 | .int i,.int j=>.ok (.int (i-j)) S
 |_,_=>.fail
noncomputable def nB(d e:D)(S:af):Res D:=match d,e with
 | .int i,.int j=>if(-(2^64)<i/\i<2^64)\/(-(2^64)<j/\j<2^64)then .ok (.int (i*j)) S else if Qz i<=100000/\Qz j<=100000 then .ok (.int (i*j)) S else .fail
 | .lst a,.int k=>if-(2^63)<=k/\k<2^63/\a.length*k.toNat<=a' then .ok (.lst (OG k.toNat a).flatten) S else .fail
 |_,_=>.fail
theorem HB:cv X (binaryOp .FloorDiv) (rI (λ_ j=>0<j/\j<2^100) λi j=>.int (i/j)):=tQ λi j _ _ _ _ _ h q=>by
 have a:(0:Int)<j:=h.1;have b:j<2^100:=h.2;refine floordiv_int (by omega) (by rw[SJ i (by omega)];exact q) (.inl (PyProof.noPylong_of_log2 ?_));have H:j.natAbs<2^100:=by omega
 exact R_ ((Nat.log2_lt (by omega)).mpr H) (by decide)
noncomputable def gC(d e:D)(S:af):Res D:=match d,e with
 | .int i,.int j=>if 0<j/\j<1073741824 then .ok (.int (i/j)) S else if 0<j/\j<2^100 then .ok (.int (i/j)) S else .fail
 |_,_=>.fail
noncomputable def iP(d e:D)(S:af):Res D:=match d,e with
 | .int i,.int j=>if 0<j then .ok (.int (i%j)) S else .fail
 |_,_=>.fail
noncomputable def uo(d e:D)(S:af):Res D:=match d,e with
 | .int i,.int j=>if 0<=j/\j<=1000000/\i.natAbs<2^64 then .ok (.int (i^j.toNat)) S else .fail
 |_,_=>.fail
noncomputable def uq(d e:D)(S:af):Res D:=match d,e with
 | .int i,.int j=>if 0<=j then .ok (.int (i/2^j.toNat)) S else .fail
 |_,_=>.fail
noncomputable def ur(d e:D)(S:af):Res D:=match d,e with
 | .int i,.int j=>.ok (.int (Uc i j)) S
 |_,_=>.fail
noncomputable def HC(d e:D)(S:af):Res D:=match d,e with
 | .int i,.int j=>.ok (.int (Uq i j)) S
 |_,_=>.fail
noncomputable def fM:Sx->D->D->af->Res D
 | .Add=>gB| .Sub=>jZ| .Mult=>nB| .FloorDiv=>gC| .Mod=>iP| .Pow=>uo| .RShift=>uq| .LShift=>λ_ _ _=>.fail | .BitAnd=>ur| .BitOr=>HC
 |_=>λ_ _ _=>.fail
theorem HD{t b:OA}{ws:Lv}(k:SR s.heap t #[])(g:SR s.heap b ws.toArray)
  (h1:Q (.ref b) s):wpAny (model prog w) A (binaryOp .Add (.ref t) (.ref b)) Q E s:=by
 obtain⟨⟨cls,l,D,sl⟩,e,i,n,j⟩:=id k;obtain⟨⟨c,f,d,S⟩,h,H,N,a⟩:=id g;subst i j H a
 exact Ud ⟨_,e,rfl⟩ ⟨_,h,rfl⟩ SK TJ PySem.F.slot_tuple_add PySem.F.entry_tuple_add (PySem.F.args_tuple_add_2 _ _)
   (tuple_addW0 t b _ _ n _ _ _ _ _ rfl) ⟨e,h,h1⟩
theorem HE:cv X (binaryOp .Add) (λx y H Q=>∃a b ys,x=.ref a/\y=.ref b/\b7 X.K H a []/\b7 X.K H b ys/\Q (.ref b) H):=by intro j s l H x y v u Q I R g h;obtain⟨a,b,ys,rfl,rfl,c,d,q⟩:=h;subst R;subst g;obtain⟨f,r,p,_⟩:=I.tuple c;obtain⟨i,k,P,_⟩:=I.tuple d;have e:=r.zero;subst e;exact HD p P ⟨.ref b,H,I,rfl,q⟩
theorem nC:cv X (binaryOp .Mult) (rI (λi j=>Qz i<=100000/\Qz j<=100000) λi j=>.int (i*j)):=tQ λ_ _ _ _ _ _ _ h q=>PyProof.Rows.mul_int q (PySem.IntMulOk.of_le h.1 h.2 (by lia))
theorem HF(O:Sx):cv X (binaryOp O) (rD X.K X.mg (fM O)):=by
 intro P s g H x y v u Q I r R h;obtain⟨F,n,S,d,e,c,i,j,w⟩:=h;have C:=ib;cases O with
 |Add=>
  replace w:aO X.K ⟨X.mg,F⟩ n H Q (gB d e S):=w;unfold gB at w;split at w
  ·have:=aH i;have:=aH j;subst x y
   exact tV P s g H _ _ v u Q I r R ⟨_,_,rfl,rfl,w.now c bL⟩
  ·have:=cc i;have:=cc j;subst x y
   split at w
   ·exact G1 P s g H _ _ v u Q I r R ⟨_,_,rfl,rfl,by omega,w.now c dy⟩
   ·exact w.elim
  ·split at w
   ·obtain⟨a,vs,rfl,o,q⟩:=bQ i;obtain⟨b,W,rfl,l,z⟩:=bQ j;have l1:=q.length;have l2:=z.length;cases vs with
    |nil=>refine HE P s g H _ _ v u Q I r R ⟨a,b,W,rfl,rfl,o,l,?_⟩;rename_i as bs _;have:as=[]:=ZP (by simpa using l1);subst this;exact w.now c j
    |cons v0 vs=>
     refine nk P s g H _ _ v u Q I r R ⟨a,b,v0::vs,W,rfl,rfl,o,l,by simp,by omega,?_,?_⟩
     ·intro hw;subst hw;rename_i as bs _;have:bs=[]:=ZP (by simpa using l2);subst this;rw[P0]at w;exact w.now c i
     ·intro _ p t;exact w.tup c (q.append z) p t
   ·exact w.elim
  ·split at w
   ·rename_i as bs E A;split at w
    ·obtain⟨a,vs,rfl,o,q⟩:=dw c i E;obtain⟨b,W,rfl,l,z⟩:=dw c j A;have l1:=q.length;have l2:=z.length;exact nu P s g H _ _ v u Q I r R ⟨a,b,vs,W,rfl,rfl,o,l,by omega,λp t=>w.lst c (q.append z) p t⟩
    ·exact w.elim
   ·exact w.elim
 |Sub=>
  replace w:aO X.K ⟨X.mg,F⟩ n H Q (jZ d e S):=w;unfold jZ at w;split at w
  ·have:=aH i;have:=aH j;subst x y
   exact tW P s g H _ _ v u Q I r R ⟨_,_,rfl,rfl,w.now c bL⟩
  ·exact w.elim
 |Mult=>
  replace w:aO X.K ⟨X.mg,F⟩ n H Q (nB d e S):=w;unfold nB at w;split at w
  ·have:=aH i;have:=aH j;subst x y
   split at w
   ·rename_i f;exact tX P s g H _ _ v u Q I r R ⟨_,_,rfl,rfl,f,w.now c bL⟩
   ·split at w
    ·rename_i f;exact nC P s g H _ _ v u Q I r R ⟨_,_,rfl,rfl,f,w.now c bL⟩
    ·exact w.elim
  ·split at w
   ·rename_i as k f;obtain⟨a,vs,rfl,o,q⟩:=dw c i rfl;have:=aH j;subst y;have l1:=q.length;refine uj P s g H _ _ v u Q I r R ⟨a,k,vs,rfl,rfl,o,f.1,f.2.1,by rw[<-l1];omega,λp t=>w.lst c ?_ p t⟩;generalize k.toNat=m;clear f w
    induction m with
    |zero=>simpa using aj.nil
    |succ m B=>rw[RP,RP,Uh,Uh];exact q.append B
   ·exact w.elim
  ·exact w.elim
 |FloorDiv=>
  replace w:aO X.K ⟨X.mg,F⟩ n H Q (gC d e S):=w;unfold gC at w;split at w
  ·have:=aH i;have:=aH j;subst x y
   split at w
   ·rename_i f;exact mS P s g H _ _ v u Q I r R ⟨_,_,rfl,rfl,f,w.now c bL⟩
   ·split at w
    ·rename_i f;exact HB P s g H _ _ v u Q I r R ⟨_,_,rfl,rfl,f,w.now c bL⟩
    ·exact w.elim
  ·exact w.elim
 |Mod=>
  replace w:aO X.K ⟨X.mg,F⟩ n H Q (iP d e S):=w;unfold iP at w;split at w
  ·have:=aH i;have:=aH j;subst x y
   split at w
   ·rename_i f;exact tY P s g H _ _ v u Q I r R ⟨_,_,rfl,rfl,f,w.now c bL⟩
   ·exact w.elim
  ·exact w.elim
 |Pow=>
  replace w:aO X.K ⟨X.mg,F⟩ n H Q (uo d e S):=w;unfold uo at w;split at w
  ·have:=aH i;have:=aH j;subst x y
   split at w
   ·rename_i f;exact tZ P s g H _ _ v u Q I r R ⟨_,_,rfl,rfl,f,w.now c bL⟩
   ·exact w.elim
  ·exact w.elim
 |RShift=>
  replace w:aO X.K ⟨X.mg,F⟩ n H Q (uq d e S):=w;unfold uq at w;split at w
  ·have:=aH i;have:=aH j;subst x y
   split at w
   ·rename_i f;exact t4 P s g H _ _ v u Q I r R ⟨_,_,rfl,rfl,f,w.now c bL⟩
   ·exact w.elim
  ·exact w.elim
 |LShift=>exact w.elim
 |BitAnd=>
  replace w:aO X.K ⟨X.mg,F⟩ n H Q (ur d e S):=w;unfold ur at w;split at w
  ·have:=aH i;have:=aH j;subst x y
   exact t5 P s g H _ _ v u Q I r R ⟨_,_,rfl,rfl,w.now c bL⟩
  ·exact w.elim
 |BitOr=>
  replace w:aO X.K ⟨X.mg,F⟩ n H Q (HC d e S):=w;unfold HC at w;split at w
  ·have:=aH i;have:=aH j;subst x y
   exact yW P s g H _ _ v u Q I r R ⟨_,_,rfl,rfl,w.now c bL⟩
  ·exact w.elim
 |_=>exact w.elim
noncomputable def gD(d e:D)(S:af):Res D:=match cy S d,cy S e with
 |some a,some b=>if a.length+b.length<=a' then .ok (.ref S.length) (S++[a++b])else .fail
 |_,_=>.fail
theorem zy:cv X (binaryOp .Add) (rD X.K X.mg gD):=by
 intro P s t H x y v u Q I l m h;obtain⟨F,o,S,d,e,f,r,R,w⟩:=h;have n:=ib;unfold gD at w;split at w
 ·rename_i as bs E i;split at w
  ·obtain⟨a,vs,rfl,j,q⟩:=dw f r E;obtain⟨b,W,rfl,c,g⟩:=dw f R i;have l1:=q.length;have l2:=g.length;exact nu _ s _ H _ _ v u Q I l m ⟨a,b,_,_,rfl,rfl,j,c,by omega,λp k=>w.box f (q.append g) p k⟩
  ·exact w.elim
 ·exact w.elim
end Py
variable {l:List (Str×(List Py.D->Py.af->Py.Res Py.D))}{φ:List Py.D->Py.af->Py.Res Py.D}
namespace Py
set_option genInjectivity false in
inductive Sh where
 |non|bl (b:Bool)|int (i:Int)|str (x:Str)|tup (xs:List D)|lst (xs:List D)
noncomputable def sh(S:af):D->Option Sh
 | .non=>some .non
 | .bl b=>some (.bl b)
 | .int i=>some (.int i)
 | .str x=>some (.str x)
 | .tup xs=>some (.tup xs)
 | .lst xs=>some (.lst xs)
 | .ref n=>(S[n]?).map .lst
 |_=>none
noncomputable def bo:List (Option Bool)->Option Bool
 | []=>some Ox
 |o::r=>match o,bo r with
  |some b,some c=>some (b&&c)
  |_,_=>none
noncomputable def ut(f:D->D->Option Bool):Sh->Sh->Option Bool
 | .non,.non=>some Ox
 | .bl a,.bl b=>some (a==b)
 | .int a,.int b=>some (a==b)
 | .str a,.str b=>some (a==b)
 | .bl a,.int b=>some ((if a then 1 else 0)==b)
 | .int a,.bl b=>some (a==(if b then 1 else 0))
 | .tup a,.tup b=>(bo (OC f a b)).map (· &&a.length==b.length)
 | .lst a,.lst b=>if a.length=b.length then bo (OC f a b)else some Oy
 |_,_=>some Oy
noncomputable def bY(S:af):Nat->D->D->Option Bool
 |0,_,_=>none
 |n+1,d,e=>match sh S d,sh S e with
  |some x,some y=>ut (bY S n) x y
  |_,_=>none
noncomputable def eJ(l:List (Option Bool))(j:Nat):Bool:=match l[j]? with
 |some (some b)=>b
 |_=>Ox
theorem nD:∀(l:List (Option Bool)) (k:Bool),bo l=some k->(∀(j:Nat) o,l[j]?=some o->o=some (eJ l j))/\k=(OD l.length).all (eJ l)
 | [],k,h=>by dsimp only[bo]at h;simp_all
 |o::r,k,h=>by
  dsimp only[bo]at h;split at h
  ·rename_i b c E;cases h;obtain⟨H,a⟩:=nD r c E;refine⟨λj o e=>?_,?_⟩
   ·cases j with
    |zero=>simp at e;subst e;rfl
    |succ j=>rw[H j o (by trivial)];rfl
   ·simp only[ZE,List.range_succ_eq_map,Pa,List.all_map,a];rfl
  ·cases h
section
noncomputable def uu(K:Fg)(m:GS)(μ:La)(H:Hp)(s:Oz)(u:OB):Sh->Prop
 | .non=>u=.none
 | .bl b=>u=.bool b
 | .int i=>∃t,u=.int i t
 | .str x=>∃t,u=.str x t
 | .tup ds=>∃a its vs,u=.ref a/\s.heap.IsTuple a its.toArray/\Vals vs its/\aj K m μ H ds vs
 | .lst ds=>∃a its vs,u=.ref a/\s.heap.IsList a its.toArray/\Vals vs its/\aj K m μ H ds vs
theorem nE(I:Inv X pq σ H s)(c:aK X.K ⟨X.mg,F⟩ μ S H){x:Sh}(r:Rep X.K ⟨X.mg,F⟩ μ H d v)(q:RelV v u)(e:sh S d=some x):uu X.K ⟨X.mg,F⟩ μ H s u x:=by
 cases d with
 |non=>cases e;cases ic r;exact q
 |bl b=>cases e;cases gA r;exact q
 |int b=>cases e;cases aH r;exact q
 |str b=>cases e;cases cc r;exact q
 |tup f=>cases e;obtain⟨a,vs,rfl,h,k⟩:=bQ r;cases q;obtain⟨i,R,p,_⟩:=I.tuple h;exact⟨a,_,_,rfl,p,R,k⟩
 |lst f=>cases e;obtain⟨a,vs,rfl,h,k⟩:=dw c r rfl;cases q;obtain⟨i,R,p,_⟩:=I.list (.of h);exact⟨a,_,_,rfl,p.isList,R,k⟩
 |ref n=>
  replace e:S[n]?.map _=some x:=e;cases E:S[n]? with
  |none=>simp_all
  |some f=>rw[E]at e;cases e;obtain⟨a,vs,rfl,h,k⟩:=dw c r E;subst q;obtain⟨i,R,p,_⟩:=I.list (.of h);exact⟨a,_,_,rfl,p.isList,R,k⟩
 |_=>cases e
def r8(A:Pf)(s:Oz)(f:D->D->Option Bool)(K:Fg)(m:GS)(μ:La)(H:Hp):Prop:=
 ∀d e v w u z k,Rep K m μ H d v->RelV v u->Rep K m μ H e w->RelV w z->f d e=some k->SeqAt.EqAt A s u z k
theorem zA{f:D->D->Option Bool}{m:GS}(F:r8 A s f K m μ H){es:List D}{vs ws:List V}{zs:Lv}(r:aj K m μ H ds vs)(q:Vals vs us)(R:aj K m μ H es ws)(Q:Vals ws zs){k:Bool}
  (h:bo (OC f ds es)=some k):∀j (h1:j<us.toArray.size) (h2:j<zs.toArray.size),SeqAt.EqAt A s us.toArray[j] zs.toArray[j] (eJ (OC f ds es) j):=by
 intro j h1 h2;have l1:=r.length;have l2:=R.length;have l3:=q.length;have L:=Q.length
 have p:j<us.length:=by simpa using h1
 have t:j<zs.length:=by simpa using h2
 have a:ds[j]?=some (ds[j]'(by omega)):=Zj _;have b:es[j]?=some (es[j]'(by omega)):=Zj _;obtain⟨v,B,C⟩:=r.get a;obtain⟨w,c,i⟩:=R.get b;obtain⟨u,d,l⟩:=q.get B;obtain⟨z,g,n⟩:=Q.get c
 have E:us.toArray[j]=u:=by have:=Zg.mp d;obtain⟨_,e⟩:=this;simpa using e
 have o:zs.toArray[j]=z:=by have:=Zg.mp g;obtain⟨_,e⟩:=this;simpa using e
 rw[E,o];have x:(OC f ds es)[j]?=some (f (ds[j]'(by omega)) (es[j]'(by omega))):=by rw[QC,a,b]
 exact F _ _ v w u z _ C l i n ((nD _ _ h).1 j _ x)
theorem zB{f:D->D->Option Bool}{es:List D}{k:Bool}(h:bo (OC f ds es)=some k)(m:Nat)(H:m=min ds.length es.length):(OD m).all (eJ (OC f ds es))=k:=by have:=(nD _ _ h).2;simp_all
open PySem.SeqAt
theorem N_{M:GS}{f:D->D->Option Bool}(F:r8 A.in1 s f K M μ H)(c:A.units<cLine){z:OB}:∀{x y:Sh} {k:Bool},uu K M μ H s u x->uu K M μ H s z y->ut f x y=some k->
  RcAt A s u z k/\RcNeAt A s u z (!k):=by
 intro x y k j d h;cases x with
 |non=>
  cases j;cases y with
  |non=>cases d;cases h;exact⟨RcAt.none_none,RcNeAt.none_none⟩
  |bl b=>cases d;cases h;exact⟨RcAt.none_bool b,RcNeAt.none_bool b⟩
  |int b=>obtain⟨t,rfl⟩:=d;cases h;exact⟨RcAt.none_int b t,RcNeAt.none_int b t⟩
  |str b=>obtain⟨t,rfl⟩:=d;cases h;exact⟨RcAt.none_str b t,RcNeAt.none_str b t⟩
  |tup b=>obtain⟨a,e,vs,rfl,p,_⟩:=d;cases h;exact⟨RcAt.none_tuple p c,RcNeAt.none_tuple p c⟩
  |lst b=>obtain⟨a,e,vs,rfl,p,_⟩:=d;cases h;exact⟨RcAt.none_list p c,RcNeAt.none_list p c⟩
 |bl a=>
  cases j;cases y with
  |non=>cases d;cases h;exact⟨RcAt.bool_none a,RcNeAt.bool_none a⟩
  |bl b=>cases d;cases h;exact⟨RcAt.bool_bool a b,RcNeAt.bool_bool a b⟩
  |int b=>obtain⟨t,rfl⟩:=d;cases h;exact⟨RcAt.bool_int a b t,RcNeAt.bool_int a b t⟩
  |str b=>obtain⟨t,rfl⟩:=d;cases h;exact⟨RcAt.bool_str a b t,RcNeAt.bool_str a b t⟩
  |tup b=>obtain⟨_,e,vs,rfl,p,_⟩:=d;cases h;exact⟨RcAt.bool_tuple a p c,RcNeAt.bool_tuple a p c⟩
  |lst b=>obtain⟨_,e,vs,rfl,p,_⟩:=d;cases h;exact⟨RcAt.bool_list a p c,RcNeAt.bool_list a p c⟩
 |int a=>
  obtain⟨T,rfl⟩:=j;cases y with
  |non=>cases d;cases h;exact⟨RcAt.int_none a T,RcNeAt.int_none a T⟩
  |bl b=>cases d;cases h;exact⟨RcAt.int_bool a T b,RcNeAt.int_bool a T b⟩
  |int b=>obtain⟨t,rfl⟩:=d;cases h;exact⟨RcAt.int_int a T b t,RcNeAt.int_int a T b t⟩
  |str b=>obtain⟨t,rfl⟩:=d;cases h;exact⟨RcAt.int_str a T b t,RcNeAt.int_str a T b t⟩
  |tup b=>obtain⟨_,e,vs,rfl,p,_⟩:=d;cases h;exact⟨RcAt.int_tuple a T p c,RcNeAt.int_tuple a T p c⟩
  |lst b=>obtain⟨_,e,vs,rfl,p,_⟩:=d;cases h;exact⟨RcAt.int_list a T p c,RcNeAt.int_list a T p c⟩
 |str a=>
  obtain⟨T,rfl⟩:=j;cases y with
  |non=>cases d;cases h;exact⟨RcAt.str_none a T,RcNeAt.str_none a T⟩
  |bl b=>cases d;cases h;exact⟨RcAt.str_bool a T b,RcNeAt.str_bool a T b⟩
  |int b=>obtain⟨t,rfl⟩:=d;cases h;exact⟨RcAt.str_int a T b t,RcNeAt.str_int a T b t⟩
  |str b=>obtain⟨t,rfl⟩:=d;cases h;exact⟨RcAt.str_str a T b t,RcNeAt.str_str a T b t⟩
  |tup b=>obtain⟨_,e,vs,rfl,p,_⟩:=d;cases h;exact⟨RcAt.str_tuple a T p c,RcNeAt.str_tuple a T p c⟩
  |lst b=>obtain⟨_,e,vs,rfl,p,_⟩:=d;cases h;exact⟨RcAt.str_list a T p c,RcNeAt.str_list a T p c⟩
 |tup a=>
  obtain⟨w,I,V,rfl,P,q,r⟩:=j;cases y with
  |non=>cases d;cases h;exact⟨RcAt.tuple_none P c,RcNeAt.tuple_none P c⟩
  |bl b=>cases d;cases h;exact⟨RcAt.tuple_bool b P c,RcNeAt.tuple_bool b P c⟩
  |int b=>obtain⟨t,rfl⟩:=d;cases h;exact⟨RcAt.tuple_int b t P c,RcNeAt.tuple_int b t P c⟩
  |str b=>obtain⟨t,rfl⟩:=d;cases h;exact⟨RcAt.tuple_str b t P c,RcNeAt.tuple_str b t P c⟩
  |tup b=>
   obtain⟨n,i,v,rfl,g,Q,R⟩:=d;replace h:(bo (OC f a b)).map (· &&a.length==b.length)=some k:=h;obtain⟨G,o,B⟩:=O1.mp h;have m:=zA F r q R Q o;have l1:=r.length;have l2:=R.length;have l3:=q.length;have L:=Q.length
   have E:k=((OD (min I.toArray.size i.toArray.size)).all (eJ (OC f a b))&&I.toArray.size==i.toArray.size):=by rw[<-B,zB o _ (by grind),Zu,Zu,<-l3,<-L,<-l1,<-l2]
   rw[E];exact⟨RcAt.tuples P g c m,RcNeAt.tuples P g c m⟩
  |lst b=>obtain⟨n,i,v,rfl,g,_⟩:=d;cases h;exact⟨RcAt.tuple_list P g c,RcNeAt.tuple_list P g c⟩
 |lst a=>
  obtain⟨w,I,V,rfl,P,q,r⟩:=j;cases y with
  |non=>cases d;cases h;exact⟨RcAt.list_none P c,RcNeAt.list_none P c⟩
  |bl b=>cases d;cases h;exact⟨RcAt.list_bool b P c,RcNeAt.list_bool b P c⟩
  |int b=>obtain⟨t,rfl⟩:=d;cases h;exact⟨RcAt.list_int b t P c,RcNeAt.list_int b t P c⟩
  |str b=>obtain⟨t,rfl⟩:=d;cases h;exact⟨RcAt.list_str b t P c,RcNeAt.list_str b t P c⟩
  |tup b=>obtain⟨n,i,v,rfl,g,_⟩:=d;cases h;exact⟨RcAt.list_tuple P g c,RcNeAt.list_tuple P g c⟩
  |lst b=>
   obtain⟨n,i,v,rfl,g,Q,R⟩:=d;have l1:=r.length;have l2:=R.length;have l3:=q.length;have L:=Q.length
   replace h:(if a.length=b.length then bo (OC f a b)else some Oy)=some k:=h;split at h
   ·rename_i C;have m:=zA F r q R Q h
    have E:k=(OD I.toArray.size).all (eJ (OC f a b)):=by rw[zB h _ (by rw[Zu,<-l3,<-l1];omega)]
    rw[E];have l:I.toArray.size=i.toArray.size:=by grind
    exact⟨RcAt.lists P g l c m,RcNeAt.lists P g l c m⟩
   ·rename_i C;cases h;have l:(I.toArray.size !=i.toArray.size)=Ox:=by grind
    exact⟨RcAt.lists_lengths P g l c,RcNeAt.lists_lengths P g l c⟩
theorem zC(I:Inv X pq σ H s)(sk:aK X.K ⟨X.mg,F⟩ μ S H):∀(n:Nat) (d e:D) (v:V) (k:Bool),Rep X.K ⟨X.mg,F⟩ μ H d v->Rep X.K ⟨X.mg,F⟩ μ H e v->bY S n d e=some k->k=Ox:=by
 intro n
 induction n with
 |zero=>intro d e v k _ _ h;cases h
 |succ n ih=>
  intro d e v k rd re h
  have L:∀(p E:List D) (vs:List V) (k:Bool),aj X.K ⟨X.mg,F⟩ μ H p vs->aj X.K ⟨X.mg,F⟩ μ H E vs->bo (OC (bY S n) p E)=some k->k=Ox:=by
   intro p
   induction p with
   |nil=>intro E vs k _ _ h;cases h;rfl
   |cons d p Z=>
    intro E vs k R r h;obtain⟨v,W,rfl,T,b1⟩:=R.uncons;cases E with
    |nil=>cases h;rfl
    |cons e E=>
     obtain⟨v',ws',q,G,b2⟩:=r.uncons;cases q;rw[Rn]at h;unfold bo at h;split at h
     ·rename_i x y q K;cases h;rw[ih d e v x T G q,Z E W y b1 b2 K];rfl
     ·cases h
  unfold bY at h;cases q:sh S d with
  |none=>rw[q]at h;cases h
  |some x=>
   cases K:sh S e with
   |none=>rw[q,K]at h;cases h
   |some y=>
    rw[q,K]at h;replace h:ut (bY S n) x y=some k:=h
    obtain⟨u,ru⟩:∃u,RelV v u:=by
     cases v with
     |non=>exact⟨_,rfl⟩
     |bl b=>exact⟨_,rfl⟩
     |int i=>exact⟨.int i 0,0,rfl⟩
     |str x=>exact⟨.str x 0,0,rfl⟩
     |byt x=>exact⟨.bytes x 0,0,rfl⟩
     |flt x=>exact⟨.float x 0,0,rfl⟩
     |ref a=>exact⟨_,rfl⟩
     |ty n=>exact⟨_,rfl⟩
    have C:=nE I sk rd ru q;have f:=nE I sk re ru K
    have len:∀{p E:List D} {vs W:List V} {us:Lv},aj X.K ⟨X.mg,F⟩ μ H p vs->Vals vs us->aj X.K ⟨X.mg,F⟩ μ H E W->Vals W us->vs=W/\p.length=E.length:=λR O r Q=>by have:=O.inj Q;subst this;exact⟨rfl,R.length.trans r.length.symm⟩
    cases x with
    |non=>
     cases C;cases y with
     |non=>cases h;rfl
     |bl b=>cases f
     |int b=>obtain⟨t,z⟩:=f;cases z
     |str b=>obtain⟨t,z⟩:=f;cases z
     |tup b=>obtain⟨_,_,_,z,_⟩:=f;cases z
     |lst b=>obtain⟨_,_,_,z,_⟩:=f;cases z
    |bl a=>
     cases C;cases y with
     |non=>cases f
     |bl b=>cases f;cases h;simp
     |int b=>obtain⟨t,z⟩:=f;cases z
     |str b=>obtain⟨t,z⟩:=f;cases z
     |tup b=>obtain⟨_,_,_,z,_⟩:=f;cases z
     |lst b=>obtain⟨_,_,_,z,_⟩:=f;cases z
    |int a=>
     obtain⟨t',rfl⟩:=C;cases y with
     |non=>cases f
     |bl b=>cases f
     |int b=>obtain⟨t,z⟩:=f;cases z;cases h;simp
     |str b=>obtain⟨t,z⟩:=f;cases z
     |tup b=>obtain⟨_,_,_,z,_⟩:=f;cases z
     |lst b=>obtain⟨_,_,_,z,_⟩:=f;cases z
    |str a=>
     obtain⟨t',rfl⟩:=C;cases y with
     |non=>cases f
     |bl b=>cases f
     |int b=>obtain⟨t,z⟩:=f;cases z
     |str b=>obtain⟨t,z⟩:=f;cases z;cases h;simp
     |tup b=>obtain⟨_,_,_,z,_⟩:=f;cases z
     |lst b=>obtain⟨_,_,_,z,_⟩:=f;cases z
    |tup a=>
     obtain⟨T,m,A,rfl,N,O,R⟩:=C;cases y with
     |non=>cases f
     |bl b=>cases f
     |int b=>obtain⟨t,z⟩:=f;cases z
     |str b=>obtain⟨t,z⟩:=f;cases z
     |tup b=>
      obtain⟨G,j,B,z,P,Q,r⟩:=f;cases z
      have U:m=j:=by
       obtain⟨o,w,_,n,M⟩:=N;obtain⟨o',g,_,n',l⟩:=P;rw[w]at g;cases g;rw[M]at l;injection l with z _
       simpa using congrArg Array.toList z
      subst U;obtain⟨rfl,Y⟩:=len R O r Q;replace h:(bo (OC (bY S n) a b)).map (· &&a.length==b.length)=some k:=h;obtain⟨k1,e3,e4⟩:=O1.mp h;rw[<-e4,L a b A k1 R r e3,Y];simp
     |lst b=>obtain⟨G,j,B,z,P,Q,r⟩:=f;cases z;obtain⟨o,w,c,n,M⟩:=N;obtain⟨o',g,J,n',l⟩:=P;rw[w]at g;cases g;rw[c]at J;exact absurd J (by decide)
    |lst a=>
     obtain⟨T,m,A,rfl,N,O,R⟩:=C;cases y with
     |non=>cases f
     |bl b=>cases f
     |int b=>obtain⟨t,z⟩:=f;cases z
     |str b=>obtain⟨t,z⟩:=f;cases z
     |tup b=>obtain⟨G,j,B,z,P,Q,r⟩:=f;cases z;obtain⟨o,w,c,n,M⟩:=N;obtain⟨o',g,J,n',l⟩:=P;rw[w]at g;cases g;rw[c]at J;exact absurd J (by decide)
     |lst b=>
      obtain⟨G,j,B,z,P,Q,r⟩:=f;cases z
      have U:m=j:=by
       obtain⟨o,w,_,n,M⟩:=N;obtain⟨o',g,_,n',l⟩:=P;rw[w]at g;cases g;rw[M]at l;injection l with z _
       simpa using congrArg Array.toList z
      subst U;obtain⟨rfl,Y⟩:=len R O r Q;replace h:(if a.length=b.length then bo (OC (bY S n) a b)else some Oy)=some k:=h;rw[if_pos Y]at h;exact L a b A k R r h
theorem yo(I:Inv X pq σ H s)(G:aK X.K ⟨X.mg,F⟩ μ S H):∀(n:Nat) (A:Pf),A.units+n<cLine->∀d e v w u z k,Rep X.K ⟨X.mg,F⟩ μ H d v->RelV v u->Rep X.K ⟨X.mg,F⟩ μ H e w->RelV w z->bY S n d e=some k->
  RcAt A s u z k/\RcNeAt A s u z (!k)/\EqAt A s u z k:=by
 intro n
 induction n with
 |zero=>intro A _ d e v w u z k _ _ _ _ h;cases h
 |succ n Z=>
  intro A hA d e v w u z k L R M B h;have o:=λ(D:v=w)=>zC I G (n+1) d e v k L (D▸M) h;unfold bY at h;cases E:sh S d with
  |none=>rw[E]at h;cases h
  |some x=>
   cases C:sh S e with
   |none=>rw[E,C]at h;cases h
   |some y=>
    rw[E,C]at h;replace h:ut (bY S n) x y=some k:=h;have j:=nE I G L R E;have f:=nE I G M B C;have Y:A.in1.units=A.units+1:=rfl;obtain⟨J,O⟩:=N_ (λd e v w u z k a b c Q h=>(Z A.in1 (by omega) d e v w u z k a b c Q h).2.2) (by omega) j f h;refine⟨J,O,?_⟩
    have r:∀{l b:OA},u=.ref l->z=.ref b->EqAt A s u z k:=λ{l b} U W=>by
     subst U;subst W;by_cases K:l=b
     ·subst K
      have D:v=w:=by
       cases v<;>first| (cases R;done)|skip
       all_goals first| (obtain⟨_,q⟩:=R;cases q;done)|skip
       cases w<;>first| (cases B;done)|skip
       all_goals first| (obtain⟨_,q⟩:=B;cases q;done)|skip
       cases R;cases B;rfl
      rw[o D];exact EqAt.same _
     ·exact .of_refs K J
    have g:A.units<cLine:=by omega
    cases x with
    |non=>
     cases j;cases y with
     |non=>cases f;cases h;exact EqAt.same _
     |bl b=>cases f;cases h;exact EqAt.none_bool b
     |int b=>obtain⟨t,rfl⟩:=f;cases h;exact EqAt.none_int b t
     |str b=>obtain⟨t,rfl⟩:=f;cases h;exact EqAt.none_str b t
     |tup b=>obtain⟨a,i,vs,rfl,p,_⟩:=f;cases h;exact EqAt.none_tuple p g
     |lst b=>obtain⟨a,i,vs,rfl,p,_⟩:=f;cases h;exact EqAt.none_list p g
    |bl a=>
     cases j;cases y with
     |non=>cases f;cases h;exact EqAt.bool_none a
     |bl b=>cases f;cases h;exact EqAt.bool_bool a b
     |int b=>obtain⟨t,rfl⟩:=f;cases h;exact EqAt.bool_int a b t
     |str b=>obtain⟨t,rfl⟩:=f;cases h;exact EqAt.bool_str a b t
     |tup b=>obtain⟨_,i,vs,rfl,p,_⟩:=f;cases h;exact EqAt.bool_tuple a p g
     |lst b=>obtain⟨_,i,vs,rfl,p,_⟩:=f;cases h;exact EqAt.bool_list a p g
    |int a=>
     obtain⟨T,rfl⟩:=j;cases y with
     |non=>cases f;cases h;exact EqAt.int_none a T
     |bl b=>cases f;cases h;exact EqAt.int_bool a T b
     |int b=>obtain⟨t,rfl⟩:=f;cases h;exact EqAt.int_int a T b t
     |str b=>obtain⟨t,rfl⟩:=f;cases h;exact EqAt.int_str a T b t
     |tup b=>obtain⟨_,i,vs,rfl,p,_⟩:=f;cases h;exact EqAt.int_tuple a T p g
     |lst b=>obtain⟨_,i,vs,rfl,p,_⟩:=f;cases h;exact EqAt.int_list a T p g
    |str a=>
     obtain⟨T,rfl⟩:=j;cases y with
     |non=>cases f;cases h;exact EqAt.str_none a T
     |bl b=>cases f;cases h;exact EqAt.str_bool a T b
     |int b=>obtain⟨t,rfl⟩:=f;cases h;exact EqAt.str_int a T b t
     |str b=>obtain⟨t,rfl⟩:=f;cases h;exact EqAt.str_str a T b t
     |tup b=>obtain⟨_,i,vs,rfl,p,_⟩:=f;cases h;exact EqAt.str_tuple a T p g
     |lst b=>obtain⟨_,i,vs,rfl,p,_⟩:=f;cases h;exact EqAt.str_list a T p g
    |tup a=>
     obtain⟨N,m,V,rfl,P,_⟩:=j;cases y with
     |non=>cases f;cases h;exact EqAt.tuple_none P g
     |bl b=>cases f;cases h;exact EqAt.tuple_bool b P g
     |int b=>obtain⟨t,rfl⟩:=f;cases h;exact EqAt.tuple_int b t P g
     |str b=>obtain⟨t,rfl⟩:=f;cases h;exact EqAt.tuple_str b t P g
     |tup b=>obtain⟨_,i,vs,rfl,p,_⟩:=f;exact r rfl rfl
     |lst b=>obtain⟨_,i,vs,rfl,p,_⟩:=f;exact r rfl rfl
    |lst a=>
     obtain⟨N,m,V,rfl,P,_⟩:=j;cases y with
     |non=>cases f;cases h;exact EqAt.list_none P g
     |bl b=>cases f;cases h;exact EqAt.list_bool b P g
     |int b=>obtain⟨t,rfl⟩:=f;cases h;exact EqAt.list_int b t P g
     |str b=>obtain⟨t,rfl⟩:=f;cases h;exact EqAt.list_str b t P g
     |tup b=>obtain⟨_,i,vs,rfl,p,_⟩:=f;exact r rfl rfl
     |lst b=>obtain⟨_,i,vs,rfl,p,_⟩:=f;exact r rfl rfl
end
open Builtin.Str (strSliceIndices)
noncomputable def uv(d e:D)(S:af):Res D:=match d,e with
 | .str z,.int i=>if z.length<=a' then(match fA z.cps.toList i with
  |some c=>.ok (.str ⟨#[c]⟩) S
  |none=>.fail)else .fail
 |_,_=>.fail
noncomputable def HG(d e:D):Option Bool:=match d,e with
 | .str x,.str y=>some (!(OP y x 0 y.length 1).isEmpty)
 |_,_=>none
noncomputable def dL(x:Str)(l h:Option Int)(st:Int):Str:=⟨((strSliceIndices l h st x.length).filterMap (x.cps[·]?)).toArray⟩
noncomputable def zD(d:D)(l h:Option Int)(S:af):Res D:=match d with
 | .str x=>if(strSliceIndices l h 1 x.length).length=x.length then .ok (.str x) S else if(dL x l h 1).length<=a' then .ok (.str (dL x l h 1)) S else .fail
 |_=>.fail
noncomputable def nF(d k:D)(S:af):Res D:=match d,k with
 | .str x,.int i=>if i= -1/\(dL x none none (-1)).length<=a' then .ok (.str (dL x none none (-1))) S else .fail
 |_,_=>.fail
noncomputable def uw(ds:List D)(S:af):Res D:=match ds with
 | [.str x]=>if x.length<=640 then(match intText? x with
  |some n=>.ok (.int n) S
  |none=>.fail)else .fail
 |_=>.fail
theorem j0{e:D}{k:Bool}(h:HG d e=some k):∃x y,d=.str x/\e=.str y/\(!(OP y x 0 y.length 1).isEmpty)=k:=by
 unfold HG at h;split at h
 ·cases h;exact⟨_,_,rfl,rfl,rfl⟩
 ·cases h
theorem HH:yn X (rD X.K X.mg uv):=by
 intro V a p s j H x y v u Q I f g h b;obtain⟨F,m,S,d,e,i,r,R,w⟩:=h;have k:=ib;unfold uv at w;split at w
 ·split at w
  ·rename_i l;split at w
   ·rename_i c E;cases cc r;cases aH R;exact uf V a p s j H _ _ v u Q I f g ⟨_,_,c,rfl,rfl,by omega,E,w.now i dy⟩ b
   ·exact w.elim
  ·exact w.elim
 ·exact w.elim
theorem zE{xs:List V}{Q:VK}(I:L2.Inv X pq σ H s)(r:Vals xs us)(d:aK X.K ⟨X.mg,F⟩ μ S H)(R:aj X.K ⟨X.mg,F⟩ μ H ds xs)(w:aO X.K ⟨X.mg,F⟩ μ H Q (uw ds S)):wpAny (model X.prog X.w) X.A (call (.type "int") us) (EP X pq σ Q) X.xe s:=by
 unfold uw at w;split at w
 ·split at w
  ·rename_i a;split at w
   ·rename_i n b;obtain⟨v,W,rfl,c,h⟩:=aj.uncons R;unfold aj at h;subst h;cases cc c;obtain⟨u,rfl,t,rfl⟩:=vals1 r;exact PySem.W.KIN.call_text b a ⟨.int n,H,I.tok _,⟨_,rfl⟩,w.now d bL⟩
   ·exact w.elim
  ·exact w.elim
 ·exact w.elim
theorem j1{v:OB}{o:Option Int}(p:Q_ v o):∃l:Option (Int×Tok),v=partValue l/\l.map (·.1)=o:=by
 cases p with
 |none=>exact⟨none,rfl,rfl⟩
 |int i u=>exact⟨some (i,u),rfl,rfl⟩
theorem HI{x:V}{v:OB}{Q:VK}(I:L2.Inv X pq σ H s)(R:RelV x v)(hs:s.heap.IsSliceOf sl vl vu .none)(pl:Q_ vl lo)(p:Q_ vu hi)(b:aK X.K ⟨X.mg,F⟩ μ S H)(r:Rep X.K ⟨X.mg,F⟩ μ H d x)(w:aO X.K ⟨X.mg,F⟩ μ H Q (zD d lo hi S)):
  ∃T id,typeLookup (.type T) "__getitem__"=pure (some (.builtin id))/\s.TypeIs v T/\wpAny (model X.prog X.w) X.A (getItem v (.ref sl)) (EP X pq σ Q) X.xe s:=by
 unfold zD at w;split at w
 ·rename_i x;cases cc r;obtain⟨t,rfl⟩:=R;obtain⟨l,rfl,c⟩:=j1 pl;obtain⟨u,rfl,e⟩:=j1 p;refine⟨"str",_,PySem.F.slot_str_getitem.lookup,Qk s x t,T6 (l:=l) (u:=u) (st:=none) hs rfl ?_⟩;unfold sliceMade slicePicked;rw[c,e];show Made.post (if((1:Int)==1&&(strSliceIndices lo hi 1 x.length).length==x.length)=Ox then _ else _) _ _;by_cases a:(strSliceIndices lo hi 1 x.length).length=x.length
  ·rw[if_pos (by rw[a];simp)];rw[if_pos a]at w;exact⟨.str x,H,I,⟨_,rfl⟩,w.now b dy⟩
  ·rw[if_neg (by simp[a])];rw[if_neg a]at w;have f:=ib;split at w
   ·rename_i h;have h:(dL x lo hi 1).length<=sizeLine:=by omega
    exact⟨h,.str _,H,I.tok _,⟨_,rfl⟩,w.now b dy⟩
   ·exact w.elim
 ·exact w.elim
theorem zF{x:V}{v:OB}{u:Tok}{Q:VK}{F μ:La}{S:af}{d:D}(I:L2.Inv X pq σ H s)(R:RelV x v)(hs:s.heap.get? sl=some {cls:=.type "slice",data:=.fields #[.none,.none,.int (-1) u]})(c:aK X.K ⟨X.mg,F⟩ μ S H)(r:Rep X.K ⟨X.mg,F⟩ μ H d x)(w:aO X.K ⟨X.mg,F⟩ μ H Q (nF d (.int (-1)) S)):
  ∃z t,v=.str z t/\wpAny (model X.prog X.w) X.A (getItem v (.ref sl)) (EP X pq σ Q) X.xe s:=by
 unfold nF at w;split at w
 ·rename_i z i b;cases b;cases cc r;obtain⟨t,rfl⟩:=R;refine⟨z,t,rfl,T6 (l:=none) (u:=none) (st:=some (-1,u)) ⟨_,hs,rfl,rfl⟩ rfl ?_⟩;have e:=ib;split at w
  ·rename_i a;have h:(dL z none none (-1)).length<=sizeLine:=by have:=a.2;omega
   exact⟨h,.str _,H,I.tok _,⟨_,rfl⟩,w.now c dy⟩
  ·exact w.elim
 ·exact w.elim
end Py
namespace Py
noncomputable def yp(eq lt:D->D->Option Bool):List D->List D->Option Bool
 | [],[]=>some Oy
 | [],_::_=>some Ox
 |_::_,[]=>some Oy
 |a::as,b::bs=>match eq a b with
  |some Ox=>yp eq lt as bs
  |some Oy=>lt a b
  |none=>none
noncomputable def jJ(S:af):Nat->D->D->Option Bool
 |0,_,_=>none
 |n+1,.int a,.int b=>some (decide (a<b))
 |n+1,.tup a,.tup b=>yp (bY S n) (jJ S n) a b
 |_,_,_=>none
open PySem.SeqAt
def ie(A:Pf)(s:Oz)(y x:OB)(b:Bool):Prop:=
 ∀(prog:OF) (w:ON) (E:Vs) (Q:Vs),Q (.bool b) s->wpAny (model prog w) A (richCompare .Lt y x) Q E s
inductive dr (A:Pf)(s:Oz):Lv->Lv->Bool->Prop where
 |nn:dr A s [] [] Oy
 |nc {w ws}:dr A s [] (w::ws) Ox
 |cn {v vs}:dr A s (v::vs) [] Oy
 |eq {v w vs ws k}:EqAt A s v w Ox->dr A s vs ws k->dr A s (v::vs) (w::ws) k
 |lt {v w vs ws k}:EqAt A s v w Oy->ie A s v w k->dr A s (v::vs) (w::ws) k
section
open PySem.AutoSeq1 (wpAny_loadPart')
open PySem.MeetsSeq PySem.MeetsSeq2 PySem.MeetsSeq3
theorem HJ(l b:OA)(items i:Av)(n N:Nat)(dd D:Option OA)(sl z:Array (Ov))(k:Bool):
  Meets (PF.«tuple.__lt__» ⟨[.ref l,.ref b],[]⟩)
   (λA R s=>s.heap.get? l=some {cls:=.type "tuple",dict:=dd,data:=.seq items n,slots:=sl}/\s.heap.get? b=some {cls:=.type "tuple",dict:=D,data:=.seq i N,slots:=z}/\
    dr A.in1 s items.toList i.toList k/\R (.ok (.ret (.bool k))) s):=
 .of_wp λp w A R s h=>by
  obtain⟨t,g,d,T,O⟩:=s;obtain⟨C,B,q,h⟩:=h;have J:=Sq
  wp_walk using QW C,QW B,Qn _ (λr b S=>b.1=none/\S=⟨t,g,d,T,O⟩/\∃(vs W:Lv),r=vs.zip W/\
   dr A.in1 ⟨t,g,d,T,O⟩ vs W k/\vs.length+i.size=W.length+items.size/\R (.ok (.ret (.bool k))) ⟨t,g,d,T,O⟩) _
  case turn=>
   rintro⟨y,x⟩ r b S ⟨e,rfl,vs,W,a,f,H,hR⟩;cases f with
   |nn=>rw[Q4]at a;cases a
   |nc=>rw[Q4]at a;cases a
   |cn=>rw[RW]at a;cases a
   |eq m o=>
    rw[Z4]at a;injection a with j c
    injection j with v q
    subst v q;simp only[ZE]at H;refine Za (m p w _ _ ?_)
    wp_walk
    exact⟨rfl,rfl,_,_,c,o,by omega,hR⟩
   |lt m o=>
    rw[Z4]at a;injection a with j c
    injection j with v q
    subst v q;refine Za (m p w _ _ ?_);have u:=λ(E:Vs) (Q:Vs)=>o p w E Q
    wp_walk using u
    exact⟨_,rfl,by simpa using hR⟩
  case fin=>
   rintro⟨G,I⟩ S ⟨e,rfl,vs,W,a,f,H,hR⟩;simp only at e;subst e
   have F:k=decide (items.size<i.size):=by
    cases f with
    |nn=>simp only[Z2]at H;exact(Zy (by omega)).symm
    |nc=>simp only[Z2,ZE]at H;exact(ZA (by omega)).symm
    |cn=>simp only[Z2,ZE]at H;exact(Zy (by omega)).symm
    |eq m o=>rw[Z4]at a;cases a
    |lt m o=>rw[Z4]at a;cases a
   rw[F]at hR
   wp_walk
   exact⟨_,rfl,by simpa[Rw]using hR⟩
  case h=>exact⟨rfl,rfl,items.toList,i.toList,rfl,q,by simp;omega,h⟩
end
theorem ie.tuples{l b:OA}{vs ws:Lv}{k:Bool}(m:s.heap.IsTuple l vs.toArray)(g:s.heap.IsTuple b ws.toArray)(o:A.units<cLine)(r:dr A.in1 s vs ws k):ie A s (.ref l) (.ref b) k:=λp w E Q h=>by
 obtain⟨⟨cls,q,D,sl⟩,e,i,n,j⟩:=id m;obtain⟨⟨C,f,d,S⟩,H,a,N,c⟩:=id g;subst i j a c
 exact Ui ⟨_,e,rfl⟩ ⟨_,H,rfl⟩ PySem.F.slot_tuple_lt PySem.F.entry_tuple_lt (PySem.F.args_tuple_lt_2 _ _) (HJ l b _ _ n _ _ _ _ _ k)
  ⟨e,H,by omega,show QA k≠Th/\Q _ s from⟨(λx=>nomatch x),h⟩⟩ o
def zH(A:Pf)(s:Oz)(y x:OB)(b:Bool):Prop:=
 ∀(prog:OF) (w:ON) (E:Vs) (Q:Vs),Q (.bool b) s->wpAny (model prog w) A (richCompare .LtE y x) Q E s
inductive dM (A:Pf)(s:Oz):Lv->Lv->Bool->Prop where
 |nl {ws}:dM A s [] ws Ox
 |cn {v vs}:dM A s (v::vs) [] Oy
 |eq {v w vs ws k}:EqAt A s v w Ox->dM A s vs ws k->dM A s (v::vs) (w::ws) k
 |le {v w vs ws k}:EqAt A s v w Oy->zH A s v w k->dM A s (v::vs) (w::ws) k
section
open PySem.AutoSeq1 (wpAny_loadPart')
open PySem.MeetsSeq PySem.MeetsSeq2 PySem.MeetsSeq3
theorem HK(l b:OA)(xs ys:Av)(n N:Nat)(dd D:Option OA)(sl v:Array (Ov))(k:Bool):
  Meets (PF.«tuple.__le__» ⟨[.ref l,.ref b],[]⟩)
   (λA R s=>s.heap.get? l=some {cls:=.type "tuple",dict:=dd,data:=.seq xs n,slots:=sl}/\s.heap.get? b=some {cls:=.type "tuple",dict:=D,data:=.seq ys N,slots:=v}/\
    dM A.in1 s xs.toList ys.toList k/\R (.ok (.ret (.bool k))) s):=
 .of_wp λp w A R s h=>by
  obtain⟨q,g,d,T,O⟩:=s;obtain⟨B,z,o,h⟩:=h;have I:=Sq
  wp_walk using QW B,QW z,Qn _ (λr b S=>b.1=none/\S=⟨q,g,d,T,O⟩/\∃(vs W:Lv),r=vs.zip W/\
   dM A.in1 ⟨q,g,d,T,O⟩ vs W k/\vs.length+ys.size=W.length+xs.size/\R (.ok (.ret (.bool k))) ⟨q,g,d,T,O⟩) _
  case turn=>
   rintro⟨y,x⟩ r b S ⟨e,rfl,vs,W,a,f,H,hR⟩;cases f with
   |nl=>rw[Q4]at a;cases a
   |cn=>rw[RW]at a;cases a
   |eq j m=>
    rw[Z4]at a;injection a with i c
    injection i with u o
    subst u o;simp only[ZE]at H;refine Za (j p w _ _ ?_)
    wp_walk
    exact⟨rfl,rfl,_,_,c,m,by omega,hR⟩
   |le j m=>
    rw[Z4]at a;injection a with i c
    injection i with u o
    subst u o;refine Za (j p w _ _ ?_);have t:=λ(E:Vs) (Q:Vs)=>m p w E Q
    wp_walk using t
    exact⟨_,rfl,by simpa using hR⟩
  case fin=>
   rintro⟨F,G⟩ S ⟨e,rfl,vs,W,a,f,H,hR⟩;simp only at e;subst e
   have C:k=decide (xs.size<=ys.size):=by
    cases f with
    |nl=>simp only[Z2]at H;exact(ZA (by omega)).symm
    |cn=>simp only[Z2,ZE]at H;exact(Zy (by omega)).symm
    |eq j m=>rw[Z4]at a;cases a
    |le j m=>rw[Z4]at a;cases a
   rw[C]at hR
   wp_walk
   exact⟨_,rfl,by simpa[Rw]using hR⟩
  case h=>exact⟨rfl,rfl,xs.toList,ys.toList,rfl,o,by simp;omega,h⟩
end
theorem HL{l b:OA}{vs ws:Lv}{k:Bool}(m:s.heap.IsTuple l vs.toArray)(g:s.heap.IsTuple b ws.toArray)(o:A.units<cLine)(r:dM A.in1 s vs ws k):zH A s (.ref l) (.ref b) k:=λp w E Q h=>by
 obtain⟨⟨cls,q,D,sl⟩,e,i,n,j⟩:=id m;obtain⟨⟨C,f,d,S⟩,H,a,N,c⟩:=id g;subst i j a c
 exact Ui ⟨_,e,rfl⟩ ⟨_,H,rfl⟩ PySem.F.slot_tuple_le PySem.F.entry_tuple_le (PySem.F.args_tuple_le_2 _ _) (HK l b _ _ n _ _ _ _ _ k)
  ⟨e,H,by omega,show QA k≠Th/\Q _ s from⟨(λx=>nomatch x),h⟩⟩ o
noncomputable def zI:List D->List D->Option Bool
 | [],_=>some Ox
 |_::_,[]=>some Oy
 | .int a::as,.int b::bs=>if a=b then zI as bs else some (decide (a<=b))
 |_::_,_::_=>none
theorem j2{K:Fg}{m:GS}{μ:La}{H:Hp}{A:Pf}{s:Oz}:∀(ds es:List D) (vs ws:List V) (us zs:Lv) (k:Bool),aj K m μ H ds vs->Vals vs us->aj K m μ H es ws->Vals ws zs->zI ds es=some k->dM A s us zs k
 | [],es,vs,ws,us,zs,k,r,q,R,i,h=>by
  unfold aj at r;subst r;have:=q.zero;subst this
  cases h;exact .nl
 |d::ds,[],vs,ws,us,zs,k,r,q,R,i,h=>by
  obtain⟨v,vs,rfl,l,B⟩:=r.uncons;unfold aj at R;subst R;have:=i.zero;subst this
  cases q;have f:some Oy=some k:=by cases d<;>exact h
  cases f;exact .cn
 |d::ds,e::es,vs,ws,us,zs,k,r,q,R,i,h=>by
  obtain⟨v,vs,rfl,l,B⟩:=r.uncons;obtain⟨w,ws,rfl,n,o⟩:=R.uncons;cases d with
  |int a=>cases e with
   |int b=>
    have:=aH l;have:=aH n;subst v w
    cases q with
    |cons C d1=>cases i with
     |cons u d2=>
      obtain⟨t,rfl⟩:=C;obtain⟨T,rfl⟩:=u;have f:(if a=b then zI ds es else some (decide (a<=b)))=some k:=h;have g:=EqAt.int_int (A:=A) (s:=s) a t b T;by_cases c:a=b
      ·rw[if_pos c]at f;have j:(a==b)=Ox:=by simpa using c
       rw[j]at g;exact .eq g (j2 ds es vs ws _ _ k B d1 o d2 f)
      ·rw[if_neg c]at f;have j:(a==b)=Oy:=by simpa using c
       rw[j]at g;cases f;exact .le g λp w E Q x=>(PyProof.Rows.le_int x:wpAny (model p w) A (compareOp .LtE (.int _ t) (.int _ T)) Q E s)
   |_=>cases h
  |_=>
   have f:(none:Option Bool)=some k:=by cases e<;>exact h
   cases f
theorem j3(I:Inv X pq σ H s)(K:aK X.K ⟨X.mg,F⟩ μ S H):∀(n:Nat) (A:Pf),A.units+n<cLine->∀d e v w u z k,Rep X.K ⟨X.mg,F⟩ μ H d v->RelV v u->Rep X.K ⟨X.mg,F⟩ μ H e w->RelV w z->jJ S n d e=some k->ie A s u z k:=by
 intro n
 induction n with
 |zero=>intro A _ d e v w u z k _ _ _ _ h;cases h
 |succ n ih=>
  intro A hA d e v w u z k y G B J h;have Y:A.in1.units=A.units+1:=rfl
  have L:∀(f c:List D) (vs W:List V) (U Z:Lv),aj X.K ⟨X.mg,F⟩ μ H f vs->Vals vs U->aj X.K ⟨X.mg,F⟩ μ H c W->Vals W Z->yp (bY S n) (jJ S n) f c=some k->dr A.in1 s U Z k:=by
   intro f
   induction f with
   |nil=>
    intro c vs W U Z R g r q h;unfold aj at R;subst R;have:=g.zero;subst this
    cases c with
    |nil=>unfold aj at r;subst r;have:=q.zero;subst this;cases h;exact .nn
    |cons e c=>obtain⟨w,W,rfl,_,_⟩:=r.uncons;cases q;cases h;exact .nc
   |cons d f x=>
    intro c vs W U Z R g r q h;obtain⟨v,vs,rfl,i,M⟩:=R.uncons;cases g with
    |cons C d1=>
     cases c with
     |nil=>unfold aj at r;subst r;have:=q.zero;subst this;cases h;exact .cn
     |cons e c=>
      obtain⟨w,W,rfl,j,N⟩:=r.uncons;cases q with
      |cons l d2=>
       unfold yp at h;split at h
       ·rename_i m;exact .eq (yo I K n A.in1 (by omega) d e v w _ _ Ox i C j l m).2.2 (x c vs W _ _ M d1 N d2 h)
       ·rename_i m;exact .lt (yo I K n A.in1 (by omega) d e v w _ _ Oy i C j l m).2.2 (ih A.in1 (by omega) d e v w _ _ k i C j l h)
       ·cases h
  unfold jJ at h;split at h
  ·rename_i O;cases O
  ·have:=aH y;have:=aH B;subst v w
   obtain⟨t,rfl⟩:=G;obtain⟨t',rfl⟩:=J;cases h;exact λp w E Q hq=>(PyProof.Rows.lt_int hq:wpAny (model p w) A (compareOp .Lt (.int _ t) (.int _ t')) Q E s)
  ·rename_i n' f c o;cases o;obtain⟨a,vs,rfl,P,R⟩:=bQ y;obtain⟨b,W,rfl,T,r⟩:=bQ B;cases G;cases J;obtain⟨U,g,p1,_⟩:=I.tuple P;obtain⟨Z,q,p2,_⟩:=I.tuple T;exact ie.tuples p1 p2 (by omega) (L f c vs W U Z R g r q h)
  ·cases h
noncomputable def bu:Nat:=40
noncomputable def j4:D->Bool
 | .non=>Ox
 |_=>Oy
noncomputable def bb(o:Option Bool)(S:af):Res D:=match o with
 |some k=>.ok (.bl k) S
 |none=>.fail
noncomputable def iQ(l:List (Option Bool)):Option Bool:=(bo (l.map λo=>o.map not)).map not
noncomputable def f7(d e:D)(S:af):Option Bool:=match aB S e with
 |some xs=>iQ (xs.map λy=>bY S bu y d)
 |none=>HG d e
noncomputable def F1(d e:D)(S:af):Res D:=match d,e with
 | .int i,.int j=>.ok (.bl (decide (i<=j))) S
 | .tup a,.tup b=>bb (zI a b) S
 |_,_=>.fail
noncomputable def HM(d e:D)(S:af):Res D:=match d,e with
 | .int i,.int j=>.ok (.bl (decide (j<i))) S
 |_,_=>.fail
noncomputable def HN(d e:D)(S:af):Res D:=match d,e with
 | .int i,.int j=>.ok (.bl (decide (j<=i))) S
 |_,_=>.fail
noncomputable def HP(d e:D)(S:af):Res D:=match e with
 | .non=>.ok (.bl (j4 d)) S
 |_=>.fail
noncomputable def ux(d e:D)(S:af):Res D:=match e with
 | .non=>.ok (.bl (!j4 d)) S
 |_=>.fail
noncomputable def aw(o:QZ)(d e:D)(S:af):Res D:=match o with
 | .Eq=>bb (bY S bu d e) S
 | .NotEq=>bb ((bY S bu d e).map not) S
 | .Lt=>bb (jJ S bu d e) S
 | .LtE=>F1 d e S
 | .Gt=>HM d e S
 | .GtE=>HN d e S
 | .In=>bb (f7 d e S) S
 | .NotIn=>bb ((f7 d e S).map not) S
 | .Is=>HP d e S
 | .IsNot=>ux d e S
theorem zJ{m:GS}(r:Rep K m μ H d v):decide (v=.non)=j4 d:=by
 cases d with
 |non=>cases ic r;rfl
 |bl b=>cases gA r;rfl
 |int b=>cases aH r;rfl
 |str b=>cases cc r;rfl
 |tup b=>obtain⟨a,vs,rfl,_⟩:=bQ r;rfl
 |lst b=>obtain⟨a,vs,rfl,_⟩:=r;rfl
 |ref b=>obtain⟨a,rfl,_⟩:=r;rfl
 |scr b=>obtain⟨a,vs,rfl,_⟩:=r;rfl
 |fn b=>obtain⟨a,rfl,_⟩:=r;rfl
 |dct=>obtain⟨a,rfl,_⟩:=r;rfl
 |dks b=>obtain⟨a,_,rfl,_⟩:=r;rfl
 |ty n=>subst r;rfl
theorem gE{m:GS}{Q:VK}{o:Option Bool}(w:aO K m μ H Q (bb o S))(s:aK K m μ S H):∃k,o=some k/\Q (.bl k) H:=by
 cases o with
 |none=>exact w.elim
 |some k=>exact⟨k,rfl,w.now s cP⟩
theorem HQ{l:List (Option Bool)}{k:Bool}(h:iQ l=some k):(∀o∈l,o.isSome=Ox)/\k=l.any (λo=>o==some Ox):=by
 obtain⟨K,e,E⟩:=O1.mp h;subst E;clear h
 induction l generalizing K with
 |nil=>cases e;simp_all
 |cons o r i=>
  rw[ZV]at e;unfold bo at e;split at e
  ·simp_all
  ·cases e
theorem r9(I:Inv X pq σ H s)(O:aK X.K ⟨X.mg,F⟩ μ S H)(hu:A.units+64<cLine){e:D}{w:V}{z:OB}{k:Bool}(rd:Rep X.K ⟨X.mg,F⟩ μ H d v)(ru:RelV v u)(re:Rep X.K ⟨X.mg,F⟩ μ H e w)(rz:RelV w z)
  (l:(aB S e).isSome=Ox) (h:f7 d e S=some k):∃(a:OA) (its:Lv) (f:OB->Bool),z=.ref a/\(s.heap.IsList a its.toArray\/s.heap.IsTuple a its.toArray)/\(∀y∈its.toArray,EqAt A.in1 s y u (f y))/\its.toArray.any f=k:=by
 unfold f7 at h;split at h
 ·rename_i i G;obtain⟨a,vs,rfl,l,r⟩:=f6 O re G;cases rz
  obtain⟨its,q,Z⟩:∃its,Vals vs its/\(s.heap.IsList a its.toArray\/s.heap.IsTuple a its.toArray):=by
   rcases l with l|l
   ·obtain⟨its,q,p,_⟩:=I.list l;exact⟨its,q,.inl p.isList⟩
   ·obtain⟨its,q,p,_⟩:=I.tuple l;exact⟨its,q,.inr p⟩
  have W:A.in1.units=A.units+1:=rfl;have t:bu=40:=rfl;obtain⟨P,Q⟩:=HQ h
  classical
  have at_:∀(j:Nat) (x:D) (y:OB),i[j]?=some x->its[j]?=some y->∀b,bY S bu x d=some b->EqAt A.in1 s y u b:=λj x y L B b m=>by obtain⟨v',R,T⟩:=r.get L;obtain⟨y',N,U⟩:=q.get R;rw[B]at N;cases N;exact(yo I O bu A.in1 (by omega) x d v' v _ u b T U rd ru m).2.2
  have len:i.length=its.length:=r.length.trans q.length;refine⟨a,its,λy=>decide (∃(j:Nat) (x:D),its[j]?=some y/\i[j]?=some x/\bY S bu x d=some Ox),rfl,Z,λy B=>?_,?_⟩
  ·obtain⟨j,K,J⟩:=ZU.mp (show y∈its by simpa using B);have g:its[j]?=some y:=by rw[Zj K,J]
   have c:i[j]?=some (i[j]'(by omega)):=Zj _;by_cases n:∃(j:Nat) (x:D),its[j]?=some y/\i[j]?=some x/\bY S bu x d=some Ox
   ·obtain⟨j',x',M,C,E⟩:=id n;show EqAt A.in1 s y u (decide (∃(j:Nat) (x:D),its[j]?=some y/\i[j]?=some x/\bY S bu x d=some Ox));rw[ZA n];exact at_ j' x' y C M Ox E
   ·show EqAt A.in1 s y u (decide (∃(j:Nat) (x:D),its[j]?=some y/\i[j]?=some x/\bY S bu x d=some Ox));rw[Zy n];obtain⟨b,m⟩:=PD.mp (P (bY S bu (i[j]'(by omega)) d) (Zs.mpr ⟨_,Zx c,rfl⟩));cases b with
    |false=>exact at_ j _ y c g Oy m
    |true=>exact absurd ⟨j,_,g,c,m⟩ n
  ·rw[Q];apply Pk.mpr;rw[List.any_toArray,QF,QF];constructor
   ·rintro⟨y,B,t⟩;obtain⟨j,x,M,C,E⟩:=ZS t;exact⟨some Ox,Zs.mpr ⟨x,Zx C,E⟩,rfl⟩
   ·rintro⟨o,Y,t⟩;obtain⟨x,L,rfl⟩:=Zs.mp Y;obtain⟨j,K,J⟩:=ZU.mp L;have c:i[j]?=some x:=by rw[Zj K,J]
    have g:its[j]?=some (its[j]'(by omega)):=Zj _;exact⟨_,Zx g,ZA ⟨j,x,g,c,by simpa using t⟩⟩
 ·rename_i G;rw[G]at l;cases l
theorem dN(O:QZ)(D:X.A.units+64<cLine):cv X (compareOp O) (rD X.K X.mg (aw O)):=by
 intro p s l H x y v u Q I g i h;obtain⟨F,z,S,d,e,c,r,R,w⟩:=h;have hd:bu=40:=rfl;have fin:∀{k:Bool},Q (.bl k) H->EP X p l Q (.bool k) s:=λ{k} q=>⟨.bl k,H,I,rfl,q⟩;cases O with
 |Eq=>obtain⟨k,E,q⟩:=gE (o:=bY S bu d e) w c;exact(yo I c bu X.A (by omega) d e x y v u k r g R i E).1 X.prog X.w _ _ (fin q)
 |NotEq=>obtain⟨k,E,q⟩:=gE (o:=(bY S bu d e).map not) w c;obtain⟨K,m,rfl⟩:=O1.mp E;exact(yo I c bu X.A (by omega) d e x y v u K r g R i m).2.1 X.prog X.w _ _ (fin q)
 |Lt=>obtain⟨k,E,q⟩:=gE (o:=jJ S bu d e) w c;exact j3 I c bu X.A (by omega) d e x y v u k r g R i E X.prog X.w _ _ (fin q)
 |LtE=>
  replace w:aO X.K ⟨X.mg,F⟩ z H Q (F1 d e S):=w;unfold F1 at w;split at w
  ·have:=aH r;have:=aH R;subst x y
   exact yY p s l H _ _ v u Q I g i ⟨_,_,rfl,rfl,w.now c cP⟩
  ·rename_i as bs;obtain⟨k,E,q⟩:=gE (o:=zI as bs) w c;obtain⟨a,vs,rfl,G,T⟩:=bQ r;obtain⟨b,W,rfl,J,U⟩:=bQ R;cases g;cases i;obtain⟨V,M,P,_⟩:=I.tuple G;obtain⟨zs,N,L,_⟩:=I.tuple J;exact HL P L (by omega) (j2 as bs vs W V zs k T M U N E) X.prog X.w _ _ (fin q)
  ·exact w.elim
 |Gt=>
  replace w:aO X.K ⟨X.mg,F⟩ z H Q (HM d e S):=w;unfold HM at w;split at w
  ·have:=aH r;have:=aH R;subst x y
   exact yZ p s l H _ _ v u Q I g i ⟨_,_,rfl,rfl,w.now c cP⟩
  ·exact w.elim
 |GtE=>
  replace w:aO X.K ⟨X.mg,F⟩ z H Q (HN d e S):=w;unfold HN at w;split at w
  ·have:=aH r;have:=aH R;subst x y
   exact y0 p s l H _ _ v u Q I g i ⟨_,_,rfl,rfl,w.now c cP⟩
  ·exact w.elim
 |In=>
  obtain⟨k,E,q⟩:=gE (o:=f7 d e S) w c;cases t:aB S e with
  |some Z=>
   obtain⟨a,C,f,rfl,j,n,rfl⟩:=r9 I c (A:=X.A) D r g R i (by rw[t];rfl) E;rcases j with j|j
   ·exact in_listAt f j n (fin q)
   ·exact in_tupleAt f j n (fin q)
  |none=>obtain⟨Y,y',rfl,rfl,B⟩:=j0 (by unfold f7 at E;rw[t]at E;exact E);cases cc r;cases cc R;exact GU p s l H _ _ v u Q I g i ⟨_,_,rfl,rfl,by rw[B];exact q⟩
 |NotIn=>
  obtain⟨k,E,q⟩:=gE (o:=(f7 d e S).map not) w c;obtain⟨K,m,rfl⟩:=O1.mp E;cases t:aB S e with
  |some Z=>
   obtain⟨a,C,f,rfl,j,n,rfl⟩:=r9 I c (A:=X.A) D r g R i (by rw[t];rfl) m;rcases j with j|j
   ·exact notIn_listAt f j n (fin q)
   ·exact notIn_tupleAt f j n (fin q)
  |none=>obtain⟨Y,y',rfl,rfl,B⟩:=j0 (by unfold f7 at m;rw[t]at m;exact m);cases cc r;cases cc R;exact GV p s l H _ _ v u Q I g i ⟨_,_,rfl,rfl,by rw[B];exact q⟩
 |Is=>
  replace w:aO X.K ⟨X.mg,F⟩ z H Q (HP d e S):=w;unfold HP at w;split at w
  ·cases ic R;exact t8 p s l H _ _ v u Q I g i ⟨rfl,by rw[zJ r];exact w.now c cP⟩
  ·exact w.elim
 |IsNot=>
  replace w:aO X.K ⟨X.mg,F⟩ z H Q (ux d e S):=w;unfold ux at w;split at w
  ·cases ic R;exact mW p s l H _ _ v u Q I g i ⟨rfl,by rw[zJ r];exact w.now c cP⟩
  ·exact w.elim
end Py
namespace Py
def rC(K:Fg)(m:Mg)(g:List D->af->Res D):List V->Hp->VK->Prop:=λxs H Q=>∃F μ S ds,aK K ⟨m,F⟩ μ S H/\aj K ⟨m,F⟩ μ H ds xs/\aO K ⟨m,F⟩ μ H Q (g ds S)
theorem aj.one{m:GS}{vs:List V}(r:aj K m μ H [d] vs):∃v,vs=[v]/\Rep K m μ H d v:=by obtain⟨v,w,rfl,h,t⟩:=r.uncons;unfold aj at t;simp_all
theorem aj.two{m:GS}{e:D}{vs:List V}(r:aj K m μ H [d,e] vs):∃v w,vs=[v,w]/\Rep K m μ H d v/\Rep K m μ H e w:=by obtain⟨v,W,rfl,h,t⟩:=r.uncons;obtain⟨w,rfl,a⟩:=t.one;exact⟨v,w,rfl,h,a⟩
theorem nG{m:GS}{vs:List V}{i:Int}(r:aj K m μ H ds vs)(h:fA ds i=some d):∃v,fA vs i=some v/\Rep K m μ H d v:=by
 unfold fA at h⊢;rw[<-r.length];cases e:hV _ i with
 |none=>simp_all
 |some j=>rw[e]at h;exact r.get h
noncomputable def a8(d e:D)(S:af):Res D:=match aB S d,e with
 |some xs,.int i=>match fA xs i with
  |some y=>.ok y S
  |none=>.fail
 |_,_=>uv d e S
theorem HR:yn X (rD X.K X.mg a8):=by
 intro V b p s k H x y v u Q I R j h c;obtain⟨F,t,S,d,e,g,n,o,w⟩:=h;unfold a8 at w;split at w
 ·rename_i A i E;split at w
  ·rename_i Y q;obtain⟨a,vs,rfl,f,r⟩:=f6 g n E;cases aH o;obtain⟨z,l,m⟩:=nG r q;rcases f with f|f
   ·exact zo V b p s k H _ _ v u Q I R j ⟨a,vs,i,z,rfl,rfl,f,l,w.now g m⟩ c
   ·exact ue V b p s k H _ _ v u Q I R j ⟨a,vs,i,z,rfl,rfl,f,l,w.now g m⟩ c
  ·exact w.elim
 ·exact HH V b p s k H _ _ v u Q I R j ⟨F,t,S,_,_,g,n,o,w⟩ c
noncomputable def c_(ds:List D)(S:af):Res D:=match ds with
 | [.str x]=>if x.length<=a' then .ok (.int x.length) S else .fail
 | [d]=>match aB S d with
  |some xs=>.ok (.int xs.length) S
  |none=>.fail
 |_=>.fail
theorem zK:bn X (.builtin "len") (rC X.K X.mg c_):=by
 intro p s j H g u Q I r h;obtain⟨F,i,S,D,c,R,w⟩:=h;unfold c_ at w;split at w
 ·split at w
  ·obtain⟨v,rfl,b⟩:=R.one;cases cc b;exact Hk _ s _ H _ _ Q I r ⟨_,rfl,by trivial,w.now c bL⟩
  ·exact w.elim
 ·split at w
  ·rename_i x e;obtain⟨v,rfl,b⟩:=R.one;obtain⟨a,vs,rfl,d,f⟩:=f6 c b e;refine Hj _ s _ H _ _ Q I r ⟨a,_,rfl,d,?_⟩;rw[<-f.length];exact w.now c bL
  ·exact w.elim
 ·exact w.elim
noncomputable def nH(ds:List D)(S:af):Res D:=match ds with
 | [.tup xs]=>.ok (.tup xs) S
 | [d]=>match aB S d with
  |some xs=>.ok (.tup xs) S
  |none=>.fail
 |_=>.fail
theorem zL{m:GS}(s:aK K m μ S H)(r:Rep K m μ H d v)(e:aB S d=some xs)(b:∀ys,d≠.tup ys):∃a vs,v=.ref a/\c8 K H a vs/\aj K m μ H xs vs:=by
 cases d with
 |lst ys=>obtain⟨a,vs,E,h,q⟩:=dw s r (show cy S _=some _ from e);exact⟨a,_,E,.of h,q⟩
 |ref n=>obtain⟨a,vs,E,h,q⟩:=dw s r (show cy S _=some _ from e);exact⟨a,_,E,.of h,q⟩
 |tup ys=>simp_all
 |scr ys=>cases e;obtain⟨a,vs,e,h,q⟩:=r;exact⟨a,_,e,h.sq,q⟩
 |_=>cases e
theorem nI:bn X (.type "tuple") (rC X.K X.mg nH):=by
 intro P s m H k u Q I r h;obtain⟨F,l,S,D,f,g,w⟩:=h;unfold nH at w;split at w
 ·obtain⟨v,rfl,b⟩:=g.one;obtain⟨a,vs,rfl,c,R⟩:=bQ b;exact zr _ s _ H _ _ Q I r ⟨a,_,rfl,.inr ⟨c,w.now f b⟩⟩
 ·rename_i d i;split at w
  ·rename_i x e;obtain⟨v,rfl,b⟩:=g.one;obtain⟨a,vs,rfl,c,R⟩:=zL f b e λy z=>i y (by omega);exact zr _ s _ H _ _ Q I r ⟨a,_,rfl,.inl ⟨c,λp j=>w.tup f R p j⟩⟩
  ·exact w.elim
 ·exact w.elim
noncomputable def iB(box:Bool)(ds:List D)(S:af):Res D:=match ds with
 | [d]=>match aB S d with
  |some xs=>if box then .ok (.ref S.length) (S++[xs])else .ok (.lst xs) S
  |none=>.fail
 |_=>.fail
theorem uy(box:Bool):bn X (.type "list") (rC X.K X.mg (iB box)):=by
 intro P s k H i u Q I r h;obtain⟨F,j,S,D,b,g,w⟩:=h;unfold iB at w;split at w
 ·split at w
  ·rename_i x e;obtain⟨v,rfl,f⟩:=g.one;obtain⟨a,vs,rfl,d,R⟩:=f6 b f e;refine Hl _ s _ H _ _ Q I r ⟨a,_,rfl,d,λp c=>?_⟩;split at w
   ·exact w.box b R p c
   ·exact w.lst b R p c
  ·exact w.elim
 ·exact w.elim
noncomputable def intD(ds:List D)(S:af):Res D:=match ds with
 | [.int i]=>.ok (.int i) S
 | [.bl b]=>.ok (.int (if b then 1 else 0)) S
 |_=>uw ds S
theorem zM:bn X (.type "int") (rC X.K X.mg intD):=by
 intro p s c H x u Q I r h;obtain⟨F,e,S,d,b,R,w⟩:=h;unfold intD at w;split at w
 ·obtain⟨v,rfl,a⟩:=R.one;cases aH a;exact y9 p s c H _ u Q I r (.inl ⟨_,rfl,w.now b bL⟩)
 ·obtain⟨v,rfl,a⟩:=R.one;cases gA a;exact y9 p s c H _ u Q I r (.inr ⟨_,rfl,w.now b bL⟩)
 ·exact zE I r b R w
noncomputable def a9(S:af):D->Option Bool
 | .non=>some Oy
 | .bl b=>some b
 | .int i=>some (i !=0)
 | .str x=>if x.length<=a' then some ((x.length:Int) !=0)else none
 |d=>(aB S d).map λxs=> !xs.isEmpty
theorem r_{m:GS}{k:Bool}(j:aK K m μ S H)(r:Rep K m μ H d v)(e:a9 S d=some k):iO K v H k:=by
 have seq:∀(x:List D),aB S d=some x->k= !x.isEmpty->iO K v H k:=λx f E=>by
  obtain⟨a,vs,rfl,c,q⟩:=f6 j r f;have i:=q.length;have g:x.isEmpty=vs.isEmpty:=by cases x<;>cases vs<;>simp at i⊢
  rw[g]at E;rcases c with c|c
  ·exact .inl ⟨_,c,E⟩
  ·exact .inr (.inl ⟨_,c,E⟩)
 have s:(aB S d).map _=some k->iO K v H k:=λh=>by obtain⟨x,f,E⟩:=O1.mp h;exact seq _ f E.symm
 cases d with
 |non=>cases ic r;cases e;rfl
 |bl b=>cases gA r;cases e;rfl
 |int b=>cases aH r;cases e;rfl
 |str b=>
  cases cc r;replace e:(if b.length<=a' then some _ else none)=some k:=e;split at e
  ·cases e;exact⟨by trivial,rfl⟩
  ·cases e
 |tup b=>exact s e
 |lst b=>exact s e
 |ref b=>exact s e
 |scr b=>exact s e
 |fn b=>exact s e
 |dct=>exact s e
 |dks b=>exact s e
 |ty b=>exact s e
noncomputable def bF(xs:List D)(l h:Option Int):List D:=(xs.drop (HT.bt xs.length 0 l)).take (HT.bt xs.length xs.length h-HT.bt xs.length 0 l)
theorem zN{m:GS}{vs:List V}(r:aj K m μ H ds vs):aj K m μ H (bF ds lo hi) (h_ vs lo hi):=by unfold bF h_;rw[r.length];exact(r.drop _).take _
noncomputable def ig(d:D)(l h:Option Int)(S:af):Res D:=match d with
 | .tup xs=>.ok (.tup (bF xs l h)) S
 |d=>match aB S d with
  |some xs=>.ok (.lst (bF xs l h)) S
  |none=>zD d l h S
def Oa(K:Fg)(m:Mg):V->Option Int->Option Int->Hp->VK->Prop:=λx lo hi H Q=>∃F μ S d,aK K ⟨m,F⟩ μ S H/\Rep K ⟨m,F⟩ μ H d x/\aO K ⟨m,F⟩ μ H Q (ig d lo hi S)
theorem HS{t:OA}(H:SR s.heap t items)(hs:s.heap.IsSliceOf sl vl vu .none)(pl:Q_ vl lo)(p:Q_ vu hi)
  (hw:HT.bt items.size 0 lo=0/\HT.bt items.size items.size hi=items.size) (h:Q (.ref t) s):wpAny (model prog w) A (getItem (.ref t) (.ref sl)) Q E s:=by
 obtain⟨o,b,a,c⟩:=id hs;unfold getItem
 try with_reducible refine ZL ?_
 refine Za (Rm H.typeIs (rfl) ?_)
 refine Za (ZN H.typeIs ZK
  (ZO ZK H.typeIs Q1 ?_ (Ra _ _)))
 show wpAny _ _ (PU _>>=_) _ _ s;refine Za (Sf H ?_);refine Za (Qm ⟨_,b,a⟩ ?_);refine Za (HT.zi hs pl p ?_);show wpAny _ _ (if(((HT.bt _ 0 _:Nat):Int)==0&&(1)==1&&(HT.bt _ _ _-HT.bt _ 0 _)==items.size)=Ox then _ else _) _ _ s;rw[if_pos (by simp_all)];exact Za (Za (Qm H.typeIs (Ze (Za (RM (Ze ⟨_,rfl,Ze h⟩))))))
theorem HU:F0 X (Oa X.K X.mg):=by
 intro y s B H x v V A l g sl Q I m j P k h;obtain⟨F,G,S,d,c,R,w⟩:=h;unfold ig at w;split at w
 ·rename_i q;obtain⟨a,vs,rfl,i,r⟩:=bQ R;have t:=r.length;by_cases f:HT.bt vs.length 0 l=0/\HT.bt vs.length vs.length g=vs.length
  ·cases m;obtain⟨o,D,u,E⟩:=I.tuple i;have b:o.toArray.size=vs.length:=by rw[Zu];exact D.length.symm
   refine⟨"tuple",_,PyProof.Rows.slot_tuple_getitem.lookup,u.typeIs,?_⟩;refine HS u j P k (by rw[b];exact f) ⟨.ref a,H,I,rfl,?_⟩;have e:bF q l g=q:=by unfold bF;rw[t,f.1,f.2];simp[<-t]
   rw[e]at w;exact w.now c R
  ·exact sl_tup y s B H _ v V A l g sl Q I m j P k ⟨a,vs,rfl,i,f,λp n=>w.tup c (zN r) p n⟩
 ·rename_i d C;split at w
  ·rename_i q e;obtain⟨a,vs,rfl,i,r⟩:=zL c R e (λY z=>C Y z);exact nq y s B H _ v V A l g sl Q I m j P k ⟨a,vs,rfl,i,λp n=>w.lst c (zN r) p n⟩
  ·exact HI I m j P k c R w
noncomputable def uz(S:af):D->Option String
 | .non=>some "NoneType"
 | .bl _=>some "bool"
 | .int _=>some "int"
 | .str _=>some "str"
 | .tup _=>some "tuple"
 | .lst _=>some "list"
 | .ref n=>(S[n]?).map λ_=>"list"
 | .scr _=>some "list"
 | .dct=>some "dict"
 |_=>none
noncomputable def j5(t c:String):Option Bool:=
 if ["NoneType","bool","int","str","tuple","list","dict"].contains t&&["bool","int","str","tuple","list","dict"].contains c then some (t==c||(t=="bool"&&c=="int"))else none
theorem nJ{t c:String}{b:Bool}(h:j5 t c=some b):PySem.W.kitOne K (.type t) (.type c)=some b:=by
 unfold j5 at h;split at h
 ·rename_i H;simp at H;cases h;obtain⟨a,d⟩:=H;rcases a with rfl|rfl|rfl|rfl|rfl|rfl|rfl<;>rcases d with rfl|rfl|rfl|rfl|rfl|rfl<;>first|rfl|decide+kernel
 ·cases h
noncomputable def bG(ds:List D)(S:af):Res D:=match ds with
 | [d,.ty c]=>match uz S d with
  |some t=>bb (j5 t c) S
  |none=>.fail
 |_=>.fail
theorem HV:bn X (.builtin "isinstance") (rC X.K X.mg bG):=by
 intro P s B H V us Q I r h;obtain⟨F,μ,S,W,m,N,w⟩:=h;unfold bG at w;split at w
 ·rename_i d c;split at w
  ·rename_i t E;obtain⟨b,J,q⟩:=gE w m;obtain⟨v,z,rfl,g,x⟩:=N.two;have k:z=.ty c:=by unfold Rep at x;exact x
   subst k;obtain⟨u,y,rfl,R,U⟩:=r.two;cases U;have e:=nJ (K:=X.K) J;have fin:∀T,EP X P B Q (.bool b) {s with toks:=T}:=λT=>⟨.bl b,H,I.tok _,rfl,q⟩
   have lst:∀a vs,v=.ref a->c8 X.K H a vs->t="list"->wpAny (model X.prog X.w) X.A (call _ [u,.type c]) (EP X P B Q) X.xe s:=λa vs L f E=>by subst L;subst E;cases R;obtain⟨l,O,M,_⟩:=I.list f;obtain⟨o,i,j,_⟩:=M.isList;exact PySem.W.kia_one PySem.W.kitx_list I.kIn ⟨o,i,j⟩ e (λz=>nomatch z) fin
   cases d with
   |non=>cases ic g;cases R;cases E;exact PySem.W.kia_one PySem.W.kitx_none I.kIn SE e (λz=>nomatch z) fin
   |bl b=>cases gA g;cases R;cases E;exact PySem.W.kia_one PySem.W.kitx_bool I.kIn SE e (λz=>nomatch z) fin
   |int b=>cases aH g;obtain⟨t,rfl⟩:=R;cases E;exact PySem.W.kia_one PySem.W.kitx_int I.kIn SE e (λz=>nomatch z) fin
   |str b=>cases cc g;obtain⟨t,rfl⟩:=R;cases E;exact PySem.W.kia_one PySem.W.kitx_str I.kIn SE e (λz=>nomatch z) fin
   |tup b=>obtain⟨a,vs,rfl,f,_⟩:=bQ g;cases R;cases E;obtain⟨l,O,p,_⟩:=I.tuple f;obtain⟨o,i,j,_⟩:=p;exact PySem.W.kia_one PySem.W.kitx_tuple I.kIn ⟨o,i,j⟩ e (λz=>nomatch z) fin
   |lst b=>obtain⟨a,vs,rfl,f,_⟩:=dw m g rfl;cases E;exact lst a vs rfl (.of f) rfl
   |ref n=>obtain⟨V,C,D⟩:=O1.mp E;obtain⟨a,vs,rfl,f,_⟩:=dw m g C;exact lst a vs rfl (.of f) D.symm
   |scr b=>obtain⟨a,vs,rfl,f,_⟩:=g;cases E;exact lst a vs rfl f.sq rfl
   |dct=>obtain⟨a,rfl,G⟩:=g;cases R;cases E;obtain⟨_,_,vs,_,p⟩:=(show bg X.prog X.w H s.heap a (.dK [])from I.hok a _ G);obtain⟨o,Z,Y,i,j,_⟩:=p;exact PySem.W.kia_one PySem.W.kitx_dict I.kIn ⟨o,i,j.1⟩ e (λz=>nomatch z) fin
   |fn b=>cases E
   |ty b=>cases E
   |dks b=>cases E
  ·exact w.elim
 ·exact w.elim
noncomputable def ii:D->Option Bool
 | .bl b=>some b
 |_=>none
noncomputable def gF(ds:List D)(S:af):Res D:=match ds with
 | [d]=>match aB S d with
  |some xs=>bb (bo (xs.map ii)) S
  |none=>.fail
 |_=>.fail
theorem zO{M:GS}{vs:List V}(r:aj K M μ H xs vs)(q:Vals vs its)(h:∀(j:Nat) o,(xs.map ii)[j]?=some o->o=some (eJ (xs.map ii) j)):
  ∀(i:Nat) v,its.toArray[i]?=some v->v=.bool (eJ (xs.map ii) i):=λi v m=>by
 have l1:=r.length;have l2:=q.length
 have a:its[i]?=some v:=by simpa using m
 have n:i<its.length:=(Zg.mp a).1;have g:xs[i]?=some (xs[i]'(by omega)):=Zj _;obtain⟨w,k,e⟩:=r.get g;obtain⟨u,f,l⟩:=q.get k;rw[a]at f;cases f;have c:=h i (ii (xs[i]'(by omega))) (by rw[ZW,g];rfl);revert e c;generalize xs[i]'(by omega)=d;intro e c;cases d with
 |bl b=>
  cases gA e;have:b=eJ (xs.map ii) i:=by simpa[ii]using c
  rw[<-this];exact l
 |_=>cases c
theorem uA(C:X.calm=Ox)(I:Inv X pq σ H s)(M:aK X.K ⟨X.mg,F⟩ μ S H)(G:Rep X.K ⟨X.mg,F⟩ μ H d v)(J:RelV v u)(e:aB S d=some xs)
  (h:∀(j:Nat) o,(xs.map ii)[j]?=some o->o=some (eJ (xs.map ii) j)) (b:Bool->Bool) {Q:VK} {fb:Nat->Bool} (q:Q (.bl (fb xs.length)) H):
  wpAny (model X.prog X.w) X.A.in1 (pyIter u) (λit g=>∃I fp wr n P St,it=.ref I/\Walks X.prog X.w X.A.in1 I fp wr n P St/\St 0 g.heap/\TruthOf X.prog X.w X.A.in1 P (eJ (xs.map ii))/\
   ∀h' tk,(∀b o,b∉wr->g.heap.get? b=some o->h'.get? b=some o)->EP X pq σ Q (.bool (fb n)) {g with heap:=h',toks:=tk}) X.xe s:=by
 obtain⟨a,vs,rfl,m,r⟩:=f6 M G e;cases J;have y:X.A.in1.handled=none:=I.ok.hd C;rcases m with m|m
 ·obtain⟨c,R,p,D⟩:=I.list m;have B:=zO r R h;refine PL p.isList ?_;have k:a≠s.heap.objs.size:=by obtain⟨o,f,_⟩:=p.isList;exact Zz (Zm f)
  refine⟨_,_,_,_,_,_,rfl,Walks.list y s.heap.objs.size a k c.toArray,⟨⟨_,Zi _ rfl,rfl,rfl⟩,Heap.IsList.push p.isList _⟩,?_,λh' tk K=>?_⟩
  ·intro i v L A E w l;rw[B i v w];exact ZQ l
  ·have t:c.toArray.size=xs.length:=by rw[Zu,<-R.length,<-r.length]
   rw[t];refine⟨.bl _,H,I.kept (h':=h') (t':=tk) λb o f=>K b o ?_ (Zb _ f),rfl,q⟩;intro z;have Z:b=s.heap.objs.size:=by simpa using z
   exact absurd (Zm f) (by rw[Z];exact OR _)
 ·obtain⟨c,R,p,D⟩:=I.tuple m;have B:=zO r R h;refine Ph (show s.heap.IsTuple a c.toArray from p) ?_;have k:a≠s.heap.objs.size:=by obtain⟨o,f,_⟩:=p;exact Zz (Zm f)
  refine⟨_,_,_,_,_,_,rfl,Walks.tuple y s.heap.objs.size a k c.toArray,⟨⟨_,Zi _ rfl,rfl,rfl⟩,by obtain⟨o,f,r⟩:=p;exact⟨o,Zb _ f,r⟩⟩,?_,λh' tk K=>?_⟩
  ·intro i v L A E w l;rw[B i v w];exact ZQ l
  ·have t:c.toArray.size=xs.length:=by rw[Zu,<-R.length,<-r.length]
   rw[t];refine⟨.bl _,H,I.kept (h':=h') (t':=tk) λb o f=>K b o ?_ (Zb _ f),rfl,q⟩;intro z;have Z:b=s.heap.objs.size:=by simpa using z
   exact absurd (Zm f) (by rw[Z];exact OR _)
theorem zP(t:X.calm=Ox):bn X (.builtin "all") (rC X.K X.mg gF):=by
 intro C s K H G U Q I r h;obtain⟨F,J,S,D,b,R,w⟩:=h;unfold gF at w;split at w
 ·split at w
  ·rename_i d Y e;obtain⟨k,E,q⟩:=gE w b;obtain⟨v,rfl,x⟩:=R.one;obtain⟨u,rfl,y⟩:=r.one;obtain⟨p,a⟩:=nD _ _ E;have hw:=uA t I b x y e p id (Q:=Q) (fb:=λn=>(OD n).all (eJ (Y.map ii))) (by rw[Zn]at a;rw[<-a];exact q);exact call_all_walk (O0 hw (λit c Z=>by obtain⟨f,o,W,n,P,g,A,i,j,l,m⟩:=Z;exact(⟨f,o,W,n,P,g,_,A,i,j,l,m⟩)) λ_ _ z=>z)
  ·exact w.elim
 ·exact w.elim
def rM(K:Fg)(m:Mg)(g:D->List D->af->Res D):V->List V->Hp->VK->Prop:=λx xs H Q=>∃F μ S d ds,aK K ⟨m,F⟩ μ S H/\Rep K ⟨m,F⟩ μ H d x/\aj K ⟨m,F⟩ μ H ds xs/\aO K ⟨m,F⟩ μ H Q (g d ds S)
theorem nK{m:GS}(s:aK K m μ S H)(r:Rep K m μ H (.ref n) v)(e:S[n]?=some xs):∃a vs,v=.ref a/\μ[n]?=some a/\H a=some (.lst vs)/\aj K m μ H xs vs:=by obtain⟨a,rfl,h⟩:=r;obtain⟨vs,b,q⟩:=s.at_ n a _ h e;exact⟨a,_,rfl,h,b,q⟩
noncomputable def ij(d:D)(ds:List D)(S:af):Res D:=match d,ds with
 | .ref n,[y]=>match S[n]? with
  |some xs=>if xs.length<a' then .ok .non (S.set n (xs++[y]))else .fail
  |none=>.fail
 |_,_=>.fail
theorem HW:jX X "list.append" (rM X.K X.mg ij):=by
 intro p s t H x o v u Q I k j h;obtain⟨F,q,S,d,D,c,i,R,w⟩:=h;have l:=ib;unfold ij at w;split at w
 ·split at w
  ·rename_i n y Y e;split at w
   ·obtain⟨a,vs,rfl,f,b,r⟩:=nK c i e;obtain⟨z,rfl,g⟩:=R.one;have m:=r.length;exact zw _ s _ H _ _ v _ Q I k j ⟨a,_,z,rfl,rfl,b,by simp_all,w.wrote c f b (r.append (.cons g .nil)) nA⟩
   ·exact w.elim
  ·exact w.elim
 ·exact w.elim
theorem aj.dropLast{m:GS}{vs:List V}(r:aj K m μ H ds vs):aj K m μ H ds.dropLast vs.dropLast:=by rw[Tj,Tj,r.length];exact r.take _
noncomputable def uB(d:D)(ds:List D)(S:af):Res D:=match d,ds with
 | .ref n,[]=>match S[n]? with
  |some xs=>match xs[xs.length-1]? with
   |some y=>.ok y (S.set n xs.dropLast)
   |none=>.fail
  |none=>.fail
 |_,_=>.fail
theorem zQ:jX X "list.pop" (rM X.K X.mg uB):=by
 intro p s q H x m v u Q I l k h;obtain⟨F,o,S,d,D,f,j,R,w⟩:=h;unfold uB at w;split at w
 ·split at w
  ·rename_i n Y e;split at w
   ·rename_i y E;obtain⟨a,vs,rfl,i,c,r⟩:=nK f j e;subst R;obtain⟨z,b,g⟩:=r.get E;rw[r.length]at b;exact uh _ s _ H _ _ v _ Q I l k ⟨a,_,z,rfl,rfl,c,b,w.wrote f i c r.dropLast g⟩
   ·exact w.elim
  ·exact w.elim
 ·exact w.elim
noncomputable def iR(d e f:D)(S:af):Option af:=match d,e with
 | .ref n,.int i=>match S[n]? with
  |some xs=>match hV xs.length i with
   |some j=>some (S.set n (xs.set j f))
   |none=>none
  |none=>none
 |_,_=>none
noncomputable def HX(K:Fg)(m:Mg):mJ:=λo i v H Q=>∃F μ S d e f,aK K ⟨m,F⟩ μ S H/\Rep K ⟨m,F⟩ μ H d o/\Rep K ⟨m,F⟩ μ H e i/\Rep K ⟨m,F⟩ μ H f v/\
 ∃S',iR d e f S=some S'/\∀μ' H',Ext μ H μ' H'->aK K ⟨m,F⟩ μ' S' H'->Q H'
theorem zR:tJ X (HX X.K X.mg):=by
 intro P s C H o i v O A u Q I x t y h;obtain⟨F,B,S,d,e,f,l,R,p,q,z,E,w⟩:=h;unfold iR at E;split at E
 ·split at E
  ·rename_i n k _ Y m;split at E
   ·rename_i j c;cases E;obtain⟨a,vs,rfl,g,b,r⟩:=nK l R m;cases aH p;rw[r.length]at c;exact Hf _ s _ H _ _ v _ _ u Q I x t y ⟨a,_,k,j,rfl,rfl,b,c,w _ _ (.wrote (Zx g) b) (l.wrote g b (r.set j q))⟩
   trivial
  trivial
 trivial
noncomputable def b8(env:Env):List (Str×Pm)->List (Str×OA)->List (Str×OA)
 | [],cs=>cs
 | (n,k)::r,cs=>b8 env r (if k== .free then(match env.cells.lookup n with|some c=>(n,c)::cs|none=>cs)else cs)
theorem HY(h:∀x∈scope.names,x.2=.free->∃c,env.cells.lookup x.1=some c):closureFor scope env=pure (b8 env scope.names []):=by
 unfold closureFor
 have K:∀(l:List (Str×Pm)) (C:List (Str×OA)),(∀x∈l,x.2=.free->∃c,env.cells.lookup x.1=some c)->
   (forIn l C λx r=>(if(x.2==Qc)=Ox then do let c <-cellOf env x.1;pure (O2 ((x.1,c)::r))else pure (O2 r):Sem _))=pure (b8 env l C):=by
  intro l
  induction l with
  |nil=>intro C _;rfl
  |cons x l i=>
   intro C a;obtain⟨n,k⟩:=x;rw[Qo];unfold b8;by_cases e:k=.free
   ·subst e;obtain⟨c,d⟩:=a (n,.free) (by simp) rfl;have H:cellOf env n=pure c:=by unfold cellOf;rw[d]
    simp only[beq_self_eq_true,if_true,H,d];simp only[pure_bind];exact i _ λy b=>a y (Zc _ b)
   ·have f:(k==Qc)=Oy:=by simpa using e
    simp only[f,Zw,Z3,pure_bind];exact i _ λy b=>a y (Zc _ b)
 have:=K scope.names [] h
 first
  | (rw[<-this];rfl)
  | (simp only[bind_pure];exact this)
  | (show(do let r <-_;pure r)=_;rw[bind_pure];exact this)
theorem uC{env:Env}:∀(l:List (Str×Pm)) (cs:List (Str×OA)),(∀p∈cs,env.cells.lookup p.1=some p.2)->∀p∈b8 env l cs,env.cells.lookup p.1=some p.2
 | [],cs,h,p,a=>h p a
 | (n,k)::r,cs,h,p,a=>by
  unfold b8 at a;refine uC r _ (λq H=>?_) p a;split at H
  ·split at H
   ·rename_i c b;rcases Zh.mp H with rfl|H
    ·exact b
    ·exact h q H
   ·exact h q H
  ·exact h q H
theorem zS{env:Env}:∀(l:List (Str×Pm)) (cs:List (Str×OA)),∀p∈cs,p∈b8 env l cs
 | [],cs,p,h=>h
 | (n,k)::r,cs,p,h=>by
  unfold b8;refine zS r _ p ?_;split
  ·split
   ·exact Zc _ h
   ·exact h
  ·exact h
theorem zT{env:Env}{x:Str}{c:OA}(H:env.cells.lookup x=some c):∀(l:List (Str×Pm)) (cs:List (Str×OA)),(x,Qc)∈l->(x,c)∈b8 env l cs
 | [],cs,h=>by simp_all
 | (n,k)::r,cs,h=>by
  rcases Zh.mp h with e|h
  ·refine zS r _ _ ?_;simp_all
  ·exact zT H r _ h
theorem zU{a:Type}{x:Str}{c:a}:∀{l:List (Str×a)},(x,c)∈l->∃d,l.lookup x=some d
 | [],h=>by simp_all
 | (n,d)::r,h=>by
  dsimp only[OW];cases e:x==n with
  |true=>simp
  |false=>
   rcases Zh.mp h with E|h
   ·simp_all
   ·exact zU h
theorem zV{env:Env}:∀{N:List (Str×Pm)} {x:Str} {k:Pm},(N.map λ(n,k)=>if(k==Qc&&env.scope.kind== .function&&env.kindOf n==some .cell)then(n,OL)else(n,k)).lookup x=some k->
  ∃K,N.lookup x=some K/\(k=K\/(K=.free/\k=.cell))
 | [],_,_,h=>by simp at h
 | (n,a)::r,x,k,h=>by
  have i:= @zV env r x k;rw[ZV]at h;rw[OW];by_cases H:(a==Qc&&env.scope.kind== .function&&env.kindOf n==some .cell)=Ox
  ·simp only[H,if_true,OW]at h;cases e:x==n with
   |true=>rw[e]at h;cases h;refine⟨a,rfl,.inr ⟨?_,rfl⟩⟩;rw[ZG,ZG]at H;exact Z1 H.1.1
   |false=>rw[e]at h;exact i h
  ·simp only[H,Zw,Z3,OW]at h;cases e:x==n with
   |true=>rw[e]at h;cases h;exact⟨a,rfl,.inl rfl⟩
   |false=>rw[e]at h;exact i h
theorem zW{env:Env}:∀{N:List (Str×Pm)} {x:Str},N.lookup x=some .free->
  let m:=(N.map λ(n,k)=>if(k==Qc&&env.scope.kind== .function&&env.kindOf n==some .cell)then(n,OL)else(n,k))
  m.lookup x=some .cell\/m.lookup x=some .free
 | [],_,h=>by simp at h
 | (n,K)::r,x,h=>by
  have i:= @zW env r x;rw[OW]at h;dsimp only;rw[ZV];by_cases H:(K==Qc&&env.scope.kind== .function&&env.kindOf n==some .cell)=Ox
  ·simp only[H,if_true,OW];cases e:x==n with
   |true=>exact .inl rfl
   |false=>rw[e]at h;exact i h
  ·simp only[H,Zw,Z3,OW];cases e:x==n with
   |true=>rw[e]at h;cases h;exact .inr rfl
   |false=>rw[e]at h;exact i h
theorem j6:∀(N:List (Str×Pm)) (n:Nat) (a b:List (Str×OA)),cellsFrom n N (a++b)=cellsFrom n N a++b
 | [],_,_,_=>rfl
 | (x,k)::r,n,a,b=>by
  show(if(k==OL)=Ox then cellsFrom _ r _ else cellsFrom n r _)=(if(k==OL)=Ox then cellsFrom _ r _ else cellsFrom n r a)++b;split
  ·exact j6 r _ ((x,n)::a) b
  ·exact j6 r n a b
theorem uD{x:Str}{c:OA}:∀(N:List (Str×Pm)) (n:Nat) (a:List (Str×OA)),(x,c)∈cellsFrom n N a->(x,c)∈a\/(x,OL)∈N
 | [],_,_,h=>.inl h
 | (y,k)::r,n,a,h=>by
  replace h:(x,c)∈if(k==OL)=Ox then cellsFrom _ r _ else cellsFrom n r a:=h;split at h
  ·rcases uD r _ _ h with h|h
   ·grind
   simp[*]
  ·rcases uD r n _ h with h|h
   ·exact .inl h
   simp_all
theorem uE{M:Model}{A:Pf}{E:Vs}:∀(n:List (Str×Pm)) (cs:List (Str×OA)) (s:Oz) (Q:List (Str×OA)->Oz->Prop),Q (cellsFrom s.heap.objs.size n cs) {s with heap:=pushCells s.heap n}->
  wpAny M A (forIn n cs λx r=>match x with
   | (name,kind)=>if(kind==OL)=Ox then do
     let c <-alloc {cls:=O3 "cell",data:=Data.cell none}
     pure (O2 ((name,c)::r))
    else pure (O2 r)) Q E s
 | [],cs,s,Q,h=>by exact Ze h
 | (x,k)::r,cs,s,Q,h=>by
  rw[Qo];have h:Q (if(k==OL)=Ox then cellsFrom (s.heap.objs.size+1) r ((x,s.heap.objs.size)::cs)else cellsFrom s.heap.objs.size r cs) {s with heap:=if(k==OL)=Ox then pushCells (s.heap.push {cls:=.type "cell",data:=.cell none}) r else pushCells s.heap r}:=h;cases a:(k==OL)with
  |true=>refine Za ?_;show wpAny M A (if(k==OL)=Ox then _ else _) _ _ _;rw[a];refine Za (wpAny_alloc (Ze ?_));refine uE r _ {s with heap:=s.heap.push {cls:=.type "cell",data:=.cell none}} Q ?_;simp_all
  |false=>rw[a,if_neg (by simp)]at h;refine Za ?_;show wpAny M A (if(k==OL)=Ox then _ else _) _ _ _;rw[a];exact Ze (uE r _ s Q h)
theorem HZ{M:Model}{A:Pf}{E:Vs}{g:OA}{c:List (Str×OA)}{q:Str}{out:Env}{bl:OA}{Q:Env->Oz->Prop}
  (h:Q ⟨scope,s.heap.objs.size,g,cellsFrom (s.heap.objs.size+1) scope.names c,q,none,out.code,out.frame,out.builtins⟩ {s with heap:=pushCells (s.heap.push {cls:=.type "dict",data:=.dict #[]}) scope.names}):
  wpAny M A (newFunctionEnv scope g c [] q none .none (some out) bl) Q E s:=by
 refine Za (wpAny_alloc (Za (uE _ _ _ _ ?_)));refine Za (Ze (Ze ?_));simp_all
noncomputable def f8(X:Cx)(scope:Scope)(N:Ls)(C:OA)(s0:Oz)(a:Hp)(f:La):Cx:=
 {X with N:=N,s₀:=s0,H₀:=a,env:=compEnvC scope (cellsFrom (C+1) scope.names (b8 X.env scope.names [])) C X.env,outer:=X.stack,stack:=X.stack,ex:=f,fn:=λx=>scope.names.lookup x==some .cell,pn:=[],xe:=λ_ _=>False}
structure ei (X:Cx)(scope:Scope):Prop where
 kind:scope.kind=.function
 cel:∀y∈scope.names,y.2=.cell->scope.names.lookup y.1=some .cell
 loc:∀y∈scope.names,y.2=.local->scope.names.lookup y.1=some .local
 free:∀y∈scope.names,y.2=.free->X.env.kindOf y.1=some .cell\/X.env.kindOf y.1=some .free
theorem j7(I:Inv X pq σ H s){b:OA}(h1:b≠X.env.locals)(h:b∉X.fs):b∉bW X.stack:=λz=>(Zh.mp (I.stkSub b z)).elim h1 h
theorem ik{x:Str}{c:OA}(h:(cellsFrom n scope.names (b8 X.env scope.names [])).lookup x=some c):(cellsFrom n scope.names []).lookup x=some c\/((cellsFrom n scope.names []).lookup x=none/\(b8 X.env scope.names []).lookup x=some c):=by have e:=j6 scope.names n [] (b8 X.env scope.names []);rw[P1]at e;rw[e,RX]at h;simp_all
theorem H7{x:Str}{c:OA}(h:(cellsFrom n scope.names []).lookup x=some c):(cellsFrom n scope.names (b8 X.env scope.names [])).lookup x=some c:=by have e:=j6 scope.names n [] (b8 X.env scope.names []);rw[P1]at e;rw[e,RX,h];rfl
theorem zX{x:Str}{c:OA}(h:(cellsFrom n scope.names []).lookup x=none)(H:(b8 X.env scope.names []).lookup x=some c):(cellsFrom n scope.names (b8 X.env scope.names [])).lookup x=some c:=by have e:=j6 scope.names n [] (b8 X.env scope.names []);rw[P1]at e;rw[e,RX,h];exact H
theorem H8{m:Mg}{tk:Nat}(hc:X.calm=Ox)(I:Inv X pq σ H s)(S:ei X scope)(R:∀b∈fp,dH X pq H b)(T:∀b∈fp,∃o,s.heap.get? b=some o)
  (hn:h1.Ns s.heap.objs.size m) (old:∀b o,s.heap.get? b=some o->h1.get? b=some o) (f:CellsOk h1 (s.heap.objs.size+1) (cellsFrom (s.heap.objs.size+1) scope.names [])) (hl:σ'.length=N.length)
  (Z:∀(i:Nat) (v:V) (x:Str),N[i]?=some x->σ'[i]?=some (some v)->scope.names.lookup x=some .free/\∃j:Nat,X.N[j]?=some x/\σ[j]?=some (some v)):
  Inv (f8 X scope N s.heap.objs.size s H fp) (X.pn++pq) σ' H {s with heap:=h1,toks:=tk}:=by
 have lt:∀{b:OA} {o:Obj},s.heap.get? b=some o->b≠s.heap.objs.size:=λe=>Zz (Zm e);have C:∀x c,(b8 X.env scope.names []).lookup x=some c->X.env.cells.lookup x=some c:=λx c h=>uC scope.names [] (λ_ z=>nomatch z) (x,c) (ZF h);have a:∀x c,X.env.cells.lookup x=some c->c<s.heap.objs.size:=λx c h=>by obtain⟨v,q⟩:=I.cell x c h;exact q.lt
 have O:∀x c,(cellsFrom (s.heap.objs.size+1) scope.names []).lookup x=some c->h1.IsCell c none/\s.heap.objs.size+1<=c:=λx c h=>f.empty x c (ZF h)
 have G:∀x c,(cellsFrom (s.heap.objs.size+1) scope.names []).lookup x=some c->scope.names.lookup x=some .cell:=λx c h=>by
  rcases uD scope.names _ _ (ZF h)with z|z
  ·cases z
  ·exact S.cel _ z rfl
 have E:∀x,scope.names.lookup x=some .free->(cellsFrom (s.heap.objs.size+1) scope.names []).lookup x=none/\∃c,(b8 X.env scope.names []).lookup x=some c:=λx h=>by
  refine⟨?_,?_⟩
  ·cases z:(cellsFrom (s.heap.objs.size+1) scope.names []).lookup x with
   |none=>rfl
   |some c=>have:=G x c z;rw[h]at this;cases this
  ·have hm:=ZF h;obtain⟨c,w⟩:=I.ok.has x (S.free _ hm rfl);exact zU (zT w scope.names [] hm)
 have gZ:∀x,((f8 X scope N s.heap.objs.size s H fp).env.kindOf x=some .cell\/(f8 X scope N s.heap.objs.size s H fp).env.kindOf x=some .free)->scope.names.lookup x=some .free\/scope.names.lookup x=some .cell:=λx h=>by
  have go:∀k,(k=OL\/k=.free)->(relabel scope X.env).names.lookup x=some k->scope.names.lookup x=some .free\/scope.names.lookup x=some .cell:=λk U h=>by
   obtain⟨k',h1,g⟩:=zV h;rcases g with rfl| ⟨rfl,_⟩
   ·rcases U with rfl|rfl
    ·exact .inr h1
    ·exact .inl h1
   ·exact .inl h1
  rcases h with h|h
  ·exact go _ (.inl rfl) h
  ·exact go _ (.inr rfl) h
 have A:∀x y c,(cellsFrom (s.heap.objs.size+1) scope.names []).lookup x=some c->(cellsFrom (s.heap.objs.size+1) scope.names []).lookup y=some c->x=y:=λx y c h1 g=>by
  have m1:=ZF h1;have m2:=ZF g;have ap:=f.apart;generalize cellsFrom (s.heap.objs.size+1) scope.names []=l at m1 m2 ap
  induction l with
  |nil=>cases m1
  |cons p l ih=>
   obtain⟨a1,a2⟩:=Z5.mp ap;rcases Zh.mp m1 with rfl|n1
   ·rcases Zh.mp m2 with z|n2
    ·injection z with z _;exact z.symm
    ·exact(a1 (y,c) n2 rfl).elim
   ·rcases Zh.mp m2 with rfl|n2
    ·exact(a1 (x,c) n1 rfl).elim
    ·exact ih n1 n2 a2
 refine⟨⟨I.ok.mod,?_,I.ok.glob,I.ok.blt,Zf _,λx y c h1 g=>?_,λx h=>?_,λx c h g=>?_,I.ok.hd,I.ok.frames,.inl rfl,λb B=>?_,I.bs,Zl I.ok.bsz I.sz,λb o e B=>?_,λb B=>?_,I.stack,I.stkFree⟩,
  rfl,I.bare,Un.kept old,⟨m,hn,λi x v e1 e2 e3=>?_⟩,λx c h=>?_,I.hok.fresh (Zf _),λx c h=>?_,λp hp=>?_,I.hok.kept old,hl⟩
 ·show(relabel scope X.env).kind=.function;unfold relabel;exact S.kind
 ·rcases ik h1 with z| ⟨_,z⟩<;>rcases ik g with Y| ⟨_,Y⟩
  ·exact A x y c z Y
  ·exact absurd (a _ _ (C _ _ Y)) (QX.mpr (P8 (O _ _ z).2))
  ·exact absurd (a _ _ (C _ _ z)) (QX.mpr (P8 (O _ _ Y).2))
  ·exact I.ok.inj x y c (C x c z) (C y c Y)
 ·rcases gZ x h with h|h
  ·obtain⟨z,c,t⟩:=E x h;exact⟨c,zX z t⟩
  ·have:=PySem.W.cellsFrom_some (x:=x) scope.names (s.heap.objs.size+1) [] (.inl h);obtain⟨c,t⟩:=PD.mp this;exact⟨c,H7 t⟩
 ·have U:scope.names.lookup x=some .cell:=by simpa[f8]using h
  rcases ik g with z| ⟨z,_⟩
  ·exact P8 (O _ _ z).2
  ·have:=PySem.W.cellsFrom_some (x:=x) scope.names (s.heap.objs.size+1) [] (.inl U);rw[z]at this;cases this
 ·obtain⟨f0,L,M,F,P,f5⟩:=R b B;obtain⟨o,D⟩:=T b B;refine⟨lt D,λx c h=>?_⟩;rcases ik h with z| ⟨_,z⟩
  ·exact λq=>absurd (Zm D) (QX.mpr (q▸P8 (O _ _ z).2))
  ·exact P x c (C x c z)
 ·obtain⟨f0,L,M,F,P,f5⟩:=R b B;rcases F with F|F
  ·exact I.ok.noex b o e F
  ·exact absurd (Zm (I.ok.bs b o e).1) (QX.mpr F)
 ·obtain⟨f0,L,M,F,P,f5⟩:=R b B;exact j7 I L M
 ·obtain⟨J,j,g2,g3⟩:=Z i v x e1 e2;obtain⟨m0,_,l0⟩:=I.loc
  have hv:yE X.env.scope x:=by
   rcases S.free _ (ZF J) rfl with q|q
   ·exact .inr (.inl q)
   ·exact .inr (.inr q)
  obtain⟨u,r,q⟩:=l0 j x v g2 g3 hv;refine⟨u,r,.inr ⟨zW J,?_⟩⟩;obtain⟨z,c,f⟩:=E x J;have w:=C x c f;refine⟨c,zX z f,?_⟩;have K:=S.free _ (ZF J) rfl;rcases q with⟨q,_⟩| ⟨_,c',q1,q2⟩
  ·rcases K with K|K
   ·rw[q]at K;cases K
   ·rw[q]at K;cases K
  ·rw[w]at q1;cases q1;obtain⟨o,D,Q⟩:=q2;exact⟨o,old _ _ D,Q⟩
 ·rcases ik h with z| ⟨_,z⟩
  ·exact⟨none,(O _ _ z).1⟩
  ·obtain⟨v,o,D,Q⟩:=I.cell x c (C x c z);exact⟨v,o,old _ _ D,Q⟩
 ·rcases ik h with z| ⟨_,z⟩
  ·exact I.hok.fresh (P8 (O _ _ z).2)
  ·exact I.freeC x c (C x c z)
 ·have W:p∈X.pn++pq:=by simpa[f8]using hp
  obtain⟨e,n,ne,nf,d⟩:=I.pin p W;exact⟨old _ _ e,n,lt e,j7 I ne nf,d⟩
theorem H9(I:Inv X pq σ H s)(j:∀b∈fp,dH X pq H b)(i:C=s.heap.objs.size)(J:Inv (f8 X scope N C s H fp) pins' σ' H' s')(hs:PC C s'.heap h'):
  Inv X pq σ H' {s' with heap:=h'}:=by
 have ne:∀{b:OA} {o:Obj},s.heap.get? b=some o->b≠C:=λe=>by rw[i];exact Zz (Zm e)
 have B:=J.base
 have u:Un _ _ H _ _ _:=
  ⟨λb o e n h a=>(hs.2 b (ne e)).trans (B.keep b o e n h a),λb o e n h a=>by obtain⟨sl,q⟩:=B.slot b o e n h a;exact⟨_,(hs.2 b (ne e)).trans q⟩,B.free,
   λb o e a=>by obtain⟨t,q⟩:=B.there b o e a;exact⟨_,(hs.2 b (ne e)).trans q⟩,B.tups,B.frzs,B.tbls⟩
 have d:H' C=none:=J.free;have f:=λb O e=>by refine(J.hok b O e).stay (λc w r q=>(hs.2 c ?_).trans q) (λ_ q=>q) λ_ _ q=>q;lia
 exact I.call' J.os u f J.bare λb h=>by obtain⟨f0,F,k,l,m,p⟩:=j b h;trivial
def PB(X:Cx)(body:Sem Unit)(t:L2.St->Hp->(L2.St->Hp->Prop)->Prop):Prop:=
 ∀(pq:Lp) (s:Oz) (σ:L2.St) (H:Hp) (Q:L2.St->Hp->Prop),Inv X pq σ H s->t σ H Q->wpAny (model X.prog X.w) X.A body (λ_ s'=>∃σ' H',Inv X pq σ' H' s'/\Q σ' H') X.xe s
theorem gG{m:Sem α}{Q:α->Oz->Prop}(H:X.xe=λ_ _=>False)(h:wpAny M A m Q X.xe s):wpAny M A m Q E s:=by rw[H]at h;exact O0 h (λ_ _ q=>q) λ_ _ z=>z.elim
noncomputable def iS:Expr->Bool
 | .ListComp .. =>Ox
 | .SetComp .. =>Ox
 |_=>Oy
theorem nL(h:iS ce=Ox){d:Nat}{it a:OB}:(model prog w).den (.compLoop ce d it a env)=(compTurn ce d it a env).onRaise (λx=>do noteFrame x env;theTreesLotGoes x)/\A.under (.compLoop ce d it a env)=A/\(model prog w).den (.compStart ce d it a env)=(compStart ce d it a env).onRaise (λx=>do noteFrame x env;standAt theWindowsPlace)/\A.under (.compStart ce d it a env)=A:=by cases ce<;>first|exact⟨rfl,rfl,rfl,rfl⟩|cases h
theorem zY{d:Nat}{c:OB}{p:Pos}{body:Sem Unit}{J:It}{R:RL->Oz->Prop}{Fin:L2.St->Hp->Prop}
  (k:iS ce=Ox) (l:X.xe=λ_ _=>False) (P:X.calm=Ox)
  (D:compTurn ce d (.ref it) c X.env=(standAt p>>=λ_=>pyNext (.ref it)>>=λr=>match r with
   |none=>pure (.done .next)
   |some v=>letOwnedTupleGo tg (.ref it) v>>=λ_=>assign tg X.env v>>=λ_=>body>>=λ_=>again (.compLoop ce d (.ref it) c X.env)))
  (T:Turn X.prog X.w X.K tg J fp it tn) (hg:PG X tg g) (h:PB X body tb) (I:Inv X pq σ H s) (st:tn 0 s.heap) (Q:∀b∈fp,dH X pq H b)
  (W:∃W:Nat->Nat->L2.St->Hp->Prop,(∃m,W 0 m σ H)/\∀i m σ H,W i m σ H->
   (J.stop i H/\Fin σ H)\/(J.go i H/\∃Nx:L2.St->Hp->Prop,(∀σ' H',Nx σ' H'->∃M,M<m/\W (i+1) M σ' H')/\∀x H',J.yld i H x H'->g x σ H' λG H2=>tb G H2 Nx))
  (hR:∀s' σ' H',Inv X pq σ' H' s'->(∀b∈fp,H' b=none)->Fin σ' H'->R (.ok .next) s'):codeAny (model X.prog X.w) X.A (.compLoop ce d (.ref it) c X.env) R s:=by
 obtain⟨W,⟨m0,w0⟩,turn⟩:=W;have S:∀{H':Hp},(∀b∈fp,H' b=none)->∀b∈fp,dH X pq H' b:=λhn b h=>⟨hn b h,(Q b h).2⟩;refine codeAny_loop rfl (λn s'=>∃i σ' H',Inv X pq σ' H' s'/\tn i s'.heap/\(∀b∈fp,H' b=none)/\W i n σ' H') ?_ m0 ⟨0,σ,H,I,st,λb h=>(Q b h).1,w0⟩;rintro n V ⟨i,a,y,O,q,f,w3⟩;rw[(nL (A:=X.A) k).1,(nL (prog:=X.prog) (w:=X.w) k).2.1];refine wpAny_noted ?_;rw[D];refine Za (Rr ?_);rcases turn i n a y w3 with⟨stop,qn⟩| ⟨go,Nx,hN,step⟩
 ·refine Za (gG l (aT (T.done X rfl rfl rfl P i pq V a y X.xe O (S f) q stop) λr Y z=>z.elim λE I4=>?_));subst E;exact Ze (hR Y a y I4 f qn)
 ·refine Za (gG l (aT (T.item X rfl rfl rfl P i pq V a y X.xe O (S f) q go) λr Y z=>?_));obtain⟨u,E,h4⟩:=z;subst E;refine Za (gG l (aT h4 λ_ s5 z=>?_));obtain⟨x,L,I5,r5,y5,j,F⟩:=z;have B:=I5.pinned (S F) (T.obj _ _ j);refine Za (gG l (aT (hg _ s5 a L x u _ B r5 (step x L y5)) λ_ s6 z=>?_));obtain⟨K,Z,I6,q6⟩:=z;refine Za (gG l (aT (h _ s6 K Z _ I6 q6) λ_ s7 z=>?_));obtain⟨t,N,C,n7⟩:=z;refine Ze ?_;obtain⟨M,hm,w7⟩:=hN t N n7;refine⟨rfl,M,hm,i+1,t,N,C.unpinned,T.keep _ _ _ j λb h o e=>(C.pin (b,o) (ZD _ (ZD _ (mP h e)))).1,λb h=>?_,w7⟩;obtain⟨o,e,d⟩:=T.obj _ _ j b h;exact(C.pin (b,o) (ZD _ (ZD _ (mP h e)))).2.1
theorem zZ{R:RL->Oz->Prop}{d:Nat}{it a:OB}{t i:Expr}{fs:Lx}(H:iS ce=Ox)(e:(clausesOf ce)[d]?=some ⟨t,i,fs,0⟩)
  (c:codeAny (model prog w) A (.compLoop ce d it a env) R s)
  (h:wpAny (model prog w) A (pyIter it) (λI s'=>codeAny (model prog w) A (.compLoop ce d I a env) R s') (notedBy (model prog w) A env λx s'=>R (.error x) s') s):
  codeAny (model prog w) A (.compStart ce d it a env) R s:=by
 refine RQ ?_;rw[(nL (A:=A) H).2.2.1,(nL (prog:=prog) (w:=w) H).2.2.2];refine wpAny_notedAt ?_;unfold compStart;rw[e];refine Za (Qp (QM ?_));split
 ·first
   |rfl
   |exact Ze (And.intro rfl c)
 ·first
   |exact Za (RM (Za (Rr (Za (O0 h (λI s' b=>Ze (And.intro rfl b)) λ_ _ x=>x)))))
   |lia
abbrev TU:=L2.St->Hp->(L2.St->Hp->Prop)->Prop
noncomputable def nM:List TT->(L2.St->Hp->(Bool->Hp->Prop)->Prop)
 | []=>λ_ H Q=>Q Ox H
 |t::r=>λσ H Q=>t σ H λb H1=>if b=Ox then nM r σ H1 Q else Q Oy H1
noncomputable def z0(X:Cx):Lx->List TT->Prop
 | [],[]=>True
 |e::es,t::ts=>PT X e t/\z0 X es ts
 |_,_=>False
theorem z7{M:Model}{A:Pf}{E:Vs}{env:Env}{Q:Bool->Oz->Prop}{s:Oz}:∀(ifs:Lx),Q Oy s->
  wpAny M A (forIn ifs Oy λc r=>if r=Ox then do let ok <-isTrue c env (eval c env);pure (O2 ok)else pure (O2 r)) Q E s
 | [],h=>Ze h
 |c::r,h=>by rw[Qo];exact Za (Ze (z7 r h))
theorem z8:∀(ifs:Lx) (ts:List TT),z0 X ifs ts->∀(pq:Lp) (s:Oz) (σ:L2.St) (H:Hp) (Q:Bool->Hp->Prop),Inv X pq σ H s->nM ts σ H Q->
  wpAny (model X.prog X.w) X.A (forIn ifs Ox λc r=>if r=Ox then do let ok <-isTrue c X.env (eval c X.env);pure (O2 ok)else pure (O2 r)) (TP X pq σ Q) X.xe s
 | [],[],_,pq,s,σ,H,Q,I,h=>Ze ⟨H,I,h⟩
 |e::E,t::ts,p,pq,s,σ,H,Q,I,h=>by
  rw[Qo];refine Za (Za (aT (p.1 _ s _ H _ I h) λb S z=>z.elim λ_ z=>z.elim λa q=>Ze ?_));cases b with
  |true=>exact z8 _ _ p.2 _ _ _ _ Q a q
  |false=>exact z7 _ ⟨_,a,q⟩
 | [],_::_,p,_,_,_,_,_,_,_=>p.elim
 |_::_,[],p,_,_,_,_,_,_,_=>p.elim
noncomputable def z9(a:OA)(t:TE):TU:=λσ H Q=>t σ H λv H1=>∃ys,H1 a=some (.lst ys)/\ys.length<sizeLine/\Q σ (ba H1 a (.lst (ys++[v])))
noncomputable def z_(ts:List TT)(t:TU):TU:=λσ H Q=>nM ts σ H λb H1=>if b=Ox then t σ H1 Q else Q σ H1
noncomputable def uF(w:TI)(g:TG)(tb:TU):TU:=λσ H Q=>w σ H λJ H1=>∃W:Nat->Nat->L2.St->Hp->Prop,(∃m,W 0 m σ H1)/\∀i m σ H,W i m σ H->
   (J.stop i H/\Q σ H)\/(J.go i H/\∃N:L2.St->Hp->Prop,(∀σ' H',N σ' H'->∃M,M<m/\W (i+1) M σ' H')/\∀x H',J.yld i H x H'->g x σ H' λa H2=>tb a H2 N)
noncomputable def j8(o0:OA->HO)(cs:L2.St->L2.St)(w:TI)(g:TG)(tb:OA->TU):TE:=λσ H Q=>w σ H λJ H1=>∀acc,H1 acc=none->
 ∃W:Nat->Nat->L2.St->Hp->Prop,(∃m,W 0 m (cs σ) (ba H1 acc (o0 acc)))/\∀i m σ H,W i m σ H->
   (J.stop i H/\Q (.ref acc) H)\/(J.go i H/\∃N:L2.St->Hp->Prop,(∀σ' H',N σ' H'->∃M,M<m/\W (i+1) M σ' H')/\∀x H',J.yld i H x H'->g x σ H' λa H2=>tb acc a H2 N)
def nO(X:Cx)(scope:Scope)(N:Ls)(cs:L2.St->L2.St):Prop:=∀σ:L2.St,σ.length=X.N.length->(cs σ).length=N.length/\
 ∀(i:Nat) (v:V) (x:Str),N[i]?=some x->(cs σ)[i]?=some (some v)->scope.names.lookup x=some .free/\∃j:Nat,X.N[j]?=some x/\σ[j]?=some (some v)
theorem Aa(I:Inv X pq σ H s)(S:ei X scope):closureFor scope X.env=pure (b8 X.env scope.names []):=
 HY λx a h=>I.ok.has _ (S.free x a h)
theorem H_(H:OI)(d:Obj)(n:List (Str×Pm)):CellsOk (pushCells (H.push d) n) (H.objs.size+1) (cellsFrom (H.objs.size+1) n []):=by have:=cellsFrom_ok n (H.push d) (H.objs.size+1) _ ⟨(λ_ _ h=>by cases h),.nil⟩ (by simp_all);simp_all
theorem Ab{G:List OU}{O:Obj}{o0:OA->HO}{mk:Sem OB}{scope:Scope}{N:Ls}{cs:L2.St->L2.St}{J:It}{g:TG}{tb:OA->TU}{R:OB->OA->RL->Oz->Prop}{Fin:V->Hp->Prop}
  {P:Lp} {σ:L2.St} {H:Hp}  {it:OA} {f:La} {tn:Nat->OI->Prop} {E:Vs} (D:iS ce=Ox) (hce:clausesOf ce=⟨tg,iter,ifs,0⟩::G) (hmk:∀{s:Oz} {Q:Vs},Q (.ref s.heap.objs.size) {s with heap:=s.heap.push O}->wpAny (model X.prog X.w) X.A mk Q E s) (hob:bg X.prog X.w (ba H s.heap.objs.size (o0 s.heap.objs.size)) (s.heap.push O) s.heap.objs.size (o0 s.heap.objs.size)) (hc:X.calm=Ox) (sc:ei X scope) (hcs:nO X scope N cs) (I:Inv X P σ H s) (T:Turn X.prog X.w X.K tg J f it tn) (st:tn 0 s.heap) (hf:∀b∈f,dH X P H b)
  (body:OA->Env->Sem Unit)
  (heq:∀(acc:OA) (env:Env),compTurn ce 0 (.ref it) (.ref acc) env=(standAt iter.pos>>=λ_=>pyNext (.ref it)>>=λr=>match r with
   |none=>pure (.done .next)
   |some v=>letOwnedTupleGo tg (.ref it) v>>=λ_=>assign tg env v>>=λ_=>body acc env>>=λ_=>again (.compLoop ce 0 (.ref it) (.ref acc) env)))
  (hin:∀(C:OA) (s0:Oz) (H0:Hp) (f:La) (acc:OA),PG (f8 X scope N C s0 H0 f) tg g/\PB (f8 X scope N C s0 H0 f) (body acc (f8 X scope N C s0 H0 f).env) (tb acc))
  (W:∀acc,H acc=none->∃W:Nat->Nat->L2.St->Hp->Prop,(∃m,W 0 m (cs σ) (ba H acc (o0 acc)))/\∀i m σ H,W i m σ H->
   (J.stop i H/\Fin (.ref acc) H)\/(J.go i H/\∃Nx:L2.St->Hp->Prop,(∀σ' H',Nx σ' H'->∃m',m'<m/\W (i+1) m' σ' H')/\∀x H',J.yld i H x H'->g x σ H' λσ2 H2=>tb acc σ2 H2 Nx))
  (hR:∀(acc C:OA) (s':Oz) (H':Hp) (m:Mg),s'.heap.Ns C m->C≠X.env.locals->(∀x c,X.env.cells.lookup x=some c->c≠C)->H' C=none->X.s₀.heap.objs.size<=C->(∀p∈X.pn++P,p.1≠C)->(∀h',PC C s'.heap h'->Inv X P σ H' {s' with heap:=h'})->Fin (.ref acc) H'->R (.ref acc) C (.ok .next) s'):
  wpAny (model X.prog X.w) X.A mk (λacc K=>wpAny (model X.prog X.w) X.A (newFunctionEnv scope X.env.globals (b8 X.env scope.names []) [] X.env.qual none .none (some X.env)) (λl M=>
   codeAny (model X.prog X.w) X.A (.compStart ce 0 (.ref it) acc {l with scope:=relabel scope X.env}) (R acc l.locals) M) E K) E s:=by
 refine hmk (HZ ?_);have hfr:H s.heap.objs.size=none:=I.hok.fresh (Zf _);have u:Inv X P σ (ba H s.heap.objs.size (o0 s.heap.objs.size)) {s with heap:=s.heap.push O,toks:=s.toks}:=I.laid (t':=s.toks) (λb o e=>Zb _ e) (Zf _) hob;have A:∀b∈f,∃o,s.heap.get? b=some o:=λb j=>by obtain⟨o,e,_⟩:=T.obj _ _ st b j;exact⟨o,e⟩
 have w:∀b∈f,dH X P (ba H s.heap.objs.size (o0 s.heap.objs.size)) b:=λb j=>by obtain⟨f0,Z⟩:=hf b j;obtain⟨o,y⟩:=A b j;exact⟨by rw[aI (Zz (Zm y))];exact f0,Z⟩
 have F:∀b∈f,∃o,(s.heap.push O).get? b=some o:=λb j=>by obtain⟨o,y⟩:=A b j;exact⟨o,Zb _ y⟩
 obtain⟨k1,k2⟩:=hcs σ I.len;obtain⟨a,U⟩:∃a,a=pushCells ((s.heap.push O).push {cls:=.type "dict",data:=.dict #[]}) scope.names:=⟨_,rfl⟩;have n:∀b o,(s.heap.push O).get? b=some o->a.get? b=some o:=λb o e=>by rw[U];exact pushCells_keeps _ _ _ _ (Zb _ e)
 have k:a.Ns (s.heap.push O).objs.size λ_=>none:=by rw[U];exact⟨_,_,_,pushCells_keeps _ _ _ _ (Zi _ rfl),rfl,(λx h=>by simp at h),λ_=>rfl⟩
 have B:CellsOk a ((s.heap.push O).objs.size+1) (cellsFrom ((s.heap.push O).objs.size+1) scope.names []):=by rw[U];exact H_ _ _ _
 rw[<-U];have J0:=H8 (tk:=s.toks) (N:=N) (scope:=scope) (σ':=cs σ) hc u sc w F k n B k1 k2;have old:∀b o,s.heap.get? b=some o->a.get? b=some o:=λb o e=>n b o (Zb _ e);have S:tn 0 a:=T.keep _ _ _ st λb _ o e=>old b o e;have hlt:X.env.locals<(s.heap.push O).objs.size:=u.lt
 have L:codeAny (model X.prog X.w) X.A (.compLoop ce 0 (.ref it) (.ref s.heap.objs.size) (f8 X scope N (s.heap.push O).objs.size {s with heap:=s.heap.push O,toks:=s.toks} (ba H s.heap.objs.size (o0 s.heap.objs.size)) f).env)
   (R (.ref s.heap.objs.size) (s.heap.push O).objs.size) {s with heap:=a,toks:=s.toks}:=by
  obtain⟨p1,p2⟩:=hin (s.heap.push O).objs.size {s with heap:=s.heap.push O,toks:=s.toks} (ba H s.heap.objs.size (o0 s.heap.objs.size)) f s.heap.objs.size;refine zY (X:=f8 X scope N _ _ _ f) (Fin:=λ_ H'=>Fin (.ref s.heap.objs.size) H') D rfl hc (heq _ _) T p1 p2 J0 S (λb j=>?_) ?_ ?_
  ·obtain⟨f0,Z,f2,f3,f4,f5⟩:=w b j;obtain⟨o,y⟩:=F b j;refine⟨f0,Zz (Zm y),j7 u Z f2,.inl j,λx c h=>?_,λp hp=>f5 p (by simpa[f8]using hp)⟩;rcases ik h with z| ⟨_,z⟩
   ·exact λq=>absurd (Zm y) (QX.mpr (q▸P8 (B.empty x c (ZF z)).2))
   ·exact f4 x c (uC scope.names [] (λ_ z=>nomatch z) (x,c) (ZF z))
  ·exact W _ hfr
  ·intro s' σ' H' Y _ fin;obtain⟨m,hm,_⟩:=id Y.loc;refine hR _ _ s' H' m hm (Qe hlt) (λx c h z=>?_) Y.free u.sz (λp hp z=>?_) (λh' hs'=>?_) fin
   ·obtain⟨v,q⟩:=u.cell x c h;exact absurd q.lt (by rw[z];exact OR _)
   ·exact absurd (Zm (u.pin p hp).1) (by rw[z];exact OR _)
   ·exact H9 u w rfl Y hs'
 exact zZ D (by rw[hce];rfl) L (T.self _ 0 _ _ _ S L)
theorem nP{R:List OU}{pos:Pos}{cs:L2.St->L2.St}{tb:OA->TU}(n:X.calm=Ox)(S:ei X scope)(a:nO X scope N cs)(o:PI X tg iter wi)(body:OA->Env->Sem Unit)
  (b:∀(it acc:OA) (env:Env),compTurn (.ListComp elt (⟨tg,iter,ifs,0⟩::R) scope pos) 0 (.ref it) (.ref acc) env=(standAt iter.pos>>=λ_=>pyNext (.ref it)>>=λr=>match r with
   |none=>pure (.done .next)
   |some v=>letOwnedTupleGo tg (.ref it) v>>=λ_=>assign tg env v>>=λ_=>body acc env>>=λ_=>again (.compLoop (.ListComp elt (⟨tg,iter,ifs,0⟩::R) scope pos) 0 (.ref it) (.ref acc) env)))
  (c:∀(C:OA) (s0:Oz) (H0:Hp) (fp:La) (acc:OA),PG (f8 X scope N C s0 H0 fp) tg g/\PB (f8 X scope N C s0 H0 fp) (body acc (f8 X scope N C s0 H0 fp).env) (tb acc))
  (hs:∀x,foldedSetIterable iter X.env x=pure x:=by intro _;rfl):PE X (.ListComp elt (⟨tg,iter,ifs,0⟩::R) scope pos) (j8 (λ_=>.lst []) cs wi g tb):=by
 intro P s E H Q I h;refine TM rfl hs (Aa I S) S.kind S.loc (O0 (o _ s _ H _ I h) (λv A j=>O0 j (λt B k=>?_) λ_ _ e=>e) λ_ _ e=>e);obtain⟨it,fp,D,J,w,e,i,T,f,F,W⟩:=k;subst e;refine Ab (o0:=λ_=>.lst _) rfl rfl (λq=>ZR q) ⟨ZY _,_,0,.nil,Zi _ rfl⟩ n S a i T f F _ (b _) c W ?_;intro acc C z u m p _ _ _ _ _ l fin;exact⟨m,p,λy d=>⟨.ref _,_,l _ d,rfl,fin⟩⟩
theorem nQ{R:List OU}{pos S P:Pos}{cs:L2.St->L2.St}{tb:OA->TU}{x:Str}{j:Nat}(hc:X.calm=Ox)(Z:X.N.Nodup)(hj:X.N[j]?=some x)(F:X.env.scope.names.lookup x=some .local)
  (B:swapsWith (.ListComp elt (⟨tg,iter,ifs,0⟩::R) scope pos) (some (.Name x P)) S.line X.env=pure Ox)
  (c:ei X scope) (u:nO X scope N cs) (hi:PI X tg iter wi) (body:OA->Env->Sem Unit)
  (w:∀(it acc:OA) (env:Env),compTurn (.ListComp elt (⟨tg,iter,ifs,0⟩::R) scope pos) 0 (.ref it) (.ref acc) env=(standAt iter.pos>>=λ_=>pyNext (.ref it)>>=λr=>match r with
   |none=>pure (.done .next)
   |some v=>letOwnedTupleGo tg (.ref it) v>>=λ_=>assign tg env v>>=λ_=>body acc env>>=λ_=>again (.compLoop (.ListComp elt (⟨tg,iter,ifs,0⟩::R) scope pos) 0 (.ref it) (.ref acc) env)))
  (y:∀(C:OA) (s0:Oz) (H0:Hp) (fp:La) (acc:OA),PG (f8 X scope N C s0 H0 fp) tg g/\PB (f8 X scope N C s0 H0 fp) (body acc (f8 X scope N C s0 H0 fp).env) (tb acc))
  (hs:∀x,foldedSetIterable iter X.env x=pure x:=by intro _;rfl):PS X (.Assign [.Name x P] (.ListComp elt (⟨tg,iter,ifs,0⟩::R) scope pos) S) (mM (j8 (λ_=>.lst []) cs wi g tb) (et j)):=by
 intro pq s K H D I h;rw[exec_Assign_Name_used _ _ _ _ B];refine Za (Rr (Za ?_))
 refine Za (O0 (TM rfl hs (Aa I c) c.kind c.loc
  (O0 (hi pq s K H _ I h) (λv s1 U=>O0 U (λitv s2 V=>?_) λ_ _ e=>e) λ_ _ e=>e)) (λ_ G hq=>Ze (Ze hq)) λ_ _ e=>e)
 obtain⟨it,fp,tn,J,H2,e,L,T,E,Q,W⟩:=V;subst e;refine Ab (o0:=λ_=>.lst []) rfl rfl (λq=>ZR q) ⟨ZY _,[],0,.nil,Zi _ rfl⟩ (Fin:=λv d=>et j v K d D.nx) hc c u L T E Q body (w it) y W ?_;intro acc C G d m hm l p f i k Y fin;have M:=by have:=Y G.heap (.refl ..);simpa using this
 refine wpAny_assign_Name (yG M Z hj (.inl F) (v:=.ref acc) rfl (λs'' O t=>?_) (.inr F));obtain⟨a,A,ha⟩:=t
 have n:C≠a:=by
  grind
 exact⟨m,hm.sameBut A n,λh' z=>⟨_,d,O.turned (λb o hb e=>(z.2 b hb).trans e) f l (.inr i) p k,fin⟩⟩
theorem aj.eraseIdx{m:GS}:∀{ds:List D} {vs:List V} (i:Nat),aj K m μ H ds vs->aj K m μ H (ds.eraseIdx i) (vs.eraseIdx i)
 | [],vs,i,h=>by subst h;rfl
 |d::ds,vs,0,h=>by obtain⟨v,u,rfl,r,q⟩:=h.uncons;exact q
 |d::ds,vs,i+1,h=>by obtain⟨v,u,rfl,r,q⟩:=h.uncons;exact .cons r (aj.eraseIdx i q)
noncomputable def j9(d:D)(ds:List D)(S:af):Res D:=match d,ds with
 | .ref n,[.int i]=>match S[n]? with
  |some xs=>match hV xs.length i with
   |some k=>match xs[k]? with
    |some y=>if xs.length<=a' then .ok y (S.set n (xs.eraseIdx k))else .fail
    |none=>.fail
   |none=>.fail
  |none=>.fail
 |_,_=>.fail
theorem nR:jX X "list.pop" (rM X.K X.mg j9):=by
 intro P s J H x C v U Q I t p h;obtain⟨F,G,S,d,D,c,m,R,w⟩:=h;unfold j9 at w;split at w
 ·split at w
  ·rename_i n i _ Y e;split at w
   ·rename_i k f;split at w
    ·rename_i y E;split at w
     ·obtain⟨a,vs,rfl,l,b,r⟩:=nK c m e;obtain⟨V,rfl,o⟩:=R.one;cases aH o;obtain⟨z,g,j⟩:=r.get E;obtain⟨q,u,A,B⟩:=uc f;rw[r.length]at q;exact Hr _ s _ H _ _ v _ Q I t p ⟨a,_,i,k,z,rfl,rfl,b,by lia,by lia,q,g,w.wrote c l b (r.eraseIdx k) j⟩
     ·exact w.elim
    ·exact w.elim
   ·exact w.elim
  ·exact w.elim
 ·exact w.elim
noncomputable def gH:List D->Option (Li)
 | []=>some []
 | .int i::r=>(gH r).map (i:: ·)
 |_=>none
theorem Ac:∀{xs:List D} {ns:Li},gH xs=some ns->xs=ns.map D.int
 | [],ns,h=>by cases h;rfl
 |x::xs,ns,h=>by
  cases x with
  |int i=>
   dsimp only[gH]at h;cases e:gH xs with
   |none=>simp_all
   |some m=>rw[e]at h;cases h;rw[Ac e];rfl
  |_=>cases h
theorem Ia{m:GS}:∀(ns:Li) (vs:List V),aj K m μ H (ns.map D.int) vs->vs=ns.map V.int:=by
 intro ns
 induction ns with
 |nil=>intro vs r;exact r
 |cons n ns i=>intro vs r;obtain⟨v,w,rfl,R,a⟩:=r.uncons;cases aH R;rw[i _ a];rfl
theorem Ad:∀{ns:Li} {its:Lv},Vals (ns.map V.int) its->PyProof.Rows.IntsAre its ns
 | [],its,r=>by cases r;exact .nil
 |n::ns,its,r=>by
  cases r with
  |cons p q=>obtain⟨t,rfl⟩:=p;exact .cons _ _ (Ad q)
section
variable {R:RL->Oz->Prop}{P:Nat->OB->Prop}{St:Nat->OI->Prop}
end
mutual
noncomputable def Ae:D->Option PyData
 | .non=>some .none
 | .bl b=>some (.bool b)
 | .int i=>some (.int i)
 | .str x=>some (.str x)
 | .tup ds=>(dO ds).map .tuple
 | .lst ds=>(dO ds).map .list
 |_=>none
noncomputable def dO:List D->Option (List PyData)
 | []=>some []
 |d::ds=>match Ae d,dO ds with
  |some p,some ps=>some (p::ps)
  |_,_=>none
end
mutual
theorem Ib(I:Inv X pq σ H s):∀(d:D) (v:V) (u:OB) (p:PyData),Rep X.K ⟨X.mg,F⟩ μ H d v->RelV v u->Ae d=some p->p.hasDict=Oy/\∃as,Reads s.heap u p as
 | .non,v,u,p,r,q,h=>by cases ic r;subst(q);cases h;exact⟨rfl,_,.none⟩
 | .bl b,v,u,p,r,q,h=>by cases gA r;subst(q);cases h;exact⟨rfl,_,.bool b⟩
 | .int i,v,u,p,r,q,h=>by cases aH r;obtain⟨t,rfl⟩:=q;cases h;exact⟨rfl,_,.int i t⟩
 | .str x,v,u,p,r,q,h=>by cases cc r;obtain⟨t,rfl⟩:=q;cases h;exact⟨rfl,_,.str x t⟩
 | .tup c,v,u,p,r,q,h=>by
  obtain⟨a,vs,rfl,l,R⟩:=bQ r;subst(q);obtain⟨f,m,⟨o,g,j,n,k⟩,_⟩:=I.tuple l;have h:(dO c).map PyData.tuple=some p:=h;cases e:dO c with
  |none=>rw[e]at h;cases h
  |some P=>rw[e]at h;cases h;obtain⟨K,as,w⟩:=uG I c vs f P R m e;exact⟨K,as,.tuple g j k (by grind)⟩
 | .lst c,v,u,p,r,q,h=>by
  unfold Rep at r;obtain⟨a,vs,rfl,l,_,R⟩:=r;subst(q);obtain⟨f,m,y,_⟩:=I.list (.of l);obtain⟨o,g,j,n,k⟩:=y.isList;have h:(dO c).map PyData.list=some p:=h;cases e:dO c with
  |none=>rw[e]at h;cases h
  |some P=>rw[e]at h;cases h;obtain⟨K,as,w⟩:=uG I c vs f P R m e;exact⟨K,_,.list g j k (by simpa using w)⟩
 | .ref _,v,u,p,r,q,h=>by cases h
 | .scr _,v,u,p,r,q,h=>by cases h
 | .fn _,v,u,p,r,q,h=>by cases h
 | .dct,v,u,p,r,q,h=>by cases h
 | .dks _,v,u,p,r,q,h=>by cases h
 | .ty _,v,u,p,r,q,h=>by cases h
theorem uG(I:Inv X pq σ H s):∀(ds:List D) (vs:List V) (us:Lv) (ps:List PyData),aj X.K ⟨X.mg,F⟩ μ H ds vs->Vals vs us->dO ds=some ps->PyData.hasDictAll ps=Oy/\∃as,ReadsAll s.heap us ps as
 | [],vs,us,ps,r,q,h=>by unfold aj at r;subst r;cases q.zero;cases h;exact⟨rfl,_,.nil⟩
 |d::ds,vs,us,ps,r,q,h=>by
  obtain⟨w,W,rfl,R,f⟩:=r.uncons;obtain⟨u,U,rfl,Q,c⟩:=q.un;unfold dO at h;split at h
  ·rename_i p P e E;cases h;obtain⟨k,as,K⟩:=Ib I d w u p R Q e;obtain⟨a,bs,b⟩:=uG I ds W U P f c E;exact⟨by show(PyData.hasDict p||PyData.hasDictAll P)=Oy;rw[k,a];rfl,_,.cons K b⟩
  ·cases h
end
open PySem.SeqAt PySem.MeetsSeq PySem.MeetsSeq2 PySem.MeetsSeq3
open PySem.AutoSeq1 (wpAny_loadPart')
theorem Ic(f:Nat->β->Sem (ForInStep β))(I:Nat->β->Oz->Prop)(Q:β->Oz->Prop)
  (turn:∀i b s,i<n->I i b s->wpAny M A (f i b) (λr s'=>match r with| .yield B=>I (i+1) B s'| .done B=>Q B s') E s)
  (fin:∀b s,I n b s->Q b s) (b:β) (h:I 0 b s):wpAny M A (forIn [0:n] b f) Q E s:=by
 rw[Std.Legacy.Range.forIn_eq_forIn_range'];have d:[0:n].size=n:=by simp
 rw[d];refine Qn f (λl c S=>∃i,i<=n/\l=List.range' i (n-i) 1/\I i c S) Q ?_ ?_ _ b ⟨0,ZY _,rfl,h⟩
 ·rintro x R c S ⟨i,j,e,g⟩
  have a:i<n:=by
   rcases Nat.lt_or_ge i n with H|H
   ·exact H
   simp_all
  obtain⟨m,k⟩:∃m,n-i=m+1:=⟨n-i-1,by lia⟩;rw[k]at e;obtain⟨rfl,rfl⟩:=List.cons.inj e;refine O0 (turn x c _ a g) (λr o H=>?_) λ_ _ H=>H
  grind
 grind
theorem Ie(l:OA)(items:Av)(n:Nat)(dd:Option OA)(sl:Array (Ov))(x:OB)(e:OB->Bool)(j:Nat)(C:j<items.size)(f:e items[j]=Ox)(k:∀m (D:m<items.size),m<j->e items[m]=Oy):
  Meets (PF.«tuple.index» ⟨[.ref l,x],[]⟩)
   (λA R s=>s.heap.get? l=some {cls:=.type "tuple",dict:=dd,data:=.seq items n,slots:=sl}/\(∀y,y∈items->EqAt A.in1 s y x (e y))/\R (.ok (.ret (.int j s.toks))) {s with toks:=s.toks+1}):=
 .of_wp λp w A R s h=>by
  obtain⟨v,g,d,T,O⟩:=s;obtain⟨u,r,h⟩:=h;have H:min items.size items.size=items.size:=Nat.min_self _
  wp_walk using QW u,Ic (n:=min items.size items.size) _ (λi b S=>b.1=none/\S=⟨v,g,d,T,O⟩/\i<=j) _
  case turn=>
   rintro i b S c ⟨o,rfl,a⟩;rw[H]at c;rw[O5 c];refine Za (r items[i] (T7 c) p w _ _ ?_);by_cases q:i=j
   ·subst q;rw[f]
    wp_walk
    exact⟨_,rfl,h⟩
   ·rw[k i c (by omega)]
    wp_walk
    exact⟨rfl,rfl,by omega⟩
  case fin=>rintro⟨B,z⟩ S ⟨o,rfl,a⟩;rw[H]at a;omega
  case h=>exact⟨rfl,rfl,ZY _⟩
theorem Ig{prog:OF}{w:ON}{A:Pf}{E:Vs}{l:OA}{vs:Lv}{k:Int}{t:Tok}(q:s.heap.IsTuple l vs.toArray)(b:R6 vs ns)(o:k∈ns)
  (h:Q (.int (ns.idxOf k:Nat) s.toks) {s with toks:=s.toks+1}):wpAny (model prog w) A (call (.builtin "tuple.index") [.ref l,.int k t]) Q E s:=by
 obtain⟨⟨cls,u,D,sl⟩,f,g,n,j⟩:=id q;simp only at g j;subst g j
 have H:vs.length=ns.length:=by
  clear q f h o
  induction b with
  |nil=>rfl
  |cons _ _ _ I=>simp[I]
 have v:ns.idxOf k<ns.length:=Sz o;have r:∀(m:Nat) (a:m<vs.length),isInt k vs[m]=decide (ns[m]'(by omega)=k):=by intro m a;obtain⟨z,e⟩:=b.int_at m vs[m] (Zj a);rw[e,QQ,Zj (by omega)];simp only[isInt,Option.getD_some];exact Bool.beq_eq_decide_eq _ _
 refine P6 PySem.F.slot_tuple_index ⟨_,f,rfl⟩ PySem.F.entry_tuple_index (PySem.F.args_tuple_index_2 _ _) (Ie l vs.toArray n u sl (.int k t) (isInt k) (ns.idxOf k) (by simpa[H]using v) ?_ ?_) ⟨f,λy x=>(eq_isInt k t b y (by simpa using x)).at _ _,h⟩
 ·have:=r (ns.idxOf k) (by omega);rw[Tv,this];simp
 ·intro m a c;have d:m<vs.length:=by simpa using a
  rw[Tv,r m d];have:=Ta (p:=(· ==k)) (xs:=ns) (i:=m) c;simpa using this
noncomputable def uH(d:D)(ds:List D)(S:af):Res D:=match d,ds with
 | .tup xs,[.int k]=>match gH xs with
  |some ns=>if k∈ns then .ok (.int (ns.idxOf k:Nat)) S else .fail
  |none=>.fail
 |_,_=>.fail
theorem Af:jX X "tuple.index" (rM X.K X.mg uH):=by
 intro P s G H x B v U Q I y m h;obtain⟨F,C,S,d,D,A,l,R,w⟩:=h;unfold uH at w;split at w
 ·split at w
  ·rename_i N E;split at w
   ·rename_i i;have c:=Ac E;subst c;obtain⟨a,vs,rfl,g,r⟩:=bQ l;have j:=Ia _ _ r;subst j;obtain⟨z,rfl,f⟩:=R.one;cases aH f;subst y;obtain⟨u,rfl,n⟩:=m.one;obtain⟨t,rfl⟩:=n;obtain⟨k,q,p,f⟩:=I.tuple g;exact Ig p (Ad q) i ⟨.int _,H,I.kept λb o e=>e,⟨_,rfl⟩,w _ H _ .refl A bL⟩
   ·exact w.elim
  ·exact w.elim
 ·exact w.elim
end Py
namespace Py
noncomputable def cQ:List D->Option (Ls)
 | []=>some []
 | .str x::r=>(cQ r).map (x:: ·)
 |_=>none
theorem Ag:∀{xs:List D} {ns:Ls},cQ xs=some ns->xs=ns.map D.str
 | [],ns,h=>by cases h;rfl
 |x::xs,ns,h=>by
  cases x with
  |str i=>
   unfold cQ at h;cases e:cQ xs with
   |none=>rw[e]at h;cases h
   |some m=>rw[e]at h;cases h;rw[Ag e];rfl
  |_=>cases h
noncomputable def fN(s:Str)(ds:List D)(S:af):Res D:=match ds with
 | [d]=>match(cy S d).bind cQ with
  |some xs=>if s.length<=100/\xs.length<=1000/\(xs.all λx=>decide (x.length<=1000))=Ox then .ok (.str (Pt s xs)) S else .fail
  |none=>.fail
 |_=>.fail
theorem Ah{K:Fg}{m:GS}{μ:La}{H:Hp}:∀(xs:Ls) (vs:List V) (us:Lv),aj K m μ H (xs.map D.str) vs->Vals vs us->∃l:List (Str×Tok),strValues l=us/\l.map (·.1)=xs
 | [],vs,us,r,q=>by unfold aj at r;subst r;cases q;exact⟨[],rfl,rfl⟩
 |x::xs,vs,us,r,q=>by
  obtain⟨v,w,rfl,R,b⟩:=r.uncons;cases cc R;cases q with
  |cons p q=>obtain⟨t,rfl⟩:=p;obtain⟨l,h,a⟩:=Ah xs w _ b q;exact⟨(x,t)::l,by rw[<-h];rfl,by rw[ZV,a]⟩
section
variable {E:XK}{Φ:FT}
theorem Ih{c:Str}{t:Tok}{vs:List V}{Q:VK}(I:L2.Inv X pq σ H s)(rs:Vals vs us)
  (h:∃F μ S ds,aK X.K ⟨X.mg,F⟩ μ S H/\aj X.K ⟨X.mg,F⟩ μ H ds vs/\aO X.K ⟨X.mg,F⟩ μ H Q (fN c ds S)):wpAny (model X.prog X.w) X.A (call (.builtin "str.join") (.str c t::us)) (EP X pq σ Q) X.xe s:=by
 obtain⟨F,μ,S,ds,m,R,w⟩:=h;unfold fN at w;split at w
 ·rename_i d;split at w
  ·rename_i x E;split at w
   ·rename_i g;cases f:cy S d with
    |none=>rw[f]at E;cases E
    |some Y=>
     rw[f]at E;have j:=Ag E;subst j;obtain⟨v,rfl,G⟩:=R.one;obtain⟨a,W,rfl,z,r⟩:=dw m G f;obtain⟨u,rfl,J⟩:=rs.one;cases J;obtain⟨D,K,p,M⟩:=I.list (.of z);obtain⟨l,rfl,A⟩:=Ah _ _ _ r K
     have i:JoinOk c x=Ox:=by unfold JoinOk;rw[StrLaws.joinFits (B:=1000) (λy C=>ZS (Zp.mp g.2.2 y C)) (by have n:=g.1;have q:=g.2.1;have L:x.length*c.length<=1000*100:=Nat.mul_le_mul q n;omega)];rfl
     exact SC.join p.isList A i λT k=>⟨.str (Pt c x),H,I.kept (t':=k) λb o e=>e,⟨_,rfl⟩,w μ H _ .refl m dy⟩
   ·exact w.elim
  ·exact w.elim
 ·exact w.elim
end
open Builtin.Str (occurrences partsBetween)
inductive sd where
 |split|index
 deriving DecidableEq
noncomputable def gI(m:sd)(x:Str)(ds:List D)(S:af):Res D:=match m,ds with
 | .split,[.str y]=>if y.length≠0/\x.length<=a'/\(QR x y).length<=10000 then .ok (.lst ((QR x y).map D.str)) S else .fail
 | .index,[.str y]=>match occurrences x y 0 x.length 1 with
  |i::_=>.ok (.int i) S
  | []=>.fail
 |_,_=>.fail
noncomputable def gJ(x y:Str):D->af->Res D
 | .str z,S=>if z.length<=10000/\(x==y)=Oy/\y.length<=10 then .ok (.str (QJ z x y)) S else .fail
 |_,_=>.fail
noncomputable def iC:sd->String
 | .split=>"str.split"| .index=>"str.index"
noncomputable def nT:sd->Str
 | .split=>"split"| .index=>"index"
theorem Ii(m:sd):Slot "str" (nT m) (iC m):=by
 cases m with
 |split=>exact PySem.F.slot_str_split
 |index=>exact PySem.F.slot_str_index
theorem Ij(m:sd):typeOf (.builtin (iC m))=pure (.type "method_descriptor"):=by
 cases m with
 |split=>exact PySem.F.type_str_split
 |index=>exact PySem.F.type_str_index
theorem Ai:∀l:List (Str×Tok),Vals ((l.map (·.1)).map V.str) (strValues l)
 | []=>.nil
 | (x,t)::l=>.cons ⟨t,rfl⟩ (Ai l)
theorem Aj{K:Fg}{m:GS}{μ:La}{H:Hp}:∀l:Ls,aj K m μ H (l.map D.str) (l.map V.str)
 | []=>by unfold aj;rfl
 |x::l=>.cons dy (Aj l)
theorem uI{Q:VK}{xs:Ls}{tk:Nat}(l:List (Str×Tok))(I:L2.Inv X pq σ H s)(d:aK X.K ⟨X.mg,F⟩ μ S H)(a:l.map (·.1)=xs)(c:xs.length<=sizeLine)(w:aO X.K ⟨X.mg,F⟩ μ H Q (.ok (.lst (xs.map D.str)) S)):
  EP X pq σ Q (.ref s.heap.objs.size) {s with heap:=s.heap.push {cls:=.type "list",data:=.seq (strValues l).toArray},toks:=tk}:=by
 subst a;refine⟨.ref _,_,I.laid (t':=tk) (o:=.lst ((l.map (·.1)).map V.str)) (λb o q=>Zb _ q) (Zf _) ?_,rfl,w.lst d (Aj _) _ (I.hok.fresh (Zf _))⟩;exact⟨by simpa using c,_,0,Ai l,Zi _ rfl⟩
theorem Ik(m:sd){x:Str}{t:Tok}{vs:List V}{Q:VK}(I:L2.Inv X pq σ H s)(rs:Vals vs us)
  (h:∃F μ S ds,aK X.K ⟨X.mg,F⟩ μ S H/\aj X.K ⟨X.mg,F⟩ μ H ds vs/\aO X.K ⟨X.mg,F⟩ μ H Q (gI m x ds S)):wpAny (model X.prog X.w) X.A (call (.builtin (iC m)) (.str x t::us)) (EP X pq σ Q) X.xe s:=by
 obtain⟨F,μ,S,ds,d,r,w⟩:=h;have p:=ib;have j:(10000:Nat)<=a':=by decide
 unfold gI at w;split at w
 ·rename_i y;split at w
  ·rename_i n;obtain⟨v,rfl,g⟩:=r.one;cases cc g;obtain⟨_,rfl,u,rfl⟩:=vals1 rs;have l:(y.length==0)=Oy:=by simpa using n.1
   have f:x.length<=sizeLine:=by omega
   have c:(QR x y).length<=sizeLine:=by omega
   cases a:(decide (x.length<y.length)||decide (SF x<SF y))
   ·cases b:(occurrences x y 0 x.length (x.length+1)).isEmpty
    ·have e:QR x y=(partsBetween x (occurrences x y 0 x.length (x.length+1)) y.length):=(if_neg (by rw[a];decide)).trans (if_neg (by rw[b];decide));refine P6 PySem.F.slot_str_split (Qk _ _ _) PySem.F.entry_str_split (PySem.F.args_str_split_2 _ _) (meets_str_split_sep x y t u a l b f (by rw[<-e];exact c)) ?_;show wants _ _ _ {s with toks:=_,heap:=s.heap.push {cls:=.type "list",data:=.seq (strsFrom s.toks (partsBetween x (occurrences x y 0 x.length (x.length+1)) y.length)).toArray}};rw[strsFrom_eq];exact uI _ I d ((numbered_texts _ _).trans e.symm) c w
    ·have e:QR x y=[x]:=(if_neg (by rw[a];decide)).trans (if_pos b);exact P6 PySem.F.slot_str_split (Qk _ _ _) PySem.F.entry_str_split (PySem.F.args_str_split_2 _ _) (meets_str_split_not_found x y t u a l b) (uI [(x,t)] I d e.symm c w)
   ·have e:QR x y=[x]:=if_pos a;exact P6 PySem.F.slot_str_split (Qk _ _ _) PySem.F.entry_str_split (PySem.F.args_str_split_2 _ _) (meets_str_split_cannot_occur x y t u a) (uI [(x,t)] I d e.symm c w)
  ·exact w.elim
 ·rename_i y;split at w
  ·rename_i i R o;obtain⟨v,rfl,g⟩:=r.one;cases cc g;obtain⟨_,rfl,u,rfl⟩:=vals1 rs;exact SC.index o ⟨.int i,H,I.tok _,⟨_,rfl⟩,w.now d bL⟩
  ·exact w.elim
 ·exact w.elim
end Py
namespace Py
theorem Il(n:Nat):OZ none none (-1) (n:Int)=((n:Int)-1,-1):=rfl
theorem Io(n:Nat):OH ((n:Int)-1) (-1) (-1)=n:=by
 unfold OH;have h:¬((-1:Int)>0):=by omega
 have e:(-(-1:Int))=1:=by omega
 simp only[h,Z3,e,Tl];split<;>omega
theorem Ip{t:Tok}{Q:Int×Int×Nat->Oz->Prop}(hs:s.heap.IsSliceOf sl .none .none (.int (-1) t))
  (h:Q ((n:Int)-1,-1,n) s):wpAny (model prog w) A (QB (.ref sl) (pure (n:Int))) Q E s:=by
 obtain⟨o,a,b,H⟩:=id hs;refine Za (Za (ZM a H rfl (Za (ZM a H rfl (Za (ZM a H rfl (Ze ?_)))))));refine Za (HT.ng (.int (-1) t) ?_);show wpAny _ _ (match OZ none none (-1) (n)with| (lo,c)=>pure (lo,(-1),OH lo c (-1))) _ _ s;rw[Il n];show wpAny _ _ (pure _) _ _ s;rw[Io];exact Ze h
theorem nU{a b:Type}{f g:a->Option b}:∀{l:List a},(∀x∈l,f x=g x)->l.filterMap f=l.filterMap g
 | [],_=>rfl
 |x::l,h=>by have t:=nU (l:=l) λy H=>h y (Zc _ H);rw[QL,QL,h x Zd,t]
theorem Iq(xs:Av):((OD xs.size).filterMap λ(m:Nat)=>xs[(((xs.size:Int)-1)+(m:Int)*(-1)).toNat]?).toArray=xs.toList.reverse.toArray:=by
 have h:=pick_run xs.toList.reverse.toArray 0 xs.size;rw[PV]at h;have e:xs.toList.reverse.toArray.toList.drop 0=xs.toList.reverse:=by simp
 rw[e,Ro (by simp)]at h;rw[<-h];congr 1;refine nU λm a=>?_;have H:m<xs.size:=Pd.1 a;have E:(((xs.size:Int)-1)+(m:Int)*(-1)).toNat=xs.size-1-m:=by omega
 rw[E];show xs[xs.size-1-m]?=xs.toList.reverse.toArray[0+m]?;rw[Ru,Rx (xs:=xs.toList.reverse),Tn (by simpa using H),ZH,O6]
theorem Ir{prog:OF}{w:ON}{A:Pf}{E:Vs}{t:OA}{u:Tok}(a:SR s.heap t items)(hs:s.heap.IsSliceOf sl .none .none (.int (-1) u))
  (h:Q (.ref s.heap.objs.size) {s with heap:=s.heap.push {cls:=.type "tuple",data:=.seq items.toList.reverse.toArray}})
  (f:items.size<=sizeLine):wpAny (model prog w) A (getItem (.ref t) (.ref sl)) Q E s:=by
 have H:=by show items.toList.reverse.toArray.size<=sizeLine;simp_all
 obtain⟨o,c,b,e⟩:=id hs;unfold getItem
 try with_reducible refine ZL ?_
 refine Za (Rm a.typeIs (rfl) ?_)
 refine Za (ZN a.typeIs ZK
  (ZO ZK a.typeIs Q1 ?_ (Ra _ _)))
 show wpAny _ _ (PU _>>=_) _ _ s;refine Za (Sf a ?_);refine Za (Qm ⟨_,c,b⟩ ?_);refine Za (Ip hs ?_);show wpAny _ _ (if((items.size:Int)-1==0&&(-1)==1&&items.size==items.size)=Ox then _ else _) _ _ s;rw[if_neg (by simp),Iq]
 first
  |exact Za (ZR (Ze ⟨_,rfl,Ze h⟩) H)
  |rfl
  |rfl
  |lia
noncomputable def j_(d k:D)(S:af):Res D:=match d,k with
 | .tup xs,.int i=>if i= -1 then .ok (.tup xs.reverse) S else .fail
 |_,_=>nF d k S
def Iu(K:Fg)(m:Mg):V->V->Hp->VK->Prop:=λx y H Q=>∃F μ S d k,aK K ⟨m,F⟩ μ S H/\Rep K ⟨m,F⟩ μ H d x/\Rep K ⟨m,F⟩ μ H k y/\aO K ⟨m,F⟩ μ H Q (j_ d k S)
theorem uJ{st:Expr}{ts:TE}{pos:Pos}(V:PE X e te)(hs:PE X st ts):PE X (.Subscript e (.Slice none none (some st) p2) pos) (λσ H Q=>te σ H λx H1=>ts σ H1 λy H2=>Iu X.K X.mg x y H2 Q):=by
 intro p s σ H Q I h;refine Tg (aT (V p s σ H _ I h) λv s1 Z=>?_);obtain⟨x,H1,P,R,q1⟩:=Z;refine wpAny_Slice ?_;rw[evalPart_none,TN];refine Ze (Ze (aT (hs p s1 σ H1 _ P q1) λvs c Z=>?_));obtain⟨y,m,n,D,q3⟩:=Z;obtain⟨F,μ,S,d,k,M,G,J,w⟩:=q3;unfold j_ at w;split at w
 ·rename_i xs i;split at w
  ·rename_i Y;subst Y;have E:=aH J;subst E;obtain⟨t,rfl⟩:=D;obtain⟨a,W,rfl,hq,r⟩:=bQ G;cases R;have g:Inv X p σ m {c with heap:=c.heap.push {cls:=.type "slice",data:=.fields #[.none,.none,.int (-1) t]}}:=n.kept (t':=c.toks) λb C q=>Zb _ q;obtain⟨l,L,A,B⟩:=g.tuple hq;have j:l.toArray.size=W.length:=by rw[Zu];exact L.length.symm
   show wpAny (model X.prog X.w) X.A (subscriptTail e (.Slice none none (some st) p2) (.ref a) (.ref c.heap.objs.size)) (EP X p σ Q) X.xe {c with heap:=c.heap.push {cls:=.type "slice",data:=.fields #[.none,.none,.int (-1) t]}};refine Sy (ops:=[.ref a,.ref c.heap.objs.size]) A.typeIs PyProof.Rows.slot_tuple_getitem.lookup (Ir A (Qy ..) ?_ (by rw[j];exact B)) (by with_unfolding_all rfl);refine⟨.ref _,_,g.laid (t':=c.toks) (o:=.tup W.reverse) (λb C q=>Zb _ q) (Zf _) ?_,rfl,w.tup M r.reverse _ (g.hok.fresh (Zf _))⟩;exact⟨by rw[PM];exact B,_,L.reverse,R9 _ _,mC.new _ _⟩
  ·exact w.elim
 ·have hk:∃z,d=.str z/\k=.int (-1):=by
   unfold nF at w;split at w
   ·split at w
    ·rename_i U;rw[U.1];exact⟨_,rfl,rfl⟩
    ·exact w.elim
   ·exact w.elim
  obtain⟨z,rfl,rfl⟩:=hk;have E:=aH J;subst E;obtain⟨t,rfl⟩:=D;have g:Inv X p σ m {c with heap:=c.heap.push {cls:=.type "slice",data:=.fields #[.none,.none,.int (-1) t]}}:=n.kept (t':=c.toks) λb C q=>Zb _ q;obtain⟨N,T,rfl,K⟩:=zF (sl:=c.heap.objs.size) (u:=t) g R (Zi _ rfl) M G w;exact Sy (ops:=[.str N T,.ref c.heap.objs.size]) (Qk _ N T) PySem.F.slot_str_getitem.lookup K (by with_unfolding_all rfl)
theorem Iv(n:Nat):OZ none (some 0) (-1) (n:Int)=((n:Int)-1,min 0 ((n:Int)-1)):=rfl
theorem Iw(n:Nat):OH ((n:Int)-1) (min 0 ((n:Int)-1)) (-1)=n-1:=by
 unfold OH;have h:¬((-1:Int)>0):=by omega
 have e:(-(-1:Int))=1:=by omega
 simp only[h,Z3,e,Tl];split<;>omega
theorem Iy{t u:Tok}{Q:Int×Int×Nat->Oz->Prop}(hs:s.heap.IsSliceOf sl .none (.int 0 u) (.int (-1) t))
  (h:Q ((n:Int)-1,-1,n-1) s):wpAny (model prog w) A (QB (.ref sl) (pure (n:Int))) Q E s:=by
 obtain⟨o,a,b,H⟩:=id hs;refine Za (Za (ZM a H (x:=.none) rfl (Za (ZM a H (x:=.int 0 u) rfl (Za (ZM a H rfl (Ze ?_)))))));refine Za (HT.ng (.int (-1) t) ?_);show wpAny _ _ (match OZ none (some 0) (-1) (n:Int)with| (lo,c)=>pure (lo,(-1:Int),OH lo c (-1))) _ _ s;rw[Iv n];show wpAny _ _ (pure _) _ _ s;rw[Iw];exact Ze h
theorem Ak(xs:Av):((OD (xs.size-1)).filterMap λ(m:Nat)=>xs[(((xs.size:Int)-1)+(m:Int)*(-1)).toNat]?).toArray=xs.toList.tail.reverse.toArray:=by
 have h:=pick_run xs.toList.tail.reverse.toArray 0 (xs.size-1);rw[PV]at h;have e:xs.toList.tail.reverse.toArray.toList.drop 0=xs.toList.tail.reverse:=by simp
 rw[e,Ro (by simp)]at h;rw[<-h];congr 1;refine nU λm a=>?_;have H:m<xs.size-1:=Pd.1 a;have E:(((xs.size:Int)-1)+(m:Int)*(-1)).toNat=xs.size-1-m:=by omega
 rw[E];show xs[xs.size-1-m]?=xs.toList.tail.reverse.toArray[0+m]?;rw[Ru,Rx (xs:=xs.toList.tail.reverse),Tn (by simpa using H),Rg,ZH,List.getElem?_tail,O6];congr 1;omega
theorem Iz{prog:OF}{w:ON}{A:Pf}{E:Vs}{t:OA}{u v:Tok}(a:SR s.heap t items)(hs:s.heap.IsSliceOf sl .none (.int 0 v) (.int (-1) u))
  (h:Q (.ref s.heap.objs.size) {s with heap:=s.heap.push {cls:=.type "tuple",data:=.seq items.toList.tail.reverse.toArray}})
  (i:items.size<=sizeLine):wpAny (model prog w) A (getItem (.ref t) (.ref sl)) Q E s:=by
 have H:=by show items.toList.tail.reverse.toArray.size<=sizeLine;simp;omega
 obtain⟨o,e,c,g⟩:=id hs;have b:s.TypeIs (.ref sl) "slice":=⟨o,e,c⟩;unfold getItem
 try with_reducible refine ZL ?_
 refine Za (Rm a.typeIs (by decide) ?_)
 refine Za (ZN a.typeIs ZK
  (ZO ZK a.typeIs Q1 ?_ (Ra _ _)))
 show wpAny _ _ (PU (.ref t)>>=_) _ _ s;refine Za (Sf a ?_);refine Za (Qm b ?_);refine Za (Iy hs ?_);have d:¬((((items.size:Int)-1)==0&& -1==1&&(items.size-1)==items.size)=Ox):=by simp_all
 show wpAny _ _ (if(((items.size:Int)-1)==0&& -1==1&&(items.size-1)==items.size)=Ox then _ else _) _ _ s;rw[if_neg d,Ak]
 first
  |exact Za (ZR (Ze ⟨_,rfl,Ze h⟩) H)
  |simp_all
  |simp_all
  |simp_all
theorem IA(its:Lv):slicePick its.toArray none (some 0) (some (-1))=its.tail.reverse.toArray:=by
 unfold slicePick
 have e:sliceBounds none (some 0) (some (-1)) its.toArray.size=((its.length:Int)-1,min 0 ((its.length:Int)-1),-1):=by
  unfold sliceBounds;simp
  try omega
 rw[e];show((sliceRange ((its.length:Int)-1) (min 0 ((its.length:Int)-1)) (-1)).filterMap λk=>its.toArray[k]?).toArray=_;unfold sliceRange;rw[PV]
 have H:(if(-1:Int)>0 then(if(its.length:Int)-1<min 0 ((its.length:Int)-1)then(min 0 ((its.length:Int)-1)-((its.length:Int)-1)+(-1)-1)/(-1)else 0)
   else(if(its.length:Int)-1>min 0 ((its.length:Int)-1)then((its.length:Int)-1-min 0 ((its.length:Int)-1)-(-1)-1)/(-(-1))else 0)).toNat=its.length-1:=by
  rw[if_neg (by decide)];have E:(-(-1:Int))=1:=rfl;rw[E,Tl];split<;>omega
 simp only[H];have h:=Ak its.toArray;simp only[Zu]at h;rw[<-h];congr 1;refine nU λm a=>?_;show its.toArray[((its.length:Int)-1+(-1)*(m:Int)).toNat]?=its.toArray[((its.length:Int)-1+(m:Int)*(-1)).toNat]?;congr 2;omega
noncomputable def nV(d z k:D)(S:af):Res D:=match cy S d,z,k with
 |some xs,.int j,.int i=>if j=0/\i= -1 then .ok (.lst xs.tail.reverse) S else .fail
 |_,_,_=>.fail
noncomputable def ka(d z k:D)(S:af):Res D:=match d,z,k with
 | .tup xs,.int j,.int i=>if j=0/\i= -1 then .ok (.tup xs.tail.reverse) S else .fail
 |d,z,k=>nV d z k S
theorem aj.tail{m:GS}{vs:List V}(r:aj K m μ H ds vs):aj K m μ H ds.tail vs.tail:=by
 cases ds with
 |nil=>subst r;rfl
 |cons d ds=>obtain⟨v,w,rfl,_,t⟩:=r.uncons;exact t
theorem Vals.tl{vs:List V}(r:Vals vs us):Vals vs.tail us.tail:=by
 cases r with
 |nil=>exact .nil
 |cons _ t=>exact t
def IB(K:Fg)(m:Mg):V->V->V->Hp->VK->Prop:=λx z y H Q=>∃F μ S d j k,aK K ⟨m,F⟩ μ S H/\Rep K ⟨m,F⟩ μ H d x/\Rep K ⟨m,F⟩ μ H j z/\Rep K ⟨m,F⟩ μ H k y/\aO K ⟨m,F⟩ μ H Q (ka d j k S)
theorem uK{n st:Expr}{th ts:TE}{pos:Pos}(he:PE X e te)(hh:PE X n th)(hs:PE X st ts):PE X (.Subscript e (.Slice none (some n) (some st) p2) pos) (λσ H Q=>te σ H λx H1=>th σ H1 λz H2=>ts σ H2 λy A=>IB X.K X.mg x z y A Q):=by
 intro p s σ H Q I h;refine Tg (aT (he p s σ H _ I h) λv s1 Z=>?_);obtain⟨x,H1,I1,N,q1⟩:=Z;refine wpAny_Slice ?_;rw[evalPart_none,TN,TN];refine Ze (aT (hh p s1 σ H1 _ I1 q1) λvz s2 ⟨z,H2,I2,P,q2⟩=>aT (hs p s2 σ H2 _ I2 q2) λvs c Z=>?_);obtain⟨y,A,M,U,q3⟩:=Z;obtain⟨F,μ,S,d,j,k,L,V,Y,rk,w⟩:=q3;cases E:cy S d with
 |some xs=>
  have hw:ka d j k S=nV d j k S:=by cases d<;>first|rfl|cases E
  rw[hw]at w;unfold nV at w;rw[E]at w;cases j<;>first|exact w.elim|skip
  cases k<;>first|exact w.elim|skip
  rename_i j i;replace w:aO X.K ⟨X.mg,F⟩ μ A Q (if j=0/\i= -1 then .ok (.lst xs.tail.reverse) S else .fail):=w;split at w
  ·rename_i n;obtain⟨rfl,rfl⟩:=n;have C:=aH rk;subst C;have D:=aH Y;subst D;obtain⟨t,rfl⟩:=U;obtain⟨u,rfl⟩:=P;obtain⟨a,W,rfl,G,r⟩:=dw L V E;cases N;have l:Inv X p σ A {c with heap:=c.heap.push {cls:=.type "slice",data:=.fields #[.none,.int 0 u,.int (-1) t]}}:=M.kept (t':=c.toks) λb O q=>Zb _ q;obtain⟨m,R,B,J⟩:=l.list (.of G);have g:m.toArray.size=W.length:=by rw[Zu];exact R.length.symm
   show wpAny (model X.prog X.w) X.A (subscriptTail e (.Slice none (some _) (some st) p2) (.ref a) (.ref c.heap.objs.size)) (EP X p σ Q) X.xe {c with heap:=c.heap.push {cls:=.type "slice",data:=.fields #[.none,.int 0 u,.int (-1) t]}};refine Sy (ops:=[.ref a,.ref c.heap.objs.size]) B.isList.typeIs slot_list_getitem.lookup (TK B.isList (Qy ..) .none (.int 0 u) (.int (-1) t) (by simp) ?_ (by rw[g];exact J)) (by with_unfolding_all rfl);rw[IA];refine⟨.ref _,_,l.laid (t':=c.toks) (o:=.lst W.tail.reverse) (λb O q=>Zb _ q) (Zf _) ?_,rfl,w.lst L r.tail.reverse _ (l.hok.fresh (Zf _))⟩;exact⟨by rw[PM,Rg];omega,_,0,(Vals.tl R).reverse,Zi _ rfl⟩
  ·exact w.elim
 |none=>
 unfold ka at w;split at w
 ·rename_i xs j i;split at w
  ·rename_i n;obtain⟨rfl,rfl⟩:=n;have C:=aH rk;subst C;have D:=aH Y;subst D;obtain⟨t,rfl⟩:=U;obtain⟨u,rfl⟩:=P;obtain⟨a,W,rfl,G,r⟩:=bQ V;cases N;have l:Inv X p σ A {c with heap:=c.heap.push {cls:=.type "slice",data:=.fields #[.none,.int 0 u,.int (-1) t]}}:=M.kept (t':=c.toks) λb O q=>Zb _ q;obtain⟨m,R,B,J⟩:=l.tuple G;have g:m.toArray.size=W.length:=by rw[Zu];exact R.length.symm
   show wpAny (model X.prog X.w) X.A (subscriptTail e (.Slice none (some _) (some st) p2) (.ref a) (.ref c.heap.objs.size)) (EP X p σ Q) X.xe {c with heap:=c.heap.push {cls:=.type "slice",data:=.fields #[.none,.int 0 u,.int (-1) t]}};refine Sy (ops:=[.ref a,.ref c.heap.objs.size]) B.typeIs PyProof.Rows.slot_tuple_getitem.lookup (Iz B (Qy ..) ?_ (by rw[g];exact J)) (by with_unfolding_all rfl);refine⟨.ref _,_,l.laid (t':=c.toks) (o:=.tup W.tail.reverse) (λb O q=>Zb _ q) (Zf _) ?_,rfl,w.tup L r.tail.reverse _ (l.hok.fresh (Zf _))⟩;exact⟨by rw[PM,Rg];omega,_,(Vals.tl R).reverse,R9 _ _,mC.new _ _⟩
  ·exact w.elim
 ·unfold nV at w;rw[E]at w;exact w.elim
section
open PySem.AutoSeq1 (wpAny_loadPart')
open PySem.MeetsSeq PySem.MeetsSeq2 PySem.MeetsSeq3
open PySem.AutoSeq1
end
set_option genInjectivity false in
inductive e_ where
 |int|seq (t:e_)
 deriving DecidableEq
set_option genInjectivity false in
inductive il where
 |len|tuple|list (box:Bool)|int|min|max|isinst|all|any|sum|repr|abs|str|sorted (box:Bool) (t:e_)
 deriving DecidableEq
inductive se where
 |append|extend|pop|count|insert|index
 deriving DecidableEq
set_option genInjectivity false in
inductive CT where
 |var (i:Nat)
 |tup (ts:List CT)
set_option genInjectivity false in
inductive CE where
 |var (i:Nat)
 |lit (d:D)
 |glob (x:Str)
 |ty (n:String)
 |bin (op:Sx) (a b:CE)
 |catB (a b:CE)
 |neg (a:CE)
 |cmp (op:QZ) (a b:CE)
 |chain (op op':QZ) (a b c:CE)
 |chain3 (op op' op'':QZ) (a b c d:CE)
 |band (a b:CE)
 |bor (a b:CE)
 |bnot (a:CE)
 |ite (c a b:CE)
 |tup (es:List CE)
 |lst (box:Bool) (es:List CE)
 |lstR (a b:CE) (l:Str) (c d:CE) (x y:Str) (es:List CE)
 |idx (a b:CE)
 |sl (a:CE) (lo hi:List CE)
 |call (f:Str) (es:List CE)
 |blt (b:il) (es:List CE)
 |meth (m:se) (o:CE) (es:List CE)
 |tix (o:CE) (es:List CE)
 |smt (m:sd) (o:CE) (es:List CE)
 |join (s:Str) (es:List CE)
 |lenset (a:CE)
 |sset (a:CE)
 |comp (box:Bool) (N:Ls) (fr:List (Option Nat)) (tg:CT) (it:CE) (ifs:List CE) (body:CE)
 |emit (e:CE)
 |inner (tg:CT) (it:CE) (ifs:List CE) (body:CE)
 |seq (e:CE)
 |range (es:List CE)
 |zip (es:List CE)
 |dct
 |rev (a b:CE)
 |rv0 (a b c:CE)
set_option genInjectivity false in
inductive CS where
 |asg (i:Nat) (e:CE)
 |asgT (t:CT) (e:CE)
 |set (o i v:CE)
 |expr (e:CE)
 |ret (e:CE)
 |retN
 |pass
 |brk
 |cont
 |ite (c:CE) (a b:List CS)
 |for_ (t:CT) (it:CE) (body:List CS)
 |while_ (n:Nat) (c:CE) (body:List CS)
 |never
 |raise_ (x:Str) (es:List CE)
 |tryK (i:Nat) (body:List CS) (f:Str) (ys ws:Ls)
 |tryN (x:Str) (i:Nat) (body:List CS) (f:Str) (ys ws:Ls)
abbrev bv:=List (Option D)
abbrev FT:=Str->Option (List D->af->Res D)
noncomputable def Res.bind{b c:Type}(r:Res b)(f:b->af->Res c):Res c:=match r with
 | .ok a S=>f a S
 | .err x S=>.err x S
 | .fail=>.fail
noncomputable def Res.noErr{b:Type}:Res b->Res b
 | .ok a S=>.ok a S
 |_=>.fail
noncomputable def ax{a:Type}(d:D)(f:Bool->Res a):Res a:=match d with
 | .bl k=>f k
 |_=>.fail
noncomputable def bH:List CT->List D->bv->Option bv
 | [],ds,ρ=>if ds.isEmpty=Ox then some ρ else none
 |t::ts,ds,ρ=>match t,ds with
  | .var i,d::ds=>bH ts ds (ρ.set i (some d))
  |_,_=>none
noncomputable def aL:CT->D->bv->Option bv
 | .var i,d,ρ=>some (ρ.set i (some d))
 | .tup ts,d,ρ=>match d with
  | .tup ds=>bH ts ds ρ
  |_=>none
noncomputable def dP:List CT->List Nat
 | []=>[]
 |t::ts=>match t with
  | .var i=>i::dP ts
  | .tup _=>dP ts
noncomputable def slots:CT->List Nat
 | .var i=>[i]
 | .tup ts=>dP ts
noncomputable def bZ:bv->List Nat->Bool
 |ρ,is=>is.all λi=>match ρ[i]? with
  |some none=>Ox
  |_=>Oy
noncomputable def bp(t:CT)(d:D)(ρ:bv):Option bv:=if bZ ρ (slots t)=Ox then aL t d ρ else none
set_option genInjectivity false in
inductive iT where
 |items (xs:List D)|live (f:Nat) (get:af->Nat->Option (Option D))
noncomputable def aV(step:D->List D->af->Res (List D)):List D->List D->af->Res (List D)
 | [],acc,S=>.ok acc S
 |x::xs,acc,S=>(step x acc S).bind λa S'=>aV step xs a S'
noncomputable def cE(step:D->List D->af->Res (List D))(get:af->Nat->Option (Option D)):Nat->Nat->List D->af->Res (List D)
 |0,_,_,_=>.fail
 |f+1,i,acc,S=>match get S i with
  |none=>.fail
  |some none=>.ok acc S
  |some (some x)=>(step x acc S).bind λa S'=>cE step get f (i+1) a S'
noncomputable def b3(step:D->List D->af->Res (List D))(its:iT)(a:List D)(S:af):Res (List D):=match its with
 | .items xs=>aV step xs a S
 | .live f get=>cE step get f 0 a S
noncomputable def gK(n:Nat):af->Nat->Option (Option D):=λS i=>(S[n]?).map λxs=>xs[i]?
noncomputable def dQ(S:af):D->Option iT
 | .tup xs=>some (.items xs)
 | .lst xs=>some (.items xs)
 | .scr xs=>some (.items xs)
 | .ref n=>some (.live (((S[n]?).getD []).length+1) (gK n))
 |_=>none
noncomputable def nW:D->Option (List D)
 | .tup xs=>some xs
 | .lst xs=>some xs
 | .scr xs=>some xs
 |_=>none
noncomputable def nX(d e:D):af->Nat->Option (Option D):=λS i=>match aB S d,aB S e with
 |some xs,some ys=>some (match xs[i]?,ys[i]? with
  |some x,some y=>some (.tup [x,y])
  |_,_=>none)
 |_,_=>none
noncomputable def ff:D->Bool
 | .tup _=>Oy
 |_=>Ox
noncomputable def dR(S:af)(d e:D):Option iT:=match nW d,nW e with
  |some xs,some ys=>some (.items (OC (λx y=>.tup [x,y]) xs ys))
  |_,_=>match aB S d,aB S e with
   |some xs,some ys=>some (.live (min xs.length ys.length+1) (nX d e))
   |_,_=>none
noncomputable def dU(l:Int):Nat->List D
 |0=>[]
 |n+1=>.int l::dU (l+1) n
noncomputable def dt:List D->Option (Option Int)
 | []=>some none
 | [.int i]=>some (some i)
 |_=>none
noncomputable def cz(ds:List D)(S:af):Res (Option Int):=match dt ds with
 |some o=>.ok o S
 |none=>.fail
noncomputable def az:e_->D->Bool
 | .int,.int _=>Ox
 | .seq t,.tup xs=>xs.all (az t)
 |_,_=>Oy
noncomputable def bR(f:D->D->Bool):List D->List D->Bool
 | [],[]=>Oy
 | [],_::_=>Ox
 |_::_,[]=>Oy
 |x::xs,y::ys=>if f x y=Ox then Ox else if f y x=Ox then Oy else bR f xs ys
noncomputable def b4:e_->D->D->Bool
 | .int,.int i,.int j=>decide (i<j)
 | .seq t,.tup xs,.tup ys=>bR (b4 t) xs ys
 |_,_,_=>Oy
noncomputable def ej(f:D->D->Bool)(x:D):List D->List D
 | []=>[x]
 |y::ys=>if f x y=Ox then x::y::ys else y::ej f x ys
noncomputable def fg(f:D->D->Bool)(xs:List D):List D:=xs.foldl (λacc x=>ej f x acc) []
noncomputable def cb:e_->Bool
 | .int=>Ox
 | .seq t=>cb t
noncomputable def fO:D->Bool
 | .tup []=>Ox
 |_=>Oy
noncomputable def gL:e_->List D->Bool
 | .int,_=>Ox
 | .seq t,xs=>cb t&&(xs.all λd=> !fO d)
noncomputable def kb(box:Bool)(t:e_)(ds:List D)(S:af):Res D:=match ds with
 | [d]=>match aB S d with
  |some xs=>if xs.all (az t)=Ox/\xs.length<64/\gL t xs=Ox then(if box=Ox then .ok (.ref S.length) (S++[fg (b4 t) xs])else .ok (.lst (fg (b4 t) xs)) S)else .fail
  |none=>.fail
 |_=>.fail
noncomputable def cR:D->Option Int
 | .int i=>some i
 |_=>none
noncomputable def cS(ns:Li):Li:=ns.foldl Pj []
noncomputable def fP:D->Li
 | .tup ds=>ds.filterMap cR
 |_=>[]
noncomputable def kc(ks:List (Li)):List (Li):=ks.foldl (λacc k=>if acc.contains k=Ox then acc else acc++[k]) []
noncomputable def iU(d:D)(S:af):Res D:=match aB S d with
  |some xs=>if xs.all (az .int)=Ox/\xs.length<1000 then .ok (.int ((cS (xs.filterMap cR)).length:Nat)) S else .fail
  |none=>.fail
noncomputable def eE(ks:List (Li)):List D:=fg (b4 (.seq .int)) ((kc ks).map λk=>D.tup (k.map D.int))
noncomputable def eH(d:D)(S:af):Res D:=match aB S d with
 |some xs=>
  if xs.all (az (.seq .int))=Ox/\xs.length<64/\(xs.all λd=> !fO d)=Ox then .ok (.lst (eE (xs.map fP))) S else .fail
 |none=>.fail
noncomputable def cT:e_->Nat
 | .int=>1
 | .seq t=>cT t+1
noncomputable def uL:il->Bool
 | .sorted _ t=>decide (cT t<=40)
 | .sum=>Oy
 | .any=>Oy
 | .min=>Oy
 | .max=>Oy
 | .repr=>Oy
 | .abs=>Oy
 |_=>Ox
noncomputable def uM(ds:List D)(S:af):Res D:=match ds with
 | [.int k]=>if k.natAbs<2^64 then .ok (.str (toString k:String)) S else .fail
 |_=>.fail
noncomputable def aA:il->List D->af->Res D
 | .len=>c_| .tuple=>nH| .list b=>iB b| .int=>intD| .min=>λ_ _=>.fail | .max=>λ_ _=>.fail | .isinst=>bG| .all=>gF| .any=>λ_ _=>.fail | .sum=>λ_ _=>.fail | .repr=>λ_ _=>.fail | .abs=>λ_ _=>.fail | .str=>uM
 | .sorted b t=>kb b t
noncomputable def Al(d:D)(ds:List D)(S:af):Res D:=match ds with
 | []=>uB d [] S
 |ds=>j9 d ds S
noncomputable def fh:se->D->List D->af->Res D
 | .append=>ij| .extend=>λ_ _ _=>.fail | .pop=>Al| .count=>λ_ _ _=>.fail | .insert=>λ_ _ _=>.fail | .index=>λ_ _ _=>.fail
section
variable (Φ:FT)(Γ:Str->Option D)
mutual
noncomputable def ah:CE->bv->af->Res D
 | .var i,ρ,S=>match ρ[i]? with
  |some (some d)=>.ok d S
  |_=>.fail
 | .dct,ρ,S=>.ok .dct S
 | .lit d,ρ,S=>.ok d S
 | .glob x,ρ,S=>match Γ x with
  |some d=>.ok d S
  |none=>.fail
 | .ty n,ρ,S=>.ok (.ty n) S
 | .bin op a b,ρ,S=>(ah a ρ S).bind λd S1=>(ah b ρ S1).bind λe S2=>(fM op d e S2).noErr
 | .catB a b,ρ,S=>(ah a ρ S).bind λd S1=>(ah b ρ S1).bind λe S2=>(gD d e S2).noErr
 | .neg a,ρ,S=>(ah a ρ S).bind λd S1=>match d with
  | .int i=>.ok (.int (-i)) S1
  |_=>.fail
 | .cmp op a b,ρ,S=>(ah a ρ S).bind λd S1=>(ah b ρ S1).bind λe S2=>(aw op d e S2).noErr
 | .chain3 _ _ _ _ _ _ _,_,_=>.fail
 | .chain op op' a b c,ρ,S=>(ah a ρ S).bind λd S1=>(ah b ρ S1).bind λe S2=>(aw op d e S2).noErr.bind λk S3=>ax k λk=>if k=Ox then(ah c ρ S3).bind λf p=>(aw op' e f p).noErr else .ok (.bl Oy) S3
 | .band a b,ρ,S=>(ah a ρ S).bind λd S1=>ax d λk=>if k=Ox then ah b ρ S1 else .ok (.bl Oy) S1
 | .bor a b,ρ,S=>(ah a ρ S).bind λd S1=>ax d λk=>if k=Ox then .ok (.bl Ox) S1 else ah b ρ S1
 | .bnot a,ρ,S=>(ah a ρ S).bind λd S1=>match a9 S1 d with
  |some k=>.ok (.bl (!k)) S1
  |none=>.fail
 | .ite c a b,ρ,S=>(am c ρ S).bind λk S1=>if k=Ox then ah a ρ S1 else ah b ρ S1
 | .tup es,ρ,S=>(ai es ρ S).bind λds S1=>.ok (.tup ds) S1
 | .lst box es,ρ,S=>(ai es ρ S).bind λds S1=>if box=Ox then .ok (.ref S1.length) (S1++[ds])else .ok (.lst ds) S1
 | .lstR a b l c d x y es,ρ,S=>((ah a ρ S).bind λd1 S1=>(((ah b ρ S1).bind λd S2=>(fM .Add d (.str l) S2).noErr).bind λd2 S2=>((ah c ρ S2).bind λq S3=>(((ah d ρ S3).bind λz p=>(gJ x y z p).noErr).bind λr p=>(ai es ρ p).bind λds g=>.ok (r::ds) g).bind λds g=>.ok (q::ds) g).bind λds g=>.ok (d2::ds) g).bind λds g=>.ok (d1::ds) g).bind λds g=>if ds.length<1000 then .ok (.lst ds) g else .fail
 | .rev a b,ρ,S=>(ah a ρ S).bind λd S1=>(ah b ρ S1).bind λe S2=>(j_ d e S2).noErr
 | .rv0 a b c,ρ,S=>(ah a ρ S).bind λd S1=>(ah b ρ S1).bind λe S2=>(ah c ρ S2).bind λf S3=>(ka d e f S3).noErr
 | .idx a b,ρ,S=>(ah a ρ S).bind λd S1=>(ah b ρ S1).bind λe S2=>(a8 d e S2).noErr
 | .sl a lo hi,ρ,S=>(ah a ρ S).bind λd S1=>((ai lo ρ S1).bind cz).bind λl S2=>((ai hi ρ S2).bind cz).bind λh S3=>(ig d l h S3).noErr
 | .call f es,ρ,S=>match Φ f with
  |some φ=>(ai es ρ S).bind λds S1=>φ ds S1
  |none=>.fail
 | .blt b es,ρ,S=>(ai es ρ S).bind λds S1=>(aA b ds S1).noErr
 | .meth m o es,ρ,S=>(ah o ρ S).bind λd S1=>match d with
  | .ref n=>(ai es ρ S1).bind λds S2=>(fh m (.ref n) ds S2).noErr
  |_=>.fail
 | .smt m o es,ρ,S=>(ah o ρ S).bind λd S1=>match d with
  | .str x=>(ai es ρ S1).bind λds S2=>(gI m x ds S2).noErr
  |_=>.fail
 | .tix o es,ρ,S=>(ah o ρ S).bind λd S1=>match d with
  | .tup xs=>(ai es ρ S1).bind λds S2=>(uH (.tup xs) ds S2).noErr
  |_=>.fail
 | .join x es,ρ,S=>(ai es ρ S).bind λds S1=>(fN x ds S1).noErr
 | .lenset a,ρ,S=>(ah a ρ S).bind λd S1=>(iU d S1).noErr
 | .sset a,ρ,S=>(ah a ρ S).bind λd S1=>(eH d S1).noErr
 | .comp box N fr tg it ifs body,ρ,S=>(a7 it ρ S).bind λits S1=>
   (b3 (λx acc S2=>match bp tg x (fr.map λj=>j.bind λj=>(ρ[j]?).join)with
    |some ρ'=>(aX ifs ρ' S2).bind λk S3=>if k=Ox then bB body ρ' acc S3 else .ok acc S3
    |none=>.fail) its [] S1).noErr.bind λys g=>if box=Ox then .ok (.ref g.length) (g++[ys])else .ok (.lst ys) g
 | .emit _,_,_=>.fail
 | .inner _ _ _ _,_,_=>.fail
 | .seq _,_,_=>.fail
 | .range _,_,_=>.fail
 | .zip _,_,_=>.fail
noncomputable def am:CE->bv->af->Res Bool
 | .band a b,ρ,S=>(am a ρ S).bind λk S1=>if k=Ox then am b ρ S1 else .ok Oy S1
 | .bor a b,ρ,S=>(am a ρ S).bind λk S1=>if k=Ox then .ok Ox S1 else am b ρ S1
 | .bnot a,ρ,S=>(am a ρ S).bind λk S1=>.ok (!k) S1
 | .cmp op a b,ρ,S=>(ah a ρ S).bind λd S1=>(ah b ρ S1).bind λe S2=>(aw op d e S2).noErr.bind λk S3=>ax k λk=>.ok k S3
 | .chain3 op op' op'' a b c d,ρ,S=>(ah a ρ S).bind λx S1=>(ah b ρ S1).bind λe S2=>(aw op x e S2).noErr.bind λk S3=>ax k λk=>if k=Ox then(ah c ρ S3).bind λf j=>(aw op' e f j).noErr.bind λk h=>ax k λk=>if k=Ox then(ah d ρ h).bind λg l=>(aw op'' f g l).noErr.bind λk m=>ax k λk=>.ok k m else .ok Oy h else .ok Oy S3
 | .chain op op' a b c,ρ,S=>(ah a ρ S).bind λd S1=>(ah b ρ S1).bind λe S2=>(aw op d e S2).noErr.bind λk S3=>ax k λk=>if k=Ox then(ah c ρ S3).bind λf j=>(aw op' e f j).noErr.bind λk h=>ax k λk=>.ok k h else .ok Oy S3
 | .var i,ρ,S=>match ρ[i]? with
  |some (some d)=>match a9 S d with
   |some k=>.ok k S
   |none=>.fail
  |_=>.fail
 | .call f es,ρ,S=>match Φ f with
  |some φ=>(ai es ρ S).bind λds S1=>(φ ds S1).bind λd S2=>match a9 S2 d with
   |some k=>.ok k S2
   |none=>.fail
  |none=>.fail
 | .blt b es,ρ,S=>(ai es ρ S).bind λds S1=>(aA b ds S1).noErr.bind λd S2=>match a9 S2 d with
   |some k=>.ok k S2
   |none=>.fail
 | .lit d,ρ,S=>match a9 S d with
   |some k=>.ok k S
   |none=>.fail
 |_,_,_=>.fail
noncomputable def ai:List CE->bv->af->Res (List D)
 | [],_,S=>.ok [] S
 |e::es,ρ,S=>(ah e ρ S).bind λd S1=>(ai es ρ S1).bind λds S2=>.ok (d::ds) S2
noncomputable def aX:List CE->bv->af->Res Bool
 | [],_,S=>.ok Ox S
 |e::es,ρ,S=>(am e ρ S).bind λk S1=>if k=Ox then aX es ρ S1 else .ok Oy S1
noncomputable def a7:CE->bv->af->Res iT
 | .seq e,ρ,S=>(ah e ρ S).bind λd S1=>match dQ S1 d with
  |some xs=>.ok xs S1
  |none=>.fail
 | .range es,ρ,S=>(ai es ρ S).bind λds S1=>match ds with
  | [.int j]=>if-(2^62)<=j/\j<2^62 then .ok (.items (dU 0 j.toNat)) S1 else .fail
  | [.int i,.int j]=>if-(2^62)<=i/\i<2^62/\ -(2^62)<=j/\j<2^62 then .ok (.items (dU i (j-i).toNat)) S1 else .fail
  |_=>.fail
 | .zip es,ρ,S=>(ai es ρ S).bind λds S2=>match ds with
  | [d,e]=>(match dR S2 d e with
   |some its=>.ok its S2
   |none=>.fail)
  |_=>.fail
 |_,_,_=>.fail
noncomputable def bB:CE->bv->List D->af->Res (List D)
 | .emit e,ρ,acc,S=>(ah e ρ S).bind λy S1=>if acc.length<a' then .ok (acc++[y]) S1 else .fail
 | .inner tg it ifs body,ρ,acc,S=>(a7 it ρ S).bind λits S1=>
   b3 (λx acc S2=>match bp tg x ρ with
    |some ρ'=>(aX ifs ρ' S2).bind λk S3=>if k=Ox then bB body ρ' acc S3 else .ok acc S3
    |none=>.fail) its acc S1
 |_,_,_,_=>.fail
end
set_option genInjectivity false in
inductive Fl where
 |next(ρ:bv)|ret (d:D)|brk (ρ:bv)|cont (ρ:bv)
noncomputable def cK(step:D->bv->af->Res Fl):List D->bv->af->Res Fl
 | [],ρ,S=>.ok (.next ρ) S
 |x::xs,ρ,S=>(step x ρ S).bind λf S'=>match f with
  | .next ρ'=>cK step xs ρ' S'
  | .cont ρ'=>cK step xs ρ' S'
  | .brk ρ'=>.ok (.next ρ') S'
  | .ret d=>.ok (.ret d) S'
noncomputable def dV(step:D->bv->af->Res Fl)(get:af->Nat->Option (Option D)):Nat->Nat->bv->af->Res Fl
 |0,_,_,_=>.fail
 |f+1,i,ρ,S=>match get S i with
  |none=>.fail
  |some none=>.ok (.next ρ) S
  |some (some x)=>(step x ρ S).bind λF S'=>match F with
    | .next ρ'=>dV step get f (i+1) ρ' S'
    | .cont ρ'=>dV step get f (i+1) ρ' S'
    | .brk ρ'=>.ok (.next ρ') S'
    | .ret d=>.ok (.ret d) S'
noncomputable def nY(step:D->bv->af->Res Fl)(its:iT)(ρ:bv)(S:af):Res Fl:=match its with
 | .items xs=>cK step xs ρ S
 | .live f get=>dV step get f 0 ρ S
noncomputable def gM(c:bv->af->Res Bool)(step:bv->af->Res Fl):Nat->bv->af->Res Fl
 |0,_,_=>.fail
 |n+1,ρ,S=>(c ρ S).bind λk S1=>if k=Ox then(step ρ S1).bind λf S'=>match f with
   | .next ρ'=>gM c step n ρ' S'
   | .cont ρ'=>gM c step n ρ' S'
   | .brk ρ'=>.ok (.next ρ') S'
   | .ret d=>.ok (.ret d) S'
  else .ok (.next ρ) S1
mutual
noncomputable def ar:CS->bv->af->Res Fl
 | .asg i e,ρ,S=>(ah Φ Γ e ρ S).bind λd S1=>.ok (.next (ρ.set i (some d))) S1
 | .asgT t e,ρ,S=>(ah Φ Γ e ρ S).bind λd S1=>match aL t d ρ with
  |some ρ'=>.ok (.next ρ') S1
  |none=>.fail
 | .set o i v,ρ,S=>(ah Φ Γ v ρ S).bind λf S1=>(ah Φ Γ o ρ S1).bind λd S2=>(ah Φ Γ i ρ S2).bind λe S3=>match iR d e f S3 with
  |some g=>.ok (.next ρ) g
  |none=>.fail
 | .expr e,ρ,S=>(ah Φ Γ e ρ S).bind λ_ S1=>.ok (.next ρ) S1
 | .ret e,ρ,S=>(ah Φ Γ e ρ S).bind λd S1=>.ok (.ret d) S1
 | .retN,_,S=>.ok (.ret .non) S
 | .pass,ρ,S=>.ok (.next ρ) S
 | .brk,ρ,S=>.ok (.brk ρ) S
 | .cont,ρ,S=>.ok (.cont ρ) S
 | .ite c a b,ρ,S=>(am Φ Γ c ρ S).bind λk S1=>if k=Ox then ag a ρ S1 else ag b ρ S1
 | .for_ t it body,ρ,S=>(a7 Φ Γ it ρ S).bind λxs S1=>nY (λx ρ S=>match aL t x ρ with
   |some ρ'=>ag body ρ' S
   |none=>.fail) xs ρ S1
 | .while_ n c body,ρ,S=>gM (am Φ Γ c) (ag body) n ρ S
 | .never,_,_=>.fail
 | .raise_ x es,ρ,S=>(ai Φ Γ es ρ S).bind λds S1=>if ds.length<=1000 then .err ⟨x,[]⟩ S1 else .fail
 | .tryK _ body _ ys w,ρ,S=>match ag body ρ S with
  | .err x S'=>(match x.fs,(ys.zip w).lookup x.cls with
   | [],some r=>.ok (.ret (.str r)) S'
   |_,_=>.fail)
  |r=>r
 | .tryN y _ body _ ys w,ρ,S=>match ag body ρ S with
  | .err x S'=>(match x.fs,(ys.zip w).lookup x.cls with
   | [],some r=>.ok (.ret (.lst [.str y,.str r])) S'
   |_,_=>.fail)
  |r=>r
noncomputable def ag:List CS->bv->af->Res Fl
 | [],ρ,S=>.ok (.next ρ) S
 |c::cs,ρ,S=>(ar c ρ S).bind λf S1=>match f with
  | .next ρ'=>ag cs ρ' S1
  |f=>.ok f S1
end
end
end Py
variable {body cs:List Py.CS}{Φ:Py.FT}{ρ ρ':Py.bv}
namespace Py
def Am(m:Mg)(x:Exc)(cls:OB)(d:Option OA)(H:Hp):Prop:=m x.cls=some cls/\x.fs=[]
def An(m:Mg)(E:XK)(x:Exc)(H:Hp):Prop:=∀cls d,Am m x cls d H->E cls d H
noncomputable def ak{c d:Type}(K:Fg)(m:GS)(E:XK)(Rel:La->Hp->c->d->Prop)(μ:La)(H:Hp)(Q:d->Hp->Prop):Res c->Prop
 | .ok a S'=>∀μ' H' b,Ext μ H μ' H'->aK K m μ' S' H'->Rel μ' H' a b->Q b H'
 | .err x S'=>∀μ' H',Ext μ H μ' H'->aK K m μ' S' H'->An m.mg E x H'
 | .fail=>False
section
variable {mg:GS}{E:XK}
theorem b9{Q:VK}{r:Res D}(w:ak K mg E (Rep K mg) μ H Q r.noErr):aO K mg μ H Q r:=by cases r<;>first|exact w|exact w.elim
theorem ak.ext{Rel:La->Hp->α->β->Prop}{Q:β->Hp->Prop}{r:Res α}(x:Ext μ H μ' H')(w:ak K mg E Rel μ H Q r):ak K mg E Rel μ' H' Q r:=by
 cases r with
 |ok d S=>exact λa b v X s R=>w _ _ v (x.trans X) s R
 |err y S=>exact λa b X s=>w _ _ (x.trans X) s
 |fail=>exact w
theorem ak.bind{c d:Type}{Rel:La->Hp->α->β->Prop}{R:La->Hp->c->d->Prop}{Q:d->Hp->Prop}{r:Res α}{f:α->af->Res c}(w:ak K mg E R μ H Q (r.bind f)):
  ak K mg E Rel μ H (λb H'=>∃μ' S' a,Ext μ H μ' H'/\aK K mg μ' S' H'/\Rel μ' H' a b/\ak K mg E R μ' H' Q (f a S')) r:=by
 cases r with
 |ok a S'=>exact λe g b x s r=>⟨_,_,a,x,s,r,ak.ext x (show ak K _ E _ _ H Q _ from w)⟩
 |err y S'=>exact w
 |fail=>exact w
theorem ak.mono{Rel:La->Hp->α->β->Prop}{Q c:β->Hp->Prop}{r:Res α}(w:ak K mg E Rel μ H Q r)(h:∀b H',Q b H'->c b H'):ak K mg E Rel μ H c r:=by
 cases r with
 |ok a S=>exact λd e b x s r=>h b _ (w _ _ b x s r)
 |err y S=>exact w
 |fail=>exact w
def aZ(K:Fg)(m:GS)(μ:La)(H:Hp)(ρ:bv)(σ:L2.St):Prop:=
 ρ.length=σ.length/\∀(i:Nat) (d:D),ρ[i]?=some (some d)->∃v,σ[i]?=some (some v)/\Rep K m μ H d v
theorem aZ.mono(x:Ext μ H μ' H')(h:aZ K mg μ H ρ σ):aZ K mg μ' H' ρ σ:=
 ⟨h.1,λi d e=>(by obtain⟨v,a,b⟩:=h.2 i d e;exact(⟨v,a,Rep.mono x _ _ b⟩))⟩
theorem aZ.set{i:Nat}(h:aZ K mg μ H ρ σ)(r:Rep K mg μ H d v):aZ K mg μ H (ρ.set i (some d)) (σ.set i (some v)):=by
 refine⟨by simp[h.1],λj e a=>?_⟩;by_cases b:j=i
 ·subst b;have c:j<ρ.length:=by have:=(Zg.mp a).1;simpa using this
  rw[Z8 c]at a;cases a;exact⟨v,Z8 (by rw[<-h.1];exact c),r⟩
 ·rw[Pe (Ne.symm b)]at a⊢;exact h.2 j e a
end
section
variable (K:Fg)(mg:Mg)(E:XK)(Φ:FT)(Γ:Str->Option D)
noncomputable def tE(c:CE):TE:=λσ H Q=>∃F μ ρ S,aK K ⟨mg,F⟩ μ S H/\aZ K ⟨mg,F⟩ μ H ρ σ/\ak K ⟨mg,F⟩ E (Rep K ⟨mg,F⟩) μ H Q (ah Φ Γ c ρ S)
noncomputable def tT(c:CE):TT:=λσ H Q=>∃F μ ρ S,aK K ⟨mg,F⟩ μ S H/\aZ K ⟨mg,F⟩ μ H ρ σ/\ak K ⟨mg,F⟩ E (λ_ _ a b=>a=b) μ H Q (am Φ Γ c ρ S)
noncomputable def tL(cs:List CE):TA:=λσ H Q=>∃F μ ρ S,aK K ⟨mg,F⟩ μ S H/\aZ K ⟨mg,F⟩ μ H ρ σ/\ak K ⟨mg,F⟩ E (aj K ⟨mg,F⟩) μ H Q (ai Φ Γ cs ρ S)
end
theorem aQ{t t':TE}(h:PE X e t)(w:∀σ H Q,t' σ H Q->t σ H Q):PE X e t':=λp s σ H Q I q=>h _ s _ H Q I (w _ H Q q)
theorem dW{t t':TT}(h:PT X e t)(w:∀σ H Q,t' σ H Q->t σ H Q):PT X e t':=λp s σ H Q I q=>h _ s _ H Q I (w _ H Q q)
theorem fQ{e:Lx}{t t':TA}(h:PA X e t)(w:∀σ H Q,t' σ H Q->t σ H Q):PA X e t':=λpos p s σ H Q I q=>h _ _ s _ H Q I (w _ H Q q)
noncomputable def nZ(s:List (Str×Pm))(x:Str):Bool:=match s.lookup x with
 |some .local=>Ox|some .cell=>Ox|some .free=>Ox
 |_=>Oy
noncomputable def bh(s:List (Str×Pm))(x:Str):Bool:=s.lookup x==some .globalImplicit&& !(x==("__debug__":Str))&& !(x==("__name__":Str))
noncomputable def eM(x:Str):Bool:= !(x==("__debug__":Str))&& !(x==("__classdict__":Str))
noncomputable def bA:Expr->Bool
 | .Starred _ _=>Oy
 |_=>Ox
noncomputable def iD:D->Const->Bool
 | .non,.none=>Ox
 | .bl b,.bool c=>b==c
 | .int i,.int j=>i==j
 | .str x,.str y=>x==y
 |_,_=>Oy
noncomputable def im:il->Str
 | .len=>"len"| .tuple=>"tuple"| .list _=>"list"| .int=>"int"| .min=>"min"| .max=>"max"| .isinst=>"isinstance"| .all=>"all"| .any=>"any"| .sum=>"sum"| .repr=>"repr"| .abs=>"abs"| .str=>"str"| .sorted _ _=>"sorted"
noncomputable def ke:il->OB
 | .len=>.builtin "len"| .tuple=>.type "tuple"| .list _=>.type "list"| .int=>.type "int"| .min=>.builtin "min"| .max=>.builtin "max"| .isinst=>.builtin "isinstance"| .all=>.builtin "all"| .any=>.builtin "any"| .sum=>.builtin "sum"| .repr=>.builtin "repr"| .abs=>.builtin "abs"| .str=>.type "str"| .sorted _ _=>.builtin "sorted"
theorem IC(b:il):bootBuiltins (im b)=some (ke b):=by
 cases b with
 |list box=>rfl
 |sorted box t=>rfl
 |_=>decide+kernel
noncomputable def iV:List String:=["int","bool","str","tuple","list","dict"]
theorem n_{n:String}(h:iV.contains n=Ox):bootBuiltins (PH n)=some (.type n):=by simp[iV]at h;rcases h with rfl|rfl|rfl|rfl|rfl|rfl<;>decide+kernel
abbrev Sc:=List (Str×Pm)
noncomputable def kf(N s:Sc):Sc:=N.map λ(n,k)=>if(k== .free&&s.lookup n==some .cell)then(n,.cell)else(n,k)
noncomputable def uN(n:Sc):Str->Bool:=λx=>n.lookup x==some .cell
noncomputable def ID(scope:Scope)(s:Sc):Bool:=scope.kind== .function&&scope.names.all λ(n,k)=>(k !=.cell||scope.names.lookup n==some .cell)&&(k !=.local||scope.names.lookup n==some .local)&&(k !=.free||(s.lookup n==some .cell||s.lookup n==some .free))
noncomputable def frB(n:Sc)(a N:Ls)(fr:List (Option Nat)):Bool:=fr.length==a.length&&(OD a.length).all λi=>match fr[i]? with
 |some (some j)=>(match a[i]? with
  |some x=>n.lookup x==some .free&&N[j]?==some x
  |none=>Oy)
 |_=>Ox
noncomputable def iW:Ls->Bool
 | []=>Ox
 |x::r=> !r.contains x&&iW r
noncomputable def iX:Expr->Bool
 | .Slice _ _ _ _=>Oy
 |_=>Ox
theorem IE{b:Expr}(h:iX b=Ox):zn b:=by intro o i;cases b<;>first|rfl|cases h
noncomputable def og:se->Str
 | .append=>"append"| .extend=>"extend"| .pop=>"pop"| .count=>"count"| .insert=>"insert"| .index=>"index"
noncomputable def fE:Expr->Bool
 | .Name _ _=>Ox
 |_=>Oy
noncomputable def fR:Expr->Bool
 | .Tuple _ _ _=>Ox
 |_=>Oy
noncomputable def oh:Expr->Bool
 | .Set _ _ _=>Oy
 |_=>Ox
noncomputable def dE:Expr:=.Name "" ⟨0,0,0,0⟩
noncomputable def dG:OU:=⟨dE,dE,[],0⟩
set_option genInjectivity false in
structure Nd where
 e0:Expr:=dE
 e1:Expr:=dE
 e2:Expr:=dE
 es:Lx:=[]
 lo:Option Expr:=none
 hi:Option Expr:=none
 gs:List OU:=[]
 sc:Scope:=default
 k:Nat:=0
 pos:Pos:=⟨0,0,0,0⟩
noncomputable def vw:Expr->Nd
 | .BoolOp _ vs p=>{es:=vs,pos:=p}
 | .BinOp l _ r p=>{e0:=l,e1:=r,pos:=p}
 | .UnaryOp _ x p=>{e0:=x,pos:=p}
 | .IfExp t x y p=>{e0:=t,e1:=x,e2:=y,pos:=p}
 | .ListComp a g sc p=>{e0:=a,gs:=g,sc:=sc,pos:=p}
 | .SetComp a g sc p=>{e0:=a,gs:=g,sc:=sc,pos:=p}
 | .Compare l _ R p=>{e0:=l,es:=R,pos:=p}
 | .Call f xs ks p=>{e0:=f,es:=xs,e1:=(ks.headD ⟨none,dE,⟨0,0,0,0⟩⟩).value,e2:=.Name "" (ks.headD ⟨none,dE,⟨0,0,0,0⟩⟩).pos,pos:=p}
 | .Constant _ k p=>{k:=k,pos:=p}
 | .Attribute v _ p=>{e0:=v,pos:=p}
 | .Subscript v s p=>{e0:=v,e1:=s,pos:=p}
 | .Name _ p=>{pos:=p}
 | .List es p=>{es:=es,pos:=p}
 | .Tuple es k p=>{es:=es,k:=k,pos:=p}
 | .Slice l u s p=>{lo:=l,hi:=u,e2:=s.getD dE,pos:=p}
 | .Dict _ _ p=>{pos:=p}
 | .JoinedStr vs p=>{es:=vs,pos:=p}
 | .FormattedValue v _ _ p=>{e0:=v,pos:=p}
 |_=>{}
noncomputable def x3(e:Expr):Expr:=(vw e).es.tail.tail.tail.headD dE
noncomputable def Ao:D->Const
 | .bl b=>.bool b
 | .int i=>.int i
 | .str x=>.str x
 |_=>.none
noncomputable def oj:CT->Bool
 | .tup _=>Ox
 |_=>Oy
noncomputable def kg:CE->Bool
 | .band _ _=>Ox
 |_=>Oy
noncomputable def gN:CE->Bool
 | .bor _ _=>Ox
 |_=>Oy
noncomputable def kh:CE->Bool
 | .comp .. =>Ox
 |_=>Oy
mutual
noncomputable def iY:CT->Ls->Expr->Expr
 | .var i,N,e=>.Name (N.getD i "") (vw e).pos
 | .tup ts,N,e=>.Tuple (io ts N (vw e).es) (vw e).k (vw e).pos
noncomputable def io:List CT->Ls->Lx->Lx
 | [],_,_=>[]
 |t::ts,N,es=>iY t N (es.headD dE)::io ts N es.tail
end
mutual
noncomputable def sf(c:Str->Bool)(N:Ls)(s:Sc):CT->Bool
 | .var i=>N[i]?==some (N.getD i "")&&(s.lookup (N.getD i "")==some .local||(c (N.getD i "")&&s.lookup (N.getD i "")==some .cell))
 | .tup ts=>uO c N s ts
noncomputable def uO(c:Str->Bool)(N:Ls)(s:Sc):List CT->Bool
 | []=>Ox
 |t::ts=>sf c N s t&&uO c N s ts
end
mutual
noncomputable def aY:CE->Ls->Expr->Expr
 | .var i,N,e=>.Name (N.getD i "") (vw e).pos
 | .dct,_,e=>.Dict [] [] (vw e).pos
 | .rv0 a b c,N,e=>.Subscript (aY a N (vw e).e0) (.Slice none (some (aY b N ((vw (vw e).e1).hi.getD dE))) (some (aY c N (vw (vw e).e1).e2)) (vw (vw e).e1).pos) (vw e).pos
 | .rev a b,N,e=>.Subscript (aY a N (vw e).e0) (.Slice none none (some (aY b N (vw (vw e).e1).e2)) (vw (vw e).e1).pos) (vw e).pos
 | .lit d,_,e=>.Constant (Ao d) (vw e).k (vw e).pos
 | .glob y,_,e=>.Name y (vw e).pos
 | .ty n,_,e=>.Name (PH n) (vw e).pos
 | .bin op a b,N,e=>.BinOp (aY a N (vw e).e0) op (aY b N (vw e).e1) (vw e).pos
 | .catB a b,N,e=>.BinOp (aY a N (vw e).e0) .Add (aY b N (vw e).e1) (vw e).pos
 | .neg a,N,e=>.UnaryOp .USub (aY a N (vw e).e0) (vw e).pos
 | .cmp op a b,N,e=>.Compare (aY a N (vw e).e0) [op] [aY b N ((vw e).es.headD dE)] (vw e).pos
 | .chain3 op op' op'' a b c d,N,e=>.Compare (aY a N (vw e).e0) [op,op',op''] [aY b N ((vw e).es.headD dE),aY c N ((vw e).es.tail.headD dE),aY d N ((vw e).es.tail.tail.headD dE)] (vw e).pos
 | .chain op op' a b c,N,e=>.Compare (aY a N (vw e).e0) [op,op'] [aY b N ((vw e).es.headD dE),aY c N ((vw e).es.tail.headD dE)] (vw e).pos
 | .band a b,N,e=>.BoolOp .And (aY a N ((vw e).es.headD dE)::cond ((vw e).es.length==2) [aY b N ((vw e).es.tail.headD dE)] (vw (aY b N (.BoolOp .And (vw e).es.tail (vw e).pos))).es) (vw e).pos
 | .bor a b,N,e=>.BoolOp .Or (aY a N ((vw e).es.headD dE)::cond ((vw e).es.length==2) [aY b N ((vw e).es.tail.headD dE)] (vw (aY b N (.BoolOp .Or (vw e).es.tail (vw e).pos))).es) (vw e).pos
 | .bnot a,N,e=>.UnaryOp .Not (aY a N (vw e).e0) (vw e).pos
 | .ite c a b,N,e=>.IfExp (aY c N (vw e).e0) (aY a N (vw e).e1) (aY b N (vw e).e2) (vw e).pos
 | .tup es,N,e=>.Tuple (dX es N (vw e).es) (vw e).k (vw e).pos
 | .lst _ es,N,e=>.List (dX es N (vw e).es) (vw e).pos
 | .lstR a b l c d x y es,N,e=>.List (aY a N ((vw e).es.headD dE):: .BinOp (aY b N (vw ((vw e).es.tail.headD dE)).e0) .Add (.Constant (.str l) (vw (vw ((vw e).es.tail.headD dE)).e1).k (vw (vw ((vw e).es.tail.headD dE)).e1).pos) (vw ((vw e).es.tail.headD dE)).pos::aY c N ((vw e).es.tail.tail.headD dE):: .Call (.Attribute (aY d N (vw (vw (x3 e)).e0).e0) "replace" (vw (vw (x3 e)).e0).pos) [.Constant (.str x) (vw ((vw (x3 e)).es.headD dE)).k (vw ((vw (x3 e)).es.headD dE)).pos,.Constant (.str y) (vw ((vw (x3 e)).es.tail.headD dE)).k (vw ((vw (x3 e)).es.tail.headD dE)).pos] [] (vw (x3 e)).pos::dX es N (vw e).es.tail.tail.tail.tail) (vw e).pos
 | .idx a b,N,e=>.Subscript (aY a N (vw e).e0) (aY b N (vw e).e1) (vw e).pos
 | .sl a lo hi,N,e=>.Subscript (aY a N (vw e).e0) (.Slice (dX lo N (vw (vw e).e1).lo.toList).head? (dX hi N (vw (vw e).e1).hi.toList).head? none (vw (vw e).e1).pos) (vw e).pos
 | .call f es,N,e=>.Call (.Name f (vw (vw e).e0).pos) (dX es N (vw e).es) [] (vw e).pos
 | .blt b es,N,e=>.Call (.Name (im b) (vw (vw e).e0).pos) (dX es N (vw e).es) [] (vw e).pos
 | .smt m o es,N,e=>.Call (.Attribute (aY o N (vw (vw e).e0).e0) (nT m) (vw (vw e).e0).pos) (dX es N (vw e).es) [] (vw e).pos
 | .tix o es,N,e=>.Call (.Attribute (aY o N (vw (vw e).e0).e0) "index" (vw (vw e).e0).pos) (dX es N (vw e).es) [] (vw e).pos
 | .meth m o es,N,e=>.Call (.Attribute (aY o N (vw (vw e).e0).e0) (og m) (vw (vw e).e0).pos) (dX es N (vw e).es) [] (vw e).pos
 | .join x es,N,e=>.Call (.Attribute (.Constant (.str x) (vw (vw (vw e).e0).e0).k (vw (vw (vw e).e0).e0).pos) "join" (vw (vw e).e0).pos) (dX es N (vw e).es) [] (vw e).pos
 | .lenset a,N,e=>.Call (.Name "len" (vw (vw e).e0).pos) [.Call (.Name "set" (vw (vw ((vw e).es.headD dE)).e0).pos) [aY a N ((vw ((vw e).es.headD dE)).es.headD dE)] [] (vw ((vw e).es.headD dE)).pos] [] (vw e).pos
 | .sset a,N,e=>.Call (.Name "sorted" (vw (vw e).e0).pos) [.Call (.Name "set" (vw (vw ((vw e).es.headD dE)).e0).pos) [aY a N ((vw ((vw e).es.headD dE)).es.headD dE)] [] (vw ((vw e).es.headD dE)).pos] [] (vw e).pos
 | .comp _ N' _ tg it ifs body,N,e=>.ListComp (om body N' (vw e).e0) (⟨iY tg N' ((vw e).gs.headD dG).target,uQ it N ((vw e).gs.headD dG).iter,dX ifs N' ((vw e).gs.headD dG).ifs,0⟩::uP body N' (vw e).gs.tail) (vw e).sc (vw e).pos
 | .emit _,_,e=>e
 | .inner _ _ _ _,_,e=>e
 | .seq _,_,e=>e
 | .range _,_,e=>e
 | .zip _,_,e=>e
noncomputable def om:CE->Ls->Expr->Expr
 | .emit a,N,e=>aY a N e
 | .inner _ _ _ body,N,e=>om body N e
 |_,_,e=>e
noncomputable def uP:CE->Ls->List OU->List OU
 | .inner tg it ifs body,N,g=>⟨iY tg N (g.headD dG).target,uQ it N (g.headD dG).iter,dX ifs N (g.headD dG).ifs,0⟩::uP body N g.tail
 |_,_,_=>[]
noncomputable def dX:List CE->Ls->Lx->Lx
 | [],_,_=>[]
 |c::cs,N,es=>aY c N (es.headD dE)::dX cs N es.tail
noncomputable def uQ:CE->Ls->Expr->Expr
 | .seq c,N,e=>aY c N e
 | .range es,N,e=>.Call (.Name "range" (vw (vw e).e0).pos) (dX es N (vw e).es) [] (vw e).pos
 | .zip es,N,e=>.Call (.Name "zip" (vw (vw e).e0).pos) (dX es N (vw e).es) [] (vw e).pos
 |_,_,e=>e
end
mutual
noncomputable def bD:CE->Ls->Sc->Expr->Bool
 | .var i,N,sc,_=>N[i]?==some (N.getD i "")&&(nZ sc (N.getD i "")&&eM (N.getD i ""))
 | .dct,_,_,_=>Ox
 | .rv0 a b c,N,sc,e=>bD a N sc (vw e).e0&&(bD b N sc ((vw (vw e).e1).hi.getD dE)&&bD c N sc (vw (vw e).e1).e2)
 | .rev a b,N,sc,e=>bD a N sc (vw e).e0&&bD b N sc (vw (vw e).e1).e2
 | .lit d,_,_,_=>iD d (Ao d)
 | .glob y,_,sc,_=>bh sc y
 | .ty n,_,sc,_=>bh sc (PH n)&&iV.contains n
 | .bin _ a b,N,sc,e=>bD a N sc (vw e).e0&&bD b N sc (vw e).e1
 | .catB a b,N,sc,e=>bD a N sc (vw e).e0&&bD b N sc (vw e).e1
 | .neg a,N,sc,e=>bD a N sc (vw e).e0
 | .cmp op a b,N,sc,e=>bD a N sc (vw e).e0&&(bD b N sc ((vw e).es.headD dE)&& !behindInMarks op (aY b N ((vw e).es.headD dE)))
 | .chain3 _ _ op'' a b c d,N,sc,e=>bD a N sc (vw e).e0&&(bD b N sc ((vw e).es.headD dE)&&(bD c N sc ((vw e).es.tail.headD dE)&&(bD d N sc ((vw e).es.tail.tail.headD dE)&& !behindInMarks op'' (aY d N ((vw e).es.tail.tail.headD dE)))))
 | .chain _ op' a b c,N,sc,e=>bD a N sc (vw e).e0&&(bD b N sc ((vw e).es.headD dE)&&(bD c N sc ((vw e).es.tail.headD dE)&& !behindInMarks op' (aY c N ((vw e).es.tail.headD dE))))
 | .band a b,N,sc,e=>bD a N sc ((vw e).es.headD dE)&&cond ((vw e).es.length==2) (bD b N sc ((vw e).es.tail.headD dE)) (kg b&&bD b N sc (.BoolOp .And (vw e).es.tail (vw e).pos))
 | .bor a b,N,sc,e=>bD a N sc ((vw e).es.headD dE)&&cond ((vw e).es.length==2) (bD b N sc ((vw e).es.tail.headD dE)) (gN b&&bD b N sc (.BoolOp .Or (vw e).es.tail (vw e).pos))
 | .bnot a,N,sc,e=>bD a N sc (vw e).e0
 | .ite c a b,N,sc,e=>bD c N sc (vw e).e0&&(bD a N sc (vw e).e1&&bD b N sc (vw e).e2)
 | .tup es,N,sc,e=>fF es N sc (vw e).es&&decide (es.length<1000)
 | .lst _ es,N,sc,e=>fF es N sc (vw e).es&&decide (es.length<1000)
 | .lstR a b _ c d _ _ es,N,sc,e=>bD a N sc ((vw e).es.headD dE)&&(bD b N sc (vw ((vw e).es.tail.headD dE)).e0&&(bD c N sc ((vw e).es.tail.tail.headD dE)&&(bD d N sc (vw (vw (x3 e)).e0).e0&&(fF es N sc (vw e).es.tail.tail.tail.tail&&(bA (aY a N ((vw e).es.headD dE))&&(bA (aY c N ((vw e).es.tail.tail.headD dE))&&(fE (aY d N (vw (vw (x3 e)).e0).e0)&&(vw (vw (x3 e)).e0).pos.endLine==(vw (x3 e)).pos.line)))))))
 | .idx a b,N,sc,e=>bD a N sc (vw e).e0&&(bD b N sc (vw e).e1&&iX (aY b N (vw e).e1))
 | .sl a lo hi,N,sc,e=>bD a N sc (vw e).e0&&(fF lo N sc (vw (vw e).e1).lo.toList&&(fF hi N sc (vw (vw e).e1).hi.toList&&(decide (lo.length<2)&&decide (hi.length<2))))
 | .call f es,N,sc,e=>bh sc f&&(fF es N sc (vw e).es&& !es.isEmpty)
 | .blt b es,N,sc,e=>bh sc (im b)&&(fF es N sc (vw e).es&&(!es.isEmpty&&uL b))
 | .smt _ o es,N,sc,e=>fE (aY o N (vw (vw e).e0).e0)&&((vw (vw e).e0).pos.endLine==(vw e).pos.line&&(bD o N sc (vw (vw e).e0).e0&&(fF es N sc (vw e).es&&decide (es.length=1))))
 | .tix o es,N,sc,e=>fE (aY o N (vw (vw e).e0).e0)&&((vw (vw e).e0).pos.endLine==(vw e).pos.line&&(bD o N sc (vw (vw e).e0).e0&&(fF es N sc (vw e).es&&decide (es.length=1))))
 | .meth m o es,N,sc,e=>fE (aY o N (vw (vw e).e0).e0)&&((vw (vw e).e0).pos.endLine==(vw e).pos.line&&(bD o N sc (vw (vw e).e0).e0&&(fF es N sc (vw e).es&&decide (es.length<20))))
 | .join _ es,N,sc,e=>(vw (vw e).e0).pos.endLine==(vw e).pos.line&&(fF es N sc (vw e).es&&decide (es.length=1))
 | .lenset a,N,sc,e=>bh sc "len"&&(bh sc "set"&&(bD a N sc ((vw ((vw e).es.headD dE)).es.headD dE)&&bA (aY a N ((vw ((vw e).es.headD dE)).es.headD dE))))
 | .sset a,N,sc,e=>bh sc "sorted"&&(bh sc "set"&&(bD a N sc ((vw ((vw e).es.headD dE)).es.headD dE)&&bA (aY a N ((vw ((vw e).es.headD dE)).es.headD dE))))
 | .comp _ N' fr tg it ifs body,N,sc,e=>ID (vw e).sc sc&&(frB (vw e).sc.names N' N fr&&(iW N'&&(sf (uN (vw e).sc.names) N' (kf (vw e).sc.names sc) tg&&(Ap it N sc tg ((vw e).gs.headD dG).iter&&(oh (uQ it N ((vw e).gs.headD dG).iter)&&(fF ifs N' (kf (vw e).sc.names sc) ((vw e).gs.headD dG).ifs&&F2 body Oy (uN (vw e).sc.names) N' (kf (vw e).sc.names sc) (vw e).gs.tail (vw e).e0))))))
 | .emit _,_,_,_=>Oy
 | .inner _ _ _ _,_,_,_=>Oy
 | .seq _,_,_,_=>Oy
 | .range _,_,_,_=>Oy
 | .zip _,_,_,_=>Oy
noncomputable def F2:CE->Bool->(Str->Bool)->Ls->Sc->List OU->Expr->Bool
 | .emit a,k,_,N,sc,_,e=> !k&&bD a N sc e
 | .inner tg it ifs body,k,cell,N,sc,g,e=>sf cell N sc tg&&(Ap it N sc tg (g.headD dG).iter&&(oh (uQ it N (g.headD dG).iter)&&(fF ifs N sc (g.headD dG).ifs&&F2 body k cell N sc g.tail e)))
 |_,_,_,_,_,_,_=>Oy
noncomputable def fF:List CE->Ls->Sc->Lx->Bool
 | [],_,_,_=>Ox
 |c::cs,N,sc,es=>bD c N sc (es.headD dE)&&(bA (aY c N (es.headD dE))&&fF cs N sc es.tail)
noncomputable def Ap:CE->Ls->Sc->CT->Expr->Bool
 | .seq c,N,sc,_,e=>bD c N sc e
 | .range es,N,sc,_,e=>bh sc "range"&&(fF es N sc (vw e).es&&(es.length==1||es.length==2))
 | .zip es,N,sc,t,e=>bh sc "zip"&&(fF es N sc (vw e).es&&(es.length==2&&oj t))
 |_,_,_,_,_=>Oy
end
theorem ae{a b:Bool}(h:(a&&b)=Ox):a=Ox/\b=Ox:=QI.mp h
theorem gO{p:Prop} [Decidable p] (h:decide p=Ox):p:=ZS h
theorem gP{a:Bool}(h:(!a)=Ox):a=Oy:=by lia
end Py
variable {sc:Py.Sc}
namespace Py
noncomputable def uR(K:Fg)(m:Mg)(n:Nat)(a:List D->af->Res D):Sp:=λvs H Q E=>vs.length=n/\∃F μ S ds,aK K ⟨m,F⟩ μ S H/\aj K ⟨m,F⟩ μ H ds vs/\ak K ⟨m,F⟩ E (Rep K ⟨m,F⟩) μ H Q (a ds S)
structure bT (P:OF)(w:ON)(K:Fg)(mg:Mg)(base:OI)(CX:dJ)(k:Nat)(f:Str)(φ:List D->af->Res D):Prop where
 ex:∃fa fd ps,mg f=some (.ref fa)/\PySem.W.keepIn K (.ref fa)=Ox/\Binds K fd ps []/\c9 P w K mg base CX k fa fd ps (uR K mg ps.length φ)/\∀ds S,φ ds S≠.fail->ds.length=ps.length
noncomputable def gQ:Ls:=["len","tuple","list","int","min","max","isinstance","all","any","sorted","bool","str","dict","range","zip","set","sum","reversed","repr","abs","enumerate"]
structure F3 (P:OF)(w:ON)(K:Fg)(mg:Mg)(base:OI)(CX:dJ)(Φ:FT)(Γ:Str->Option D)(k:Nat):Prop where
 fns:∀f φ,Φ f=some φ->bT P w K mg base CX k f φ
 gl:∀x d,Γ x=some d->∃v u,mg x=some u/\RelV v u/\∀F μ H,Rep K ⟨mg,F⟩ μ H d v
 bl:∀x∈gQ,mg x=none
structure cN (X:Cx)(cell:Str->Bool)(N:Ls)(sc:Sc)(CX:dJ)(E:XK)(Φ:FT)(Γ:Str->Option D)(k:Nat):Prop where
 n:X.N=N
 nd:N.Nodup
 sc:X.env.scope.names=sc
 kd:X.env.scope.kind=.function
 calm:X.calm=Ox
 room:cO k X.A
 fn:∀x,cell x=Ox->X.fn x=Ox
 mod:F3 X.prog X.w X.K X.mg X.base CX Φ Γ k
 pass:jW CX X E
 cx0:∀outer H s e s',CX outer H s E0 e s'->False
section
variable {E:XK}{k:Nat}{l r:Expr}{pos:Pos}{a b c:CE}
theorem sg{o:Sx}(h:PE X l (tE X.K X.mg E Φ Γ a))(c:PE X r (tE X.K X.mg E Φ Γ b)):PE X (.BinOp l o r pos) (tE X.K X.mg E Φ Γ (.bin o a b)):=
 aQ (iA (HF _) h c) λy H Q z=>aG z λF t u S g e w=>
  ⟨F,_,_,S,g,e,(ak.bind w).mono λv H1 z=>ay z λk p d1 x s R W=>⟨F,_,_,_,s,e.mono x,(ak.bind W).mono λV n z=>ay z λm q d2 j f d i=>⟨F,_,_,_,_,f,Rep.mono j _ _ R,d,b9 i⟩⟩⟩
theorem uS(i:PE X l (tE X.K X.mg E Φ Γ a))(j:PE X r (tE X.K X.mg E Φ Γ b)):PE X (.BinOp l .Add r pos) (tE X.K X.mg E Φ Γ (.catB a b)):=
 aQ (iA zy i j) λu H Q z=>aG z λF q f S n e w=>
  ⟨F,q,f,S,n,e,(ak.bind w).mono λv H1 z=>ay z λc g d1 x s R W=>⟨F,c,f,g,s,e.mono x,(ak.bind W).mono λV t z=>ay z λd h d2 p m k o=>⟨F,d,h,d1,d2,m,Rep.mono p _ _ R,k,b9 o⟩⟩⟩
theorem Aq{o:QZ}(f:X.A.units+64<cLine)(h:PE X l (tE X.K X.mg E Φ Γ a))(c:PE X r (tE X.K X.mg E Φ Γ b))(d:behindInMarks o r=Oy):PE X (.Compare l [o] [r] pos) (tE X.K X.mg E Φ Γ (.cmp o a b)):=
 aQ (mX (dN _ f) h c d) λB H Q z=>aG z λF y A S j e w=>
  ⟨F,_,_,S,j,e,(ak.bind w).mono λv H1 z=>ay z λn t d1 x s R W=>⟨F,_,_,_,s,e.mono x,(ak.bind W).mono λV q z=>ay z λp u d2 m i g k=>⟨F,_,_,_,_,i,Rep.mono m _ _ R,g,b9 k⟩⟩⟩
theorem f9{m:GS}{E:XK}{Rel:La->Hp->α->β->Prop}{Q:β->Hp->Prop}{f:Bool->Res α}
  (w:ak K m E Rel μ H Q (ax d f)) (r:Rep K m μ H d v):∃k,v=.bl k/\d=.bl k/\ak K m E Rel μ H Q (f k):=by
 cases d with
 |bl k=>exact⟨k,gA r,rfl,w⟩
 |_=>exact w.elim
theorem Ar{o:QZ}(f:X.A.units+64<cLine)(h:PE X l (tE X.K X.mg E Φ Γ a))(c:PE X r (tE X.K X.mg E Φ Γ b))(d:behindInMarks o r=Oy):PT X (.Compare l [o] [r] pos) (tT X.K X.mg E Φ Γ (.cmp o a b)):=
 dW (y7 (dN _ f) h c d) λO H Q z=>aG z λF M N S n e w=>
  ⟨F,_,_,S,n,e,(ak.bind w).mono λV H1 z=>ay z λv D d1 x s R W=>⟨F,_,_,_,s,e.mono x,(ak.bind W).mono λK B z=>ay z λy G d2 u j g p=>
   ⟨F,_,_,_,_,j,Rep.mono u _ _ R,g,b9 ((ak.bind p).mono λL C z=>ay z λA I J x3 m i q=>by obtain⟨k,rfl,rfl,t⟩:=f9 q i;exact⟨k,rfl,t _ _ k .refl m rfl⟩)⟩⟩⟩
theorem oo{o:QZ}(h:X.A.units+64<cLine)(f:PE X l (tE X.K X.mg E Φ Γ a))(g:PE X r (tE X.K X.mg E Φ Γ b))(i:PE X r' (tE X.K X.mg E Φ Γ c))(j:behindInMarks op' r'=Oy):PE X (.Compare l [o,op'] [r,r'] pos) (tE X.K X.mg E Φ Γ (.chain o op' a b c)):=
 aQ (GW (dN _ h) (dN _ h) f g i j) λσ H Q z=>aG z λF μ ρ S u e w=>
  ⟨F,_,_,S,u,e,(ak.bind w).mono λY H1 z=>ay z λD N d1 x p m v=>⟨F,_,_,_,p,e.mono x,(ak.bind v).mono λZ K z=>ay z λG O d2 d q R y=>
   ⟨F,_,_,_,_,q,Rep.mono d _ _ m,R,b9 ((ak.bind y).mono λv3 L z=>ay z λI P U x3 s n A=>by
    obtain⟨k,rfl,rfl,W⟩:=f9 A n;refine⟨k,rfl,?_⟩;cases k with
    |true=>exact⟨F,_,_,_,s,(e.mono x).mono (d.trans x3),(ak.bind W).mono λv4 M z=>ay z λJ T V C t r4 B=>⟨F,_,_,_,_,t,Rep.mono (x3.trans C) _ _ R,r4,b9 B⟩⟩
    |false=>exact W _ _ _ .refl s cP)⟩⟩⟩
theorem oq{o:QZ}(h:X.A.units+64<cLine)(f:PE X l (tE X.K X.mg E Φ Γ a))(g:PE X r (tE X.K X.mg E Φ Γ b))(i:PE X r' (tE X.K X.mg E Φ Γ c))(j:behindInMarks op' r'=Oy):PT X (.Compare l [o,op'] [r,r'] pos) (tT X.K X.mg E Φ Γ (.chain o op' a b c)):=
 dW (GX (dN _ h) (dN _ h) f g i j) λσ H Q z=>aG z λF μ ρ S y e w=>
  ⟨F,_,_,S,y,e,(ak.bind w).mono λv1 H1 z=>ay z λK Y d1 x q m A=>⟨F,_,_,_,q,e.mono x,(ak.bind A).mono λv2 P z=>ay z λL Z d2 d t R B=>
   ⟨F,_,_,_,_,t,Rep.mono d _ _ m,R,b9 ((ak.bind B).mono λv3 T z=>ay z λM S3 d3 x3 s n C=>by
    obtain⟨k,rfl,rfl,W⟩:=f9 C n;refine⟨k,rfl,?_⟩;cases k with
    |true=>exact⟨F,_,_,_,s,(e.mono x).mono (d.trans x3),(ak.bind W).mono λv4 U z=>ay z λN S4 d4 J u r4 D=>⟨F,_,_,_,_,u,Rep.mono (x3.trans J) _ _ R,r4,b9 ((ak.bind D).mono λv5 V z=>ay z λO S5 d5 x5 v p G=>by obtain⟨k,rfl,rfl,I⟩:=f9 G p;exact⟨k,rfl,I _ _ k .refl v rfl⟩)⟩⟩
    |false=>exact⟨_,rfl,W _ _ _ .refl s rfl⟩)⟩⟩⟩
theorem si(h:PE X l (tE X.K X.mg E Φ Γ a))(c:PE X (.BoolOp .And (r::rest) pos) (tE X.K X.mg E Φ Γ b)):PE X (.BoolOp .And (l::r::rest) pos) (tE X.K X.mg E Φ Γ (.band a b)):=
 aQ (tt h c) λn H Q z=>aG z λF j m S d e w=>
  ⟨F,_,_,S,d,e,(ak.bind w).mono λv H1 z=>ay z λg i d1 x s R f=>by
   obtain⟨k,rfl,rfl,W⟩:=f9 f R;refine⟨k,rfl,?_⟩;cases k with
   |true=>exact⟨F,_,_,_,s,e.mono x,W⟩
   |false=>exact W _ _ _ .refl s cP⟩
theorem As(h:PE X l (tE X.K X.mg E Φ Γ a))(c:PE X (.BoolOp .Or (r::rest) pos) (tE X.K X.mg E Φ Γ b)):PE X (.BoolOp .Or (l::r::rest) pos) (tE X.K X.mg E Φ Γ (.bor a b)):=
 aQ (yK h c) λn H Q z=>aG z λF j m S d e w=>
  ⟨F,_,_,S,d,e,(ak.bind w).mono λv H1 z=>ay z λg i d1 x s R f=>by
   obtain⟨k,rfl,rfl,W⟩:=f9 f R;refine⟨k,rfl,?_⟩;cases k with
   |true=>exact W _ _ _ .refl s cP
   |false=>exact⟨F,_,_,_,s,e.mono x,W⟩⟩
theorem ot(c:PE X l ta):PE X (.UnaryOp .Not l pos) (λσ H Q=>ta σ H λx H'=>∃k,iO X.K x H' k/\Q (.bl (!k)) H'):=by intro p s σ H Q I h;exact UnaryOp_ (aT (c _ s _ H _ I h) λv S z=>z.elim λx z=>z.elim λ_ z=>z.elim λa z=>z.elim λr z=>z.elim λk z=>z.elim λt q=>not_of (aT (jV _ _ _ _ x v (λk H'=>Q (.bl !k) H') a r ⟨k,t,q⟩) λK e z=>by obtain⟨_,b,d⟩:=z;exact(⟨.bl _,_,b,rfl,d⟩)))
theorem Au{m:GS}{E:XK}{Rel:La->Hp->α->β->Prop}{Q:β->Hp->Prop}{f:Bool->Res α}
  (w:ak K m E Rel μ H Q (match a9 S d with|some k=>f k|none=>.fail)):∃k,a9 S d=some k/\ak K m E Rel μ H Q (f k):=by
 cases e:a9 S d with
 |none=>rw[e]at w;exact w.elim
 |some k=>simp_all
theorem Aw(h:PE X l (tE X.K X.mg E Φ Γ a)):PE X (.UnaryOp .Not l pos) (tE X.K X.mg E Φ Γ (.bnot a)):=
 aQ (ot h) λm H Q z=>aG z λF i j S c b w=>⟨F,_,_,S,c,b,(ak.bind w).mono λv H1 z=>ay z λf g d1 x s r W=>by obtain⟨k,e,d⟩:=Au W;exact⟨k,r_ s r e,d _ _ _ .refl s cP⟩⟩
theorem Ax(h:PE X l (tE X.K X.mg E Φ Γ a)):PE X (.UnaryOp .USub l pos) (tE X.K X.mg E Φ Γ (.neg a)):=
 aQ (yV t6 h) λj H Q z=>aG z λF f g S b e w=>⟨F,_,_,S,b,e,(ak.bind w).mono λv H1 z=>ay z λc d d1 x s r W=>by
  cases d1 with
  |int i=>exact⟨i,aH r,W _ _ _ .refl s bL⟩
  |_=>exact W.elim⟩
theorem sj(h:PT X l (tT X.K X.mg E Φ Γ a))(f:PW X (.BoolOp .And (r::rest) pos) (tT X.K X.mg E Φ Γ b)):PW X (.BoolOp .And (l::r::rest) pos) (tT X.K X.mg E Φ Γ (.band a b)):=λm p s q H Q I z=>aG z λF n o S g e w=>
 tr h f _ _ s _ H Q I ⟨F,_,_,S,g,e,(ak.bind w).mono λk H1 z=>ay z λi j K x c d W=>by
  subst d;cases K with
  |true=>exact⟨F,_,_,_,c,e.mono x,W⟩
  |false=>exact W _ _ _ .refl c rfl⟩
theorem Ay(h:PT X l (tT X.K X.mg E Φ Γ a))(f:PW X (.BoolOp .Or (r::rest) pos) (tT X.K X.mg E Φ Γ b)):PW X (.BoolOp .Or (l::r::rest) pos) (tT X.K X.mg E Φ Γ (.bor a b)):=λm p s q H Q I z=>aG z λF n o S g e w=>
 rR h f _ _ s _ H Q I ⟨F,_,_,S,g,e,(ak.bind w).mono λk H1 z=>ay z λi j K x c d W=>by
  subst d;cases K with
  |true=>exact W _ _ _ .refl c rfl
  |false=>exact⟨F,_,_,_,c,e.mono x,W⟩⟩
theorem Az(h:PT X l (tT X.K X.mg E Φ Γ a)):PT X (.UnaryOp .Not l pos) (tT X.K X.mg E Φ Γ (.bnot a)):=
 dW (jP h) λj H Q z=>aG z λF g i S c b w=>⟨F,_,_,S,c,b,(ak.bind w).mono λk H1 z=>ay z λd f K x s e W=>by subst e;exact W _ _ _ .refl s rfl⟩
theorem AA{t x y:Expr}(i:PT X t (tT X.K X.mg E Φ Γ c))(h:PE X x (tE X.K X.mg E Φ Γ a))(g:PE X y (tE X.K X.mg E Φ Γ b)):PE X (.IfExp t x y pos) (tE X.K X.mg E Φ Γ (.ite c a b)):=
 aQ (Gq i h g) λp H Q z=>aG z λF n o S j e w=>⟨F,_,_,S,j,e,(ak.bind w).mono λk H1 z=>ay z λl m K d s f W=>by
  subst f;cases K with
  |true=>exact⟨F,_,_,_,s,e.mono d,W⟩
  |false=>exact⟨F,_,_,_,s,e.mono d,W⟩⟩
theorem AB:PA X [] (tL X.K X.mg E Φ Γ []):=fQ fD λc H Q z=>aG z λF a b S s e w=>w _ H _ .refl s .nil
theorem cf(h:bA e=Ox):starEach (e::es) env=(Oy,eval e env)::starEach es env:=by cases e<;>first|rfl|cases h
theorem uT{cs:List CE}(j:bA e=Ox)(i:PE X e (tE X.K X.mg E Φ Γ a))(k:PA X es (tL X.K X.mg E Φ Γ cs)):PA X (e::es) (tL X.K X.mg E Φ Γ (a::cs)):=
 fQ (dI i k (cf j)) λt H Q z=>aG z λF p f S m d w=>⟨F,p,f,S,m,d,(ak.bind w).mono λv H1 z=>ay z λb h d1 x s r W=>
  ⟨F,b,f,h,s,d.mono x,(ak.bind W).mono λvs g z=>ay z λc q D o l R n=>n c g _ .refl l (.cons (Rep.mono o _ _ r) R)⟩⟩
end
theorem iZ:∀{cs:List CE} {N:Ls} {es:Lx},(dX cs N es).length=cs.length
 | [],N,es=>rfl
 |c::cs,N,es=>congrArg _ iZ
theorem fi:∀{cs:List CE} {N:Ls} {sc:Sc} {es:Lx},fF cs N sc es=Ox->∀e∈dX cs N es,bA e=Ox
 | [],N,sc,es,h,e,H=>absurd H Zt
 |c::cs,N,sc,es,h,e,H=>by
  rcases Zh.mp H with rfl|H
  ·exact(ae (ae h).2).1
  ·exact fi (ae (ae h).2).2 e H
theorem gR:∀{es:Lx} {env:Env} {pos:Pos},(∀e∈es,bA e=Ox)->(backTo pos (starEach es env)).any (·.1)=Oy
 | [],env,pos,h=>rfl
 |e::es,env,pos,h=>by rw[cf (h e Zd)];show(Oy||(backTo _ _).any _)=Oy;rw[gR λe H=>h e (Zc _ H)];rfl
theorem i0:∀{es:Lx} {env:Env} {pos:Pos},(∀e∈es,bA e=Ox)->(backTo pos (starEach es env)).all (λx=> !x.1)=Ox
 | [],env,pos,h=>rfl
 |e::es,env,pos,h=>by rw[cf (h e Zd)];show(!Oy&&(backTo _ _).all _)=Ox;rw[i0 λe H=>h e (Zc _ H)];rfl
theorem uU:∀{cs:List CE} {ρ:bv} {S S':af} {ds:List D},ai Φ Γ cs ρ S=.ok ds S'->ds.length=cs.length
 | [],ρ,S,S',ds,h=>by cases h;rfl
 |c::cs,ρ,S,S',ds,h=>by
  dsimp[ai]at h;cases e:ah _ _ c _ S with
  |ok d a=>
   rw[e]at h;cases E:ai Φ Γ cs ρ a with
   |ok f b=>simp only[Res.bind,E]at h;cases h;simp[uU E]
   |err x b=>simp only[Res.bind,E]at h;cases h
   |fail=>simp only[Res.bind,E]at h;cases h
  |err x a=>rw[e]at h;cases h
  |fail=>rw[e]at h;cases h
theorem IF{x:Str}{s:Scope}(hs:s.names=sc)(h:nZ sc x=Ox):yE s x:=by unfold yE;unfold nZ at h;lia
theorem i3{x:Str}(h:eM x=Ox):(x==("__debug__":Str))=Oy/\(x==("__classdict__":Str))=Oy:=by unfold eM at h;simp only[ZG,Q5]at h;exact h
theorem de{x:Str}(h:bh sc x=Ox):sc.lookup x=some .globalImplicit/\(x==("__debug__":Str))=Oy/\x≠"__name__":=by unfold bh at h;simp_all
section
variable {E:XK}{k:Nat}{l r:Expr}{pos:Pos}{a b c:CE}{cs:List CE}{x:Str}
theorem cN.gl(O:cN X cell N sc CX E Φ Γ k)(h:sc.lookup x=some .globalImplicit):Gl X x:=by show X.env.scope.names.lookup x=_;rw[O.sc];exact h
theorem sm(O:cN X cell N sc CX E Φ Γ k){i:Nat}(h1:(N[i]?==some x)=Ox)(c:nZ sc x=Ox)(h:eM x=Ox):PE X (.Name x pos) (tE X.K X.mg E Φ Γ (.var i)):=by
 refine aQ (ti (by rw[O.n];simpa using h1) (IF O.sc c) (i3 h).1 (i3 h).2) λj H Q z=>aG z λF f g S s b w=>?_;dsimp[ah]at w;split at w
 ·rename_i d e;obtain⟨v,a,r⟩:=b.2 i d e;exact⟨v,a,w _ H v .refl s r⟩
 ·exact w.elim
theorem ki{cn:Const}{j}(h:iD d cn=Ox):PE X (.Constant cn j pos) (tE X.K X.mg E Φ Γ (.lit d)):=by
 unfold iD at h;split at h
 ·exact aQ tj λf H Q z=>aG z λF b c S s a w=>w _ H _ .refl s nA
 ·have e:=beq_iff_eq.mp h;subst e;exact aQ rQ λf H Q z=>aG z λF b c S s a w=>w _ H _ .refl s cP
 ·have e:=beq_iff_eq.mp h;subst e;exact aQ jM λf H Q z=>aG z λF b c S s a w=>w _ H _ .refl s bL
 ·have e:=beq_iff_eq.mp h;subst e;exact aQ tm λf H Q z=>aG z λF b c S s a w=>w _ H _ .refl s dy
 ·cases h
theorem uV(O:cN X cell N sc CX E Φ Γ k)(h:bh sc x=Ox):PE X (.Name x pos) (tE X.K X.mg E Φ Γ (.glob x)):=by
 obtain⟨a,b,j⟩:=de h;cases e:Γ x with
 |none=>intro p s g H Q I ⟨F,_,_,S,_,_,w⟩;simp[ah]at w;rw[e]at w;exact w.elim
 |some d=>obtain⟨v,u,m,M,c⟩:=O.mod.gl x d e;refine aQ (yH (O.gl a) m M b) λg H Q z=>aG z λF l n S f i w=>?_;simp[ah]at w;rw[e]at w;exact w _ H v .refl f (c F _ H)
theorem ou{n:String}(h:iV.contains n=Ox):(PH n)∈gQ:=by simp[iV]at h;rcases h with rfl|rfl|rfl|rfl|rfl|rfl<;>decide+kernel
theorem IG(O:cN X cell N sc CX E Φ Γ k){n:String}(h:bh sc (PH n)=Ox)(a:iV.contains n=Ox):PE X (.Name (PH n) pos) (tE X.K X.mg E Φ Γ (.ty n)):=by obtain⟨b,c,d⟩:=de h;exact aQ (yI (v:=.ty n) (O.gl b) (O.mod.bl _ (ou a)) (n_ a) rfl d c) λi H Q z=>aG z λF f g S s e w=>w _ H _ .refl s rfl
theorem kj{m:GS}{Q:List V->Hp->Prop}(h:cs.length<1000)(w:ak K m E (aj K m) μ H Q (ai Φ Γ cs ρ S)):ak K m E (aj K m) μ H (λvs H'=>vs.length<=sizeLine/\Q vs H') (ai Φ Γ cs ρ S):=by
 cases e:ai _ _ _ _ S with
 |ok d a=>rw[e]at w;intro b H' vs x s r;refine⟨?_,w _ _ _ x s r⟩;rw[<-r.length,uU e];exact Qx (ZB h (by decide))
 |err y a=>rw[e]at w;exact w
 |fail=>rw[e]at w;exact w
theorem AD{x1}(a:cs.length<1000)(h:PA X es (tL X.K X.mg E Φ Γ cs)):PE X (.Tuple es x1 pos) (tE X.K X.mg E Φ Γ (.tup cs)):=
 aQ (t9 h) λi H Q Z=>aG Z λF f g S d e w=>⟨F,_,_,S,d,e,(kj a (ak.bind w)).mono λvs H1 z=>by obtain⟨c,_,_,_,_,s,r,W⟩:=z;exact(⟨c,λp b=>by exact aO.tup (show aO _ _ _ _ Q _ from W) s r p b⟩)⟩
theorem AE{box:Bool}(b:cs.length<1000)(h:PA X es (tL X.K X.mg E Φ Γ cs)):PE X (.List es pos) (tE X.K X.mg E Φ Γ (.lst box cs)):=
 aQ (h9 h) λi H Q Z=>aG Z λF f g S d e w=>⟨F,_,_,S,d,e,(kj b (ak.bind w)).mono λvs H1 z=>by obtain⟨c,_,_,_,_,s,r,W⟩:=z;exact(⟨c,λp a=>by
  cases box with
  |true=>exact aO.box (show aO _ _ _ _ Q _ from W) s r p a
  |false=>exact aO.lst (show aO _ _ _ _ Q _ from W) s r p a⟩)⟩
theorem AF:PE X (.Dict [] [] pos) (tE X.K X.mg E Φ Γ .dct):=λp s l H Q I z=>aG z λF j k S c d w=>by
 have a:=ZB I.mod.glob.lt (Zl I.ok.bsz I.sz);have h:=I.hok.fresh (Zf _);refine wpAny_Dict_empty ⟨.ref _,_,I.laid (o:=.dK []) (λb O q=>Zb _ q) (Zf _) ?_,rfl,?_⟩
 ·refine⟨ZY _,?_,_,.nil,_,_,_,Zi _ rfl,⟨rfl,rfl,rfl⟩,rfl,λe i=>by simp_all,.nil,.nil⟩;have g:mainGlobals=3:=rfl;have f:sysModules=1:=rfl;lia
 ·exact w _ _ _ (.laid h) (c.laid h) (by exact⟨_,rfl,bU⟩)
theorem AG(hs:iX r=Ox)(h:PE X l (tE X.K X.mg E Φ Γ a))(c:PE X r (tE X.K X.mg E Φ Γ b)):PE X (.Subscript l r pos) (tE X.K X.mg E Φ Γ (.idx a b)):=
 aQ (rY HR h c (IE hs)) λu H Q z=>aG z λF q t S g e w=>
  ⟨F,_,_,S,g,e,(ak.bind w).mono λv H1 z=>ay z λk o d1 x s R W=>⟨F,_,_,_,s,e.mono x,(ak.bind W).mono λV n z=>ay z λm p d2 j f d i=>⟨F,_,_,_,_,f,Rep.mono j _ _ R,d,b9 i⟩⟩⟩
theorem AH(h:PE X l (tE X.K X.mg E Φ Γ a))(c:PE X r (tE X.K X.mg E Φ Γ b)):PE X (.Subscript l (.Slice none none (some r) p2) pos) (tE X.K X.mg E Φ Γ (.rev a b)):=
 aQ (uJ h c) λu H Q z=>aG z λF q t S g e w=>
  ⟨F,_,_,S,g,e,(ak.bind w).mono λv H1 z=>ay z λk o d1 x s R W=>⟨F,_,_,_,s,e.mono x,(ak.bind W).mono λV n z=>ay z λm p d2 j f d i=>⟨F,_,_,_,_,f,Rep.mono j _ _ R,d,b9 i⟩⟩⟩
theorem AI{m:Expr}(h:PE X l (tE X.K X.mg E Φ Γ a))(f:PE X r (tE X.K X.mg E Φ Γ b))(g:PE X m (tE X.K X.mg E Φ Γ c)):PE X (.Subscript l (.Slice none (some r) (some m) p2) pos) (tE X.K X.mg E Φ Γ (.rv0 a b c)):=
 aQ (uK h f g) λM H Q z=>aG z λF K L S o e w=>
  ⟨F,_,_,S,o,e,(ak.bind w).mono λV H1 z=>ay z λt B d1 x s R W=>⟨F,_,_,_,s,e.mono x,(ak.bind W).mono λI y z=>ay z λu C d2 d k i p=>⟨F,_,_,_,k,(e.mono x).mono d,(ak.bind p).mono λJ A z=>ay z λv D G x3 n j q=>⟨F,_,_,_,_,_,n,Rep.mono x3 _ _ (Rep.mono d _ _ R),Rep.mono x3 _ _ i,j,b9 q⟩⟩⟩⟩
noncomputable def AJ(K:Fg)(m:Mg)(E:XK)(Φ:FT)(Γ:Str->Option D)(cs:List CE):TO:=λσ H Q=>∃F μ ρ S,aK K ⟨m,F⟩ μ S H/\aZ K ⟨m,F⟩ μ H ρ σ/\
 ak K ⟨m,F⟩ E (λ_ _ o o'=>o=o') μ H Q ((ai Φ Γ cs ρ S).bind cz)
theorem ov:PO X none (AJ X.K X.mg E Φ Γ []):=by intro p s b H Q I ⟨F,_,_,S,a,_,w⟩;exact ni _ s _ H Q I (w _ H _ .refl a rfl)
theorem ox(h:PE X e (tE X.K X.mg E Φ Γ a)):PO X (some e) (AJ X.K X.mg E Φ Γ [a]):=by
 intro p s q H Q I ⟨F,l,c,S,j,f,w⟩;refine nj h _ s _ H Q I ⟨F,_,_,S,j,f,?_⟩
 have k:ak X.K ⟨X.mg,F⟩ E (λ_ _ o O=>o=O) l H Q ((ah Φ Γ a c S).bind λd b=>cz [d] b):=by
  have n:(ai Φ Γ [a] c S).bind cz=(ah Φ Γ a c S).bind λd b=>cz [d] b:=by dsimp only[ai];cases ah _ _ a _ S<;>rfl
  simp_all
 refine(ak.bind k).mono λv H1 z=>ay z λm b d x g r W=>?_;cases d with
 |int i=>exact⟨i,aH r,W _ _ _ .refl g rfl⟩
 |_=>exact W.elim
theorem IH{L h:Option Expr}{c ch:List CE}(g:PE X l (tE X.K X.mg E Φ Γ a))(j:PO X L (AJ X.K X.mg E Φ Γ c))(i:PO X h (AJ X.K X.mg E Φ Γ ch)):PE X (.Subscript l (.Slice L h none p2) pos) (tE X.K X.mg E Φ Γ (.sl a c ch)):=
 aQ (G9 HU g j i) λM H Q z=>aG z λF J K S n e w=>⟨F,_,_,S,n,e,(ak.bind w).mono λV H1 z=>ay z λt B d1 x s r W=>⟨F,_,_,_,s,e.mono x,
  (ak.bind W).mono λo y z=>ay z λu C G b k d p=>⟨F,_,_,_,k,(e.mono x).mono b,(ak.bind p).mono λI A z=>ay z λv D O x3 m f q=>by subst d;subst f;exact⟨F,_,_,_,m,Rep.mono (b.trans x3) _ _ r,b9 q⟩⟩⟩⟩
theorem kl(O:cN X cell N sc CX E Φ Γ k){f:Str}(h:bh sc f=Ox)(a:∀x∈e::es,bA x=Ox)(i:PA X (e::es) (tL X.K X.mg E Φ Γ cs)):PE X (.Call (.Name f p2) (e::es) [] pos) (tE X.K X.mg E Φ Γ (.call f cs)):=by
 obtain⟨d,g,B⟩:=de h;cases b:Φ f with
 |none=>intro P s u H Q I ⟨F,_,_,S,_,_,w⟩;simp[ah]at w;rw[b]at w;exact w.elim
 |some L=>obtain⟨y,A,C,m,M,l,n,o⟩:=(O.mod.fns f _ b).ex;refine aQ (m5 n O.room (O.gl d) m M l .nil O.pass i g (cf (a e Zd)) (gR λx j=>a x (Zc _ j))) λu H Q Z=>aG Z λF J K S q c w=>?_;simp[ah]at w;rw[b]at w;refine⟨F,_,_,S,q,c,(ak.bind w).mono λvs H1 Z=>ay Z λt v D G p r W=>?_⟩;rw[P0];refine⟨?_,F,_,_,_,p,r,W⟩;rw[<-r.length];exact o _ _ λz=>by rw[z]at W;exact W
theorem sr(O:cN X cell N sc CX E Φ Γ k){b:il}(g:bn X (ke b) (rC X.K X.mg (aA b)))(h:bh sc (im b)=Ox)(j:∀x∈e::es,bA x=Ox)(f:PA X (e::es) (tL X.K X.mg E Φ Γ cs)):PE X (.Call (.Name (im b) p2) (e::es) [] pos) (tE X.K X.mg E Φ Γ (.blt b cs)):=by
 obtain⟨a,c,d⟩:=de h
 have i:X.mg (im b)=none:=O.mod.bl _ (by
  cases b with
  |list box=>show(PH _)∈gQ;decide+kernel
  |sorted box t=>show(PH _)∈gQ;decide+kernel
  |_=>decide+kernel)
 have K:PE X (.Call (.Name (im b) p2) (e::es) [] pos) (G4 (rC X.K X.mg (aA b)) (tL X.K X.mg E Φ Γ cs)):=by
  have s:=cf (env:=X.env) (es:=es) (j e Zd);have m:=gR (env:=X.env) (pos:=pos) λx q=>j x (Zc _ q);have l:=IC b;cases b with
  |tuple=>exact m6 g (O.gl a) i l f d c s m
  |list box=>exact m6 g (O.gl a) i l f d c s m
  |int=>exact m6 g (O.gl a) i l f d c s m
  |str=>exact m6 g (O.gl a) i l f d c s m
  |_=>exact ua g (O.gl a) i l f d c s m
 refine aQ K λC H Q z=>aG z λF v A S u p w=>⟨F,v,A,S,u,p,(ak.bind w).mono λvs H1 z=>ay z λy o D B s r W=>⟨F,_,o,D,s,r,b9 W⟩⟩
theorem II{m:GS}(s:aK K m μ S H)(r:Rep K m μ H (.ref n) v):zt K "list" v H:=by
 obtain⟨a,rfl,h⟩:=r;have c:n<S.length:=by rw[<-s.len];exact(Zg.mp h).1
 obtain⟨vs,b,q⟩:=s.at_ n a _ h (Zj c);exact .inl ⟨rfl,_,.of b⟩
noncomputable def km:se->String
 | .append=>"list.append"| .extend=>"list.extend"| .pop=>"list.pop"| .count=>"list.count"| .insert=>"list.insert"| .index=>"list.index"
theorem ko(m:se):jX X (km m) (rM X.K X.mg (fh m)):=by
 cases m with
 |append=>exact HW
 |count=>exact λ_ _ _ _ _ _ _ _ _ _ _ _ z=>by obtain⟨_,_,_,_,_,_,_,_,w⟩:=z;exact(w.elim)
 |insert=>exact λ_ _ _ _ _ _ _ _ _ _ _ _ z=>by obtain⟨_,_,_,_,_,_,_,_,w⟩:=z;exact(w.elim)
 |index=>exact λ_ _ _ _ _ _ _ _ _ _ _ _ z=>by obtain⟨_,_,_,_,_,_,_,_,w⟩:=z;exact(w.elim)
 |extend=>exact λ_ _ _ _ _ _ _ _ _ _ _ _ z=>by obtain⟨_,_,_,_,_,_,_,_,w⟩:=z;exact(w.elim)
 |pop=>
  intro p s i H x f v u Q I b a h;obtain⟨F,g,S,d,D,c,R,r,w⟩:=h;cases D with
  |nil=>exact zQ p s i H x f v u Q I b a ⟨F,g,S,d,[],c,R,r,w⟩
  |cons e E=>exact nR p s i H x f v u Q I b a ⟨F,g,S,d,e::E,c,R,r,w⟩
theorem AK(m:se):Slot "list" (og m) (km m):=by
 cases m with
 |append=>exact PySem.F.slot_list_append
 |count=>exact PySem.F.slot_list_count
 |insert=>exact PySem.F.slot_list_insert
 |index=>exact PySem.F.slot_list_index
 |extend=>exact PySem.F.slot_list_extend
 |pop=>exact PySem.F.slot_list_pop
theorem AL(m:se):typeOf (.builtin (km m))=pure (.type "method_descriptor"):=by
 cases m with
 |append=>exact PySem.F.type_list_append
 |count=>exact PySem.F.type_list_count
 |insert=>exact PySem.F.type_list_insert
 |index=>exact PySem.F.type_list_index
 |extend=>exact PySem.F.type_list_extend
 |pop=>exact PySem.F.type_list_pop
theorem uW{m:se}{o:Expr}(J:fE o=Ox)(y:(apos.endLine==pos.line)=Ox)(f:∀x∈es,bA x=Ox)(T:es.length<20)(j:cs.length=es.length)(A:PE X o (tE X.K X.mg E Φ Γ a))(I:PA X es (tL X.K X.mg E Φ Γ cs)):
  PE X (.Call (.Attribute o (og m) apos) es [] pos) (tE X.K X.mg E Φ Γ (.meth m a cs)):=by
 have h:attributeBase o (og m) X.env (eval o X.env)=eval o X.env:=by cases o<;>first|rfl|cases J
 have k:∀{F b d H1 c d1 Q v},aK X.K ⟨X.mg,F⟩ b d H1->Rep X.K ⟨X.mg,F⟩ b H1 d1 v->ak X.K ⟨X.mg,F⟩ E (Rep X.K ⟨X.mg,F⟩) b H1 Q (match d1 with
   | .ref n=>(ai Φ Γ cs c d).bind λD i=>(fh m (.ref n) D i).noErr
   |_=>.fail)->zt X.K "list" v H1/\ak X.K ⟨X.mg,F⟩ E (aj X.K ⟨X.mg,F⟩) b H1 (λvs u=>rM X.K X.mg (fh m) v vs u Q) (ai Φ Γ cs c d):=by
  intro F b d H1 c d1 Q v s r W;cases d1 with
  |ref n=>exact⟨II s r,(ak.bind W).mono λvs u z=>ay z λt i D O M R N=>⟨F,t,i,_,D,M,Rep.mono O _ _ r,R,b9 N⟩⟩
  |_=>exact W.elim
 cases es with
 |nil=>have e:cs=[]:=ZP j;subst e;refine aQ (ug PySem.F.plainAttrs_list (AK m) (AL m) (ko m) A h y) λP H Q z=>aG z λF q c S p g w=>⟨F,q,c,S,p,g,(ak.bind w).mono λv H1 z=>ay z λb d d1 B s r W=>?_⟩;obtain⟨K,l⟩:=k s r W;exact⟨K,l b H1 [] .refl s .nil⟩
 |cons e es=>
  refine aQ (rZ PySem.F.plainAttrs_list (AK m) (AL m) (ko m) A I h ?_ y (cf (f e Zd)) (gR λx L=>f x (Zc _ L))) λP H Q z=>aG z λF q c S p g w=>⟨F,q,c,S,p,g,(ak.bind w).mono λv H1 z=>ay z λb d d1 B s r W=>?_⟩
  ·rw[i0 f];have C:(backToKw pos (keywordEach [] X.env)).all (λx=>x.1.isSome)=Ox:=rfl;rw[C];simp only[Ql,decide_eq_true_eq];have G:(if([]:List Rl).isEmpty then 0 else 1)=0:=rfl;rw[G];simp only[Z2];omega
  ·obtain⟨K,l⟩:=k s r W;exact⟨K,F,b,c,d,s,g.mono B,l⟩
theorem AM{id:String}{r:V->List V->Hp->VK->Prop}{o:Expr}{t:TA}(S:Slot "tuple" name id)(j:typeOf (.builtin id)=pure (.type "method_descriptor"))(u:jX X id r)(w:PE X o to)(q:PA X (e::es) t)
  (c:attributeBase o name X.env (eval o X.env)=eval o X.env)
  (f:((backTo cpos (starEach (e::es) X.env)).all (λx=> !x.1)&&(backToKw cpos (keywordEach [] X.env)).all (λx=>x.1.isSome)
   &&decide ((e::es).length+([]:List Rl).length+(if([]:List Rl).isEmpty then 0 else 1)<30))=Ox)
  (d:(apos.endLine==cpos.line)=Ox) (hs:starEach (e::es) X.env=(Oy,eval e X.env)::starEach es X.env) (g:(backTo cpos (starEach es X.env)).any (·.1)=Oy):
  PE X (.Call (.Attribute o name apos) (e::es) [] cpos) (λσ H Q=>to σ H λx H1=>(∃a vs,x=.ref a/\b7 X.K H1 a vs)/\t σ H1 λxs H2=>r x xs H2 Q):=by
 intro P s σ H Q I h;refine P5 c f d rfl (aT (w _ s _ H _ I h) λv D z=>?_);obtain⟨x,_,i,R,ty,A⟩:=z;obtain⟨a,vs,rfl,l⟩:=ty;subst R;obtain⟨y,_,⟨O,E,n,_⟩,_⟩:=i.tuple l;refine⟨_,_,PySem.F.plainAttrs_tuple,S,j,⟨_,E,n⟩,λb p=>by cases p;exact i.noD l,?_⟩;have k:=q cpos _ _ _ _ _ i A;rw[hs]at k⊢;exact Po (by trivial) (Pz (aT k λU F z=>by obtain⟨_,_,m,C,B⟩:=z;exact(u _ _ _ _ (.ref a) _ _ _ Q m rfl C B)))
theorem AN{o:Expr}(j:fE o=Ox)(i:(apos.endLine==pos.line)=Ox)(b:∀x∈es,bA x=Ox)(m:es.length=1)(k:PE X o (tE X.K X.mg E Φ Γ a))(g:PA X es (tL X.K X.mg E Φ Γ cs)):
  PE X (.Call (.Attribute o "index" apos) es [] pos) (tE X.K X.mg E Φ Γ (.tix a cs)):=by
 have h:attributeBase o "index" X.env (eval o X.env)=eval o X.env:=by cases o<;>first|rfl|cases j
 cases es with
 |nil=>cases m
 |cons e es=>
  refine aQ (AM PySem.F.slot_tuple_index PySem.F.type_tuple_index Af k g h ?_ i (cf (b e Zd)) (gR λx l=>b x (Zc _ l))) λL H Q z=>aG z λF J K S p d w=>⟨F,_,_,S,p,d,(ak.bind w).mono λV H1 z=>ay z λv B d1 t s r W=>?_⟩
  ·rw[i0 b];have c:(backToKw pos (keywordEach [] X.env)).all λx=>x.1.isSome=Ox:=rfl
   grind
  ·cases d1 with
   |tup I=>obtain⟨a,vs,c,f,G⟩:=bQ r;exact⟨⟨a,_,c,f⟩,F,_,_,_,s,d.mono t,(ak.bind W).mono λvs A z=>ay z λy C D u n R q=>⟨F,_,_,_,_,n,Rep.mono u _ _ r,R,b9 q⟩⟩
   |_=>exact W.elim
theorem AO{m:sd}{o:Expr}(V:fE o=Ox)(U:(apos.endLine==pos.line)=Ox)(d:∀x∈es,bA x=Ox)(hz:es.length=1)(Y:PE X o (tE X.K X.mg E Φ Γ a))(O:PA X es (tL X.K X.mg E Φ Γ cs)):
  PE X (.Call (.Attribute o (nT m) apos) es [] pos) (tE X.K X.mg E Φ Γ (.smt m a cs)):=by
 have h:attributeBase o (nT m) X.env (eval o X.env)=eval o X.env:=by cases o<;>first|rfl|cases V
 cases es with
 |nil=>cases hz
 |cons e es=>
  intro P s q H Q I i;obtain⟨F,c,j,S,sk,y,w⟩:=i
  have T:=Y P s q H (λx H1=>∃F c S,aK X.K ⟨X.mg,F⟩ c S H1/\aZ X.K ⟨X.mg,F⟩ c H1 j q/\∃z,x=.str z/\ak X.K ⟨X.mg,F⟩ E (Rep X.K ⟨X.mg,F⟩) c H1 Q ((ai Φ Γ cs j S).bind λD l=>(gI m z D l).noErr)) I ⟨F,c,j,S,sk,y,(ak.bind w).mono λv1 H1 i=>ay i λf k d1 x1 B r W=>by
   cases d1 with
   |str z=>cases cc r;exact⟨F,f,k,B,y.mono x1,z,rfl,W⟩
   |_=>exact W.elim⟩
  refine P5 h ?_ U rfl (aT T λv B Z=>Z.elim λx Z=>Z.elim λH1 Z=>Z.elim λG Z=>Z.elim λr Z=>Z.elim λu Z=>Z.elim λf Z=>Z.elim λk Z=>Z.elim λk1 Z=>Z.elim λn Z=>Z.elim λz Z=>Z.elim λN W=>?_)
  ·rw[i0 d];have K:(backToKw pos (keywordEach [] X.env)).all (λx=>x.1.isSome)=Ox:=rfl;rw[K];simp only[Ql,decide_eq_true_eq];have L:(if([]:List Rl).isEmpty then 0 else 1)=0:=rfl;rw[L];simp only[Z2];omega
  ·subst N;obtain⟨t,rfl⟩:=r;refine⟨"str",iC m,PySem.F.plainAttrs_str,Ii m,Ij m,Qk _ _ _,(λb M=>nomatch M),?_⟩;have A:=O pos P _ q H1 (λvs g=>∃F c S D,aK X.K ⟨X.mg,F⟩ c S g/\aj X.K ⟨X.mg,F⟩ c g D vs/\aO X.K ⟨X.mg,F⟩ c g Q (gI m z D S)) G ⟨u,f,j,k,k1,n,(ak.bind W).mono λvs g i=>ay i λp l D x2 C R w2=>⟨u,p,l,D,C,R,b9 w2⟩⟩;rw[cf (d e Zd)]at A⊢;refine Po (by show(Oy||(backTo pos (starEach es X.env)).any (·.1))=Oy;rw[gR λx hx=>d x (Zc _ hx)]<;>rfl) (Pz ?_);exact aT A λus C Z=>by obtain⟨vs,g,J,R,q2⟩:=Z;exact(Ik m J R q2)
theorem uX{x:Str}{j:Nat}{P:Pos}(t:(apos.endLine==pos.line)=Ox)(h:∀x∈es,bA x=Ox)(v:es.length=1)(q:PA X es (tL X.K X.mg E Φ Γ cs)):
  PE X (.Call (.Attribute (.Constant (.str x) j P) "join" apos) es [] pos) (tE X.K X.mg E Φ Γ (.join x cs)):=by
 cases es with
 |nil=>cases v
 |cons e es=>
  intro y s D H Q I z;obtain⟨F,c,C,S,B,p,w⟩:=z;refine P5 rfl ?_ t rfl (QO ?_)
  ·rw[i0 h];have m:(backToKw pos (keywordEach [] X.env)).all (λx=>x.1.isSome)=Ox:=rfl;rw[m];simp only[Ql,decide_eq_true_eq];have n:(if([]:List Rl).isEmpty then 0 else 1)=0:=rfl;rw[n];simp only[Z2];omega
  ·refine⟨"str","str.join",PySem.F.plainAttrs_str,PySem.F.slot_str_join,PySem.F.type_str_join,Qk _ _ _,(λb o=>nomatch o),?_⟩;have g:=q pos y _ D H (λvs a=>∃F c S d,aK X.K ⟨X.mg,F⟩ c S a/\aj X.K ⟨X.mg,F⟩ c a d vs/\aO X.K ⟨X.mg,F⟩ c a Q (fN x d S)) (I.tok (s.toks+1)) ⟨F,c,C,S,B,p,(ak.bind w).mono λvs a z=>ay z λf l d G i r W=>⟨F,f,l,d,i,r,b9 W⟩⟩;rw[cf (h e Zd)]at g⊢;refine Po (by show(Oy||(backTo pos (starEach es X.env)).any (·.1))=Oy;rw[gR λx u=>h x (Zc _ u)];rfl) (Pz ?_);exact aT g λU i Z=>by obtain⟨vs,a,k,r,A⟩:=Z;exact(Ih k r A)
end
theorem IJ{t:OA}{i:Nat}{x:OB}(h:s.heap.IsTupleIter it t i)(g:s.heap.IsTuple t items)(j:items[i]?=some x)
  (e:∀h',h'.IsTupleIter it t (i+1)->PC it s.heap h'->Q x {s with heap:=h'}):wpAny (model prog w) A (OM (.ref it)) Q E s:=by
 obtain⟨o,a,f,H⟩:=id h;obtain⟨O,c,_,nl,b⟩:=g;refine Za (ZN h.typeIs Qf (ZO Qf h.typeIs SS ?_ (SM _)));show wpAny _ _ (field _ 0>>=_) _ _ s;refine Za (ZM a H rfl ?_);refine Za (ZM a H rfl ?_);refine Za (Pn c b ?_);simp_all;exact Za (Rb a H (by simp) (Ze ⟨x,rfl,Ze (e _ ⟨_,O8 _ a (RC (PX H _)),(Sa ..).trans f,by rw[PX H];rfl⟩ (Z9 ..))⟩))
theorem AQ{t:OA}{i:Nat}{Q:Vs}(g:A.handled=none)(h:s.heap.IsTupleIter it t i)(j:s.heap.IsTuple t items)(k:items[i]?=none)
  (f:∀h' e,Tw it s.heap h'->(∃o,h'.get? e=some o/\o.cls=.type "StopIteration")->E (.ref e) {s with heap:=h'}):wpAny (model prog w) A (OM (.ref it)) Q E s:=by
 obtain⟨o,b,l,H⟩:=id h;obtain⟨O,c,_,nl,a⟩:=j;refine Za (ZN h.typeIs Qf (ZO Qf h.typeIs SS ?_ (SM _)));show wpAny _ _ (field (.ref it) 0>>=_) _ _ s;refine Za (ZM b H (x:=.ref t) rfl ?_);refine Za (ZM b H rfl ?_);refine Za (Pn c a ?_);simp only[Pl,k];refine Za (RM (Za (Rb b H (by simp) ?_)));refine Za ?_;refine Za (m:=firstArgMember _ _) (wpAny_of_eq (rfl) ?_);refine ZR ?_ (by size_fits);refine Za (wpAny_handled ?_)
 first|lia|rw[g]
 exact Za (Ze (wpAny_throw (f _ _ (((Z9 ..).extBut.push _).push _) ⟨_,Zi _ rfl,rfl⟩)))
def cg(b:Bool)(h:OI)(l:OA)(xs:Av):Prop:=match b with
 |true=>h.IsList l xs
 |false=>h.IsTuple l xs
def bI(b:Bool)(h:OI)(it l:OA)(i:Nat):Prop:=match b with
 |true=>h.IsListIter it l i
 |false=>h.IsTupleIter it l i
theorem cg.at{b:Bool}{l:OA}{xs:Av}(q:cg b h l xs)(k:∀o,h.get? l=some o->h'.get? l=some o):cg b h' l xs:=by
 cases b with
 |true=>exact Heap.IsList.at q k
 |false=>obtain⟨o,e,r⟩:=q;exact⟨o,k o e,r⟩
theorem bI.at{b:Bool}{l:OA}{i:Nat}(q:bI b h it l i)(k:∀o,h.get? it=some o->h'.get? it=some o):bI b h' it l i:=by
 cases b with
 |true=>exact Heap.IsListIter.at q k
 |false=>exact Heap.IsTupleIter.at q k
theorem bI.obj{b:Bool}{l:OA}{i:Nat}(q:bI b h it l i):∃o,h.get? it=some o/\∀v,o.data≠.cell v:=by
 cases b with
 |true=>obtain⟨o,e,c,d⟩:=q;simp_all
 |false=>obtain⟨o,e,c,d⟩:=q;simp_all
theorem iE(d:A.handled=none)(b:Bool)(it l:OA)(a:l≠it)(items:Av):
  Draws prog w A it [it,l] items.size (λi v=>items[i]?=some v) (λi h=>bI b h it l i/\cg b h l items):=by
 cases b with
 |true=>exact Draws.list d _ l a _
 |false=>exact{
   live:=λ_ _ S=>(by obtain⟨o,ho,_⟩:=S.1;exact(⟨o,ho⟩))
   frame:=λ_ _ _ S f=>⟨S.1.at λo e=>f _ (by simp) o e,S.2.at λo e=>f l (by simp) o e⟩
   item:=λi s Q E m S j=>by exact IJ S.1 S.2 (x:=items[i]) (by simp) λk H c=>j _ _ _ (by simp) ⟨H,S.2.at λo e=>c.extBut _ _ a e⟩ c
   done:=λs Q E S g=>AQ d S.1 S.2 (by simp) g}
structure ek (z TI TO i1 i2 l1 l2:OA):Prop where
 TIz:TI≠z
 TOz:TO≠z
 i1z:i1≠z
 i2z:i2≠z
 TITO:TI≠TO
 TIi1:TI≠i1
 TIi2:TI≠i2
 TOi1:TO≠i1
 TOi2:TO≠i2
 i12:i1≠i2
 l1:l1≠z/\l1≠TO/\l1≠i1/\l1≠i2
 l2:l2≠z/\l2≠TO/\l2≠i1/\l2≠i2
theorem AR{prog:OF}{w:ON}{b:Bool}{t:OA}{i:Nat}{Q:Vs}(c:A.handled=none)(h:bI b s.heap it t i)(d:cg b s.heap t items)(f:items[i]?=none)
  (H:∀h' e,Tw it s.heap h'->(∃o,h'.get? e=some o/\o.cls=.type "StopIteration")->E (.ref e) {s with heap:=h'}):wpAny (model prog w) A (OM (.ref it)) Q E s:=by
 cases b with
 |true=>exact wpAny_nextOf_list_end c h d f H
 |false=>exact AQ c h d f H
section
variable {z TI TO i1 i2 l1 l2:OA}{k1 k2:Nat}{xs ys:Av}{a b:OB}
theorem uY(D:ek z TI TO i1 i2 l1 l2)(hh:A.handled=none){x y:OB}
  (O:Rp s.heap z TI TO .none) (hTI:PY s.heap TI (.ref i1) (.ref i2)) (hTO:PY s.heap TO a b)
  (h1:bI b1 s.heap i1 l1 k1) (h2:bI b2 s.heap i2 l2 k2) (hl1:cg b1 s.heap l1 xs) (hl2:cg b2 s.heap l2 ys) (hx:xs[k1]?=some x) (hy:ys[k2]?=some y)
  (hQ:∀h',Rp h' z TI TO (rawInt s.heap.objs.size)->PY h' TO x y->bI b1 h' i1 l1 (k1+1)->bI b2 h' i2 l2 (k2+1)->PY h' s.heap.objs.size x y->h'.objs.size=s.heap.objs.size+1->
   (∀c o,c≠z->c≠TO->c≠i1->c≠i2->s.heap.get? c=some o->h'.get? c=some o)->∀tk,Q (.ref s.heap.objs.size) {s with heap:=h',toks:=tk}):
  wpAny (model prog w) A (PF.«zip.__next__» ⟨[.ref z],[]⟩) (λfin s'=>∃v,fin=.done (.ret v)/\Q v s') E s:=by
 have D1:=iE (prog:=prog) (w:=w) (A:=A) hh b1 i1 l1 D.l1.2.2.1 xs;have D2:=iE (prog:=prog) (w:=w) (A:=A) hh b2 i2 l2 D.l2.2.2.2 ys;have n1:k1<xs.size:=(P'.mp hx).1;have n2:k2<ys.size:=(P'.mp hy).1;show wpAny _ _ (field (.ref z) 2>>=_) _ _ _;refine Za (ZM O rfl (x:=.bool Oy) rfl ?_);show wpAny _ _ (field (.ref z) 3>>=_) _ _ _;refine Za (ZM O rfl (x:=.ref TI) rfl ?_);refine Za (Pn hTI rfl ?_);show wpAny _ _ (O' (.ref z)>>=_) _ _ _;refine Za ?_;unfold O';refine Za (ZM O rfl (x:=.none) rfl (Ze ?_));simp only[if_true];refine Za (RM ?_);refine Za (ZM O rfl (x:=.ref TO) rfl ?_);refine Za (P7 O (by simp) λR q H=>?_);replace q:Rp R z TI TO .ellipsis:=q;refine Za ?_;simp only[Us,List.zipIdx_nil,Qo,List.forIn_nil];refine Za (Za (Sg ?_));show wpAny _ _ (OM (.ref i1)>>=_) _ _ _;refine Za (D1.item k1 _ _ _ n1 ⟨h1.at λo e=>H.extBut _ _ D.i1z e,hl1.at λo e=>H.extBut _ _ D.l1.1 e⟩ λx' T tk M S d=>Ze ?_);rw[hx]at M;cases M;have t:PY T TO a b:=d.extBut _ _ D.TOi1 (H.extBut _ _ D.TOz hTO);refine Za (Pn t rfl ?_);refine Za (R0 t λU k f=>?_);replace k:PY U TO x b:=k;refine Za (wpAny_letGo (Ze ?_));refine Za (Za (Sg ?_));show wpAny _ _ (OM (.ref i2)>>=_) _ _ _;refine Za (D2.item k2 _ _ _ n2 ⟨h2.at λo e=>f.extBut _ _ D.TOi2.symm (d.extBut _ _ D.i12.symm (H.extBut _ _ D.i2z e)),hl2.at λo e=>f.extBut _ _ D.l2.2.1 (d.extBut _ _ D.l2.2.2.1 (H.extBut _ _ D.l2.1 e))⟩ λy' V tk2 N K i=>Ze ?_);rw[hy]at N;cases N;have u:PY V TO x b:=i.extBut _ _ D.TOi2 k;refine Za (Pn u rfl ?_);refine Za (R0 u λh g j=>?_);replace g:PY h TO x y:=g;refine Za (wpAny_letGo (Ze (Ze ?_)));refine Za (Pn g rfl ?_);refine Za (wpAny_newTuple ?_);have L:h.objs.size=s.heap.objs.size:=by rw[j.1,i.1,f.1,d.1,H.1]
 have C:Rp h z TI TO .ellipsis:=j.extBut _ _ D.TOz.symm (i.extBut _ _ D.i2z.symm (f.extBut _ _ D.TOz.symm (d.extBut _ _ D.i1z.symm q)));have I:∀c o,c≠z->c≠TO->c≠i1->c≠i2->s.heap.get? c=some o->h.get? c=some o:=λc o G X Y Z e=>j.extBut _ _ X (i.extBut _ _ Z (f.extBut _ _ X (d.extBut _ _ Y (H.extBut _ _ G e))));have g1:bI b1 h i1 l1 (k1+1):=S.1.at λo e=>j.extBut _ _ D.TOi1.symm (i.extBut _ _ D.i12 (f.extBut _ _ D.TOi1.symm e));have g2:bI b2 h i2 l2 (k2+1):=K.1.at λo e=>j.extBut _ _ D.TOi2.symm e;have F:z<h.objs.size:=Zm C;show wpAny _ _ (QS (.ref z) (.ref h.objs.size)>>=_) _ _ _;refine Za ?_;unfold QS;have J:Rp (h.push {cls:=.type "tuple",data:=.seq #[x,y]}) z TI TO .ellipsis:=Zb _ C;refine Za (P7 J (by simp) λW r n=>?_);replace r:Rp W z TI TO (rawInt h.objs.size):=r;refine P7 r (by simp) λm l p=>?_;replace l:Rp m z TI TO (rawInt h.objs.size):=l;have up:∀c o,c≠z->h.get? c=some o->m.get? c=some o:=λc o G e=>p.extBut _ _ G (n.extBut _ _ G (Zb _ e));have B:PY m h.objs.size x y:=p.extBut _ _ (Qe F) (n.extBut _ _ (Qe F) (Zi _ rfl));have P:m.objs.size=h.objs.size+1:=by rw[p.1,n.1,PN]
 rw[L]at l B P;refine Ze ⟨_,rfl,?_⟩;show Q (.ref h.objs.size) _;rw[L];exact hQ m l (up _ _ D.TOz g) (g1.at λo e=>up _ o D.i1z e) (g2.at λo e=>up _ o D.i2z e) B P (λc o G X Y Z e=>up c o G (I c o G X Y Z e)) _
theorem IK(D:ek z TI TO i1 i2 l1 l2)(I:A.handled=none){Q:Fin->Oz->Prop}
  (v:Rp s.heap z TI TO .none) (K:PY s.heap TI (.ref i1) (.ref i2)) (L:PY s.heap TO a b)
  (h1:bI b1 s.heap i1 l1 k1) (Z:bI b2 s.heap i2 l2 k2) (u:cg b1 s.heap l1 xs) (N:cg b2 s.heap l2 ys) (t:xs[k1]?=none\/ys[k2]?=none)
  (P:∀h' e tk,(∀c o,c≠z->c≠TO->c≠i1->c≠i2->s.heap.get? c=some o->h'.get? c=some o)->(∃o,h'.get? e=some o/\o.cls=.type "StopIteration")->E (.ref e) {s with heap:=h',toks:=tk}):
  wpAny (model prog w) A (PF.«zip.__next__» ⟨[.ref z],[]⟩) Q E s:=by
 have W:=iE (prog:=prog) (w:=w) (A:=A) I b1 i1 l1 D.l1.2.2.1 xs;have D2:=iE (prog:=prog) (w:=w) (A:=A) I b2 i2 l2 D.l2.2.2.2 ys;show wpAny _ _ (field (.ref z) 2>>=_) _ _ _;refine Za (ZM v rfl (x:=.bool Oy) rfl ?_);show wpAny _ _ (field (.ref z) 3>>=_) _ _ _;refine Za (ZM v rfl (x:=.ref TI) rfl ?_);refine Za (Pn K rfl ?_);show wpAny _ _ (O' (.ref z)>>=_) _ _ _;refine Za ?_;unfold O';refine Za (ZM v rfl (x:=.none) rfl (Ze ?_));simp only[if_true];refine Za (RM ?_);refine Za (ZM v rfl (x:=.ref TO) rfl ?_);refine Za (P7 v (by simp) λy f h=>?_);replace f:Rp y z TI TO .ellipsis:=f;refine Za ?_;simp only[Us,List.zipIdx_nil,Qo,List.forIn_nil];refine Za (Za (Sg ?_));show wpAny _ _ (OM (.ref i1)>>=_) _ _ _;by_cases U:k1<xs.size
 ·have hy:ys[k2]?=none:=t.resolve_left (by simp[U]);refine Za (W.item k1 _ _ _ U ⟨h1.at λo e=>h.extBut _ _ D.i1z e,u.at λo e=>h.extBut _ _ D.l1.1 e⟩ λx p tk T S H=>Ze ?_);have i:PY p TO a b:=H.extBut _ _ D.TOi1 (h.extBut _ _ D.TOz L);refine Za (Pn i rfl ?_);refine Za (R0 i λq G d=>?_);refine Za (wpAny_letGo (Ze ?_));refine Za (Za (Sg ?_));show wpAny _ _ (OM (.ref i2)>>=_) _ _ _;refine Za (AR I (Z.at λo e=>d.extBut _ _ D.TOi2.symm (H.extBut _ _ D.i12.symm (h.extBut _ _ D.i2z e))) (N.at λo e=>d.extBut _ _ D.l2.2.1 (H.extBut _ _ D.l2.2.2.1 (h.extBut _ _ D.l2.1 e))) hy λB e k M=>?_);obtain⟨O,g,j⟩:=M;have n:Rp B z TI TO .ellipsis:=k _ _ D.i2z.symm (d.extBut _ _ D.TOz.symm (H.extBut _ _ D.i1z.symm f));have r:e≠z:=λx=>by subst x;rw[n]at g;cases g;simp at j
  exact P7 n (by simp) λF _ l=>P F e _ (λc o C X J Y x=>l.extBut _ _ C (k _ _ Y (d.extBut _ _ X (H.extBut _ _ J (h.extBut _ _ C x))))) ⟨O,l.extBut _ _ r g,j⟩
 ·have T:xs[k1]?=none:=by simp;omega
  refine Za (AR I (h1.at λo e=>h.extBut _ _ D.i1z e) (u.at λo e=>h.extBut _ _ D.l1.1 e) T λp e H M=>?_);obtain⟨O,g,j⟩:=M;have m:Rp p z TI TO .ellipsis:=H _ _ D.i1z.symm f;have r:e≠z:=λx=>by subst x;rw[m]at g;cases g;simp at j
  exact P7 m (by simp) λq _ d=>P q e _ (λc o C _ J _ x=>d.extBut _ _ C (H _ _ J (h.extBut _ _ C x))) ⟨O,d.extBut _ _ r g,j⟩
theorem IM(D:ek z TI TO i1 i2 l1 l2)(v:A.handled=none){x y:OB}{Q:Ov->Oz->Prop}
  (i:Rp s.heap z TI TO .none) (h:PY s.heap TI (.ref i1) (.ref i2)) (H:PY s.heap TO a b)
  (h1:bI b1 s.heap i1 l1 k1) (r:bI b2 s.heap i2 l2 k2) (d:cg b1 s.heap l1 xs) (e:cg b2 s.heap l2 ys) (B:xs[k1]?=some x) (C:ys[k2]?=some y)
  (u:∀h',Rp h' z TI TO (rawInt s.heap.objs.size)->PY h' TO x y->bI b1 h' i1 l1 (k1+1)->bI b2 h' i2 l2 (k2+1)->PY h' s.heap.objs.size x y->h'.objs.size=s.heap.objs.size+1->
   (∀c o,c≠z->c≠TO->c≠i1->c≠i2->s.heap.get? c=some o->h'.get? c=some o)->∀tk,Q (some (.ref s.heap.objs.size)) {s with heap:=h',toks:=tk}):
  wpAny (model prog w) A (pyNext (.ref z)) Q E s:=by
 have f:s.TypeIs (.ref z) _:=⟨_,i,rfl⟩
 exact Za (QN (ZN f RH
  (ZO RH f F.entry_zip_next (uY D (show A.in1.handled=none from v) i h H h1 r d e B C λh' j k l m n p q tk=>Ze (u _ j k l m n p q _)) (F.args_zip_next_1 _))))
theorem IP(D:ek z TI TO i1 i2 l1 l2)(q:A.handled=none){Q:Ov->Oz->Prop}
  (k:Rp s.heap z TI TO .none) (H:PY s.heap TI (.ref i1) (.ref i2)) (d:PY s.heap TO a b)
  (h1:bI b1 s.heap i1 l1 k1) (l:bI b2 s.heap i2 l2 k2) (f:cg b1 s.heap l1 xs) (g:cg b2 s.heap l2 ys) (h:xs[k1]?=none\/ys[k2]?=none)
  (m:∀h' tk,(∀c o,c≠z->c≠TO->c≠i1->c≠i2->s.heap.get? c=some o->h'.get? c=some o)->Q none {s with heap:=h',toks:=tk}):wpAny (model prog w) A (pyNext (.ref z)) Q E s:=by
 have i:s.TypeIs (.ref z) _:=⟨_,k,rfl⟩
 refine Za (QN (ZN i RH
  (ZO RH i F.entry_zip_next (IK D (show A.in1.handled=none from q) k H d h1 l f g h λh' e tk r p=>?_) (F.args_zip_next_1 _))))
 obtain⟨o,u,n⟩:=p;exact Za (SN ⟨o,u,n⟩ isSubtype_stop (Ze (m _ _ r)))
end
noncomputable def gS(b:Bool)(l:OA):Obj:={cls:=.type (match b with|true=>"list_iterator"|false=>"tuple_iterator"),data:=.fields #[.ref l,.int 0 0]}
noncomputable def AS(h:OI)(b:Bool)(l1:OA):OI:=h.push (gS b l1)
noncomputable def AU(h:OI)(b B:Bool)(l1 l2:OA):OI:=(AS h b l1).push (gS B l2)
noncomputable def AV(h:OI)(b B:Bool)(l1 l2:OA):OI:=(AU h b B l1 l2).push {cls:=.type "tuple",data:=.seq #[.ref h.objs.size,.ref (AS h b l1).objs.size]}
noncomputable def AW(h:OI)(b B:Bool)(l1 l2:OA):OI:=(AV h b B l1 l2).push {cls:=.type "tuple",data:=.seq #[.none,.none]}
noncomputable def ss(h:OI)(b B:Bool)(l1 l2:OA):OI:=(AW h b B l1 l2).push {cls:=.type "zip",data:=.fields #[.none,.bool Oy,.bool Oy,.ref (AU h b B l1 l2).objs.size,.ref (AV h b B l1 l2).objs.size]}
theorem oy(c B:Bool)(l1 l2:OA)(xs ys:Av):
  Meets (PF.«zip.__new__» ⟨[.type "zip",.ref l1,.ref l2],[]⟩) (λ_ R s=>cg c s.heap l1 xs/\cg B s.heap l2 ys/\R (.ok (.ret (.ref (AW s.heap c B l1 l2).objs.size))) {s with heap:=ss s.heap c B l1 l2}):=
 .of_wp λp w A R s h=>by
  obtain⟨b,g,d,t,O⟩:=s;obtain⟨f,i,h⟩:=h;have k:=sub_zip;have H:cg B (AS b c l1) l2 ys:=i.at λo e=>Zb _ e;cases c with
  |true=>
   have a:Tx (QY ⟨b,g,d,t,O⟩) l1 xs:=f;cases B with
   |true=>
    have H:Tx (QY ⟨b.push {cls:=.type "list_iterator",data:=.fields #[.ref l1,.int 0 0]},g,d,t,O⟩) l2 ys:=H
    wp_walk using PL a,PL H
    exact⟨_,rfl,h⟩
   |false=>
    have H:Tb (QY ⟨b.push {cls:=.type "list_iterator",data:=.fields #[.ref l1,.int 0 0]},g,d,t,O⟩) l2 ys:=H
    wp_walk using PL a,Ph H
    exact⟨_,rfl,h⟩
  |false=>
   have a:Tb (QY ⟨b,g,d,t,O⟩) l1 xs:=f;cases B with
   |true=>
    have H:Tx (QY ⟨b.push {cls:=.type "tuple_iterator",data:=.fields #[.ref l1,.int 0 0]},g,d,t,O⟩) l2 ys:=H
    wp_walk using Ph a,PL H
    exact⟨_,rfl,h⟩
   |false=>
    have H:Tb (QY ⟨b.push {cls:=.type "tuple_iterator",data:=.fields #[.ref l1,.int 0 0]},g,d,t,O⟩) l2 ys:=H
    wp_walk using Ph a,Ph H
    exact⟨_,rfl,h⟩
theorem AX{b:Bool}{l:OA}(e:h.get? it=some (gS b l)):bI b h it l 0:=by
 cases b with
 |true=>exact⟨_,e,rfl,rfl⟩
 |false=>exact⟨_,e,rfl,rfl⟩
theorem IQ{l1 l2:OA}{xs ys:Av}(H:cg b1 s.heap l1 xs)(a:cg b2 s.heap l2 ys)
  (h:∀h',Rp h' (s.heap.objs.size+4) (s.heap.objs.size+2) (s.heap.objs.size+3) .none->PY h' (s.heap.objs.size+2) (.ref s.heap.objs.size) (.ref (s.heap.objs.size+1))->
   PY h' (s.heap.objs.size+3) .none .none->bI b1 h' s.heap.objs.size l1 0->bI b2 h' (s.heap.objs.size+1) l2 0->h'.objs.size=s.heap.objs.size+5->
   (∀c o,s.heap.get? c=some o->h'.get? c=some o)->Q (.ref (s.heap.objs.size+4)) {s with heap:=h'}):
  wpAny (model prog w) A (call (.type "zip") [.ref l1,.ref l2]) Q E s:=by
 refine callType_new F.called_zip (by decide) (F.typeCall_zip_2 _ _) (F.newCall_zip_2 _ _) (λobj=>F.args_object_init_3 obj _ _) F.entry_zip_new (oy b1 b2 l1 l2 xs ys) ⟨H,a,?_⟩;have z:(AS s.heap b1 l1).objs.size=s.heap.objs.size+1:=PN ..;have Z:(AU s.heap b1 b2 l1 l2).objs.size=s.heap.objs.size+2:=by unfold AU;rw[PN,z]
 have b:(AV s.heap b1 b2 l1 l2).objs.size=s.heap.objs.size+3:=by unfold AV;rw[PN,Z]
 have d:(AW s.heap b1 b2 l1 l2).objs.size=s.heap.objs.size+4:=by unfold AW;rw[PN,b]
 have k:(ss s.heap b1 b2 l1 l2).objs.size=s.heap.objs.size+5:=by unfold ss;rw[PN,d]
 have g:(ss s.heap b1 b2 l1 l2).get? (AW s.heap b1 b2 l1 l2).objs.size=some _:=Zi _ rfl;have f:(ss s.heap b1 b2 l1 l2).get? (AV s.heap b1 b2 l1 l2).objs.size=some _:=Zb _ (Zi _ rfl);have e:(ss s.heap b1 b2 l1 l2).get? (AU s.heap b1 b2 l1 l2).objs.size=some _:=Zb _ (Zb _ (Zi _ rfl));have G:(ss s.heap b1 b2 l1 l2).get? (AS s.heap b1 l1).objs.size=some (gS b2 l2):=Zb _ (Zb _ (Zb _ (Zi _ (by cases b2<;>rfl))));have j:(ss s.heap b1 b2 l1 l2).get? s.heap.objs.size=some (gS b1 l1):=Zb _ (Zb _ (Zb _ (Zb _ (Zi _ (by cases b1<;>rfl)))));show _/\_;rw[Z,b,d]at g;rw[z,Z]at e;rw[b]at f;rw[z]at G;rw[d]
 exact⟨⟨_,g,rfl⟩,h _ g e f (AX j) (AX G) k λc o x=>
  Zb _ (Zb _ (Zb _ (Zb _ (Zb _ x))))⟩
def i4(b:Bool)(K:Fg)(H:Hp)(l:OA)(xs:List V):Prop:=match b with
 |true=>c8 K H l xs
 |false=>b7 K H l xs
noncomputable def Nt(K:Fg)(b B:Bool)(l1 l2:OA):It:=
 ⟨λi H=>∃xs ys x y,i4 b K H l1 xs/\i4 B K H l2 ys/\xs[i]?=some x/\ys[i]?=some y,
  λi H v H'=>∃T x y,v=.ref T/\H T=none/\H'=ba H T (.tup [x,y])/\(∀xs,i4 b K H l1 xs->xs[i]?=some x)/\(∀ys,i4 B K H l2 ys->ys[i]?=some y),
  λi H=>∃xs ys,i4 b K H l1 xs/\i4 B K H l2 ys/\(xs.length<=i\/ys.length<=i)⟩
theorem i5{b:Bool}{l:OA}{xs:List V}(I:Inv X pq σ H s)(h:i4 b X.K H l xs):∃its,Vals xs its/\cg b s.heap l its.toArray:=by
 cases b with
 |true=>obtain⟨its,r,p,_⟩:=I.list h;exact⟨_,r,p.isList⟩
 |false=>obtain⟨its,r,p,_⟩:=I.tuple h;exact⟨_,r,p⟩
theorem AY{b:Bool}{l:OA}{xs ys:List V}(I:Inv X pq σ H s)(h:i4 b X.K H l xs)(h':i4 b X.K H l ys):xs=ys:=by
 cases b with
 |true=>exact I.list_inj h h'
 |false=>exact I.tuple_inj h h'
theorem df{b:Bool}{l c:OA}{xs:List V}(I:Inv X pq σ H s)(h:i4 b X.K H l xs)(d:dH X pq H c):l≠c:=by
 have k:∀{o:Obj},X.K.lookup l=some o->l≠c:=λ{o} e=>by
  have E:=I.mod.kin l o e;rintro rfl;rcases d.2.2.2.1 with z|z
  ·exact I.ok.noex l o E z
  ·exact absurd (ZB (Zm E) (Zl I.ok.bsz z)) (OR _)
 have a:∀{o:HO},H l=some o->l≠c:=λ{o} e=>by rintro rfl;rw[d.1]at e;cases e
 cases b with
 |true=>
  rcases h with(h| ⟨o,h⟩)| ⟨o,i,n,h,_⟩
  ·exact a h
  ·exact a h
  ·exact k h
 |false=>
  rcases h with(h| ⟨o,h⟩)| ⟨o,i,n,h,_⟩
  ·exact a h
  ·exact a h
  ·exact k h
theorem AZ{t':Nat}(I:Inv X pq σ H s)(k:∀b o,b∉ch->s.heap.get? b=some o->h'.get? b=some o)(a:∀b∈ch,dH X pq H b):Inv X pq σ H {s with heap:=h',toks:=t'}:=by
 have N:∀b u,H b=some u->b∉ch:=λb u e z=>by rw[(a b z).1]at e;cases e
 refine I.step (λb f=>?_) (λb o _ _ h e _=>k b o h e) (λb o _ _ h e _=>⟨_,k b o h e⟩) (λ_ _ _ _ n=>n)
  (λb o h e=>⟨o,k b o h e⟩) (λ_ _ e=>e) (λ_ _ _ e=>e) (λb P e=>⟨#[],by trivial⟩) (λm g=>?_) (λb u e=>?_) I.bare
 ·obtain⟨_,F,_,l,p,w⟩:=a b f;trivial
 ·obtain⟨o,j,E,i,r⟩:=g;exact⟨o,_,_,k _ o (λz=>(a _ z).2.1 rfl) i,r⟩
 ·refine(I.hok b u e).stay (λc v h q=>k c v ?_ q) (λ_ q=>q) λ_ _ q=>q
  grind
def Ob(b B:Bool)(z TI TO I c l1 l2:OA)(i:Nat)(h:OI):Prop:=Rp h z TI TO .none/\PY h TI (.ref I) (.ref c)/\(∃a b,PY h TO a b)/\bI b h I l1 i/\bI B h c l2 i
theorem IS{P:OF}{x1}{pos:Pos}(b b':Bool)(z TI TO i1 i2 l1 l2:OA)(n1:TI≠z)(n2:TO≠z)(n3:i1≠z)(n4:i2≠z)(n5:TI≠TO)(n6:TI≠i1)(n7:TI≠i2)(n8:TO≠i1)(n9:TO≠i2)(n10:i1≠i2):
  Turn P w K (.Tuple es x1 pos) (Nt K b b' l1 l2) [z,TI,TO,i1,i2] z (Ob b b' z TI TO i1 i2 l1 l2) where
 mem:=by simp
 obj:=λi h ⟨hz,hTI,⟨a,c,hTO⟩,h1,h2⟩ d hd=>by
  simp only[Zh,Zt,ZZ]at hd;rcases hd with rfl|rfl|rfl|rfl|rfl
  ·exact⟨_,hz,λv q=>by have q':Data.fields _=Data.cell v:=q;cases q'⟩
  ·exact⟨_,hTI,λv q=>by grind⟩
  ·exact⟨_,hTO,λv q=>by grind⟩
  ·exact h1.obj
  ·exact h2.obj
 keep:=λi h h' ⟨hz,hTI,⟨a,c,hTO⟩,h1,h2⟩ k=>⟨k z (by simp) _ hz,k TI (by simp) _ hTI,⟨a,c,k TO (by simp) _ hTO⟩,h1.at λo e=>k i1 (by simp) o e,h2.at λo e=>k i2 (by simp) o e⟩
 item:=by
  intro X hP hw hK hc i pq s σ H E I hf st hg;subst hP hw hK;obtain⟨hz,hTI,⟨a,c,hTO⟩,h1,h2⟩:=st;obtain⟨xs,ys,x,y,q1,q2,ex,ey⟩:=hg;obtain⟨us,r1,s1⟩:=i5 I q1;obtain⟨ws,r2,s2⟩:=i5 I q2;obtain⟨u,eu,ru⟩:=r1.get ex;obtain⟨v,ev,rv⟩:=r2.get ey
  have Dp:ek z TI TO i1 i2 l1 l2:=⟨n1,n2,n3,n4,n5,n6,n7,n8,n9,n10,⟨df I q1 (hf z (by simp)),df I q1 (hf TO (by simp)),df I q1 (hf i1 (by simp)),df I q1 (hf i2 (by simp))⟩,
   ⟨df I q2 (hf z (by simp)),df I q2 (hf TO (by simp)),df I q2 (hf i1 (by simp)),df I q2 (hf i2 (by simp))⟩⟩
  refine IM Dp (I.ok.hd hc) hz hTI hTO h1 h2 s1 s2 (x:=u) (y:=v) (by simpa using eu) (by simpa using ev) λh' a1 a2 a3 a4 a5 a6 kk tk=>?_;refine⟨_,rfl,?_⟩;refine wpAny_letOwnedTupleGo_zip (s:={s with heap:=h',toks:=tk}) a1 λh2' b1 sb=>?_;have hTn:H s.heap.objs.size=none:=I.hok.fresh (Zf _)
  have kk2:∀c o,c∉[z,TI,TO,i1,i2]->s.heap.get? c=some o->h2'.get? c=some o:=λc o hc e=>by simp only[Zh,Zt,ZZ,not_or]at hc;exact(sb.2 c hc.1).trans (kk c o hc.1 hc.2.2.1 hc.2.2.2.1 hc.2.2.2.2 e)
  have hTz:∀c∈[z,TI,TO,i1,i2],s.heap.objs.size≠c:=λc hc e=>by
   obtain⟨o,q,_⟩:∃o,s.heap.get? c=some o/\True:=by
    simp only[Zh,Zt,ZZ]at hc;rcases hc with rfl|rfl|rfl|rfl|rfl
    ·exact⟨_,hz,trivial⟩
    ·exact⟨_,hTI,trivial⟩
    ·exact⟨_,hTO,trivial⟩
    ·exact⟨_,h1.obj.choose_spec.1,trivial⟩
    ·exact⟨_,h2.obj.choose_spec.1,trivial⟩
   exact absurd (Zm q) (by rw[e];exact OR _)
  have I2:Inv X pq σ (ba H s.heap.objs.size (.tup [x,y])) {s with heap:=h2',toks:=tk}:=by
   have Im:Inv X pq σ (ba H s.heap.objs.size (.tup [x,y])) {s with heap:=s.heap.push {cls:=.type "tuple",data:=.seq #[u,v]},toks:=s.toks}:=
    I.laid (λb o e=>Zb _ e) (Zf _) ⟨by show 2<=sizeLine;decide,[u,v],.cons ru (.cons rv .nil),⟨_,Zi _ rfl,rfl,_,rfl⟩,_,Zi _ rfl,rfl⟩
   refine AZ (s:={s with heap:=s.heap.push {cls:=.type "tuple",data:=.seq #[u,v]},toks:=s.toks}) Im (ch:=[z,TI,TO,i1,i2]) (λb o hb e=>?_) λb hb=>?_
   ·rcases Heap.get?_push_cases e with⟨rfl,rfl⟩|e'
    ·exact(sb.2 _ (hTz z (by simp))).trans a5
    ·exact kk2 b o hb e'
   ·obtain⟨f0,f1⟩:=hf b hb;exact⟨by rw[aI (λe=>hTz b hb e.symm)];exact f0,f1⟩
  refine⟨.ref s.heap.objs.size,ba H s.heap.objs.size (.tup [x,y]),I2,rfl,⟨s.heap.objs.size,x,y,rfl,hTn,rfl,λzs hq=>by rw[AY I hq q1];exact ex,λzs hq=>by rw[AY I hq q2];exact ey⟩,
   ⟨b1,(sb.2 TI n1).trans (kk TI _ n1 n5 n6 n7 hTI),⟨u,v,(sb.2 TO n2).trans a2⟩,a3.at λo e=>(sb.2 i1 n3).trans e,a4.at λo e=>(sb.2 i2 n4).trans e⟩,λc hc=>?_⟩
  rw[aI (λe=>hTz c hc e.symm)];exact(hf c hc).1
 done:=by
  intro X hP hw hK hc i pq s σ H E I hf st hg;subst hP hw hK;obtain⟨hz,hTI,⟨a,c,hTO⟩,h1,h2⟩:=st;obtain⟨xs,ys,q1,q2,en⟩:=hg;obtain⟨us,r1,s1⟩:=i5 I q1;obtain⟨ws,r2,s2⟩:=i5 I q2;have hl1:=r1.length;have hl2:=r2.length
  have Dp:ek z TI TO i1 i2 l1 l2:=⟨n1,n2,n3,n4,n5,n6,n7,n8,n9,n10,⟨df I q1 (hf z (by simp)),df I q1 (hf TO (by simp)),df I q1 (hf i1 (by simp)),df I q1 (hf i2 (by simp))⟩,
   ⟨df I q2 (hf z (by simp)),df I q2 (hf TO (by simp)),df I q2 (hf i1 (by simp)),df I q2 (hf i2 (by simp))⟩⟩
  refine IP Dp (I.ok.hd hc) hz hTI hTO h1 h2 s1 s2 (en.elim (λen=>.inl (by simp;omega)) λen=>.inr (by simp;omega)) λh' tk kk=>?_;refine⟨rfl,AZ I (ch:=[z,TI,TO,i1,i2]) (λc o hc e=>?_) hf⟩;simp only[Zh,Zt,ZZ,not_or]at hc;exact kk c o hc.1 hc.2.2.1 hc.2.2.2.1 hc.2.2.2.2 e
 self:=λ_ _ _ _ _ st h=>wpAny_pyIter_zip st.1 h
structure dh (K:Fg)(F:La)(μ:La)(H:Hp)(F':La)(μ':La)(H':Hp):Prop where
 tup:∀a vs,b7 K H a vs->b7 K H' a vs
 lst:∀a vs,H a=some (.lst vs)->a∉μ->a∉F->H' a=some (.lst vs)/\a∉μ'/\a∉F'
 frz:∀a vs,um K H a vs->um K H' a vs
 box:∀(n:Nat) a,μ[n]?=some a->μ'[n]?=some a
 dct:∀a,H a=some (.dK [])->H' a=some (.dK [])
 ext:∀a φ,H a=some (.ext φ)->a∉F->H' a=some (.ext φ)/\a∉F'
section
variable {F':La}
mutual
theorem Rep.chg(x:dh K F μ H F' μ' H'):∀(d:D) (v:V),Rep K ⟨mg,F⟩ μ H d v->Rep K ⟨mg,F'⟩ μ' H' d v
 | .non,_,h=>h
 | .bl _,_,h=>h
 | .int _,_,h=>h
 | .str _,_,h=>h
 | .tup _,v,h=>by obtain⟨a,vs,e,q,r⟩:=h;exact⟨a,_,e,x.tup a _ q,aj.chg x _ _ r⟩
 | .lst _,v,h=>by obtain⟨a,vs,e,q,n,r⟩:=h;obtain⟨b,f,g⟩:=x.lst a _ q n.1 n.2;exact⟨a,_,e,b,⟨f,g⟩,aj.chg x _ _ r⟩
 | .scr _,v,h=>by obtain⟨a,vs,e,q,r⟩:=h;exact⟨a,_,e,x.frz a _ q,aj.chg x _ _ r⟩
 | .ref n,v,h=>by obtain⟨a,e,q⟩:=h;exact⟨a,e,x.box n a q⟩
 | .fn y,v,h=>h
 | .ty y,v,h=>h
 | .dct,v,h=>by obtain⟨a,e,q⟩:=h;exact⟨a,e,x.dct a q⟩
 | .dks _,v,h=>by obtain⟨a,C,e,q,n,r,k⟩:=h;obtain⟨b,f⟩:=x.ext a _ q n;exact⟨a,_,e,b,f,r,λc i=>x.tup _ _ (k c i)⟩
theorem aj.chg(x:dh K F μ H F' μ' H'):∀(ds:List D) (vs:List V),aj K ⟨mg,F⟩ μ H ds vs->aj K ⟨mg,F'⟩ μ' H' ds vs
 | [],vs,h=>h
 |d::ds,vs,h=>by obtain⟨w,W,e,r,q⟩:=h;exact⟨w,_,e,Rep.chg x d w r,aj.chg x _ _ q⟩
end
theorem aZ.chg(x:dh K F μ H F' μ' H')(h:aZ K ⟨mg,F⟩ μ H ρ σ):aZ K ⟨mg,F'⟩ μ' H' ρ σ:=
 ⟨h.1,λi d e=>(by obtain⟨v,a,b⟩:=h.2 i d e;exact(⟨v,a,Rep.chg x _ _ b⟩))⟩
theorem dh.start{o:HO}(h:H acc=none):dh K F μ H (acc::F) μ (ba H acc o):=by
 have x:Ext _ H μ (ba H _ o):=.laid h;refine⟨λa vs q=>x.sqT q,λa vs q b c=>⟨(x.lst q b).1,b,λz=>?_⟩,λa vs q=>x.frz q,λn a q=>q,λa q=>x.keep _ _ q (.inl λ_ z=>by trivial),λa d q c=>⟨x.keep _ _ q (.inl λ_ z=>by trivial),λz=>?_⟩⟩
 ·simp_all
 simp_all
noncomputable def iF:HO->Bool
 | .lst _=>Ox
 | .ext _=>Ox
 |_=>Oy
theorem dh.more{u:HO}(d:acc∈F)(h:H acc=some u)(f:iF u=Ox):dh K F μ H F μ (ba H acc u'):=by
 have ne:∀{a:OA} {o:HO},H a=some o->iF o=Oy->a≠acc:=λe n z=>by simp_all
 refine⟨λa vs q=>?_,λa vs q c b=>⟨?_,c,b⟩,λa vs q=>?_,λn a q=>q,λa q=>?_,λa g q b=>⟨by rw[aI (show a≠acc from λz=>b (by simp_all))];exact q,b⟩⟩
 ·rcases q with(q| ⟨o,q⟩)|q
  ·exact .inl (.inl (by rw[aI (ne q rfl)];exact q))
  ·exact .inl (.inr ⟨o,by rw[aI (ne q rfl)];exact q⟩)
  ·exact .inr q
 ·have:a≠acc:=λz=>by simp_all
  rw[aI this];exact q
 ·rcases q with⟨o,q⟩|q
  ·exact .inl ⟨o,by rw[aI (ne q rfl)];exact q⟩
  ·exact .inr q
 ·rw[aI (ne q rfl)];exact q
theorem dh.out:dh K (acc::F) μ H F μ H:=
 ⟨λ_ _ q=>q,λa vs q b c=>⟨q,b,λz=>c (Zc _ z)⟩,λ_ _ q=>q,λ_ _ q=>q,λ_ q=>q,λ_ _ q h=>⟨q,λz=>h (Zc _ z)⟩⟩
theorem dh.outBox:dh K (acc::F) μ H F (μ++[acc]) H:=by
 refine⟨λ_ _ q=>q,λa vs q c b=>⟨q,λz=>?_,λz=>b (Zc _ z)⟩,λ_ _ q=>q,λn a q=>?_,λ_ q=>q,λ_ _ q h=>⟨q,λz=>h (Zc _ z)⟩⟩
 ·rcases ZC.mp z with z|z
  ·exact c z
  ·have:a=acc:=by simpa using z
   subst this;exact b Zd
 ·rw[Zv (Zg.mp q).1];exact q
theorem aK.start{o:HO}(s:aK K ⟨mg,F⟩ μ S H)(h:H acc=none):aK K ⟨mg,acc::F⟩ μ S (ba H acc o):=by
 have x:Ext μ H _ (ba H _ o):=.laid h;refine⟨λa b=>?_,s.len,s.nd,λn a D c d=>?_⟩
 ·rcases Zh.mp b with rfl|b
  ·exact⟨o,bU⟩
  ·obtain⟨O,q⟩:=s.live a b;exact x.there a _ q
 ·obtain⟨vs,q,r⟩:=s.at_ n a _ c d;exact⟨_,by rw[aI (bV q h)];exact q,aj.chg (.start h) _ _ r⟩
theorem aK.more{u:HO}(s:aK K ⟨mg,F⟩ μ S H)(f:acc∈F)(j:acc∉μ)(h:H acc=some u)(i:iF u=Ox):aK K ⟨mg,F⟩ μ S (ba H acc u'):=by
 refine⟨λa g=>?_,s.len,s.nd,λn a d b c=>?_⟩
 ·by_cases e:a=acc
  ·subst e;exact⟨_,bU⟩
  ·obtain⟨o,q⟩:=s.live a g;exact⟨o,by rw[aI e];exact q⟩
 ·obtain⟨vs,q,r⟩:=s.at_ n a d b c;have:a≠acc:=λz=>by subst z;exact j (Zx b)
  exact⟨vs,by rw[aI this];exact q,aj.chg (.more f h i) _ _ r⟩
theorem aK.out(s:aK K ⟨mg,acc::F⟩ μ S H):aK K ⟨mg,F⟩ μ S H:=
 ⟨λa c=>s.live a (Zc _ c),s.len,s.nd,λn a d h b=>by obtain⟨vs,q,r⟩:=s.at_ n a _ h b;exact⟨_,q,aj.chg .out _ _ r⟩⟩
theorem aK.outBox{ys:List D}{vs:List V}(s:aK K ⟨mg,acc::F⟩ μ S H)(j:acc∉μ)(h:H acc=some (.lst vs))(r:aj K ⟨mg,acc::F⟩ μ H ys vs):aK K ⟨mg,F⟩ (μ++[acc]) (S++[ys]) H:=by
 refine⟨λa e=>s.live a (Zc _ e),by simp[s.len],?_,λn a f c d=>?_⟩
 ·rw[ZT]
  exact⟨s.nd,by simp,λa e b g=>by
   have:b=acc:=by simpa using g
   subst this;intro z;subst z;exact j e⟩
 ·have i:=s.len;by_cases k:n<μ.length
  ·rw[Zv k]at c;rw[Zv (by omega)]at d;obtain⟨w,q,R⟩:=s.at_ n a f c d;exact⟨w,q,aj.chg .outBox _ _ R⟩
  ·have E:n=μ.length:=by
    have:=(Zg.mp c).1;simp at this;omega
   subst E;rw[Zq (Zf _)]at c;rw[Zq (by omega)]at d;simp[i]at c d;subst c;subst d;exact⟨vs,h,aj.chg .outBox _ _ r⟩
theorem Ext.more{o:HO}(x:Ext μ H μ1 H1)(h:H acc=none):Ext μ H μ1 (ba H1 acc o):=
 ⟨x.pre,λa u e c=>by rw[aI (bV e h)];exact x.keep a u e c,λa u e=>by rw[aI (bV e h)];exact x.there a u e,x.fresh⟩
theorem Ext.outBox(x:Ext μ H μ1 H1)(h:H acc=none):Ext μ H (μ1++[acc]) H1:=by
 obtain⟨r,e⟩:=x.pre;refine⟨⟨r++[acc],by simp_all⟩,x.keep,x.there,λa b=>?_⟩;rcases ZC.mp b with b|b
 ·exact x.fresh a b
 simp_all
end
noncomputable def bc:iT->af->Nat->Option (Option D)
 | .items xs=>λ_ i=>some xs[i]?
 | .live _ get=>get
def f_(K:Fg)(m:GS)(J:It)(get:af->Nat->Option (Option D))(μ:La)(H:Hp):Prop:=
 ∀(i:Nat) μ' S' H' F',dh K m.F μ H F' μ' H'->aK K ⟨m.mg,F'⟩ μ' S' H'->
  (∀x,get S' i=some (some x)->J.go i H'/\∀y H'',J.yld i H' y H''->Ext μ' H' μ' H''/\aK K ⟨m.mg,F'⟩ μ' S' H''/\Rep K ⟨m.mg,F'⟩ μ' H'' x y)/\(get S' i=some none->J.stop i H')
noncomputable def tI(K:Fg)(m:Mg)(E:XK)(Φ:FT)(Γ:Str->Option D)(c:CE):TI:=λσ H R=>∃F μ ρ S,aK K ⟨m,F⟩ μ S H/\aZ K ⟨m,F⟩ μ H ρ σ/\ak K ⟨m,F⟩ E (λμ' H' its J=>f_ K ⟨m,F⟩ J (bc its) μ' H') μ H R (a7 Φ Γ c ρ S)
theorem dh.refl:dh K F μ H F μ H:=⟨λ_ _ q=>q,λ_ _ q a b=>⟨q,a,b⟩,λ_ _ q=>q,λ_ _ q=>q,λ_ q=>q,λ_ _ q h=>⟨q,h⟩⟩
theorem dh.trans{d e c:La}{f:Hp}(a:dh K F μ H d μ1 H1)(b:dh K d μ1 H1 e c f):dh K F μ H e c f:=
 ⟨λx vs q=>b.tup x _ (a.tup x _ q),λx vs q g i=>by obtain⟨p,P,j⟩:=a.lst x _ q g i;exact b.lst x _ p P j,λx vs q=>b.frz x _ (a.frz x _ q),λn x q=>b.box n x (a.box n x q),λx q=>b.dct x (a.dct x q),λx k q h=>by obtain⟨p,P⟩:=a.ext x _ q h;exact b.ext x _ p P⟩
theorem dh.of_ext{b:La}(x:Ext μ H μ' H')(d:∀a∈b,a∈F\/H a=none):dh K F μ H b μ' H':=by
 refine⟨λa vs q=>x.sqT q,λa vs q c h=>⟨(x.lst q c).1,(x.lst q c).2,λz=>?_⟩,λa vs q=>x.frz q,λn a q=>x.get q,λa q=>x.keep _ _ q (.inl λ_ z=>by lia),λa e q h=>⟨x.keep _ _ q (.inl λ_ z=>by lia),λz=>?_⟩⟩<;>rcases d a z with z|z
 ·exact h z
 ·simp_all
 ·exact h z
 simp_all
section
variable {E:XK}{l:Expr}{pos:Pos}{c:CE}
theorem uZ{R:It->Hp->Prop}{xs:List V}(I:Inv X pq σ H s)(c:c8 X.K H a xs)(q:R (FY X.K a) H):wpAny (model X.prog X.w) X.A (pyIter (.ref a)) (FX X pq σ tg R) E' s:=by
 obtain⟨i,r,p,d⟩:=I.list c;refine PL p.isList ?_;refine⟨_,_,_,_,H,rfl,I.kept λb o e=>Zb _ e,GD a _,⟨_,Zi _ rfl,rfl,rfl⟩,λb h=>?_,q⟩;have e:=by simpa using h
 subst e;exact I.fpOk (Zf _) (I.hok.fresh (Zf _))
theorem IT{R:It->Hp->Prop}{xs:List V}(I:Inv X pq σ H s)(c:b7 X.K H a xs)(q:R (GC X.K a) H):wpAny (model X.prog X.w) X.A (pyIter (.ref a)) (FX X pq σ tg R) E' s:=by
 obtain⟨i,r,p,d⟩:=I.tuple c;refine Ph (show s.heap.IsTuple a _ from p) ?_;refine⟨_,_,_,_,H,rfl,I.kept λb o e=>Zb _ e,GF a _,⟨_,Zi _ rfl,rfl,rfl⟩,λb h=>?_,q⟩;have e:=by simpa using h
 subst e;exact I.fpOk (Zf _) (I.hok.fresh (Zf _))
theorem A0{m:GS}{vs:List V}{i:Nat}(r:aj K m μ H ds vs)(h:bc (.items ds) S i=some none):vs.length<=i:=by have a:=Qg.mp (by simpa[bc]using h);have b:=r.length;simp_all
theorem A1{m:GS}{vs:List V}(h:∀F' μ' H',dh K m.F μ H F' μ' H'->c8 K H' a vs)(r:aj K m μ H ds vs):f_ K m (FY K a) (bc (.items ds)) μ H:=by
 intro i μ' S H' F' c s;have l:=r.length;refine⟨λy b=>?_,λk=>⟨vs,h _ _ _ c,A0 r k⟩⟩;have b:ds[i]?=some y:=by simpa[bc]using b
 obtain⟨v,f,j⟩:=r.get b;refine⟨⟨vs,v,h _ _ _ c,f⟩,λz g d=>?_⟩;obtain⟨rfl,d⟩:=d;have e:=d vs (h _ _ _ c);rw[f]at e;cases e;exact⟨.refl,s,Rep.chg c _ _ j⟩
theorem IU{m:GS}{vs:List V}(h:b7 K H a vs)(r:aj K m μ H ds vs):f_ K m (GC K a) (bc (.items ds)) μ H:=by
 intro i l S n F c s;have o:=r.length;refine⟨λy b=>?_,λk=>⟨vs,c.tup _ _ h,A0 r k⟩⟩;have b:ds[i]?=some y:=by simpa[bc]using b
 obtain⟨v,f,j⟩:=r.get b;refine⟨⟨vs,v,c.tup _ _ h,f⟩,λz g d=>?_⟩;obtain⟨rfl,d⟩:=d;have e:=d vs (c.tup _ _ h);rw[f]at e;cases e;exact⟨.refl,s,Rep.chg c _ _ j⟩
theorem IV{M:GS}(g:μ[n]?=some a):f_ K M (FY K a) (gK n) μ H:=by
 intro i o S p F C s;have f:n<S.length:=by rw[<-s.len];exact(Zg.mp (C.box _ _ g)).1
 have j:=Zj f;obtain⟨vs,b,r⟩:=s.at_ n a _ (C.box _ _ g) j;have f:=r.length;refine⟨λy h=>?_,λm=>⟨_,.of b,?_⟩⟩
 ·unfold gK at h;rw[j]at h;simp at h;obtain⟨v,d,l⟩:=r.get h;refine⟨⟨_,v,.of b,d⟩,λz k c=>?_⟩;obtain⟨rfl,c⟩:=c;have e:=c _ (.of b);rw[d]at e;cases e;exact⟨.refl,s,l⟩
 ·unfold gK at m;simp_all
theorem A2(y:PE X l (tE X.K X.mg E Φ Γ c)):PI X tg l (tI X.K X.mg E Φ Γ (.seq c)):=by
 intro P s K H R I h;obtain⟨F,G,J,S,B,t,w⟩:=h;refine aT (y P s K H _ I ⟨F,G,J,S,B,t,ak.bind w⟩) λu L Z=>?_;obtain⟨v,H1,j,k,e,q,d,M,b,g,W⟩:=Z;cases d with
 |tup D=>obtain⟨a,vs,rfl,f,r⟩:=bQ g;cases k;exact IT j f (W e H1 _ .refl b (IU f r))
 |lst D=>unfold Rep at g;obtain⟨a,vs,rfl,f,i,r⟩:=g;cases k;exact uZ j (.of f) (W e H1 _ .refl b (A1 (λo m p C=>.of (C.lst a vs f i.1 i.2).1) r))
 |scr D=>unfold Rep at g;obtain⟨a,vs,rfl,f,r⟩:=g;cases k;exact uZ j f.sq (W e H1 _ .refl b (A1 (λo m p C=>(C.frz a vs f).sq) r))
 |ref n=>
  have A:=g;unfold Rep at g;obtain⟨a,rfl,i⟩:=g;cases k;have z:n<q.length:=by rw[<-b.len];exact(Zg.mp i).1
  obtain⟨vs,x,r⟩:=b.at_ n a _ i (Zj z);exact uZ j (.of x) (W e H1 _ .refl b (IV i))
 |_=>exact W.elim
theorem A3(l:Int)(n:Nat):(dU l n).length=n:=by
 induction n generalizing l with
 |zero=>rfl
 |succ n i=>unfold dU;simp_all
theorem IW(l:Int)(n i:Nat)(h:i<n):(dU l n)[i]?=some (.int (l+i)):=by
 induction n generalizing l i with
 |zero=>omega
 |succ n I=>
  unfold dU;cases i with
  |zero=>simp
  |succ i=>rw[Zr,I (l+1) i (by omega)];congr 2;omega
theorem A4{m:GS}(l:Int)(n:Nat):f_ K m (yR l n) (bc (.items (dU l n))) μ H:=by
 intro i d S e F C s;refine⟨λy h=>?_,λa=>?_⟩
 ·have h:=by simpa[bc]using h
  have a:=by have:=(Zg.mp h).1;rwa [A3]at this
  rw[IW _ n i a]at h;cases h;refine⟨a,λz b c=>?_⟩;obtain⟨rfl,rfl⟩:=c;exact⟨.refl,s,bL⟩
 ·have:(dU l n)[i]?=none:=by simpa[bc]using a
  have:=Qg.mp this;rw[A3]at this;exact this
variable {k:Nat}{cs:List CE}{a b:CE}{r:Expr}
theorem kq{m:GS}{Q:List V->Hp->Prop}(w:ak K m E (aj K m) μ H Q (ai Φ Γ cs ρ S)):ak K m E (aj K m) μ H (λvs H'=>vs.length=cs.length/\Q vs H') (ai Φ Γ cs ρ S):=by
 cases e:ai _ _ _ _ S with
 |ok d a=>rw[e]at w;intro b H' vs x s r;refine⟨?_,w _ _ _ x s r⟩;rw[<-r.length,uU e]
 |err y a=>rw[e]at w;exact w
 |fail=>rw[e]at w;exact w
theorem IX(O:cN X cell N sc CX E Φ Γ k)(h:bh sc "range"=Ox)(i:bA l=Ox)(g:cs.length=1)(f:PA X [l] (tL X.K X.mg E Φ Γ cs)):PI X tg (.Call (.Name "range" p2) [l] [] pos) (tI X.K X.mg E Φ Γ (.range cs)):=by
 obtain⟨d,_,_⟩:=de h;intro p s u H R I ⟨F,q,t,S,o,e,w⟩;refine GH (O.gl d) (O.mod.bl _ (by decide+kernel)) f (by rw[cf i];rfl) p s u H R I ⟨F,q,t,S,o,e,(kq (ak.bind w)).mono λvs H1 z=>?_⟩;obtain⟨y,b,x,D,A,n,r,W⟩:=z;have a:=r.length;split at W
 ·rename_i j;split at W
  ·rename_i c;obtain⟨v,rfl,m⟩:=r.one;cases aH m;exact⟨j,rfl,c.1,c.2,W b H1 _ .refl n (A4 0 j.toNat)⟩
  ·exact W.elim
 ·simp only[ZE,Z2]at a;omega
 ·exact W.elim
theorem IY(O:cN X cell N sc CX E Φ Γ k)(h:bh sc "range"=Ox)(p:bA l=Ox)(a:bA r=Ox)(n:cs.length=2)(m:PA X [l,r] (tL X.K X.mg E Φ Γ cs)):PI X tg (.Call (.Name "range" p2) [l,r] [] pos) (tI X.K X.mg E Φ Γ (.range cs)):=by
 obtain⟨g,_,_⟩:=de h;intro P s A H R I ⟨F,x,y,S,u,f,w⟩;refine GI (O.gl g) (O.mod.bl _ (by decide+kernel)) m (by rw[cf p,cf a];rfl) (by rw[cf a];rfl) P s A H R I ⟨F,x,y,S,u,f,(kq (ak.bind w)).mono λvs H1 z=>?_⟩;obtain⟨C,d,B,D,G,t,e,W⟩:=z;have b:=e.length;split at W
 ·simp only[ZE,Z2]at b;omega
 ·rename_i i j;split at W
  ·rename_i o;obtain⟨v,V,rfl,q,c⟩:=e.two;cases aH q;cases aH c;exact⟨i,j,rfl,o,W d H1 _ .refl t (A4 i (j-i).toNat)⟩
  ·exact W.elim
 ·exact W.elim
theorem A5{m:GS}(s:aK K m μ S H)(r:Rep K m μ H d v)(e:aB S d=some xs):∃a,v=.ref a/\
  ∀μ' S' H' F',dh K m.F μ H F' μ' H'->aK K ⟨m.mg,F'⟩ μ' S' H'->∃ys vs,aB S' d=some ys/\i4 (ff d) K H' a vs/\aj K ⟨m.mg,F'⟩ μ' H' ys vs:=by
 cases d with
 |tup D=>obtain⟨a,vs,rfl,b,q⟩:=bQ r;exact⟨a,rfl,λμ' S' H' F' c f=>⟨_,_,rfl,c.tup _ _ b,aj.chg c _ _ q⟩⟩
 |lst D=>obtain⟨a,vs,rfl,b,h,q⟩:=r;exact⟨a,rfl,λμ' S' H' F' c f=>⟨_,_,rfl,c8.of (c.lst a _ b h.1 h.2).1,aj.chg c _ _ q⟩⟩
 |scr D=>obtain⟨a,vs,rfl,b,q⟩:=r;exact⟨a,rfl,λμ' S' H' F' c f=>⟨_,_,rfl,(c.frz a _ b).sq,aj.chg c _ _ q⟩⟩
 |ref n=>
  obtain⟨a,rfl,h⟩:=r;refine⟨a,rfl,λμ' S' H' F' c f=>?_⟩;have i:n<S'.length:=by rw[<-f.len];exact(Zg.mp (c.box _ _ h)).1
  obtain⟨vs,g,q⟩:=f.at_ n a _ (c.box _ _ h) (Zj _);exact⟨_,_,Zj i,c8.of g,q⟩
 |_=>cases e
theorem oz(h:nW d=some xs)(S:af):aB S d=some xs:=by unfold nW at h;split at h<;>first|exact h|cases h
theorem IZ{e:D}{its:iT}(h:dR S d e=some its):(∃xs ys,aB S d=some xs/\aB S e=some ys)/\∀S' i,(∃xs ys,aB S' d=some xs/\aB S' e=some ys)->bc its S' i=nX d e S' i:=by
 unfold dR at h;split at h
 ·rename_i xs ys E a;cases h;refine⟨⟨xs,ys,oz E S,oz a S⟩,λS' i _=>?_⟩;show some (OC (λx y=>D.tup [x,y]) xs ys)[i]?=_;unfold nX;rw[oz E S',oz a S',QC]
  show some _=some (match xs[i]?,ys[i]? with
   |some x,some y=>some (D.tup [x,y])
   |_,_=>none)
  cases xs[i]? <;>cases ys[i]? <;>rfl
 ·split at h
  ·rename_i xs ys E a;cases h;exact⟨⟨xs,ys,E,a⟩,λS' i _=>rfl⟩
  ·cases h
theorem I3{m:GS}{e:D}{u:V}{its:iT}(j:aK K m μ S H)(rd:Rep K m μ H d v)(re:Rep K m μ H e u)(h:dR S d e=some its):
  ∃a b,v=.ref a/\u=.ref b/\(∃vs,i4 (ff d) K H a vs)/\(∃vs,i4 (ff e) K H b vs)/\f_ K m (Nt K (ff d) (ff e) a b) (bc its) μ H:=by
 obtain⟨⟨xs,ys,O,P⟩,U⟩:=IZ h;obtain⟨a,rfl,G⟩:=A5 j rd O;obtain⟨b,rfl,I⟩:=A5 j re P;obtain⟨_,va,_,X,_⟩:=G μ S H m.F .refl j;obtain⟨_,vb,_,Z,_⟩:=I μ S H m.F .refl j;refine⟨a,b,rfl,rfl,⟨va,X⟩,⟨vb,Z⟩,λi f k n F C s=>?_⟩;obtain⟨x,vs,r,Q,R⟩:=G f k n F C s;obtain⟨Y,w,t,l,J⟩:=I f k n F C s;rw[U k i ⟨x,Y,r,t⟩];unfold nX;rw[r,t];have l1:=R.length;have l2:=J.length;refine⟨λy c=>?_,λc=>⟨vs,w,Q,l,?_⟩⟩
 ·have c:=OY c;cases g1:x[i]? with
  |none=>rw[g1]at c;cases c
  |some p=>
   cases g2:Y[i]? with
   |none=>rw[g1,g2]at c;cases c
   |some q=>rw[g1,g2]at c;cases c;obtain⟨L,A,rp⟩:=R.get g1;obtain⟨M,B,rq⟩:=J.get g2;refine⟨⟨vs,w,L,M,Q,l,A,B⟩,λz N W=>?_⟩;obtain⟨T,x',y',rfl,g,rfl,z1,z2⟩:=W;have E:=z1 vs Q;rw[A]at E;cases E;have o:=z2 w l;rw[B]at o;cases o;refine⟨.laid g,s.laid g,?_⟩;unfold Rep;exact⟨T,[L,M],rfl,b7.of bU,.cons (Rep.mono (.laid g) _ _ rp) (.cons (Rep.mono (.laid g) _ _ rq) .nil)⟩
 grind
theorem yq{i j:Nat}(h:i≠j):n+i≠n+j:=λe=>h (T8 e)
theorem u0{j:Nat}(h:0≠j):n≠n+j:=λe=>h (T8 (n:=n) (by lia))
theorem su{j:Nat}(h:0≠j):n+j≠n:=λe=>u0 h e.symm
theorem I7:bootBuiltins "zip"=some (.type "zip"):=by decide+kernel
theorem A6(O:cN X cell N sc CX E Φ Γ k)(h:bh sc "zip"=Ox)(L:fR tg=Ox)(K:bA l=Ox)(n:bA r=Ox)(J:PA X [l,r] (tL X.K X.mg E Φ Γ cs)):PI X tg (.Call (.Name "zip" p2) [l,r] [] pos) (tI X.K X.mg E Φ Γ (.zip cs)):=by
 obtain⟨G,_,_⟩:=de h;intro P s y H R I ⟨F,μ,ρ,S,sk,C,w⟩;refine Call_ (fC I (O.gl G) (O.mod.bl _ (by decide+kernel)) I7 (OO (aT (J pos P s y H _ I ⟨F,μ,ρ,S,sk,C,ak.bind w⟩) λus f zq=>?_) (cf K) (by rw[cf n];rfl)));obtain⟨vs,H1,g,rv,o,B,ds,x1,j,Z,W⟩:=zq;split at W
 ·rename_i d e;obtain⟨v,u,rfl,rd,re⟩:=Z.two;cases m:dR B d e with
  |none=>rw[m]at W;exact W.elim
  |some M=>
   rw[m]at W;obtain⟨a,b,rfl,rfl,⟨va,V⟩,⟨vb,Y⟩,ok⟩:=I3 j rd re m;cases rv with
   |cons p q=>
    cases q with
    |cons T U=>
     cases U;cases p;cases T;obtain⟨as,ra,sa⟩:=i5 g V;obtain⟨bs,rb,sb⟩:=i5 g Y;refine IQ sa sb λD z z2 z3 z4 z5 z6 Q=>?_;refine wpAny_pyIter_zip z ?_;have A:Inv X P y H1 {f with heap:=D}:=g.kept (t':=f.toks) Q;cases tg with
     |Tuple ts x1 tp=>
      refine⟨f.heap.objs.size+4,[f.heap.objs.size+4,f.heap.objs.size+2,f.heap.objs.size+3,f.heap.objs.size,f.heap.objs.size+1],_,_,H1,rfl,A,
       IS (ff d) (ff e) (f.heap.objs.size+4) (f.heap.objs.size+2) (f.heap.objs.size+3) f.heap.objs.size (f.heap.objs.size+1) a b (yq (by decide)) (yq (by decide)) (u0 (by decide)) (yq (by decide)) (yq (by decide)) (su (by decide)) (yq (by decide)) (su (by decide)) (yq (by decide)) (u0 (by decide)),⟨z,z2,⟨_,_,z3⟩,z4,z5⟩,λc t=>?_,W o H1 _ .refl j ok⟩
      have i:f.heap.objs.size<=c:=by
       simp only[Zh,Zt,ZZ]at t;rcases t with rfl|rfl|rfl|rfl|rfl
       ·exact Rj _ _
       ·exact Rj _ _
       ·exact Rj _ _
       ·exact Zf _
       ·exact Rj _ _
      exact g.fpOk i (g.hok.fresh i)
     |_=>cases L
 ·exact W.elim
end
noncomputable def fj(i:Lx)(env:Env):Sem Bool:=forIn i Ox (λc r=>if r=Ox then do let ok <-isTrue c env (eval c env);pure (O2 ok)else pure (O2 r))
noncomputable def bw(c:Expr)(e:Sem Unit)(g:List OU)(d:Nat)(a:OB)(env:Env):Sem Unit:=match g[d+1]? with
 |some g'=>do
   let x <-eval g'.iter env
   standAt g'.iter.pos
   let x <-if g'.is_async !=0 then foldedIterable g'.iter x else foldedSetIterable g'.iter env x
   let _ <-runOwn (.compStart c (d+1) (<-holding [x] (if g'.is_async !=0 then asyncIter x else pyIter x)) a env) env
 |none=>e
noncomputable def u1(e:Expr)(a:OB)(env:Env):Sem Unit:=do let _ <-call (.builtin "list.append") [a,<-eval e env]
theorem I8{C:Expr}{e:Sem Unit}{d:Nat}{it a:OB}{env:Env}{t i:Expr}{fs:Lx}(h:gens[d]?=some ⟨t,i,fs,0⟩):
  (do
    let some g:=gens[d]? |unsupported "internal:comprehension-depth"
    standAt (if g.is_async !=0 then C.pos else g.iter.pos)
    match <-if g.is_async !=0 then asyncNext it else pyNext it with
    |none=>pure (.done .next)
    |some v=>
     letOwnedTupleGo g.target it v
     assign g.target env v
     let mut ok:=Ox
     for c in g.ifs do
      if ok then ok <-isTrue c env (eval c env)
     if ok then
      match gens[d+1]? with
      |some g'=>
       let x <-eval g'.iter env
       standAt g'.iter.pos
       let x <-if g'.is_async !=0 then foldedIterable g'.iter x else foldedSetIterable g'.iter env x
       let _ <-runOwn (.compStart C (d+1) (<-holding [x] (if g'.is_async !=0 then asyncIter x else pyIter x)) a env) env
      |none=>e
     again (.compLoop C d it a env):Sem Fin)=(standAt i.pos>>=λ_=>pyNext it>>=λr=>match r with
   |none=>pure (.done .next)
   |some v=>letOwnedTupleGo t it v>>=λ_=>assign t env v>>=λ_=>(fj fs env>>=λok=>if ok=Ox then bw C e gens d a env else pure ())>>=λ_=>
    again (.compLoop C d it a env)):=by
 simp only[h];show(standAt i.pos>>=λ_=>pyNext it>>=_)=_;congr 1;funext _;congr 1;funext r;cases r with
 |none=>rfl
 |some v=>
  show(letOwnedTupleGo t it v>>=λ_=>assign t env v>>=λ_=>_>>=λok=>_)=_;congr 1;funext _;congr 1;funext _
  conv=>rhs;rw[bind_assoc]
  unfold fj;refine congrArg (λk=>_>>=k) (funext λok=>?_);cases ok with
  |true=>
   unfold bw;cases gens[d+1]? with
   |none=>rfl
   |some g'=>
    by_cases H:(g'.is_async !=0)=Ox
    ·simp_all
    simp_all
  |false=>simp_all
section
variable {em:Sem Unit}{d:Nat}
theorem oA{fs:Lx}{ts:List TT}{t:TU}(e:z0 X fs ts)(c:PB X (bw ce em gens d (.ref acc) X.env) t):
  PB X (fj fs X.env>>=λok=>if ok=Ox then bw ce em gens d (.ref acc) X.env else pure ()) (z_ ts t):=by
 intro p s f H Q I h;refine Za (aT (z8 _ _ e _ s _ H _ I h) λb S z=>?_);obtain⟨_,a,q⟩:=z;cases b with
 |false=>exact Ze ⟨_,_,a,q⟩
 |true=>exact c _ _ _ _ Q a q
theorem oB(g:gens[d+1]?=none)(f:PE X elt te):PB X (bw ce (u1 elt (.ref acc) X.env) gens d (.ref acc) X.env) (z9 acc te):=by intro p s l H Q I h;unfold bw;rw[g];exact Za (aT (f _ s _ H _ I h) λu S z=>z.elim λv z=>z.elim λ_ z=>z.elim λb z=>z.elim λr z=>z.elim λ_ z=>z.elim λe z=>z.elim λi q=>Za (aT (zw _ _ _ _ (.ref _) _ _ _ (λ_ a=>Q _ a) b rfl (.cons r .nil) ⟨_,_,v,rfl,rfl,e,i,q⟩) λ_ k z=>by obtain⟨_,_,c,_,j⟩:=z;exact(Ze ⟨_,_,c,j⟩)))
theorem I9{t i:Expr}{fs:Lx}{tb:TU}(c:iS ce=Ox)(k:clausesOf ce=gens)(m:∀it:OA,compTurn ce (d+1) (.ref it) (.ref acc) X.env=(standAt i.pos>>=λ_=>pyNext (.ref it)>>=λr=>match r with
   |none=>pure (.done .next)
   |some v=>letOwnedTupleGo t (.ref it) v>>=λ_=>assign t X.env v>>=λ_=>(fj fs X.env>>=λok=>if ok=Ox then bw ce em gens (d+1) (.ref acc) X.env else pure ())>>=λ_=>again (.compLoop ce (d+1) (.ref it) (.ref acc) X.env))) (D:X.xe=λ_ _=>False) (B:X.calm=Ox) (o:gens[d+1]?=some ⟨t,i,fs,0⟩) (C:PI X t i wi) (hs:∀x,foldedSetIterable i X.env x=pure x) (n:PG X t g)
  (A:PB X (fj fs X.env>>=λok=>if ok=Ox then bw ce em gens (d+1) (.ref acc) X.env else pure ()) tb):PB X (bw ce em gens d (.ref acc) X.env) (uF wi g tb):=by
 intro p s K H Q I h;unfold bw;rw[o];show wpAny _ _ (eval i X.env>>=λx=>standAt i.pos>>=λ_=>foldedSetIterable i X.env x>>=λx=>holding [x] (pyIter x)>>=λit=>runOwn (.compStart ce (d+1) it (.ref acc) X.env) X.env>>=λ_=>pure ()) _ _ s;refine Za (aT (C p s K H _ I h) λv N y=>Za (Rr (Za ?_)));rw[hs];refine Ze (Za (ZL (aT y λE G z=>Za ?_)));obtain⟨it,M,O,J,L,e,w,T,j,F,W⟩:=z;subst e
 have l:codeAny (model X.prog X.w) X.A (.compLoop ce (d+1) (.ref it) (.ref acc) X.env) (λr S=>match r with
   | .ok f=>∃a b,Inv X p a b S/\Q a b
   | .error e=>cameBackBy (model X.prog X.w) X.A X.env X.xe e S) G:=
  zY (Fin:=Q) c D B (m it) T n A w j F W λS a b u _ q=>⟨a,b,u,q⟩
 refine wpAny_runOwn (h:=none) ?_
 refine P2 (R:=λr S=>match r with
   | .ok f=>∃a b,Inv X p a b S/\Q a b
   | .error e=>cameBackBy (model X.prog X.w) X.A X.env X.xe e S) (zZ c (by rw[k];exact o) l (T.self _ 0 _ _ _ j l)) λr S q=>?_
 cases r with
 |ok f=>exact Ze q
 |error e=>exact q
end
noncomputable def F4:List CT->rV
 | []=>yP
 |t::ts=>match t with
  | .var i=>rW (et i) (F4 ts)
  | .tup _=>λ_ _ _ _=>False
noncomputable def sv(K:Fg):CT->TG
 | .var i=>et i
 | .tup ts=>yQ K ts.length (F4 ts)
section
variable {E:XK}{k:Nat}
theorem sG(O:cN X cell N sc CX E Φ Γ k){i:Nat}{p:Pos}(h:sf cell N sc (.var i)=Ox):PG X (.Name (N.getD i "") p) (et i):=by
 have H:=(ae h).1;have a:=(ae h).2;generalize N.getD i _=x at H a;simp at H a
 have b:L2.Loc X.env.scope x:=by unfold L2.Loc;rw[O.sc];lia
 refine mK (by rw[O.n];exact O.nd) (by rw[O.n];exact H) b ?_;rcases a with z|z
 ·exact .inr (by rw[O.sc];exact z)
 ·exact .inl (O.fn x z.1)
theorem u2{env:Env}:∀{ts:List CT} {es:Lx},((assignEach (io ts N es) env).length=ts.length/\(assignEach (io ts N es) env).findIdx? (·.1)=none)
 | [],_=>⟨rfl,rfl⟩
 |t::ts,es=>by
  have i:=u2 (env:=env) (ts:=ts) (es:=es.tail);have e:assignEach (io (t::ts) N es) env=(Oy,assign (iY t N (es.headD dE)) env)::assignEach (io ts N es.tail) env:=by cases t<;>rfl
  rw[e];exact⟨by rw[ZE,i.1,ZE],by rw[List.findIdx?_cons,i.2];rfl⟩
theorem sH(O:cN X cell N sc CX E Φ Γ k):∀{ts:List CT} {es:Lx},uO cell N sc ts=Ox->yO X (io ts N es) (F4 ts)
 | [],es,h=>mL
 |t::ts,es,h=>by
  cases t with
  |tup _=>exact λ_ _ _ _ _ _ _ _ _ z=>z.elim
  |var i=>exact Gz (sG O (ae h).1) (sH O (ae h).2)
theorem kr(O:cN X cell N sc CX E Φ Γ k){t:CT}(h:sf cell N sc t=Ox):PG X (iY t N e) (sv X.K t):=by
 cases t with
 |var i=>exact sG O h
 |tup T=>exact tK O.calm (sH O h) u2.1 u2.2
theorem sI{F μ:La}{H:Hp}{K:Fg}{m:Mg}{ρ':bv}{Q:L2.St->Hp->Prop}:∀{ts:List CT} {ds:List D} {vs:List V} {ρ:bv} {σ:L2.St},bH ts ds ρ=some ρ'->aj K ⟨m,F⟩ μ H ds vs->aZ K ⟨m,F⟩ μ H ρ σ->(∀σ',aZ K ⟨m,F⟩ μ H ρ' σ'->Q σ' H)->F4 ts vs σ H Q
 | [],ds,vs,ρ,σ,h,r,e,q=>by
  cases ds with
  |nil=>cases h;exact⟨r,q _ e⟩
  |cons _ _=>cases h
 |t::ts,ds,vs,ρ,σ,h,r,e,q=>by
  cases t with
  |tup _=>cases h
  |var i=>
   cases ds with
   |nil=>cases h
   |cons d ds=>obtain⟨v,w,rfl,R,a⟩:=r.uncons;exact⟨v,w,rfl,sI h a (e.set R) q⟩
theorem u3{ρ':bv}:∀{ts:List CT} {ds:List D} {ρ:bv},bH ts ds ρ=some ρ'->ts.length=ds.length/\ρ'.length=ρ.length
 | [],ds,ρ,h=>by
  cases ds with
  |nil=>cases h;simp_all
  |cons _ _=>cases h
 |t::ts,ds,ρ,h=>by
  cases t with
  |tup _=>cases h
  |var i=>
   cases ds with
   |nil=>cases h
   |cons d ds=>have:=u3 (ts:=ts) h;simp_all
theorem A7{ρ':bv}{j:Nat}:∀{ts:List CT} {ds:List D} {ρ:bv},bH ts ds ρ=some ρ'->(∀i∈dP ts,i≠j)->ρ'[j]?=ρ[j]?
 | [],ds,ρ,h,H=>by
  cases ds with
  |nil=>cases h;rfl
  |cons _ _=>cases h
 |t::ts,ds,ρ,h,H=>by
  cases t with
  |tup _=>cases h
  |var i=>
   cases ds with
   |nil=>cases h
   |cons d ds=>rw[A7 (ts:=ts) h λk a=>H k (Zc _ a),Pe (H i Zd)]
theorem u4{Q:L2.St->Hp->Prop}{t:CT}(h:aL t d ρ=some ρ')(r:Rep K ⟨mg,F⟩ μ H d v)(e:aZ K ⟨mg,F⟩ μ H ρ σ)
  (q:∀σ',aZ K ⟨mg,F⟩ μ H ρ' σ'->Q σ' H):sv K t v σ H Q:=by
 cases t with
 |var i=>cases h;exact q _ (e.set r)
 |tup T=>
  cases d with
  |tup D=>obtain⟨a,vs,rfl,b,R⟩:=bQ r;exact⟨a,_,rfl,b,by rw[<-R.length];exact(u3 h).1.symm,sI h R e q⟩
  |_=>cases h
end
theorem I_{l:List Nat}{i:Nat}(h:bZ ρ l=Ox)(H:i∈l):ρ[i]?=some none:=by
 dsimp only[bZ]at h
 grind
theorem oC{t:CT}(h:aL t d ρ=some ρ'):ρ'.length=ρ.length/\∀j,(∀i∈slots t,i≠j)->ρ'[j]?=ρ[j]? :=by
 cases t with
 |var i=>cases h;exact⟨List.length_set,λj H=>Pe (H i Zd)⟩
 |tup T=>
  cases d with
  |tup D=>exact⟨(u3 h).2,λj H=>A7 h H⟩
  |_=>cases h
theorem I'{m:GS}{t:CT}(h:bp t d ρ=some ρ')(E:aZ K m μ H ρ' σ):aZ K m μ H ρ σ:=by
 unfold bp at h;by_cases a:bZ ρ (slots t)=Ox
 ·rw[if_pos a]at h;have g:=oC h;refine⟨by rw[<-E.1,g.1],λj D e=>E.2 j _ ?_⟩;rw[g.2 j λi b z=>by subst z;rw[I_ a b]at e;cases e];exact e
 simp_all
theorem Ja{t:CT}(h:bp t d ρ=some ρ'):aL t d ρ=some ρ':=by unfold bp at h;simp_all
structure hX (K:Fg)(mg:Mg)(F:La)(acc:OA)(O:List D->List V->HO->Prop)(B:La->Hp->Prop)(μ0:La)(H0:Hp)(μ:La)(S:af)(H:Hp)(ρ:bv)(σ:L2.St)(ds:List D)(vs:List V):Prop where
 n0:H0 acc=none
 ext:Ext μ0 H0 μ H
 sok:aK K ⟨mg,acc::F⟩ μ S H
 nin:acc∉μ
 env:aZ K ⟨mg,acc::F⟩ μ H ρ σ
 at_:∃o,H acc=some o/\O ds vs o
 rep:aj K ⟨mg,acc::F⟩ μ H ds vs
 b:B μ H
def i6(K:Fg)(F:La)(B:La->Hp->Prop):Prop:=∀μ H μ1 H1,B μ H->dh K F μ H F μ1 H1->B μ1 H1
noncomputable def eI(K:Fg)(m:Mg)(F:La)(a:OA)(O:List D->List V->HO->Prop)(B:La->Hp->Prop)(b:La)(H:Hp)(ρ:bv)(Q:L2.St->Hp->Prop):Res (List D)->Prop
 | .ok d S'=>∀μ' H' σ' v,hX K m F a O B b H μ' S' H' ρ σ' d v->Q σ' H'
 |_=>False
noncomputable def tB(K:Fg)(m:Mg)(O:OA->List D->List V->HO->Prop)(Φ:FT)(Γ:Str->Option D)(c:CE)(a:OA):TU:=λσ H Q=>∃F B μ0 H0 μ ρ S ds vs,i6 K (a::F) B/\hX K m F a (O a) B μ0 H0 μ S H ρ σ ds vs/\eI K m F a (O a) B μ0 H0 ρ Q (bB Φ Γ c ρ ds S)
noncomputable def fS(Φ:FT)(Γ:Str->Option D)(i:List CE)(body:CE)(ρ:bv)(ds:List D)(S:af):Res (List D):=(aX Φ Γ i ρ S).bind λk S3=>if k=Ox then bB Φ Γ body ρ ds S3 else .ok ds S3
noncomputable def tC(K:Fg)(m:Mg)(O:OA->List D->List V->HO->Prop)(Φ:FT)(Γ:Str->Option D)(i:List CE)(c:CE)(a:OA):TU:=λσ H Q=>∃F B μ0 H0 μ ρ S ds vs,i6 K (a::F) B/\hX K m F a (O a) B μ0 H0 μ S H ρ σ ds vs/\eI K m F a (O a) B μ0 H0 ρ Q (fS Φ Γ i c ρ ds S)
section
variable {O:List D->List V->HO->Prop}{vs:List V}
theorem hX.next(hB:i6 K (acc::F) B)(c:hX K mg F acc O B μ0 H0 μ S H ρ σ ds vs)(x:Ext μ H μ1 H1)(s:aK K ⟨mg,acc::F⟩ μ1 S1 H1):hX K mg F acc O B μ0 H0 μ1 S1 H1 ρ σ ds vs where
 n0:=c.n0
 ext:=c.ext.trans x
 sok:=s
 nin:=λz=>by
  rcases x.fresh _ z with z|z
  ·exact c.nin z
  ·obtain⟨o,e,_⟩:=c.at_;simp_all
 env:=c.env.mono x
 at_:=(by obtain⟨o,e,h⟩:=c.at_;exact(⟨o,x.keep _ _ e (.inr c.nin),h⟩))
 rep:=aj.mono x _ _ c.rep
 b:=hB _ H _ _ c.b (.of_ext x λ_ z=>.inl z)
theorem hX.put{u:HO}(f:i6 K (acc::F) B)(c:hX K mg F acc O B μ0 H0 μ S H ρ σ ds vs)(h:H acc=some u)(a:iF u=Ox)(r:Rep K ⟨mg,acc::F⟩ μ H d v)(g:O (ds++[d]) (vs++[v]) u'):hX K mg F acc O B μ0 H0 μ S (ba H acc u') ρ σ (ds++[d]) (vs++[v]):=by
 have C:dh K _ _ H (acc::F) μ (ba H _ u'):=.more Zd h a
 exact{
  n0:=c.n0
  ext:=c.ext.more c.n0
  sok:=c.sok.more Zd c.nin h a
  nin:=c.nin
  env:=c.env.chg C
  at_:=⟨_,bU,g⟩
  rep:=aj.append (aj.chg C _ _ c.rep) (.cons (Rep.chg C _ _ r) .nil)
  b:=f _ _ _ _ c.b C}
theorem Jb{E:XK}:∀{cs:List CE} {σ:L2.St} {Q:Bool->Hp->Prop},aK X.K ⟨X.mg,F⟩ μ S H->aZ X.K ⟨X.mg,F⟩ μ H ρ σ->ak X.K ⟨X.mg,F⟩ E (λ_ _ a b=>a=b) μ H Q (aX Φ Γ cs ρ S)->nM (cs.map (tT X.K X.mg E Φ Γ)) σ H Q:=by
 intro cs
 induction cs generalizing μ H S with
 |nil=>exact λs e w=>w _ H _ .refl s rfl
 |cons c cs i=>
  intro σ Q s e w;refine⟨F,_,_,S,s,e,(ak.bind w).mono λk H1 z=>ay z λg h K x d f W=>?_⟩;subst f;cases K with
  |true=>exact i d (e.mono x) W
  |false=>exact W _ _ _ .refl d rfl
end
section
variable {E:XK}
theorem PB.weak{body:Sem Unit}{t t':TU}(h:PB X body t)(w:∀σ H Q,t' σ H Q->t σ H Q):PB X body t':=λp s σ H Q I q=>h _ s _ H Q I (w _ H Q q)
theorem Jc{vs:List V}{i:List CE}{c:CE}{Q:L2.St->Hp->Prop}
  (h:i6 K (acc::F) B) (st:hX K mg F acc (O acc) B μ0 H0 μ S H ρ σ ds vs) (w:eI K mg F acc (O acc) B μ0 H0 ρ Q (fS Φ Γ i c ρ ds S)):
  ak K ⟨mg,acc::F⟩ E (λ_ _ a b=>a=b) μ H (λb H1=>if b=Ox then tB K mg O Φ Γ c acc σ H1 Q else Q σ H1) (aX Φ Γ i ρ S):=by
 unfold fS at w;cases e:aX _ _ _ _ S with
 |ok k f=>
  rw[e]at w;intro j H1 b x s g;subst g;have d:=st.next h x s;cases k with
  |true=>exact⟨F,B,_,_,_,_,_,_,_,h,d,w⟩
  |false=>exact w _ _ _ _ d
 |err y f=>rw[e]at w;exact w.elim
 |fail=>rw[e]at w;exact w.elim
theorem u5{e:Sem Unit}{d:Nat}{fs:Lx}{i:List CE}{c:CE}(b:z0 X fs (i.map (tT X.K X.mg E Φ Γ)))(a:PB X (bw ce e gens d (.ref acc) X.env) (tB X.K X.mg O Φ Γ c acc)):
  PB X (fj fs X.env>>=λok=>if ok=Ox then bw ce e gens d (.ref acc) X.env else pure ()) (tC X.K X.mg O Φ Γ i c acc):=
 PB.weak (oA b a) λl H Q z=>ul z λF B f g j k S D vs h s w=>Jb s.sok s.env (Jc h s w)
def oL(_:OA)(_:List D)(vs:List V)(o:HO):Prop:=o=.lst vs
theorem u6{d:Nat}{c:CE}(k:gens[d+1]?=none)(j:PE X elt (tE X.K X.mg E Φ Γ c)):PB X (bw ce (u1 elt (.ref acc) X.env) gens d (.ref acc) X.env) (tB X.K X.mg oL Φ Γ (.emit c) acc):=
 PB.weak (oB k j) λq H Q z=>ul z λF B l n o p S D vs g b w=>by
  refine⟨_,_,_,S,b.sok,b.env,?_⟩;dsimp[bB]at w;cases e:ah _ _ c _ S with
  |ok y i=>
   rw[e]at w;intro m H1 v x s r;have a:=b.next g x s;have W:eI _ _ F _ _ B _ _ _ Q (if D.length<a' then .ok _ _ else .fail):=w;by_cases h:D.length<a'
   ·rw[if_pos h]at W;obtain⟨_,f,rfl⟩:=a.at_;exact⟨_,f,by rw[<-a.rep.length];exact h,W _ _ _ _ (a.put g f rfl r rfl)⟩
   ·rw[if_neg h]at W;exact W.elim
  |err y i=>rw[e]at w;exact w.elim
  |fail=>rw[e]at w;exact w.elim
end
noncomputable def kt:iT->Nat
 | .items xs=>xs.length+1
 | .live f _=>f
theorem A8(step:D->List D->af->Res (List D))(xs:List D):∀(n i:Nat) (acc:List D) (S:af),i+n=xs.length->cE step (λ_ i=>some xs[i]?) (n+1) i acc S=aV step (xs.drop i) acc S
 |0,i,acc,S,h=>by rw[Rq (by omega)];dsimp only[cE];have:xs[i]?=none:=Qg.mpr (by omega);rw[this];rfl
 |n+1,i,acc,S,h=>by
  have H:i<xs.length:=by lia
  rw[Qh H];dsimp only[cE];rw[Zj H];show(step _ _ S).bind _=(step _ _ S).bind _;congr 1;funext a b;exact A8 _ _ n _ _ _ (by grind)
theorem A9(step:D->List D->af->Res (List D))(its:iT)(a:List D)(S:af):b3 step its a S=cE step (bc its) (kt its) 0 a S:=by
 cases its with
 |items x=>exact(A8 _ _ _ 0 _ S (by omega)).symm
 |live f get=>rfl
noncomputable def eK(Φ:FT)(Γ:Str->Option D)(t:CT)(i:List CE)(body:CE)(ρ:bv):D->List D->af->Res (List D):=λx acc S2=>match bp t x ρ with
 |some ρ'=>fS Φ Γ i body ρ' acc S2
 |none=>.fail
theorem hX.back{a:La->Hp->Prop}{vs:List V}(c:hX K mg F acc (O acc) B μ0 H0 μ S H ρ σ ds vs)(b:a μ H)(e:aZ K ⟨mg,acc::F⟩ μ H ρ' σ'):hX K mg F acc (O acc) a μ0 H0 μ S H ρ' σ' ds vs:=
 ⟨c.n0,c.ext,c.sok,c.nin,e,c.at_,c.rep,b⟩
theorem Jd{t:CT}{i:List CE}{body:CE}{x:D}(h:bp t x ρ=some ρ'):eK Φ Γ t i body ρ x ds S=fS Φ Γ i body ρ' ds S:=by unfold eK;rw[h]
theorem Je{t:CT}{i:List CE}{body:CE}{x:D}(h:bp t x ρ=none):eK Φ Γ t i body ρ x ds S=.fail:=by unfold eK;rw[h]
theorem A_{j:La}{d:La}{k:Hp}{J:It}{get:af->Nat->Option (Option D)}{t:CT}{I:List CE}{body:CE}{Q:L2.St->Hp->Prop}(l:i6 K (acc::F) B)(ok:f_ K ⟨mg,j⟩ J get d k)
        {vs:List V} (ch:dh K j d k (acc::F) μ H) (st:hX K mg F acc (O acc) B μ0 H0 μ S H ρ σ ds vs) (w:eI K mg F acc (O acc) B μ0 H0 ρ Q (cE (eK Φ Γ t I body ρ) get n 0 ds S)):
  ∃W:Nat->Nat->L2.St->Hp->Prop,(∃m,W 0 m σ H)/\∀i m σ H,W i m σ H->
   (J.stop i H/\Q σ H)\/(J.go i H/\∃Nx:L2.St->Hp->Prop,(∀σ' H',Nx σ' H'->∃M,M<m/\W (i+1) M σ' H')/\∀x H',J.yld i H x H'->sv K t x σ H' λf H2=>tC K mg O Φ Γ I body acc f H2 Nx):=by
 refine⟨λi m σ H=>∃μ S ds vs,dh K _ _ _ _ μ H/\hX K _ F _ _ B _ _ μ S H _ σ ds vs/\eI K _ F _ _ B _ _ _ Q (cE _ _ m i ds S),⟨n,_,S,_,_,ch,st,w⟩,?_⟩;rintro i m σ H ⟨μ,S,ds,vs,ch,st,w⟩;cases m with
 |zero=>exact w.elim
 |succ m=>
  unfold cE at w;obtain⟨v,A⟩:=ok i _ S H _ ch st.sok;cases e:get S i with
  |none=>rw[e]at w;exact w.elim
  |some o=>
   cases o with
   |none=>rw[e]at w;exact .inl ⟨A e,w _ H _ _ st⟩
   |some x=>
    rw[e]at w;obtain⟨G,Y⟩:=v x e;refine .inr ⟨G,_,λσ' H' q=>⟨m,Ps m,q⟩,λy H' u=>?_⟩;obtain⟨X,L,R⟩:=Y y _ u;have b:=st.next l X L;have C:=ch.trans (.of_ext X λ_ z=>.inl z);have a:eI K _ F _ _ B _ _ _ Q ((eK _ _ _ _ _ _ x _ S).bind _):=w;cases E:bp _ x _ with
    |none=>rw[Je E]at a;exact a.elim
    |some Z=>
     rw[Jd E]at a;refine u4 (Ja E) R b.env λf g=>?_;refine⟨F,λμ H=>B _ H/\dh K _ _ _ _ _ H,_,_,_,_,S,_,_,λT Ha U Hb q c=>⟨l _ _ _ _ q.1 c,q.2.trans c⟩,b.back ⟨b.b,C⟩ g,?_⟩;cases h:fS _ _ _ _ _ _ S with
     |ok r p=>rw[h]at a;intro P H2 σ' N s;exact⟨_,_,_,_,s.b.2,s.back s.b.1 (I' E s.env),a⟩
     |err z p=>rw[h]at a;exact a.elim
     |fail=>rw[h]at a;exact a.elim
section
variable {E:XK}
theorem oE{a:Sem Unit}{d:Nat}{t i:Expr}{fs:Lx}{T:CT}{it:CE}{I:List CE}{body:CE}(f:iS ce=Ox)(h:clausesOf ce=gens)(b:∀it:OA,compTurn ce (d+1) (.ref it) (.ref acc) X.env=(standAt i.pos>>=λ_=>pyNext (.ref it)>>=λr=>match r with
   |none=>pure (.done .next)
   |some v=>letOwnedTupleGo t (.ref it) v>>=λ_=>assign t X.env v>>=λ_=>(fj fs X.env>>=λok=>if ok=Ox then bw ce a gens (d+1) (.ref acc) X.env else pure ())>>=λ_=>again (.compLoop ce (d+1) (.ref it) (.ref acc) X.env))) (p:X.xe=λ_ _=>False) (m:X.calm=Ox) (n:gens[d+1]?=some ⟨t,i,fs,0⟩)
  (o:PI X t i (tI X.K X.mg E Φ Γ it)) (hs:∀x,foldedSetIterable i X.env x=pure x) (c:PG X t (sv X.K T))
  (l:PB X (fj fs X.env>>=λok=>if ok=Ox then bw ce a gens (d+1) (.ref acc) X.env else pure ()) (tC X.K X.mg O Φ Γ I body acc)):PB X (bw ce a gens d (.ref acc) X.env) (tB X.K X.mg O Φ Γ (.inner T it I body) acc):=
 PB.weak (I9 f h b p m n o hs c l) λL H Q z=>ul z λF B u C G K S D vs j g w=>by
  refine⟨_,_,_,S,g.sok,g.env,?_⟩;dsimp[bB]at w;cases e:a7 _ _ _ _ S with
  |ok q k=>rw[e]at w;intro A H1 J x s ok;have W:eI _ _ F _ _ B _ _ _ Q (b3 _ _ _ _):=w;rw[A9]at W;exact A_ j ok .refl (g.next j x s) W
  |err y k=>rw[e]at w;exact w.elim
  |fail=>rw[e]at w;exact w.elim
noncomputable def gT(fr:List (Option Nat)):L2.St->L2.St:=λσ=>fr.map λj=>j.bind λj=>(σ[j]?).join
theorem u8{m:GS}(c:aZ K m μ H ρ σ):aZ K m μ H (fr.map λj=>j.bind λj=>(ρ[j]?).join) (gT fr σ):=by
 refine⟨by simp[gT],λi d e=>?_⟩;rw[ZW]at e;cases b:fr[i]? with
 |none=>simp_all
 |some o=>
  rw[b]at e;have e:=OY e;cases o with
  |none=>cases e
  |some j=>
   have E:ρ[j]?.join=some d:=e;cases a:ρ[j]? with
   |none=>simp_all
   |some o=>rw[a]at E;subst(E);obtain⟨v,f,k⟩:=c.2 j d a;exact⟨v,by unfold gT;simp_all,k⟩
theorem ku{tg0:Expr}{box:Bool}{t:CT}{it:CE}{I:List CE}{body:CE}{Q:VK}(h:tE X.K X.mg E Φ Γ (.comp box N' fr t it I body) σ H Q):
  j8 (λ_=>.lst []) (gT fr) (tI X.K X.mg E Φ Γ it) (sv X.K t) (tC X.K X.mg oL Φ Γ I body) σ H Q:=by
 obtain⟨F,k,m,S,D,u,w⟩:=h;refine⟨F,k,m,S,D,u,?_⟩;simp only[ah]at w;refine ak.mono (Rel:=λf l i J=>f_ X.K ⟨X.mg,F⟩ J (bc i) f l) (ak.bind w) λJ H1 h A a=>?_;obtain⟨d,o,i,L,p,ok,K⟩:=h
 have G:hX X.K X.mg F A (oL A) (λk H=>dh X.K F d H1 (A::F) k H) d H1 d o (ba H1 A (.lst [])) (fr.map λj=>j.bind λj=>(m[j]?).join) (gT fr σ) [] []:={
  n0:=a
  ext:=.laid a
  sok:=p.start a
  nin:=p.notin a
  env:=(u8 (u.mono L)).chg (.start a)
  at_:=⟨_,bU,rfl⟩
  rep:=.nil
  b:=.start a}
 refine A_ (Q:=λ_ H=>Q (.ref A) H) (B:=λk H=>dh X.K F d H1 (A::F) k H) (n:=kt i) (λM R O T q c=>q.trans c) ok (.start a) G ?_;have W:ak X.K ⟨X.mg,F⟩ E (Rep X.K ⟨X.mg,F⟩) d H1 Q ((b3 (eK Φ Γ t I body (fr.map λj=>j.bind λj=>(m[j]?).join)) i [] o).noErr.bind λY g=>if box=Ox then .ok (.ref g.length) (g++[Y])else .ok (.lst Y) g):=K;rw[A9]at W;cases e:cE (eK Φ Γ t I body (fr.map λj=>j.bind λj=>(m[j]?).join)) (bc i) (kt i) 0 [] o with
 |ok Y g=>
  rw[e]at W;intro f l P v s;have z:A∉F:=p.notF a;obtain⟨_,r,rfl⟩:=s.at_;cases box with
  |false=>refine W f l (.ref A) s.ext s.sok.out ?_;unfold Rep;exact⟨A,v,rfl,r,⟨s.nin,z⟩,aj.chg .out _ _ s.rep⟩
  |true=>refine W (f++[A]) l (.ref A) (s.ext.outBox a) (s.sok.outBox s.nin r s.rep) ?_;unfold Rep;refine⟨A,rfl,?_⟩;have C:=s.sok.len;rw[Zq (by omega)];simp[C]
 |err y g=>rw[e]at W;exact W.elim
 |fail=>rw[e]at W;exact W.elim
end
noncomputable def bM(l:Bool):Obj:={cls:=.type "set",dict:=none,data:=.set #[] 0 (.fresh 0 0 l)}
theorem Jf{t:OA}{vs:Av}(hh:A.handled=none)(ht:s.heap.IsTuple t vs)(hi:R6 vs.toList ns)(z:vs.size+1<scanBound)
  (h:∀(h':OI) (tk:Nat),h'.SetOf (intKind prog w) s.heap.objs.size (λM=>(firstMet (λi=>ns.getD i 0) vs.size).any (· ==M)) (firstMet (λi=>ns.getD i 0) vs.size).length->
   (∀b o,b<s.heap.objs.size->s.heap.get? b=some o->h'.get? b=some o)->Q (.ref s.heap.objs.size) {s with heap:=h',toks:=tk}):wpAny (model prog w) A (call (.type "set") [.ref t]) Q E s:=by
 obtain⟨c,tl,X⟩:=F.called_set.mro;have J:=F.called_set.made;have Y:=F.called_set.sub;refine Sk (RQ ?_);show wpAny _ _ (callAny (.type "set") _) _ _ _;refine Ze ⟨RY _ (by decide+kernel),PJ F.entry_type_call ?_⟩;rw[Tz (Ut "set" [.ref t] []) rfl];have g1:=F.called_set.notType;have g2:=F.called_set.canCreate;have g3:=F.typeCall_set_1 (.ref t)
 repeat(any_goals (first|assumption|wp_step))
 refine P2 (code_set_new_1 (.ref t) (E:=E) (Q₁:=λobj S=>∃l:Bool,obj=.ref s.heap.objs.size/\S={s with heap:=s.heap.push (bM l)}) λl=>⟨l,rfl,rfl⟩) λr S K=>?_;cases r with
 |error e=>exact K
 |ok fl=>
  cases fl with
  |ret obj=>
   obtain⟨l,rfl,rfl⟩:=K;have W:(s.heap.push (bM l)).get? s.heap.objs.size=some (bM l):=Zi _ rfl;have hT:RN {s with heap:=s.heap.push (bM l)} (.ref s.heap.objs.size) "set":=⟨_,W,rfl⟩;have hli:=F.called_set.init.lookup;have hbi:=F.called_set.init.bind (.ref s.heap.objs.size)
   repeat(any_goals (first|assumption|wp_step))
   refine P2 (QP (R:=wants (λr d=>r=.none/\∃h' tk,d={s with heap:=h',toks:=tk}/\h'.SetOf (intKind prog w) s.heap.objs.size (λM=>(firstMet (λi=>ns.getD i 0) vs.size).any (· ==M)) (firstMet (λi=>ns.getD i 0) vs.size).length/\
     (∀b o,b<s.heap.objs.size->s.heap.get? b=some o->h'.get? b=some o)) E) F.called_set.init.plain F.entry_set_init (check_set_init_1 hT ?_)) λy d H=>?_
   ·obtain⟨⟨Z,j,N,O⟩,u,k,nl,m⟩:=ht;simp only at k m;subst k;subst m;have x:(s.heap.push (bM l)).get? t=some {cls:=.type "tuple",dict:=j,data:=.seq vs nl,slots:=O}:=Zb _ u;have q1:=F.sub_tuple_set;have q2:=T9;have q3:(O3 "tuple"==O3 "dict")=Oy:=by decide
    have n:(s.heap.push (bM l)).IsTuple t vs:=⟨_,x,rfl,nl,rfl⟩;unfold PF.«set.__init__» noKeywords Qq;generalize C:pyIter=PI
    wp_walk
    subst C;refine Ph n (Za (R1 ?_));have p:t<s.heap.objs.size:=Zm u;have G:A.in1.in1.in1.handled=none:=by simp[hh]
    have L:(s.heap.push (bM l)).objs.size=s.heap.objs.size+1:=PN ..;have q:t≠(s.heap.push (bM l)).objs.size:=by rw[L];exact Zz (Sb p)
    have D:s.heap.objs.size∉[(s.heap.push (bM l)).objs.size,t]:=by rw[L];simp only[Zh,Zt,ZZ,not_or];exact⟨Zz (Ps _),Qe p⟩
    refine codeAny_set_update_loopS ((Walks.tuple G _ t q vs).toS) s.heap.objs.size D (λi=>ns.getD i 0) (λi v hv=>hi.int_at i v (by rw[O6];exact hv)) z (vs.size-0) 0 _ (by omega) (ZY _) ⟨⟨_,Zi _ rfl,rfl,rfl⟩,(n.push _)⟩ ?hS0 ?hR
    case hS0=>exact SetOf_congr ((setObjOf_fresh (knd:=intKind prog w) l).setOf (Zb _ W) (by unfold scanBound;omega)) (λ_=>rfl) rfl
    case hR=>intro s' B g;obtain⟨h',g',d',U,P⟩:=s';have eg:g'=s.gens:=B.gens;have ed:d'=s.drawn:=B.drawn;have eo:P=s.os:=B.os;subst eg ed eo;show wpAny _ _ _ _ _ _;refine Ze ?_;show wpAny _ _ (ret OJ) _ _ _;refine Ze ⟨rfl,h',U,rfl,g,λb o z e=>B.heap b o ?_ (Zb _ (Zb _ e))⟩;simp only[Zh,Zt,ZZ,not_or];rw[L];exact⟨Zz z,Zz (Sb z)⟩
   ·cases y with
    |error e=>exact H
    |ok f=>
     cases f with
     |ret r=>
      obtain⟨rfl,h',tk,rfl,g,I⟩:=H
      repeat(any_goals (first|assumption|wp_step))
      exact h _ _ g I
     |_=>exact H.elim
  |_=>exact K.elim
def iG(xs:Array Nat):Prop:=∀i j (hi:i<xs.size) (h:j<xs.size),i<j->xs[i]<xs[j]
theorem Jg{xs:Array Nat}(h:iG xs)(j:Nat):∀(f lo hi:Nat),hi-lo<=f->lo<=hi->hi<=xs.size->(∀i (g:i<xs.size),i<lo->xs[i]<j)->(∀i (g:i<xs.size),hi<=i->j<=xs[i])->
  lo<=Qd xs j f lo hi/\Qd xs j f lo hi<=hi/\(∀i (g:i<xs.size),i<Qd xs j f lo hi->xs[i]<j)/\(∀i (g:i<xs.size),Qd xs j f lo hi<=i->j<=xs[i]):=by
 intro f
 induction f with
 |zero=>
  intro lo hi p r o k l;have:lo=hi:=by omega
  subst this;exact⟨Zf _,Zf _,k,l⟩
 |succ f I=>
  intro lo hi p r o k l;unfold Qd;split
  ·rename_i t;have m:(lo+hi)/2<xs.size:=by omega
   have q:xs.getD ((lo+hi)/2) j=xs[(lo+hi)/2]:=by simp[SA,m]
   dsimp only;rw[q];split
   ·rename_i g
    obtain⟨a,b,c,d⟩:=I ((lo+hi)/2+1) hi (by omega) (by omega) o (λi H n=>by
     by_cases e:i=(lo+hi)/2
     ·subst e;exact g
     ·exact R_ (h i _ H m (by omega)) g) l
    exact⟨by omega,b,c,d⟩
   ·rename_i g
    obtain⟨a,b,c,d⟩:=I lo ((lo+hi)/2) (by omega) (by omega) (by omega) k (λi H s=>by
     by_cases e:i=(lo+hi)/2
     ·subst e;omega
     ·exact Zl (by omega) (Qx (h _ i m H (by omega))))
    exact⟨a,by omega,c,d⟩
  ·have:lo=hi:=by omega
   subst this;exact⟨Zf _,Zf _,k,l⟩
theorem oF{xs:Array Nat}(h:iG xs)(j:Nat):OE xs j<=xs.size/\(∀i (H:i<xs.size),i<OE xs j->xs[i]<j)/\(∀i (H:i<xs.size),OE xs j<=i->j<=xs[i]):=by
 obtain⟨_,b,c,d⟩:=Jg h j xs.size 0 _ (by simp) (by simp) (Zf _) λi _ h=>by simp_all λi H h=>by lia
 exact⟨b,c,d⟩
theorem Jh{xs:Array Nat}(h:iG xs){i:Nat}(d:i<xs.size):OE xs (xs[i]+1)=i+1:=by
 obtain⟨a,b,c⟩:=oF h (xs[i]+1);have f:i<OE xs (xs[i]+1):=by grind
 by_cases e:i+1<OE xs (xs[i]+1)
 ·have H:i+1<xs.size:=by lia
  have:=b _ H e;have:=h i _ d H (by simp);lia
 ·lia
theorem Ji(xs:Array Nat)(h:iG xs):OE xs 0=0:=by
 obtain⟨a,b,c⟩:=oF h 0;by_cases e:0<OE xs 0
 ·have:=b 0 (by lia) e;simp_all
 simp_all
theorem Jj{xs:Array Nat}(h:iG xs){j:Nat}(r:∀i (n:i<xs.size),xs[i]≠j):iG (Pu xs (OE xs j) j):=by
 obtain⟨a,b,c⟩:=oF h j;have q:(Pu xs (OE xs j) j).toList=xs.toList.take (OE xs j)++j::xs.toList.drop (OE xs j):=by unfold Pu;simp;exact Ro (by simp)
 have s:(xs.toList.take (OE xs j)++j::xs.toList.drop (OE xs j)).Pairwise (· < ·):=by
  have n:xs.toList.Pairwise (· < ·):=Px.mpr λi k e g f=>by simpa using h i k (by simpa using e) (by simpa using g) f
  rw[TC];refine⟨n.sublist (Qu _ _),Z5.mpr ⟨λy l=>?_,n.sublist (Q6 _ _)⟩,λx o y l=>?_⟩
  ·obtain⟨i,e,rfl⟩:=ZU.mp l;rw[QE]at e;rw[Uj];have H:OE xs j+i<xs.size:=by simpa using(by omega:OE xs j+i<xs.toList.length)
   have p:=c _ H (by omega);have t:=r _ H;simp only[RD];omega
  ·obtain⟨i,e,rfl⟩:=ZU.mp o;rw[OV]at e;rw[List.getElem_take];have H:i<xs.size:=by simpa using(by omega:i<xs.toList.length)
   have p:=b i H (by omega);simp only[RD];rcases Zh.mp l with rfl|l
   ·exact p
   ·obtain⟨k,g,rfl⟩:=ZU.mp l;rw[QE]at g;rw[Uj];have m:OE xs j+k<xs.size:=by simpa using(by omega:OE xs j+k<xs.toList.length)
    have u:=c _ m (by omega);simp only[RD];omega
 intro i k e g f;have d:(Pu xs (OE xs j) j).size=(Pu xs (OE xs j) j).toList.length:=by simp
 have:=Px.mp (q▸s) i k (by rw[<-d];exact e) (by rw[<-d];exact g) f;simpa using this
theorem Jk{l:List Nat}(h:l.Pairwise (· < ·)):iG l.toArray:=λi j a b H=>by have:=Px.mp h i j (by omega) (by omega) H;trivial
theorem u9{c d:Type}(f:c->Option d):∀l:List c,((l.filterMap λj=>(f j).map (j, ·)).map (·.1)).Sublist l
 | []=>.slnil
 |a::l=>by
  cases e:f a with
  |none=>rw[SU (by simp_all)];exact(u9 f l).cons a
  |some b=>rw[SV (b:=(a,b)) (by simp_all)];exact(u9 f l).cons₂ a
open SetTable (Probe runEnd leap bits turns)
noncomputable def oG(mask:Nat)(p:Probe):Probe:=
 if p.more>0 then{p with j:=p.j+1,more:=p.more-1}else
 {p with j:=(leap mask p.i p.perturb).1,more:=runEnd mask (leap mask p.i p.perturb).1-(leap mask p.i p.perturb).1,i:=(leap mask p.i p.perturb).1,perturb:=(leap mask p.i p.perturb).2}
theorem u_(t:O7)(p:Probe):t.advance p=oG t.mask p:=rfl
noncomputable def pos(mask:Nat):Probe->Nat->Probe
 |p,0=>p
 |p,n+1=>pos mask (oG mask p) n
noncomputable def jK(mask i p:Nat):Probe:=⟨i,runEnd mask i-i,i,p,none⟩
noncomputable def fG(mask:Nat)(h:Int):Probe:=jK mask (bits h%(mask+1)) (bits h)
theorem i7{mask:Nat}:∀(m n:Nat) (p:Probe),pos mask p (m+n)=pos mask (pos mask p m) n
 |0,n,p=>by rw[Ru];rfl
 |m+1,n,p=>by rw[Nat.succ_add];exact i7 m n _
theorem Jl(p:Probe)(n:Nat):pos mask p (n+1)=oG mask (pos mask p n):=i7 n 1 p
theorem oH{mask i p:Nat}{d:Option Nat}:∀(k r j:Nat),k<=r->pos mask ⟨j,r,i,p,d⟩ k=⟨j+k,r-k,i,p,d⟩
 |0,r,j,_=>rfl
 |k+1,r,j,h=>by
  show pos _ _ k=_;have:oG mask ⟨j,r,i,p,d⟩=⟨j+1,r-1,i,p,d⟩:=by dsimp[oG];lia
  rw[this,oH k _ _ (by lia)];lia
theorem run_next{i p r j:Nat}{d:Option Nat}:pos mask ⟨j,r,i,p,d⟩ (r+1)=⟨(leap mask i p).1,runEnd mask (leap mask i p).1-(leap mask i p).1,(leap mask i p).1,(leap mask i p).2,d⟩:=by rw[Jl,oH r r j (Zf _)];unfold oG;lia
noncomputable def cL(mask:Nat):Nat->Nat×Nat->Nat×Nat
 |0,x=>x
 |r+1,x=>cL mask r (leap mask x.1 x.2)
theorem oI{i:Nat}:runEnd mask i-i<=9:=by unfold runEnd;split<;>omega
theorem kw{mask:Nat}:∀(r:Nat) (x:Nat×Nat),∃n,n<=10*r/\pos mask (jK mask x.1 x.2) n=jK mask (cL mask r x).1 (cL mask r x).2
 |0,x=>⟨0,by simp,rfl⟩
 |r+1,x=>by obtain⟨n,h,e⟩:=kw r _;have:=oI (mask:=mask) (i:=x.1);refine⟨runEnd mask x.1-x.1+1+n,by lia,?_⟩;rw[i7];show pos _ (pos _ ⟨_,_,_,_,_⟩ _) n=_;rw[run_next];exact e
theorem Ba{mask:Nat}:∀(a b:Nat) (x:Nat×Nat),cL mask (a+b) x=cL mask b (cL mask a x)
 |0,b,x=>by rw[Ru];rfl
 |a+1,b,x=>by rw[Nat.succ_add];exact Ba a b _
theorem Bb{mask:Nat}:∀(r:Nat) (x:Nat×Nat),x.1<=mask->(cL mask r x).1<=mask
 |0,x,h=>h
 |r+1,x,h=>Bb r _ (by show(x.1*5+1+x.2/32)%(mask+1)<=mask;have:=R3 (x.1*5+1+x.2/32) (show 0<mask+1 by simp);lia)
theorem Bc{mask:Nat}:∀(r:Nat) (x:Nat×Nat),(cL mask r x).2=x.2/32^r
 |0,x=>by simp[cL]
 |r+1,x=>by show(cL _ r _).2=_;rw[Bc r];show x.2/32/32^r=_;rw[Nat.div_div_eq_div_mul,Nat.pow_succ,Nat.mul_comm]
noncomputable def F5(m:Nat):Nat->Nat->Nat
 |0,i=>i
 |r+1,i=>F5 m r ((i*5+1)%m)
noncomputable def Bd(m:Nat):Nat->Nat->Nat
 |0,i=>1<<<i
 |r+1,i=>(1<<<i)|||Bd m r ((i*5+1)%m)
theorem Be{i e:Nat}(h:(1<<<i).testBit e=Ox):i=e:=by rw[Nat.one_shiftLeft,Nat.testBit_two_pow]at h;simp_all
theorem Bf{m e:Nat}:∀(r i:Nat),(Bd m r i).testBit e=Ox->∃k,k<=r/\F5 m k i=e
 |0,i,h=>⟨0,Zf _,Be h⟩
 |r+1,i,h=>by
  dsimp only[Bd]at h;rw[Nat.testBit_or,Sr]at h;rcases h with h|h
  ·exact⟨0,ZY _,Be h⟩
  ·obtain⟨k,H,e⟩:=Bf r _ h;exact⟨k+1,by simp_all,e⟩
theorem oJ:∀mask∈[7,31,127],∀i∈OD (mask+1),Bd (mask+1) mask i=2^(mask+1)-1:=by decide+kernel
theorem Bg{mask:Nat}:∀(r i:Nat),(cL mask r (i,0)).1=F5 (mask+1) r i
 |0,i=>rfl
 |r+1,i=>by show(cL _ r (leap _ i 0)).1=F5 _ r _;rw[<-Bg r];rfl
def eN(mask:Nat):Prop:=mask∈[7,31,127]
theorem sJ(d:eN mask){i p e:Nat}(c:i<=mask)(f:p<2^64)(g:e<=mask):∃r,r<=mask+13/\(cL mask r (i,p)).1=e:=by
 have h:(cL mask 13 (i,p)).2=0:=by rw[Bc];exact Nat.div_eq_of_lt (ZB f (by decide))
 have H:=Bb 13 (i,p) c;have a:=oJ mask d _ (Pd.mpr (Q8 H))
 have b:(Bd (mask+1) mask (cL mask 13 (i,p)).1).testBit e=Ox:=by rw[a,Nat.testBit_two_pow_sub_one];exact ZA (by omega)
 obtain⟨k,j,E⟩:=Bf _ _ b;refine⟨13+k,by omega,?_⟩;rw[Ba,show cL mask 13 (i,p)=((cL mask 13 (i,p)).1,0)from Prod.ext rfl h,Bg];exact E
theorem Bh(h:Int):bits h<2^64:=by simp[bits];lia
theorem Jm(b:eN mask){e:Nat}(H:e<=mask)(h:Int):∃n,n<10*turns mask/\(pos mask (fG mask h) n).j=e:=by obtain⟨r,d,E⟩:=sJ b (i:=bits h%(mask+1)) (by have:=R3 (bits h) (show 0<mask+1 by simp);lia) (Bh h) H;obtain⟨n,c,a⟩:=kw r (bits h%(mask+1),bits h);exact⟨n,by unfold turns;lia,by rw[show fG _ h=jK _ _ _ from rfl,a];exact E⟩
theorem vc{mask:Nat}:∀(n:Nat) {p:Probe},(pos mask p n).dummy=p.dummy
 |0,p=>rfl
 |n+1,p=>by show(pos _ _ n).dummy=_;rw[vc n];unfold oG;split<;>rfl
theorem vd:∀(m:Nat) (l:List Nat),l.length<m->∃e,e<m/\e∉l
 |0,l,h=>by simp_all
 |m+1,l,h=>by
  by_cases H:m∈l
  ·have a:(l.filter (· !=m)).length<l.length:=List.length_filter_lt_length_iff_exists.mpr ⟨m,H,by simp⟩;obtain⟨e,b,c⟩:=vd m (l.filter (· !=m)) (by lia)
   grind
  ·exact⟨m,Ps m,H⟩
def Fd(mask:Nat)(P:Nat->Prop)(h:Int)(j:Nat):Prop:=∃n,(pos mask (fG mask h) n).j=j/\∀m,m<n->P (pos mask (fG mask h) m).j
theorem Fd.mono{P a:Nat->Prop}{h:Int}{j:Nat}(x:Fd mask P h j)(hs:∀y,P y->a y):Fd mask a h j:=by obtain⟨n,e,f⟩:=x;exact⟨n,e,λm H=>hs _ (f m H)⟩
theorem Jn(H:eN mask){pl:List Nat}(c:pl.length<=mask)(h:Int):∃n,n<10*turns mask/\(pos mask (fG mask h) n).j∉pl/\∀m,m<n->(pos mask (fG mask h) m).j∈pl:=by
 obtain⟨e,b,d⟩:=vd (mask+1) pl (by lia);obtain⟨n,a,E⟩:=Jm H (e:=e) (by lia) h
 have K:∀n,(pos mask (fG mask h) n).j∉pl->∃k,k<=n/\(pos mask (fG mask h) k).j∉pl/\∀m,m<k->(pos mask (fG mask h) m).j∈pl:=by
  intro n
  induction n using Nat.strongRecOn with
  |ind n i=>
   grind
 grind
structure Tk (t:O7)(hs:Li):Prop where
 dum:t.dummies= #[]
 ris:iG t.place
 siz:t.place.size=hs.length
 msk:eN t.mask
 ful:t.tooFull=Oy
 fnd:∀x∈hs.zip t.place.toList,Fd t.mask (· ∈t.place.toList) x.1 x.2
theorem Jo{xs:Array Nat}(h:iG xs){i:Nat}(H:i<xs.size):OE xs xs[i]=i:=by
 obtain⟨a,b,c⟩:=oF h xs[i];have d:OE xs xs[i]<=i:=by grind
 by_cases z:OE xs xs[i]<i
 ·have:=h _ i (by omega) H z;have:=c _ (by omega) (Zf _);omega
 ·lia
theorem Bi{t:O7}(h:iG t.place){i:Nat}(H:i<t.place.size):t.slot t.place[i]=.live i:=by unfold Uk;rw[Jo h _];simp_all
theorem Bj{t:O7}(h:iG t.place){j:Nat}(H:j∈t.place.toList):∃i,∃hi:i<t.place.size,t.place[i]=j/\t.slot j=.live i:=by
 obtain⟨i,hi,e⟩:=ZU.mp H;have E:=by simpa using e
 exact⟨i,_,E,by rw[<-E];exact Bi h _⟩
theorem Bk{t:O7}(h:t.dummies= #[]){j:Nat}(H:j∉t.place.toList):t.slot j=.empty:=by
 unfold Uk;dsimp only;rw[if_neg,h]
 ·rfl
 ·intro z;have:=Z1 z;exact H (To.mpr (Array.mem_of_getElem? this))
theorem Tk.fits{t:O7}(x:Tk t hs):t.place.size<=t.mask/\t.fits hs.length=Ox:=by
 have h:=x.ful;unfold Q2 QT at h;rw[x.dum]at h;have a:¬((t.place.size+(#[]:Array Nat).size)*5>=t.mask*3):=of_decide_eq_false h;have b:(#[]:Array Nat).size=0:=rfl;have H:t.place.size<=t.mask:=by omega
 refine⟨H,?_⟩;unfold Ss QT;rw[x.siz,x.dum,beq_self_eq_true,Ql];exact ZA (by rw[<-x.siz];omega)
theorem Bl{t:O7}{hashAt:Nat->Int}{h:Int}:∀(n f:Nat) (p:Probe),n<f->p.dummy=none->(∀m,m<n->∃i,t.slot (pos t.mask p m).j=.live i/\hashAt i≠h)->
  (t.slot (pos t.mask p n).j=.empty->Pp t hashAt h f p=some (.empty (pos t.mask p n).j none))/\
  (∀i,t.slot (pos t.mask p n).j=.live i->hashAt i=h->Pp t hashAt h f p=some (.candidate (pos t.mask p n).j i (pos t.mask p (n+1))))
 |0,f+1,p,_,b,_=>by
  constructor
  ·intro e;have e:t.slot p.j=.empty:=e;dsimp only[Pp];rw[e,b];rfl
  ·intro i e H;have e:t.slot p.j=.live i:=e;dsimp only[Pp];rw[e];dsimp;rw[if_pos (by simp_all)];rfl
 |n+1,f+1,p,g,b,c=>by
  obtain⟨i,H,a⟩:=c 0 (Nat.succ_pos n);have H:t.slot p.j=.live i:=H
  have step:Pp t hashAt h (f+1) p=Pp t hashAt h f (oG t.mask p):=by
   conv=>lhs;unfold Pp
   rw[H];dsimp;rw[if_neg λz=>a (Z1 z),u_]
  rw[step];exact Bl n _ _ (by simp_all) (by rw[show(oG _ p).dummy=(pos _ p 1).dummy from rfl,vc];exact b) λm d=>c (m+1) (by simp_all)
theorem oM{a:List α}{b:List β}(c:a.length=b.length)(p:Nat)(x:α)(y:β){z:α×β}(H:z∈(a.take p++x::a.drop p).zip (b.take p++y::b.drop p)):z=(x,y)\/z∈a.zip b:=by
 rw[List.zip_append (by simp_all),Z4,ZC,Zh]at H;rcases H with h|h|h
 ·rw[TQ,<-List.take_zipWith]at h;exact .inr (List.mem_of_mem_take h)
 ·exact .inl h
 ·rw[TQ,<-List.drop_zipWith]at h;exact .inr (List.mem_of_mem_drop h)
theorem Tk.put{t:O7}(x:Tk t hs){h:Int}(d:(pos t.mask (fG t.mask h) n).j∉t.place.toList)(b:∀m,m<n->(pos t.mask (fG t.mask h) m).j∈t.place.toList):
  let r:=t.put (pos t.mask (fG t.mask h) n).j
  r.1.dummies= #[]/\iG r.1.place/\r.1.place.size=hs.length+1/\r.1.mask=t.mask/\r.1.led=t.led/\r.1.plain=t.plain/\r.2=OE t.place (pos t.mask (fG t.mask h) n).j/\
  ∀z∈(hs.take r.2++h::hs.drop r.2).zip r.1.place.toList,Fd t.mask (· ∈r.1.place.toList) z.1 z.2:=by
 intro r;have f:r.1.place.toList=t.place.toList.take r.2++(pos _ _ n).j::t.place.toList.drop r.2:=Su _ _ _
 have H:∀y,y∈t.place.toList->y∈r.1.place.toList:=λy g=>by
  rw[<-Ry r.2 t.place.toList]at g
  grind
 refine⟨?_,Jj x.ris λi j e=>d (by grind),?_,rfl,rfl,rfl,rfl,λz a=>?_⟩
 ·show(if SetTable.has _ _ then _ else t.dummies)= #[];rw[x.dum];rfl
 ·show(Pu _ _ _).size=_;rw[<-ZH,(SetTable.insertAt_perm _ _ _).length_eq,ZH,Array.size_push,x.siz]
 ·rw[f]at a;rcases oM (by rw[<-x.siz,ZH]) _ _ _ a with rfl|a
  ·exact⟨n,rfl,λm c=>H _ (b m c)⟩
  ·exact(x.fnd z a).mono H
abbrev dY:=Array (Option Nat)
def oN(o:dY)(j:Nat):Prop:=∃q,o[j]?=some (some q)
theorem Jp{o:dY}{j:Nat}(H:j<o.size)(h:(o.getD j (some 0)).isNone=Oy):oN o j:=by
 have:o.getD j (some 0)=o[j]:=by simp_all
 cases e:o[j]with
 |none=>simp_all
 |some q=>exact⟨q,by simp_all⟩
theorem Jq{o:dY}{j:Nat}(h:(o.getD j (some 0)).isNone=Ox):o[j]?=some none:=by
 by_cases H:j<o.size
 ·simp_all
 simp_all
theorem Bm{mask:Nat}{o:dY}(hs:o.size=mask+1):∀(f i p:Nat),i<=mask->
  (∃j n,Pw mask o f i p=some j/\(pos mask (jK mask i p) n).j=j/\o[j]?=some none/\∀m,m<n->oN o (pos mask (jK mask i p) m).j)\/
  (Pw mask o f i p=none/\∀r,r<f->oN o (cL mask r (i,p)).1)
 |0,i,p,v=>.inr ⟨rfl,λr h=>by omega⟩
 |f+1,i,p,v=>by
  have x:i+(runEnd mask i-i)=runEnd mask i/\runEnd mask i<=mask:=by unfold runEnd;split<;>omega
  have d:runEnd mask i+1-i=(runEnd mask i-i)+1:=by omega
  have O:∀k,k<=runEnd mask i-i->(o.getD (i+k) (some 0)).isNone=Oy->oN o (pos mask (jK mask i p) k).j:=λk b h=>by unfold jK;rw[oH k _ i b];exact Jp (j:=i+k) (by omega) h
  unfold Pw;cases c:(OD (runEnd mask i+1-i)).find? λk=>(o.getD (i+k) (some 0)).isNone with
  |some k=>
   obtain⟨s,t,u⟩:=List.find?_range_eq_some.mp c;have b:=Pd.mp t;refine .inl ⟨i+k,k,rfl,?_,Jq s,λm g=>O m (by omega) ?_⟩
   ·unfold jK;rw[oH k _ i (by omega)]
   ·have:=u m g;simpa using this
  |none=>
   have H:=List.find?_eq_none.mp c;have o1:∀k,k<=runEnd mask i-i->oN o (pos mask (jK mask i p) k).j:=λk b=>O k b (by have:=H k (Pd.mpr (by omega));exact R8.mpr this);dsimp only;have w:(leap mask i p).1<=mask:=by show(i*5+1+p/32)%(mask+1)<=mask;have:=R3 (i*5+1+p/32) (show 0<mask+1 by omega);omega
   have a:pos mask (jK mask i p) (runEnd mask i-i+1)=jK mask (leap mask i p).1 (leap mask i p).2:=run_next;rcases Bm hs f (leap mask i p).1 (leap mask i p).2 w with⟨j,n,e,E,l,q⟩| ⟨e,E⟩
   ·refine .inl ⟨j,(runEnd mask i-i+1)+n,e,by rw[i7,a];exact E,l,λm g=>?_⟩;by_cases z:m<=runEnd mask i-i
    ·exact o1 m z
    ·have:=q (m-(runEnd mask i-i+1)) (by omega);rw[<-a,<-i7]at this;rw[show runEnd mask i-i+1+(m-(runEnd mask i-i+1))=m by omega]at this;exact this
   ·refine .inr ⟨e,λr y=>?_⟩;cases r with
    |zero=>exact o1 0 (ZY _)
    |succ r=>exact E r (by omega)
structure Ow (mask:Nat)(hs:Li)(k:Nat)(ow:dY):Prop where
 sz:ow.size=mask+1
 ok:∀j q:Nat,ow[j]?=some (some q)->q<k/\∃h,hs[q]?=some h/\Fd mask (oN ow) h j
 all:∀q:Nat,q<k->∃j:Nat,ow[j]?=some (some q)
 inj:∀j j' q:Nat,ow[j]?=some (some q)->ow[j']?=some (some q)->j=j'
theorem Ow.hole{k:Nat}{o:dY}(x:Ow mask hs k o)(i:k<=mask):∃e,e<=mask/\o[e]?=some none:=by
 have a:∀q:Nat,∃j:Nat,q<k->o[j]?=some (some q):=λq=>by
  by_cases z:q<k
  ·obtain⟨j,e⟩:=x.all q z;exact⟨j,λ_=>e⟩
  ·exact⟨0,λh=>absurd h z⟩
 obtain⟨e,f,g⟩:=Py.vd (mask+1) ((OD k).map λq=>Classical.choose (a q)) (by simp;omega);refine⟨e,by omega,?_⟩;have H:e<o.size:=by rw[x.sz];exact f
 rw[O5 H];cases d:o[e]with
 |none=>rfl
 |some q=>
  exfalso;have E:o[e]?=some (some q):=by rw[O5 H,d]
  have b:=(x.ok e q E).1;have c:=Classical.choose_spec (a q) b;exact g (Zs.mpr ⟨q,Pd.mpr b,(x.inj _ _ q E c).symm⟩)
theorem Ow.add{k:Nat}(d:eN mask){o:dY}(x:Ow mask hs k o)(B:k<=mask){h:Int}(y:hs[k]?=some h):∃j,Pw mask o (turns mask) (bits h%(mask+1)) (bits h)=some j/\Ow mask hs (k+1) (o.setIfInBounds j (some k)):=by
 have l:bits h%(mask+1)<=mask:=by have:=R3 (bits h) (show 0<mask+1 by omega);omega
 rcases Bm x.sz (turns mask) (bits h%(mask+1)) (bits h) l with⟨j,n,f,c,E,p⟩| ⟨f,c⟩
 ·refine⟨j,f,?_⟩;have A:j<o.size:=(P'.mp E).1
  have g:∀i,(o.setIfInBounds j (some k))[i]?=if j=i then some (some k)else o[i]? :=λi=>by
   rw[Array.getElem?_setIfInBounds];split
   ·rename_i z;subst z;first|rfl|rw[if_pos A]
   ·rfl
  have O:∀i,oN o i->oN (o.setIfInBounds j (some k)) i:=λi Z=>Z.elim λq b=>by
   unfold oN;rw[g];split
   ·exact⟨k,rfl⟩
   ·exact⟨q,b⟩
  refine⟨by rw[Array.size_setIfInBounds];exact x.sz,λi q H=>?_,λq b=>?_,λi I q H a=>?_⟩
  ·rw[g]at H;split at H
   ·rename_i z;subst z;cases H;exact⟨Ps _,h,y,n,c,λm d=>O _ (p m d)⟩
   ·obtain⟨C,s,u,v⟩:=x.ok i q H;exact⟨by omega,s,u,v.mono O⟩
  ·by_cases z:q=k
   ·subst z;exact⟨j,by rw[g,if_pos rfl]⟩
   ·obtain⟨i,H⟩:=x.all q (by omega);exact⟨i,by rw[g,if_neg (λe=>by rw[<-e,E]at H;cases H)];exact H⟩
  ·rw[g]at H a;split at H
   ·rename_i z;cases H;split at a
    ·rename_i F;omega
    ·have:=(x.ok I k a).1;omega
   ·split at a
    ·cases a;have:=(x.ok i k H).1;omega
    ·exact x.inj i I q H a
 ·exfalso;obtain⟨e,w,t⟩:=x.hole B;obtain⟨r,D,E⟩:=sJ d l (Bh h) w;obtain⟨q,b⟩:=c r (by unfold turns;omega);rw[E,t]at b;cases b
theorem Bn{mask:Nat}(H:eN mask){hs:Li}(a:hs.length<=mask):∀(rest d:Li) (ow:dY),hs=d++rest->Ow mask hs d.length ow->
  ∃o,rest.foldl (λacc h=>do
   let(owner,k) <-acc
   let j <-Pw mask owner (turns mask) (bits h%(mask+1)) (bits h)
   pure (owner.setIfInBounds j (some k),k+1)) (some (ow,d.length))=some (o,hs.length)/\Ow mask hs hs.length o
 | [],d,ow,e,x=>by simp_all
 |h::rest,d,ow,e,x=>by obtain⟨j,E,y⟩:=x.add H (by grind) (h:=h) (by simp_all);have:=Bn H a rest (d++[h]) _ (by simp_all) (by rw[Zk];exact y);simp_all
theorem Jr(c:eN mask)(b:hs.length<=mask):∃ow,Tp mask hs.toArray=some ow/\Ow mask hs hs.length ow:=by
 have H:∀j q:Nat,(Uu (mask+1) (none:Option Nat))[j]?=some (some q)->False:=λj q h=>by rw[Array.getElem?_replicate]at h;split at h<;>cases h
 have a:Ow mask hs ([]:Li).length (Uu (mask+1) none):=⟨by simp,λj q h=>(H j q h).elim,λq h=>(by simp at h),λj J q h=>(H j q h).elim⟩;obtain⟨ow,e,x⟩:=Bn c b hs [] _ rfl a;refine⟨ow,?_,x⟩;unfold Tp;rw[List.foldl_toArray];have E:=congrArg (Option.map Prod.fst) e;exact E
theorem Bo{mask:Nat}{P:Nat->Prop}{hs:Li}:∀(live:List (Nat×Nat)),(∀x∈live,∃h,hs[x.2]?=some h/\Fd mask P h x.1)->∀z∈(((live.map (·.2)).filterMap (hs[·]?)).zip (live.map (·.1))),Fd mask P z.1 z.2
 | [],_,z,H=>by simp_all
 |x::live,a,z,H=>by
  obtain⟨h,e,f⟩:=a x Zd;rw[ZV,SV e]at H;rcases Zh.mp H with rfl|H
  ·exact f
  ·exact Bo _ (λy b=>a y (Zc _ b)) z H
theorem Js{t:O7}(r:eN (OQ wanted-1))(C:hs.length*5<(OQ wanted-1)*3):
  ∃t' o,t.relaid hs.toArray wanted=some (t',o)/\o.toList.Perm (OD hs.length)/\t'.led=t.led/\t'.plain=t.plain/\Tk t' (o.toList.filterMap (hs[·]?)):=by
 generalize f:OQ wanted-1=mask at r C;obtain⟨O,e,x⟩:=Jr r (hs:=hs) (by omega)
 have H:∀y∈((OD (mask+1)).filterMap λj=>(O.getD j none).map (j, ·)),O[y.1]?=some (some y.2):=λy l=>by
  obtain⟨j,d,E⟩:=Z0.mp l;have d:j<O.size:=by grind
  have n:O.getD j none=O[j]:=by simp[SA,d]
  rw[n]at E;cases p:O[j]with
  |none=>rw[p]at E;cases E
  |some q=>
   grind
 have c:∀j q:Nat,O[j]?=some (some q)->(j,q)∈((OD (mask+1)).filterMap λj=>(O.getD j none).map (j, ·)):=λj q h=>by
  obtain⟨d,p⟩:=P'.mp h;refine Z0.mpr ⟨j,Pd.mpr (by rw[<-x.sz];exact d),?_⟩;have n:O.getD j none=O[j]:=by simp[SA,d]
  rw[n,p];rfl
 have k:=u9 (λj=>O.getD j none) (OD (mask+1));have i:t.relaid hs.toArray wanted=some ({mask:=mask,place:=((((OD (mask+1)).filterMap λj=>(O.getD j none).map (j, ·)).map (·.1)).toArray),dummies:= #[],finger:=t.finger,led:=t.led,moves:=t.movedTo mask,plain:=t.plain},(((OD (mask+1)).filterMap λj=>(O.getD j none).map (j, ·)).map (·.2)).toArray):=by unfold SetTable.relaid SetTable.laid;rw[f,e];rfl
 rw[i];generalize((OD (mask+1)).filterMap λj=>(O.getD j none).map (j, ·))=live at*;have g:=List.pairwise_lt_range.sublist k
 have P:(live.map (·.2)).Perm (OD hs.length):=by
  refine(Qa ?_ List.nodup_range).mpr λq=>?_
  ·rw[Qw]at g;unfold List.Nodup;rw[Qw];refine g.imp_of_mem λ{a b} v A w z=>?_;have m:=H b A;rw[<-z]at m;have:=x.inj _ _ _ (H a v) m;omega
  ·rw[Pd,Zs];constructor
   ·rintro⟨y,l,rfl⟩;exact(x.ok _ _ (H y l)).1
   ·intro s;obtain⟨j,d⟩:=x.all q s;exact⟨(j,q),c j q d,rfl⟩
 have G:live.length=hs.length:=by have:=P.length_eq;simpa using this
 have B:((live.map (·.2)).filterMap (hs[·]?)).length=hs.length:=by rw[(P.filterMap (hs[·]?)).length_eq];have:=TR hs.toArray;simpa using congrArg RG this
 refine⟨_,_,rfl,P,rfl,rfl,rfl,Jk g,?_,r,?_,Bo live λy l=>?_⟩
 ·rw[B];simpa using G
 ·unfold Q2 QT;refine Zy ?_;simp;omega
 ·obtain⟨_,h,u,m⟩:=x.ok _ _ (H y l);exact⟨h,u,m.mono λj Z=>Z.elim λq s=>Zs.mpr ⟨(j,q),c j q s,rfl⟩⟩
end Py
variable {ow:Py.dY}
namespace Py
noncomputable def i8(w:ON):Bool:=w.params.followText "set-order"
theorem Jt(v:OB)(fin:R (.ref s.heap.objs.size) {s with heap:=s.heap.push (bM (!i8 w))}):codeAny (model prog w) A (.call (.builtin "set.__new__") ⟨[.type "set",v],[]⟩) (wants R E) s:=by
 refine RQ (Za (m:=checkBuiltinCall "set.__new__" ⟨[.type "set",v],[]⟩) (wpAny_of_eq (F.newCall_set_1 v) (Ze ⟨Si F.plain_set_new _,PJ F.entry_set_new ?_⟩)));rw[P9 F.plain_set_new _];have S:=sub_set_self;unfold PF.«set.__new__» Builtin.Frozenset.newClass;cases s;dsimp only
 wp_walk
 exact Qp (Ze (Za (wpAny_alloc (Ze (Ze fin)))))
open SetTable (Probe turns)
abbrev cU(prog:OF)(w:ON)(h:OI)(k:Li)(a:OA):Prop:=IsTupleKey (intKind prog w) h k a
abbrev hK(prog:OF)(w:ON)(k:Li):Int:=tupleKeyHash (intKind prog w) k
theorem cU.kept{k:Li}(x:cU prog w h k a)(K:∀o,h.get? a=some o->h'.get? a=some o):cU prog w h' k a:=by obtain⟨o,items,n,g,r⟩:=x;exact⟨o,_,n,K o g,r⟩
theorem Bp{k:Li}{vs:Lv}(h:ItemsAre (intKind prog w) k vs):∀v∈vs,∃i t,v=.int i t:=by
 induction h with
 |nil=>simp_all
 |cons a _ I=>
  intro v H;rcases Zh.mp H with rfl|H
  ·obtain⟨t,b⟩:=T4 a;simp_all
  simp_all
theorem Bq{k:Li}{Q:Bool->Oz->Prop}(x:cU prog w s.heap k a)(q:Q Oy s):wpAny (model prog w) A (ofAClassStatement 8 (.ref a)) Q E s:=by
 have c:=x.typeIs;obtain⟨o,items,n,f,_,d,e⟩:=x;have h:=Bp e;unfold ofAClassStatement;refine Za (Qm c ?_);refine Za (Ze ?_);refine Za (Pn f d ?_);refine Za ?_;rw[<-TV];refine Qn _ (λR r S=>r.1=none/\S=s/\∀v∈R,∃i t,v=SQ i t) _ ?_ ?_ _ _ ⟨rfl,rfl,h⟩
 ·rintro v R r S ⟨H,rfl,b⟩;obtain⟨i,t,rfl⟩:=b v Zd;exact Ze ⟨rfl,rfl,λu g=>b u (Zc _ g)⟩
 ·rintro⟨j,l⟩ S ⟨H,rfl,_⟩;subst H;exact Ze q
theorem Br{k:Li}{Q:Bool->Oz->Prop}(x:cU prog w s.heap k a)(q:Q Ox s):wpAny (model prog w) A (hashByValue 8 (.ref a)) Q E s:=by
 have c:=x.typeIs;obtain⟨o,items,n,f,_,d,e⟩:=x;have h:=Bp e;refine Za (wpAny_specialOf c F.slot_tuple_hash.lookup ?_);refine Za (Pn f d ?_);refine Za ?_;rw[<-TV];refine Qn _ (λR r S=>r.1=none/\S=s/\∀v∈R,∃i t,v=SQ i t) _ ?_ ?_ _ _ ⟨rfl,rfl,h⟩
 ·rintro v R r S ⟨H,rfl,b⟩;obtain⟨i,t,rfl⟩:=b v Zd;exact Ze ⟨rfl,rfl,λu g=>b u (Zc _ g)⟩
 ·rintro⟨j,l⟩ S ⟨H,rfl,_⟩;subst H;exact Ze q
theorem vf{k:Li}{b:OA}(x:cU prog w s.heap k b)(l:Lv){Q:Bool->Oz->Prop}(e:∀v∈l,∃K a,v=.ref a/\cU prog w s.heap K a)(q:Q Oy s):wpAny (model prog w) A (searchCouldBeSeen (.ref b) l) Q E s:=by
 refine Za ?_;refine Qn _ (λR r S=>r.1=none/\S=s/\∀v∈R,v∈l) _ ?_ ?_ _ _ ⟨rfl,rfl,λ_ h=>h⟩
 ·rintro v R r S ⟨c,rfl,d⟩;obtain⟨K,a,rfl,y⟩:=e v (d v Zd);have g:=λu f=>d u (Zc _ f);by_cases H:(b==a||carriedByValue (.ref b)&&carriedByValue (.ref a))=Ox
  ·rw[if_pos H];exact Ze ⟨rfl,rfl,g⟩
  ·rw[if_neg H];refine Za (Uv x ?_);refine Za (Uv y ?_);exact Za (Bq x (Za (Bq y (Ze ⟨rfl,rfl,g⟩))))
 ·rintro⟨i,j⟩ S ⟨c,rfl,_⟩;subst c;exact Ze q
end Py
namespace Py
open SetTable (Probe turns)
theorem Bs{t:O7}(f:iG t.place){hashAt:Nat->Int}{h:Int}{p:Nat->Probe}{n:Nat}(b:∀m,m<n->(p m).j∈t.place.toList):∀(d m:Nat),n-m=d->m<=n->
  ∃M,m<=M/\M<=n/\(∀i,m<=i->i<M->∃q,t.slot (p i).j=.live q/\hashAt q≠h)/\(M=n\/∃q,t.slot (p M).j=.live q/\hashAt q=h)
 |0,m,e,a=>⟨m,Zf _,a,λi c H=>by grind,.inl (by grind)⟩
 |d+1,m,e,a=>by
  obtain⟨q,_,_,l⟩:=Bj f (b m (by omega));by_cases z:hashAt q=h
  ·exact⟨m,Zf _,a,λi c H=>by lia,.inr ⟨q,l,z⟩⟩
  ·obtain⟨M,c,H,o,g⟩:=Bs f b d (m+1) (by grind) (by lia);refine⟨_,by lia,H,λi j k=>?_,g⟩
   grind
noncomputable def bq(prog:OF)(w:ON)(c:Li×OA):Int×OB:=(hK prog w c.1,.ref c.2)
theorem oO:∀m∈[7,31,127],(m%2==0)=Oy:=by decide
theorem Ju{b:OA}{cs:List (Li×OA)}{t:O7}(g:s.heap.get? a=some o)(d:o.data=.set (cs.map (bq prog w)).toArray ep t)(x:Tk t (cs.map λc=>hK prog w c.1))(key:∀c∈cs,cU prog w s.heap c.1 c.2)
  {k:Li} (hx:cU prog w s.heap k b) (hu:A.units<cLine)  (hn:n<10*turns t.mask) (D:(pos t.mask (fG t.mask (hK prog w k)) n).j∉t.place.toList) (O:∀m,m<n->(pos t.mask (fG t.mask (hK prog w k)) m).j∈t.place.toList)
  {Q:SetFound->Oz->Prop} (T:k∈cs.map (·.1)->Q (.there none) s) (F:k∉cs.map (·.1)->Q (.free (pos t.mask (fG t.mask (hK prog w k)) n).j Oy) s):
  ∀(f m:Nat) (st:Option Probe),n-m<f->m<=n->st.getD (t.probeStart (hK prog w k))=pos t.mask (fG t.mask (hK prog w k)) m->(∀i,i<m->∀(q:Nat) (c),t.slot (pos t.mask (fG t.mask (hK prog w k)) i).j=.live q->cs[q]?=some c->c.1≠k)->
   wpAny (model prog w) A (setSearchFrom a (.ref b) (hK prog w k) Ox f st) Q E s:=by
 have hsz:(cs.map (bq prog w)).toArray.size=(cs.map λc=>hK prog w c.1).length:=by simp
 have P:t.fits (cs.map (bq prog w)).toArray.size=Ox:=by rw[hsz];exact x.fits.2
 have hpl:t.place.size=cs.length:=by rw[x.siz,Zn]
 have X:∀q:Nat,(cs.map (bq prog w)).toArray[q]?=cs[q]?.map (bq prog w):=λq=>by simp
 generalize hP:(λm=>pos t.mask (fG t.mask (hK prog w k)) m)=p;have H:∀m,pos t.mask (fG t.mask (hK prog w k)) m=p m:=λm=>congrFun hP m;intro f
 induction f with
 |zero=>intro m st h;omega
 |succ f ih=>
  intro m st hf hm hst Y;obtain⟨M,h1,h2,h3,h4⟩:=Bs (hashAt:=λi=>(((cs.map (bq prog w)).toArray[i]?).map (·.1)).getD 0) (h:=hK prog w k) x.ris (p:=p) (n:=n) (λm hm=>by rw[<-H];exact O m hm) (n-m) m rfl hm;have K:∀i,pos t.mask (p m) i=p (m+i):=λi=>by rw[<-H,<-H,i7]
  obtain⟨g1,g2⟩:=Bl (t:=t) (hashAt:=λi=>(((cs.map (bq prog w)).toArray[i]?).map (·.1)).getD 0) (h:=hK prog w k) (M-m) (10*turns t.mask) (p m) (by omega) (by rw[<-H,vc];rfl) (λi hi=>by rw[K];exact h3 (m+i) (by omega) (by omega));rw[K,show m+(M-m)=M by omega]at g1 g2;rw[K,show m+(M-m+1)=M+1 by omega]at g2;have U:∀(q:Nat) (c),cs[q]?=some c->(((cs.map (bq prog w)).toArray[q]?).map (·.1)).getD 0=hK prog w c.1:=λq c e=>by rw[X,e];rfl
  unfold setSearchFrom;refine Za (Pq g d P ?_);dsimp only;refine QM ?_;rw[if_neg (by unfold SetTable.gaveWay;rw[oO _ x.msk];decide),hst,H];generalize hz:t.probe _ _ _=met;rcases h4 with rfl| ⟨q,I,hh⟩
  ·have V:t.slot (p M).j=.empty:=Bk x.dum (by rw[<-H];exact D);have e:met=some (.empty (p M).j none):=hz.symm.trans (g1 V);subst e;dsimp only;rw[H]at F;refine Ze (F λL=>?_);obtain⟨c,hc,rfl⟩:=Zs.mp L;obtain⟨q,I,e⟩:=ZU.mp hc;have hqp:q<t.place.size:=by omega
   have j:=Bi x.ris hqp;have l:cs[q]?=some c:=by rw[Zj I,e]
   obtain⟨N,e0,f0⟩:=x.fnd (hK prog w c.1,t.place[q]) (by refine ZU.mpr ⟨q,by simp;omega,?_⟩;simp[e]);have e0:(p N).j=t.place[q]:=by rw[<-H];exact e0
   have hin:(p N).j∈t.place.toList:=by rw[e0];simp
   have hlt:N<M:=by
    by_cases z:N<M
    ·exact z
    ·by_cases zz:N=M
     ·subst zz;exact absurd (by rw[H];exact hin) D
     ·exact absurd (f0 M (by omega)) D
   rw[<-e0]at j;by_cases zz:N<m
   ·exact Y N zz q c (by rw[H];exact j) l rfl
   ·obtain⟨q',Z,C⟩:=h3 N (by omega) hlt;rw[j]at Z;cases Z;exact C (U q c l)
  ·have e:met=some (.candidate (p M).j q (p (M+1))):=hz.symm.trans (g2 q I hh);subst e;dsimp only
   have hmn:M<n:=by
    by_cases z:M=n
    ·subst z;rw[Bk x.dum (by rw[<-H];exact D)]at I;cases I
    ·omega
   obtain⟨q',hq1,hq2,hq3⟩:=Bj x.ris (O M hmn);rw[H,I]at hq3;cases hq3;have hqc:q<cs.length:=by omega
   obtain⟨c,l⟩:∃c,cs[q]?=some c:=⟨_,Zj hqc⟩;have G:=Zx l;have hy:=key c G;have W:(cs.map (bq prog w)).toArray[q]?=some (hK prog w c.1,.ref c.2):=by rw[X,l];rfl
   have R:wpAny (model prog w) A (do
     let some (_,y):=(cs.map (bq prog w)).toArray[q]? |unsupported "internal:set-entry"
     let u <-holding [y] (eqBool y (.ref b))
     let(es',_,t') <-setState a
     if Ox&&u then return SetFound.there none
     let some same:=t'.sameMemory t.moves t.mask|unsupported "set.changed-during-lookup:is-the-new-block-at-the-old-address"
     let S <-match(if same then t'.slot (p M).j else .empty)with
      | .live i'=>match es'[i']? with
       |some (_,y')=>do pure (if <-isSame y' y then some i' else none)
       |none=>pure none
      |_=>pure none
     match S with
     |none=>rule "set.search.anew";setSearchFrom a (.ref b) (hK prog w k) Ox f none
     |some i'=>if u then return .there (some i')else setSearchFrom a (.ref b) (hK prog w k) Ox f (some (p (M+1)))) Q E s:=by
    rw[W];dsimp only;refine Za (ZL (wpAny_eqBool_tuple hu hy hx ?_));refine Za (Pq g d P ?_);dsimp only;by_cases L:c.1=k
    ·rw[ZA L];exact Ze (T (Zs.mpr ⟨c,G,L⟩))
    ·rw[Zy L];have hsm:t.sameMemory t.moves t.mask=some Ox:=by unfold SetTable.sameMemory;rw[if_pos (beq_self_eq_true _)]
     rw[hsm];dsimp only;simp only[Bool.and_false,Zw,Z3,if_true];rw[I];dsimp only;rw[W];dsimp only;refine Za (wpAny_isSame_ref_self (Za (Ze ?_)));rw[if_pos rfl];dsimp only;refine ih (M+1) (some (p (M+1))) (by omega) (by omega) (by rw[H];rfl) λi hi q' c' B r=>?_;rw[H]at B;by_cases z:i<m
     ·exact Y i z q' c' (by rw[H];exact B) r
     ·by_cases zz:i=M
      ·subst zz;rw[I]at B;cases B;rw[l]at r;cases r;exact L
      ·obtain⟨q2,J,C⟩:=h3 i (by omega) (by omega);rw[B]at J;cases J;rw[U _ _ r]at C;exact λe=>C (by rw[e])
   by_cases hl:t.led=Ox
   ·rw[hl];exact R
   ·rw[R8.mpr hl];refine QM ?_;rw[if_pos (by decide)];refine Za (vf hx _ (λv hv=>?_) ?_)
    ·obtain⟨e,he,rfl⟩:=Zs.mp hv;have he2:=(Array.mem_filter.mp (To.mp he)).1;have he3:e∈cs.map (bq prog w):=by simpa using he2
     obtain⟨c2,r,rfl⟩:=Zs.mp he3;exact⟨c2.1,c2.2,rfl,key c2 r⟩
    ·exact R
end Py
namespace Py
open SetTable (Probe turns)
def Jv(prog:OF)(w:ON)(h:OI)(a:OA)(cs:List (Li×OA)):Prop:=∃o ep t,h.get? a=some o/\o.ExactSet/\o.data=.set (cs.map (bq prog w)).toArray ep t/\t.led=(!i8 w)/\t.plain=Ox/\Tk t (cs.map λc=>hK prog w c.1)
structure dZ (prog:OF)(w:ON)(h:OI)(a:OA)(cs:List (Li×OA)):Prop where
 obj:Jv prog w h a cs
 key:∀c∈cs,cU prog w h c.1 c.2
 nod:(cs.map (·.1)).Nodup
theorem dZ.kept{cs:List (Li×OA)}(x:dZ prog w h a cs)(k:∀b o,h.get? b=some o->(b=a\/∃c∈cs,b=c.2)->h'.get? b=some o):dZ prog w h' a cs:=by obtain⟨⟨o,E,t,g,r⟩,y,z⟩:=x;exact⟨⟨o,_,t,k a o g (.inl rfl),r⟩,λc H=>(y c H).kept λo e=>k _ o e (.inr ⟨c,H,rfl⟩),z⟩
theorem Bt{es es':Array (Int×OB)}{t t':O7}(g:h.get? a=some o)(E:o.ExactSet)(d:o.data=.set es ep t):
  ∃o',(h.update a (SO es' t')).get? a=some o'/\o'.ExactSet/\o'.data=.set es' (ep+1) t':=by
 have e:(h.update a (SO _ t')).get? a=some _:=O8 _ g (by rw[putSet_of es' _ d];rfl);rw[putSet_of _ _ d]at e;exact⟨_,e,E,rfl⟩
theorem oP{cs:List (Li×OA)}{t:O7}{Q:Unit->Oz->Prop}(g:s.heap.get? a=some o)(r:o.ExactSet)(d:o.data=.set (cs.map (bq prog w)).toArray ep t)(F:t.fits cs.length=Ox)
  (b:eN (OQ wanted-1)) (v:cs.length*5<(OQ wanted-1)*3) (hw:OQ wanted<=128) (l:t.led=(!i8 w)) (pl:t.plain=Ox)
  (fin:∀h' C,PC a s.heap h'->C.Perm cs->Jv prog w h' a C->Q () {s with heap:=h'}):wpAny (model prog w) A (setRelay a wanted) Q E s:=by
 have f:t.fits (cs.map (bq prog w)).toArray.size=Ox:=by rw[Zu,Zn];exact F
 obtain⟨T,O,j,P,k,m,x⟩:=Js (t:=t) (hs:=cs.map λc=>hK prog w c.1) (wanted:=wanted) b (by rw[Zn];exact v);rw[Zn]at P;have p:(O.toList.filterMap (cs[·]?)).Perm cs:=by refine(P.filterMap _).trans (.of_eq ?_);have:=TR cs.toArray;simpa using this
 have X:Tk T ((O.toList.filterMap (cs[·]?)).map λc=>hK prog w c.1):=by
  have:O.toList.filterMap ((cs.map λc=>hK prog w c.1)[·]?)=(O.toList.filterMap (cs[·]?)).map λc=>hK prog w c.1:=by rw[T_];exact congrArg (List.filterMap · _) (funext λi=>ZW)
  rw[<-this];exact x
 have n:O.filterMap ((cs.map (bq prog w)).toArray[·]?)=((O.toList.filterMap (cs[·]?)).map (bq prog w)).toArray:=by apply Array.ext';rw[Array.toList_filterMap,T_];refine congrArg (List.filterMap · _) (funext λi=>?_);rw[Rx,ZW]
 have u:(cs.map (bq prog w)).toArray.map (·.1)=(cs.map λc=>hK prog w c.1).toArray:=by rw[List.map_toArray,Pb];rfl
 unfold setRelay;refine Za (Pq g d f ?_);dsimp only;refine QM ?_;rw[if_neg (by rw[Qj];omega),u,j];refine Za ?_;show wpAny _ _ (if((O.filterMap ((cs.map (bq prog w)).toArray[·]?)).size !=(cs.map (bq prog w)).toArray.size)=Ox then _ else _) _ _ _;rw[n];generalize O.toList.filterMap (cs[·]?)=C at p X
 have h:(C.map (bq prog w)).toArray.size=(cs.map (bq prog w)).toArray.size:=by rw[Zu,Zu,Zn,Zn,p.length_eq]
 rw[h,bne_self_eq_false,if_neg (by decide)];refine Ze (wpAny_storeSet_of g d ?_ ?_)
 ·obtain⟨o1,G,e,d1⟩:=Bt (es':=(C.map (bq prog w)).toArray) (t':=T) g r d;exact fin _ C (Z9 ..) p ⟨o1,_,T,G,e,d1,k.trans l,m.trans pl,X⟩
 ·refine fits_of_scanBound ?_;rw[Zu,Zn,p.length_eq];unfold scanBound;have:=(by simpa[eN]using b:OQ wanted-1=7\/OQ wanted-1=31\/OQ wanted-1=127);omega
theorem Bu{b:OA}{cs:List (Li×OA)}{k:Li}{Q:Bool->Oz->Prop}(x:dZ prog w s.heap a cs)(hx:cU prog w s.heap k b)(hu:A.units<cLine)(few:cs.length<76)
  (fin:∀h' C r,PC a s.heap h'->dZ prog w h' a C->(∀K,K∈C.map (·.1)↔K∈cs.map (·.1)\/K=k)->(∀c∈C,c∈cs\/c=(k,b))->C.length<=cs.length+1->Q r {s with heap:=h'}):
  wpAny (model prog w) A (setAddHashed a (.ref b) (hK prog w k)) Q E s:=by
 obtain⟨o,ep,t,g,ex,d,M,X,T⟩:=x.obj;have N:∀{K:Li} {Z:OA},cU prog w s.heap K Z->Z≠a:=λ{K Z} y e=>by obtain⟨o',_,_,g',_,d',_⟩:=y;subst e;rw[g]at g';cases g';rw[d]at d';cases d'
 have F:t.fits (cs.map (bq prog w)).toArray.size=Ox:=by have:=T.fits.2;rw[Zn]at this;rw[Zu,Zn];exact this
 have hsz:t.place.size=cs.length:=by rw[T.siz,Zn]
 obtain⟨n,hn,J,B⟩:=Jn T.msk (pl:=t.place.toList) (by rw[ZH];exact T.fits.1) (hK prog w k);have hmsk:=(by simpa[eN]using T.msk:t.mask=7\/t.mask=31\/t.mask=127);unfold setAddHashed setAddHashedIn;refine ZL (Za (Pq g d F ?_));dsimp only;refine QM ?_;rw[if_neg (show ¬byScan (.ref b) (cs.map (bq prog w)).toArray=Ox by unfold byScan;rw[show(PK b).scannable=Oy from rfl];simp)];unfold setSearch;refine Za (Ju g d T x.key hx hu hn J B (λhin=>?_) (λL=>?_) 100000 0 none (by unfold turns at hn;omega) (ZY _) rfl (λi hi=>by omega))
 ·exact Ze (fin s.heap cs Oy (Heap.SameBut.refl ..) x (λK=>⟨.inl,λz=>z.elim id λe=>e▸hin⟩) (λc l=>.inl l) (TL _))
 ·dsimp only;refine Za (Pq g d F ?_);dsimp only;obtain⟨p1,p2,O,R,p5,V,p7,W⟩:=T.put J B;generalize(pos t.mask (fG t.mask (hK prog w k)) n).j=j at*;rw[Zn]at O;refine QM ?_;rw[if_pos (show(t.put j).1.plain=Ox from V.trans X)];refine Za (Br hx ?_);simp only[if_true];generalize hput:t.put j=r at*;obtain⟨u,p⟩:=r;dsimp only at p1 p2 O R p5 V p7 W⊢;have hes:Pu (cs.map (bq prog w)).toArray p (hK prog w k,PK b)=((cs.take p++(k,b)::cs.drop p).map (bq prog w)).toArray:=by apply Array.ext';rw[Su,Qr,ZV,RT,Q9];rfl
  have hhs:(cs.take p++(k,b)::cs.drop p).map (λc=>hK prog w c.1)=(cs.map λc=>hK prog w c.1).take p++hK prog w k::(cs.map λc=>hK prog w c.1).drop p:=by rw[Qr,ZV,RT,Q9]
  rw[<-hhs]at W;rw[hes];have pm:(cs.take p++(k,b)::cs.drop p).Perm ((k,b)::cs):=by refine QG.trans (.cons _ (.of_eq (Ry p cs)))
  generalize cs.take p++(k,b)::cs.drop p=f at W pm⊢;have H:f.length=cs.length+1:=by rw[pm.length_eq,ZE]
  have vQ:(f.map (bq prog w)).toArray.size<scanBound:=by rw[Zu,Zn];unfold scanBound;omega
  have G:(cs.map (bq prog w)).toArray.size=cs.length:=by simp
  refine Za (wpAny_storeSet_of g d ?_ (fits_of_scanBound vQ));obtain⟨o1,g1,v,d1⟩:=Bt (es':=(f.map (bq prog w)).toArray) (t':=u) g ex d;have S:=Z9 s.heap a (SO (f.map (bq prog w)).toArray u)
  have D:∀h' C,PC a s.heap h'->C.Perm f->Jv prog w h' a C->Q Ox {s with heap:=h'}:=λh' C Y q ob=>by
   have P:=q.trans pm
   have pk:∀c∈C,c∈cs\/c=(k,b):=λc l=>by
    rcases Zh.mp (P.mem_iff.mp l)with e|e
    ·exact .inr e
    ·exact .inl e
   refine fin h' C Ox Y ⟨ob,λc l=>?_,?_⟩ (λK=>?_) pk (by rw[P.length_eq];exact Zf _)
   ·have y:cU prog w s.heap c.1 c.2:=by
     rcases pk c l with e|e
     ·exact x.key c e
     ·rw[e];exact hx
    exact y.kept λo e=>by rw[Y.2 c.2 (N y)];exact e
   ·refine((P.map (·.1)).nodup_iff).mpr ?_;rw[ZV,OS];exact⟨L,x.nod⟩
   ·rw[(P.map (·.1)).mem_iff,ZV,Zh];exact Or.comm
  have h:u.fill=cs.length+1:=by unfold QT;rw[O,p1];rfl
  cases U:u.tooFull with
  |false=>rw[if_neg (by decide)];refine Ze (D _ f S (.refl _) ⟨o1,_,u,g1,v,d1,p5.trans M,V.trans X,p1,p2,by rw[Zn,O,H],by rw[R];exact T.msk,U,by rw[R];exact W⟩)
  |true=>
   rw[if_pos (by decide),G];refine Za ?_;have hfull:(cs.length+1)*5>=t.mask*3:=by unfold Q2 at U;rw[h,R]at U;exact ZS U
   have hnot:¬(cs.length*5>=t.mask*3):=by have:=T.ful;unfold Q2 QT at this;rw[T.dum,hsz]at this;exact of_decide_eq_false this
   have I:u.fits f.length=Ox:=by
    unfold Ss;rw[h,O,H,R];have:cs.length+1<=t.mask:=by omega
    simp[this]
   have l:cs.length+1=5\/cs.length+1=19:=by omega
   refine oP (s:={s with heap:=s.heap.update a (SO (f.map (bq prog w)).toArray u)}) (cs:=f) g1 v d1 I ?_ ?_ ?_ (p5.trans M) (V.trans X) λh' C Y q ob=>Ze (D h' C (S.trans Y) q ob)
   ·rcases l with e|e<;>rw[e]<;>(unfold eN;decide+kernel)
   ·rw[H];rcases l with e|e<;>rw[e]<;>decide+kernel
   ·rcases l with e|e<;>rw[e]<;>decide+kernel
end Py
namespace Py
section
variable {R:RL->Oz->Prop}{P:Nat->OB->Prop}{St:Nat->OI->Prop}
end
section
variable {R:RL->Oz->Prop}{P:Nat->OB->Prop}{St:Nat->OI->Prop}
end
structure Bv (prog:OF)(w:ON)(A:Pf)(s:Oz)(vs:Av)(led:Bool)(Post:OI->Prop):Prop where
 go:∀{I:OA} {fp wr:La} {St:Nat->OI->Prop} {R:RL->Oz->Prop} (s':Oz),Walks prog w A.in1.in1.in1 I fp wr vs.size (λi v=>vs[i]?=some v) St->s.heap.objs.size∉fp->St 0 s'.heap->(∀b o,(s.heap.push (bM led)).get? b=some o->s'.heap.get? b=some o)->(∀b∈wr,s.heap.objs.size<b)->
   (∀h' tk,(∀b o,b∉wr->b≠s.heap.objs.size->s'.heap.get? b=some o->h'.get? b=some o)->Post h'->R (.ok (.ret .none)) {s' with heap:=h',toks:=tk})->codeAny (model prog w) A.in1.in1 (.builtin "set.update.loop" ⟨[.ref s.heap.objs.size,.ref I],[]⟩) R s'
theorem Jw{t:OA}{vs:Av}{P:OI->Prop}(hh:A.handled=none)(B:s.heap.IsList t vs\/s.heap.IsTuple t vs)
  (L:Bv prog w A s vs (!i8 w) P)
  (h:∀(h':OI) (tk:Nat),P h'->(∀b o,b<s.heap.objs.size->s.heap.get? b=some o->h'.get? b=some o)->Q (.ref s.heap.objs.size) {s with heap:=h',toks:=tk}):wpAny (model prog w) A (call (.type "set") [.ref t]) Q E s:=by
 obtain⟨c,tl,Z⟩:=F.called_set.mro;have U:=F.called_set.made;have hsub:=F.called_set.sub;refine Sk (RQ ?_);show wpAny _ _ (callAny (.type "set") _) _ _ _;refine Ze ⟨RY _ (by decide+kernel),PJ F.entry_type_call ?_⟩;rw[Tz (Ut "set" [.ref t] []) rfl];have g1:=F.called_set.notType;have g2:=F.called_set.canCreate;have g3:=F.typeCall_set_1 (.ref t)
 repeat(any_goals (first|assumption|wp_step))
 refine P2 (Jt (.ref t) (E:=E) (R:=λobj S=>obj=.ref s.heap.objs.size/\S={s with heap:=s.heap.push (bM (!i8 w))}) ⟨rfl,rfl⟩) λr S V=>?_;cases r with
 |error e=>exact V
 |ok fl=>
  cases fl with
  |ret obj=>
   obtain⟨rfl,rfl⟩:=V;generalize(!i8 w)=l at L⊢;have hS:(s.heap.push (bM l)).get? s.heap.objs.size=some (bM l):=Zi _ rfl;have hT:RN {s with heap:=s.heap.push (bM l)} (.ref s.heap.objs.size) "set":=⟨_,hS,rfl⟩;have hli:=F.called_set.init.lookup;have hbi:=F.called_set.init.bind (.ref s.heap.objs.size)
   repeat(any_goals (first|assumption|wp_step))
   refine P2 (QP (R:=wants (λr q=>r=.none/\∃h' tk,q={s with heap:=h',toks:=tk}/\P h'/\
     (∀b o,b<s.heap.objs.size->s.heap.get? b=some o->h'.get? b=some o)) E) F.called_set.init.plain F.entry_set_init (check_set_init_1 hT ?_)) λJ q H=>?_
   ·have D:A.in1.in1.in1.handled=none:=by simp[hh]
    have W:(s.heap.push (bM l)).objs.size=s.heap.objs.size+1:=PN ..;have G:t<s.heap.objs.size:=by rcases B with⟨_,d,_⟩| ⟨_,d,_⟩<;>exact Zm d
    have n:t≠(s.heap.push (bM l)).objs.size:=by rw[W];exact Zz (Sb G)
    have C:s.heap.objs.size∉[(s.heap.push (bM l)).objs.size,t]:=by rw[W];simp only[Zh,Zt,ZZ,not_or];exact⟨Zz (Ps _),Qe G⟩
    have x:∀b∈[(s.heap.push (bM l)).objs.size],s.heap.objs.size<b:=λb m=>by rw[W,OT]at m;rw[m];exact Ps _
    have p:∀b,b<s.heap.objs.size->b∉[(s.heap.push (bM l)).objs.size]:=λb m z=>by have:=x b z;omega
    rcases B with B|B
    ·obtain⟨⟨I,a,y,O⟩,d,f,nl,g⟩:=B;simp only at f g;subst f;subst g;have k:(s.heap.push (bM l)).get? t=some {cls:=.type "list",dict:=a,data:=.seq vs nl,slots:=O}:=Zb _ d;have q1:=F.sub_list_set;have q2:=F.sub_list_frozenset;have q3:(O3 "list"==O3 "dict")=Oy:=by decide
     have j:(s.heap.push (bM l)).IsList t vs:=⟨_,k,rfl,nl,rfl⟩;unfold PF.«set.__init__» noKeywords Qq;generalize v:pyIter=PI
     wp_walk
     subst v;refine PL j (Za (R1 ?_));exact L.go _ (Walks.list D _ t n vs) C ⟨⟨_,Zi _ rfl,rfl,rfl⟩,(j.push _)⟩ (λb o e=>Zb _ e) x λh' T X Y=>Ze (Ze ⟨rfl,h',T,rfl,Y,λb o m e=>X b o (p b m) (Zz m) (Zb _ (Zb _ e))⟩)
    ·obtain⟨⟨I,a,y,O⟩,d,f,nl,g⟩:=B;simp only at f g;subst f;subst g;have k:(s.heap.push (bM l)).get? t=some {cls:=.type "tuple",dict:=a,data:=.seq vs nl,slots:=O}:=Zb _ d;have q1:=F.sub_tuple_set;have q2:=T9;have q3:(O3 "tuple"==O3 "dict")=Oy:=by decide
     have j:(s.heap.push (bM l)).IsTuple t vs:=⟨_,k,rfl,nl,rfl⟩;unfold PF.«set.__init__» noKeywords Qq;generalize v:pyIter=PI
     wp_walk
     subst v;refine Ph j (Za (R1 ?_));exact L.go _ (Walks.tuple D _ t n vs) C ⟨⟨_,Zi _ rfl,rfl,rfl⟩,(j.push _)⟩ (λb o e=>Zb _ e) x λh' T X Y=>Ze (Ze ⟨rfl,h',T,rfl,Y,λb o m e=>X b o (p b m) (Zz m) (Zb _ (Zb _ e))⟩)
   ·cases J with
    |error e=>exact H
    |ok u=>
     cases u with
     |ret r=>
      obtain⟨rfl,h',tk,rfl,M,N⟩:=H
      repeat(any_goals (first|assumption|wp_step))
      exact h _ _ M N
     |_=>exact H.elim
  |_=>exact V.elim
theorem dZ.born(h:OI):dZ prog w (h.push (bM (!i8 w))) h.objs.size []:=⟨⟨_,0,_,Zi _ rfl,⟨rfl,rfl,rfl⟩,rfl,rfl,rfl,rfl,λi j H=>absurd H (Nat.not_lt_zero _),rfl,Zd,rfl,λx b=>by simp_all⟩,λc a=>(by simp_all),.nil⟩
theorem vg{R:RL->Oz->Prop}{P:Nat->OB->Prop}{St:Nat->OI->Prop}(W:Walks prog w A.in1 I fp wr n P St)(S:OA)(out:S∉fp)(D:∀b∈wr,S<b)(val:Nat->Li×OA)(p:∀i v,P i v->v=.ref (val i).2)(X:A.in1.units<cLine)(few:n<76):
  ∀(k i:Nat) (s:Oz) (cs:List (Li×OA)),n-i=k->i<=n->St i s.heap->dZ prog w s.heap S cs->(∀j,j<n->cU prog w s.heap (val j).1 (val j).2/\(val j).2<S)->(∀c∈cs,∃j,j<n/\c=val j)->(∀K,K∈cs.map (·.1)↔∃j,j<i/\(val j).1=K)->cs.length<=i->
  (∀h' tk C,(∀b o,b∉wr->b≠S->s.heap.get? b=some o->h'.get? b=some o)->dZ prog w h' S C->(∀K,K∈C.map (·.1)↔∃j,j<n/\(val j).1=K)->(∀c∈C,∃j,j<n/\c=val j)->R (.ok (.ret .none)) {s with heap:=h',toks:=tk})->
  codeAny (model prog w) A (.builtin "set.update.loop" ⟨[.ref S,.ref I],[]⟩) R s:=by
 have nS:S∉wr:=λz=>out (W.sub S z);have low:∀b,b<S->b∉wr:=λb g z=>OR _ (R_ g (D b z));intro k
 induction k with
 |zero=>
  intro i s cs Y Z a x tup M G len fin;have L:∀c∈cs,c.2<S:=λc H=>let⟨j,h,e⟩:=M c H;e▸(tup j h).2
  obtain rfl:i=n:=by omega
  exact PJ TD (by rw[P9 Rv];exact Za (W.done s _ _ a λh' tk d=>Ze (fin h' tk cs (λb o N _ e=>d b o N e) (x.kept λb o e g=>d b o (by rcases g with rfl| ⟨c,H,rfl⟩;exact nS;exact low _ (L c H)) e) G M)))
 |succ k ih=>
  intro i s cs Y Z a x tup M G len fin;have L:∀c∈cs,c.2<S:=λc H=>let⟨j,h,e⟩:=M c H;e▸(tup j h).2
  have lt:i<n:=by omega
  refine PJ TD ?_;rw[P9 Rv];refine Za (W.item i s _ _ lt a λv h' tk pv q d=>?_);obtain rfl:=p i v pv;have x1:dZ prog w h' S cs:=x.kept λb o e g=>d b o (by rcases g with rfl| ⟨c,H,rfl⟩;exact nS;exact low _ (L c H)) e;have t:∀j,j<n->cU prog w h' (val j).1 (val j).2/\(val j).2<S:=λj h=>⟨(tup j h).1.kept λo e=>d _ o (low _ (tup j h).2) e,(tup j h).2⟩;refine Za (m:=holding [PK (val i).2] (setAdd S (.ref (val i).2))) (ZL ?_);unfold setAdd;refine ZL (Za (wpAny_pyHash_tuple X (t i lt).1 ?_));refine Bu (s:={s with heap:=h',toks:=tk+((val i).1.length+1)}) x1 (t i lt).1 X (by omega) λh2 f b Q x2 B r cq=>?_
  have J:∀K,K∈f.map (·.1)↔∃j,j<i+1/\(val j).1=K:=λK=>by
   rw[B K,G K];constructor
   ·rintro(⟨j,h,e⟩|rfl)
    ·exact⟨j,by omega,e⟩
    ·exact⟨i,by omega,rfl⟩
   ·rintro⟨j,h,e⟩;by_cases z:j=i
    ·subst z;exact .inr e.symm
    ·exact .inl ⟨j,by omega,e⟩
  refine Ze ⟨Si Rv _,ih (i+1) _ f (by omega) lt (W.frame _ _ _ q λb fb o e=>?_) x2 (λj h=>⟨(t j h).1.kept λo e=>?_,(t j h).2⟩) (λc H=>?_) J (by omega) λh3 U y E x3 O u=>?_⟩
  ·rw[Q.2 b λz=>out (z▸fb)];exact e
  ·rw[Q.2 _ (Zz (t j h).2)];exact e
  ·rcases r c H with z|z
   ·exact M c z
   ·exact⟨i,lt,z⟩
  ·refine fin h3 U y (λb o N V e=>E b o N V ?_) x3 O u;rw[Q.2 b V];exact d b o N e
theorem Jx{t:OA}{vs:Av}(G:A.handled=none)(N:A.units+64<cLine)(L:s.heap.IsList t vs\/s.heap.IsTuple t vs)(l:vs.toList=ks.map λc=>PK c.2)(J:∀c∈ks,cU prog w s.heap c.1 c.2)(F:ks.length<76)
  (h:∀(h':OI) (tk:Nat),(∃cs,dZ prog w h' s.heap.objs.size cs/\(∀u,u∈cs.map (·.1)↔u∈ks.map (·.1))/\∀c∈cs,c∈ks)->
   (∀b o,b<s.heap.objs.size->s.heap.get? b=some o->h'.get? b=some o)->Q (.ref s.heap.objs.size) {s with heap:=h',toks:=tk}):wpAny (model prog w) A (call (.type "set") [.ref t]) Q E s:=by
 have r:vs.size=ks.length:=by rw[<-ZH,l,Zn]
 have H:∀i,i<ks.length->ks.getD i ([],0)∈ks/\ks[i]?=some (ks.getD i ([],0)):=λi d=>by rw[QQ,Zj d];exact⟨QH d,rfl⟩
 refine Jw G L ⟨λO W out S x n fin=>?_⟩ h;refine vg W s.heap.objs.size out n (λi=>ks.getD i ([],0)) (λi v M=>?_) (by show A.units+1+1+1<cLine;omega) (by omega) (vs.size-0) 0 _ [] (by omega) (ZY _) S ((dZ.born s.heap).kept λb o e _=>x b o e) (λj I=>?_) (λc f=>by cases f) (λk=>⟨λz=>(by cases z),λZ=>Z.elim λi Z=>Z.elim λz _=>(by omega)⟩) (Zf _) λh' T C K X p m=>fin h' T K ⟨C,X,λk=>(p k).trans ⟨λZ=>Z.elim λi Z=>Z.elim λz e=>?_,λz=>?_⟩,λc f=>(by obtain⟨j,I,e⟩:=m c f;exact(e▸(H j (by omega)).1))⟩
 ·have a:vs.toList[i]?=some v:=by rw[O6];exact M
  rw[l,ZW]at a
  have d:i<ks.length:=by
   by_cases z:i<ks.length
   ·exact z
   ·rw[QD (by omega)]at a;cases a
  rw[(H i d).2]at a;exact(OY a).symm
 ·have y:=J _ (H j (by omega)).1;refine⟨y.kept λo e=>x _ o (Zb _ e),?_⟩;obtain⟨o,_,_,g,_⟩:=y;exact Zm g
 ·rw[<-e];exact Zs.mpr ⟨_,(H i (by omega)).1,rfl⟩
 ·obtain⟨c,f,e⟩:=Zs.mp z;obtain⟨i,d,D⟩:=ZU.mp f;refine⟨i,by omega,?_⟩;have:=(H i d).2;rw[Zj d,D]at this;rw[<-OY this];exact e
theorem Bw(ns:Li):firstMet (λi=>ns.getD i 0) ns.length=cS ns:=by unfold firstMet cS;congr 1;refine Rh (by simp) λi H h=>?_;simp[h]
theorem Jy(c:X.calm=Ox):bn X (.type "set") (λxs H Q=>∃p ns,xs=[.ref p]/\c8 X.K H p (ns.map V.int)/\ns.length+1<scanBound/\∀l S,H l=none->Q (.ref l) (ba H l (.set S (cS ns).length))):=by
 intro n s v H xs U Q I r h;obtain⟨p,ns,rfl,f,k,q⟩:=h;obtain⟨u,rfl,g⟩:=vals1 r;subst g;obtain⟨i,R,P,_⟩:=I.list f;have m:=R.length;refine call_set_list (I.ok.hd c) P.isList (by exact zk R) (by simp_all) λj t a d=>?_;have E:i.toArray.size=ns.length:=by simp_all
 rw[E,Bw]at a;exact⟨.ref _,_,I.laid (λb o e=>d b o (Zm e) e) (Zf _) (show bg _ _ _ _ _ (.set _ _)from a),rfl,q _ _ (I.hok.fresh (Zf _))⟩
theorem Jz(c:X.calm=Ox):bn X (.type "set") (λxs H Q=>∃p ns,xs=[.ref p]/\b7 X.K H p (ns.map V.int)/\ns.length+1<scanBound/\∀l S,H l=none->Q (.ref l) (ba H l (.set S (cS ns).length))):=by
 intro n s v H xs U Q I r h;obtain⟨p,ns,rfl,f,k,q⟩:=h;obtain⟨u,rfl,g⟩:=vals1 r;subst g;obtain⟨i,R,P,_⟩:=I.tuple f;have m:=R.length;refine Jf (I.ok.hd c) P (by exact zk R) (by simp_all) λj t a d=>?_;have E:i.toArray.size=ns.length:=by simp_all
 rw[E,Bw]at a;exact⟨.ref _,_,I.laid (λb o e=>d b o (Zm e) e) (Zf _) (show bg _ _ _ _ _ (.set _ _)from a),rfl,q _ _ (I.hok.fresh (Zf _))⟩
theorem JA(c:X.calm=Ox):bn X (.type "set") (λxs H Q=>∃p ns,xs=[.ref p]/\(c8 X.K H p (ns.map V.int)\/b7 X.K H p (ns.map V.int))/\ns.length+1<scanBound/\∀l S,H l=none->Q (.ref l) (ba H l (.set S (cS ns).length))):=by
 intro P s d H xs u Q I r h;obtain⟨p,ns,e,a,b,q⟩:=h;rcases a with a|a
 ·exact Jy c _ s _ H _ _ Q I r ⟨p,_,e,a,b,q⟩
 ·exact Jz c _ s _ H _ _ Q I r ⟨p,_,e,a,b,q⟩
theorem JB:bn X (.builtin "len") (λxs H Q=>∃p S n,xs=[.ref p]/\H p=some (.set S n)/\n<100000/\Q (.int n) H):=by intro P s i H xs U Q I r h;obtain⟨p,S,n,rfl,e,g,q⟩:=h;obtain⟨u,rfl,R⟩:=vals1 r;subst R;obtain⟨o,f,E,t,d,a,b,_,_,_,c,rfl⟩:=I.hok p _ e;exact call_len_set d a b c (by lia) ⟨.int _,H,I.tok _,⟨_,rfl⟩,q⟩
theorem Bx:bootBuiltins "set"=some (.type "set"):=by decide+kernel
theorem oQ(ns:Li):(cS ns).length<=ns.length:=by
 have k:∀(ns a:Li),(ns.foldl Pj a).length<=a.length+ns.length:=by
  intro ns
  induction ns with
  |nil=>simp
  |cons n ns i=>intro a;refine Zl (i _) ?_;unfold Pj;split<;>simp<;>lia
 simpa[cS]using k _ []
theorem vh:∀{xs:List D},xs.all (az .int)=Ox->xs=(xs.filterMap cR).map D.int
 | [],_=>rfl
 |x::xs,h=>by
  simp only[Pa,ZG]at h;cases x with
  |int i=>simp[cR];rw[<-vh h.2]
  |_=>simp[az]at h
theorem vi{K:Fg}{m:GS}{μ:La}{H:Hp}:∀{ns:Li} {vs:List V},aj K m μ H (ns.map D.int) vs->vs=ns.map V.int
 | [],vs,r=>by subst r;rfl
 |n::ns,vs,r=>by obtain⟨v,w,rfl,R,a⟩:=r.uncons;cases aH R;rw[vi a];rfl
def vj(K:Fg):List V->Hp->VK->Prop:=λxs H Q=>∃p ns,xs=[.ref p]/\(c8 K H p (ns.map V.int)\/b7 K H p (ns.map V.int))/\ns.length+1<scanBound/\∀l S,H l=none->Q (.ref l) (ba H l (.set S (cS ns).length))
def sK:List V->Hp->VK->Prop:=λxs H Q=>∃p S n,xs=[.ref p]/\H p=some (.set S n)/\n<100000/\Q (.int n) H
theorem vk:∀(ks acc:List (Li)),acc.Nodup->(ks.foldl (λacc k=>if acc.contains k=Ox then acc else acc++[k]) acc).Nodup/\∀k,k∈ks.foldl (λacc k=>if acc.contains k=Ox then acc else acc++[k]) acc↔k∈acc\/k∈ks
 | [],acc,h=>⟨h,λk=>by simp⟩
 |x::ks,acc,h=>by
  by_cases z:acc.contains x=Ox
  ·obtain⟨a,b⟩:=vk ks _ h
   grind
  ·obtain⟨a,b⟩:=vk ks (acc++[x]) (ZT.mpr ⟨h,by simp,λa H b c=>by grind⟩)
   grind
theorem By(ks:List (Li)):(kc ks).Nodup/\∀k,k∈kc ks↔k∈ks:=by obtain⟨a,b⟩:=vk _ _ Qb;exact⟨a,λk=>(b k).trans (by simp)⟩
theorem Bz{prog:OF}{w:ON}:∀{k:Li} {its:Lv},Vals (k.map V.int) its->ItemsAre (intKind prog w) k its
 | [],its,r=>by cases r;exact .nil
 |n::k,its,r=>by
  cases r with
  |cons h H=>obtain⟨t,rfl⟩:=h;exact .cons (intKind_is _ _ _ _) (Bz H)
theorem oR{k:Li}(I:Inv X pq σ H s)(h:b7 X.K H a (k.map V.int)):cU X.prog X.w s.heap k a:=by obtain⟨i,r,p,_⟩:=I.tuple h;obtain⟨o,g,c,n,d⟩:=p;exact⟨o,_,n,g,c,d,Bz r⟩
theorem BA:∀{ks:List (Li×OA)} {its:Lv},Vals (ks.map λc=>V.ref c.2) its->its=ks.map λc=>PK c.2
 | [],its,r=>by cases r;rfl
 |c::ks,its,r=>by
  cases r with
  |cons h H=>subst h;rw[BA H];rfl
noncomputable def JC(K:Fg)(H:Hp)(p:OA)(ks:List (Li×OA)):Prop:=(c8 K H p (ks.map λc=>V.ref c.2)\/b7 K H p (ks.map λc=>V.ref c.2))/\(∀c∈ks,b7 K H c.2 (c.1.map V.int))/\ks.length<76
theorem oS{p:OA}{E:Vs}{Q:Vs}(g:X.calm=Ox)(n:X.A.units+64<cLine)(I:Inv X pq σ H s)(h:JC X.K H p ks)
  (fin:∀h' tk cs,dZ X.prog X.w h' s.heap.objs.size cs->(∀k,k∈cs.map (·.1)↔k∈ks.map (·.1))->(∀c∈cs,c∈ks)->Inv X pq σ H {s with heap:=h',toks:=tk}->(∀b o,s.heap.get? b=some o->h'.get? b=some o)->Q (.ref s.heap.objs.size) {s with heap:=h',toks:=tk}):wpAny (model X.prog X.w) X.A (call (.type "set") [.ref p]) Q E s:=by
 obtain⟨d,m,f⟩:=h
 obtain⟨i,r,P⟩:∃i,Vals _ i/\(s.heap.IsList p i.toArray\/s.heap.IsTuple p i.toArray):=by
  rcases d with d|d
  ·obtain⟨i,r,P,_⟩:=I.list d;exact⟨_,r,.inl P.isList⟩
  ·obtain⟨i,r,P,_⟩:=I.tuple d;exact⟨_,r,.inr P⟩
 exact Jx (I.ok.hd g) n P (BA r) (λc g=>oR I (m c g)) f λh' tk z K=>by obtain⟨_,x,j,l⟩:=z;exact(fin _ _ _ x j l (I.kept λb o e=>K b o (Zm e) e) λb o e=>K b o (Zm e) e)
noncomputable def JD(K:Fg)(v:V)(H:Hp)(Q:VK):Prop:=(vj K [v] H λy H2=>sK [y] H2 Q)
theorem JE(l:X.calm=Ox)(w:X.A.units+64<cLine)(b:Gl X "len")(c:Gl X "set")(d:X.mg "len"=none)(e:X.mg "set"=none)(m:bA z=Ox)(k:PE X z ta):
  PE X (.Call (.Name "len" p1) [.Call (.Name "set" p2) [z] [] p3] [] p4) (λσ H Q=>ta σ H λx H1=>JD X.K x H1 Q):=by
 intro p s σ H Q I h;have f:=cf (env:=X.env) (es:=[]) m;refine Pg (fC I b d PySem.boot_len ?_ (by decide) (rfl));refine Qs ?_ rfl rfl;refine O_ ?_;refine Pg (fC I c e Bx ?_ (by decide) (rfl));have j:PA X [z] (ez ta mY):=dI k fD f
 refine OO (aT (j p3 p s σ H (λvs H1=>match vs with
  | [x]=>JD X.K x H1 Q
  |_=>False) I h) λU S Z=>?_) f rfl
 obtain⟨vs,H1,g,r,q⟩:=Z
 match vs,q with
 | [v],q=>refine aT (JA l p S σ H1 [v] U (λy a=>sK [y] a Q) g r q) λu o Z=>?_;obtain⟨V,a,i,R,n⟩:=Z;refine Q0 ?_;exact JB p o σ a [V] [u] Q i (.cons R .nil) n
theorem BB{K:Fg}{m:GS}{μ:La}{H:Hp}:∀{xs:List D} {vs:List V},xs.all (az (.seq .int))=Ox->aj K m μ H xs vs->∃ks:List (Li×OA),vs=(ks.map λc=>V.ref c.2)/\(∀c∈ks,b7 K H c.2 (c.1.map V.int))/\ks.map (·.1)=xs.map fP
 | [],vs,_,r=>by unfold aj at r;subst r;exact⟨[],rfl,λc h=>(by cases h),rfl⟩
 |x::xs,vs,h,r=>by
  simp only[Pa,ZG]at h;obtain⟨v,w,rfl,R,k⟩:=r.uncons;obtain⟨ks,rfl,g,i⟩:=BB h.2 k;cases x with
  |tup f=>
   have d:f.all (az .int)=Ox:=h.1;obtain⟨a,u,rfl,j,q⟩:=bQ R;rw[vh d]at q;have e:=vi q;subst e;refine⟨(f.filterMap cR,a)::ks,rfl,λc b=>?_,by rw[ZV,i];rfl⟩;rcases Zh.mp b with rfl|b
   ·exact j
   ·exact g c b
  |_=>simp[az]at h
theorem vm(s:aK K ⟨mg,F⟩ μ S H)(r:Rep K ⟨mg,F⟩ μ H d v)(e:aB S d=some xs)(c:xs.all (az (.seq .int))=Ox/\xs.length<76):∃p ks,v=.ref p/\JC K H p ks/\ks.map (·.1)=xs.map fP:=by obtain⟨a,vs,rfl,f,R⟩:=f6 s r e;obtain⟨ks,rfl,b,h⟩:=BB c.1 R;refine⟨a,ks,rfl,⟨f,b,?_⟩,h⟩;have:=congrArg RG h;rw[Zn,Zn]at this;omega
theorem JF{Q:VK}(s:aK K ⟨mg,F⟩ μ S H)(r:Rep K ⟨mg,F⟩ μ H d v)(w:aO K ⟨mg,F⟩ μ H Q (iU d S)):JD K v H Q:=by
 unfold iU at w;split at w
 ·rename_i x e;split at w
  ·rename_i g;obtain⟨a,vs,rfl,i,R⟩:=f6 s r e;have h:=vh g.1;have c:(x.filterMap cR).length<1000:=by grind
   rw[h]at R;have j:=vi R;subst j;refine⟨a,x.filterMap cR,rfl,i,by unfold scanBound;lia,λl f b=>⟨l,f,_,rfl,bU,by have:=oQ (x.filterMap cR);lia,?_⟩⟩;exact w μ _ _ (.laid b) (s.laid b) bL
  ·exact w.elim
 ·exact w.elim
section
variable {R:RL->Oz->Prop}{P:Nat->OB->Prop}{St:Nat->OI->Prop}
end
theorem BC{a:Type}(f:Nat->Nat):∀(n k:Nat) (left:List a) (out:Array a),left.length=n->(pickOrder.go f n k left out).toList.Perm (out.toList++left)
 |0,k,left,out,h=>by have:left=[]:=ZP h;subst this;unfold pickOrder.go;simp
 |n+1,k,left,out,h=>by
  have H:f k%left.length<left.length:=R3 _ (by omega);unfold pickOrder.go;rw[Zj H];dsimp only;refine(BC f n (k+1) _ _ (by rw[SG H];omega)).trans ?_;rw[Array.toList_push,ZX];refine List.Perm.append_left _ ?_;have:left=left.take (f k%left.length)++left[f k%left.length]::left.drop (f k%left.length+1):=by rw[<-Qh H,Ry]
  rw[List.eraseIdx_eq_take_drop_succ];refine List.Perm.trans ?_ (List.Perm.of_eq this.symm);rw[List.singleton_append];exact(QG).symm
theorem JG(f:Nat->Nat)(xs:Array α):(pickOrder f xs).toList.Perm xs.toList:=by have:=BC f xs.size 0 xs.toList #[] (by simp);simpa[pickOrder]using this
noncomputable def cH(w:ON)(a:OA)(ep:Nat)(es:Array (Int×OB)):List (Int×OB):=if i8 w=Ox then(pickOrder (w.params.setOrder a ep) es).toList else es.toList
noncomputable def bN(w:ON)(ks:List Nat):Nat->Nat
 |0=>0
 |i+1=>if i8 w=Ox then 0 else ks.getD i 0+1
theorem kx(w:ON)(a:OA)(ep:Nat)(es:Array (Int×OB)):(cH w a ep es).Perm es.toList:=by
 unfold cH;split
 ·exact JG _ _
 simp_all
structure TB (w:ON)(t:O7)(n:Nat):Prop where
 fit:t.fits n=Ox
 led:t.led=(!i8 w)
 pl:t.plain=Ox
 ris:iG t.place
theorem TB.size{t:O7}(x:TB w t n):n=t.place.toList.length:=by have:=x.fit;unfold Ss at this;simp_all
theorem ky{t:O7}{es:Array (Int×OB)}{i:Nat}{Q:Option (OB×Nat)->Oz->Prop}(T:TB w t es.size)(g:s.heap.get? a=some o)(d:o.data=.set es ep t)(p:i<=es.size)
  (fin:Q (((cH w a ep es)[i]?).map λe=>(e.2,bN w t.place.toList (i+1))) s):wpAny (model prog w) A (setNext a (bN w t.place.toList i) i ep) Q E s:=by
 have q:=T.size;have f:=T.fit;unfold setNext;refine Za (Pq g d f ?_);dsimp only;refine Za (m:=setsByText) (Za (Qp (Ze ?_)));cases h:i8 w with
 |true=>
  have H:w.params.followText "set-order"=Ox:=h;show wpAny _ _ (if(w.params.followText "set-order")=Ox then _ else _) _ _ _;rw[if_pos H];simp only[bne_self_eq_false,Zw,Z3];refine Za ?_;unfold setWalk;refine Za (Pq g d f ?_);dsimp only;refine Za (m:=setsByText) (Za (Qp (Ze ?_)));show wpAny _ _ (if(w.params.followText "set-order")=Ox then _ else _) _ _ _;rw[if_pos H];refine Za (Qp (Ze (Ze ?_)));have j:cH w a ep es=(pickOrder (w.params.setOrder a ep) es).toList:=by unfold cH;rw[if_pos h]
  have k:bN w t.place.toList (i+1)=bN w t.place.toList i:=by
   cases i with
   |zero=>simp[bN,h]
   |succ i=>simp[bN,h]
  rw[j,k,O6]at fin;exact fin
 |false=>
  have H:w.params.followText "set-order"=Oy:=h;show wpAny _ _ (if(w.params.followText "set-order")=Ox then _ else _) _ _ _;rw[if_neg (by grind)];refine QM ?_
  rw[if_neg (λz=>by have z:(!t.plain&&decide (es.size>1))=Ox:=z;rw[T.pl]at z;simp at z)];refine Za ?_;show wpAny _ _ (if(!t.led&& !es.isEmpty)=Ox then _ else pure ()) _ _ _;rw[if_neg (by rw[T.led,h];simp)];refine Ze (Ze ?_);have n:=T.ris;have j:cH w a ep es=es.toList:=by unfold cH;rw[if_neg (by grind)]
  have l:OE t.place (bN w t.place.toList i)=i:=by
   cases i with
   |zero=>exact Ji _ n
   |succ i=>
    have b:i<t.place.size:=by grind
    have e:bN w t.place.toList (i+1)=t.place[i]+1:=by show(if i8 w=Ox then 0 else t.place.toList.getD i 0+1)=_;rw[h];simp[b]
    rw[e];exact Jh n _
  rw[j,O6]at fin;rw[l];by_cases b:i<es.size
  ·have c:i<t.place.size:=by grind
   have k:bN w t.place.toList (i+1)=t.place[i]+1:=by show(if i8 w=Ox then 0 else t.place.toList.getD i 0+1)=_;rw[h];simp[c]
   rw[O5 b]at fin⊢;rw[k]at fin;simpa[c]using fin
  ·rw[SY (by omega)]at fin⊢;exact fin
theorem i9:Slot "set_iterator" "__next__" "set_iterator.__next__":=.of (owner:="set_iterator") (n:="__next__") (by rw[typeLookup_type,Uw];kernel_rfl) (by decide+kernel) (by decide+kernel) (by decide+kernel) (by first|exact .inl (by decide+kernel)|exact .inr (by decide+kernel)) (by rw[Tq];kernel_rfl)
theorem BD:Slot "set_iterator" "__iter__" "set_iterator.__iter__":=.of (owner:="set_iterator") (n:="__iter__") (by rw[typeLookup_type,Uw];kernel_rfl) (by decide+kernel) (by decide+kernel) (by decide+kernel) (by first|exact .inl (by decide+kernel)|exact .inr (by decide+kernel)) (by rw[Tq];kernel_rfl)
theorem JH:entryFor table "set_iterator.__iter__"=some PF.«dict_keyiterator.__iter__»:=entryFor_alias (id':="dict_keyiterator.__iter__") (rfl) rfl (by decide+kernel) (rfl)
theorem JI(v:OB):argsOk "set_iterator.__iter__" ⟨[v],[]⟩:=by kernel_rfl
theorem BE:entryFor table "set_iterator.__next__"=some PF.«set_iterator.__next__»:=entryFor_of_tree rfl
theorem BF(v:OB):argsOk "set_iterator.__next__" ⟨[v],[]⟩:=by kernel_rfl
theorem JJ:entryFor table "set.__iter__"=some PF.«frozenset.__iter__»:=entryFor_alias (id':="frozenset.__iter__") (rfl) rfl (by decide+kernel) (rfl)
def kz(h:OI)(it a:OA)(sl i n ep:Nat):Prop:=∃o,h.get? it=some o/\o.cls=.type "set_iterator"/\o.data=.fields #[.int sl 0,.int i 0,.ref a,.int n 0,.int ep 0]
theorem vn{t:O7}{es:Array (Int×OB)}(T:TB w t es.size)(g:s.heap.get? a=some o)(e:o.ExactSet)(d:o.data=.set es ep (t))
  (fin:Q (.ref s.heap.objs.size) {s with heap:=s.heap.push {cls:=.type "set_iterator",data:=.fields #[.int 0 0,.int 0 0,.ref a,.int es.size 0,.int ep 0]}}):wpAny (model prog w) A (pyIter (.ref a)) Q E s:=by
 have f:=T.fit;have ty:s.TypeIs (.ref a) _:=⟨o,g,e.1⟩;refine wpAny_pyIter_slot ty F.slot_set_iter (ZO F.slot_set_iter ty JJ ?_ (F.args_set_iter_1 _));refine Za (Za (Ze (Ze ?_)));refine Za (Za (Sd g d f (Ze ?_)));refine Za ?_;refine Za (Pq g d f ?_);refine Za (Za (Qp (Ze (Ze ?_))))
 rw[if_neg (show ¬_ from λz=>by have z:(!(w.params.followText _)&&(!t.plain&&decide _))=Ox:=z;rw[T.pl]at z;simp at z)];exact Za (Ze (Za (wpAny_setEpoch_of g d f (Za (ZR (Ze ⟨_,rfl,_,_,⟨_,Zi _ rfl,rfl⟩,i9.lookup,fin⟩))))))
theorem oT{t:O7}{es:Array (Int×OB)}{i:Nat}{e:Int×OB}{Q:Ov->Oz->Prop}(h:kz s.heap it a (bN w t.place.toList i) i es.size ep)(T:TB w t es.size)(g:s.heap.get? a=some o)(d:o.data=.set es ep (t))
  (f:(cH w a ep es)[i]?=some e) (fin:∀h',kz h' it a (bN w t.place.toList (i+1)) (i+1) es.size ep->PC it s.heap h'->Q (some e.2) {s with heap:=h'}):wpAny (model prog w) A (pyNext (.ref it)) Q E s:=by
 obtain⟨O,G,c,D⟩:=id h;have ty:s.TypeIs (.ref it) "set_iterator":=⟨O,G,c⟩
 have k:i<=es.size:=by have j:=(Zg.mp f).1;rw[(kx w a ep es).length_eq,ZH]at j;omega
 unfold pyNext;refine Za (QN (ZN ty i9 (ZO i9 ty BE ?_ (BF _))));refine Za (Ze ?_);refine Za (wpAny_fieldsOf G D ?_);dsimp only;refine Za (Sd g d T.fit ?_);rw[if_neg (by simp)];refine Za ?_;rw[Pl,Pl,Pl];refine ky T g d k ?_;rw[f];refine Za (Rb G D (by simp) ?_);have b:=O8 (Obj.mapFields (·.setIfInBounds 0 (rawInt (bN w t.place.toList (i+1):Nat)))) G (RC (PX D _));have d1:=PX D (·.setIfInBounds 0 (rawInt (bN w t.place.toList (i+1):Nat)));refine Za (Rb b d1 (by simp) ?_);refine Ze ⟨_,rfl,Ze (fin _ ⟨_,O8 (Obj.mapFields (·.setIfInBounds 1 (rawInt ((i:Int)+1)))) b (RC (PX d1 _)),?_,?_⟩ ((Z9 _ it _).trans (Z9 _ it _)))⟩
 ·rw[Sa,Sa];exact c
 ·rw[PX d1 (·.setIfInBounds 1 (rawInt ((i:Int)+1)))];simp[rawInt]
theorem vo{t:O7}{es:Array (Int×OB)}{Q:Ov->Oz->Prop}(c:A.handled=none)(h:kz s.heap it a (bN w t.place.toList es.size) es.size es.size ep)(T:TB w t es.size)(g:s.heap.get? a=some o)(d:o.data=.set es ep (t))
  (fin:∀h',Tw it s.heap h'->Q none {s with heap:=h'}):wpAny (model prog w) A (pyNext (.ref it)) Q E s:=by
 obtain⟨O,G,C,D⟩:=id h;have ty:s.TypeIs (.ref it) "set_iterator":=⟨O,G,C⟩;unfold pyNext;refine Za (QN (ZN (name:=PH "__next__") ty i9 (ZO i9 ty BE ?_ (BF _))));unfold PF.«set_iterator.__next__»;refine Za (Ze ?_);refine Za (wpAny_fieldsOf G D ?_);dsimp only;refine Za (Sd g d T.fit ?_);rw[if_neg (by simp)];refine Za ?_;rw[Pl,Pl,Pl];refine ky T g d (Zf _) ?_;rw[QD (by rw[(kx w a ep es).length_eq,ZH];exact Zf _)];dsimp only[Option.map_none];refine Za (Rb G D (by simp) (Za ?_));simp only[newExc,newTuple];refine Za (ZR (Za (m:=firstArgMember _ _) (wpAny_of_eq (a:=OJ) (by first|rfl| (simp only[firstArgMember];rfl)) (ZR ?_ (by size_fits)))) (by size_fits));simp only[raiseNew];refine Za (wpAny_handled ?_);rw[show A.in1.handled=none from c];refine Za (Ze (wpAny_throw ?_));exact Za (SN (T:="StopIteration") (b:=Ox) ⟨_,Zi _ rfl,rfl⟩ isSubtype_stop (Ze (fin _ (((Z9 ..).extBut.push _).push _))))
theorem Walks.setC(calm:A.handled=none)(hne:a≠it){t:O7}{es:Array (Int×OB)}(T:TB w t es.size)(d:o.data=.set es ep (t)):
  Walks prog w A it [it,a] [it] es.size (λi v=>∃e,(cH w a ep es)[i]?=some e/\v=e.2) (λi h=>kz h it a (bN w t.place.toList i) i es.size ep/\h.get? a=some o) where
 sub:=λb hb=>by simp_all
 frame:=λi h h' st k=>by obtain⟨⟨oi,gi,ri⟩,g⟩:=st;exact⟨⟨_,k _ (by simp) _ gi,ri⟩,k a (by simp) o g⟩
 item:=λi s Q E hi st hQ=>by
  have hl:i<(cH w a ep es).length:=by rw[(kx w a _ _).length_eq];exact hi
  refine oT st.1 T st.2 d (Zj hl) λh' hit' sb=>?_;refine hQ _ _ _ ⟨_,Zj _,rfl⟩ ⟨hit',sb.extBut a o hne st.2⟩ λb o hb e=>sb.extBut b o (λh=>hb (by simp[h])) e
 done:=λs Q E st hQ=>vo calm st.1 T st.2 d λh' he=>hQ _ _ λb o hb e=>he b o (λh=>hb (by simp[h])) e
 self:=λi s Q E st hQ=>by obtain⟨⟨oi,gi,ci,di⟩,_⟩:=st;have ty:s.TypeIs (.ref _) _:=⟨_,gi,ci⟩;exact wpAny_pyIter_slot ty BD (ZO BD ty JH (Ze ⟨_,rfl,_,_,ty,i9.lookup,hQ⟩) (JI _))
theorem JK{t:O7}{es:Array (Int×OB)}{Q:Lv->Oz->Prop}(C:A.handled=none)(T:TB w t es.size)(g:s.heap.get? a=some o)(q:o.ExactSet)(d:o.data=.set es ep t)(few:es.size<1000)
  (fin:∀(h':OI) (tk:Nat) (vs:Lv),(∀b o,s.heap.get? b=some o->h'.get? b=some o)->vs.Perm (es.toList.map (·.2))->Q vs {s with heap:=h',toks:=tk}):wpAny (model prog w) A (collect (.ref a)) Q E s:=by
 have N:=Zm g;unfold collect;refine Za (R1 (PJ F.entry_proto_collect ?_));rw[P9 F.plain_proto_collect];refine Za (m:=newList []) (ZR (Ze ⟨Si F.plain_list_iadd _,PJ F.entry_list_iadd ?_⟩));rw[P9 F.plain_list_iadd];generalize p:s.heap.objs.size=S;have z:(s.heap.push {cls:=.type "list",data:=.seq ([]:Lv).toArray}).get? S=some {cls:=.type "list",data:=.seq #[]}:=by rw[<-p];exact Zi _ rfl
 have G:(s.heap.push {cls:=.type "list",data:=.seq ([]:Lv).toArray}).get? a=some o:=Zb _ g;have D:∀b o,s.heap.get? b=some o->(s.heap.push {cls:=.type "list",data:=.seq ([]:Lv).toArray}).get? b=some o:=λ_ _ e=>Zb _ e;generalize s.heap.push {cls:=.type "list",data:=.seq ([]:Lv).toArray}=h at z G D⊢;have ty:RN {s with heap:=h} (.ref a) "set":=⟨o,G,q.1⟩;show wpAny _ A.in1 (RU (.ref S) (.ref a) (.ref S)) _ _ _;unfold RU;refine Za (Qm ty ?_)
 rw[if_neg (by
  have:S≠a:=by rw[<-p];exact Qe N
  simp[Builtin.List.listSameRef,this])]
 refine Za (vn T G q d ?_);have x:a<h.objs.size:=Zm G;have K:∀b o,h.get? b=some o->(h.push {cls:=.type "set_iterator",data:=.fields #[.int 0 0,.int 0 0,.ref a,.int es.size 0,.int ep 0]}).get? b=some o:=λ_ _ e=>Zb _ e;have k:kz (h.push {cls:=.type "set_iterator",data:=.fields #[.int 0 0,.int 0 0,.ref a,.int es.size 0,.int ep 0]}) h.objs.size a (bN w t.place.toList 0) 0 es.size ep:=⟨_,Zi _ rfl,rfl,rfl⟩;show wpAny _ A.in1 _ _ _ {s with heap:=h.push {cls:=.type "set_iterator",data:=.fields #[.int 0 0,.int 0 0,.ref a,.int es.size 0,.int ep 0]}};generalize h.push {cls:=.type "set_iterator",data:=.fields #[.int 0 0,.int 0 0,.ref a,.int es.size 0,.int ep 0]}=i at K k⊢;have f:RN {s with heap:=i} (.ref a) "set":=⟨o,K a o G,q.1⟩;refine Za (ZL ?_);unfold Builtin.List.listLengthHint;refine Za (wpAny_specialOf f F.slot_set_len.lookup ?_);have sp:splitId "set.__len__"=some ("set","__len__"):=by decide+kernel
 dsimp only;rw[sp];dsimp only;refine Za (SN (b:=Ox) f (by rw[Tq];kernel_rfl) ?_);rw[if_neg (show ¬((!Ox)=Ox)by decide)];refine QM ?_;rw[if_pos]
 rotate_left
 ·decide+kernel
 refine Za (Qm f (Ze ?_));refine QM ?_;rw[if_pos]
 rotate_left
 ·decide+kernel
 refine Za (RM ?_);have l:=K S _ z;refine Za (m:=Builtin.List.listTouch (.ref S)) (Za (m:=updateSeq S (·.push .none)) (wpAny_updateSeq l rfl ?_));have n:=O8 (O4 (·.push OJ)) l rfl;refine wpAny_updateSeq n rfl ?_;have B:=O8 (O4 (·.pop)) n rfl;have J:∀b o,b≠S->i.get? b=some o->((i.update S (O4 (·.push OJ))).update S (O4 (·.pop))).get? b=some o:=λb o R e=>(Qv _ _ (Ne.symm R)).trans ((Qv _ _ (Ne.symm R)).trans e);have u:a≠S:=by rw[<-p];exact Zz N
 have v:h.objs.size≠S:=Qe (Zm z);have out:S∉[h.objs.size,a]:=by grind
 have W:=(Walks.setC (A:=A.in1) (prog:=prog) (w:=w) (by simpa using C) (Zz x) (it:=h.objs.size) (o:=o) (ep:=ep) T d).toS;refine Ze ⟨Si F.plain_extend_loop _,codeAny_extend_loopS W (by rw[Qj];omega) S out _ es.size 0 _ _ _ rfl (ZY _) ⟨?_,J a o u (K a o G)⟩ B ?_ λs' c c' mv r I=>?_⟩
 ·obtain⟨U,gi,ri⟩:=k;exact⟨U,J _ U v gi,ri⟩
 ·exact ItemsOf.nil _
 ·refine Za (wpAny_load r (Ze ?_));obtain⟨h',g',d',M,L⟩:=s';obtain⟨mh,mg,md,mo,_⟩:=mv;have X:g'=s.gens:=mg;have Z:L=s.os:=mo;subst X md Z;refine fin h' M _ (λb O e=>?_) ?_
  ·have hb:=Zm (D b O e);have y:=Zm e;have nS:b≠S:=by rw[<-p];exact Zz y
   refine mh b O ?_ (J b O nS (K b O (D b O e)));simp only[Zh,Zt,ZZ,not_or];exact⟨nS,Zz hb⟩
  ·have Y:c.toList=(cH w a ep es).map (·.2):=by
    refine List.ext_getElem? λj=>?_;rw[O6,ZW];have hz:(cH w a ep es).length=es.size:=by rw[(kx w a ep es).length_eq,ZH]
    by_cases P:j<c.size
    ·obtain⟨e,h,i⟩:=I.2 j _ (O5 P);rw[O5 P,h,i];rfl
    ·have h0:=I.1;rw[SY (by omega),QD (by omega)];rfl
   rw[Y];exact(kx w a ep es).map _
open PySem PySem.W PyProof.Rows
noncomputable def aF{b:Type}(c:Nat->Nat->Bool):KasT b->b
 | .ret a=>a
 | .ask i j k=>aF c (k (c i j))
noncomputable def fB{a:Type}(n:Nat)(c:Nat->Nat->Bool):KasT a->Prop
 | .ret _=>True
 | .ask i j k=>i<n/\j<n/\fB n c (k (c i j))
theorem i_{a b:Type}(c:Nat->Nat->Bool)(f:a->KasT b):∀t:KasT a,aF c (t.bind f)=aF c (f (aF c t))
 | .ret _=>rfl
 | .ask i j k=>i_ c f (k (c i j))
theorem gU{a d:Type}{n:Nat}{c:Nat->Nat->Bool}{f:a->KasT d}:∀{t:KasT a},fB n c t->fB n c (f (aF c t))->fB n c (t.bind f)
 | .ret _,_,h=>h
 | .ask i j k,H,b=>⟨H.1,H.2.1,gU H.2.2 b⟩
theorem Nu{a:Type}{n:Nat}{c:Nat->Nat->Bool}{cmp:Nat->Nat->(Bool->Oz->Prop)->Oz->Prop}{s:Oz}(h:∀i j C,i<n->j<n->C (c i j) s->cmp i j C s){G:a->Oz->Prop}:∀{t:KasT a},fB n c t->G (aF c t) s->t.kasWp cmp G s
 | .ret _,_,g=>g
 | .ask i j k,H,g=>h i j _ H.1 H.2.1 (Nu h H.2.2 g)
structure dz (n:Nat)(c:Nat->Nat->Bool):Prop where
 irr:∀i,i<n->c i i=Oy
 asym:∀i j,i<n->j<n->c i j=Ox->c j i=Oy
 ntr:∀i j k,i<n->j<n->k<n->c i j=Oy->c j k=Oy->c i k=Oy
structure fc (n:Nat)(p:Array Nat):Prop where
 size:p.size=n
 perm:p.Perm (OD n).toArray
theorem fc.lt{p:Array Nat}(h:fc n p)(c:0<n)(k:Nat):p.getD k 0<n:=by
 unfold SA;split
 ·rename_i a;have b:p[k]∈p:=T7 a;have H:p[k]∈(OD n).toArray:=h.perm.mem_iff.mp b;simpa using H
 ·exact c
theorem BG{p q:Array Nat}{i j:Nat}(h:p[i]?=q[j]?):p.getD i 0=q.getD j 0:=by rw[OX,OX,h]
section
variable {c:Nat->Nat->Bool}
def Up(c:Nat->Nat->Bool)(p:Array Nat)(k:Nat):Prop:=∀i,i+1<k->c (p.getD (i+1) 0) (p.getD i 0)=Oy
def Dn(c:Nat->Nat->Bool)(p:Array Nat)(k:Nat):Prop:=∀i,i+1<k->c (p.getD i 0) (p.getD (i+1) 0)=Oy
theorem Up.all(o:dz n c)(H:0<n){p:Array Nat}(P:fc n p){k:Nat}(h:Up c p k):∀d i,i+d<k->c (p.getD (i+d) 0) (p.getD i 0)=Oy:=by
 intro d
 induction d with
 |zero=>intro i a;exact o.irr _ (P.lt H _)
 |succ d I=>intro i a;exact o.ntr _ (p.getD (i+d) 0) _ (P.lt H _) (P.lt H _) (P.lt H _) (h (i+d) (by omega)) (I i (by omega))
theorem Up.le(o:dz n c)(a:0<n){p:Array Nat}(P:fc n p){k:Nat}(h:Up c p k){i j:Nat}(H:i<=j)(b:j<k):c (p.getD j 0) (p.getD i 0)=Oy:=by have:=h.all o a P (j-i) i (by simp_all);simp_all
theorem oU{p:Array Nat}(P:fc n p)(i j:Nat):fc n (kas_rev p i j):=⟨by unfold kas_rev;rw[mirror_size];exact P.size,(mirror_perm _ _ _ _).trans P.perm⟩
theorem gW{p:Array Nat}(P:fc n p){i j k:Nat}(h:j<=n)(H:i<=k/\k<j):(kas_rev p i j).getD k 0=p.getD (i+j-1-k) 0:=BG (by unfold kas_rev;rw[getElem?_mirror_all (by rw[P.size];exact h),if_pos H])
theorem ja{p:Array Nat}(P:fc n p){i j k:Nat}(h:j<=n)(H:¬(i<=k/\k<j)):(kas_rev p i j).getD k 0=p.getD k 0:=BG (by unfold kas_rev;rw[getElem?_mirror_all (by rw[P.size];exact h),if_neg H])
theorem vq(H:0<n){p:Array Nat}(P:fc n p):∀(f m:Nat),Up c p m->1<=m->fB n c (kas_asc p f m)/\m<=aF c (kas_asc p f m)/\aF c (kas_asc p f m)<=m+f/\Up c p (aF c (kas_asc p f m))/\
  (aF c (kas_asc p f m)<m+f->c (p.getD (aF c (kas_asc p f m)) 0) (p.getD (aF c (kas_asc p f m)-1) 0)=Ox)
 |0,m,h,g=>⟨trivial,Zf _,Zf _,h,λz=>absurd z (OR _)⟩
 |f+1,m,h,g=>by
  unfold kas_asc;simp only[fB,aF];cases e:c (p.getD m 0) (p.getD (m-1) 0)with
  |true=>simp only[if_true,aF,fB,and_true];exact⟨⟨P.lt H _,P.lt H _⟩,Zf _,by lia,h,λ_=>e⟩
  |false=>
   simp only[Zw,Z3]
   have d:Up c p (m+1):=λi l=>by
    by_cases z:i+1<m
    ·exact h i z
    ·have:i=m-1:=by lia
     simp_all
   obtain⟨a,j,k,A,b⟩:=vq H P f (m+1) d (by omega);exact⟨⟨P.lt H _,P.lt H _,a⟩,by omega,by omega,A,λz=>b (by omega)⟩
def sL(c:Nat->Nat->Bool)(p:Array Nat)(i j:Nat):Prop:=∀a b,i<=a->a<j->i<=b->b<j->c (p.getD a 0) (p.getD b 0)=Oy
theorem BH{p:Array Nat}(P:fc n p){i j:Nat}(H:j<=n)(h:sL c p i j):sL c (kas_rev p i j) i j:=λa b d e f g=>by rw[gW P H ⟨d,e⟩,gW P H ⟨f,g⟩];exact h _ _ (by omega) (by omega) (by omega) (by omega)
theorem kE(o:dz n c)(b:0<n){p:Array Nat}(P:fc n p){i j k:Nat}(H:j<=n)(f:k<=n)(h:Dn c p k)(e:sL c p i j):Dn c (kas_rev p i j) k:=λa d=>by
 by_cases Z:i<=a/\a<j
 ·by_cases z:i<=a+1/\a+1<j
  ·exact BH P H e a (a+1) Z.1 Z.2 z.1 z.2
  ·rw[gW P H Z,ja P H z];have q:=e (i+j-1-a) a (by omega) (by omega) Z.1 Z.2;exact o.ntr _ _ _ (P.lt b _) (P.lt b _) (P.lt b _) q (h a d)
 ·by_cases z:i<=a+1/\a+1<j
  ·rw[ja P H Z,gW P H z];have q:=e (a+1) (i+j-1-(a+1)) z.1 z.2 (by omega) (by omega);exact o.ntr _ _ _ (P.lt b _) (P.lt b _) (P.lt b _) (h a d) q
  ·rw[ja P H Z,ja P H z];exact h a d
theorem oV(o:dz n c)(H:0<n):∀(f:Nat) (p:Array Nat) (m q:Nat),fc n p->Dn c p m->sL c p (m-(q+1)) m->q+1<=m->m+f<=n->
  fB n c (kas_desc f p m q)/\fc n (aF c (kas_desc f p m q)).1/\Dn c (aF c (kas_desc f p m q)).1 (aF c (kas_desc f p m q)).2.1/\
   sL c (aF c (kas_desc f p m q)).1 ((aF c (kas_desc f p m q)).2.1-((aF c (kas_desc f p m q)).2.2+1)) (aF c (kas_desc f p m q)).2.1/\(aF c (kas_desc f p m q)).2.2+1<=(aF c (kas_desc f p m q)).2.1/\m<=(aF c (kas_desc f p m q)).2.1/\(aF c (kas_desc f p m q)).2.1<=m+f
 |0,p,m,q,P,h,e,u,L=>⟨trivial,P,h,e,u,Zf _,Zf _⟩
 |f+1,p,m,q,P,h,e,u,L=>by
  unfold kas_desc;simp only[fB,aF];cases E:c (p.getD m 0) (p.getD (m-1) 0)with
  |true=>
   simp only[if_true];have as:=o.asym _ _ (P.lt H _) (P.lt H _) E
   have one:∀(d:Array Nat),fc n d->Dn c d m->c (d.getD (m-1) 0) (d.getD m 0)=Oy->Dn c d (m+1)/\sL c d (m+1-(0+1)) (m+1):=λd r D z=>⟨λi J=>by
    by_cases y:i+1<m
    ·exact D i y
    ·have:i=m-1:=by omega
     subst this;rw[show m-1+1=m by omega];exact z,λa b s t C F=>by
    have:a=m:=by omega
    have:b=m:=by omega
    subst a;subst b;exact o.irr _ (r.lt H _)⟩
   by_cases G:q>0
   ·rw[if_pos G];have r:=oU P (m-(q+1)) m;have D:=kE o H P (by omega:m<=n) (by omega:m<=n) h e
    have z:c ((kas_rev p (m-(q+1)) m).getD (m-1) 0) ((kas_rev p (m-(q+1)) m).getD m 0)=Oy:=by rw[gW P (by omega) (by omega),ja P (by omega) (by omega)];exact o.ntr _ (p.getD (m-1) 0) _ (P.lt H _) (P.lt H _) (P.lt H _) (e _ (m-1) (by omega) (by omega) (by omega) (by omega)) as
    obtain⟨K,v⟩:=one _ r D z;obtain⟨A,g,j,k,l,w,x⟩:=oV o H f _ (m+1) 0 r K v (by omega) (by omega);exact⟨⟨P.lt H _,P.lt H _,A⟩,g,j,k,l,by omega,by omega⟩
   ·rw[if_neg G];obtain⟨K,v⟩:=one p P h as;obtain⟨A,g,j,k,l,w,x⟩:=oV o H f p (m+1) 0 P K v (by omega) (by omega);exact⟨⟨P.lt H _,P.lt H _,A⟩,g,j,k,l,by omega,by omega⟩
  |false=>
   simp only[Zw,Z3,fB,aF];cases B:c (p.getD (m-1) 0) (p.getD m 0)with
   |true=>simp only[if_true,aF,fB,and_true];exact⟨⟨P.lt H _,P.lt H _,P.lt H _,P.lt H _⟩,P,h,e,u,Zf _,by omega⟩
   |false=>
    simp only[Zw,Z3]
    have D:Dn c p (m+1):=λi J=>by
     by_cases y:i+1<m
     ·exact h i y
     ·have:i=m-1:=by omega
      subst this;rw[show m-1+1=m by omega];exact B
    have I:sL c p (m+1-(q+1+1)) (m+1):=λa b s t C F=>by
     have R:∀a,m+1-(q+1+1)<=a->a<m+1->c (p.getD a 0) (p.getD (m-1) 0)=Oy:=λa s t=>by
      by_cases y:a=m
      ·subst y;exact E
      ·exact e a (m-1) (by omega) (by omega) (by omega) (by omega)
     have M:∀a,m+1-(q+1+1)<=a->a<m+1->c (p.getD (m-1) 0) (p.getD a 0)=Oy:=λa s t=>by
      by_cases y:a=m
      ·subst y;exact B
      ·exact e (m-1) a (by omega) (by omega) (by omega) (by omega)
     exact o.ntr _ _ _ (P.lt H _) (P.lt H _) (P.lt H _) (R a s t) (M b C F)
    obtain⟨A,g,j,k,l,w,x⟩:=oV o H f p (m+1) (q+1) P D I (by omega) (by omega);exact⟨⟨P.lt H _,P.lt H _,P.lt H _,P.lt H _,A⟩,g,j,k,l,by omega,by omega⟩
structure F6 (n:Nat)(c:Nat->Nat->Bool)(r:Nat×Array Nat):Prop where
 pa:fc n r.2
 up:Up c r.2 r.1
 pos:1<=r.1
 le:r.1<=n
theorem BI(e:0<n){p:Array Nat}(P:fc n p){m:Nat}(h:Dn c p m)(h1:1<=m)(H:m<=n):fB n c (kas_tail3 m n p)/\F6 n c (aF c (kas_tail3 m n p)):=by
 have a:=oU P 0 m
 have u:Up c (kas_rev p 0 m) m:=λi j=>by
  rw[gW P H (by simp_all),gW P H (by lia)];have:=h (0+m-1-(i+1)) (by omega)
  rwa [show 0+m-1-(i+1)+1=0+m-1-i by grind]at this
 obtain⟨A,b,f,d,g⟩:=vq (c:=c) e a (n-m) m u h1;unfold kas_tail3;rw[i_];exact⟨gU A trivial,a,d,Zl h1 b,by show aF c (kas_asc (kas_rev p 0 m) (n-m) m)<=n;simp_all⟩
theorem BJ(o:dz n c)(H:0<n){p:Array Nat}(P:fc n p){m:Nat}(h:Dn c p (m+1))(u:m+1<=n):fB n c (kas_descPart m n p)/\F6 n c (aF c (kas_descPart m n p)):=by
 obtain⟨d,A,e,g,i,j,k⟩:=oV o H (n-(m+1)) p (m+1) 0 P h (λa b l q r s=>by
  have:a=b:=by omega
  subst this;exact o.irr _ (P.lt H _)) (by omega) (by omega)
 unfold kas_descPart;rw[i_];by_cases z:(aF c (kas_desc (n-(m+1)) p (m+1) 0)).2.2>0
 ·have f:=oU A ((aF c (kas_desc (n-(m+1)) p (m+1) 0)).2.1-((aF c (kas_desc (n-(m+1)) p (m+1) 0)).2.2+1)) (aF c (kas_desc (n-(m+1)) p (m+1) 0)).2.1;have D:=kE o H A (by omega) (by omega:(aF c (kas_desc (n-(m+1)) p (m+1) 0)).2.1<=n) e g;have t:=BI (c:=c) H f D (by omega) (by omega);rw[if_pos z];exact⟨gU d (by rw[if_pos z];exact t.1),t.2⟩
 ·have t:=BI (c:=c) H A e (by omega) (by omega);rw[if_neg z];exact⟨gU d (by rw[if_neg z];exact t.1),t.2⟩
theorem JL(o:dz n c)(H:2<=n){p:Array Nat}(P:fc n p):fB n c (kas_count n p)/\F6 n c (aF c (kas_count n p)):=by
 have h:0<n:=by omega
 obtain⟨j,d,w,A,l⟩:=vq (c:=c) h P (n-1) 1 (λi f=>by omega) (Zf 1);unfold kas_count;rw[i_];generalize s:aF c (kas_asc p (n-1) 1)=m at*
 have k:fB n c (if(m==n)=Ox then KasT.ret (m,p)else if m>1 then .ask (p.getD 0 0) (p.getD (m-1) 0) λc=>if c=Ox then .ret (m,p)else kas_descPart m n (kas_rev p 0 m)else kas_descPart m n p)/\
   F6 n c (aF c (if(m==n)=Ox then KasT.ret (m,p)else if m>1 then .ask (p.getD 0 0) (p.getD (m-1) 0) λc=>if c=Ox then .ret (m,p)else kas_descPart m n (kas_rev p 0 m)else kas_descPart m n p)):=by
  by_cases e:(m==n)=Ox
  ·rw[if_pos e];exact⟨trivial,P,A,d,by show m<=n;omega⟩
  ·rw[if_neg e];have t:m≠n:=by simpa using e
   have G:=l (by omega);have as:=o.asym _ _ (P.lt h _) (P.lt h _) G;by_cases z:m>1
   ·rw[if_pos z];simp only[fB,aF];cases r:c (p.getD 0 0) (p.getD (m-1) 0)with
    |true=>simp only[if_true,fB,aF,and_true];exact⟨⟨P.lt h _,P.lt h _⟩,P,A,d,by show m<=n;omega⟩
    |false=>
     simp only[Zw,Z3];have eq:sL c p 0 m:=λa b _ H _ x=>by have R:=A.le o h P (ZY a) H;have u:=A.le o h P (show b<=m-1 by omega) (by omega);exact o.ntr _ (p.getD (m-1) 0) _ (P.lt h _) (P.lt h _) (P.lt h _) (o.ntr _ (p.getD 0 0) _ (P.lt h _) (P.lt h _) (P.lt h _) R r) u
     have g:=oU P 0 m;have E:=BH P (by omega:m<=n) eq
     have D:Dn c (kas_rev p 0 m) (m+1):=λi f=>by
      by_cases y:i+1<m
      ·exact E i (i+1) (by omega) (by omega) (by omega) y
      ·have:i=m-1:=by omega
       subst this;rw[gW P (by omega) (by omega),ja P (by omega) (by omega),show m-1+1=m by omega];exact o.ntr _ (p.getD (m-1) 0) _ (P.lt h _) (P.lt h _) (P.lt h _) (eq _ (m-1) (by omega) (by omega) (by omega) (by omega)) as
     obtain⟨T,v⟩:=BJ o h g D (by omega);exact⟨⟨P.lt h _,P.lt h _,T⟩,v⟩
   ·rw[if_neg z];have q:m=1:=by omega
    subst q;refine BJ o h P (λi f=>?_) (by omega);have:i=0:=by omega
    subst this;exact as
 exact⟨gU j (by rw[s];exact k.1),k.2⟩
theorem vr(o:dz n c)(h:0<n){p:Array Nat}(P:fc n p){k:Nat}(u:Up c p k):∀(f l r:Nat),r<=k->l<=r->r-l<=f->(∀i,i<l->c (p.getD k 0) (p.getD i 0)=Oy)->(∀i,r<=i->i<k->c (p.getD k 0) (p.getD i 0)=Ox)->
  fB n c (kas_place p k f l r)/\aF c (kas_place p k f l r)<=k/\(∀i,i<aF c (kas_place p k f l r)->c (p.getD k 0) (p.getD i 0)=Oy)/\(∀i,aF c (kas_place p k f l r)<=i->i<k->c (p.getD k 0) (p.getD i 0)=Ox)
 |0,l,r,b,t,q,H,a=>by
  have:l=r:=by omega
  subst this;exact⟨trivial,b,H,a⟩
 |f+1,l,r,b,t,q,H,a=>by
  unfold kas_place;by_cases z:l>=r
  ·rw[if_pos z];have:l=r:=by omega
   subst this;exact⟨trivial,b,H,a⟩
  ·rw[if_neg z];simp only[fB,aF];cases E:c (p.getD k 0) (p.getD ((l+r)/2) 0)with
   |true=>
    simp only[if_true]
    have j:∀i,(l+r)/2<=i->i<k->c (p.getD k 0) (p.getD i 0)=Ox:=λi m s=>by
     cases e:c (p.getD k 0) (p.getD i 0)with
     |true=>rfl
     |false=>have:=o.ntr _ (p.getD i 0) _ (P.lt h _) (P.lt h _) (P.lt h _) e (u.le o h P m s);rw[E]at this;cases this
    obtain⟨B,d⟩:=vr o h P u f l ((l+r)/2) (by omega) (by omega) (by omega) H j;exact⟨⟨P.lt h _,P.lt h _,B⟩,d⟩
   |false=>
    simp only[Zw,Z3]
    have g:∀i,i<(l+r)/2+1->c (p.getD k 0) (p.getD i 0)=Oy:=λi m=>
     o.ntr _ (p.getD ((l+r)/2) 0) _ (P.lt h _) (P.lt h _) (P.lt h _) E (u.le o h P (by omega) (by omega))
    obtain⟨B,d⟩:=vr o h P u f ((l+r)/2+1) r b (by omega) (by omega) g a;exact⟨⟨P.lt h _,P.lt h _,B⟩,d⟩
theorem kG(o:dz n c)(H:0<n):∀(f:Nat) (p:Array Nat) (k:Nat),fc n p->Up c p k->k+f=n->fB n c (kas_bin f p k)/\fc n (aF c (kas_bin f p k))/\Up c (aF c (kas_bin f p k)) n
 |0,p,k,P,u,h=>by
  have:k=n:=by omega
  subst this;exact⟨trivial,P,u⟩
 |f+1,p,k,P,u,h=>by
  unfold kas_bin;rw[i_];obtain⟨A,r,g,j⟩:=vr o H P u k 0 k (Zf _) (ZY _) (by omega) (λi a=>absurd a (Nat.not_lt_zero _)) (λi t v=>by omega);generalize E:aF c (kas_place p k k 0 k)=l at*;have d:fc n (bubble p k (k-l)):=⟨by rw[bubble_size];exact P.size,(bubble_perm _ _ _).trans P.perm⟩
  have at_:∀i,(bubble p k (k-l)).getD i 0=if i=l then p.getD k 0 else if l<i/\i<=k then p.getD (i-1) 0 else p.getD i 0:=λi=>by
   have e:=getElem?_bubble (xs:=p) (src:=k) (by rw[P.size];omega) (k-l) (by omega) i;rw[show k-(k-l)=l by omega]at e;rw[OX,e];by_cases z:i=l
   ·rw[if_pos z,if_pos z,OX]
   ·rw[if_neg z,if_neg z];by_cases Z:l<i/\i<=k
    ·rw[if_pos Z,if_pos Z,OX]
    ·rw[if_neg Z,if_neg Z,OX]
  have U:Up c (bubble p k (k-l)) (k+1):=λi a=>by
   rw[at_,at_];by_cases z:i+1=l
   ·rw[if_pos z,if_neg (by omega),if_neg (by omega)];exact g i (by omega)
   ·rw[if_neg z];by_cases Z:l<i+1/\i+1<=k
    ·rw[if_pos Z];by_cases b:i=l
     ·rw[if_pos b];have:=j i (by omega) (by omega);rw[show i+1-1=i by omega];exact o.asym _ _ (P.lt H _) (P.lt H _) this
     ·rw[if_neg b,if_pos (by omega)];have:=u (i-1) (by omega)
      rwa [show i-1+1=i+1-1 by omega]at this
    ·rw[if_neg Z,if_neg (by omega),if_neg (by omega)];exact u i (by omega)
  obtain⟨B,m,q⟩:=kG o H f (bubble p k (k-l)) (k+1) d U (by omega);exact⟨gU A (by rw[E];exact B),m,q⟩
theorem oW(o:dz n c)(h:2<=n):fB n c (kas_sort n)/\fc n (aF c (kas_sort n))/\Up c (aF c (kas_sort n)) n:=by
 have P:fc n (OK (OD n)):=⟨by simp,.refl _⟩;obtain⟨A,a⟩:=JL o h P;unfold kas_sort;rw[i_];by_cases z:(aF c (kas_count n (OK (OD n)))).1<n
 ·have e:max (aF c (kas_count n (OK (OD n)))).1 1=(aF c (kas_count n (OK (OD n)))).1:=Nat.max_eq_left a.pos;obtain⟨b,B,d⟩:=kG o (by lia) (n-max (aF c (kas_count n (OK (OD n)))).1 1) _ (max (aF c (kas_count n (OK (OD n)))).1 1) a.pa (by rw[e];exact a.up) (by lia);rw[if_pos z];exact⟨gU A (by rw[if_pos z];exact b),B,d⟩
 ·rw[if_neg z];have e:(aF c (kas_count n (OK (OD n)))).1=n:=by have:=a.le;lia
  refine⟨gU A (by rw[if_neg z];trivial),a.pa,?_⟩;have:=a.up
  rwa [e]at this
end
end Py
section
set_option autoImplicit false
namespace Py
open PySem PySem.W PySem.Spec PyProof.Rows
noncomputable def ck(n:Nat)(c:Nat->Nat->Bool)(i:Nat):Nat:=((OD n).filter λj=>c j i).length
section
variable {κ:Rc}
theorem oX{c:Nat->Nat->Bool}(o:dz its.length c)(f:∀i j,i<its.length->j<its.length->its.getD i OJ=its.getD j OJ->ck its.length c i=ck its.length c j)(e:2<=its.length)(H:its.length<64)
  (b:∀i j C,i<its.length->j<its.length->C (c i j) s->kas_ask prog w A κ its i j C s) {Q:SortSt->Oz->Prop}
  (h:∀(S:SortSt) (p:List Nat),failedOf S=none->(arrOf S).map (·.2)=OK (p.map λi=>its.getD i OJ)->p.Perm (OD its.length)->p.Pairwise (λi j=>c j i=Oy)->Q S s):
  wpAny (model prog w) A ((sortRuns').run (TF κ (its.toArray.zip its.toArray) #[] 7 none)) (λr s'=>Q r.2 s') E s:=by
 obtain⟨n,q,t⟩:=oW o e;have P:(aF c (kas_sort its.length)).toList.Perm (OD its.length):=Array.perm_iff_toList_perm.mp q.perm
 have m:(aF c (kas_sort its.length)).toList.Pairwise (λi j=>c j i=Oy):=by
  rw[Px];intro i j v x d;have l:(aF c (kas_sort its.length)).size=its.length:=q.size;have g:i<(aF c (kas_sort its.length)).size:=by omega
  have k:j<(aF c (kas_sort its.length)).size:=by omega
  have:=t.le o (by omega) q (Qx d) (by omega:j<its.length);simp_all
 have a:(kas_sort its.length).kasWp (kas_ask prog w A κ its) (λp s'=>p=aF c (kas_sort its.length)/\s'=s) s:=Nu b n ⟨rfl,rfl⟩
 have R:=kat_run (E:=E) (ks:=its) rfl e H (Q:=Q)
  (λp S s' y z Z u=>by obtain⟨rfl,rfl⟩:=u;exact h S _ Z (kat_snds rfl z) P m) a
 omega
end
end Py
end
namespace Py
structure ip (P:D->Prop)(f:D->D->Bool):Prop where
 irr:∀x,P x->f x x=Oy
 asym:∀x y,P x->P y->f x y=Ox->f y x=Oy
 ntr:∀x y z,P x->P y->P z->f x y=Oy->f y z=Oy->f x z=Oy
 tot:∀x y,P x->P y->f x y=Oy->f y x=Oy->x=y
section
variable {P:D->Prop}{f:D->D->Bool}
theorem BK(o:ip P f):∀(xs:List D),(∀x∈xs,P x)->bR f xs xs=Oy
 | [],_=>rfl
 |x::xs,h=>by dsimp only[bR];rw[o.irr x (h x Zd)];exact BK o _ λy H=>h y (Zc _ H)
theorem BL(o:ip P f):∀(xs ys:List D),(∀x∈xs,P x)->(∀x∈ys,P x)->bR f xs ys=Ox->bR f ys xs=Oy
 | [],[],_,_,h=>rfl
 | [],_::_,_,_,_=>rfl
 |_::_,[],_,_,h=>by cases h
 |x::xs,y::ys,a,b,h=>by
  dsimp only[bR]at h⊢;cases e:f x y with
  |true=>rw[o.asym x y (a x Zd) (b y Zd) e];rfl
  |false=>
   rw[e]at h;cases E:f y x with
   |true=>simp_all
   |false=>rw[E]at h;exact BL o _ _ (λz H=>a z (Zc _ H)) (λz H=>b z (Zc _ H)) h
theorem lex_tot(o:ip P f):∀(xs ys:List D),(∀x∈xs,P x)->(∀x∈ys,P x)->bR f xs ys=Oy->bR f ys xs=Oy->xs=ys
 | [],[],_,_,_,_=>rfl
 | [],_::_,_,_,h,_=>by cases h
 |_::_,[],_,_,_,h=>by cases h
 |x::xs,y::ys,b,c,h,H=>by
  dsimp only[bR]at h H;cases e:f x y with
  |true=>simp_all
  |false=>
   cases E:f y x with
   |true=>simp_all
   |false=>rw[e,E]at h H;rw[o.tot x y (b x Zd) (c y Zd) e E,lex_tot o _ _ (λz a=>b z (Zc _ a)) (λz a=>c z (Zc _ a)) h H]
theorem BM(o:ip P f):∀(xs ys zs:List D),(∀x∈xs,P x)->(∀x∈ys,P x)->(∀x∈zs,P x)->bR f xs ys=Oy->bR f ys zs=Oy->bR f xs zs=Oy
 | [],[],zs,_,_,_,_,h=>h
 | [],_::_,_,_,_,_,h,_=>by cases h
 |_::_,_,[],_,_,_,_,_=>rfl
 |x::xs,[],z::zs,_,_,_,_,h=>by cases h
 |x::xs,y::ys,z::zs,g,i,j,H,a=>by
  have p:=g x Zd;have b:=i y Zd;have c:=j z Zd;simp only[bR]at H a⊢;cases e:f x y with
  |true=>simp_all
  |false=>
   cases E:f y z with
   |true=>simp_all
   |false=>
    rw[e]at H;rw[E]at a;rw[o.ntr x y z p b c e E];cases d:f z x with
    |true=>rfl
    |false=>rw[o.ntr y z x b c p E d]at H;rw[o.ntr z x y c p b d e]at a;exact BM o _ _ _ (λw hw=>g w (Zc _ hw)) (λw hw=>i w (Zc _ hw)) (λw hw=>j w (Zc _ hw)) H a
end
theorem dj(h:az .int d=Ox):∃i,d=.int i:=by cases d<;>first|lia| (simp[az]at h)
theorem dA{t:e_}(h:az (.seq t) d=Ox):∃xs,d=.tup xs/\∀x∈xs,az t x=Ox:=by
 cases d with
 |tup xs=>exact⟨_,rfl,λx H=>Zp.mp h x H⟩
 |_=>simp[az]at h
theorem gX:∀(t:e_),cb t=Ox->ip (λd=>az t d=Ox) (b4 t)
 | .int,_=>by
  refine⟨λx h=>?_,λx y H a h=>?_,λx y z H a f b c=>?_,λx y H a b c=>?_⟩
  ·obtain⟨i,rfl⟩:=dj h;simp[b4]
  ·obtain⟨i,rfl⟩:=dj H;obtain⟨j,rfl⟩:=dj a;simp[b4]at h⊢;lia
  ·obtain⟨i,rfl⟩:=dj H;obtain⟨j,rfl⟩:=dj a;obtain⟨k,rfl⟩:=dj f;simp[b4]at b c⊢;lia
  ·obtain⟨i,rfl⟩:=dj H;obtain⟨j,rfl⟩:=dj a;simp[b4]at b c;grind
 | .seq t,h=>by
  have o:=gX t h;refine⟨λx h=>?_,λx y H a h=>?_,λx y z H a f b c=>?_,λx y H a b c=>?_⟩
  ·obtain⟨X,rfl,k⟩:=dA h;exact BK o X k
  ·obtain⟨X,rfl,K⟩:=dA H;obtain⟨Y,rfl,e⟩:=dA a;exact BL o X Y K e h
  ·obtain⟨X,rfl,K⟩:=dA H;obtain⟨Y,rfl,e⟩:=dA a;obtain⟨Z,rfl,g⟩:=dA f;exact BM o X Y Z K e g b c
  ·obtain⟨X,rfl,K⟩:=dA H;obtain⟨Y,rfl,e⟩:=dA a;exact congrArg D.tup (lex_tot o X Y K e b c)
noncomputable def eh(t:e_)(d e:D):Bool:= !b4 t d e&& !b4 t e d
theorem JM{t:e_}(hs:cb t=Ox){e:D}(h1:az t d=Ox)(H:az t e=Ox)(h:eh t d e=Ox):d=e:=by unfold eh at h;simp at h;exact(gX t hs).tot d e h1 H h.1 h.2
theorem oY{f:D->D->Bool}{x y:D}{ys:List D}:bR f (x::xs) (y::ys)=if f x y=Ox then Ox else if f y x=Ox then Oy else bR f xs ys:=rfl
theorem BN{t:e_}(hs:cb t=Ox):∀(xs ys:List D),(∀x∈xs,az t x=Ox)->(∀x∈ys,az t x=Ox)->eh (.seq t) (.tup xs) (.tup ys)=((OC (eh t) xs ys).all id&&xs.length==ys.length)
 | [],[],_,_=>rfl
 | [],y::ys,_,_=>rfl
 |x::xs,[],_,_=>rfl
 |x::xs,y::ys,h,H=>by
  have i:=BN hs _ _ (λw hw=>h w (Zc _ hw)) λw hw=>H w (Zc _ hw);cases e:b4 t x y with
  |true=>simp[eh,b4,bR,e]
  |false=>
   cases E:b4 t y x with
   |true=>simp[eh,b4,bR,E]
   |false=>
    have a:eh t x y=Ox:=by simp[eh,e,E]
    have b:eh (.seq t) (.tup (x::xs)) (.tup (y::ys))=eh (.seq t) (.tup xs) (.tup ys):=by show(!bR _ _ _&& !bR _ _ _)=(!bR _ _ _&& !bR _ _ _);rw[oY,oY,e,E];rfl
    simp_all
theorem allO_map(f:D->D->Bool):∀(xs ys:List D) (g:D->D->Option Bool),(∀x∈xs,∀y∈ys,g x y=some (f x y))->bo (OC g xs ys)=some ((OC f xs ys).all id)
 | [],_,_,_=>rfl
 |_::_,[],_,_=>rfl
 |x::xs,y::ys,g,h=>by
  have i:=allO_map f xs ys g λa H b d=>h a (Zc _ H) b (Zc _ d)
  show(match g x y,bo (OC g xs ys)with
   |some b,some c=>some (b&&c)
   |_,_=>none)=_
  rw[h x Zd y Zd,i];rfl
theorem BO{t:e_}(hs:cb t=Ox){eq lt:D->D->Option Bool}:∀(xs ys:List D),(∀x∈xs,az t x=Ox)->(∀x∈ys,az t x=Ox)->(∀x∈xs,∀y∈ys,eq x y=some (eh t x y)/\lt x y=some (b4 t x y))->yp eq lt xs ys=some (bR (b4 t) xs ys)
 | [],[],_,_,_=>rfl
 | [],_::_,_,_,_=>rfl
 |_::_,[],_,_,_=>rfl
 |x::xs,y::ys,H,d,h=>by
  have i:=BO hs xs ys (λw hw=>H w (Zc _ hw)) (λw hw=>d w (Zc _ hw)) λa f b g=>h a (Zc _ f) b (Zc _ g);obtain⟨K,k⟩:=h x Zd y Zd;have p:=H x Zd;have P:=d y Zd;unfold yp;rw[K,oY];cases e:b4 t x y with
  |true=>
   have E:eh t x y=Oy:=by simp[eh,e]
   rw[E];show lt x y=_;rw[k,e];rfl
  |false=>
   cases c:b4 t y x with
   |true=>
    have E:eh t x y=Oy:=by simp[eh,e,c]
    rw[E];show lt x y=_;rw[k,e];rfl
   |false=>
    have E:eh t x y=Ox:=by simp[eh,e,c]
    rw[E];exact i
theorem JN(S:af):∀(t:e_),cb t=Ox->∀n,cT t<=n->∀d e,az t d=Ox->az t e=Ox->bY S n d e=some (eh t d e)/\jJ S n d e=some (b4 t d e)
 | .int,_,0,h,_,_,_,_=>by simp[cT]at h
 | .int,_,n+1,_,d,e,a,b=>by obtain⟨i,rfl⟩:=dj a;obtain⟨j,rfl⟩:=dj b;refine⟨?_,rfl⟩;show some (i==j)=some (!decide (i<j)&& !decide (j<i));congr 1;lia
 | .seq t,H,0,h,_,_,_,_=>by simp[cT]at h
 | .seq t,H,n+1,h,d,e,a,b=>by obtain⟨X,rfl,k⟩:=dA a;obtain⟨Y,rfl,K⟩:=dA b;have I:=JN S t H n (by simpa[cT]using h);refine⟨?_,BO (t:=t) H X Y k K λx c y f=>I x y (k x c) (K y f)⟩;show(bo (OC (bY S n) X Y)).map (· &&X.length==Y.length)=_;simp only[allO_map (eh t) X Y _ λx c y f=>(I x y (k x c) (K y f)).1,BN (t:=t) H X Y k K];rfl
theorem oZ(f:D->D->Bool)(x:D):∀l,(ej f x l).Perm (x::l)
 | []=>.refl _
 |y::Y=>by
  unfold ej;split
  ·exact .refl _
  ·exact((oZ f x _).cons y).trans (.swap _ _ _)
theorem vt(f:D->D->Bool)(xs:List D):(fg f xs).Perm xs:=by
 have k:∀(xs a:List D),(xs.foldl (λa x=>ej f x a) a).Perm (a++xs):=by
  intro xs
  induction xs with
  |nil=>simp_all
  |cons x xs i=>intro a;exact(i _).trans (((oZ f x _).append_right _).trans QG.symm)
 simpa[fg]using k _ []
theorem BP{P:D->Prop}{f:D->D->Bool}(o:ip P f)(x:D)(p:P x):∀l,(∀y∈l,P y)->l.Pairwise (λa b=>f b a=Oy)->(ej f x l).Pairwise (λa b=>f b a=Oy)
 | [],_,_=>by simp[ej]
 |y::j,d,h=>by
  simp[ej];have e:=d y Zd;obtain⟨g,i⟩:=Z5.mp h;split
  ·rename_i c;refine Z5.mpr ⟨λz H=>?_,h⟩;have Y:=o.asym x y p e c;rcases Zh.mp H with rfl|H
   ·exact Y
   ·exact o.ntr z y x (d z (Zc _ H)) e p (g z H) Y
  ·refine Z5.mpr ⟨λz H=>?_,BP o x p _ (λw hw=>d w (Zc _ hw)) i⟩;rcases Zh.mp ((oZ f x _).mem_iff.mp H)with rfl|H
   ·simp_all
   simp_all
theorem BQ{P:D->Prop}{f:D->D->Bool}(o:ip P f)(xs:List D)(e:∀x∈xs,P x):(fg f xs).Pairwise (λa b=>f b a=Oy):=by
 have k:∀(xs A:List D),(∀x∈xs,P x)->(∀x∈A,P x)->A.Pairwise (λa b=>f b a=Oy)->(xs.foldl (λA x=>ej f x A) A).Pairwise λa b=>f b a=Oy:=by
  intro xs
  induction xs with
  |nil=>intro A _ _ h;exact h
  |cons x xs i=>
   intro A c d h;have p:=c x Zd;refine i _ (λy H=>c y (Zc _ H)) (λy H=>?_) (BP o x p _ d h);rcases Zh.mp ((oZ f x _).mem_iff.mp H)with rfl|H
   ·exact p
   simp_all
 exact k _ _ e (by simp) .nil
theorem BR{t:e_}(hs:cb t=Ox){ys:List D}(h:∀x∈xs,az t x=Ox)(p:ys.Perm xs)(s:ys.Pairwise (λa b=>b4 t b a=Oy)):ys=fg (b4 t) xs:=by have o:=gX t hs;exact Sl (λa b d e H c=>o.tot a b (h a (p.mem_iff.mp d)) (h b ((vt _ _).mem_iff.mp e)) c H) s (BQ o _ h) (p.trans (vt _ _).symm)
open PySem PySem.W PySem.Spec PyProof.Rows
def jb(its:Lv)(c:Nat->Nat->Bool)(out:Lv):Prop:=∃p:List Nat,out=p.map (λi=>its.getD i OJ)/\p.Perm (OD its.length)/\p.Pairwise (λi j=>c j i=Oy)
theorem BS{V:Nat}{c:Nat->Nat->Bool}{P:PySem.Fin->Oz->Prop}(B:s.heap.get? a=some (seqObj "list" its.toArray V))(D:its.length<64)
  (I:2<=its.length->∃κ:Rc,dz its.length c/\(∀i j,i<its.length->j<its.length->its.getD i OJ=its.getD j OJ->ck its.length c i=ck its.length c j)/\∀h':OI,(∀b o,b≠a->s.heap.get? b=some o->h'.get? b=some o)->
   (∀(J:Rc->Oz->Prop),J κ {s with heap:=h'}->wpAny (model prog w) A (keyKind' its.toArray) J E {s with heap:=h'})/\
   ∀i j C,i<its.length->j<its.length->C (c i j) {s with heap:=h'}->kas_ask prog w A κ its i j C {s with heap:=h'})
  (M:∀h' q out,(∀b o,b≠a->s.heap.get? b=some o->h'.get? b=some o)->h'.get? a=some (seqObj "list" (OK out) q)->jb its c out->P (.done (.ret .none)) {s with heap:=h'}):
  wpAny (model prog w) A (PF.«list.sort» ⟨[.ref a],[]⟩) P E s:=by
 have l:its.length<=sizeLine:=by rw[Qj];omega
 have Y:a<s.heap.objs.size:=Zm B;have W:=Z9 s.heap a (O4 λ_=>(#[]:Av));obtain⟨u,x⟩:∃u,(s.heap.update a (O4 λ_=>(#[]:Av))).get? a=some (seqObj "list" #[] u):=⟨_,get?_update_seq B λ_=> #[]⟩
 have k:∀b o,b≠a->s.heap.get? b=some o->(((s.heap.update a (O4 λ_=>(#[]:Av))).push (seqObj "tuple" its.toArray 0)).push (seqObj "list" #[] 0)).get? b=some o:=λb o z e=>
  Zb _ (Zb _ ((W.2 b z).trans e))
 have m:(((s.heap.update a (O4 λ_=>(#[]:Av))).push (seqObj "tuple" its.toArray 0)).push (seqObj "list" #[] 0)).get? a=some (seqObj "list" #[] u):=Zb _ (Zb _ x);rw[list_sort_plain];refine Za (listItems_at B rfl ?_);refine Za (listUpdate_at B rfl ?_ (by rw[Zu];exact l) (ZY _));refine Za (seqEpoch_at x rfl ?_);refine Za (wpAny_newTuple ?_ (by show its.length<=_;exact l));refine Za (TX ?_ (ZY _));refine ZL ?_;show wpAny (model prog w) A _ P E {s with heap:=((s.heap.update a (O4 λ_=>(#[]:Av))).push (seqObj "tuple" its.toArray 0)).push (seqObj "list" #[] 0)};generalize((s.heap.update a (O4 λ_=>(#[]:Av))).push (seqObj "tuple" its.toArray 0)).push (seqObj "list" #[] 0)=g at*
 have fin:∀(S:SortSt) (out:Lv),(arrOf S).map (·.2)=OK out->failedOf S=none->out.length=its.length->jb its c out->
   wpAny (model prog w) A (do
    let t:=(<-seqEpoch a) !=u
    Se (.ref a) λ_=>(arrOf S).map (·.2)
    if let some e:=failedOf S then rule "list.sort.comparison-raised";throw e
    if t then rule "list.sort.modified";raiseError "ValueError" "list modified during sort"
    ret .none) P E {s with heap:=g}:=by
  intro S out H v d F;have X:=Z9 g a (O4 λ_=>OK out);obtain⟨q,G⟩:∃q,(g.update a (O4 λ_=>OK out)).get? a=some (seqObj "list" (OK out) q):=⟨_,get?_update_seq m λ_=>OK out⟩;rw[H];refine Za (seqEpoch_at m rfl ?_);refine Za (listUpdate_at m rfl ?_ (ZY _) (by rw[Zu,d];exact Ux l));rw[v];simp only[bne_self_eq_false,Zw,Z3];exact Ze (M _ q out (λb o z e=>(X.2 b z).trans (k b o z e)) G F)
 by_cases n:2<=its.length
 ·have f:¬its.toArray.size<2:=by rw[Zu];omega
  rw[if_neg f,if_neg f];obtain⟨κ,o,y,I⟩:=I n;obtain⟨T,U⟩:=I g k;refine Za (T _ ?_)
  have R:=oX (E:=E) o y n D U (Q:=λS L=>L={s with heap:=g}/\failedOf S=none/\∃out:Lv,(arrOf S).map (·.2)=OK out/\out.length=its.length/\jb its c out)
   (λS p v H K O=>⟨rfl,v,_,H,by rw[Zn,K.length_eq,List.length_range],p,rfl,K,O⟩)
  refine Za (O0 R (λr L N=>?_) λ_ _ e=>e);obtain⟨⟨⟩,S⟩:=r;obtain⟨rfl,v,out,H,d,F⟩:=N;exact fin S _ H v d F
 ·have f:its.toArray.size<2:=by rw[Zu];omega
  rw[if_pos f,if_pos f];refine Za (Ze ?_)
  show wpAny (model prog w) A (do
    let t:=(<-seqEpoch a) !=u
    Se (.ref a) λ_=>(arrOf (TF general' (its.toArray.zip its.toArray) #[] 7 none)).map (·.2)
    if let some e:=failedOf (TF general' (its.toArray.zip its.toArray) #[] 7 none)then rule "list.sort.comparison-raised";throw e
    if t then rule "list.sort.modified";raiseError "ValueError" "list modified during sort"
    ret .none) P E {s with heap:=g}
  refine fin _ its ?_ rfl rfl ⟨OD its.length,?_,.refl _,?_⟩
  ·show(its.toArray.zip its.toArray).map (·.2)=its.toArray;apply Array.toList_inj.mp;rw[Array.toList_map,Array.toList_zip];exact List.map_snd_zip (Zf _)
  ·refine Rh (by simp) λi g n=>?_;simp[g]
  ·match its,n with
   | [],_=>simp
   | [_],_=>simp
   |_::_::_,n=>simp at n
end Py
namespace Py
open PySem PySem.W PySem.Spec PyProof.Rows L2
theorem JO{b:Bool}{l:OA}{c:Nat->Nat->Bool}{Q:Vs}(x:cg b s.heap l its.toArray)(g:its.length<64)
  (r:2<=its.length->∃κ:Rc,dz its.length c/\(∀i j,i<its.length->j<its.length->its.getD i OJ=its.getD j OJ->ck its.length c i=ck its.length c j)/\∀h':OI,(∀b o,s.heap.get? b=some o->h'.get? b=some o)->
   (∀(E':Vs) (u:Rc->Oz->Prop),u κ {s with heap:=h'}->wpAny (model prog w) A.in1.in1 (keyKind' its.toArray) u E' {s with heap:=h'})/\
   ∀i j C,i<its.length->j<its.length->C (c i j) {s with heap:=h'}->kas_ask prog w A.in1.in1 κ its i j C {s with heap:=h'})
  (z:∀(h1 h':OI) f out,(∀b o,s.heap.get? b=some o->h1.get? b=some o)->(∀b o,h1.get? b=some o->h'.get? b=some o)->h'.get? h1.objs.size=some (seqObj "list" (OK out) f)->jb its c out->Q (.ref h1.objs.size) {s with heap:=h'}):
  wpAny (model prog w) A (call (.builtin "sorted") [.ref l]) Q E s:=by
 refine SH kind_sorted plain_sorted entry_sorted (args_sorted1 _) ?_;unfold PF.«sorted»;refine Za (m:=checkCount "sorted" 1 1 _) (Ze ?_);have H:its.length<=sizeLine:=by rw[Qj];omega
 have d:its.toArray.size<=sizeLine:=by rw[Zu];exact H
 have G:∀h1:OI,(∀b o,s.heap.get? b=some o->h1.get? b=some o)->wpAny (model prog w) A.in1 (do
   let l <-newList its
   let _ <-holding [l] (call (.builtin "list.sort") [l])
   ret l) (λfin F=>∃v,fin=.done (.ret v)/\Q v F) E {s with heap:=h1}:=by
  intro h1 k;refine Za (TX ?_ H);have a:(h1.push (seqObj "list" its.toArray 0)).get? h1.objs.size=some (seqObj "list" its.toArray 0):=Zi _ rfl;refine Za (ZL (ZO slot_list_sort ⟨_,a,rfl⟩ entry_list_sort ?body (args_list_sort _)))
  case body=>
   refine BS (c:=c) (s:={s with heap:=h1.push (seqObj "list" its.toArray 0)}) a g (λy=>?_) λh' f out K e O=>?_
   ·obtain⟨κ,o,S,r⟩:=r y;refine⟨κ,o,S,λh' K=>?_⟩;obtain⟨B,D⟩:=r h' λb o e=>K b o (Zz (Zm (k b o e))) (Zb _ (k b o e));exact⟨B _,D⟩
   ·exact⟨_,rfl,Ze ⟨_,rfl,z h1 h' f out k (λb o e=>K b o (Zz (Zm e)) (Zb _ e)) e O⟩⟩
 cases b with
 |true=>obtain⟨o,t,p,n,q⟩:=x;exact Za (wpAny_collect_seq l (.inl rfl) t p q (λh1 k=>by simpa using G h1 k) d)
 |false=>obtain⟨o,t,p,n,q⟩:=x;exact Za (wpAny_collect_seq l (.inr rfl) t p q (λh1 k=>by simpa using G h1 k) d)
theorem JP(I:Inv X pq σ H s)(a:aK X.K ⟨X.mg,F⟩ μ S H){t:e_}(hs:cb t=Ox)(i:cT t<=40)(h:A.units+40<cLine){e:D}{b:V}{z:OB}(h1:az t d=Ox)(g:az t e=Ox)
  (r:Rep X.K ⟨X.mg,F⟩ μ H d v) (q:RelV v u) (R:Rep X.K ⟨X.mg,F⟩ μ H e b) (Q:RelV b z):PySem.SeqAt.EqAt A s u z (eh t d e)/\ie A s u z (b4 t d e):=by
 obtain⟨c,f⟩:=JN S t hs _ i d e h1 g;exact⟨(yo I a _ A h d e v _ u z _ r q R Q c).2.2,j3 I a _ A h d e v _ u z _ r q R Q f⟩
theorem BU{prog:OF}{w:ON}{A:Pf}{Q:Bool->Oz->Prop}{t:e_}{b:Bool}(g:b=Ox->t=.int):∀(ds es:List D) (us zs:Lv) (i:Nat),(∀d∈ds,az t d=Ox)->(∀e∈es,az t e=Ox)->ds.length=us.length->es.length=zs.length->
  (∀(j:Nat) d e u z,ds[j]?=some d->es[j]?=some e->us[j]?=some u->zs[j]?=some z->PySem.SeqAt.EqAt A s u z (eh t d e)/\ie A s u z (b4 t d e)/\(t=.int->∃a b ta tb,d=.int a/\e=.int b/\u=.int a ta/\z=.int b tb))->
  Q (bR (b4 t) ds es) s->KatLex prog w A b (decide (us.length<zs.length)) Q (us.zip zs) i s
 | [],[],us,zs,i,_,_,l1,l2,_,q=>by have E:us=[]:=ZP l1.symm;have f:zs=[]:=ZP l2.symm;subst E;subst f;exact kat_nil q
 | [],e::es,us,zs,i,_,_,l1,l2,_,q=>by
  have E:us=[]:=ZP l1.symm;subst E;have:decide (([]:Lv).length<zs.length)=Ox:=by simp at l2⊢;omega
  rw[this,Q4];exact kat_nil q
 |d::ds,[],us,zs,i,_,_,l1,l2,_,q=>by
  have E:zs=[]:=ZP l2.symm;subst E;have:decide (us.length<([]:Lv).length)=Oy:=by simp
  rw[this,RW];exact kat_nil q
 |d::ds,e::es,[],zs,i,_,_,l1,_,_,_=>by simp at l1
 |d::ds,e::es,_::_,[],i,_,_,_,l2,_,_=>by simp at l2
 |d::ds,e::es,u::us,z::zs,i,I,J,l1,l2,h,q=>by
  obtain⟨L,M,N⟩:=h 0 d e u z rfl rfl rfl rfl;have G:decide ((u::us).length<(z::zs).length)=decide (us.length<zs.length):=by simp
  rw[G,Z4];refine kat_cons (L prog w _ _ ?_);rw[oY]at q
  have n:∀{k:Bool},b4 t d e=k->eh t d e=Oy->Q k s->KatGo prog w A b (decide (us.length<zs.length)) Q u z (us.zip zs) i Oy s:=λ{k} m _ o=>by
   clear q;refine kat_no ?_;cases H:(b&&i==0)with
   |false=>exact kat_one u z (M prog w _ _ (by rw[m];exact o))
   |true=>simp only[ZG]at H;obtain⟨a,B,ta,tb,rfl,rfl,rfl,rfl⟩:=N (g H.1);have K:=g H.1;subst K;exact oneLt_int (by rw[show decide (a<B)=k from m];exact o)
  cases E:b4 t d e with
  |true=>
   have c:eh t d e=Oy:=by simp[eh,E]
   rw[E]at q;rw[c];exact n E c (by simpa using q)
  |false=>
   cases f:b4 t e d with
   |true=>
    have c:eh t d e=Oy:=by simp[eh,E,f]
    rw[E,f]at q;rw[c];exact n E c (by simpa using q)
   |false=>
    have c:eh t d e=Ox:=by simp[eh,E,f]
    rw[E,f]at q;rw[c];refine kat_yes (BU g ds es us zs (i+1) (λx l=>I x (Zc _ l)) (λx l=>J x (Zc _ l)) (by simpa using l1) (by simpa using l2) (λj C F U Z p r v y=>h (j+1) C F U Z p r v y) (by simpa using q))
end Py
namespace Py
open PySem PySem.W PySem.Spec PyProof.Rows L2
end Py
namespace Py
open PySem PySem.W PySem.Spec PyProof.Rows L2
noncomputable def jc:e_->String
 | .int=>"int"
 |_=>"tuple"
theorem kH(I:Inv X pq σ H s){t:e_}(hs:cb t=Ox)(h:az t d=Ox)(r:Rep X.K ⟨X.mg,F⟩ μ H d v)(q:RelV v u):Looks (model X.prog X.w) s.heap (typeOf u) (.type (jc t)):=by
 have tup:∀x,d=.tup x->Looks (model X.prog X.w) s.heap (typeOf u) (.type "tuple"):=by
  rintro x rfl;obtain⟨a,vs,rfl,c,_⟩:=bQ r;subst q;obtain⟨e,_,p,_⟩:=I.tuple c;obtain⟨o,b,f,_⟩:=p;have:=show Looks (model X.prog X.w) _ (typeOf (.ref a)) _ from(Looks.ld b).andThen .now
  simp_all
 cases t with
 |int=>obtain⟨i,rfl⟩:=dj h;cases aH r;obtain⟨T,rfl⟩:=q;exact(show Looks _ _ _ _ from .now)
 |seq t=>obtain⟨x,rfl,_⟩:=dA h;exact tup _ rfl
theorem BV(I:Inv X pq σ H s){t:e_}(hs:cb t=Ox):∀(ys:List D) (vs:List V) (its:Lv),(∀d∈ys,az (.seq t) d=Ox/\d≠.tup [])->aj X.K ⟨X.mg,F⟩ μ H ys vs->Vals vs its->
  ∃fs,KatTups s.heap its fs/\fs.length=its.length/\∀f∈fs,Looks (model X.prog X.w) s.heap (typeOf f) (.type (jc t))
 | [],vs,its,_,r,q=>by subst r;cases q;exact⟨_,KatTups.nil,rfl,λ_ h=>nomatch h⟩
 |d::ys,vs,its,h,r,q=>by
  obtain⟨v,O,rfl,A,B⟩:=r.uncons;cases q with
  |cons Q z=>
   obtain⟨fs,K,J,L⟩:=BV I hs _ _ _ (λe l=>h e (Zc _ l)) B z;obtain⟨i,G⟩:=h d Zd;obtain⟨c,rfl,y⟩:=dA i;cases c with
   |nil=>simp_all
   |cons x c=>
    obtain⟨a,as,rfl,u,R⟩:=bQ A;cases Q;obtain⟨N,C,p,_⟩:=I.tuple u;obtain⟨w,W,rfl,E,_⟩:=R.uncons;cases C with
    |cons P M=>
     rename_i f U;obtain⟨o,m,j,n,k⟩:=p;refine⟨f::fs,KatTups.cons m j k (by simp) K,by simp_all,λg b=>?_⟩;rcases Zh.mp b with rfl|b
     ·exact kH I hs (y x Zd) E P
     simp_all
theorem JQ(I:Inv X pq σ H s)(sk:aK X.K ⟨X.mg,F⟩ μ S H){t:e_}(hs:cb t=Ox)(hd:cT t<=40)(hu:A.units+42<cLine){e:D}{y:V}{z:OB}(h1:az (.seq t) d=Ox)(h2:az (.seq t) e=Ox)
  (r1:Rep X.K ⟨X.mg,F⟩ μ H d v) (q1:RelV v u) (r2:Rep X.K ⟨X.mg,F⟩ μ H e y) (q2:RelV y z) {C:Bool->Oz->Prop}  (hC:C (b4 (.seq t) d e) s):wpAny (model X.prog X.w) A (keyLt' (tuples' (O3 (jc t) !=O3 "tuple")) u z) C E s:=by
 obtain⟨B,rfl,c⟩:=dA h1;obtain⟨Y,rfl,f⟩:=dA h2;obtain⟨a,as,rfl,ha,r⟩:=bQ r1;obtain⟨b,bs,rfl,h,R⟩:=bQ r2;cases q1;cases q2;obtain⟨U,q,pa,_⟩:=I.tuple ha;obtain⟨Z,x,pb,_⟩:=I.tuple h;obtain⟨oa,T,_,na,M⟩:=pa;obtain⟨ob,W,_,nb,N⟩:=pb;refine kat_lt T M W N ?_;have l1:B.length=U.length:=by rw[r.length,q.length]
 have l2:Y.length=Z.length:=by rw[R.length,x.length]
 have:=BU (prog:=X.prog) (w:=X.w) (A:=A) (s:=s) (Q:=C) (t:=t) (b:=(O3 (jc t) !=O3 "tuple")) (λh=>?_) B Y U Z 0 c f l1 l2 (λj d e u z g G g3 g4=>?_) hC
 ·simpa using this
 ·cases t with
  |int=>rfl
  |seq t=>exact absurd h (by show ¬((O3 "tuple" !=O3 "tuple")=Ox);decide)
 ·obtain⟨w1,O,K⟩:=r.get g;obtain⟨w2,P,m⟩:=R.get G;obtain⟨u',k,n⟩:=q.get O;obtain⟨z',l,o⟩:=x.get P;rw[g3]at k;cases k;rw[g4]at l;cases l;obtain⟨J,L⟩:=JP I sk hs hd (A:=A) (by omega) (c d (Zx g)) (f e (Zx G)) K n m o;refine⟨J,L,λht=>?_⟩;subst ht;obtain⟨i,rfl⟩:=dj (c d (Zx g));obtain⟨j,rfl⟩:=dj (f e (Zx G));cases aH K;cases aH m;obtain⟨ta,rfl⟩:=n;obtain⟨tb,rfl⟩:=o;exact⟨i,j,ta,tb,rfl,rfl,rfl,rfl⟩
section
variable {t:e_}{ys:List D}{vs:List V}
theorem kI(h:gL t ys=Ox):cb t=Ox:=by
 cases t with
 |int=>rfl
 |seq t=>unfold gL at h;simp only[ZG]at h;exact h.1
theorem Nv(h:∀y∈ys,az t y=Ox)(r:aj X.K ⟨X.mg,F⟩ μ H ys vs)(b:Vals vs its):∀i,i<its.length->∃d v u,ys[i]?=some d/\vs[i]?=some v/\its[i]?=some u/\az t d=Ox/\Rep X.K ⟨X.mg,F⟩ μ H d v/\RelV v u/\ys.getD i .non=d/\its.getD i OJ=u:=λi c=>by have l1:ys.length=vs.length:=r.length;have l2:vs.length=its.length:=b.length;have e:ys[i]?=some ys[i]:=Zj (by omega);obtain⟨v,E,k⟩:=r.get e;obtain⟨u,a,K⟩:=b.get E;exact⟨_,v,u,e,E,a,h _ (QH _),k,K,by simp[List.getD,e],by simp[List.getD,a]⟩
theorem BW(I:Inv X pq σ H s)(sk:aK X.K ⟨X.mg,F⟩ μ S H)(hu:X.A.units+64<cLine)(O:cT t<=40)(n:∀y∈ys,az t y=Ox)(A:gL t ys=Ox)(rr:aj X.K ⟨X.mg,F⟩ μ H ys vs)(hv:Vals vs its)(h2:2<=its.length):
  ∃κ:Rc,dz its.length (λi j=>b4 t (ys.getD i .non) (ys.getD j .non))/\(∀i j,i<its.length->j<its.length->its.getD i OJ=its.getD j OJ->ck its.length (λi j=>b4 t (ys.getD i .non) (ys.getD j .non)) i=ck its.length (λi j=>b4 t (ys.getD i .non) (ys.getD j .non)) j)/\∀h':OI,(∀b o,s.heap.get? b=some o->h'.get? b=some o)->
   (∀(E':Vs) (W:Rc->Oz->Prop),W κ {s with heap:=h'}->wpAny (model X.prog X.w) X.A.in1.in1 (keyKind' its.toArray) W E' {s with heap:=h'})/\
   ∀i j C,i<its.length->j<its.length->C (b4 t (ys.getD i .non) (ys.getD j .non)) {s with heap:=h'}->kas_ask X.prog X.w X.A.in1.in1 κ its i j C {s with heap:=h'}:=by
 have Q:cb t=Ox:=kI A;have lo:=gX t Q;have at_:=Nv n rr hv
 have V:dz its.length (λi j=>b4 t (ys.getD i .non) (ys.getD j .non)):=by
  have ty:∀i,i<its.length->az t (ys.getD i .non)=Ox:=λi a=>by obtain⟨d,v,u,Z,e2,E,k1,k2,k3,k4,k5⟩:=at_ i a;rw[k4];exact k1
  exact⟨λi a=>lo.irr _ (ty i a),λi j a l=>lo.asym _ _ (ty i a) (ty j l),λi j k a l hk=>lo.ntr _ _ _ (ty i a) (ty j l) (ty k hk)⟩
 have p:∀i j,i<its.length->j<its.length->its.getD i OJ=its.getD j OJ->ck its.length (λi j=>b4 t (ys.getD i .non) (ys.getD j .non)) i=ck its.length (λi j=>b4 t (ys.getD i .non) (ys.getD j .non)) j:=λi j a l P=>by obtain⟨d,v,u,Z,e2,E,m,r,w,B,D⟩:=at_ i a;obtain⟨Y,v',u',K,L,M,g,G,c,e,f⟩:=at_ j l;rw[D,f]at P;subst P;have ev:v=v':=w.inj c;subst ev;have:=zC I sk 40 d Y v _ r G (JN S t Q 40 O d Y m g).1;have hde:=JM Q m g this;subst hde;unfold ck;simp only[B,e]
 have hu2:(X.A.in1.in1).units+42<cLine:=by show X.A.units+1+1+42<cLine;omega
 cases t with
 |int=>
  refine⟨oneType',V,p,λh' kp=>⟨λE' W q=>?_,λi j C a l N=>?_⟩⟩
  ·have J:Inv X pq σ H {s with heap:=h'}:=I.kept (t':=s.toks) kp;refine kas_kind (T:=.type "int") h2 (λu hu=>?_) (by decide) (by decide) q;obtain⟨i,a,rfl⟩:=ZU.mp hu;obtain⟨d,v,u,Z,e2,E,m,r,w,B,D⟩:=at_ i a;rw[Zj a]at E;cases E;exact kH (t:=.int) J rfl m r w
  ·obtain⟨d,v,u,Z,e2,E,m,r,w,B,D⟩:=at_ i a;obtain⟨Y,v',u',K,L,M,g,G,c,e,f⟩:=at_ j l;unfold kas_ask;rw[D,f];rw[B,e]at N;obtain⟨x,rfl⟩:=dj m;obtain⟨y,rfl⟩:=dj g;cases aH r;cases aH G;obtain⟨ta,rfl⟩:=w;obtain⟨tb,rfl⟩:=c;exact kat_lt_int N
 |seq t=>
  unfold gL at A;have R:=(QI.mp A).2;have U:=R
  have hne:∀y∈ys,az (.seq t) y=Ox/\y≠.tup []:=λy hy=>⟨n y hy,λz=>by have:=Zp.mp U y hy;rw[z]at this;cases this⟩;refine⟨tuples' (O3 (jc t) !=O3 "tuple"),V,p,λh' kp=>⟨λE' W q=>?_,λi j C a l N=>?_⟩⟩
  ·have J:Inv X pq σ H {s with heap:=h'}:=I.kept (t':=s.toks) kp;obtain⟨fs,f1,f2,f3⟩:=BV (t:=t) J Q ys vs its hne rr hv;exact kat_kind (T:=.type (jc t)) f1 (by omega) f3 (by simp) q
  ·have J:Inv X pq σ H {s with heap:=h'}:=I.kept (t':=s.toks) kp;obtain⟨d,v,u,Z,e2,E,m,r,w,B,D⟩:=at_ i a;obtain⟨Y,v',u',K,L,M,g,G,c,e,f⟩:=at_ j l;unfold kas_ask;rw[D,f];rw[B,e]at N;exact JQ (t:=t) J sk Q (by simp[cT]at O;omega) hu2 m g r w G c N
theorem BX(b:gL t ys=Ox)(a:∀y∈ys,az t y=Ox)(r:aj X.K ⟨X.mg,F⟩ μ H ys vs)(f:Vals vs its){out:Lv}(O:jb its (λi j=>b4 t (ys.getD i .non) (ys.getD j .non)) out):∃ws,ws.length=its.length/\aj X.K ⟨X.mg,F⟩ μ H (fg (b4 t) ys) ws/\Vals ws out:=by
 have at_:=Nv a r f;have l1:ys.length=vs.length:=r.length;have l2:vs.length=its.length:=f.length;obtain⟨p,rfl,P,n⟩:=O;have m:∀i∈p,i<its.length:=λi o=>by grind
 have e:p.length=its.length:=by rw[P.length_eq];simp
 have fin:aj X.K ⟨X.mg,F⟩ μ H (p.map λi=>ys.getD i .non) (p.map λi=>vs.getD i .non):=aj.of (by simp) λj d v g c=>by
  grind
 have fin2:=by
  have:∀(l:List Nat),(∀i∈l,i<its.length)->Vals (l.map λi=>vs.getD i .non) (l.map λi=>its.getD i OJ):=by
   intro l
   induction l with
   |nil=>exact λ_=>.nil
   |cons i l I=>intro h;refine .cons ?_ (I λj k=>h j (Zc _ k));simp_all
  exact this p m
 have s:(p.map λi=>ys.getD i .non)=fg (b4 t) ys:=by
  refine BR (kI b) a ?_ ?_
  ·have:=P.map λi=>ys.getD i .non;refine this.trans (.of_eq ?_);refine Rh (by grind) λi g c=>?_;simp[c]
  ·rw[Qw];exact n
 grind
end
theorem JR(V:X.A.units+64<cLine)(box:Bool)(t:e_)(A:cT t<=40):bn X (.builtin "sorted") (rC X.K X.mg (kb box t)):=by
 intro P s E H xs us Q I r h;obtain⟨F,μ,S,ds,z,rl,w⟩:=h;unfold kb at w;split at w
 ·rename_i d;obtain⟨v,rfl,rd⟩:=rl.one;obtain⟨u,rfl,ru⟩:=vals1 r;split at w
  ·rename_i Y e;split at w
   ·rename_i T;obtain⟨B,N,o⟩:=T;have g:∀y∈Y,az t y=Ox:=λy W=>Zp.mp B y W;obtain⟨a,vs,rfl,n,R⟩:=f6 z rd e;cases ru
    obtain⟨b,f,U,x⟩:∃b f,cg b s.heap a (OK f)/\Vals vs f:=by
     rcases n with n|n
     ·obtain⟨f,C,p,_⟩:=I.list n;exact⟨Ox,f,p.isList,C⟩
     ·obtain⟨f,C,p,_⟩:=I.tuple n;exact⟨Oy,f,p,C⟩
    refine JO (c:=λi j=>b4 t (Y.getD i .non) (Y.getD j .non)) U (by have:f.length=Y.length:=(R.length.trans x.length).symm;omega) (λM=>BW I z V A g o R x M) λq L J out Z k2 K O=>?_;obtain⟨ws,m,fin,fin2⟩:=BX (X:=X) o g R x O;have D:Inv X P E H {s with heap:=q}:=I.kept (t':=s.toks) Z;have G:Inv X P E (ba H q.objs.size (.lst ws)) {s with heap:=L}:=D.laid (t':=s.toks) k2 (Zf _) ⟨by have:f.length=Y.length:=(R.length.trans x.length).symm;rw[m,Qj];omega,_,J,fin2,K⟩;have l:H q.objs.size=none:=D.hok.fresh (Zf _);refine⟨.ref q.objs.size,_,G,rfl,?_⟩;cases box with
    |true=>exact aO.box w z fin _ l
    |false=>exact aO.lst w z fin _ l
   ·exact w.elim
  ·exact w.elim
 ·exact w.elim
end Py
namespace Py
open PySem PySem.W PySem.Spec PyProof.Rows L2
theorem JS{f:α->β}:∀{l:List α} {us:List β},us.Perm (l.map f)->∃L:List α,L.Perm l/\us=L.map f:=λ{l us} p=>by
 generalize H:l.map f=m at p
 induction p generalizing l with
 |nil=>simp_all
 |cons x p c=>obtain⟨a,l1,rfl,rfl,h⟩:=RI.mp H;obtain⟨L,q,rfl⟩:=c h;exact⟨_,q.cons a,rfl⟩
 |swap x y g=>obtain⟨a,l1,rfl,rfl,h⟩:=RI.mp H;obtain⟨b,l2,rfl,rfl,rfl⟩:=RI.mp h;exact⟨_,List.Perm.swap _ _ _,rfl⟩
 |trans p q i I=>obtain⟨l1,Q,e⟩:=I H;obtain⟨l2,d,E⟩:=i e.symm;exact⟨_,d.trans Q,E⟩
theorem BY{K:Fg}{m:GS}{μ:La}{H:Hp}:∀ns:Li,aj K m μ H (ns.map D.int) (ns.map V.int)
 | []=>.nil
 |n::ns=>.cons bL (BY _)
theorem BZ{K:Fg}{m:GS}{μ:La}{H:Hp}:∀{cs:List (Li×OA)},(∀c∈cs,b7 K H c.2 (c.1.map V.int))->aj K m μ H (cs.map λc=>D.tup (c.1.map D.int)) (cs.map λc=>V.ref c.2)
 | [],_=>.nil
 |c::cs,h=>.cons (by exact⟨_,_,rfl,h c Zd,BY _⟩) (BZ λd a=>h d (Zc _ a))
theorem B0:∀cs:List (Li×OA),Vals (cs.map λc=>V.ref c.2) (cs.map λc=>PK c.2)
 | []=>.nil
 |c::cs=>.cons rfl (B0 _)
theorem B1(k:Li):az (.seq .int) (.tup (k.map D.int))=Ox:=by show(k.map _).all _=Ox;rw[Zp];intro x h;obtain⟨i,_,rfl⟩:=Zs.mp h;rfl
theorem JT{a:OA}{L:Lv}(H:∀{Q:Lv->Oz->Prop} {E':Vs},(∀(h':OI) (tk:Nat) (vs:Lv),(∀b o,s.heap.get? b=some o->h'.get? b=some o)->vs.Perm L->Q vs {s with heap:=h',toks:=tk})->wpAny (model prog w) A.in1 (collect (.ref a)) Q E' s)(F:L.length<64)
  (d:∀(h1:OI) (tk:Nat) (vs:Lv),(∀b o,s.heap.get? b=some o->h1.get? b=some o)->vs.Perm L->∃c,(2<=vs.length->∃κ:Rc,dz vs.length c/\(∀i j,i<vs.length->j<vs.length->vs.getD i OJ=vs.getD j OJ->ck vs.length c i=ck vs.length c j)/\∀h':OI,(∀b o,h1.get? b=some o->h'.get? b=some o)->
   (∀(E':Vs) (l:Rc->Oz->Prop),l κ {s with heap:=h',toks:=tk}->wpAny (model prog w) A.in1.in1 (keyKind' vs.toArray) l E' {s with heap:=h',toks:=tk})/\
   ∀i j C,i<vs.length->j<vs.length->C (c i j) {s with heap:=h',toks:=tk}->kas_ask prog w A.in1.in1 κ vs i j C {s with heap:=h',toks:=tk})/\
   ∀(h':OI) (g:Nat) (out:Lv),(∀b o,h1.get? b=some o->h'.get? b=some o)->h'.get? h1.objs.size=some (seqObj "list" out.toArray g)->jb vs c out->Q (.ref h1.objs.size) {s with heap:=h',toks:=tk}):
  wpAny (model prog w) A (call (.builtin "sorted") [.ref a]) Q E s:=by
 refine SH kind_sorted plain_sorted entry_sorted (args_sorted1 _) ?_;unfold PF.«sorted»;refine Za (m:=checkCount "sorted" 1 1 _) (Ze (Za (H λh1 tk vs r p=>?_)));obtain⟨c,d,fin⟩:=d h1 tk vs r p;have k:vs.length<64:=by rw[p.length_eq];exact F
 have q:vs.length<=sizeLine:=by rw[Qj];omega
 refine Za (TX ?_ q);have f:(h1.push (seqObj "list" vs.toArray 0)).get? h1.objs.size=some (seqObj "list" vs.toArray 0):=Zi _ rfl;refine Za (ZL (ZO slot_list_sort ⟨_,f,rfl⟩ entry_list_sort ?body (args_list_sort _)))
 case body=>
  refine BS (c:=c) (s:={s with heap:=h1.push (seqObj "list" vs.toArray 0),toks:=tk}) f k (λn=>?_) λh' g out K e O=>?_
  ·obtain⟨κ,o,S,d⟩:=d n;refine⟨κ,o,S,λh' K=>?_⟩;obtain⟨u,v⟩:=d h' λb o e=>K b o (Zz (Zm e)) (Zb _ e);exact⟨u _,v⟩
  ·exact⟨_,rfl,Ze ⟨_,rfl,fin h' g out (λb o e=>K b o (Zz (Zm e)) (Zb _ e)) e O⟩⟩
def JU(K:Fg)(m:Mg)(v:V)(H:Hp)(Q:VK):Prop:=
 ∃F μ S p ks,aK K ⟨m,F⟩ μ S H/\v=.ref p/\JC K H p ks/\ks.length<64/\(∀c∈ks,c.1≠[])/\aO K ⟨m,F⟩ μ H Q (.ok (.lst (eE (ks.map (·.1)))) S)
theorem JV{p:OA}{cs:List (Li×OA)}{E:Vs}(i:X.calm=Ox)(J:X.A.units+64<cLine)(I:Inv X pq σ H s)(Y:aK X.K ⟨X.mg,F⟩ μ S H)(r:∀c∈ks,b7 X.K H c.2 (c.1.map V.int))(G:∀c∈ks,c.1≠[])(z:ks.length<64)
  (j:∀{Q:Lv->Oz->Prop} {E':Vs},(∀(h':OI) (tk:Nat) (vs:Lv),(∀b o,s.heap.get? b=some o->h'.get? b=some o)->vs.Perm (cs.map λc=>PK c.2)->Q vs {s with heap:=h',toks:=tk})->wpAny (model X.prog X.w) X.A.in1 (collect (.ref p)) Q E' s) (N:(cs.map (·.1)).Nodup) (u:∀k,k∈cs.map (·.1)↔k∈ks.map (·.1)) (x:∀c∈cs,c∈ks)
  (fin:∀(h1 h':OI) (tk q:Nat) (out:Lv) (ws:List V),(∀b o,s.heap.get? b=some o->h1.get? b=some o)->(∀b o,h1.get? b=some o->h'.get? b=some o)->h'.get? h1.objs.size=some (seqObj "list" out.toArray q)->ws.length<=76->aj X.K ⟨X.mg,F⟩ μ H (eE (ks.map (·.1))) ws->Vals ws out->Q (.ref h1.objs.size) {s with heap:=h',toks:=tk}):
  wpAny (model X.prog X.w) X.A (call (.builtin "sorted") [.ref p]) Q E s:=by
 have B:cs.length<64:=by have h1:=N.length_le_of_subset λk r=>(u k).mp r;rw[Zn,Zn]at h1;omega
 refine JT j (by rw[Zn];exact B) λh1 tk Z K W=>?_;have w:Inv X pq σ H {s with heap:=h1,toks:=tk}:=I.kept (t':=tk) K
 obtain⟨C,P,rfl⟩:∃C:List (Li×OA),C.Perm cs/\Z=C.map λc=>PK c.2:=by exact JS W
 have M:∀c∈C,c∈ks:=λc i=>x c (P.mem_iff.mp i);have R:aj X.K ⟨X.mg,F⟩ μ H (C.map λc=>D.tup (c.1.map D.int)) (C.map λc=>V.ref c.2):=BZ λc i=>r c (M c i);have v:Vals (C.map λc=>V.ref c.2) (C.map λc=>PK c.2):=B0 C
 have g:∀y∈(C.map λc=>D.tup (c.1.map D.int)),az (.seq .int) y=Ox:=λy n=>by obtain⟨c,_,rfl⟩:=Zs.mp n;exact B1 c.1
 have m:gL (.seq .int) (C.map λc=>D.tup (c.1.map D.int))=Ox:=by
  show(Ox&&((C.map λc=>D.tup (c.1.map D.int)).all λd=> !fO d))=Ox;rw[Zp.mpr]
  ·rfl
  ·intro y n;obtain⟨c,i,rfl⟩:=Zs.mp n;have:=G c (M c i);cases h:c.1 with
   |nil=>exact absurd h this
   |cons a l=>rfl
 refine⟨_,λA=>BW w Y J (by decide) g m R v A,λh' q out L e O=>?_⟩;obtain⟨ws,w1,w2,w3⟩:=BX (X:=X) m g R v O;refine fin h1 h' tk q out ws K L e (by rw[w1,Zn,P.length_eq];omega) ?_ w3
 have:eE (ks.map (·.1))=fg (b4 (.seq .int)) (C.map λc=>D.tup (c.1.map D.int)):=by
  unfold eE;refine(BR (t:=.seq .int) rfl (λy n=>?_) ((vt _ _).trans ?_) (BQ (gX (.seq .int) rfl) _ g)).symm
  ·obtain⟨k,_,rfl⟩:=Zs.mp n;exact B1 k
  ·have U:(C.map (·.1)).Perm (kc (ks.map (·.1))):=by
    obtain⟨a,b⟩:=By (ks.map (·.1));refine(P.map _).trans ((Qa N a).mpr λk=>(u k).trans (b k).symm)
   have:=U.map λk=>D.tup (k.map D.int);rw[Pb]at this;exact this
 rw[this];exact w2
theorem JW{p:OA}{cs:List (Li×OA)}{E:Vs}(i:X.calm=Ox)(w:X.A.units+64<cLine)(I:Inv X pq σ H s)(y:aK X.K ⟨X.mg,F⟩ μ S H)(h:∀c∈ks,b7 X.K H c.2 (c.1.map V.int))(u:∀c∈ks,c.1≠[])(f:ks.length<64)
  (x:dZ X.prog X.w s.heap p cs) (a:∀k,k∈cs.map (·.1)↔k∈ks.map (·.1)) (n:∀c∈cs,c∈ks)
  (fin:∀(h1 h':OI) (tk C:Nat) (out:Lv) (ws:List V),(∀b o,s.heap.get? b=some o->h1.get? b=some o)->(∀b o,h1.get? b=some o->h'.get? b=some o)->h'.get? h1.objs.size=some (seqObj "list" out.toArray C)->ws.length<=76->aj X.K ⟨X.mg,F⟩ μ H (eE (ks.map (·.1))) ws->Vals ws out->Q (.ref h1.objs.size) {s with heap:=h',toks:=tk}):
  wpAny (model X.prog X.w) X.A (call (.builtin "sorted") [.ref p]) Q E s:=by
 obtain⟨o,z,t,g,q,d,l,P,m⟩:=x.obj;have r:=m.fits.2;have v:(cs.map (bq X.prog X.w)).toArray.size=cs.length:=by simp
 have A:=by have h1:=x.nod.length_le_of_subset λk h=>(a k).mp h;rw[Zn,Zn]at h1;omega
 refine JV i w I y h u f (λfin=>JK (by simpa using I.ok.hd i) ⟨by simp_all,l,P,m.ris⟩ g q d (by lia) λh' tk vs k B=>fin _ _ _ k ?_) x.nod a n fin;have:(List.map (λe=>e.2) (cs.map (bq X.prog X.w)).toArray.toList)=cs.map λc=>PK c.2:=by rw[Pb];rfl
 simp_all
theorem JX(m:X.calm=Ox)(y:X.A.units+64<cLine)(c:Gl X "sorted")(d:Gl X "set")(f:X.mg "sorted"=none)(i:X.mg "set"=none)(M:bootBuiltins "sorted"=some (.builtin "sorted"))(j:bA z=Ox)(L:PE X z ta):
  PE X (.Call (.Name "sorted" p1) [.Call (.Name "set" p2) [z] [] p3] [] p4) (λσ H Q=>ta σ H λx H1=>JU X.K X.mg x H1 Q):=by
 intro P s σ H Q I h;have w:=cf (env:=X.env) (es:=[]) j;refine Pg (fC I c f M ?_ (by decide) (by decide));refine Qs ?_ rfl rfl;refine O_ ?_;refine Pg (fC I d i Bx ?_ (by decide) (by decide));have K:PA X [z] (ez ta mY):=dI L fD w
 refine OO (aT (K p3 P s σ H (λvs H1=>match vs with
  | [x]=>JU X.K X.mg x H1 Q
  |_=>False) I h) λus W zq=>?_) w rfl
 obtain⟨vs,H1,C,r,q⟩:=zq
 match vs,q with
 | [v],⟨F,μ,S,p,ks,A,e,o,b,j,q⟩=>subst e;obtain⟨u,rfl,U⟩:=r.one;cases U;refine oS m y C o λh' T cs x E G k _=>?_;refine Q0 ?_;refine JW m y k A o.2.1 j b x E G λa h2 t D out Z N O g hl R V=>?_;have l:Inv X P σ H1 {W with heap:=a,toks:=T}:=k.kept (t':=T) N;exact⟨.ref a.objs.size,ba H1 a.objs.size (.lst Z),l.laid (t':=t) O (Zf _) ⟨by rw[Qj];omega,out,D,V,g⟩,rfl,aO.lst q A R _ (l.hok.fresh (Zf _))⟩
end Py
namespace Py
noncomputable def yr(kd:Bool)(e:Expr)(g:List OU)(s:Scope)(p:Pos):Expr:=.ListComp e g s p
noncomputable def F7(kd:Bool)(e:Expr)(a:OB)(env:Env):Sem Unit:=u1 e a env
def oK(X:Cx)(kd:Bool):OA->List D->List V->HO->Prop:=oL
theorem vx{kd:Bool}{pos:Pos}{d:Nat}{it a:OB}{t i:Expr}{fs:Lx}(h:gens[d]?=some ⟨t,i,fs,0⟩):
  compTurn (yr kd elt gens scope pos) d it a env=(standAt i.pos>>=λ_=>pyNext it>>=λr=>match r with
   |none=>pure (.done .next)
   |some v=>letOwnedTupleGo t it v>>=λ_=>assign t env v>>=λ_=>(fj fs env>>=λok=>if ok=Ox then bw (yr kd elt gens scope pos) (F7 kd elt a env) gens d a env else pure ())>>=λ_=>
    again (.compLoop (yr kd elt gens scope pos) d it a env)):=by cases kd<;>exact I8 h
section
variable {E:XK}
end
section
variable {E:XK}
end
section
variable {E:XK}{k:Nat}
theorem B2:bn X (.type "str") (rC X.K X.mg uM):=by
 intro p s g H x U Q I r h;obtain⟨F,f,S,D,e,R,w⟩:=h;unfold uM at w;split at w
 ·rename_i k;split at w
  ·rename_i b;obtain⟨v,rfl,c⟩:=R.one;cases aH c;obtain⟨u,rfl,d⟩:=r.one;obtain⟨t,rfl⟩:=d;refine PySem.P.str_of_int ?_ ⟨.str _,H,I.kept λ_ _ z=>z,⟨_,rfl⟩,w _ H _ .refl e dy⟩;by_cases a:k.natAbs=0
   ·simp[*]
   ·exact R_ ((Nat.log2_lt a).mpr b) (by simp)
  ·exact w.elim
 ·exact w.elim
theorem kJ(O:cN X cell N sc CX E Φ Γ k)(b:il)(h:uL b=Ox):bn X (ke b) (rC X.K X.mg (aA b)):=by
 cases b with
 |len=>exact zK
 |tuple=>exact nI
 |list box=>exact uy box
 |int=>exact zM
 |min=>cases h
 |max=>cases h
 |isinst=>exact HV
 |all=>exact zP O.calm
 |any=>cases h
 |sum=>cases h
 |repr=>cases h
 |abs=>cases h
 |str=>exact B2
 |sorted box t=>exact JR O.room.units box t (by unfold uL at h;simpa using h)
theorem vy:∀{l:Ls},iW l=Ox->l.Nodup
 | [],_=>Qb
 |x::r,h=>by unfold iW at h;simp at h;exact OS.mpr ⟨h.1,vy h.2⟩
theorem B3(O:cN X cell N sc CX E Φ Γ k)(h:ID scope sc=Ox):ei X scope:=by
 unfold ID at h;simp only[ZG,beq_iff_eq]at h;obtain⟨a,b⟩:=h;have K:∀y∈scope.names,((y.2 !=OL||scope.names.lookup y.1==some .cell)&&(y.2 !=.local||scope.names.lookup y.1==some .local)&&(y.2 !=.free||(sc.lookup y.1==some .cell||sc.lookup y.1==some .free)))=Ox:=λy H=>Zp.mp b y H;refine⟨a,λy H z=>?_,λy H z=>?_,λy H z=>?_⟩
 ·have:=K y H;rw[z]at this;simp at this;exact this
 ·have:=K y H;rw[z]at this;simp at this;exact this
 ·have:=K y H;rw[z]at this;simp at this;show X.env.scope.names.lookup y.1=_\/X.env.scope.names.lookup y.1=_;rw[O.sc];exact this
theorem B4(O:cN X cell N sc CX E Φ Γ k)(h:frB scope.names N' N fr=Ox):nO X scope N' (gT fr):=by
 unfold frB at h;simp only[ZG,beq_iff_eq]at h;obtain⟨g,l⟩:=h;intro d n;refine⟨by simp[gT,g],λi v x c a=>?_⟩;have m:i<N'.length:=(Zg.mp c).1;have:=Zp.mp l i (Pd.mpr m);unfold gT at a;rw[ZW]at a;cases e:fr[i]? with
 |none=>rw[e]at a;cases a
 |some o=>
  rw[e]at a;cases o with
  |none=>cases a
  |some j=>
   rw[e]at this;simp only[c,ZG,beq_iff_eq]at this;have H:(d[j]?).join=some v:=OY a;refine⟨this.1,j,by rw[O.n];exact this.2,?_⟩;cases b:d[j]? with
   |none=>rw[b]at H;cases H
   |some o=>rw[b]at H;have f:o=some v:=H;rw[f]
theorem o2(O:cN X cell N sc CX E Φ Γ k):(relabel scope X.env).names=kf scope.names sc:=by
 show scope.names.map _=scope.names.map _;congr 1;funext p;obtain⟨n,K⟩:=p;have e:X.env.kindOf n=sc.lookup n:=by show X.env.scope.names.lookup n=_;rw[O.sc]
 simp[e,O.kd,Bool.and_true]
theorem B5(O:cN X cell N sc CX E Φ Γ k)(hs:scope.kind=.function)(hn:iW N'=Ox)(C:OA)(s0:Oz)(H0:Hp)(fp:La):cN (f8 X scope N' C s0 H0 fp) (uN scope.names) N' (kf scope.names sc) CX E0 Φ Γ k where
 n:=rfl
 nd:=vy hn
 sc:=o2 O
 kd:=hs
 calm:=O.calm
 room:=O.room
 fn:=λx z=>z
 mod:=O.mod
 pass:=λ_ _ _ _ _ _ _ z=>O.cx0 _ _ _ _ _ z
 cx0:=O.cx0
theorem o3{i:Expr}(h:oh i=Ox):∀x,foldedSetIterable i env x=pure x:=by intro x;cases i<;>first|rfl|cases h
theorem iH{e:Expr}{c:CE}(h:PE X e (tE X.K X.mg E Φ Γ c))(g:∀W,isTrue e X.env W=(do let v <-W;standAt e.pos;holding [v] (truthy v))){σ:L2.St}:
  PT X e (λσ H Q=>∃F μ ρ S,aK X.K ⟨X.mg,F⟩ μ S H/\aZ X.K ⟨X.mg,F⟩ μ H ρ σ/\ak X.K ⟨X.mg,F⟩ E (λ_ _ a b=>a=b) μ H Q ((ah Φ Γ c ρ S).bind λd S1=>match a9 S1 d with|some k=>.ok k S1|none=>.fail)):=
 dW (GZ h g) λσ H Q z=>aG z λF μ ρ S i f w=>⟨F,_,_,S,i,f,(ak.bind w).mono λv H1 z=>ay z λm S1 d x s r j=>by obtain⟨k,e,l⟩:=Au j;exact⟨k,r_ s r e,l _ _ k .refl s rfl⟩⟩
theorem JY(O:cN X cell N sc CX E Φ Γ k){a:CE}(h1:bh sc "len"=Ox)(h:bh sc "set"=Ox)(c:bA z=Ox)(b:PE X z (tE X.K X.mg E Φ Γ a)):PE X (.Call (.Name "len" p1) [.Call (.Name "set" p2) [z] [] p3] [] p4) (tE X.K X.mg E Φ Γ (.lenset a)):=
 aQ (JE O.calm O.room.units (O.gl (de h1).1) (O.gl (de h).1) (O.mod.bl _ (by decide+kernel)) (O.mod.bl _ (by decide+kernel)) c b) λm H Q Z=>aG Z λF g j S f e w=>
  ⟨F,g,j,S,f,e,(ak.bind w).mono λv H1 Z=>ay Z λi l d x s r W=>JF s r (b9 W)⟩
theorem vA{Q:VK}(s:aK K ⟨mg,F⟩ μ S H)(r:Rep K ⟨mg,F⟩ μ H d v)(w:aO K ⟨mg,F⟩ μ H Q (eH d S)):JU K mg v H Q:=by
 unfold eH at w;split at w
 ·rename_i x e;split at w
  ·rename_i h;obtain⟨p,o,rfl,m,E⟩:=vm s r e ⟨h.1,by omega⟩;refine⟨F,μ,S,p,o,s,rfl,m,by have:=congrArg RG E;rw[Zn,Zn]at this;omega,λc b=>?_,by rw[E];exact w⟩;have:c.1∈x.map fP:=by rw[<-E];exact RR b
   obtain⟨y,g,f⟩:=Zs.mp this;have j:=Zp.mp h.1 y g;have k:=Zp.mp h.2.2 y g;intro z;rw[z]at f;obtain⟨Z,rfl,n⟩:=dA j;cases Z with
   |nil=>cases k
   |cons a l=>obtain⟨i,rfl⟩:=dj (n a Zd);cases f
  ·exact w.elim
 ·exact w.elim
theorem vB(O:cN X cell N sc CX E Φ Γ k){a:CE}(h1:bh sc "sorted"=Ox)(h:bh sc "set"=Ox)(c:bA z=Ox)(b:PE X z (tE X.K X.mg E Φ Γ a)):PE X (.Call (.Name "sorted" p1) [.Call (.Name "set" p2) [z] [] p3] [] p4) (tE X.K X.mg E Φ Γ (.sset a)):=
 aQ (JX O.calm O.room.units (O.gl (de h1).1) (O.gl (de h).1) (O.mod.bl _ (by decide+kernel)) (O.mod.bl _ (by decide+kernel)) (by decide+kernel) c b) λm H Q Z=>aG Z λF g j S f e w=>
  ⟨F,g,j,S,f,e,(ak.bind w).mono λv H1 Z=>ay Z λi l d x s r W=>vA s r (b9 W)⟩
end
section
variable {E:XK}{k:Nat}
end
section
variable {a b c d:Expr}{tb tc td:TE}{pos:Pos}
noncomputable def o4(r g R:R2)(t tb T h:TE):TT:=λσ H Q=>t σ H λx H1=>tb σ H1 λy H2=>r x y H2 λz a=>∃k,z=.bl k/\
 (if k=Ox then T σ a λw d=>g y w d λi b=>∃c,i=.bl c/\(if c=Ox then h σ b λv e=>R w v e λZ f=>∃K,Z=.bl K/\Q K f else Q Oy b)else Q Oy a)
theorem JZ{o:QZ}{r w R:R2}(ho:cv X (compareOp o) r)(i:cv X (compareOp op') w)(g:cv X (compareOp op'') R)(S:PE X a ta)(T:PE X b tb)(U:PE X c tc)(V:PE X d td)
  (Y:lastMarks [o,op',op''] [b,c,d]=Oy):PT X (.Compare a [o,op',op''] [b,c,d] pos) (o4 r w R ta tb tc td):=by
 intro p s f H Q I h
 refine isTrue_chain (aT (S p s f H _ I h) λv s1 Z=>Z.elim λx Z=>Z.elim λH1 Z=>Z.elim λG Z=>Z.elim λr1 q1=>test_link (aT (T p s1 f H1 _ G q1) λu s2 Z=>
  Z.elim λy Z=>Z.elim λC Z=>Z.elim λJ Z=>Z.elim λA q2=>aT (ho p s2 f C x y v u _ J r1 A q2) λd s3 Z=>?_)) Y
 obtain⟨z,j,m,r3,k,e,q⟩:=Z;subst e;cases r3;refine ZQ ?_;cases k with
 |false=>exact ite_ff ⟨j,m,q⟩
 |true=>
  refine ite_tt (test_link (aT (U p s3 f j _ m q) λW s4 Z=>Z.elim λB Z=>Z.elim λD Z=>Z.elim λK Z=>Z.elim λr4 q4=>aT (i p s4 f D y B u W _ K A r4 q4) λd' s5 Z=>?_));obtain⟨z2,l,n,r5,k2,O,t⟩:=Z;subst O;cases r5;refine ZQ ?_;cases k2 with
  |false=>exact ite_ff ⟨l,n,t⟩
  |true=>refine ite_tt (test_last (aT (V p s5 f l _ n t) λw2 s6 Z=>Z.elim λz3 Z=>Z.elim λE Z=>Z.elim λL Z=>Z.elim λr6 q6=>aT (g p s6 f E B z3 W w2 _ L r4 r6 q6) λN s7 Z=>?_));obtain⟨z4,F,M,r7,k3,P,q7⟩:=Z;subst P;cases r7;exact ZQ ⟨F,M,q7⟩
end
section
variable {E:XK}{l r r2:Expr}{pos:Pos}{a b c d:CE}
theorem J1{o:QZ}(j:X.A.units+64<cLine)(R:PE X l (tE X.K X.mg E Φ Γ a))(T:PE X r (tE X.K X.mg E Φ Γ b))(U:PE X r' (tE X.K X.mg E Φ Γ c))(V:PE X r2 (tE X.K X.mg E Φ Γ d))(Y:behindInMarks op'' r2=Oy):PT X (.Compare l [o,op',op''] [r,r',r2] pos) (tT X.K X.mg E Φ Γ (.chain3 o op' op'' a b c d)):=
 dW (JZ (dN o j) (dN op' j) (dN op'' j) R T U V Y) λσ H Q z=>aG z λF μ i S sk g w=>
  ⟨F,μ,i,S,sk,g,(ak.bind w).mono λv1 H1 z=>ay z λp J d1 x s1 Z w1=>⟨F,p,i,J,s1,g.mono x,(ak.bind w1).mono λv2 H2 z=>ay z λq K d2 n s2 r2 w2=>
   ⟨F,q,K,d1,d2,s2,Rep.mono n _ _ Z,r2,b9 ((ak.bind w2).mono λv3 C z=>ay z λe L d3 x3 v r3 w3=>by
    obtain⟨k,rfl,rfl,W⟩:=f9 w3 r3;refine⟨k,rfl,?_⟩;cases k with
    |true=>
     rw[if_pos rfl]at W⊢
     exact⟨F,e,i,L,v,(g.mono x).mono (n.trans x3),(ak.bind W).mono λv4 H4 z=>ay z λs M D A s4 r4 w5=>⟨F,s,M,d2,D,s4,Rep.mono (x3.trans A) _ _ r2,r4,b9 ((ak.bind w5).mono λv5 G z=>ay z λf N d5 B y r5 w6=>by
      obtain⟨k,rfl,rfl,h⟩:=f9 w6 r5;refine⟨k,rfl,?_⟩;cases k with
      |true=>rw[if_pos rfl]at h⊢;exact⟨F,f,i,N,y,(((g.mono x).mono (n.trans x3)).mono A).mono B,(ak.bind h).mono λv6 H6 z=>ay z λt O P x6 s6 r6 w8=>⟨F,t,O,D,P,s6,Rep.mono (B.trans x6) _ _ r4,r6,b9 ((ak.bind w8).mono λv7 I z=>ay z λu S7 d7 x7 s7 r7 w9=>by obtain⟨k,rfl,rfl,m⟩:=f9 w9 r7;exact⟨k,rfl,m u I k .refl s7 rfl⟩)⟩⟩
      |false=>rw[if_neg (by decide)]at h⊢;exact h f G _ .refl y rfl)⟩⟩
    |false=>rw[if_neg (by decide)]at W⊢;exact W e C _ .refl v rfl)⟩⟩⟩
end
theorem B6{l:Expr}{op x k p pos}
  (h:wpAny M A (eval (.BinOp l op (.Constant (.str x) k p) pos) env) Q E s):wpAny M A (eval (.BinOp l op (.Constant (.str x) k p) pos) env) (λv s'=>1<=s'.toks/\Q v s') E s:=by
 intro b f c;have d:=h b f c;simp only[eval_BinOp,Sem.wp_bind',Sem.wp_holding]at d⊢;exact Sem.wp_mono M b _ (λa P S H=>Sem.wp_mono M b _ (λ_ _ _ x=>x) (λ_ _ _ x=>x.2) _ _ (Sem.wp_toks M b 1 _ _ _ _ _ (RA _ _) H)) (λ_ _ _ e=>e) _ _ d
theorem Nw{t:Sem α}{Q b:α->Oz->Prop}(c:1<=s.toks)(h:wpAny M A t Q E s)(H:∀a s',Q a s'->1<=s'.toks->b a s'):wpAny M A t b E s:=
 O0 (wpAny_toks_of c h) (λa s' x=>H a s' x.2 x.1) (λ_ _ x=>x.2)
def F8(X:Cx)(es:Lx)(t:TA):Prop:=
 ∀(pos:Pos) (pq:Lp) (s:Oz) (σ:L2.St) (H:Hp) (Q:List V->Hp->Prop),L2.Inv X pq σ H s->1<=s.toks->t σ H Q->wpAny (model X.prog X.w) X.A (spliced (backTo pos (starEach es X.env))) (AP X pq σ Q) X.xe s
def Ny(X:Cx)(e:Expr)(t:TE):Prop:=
 ∀(pq:Lp) (s:Oz) (σ:L2.St) (H:Hp) (Q:VK),L2.Inv X pq σ H s->1<=s.toks->t σ H Q->wpAny (model X.prog X.w) X.A (eval e X.env) (EP X pq σ Q) X.xe s
section
variable {E:XK}{t:TA}{pos:Pos}{a b c d:CE}{cs:List CE}
theorem J2(g:PE X e te)(j:F8 X es t)(hs:starEach (e::es) X.env=(Oy,eval e X.env)::starEach es X.env):F8 X (e::es) (ez te t):=by intro pos p s b H Q I i h;rw[hs];show wpAny _ _ (spliced ((Oy,eval e X.env)::backTo pos (starEach es X.env))) _ _ s;refine O_ (Nw i (g p s b H _ I h) λu S z a=>?_);obtain⟨x,H1,d,r,q⟩:=z;exact aT (j pos p S b H1 _ d a q) λU m z=>by obtain⟨l,c,f,R,k⟩:=z;exact(⟨x::l,c,f,.cons r R,k⟩)
theorem J3{l:Expr}{op x k p pos}(f:PE X (.BinOp l op (.Constant (.str x) k p) pos) te)(g:F8 X es t):PA X (.BinOp l op (.Constant (.str x) k p) pos::es) (ez te t):=by intro pos P s b H Q I h;refine O_ (aT (B6 (f P s b H _ I h)) λu S z=>?_);obtain⟨a,x,H1,d,r,q⟩:=z;exact aT (g pos P S b H1 _ d a q) λU m z=>by obtain⟨j,c,e,R,i⟩:=z;exact(⟨x::j,c,e,.cons r R,i⟩)
theorem J4(f:Ny X e te)(i:PA X es t)(hs:starEach (e::es) X.env=(Oy,eval e X.env)::starEach es X.env):F8 X (e::es) (ez te t):=by intro pos p s a H Q I g h;rw[hs];show wpAny _ _ (spliced ((Oy,eval e X.env)::backTo pos (starEach es X.env))) _ _ s;refine O_ (aT (f p s a H _ I g h) λu S z=>?_);obtain⟨x,H1,c,r,q⟩:=z;exact aT (i pos p S a H1 _ c q) λU l z=>by obtain⟨k,b,d,R,j⟩:=z;exact(⟨x::k,b,d,.cons r R,j⟩)
noncomputable def tG(X:Cx)(E:XK)(r:bv->af->Res D):TE:=λσ H Q=>∃F μ ρ S,aK X.K ⟨X.mg,F⟩ μ S H/\aZ X.K ⟨X.mg,F⟩ μ H ρ σ/\ak X.K ⟨X.mg,F⟩ E (Rep X.K ⟨X.mg,F⟩) μ H Q (r ρ S)
theorem o5{o:Expr}{m:Str}(h:fE o=Ox):attributeBase o m env (eval o env)=eval o env:=by cases o<;>first|rfl|cases h
theorem o6{o:Expr}{x:Str}{j J:Nat}(A:fE o=Ox)(u:(apos.endLine==pos.line)=Ox)(B:PE X o (tE X.K X.mg E Φ Γ a)):
  Ny X (.Call (.Attribute o "replace" apos) [.Constant (.str x) j p1,.Constant (.str y) J p2] [] pos) (tG X E λρ S=>(ah Φ Γ a ρ S).bind λd S1=>(gJ x y d S1).noErr):=by
 intro P s L H Q I p Z;obtain⟨F,e,ρ,S,D,l,w⟩:=Z
 have n:=B P s L H (λv H1=>∃F e S z,aK X.K ⟨X.mg,F⟩ e S H1/\v=.str z/\ak X.K ⟨X.mg,F⟩ E (Rep X.K ⟨X.mg,F⟩) e H1 Q (gJ x y (.str z) S).noErr) I ⟨F,e,ρ,S,D,l,(ak.bind w).mono λV H1 Z=>ay Z λc S1 d1 G f r W=>by
  cases d1 with
  |str z=>cases cc r;exact⟨F,c,S1,z,f,rfl,W⟩
  |_=>exact W.elim⟩
 refine P5 (o5 A) ?_ u rfl (Nw p n λv f C q=>?_)
 ·rfl
 ·obtain⟨G,H1,g,r,M,c,S1,z,K,m,W⟩:=C;subst m;obtain⟨t,rfl⟩:=r;refine⟨"str","str.replace",PySem.F.plainAttrs_str,PySem.F.slot_str_replace,PySem.F.type_str_replace,Qk _ _ _,(λb i=>nomatch i),?_⟩;refine Po rfl (Pz ?_);show wpAny _ _ (spliced [(Oy,eval (.Constant (.str x) j p1) X.env),(Oy,eval (.Constant (.str y) J p2) X.env)]) _ _ _;refine O_ (QO (O_ (QO (Q0 ?_))));by_cases h:z.length<=10000/\(x==y)=Oy/\y.length<=10
  ·rw[show gJ x y (.str z) S1=.ok (.str (QJ z x y)) S1 from if_pos h]at W;refine SC.replace (by lia) (by lia) (by lia) h.2.1 ?_ λT k=>⟨.str (QJ z x y),H1,g.tok _,⟨T,rfl⟩,W c H1 _ .refl K dy⟩;have N:(z.length+1)*y.length<=10001*10:=Nat.mul_le_mul (by omega) h.2.2;omega
  ·rw[show gJ x y (.str z) S1=.fail from if_neg h]at W;exact(show False from W).elim
noncomputable def Nz(X:Cx)(E:XK)(r:bv->af->Res (List D)):TA:=λσ H Q=>∃F μ ρ S,aK X.K ⟨X.mg,F⟩ μ S H/\aZ X.K ⟨X.mg,F⟩ μ H ρ σ/\ak X.K ⟨X.mg,F⟩ E (aj X.K ⟨X.mg,F⟩) μ H Q (r ρ S)
noncomputable def gY(p:bv->af->Res D)(r:bv->af->Res (List D)):bv->af->Res (List D):=λρ S=>(p ρ S).bind λd S1=>(r ρ S1).bind λds S2=>.ok (d::ds) S2
theorem o7{p:bv->af->Res D}{r:bv->af->Res (List D)}{t:TA}(g:∀H Q,Nz X E r σ H Q->t σ H Q){Q:List V->Hp->Prop}(h:Nz X E (gY p r) σ H Q):ez (tG X E p) t σ H Q:=aG h λF n c S k e w=>
 ⟨F,n,c,S,k,e,(ak.bind w).mono λv H1 z=>ay z λa f d1 x s R W=>
  g _ _ ⟨F,a,c,f,s,e.mono x,(ak.bind W).mono λvs d z=>ay z λb o q m j i l=>l b d _ .refl j (.cons (Rep.mono m _ _ R) i)⟩⟩
theorem vC{g m i j:Expr}{l x:Str}{P:Pos}{J K L:Nat}(h1:bA g=Ox)(t:bA i=Ox)(u:fE j=Ox)(C:(apos.endLine==p3.line)=Ox)
  (v:PE X g (tE X.K X.mg E Φ Γ a)) (A:PE X m (tE X.K X.mg E Φ Γ b)) (h:PE X i (tE X.K X.mg E Φ Γ c)) (B:PE X j (tE X.K X.mg E Φ Γ d)) (I:PA X es (tL X.K X.mg E Φ Γ cs)):
  PE X (.List (g:: .BinOp m .Add (.Constant (.str l) J P) p4::i:: .Call (.Attribute j "replace" apos) [.Constant (.str x) K p1,.Constant (.str y) L p2] [] p3::es) pos) (tE X.K X.mg E Φ Γ (.lstR a b l c d x y cs)):=by
 refine aQ (h9 (dI v (J3 (sg (a:=b) (b:=.lit (.str l)) A (ki (by unfold iD;exact beq_self_eq_true l))) (J2 h (J4 (o6 u C B) I (cf rfl)) (cf t))) (cf h1))) λT H Q z=>?_;obtain⟨F,n,e,S,N,s,w⟩:=z;have O:ak X.K ⟨X.mg,F⟩ E (Rep X.K ⟨X.mg,F⟩) n H Q ((gY (ah Φ Γ a) (gY (ah Φ Γ (.bin .Add b (.lit (.str l)))) (gY (ah Φ Γ c) (gY (λe S=>(ah Φ Γ d e S).bind λd f=>(gJ x y d f).noErr) (ai Φ Γ cs)))) e S).bind λD o=>if D.length<1000 then .ok (.lst D) o else .fail):=w;refine o7 (λ_ _=>o7 λ_ _=>o7 λ_ _=>o7 λ_ _ q=>q) ⟨F,n,e,S,N,s,(ak.bind (Rel:=aj X.K ⟨X.mg,F⟩) O).mono λvs H1 z=>?_⟩;obtain⟨k,f,D,R,M,r,W⟩:=z;by_cases h:D.length<1000
 ·rw[if_pos h]at W;refine⟨by rw[<-r.length];exact Qx (ZB h (by decide)),λp G=>aO.lst (show aO X.K ⟨X.mg,F⟩ k H1 Q (.ok (.lst D) f)from W) M r p G⟩
 ·rw[if_neg h]at W;exact W.elim
end
theorem o8{E:XK}{c:CE}(h:∀ρ S,am Φ Γ c ρ S=.fail):PW X e (tT X.K X.mg E Φ Γ c):=λW p s f H Q I z=>aG z λF d ρ S b a w=>by rw[h]at w;exact w.elim
theorem B7{l:List α}{d:Nat}{x:α}{r:List α}(h:l.drop d=x::r):l[d]?=some x:=by have:=congrArg (λl=>l[0]?) h;simpa using this
theorem J5{l:List α}{d:Nat}(h:l.drop d=[]):l[d]?=none:=by simp_all
theorem J6{l:List α}{d:Nat}{x:α}{r:List α}(h:l.drop d=x::r):l.drop (d+1)=r:=by
 have:(l.drop d).drop 1=r:=by simp_all
 rwa [List.drop_drop]at this
section
variable {E:XK}{a b:CE}{l x y:Expr}{pos:Pos}{n:Bool}
theorem vD(h:PE X l (tE X.K X.mg E Φ Γ a))(h1:n=Ox->PE X x (tE X.K X.mg E Φ Γ b))(H:n=Oy->∃r rest,y=.BoolOp .And (r::rest) pos/\PE X y (tE X.K X.mg E Φ Γ b)):PE X (.BoolOp .And (l::cond n [x] (vw y).es) pos) (tE X.K X.mg E Φ Γ (.band a b)):=by
 cases n with
 |true=>exact si h (jQ (h1 rfl))
 |false=>obtain⟨r,rest,rfl,q⟩:=H rfl;exact si h q
theorem B8(h:PE X l (tE X.K X.mg E Φ Γ a))(h1:n=Ox->PE X x (tE X.K X.mg E Φ Γ b))(H:n=Oy->∃r rest,y=.BoolOp .Or (r::rest) pos/\PE X y (tE X.K X.mg E Φ Γ b)):PE X (.BoolOp .Or (l::cond n [x] (vw y).es) pos) (tE X.K X.mg E Φ Γ (.bor a b)):=by
 cases n with
 |true=>exact As h (jQ (h1 rfl))
 |false=>obtain⟨r,rest,rfl,q⟩:=H rfl;exact As h q
theorem B9(h:PT X l (tT X.K X.mg E Φ Γ a))(h1:n=Ox->PT X x (tT X.K X.mg E Φ Γ b))(H:n=Oy->∃r rest,y=.BoolOp .And (r::rest) pos/\PW X y (tT X.K X.mg E Φ Γ b)):PW X (.BoolOp .And (l::cond n [x] (vw y).es) pos) (tT X.K X.mg E Φ Γ (.band a b)):=by
 cases n with
 |true=>exact sj h (mE (h1 rfl))
 |false=>obtain⟨r,rest,rfl,q⟩:=H rfl;exact sj h q
theorem kK(h:PT X l (tT X.K X.mg E Φ Γ a))(h1:n=Ox->PT X x (tT X.K X.mg E Φ Γ b))(H:n=Oy->∃r rest,y=.BoolOp .Or (r::rest) pos/\PW X y (tT X.K X.mg E Φ Γ b)):PW X (.BoolOp .Or (l::cond n [x] (vw y).es) pos) (tT X.K X.mg E Φ Γ (.bor a b)):=by
 cases n with
 |true=>exact Ay h (jO (h1 rfl))
 |false=>obtain⟨r,rest,rfl,q⟩:=H rfl;exact Ay h q
theorem vE(h:kg b=Ox):∃r rest,aY b N (.BoolOp .And es pos)=.BoolOp .And (r::rest) pos:=by
 unfold kg at h;split at h
 ·exact⟨_,_,rfl⟩
 ·cases h
theorem vF(h:gN b=Ox):∃r rest,aY b N (.BoolOp .Or es pos)=.BoolOp .Or (r::rest) pos:=by
 unfold gN at h;split at h
 ·exact⟨_,_,rfl⟩
 ·cases h
theorem kL{t:CT}(h:oj t=Ox):fR (iY t N e)=Ox:=by
 cases t with
 |var i=>cases h
 |tup T=>rfl
theorem fT{a b:Bool}(h:cond n a b=Ox)(z:n=Ox):a=Ox:=by rw[z]at h;exact h
theorem cI{a b:Bool}(h:cond n a b=Ox)(z:n=Oy):b=Ox:=by lia
end
def Oc(c:CE):Prop:=∀{X:Cx} {cell:Str->Bool} {N:Ls} {sc:Sc} {CX:dJ} {E:XK} {Φ:FT} {Γ:Str->Option D} {k:Nat} {e:Expr},cN X cell N sc CX E Φ Γ k->bD c N sc e=Ox->PE X (aY c N e) (tE X.K X.mg E Φ Γ c)
def NA(c:CE):Prop:=∀{X:Cx} {cell:Str->Bool} {N:Ls} {sc:Sc} {CX:dJ} {E:XK} {Φ:FT} {Γ:Str->Option D} {k:Nat} {e:Expr},cN X cell N sc CX E Φ Γ k->bD c N sc e=Ox->PT X (aY c N e) (tT X.K X.mg E Φ Γ c)
def NB(c:CE):Prop:=∀{X:Cx} {cell:Str->Bool} {N:Ls} {sc:Sc} {CX:dJ} {E:XK} {Φ:FT} {Γ:Str->Option D} {k:Nat} {e:Expr},cN X cell N sc CX E Φ Γ k->bD c N sc e=Ox->(kg c||gN c)=Ox->PW X (aY c N e) (tT X.K X.mg E Φ Γ c)
def NC(c:CE):Prop:=∀{X:Cx} {cell:Str->Bool} {N:Ls} {sc:Sc} {CX:dJ} {E:XK} {Φ:FT} {Γ:Str->Option D} {k:Nat} {tg:CT} {t e:Expr},cN X cell N sc CX E Φ Γ k->Ap c N sc tg e=Ox->(oj tg=Ox->fR t=Ox)->PI X t (uQ c N e) (tI X.K X.mg E Φ Γ c)
def ND(c:CE):Prop:=∀{X:Cx} {cell:Str->Bool} {N:Ls} {sc:Sc} {CX:dJ} {E:XK} {Φ:FT} {Γ:Str->Option D} {k:Nat} {kd:Bool} {e:Expr} {gens g:List OU} {scope:Scope} {pos:Pos} {d:Nat} {acc:OA},cN X cell N sc CX E Φ Γ k->X.xe=(λ_ _=>False)->gens.drop (d+1)=uP c N g->F2 c kd cell N sc g e=Ox->
  PB X (bw (yr kd (om c N e) gens scope pos) (F7 kd (om c N e) (.ref acc) X.env) gens d (.ref acc) X.env) (tB X.K X.mg (oK X kd) Φ Γ c acc)
theorem B_{c:CE}(z:∀Φ Γ ρ S,am Φ Γ c ρ S=.fail):NA c:=λ_ _=>(o8 λ_ _=>z _ _ _ _).pt
theorem B'{c:CE}(z:(kg c||gN c)=Oy):NB c:=λ_ _ h=>by rw[z]at h;cases h
theorem Ca{c:CE}(z:∀N sc tg e,Ap c N sc tg e=Oy):NC c:=λ_ h _=>by rw[z]at h;cases h
theorem Cb{c:CE}(z:∀kd N sc cell g e,F2 c kd cell N sc g e=Oy):ND c:=λ_ _ _ h=>by rw[z]at h;cases h
mutual
theorem aM(c:CE):Oc c:=by
 intro X L N sc CX E Φ Γ k e O h;cases c with
 |var i=>exact sm O (ae h).1 (ae (ae h).2).1 (ae (ae h).2).2
 |dct=>exact AF
 |rv0 a b c=>exact AI (aM a O (ae h).1) (aM b O (ae (ae h).2).1) (aM c O (ae (ae h).2).2)
 |rev a b=>exact AH (aM a O (ae h).1) (aM b O (ae h).2)
 |lit d=>exact ki h
 |glob y=>exact uV O h
 |ty n=>exact IG O (ae h).1 (ae h).2
 |bin op a b=>exact sg (aM a O (ae h).1) (aM b O (ae h).2)
 |catB a b=>exact uS (aM a O (ae h).1) (aM b O (ae h).2)
 |neg a=>exact Ax (aM a O h)
 |cmp op a b=>exact Aq O.room.units (aM a O (ae h).1) (aM b O (ae (ae h).2).1) (gP (ae (ae h).2).2)
 |chain op J a b c=>exact oo O.room.units (aM a O (ae h).1) (aM b O (ae (ae h).2).1) (aM c O (ae (ae (ae h).2).2).1) (gP (ae (ae (ae h).2).2).2)
 |band a b=>exact vD (aM a O (ae h).1) (λz=>aM b O (fT (ae h).2 z)) λz=>by obtain⟨r,R,q⟩:=vE (pos:=(vw e).pos) (N:=N) (es:=(vw e).es.tail) (ae (cI (ae h).2 z)).1;exact⟨r,R,q,aM b O (ae (cI (ae h).2 z)).2⟩
 |bor a b=>exact B8 (aM a O (ae h).1) (λz=>aM b O (fT (ae h).2 z)) λz=>by obtain⟨r,R,q⟩:=vF (pos:=(vw e).pos) (N:=N) (es:=(vw e).es.tail) (ae (cI (ae h).2 z)).1;exact⟨r,R,q,aM b O (ae (cI (ae h).2 z)).2⟩
 |bnot a=>exact Aw (aM a O h)
 |ite c a b=>exact AA (el c O (ae h).1) (aM a O (ae (ae h).2).1) (aM b O (ae (ae h).2).2)
 |tup j=>exact AD (gO (ae h).2) (dB j O (ae h).1)
 |lst box j=>exact AE (gO (ae h).2) (dB j O (ae h).1)
 |lstR a b l c d x y j=>have M:=(ae h).2;have P:=(ae M).2;have T:=(ae P).2;have U:=(ae T).2;have V:=(ae U).2;have W:=(ae V).2;have Y:=(ae W).2;exact vC (ae V).1 (ae W).1 (ae Y).1 (ae Y).2 (aM a O (ae h).1) (aM b O (ae M).1) (aM c O (ae P).1) (aM d O (ae T).1) (dB j O (ae U).1)
 |idx a b=>exact AG (ae (ae h).2).2 (aM a O (ae h).1) (aM b O (ae (ae h).2).1)
 |sl a lo hi=>exact IH (aM a O (ae h).1) (kM lo O (ae (ae h).2).1 (gO (ae (ae (ae (ae h).2).2).2).1)) (kM hi O (ae (ae (ae h).2).2).1 (gO (ae (ae (ae (ae h).2).2).2).2))
 |call f j=>
  have G:=dB j O (ae (ae h).2).1;cases j with
  |nil=>cases(ae (ae h).2).2
  |cons c u=>exact kl O (ae h).1 (fi (cs:=c::u) (ae (ae h).2).1) G
 |blt b j=>
  have G:=dB j O (ae (ae h).2).1;cases j with
  |nil=>cases(ae (ae (ae h).2).2).1
  |cons c u=>exact sr O (kJ O b (ae (ae (ae h).2).2).2) (ae h).1 (fi (cs:=c::u) (ae (ae h).2).1) G
 |chain3 op J Z a b c d=>exact λpq s σ H Q I zz=>aG zz λF μ ρ S sk en w=>w.elim
 |smt m o j=>have p:=(ae (ae (ae (ae h).2).2).2).1;exact AO (m:=m) (ae h).1 (ae (ae h).2).1 (fi p) (by rw[iZ];exact gO (ae (ae (ae (ae h).2).2).2).2) (aM o O (ae (ae (ae h).2).2).1) (dB j O p)
 |tix o j=>have p:=(ae (ae (ae (ae h).2).2).2).1;exact AN (ae h).1 (ae (ae h).2).1 (fi p) (by rw[iZ];exact gO (ae (ae (ae (ae h).2).2).2).2) (aM o O (ae (ae (ae h).2).2).1) (dB j O p)
 |join x j=>have p:=(ae (ae h).2).1;exact uX (ae h).1 (fi p) (by rw[iZ];exact gO (ae (ae h).2).2) (dB j O p)
 |meth m o j=>have p:=(ae (ae (ae (ae h).2).2).2).1;exact uW (ae h).1 (ae (ae h).2).1 (fi p) (by rw[iZ];exact gO (ae (ae (ae (ae h).2).2).2).2) iZ.symm (aM o O (ae (ae (ae h).2).2).1) (dB j O p)
 |lenset a=>exact JY O (ae h).1 (ae (ae h).2).1 (ae (ae (ae h).2).2).2 (aM a O (ae (ae (ae h).2).2).1)
 |sset a=>exact vB O (ae h).1 (ae (ae h).2).1 (ae (ae (ae h).2).2).2 (aM a O (ae (ae (ae h).2).2).1)
 |comp box K fr tg it v body=>
  obtain⟨h1,h⟩:=ae h;obtain⟨h2,h⟩:=ae h;obtain⟨h3,h⟩:=ae h;obtain⟨p,h⟩:=ae h;obtain⟨h5,h⟩:=ae h;obtain⟨h6,h⟩:=ae h;obtain⟨h7,h8⟩:=ae h;have B:=B3 O h1
  refine aQ (nP (N:=K) (g:=sv X.K tg) (tb:=tC X.K X.mg oL Φ Γ v body) O.calm B (B4 O h2) (pc it O h5 kL) (λA t=>fj _ t>>=λok=>if ok=Ox then bw (yr Oy _ _ _ _) (F7 Oy _ _ t) (_::_) 0 (.ref A) t else pure ())
   (λit A t=>vx (kd:=Oy) rfl) (λC s0 H0 fp A=>?_) (o3 h6)) λσ H Q q=>ku (tg0:=iY tg K ((vw e).gs.headD dG).target) q
  have D:=B5 O B.kind h3 C s0 H0 fp;exact⟨kr D p,u5 (o_ v D h7) (vG body (kd:=Oy) D rfl rfl h8)⟩
 |emit e=>cases h
 |inner a b c d=>cases h
 |seq a=>cases h
 |range a=>cases h
 |zip a=>cases h
theorem el(c:CE):NA c:=by
 cases c with
 |var i=>
  intro X C N s n E j l k e O h;refine dW (iH (σ:=[]) (sm O (ae h).1 (ae (ae h).2).1 (ae (ae h).2).2) λ_=>rfl) λD H Q Z=>aG Z λF B m S A v w=>⟨F,B,m,S,A,v,?_⟩;cases t:m[i]? with
  |none=>simp only[am,t]at w;exact w.elim
  |some o=>
   cases o with
   |none=>simp only[am,t]at w;exact w.elim
   |some d=>simp only[am,t]at w;simp only[ah,t];exact w
 |lit d=>intro X C N s n E j l k e O h;exact dW (iH (Φ:=j) (Γ:=l) (σ:=[]) (ki h) λ_=>rfl) λD H Q Z=>aG Z λF B m S A v w=>⟨F,B,m,S,A,v,w⟩
 |call f x=>
  intro X C N s n E j l k e O h;have J:=dB x O (ae (ae h).2).1;cases x with
  |nil=>cases(ae (ae h).2).2
  |cons c p=>
   refine dW (iH (σ:=[]) (kl O (ae h).1 (fi (cs:=c::p) (ae (ae h).2).1) J) λ_=>rfl) λD H Q Z=>aG Z λF B m S A v w=>⟨F,B,m,S,A,v,?_⟩;simp only[am]at w;simp only[ah];cases t:j f with
   |none=>rw[t]at w;exact w
   |some M=>
    rw[t]at w;show ak _ _ _ _ _ _ _ (((ai j l (c::p) m S).bind λI G=>M I G).bind _);cases u:ai j l (c::p) m S with
    |ok I G=>rw[u]at w;exact w
    |err y G=>rw[u]at w;exact w
    |fail=>rw[u]at w;exact w
 |blt b x=>
  intro X C N s n E j l k e O h;have J:=dB x O (ae (ae h).2).1;cases x with
  |nil=>cases(ae (ae (ae h).2).2).1
  |cons c p=>
   refine dW (iH (σ:=[]) (sr O (kJ O b (ae (ae (ae h).2).2).2) (ae h).1 (fi (cs:=c::p) (ae (ae h).2).1) J) λ_=>rfl) λD H Q Z=>aG Z λF B m S A v w=>⟨F,B,m,S,A,v,?_⟩;simp only[am]at w;simp only[ah];cases u:ai j l (c::p) m S with
   |ok I G=>rw[u]at w;exact w
   |err y G=>rw[u]at w;exact w
   |fail=>rw[u]at w;exact w
 |cmp op a b=>intro X C N s n E j l k e O h;exact Ar O.room.units (aM a O (ae h).1) (aM b O (ae (ae h).2).1) (gP (ae (ae h).2).2)
 |chain3 op K L a b c d=>intro X C N s n E j l k e O h;exact J1 O.room.units (aM a O (ae h).1) (aM b O (ae (ae h).2).1) (aM c O (ae (ae (ae h).2).2).1) (aM d O (ae (ae (ae (ae h).2).2).2).1) (gP (ae (ae (ae (ae h).2).2).2).2)
 |chain op K a b c=>intro X C N s n E j l k e O h;exact oq O.room.units (aM a O (ae h).1) (aM b O (ae (ae h).2).1) (aM c O (ae (ae (ae h).2).2).1) (gP (ae (ae (ae h).2).2).2)
 |band a b=>intro X C N s n E j l k e O h;exact(B9 (el a O (ae h).1) (λz=>el b O (fT (ae h).2 z)) λz=>by have g:=(ae (cI (ae h).2 z)).1;obtain⟨r,R,q⟩:=vE (pos:=(vw e).pos) (N:=N) (es:=(vw e).es.tail) g;exact⟨r,R,q,o9 b O (ae (cI (ae h).2 z)).2 (by rw[g];rfl)⟩).pt
 |bor a b=>intro X C N s n E j l k e O h;exact(kK (el a O (ae h).1) (λz=>el b O (fT (ae h).2 z)) λz=>by have g:=(ae (cI (ae h).2 z)).1;obtain⟨r,R,q⟩:=vF (pos:=(vw e).pos) (N:=N) (es:=(vw e).es.tail) g;exact⟨r,R,q,o9 b O (ae (cI (ae h).2 z)).2 (by rw[g,Bool.or_true])⟩).pt
 |bnot a=>intro X C N s n E j l k e O h;exact Az (el a O h)
 |_=>exact B_ λ_ _ _ _=>rfl
theorem o9(c:CE):NB c:=by
 cases c with
 |band a b=>intro X C N s d E j i k e O h H;exact B9 (el a O (ae h).1) (λz=>el b O (fT (ae h).2 z)) λz=>by have g:=(ae (cI (ae h).2 z)).1;obtain⟨r,R,q⟩:=vE (pos:=(vw e).pos) (N:=N) (es:=(vw e).es.tail) g;exact⟨r,R,q,o9 b O (ae (cI (ae h).2 z)).2 (by rw[g];rfl)⟩
 |bor a b=>intro X C N s d E j i k e O h H;exact kK (el a O (ae h).1) (λz=>el b O (fT (ae h).2 z)) λz=>by have g:=(ae (cI (ae h).2 z)).1;obtain⟨r,R,q⟩:=vF (pos:=(vw e).pos) (N:=N) (es:=(vw e).es.tail) g;exact⟨r,R,q,o9 b O (ae (cI (ae h).2 z)).2 (by rw[g,Bool.or_true])⟩
 |_=>exact B' rfl
theorem dB(cs:List CE):∀{X:Cx} {cell:Str->Bool} {N:Ls} {sc:Sc} {CX:dJ} {E:XK} {Φ:FT} {Γ:Str->Option D} {k:Nat} {es:Lx},cN X cell N sc CX E Φ Γ k->fF cs N sc es=Ox->PA X (dX cs N es) (tL X.K X.mg E Φ Γ cs):=by
 intro X cell N sc CX E Φ Γ k es O h;cases cs with
 |nil=>exact AB
 |cons c cs=>exact uT (ae (ae h).2).1 (aM c O (ae h).1) (dB cs O (ae (ae h).2).2)
theorem kM(cs:List CE):∀{X:Cx} {cell:Str->Bool} {N:Ls} {sc:Sc} {CX:dJ} {E:XK} {Φ:FT} {Γ:Str->Option D} {k:Nat} {es:Lx},cN X cell N sc CX E Φ Γ k->fF cs N sc es=Ox->cs.length<2->PO X (dX cs N es).head? (AJ X.K X.mg E Φ Γ cs):=by
 intro X cell N sc CX E Φ Γ k es O h H;cases cs with
 |nil=>exact ov
 |cons c cs=>cases cs with
  |nil=>exact ox (aM c O (ae h).1)
  |cons _ _=>exact absurd H (by simp)
theorem o_(cs:List CE):∀{X:Cx} {cell:Str->Bool} {N:Ls} {sc:Sc} {CX:dJ} {E:XK} {Φ:FT} {Γ:Str->Option D} {k:Nat} {es:Lx},cN X cell N sc CX E Φ Γ k->fF cs N sc es=Ox->z0 X (dX cs N es) (cs.map (tT X.K X.mg E Φ Γ)):=by
 intro X cell N sc CX E Φ Γ k es O h;cases cs with
 |nil=>trivial
 |cons c cs=>exact⟨el c O (ae h).1,o_ cs O (ae (ae h).2).2⟩
theorem pc(c:CE):NC c:=by
 cases c with
 |seq a=>intro X C N s m E o n k T t e O h l;exact A2 (aM a O h)
 |range f=>
  intro X C N s m E o n k T t e O h l;have i:=(ae (ae h).2).1;have H:=(ae (ae h).2).2;have g:=fi i;have j:=dB f O i;cases f with
  |nil=>cases H
  |cons a f=>cases f with
   |nil=>exact IX O (ae h).1 (g _ Zd) rfl j
   |cons b f=>cases f with
    |nil=>exact IY O (ae h).1 (g _ Zd) (g _ (Zc _ Zd)) rfl j
    |cons d f=>cases H
 |zip f=>
  intro X C N s m E o n k T t e O h l;have i:=(ae (ae h).2).1;have H:=(ae (ae h).2).2;have g:=fi i;have j:=dB f O i;cases f with
  |nil=>cases(ae H).1
  |cons a f=>cases f with
   |nil=>cases(ae H).1
   |cons b f=>cases f with
    |nil=>exact A6 O (ae h).1 (l (ae H).2) (g _ Zd) (g _ (Zc _ Zd)) j
    |cons d f=>cases(ae H).1
 |_=>exact Ca λ_ _ _ _=>rfl
theorem vG(c:CE):ND c:=by
 cases c with
 |emit a=>
  intro X C N S e E q p k K f g G s pos d A O b H h;cases K with
  |true=>cases h
  |false=>exact u6 (J5 H) (aM a O h)
 |inner t it i body=>intro X C N S e E q p k K f g G s pos d A O b H h;obtain⟨j,h⟩:=ae h;obtain⟨l,h⟩:=ae h;obtain⟨m,h⟩:=ae h;obtain⟨n,o⟩:=ae h;exact oE (by cases K<;>rfl) (by cases K<;>rfl) (λit=>vx (B7 H)) b O.calm (B7 H) (pc it O l kL) (o3 m) (kr O j) (u5 (o_ i O n) (vG body O b (J6 H) o))
 |_=>exact Cb λ_ _ _ _ _ _=>rfl
end
noncomputable def aC(K:Fg)(m:GS)(E:XK)(D:Ends)(μ:La)(H:Hp):Res Fl->Prop
 | .ok (.next ρ') S'=>∀μ' H' σ',Ext μ H μ' H'->aK K m μ' S' H'->aZ K m μ' H' ρ' σ'->D.nx σ' H'
 | .ok (.ret d) S'=>∀μ' H' v,Ext μ H μ' H'->aK K m μ' S' H'->Rep K m μ' H' d v->D.rt v H'
 | .ok (.brk ρ') S'=>∀μ' H' σ',Ext μ H μ' H'->aK K m μ' S' H'->aZ K m μ' H' ρ' σ'->D.bk σ' H'
 | .ok (.cont ρ') S'=>∀μ' H' σ',Ext μ H μ' H'->aK K m μ' S' H'->aZ K m μ' H' ρ' σ'->D.ct σ' H'
 | .err x S'=>∀μ' H',Ext μ H μ' H'->aK K m μ' S' H'->An m.mg E x H'
 | .fail=>False
noncomputable def tS(K:Fg)(m:Mg)(E:XK)(Φ:FT)(Γ:Str->Option D)(c:CS):TS:=λD σ H=>∃F μ ρ S,aK K ⟨m,F⟩ μ S H/\aZ K ⟨m,F⟩ μ H ρ σ/\aC K ⟨m,F⟩ E D μ H (ar Φ Γ c ρ S)
noncomputable def kN(K:Fg)(m:Mg)(E:XK)(Φ:FT)(Γ:Str->Option D)(cs:List CS):TS:=λD σ H=>∃F μ ρ S,aK K ⟨m,F⟩ μ S H/\aZ K ⟨m,F⟩ μ H ρ σ/\aC K ⟨m,F⟩ E D μ H (ag Φ Γ cs ρ S)
section
variable {mg:GS}{E:XK}{D D':Ends}
theorem aC.ext{r:Res Fl}(x:Ext μ H μ' H')(w:aC K mg E D μ H r):aC K mg E D μ' H' r:=by
 cases r with
 |ok f S=>
  cases f with
  |next a=>exact λm h s y=>w m h s (x.trans y)
  |ret d=>exact λm h s y=>w m h s (x.trans y)
  |brk a=>exact λm h s y=>w m h s (x.trans y)
  |cont a=>exact λm h s y=>w m h s (x.trans y)
 |err z S=>exact λm h y=>w m h (x.trans y)
 |fail=>exact w
theorem aC.bind{Rel:La->Hp->α->β->Prop}{r:Res α}{f:α->af->Res Fl}(w:aC K mg E D μ H (r.bind f)):
  ak K mg E Rel μ H (λb H'=>∃μ' S' a,Ext μ H μ' H'/\aK K mg μ' S' H'/\Rel μ' H' a b/\aC K mg E D μ' H' (f a S')) r:=by
 cases r with
 |ok a S'=>exact λc d b x s r=>⟨_,_,a,x,s,r,aC.ext x (show aC K _ E D _ H _ from w)⟩
 |err y S'=>exact w
 |fail=>exact w
theorem aC.seq{r:Res Fl}{f:bv->af->Res Fl}{N:L2.St->Hp->Prop}(w:aC K mg E D μ H (r.bind λF S1=>match F with
   | .next ρ'=>f ρ' S1
   |F=>.ok F S1)) (b:∀μ' H' σ' ρ' S',Ext μ H μ' H'->aK K mg μ' S' H'->aZ K mg μ' H' ρ' σ'->aC K mg E D μ' H' (f ρ' S')->N σ' H'):aC K mg E {D with nx:=N} μ H r:=by
 cases r with
 |ok F S=>
  cases F with
  |next a=>exact λm h s x k e=>b m h s _ S x k e (aC.ext x (show aC K _ E D _ H _ from w))
  |ret d=>exact w
  |brk a=>exact w
  |cont a=>exact w
 |err z S=>exact w
 |fail=>exact w
end
theorem cm{t t':TS}(h:PS X st t)(w:∀D σ H,t' D σ H->t D σ H):PS X st t':=λp s σ H D I q=>h _ s _ H D I (w D _ H q)
theorem kO{st:List Qi}{t t':TS}(h:eL X st t)(w:∀D σ H,t' D σ H->t D σ H):eL X st t':=λp s σ H D I q=>h _ s _ H D I (w D _ H q)
noncomputable def f':Expr->Bool
 | .ListComp .. =>Oy
 | .SetComp .. =>Oy
 | .DictComp .. =>Oy
 |_=>Ox
noncomputable def vH:Expr->Bool
 | .ListComp .. =>Ox
 |_=>Oy
noncomputable def vI(s:Sc)(x:Str):Bool:=s.lookup x==some .local||s.lookup x==some .cell
noncomputable def NE(s:Sc)(x:Str)(p:Pos)(v:Expr):Bool:=s.lookup x==some .local&&(p.line==(vw v).pos.line&& !((vw v).sc.names.any λ(n,k)=>n==x&&(k== .local||k== .cell)))
noncomputable def dS:Qi:=.Pass ⟨0,0,0,0⟩
set_option genInjectivity false in
structure Od where
 e0:Expr:=dE
 e1:Expr:=dE
 a:List Qi:=[]
 b:List Qi:=[]
 pos:Pos:=⟨0,0,0,0⟩
 hp:Pos:=⟨0,0,0,0⟩
noncomputable def vs:Qi->Od
 | .Assign ts v p=>{e0:=ts.headD dE,e1:=v,pos:=p}
 | .AugAssign t _ v p=>{e0:=t,e1:=v,pos:=p}
 | .Expr v p=>{e0:=v,pos:=p}
 | .Return v p=>{e0:=v.getD dE,pos:=p}
 | .Pass p=>{pos:=p}
 | .Break p=>{pos:=p}
 | .Continue p=>{pos:=p}
 | .If t x y p=>{e0:=t,a:=x,b:=y,pos:=p}
 | .For t i x _ p=>{e0:=t,e1:=i,a:=x,pos:=p}
 | .While t x _ p=>{e0:=t,a:=x,pos:=p}
 | .Raise v _ p=>{e0:=v.getD dE,pos:=p}
 | .Try x [.ExceptHandler t _ y hp] _ _ p=>{e0:=t.getD dE,a:=x,b:=y,pos:=p,hp:=hp}
 |_=>{}
noncomputable def Cc(o i:CE)(N:Ls)(e:Expr):Expr:=.Subscript (aY o N (vw e).e0) (aY i N (vw e).e1) (vw e).pos
noncomputable def Cd(o i:CE)(N:Ls)(s:Sc)(e:Expr):Bool:=iX (aY i N (vw e).e1)&&(bD o N s (vw e).e0&&bD i N s (vw e).e1)
noncomputable def J7(nb:Option (Str×Nat×Pos×Pos))(e:Expr):Expr:=match nb with
 |none=>e
 |some (x,k,p,q)=>.List [.Constant (.str x) k p,e] q
noncomputable def jd(nb:Option (Str×Nat×Pos×Pos))(p n y:Str)(t np vp c r h:Pos):Sj:=.ExceptHandler (some (.Name p t)) (some n) [.Return (some (J7 nb (.Call (.Name y np) [.Name n vp] [] c))) r] h
mutual
noncomputable def jL:CS->Ls->Qi->Qi
 | .asg i e,N,st=>.Assign [.Name (N.getD i "") (vw (vs st).e0).pos] (aY e N (vs st).e1) (vs st).pos
 | .asgT t e,N,st=>.Assign [iY t N (vs st).e0] (aY e N (vs st).e1) (vs st).pos
 | .set o i v,N,st=>.Assign [Cc o i N (vs st).e0] (aY v N (vs st).e1) (vs st).pos
 | .expr e,N,st=>.Expr (aY e N (vs st).e0) (vs st).pos
 | .ret e,N,st=>.Return (some (aY e N (vs st).e0)) (vs st).pos
 | .retN,_,st=>.Return none (vs st).pos
 | .pass,_,st=>.Pass (vs st).pos
 | .brk,_,st=>.Break (vs st).pos
 | .cont,_,st=>.Continue (vs st).pos
 | .ite c a b,N,st=>.If (aY c N (vs st).e0) (cA a N (vs st).a) (cA b N (vs st).b) (vs st).pos
 | .for_ t it body,N,st=>.For (iY t N (vs st).e0) (uQ it N (vs st).e1) (cA body N (vs st).a) [] (vs st).pos
 | .while_ _ c body,N,st=>.While (aY c N (vs st).e0) (cA body N (vs st).a) [] (vs st).pos
 | .never,_,st=>st
 | .raise_ x es,N,st=>.Raise (some (.Call (.Name x (vw (vw (vs st).e0).e0).pos) (dX es N (vw (vs st).e0).es) [] (vw (vs st).e0).pos)) none (vs st).pos
 | .tryK i body f _ _,N,st=>.Try (cA body N (vs st).a) [jd none "PairError" (N.getD i "") f (vw (vs st).e0).pos (vw (vw (vs ((vs st).b.headD dS)).e0).e0).pos (vw ((vw (vs ((vs st).b.headD dS)).e0).es.headD dE)).pos (vw (vs ((vs st).b.headD dS)).e0).pos (vs ((vs st).b.headD dS)).pos (vs st).hp] [] [] (vs st).pos
 | .tryN x i body f _ _,N,st=>.Try (cA body N (vs st).a) [jd (some (x,(vw ((vw (vs ((vs st).b.headD dS)).e0).es.headD dE)).k,(vw ((vw (vs ((vs st).b.headD dS)).e0).es.headD dE)).pos,(vw (vs ((vs st).b.headD dS)).e0).pos)) "PairError" (N.getD i "") f (vw (vs st).e0).pos (vw (vw ((vw (vs ((vs st).b.headD dS)).e0).es.getD 1 dE)).e0).pos (vw ((vw ((vw (vs ((vs st).b.headD dS)).e0).es.getD 1 dE)).es.headD dE)).pos (vw ((vw (vs ((vs st).b.headD dS)).e0).es.getD 1 dE)).pos (vs ((vs st).b.headD dS)).pos (vs st).hp] [] [] (vs st).pos
noncomputable def cA:List CS->Ls->List Qi->List Qi
 | [],_,_=>[]
 |c::cs,N,st=>jL c N (st.headD dS)::cA cs N st.tail
end
noncomputable def kP:Expr->Bool
 | .Tuple xs _ _=>xs.all (foldedForSure 8)
 |_=>Ox
noncomputable def kQ(s:Sc):Expr->Bool
 | .Tuple ts _ _=>ts.any fun
  | .Name id _=>s.lookup id==some .cell
  |_=>Oy
 |_=>Oy
mutual
noncomputable def yt:CS->Ls->Sc->Qi->Bool
 | .asg i e,N,sc,st=>N[i]?==some (N.getD i "")&&(vI sc (N.getD i "")&&(bD e N sc (vs st).e1&&(f' (aY e N (vs st).e1)||(kh e&&(sc.lookup (N.getD i "")==some .cell||NE sc (N.getD i "") (vw (vs st).e0).pos (aY e N (vs st).e1))))))
 | .asgT t e,N,sc,st=>oj t&&((kP (aY e N (vs st).e1)||kQ sc (iY t N (vs st).e0))&&(f' (aY e N (vs st).e1)&&(sf (λ_=>Ox) N sc t&&bD e N sc (vs st).e1)))
 | .set o i v,N,sc,st=>Cd o i N sc (vs st).e0&&(f' (aY v N (vs st).e1)&&bD v N sc (vs st).e1)
 | .expr e,N,sc,st=>f' (aY e N (vs st).e0)&&bD e N sc (vs st).e0
 | .ret e,N,sc,st=>bD e N sc (vs st).e0
 | .retN,_,_,_=>Ox
 | .pass,_,_,_=>Ox
 | .brk,_,_,_=>Ox
 | .cont,_,_,_=>Ox
 | .ite c a b,N,sc,st=>bD c N sc (vs st).e0&&(eO a N sc (vs st).a&&eO b N sc (vs st).b)
 | .for_ t it body,N,sc,st=>sf (λ_=>Ox) N sc t&&(Ap it N sc t (vs st).e1&&(oh (uQ it N (vs st).e1)&&eO body N sc (vs st).a))
 | .while_ _ c body,N,sc,st=>bD c N sc (vs st).e0&&eO body N sc (vs st).a
 | .never,_,_,_=>Ox
 | .raise_ x es,N,sc,st=>bh sc x&&(fF es N sc (vw (vs st).e0).es&&(0<es.length&&(dX es N (vw (vs st).e0).es).all bA))
 | .tryK i body f _ _,N,sc,st=>N[i]?==some (N.getD i "")&&(sc.lookup (N.getD i "")==some .local&&(eM (N.getD i "")&&(bh sc "PairError"&&(bh sc f&&eO body N sc (vs st).a))))
 | .tryN _ i body f _ _,N,sc,st=>N[i]?==some (N.getD i "")&&(sc.lookup (N.getD i "")==some .local&&(eM (N.getD i "")&&(bh sc "PairError"&&(bh sc f&&eO body N sc (vs st).a))))
noncomputable def eO:List CS->Ls->Sc->List Qi->Bool
 | [],_,_,_=>Ox
 |c::cs,N,sc,st=>yt c N sc (st.headD dS)&&eO cs N sc st.tail
end
section
variable {E:XK}{k:Nat}{pos:Pos}
theorem kR{v:Expr}{o:Option Expr}(h:f' v=Ox):swapsWith v o line env=pure Oy:=by cases v<;>first|rfl|cases h
theorem Ce(O:cN X cell N sc CX E Φ Γ k):X.env.blockKind=.function:=by unfold Env.blockKind;rw[O.kd];rfl
theorem pd(O:cN X cell N sc CX E Φ Γ k){v:Expr}{x:Str}{p:Pos}(h:vH v=Ox)(H:sc.lookup x=some .cell):swapsWith v (some (.Name x p)) line X.env=pure Oy:=by
 have e:X.env.kindOf x=some .cell:=by show X.env.scope.names.lookup x=_;rw[O.sc];exact H
 cases v<;>first| (cases h)|skip
 show(pure _)=pure _;have a:(some OL==some NameKind.local)=Oy:=by rfl
 lia
theorem vJ(O:cN X cell N sc CX E Φ Γ k){e:Expr}{g:List OU}{p:Pos}{x:Str}(h:NE sc x p (.ListComp e g scope vp)=Ox):swapsWith (.ListComp e g scope vp) (some (.Name x p)) line X.env=pure Ox:=by
 obtain⟨c,h⟩:=ae h;obtain⟨d,f⟩:=ae h;have b:X.env.kindOf x=some .local:=by show X.env.scope.names.lookup x=_;rw[O.sc];exact beq_iff_eq.mp c
 unfold swapsWith;show(pure (X.env.blockKind== .function&&X.env.kindOf x==some .local&&p.line==vp.line&& !_):Sem Bool)=pure Ox;rw[Ce O,b,show(p.line==vp.line)=Ox from d];have H:(!(scope.names.any λa=>match a with| (n,k)=>n==x&&(k== .local||k== .cell)))=Ox:=f
 first|rw[H];rfl|simp_all
theorem vK(O:cN X (λ_=>Ox) N sc CX E Φ Γ k){x:Str}(h:vI sc x=Ox):L2.Loc X.env.scope x:=by unfold L2.Loc;rw[O.sc];unfold vI at h;simpa using h
theorem Cf{D:Ends}{i:Nat}{e:CE}(h:tS X.K X.mg E Φ Γ (.asg i e) D σ H):tE X.K X.mg E Φ Γ e σ H λv H1=>D.nx (σ.set i (some v)) H1:=by obtain⟨F,g,j,S,b,a,w⟩:=h;exact⟨F,_,_,S,b,a,(aC.bind w).mono λv H1 z=>ay z λc f d x s r W=>W _ _ _ .refl s ((a.mono x).set r)⟩
theorem J8{e:CE}(h:kh e=Ox):∃box N fr tg it ifs body,e=.comp box N fr tg it ifs body:=by
 unfold kh at h;split at h
 ·exact⟨_,_,_,_,_,_,_,rfl⟩
 ·cases h
theorem Cg(O:cN X (λ_=>Ox) N sc CX E Φ Γ k){i:Nat}{e:CE}(h:yt (.asg i e) N sc st=Ox):PS X (jL (.asg i e) N st) (tS X.K X.mg E Φ Γ (.asg i e)):=by
 obtain⟨d,h⟩:=ae h;obtain⟨r,h⟩:=ae h;obtain⟨m,b⟩:=ae h;have d:=beq_iff_eq.mp d
 have p:swapsWith (aY e N (vs st).e1) (some (.Name (N.getD i "") (vw (vs st).e0).pos)) (vs st).pos.line X.env=pure Oy->PS X (jL (.asg i e) N st) (tS X.K X.mg E Φ Γ (.asg i e)):=λt=>
  cm (jS (i:=i) (by rw[O.n];exact O.nd) (by rw[O.n];exact d) (vK O r) (aM e O m) t (.inl (O.fn _ rfl))) λD M H q=>Cf q
 rcases RS.mp b with b|b
 ·exact p (kR b)
 ·obtain⟨b,c⟩:=ae b;obtain⟨box,o,P,T,it,I,body,rfl⟩:=J8 b;rcases RS.mp c with c|c
  ·exact p (pd O rfl (beq_iff_eq.mp c))
  ·have l:=vJ O (line:=(vs st).pos.line) c;have u:X.env.scope.names.lookup (N.getD i "")=some .local:=by rw[O.sc];exact beq_iff_eq.mp (ae c).1
   obtain⟨K,h⟩:=ae m;obtain⟨v,h⟩:=ae h;obtain⟨w,h⟩:=ae h;obtain⟨x,h⟩:=ae h;obtain⟨y,h⟩:=ae h;obtain⟨z,h⟩:=ae h;obtain⟨B,G⟩:=ae h;have s:=B3 O K
   refine cm (nQ (N:=o) (j:=i) (g:=sv X.K T) (tb:=tC X.K X.mg oL Φ Γ I body) O.calm (by rw[O.n];exact O.nd) (by rw[O.n];exact d) u l s (B4 O v) (pc it O y kL) (λA a=>fj _ a>>=λok=>if ok=Ox then bw (yr Oy _ _ _ _) (F7 Oy _ _ a) (_::_) 0 (.ref A) a else pure ())
    (λit A a=>vx (kd:=Oy) rfl) (λC S n F A=>?_) (o3 z)) λD M H q=>ku (tg0:=.Name (N.getD i "") (vw (vs st).e0).pos) (Cf q)
   have f:=B5 O s.kind w C S n F;exact⟨kr f x,u5 (o_ I f B) (vG body (kd:=Oy) f rfl rfl G)⟩
end
def yu(h:OI)(H:Hp)(h':OI)(e:OA)(cls:OB):Prop:=
 ∃o vs a0 T O ts,h'.get? e=some o/\(o.cls=cls/\vs[0]?=some a0)/\o.data=.fields vs/\vs[1]?=some (.ref T)/\T≠e/\h'.get? T=some O/\O.data=.fields ts/\ts[3]?=some .none/\(h.get? e=none/\h.get? T=none)/\H e=none/\H T=none
noncomputable def bz(P:OF)(w:ON):dJ:=λouter H s E v s'=>∃e cls H',v=.ref e/\s'.os=s.os/\Rk s'.gens/\Un (bW outer) [] H H' s.heap s'.heap/\er P w H' s'.heap/\E cls none H'/\yu s.heap H' s'.heap e cls
theorem sM{P:OF}(o:List Env)(H:Hp)(s:Oz)(e:OB)(S:Oz)(z:bz P w o H s E0 e S):False:=by obtain⟨_,_,_,_,_,_,_,_,q,_⟩:=z;exact q
theorem vL{P:OF}{o:HO}(x:bg P w H h a o):∃u,h.get? a=some u:=by
 cases o with
 |lst X=>obtain⟨_,_,_,_,e⟩:=x;exact⟨_,e⟩
 |tup X=>obtain⟨_,_,_,_,u,e,_⟩:=x;exact⟨_,e⟩
 |dK k=>obtain⟨_,_,_,_,o,_,_,e,_⟩:=x;exact⟨_,e⟩
 |dT k=>obtain⟨_,_,_,_,o,_,_,e,_⟩:=x;exact⟨_,e⟩
 |set S n=>obtain⟨o,_,_,_,e,_⟩:=x;exact⟨_,e⟩
 |ins C d fs=>obtain⟨_,_,_,e,_⟩:=x;exact⟨_,e⟩
 |own y=>obtain⟨_,e⟩:=x;exact⟨_,e⟩
 |xd fs=>obtain⟨_,⟨_,_,_,e,_⟩,_⟩:=x;exact⟨_,e⟩
 |rng lo b=>obtain⟨_,_,_,e⟩:=x;exact⟨_,e⟩
 |frz O u=>obtain⟨e,_⟩:=x;exact⟨_,e⟩
 |tbl p=>exact⟨_,show h.get? a=some _ from x⟩
 |met f y=>exact⟨_,show h.get? a=some _ from x⟩
 |ext c=>obtain⟨_,e,_⟩:=x;exact e
section
variable {s3:Oz}{e T:OA}{B:OI}{E:XK}
theorem Ch(I:Inv X pq σ H' s2)(x:X.ex=[])(A:X.stack=X.env::X.outer)(D:∀b o,s2.heap.get? b=some o->b∉bW X.stack->b≠e->b≠T->B.get? b=some o)
  (G:X.s₀.heap.get? e=none/\X.s₀.heap.get? T=none) (C:H' e=none/\H' T=none) (F:Tc B X.outer e cls a0 h') (up:s2.heap.UpToSlots h') (q:E cls none H')
  (J:s3.os=s2.os) (K:s3.gens=s2.gens) (L:s3.heap=h'):bz X.prog X.w X.outer X.H₀ X.s₀ E (.ref e) s3:=by
 have U:=I.base;rw[x]at U;have m:∀b,b∈bW X.stack->∃o,s2.heap.get? b=some o/\∀vs,o.data≠.fields vs:=λb f=>(I.stack.mem f).2;have k:∀b o,s2.heap.get? b=some o->b∉bW X.stack->b≠e->b≠T->h'.get? b=some o:=λb o h H c g=>F.1 b o (D b o h H c g);have old:∀b o,X.s₀.heap.get? b=some o->b≠e/\b≠T:=λb o h=>⟨λz=>(by grind),λz=>(by grind)⟩
 have nl:∀b o,X.s₀.heap.get? b=some o->b∉bW X.outer->b∉bW X.stack:=λb o h H c=>by
  rcases Zh.mp (I.stkSub b c)with z|z
  ·have:=Zm h;rw[z]at this;exact absurd this (QX.mpr I.ok.above)
  ·exact H z
 have sub:∀b∈bW X.outer,b∈bW X.stack:=λb f=>by rw[A];obtain⟨N,h,H⟩:=Z0.mp f;exact Z0.mpr ⟨N,Zc _ h,H⟩
 have t:∀b o,s2.heap.get? b=some o->b≠e->b≠T->∃O,h'.get? b=some O:=λb o h H c=>by
  by_cases f:b∈bW X.stack
  ·obtain⟨o1,g,i⟩:=m b f;obtain⟨sl,l⟩:=up b o1 g i;exact⟨_,l⟩
  ·exact⟨o,k b o h f H c⟩
 have Z:Un (bW X.outer) [] X.H₀ H' X.s₀.heap h':=by
  refine⟨λb o h H c g=>k b o (U.keep b o h H c g) (nl b o h c) (old b o h).1 (old b o h).2,λb o h H c g=>?_,U.free,λb o h H=>?_,U.tups,U.frzs,U.tbls⟩
  ·obtain⟨sl,i⟩:=U.slot b o h H c g;obtain⟨o1,l,v⟩:=m b (sub b c);rw[i]at l;cases l;obtain⟨S,w⟩:=up b _ i v;exact⟨S,w⟩
  ·obtain⟨O,i⟩:=U.there b o h H;exact t b O i (old b o h).1 (old b o h).2
 have s:∀b u,H' b=some u->b∉bW X.stack/\b≠e/\b≠T:=λb u h=>
  ⟨λz=>(by rw[I.stkFree b z]at h;cases h),λz=>(by grind),λz=>(by grind)⟩
 have R:er X.prog X.w H' h':=λa o M=>(I.hok a o M).stay (λb u f h=>by grind) (λ_ q=>q) λ_ _ q=>q;obtain⟨k1,k2,k3,W,vs,d,V,Y,h,H,c,g,i,l,v,w,P⟩:=F
 have gP:∀o,s2.heap.get? d=some o->d=T:=λo y=>by
  refine Classical.byContradiction λQ=>?_;by_cases f:d∈bW X.stack
  ·obtain⟨o1,j,p⟩:=m d f;obtain⟨sl,r⟩:=up d o1 j p;rw[v]at r;cases r;exact p _ w
  ·rw[D d o y f l Q]at i;cases i
 refine⟨e,cls,H',rfl,by rw[J];exact I.os,by rw[K];exact I.bare,by grind,by grind,q,?_⟩;rw[L];refine⟨W,vs,a0,d,V,Y,h,H,c,g,l,v,w,P,⟨G.1,?_⟩,C.1,?_⟩
 ·cases n:X.s₀.heap.get? d with
  |none=>rfl
  |some o=>obtain⟨O,j⟩:=U.there d o n (by simp);rw[gP O j,G.2]at n;cases n
 ·cases n:H' d with
  |none=>rfl
  |some u=>obtain⟨o,y⟩:=vL (I.hok d u n);rw[gP o y,C.2]at n;cases n
theorem Ci{l:List Env}(f:yu h0 Hx h e cls)(t:h.FunFrames base l):∃T a0,(h0.get? e=none/\h0.get? T=none)/\(Hx e=none/\Hx T=none)/\Tc (PySem.W.hideAll h (e::T::bW l)) l e cls a0 h:=by obtain⟨u,vs,a0,T,O,v,d,g,i,j,k,m,n,p,H,c⟩:=f;exact⟨T,a0,H,c,λb o q=>PySem.W.of_hideAll _ q,PySem.W.hideAll_none _ (by simp),PySem.W.funFrames_hide t (λE s a r=>Zc _ (Zc _ (Z0.mpr ⟨E,s,r⟩))),u,vs,T,O,v,d,g,i,j,PySem.W.hideAll_none _ (by simp),k,m,n,p⟩
theorem Cj{l:List Env}:∀b o,h.get? b=some o->b∉bW l->b≠e->b≠T->(PySem.W.hideAll h (e::T::bW l)).get? b=some o:=λb o H a c d=>
 PySem.W.hideAll_get _ H λf=>by grind
theorem Ck{v:OB}(I:Inv X pq σ H s)(c:bz X.prog X.w X.stack H s E v s2)(a:X.ex=[]):∃e cls H',v=.ref e/\Inv X pq σ H' s2/\E cls none H'/\yu s.heap H' s2.heap e cls:=by obtain⟨e,cls,H',rfl,o,B,un,h,q,f⟩:=c;exact⟨e,cls,H',rfl,I.call' o un h B (λb z=>absurd z (by simp_all)),q,f⟩
theorem yu.old(f:yu h0 Hx h e cls)(t:∀b o,h1.get? b=some o->∃o',h0.get? b=some o'):yu h1 Hx h e cls:=by
 obtain⟨r,vs,a,T,O,s,c,d,i,j,k,l,m,p,g,G⟩:=f
 have n:∀b,h0.get? b=none->h1.get? b=none:=λb H=>by
  cases q:h1.get? b with
  |none=>rfl
  |some o=>obtain⟨o',E⟩:=t b o q;simp_all
 exact⟨r,vs,a,T,O,s,c,d,i,j,k,l,m,p,⟨n _ g.1,n _ g.2⟩,G⟩
end
section
variable {E:XK}
def mw(X:Cx)(E:XK):Prop:=X.ex=[]/\X.stack=X.env::X.outer/\X.env.frame=some X.env.locals/\X.xe=λe s'=>wpAny (model X.prog X.w) X.A (leaving X.env e) (λ_ s=>bz X.prog X.w X.outer X.H₀ X.s₀ E e s) (λa s=>bz X.prog X.w X.outer X.H₀ X.s₀ E a s) s'
theorem mw.of{P:OF}{E:XK}:mw (fZ (bz P w) P w K mg base N qual scope f cd A outer s H E) E:=
 ⟨rfl,rfl,rfl,rfl⟩
theorem mw.own(L:mw X E):RB (model X.prog X.w) X.A X.env X.xe:=by rw[L.2.2.2];exact PassesOwn.leaving
theorem mw.pass(L:mw X E):jW (bz X.prog X.w) X E:=by intro P r H s v S I c;obtain⟨a,h,k,d⟩:=L;obtain⟨e,cls,l,rfl,g,q,f⟩:=Ck I c a;obtain⟨T,A,n,N,i⟩:=Ci (f.old (h1:=X.s₀.heap) λb o j=>I.base.there b o j (by simp_all)) (h▸g.stack);rw[d];exact wpAny_leaves_onW (by rw[I.ok.frames,h]) k i λm F up=>Ch (T:=T) g a h (by rw[h];exact Cj) n N F up q rfl rfl rfl
theorem mw.made{e:OA}(L:mw X E)(I:Inv X pq σ H s)(m:SI s.heap h2 e (.ref C) args)(q:E (.ref C) none H):X.xe (.ref e) {s with heap:=h2}:=by
 obtain⟨g,c,w,j⟩:=L;rw[j];refine wpAny_leaves_madeW (base:=PySem.W.hideAll s.heap (bW X.stack)) (h:=s.heap) (by rw[I.ok.frames,c]) w (λb o z=>PySem.W.of_hideAll _ z) (PySem.W.funFrames_hide (c▸I.stack) (by rw[c];exact λf v a r=>Z0.mpr ⟨f,v,r⟩)) m λx t F y B up=>?_
 have ne:X.s₀.heap.get? e=none:=by
  cases i:X.s₀.heap.get? e with
  |none=>rfl
  |some o=>obtain⟨O,d⟩:=I.base.there e o i (by simp_all);rw[m.new]at d;cases d
 have n:H e=none:=by
  cases i:H e with
  |none=>rfl
  |some u=>obtain⟨o,l⟩:=vL (I.hok e u i);rw[m.new]at l;cases l
 exact Ch (T:=e) I g c (λb o p h2 _ _=>PySem.W.hideAll_get _ p h2) ⟨ne,ne⟩ ⟨n,n⟩ F ((R4 m.keeps).trans up) q rfl rfl rfl
end
noncomputable def kS:Lv:=[.type "ValueError",.type "Exception",.type "BaseException",.type "object"]
section
variable {E:XK}{x:Str}
end
open PySem PySem.Spec PySem.Calls PyProof.Rows PySem.W
def vM(x C:OA)(h:OI):Prop:=∃o,h.get? x=some o/\o.cls=.ref C
theorem vM.type{x:OA}(I:vM x C h):Looks M h (typeOf (.ref x)) (.ref C):=by obtain⟨o,H,a⟩:=I;exact a▸(Looks.ld H).andThen .now
theorem J9{Q:Unit->Oz->Prop}{x:OA}{n:OB}(L:Looks M s.heap (typeOf (.ref x)) (.ref C))(c:Looks M s.heap (isSubtype (.ref C) (.type "BaseException")) Ox)(a:Q () s):
  wpAny M A (checkBuiltinCall "BaseException.__getattribute__" ⟨[.ref x,n],[]⟩) Q E s:=by
 have f:builtinKind "BaseException.__getattribute__"=some .slot:=by decide+kernel
 have h:splitId "BaseException.__getattribute__"=some ("BaseException","__getattribute__"):=by decide+kernel
 have b:=PySem.F.args_bexc_ga (.ref x) n;obtain⟨i,g,d,t,o⟩:=s;simp only[checkBuiltinCall,f,h];refine Za ?_;unfold isInstance;refine Za (L.at (c.at ?_));simp only[SW,Zw,Z3];cases H:Manifest.signature? "BaseException.__getattribute__" with
 |none=>exact Ze a
 |some S=>simp only[argsOk,H]at b;have e:Bind.checkArgs "BaseException.__getattribute__" S ⟨[.ref x,n],[]⟩=pure ():=b;show wpAny M A (Bind.checkArgs "BaseException.__getattribute__" S ⟨[.ref x,n],[]⟩) Q E _;rw[e];exact Ze a
section
variable {x:OA}
theorem pf{T:OB}{R:RL->Oz->Prop}(X:K.In s.heap)(I:vM x C s.heap)(H:mroIn K C (.type "object")=some Ox)
  (h:R (.ok (.ret (.ref C))) s):codeAny (model prog w) A (.call (.builtin "getset_descriptor.__get__") ⟨[.builtin "object.__class__",.ref x,T],[]⟩) R s:=by
 obtain⟨b,g,d,t,o⟩:=s;have L:=I.type (M:=model prog w);have a:=looks_mroIn (M:=model prog w) X H;refine QP KF.slot_gs.plain KF.entry_gs (KF.slot_gs.check _ _ _ _ _ _ _ _ KF.type_class (KF.args_gs _ _ _) ?_);unfold PF.«getset_descriptor.__get__» S0;rw[dga_obj];refine Za (Ze ?_);unfold S6 S8 S9 isInstance;simp only[KF.owner_class]
 repeat lk
 refine⟨RY _ (by decide+kernel),PJ KF.entry_class ?_⟩;unfold PF.«object.__class__» shownTypeOf
 repeat lk
 exact h
structure kT (K:Fg)(C:OA):Prop where
 cls:∃cd,clsIn K C=some cd
 ga:findIn K (.ref C) "__getattribute__"=some (some (.builtin "BaseException.__getattribute__"))
 gn:findIn K (.ref C) "__getattr__"=some none
 at_:findIn K (.ref C) "__class__"=some (some (.builtin "object.__class__"))
 ob:mroIn K C (.type "object")=some Ox
 be:mroIn K C (.type "BaseException")=some Ox
 sp:specialIn K (.builtin "object.__class__") "__get__"=some (some (.builtin "getset_descriptor.__get__"))
 tk:takesIn K (.builtin "object.__class__")=some Ox
theorem J_{Q:Ov->Oz->Prop}(Z:kT K C)(X:K.In s.heap)(I:vM x C s.heap)(h:Q (some (.ref C)) {s with toks:=s.toks+1}):wpAny (model prog w) A (getAttr? (.ref x) "__class__") Q E s:=by
 obtain⟨H,g,d,t,o⟩:=s;have L:=I.type (M:=model prog w);have b:=looks_findIn (M:=model prog w) X Z.ga;have L2:=looks_findIn (M:=model prog w) X Z.gn
 have c:Looks (model prog w) H (Uy (.ref x) (.ref C) "__class__") (.bind (.builtin "getset_descriptor.__get__") (.builtin "object.__class__")):=
  (looks_findIn (M:=model prog w) X Z.at_).andThen ((looks_specialIn X Z.sp).andThen
   ((show Looks (model prog w) H (Uz (some (.builtin "object.__class__")) (some (.builtin "getset_descriptor.__get__"))) (some (.builtin "getset_descriptor.__get__",.builtin "object.__class__"))from(looks_takesIn (M:=model prog w) X Z.tk).andThen .now).andThen (Looks.tag .now)))
 have e:=looks_mroIn (M:=model prog w) X Z.be;unfold getAttr? getAttrBy? getAttrBy;refine Za (wpAny_mkText (Za (QN (ZL (Za (L.at (Za (b.at ?_))))))));show wpAny _ _ (getAttrByItsOwn _ _ _ _ _ _) _ _ _;unfold getAttrByItsOwn hookBefore;refine Za ?_;show wpAny _ _ (typeLookup (.ref C) "__getattr__") _ _ _;refine L2.at ?_;refine Za (QN (ZL ?_));show wpAny _ _ (boundAndCalled _ _ _) _ _ _;unfold boundAndCalled;have a:bindSpecial (.builtin "BaseException.__getattribute__") (.ref x)=pure (.builtin "BaseException.__getattribute__",[.ref x]):=PySem.F.attr_ValueError.ga.bind _;rw[a];refine Za (Ze ?_);refine Sk (QP PySem.F.attr_ValueError.ga.plain PySem.F.entry_bexc_ga (J9 (s:=⟨H,g,d,t+1,o⟩) L e ?_));unfold PF.«object.__getattribute__»;refine Za (Ze ?_);refine Za (Ze ?_);refine Za (L.at (Za (c.at ?_)));show wpAny _ _ (RE _ _ _ _) _ _ _;unfold RE
 repeat(any_goals (first|assumption|wp_step))
 refine pf (s:=⟨H,g,d,t+1,o⟩) X I Z.ob ?_
 repeat(any_goals (first|assumption|wp_step))
theorem J'(Z:kT K C):KitX K (.ref x) (.ref C) (vM x C) where
 ty:=λ_ _ _ I=>I.type
 it:=λ_ _ X _=>by
  obtain⟨cdD,hcD⟩:=Z.cls;unfold clsIn at hcD;split at hcD
  ·rename_i c' d' cd' sl' ho;intro A' Q' E' s' k q;unfold isType loadHead;exact Za (wpAny_loadPart (k _ _ (X _ _ ho)) (Ze q))
  ·cases hcD
 ne:=λh tp dd its n sl X htp=>by
  obtain⟨cdD,hcD⟩:=Z.cls;refine R8.mpr λq=>?_;have e:C=tp:=Value.ref.inj (beq_iff_eq.mp q);subst e;unfold clsIn at hcD;split at hcD
  ·rename_i c' d' cd' sl' ho;have z:=(X _ _ ho).symm.trans htp;cases z
  ·cases hcD
 ca:=λX I k=>J_ Z X I k
end
section
variable {x:OA}
noncomputable def d0(x C:OA):HO:=.ext (vM x C)
theorem pg{P:OF}(i:vM x C h):bg P w H h x (d0 x C):=
 ⟨i,let⟨o,e,_⟩:=i;⟨o,e⟩,λa b ⟨o,e,c⟩ k=>⟨o,k o e,c⟩⟩
theorem Cm{D:OB}{b:Bool}(Z:kT X.K C)(e:kitOne X.K (.ref C) D=some b):bn X (.builtin "isinstance") (λxs H Q=>∃v,xs=[.ref x,v]/\RelV v D/\(∀u,RelV v u->u=D)/\H x=some (d0 x C)/\Q (.bl b) H):=by
 intro p s j H vs U Q I r h;obtain⟨v,rfl,g,a,c,q⟩:=h;cases r with
 |cons R d=>
  cases d with
  |cons f r4=>cases r4;cases R;rw[a _ f];obtain⟨i,_,_⟩:=(show bg X.prog X.w H s.heap x (d0 x C)from I.hok x _ c);exact kia_one (J' Z) I.kIn i e (λz=>nomatch z) λt=>⟨.bl b,H,I.kept (t':=t) λb o e=>e,rfl,q⟩
end
end Py
namespace Py
open PySem PySem.Spec PySem.SeqAt PyProof.Rows L2
def Sub(H a:Hp):Prop:=∀b o,H b=some o->a b=some o
theorem Sub.refl:Sub H H:=λ_ _ h=>h
theorem Sub.laid{p:OA}{o:HO}(s:Sub H H')(c:H' p=none):Sub H (ba H' p o):=λb u h=>by have a:=s b u h;rw[aI (λz=>by rw[z,c]at a;cases a)];exact a
theorem vN:∀{bs:List Bool} {us:Lv},Vals (bs.map V.bl) us->us=bs.map QA
 | [],_,.nil=>rfl
 |b::bs,_,.cons r t=>by rw[vN t,show _=QA b from r];rfl
theorem Cn(bs:List Bool)(A:Pf)(s:Oz):∀y,y∈(bs.map QA).toArray->EqAt A s y (.bool Ox) (isBoolOf Ox y):=λy h=>by obtain⟨b,_,rfl⟩:=Zs.mp (List.mem_toArray.mp h);exact EqAt.bool_bool b Ox
theorem Ka:jX X "list.count" (λx xs H Q=>∃(l:OA) (bs:List Bool),x=.ref l/\xs=[.bl Ox]/\H l=some (.lst (bs.map V.bl))/\Q (.int (bs.count Ox:Nat)) H):=by
 intro p s j H x xs v u Q I g d h;obtain⟨l,bs,rfl,rfl,c,q⟩:=h;subst g;cases d with
 |cons r R=>
  cases R;subst r;obtain⟨_,i,n,f,a⟩:=(show bg X.prog X.w H s.heap l (.lst (bs.map V.bl))from I.hok l _ c);rw[vN f]at a;refine P6 PySem.F.slot_list_count ⟨_,a,rfl⟩ PySem.F.entry_list_count (PySem.F.args_list_count_2 _ _) (list_countAt l _ n none #[] (.bool Ox) (isBoolOf Ox)) ⟨a,Cn bs _ _,?_⟩;have e:List.countP (isBoolOf Ox) (bs.map QA).toArray.toList=bs.count Ox:=by rw[List.countP_map];rfl
  rw[e];exact⟨.int _,H,I.kept (t':=s.toks+1) λb o e=>e,⟨_,rfl⟩,q⟩
theorem Kb:jX X "list.index" (λx xs H Q=>∃(l:OA) (bs:List Bool),x=.ref l/\xs=[.bl Ox]/\H l=some (.lst (bs.map V.bl))/\Ox∈bs/\bs.length<1000/\Q (.int (bs.idxOf Ox:Nat)) H):=by
 intro P s z H x xs v U Q I u k h;obtain⟨l,bs,rfl,rfl,d,f,w,q⟩:=h;subst u;cases k with
 |cons r R=>
  cases R;subst r;obtain⟨_,j,n,t,c⟩:=(show bg X.prog X.w H s.heap l (.lst (bs.map V.bl))from I.hok l _ d);rw[vN t]at c;have y:bs.idxOf Ox<bs.length:=Sz f;refine P6 PySem.F.slot_list_index ⟨_,c,rfl⟩ PySem.F.entry_list_index (PySem.F.args_list_index_2 _ _) (list_indexAt l _ n none #[] (.bool Ox) (isBoolOf Ox) (bs.idxOf Ox) (by simp_all) (by lia) ?_ ?_) ⟨c,Cn bs _ _,?_⟩
  ·simp[isBoolOf]
  ·intro m g a;have:=Ta (p:=(· ==Ox)) (xs:=bs) (i:=m) a;simpa[isBoolOf]using this
  ·exact⟨.int _,H,I.kept (t':=s.toks+1) λb o e=>e,⟨_,rfl⟩,q⟩
noncomputable def je(y:Str):CE:=.blt .isinst [.var 0,.glob y]
noncomputable def kU(y:Str):CE:=.lit (.str y)
noncomputable def gZ(a b c d w v:Ls):List CS:=
 [.asg 1 (.lst Oy (a.map je)),.asg 1 (.bin .Add (.var 1) (.lst Oy (b.map je))),.asg 1 (.bin .Add (.var 1) (.lst Oy (c.map je))),.asg 1 (.bin .Add (.var 1) (.lst Oy (d.map je))),
  .ite (.bor (.bnot (je "ValueError")) (.cmp .NotEq (.meth .count (.var 1) [.lit (.bl Ox)]) (.lit (.int 1)))) [.ret (.lit (.str "other"))] [],
  .asg 2 (.lst Oy (w.map kU)),.ret (.idx (.bin .Add (.var 2) (.lst Oy (v.map kU))) (.tix (.var 1) [.lit (.bl Ox)]))]
noncomputable def kW(st:List Qi):Bool:=((st.drop 4).take 1).all (λs=>(vw (vs s).e0).es.length==2&&(vw (vw (vw ((vw (vs s).e0).es.tail.headD dE)).e0).e0).pos.endLine==(vw (vw ((vw (vs s).e0).es.tail.headD dE)).e0).pos.line)&&(st.length==7&&
 ((st.drop 6).take 1).all λs=>(vw (vw (vw (vs s).e0).e1).e0).pos.endLine==(vw (vw (vs s).e0).e1).pos.line)
structure KX (X:Cx)(N:Ls)(C:OA)(bf:Str->Bool)(ys:Ls):Prop where
 n:X.N=N
 nd:N.Nodup
 len:N.length=3
 loc:∀(i:Nat) (y:Str),N[i]?=some y->X.env.scope.names.lookup y=some .local/\eM y=Ox
 fn:∀y,X.fn y=Ox
 isi:Gl X "isinstance"/\X.mg "isinstance"=none
 ve:Gl X "ValueError"/\X.mg "ValueError"=none
 kv:PySem.W.kitOne X.K (.ref C) (.type "ValueError")=some Ox
 z:kT X.K C
 cl:∀y∈ys,Gl X y/\(y==("__debug__":Str))=Oy/\∃D,X.mg y=some (.ref D)/\PySem.W.kitOne X.K (.ref C) (.ref D)=some (bf y)
section
variable {x:OA}
theorem iI(O:KX X N C bf ys){i:Nat}(h:i<3):N[i]?=some (N.getD i ""):=by rw[QQ,Zj (by rw[O.len];exact h)];rfl
theorem g5(O:KX X N C bf ys){i:Nat}{pos:Pos}(H:i<3):PE X (.Name (N.getD i "") pos) (tf i):=by obtain⟨a,h⟩:=O.loc i _ (iI O H);exact ti (by rw[O.n];exact iI O H) (.inl a) (i3 h).1 (i3 h).2
noncomputable def NF(x C:OA)(b:Bool):TE:=λσ H Q=>σ[0]?=some (some (.ref x))/\H x=some (d0 x C)/\Q (.bl b) H
theorem Co(O:KX X N C bf ys)(c:y∈ys):PE X (aY (je y) N e) (NF x C (bf y)):=by obtain⟨g,G,D,a,b⟩:=O.cl y c;refine aQ (ua (x:="isinstance") (Cm (x:=x) O.z b) O.isi.1 O.isi.2 (rfl) (dI (g5 O (by simp)) (dI (yH (v:=.ref D) g a rfl G) fD))) λd H Q h=>?_;exact⟨_,h.1,.ref D,rfl,rfl,λu r=>r,h.2.1,h.2.2⟩
theorem Cp(O:KX X N C bf ys):PE X (aY (je "ValueError") N e) (NF x C Ox):=by refine aQ (ua (x:="isinstance") (Cm (x:=x) O.z O.kv) O.isi.1 O.isi.2 (rfl) (dI (g5 O (by simp)) (dI (yI (v:=.ty "ValueError") O.ve.1 O.ve.2 (by rfl) rfl) fD))) λa H Q h=>?_;exact⟨_,h.1,.ty "ValueError",rfl,rfl,λu r=>r,h.2.1,h.2.2⟩
theorem kX(O:KX X N C bf ys):∀{zs:Ls} {es:Lx},(∀y∈zs,y∈ys)->PA X (dX (zs.map je) N es) (λσ H Q=>σ[0]?=some (some (.ref x))/\H x=some (d0 x C)/\Q ((zs.map bf).map V.bl) H)
 | [],es,_=>fQ fD λσ H Q h=>h.2.2
 |z::zs,es,a=>by refine fQ (dI (Co (x:=x) O (a z Zd)) (kX O (es:=es.tail) λy b=>a y (Zc _ b))) λσ H Q h=>?_;exact⟨h.1,h.2.1,h.1,h.2.1,h.2.2⟩
theorem vO:∀{zs:Ls} {es:Lx},PA X (dX (zs.map kU) N es) (λσ H Q=>Q (zs.map V.str) H)
 | [],es=>fQ fD λσ H Q h=>h
 |z::zs,es=>fQ (dI (tm (x:=z)) (vO (zs:=zs) (es:=es.tail))) λσ H Q h=>h
theorem kY{t t':TS}(h:PS X st t)(w:∀D σ H,t' D σ H->t D σ H):PS X st t':=λp s σ H D I q=>h p s σ H D I (w D σ H q)
def Mk(x C:OA)(bs:List Bool)(σ:L2.St)(H:Hp):Prop:=σ.length=3/\σ[0]?=some (some (.ref x))/\H x=some (d0 x C)/\∃p,σ[1]?=some (some (.ref p))/\H p=some (.lst (bs.map V.bl))
theorem kZ(O:KX X N C bf ys){i:Nat}{p pos:Pos}(h:i<3)(H:PE X e te)(a:f' e=Ox):PS X (.Assign [.Name (N.getD i "") p] e pos) (mM te (et i)):=
 jS (by rw[O.n];exact O.nd) (by rw[O.n];exact iI O h) (.inl (O.loc i _ (iI O h)).1) H (kR a) (.inl (O.fn _))
theorem ph(O:KX X N C bf ys){a:Ls}(f:∀y∈a,y∈ys)(g:a.length<=1000):PS X (jL (.asg 1 (.lst Oy (a.map je))) N st)
  (λD σ H=>(σ.length=3/\σ[0]?=some (some (.ref x))/\H x=some (d0 x C))/\∀σ' H',Mk x C (a.map bf) σ' H'->Sub H H'->D.nx σ' H'):=
 kY (kZ O (by decide) (h9 (kX (x:=x) O f)) rfl) λD σ H z=>by obtain⟨⟨b,c,h⟩,e⟩:=z;exact(⟨c,h,by simp;exact Zl g (by decide),λp d=>e _ _ ⟨by simp[b],by simpa using c,by rw[aI (bV h d)];exact h,p,by simp[b],bU⟩ (Sub.refl.laid d)⟩)
theorem vP(O:KX X N C bf ys){a:Ls}(bs:List Bool)(m:∀y∈a,y∈ys)(f:bs.length+a.length<=1000):PS X (jL (.asg 1 (.bin .Add (.var 1) (.lst Oy (a.map je)))) N st)
  (λD σ H=>Mk x C bs σ H/\∀σ' H',Mk x C (bs++a.map bf) σ' H'->Sub H H'->D.nx σ' H'):=
 kY (kZ O (by decide) (iA nu (g5 O (i:=1) (by decide)) (h9 (kX (x:=x) O m))) rfl) λD σ H z=>by obtain⟨⟨c,d,h,p,l,e⟩,k⟩:=z;exact(⟨_,l,d,h,by simp;exact Zl (Zl (RA _ _) f) (by decide),λq b=>
  ⟨p,q,bs.map V.bl,(a.map bf).map V.bl,rfl,rfl,by rw[aI (bV e b)];exact e,bU,by simp;exact Zl f (by decide),λr g=>by
   have j:ba H q (.lst ((a.map bf).map V.bl)) x=some (d0 x C):=by rw[aI (bV h b)];exact h
   exact k _ _ ⟨by simp[c],by simpa using d,by rw[aI (bV j g)];exact j,r,by simp[c],by rw[bU,Qr]⟩ ((Sub.refl.laid b).laid g)⟩⟩)
theorem vQ(h:bA e=Ox):((backTo cpos (starEach [e] env)).all (λx=> !x.1)&&(backToKw cpos (keywordEach [] env)).all (λx=>x.1.isSome)&&decide ([e].length+([]:List Rl).length+(if([]:List Rl).isEmpty then 0 else 1)<30))=Ox:=by rw[i0 (es:=[e]) (λx H=>by rw[OT.mp H];exact h)];rfl
theorem k6(O:KX X N C bf ys){id:String}{p:Pos}{j}(s:Slot "list" name id)(h:typeOf (.builtin id)=pure (.type "method_descriptor"))(a:jX X id r)(H:(apos.endLine==cpos.line)=Ox):
  PE X (.Call (.Attribute (.Name (N.getD 1 "") vp) name apos) [.Constant (.bool Ox) j p] [] cpos) (Nr X.K "list" r (tf 1) (ez (L2.tC (.bl Ox)) mY)):=
 rZ PySem.F.plainAttrs_list s h a (g5 O (by decide)) (dI rQ fD) rfl (vQ rfl) H rfl rfl
theorem vR(O:KX X N C bf ys)(bs:List Bool)(g:bs.count Ox=1)(a:(vw (vs st).e0).es.length=2)(i:((vw (vw (vw ((vw (vs st).e0).es.tail.headD dE)).e0).e0).pos.endLine==(vw (vw ((vw (vs st).e0).es.tail.headD dE)).e0).pos.line)=Ox):
  PS X (jL (.ite (.bor (.bnot (je "ValueError")) (.cmp .NotEq (.meth .count (.var 1) [.lit (.bl Ox)]) (.lit (.int 1)))) [.ret (.lit (.str "other"))] []) N st) (λD σ H=>Mk x C bs σ H/\D.nx σ H):=by
 have e:aY (.bor (.bnot (je "ValueError")) (.cmp .NotEq (.meth .count (.var 1) [.lit (.bl Ox)]) (.lit (.int 1)))) N (vs st).e0=.BoolOp .Or [aY (.bnot (je "ValueError")) N ((vw (vs st).e0).es.headD dE),aY (.cmp .NotEq (.meth .count (.var 1) [.lit (.bl Ox)]) (.lit (.int 1))) N ((vw (vs st).e0).es.tail.headD dE)] (vw (vs st).e0).pos:=by show Expr.BoolOp _ (_::cond ((vw (vs st).e0).es.length==2) _ _) _=_;rw[a];rfl
 show PS X (.If (aY (.bor _ _) N (vs st).e0) (cA [_] N _) [] _) _;rw[e];refine kY (rT (PW.pt (rR (jP (tq (Cp (x:=x) O))) (jO (y7 yX (k6 O PySem.F.slot_list_count PySem.F.type_list_count Ka i) jM rfl)))) (Gy) mF) λD σ H z=>?_;obtain⟨⟨j,b,c,p,d,h⟩,f⟩:=z;refine⟨b,c,Ox,rfl,_,d,.inl ⟨rfl,_,.of h⟩,p,bs,rfl,rfl,h,rfl,?_⟩;rw[g];exact⟨_,rfl,f⟩
theorem pi(O:KX X N C bf ys)(bs:List Bool){w:Ls}(g:w.length<=1000):PS X (jL (.asg 2 (.lst Oy (w.map kU))) N st)
  (λD σ H=>Mk x C bs σ H/\∀σ' H',(Mk x C bs σ' H'/\∃q,σ'[2]?=some (some (.ref q))/\H' q=some (.lst (w.map V.str)))->Sub H H'->D.nx σ' H'):=
 kY (kZ O (by decide) (h9 vO) rfl) λD σ H z=>by obtain⟨⟨a,d,b,p,f,c⟩,e⟩:=z;exact(⟨by simp;exact Zl g (by decide),λq h=>e _ _ ⟨⟨by simp[a],by simpa using d,by rw[aI (bV b h)];exact b,p,by simpa using f,by rw[aI (bV c h)];exact c⟩,q,by simp[a],bU⟩ (Sub.refl.laid h)⟩)
theorem Cq(O:KX X N C bf ys)(bs:List Bool){w v:Ls}{r:Str}(o:Ox∈bs)(c:bs.length<1000)(j:(w++v)[bs.idxOf Ox]?=some r)(hw:w.length+v.length<=1000)
  (n:((vw (vw (vw (vs st).e0).e1).e0).pos.endLine==(vw (vw (vs st).e0).e1).pos.line)=Ox):PS X (jL (.ret (.idx (.bin .Add (.var 2) (.lst Oy (v.map kU))) (.tix (.var 1) [.lit (.bl Ox)]))) N st)
  (λD σ H=>(Mk x C bs σ H/\∃q,σ[2]?=some (some (.ref q))/\H q=some (.lst (w.map V.str)))/\∀H',Sub H H'->D.rt (.str r) H'):=by
 refine kY (tz (rY zo (iA nu (g5 O (i:=2) (by decide)) (h9 vO)) (k6 O PySem.F.slot_list_index PySem.F.type_list_index Kb n) (λ_ _=>rfl))) λD σ H z=>?_;obtain⟨⟨⟨s,t,u,p,l,d⟩,q,m,f⟩,k⟩:=z;refine⟨_,m,by simp;exact Zl (Zl (RA _ _) hw) (by decide),λa h=>⟨q,a,w.map V.str,v.map V.str,rfl,rfl,by rw[aI (bV f h)];exact f,bU,by simp;exact Zl hw (by decide),λb g=>?_⟩⟩
 have e:ba (ba H a (.lst (v.map V.str))) b (.lst (w.map V.str++v.map V.str)) p=some (.lst (bs.map V.bl)):=by
  have:ba H a (.lst (v.map V.str)) p=some (.lst (bs.map V.bl)):=by rw[aI (bV d h)];exact d
  rw[aI (bV this g)];exact this
 refine⟨_,l,.inl ⟨rfl,_,.of e⟩,p,bs,rfl,rfl,e,o,c,b,w.map V.str++v.map V.str,_,_,rfl,rfl,.of bU,?_,k _ ((Sub.refl.laid h).laid g)⟩;have y:=(Zg.mp j).1;unfold fA hV;rw[<-Qr];simp only[Zn];rw[if_pos (by omega),if_pos (by omega)];show(List.map V.str (w++v))[_]?=_;rw[ZW,Pl,j];rfl
theorem vS(O:KX X N C bf ys){a b c d w v:Ls}{r:Str}{st:List Qi}(e:ys=a++b++c++d)(f:ys.length<1000)(hw:w.length+v.length<=1000)(h1:(ys.map bf).count Ox=1)(q:(w++v)[(ys.map bf).idxOf Ox]?=some r)(n:kW st=Ox):
  eL X (cA (gZ a b c d w v) N st) (λD σ H=>(σ.length=3/\σ[0]?=some (some (.ref x))/\H x=some (d0 x C))/\∀H',Sub H H'->D.rt (.str r) H'):=by
 obtain⟨K,k⟩:=ae n;obtain⟨k,i⟩:=ae k;have k:=Z1 k;obtain⟨F,st,rfl⟩:=ZJ (show st.length=6+1 from k);obtain⟨G,st,rfl⟩:=ZJ (show st.length=5+1 from ZI k);obtain⟨J,st,rfl⟩:=ZJ (show st.length=4+1 from ZI (ZI k));obtain⟨L,st,rfl⟩:=ZJ (show st.length=3+1 from ZI (ZI (ZI k)));obtain⟨S,st,rfl⟩:=ZJ (show st.length=2+1 from ZI (ZI (ZI (ZI k))));obtain⟨Q,st,rfl⟩:=ZJ (show st.length=1+1 from ZI (ZI (ZI (ZI (ZI k)))));obtain⟨R,st,rfl⟩:=ZJ (show st.length=0+1 from ZI (ZI (ZI (ZI (ZI (ZI k))))));have K:((vw (vs S).e0).es.length==2&&_)=Ox:=(ae (show(_&&Ox)=Ox from K)).1;have i:=(ae (show(_&&Ox)=Ox from i)).1;obtain⟨K,t⟩:=ae K;have j:a.length+b.length+c.length+d.length<1000:=by rw[e]at f;simpa[Nat.add_assoc]using f
 have p:Ox∈ys.map bf:=List.count_pos_iff.mp (by omega);have E:ys.map bf=((a.map bf++b.map bf)++c.map bf)++d.map bf:=by rw[e];simp
 refine λP s σ H D I g=>fY (ph (x:=x) O (a:=a) (st:=F) (λy h=>by rw[e];simp[h]) (by omega)) (fY (vP (x:=x) O (st:=G) (a.map bf) (λy h=>by rw[e];simp[h]) (by simp;omega)) (fY (vP (x:=x) O (st:=J) (a.map bf++b.map bf) (λy h=>by rw[e];simp[h]) (by simp;omega))
  (fY (vP (x:=x) O (st:=L) (a.map bf++b.map bf++c.map bf) (λy h=>by rw[e];simp[h]) (by simp;omega)) (fY (vR (x:=x) O (ys.map bf) (st:=S) h1 (Z1 K) t) (fY (pi (x:=x) O (ys.map bf) (w:=w) (st:=Q) (by omega)) (fY (Cq (x:=x) O (ys.map bf) (w:=w) (v:=v) (r:=r) (st:=R) p (by simpa using f) q hw i) mF)))))) P s σ H D I ?_
 obtain⟨g,hD⟩:=g;refine⟨g,λσ1 H1 M U=>⟨M,λσ2 H2 u T=>⟨u,λσ3 H3 A V=>⟨A,λσ4 H4 m W=>?_⟩⟩⟩⟩;rw[<-E]at m;exact⟨m,m,λσ5 H5 B Y=>⟨B,λl Z=>hD l λb o z=>Z b o (Y b o (W b o (V b o (T b o (U b o z)))))⟩⟩
end
end Py
namespace Py
abbrev pj(X:Cx)(A:Pf):Cx:={X with A:=A,calm:=Oy,xe:=λ_ _=>False}
theorem vT(I:L2.Inv X pq σ H s)(h:A.frames=X.A.frames):L2.Inv (pj X A) pq σ H s:=
 ⟨⟨I.ok.mod,I.ok.kind,I.ok.glob,I.ok.blt,I.ok.above,I.ok.inj,I.ok.has,I.ok.cab,(λz=>by cases z),h.trans I.ok.frames,I.ok.stk,I.ok.exf,I.ok.bs,I.ok.bsz,I.ok.noex,I.ok.exfs,I.ok.funs,I.ok.frf⟩,I.os,I.bare,I.base,I.loc,I.cell,I.free,I.freeC,I.pin,I.hok,I.len⟩
theorem Cr(I:L2.Inv (pj X A) pq σ H s)(ok:X.Ok):L2.Inv X pq σ H s:=⟨ok,I.os,I.bare,I.base,I.loc,I.cell,I.free,I.freeC,I.pin,I.hok,I.len⟩
def k7(P:OF)(w:ON)(K:Fg)(m:Mg)(base:OI)(f:OA)(C:OA)(r:Str):Prop:=
 ∀(A:Pf) (outer:List Env) (s:Oz) (H:Hp) (e:OA),A.depth<recursionLimit->mZ P w K m base A outer s H->H e=some (d0 e C)->codeAny (model P w) A (.call (.ref f) ⟨[.ref e],[]⟩) (CR HA outer P w H s (λv H'=>v=.str r/\Sub H H') E0) s
structure Oe (K:Fg)(mg:Mg)(C:OA)(bf:Str->Bool)(ys:Ls):Prop where
 kv:PySem.W.kitOne K (.ref C) (.type "ValueError")=some Ox
 z:kT K C
 cl:∀y∈ys,∃D,mg y=some (.ref D)/\PySem.W.kitOne K (.ref C) (.ref D)=some (bf y)
noncomputable def k8(N ys:Ls)(s:Scope):Bool:=(N.length==3&&N.all (λy=>s.names.lookup y==some .local&&eM y))&&(bh s.names "isinstance"&&(bh s.names "ValueError"&&ys.all (λy=>bh s.names y)))
theorem Kc{P:OF}{x e0:Str}{U:Pr}{a b c d wd v:Ls}{r:Str}
  (F:nz K x qual st f U) (S:bP N [e0] (bx st)) (hb:Binds K U [e0] []) (D:cA (gZ a b c d wd v) N (bX st)=bX st) (hk:kW (bX st)=Ox) (G:k8 N (a++b++c++d) (bx st)=Ox)
  (R:Oe K mg C bf (a++b++c++d)) (hi:mg "isinstance"=none) (hv:mg "ValueError"=none) (hl:(a++b++c++d).length<1000) (hw:wd.length+v.length<=1000) (h1:((a++b++c++d).map bf).count Ox=1) (hr:(wd++v)[((a++b++c++d).map bf).idxOf Ox]?=some r):
  k7 P w K mg base f C r:=by
 intro A g s H e z E he;obtain⟨oc,od,kV,doc,pm,an,j,ct,osl,rfl,lk,t⟩:=F.ex;have k:K.In s.heap:=E.mod.kin.keeps λb o e=>(E.bs b o e).1;have T:s.heap.NoLimit:=E.mod.nolimit.keeps λb o e=>(E.bs b o e).1
 have l:∀y∈[e0].zip [PK e],(bx st).names.lookup y.1=some .local\/((bx st).names.lookup y.1=some .cell/\((cellsFrom (s.heap.objs.size+1) (bx st).names []).lookup y.1).isSome=Ox):=λzq h=>by obtain⟨n,v⟩:=zq;exact(by
  rcases S.par n (QK h).1 with q|q
  ·exact .inl q
  ·exact .inr ⟨q,PySem.W.cellsFrom_some _ _ _ (.inl q)⟩)
 refine Ur z (k _ _ lk) rfl S.co S.gen rfl (PySem.W.codeRec_of k t) (hb s [.ref e] k rfl _ _ _ _ ?_);refine Tf S.kind l λenv B Y Z=>?_;subst B;refine⟨T.keeps Z.toInCall.keep,codeAny_func ?_⟩;have I0:L2.Inv (fZ HA P w K mg base N qual (bx st) f j {A with handled:=none} g s H E0) [] (start N [.ref e]) H Y:=zf S rfl ⟨E.frames,E.mod,E.bs,E.bsz,E.funs,E.frf,E.hok,E.bare⟩ rfl (.cons rfl .nil) Z;have I:=vT (A:=A.deeper (envOfC qual (bx st) s.heap.objs.size f j)) I0 rfl;obtain⟨L,M⟩:=ae G;obtain⟨L,k3⟩:=ae L;obtain⟨M,Q⟩:=ae M;obtain⟨Q,X⟩:=ae Q;have V:=Z1 L;have gl:∀y,bh (bx st).names y=Ox->(bx st).names.lookup y=some .globalImplicit/\(y==("__debug__":Str))=Oy:=λy h=>⟨(de h).1,(de h).2.1⟩
 have O:KX (pj (fZ HA P w K mg base N qual (bx st) f j {A with handled:=none} g s H E0) (A.deeper (envOfC qual (bx st) s.heap.objs.size f j))) N C bf (a++b++c++d):=
  ⟨rfl,S.nd,V,λi y h=>by have:=Zp.mp k3 y (Zx h);obtain⟨q1,q2⟩:=ae this;exact⟨Z1 q1,q2⟩,λ_=>rfl,⟨(gl _ M).1,hi⟩,⟨(gl _ Q).1,hv⟩,R.kv,R.z,λy h=>⟨(gl y (Zp.mp X y h)).1,(gl y (Zp.mp X y h)).2,R.cl y h⟩⟩
 have W:=vS (x:=e) O (st:=bX st) rfl hl hw h1 hr hk;rw[D]at W;refine O0 (W [] Y (start N [.ref e]) H {nx:=λ_ _=>False,rt:=λv p=>v=.str r/\Sub H p} I ⟨⟨by simp[L2.start,V],by simp[L2.start],he⟩,λp h'=>⟨rfl,h'⟩⟩) (λfl s' m=>?_) λe s' m=>m.elim;cases fl with
 |ret u=>obtain⟨v,σ',p,J,rv,q⟩:=m;exact⟨v,p,J.os,J.bare,J.base,J.hok,rv,q⟩
 |next=>obtain⟨_,_,_,q⟩:=m;exact False.elim q
 |brk=>obtain⟨_,_,_,q⟩:=m;exact False.elim q
 |cont=>obtain⟨_,_,_,q⟩:=m;exact False.elim q
section
variable {e T:OA}{B:OI}
theorem Cs(I:L2.Inv X pq σ H s)(f:L2.Inv X pq σ H' s2)(M:s.heap.get? e=none/\s.heap.get? T=none)(L:H' e=none/\H' T=none)(hB:∀b o,s2.heap.get? b=some o->b∉bW X.stack->b≠e->b≠T->B.get? b=some o)(st:B.StaysIn h3)(up:s2.heap.UpToSlots h3)
  (l:X.ex=[]) (J:X.stack=X.env::X.outer):L2.Inv X pq σ H' {s2 with heap:=h3,toks:=tk}:=by
 have K:∀b o,s2.heap.get? b=some o->b∉bW X.stack->b≠e->b≠T->h3.get? b=some o:=λb o h d h3 g=>st b o (hB b o h d h3 g);have A:∀b,b∈bW X.stack->∃o,s2.heap.get? b=some o/\∀vs,o.data≠.fields vs:=λb j=>(f.stack.mem j).2;have n:∀b∈bW X.stack,H' b=none:=f.stkFree;have U:=f.base;rw[l]at U;have O:∀b o,s.heap.get? b=some o->b≠e/\b≠T:=λb o h=>⟨λz=>(by rw[z,M.1]at h;cases h),λz=>(by rw[z,M.2]at h;cases h)⟩
 have old:∀b o,X.s₀.heap.get? b=some o->b≠e/\b≠T:=λb o h=>by obtain⟨D,d⟩:=I.base.there b o h (by rw[l];simp);exact O b D d
 have nl:∀b o,X.s₀.heap.get? b=some o->b∉bW X.outer->b∉bW X.stack:=λb o h d h3=>by
  rcases Zh.mp (f.stkSub b h3)with z|z
  ·have:=Zm h;rw[z]at this;exact absurd this (QX.mpr f.ok.above)
  ·exact d z
 have sub:∀b∈bW X.outer,b∈bW X.stack:=λb j=>by rw[J];obtain⟨Z,h,d⟩:=Z0.mp j;exact Z0.mpr ⟨Z,Zc _ h,d⟩
 have w:∀b o,s2.heap.get? b=some o->b≠e->b≠T->∃D,h3.get? b=some D:=λb o h d h3=>by
  by_cases j:b∈bW X.stack
  ·obtain⟨o1,g,y⟩:=A b j;obtain⟨sl,E⟩:=up b o1 g y;exact⟨_,E⟩
  ·exact⟨o,K b o h j d h3⟩
 have t:∀b u,H' b=some u->b∉bW X.stack/\b≠e/\b≠T:=λb u h=>
  ⟨λz=>(by rw[n b z]at h;cases h),λz=>(by rw[z,L.1]at h;cases h),λz=>(by rw[z,L.2]at h;cases h)⟩
 have G:er X.prog X.w H' h3:=λa o Y=>(f.hok a o Y).stay (λb u j h=>by
  have F:∃u,H' b=some u:=by rcases j with rfl|j<;>exact⟨_,by assumption⟩
  obtain⟨u',hu⟩:=F;obtain⟨t1,t2,t3⟩:=t b u' hu;exact K b u h t1 t2 t3) (λ_ q=>q) λ_ _ q=>q
 have C:∀c v,s2.heap.IsCell c v->h3.IsCell c v:=λc v zq=>by obtain⟨o,h,d⟩:=zq;exact(by obtain⟨sl,g⟩:=up c o h (λvs q=>by rw[d]at q;cases q);exact⟨_,g,d⟩)
 obtain⟨m,hm,hl⟩:=f.loc;refine⟨f.ok,f.os,f.bare,?_,⟨m,up.ns hm,λi x v h d h3=>?_⟩,λx c h=>?_,f.free,f.freeC,λp P=>?_,G,f.len⟩
 ·rw[l];refine⟨λb o h d h3 g=>K b o (U.keep b o h d h3 g) (nl b o h h3) (old b o h).1 (old b o h).2,λb o h d h3 g=>?_,U.free,λb o h d=>?_,U.tups,U.frzs,U.tbls⟩
  ·obtain⟨sl,y⟩:=U.slot b o h d h3 g;obtain⟨o1,E,h7⟩:=A b (sub b h3);rw[y]at E;cases E;obtain⟨S,h8⟩:=up b _ y h7;exact⟨S,h8⟩
  ·obtain⟨D,y⟩:=U.there b o h d;exact w b D y (old b o h).1 (old b o h).2
 ·obtain⟨u,r,q⟩:=hl i x v h d h3;refine⟨u,r,?_⟩;rcases q with⟨k,z⟩| ⟨k,c,z1,z2⟩
  ·exact .inl ⟨k,z⟩
  ·exact .inr ⟨k,c,z1,C c _ z2⟩
 ·obtain⟨v,hv⟩:=f.cell x c h;exact⟨v,C c v hv⟩
 ·obtain⟨p1,p2,Q,R,p5⟩:=f.pin p P;have V:=(I.pin p P).1;refine⟨K p.1 p.2 p1 (λz=>?_) (O _ _ V).1 (O _ _ V).2,p2,Q,R,p5⟩;rcases Zh.mp (f.stkSub p.1 z)with z|z
  ·exact Q z
  ·exact R z
theorem Kd{vs:Av}{O:Obj}(I:L2.Inv X pq σ H s)(r:X.ex=[])(l:X.s₀.heap.get? e=none)(y:∀p∈X.pn++pq,p.1≠e)(k:H e=none)(w:s.heap.get? e=some O)(n:O.cls=.ref C)(G:O.data=.fields vs):
  L2.Inv X pq σ (ba H e (d0 e C)) s:=by
 obtain⟨m,t,J⟩:=id I.loc;have ne:∀b,H b≠none->b≠e:=λb a z=>a (by rw[z];exact k);refine⟨I.ok,I.os,I.bare,?_,I.loc,I.cell,?_,λx c h=>?_,λp i=>?_,λb u a=>?_,I.len⟩
 ·have U:=I.base;refine⟨U.keep,U.slot,λb o h f g=>?_,U.there,λb j h=>?_,λb o u h=>?_,λb D h=>?_⟩
  ·rw[aI (λz=>by rw[z,l]at h;cases h)];exact U.free b o h f g
  ·have:=U.tups b j h;rw[aI (ne b (by rw[this];simp))];exact this
  ·have:=U.frzs b o u h;rw[aI (ne b (by rw[this];simp))];exact this
  ·obtain⟨m,this⟩:=U.tbls b D h;exact⟨m,by rw[aI (ne b (by rw[this];simp))];exact this⟩
 ·obtain⟨o,F,E,h,f,_⟩:=t;rw[aI (λz=>by lia)];exact I.free
 ·obtain⟨v,o,f,g⟩:=I.cell x c h;rw[aI (λz=>by lia)];exact I.freeC x c h
 ·obtain⟨P,A,B⟩:=I.pin p i;exact⟨P,by rw[aI (y p i)];exact A,B⟩
 ·by_cases d:b=e
  ·subst d;rw[bU]at a;cases a;exact pg ⟨O,w,n⟩
  ·rw[aI d]at a;exact(I.hok b u a).stay (λ_ _ _ q=>q) (λc q=>by rw[aI (ne c (by rw[q];simp))];exact q) λc j q=>by rw[aI (ne c (by rw[q];simp))];exact q
theorem Ke{m:Mg}(I:L2.Inv X pq σ H s)(r:h3.Ns X.env.locals m)(hs:PC X.env.locals s.heap h3):L2.Inv X pq (OG X.N.length none) H {s with heap:=h3,toks:=tk}:=by
 have low:∀b o,X.s₀.heap.get? b=some o->b≠X.env.locals:=λb o e=>Zz (ZB (Zm e) I.ok.above);refine⟨I.ok,I.os,I.bare,⟨λb o e n f h=>(hs.2 b (low b o e)).trans (I.base.keep b o e n f h),λb o e n f h=>?_,I.base.free,λb o e h=>?_,I.base.tups,I.base.frzs,I.base.tbls⟩,⟨m,r,λj y V E i B=>?_⟩,λy c e=>?_,I.free,I.freeC,λp u=>?_,λb w d=>?_,by simp⟩
 ·obtain⟨sl,E⟩:=I.base.slot b o e n f h;exact⟨sl,(hs.2 b (low b o e)).trans E⟩
 ·obtain⟨O,E⟩:=I.base.there b o e h;exact⟨O,(hs.2 b (low b o e)).trans E⟩
 ·rw[Rf]at i;simp_all
 ·obtain⟨v,o,k,l⟩:=I.cell y c e;exact⟨v,o,(hs.2 c (I.cne y c e)).trans k,l⟩
 ·obtain⟨x,z,P,A⟩:=I.pin p u;exact⟨(hs.2 _ P).trans x,z,P,A⟩
 ·refine(I.hok b w d).stay (λc W a q=>(hs.2 c ?_).trans q) (λ_ q=>q) λ_ _ q=>q;rintro rfl;rcases a with rfl|a
  ·rw[I.free]at d;cases d
  ·rw[I.free]at a;cases a
end
section
variable {n:Str}{i:Nat}
theorem po{x:OA}{r:Str}{np pos:Pos}(K:k7 X.prog X.w X.K X.mg X.base fa C r)(d:A.depth<recursionLimit)(l:Gl X y)(p:X.mg y=some (.ref fa))(m:PySem.W.keepIn X.K (.ref fa)=Ox)(c:(y==("__debug__":Str))=Oy)
  (q:X.N[i]?=some n) (o:X.env.scope.names.lookup n=some .local) (g:eM n=Ox):PE (pj X A) (.Call (.Name y np) [.Name n vp] [] pos) (λσ H Q=>(σ[i]?=some (some (.ref x))/\H x=some (d0 x C))/\∀H',Sub H H'->Q (.str r) H'):=by
 intro P s σ H Q I h;refine Pg (jN I l p ?_ c);refine PySem.W.callWith_K (h₀:=X.base) I.ok.mod.kin m (aT ((dI (ti (X:=pj X A) q (.inl o) (i3 g).1 (i3 g).2) fD) pos P s σ H (λG H1=>G=[.ref x]/\H1=H) I ⟨_,h.1.1,rfl,rfl⟩) λL S ⟨vs,H1,b,B,t,w⟩=>⟨b.kIn,?_⟩) rfl rfl;subst t w;cases B with
 |cons z R=>
  cases R;subst z;refine Sk (P2 (K A X.stack S H1 x d b.env0 h.1.2) λD J a=>?_);cases D with
  |error e=>exact False.elim a
  |ok F=>
   cases F with
   |ret u=>obtain⟨v,f,k,R,E,U⟩:=b.after a;subst E;exact⟨_,f,k,R,h.2 f U⟩
   |next=>exact False.elim a
   |brk=>exact False.elim a
   |cont=>exact False.elim a
def RV(nb:Option (Str×Nat×Pos×Pos))(r:Str)(v:V)(H a:Hp):Prop:=match nb with
 |none=>v=.str r/\Sub H a
 |some (x,_)=>∃p H1,Sub H H1/\H1 p=none/\v=.ref p/\a=ba H1 p (.lst [.str x,.str r])
theorem RV.up{r:Str}{b:Hp}(h:RV nb r v H' b)(s:Sub H H'):RV nb r v H b:=by
 have t:∀{H1},Sub H' H1->Sub H H1:=λu a o e=>u a o (s a o e);cases nb with
 |none=>exact⟨h.1,t h.2⟩
 |some q=>obtain⟨p,H1,c,d⟩:=h;exact⟨p,H1,t c,d⟩
theorem Kf{x:OA}{r:Str}{np pos:Pos}(K:k7 X.prog X.w X.K X.mg X.base fa C r)(b:A.depth<recursionLimit)(d:Gl X y)(g:X.mg y=some (.ref fa))(e:PySem.W.keepIn X.K (.ref fa)=Ox)(a:(y==("__debug__":Str))=Oy)
  (j:X.N[i]?=some n) (f:X.env.scope.names.lookup n=some .local) (c:eM n=Ox) (nb:Option (Str×Nat×Pos×Pos)):PE (pj X A) (J7 nb (.Call (.Name y np) [.Name n vp] [] pos)) (λσ H Q=>(σ[i]?=some (some (.ref x))/\H x=some (d0 x C))/\∀v H',RV nb r v H H'->Q v H'):=by
 have h:=po (x:=x) (r:=r) (np:=np) (vp:=vp) (pos:=pos) (A:=A) K b d g e a j f c;cases nb with
 |none=>exact aQ h λσ H Q q=>⟨q.1,λH' u=>q.2 _ _ ⟨rfl,u⟩⟩
 |some q=>exact aQ (h9 (dI tm (dI h fD))) λσ H Q q=>⟨q.1,λH' u=>⟨(by show 2<=sizeLine;decide),λp c=>q.2 _ _ ⟨p,H',u,c,rfl,rfl⟩⟩⟩
noncomputable def EH(X:Cx)(nb:Option (Str×Nat×Pos×Pos))(f p:OA)(D:Ends):XK:=λcls _ H'=>∃C r,cls=.ref C/\k7 X.prog X.w X.K X.mg X.base f C r/\PySem.W.exmOne X.K (.ref C) (.ref p)=some Ox/\∀v H'',RV nb r v H' H''->D.rt v H''
structure pp (X:Cx)(pe n y:Str)(i:Nat)(fa pa:OA):Prop where
 ex:X.ex=[]
 st:X.stack=X.env::X.outer
 fr:X.env.frame=some X.env.locals
 dp:X.A.depth<recursionLimit
 gp:Gl X pe/\X.mg pe=some (.ref pa)/\(pe==("__debug__":Str))=Oy
 gy:Gl X y/\X.mg y=some (.ref fa)/\(y==("__debug__":Str))=Oy
 kp:PySem.W.keepIn X.K (.ref fa)=Ox
 nd:X.N.Nodup
 at_:X.N[i]?=some n
 nl:X.env.scope.names.lookup n=some .local
 np:eM n=Ox
 fn:X.fn n=Ox
noncomputable def Kg(X:Cx)(p:Lp)(D:Ends)(h:Sj):Vs:=λe s=>wpAny (model X.prog X.w) X.A (noteFrame e X.env) (λ_ S=>wpAny (model X.prog X.w) X.A (setFlight e none) (λ_ a=>wpAny (model X.prog X.w) X.A (handleBy e X.env [h]) (SP X p D) X.xe a) X.xe S) X.xe s
theorem handled{e T:OA}{B:OI}{D:Ends}{np:Pos}(Z:pp X pe n y i fa pa)(I:L2.Inv X pq σ H s)(J:L2.Inv X pq σ H' s2)(j:s.heap.get? e=none/\s.heap.get? T=none)(d:H' e=none/\H' T=none)
  (L:∀b o,s2.heap.get? b=some o->b∉bW X.stack->b≠e->b≠T->B.get? b=some o)  (l:Tc B X.stack e cls a0 h3) (up:s2.heap.UpToSlots h3) (q:EH X nb fa pa D cls none H'):
  wpAny (model X.prog X.w) X.A (handleBy (.ref e) X.env [jd nb pe n y tp np vp cp rp hp]) (SP X pq D) X.xe {s2 with heap:=h3}:=by
 obtain⟨C,r,rfl,Q,hm,hD⟩:=q
 have Y:X.s₀.heap.get? e=none:=by
  cases hq:X.s₀.heap.get? e with
  |none=>rfl
  |some o=>obtain⟨o',a⟩:=I.base.there e o hq (by rw[Z.ex];simp);rw[j.1]at a;cases a
 have k:L2.Inv X pq σ H' {s2 with heap:=h3,toks:=s2.toks}:=Cs I J j d L l.1 up Z.ex Z.st;have c:(X.A.mark (some (.ref e))).frames=X.A.frames:=rfl;unfold jd;refine wpAny_handleBy_cons (codeAny_handlers_test ?_) (by intro q;cases q);refine jN (X:=pj X (X.A.mark (some (.ref e)))) (vT k c) Z.gp.1 Z.gp.2.1 ?_ Z.gp.2.2
 have LT:PySem.W.Looks (model X.prog X.w) h3 (typeOf (.ref e)) (.ref C):=by obtain⟨ob,h1,h2⟩:=l.there;exact h2▸(PySem.W.Looks.ld h1).andThen .now
 refine(PySem.W.exm_one (M:=model X.prog X.w) k.kIn LT hm).here ?_;refine codeAny_handlers_suite_as ?_;refine lands_againW (s:={s2 with heap:=h3}) l λh4 F U=>?_;have N:L2.Inv X pq σ H' {s2 with heap:=h4,toks:=s2.toks}:=Cs I J j d L F.1 (up.trans U) Z.ex Z.st;obtain⟨oe,vs,S,V,W,_⟩:=F.first
 have pn:∀p∈X.pn++pq,p.1≠e:=λp hp z=>by have:=(I.pin p hp).1;rw[z,j.1]at this;cases this
 have O:=vT (A:=X.A.mark (some (.ref e))) (Kd N Z.ex Y pn d.1 S V W) c;refine s_ (X:=pj X (X.A.mark (some (.ref e)))) O Z.nd Z.at_ (.inl Z.nl) (v:=.ref e) rfl (λs6 P=>?_) (.inl Z.fn);have hs:eL (pj X (X.A.mark (some (.ref e)))) [.Return (some (J7 nb (.Call (.Name y np) [.Name n vp] [] cp))) rp] _:=fY (tz (Kf (A:=X.A.mark (some (.ref e))) (x:=e) Q Z.dp Z.gy.1 Z.gy.2.1 Z.kp Z.gy.2.2 Z.at_ Z.nl Z.np nb)) mF;refine O0 (hs pq s6 _ _ {nx:=λ_ _=>False,rt:=λv E=>RV nb r v (ba H' e (d0 e C)) E} P ⟨⟨by rw[Z8 (by rw[k.len];exact(Zg.mp Z.at_).1)],bU⟩,λv E h6=>h6⟩) (λf s7 g=>?_) λ_ _ z=>z.elim;cases f with
 |ret u=>obtain⟨v,σ7,G,K,r7,u7⟩:=g;obtain⟨m7,w,_⟩:=K.loc;refine wpAny_nameGoes (env:=X.env) Z.nl w (by rw[I.ok.kind];rfl) λh8 m8 n8 s8=>?_;refine⟨_,_,G,Ke (Cr K I.ok) n8 s8,r7,hD v G (u7.up λb o m=>?_)⟩;rw[aI (λz=>by rw[z,d.1]at m;cases m)];exact m
 |next=>obtain⟨_,_,_,z⟩:=g;exact z.elim
 |brk=>obtain⟨_,_,_,z⟩:=g;exact z.elim
 |cont=>obtain⟨_,_,_,z⟩:=g;exact z.elim
end
abbrev XB(X:Cx)(pq:Lp)(D:Ends)(h:Sj):Cx:={X with xe:=Kg X pq D h,pn:=X.pn++pq}
section
variable {D:Ends}{h:Sj}
theorem Of(ok:X.Ok):(XB X pq D h).Ok:=⟨ok.mod,ok.kind,ok.glob,ok.blt,ok.above,ok.inj,ok.has,ok.cab,ok.hd,ok.frames,ok.stk,ok.exf,ok.bs,ok.bsz,ok.noex,ok.exfs,ok.funs,ok.frf⟩
theorem Ct(ok:(XB X pq D h).Ok):X.Ok:=⟨ok.mod,ok.kind,ok.glob,ok.blt,ok.above,ok.inj,ok.has,ok.cab,ok.hd,ok.frames,ok.stk,ok.exf,ok.bs,ok.bsz,ok.noex,ok.exfs,ok.funs,ok.frf⟩
theorem Kh(I:L2.Inv X pq σ H s):L2.Inv (XB X pq D h) [] σ H s:=⟨Of I.ok,I.os,I.bare,I.base,I.loc,I.cell,I.free,I.freeC,λp a=>I.pin p (by simpa using a),I.hok,I.len⟩
theorem jf(I:L2.Inv (XB X pq D h) pins' σ H s):L2.Inv X pq σ H s:=⟨Ct I.ok,I.os,I.bare,I.base,I.loc,I.cell,I.free,I.freeC,λp a=>I.pin p (Z7 _ a),I.hok,I.len⟩
theorem pr{f:Flow}(q:SP (XB X pq D h) pins' D f s):SP X pq D f s:=by
 cases f with
 |next=>obtain⟨a,H,I,q⟩:=q;exact⟨a,H,jf I,q⟩
 |brk=>obtain⟨a,H,I,q⟩:=q;exact⟨a,H,jf I,q⟩
 |cont=>obtain⟨a,H,I,q⟩:=q;exact⟨a,H,jf I,q⟩
 |ret u=>obtain⟨v,a,H,I,r,q⟩:=q;exact⟨v,a,H,jf I,r,q⟩
theorem Cu:RB (model X.prog X.w) X.A X.env (XB X pq D h).xe:=PassesOwn.looking
variable {n:Str}{i:Nat}{np:Pos}
theorem Cv(Z:pp X pe n y i fa pa):jW (bz X.prog X.w) (XB X pq D (jd nb pe n y tp np vp cp rp hp)) (EH X nb fa pa D):=by intro p o H s v S d c;have I:=jf d;obtain⟨e,cls,l,rfl,a,q,f⟩:=Ck I c Z.ex;obtain⟨T,A,N,k,g⟩:=Ci f a.stack;refine wpAny_looks_onW (by rw[I.ok.frames,Z.st]) Z.fr (Z.st▸g) λj h up=>?_;refine wpAny_landsW (s:={S with heap:=j}) h λm F u=>?_;exact handled (s2:=S) (B:=PySem.W.hideAll S.heap (e::T::bW X.stack)) (a0:=A) Z I a N k Cj (Z.st▸F) (up.trans u) q
theorem Cw(Z:pp X pe n y i fa pa){e:OA}(r:L2.Inv (XB X pq D (jd nb pe n y tp np vp cp rp hp)) pins' σ H s)(m:SI s.heap h2 e (.ref C) args)(q:EH X nb fa pa D (.ref C) none H):(XB X pq D (jd nb pe n y tp np vp cp rp hp)).xe (.ref e) {s with heap:=h2}:=by
 have I:=jf r;show Kg X pq D _ (.ref e) _;unfold Kg;obtain⟨t,c,z,Q⟩:=m.there;have g:∀E∈X.env::X.outer,∀a,E.frame=some a->a∈bW (X.env::X.outer):=λE c a w=>Z0.mpr ⟨E,c,w⟩
 have f:∀b,s.heap.get? b=none->(PySem.W.hideAll s.heap (bW X.stack)).get? b=none:=λb h=>by
  cases j:(PySem.W.hideAll s.heap (bW X.stack)).get? b with
  |none=>rfl
  |some R=>have:=PySem.W.of_hideAll _ j;simp_all
 have N:H e=none:=by
  cases j:H e with
  |none=>rfl
  |some u=>obtain⟨o,p⟩:=vL (I.hok e u j);rw[m.new]at p;cases p
 have d:s.heap.FunFrames (PySem.W.hideAll s.heap (bW X.stack)) (X.env::X.outer):=PySem.W.funFrames_hide (Z.st▸I.stack) (by rw[Z.st];exact g);unfold noteFrame;rw[Z.fr];refine Za (ZM c rfl (x:=.none) rfl ?_);refine wpAny_entryW (base:=PySem.W.hideAll s.heap (bW X.stack)) (a0:=.ref t) (by rw[I.ok.frames,Z.st]) (d.of_keeps λb o h _=>⟨o,m.keeps b o h,rfl⟩) Z.fr c (λb o h=>m.keeps b o (PySem.W.of_hideAll _ h)) (f e m.new) rfl (show 1<6 by simp) rfl λO nt=>?_;obtain⟨K,G,J,M⟩:=nt;refine wpAny_landsW (base:=PySem.W.hideAll s.heap (bW X.stack)) (l:=X.env::X.outer) (L:=X.env.locals) (cls:=.ref C) (a0:=.ref t) ⟨K,f e m.new,G,J⟩ λP F U=>?_;exact handled (s2:=s) (T:=e) (B:=PySem.W.hideAll s.heap (bW X.stack)) (a0:=.ref t) Z I I ⟨m.new,m.new⟩ ⟨N,N⟩ (λb o v h2 _ _=>PySem.W.hideAll_get _ v h2) (Z.st▸F) (((R4 m.keeps).trans M).trans U) q
theorem vU{body:List Qi}{pos:Pos}{t:TS}(I:L2.Inv X pq σ H s)(d:eL (XB X pq D (jd nb pe n y tp np vp cp rp hp)) body t)(h:t D σ H):
  wpAny (model X.prog X.w) X.A (exec (.Try body [jd nb pe n y tp np vp cp rp hp] [] [] pos) X.env) (SP X pq D) X.xe s:=by
 refine wpAny_Try_except (O0 (d [] s σ H D (Kh I) h) (λf S q=>?_) λe S q=>q);have q:=pr q;cases f with
 |next=>obtain⟨a,b,c,q⟩:=q;exact RO ⟨a,b,c,q⟩
 |brk=>exact q
 |cont=>exact q
 |ret u=>exact q
end
set_option genInjectivity false in
inductive Rz where
 |cls (x:Str)|kind (f:Str) (ys ws:Ls)
 deriving DecidableEq
mutual
noncomputable def NG:CS->List Rz
 | .raise_ x _=>[.cls x]
 | .tryK _ body f ys w=>.kind f ys w::eP body
 | .tryN _ _ body f ys w=>.kind f ys w::eP body
 | .ite _ a b=>eP a++eP b
 | .for_ _ _ body=>eP body
 | .while_ _ _ body=>eP body
 |_=>[]
noncomputable def eP:List CS->List Rz
 | []=>[]
 |c::cs=>NG c++eP cs
end
noncomputable def XC(P:OF)(w:ON)(K:Fg)(m:Mg):Rz->Prop
 | .cls x=>∃C,m x=some (.ref C)/\PySem.W.excIn K C kS "ValueError.__new__"=Ox
 | .kind f ys W=>∃fa pa,m f=some (.ref fa)/\PySem.W.keepIn K (.ref fa)=Ox/\m "PairError"=some (.ref pa)/\
   ∀x r,(ys.zip W).lookup x=some r->∀v,m x=some v->∃C,v=.ref C/\PySem.W.exmOne K (.ref C) (.ref pa)=some Ox/\∀base,k7 P w K m base fa C r
theorem vV{x:Str}(X:K.In h)(e:mg x=some (.ref C))(q:PySem.W.excIn K C kS "ValueError.__new__"=Ox):OwnCls x C kS "ValueError.__new__" mg h:=by
 refine⟨e,?_⟩;unfold PySem.W.excIn at q;split at q
 ·rename_i D o sl s;split at q
  ·rename_i v B k g i j n m f w;simp only[ZG,beq_iff_eq,Q5]at q;obtain⟨⟨⟨⟨⟨rfl,rfl⟩,H⟩,t⟩,a⟩,b⟩:=q;obtain⟨N,bs,M,u,Q,r,S,sub,A,c,p⟩:=o;dsimp only at f H a b;subst f H;have d:sl= #[k,g,i,j,some (.builtin "ValueError.__new__"),m]:=by obtain⟨l⟩:=sl;simp_all
   subst d;exact⟨B,u,N,Q,bs,r,S,sub,A,c,D,k,g,i,j,m,_,X _ _ s,.of_isNs (PySem.W.isNs_of_in X a),PySem.W.nsMap_none_of_in X a b,PySem.W.tail_of_in X t⟩
  ·cases q
 ·cases q
theorem Sub.ext(s:Sub H H'):Ext μ H μ H':=⟨⟨[],by simp⟩,λa o h _=>s a o h,λa o h=>⟨o,s a o h⟩,λ_ h=>.inl h⟩
theorem Sub.sok{m:GS}(s:Sub H H')(k:aK K m μ S H):aK K m μ S H':=
 ⟨λa h=>(by obtain⟨o,e⟩:=k.live a h;exact(⟨o,s a o e⟩)),k.len,k.nd,λn a d b c=>(by obtain⟨vs,e,r⟩:=k.at_ n a d b c;exact(⟨vs,s a _ e,aj.mono s.ext _ _ r⟩))⟩
theorem pu{o i:Expr}{p:Pos}(h:iX i=Ox):∀v,assign (.Subscript o i p) env v=(do
   let O <-holding [v] (eval o env)
   let I <-holding [v,O] (eval i env)
   standAt p
   holding [v,O,I] (setItem O I v)
   release [v,O,I] []):=by
 intro v;cases i<;>first|rfl|cases h
section
variable {E:XK}{k:Nat}{pos:Pos}
end
structure pw (X:Cx)(N:Ls)(sc:Sc)(CX:dJ)(E:XK)(Φ:FT)(Γ:Str->Option D)(k:Nat):Prop where
 x:cN X (λ_=>Ox) N sc CX E Φ Γ k
 own:RB (model X.prog X.w) X.A X.env X.xe
 cx:CX=bz X.prog X.w
 fr:X.ex=[]/\X.stack=X.env::X.outer/\X.env.frame=some X.env.locals
 made:∀(pq:Lp) (σ:L2.St) (H:Hp) (s:Oz) (h2:OI) (e C:OA) (args:Lv),L2.Inv X pq σ H s->SI s.heap h2 e (.ref C) args->E (.ref C) none H->X.xe (.ref e) {s with heap:=h2}
section
variable {E:XK}{k:Nat}{pos:Pos}
theorem sN{a c:Type}{f:a->Option c}{x:a}(h:f x=none):∀{l:List a},x∈l->(l.filterMap f).length<l.length
 | [],H=>by cases H
 |y::l,H=>by
  rcases Zh.mp H with rfl|H
  ·rw[SU h];exact Q8 (SX _ _)
  ·have:=sN h H;have b:=SX f [y];rw[show y::l=[y]++l from rfl,Tr,Zk,Zk];simp at b⊢;omega
theorem px{v:Expr}(hs:env.scope.names=sc)(h1:fR tg=Ox)(a:(kP v||kQ sc tg)=Ox):swappedStores [tg] v env=pure none:=by
 cases tg<;>first| (cases h1;done)|skip
 cases v<;>first|rfl|skip
 rename_i t _ _ u _ _;unfold swappedStores;simp only[];split
 ·rfl
 ·split
  ·rfl
  ·split
   ·rfl
   ·rename_i c;rcases RS.mp a with h|h
    ·have h:(List.all u (foldedForSure 8))=Ox:=h
     first|rfl|rw[if_pos h]
    ·exfalso
     have h:(t.any λx=>match x with
      | .Name id _=>sc.lookup id==some .cell
      |_=>Oy)=Ox:=h
     obtain⟨x,d,H⟩:=QF.mp h;refine c ?_
     have b:=sN (f:=λx=>match x with
      |Expr.Name id pos=>if env.kindOf id==some .local&&pos.line==(t.head?.map (·.pos.line)).getD 0 then some id else none
      |_=>none) (x:=x) (by
       cases x<;>first|rfl|skip
       rename_i id pos;have H:(sc.lookup id==some .cell)=Ox:=H
       have e:env.kindOf id=some .cell:=by show env.scope.names.lookup id=_;rw[hs];exact Z1 H
       show(if(env.kindOf id==some .local&&_)=Ox then _ else _)=none;rw[e];rfl) d
     rw[Sr];exact .inl (bne_iff_ne.mpr (Zz b))
theorem Ki(h1:fR tg=Ox):(assignEach [tg] env).map (·.2)=[assign tg env]:=by cases tg<;>first|rfl|cases h1
theorem Kj{t v:Expr}(h:swapsWith v (some t) line env=pure Oy):swapsWithSole [t] v line env=pure Oy:=h
theorem vW(O:cN X (λ_=>Ox) N sc CX E Φ Γ k){t:CT}{e:CE}{v:Expr}(h1:fR (iY t N tg)=Ox)(h:(kP v||kQ sc (iY t N tg))=Ox)(f:f' v=Ox)(g:sf (λ_=>Ox) N sc t=Ox)(i:PE X v (tE X.K X.mg E Φ Γ e)):PS X (.Assign [iY t N tg] v pos) (tS X.K X.mg E Φ Γ (.asgT t e)):=
 cm (jR i (kr O g) (kR f) (px O.sc h1 h) (Ki h1)) λD u H z=>aG z λF p q S j c w=>by
  refine⟨F,_,_,S,j,c,(aC.bind w).mono λv H1 z=>ay z λl o d x s r W=>?_⟩;cases a:aL t d _ with
  |none=>rw[a]at W;exact W.elim
  |some m=>rw[a]at W;exact u4 a r (c.mono x) λn b=>W _ _ _ .refl s b
theorem Cy{o i v:CE}{j b g:Expr}{p:Pos}(n:iX b=Ox)(l:f' g=Ox)(q:PE X j (tE X.K X.mg E Φ Γ o))(m:PE X b (tE X.K X.mg E Φ Γ i))(r:PE X g (tE X.K X.mg E Φ Γ v)):PS X (.Assign [.Subscript j b p] g pos) (tS X.K X.mg E Φ Γ (.set o i v)):=
 cm (jR r (tM q m zR (pu n)) (Kj (kR l)) rfl) λD σ H z=>aG z λF μ ρ S C a w=>by
  refine⟨F,_,_,S,C,a,(aC.bind w).mono λvv H1 z=>ay z λJ Q f x u R G=>?_⟩;refine⟨F,_,_,_,u,a.mono x,(aC.bind G).mono λZ N z=>ay z λK T d h y s I=>?_⟩;refine⟨F,_,_,_,y,(a.mono x).mono h,(aC.bind I).mono λY O z=>ay z λL U e x3 A t W=>?_⟩;cases c:iR d e f _ with
  |none=>rw[c]at W;exact W.elim
  |some V=>rw[c]at W;exact⟨F,_,_,d,e,f,A,Rep.mono x3 _ _ s,t,Rep.mono (h.trans x3) _ _ R,_,c,λM P k B=>W _ _ _ k B ((((a.mono x).mono h).mono x3).mono k)⟩
theorem vX{e:CE}{v:Expr}(h:f' v=Ox)(b:PE X v (tE X.K X.mg E Φ Γ e)):PS X (.Expr v pos) (tS X.K X.mg E Φ Γ (.expr e)):=
 cm (mH b (kR h)) λD k H z=>aG z λF i j S c a w=>by exact⟨F,_,_,S,c,a,(aC.bind w).mono λv H1 z=>ay z λf g d x s r W=>W _ _ _ .refl s (a.mono x)⟩
theorem Cz{e:CE}{v:Expr}(h:PE X v (tE X.K X.mg E Φ Γ e)):PS X (.Return (some v) pos) (tS X.K X.mg E Φ Γ (.ret e)):=
 cm (tz h) λD j H z=>aG z λF f g S c b w=>by simp only[ar]at w;exact⟨F,f,g,S,c,b,(aC.bind w).mono λv H1 z=>ay z λa i d x s r W=>W a H1 v .refl s r⟩
theorem vY:PS X (.Return none pos) (tS X.K X.mg E Φ Γ .retN):=cm mI λD c H z=>aG z λF a b S s e w=>w _ H _ .refl s nA
theorem vZ:PS X (.Pass pos) (tS X.K X.mg E Φ Γ .pass):=cm mG λD c H z=>aG z λF a b S s e w=>w _ H _ .refl s e
theorem CA:PS X (.Break pos) (tS X.K X.mg E Φ Γ .brk):=cm Gu λD c H z=>aG z λF a b S s e w=>w _ H _ .refl s e
theorem v8:PS X (.Continue pos) (tS X.K X.mg E Φ Γ .cont):=cm Gv λD c H z=>aG z λF a b S s e w=>w _ H _ .refl s e
theorem Kk{c:CE}{a b:List CS}{t:Expr}{x y:List Qi}(i:PT X t (tT X.K X.mg E Φ Γ c))(h:eL X x (kN X.K X.mg E Φ Γ a))(g:eL X y (kN X.K X.mg E Φ Γ b)):PS X (.If t x y pos) (tS X.K X.mg E Φ Γ (.ite c a b)):=
 cm (rT i h g) λD p H z=>aG z λF n o S j e w=>by
  refine⟨F,_,_,S,j,e,(aC.bind w).mono λk H1 z=>ay z λl m K d s f W=>?_⟩;subst f;cases K with
  |true=>exact⟨F,_,_,_,s,e.mono d,W⟩
  |false=>exact⟨F,_,_,_,s,e.mono d,W⟩
theorem v9:eL X [] (kN X.K X.mg E Φ Γ []):=kO mF λD c H z=>aG z λF a b S s e w=>w _ H _ .refl s e
theorem py{c:CS}{s:Qi}{st:List Qi}(h1:PS X s (tS X.K X.mg E Φ Γ c))(h:eL X st (kN X.K X.mg E Φ Γ cs)):eL X (s::st) (kN X.K X.mg E Φ Γ (c::cs)):=
 kO (fY h1 h) λD n H z=>aG z λF l m S b a w=>by exact⟨F,_,_,S,b,a,aC.seq w λd i g f j x k e W=>⟨F,_,_,_,k,e,W⟩⟩
theorem CB{M:GS}{D:Ends}{r:Res Fl}{f:bv->af->Res Fl}{Nx:L2.St->Hp->Prop}(w:aC K M E D μ H (r.bind λF S'=>match F with
   | .next ρ'=>f ρ' S'
   | .cont ρ'=>f ρ' S'
   | .brk ρ'=>.ok (.next ρ') S'
   | .ret d=>.ok (.ret d) S')) (a:∀μ' H' σ' ρ' S',Ext μ H μ' H'->aK K M μ' S' H'->aZ K M μ' H' ρ' σ'->aC K M E D μ' H' (f ρ' S')->Nx σ' H'):aC K M E {D with nx:=Nx,ct:=Nx,bk:=D.nx} μ H r:=by
 cases r with
 |ok F S=>
  cases F with
  |next b=>exact λm h s x k e=>a m h s _ S x k e (aC.ext x (show aC K _ E D _ H _ from w))
  |ret d=>exact w
  |brk b=>exact w
  |cont b=>exact λm h s x k e=>a m h s _ S x k e (aC.ext x (show aC K _ E D _ H _ from w))
 |err z S=>exact w
 |fail=>exact w
theorem pz{c:CE}{t:Expr}{x:List Qi}(r:RB (model X.prog X.w) X.A X.env X.xe)(p:PT X t (tT X.K X.mg E Φ Γ c))(o:eL X x (kN X.K X.mg E Φ Γ body)):PS X (.While t x [] pos) (tS X.K X.mg E Φ Γ (.while_ n c body)):=
 cm (GB r p o) λD f H z=>aG z λF a b S s e w=>by
  refine⟨λm f H=>∃a b S,aK _ _ a S H/\aZ _ _ a H b f/\aC _ _ E D a H (gM _ _ m b S),⟨n,_,_,S,s,e,w⟩,?_⟩;rintro m f H ⟨a,b,S,s,e,w⟩;cases m with
  |zero=>exact w.elim
  |succ m=>
   refine⟨F,_,_,S,s,e,(aC.bind w).mono λk H1 z=>ay z λy C K i h l W=>?_⟩;subst l;cases K with
   |true=>exact⟨_,λg j q=>⟨m,Ps m,q⟩,F,_,_,_,h,e.mono i,CB W λv j g A B x k d u=>⟨_,_,_,k,d,u⟩⟩
   |false=>exact W _ _ _ .refl h (e.mono i)
end
theorem v_(step:D->bv->af->Res Fl)(xs:List D):∀(n i:Nat) (ρ:bv) (S:af),i+n=xs.length->dV step (λ_ i=>some xs[i]?) (n+1) i ρ S=cK step (xs.drop i) ρ S
 |0,i,ρ,S,h=>by rw[Rq (by omega)];unfold dV;have:xs[i]?=none:=Qg.mpr (by omega);rw[this];rfl
 |n+1,i,ρ,S,h=>by
  have H:i<xs.length:=by omega
  rw[Qh H];unfold dV;rw[Zj H];show(step _ _ S).bind _=(step _ _ S).bind _;congr 1;funext f b;cases f with
  |next a=>exact v_ _ _ n _ _ _ (by omega)
  |cont a=>exact v_ _ _ n _ _ _ (by omega)
  |brk a=>rfl
  |ret d=>rfl
theorem pA(step:D->bv->af->Res Fl)(its:iT)(ρ:bv)(S:af):nY step its ρ S=dV step (bc its) (kt its) 0 ρ S:=by
 cases its with
 |items x=>exact(v_ step x x.length 0 ρ S (by omega)).symm
 |live f get=>rfl
noncomputable def d8(Φ:FT)(Γ:Str->Option D)(t:CT)(body:List CS):D->bv->af->Res Fl:=λx ρ S=>match aL t x ρ with
 |some ρ'=>ag Φ Γ body ρ' S
 |none=>.fail
section
variable {E:XK}{k:Nat}{pos:Pos}
theorem CC{t:CT}{it:CE}{i:Expr}{x:List Qi}(hp:RB (model X.prog X.w) X.A X.env X.xe)(U:X.calm=Ox)(Z:PI X tg i (tI X.K X.mg E Φ Γ it))(V:PG X tg (sv X.K t))(hs:∀x,foldedSetIterable i X.env x=pure x)(T:eL X x (kN X.K X.mg E Φ Γ body)):
  PS X (.For tg i x [] pos) (tS X.K X.mg E Φ Γ (.for_ t it body)):=
 cm (tO hp U Z V T hs) λD u H zz=>aG zz λF b g S s r w=>by
  simp only[ar]at w;refine⟨F,b,g,S,s,r,ak.mono (Rel:=λp c I J=>f_ X.K ⟨X.mg,F⟩ J (bc I) p c) (aC.bind w) λJ H1 h=>?_⟩;obtain⟨j,M,I,x1,s1,ok,w1⟩:=h;have O:aC X.K ⟨X.mg,F⟩ E D j H1 (nY (d8 Φ Γ t body) I g M):=w1;rw[pA]at O;refine⟨λi m u H=>∃b g S,dh X.K F j H1 F b H/\aK X.K ⟨X.mg,F⟩ b S H/\aZ X.K ⟨X.mg,F⟩ b H g u/\aC X.K ⟨X.mg,F⟩ E D b H (dV (d8 Φ Γ t body) (bc I) m i g S),⟨kt I,j,g,M,.refl,s1,r.mono x1,O⟩,?_⟩;rintro i m u H ⟨b,g,S,N,s,r,w⟩;cases m with
  |zero=>exact w.elim
  |succ m=>
   unfold dV at w;obtain⟨k1,k2⟩:=ok i b S H F N s;cases e:bc I S i with
   |none=>rw[e]at w;exact w.elim
   |some o=>
    cases o with
    |none=>rw[e]at w;exact .inl ⟨k2 e,w b H u .refl s r⟩
    |some y=>
     rw[e]at w;obtain⟨R,Y⟩:=k1 y e;refine .inr ⟨R,λl c=>∃b g S,dh X.K F j H1 F b c/\aK X.K ⟨X.mg,F⟩ b S c/\aZ X.K ⟨X.mg,F⟩ b c g l/\aC X.K ⟨X.mg,F⟩ E D b c (dV (d8 Φ Γ t body) (bc I) m (i+1) g S),λl c q=>⟨m,Ps m,q⟩,λv c hv=>?_⟩;obtain⟨L,s2,r2⟩:=Y v c hv;have C:dh X.K F j H1 F b c:=N.trans (.of_ext L λ_ z=>.inl z);have w':=aC.ext L w
     have w3:aC X.K ⟨X.mg,F⟩ E D b c ((d8 Φ Γ t body y g S).bind λQ n=>match Q with
      | .next a=>dV (d8 Φ Γ t body) (bc I) m (i+1) a n
      | .cont a=>dV (d8 Φ Γ t body) (bc I) m (i+1) a n
      | .brk a=>.ok (.next a) n
      | .ret d=>.ok (.ret d) n):=w'
     have W:=CB (f:=λa n=>dV (d8 Φ Γ t body) (bc I) m (i+1) a n) (Nx:=λl c=>∃b g S,dh X.K F j H1 F b c/\aK X.K ⟨X.mg,F⟩ b S c/\aZ X.K ⟨X.mg,F⟩ b c g l/\aC X.K ⟨X.mg,F⟩ E D b c (dV (d8 Φ Γ t body) (bc I) m (i+1) g S)) w3
      λp P l a n x3 k B K=>⟨p,a,n,C.trans (.of_ext x3 λ_ z=>.inl z),k,B,K⟩
     unfold d8 at W;cases A:aL t y g with
     |none=>simp only[A]at W;exact W.elim
     |some a=>simp only[A]at W;exact u4 A r2 (r.mono L) λσ2 G=>⟨F,b,a,S,s2,G,W⟩
end
section
variable {E:XK}{k:Nat}
theorem pB(O:pw X N sc CX E Φ Γ k){x:Str}{es:List CE}(h:yt (.raise_ x es) N sc st=Ox)(hx:XC X.prog X.w X.K X.mg (.cls x))(ha:PA X (dX es N (vw (vs st).e0).es) (tL X.K X.mg E Φ Γ es)):PS X (jL (.raise_ x es) N st) (tS X.K X.mg E Φ Γ (.raise_ x es)):=by
 obtain⟨h1,h⟩:=ae h;obtain⟨_,h⟩:=ae h;obtain⟨h2,h3⟩:=ae h;obtain⟨C,G,hq⟩:=hx;obtain⟨g1,g2,_⟩:=de h1;intro U s Z H D I zz;have own:=vV I.mod.kin G hq;cases es with
 |nil=>cases h2
 |cons e es=>
  have d:=Zp.mp h3;obtain⟨tl,N0,R,q,bs,a,V,sub,A,c,B,K,J,L,M,P,Q,hC,hN,l,T⟩:=own.obj;show wpAny _ _ (exec (.Raise (some (.Call (.Name x _) (aY e N _::dX es N _) [] _)) none _) X.env) _ _ s
  refine wpAny_Raise_call_subU (C:=C) (nm:=R) (q:=q) (N:=N0) (bs:=bs) (bm:=tl) (hdct:=a) (sn:=V) (sub:=sub) (ab:=A) (col:=c) (dd:=B) (k0:=K) (k1:=J) (k2:=L) (k3:=M) (k5:=P)
   PySem.F.excBase_ValueError (bmB:=kS) (by decide+kernel) PySem.F.excBase_ValueError (mN:=Q) (T.hasType (by decide+kernel)) (I.ok.hd O.x.calm) (gR d) l (jN I (O.x.gl g1) own.bound ⟨rfl,?_⟩ g2)
  obtain⟨F,p,u,S,sk,en,w⟩:=zz;have j:=ha (vw (vs st).e0).pos U s Z H (λo H1=>o.length<=sizeLine/\E (.ref C) none H1) I ⟨F,p,u,S,sk,en,?_⟩
  ·have he:=cf (env:=X.env) (es:=dX es N (vw (vs st).e0).es.tail) (d _ Zd);have b:wpAny _ _ (spliced (backTo _ (starEach (aY e N ((vw (vs st).e0).es.headD dE)::dX es N (vw (vs st).e0).es.tail) X.env))) _ _ s:=j;rw[he]at b⊢;refine Pz (O0 b (λus Y f=>?_) λ_ _ y=>y);obtain⟨o,H1,g,r,z,q⟩:=f;exact⟨rfl,by rw[<-r.length];exact z,(g.bs _ _ hC).1,hN.keeps g.bk,T.keeps g.bk,λj e m=>O.made U Z H1 _ j e C _ g m q⟩
  ·have W:aC X.K ⟨X.mg,F⟩ E D p H ((ai Φ Γ (e::es) u S).bind _):=w;cases i:ai Φ Γ (e::es) u S with
   |ok ds v=>
    rw[i]at W;intro t H' o x1 s1 r1;have n:aC X.K ⟨X.mg,F⟩ E D p H (if ds.length<=1000 then .err ⟨x,[]⟩ v else .fail):=W;split at n
    ·rename_i hl;exact⟨by rw[<-r1.length];exact Zl hl (by decide),n t H' x1 s1 (.ref C) none ⟨G,rfl⟩⟩
    ·exact n.elim
   |err y v=>rw[i]at W;exact W
   |fail=>rw[i]at W;exact W
noncomputable def NH(nb:Option (Str×Nat×Pos×Pos))(r:Str):D:=match nb with
 |none=>.str r
 |some (y,_)=>.lst [.str y,.str r]
noncomputable def g6(nb:Option (Str×Nat×Pos×Pos))(ys ws:Ls):Res Fl->Res Fl
 | .err x S'=>(match x.fs,(ys.zip ws).lookup x.cls with
  | [],some r=>.ok (.ret (NH nb r)) S'
  |_,_=>.fail)
 |r=>r
theorem k9(O:pw X N sc CX E Φ Γ k){i:Nat}{f:Str}{ws:Ls}{np pos:Pos}(h:(N[i]?==some (N.getD i "")&&(sc.lookup (N.getD i "")==some .local&&(eM (N.getD i "")&&(bh sc "PairError"&&(bh sc f&&eO body N sc (vs st).a)))))=Ox)(hx:XC X.prog X.w X.K X.mg (.kind f ys ws))
  (hb:∀{X':Cx} {E':XK},X'.prog=X.prog->X'.w=X.w->X'.K=X.K->X'.mg=X.mg->pw X' N sc CX E' Φ Γ k->eL X' (cA body N (vs st).a) (kN X'.K X'.mg E' Φ Γ body)):
  PS X (.Try (cA body N (vs st).a) [jd nb "PairError" (N.getD i "") f tp np vp cp rp hp] [] [] pos) (λD σ H=>∃F μ ρ S,aK X.K ⟨X.mg,F⟩ μ S H/\aZ X.K ⟨X.mg,F⟩ μ H ρ σ/\aC X.K ⟨X.mg,F⟩ E D μ H (g6 nb ys ws (ag Φ Γ body ρ S))):=by
 obtain⟨V,h⟩:=ae h;obtain⟨Y,h⟩:=ae h;obtain⟨h3,h⟩:=ae h;obtain⟨h4,h⟩:=ae h;obtain⟨h5,h6⟩:=ae h;obtain⟨g,P,m1,m2,m3,m4⟩:=hx;obtain⟨Q,R,_⟩:=de h4;obtain⟨T,U,_⟩:=de h5;have Z:pp X "PairError" (N.getD i "") f i g P:=⟨O.fr.1,O.fr.2.1,O.fr.2.2,O.x.room.depth,⟨O.x.gl Q,m3,R⟩,⟨O.x.gl T,m1,U⟩,m2,by rw[O.x.n];exact O.x.nd,by rw[O.x.n];exact Z1 V,by rw[O.x.sc];exact Z1 Y,h3,O.x.fn _ rfl⟩;intro pq s σ H D I zz;obtain⟨F,μ,ρ,S,sk,L,w⟩:=zz;refine vU I (hb (X':=XB X pq D _) (E':=EH X nb g P D) rfl rfl rfl rfl ⟨⟨O.x.n,O.x.nd,O.x.sc,O.x.kd,O.x.calm,O.x.room,O.x.fn,O.x.mod,?_,O.x.cx0⟩,Cu,O.cx,O.fr,λj σ' z s' h2' e C A B m q=>Cw Z B m q⟩) ⟨F,μ,ρ,S,sk,L,?_⟩
 ·rw[O.cx];exact Cv Z
 ·show aC X.K ⟨X.mg,F⟩ (EH X nb g P D) D μ H (ag Φ Γ body ρ S);cases c:ag Φ Γ body ρ S with
  |ok M n=>rw[c]at w;cases M<;>exact w
  |fail=>rw[c]at w;exact w
  |err x n=>
   rw[c]at w;obtain⟨cls,fs⟩:=x;cases fs with
   |cons _ _=>exact False.elim w
   |nil=>
    cases d:(ys.zip ws).lookup cls with
    |none=>dsimp only[g6]at w;rw[d]at w;exact False.elim w
    |some r=>
     dsimp only[g6]at w;rw[d]at w;have W:aC X.K ⟨X.mg,F⟩ E D μ H (.ok (.ret (NH nb r)) n):=w;intro a z y t v o hv;obtain⟨C,G,J,K⟩:=m4 cls r d v hv.1;refine⟨C,r,G,K _,J,λv b u=>?_⟩;cases nb with
     |none=>obtain⟨rfl,u⟩:=u;exact W a b (.str r) (y.trans u.ext) (u.sok t) dy
     |some q=>obtain⟨p,H1,u,hp,rfl,rfl⟩:=u;have l:=u.sok t;exact W a _ _ ((y.trans u.ext).trans (.laid hp)) (l.laid hp) (by unfold Rep;exact⟨p,_,rfl,bU,⟨l.notin hp,l.notF hp⟩,.cons dy (.cons dy .nil)⟩)
theorem CD(O:pw X N sc CX E Φ Γ k){i:Nat}{f:Str}{ws:Ls}(h:yt (.tryK i body f ys ws) N sc st=Ox)(d:XC X.prog X.w X.K X.mg (.kind f ys ws))
  (c:∀{X':Cx} {E':XK},X'.prog=X.prog->X'.w=X.w->X'.K=X.K->X'.mg=X.mg->pw X' N sc CX E' Φ Γ k->eL X' (cA body N (vs st).a) (kN X'.K X'.mg E' Φ Γ body)):PS X (jL (.tryK i body f ys ws) N st) (tS X.K X.mg E Φ Γ (.tryK i body f ys ws)):=by
 intro p s l H D I ⟨F,j,a,S,g,b,w⟩;refine k9 O (nb:=none) h d c p s l H D I ⟨F,j,a,S,g,b,?_⟩;have e:g6 none ys ws (ag Φ Γ body a S)=ar Φ Γ (.tryK i body f ys ws) a S:=rfl;trivial
theorem wa(O:pw X N sc CX E Φ Γ k){i:Nat}{f:Str}{ws:Ls}(h:yt (.tryN y i body f ys ws) N sc st=Ox)(d:XC X.prog X.w X.K X.mg (.kind f ys ws))
  (c:∀{X':Cx} {E':XK},X'.prog=X.prog->X'.w=X.w->X'.K=X.K->X'.mg=X.mg->pw X' N sc CX E' Φ Γ k->eL X' (cA body N (vs st).a) (kN X'.K X'.mg E' Φ Γ body)):PS X (jL (.tryN y i body f ys ws) N st) (tS X.K X.mg E Φ Γ (.tryN y i body f ys ws)):=by
 intro p s l H D I ⟨F,j,a,S,g,b,w⟩;refine k9 O (nb:=some (y,_,_,_)) h d c p s l H D I ⟨F,j,a,S,g,b,?_⟩;have e:g6 (some (y,0,default,default)) ys ws (ag Φ Γ body a S)=ar Φ Γ (.tryN y i body f ys ws) a S:=by rw[ar];cases ag Φ Γ body a S<;>rfl
 exact e▸w
end
mutual
theorem wb(c:CS):∀{X:Cx} {N:Ls} {sc:Sc} {CX:dJ} {E:XK} {Φ:FT} {Γ:Str->Option D} {k:Nat} {st:Qi},pw X N sc CX E Φ Γ k->yt c N sc st=Ox->(∀z∈NG c,XC X.prog X.w X.K X.mg z)->PS X (jL c N st) (tS X.K X.mg E Φ Γ c):=by
 intro X N sc CX E Φ Γ k st O h d;cases c with
 |asg i e=>exact Cg O.x h
 |asgT t e=>exact vW O.x (kL (ae h).1) ((ae (ae h).2).1) (ae (ae (ae h).2).2).1 (ae (ae (ae (ae h).2).2).2).1 (aM e O.x (ae (ae (ae (ae h).2).2).2).2)
 |set o i v=>exact Cy (ae (ae h).1).1 (ae (ae h).2).1 (aM o O.x (ae (ae (ae h).1).2).1) (aM i O.x (ae (ae (ae h).1).2).2) (aM v O.x (ae (ae h).2).2)
 |expr e=>exact vX (ae h).1 (aM e O.x (ae h).2)
 |ret e=>exact Cz (aM e O.x h)
 |retN=>exact vY
 |pass=>exact vZ
 |brk=>exact CA
 |cont=>exact v8
 |ite c a b=>exact Kk (el c O.x (ae h).1) (g7 a O (ae (ae h).2).1 λz g=>d z (Z7 _ g)) (g7 b O (ae (ae h).2).2 λz g=>d z (ZD _ g))
 |for_ t it body=>exact CC O.own O.x.calm (pc it O.x (ae (ae h).2).1 kL) (kr O.x (ae h).1) (o3 (ae (ae (ae h).2).2).1) (g7 body O (ae (ae (ae h).2).2).2 d)
 |while_ n c body=>exact pz O.own (el c O.x (ae h).1) (g7 body O (ae h).2 d)
 |never=>exact λP s K H D I Z=>aG Z λF G J S C B w=>w.elim
 |raise_ x A=>exact pB O h (d _ Zd) (dB A O.x (ae (ae h).2).1)
 |tryK i body f Y W=>exact CD O h (d _ Zd) λ{u r} l m p q j=>g7 body j (ae (ae (ae (ae (ae h).2).2).2).2).2 λz g=>by rw[l,m,p,q];exact d z (Zc _ g)
 |tryN y i body f Y W=>exact wa O h (d _ Zd) λ{u r} l m p q j=>g7 body j (ae (ae (ae (ae (ae h).2).2).2).2).2 λz g=>by rw[l,m,p,q];exact d z (Zc _ g)
theorem g7(cs:List CS):∀{X:Cx} {N:Ls} {sc:Sc} {CX:dJ} {E:XK} {Φ:FT} {Γ:Str->Option D} {k:Nat} {st:List Qi},pw X N sc CX E Φ Γ k->eO cs N sc st=Ox->(∀z∈eP cs,XC X.prog X.w X.K X.mg z)->eL X (cA cs N st) (kN X.K X.mg E Φ Γ cs):=by
 intro X N sc CX E Φ Γ k st O h a;cases cs with
 |nil=>exact v9
 |cons c cs=>exact py (wb c O (ae h).1 λz H=>a z (Z7 _ H)) (g7 cs O (ae h).2 λz H=>a z (ZD _ H))
end
mutual
noncomputable def a_(k:Nat):D->Bool
 | .tup xs=>bi k xs
 | .lst xs=>bi k xs
 | .scr xs=>bi k xs
 | .ref n=>decide (n<k)
 |_=>Ox
noncomputable def bi(k:Nat):List D->Bool
 | []=>Ox
 |x::xs=>a_ k x&&bi k xs
end
noncomputable def eS(k:Nat)(d:D)(S':af):Res D:=
 if(S'.take k).all (bi k)=Ox then
  (if a_ k d=Ox then .ok d (S'.take k)else match d with
   | .ref n=>(match S'[n]? with
    |some xs=>if bi k xs=Ox/\k<=n then .ok (.ref k) (S'.take k++[xs])else .fail
    |none=>.fail)
   |_=>.fail)
 else .fail
noncomputable def aJ(Φ:FT)(Γ:Str->Option D)(body:List CS)(n np:Nat)(ds:List D)(S:af):Res D:=
 if ds.length=np then
  (match ag Φ Γ body (ds.map some++OG (n-np) none) S with
  | .ok (.ret d) S'=>eS S.length d S'
  | .ok (.next _) S'=>eS S.length .non S'
  | .err x S'=>if(S'.take S.length).all (bi S.length)=Ox then .err x (S'.take S.length)else .fail
  |_=>.fail)
 else .fail
section
variable {mg:GS}{μ'':La}{k:Nat}
mutual
theorem Rep.low(b:∀n,n<k->μ''[n]?=μ'[n]?)(hs:∀a∈μ'',a∈μ'):∀(d:D) (v:V),a_ k d=Ox->Rep K mg μ' H d v->Rep K mg μ'' H d v
 | .non,_,_,h=>h
 | .bl _,_,_,h=>h
 | .int _,_,_,h=>h
 | .str _,_,_,h=>h
 | .tup _,v,l,h=>by obtain⟨a,vs,e,q,r⟩:=h;exact⟨a,_,e,q,aj.low b hs _ _ l r⟩
 | .lst _,v,l,h=>by obtain⟨a,vs,e,q,n,r⟩:=h;exact⟨a,_,e,q,⟨λz=>n.1 (hs a z),n.2⟩,aj.low b hs _ _ l r⟩
 | .scr _,v,l,h=>by obtain⟨a,vs,e,q,r⟩:=h;exact⟨a,_,e,q,aj.low b hs _ _ l r⟩
 | .ref n,v,l,h=>by dsimp only[Rep]at h⊢;dsimp only[a_]at l;simp_all
 | .fn y,v,_,h=>h
 | .ty y,v,_,h=>h
 | .dct,v,_,h=>h
 | .dks _,v,_,h=>h
theorem aj.low(b:∀n,n<k->μ''[n]?=μ'[n]?)(hs:∀a∈μ'',a∈μ'):∀(ds:List D) (vs:List V),bi k ds=Ox->aj K mg μ' H ds vs->aj K mg μ'' H ds vs
 | [],vs,_,h=>h
 |d::ds,vs,l,h=>by dsimp only[bi]at l;simp at l;obtain⟨w,W,e,r,q⟩:=h;exact⟨w,_,e,Rep.low b hs d w l.1 r,aj.low b hs _ _ l.2 q⟩
end
theorem Ext.cut(x:Ext μ H μ' H'):Ext μ H μ H':=⟨⟨[],by simp⟩,x.keep,x.there,λ_ h=>.inl h⟩
theorem aK.cut(x:Ext μ H μ' H')(f:μ.length=k)(s:aK K mg μ' S' H')(l:(S'.take k).all (bi k)=Ox):aK K mg μ (S'.take k) H':=by obtain⟨r,rfl⟩:=x.pre;have g:=s.len;refine⟨s.live,by grind,(ZT.mp s.nd).1,λn a D e h=>?_⟩;have c:=h;rw[Q7 (by grind)]at h;obtain⟨vs,q,R⟩:=s.at_ n a _ (by grind) h;exact⟨_,q,aj.low λm i=>by grind (λb d=>Z7 _ d) _ _ (Zp.mp l _ (Zx c)) R⟩
theorem CF{E:XK}{Q:VK}(x:Ext μ H μ' H')(t:μ.length=k)(s:aK K mg μ' S' H')(r:Rep K mg μ' H' d v)(w:ak K mg E (Rep K mg) μ H Q (eS k d S')):Q v H':=by
 unfold eS at w;split at w
 ·rename_i u;split at w
  ·rename_i I;refine w μ H' v x.cut (aK.cut x t s u) ?_;obtain⟨R,rfl⟩:=x.pre;exact Rep.low (k:=k) (λm j=>by rw[Zv (by omega)]) (λb f=>Z7 _ f) _ _ I r
  ·split at w
   ·rename_i n L;split at w
    ·rename_i X M;split at w
     ·rename_i A;unfold Rep at r;obtain⟨a,rfl,o⟩:=r;obtain⟨vs,q,O⟩:=s.at_ n a X o M;have P:=aK.cut x t s u;obtain⟨R,rfl⟩:=x.pre;have jd:=ZT.mp s.nd;have J:μ.length<=n:=by omega
      have e:a∈R:=by rw[Zq J]at o;exact Zx o
      have i:a∉μ:=λz=>jd.2.2 a z a e rfl
      have p:H a=none:=by
       rcases x.fresh a (ZD _ e)with z|z
       ·exact absurd z i
       ·exact z
      have sub:∀b∈μ++[a],b∈μ++R:=λb f=>by
       rcases ZC.mp f with z|z
       ·exact Z7 _ z
       ·have:b=a:=by simpa using z
        subst this;exact ZD _ e
      have S:∀m,m<k->(μ++[a])[m]?=(μ++R)[m]? :=λm j=>by rw[Zv (by omega),Zv (by omega)]
      have y:=s.len;simp at y;refine w (μ++[a]) H' (.ref a) ⟨⟨[a],rfl⟩,x.keep,x.there,λb f=>?_⟩ ⟨s.live,?_,?_,λm b D g h=>?_⟩ ?_
      ·rcases ZC.mp f with z|z
       ·exact .inl z
       ·have:b=a:=by simpa using z
        subst this;exact .inr p
      ·rw[Zk,Zk,OV];simp;omega
      ·rw[ZT]
       exact⟨jd.1,by simp,λb f c G=>by
        have:c=a:=by simpa using G
        subst this;intro z;subst z;exact i f⟩
      ·by_cases j:m<μ.length
       ·rw[Zv j]at g;rw[Zv (by rw[OV];omega)]at h;have l:=h;rw[Q7 (by omega)]at h;obtain⟨W,N,B⟩:=s.at_ m b D (by rw[Zv j];exact g) h;exact⟨W,N,aj.low (k:=k) S sub _ _ (Zp.mp u D (Zx l)) B⟩
       ·have C:m=μ.length:=by
         have:=(Zg.mp g).1;simp at this;omega
        subst C;rw[Zq (Zf _)]at g;rw[Zq (by rw[OV];omega)]at h;have F:μ.length-(S'.take k).length=0:=by rw[OV];omega
        rw[F]at h;simp at g h;subst g;subst h;exact⟨vs,q,aj.low (k:=k) S sub _ _ A.1 O⟩
      ·unfold Rep;exact⟨a,rfl,by rw[<-t,Zq (Zf _)];simp⟩
     ·exact w.elim
    ·exact w.elim
   ·exact w.elim
 ·exact w.elim
end
theorem Kl{m:GS}{vs:List V}(r:aj K m μ H ds vs):aZ K m μ H (ds.map some++OG (N.length-ds.length) none) (L2.start N vs):=by
 unfold L2.start;have c:=r.length;refine⟨by simp[c],λi d e=>?_⟩;by_cases h:i<ds.length
 ·rw[Zv (by simpa using h),ZW]at e;cases E:ds[i]? with
  |none=>rw[E]at e;cases e
  |some D=>rw[E]at e;cases e;obtain⟨v,a,b⟩:=r.get E;exact⟨v,by rw[Zv (by simp;omega),ZW,a];rfl,b⟩
 ·rw[Zq (by simpa using h),Rf]at e;split at e<;>cases e
section
variable {P:OF}{k:Nat}
theorem bT.mono{j:Nat}{f:Str}(F:bT P w K mg base CX j f φ)(h:j<=k):bT P w K mg base CX k f φ:=by obtain⟨d,e,p,m,M,a,b,c⟩:=F.ex;exact⟨_,_,_,m,M,a,b.mono h,c⟩
theorem CG{x:Str}{B:Pr}{ps:Ls}(F:nz K x qual st f B)(S:bP N ps (bx st))(M:F3 P w K mg base (bz P w) Φ Γ k)(U:cA body N (bX st)=bX st)(T:eO body N (bx st).names (bX st)=Ox)(Y:∀z∈eP body,XC P w K mg z):
  c9 P w K mg base (bz P w) (k+1) f B ps (uR K mg ps.length (aJ Φ Γ body N.length ps.length)):=by
 obtain⟨oc,od,kV,J,pm,an,i,ct,Z,rfl,lk,j⟩:=F.ex;refine zg lk j S (λvs H Q E h=>h.1) λA o s H vs Q E X h=>?_
 ·obtain⟨V,F',μ,t,O,D,r,W⟩:=h;have L:mw (fZ _ P w K mg base N qual (bx st) f i A o s H E) E:=mw.of;refine⟨_,U▸g7 _ ⟨⟨rfl,S.nd,rfl,S.kind,rfl,X,λ_ _=>rfl,M,L.pass,sM⟩,L.own,rfl,⟨rfl,rfl,rfl⟩,λpq σ H1 s1 h2 e C u I m q=>L.made I m q⟩ T Y,_,_,_,_,D,Kl r,?_⟩;have b:O.length=ps.length:=by rw[r.length];exact V
  unfold aJ at W;rw[if_pos b,<-b]at W;have a:=D.len;cases e:ag _ _ _ _ _ with
  |ok R p=>
   rw[e]at W;cases R with
   |next G=>exact λg n σ' x c _=>CF x a c nA W
   |ret d=>exact λg n v x c r'=>CF x a c r' W
   |brk G=>exact W.elim
   |cont G=>exact W.elim
  |err y p=>
   rw[e]at W;intro g n x c;by_cases l:(p.take t.length).all (bi t.length)=Ox
   ·simp[l]at W;exact W _ _ x.cut (aK.cut x a c l)
   ·simp[l]at W;exact W.elim
  |fail=>rw[e]at W;exact W.elim
theorem Og{x:Str}{a:Pr}{ps:Ls}(F:nz K x qual st f a)(S:bP N ps (bx st))(g:mg x=some (.ref f))(b:Binds K a ps [])(M:F3 P w K mg base (bz P w) Φ Γ k)(e:cA body N (bX st)=bX st)(c:eO body N (bx st).names (bX st)=Ox)(i:∀z∈eP body,XC P w K mg z):
  bT P w K mg base (bz P w) (k+1) x (aJ Φ Γ body N.length ps.length):=by
 refine⟨f,a,ps,g,F.kp,b,CG F S M e c i,λd j H=>?_⟩;unfold aJ at H;by_cases h:d.length=ps.length
 ·exact h
 ·rw[if_neg h]at H;exact absurd rfl H
theorem Km{x:Str}{b:Pr}{ps:Ls}(F:nz K x qual st f b)(S:bP N ps (bx st))(d:mg x=some (.ref f))(c:Binds K b ps []):bT P w K mg base (bz P w) k x (λ_ _=>.fail):=
 ⟨f,_,_,d,F.kp,c,⟨λvs H Q E h=>h.1,λA o s H a u vs Q E _ _ _ _ h=>by obtain⟨_,_,_,_,_,_,_,z⟩:=h;exact z.elim⟩,λ_ _ h=>absurd rfl h⟩
theorem cV{P:Lv->Prop}(h:∀a,P [a]):∀us:Lv,us.length=1->P us:=λus H=>by obtain⟨a,rfl⟩:=List.length_eq_one_iff.mp H;exact h a
theorem cq{P:Lv->Prop}(h:∀a b,P [a,b]):∀us:Lv,us.length=2->P us:=λus H=>by
 cases us with
 |nil=>cases H
 |cons a us=>exact cV (P:=λus=>P _) (h a) _ (ZI H)
theorem Ko{P:Lv->Prop}(h:∀a b c,P [a,b,c]):∀us:Lv,us.length=3->P us:=λus H=>by
 cases us with
 |nil=>cases H
 |cons a us=>exact cq (P:=λus=>P _) (h a) _ (ZI H)
noncomputable def tbl(l:List (Str×(List D->af->Res D))):FT:=λf=>l.lookup f
theorem NI(h:∀p∈l,bT P w K mg base (bz P w) k p.1 p.2)(b:∀x d,Γ x=some d->∃v u,mg x=some u/\RelV v u/\∀F μ H,Rep K ⟨mg,F⟩ μ H d v)(a:∀x∈gQ,mg x=none):F3 P w K mg base (bz P w) (tbl l) Γ k:=
 ⟨λf c e=>h _ (ZF e),b,a⟩
end
end Py
namespace K92
noncomputable def Kp:Ls:=["NoWeb","NoPlace","NoPlaces","NoTie","NoNumber","NoPairing","NoWay","NoRing","NoArrows","NoSides","NoText","NoLine","NoDeed","TooGreat"]
noncomputable def F9:Ls:=["web","place","places","tie","number","pairing","way","ring","arrows","sides","text","line","deed","great"]
noncomputable def G0:Str->Option D:=λx=>[(("MOST_PLACES":Str),D.int 8),(("FIGURES":Str),D.str "0123456789"),(("NONE":Str),D.str "none")].lookup x
noncomputable def Kq:Ls:=["thing"]
noncomputable def Kr:List CS:=[.ret (.band (.blt .isinst [.var 0,.ty "int"]) (.bnot (.blt .isinst [.var 0,.ty "bool"])))]
noncomputable def Ks:FT:=tbl []
noncomputable def g8:List D->af->Res D:=aJ Ks G0 Kr Kq.length 1
noncomputable def CH:Ls:=["thing","low","high"]
noncomputable def k_:List CS:=[.ret (.band (.call "is_number" [.var 0]) (.chain .LtE .LtE (.var 1) (.var 0) (.var 2)))]
noncomputable def wc:FT:=tbl [("is_number",g8)]
theorem we:wc "is_number"=some g8:=rfl
noncomputable def fH:List D->af->Res D:=aJ wc G0 k_ CH.length 3
noncomputable def Kt:Ls:=["many","thing"]
noncomputable def pC:List CS:=[.ret (.call "is_number_from" [.var 1,.lit (.int 0),.bin .Sub (.var 0) (.lit (.int 1))])]
noncomputable def wf:FT:=tbl [("is_number_from",fH)]
theorem CI:wf "is_number_from"=some fH:=rfl
noncomputable def lf:List D->af->Res D:=aJ wf G0 pC Kt.length 2
noncomputable def wg:Ls:=["things"]
noncomputable def wh:List CS:=[.ret (.blt .all [.comp Oy ["one","other"] [none,none] (.tup [.var 0,.var 1]) (.zip [.var 0,.sl (.var 0) [.lit (.int 1)] []]) [] (.emit (.cmp .Lt (.var 0) (.var 1)))])]
noncomputable def Ku:FT:=tbl []
noncomputable def d9:List D->af->Res D:=aJ Ku G0 wh wg.length 1
noncomputable def CJ:Ls:=["many","thing"]
noncomputable def yv:CE:=.comp Oy ["place","many"] [none,some 0] (.var 0) (.seq (.var 1)) [] (.emit (.call "is_place" [.var 1,.var 0]))
noncomputable def lh:List CS:=[.ret (.band (.blt .isinst [.var 1,.ty "tuple"]) (.blt .all [yv]))]
noncomputable def jg:FT:=tbl [("is_place",lf)]
theorem Kv:jg "is_place"=some lf:=rfl
noncomputable def gb:List D->af->Res D:=aJ jg G0 lh CJ.length 2
noncomputable def CK:Ls:=["things"]
noncomputable def wj:List CS:=[.ret (.cmp .Eq (.lenset (.var 0)) (.blt .len [.var 0]))]
noncomputable def Kw:FT:=tbl []
noncomputable def li:List D->af->Res D:=aJ Kw G0 wj CK.length 1
noncomputable def CL:Ls:=["many","thing"]
noncomputable def jh:List CS:=[.ret (.band (.call "are_places" [.var 0,.var 1]) (.band (.cmp .Eq (.blt .len [.var 1]) (.lit (.int 2))) (.call "is_rising" [.var 1])))]
noncomputable def pE:FT:=tbl [("are_places",gb),("is_rising",d9)]
theorem pF:pE "are_places"=some gb:=rfl
theorem CM:pE "is_rising"=some d9:=rfl
noncomputable def fk:List D->af->Res D:=aJ pE G0 jh CL.length 2
noncomputable def CN:Ls:=["thing","many","ties"]
noncomputable def CO:CE:=.bor (.bnot (.blt .isinst [.var 0,.ty "tuple"])) (.cmp .NotEq (.blt .len [.var 0]) (.lit (.int 2)))
noncomputable def Kx:CE:=.bor (.bnot (.call "is_number_from" [.var 1,.lit (.int 1),.glob "MOST_PLACES"])) (.bnot (.blt .isinst [.var 2,.ty "tuple"]))
noncomputable def yw:CE:=.comp Oy ["tie","many"] [none,some 1] (.var 0) (.seq (.var 2)) [] (.emit (.call "is_tie" [.var 1,.var 0]))
noncomputable def ji:List CS:=[.ite CO [.ret (.lit (.bl Oy))] [],.asgT (.tup [.var 1,.var 2]) (.var 0),.ite Kx [.ret (.lit (.bl Oy))] [],.ret (.band (.blt .all [yw]) (.call "is_rising" [.var 2]))]
noncomputable def dC:FT:=tbl [("is_rising",d9),("is_number_from",fH),("is_tie",fk)]
theorem CP:dC "is_rising"=some d9:=rfl
theorem CQ:dC "is_number_from"=some fH:=rfl
theorem CU:dC "is_tie"=some fk:=rfl
noncomputable def dD:List D->af->Res D:=aJ dC G0 ji CN.length 1
noncomputable def CV:Ls:=["web","thing"]
noncomputable def mx:CE:=.band (.call "is_tie" [.idx (.var 1) (.lit (.int 0)),.var 0]) (.cmp .In (.var 0) (.idx (.var 1) (.lit (.int 1))))
noncomputable def my:CE:=.comp Oy ["tie","web"] [none,some 0] (.var 0) (.seq (.var 1)) [] (.emit mx)
noncomputable def jj:List CS:=[.ite (.bnot (.blt .isinst [.var 1,.ty "tuple"])) [.ret (.lit (.bl Oy))] [],.ret (.band (.blt .all [my]) (.call "is_rising" [.var 1]))]
noncomputable def fI:FT:=tbl [("is_rising",d9),("is_tie",fk)]
theorem CW:fI "is_rising"=some d9:=rfl
theorem pG:fI "is_tie"=some fk:=rfl
noncomputable def g9:List D->af->Res D:=aJ fI G0 jj CV.length 2
noncomputable def wk:Ls:=["thing"]
noncomputable def wl:List CS:=[.ite (.bnot (.call "is_web" [.var 0])) [.raise_ "NoWeb" [.lit (.str "this is no web")]] []]
noncomputable def CY:FT:=tbl [("is_web",dD)]
theorem CZ:CY "is_web"=some dD:=rfl
noncomputable def eT:List D->af->Res D:=aJ CY G0 wl wk.length 1
noncomputable def C0:Ls:=["web","thing"]
noncomputable def mz:CE:=.comp Oy ["tie","place"] [none,none] (.var 0) (.seq (.var 1)) [] (.inner (.var 1) (.seq (.var 0)) [] (.emit (.var 1)))
noncomputable def pH:List CS:=[.expr (.call "must_be_web" [.var 0]),.ret (.band (.call "are_ties" [.var 0,.var 1]) (.call "are_unlike" [mz]))]
noncomputable def gc:FT:=tbl [("must_be_web",eT),("are_ties",g9),("are_unlike",li)]
theorem C1:gc "must_be_web"=some eT:=rfl
theorem wm:gc "are_ties"=some g9:=rfl
theorem C2:gc "are_unlike"=some li:=rfl
noncomputable def d_:List D->af->Res D:=aJ gc G0 pH C0.length 2
noncomputable def Ky:Ls:=["word"]
noncomputable def lj:List CS:=[.ret (.ite (.band (.cmp .Eq (.blt .len [.var 0]) (.lit (.int 1))) (.cmp .In (.var 0) (.glob "FIGURES"))) (.smt .index (.glob "FIGURES") [.var 0]) (.lit (.non)))]
noncomputable def C3:FT:=tbl []
noncomputable def pI:List D->af->Res D:=aJ C3 G0 lj Ky.length 1
noncomputable def Kz:Ls:=["word"]
noncomputable def pJ:List CS:=[.ite (.bor (.cmp .NotEq (.blt .len [.var 0]) (.lit (.int 3))) (.cmp .NotEq (.idx (.var 0) (.lit (.int 1))) (.lit (.str "-")))) [.ret (.lit (.non))] [],.ret (.tup [.call "figure" [.idx (.var 0) (.lit (.int 0))],.call "figure" [.idx (.var 0) (.lit (.int 2))]])]
noncomputable def C4:FT:=tbl [("figure",pI)]
theorem KA:C4 "figure"=some pI:=rfl
noncomputable def wn:List D->af->Res D:=aJ C4 G0 pJ Kz.length 1
noncomputable def KC:Ls:=["thing"]
noncomputable def ll:List CS:=[.ite (.bnot (.blt .isinst [.var 0,.ty "str"])) [.raise_ "NoText" [.lit (.str "this is no text")]] []]
noncomputable def wo:FT:=tbl []
noncomputable def gf:List D->af->Res D:=aJ wo G0 ll KC.length 1
noncomputable def C5:Ls:=["web","text","words","pairing"]
noncomputable def pK:CE:=.ite (.cmp .Eq (.var 1) (.glob "NONE")) (.lst Oy []) (.smt .split (.var 1) [.lit (.str ",")])
noncomputable def mB:CE:=.blt .tuple [.comp Oy ["word"] [none] (.var 0) (.seq (.var 2)) [] (.emit (.call "read_tie" [.var 0]))]
noncomputable def lm:List CS:=[.expr (.call "must_be_web" [.var 0]),.expr (.call "must_be_text" [.var 1]),.asg 2 pK,.asg 3 mB,.ite (.bnot (.call "is_pairing" [.var 0,.var 3])) [.raise_ "NoText" [.lit (.str "this text writes no pairing of the web")]] [],.ret (.var 3)]
noncomputable def fm:FT:=tbl [("must_be_web",eT),("must_be_text",gf),("is_pairing",d_),("read_tie",wn)]
theorem wq:fm "must_be_web"=some eT:=rfl
theorem C6:fm "must_be_text"=some gf:=rfl
theorem KD:fm "is_pairing"=some d_:=rfl
noncomputable def gg:List D->af->Res D:=aJ fm G0 lm C5.length 2
noncomputable def KG:Ls:=["_law_word"]
noncomputable def iq:List CS:=[.ite (.bor (.cmp .NotEq (.blt .len [.var 0]) (.lit (.int 3))) (.bor (.cmp .NotEq (.idx (.var 0) (.lit (.int 1))) (.lit (.str "-"))) (.bor (.cmp .NotIn (.idx (.var 0) (.lit (.int 0))) (.lit (.str "0123456789"))) (.cmp .NotIn (.idx (.var 0) (.lit (.int 2))) (.lit (.str "0123456789")))))) [.ret (.lit (.non))] [],.ret (.tup [.blt .int [.idx (.var 0) (.lit (.int 0))],.blt .int [.idx (.var 0) (.lit (.int 2))]])]
noncomputable def C7:FT:=tbl []
noncomputable def jk:List D->af->Res D:=aJ C7 G0 iq KG.length 1
noncomputable def KH:Ls:=["_law_found"]
noncomputable def KI:List CS:=[.ret (.band (.blt .isinst [.var 0,.ty "int"]) (.bnot (.blt .isinst [.var 0,.ty "bool"])))]
noncomputable def KJ:FT:=tbl []
noncomputable def ir:List D->af->Res D:=aJ KJ G0 KI KH.length 1
noncomputable def KL:Ls:=["_law_web_here","_law_thing","_law_places","_law_tie"]
noncomputable def F_:CE:=.comp Oy ["_law_place"] [none] (.var 0) (.seq (.var 3)) [] (.emit (.call "_law_whole" [.var 0]))
noncomputable def pL:CE:=.bor (.bnot (.blt .isinst [.var 3,.ty "tuple"])) (.bor (.cmp .NotEq (.blt .len [.var 3]) (.lit (.int 2))) (.bnot (.blt .all [F_])))
noncomputable def pM:List CS:=[.ite pL [.ret (.lit (.bl Oy))] [],.ite (.cmp .NotIn (.var 3) (.idx (.var 0) (.lit (.int 1)))) [.ret (.lit (.bl Oy))] [],.asg 2 (.bin .Add (.var 2) (.blt (.list Oy) [.var 3]))]
noncomputable def Ga:CE:=.band (.cmp .Eq (.lenset (.var 2)) (.blt .len [.var 2])) (.cmp .Eq (.blt (.list Oy) [.var 1]) (.blt (.sorted Oy (.seq .int)) [.var 1]))
noncomputable def ln:List CS:=[.ite (.bnot (.blt .isinst [.var 1,.ty "tuple"])) [.ret (.lit (.bl Oy))] [],.asg 2 (.lst Oy []),.for_ (.var 3) (.seq (.var 1)) pM,.ret Ga]
noncomputable def bJ:FT:=tbl [("_law_whole",ir)]
theorem KN:bJ "_law_whole"=some ir:=rfl
noncomputable def eU:List D->af->Res D:=aJ bJ G0 ln KL.length 2
noncomputable def C8:Ls:=["_law_script","_law_k"]
noncomputable def C9:List CS:=[.ite (.cmp .Lt (.var 1) (.blt .len [.var 0])) [.ret (.idx (.var 0) (.var 1))] [],.ret (.lit (.int 0))]
noncomputable def KO:FT:=tbl []
noncomputable def jl:List D->af->Res D:=aJ KO G0 C9 C8.length 2
noncomputable def wt:Ls:=["_law_cell_here"]
noncomputable def wu:List CS:=[.ret (.lst Ox [.var 0,.blt .int [.cmp .GtE (.var 0) (.bin .Pow (.lit (.int 10)) (.lit (.int 18)))]])]
noncomputable def wv:FT:=tbl []
noncomputable def jm:List D->af->Res D:=aJ wv G0 wu wt.length 1
noncomputable def ww:Ls:=["_law_pen_here","_law_many","_law_found"]
noncomputable def wx:List CS:=[.ite (.cmp .Eq (.idx (.var 0) (.lit (.int 1))) (.lit (.int 1))) [.asg 2 (.bin .Mod (.idx (.var 0) (.lit (.int 0))) (.var 1)),.set (.var 0) (.lit (.int 0)) (.bin .FloorDiv (.idx (.var 0) (.lit (.int 0))) (.var 1)),.ret (.var 2)] [],.set (.var 0) (.lit (.int 0)) (.bin .Mod (.bin .Add (.bin .Mult (.bin .Mod (.idx (.var 0) (.lit (.int 0))) (.lit (.int 2147483629))) (.lit (.int 48271))) (.lit (.int 11))) (.lit (.int 2147483629))),.ret (.bin .Mod (.bin .FloorDiv (.bin .Mod (.bin .Add (.bin .Mult (.idx (.var 0) (.lit (.int 0))) (.idx (.var 0) (.lit (.int 0)))) (.bin .Mult (.lit (.int 40692)) (.idx (.var 0) (.lit (.int 0))))) (.lit (.int 2147483647))) (.lit (.int 8))) (.var 1))]
noncomputable def KP:FT:=tbl []
noncomputable def b_:List D->af->Res D:=aJ KP G0 wx ww.length 2
noncomputable def C_:Ls:=["_law_many","_law_found","_law_one"]
noncomputable def C':List CS:=[.asg 1 (.lst Oy []),.for_ (.var 2) (.range [.var 0]) [.asg 1 (.bin .Add (.var 1) (.comp Oy ["_law_other","_law_one"] [none,some 2] (.var 0) (.range [.bin .Add (.var 2) (.lit (.int 1)),.var 0]) [] (.emit (.tup [.var 1,.var 0]))))],.ret (.var 1)]
noncomputable def Dc:FT:=tbl []
noncomputable def pN:List D->af->Res D:=aJ Dc G0 C' C_.length 1
noncomputable def KQ:Ls:=["_law_pen_here","_law_upto","_law_many","_law_way","_law_rest","_law_mids","_law_often"]
noncomputable def wy:List CS:=[.asg 2 (.bin .Sub (.bin .Sub (.bin .Add (.lit (.int 1)) (.var 1)) (.lit (.int 1))) (.bin .Mod (.idx (.lst Oy [.lit (.int 0),.lit (.int 0),.lit (.int 1),.lit (.int 0),.lit (.int 2),.lit (.int 1),.lit (.int 3),.lit (.int 4),.lit (.int 5),.lit (.int 6),.lit (.int 7),.lit (.int 0)]) (.call "_law_draw" [.var 0,.lit (.int 12)])) (.var 1))),.asg 3 (.call "_law_draw" [.var 0,.lit (.int 9)]),.ite (.band (.cmp .Eq (.var 3) (.lit (.int 0))) (.cmp .Gt (.var 2) (.lit (.int 2)))) [.ret (.tup [.var 2,.blt .tuple [.blt (.sorted Oy (.seq .int)) [.bin .Add (.comp Oy ["_law_k"] [none] (.var 0) (.range [.bin .Sub (.var 2) (.lit (.int 1))]) [] (.emit (.tup [.var 0,.bin .Add (.var 0) (.lit (.int 1))]))) (.lst Oy [.tup [.lit (.int 0),.bin .Sub (.var 2) (.lit (.int 1))]])]]])] [],.ite (.band (.cmp .Eq (.var 3) (.lit (.int 1))) (.cmp .Gt (.var 2) (.lit (.int 5)))) [.asg 4 (.bin .Add (.comp Oy ["_law_k"] [none] (.var 0) (.range [.lit (.int 3),.bin .Sub (.var 2) (.lit (.int 1))]) [] (.emit (.tup [.var 0,.bin .Add (.var 0) (.lit (.int 1))]))) (.lst Oy [.tup [.lit (.int 3),.bin .Sub (.var 2) (.lit (.int 1))],.tup [.lit (.int 2),.lit (.int 3)]])),.ret (.tup [.var 2,.blt .tuple [.blt (.sorted Oy (.seq .int)) [.bin .Add (.lst Oy [.tup [.lit (.int 0),.lit (.int 1)],.tup [.lit (.int 0),.lit (.int 2)],.tup [.lit (.int 1),.lit (.int 2)]]) (.var 4)]]])] [],.ite (.band (.cmp .Eq (.var 3) (.lit (.int 2))) (.cmp .Gt (.var 2) (.lit (.int 2)))) [.asg 5 (.bin .Add (.lit (.int 1)) (.call "_law_draw" [.var 0,.lit (.int 2)])),.ret (.tup [.var 2,.blt .tuple [.comp Oy ["_law_tie","_law_mids"] [none,some 5] (.var 0) (.seq (.call "_law_pairs" [.var 2])) [.chain .Lt .LtE (.idx (.var 0) (.lit (.int 0))) (.var 1) (.idx (.var 0) (.lit (.int 1)))] (.emit (.var 0))]])] [],.ite (.cmp .Eq (.var 3) (.lit (.int 3))) [.ret (.tup [.var 2,.blt .tuple [.blt (.sorted Oy (.seq .int)) [.comp Oy ["_law_place","_law_pen_here"] [none,some 0] (.var 0) (.range [.lit (.int 1),.var 2]) [] (.emit (.tup [.call "_law_draw" [.var 1,.var 0],.var 0]))]]])] [],.asg 6 (.idx (.lst Oy [.lit (.int 2),.lit (.int 3),.lit (.int 4),.lit (.int 6),.lit (.int 8)]) (.call "_law_draw" [.var 0,.lit (.int 5)])),.ret (.tup [.var 2,.blt .tuple [.comp Oy ["_law_tie","_law_pen_here","_law_often"] [none,some 0,some 6] (.var 0) (.seq (.call "_law_pairs" [.var 2])) [.cmp .Lt (.call "_law_draw" [.var 1,.lit (.int 8)]) (.var 2)] (.emit (.var 0))]])]
noncomputable def eV:FT:=tbl [("_law_draw",b_),("_law_pairs",pN)]
theorem jn:eV "_law_draw"=some b_:=rfl
theorem Dd:eV "_law_pairs"=some pN:=rfl
noncomputable def jo:List D->af->Res D:=aJ eV G0 wy KQ.length 2
noncomputable def wz:Ls:=["_law_pen_here","_law_web_here","_law_left","_law_found","_law_tie"]
noncomputable def lp:List CS:=[.asg 2 (.blt (.list Ox) [.idx (.var 1) (.lit (.int 1))]),.asg 3 (.lst Ox []),.while_ 40 (.cmp .NotEq (.var 2) (.lst Oy [])) [.asg 4 (.meth .pop (.var 2) [.call "_law_draw" [.var 0,.blt .len [.var 2]]]),.ite (.band (.blt .all [.comp Oy ["_law_one","_law_tie"] [none,some 4] (.var 0) (.seq (.var 3)) [] (.emit (.band (.cmp .NotIn (.idx (.var 1) (.lit (.int 0))) (.var 0)) (.cmp .NotIn (.idx (.var 1) (.lit (.int 1))) (.var 0))))]) (.cmp .Gt (.call "_law_draw" [.var 0,.lit (.int 4)]) (.lit (.int 0)))) [.expr (.meth .append (.var 3) [.var 4])] []],.ret (.blt .tuple [.blt (.sorted Oy (.seq .int)) [.var 3]])]
noncomputable def b5:FT:=tbl [("_law_draw",b_)]
theorem De:b5 "_law_draw"=some b_:=rfl
noncomputable def jp:List D->af->Res D:=aJ b5 G0 lp wz.length 2
noncomputable def KR:Ls:=["_law_pairing_here"]
noncomputable def KS:List CS:=[.ite (.cmp .Eq (.var 0) (.tup [])) [.ret (.lit (.str "none"))] [],.ret (.join "," [.comp Oy ["_law_one","_law_other"] [none,none] (.tup [.var 0,.var 1]) (.seq (.var 0)) [] (.emit (.bin .Add (.bin .Add (.blt .str [.var 0]) (.lit (.str "-"))) (.blt .str [.var 1])))])]
noncomputable def Dg:FT:=tbl []
noncomputable def pO:List D->af->Res D:=aJ Dg G0 KS KR.length 1
noncomputable def KU:Ls:=["_law_pen_here","_law_text","_law_at","_law_signs","_law_sign","_law_words","_law_to","_law_rows"]
noncomputable def NJ:CE:=.call "_law_draw" [.var 0,.bin .Add (.blt .len [.var 1]) (.lit (.int 1))]
noncomputable def Dh:CE:=.ite (.cmp .Eq (.call "_law_draw" [.var 0,.lit (.int 3)]) (.lit (.int 0))) (.idx (.var 3) (.call "_law_draw" [.var 0,.lit (.int 95)])) (.idx (.lit (.str "01234567 ,-")) (.call "_law_draw" [.var 0,.lit (.int 11)]))
noncomputable def NK:CE:=.call "_law_draw" [.var 0,.blt .len [.var 5]]
noncomputable def Gb:CE:=.sl (.var 1) [] [.var 2]
noncomputable def NL:CE:=.sl (.var 1) [.var 2] []
noncomputable def KW:CE:=.sl (.var 1) [.bin .Add (.var 2) (.lit (.int 1))] []
noncomputable def wE:List CE:=[.bin .Add (.bin .Add Gb (.var 4)) NL,.bin .Add Gb KW,.bin .Add (.bin .Add Gb (.var 4)) KW,.bin .Add (.var 1) (.lit (.str "\n"))]
noncomputable def Gd:CE:=.sl (.var 5) [] [.var 6]
noncomputable def KY:CE:=.sl (.var 5) [.bin .Add (.var 6) (.lit (.int 1))] []
noncomputable def NM:CE:=.sl (.var 5) [.var 6] [.bin .Add (.var 6) (.lit (.int 1))]
noncomputable def NN:CE:=.sl (.var 5) [.var 6] []
noncomputable def wH:List CE:=[.join " " [.bin .Add Gd KY],.join " " [.bin .Add (.bin .Add Gd NM) NN]]
noncomputable def wI:List CE:=[.join " " [.bin .Add (.sl (.var 5) [] [.lit (.int 1)]) (.rv0 (.var 5) (.lit (.int 0)) (.neg (.lit (.int 1))))],.join " " [.bin .Add (.bin .Add Gd (.lst Oy [.rev (.idx (.var 5) (.var 6)) (.neg (.lit (.int 1)))])) KY]]
noncomputable def pP:List CE:=[.lit (.str ""),.lit (.str " "),.lit (.str "9"),.lit (.str "0"),.lit (.str "none"),.lit (.str "None"),.lit (.str "8 0-8"),.bin .Add (.lit (.str " ")) (.var 1),.bin .Add (.var 1) (.lit (.str " "))]
noncomputable def wJ:List CS:=[.asg 2 NJ,.asg 3 (.lit (.str " !\"#$&'()*+,-./0123456789:;<=>?@ABCDEFGHIJKLMNOPQRSTUVWXYZ[\\]^_`abcdefghijklmnopqrstuvwxyz{|}~\n")),.asg 4 Dh,.asg 5 (.smt .split (.var 1) [.lit (.str " ")]),.asg 6 NK,.asg 7 (.lst Oy wE),.asg 7 (.bin .Add (.var 7) (.lst Oy wH)),.asg 7 (.bin .Add (.var 7) (.lst Oy wI)),.ret (.idx (.bin .Add (.var 7) (.lst Oy pP)) (.call "_law_draw" [.var 0,.lit (.int 17)]))]
noncomputable def dk:FT:=tbl [("_law_draw",b_)]
theorem KZ:dk "_law_draw"=some b_:=rfl
noncomputable def lq:List D->af->Res D:=aJ dk G0 wJ KU.length 2
noncomputable def gh:Ls:=["_law_found","_law_due_here","_law_one","_law_other"]
noncomputable def gj:List CS:=[.ite (.cmp .Is (.var 1) (.lit (.non))) [.ret (.cmp .Is (.var 0) (.lit (.non)))] [],.ite (.blt .isinst [.var 1,.ty "bool"]) [.ret (.band (.blt .isinst [.var 0,.ty "bool"]) (.cmp .Eq (.var 0) (.var 1)))] [],.ite (.blt .isinst [.var 1,.ty "int"]) [.ret (.band (.blt .isinst [.var 0,.ty "int"]) (.band (.bnot (.blt .isinst [.var 0,.ty "bool"])) (.cmp .Eq (.var 0) (.var 1))))] [],.ite (.blt .isinst [.var 1,.ty "str"]) [.ret (.band (.blt .isinst [.var 0,.ty "str"]) (.cmp .Eq (.var 0) (.var 1)))] [],.ite (.bor (.cmp .NotEq (.blt .isinst [.var 1,.ty "list"]) (.blt .isinst [.var 0,.ty "list"])) (.cmp .NotEq (.blt .isinst [.var 1,.ty "tuple"]) (.blt .isinst [.var 0,.ty "tuple"]))) [.ret (.lit (.bl Oy))] [],.ite (.cmp .NotEq (.blt .len [.var 0]) (.blt .len [.var 1])) [.ret (.lit (.bl Oy))] [],.for_ (.tup [.var 2,.var 3]) (.zip [.var 0,.var 1]) [.ite (.bnot (.call "_law_same" [.var 2,.var 3])) [.ret (.lit (.bl Oy))] []],.ret (.lit (.bl Ox))]
noncomputable def bS:Nat->List D->af->Res D
 |0=>λ_ _=>.fail
 |n+1=>aJ (tbl [("_law_same",bS n)]) G0 gj gh.length 2
noncomputable def gk:List D->af->Res D:=bS 6
noncomputable def K0:Ls:=["_law_pen_here","_law_web_here","_law_many","_law_ties","_law_at","_law_odd","_law_rows","_law_turned","_law_some"]
noncomputable def gm(e:CE):CE:=.call "_law_draw" [.var 0,e]
noncomputable def jq:List CE:=[.tup [.lit (.int 0),.lit (.int 0)],.tup [.lit (.int 1),.lit (.int 0)],.tup [.lit (.int 0),.var 2],.tup [.neg (.lit (.int 1)),.lit (.int 0)],.tup [.lit (.bl Oy),.lit (.bl Ox)],.tup [.lit (.int 0),.lit (.bl Ox)],.tup [.lit (.int 0)],.tup [.lit (.int 0),.lit (.int 1),.lit (.int 2)],.lst Oy [.lit (.int 0),.lit (.int 1)],.lit (.non),.lit (.str "01")]
noncomputable def jr:List CE:=[.tup [.bin .Sub (.var 2) (.lit (.int 1)),.bin .Sub (.var 2) (.lit (.int 1))],.tup [.lit (.int 0),.bin .Pow (.lit (.int 10)) (.lit (.int 30))],.tup [.lit (.int 0),.lit (.int 1)],.var 3]
noncomputable def sA:CE:=.sl (.var 3) [] [.var 4]
noncomputable def sB:CE:=.sl (.var 3) [.var 4] []
noncomputable def sC:CE:=.sl (.var 3) [.bin .Add (.var 4) (.lit (.int 1))] []
noncomputable def js:List CE:=[.bin .Add (.bin .Add sA (.tup [.var 5])) sB,.bin .Add (.bin .Add sA (.tup [.var 5])) sC,.rev (.var 3) (.neg (.lit (.int 1)))]
noncomputable def jt:CE:=.bin .Add sA sC
noncomputable def sD:CE:=.sl (.var 3) [.var 4] [.bin .Add (.var 4) (.lit (.int 1))]
noncomputable def ju:List CE:=[.bin .Add (.bin .Add sA sD) sB,.blt (.list Oy) [.var 3],.bin .Add sB sA,.lit (.non),.tup [.var 3]]
noncomputable def sE:CE:=.sl (.var 3) [.bin .Add (.var 4) (.lit (.int 1))] [.bin .Add (.var 4) (.lit (.int 2))]
noncomputable def jv:CE:=.bin .Add sE sD
noncomputable def sF:CE:=.sl (.var 3) [.bin .Add (.var 4) (.lit (.int 2))] []
noncomputable def jw:CE:=.bin .Add (.bin .Add sA (.var 7)) sF
noncomputable def lr:List CE:=[.tup [.bin .Add (.var 2) (.lit (.int 1)),.var 3],.tup [.bin .Sub (.var 2) (.lit (.int 1)),.var 3],.tup [.lit (.bl Ox),.var 3],.tup [.lit (.int 9),.var 3],.tup [.lit (.int 0),.tup []],.tup [.lit (.non),.var 3],.lst Oy [.var 2,.var 3],.tup [.var 2]]
noncomputable def lu:List CE:=[.tup [.var 2,.var 3,.tup []],.tup [.blt .str [.var 2],.var 3],.tup [.var 3,.var 2],.var 3,.lit (.non),.var 2,.dct,.lit (.str "web"),.tup [.neg (.lit (.int 1)),.tup []]]
noncomputable def lv:CE:=.tup [.bin .Pow (.lit (.int 10)) (.lit (.int 30)),.tup []]
noncomputable def wK:List CS:=[.asgT (.tup [.var 2,.var 3]) (.var 1),.asg 4 (gm (.bin .Add (.blt .len [.var 3]) (.lit (.int 1)))),.asg 5 (.lst Oy jq),.asg 5 (.idx (.bin .Add (.var 5) (.lst Oy jr)) (gm (.lit (.int 15)))),.asg 6 (.lst Ox js),.expr (.meth .append (.var 6) [jt]),.asg 6 (.catB (.var 6) (.lst Oy ju)),.asg 7 jv,.expr (.meth .append (.var 6) [jw]),.ite (.cmp .Gt (gm (.lit (.int 3))) (.lit (.int 0))) [.ret (.tup [.var 2,.idx (.var 6) (gm (.lit (.int 10)))])] [],.asg 8 (.lst Ox lr),.asg 8 (.catB (.var 8) (.lst Oy lu)),.expr (.meth .append (.var 8) [lv]),.ret (.idx (.var 8) (gm (.lit (.int 18))))]
noncomputable def bC:FT:=tbl [("_law_draw",b_)]
theorem K1:bC "_law_draw"=some b_:=rfl
noncomputable def iu:List D->af->Res D:=aJ bC G0 wK K0.length 2
noncomputable def K2:Ls:=["_law_thing","_law_tie"]
noncomputable def yx:CE:=.idx (.var 0) (.lit (.int 0))
noncomputable def Ge:CE:=.chain .LtE .LtE (.lit (.int 1)) yx (.lit (.int 8))
noncomputable def yy:CE:=.bor (.bnot (.blt .isinst [.var 0,.ty "tuple"])) (.bor (.cmp .NotEq (.blt .len [.var 0]) (.lit (.int 2))) (.bor (.bnot (.call "_law_whole" [yx])) (.bnot Ge)))
noncomputable def hY:CE:=.idx (.var 0) (.lit (.int 1))
noncomputable def NO:CE:=.comp Oy ["_law_place"] [none] (.var 0) (.seq (.var 1)) [] (.emit (.call "_law_whole" [.var 0]))
noncomputable def K3:CE:=.bor (.bnot (.blt .isinst [.var 1,.ty "tuple"])) (.bor (.cmp .NotEq (.blt .len [.var 1]) (.lit (.int 2))) (.bnot (.blt .all [NO])))
noncomputable def NP:CE:=.chain3 .LtE .Lt .Lt (.lit (.int 0)) (.idx (.var 1) (.lit (.int 0))) (.idx (.var 1) (.lit (.int 1))) yx
noncomputable def sO:List CS:=[.ite K3 [.ret (.lit (.bl Oy))] [],.ite (.bnot NP) [.ret (.lit (.bl Oy))] []]
noncomputable def pQ:List CS:=[.ite yy [.ret (.lit (.bl Oy))] [],.ite (.bnot (.blt .isinst [hY,.ty "tuple"])) [.ret (.lit (.bl Oy))] [],.for_ (.var 1) (.seq hY) sO,.ret (.cmp .Eq (.blt (.list Oy) [hY]) (.sset hY))]
noncomputable def bE:FT:=tbl [("_law_whole",ir)]
theorem K4:bE "_law_whole"=some ir:=rfl
noncomputable def eX:List D->af->Res D:=aJ bE G0 pQ K2.length 1
noncomputable def wL:Ls:=["_law_pen_here","_law_web_here","_law_thing"]
noncomputable def wM:List CS:=[.asg 2 (.call "_law_bent_web" [.var 0,.var 1]),.ret (.ite (.call "_law_is_web" [.var 2]) (.tup [.idx (.var 1) (.lit (.int 0)),.idx (.var 1) (.lit (.int 1)),.tup []]) (.var 2))]
noncomputable def wN:FT:=tbl [("_law_bent_web",iu),("_law_is_web",eX)]
theorem Di:wN "_law_bent_web"=some iu:=rfl
theorem Dj:wN "_law_is_web"=some eX:=rfl
noncomputable def pR:List D->af->Res D:=aJ wN G0 wM wL.length 2
noncomputable def K5:Ls:=["_law_web_here","_law_text","_law_e"]
noncomputable def wO:List CS:=[.tryN "no" 2 [.ret (.call "read_pairing" [.var 0,.var 1])] "_law_kinds" Kp F9]
noncomputable def iv:FT:=tbl [("read_pairing",gg)]
theorem K6:iv "read_pairing"=some gg:=rfl
noncomputable def gq:List D->af->Res D:=aJ iv G0 wO K5.length 2
noncomputable def K7:Ls:=["_law_web_here","_law_text","_law_found"]
noncomputable def Gf:CE:=.blt .tuple [.comp Oy ["_law_word"] [none] (.var 0) (.seq (.smt .split (.var 1) [.lit (.str ",")])) [] (.emit (.call "_law_tie_in" [.var 0]))]
noncomputable def sP:CE:=.bor (.cmp .In (.lit (.non)) (.var 2)) (.bnot (.call "_law_good" [.var 0,.var 2]))
noncomputable def Dk:CE:=.lst Oy [.lit (.str "no"),.lit (.str "text")]
noncomputable def wP:List CS:=[.ite (.cmp .Eq (.var 1) (.lit (.str "none"))) [.ret (.tup [])] [],.asg 2 Gf,.ret (.ite sP Dk (.var 2))]
noncomputable def cW:FT:=tbl [("_law_tie_in",jk),("_law_good",eU)]
theorem K8:cW "_law_tie_in"=some jk:=rfl
theorem Dl:cW "_law_good"=some eU:=rfl
noncomputable def lw:List D->af->Res D:=aJ cW G0 wP K7.length 2
noncomputable def iJ:Ls:=["_law_script","_law_cell_here","_law_pen_here","_law_web_here","_law_pairing_here","_law_text","_law_texts","_law_one","_law_thing"]
noncomputable def pS:CE:=.seq (.bin .Add (.lst Oy [.call "_law_cell" [.var 0,.lit (.int 0)]]) (.sl (.var 0) [.lit (.int 1)] [.lit (.int 8)]))
noncomputable def Dm:CE:=.lst Oy [.var 5,.lit (.str "none"),.lit (.str ""),.lit (.str " "),.lit (.str "none "),.lit (.str "None"),.lit (.str "0-1"),.lit (.str "1-0"),.lit (.str "0-1,0-1"),.lit (.str "0-1,"),.lit (.str ",0-1"),.lit (.str "0-1 2-3"),.lit (.str "0-1, 2-3")]
noncomputable def Dq:CE:=.lstR (.rev (.var 5) (.neg (.lit (.int 1)))) (.var 5) ",0-1" (.call "_law_pairing_text" [.idx (.var 3) (.lit (.int 1))]) (.var 5) "," " " [.lit (.str "[]"),.lit (.str "()")]
noncomputable def wQ:CE:=.comp Oy ["_law_turn","_law_pen_here","_law_text"] [none,some 2,some 5] (.var 0) (.range [.lit (.int 8)]) [] (.emit (.call "_law_bent_text" [.var 1,.var 2]))
noncomputable def pT:CE:=.bnot (.call "_law_same" [.call "_law_told" [.var 3,.var 7],.call "_law_due" [.var 3,.var 7]])
noncomputable def wR:CE:=.seq (.lst Oy [.lit (.non),.lit (.int 3),.var 4,.lst Oy [.lit (.str "none")],.lit (.bl Ox),.dct])
noncomputable def pU:CE:=.cmp .NotEq (.call "_law_told" [.var 3,.var 8]) (.lst Oy [.lit (.str "no"),.lit (.str "text")])
noncomputable def pV:CE:=.idx (.lst Oy [.lit (.non),.lit (.str "none"),.lit (.str "x")]) (.call "_law_draw" [.var 2,.lit (.int 3)])
noncomputable def wS:CE:=.cmp .NotEq (.call "_law_told" [.call "_law_no_web" [.var 2,.var 3],pV]) (.lst Oy [.lit (.str "no"),.lit (.str "web")])
noncomputable def ly:List CS:=[.asg 2 (.call "_law_pen" [.var 1]),.asg 3 (.call "_law_web" [.var 2,.lit (.int 8)]),.asg 4 (.call "_law_pairing" [.var 2,.var 3]),.asg 5 (.call "_law_pairing_text" [.var 4]),.asg 6 Dm,.asg 6 (.bin .Add (.var 6) Dq),.for_ (.var 7) (.seq (.bin .Add (.var 6) wQ)) [.ite pT [.ret (.lit (.bl Oy))] []],.for_ (.var 8) wR [.ite pU [.ret (.lit (.bl Oy))] []],.ite wS [.ret (.lit (.bl Oy))] []]
noncomputable def fU:List CS:=[.for_ (.var 1) pS ly,.ret (.lit (.bl Ox))]
noncomputable def aD:FT:=tbl [("_law_pen",jm),("_law_web",jo),("_law_pairing",jp),("_law_pairing_text",pO),("_law_cell",jl),("_law_told",gq),("_law_bent_text",lq),("_law_same",gk),("_law_no_web",pR),("_law_due",lw),("_law_draw",b_)]
theorem K9:aD "_law_pen"=some jm:=rfl
theorem K_:aD "_law_web"=some jo:=rfl
theorem K':aD "_law_pairing"=some jp:=rfl
theorem Dr:aD "_law_pairing_text"=some pO:=rfl
theorem Lb:aD "_law_cell"=some jl:=rfl
theorem wT:aD "_law_told"=some gq:=rfl
theorem Lc:aD "_law_bent_text"=some lq:=rfl
theorem Ld:aD "_law_same"=some gk:=rfl
theorem Le:aD "_law_no_web"=some pR:=rfl
theorem Lf:aD "_law_due"=some lw:=rfl
theorem Lg:aD "_law_draw"=some b_:=rfl
noncomputable def lz:List D->af->Res D:=aJ aD G0 fU iJ.length 1
end K92
namespace Py
noncomputable def lA(K:Fg)(y:Str):OA:=match PySem.W.nsIn K mainGlobals y with
 |some (some (.ref C))=>C
 |_=>0
noncomputable def g_(K:Fg)(y:Str):Bool:=match PySem.W.nsIn K mainGlobals y with
 |some (some (.ref _))=>Ox
 |_=>Oy
theorem pW(h:g_ K y=Ox):PySem.W.nsIn K mainGlobals y=some (some (.ref (lA K y))):=by
 unfold g_ at h;unfold lA;split at h
 ·omega
 ·cases h
noncomputable def pX(K:Fg)(C:OA):Bool:=(PySem.W.clsIn K C).isSome&&(PySem.W.findIn K (.ref C) "__getattribute__"==some (some (.builtin "BaseException.__getattribute__"))&&(PySem.W.findIn K (.ref C) "__getattr__"==some none&&
 (PySem.W.findIn K (.ref C) "__class__"==some (some (.builtin "object.__class__"))&&(PySem.W.mroIn K C (.type "object")==some Ox&&(PySem.W.mroIn K C (.type "BaseException")==some Ox&&PySem.W.kitOne K (.ref C) (.type "ValueError")==some Ox)))))
noncomputable def Lh(K:Fg):Rz->Bool
 | .cls x=>g_ K x&&PySem.W.excIn K (lA K x) kS "ValueError.__new__"
 | .kind _ ys _=>g_ K "PairError"&&(PySem.W.specialIn K (.builtin "object.__class__") "__get__"==some (some (.builtin "getset_descriptor.__get__"))&&(PySem.W.takesIn K (.builtin "object.__class__")==some Ox&&(PySem.W.nsIn K mainGlobals "isinstance"==some none&&(PySem.W.nsIn K mainGlobals "ValueError"==some none&&
   ys.all λx=>g_ K x&&(pX K (lA K x)&&(PySem.W.exmOne K (.ref (lA K x)) (.ref (lA K "PairError"))==some Ox&&ys.all λy=>PySem.W.kitOne K (.ref (lA K x)) (.ref (lA K y))==some (y==x)))))))
noncomputable def Oh(ys ws:Ls):Bool:=decide (ys.length<1000)&&(decide (ws.length<=1000)&&ys.all λx=>decide ((ys.map (· ==x)).count Ox=1)&&decide (ws[(ys.map (· ==x)).idxOf Ox]?=(ys.zip ws).lookup x))
theorem Lj{ws:Ls}{x r:Str}(h:(ys.zip ws).lookup x=some r):x∈ys:=(QK (ZF h)).1
section
variable {P:OF}
theorem lB(X:K.In h)(G:h.Ns mainGlobals mg){x:Str}(H:Lh K (.cls x)=Ox):XC P w K mg (.cls x):=
 ⟨lA K x,PySem.W.mg_of X G (pW (ae H).1),(ae H).2⟩
theorem pY(X:K.In h)(G:h.Ns mainGlobals mg){f e0:Str}{q:Pr}{a b c d wd v ws:Ls}(E:Lh K (.kind f ys ws)=Ox)(hw:Oh ys ws=Ox)(F:nz K f f st fa q)(j:PySem.W.nsIn K mainGlobals f=some (some (.ref fa)))
  (S:bP N [e0] (bx st)) (A:Binds K q [e0] []) (i:cA (gZ a b c d wd v) N (bX st)=bX st) (s:(kW (bX st)&&k8 N ys (bx st))=Ox) (g:ys=a++b++c++d) (D:ws=wd++v):XC P w K mg (.kind f ys ws):=by
 subst g;subst D;obtain⟨z1,m⟩:=ae E;obtain⟨z2,n⟩:=ae m;obtain⟨z3,o⟩:=ae n;obtain⟨z4,p⟩:=ae o;obtain⟨z5,e⟩:=ae p;obtain⟨w1,k⟩:=ae hw;obtain⟨w2,l⟩:=ae k;refine⟨fa,lA K "PairError",PySem.W.mg_of X G j,F.kp,PySem.W.mg_of X G (pW z1),λx r t u C=>?_⟩;have z:=Lj t;obtain⟨U,T⟩:=ae (Zp.mp e x z);obtain⟨V,Z⟩:=ae T;obtain⟨W,Y⟩:=ae Z;obtain⟨I,s1⟩:=ae V;obtain⟨J,s2⟩:=ae s1;obtain⟨L,s3⟩:=ae s2;obtain⟨M,s4⟩:=ae s3;obtain⟨O,s5⟩:=ae s4;obtain⟨Q,R⟩:=ae s5;obtain⟨r1,r2⟩:=ae (Zp.mp l x z);have H:=PySem.W.mg_of X G (pW U);rw[C]at H;cases H
 refine⟨_,rfl,Z1 W,λB=>Kc (bf:=λy=>y==x) F S A i (ae s).1 (ae s).2 ⟨Z1 R,⟨PD.mp I,Z1 J,Z1 L,Z1 M,Z1 O,Z1 Q,Z1 z2,Z1 z3⟩,λy g=>?_⟩
  (PySem.W.mg_none_of X G (Z1 z4)) (PySem.W.mg_none_of X G (Z1 z5)) (ZS w1) (by simpa using ZS w2) (ZS r1) (by rw[<-t];exact ZS r2)⟩
 exact⟨lA K y,PySem.W.mg_of X G (pW (ae (Zp.mp e y g)).1),Z1 (Zp.mp Y y g)⟩
end
end Py
namespace K92
noncomputable def cX(i:Nat):Qi:=PySem.Challenge.pw_pairwebs_k92_pairings_read.main.body.getD i (.Pass ⟨0,0,0,0⟩)
def aN(K:Fg)(x:Str)(st:Qi):Prop:=∃f fd,PySem.W.nsIn K mainGlobals x=some (some (.ref f))/\nz K x x st f fd
theorem dm{x:Str}{an:Option OA}{kV:OB}(a:PySem.W.nsIn K mainGlobals x=some (some (.ref f)))(l:K.lookup f=some ⟨oc,od,.func (PySem.W.fnOf x x (ia st) (bX st) (bx st) .none kV doc pm an cdv ct),osl⟩)
  (c:PySem.W.codeIn K cdv x=Ox) (k:PySem.W.keepIn K (.ref f)=Ox):aN K x st:=⟨f,_,a,uk l c k⟩
noncomputable def pZ(N P:Ls)(s:Scope):Bool:=(s.kind== .function)&& !s.isCoroutine&& !s.isGenerator&&iW N&&(N.take P.length==P)&&P.all (λx=>s.names.lookup x==some .local||s.names.lookup x==some .cell)&&s.names.all (λy=>y.2 !=.free)
theorem p6{P:Ls}{s:Scope}(h:pZ N P s=Ox):bP N P s:=by unfold pZ at h;simp only[ZG,beq_iff_eq,Zp,Sr,bne_iff_ne,Q5]at h;obtain⟨⟨⟨⟨⟨⟨H,a⟩,b⟩,c⟩,d⟩,e⟩,f⟩:=h;exact⟨H,a,b,vy c,d,e,f⟩
noncomputable def RZ:List Rz:=[.cls "NoText",.cls "NoWeb",.kind "_law_kinds" Kp F9]
structure En (P:OF)(w:ON)(K:Fg)(mg:Mg)(h:OI):Prop where
 X:K.In h
 G:h.Ns mainGlobals mg
 hg:∀x d,G0 x=some d->∃v u,mg x=some u/\RelV v u/\∀F μ H,Rep K ⟨mg,F⟩ μ H d v
 hb:∀x∈gQ,mg x=none
 xc:∀z∈RZ,XC P w K mg z
section
variable {P:OF}{k j:Nat}
theorem fe{x:Str}{ps:Ls}(E:En P w K mg h)(d:aN K x st)
  (c:∀(kV doc pm:OB) (an:Option OA) (cdv ct:OB) (us:Lv),us.length=ps.length->bindArgs (PySem.W.fnOf x x (ia st) (bX st) (bx st) .none kV doc pm an cdv ct) ⟨us,[]⟩=pure (ps.zip us))
  (H:∀p∈l,bT P w K mg base (bz P w) k p.1 p.2) (e:cA body N (bX st)=bX st) (S:(pZ N ps (bx st)&&(eO body N (bx st).names (bX st)&&(eP body).all λz=>decide (z∈RZ)))=Ox):bT P w K mg base (bz P w) (k+1) x (aJ (tbl l) G0 body N.length ps.length):=by
 obtain⟨f,i,a,F⟩:=d;have S:=QI.mp S;have b:=QI.mp S.2;exact Og F (p6 S.1) (PySem.W.mg_of E.X E.G a) (F.binds c) (NI H E.hg E.hb) e b.1 λz g=>E.xc z (ZS (Zp.mp b.2 z g))
theorem f0{x:Str}{ps:Ls}(E:En P w K mg h)(d:aN K x st)(S:pZ N ps (bx st)=Ox)
  (H:∀(kV doc pm:OB) (an:Option OA) (cdv ct:OB) (us:Lv),us.length=ps.length->bindArgs (PySem.W.fnOf x x (ia st) (bX st) (bx st) .none kV doc pm an cdv ct) ⟨us,[]⟩=pure (ps.zip us)):bT P w K mg base (bz P w) k x (λ_ _=>.fail):=by
 obtain⟨f,b,a,F⟩:=d;exact Km F (p6 S) (PySem.W.mg_of E.X E.G a) (F.binds H)
theorem an:∀p∈([]:List (Str×(List D->af->Res D))),bT P w K mg base (bz P w) k p.1 p.2:=λp h=>(Zt h).elim
theorem ac{x:Str}(F:bT P w K mg base (bz P w) j x φ)(H:j<=k)(r:∀p∈l,bT P w K mg base (bz P w) k p.1 p.2):∀p∈(x,φ)::l,bT P w K mg base (bz P w) k p.1 p.2:=λp a=>by
 rcases Zh.mp a with rfl|h
 ·exact F.mono H
 ·exact r p h
end
structure Df (K:Fg):Prop where
 d_is_number:aN K "is_number" (cX 18)
 d_is_number_from:aN K "is_number_from" (cX 19)
 d_is_place:aN K "is_place" (cX 20)
 d_is_rising:aN K "is_rising" (cX 21)
 d_are_places:aN K "are_places" (cX 22)
 d_are_unlike:aN K "are_unlike" (cX 23)
 d_is_tie:aN K "is_tie" (cX 24)
 d_is_web:aN K "is_web" (cX 25)
 d_are_ties:aN K "are_ties" (cX 26)
 d_must_be_web:aN K "must_be_web" (cX 27)
 d_is_pairing:aN K "is_pairing" (cX 29)
 d_figure:aN K "figure" (cX 33)
 d_read_tie:aN K "read_tie" (cX 34)
 d_must_be_text:aN K "must_be_text" (cX 35)
 d_read_pairing:aN K "read_pairing" (cX 36)
 d_law_tie_in:aN K "_law_tie_in" (cX 39)
 d_law_whole:aN K "_law_whole" (cX 40)
 d_law_good:aN K "_law_good" (cX 41)
 d_law_cell:aN K "_law_cell" (cX 42)
 d_law_pen:aN K "_law_pen" (cX 43)
 d_law_draw:aN K "_law_draw" (cX 44)
 d_law_pairs:aN K "_law_pairs" (cX 45)
 d_law_web:aN K "_law_web" (cX 46)
 d_law_pairing:aN K "_law_pairing" (cX 47)
 d_law_pairing_text:aN K "_law_pairing_text" (cX 48)
 d_law_bent_text:aN K "_law_bent_text" (cX 49)
 d_law_same:aN K "_law_same" (cX 50)
 d_law_bent_web:aN K "_law_bent_web" (cX 51)
 d_law_is_web:aN K "_law_is_web" (cX 52)
 d_law_no_web:aN K "_law_no_web" (cX 53)
 d_law_told:aN K "_law_told" (cX 54)
 d_law_due:aN K "_law_due" (cX 55)
 d_law:aN K "law" (cX 56)
 d_law_kinds:aN K "_law_kinds" (cX 38)
section
variable {P:OF}(E9:En P w K mg h)(D9:Df K)
include E9 D9
theorem Lk:bT P w K mg base (bz P w) 1 "is_number" g8:=fe (ps:=["thing"]) E9 D9.d_is_number (λ_ _ _ _ _ _=>cV λ_=>rfl) an rfl (by decide+kernel)
theorem Ds:bT P w K mg base (bz P w) 2 "is_number_from" fH:=fe (ps:=["thing","low","high"]) E9 D9.d_is_number_from (λ_ _ _ _ _ _=>Ko λ_ _ _=>rfl) (ac (Lk E9 D9) (by decide) an) rfl (by decide+kernel)
theorem Ll:bT P w K mg base (bz P w) 3 "is_place" lf:=fe (ps:=["many","thing"]) E9 D9.d_is_place (λ_ _ _ _ _ _=>cq λ_ _=>rfl) (ac (Ds E9 D9) (by decide) an) rfl (by decide+kernel)
theorem wU:bT P w K mg base (bz P w) 1 "is_rising" d9:=fe (ps:=["things"]) E9 D9.d_is_rising (λ_ _ _ _ _ _=>cV λ_=>rfl) an rfl (by decide+kernel)
theorem Lm:bT P w K mg base (bz P w) 4 "are_places" gb:=fe (ps:=["many","thing"]) E9 D9.d_are_places (λ_ _ _ _ _ _=>cq λ_ _=>rfl) (ac (Ll E9 D9) (by decide) an) rfl (by decide+kernel)
theorem Ln:bT P w K mg base (bz P w) 1 "are_unlike" li:=fe (ps:=["things"]) E9 D9.d_are_unlike (λ_ _ _ _ _ _=>cV λ_=>rfl) an rfl (by decide+kernel)
theorem Dt:bT P w K mg base (bz P w) 5 "is_tie" fk:=fe (ps:=["many","thing"]) E9 D9.d_is_tie (λ_ _ _ _ _ _=>cq λ_ _=>rfl) (ac (Lm E9 D9) (by decide) (ac (wU E9 D9) (by decide) an)) rfl (by decide+kernel)
theorem Lo:bT P w K mg base (bz P w) 6 "is_web" dD:=fe (ps:=["thing"]) E9 D9.d_is_web (λ_ _ _ _ _ _=>cV λ_=>rfl) (ac (wU E9 D9) (by decide) (ac (Ds E9 D9) (by decide) (ac (Dt E9 D9) (by decide) an))) rfl (by decide+kernel)
theorem Lr:bT P w K mg base (bz P w) 6 "are_ties" g9:=fe (ps:=["web","thing"]) E9 D9.d_are_ties (λ_ _ _ _ _ _=>cq λ_ _=>rfl) (ac (wU E9 D9) (by decide) (ac (Dt E9 D9) (by decide) an)) rfl (by decide+kernel)
theorem Du:bT P w K mg base (bz P w) 7 "must_be_web" eT:=fe (ps:=["thing"]) E9 D9.d_must_be_web (λ_ _ _ _ _ _=>cV λ_=>rfl) (ac (Lo E9 D9) (by decide) an) rfl (by decide+kernel)
theorem Lu:bT P w K mg base (bz P w) 8 "is_pairing" d_:=fe (ps:=["web","thing"]) E9 D9.d_is_pairing (λ_ _ _ _ _ _=>cq λ_ _=>rfl) (ac (Du E9 D9) (by decide) (ac (Lr E9 D9) (by decide) (ac (Ln E9 D9) (by decide) an))) rfl (by decide+kernel)
theorem Lw:bT P w K mg base (bz P w) 1 "figure" pI:=fe (ps:=["word"]) E9 D9.d_figure (λ_ _ _ _ _ _=>cV λ_=>rfl) an rfl (by decide+kernel)
theorem Ly:bT P w K mg base (bz P w) 2 "read_tie" wn:=fe (ps:=["word"]) E9 D9.d_read_tie (λ_ _ _ _ _ _=>cV λ_=>rfl) (ac (Lw E9 D9) (by decide) an) rfl (by decide+kernel)
theorem Lz:bT P w K mg base (bz P w) 1 "must_be_text" gf:=fe (ps:=["thing"]) E9 D9.d_must_be_text (λ_ _ _ _ _ _=>cV λ_=>rfl) an rfl (by decide+kernel)
theorem LA:bT P w K mg base (bz P w) 9 "read_pairing" gg:=fe (ps:=["web","text"]) E9 D9.d_read_pairing (λ_ _ _ _ _ _=>cq λ_ _=>rfl) (ac (Du E9 D9) (by decide) (ac (Lz E9 D9) (by decide) (ac (Lu E9 D9) (by decide) (ac (Ly E9 D9) (by decide) an)))) rfl (by decide+kernel)
theorem LB:bT P w K mg base (bz P w) 1 "_law_tie_in" jk:=fe (ps:=["_law_word"]) E9 D9.d_law_tie_in (λ_ _ _ _ _ _=>cV λ_=>rfl) an rfl (by decide+kernel)
theorem Dv:bT P w K mg base (bz P w) 1 "_law_whole" ir:=fe (ps:=["_law_found"]) E9 D9.d_law_whole (λ_ _ _ _ _ _=>cV λ_=>rfl) an rfl (by decide+kernel)
theorem LC:bT P w K mg base (bz P w) 2 "_law_good" eU:=fe (ps:=["_law_web_here","_law_thing"]) E9 D9.d_law_good (λ_ _ _ _ _ _=>cq λ_ _=>rfl) (ac (Dv E9 D9) (by decide) an) rfl (by decide+kernel)
theorem Dw:bT P w K mg base (bz P w) 1 "_law_cell" jl:=fe (ps:=["_law_script","_law_k"]) E9 D9.d_law_cell (λ_ _ _ _ _ _=>cq λ_ _=>rfl) an rfl (by decide+kernel)
theorem Dx:bT P w K mg base (bz P w) 1 "_law_pen" jm:=fe (ps:=["_law_cell_here"]) E9 D9.d_law_pen (λ_ _ _ _ _ _=>cV λ_=>rfl) an rfl (by decide+kernel)
theorem jx:bT P w K mg base (bz P w) 1 "_law_draw" b_:=fe (ps:=["_law_pen_here","_law_many"]) E9 D9.d_law_draw (λ_ _ _ _ _ _=>cq λ_ _=>rfl) an rfl (by decide+kernel)
theorem LD:bT P w K mg base (bz P w) 1 "_law_pairs" pN:=fe (ps:=["_law_many"]) E9 D9.d_law_pairs (λ_ _ _ _ _ _=>cV λ_=>rfl) an rfl (by decide+kernel)
theorem Dy:bT P w K mg base (bz P w) 2 "_law_web" jo:=fe (ps:=["_law_pen_here","_law_upto"]) E9 D9.d_law_web (λ_ _ _ _ _ _=>cq λ_ _=>rfl) (ac (jx E9 D9) (by decide) (ac (LD E9 D9) (by decide) an)) rfl (by decide+kernel)
theorem Dz:bT P w K mg base (bz P w) 2 "_law_pairing" jp:=fe (ps:=["_law_pen_here","_law_web_here"]) E9 D9.d_law_pairing (λ_ _ _ _ _ _=>cq λ_ _=>rfl) (ac (jx E9 D9) (by decide) an) rfl (by decide+kernel)
theorem DA:bT P w K mg base (bz P w) 1 "_law_pairing_text" pO:=fe (ps:=["_law_pairing_here"]) E9 D9.d_law_pairing_text (λ_ _ _ _ _ _=>cV λ_=>rfl) an rfl (by decide+kernel)
theorem DB:bT P w K mg base (bz P w) 2 "_law_bent_text" lq:=fe (ps:=["_law_pen_here","_law_text"]) E9 D9.d_law_bent_text (λ_ _ _ _ _ _=>cq λ_ _=>rfl) (ac (jx E9 D9) (by decide) an) rfl (by decide+kernel)
theorem DC:∀n,bT P w K mg base (bz P w) (0+n) "_law_same" (bS n)
 |0=>f0 (N:=gh) (ps:=["_law_found","_law_due_here"]) E9 D9.d_law_same (by decide+kernel) (λ_ _ _ _ _ _=>cq λ_ _=>rfl)
 |n+1=>fe (ps:=["_law_found","_law_due_here"]) (k:=0+n) E9 D9.d_law_same (λ_ _ _ _ _ _=>cq λ_ _=>rfl) (ac (DC n) (Zf _) an) rfl (by decide+kernel)
theorem DD:bT P w K mg base (bz P w) 6 "_law_same" gk:=DC E9 D9 6
theorem LF:bT P w K mg base (bz P w) 2 "_law_bent_web" iu:=fe (ps:=["_law_pen_here","_law_web_here"]) E9 D9.d_law_bent_web (λ_ _ _ _ _ _=>cq λ_ _=>rfl) (ac (jx E9 D9) (by decide) an) rfl (by decide+kernel)
theorem LG:bT P w K mg base (bz P w) 2 "_law_is_web" eX:=fe (ps:=["_law_thing"]) E9 D9.d_law_is_web (λ_ _ _ _ _ _=>cV λ_=>rfl) (ac (Dv E9 D9) (by decide) an) rfl (by decide+kernel)
theorem DE:bT P w K mg base (bz P w) 3 "_law_no_web" pR:=fe (ps:=["_law_pen_here","_law_web_here"]) E9 D9.d_law_no_web (λ_ _ _ _ _ _=>cq λ_ _=>rfl) (ac (LF E9 D9) (by decide) (ac (LG E9 D9) (by decide) an)) rfl (by decide+kernel)
theorem DF:bT P w K mg base (bz P w) 10 "_law_told" gq:=fe (ps:=["_law_web_here","_law_text"]) E9 D9.d_law_told (λ_ _ _ _ _ _=>cq λ_ _=>rfl) (ac (LA E9 D9) (by decide) an) rfl (by decide+kernel)
theorem DG:bT P w K mg base (bz P w) 3 "_law_due" lw:=fe (ps:=["_law_web_here","_law_text"]) E9 D9.d_law_due (λ_ _ _ _ _ _=>cq λ_ _=>rfl) (ac (LB E9 D9) (by decide) (ac (LC E9 D9) (by decide) an)) rfl (by decide+kernel)
theorem LH:bT P w K mg base (bz P w) 11 "law" lz:=fe (ps:=["_law_script"]) E9 D9.d_law (λ_ _ _ _ _ _=>cV λ_=>rfl) (ac (Dx E9 D9) (by decide) (ac (Dy E9 D9) (by decide) (ac (Dz E9 D9) (by decide) (ac (DA E9 D9) (by decide) (ac (Dw E9 D9) (by decide) (ac (DF E9 D9) (by decide) (ac (DB E9 D9) (by decide) (ac (DD E9 D9) (by decide) (ac (DE E9 D9) (by decide) (ac (DG E9 D9) (by decide) (ac (jx E9 D9) (by decide) an))))))))))) rfl (by decide+kernel)
end
noncomputable def iK(K:Fg):Sp:=λvs H Q _=>∃(a:OA) (ns:Li),vs=[.ref a]/\nw H/\c8 K H a (ns.map V.int)/\ns.length<=63/\∀H',Q (.bl Ox) H'
def Good(f:List D->af->Res D):Prop:=∀ns:Li,ns.length<=63->∃S',f [.scr (ns.map D.int)] []=.ok (.bl Ox) S'
theorem DH{K:Fg}{m:GS}{μ:La}{H:Hp}:∀ns:Li,aj K m μ H (ns.map D.int) (ns.map V.int)
 | []=>.nil
 |n::ns=>.cons bL (DH ns)
theorem DI{f:List D->af->Res D}(g:Good f):∀vs H Q E,iK K vs H Q E->uR K mg 1 f vs H Q E:=by
 rintro vs H Q E ⟨a,N,rfl,i,j,d,q⟩;refine⟨rfl,[],[],[],[.scr (N.map D.int)],⟨λa h=>(by cases h),rfl,Qb,λn a l h=>(by cases h)⟩,.cons ?_ .nil,?_⟩
 ·unfold Rep;refine⟨a,N.map V.int,rfl,?_,DH N⟩;rcases j with(h| ⟨o,h⟩)|h
  ·rcases i a with z| ⟨o,X,z⟩<;>rw[z]at h<;>cases h
  ·exact .inl ⟨o,h⟩
  ·exact .inr h
 ·obtain⟨S,e⟩:=g N d;rw[e];intro k c b x s r;unfold Rep at r;rw[r];exact q c
theorem wV{l:PySem.W.OpenLaw}(X:K.In h)(G:h.Ns mainGlobals mg)(q:mg "law"=some (.ref fa))(good:Good lz)(D:Df K)(Z:∀x∈gQ,PySem.W.nsIn K mainGlobals x=some none)
  {m:Tok} (M:PySem.W.nsIn K mainGlobals "MOST_PLACES"=some (some (.int 8 m))) {n:Tok} (r:PySem.W.nsIn K mainGlobals "FIGURES"=some (some (.str "0123456789" n))) {o:Tok} (t:PySem.W.nsIn K mainGlobals "NONE"=some (some (.str "none" o))) (J:RZ.all (Lh K)=Ox):
  ∃fd:Pr,(∀(s:Oz) (v:OB),S_ s fd ⟨[v],[]⟩ [("_law_script",v)])/\∀base:OI,K.In base->base.Ns mainGlobals mg->c9 l.prog w K mg base (bz l.prog w) 11 fa fd ["_law_script"] (iK K):=by
 have y:∀x d,G0 x=some d->∃v u,mg x=some u/\RelV v u/\∀F P H,Rep K ⟨mg,F⟩ P H d v:=λx d e=>by
  unfold G0 at e;rw[OW]at e;split at e
  ·rename_i i;cases e;have g:x="MOST_PLACES":=by simpa using i
   subst g;exact⟨.int 8,_,PySem.W.mg_of X G M,⟨_,rfl⟩,λ_ _ _=>bL⟩
  rw[OW]at e;split at e
  ·rename_i i;cases e;have g:x="FIGURES":=by simpa using i
   subst g;exact⟨.str "0123456789",_,PySem.W.mg_of X G r,⟨_,rfl⟩,λ_ _ _=>dy⟩
  rw[OW]at e;split at e
  ·rename_i i;cases e;have g:x="NONE":=by simpa using i
   subst g;exact⟨.str "none",_,PySem.W.mg_of X G t,⟨_,rfl⟩,λ_ _ _=>dy⟩
  cases e
 have B:=Zp.mp J
 have L:∀z∈RZ,XC l.prog w K mg z:=λz j=>by
  have p:=B z j;simp only[RZ,Zh,UA,ZZ]at j;rcases j with rfl|rfl|rfl
  ·exact lB X G p
  ·exact lB X G p
  ·obtain⟨f,fd,a,F⟩:=D.d_law_kinds;exact pY (e0:="_law_e") (N:=["_law_e","_law_found","_law_words"]) (a:=["NoWeb","NoPlace","NoPlaces","NoTie"]) (b:=["NoNumber","NoPairing","NoWay","NoRing"]) (c:=["NoArrows","NoSides","NoText","NoLine"]) (d:=["NoDeed","TooGreat"]) (wd:=["web","place","places","tie","number","pairing","way","ring","arrows","sides","text","line"]) (v:=["deed","great"]) X G p (by decide+kernel) F a (p6 (by decide+kernel)) (F.binds λ_ _ _ _ _ _=>cV λ_=>rfl) rfl (by decide+kernel) rfl rfl
 have E:En l.prog w K mg h:=⟨X,G,y,λx i=>PySem.W.mg_none_of X G (Z x i),L⟩;obtain⟨f,fd,a,F⟩:=D.d_law;have e:=q.symm.trans (PySem.W.mg_of X G a);cases e;have S:bP iJ ["_law_script"] (bx (cX 56)):=p6 (by decide+kernel);refine⟨fd,λs v=>?_,λbase _ _=>?_⟩
 ·obtain⟨T,U,kV,A,V,an,C,Q,O,rfl,lk,I⟩:=F.ex;exact .of_eq rfl
 ·exact c9.imp (CG (k:=10) F S (NI (ac (Dx E D) (by decide) (ac (Dy E D) (by decide) (ac (Dz E D) (by decide) (ac (DA E D) (by decide) (ac (Dw E D) (by decide) (ac (DF E D) (by decide) (ac (DB E D) (by decide) (ac (DD E D) (by decide) (ac (DE E D) (by decide) (ac (DG E D) (by decide) (ac (jx E D) (by decide) an))))))))))) y E.hb) rfl (by decide+kernel) λz j=>E.xc z (ZS (Zp.mp (by decide+kernel:((eP fU).all λz=>decide (z∈RZ))=Ox) z j))) (DI good)
mutual
theorem DJ{k:Nat}:∀(d:D),a_ 0 d=Ox->a_ k d=Ox
 | .non,_=>rfl
 | .bl _,_=>rfl
 | .int _,_=>rfl
 | .str _,_=>rfl
 | .tup _,h=>by exact lC _ h
 | .lst _,h=>by exact lC _ h
 | .scr _,h=>by exact lC _ h
 | .ref n,h=>by dsimp only[a_]at h;simp at h
 | .fn y,_=>rfl
 | .ty y,_=>rfl
 | .dct,_=>rfl
 | .dks _,_=>rfl
theorem lC{k:Nat}:∀(ds:List D),bi 0 ds=Ox->bi k ds=Ox
 | [],_=>rfl
 |d::ds,h=>by dsimp only[bi]at h⊢;simp at h⊢;exact⟨DJ d h.1,lC _ h.2⟩
end
def Flat(S:af):Prop:=∀xs∈S,bi 0 xs=Ox
theorem Flat.all{k:Nat}(h:Flat S):S.all (bi k)=Ox:=Zp.mpr λx H=>lC _ (h _ H)
theorem Flat.nil:Flat []:=λ_ h=>by cases h
theorem Flat.snoc(h:Flat S)(a:bi 0 xs=Ox):Flat (S++[xs]):=λy H=>by
 rcases ZC.mp H with z|z
 ·exact h _ z
 simp_all
theorem Flat.set(h:Flat S)(a:bi 0 xs=Ox):Flat (S.set n xs):=λy H=>by
 rcases List.mem_or_eq_of_mem_set H with z|z
 ·exact h _ z
 simp_all
theorem wW{k:Nat}(h:Flat (S'.take k))(H:a_ 0 d=Ox):eS k d S'=.ok d (S'.take k):=by unfold eS;rw[if_pos h.all,if_pos (DJ d H)]
theorem LI(h:Flat S)(H:a_ 0 d=Ox):eS S.length d S=.ok d S:=by rw[wW (by simp_all) H,Ri]
theorem wX{k:Nat}(a:S.length=k)(h:Flat S)(H:a_ 0 d=Ox):eS k d S=.ok d S:=by subst a;exact LI h H
theorem wY{step:D->List D->af->Res (List D)}{S:af}(g:D->Option D):∀(xs acc:List D),(∀x∈xs,∀acc,acc.length<a'->step x acc S=.ok (acc++(g x).toList) S)->acc.length+xs.length<=a'->aV step xs acc S=.ok (acc++xs.filterMap g) S
 | [],acc,_,_=>by simp[aV]
 |x::xs,acc,h,H=>by simp at H;simp[aV];rw[h x Zd _ (by lia)];unfold Res.bind;dsimp;rw[wY g _ _ (λy a=>h y (Zc _ a)) (by grind)];cases e:g x<;>simp[e]
theorem LJ{l:List α}{f:α->Option Bool}(h:∀x∈l,f x=some Ox):bo (l.map f)=some Ox:=by
 induction l with
 |nil=>rfl
 |cons x l i=>simp only[ZV];unfold bo;rw[h x Zd,i λy H=>h y (Zc _ H)];rfl
theorem allO_map{l:List α}{f:α->Bool}:bo (l.map λx=>some (f x))=some (l.all f):=by
 induction l with
 |nil=>rfl
 |cons x l i=>unfold bo;simp_all
theorem DK{l:List α}{f:α->Bool}:iQ (l.map λx=>some (f x))=some (l.any f):=by unfold iQ;rw[Pb];have e:(λo=>o.map not)∘(λx=>some _)=λx=>some !f x:=rfl;rw[e,allO_map];simp[List.not_all_eq_any_not]
noncomputable def aq(t:Int×Int):D:=.tup [.int t.1,.int t.2]
noncomputable def aa(ts:Lq):List D:=ts.map aq
noncomputable def ao(m:Int)(ts:Lq):D:=.tup [.int m,.tup (aa ts)]
theorem Gg(t:Int×Int):a_ 0 (aq t)=Ox:=rfl
theorem fo:∀(ts:Lq),bi 0 (aa ts)=Ox
 | []=>rfl
 |t::ts=>by show(a_ 0 _&&bi 0 (aa _))=Ox;rw[fo _];rfl
theorem p8(m:Int)(ts:Lq):a_ 0 (ao m ts)=Ox:=by show(Ox&&(bi 0 _&&Ox))=Ox;rw[fo];rfl
def aE(a b:Int×Int):Prop:=a.1<b.1\/(a.1=b.1/\a.2<b.2)
instance (a b:Int×Int):Decidable (aE a b):=by unfold aE;exact inferInstance
theorem DL(S:af)(n:Nat)(a b:Int):bY S (n+1) (.int a) (.int b)=some (a==b):=rfl
theorem DM(S:af)(n:Nat)(a b:Int×Int):bY S (n+2) (aq a) (aq b)=some (decide (a=b)):=by
 have e:bY S (n+2) (aq a) (aq b)=some _:=rfl;simp_all
 grind
theorem DN(S:af)(n:Nat)(a b:Int×Int):jJ S (n+2) (aq a) (aq b)=some (decide (aE a b)):=by
 have e:jJ S (n+2) (aq a) (aq b)=(match bY S (n+1) (.int a.1) (.int b.1)with
  |some Ox=>(match bY S (n+1) (.int a.2) (.int b.2)with
   |some Ox=>some Oy
   |some Oy=>some (decide (a.2<b.2))
   |none=>none)
  |some Oy=>some (decide (a.1<b.1))
  |none=>none):=rfl
 rw[e,DL,DL];obtain⟨A,c⟩:=a;obtain⟨B,d⟩:=b;unfold aE;dsimp only;by_cases h:A=B
 ·subst h;by_cases H:c=d
  ·subst H;simp
  ·have:(c==d)=Oy:=by simpa using H
   simp[this]
 ·have:(A==B)=Oy:=by simpa using h
  simp[this,h]
theorem wZ(S:af)(t:Int×Int)(ts:Lq):f7 (aq t) (.tup (aa ts)) S=some (decide (t∈ts)):=by
 have e:f7 (aq t) (.tup (aa ts)) S=iQ _:=rfl;rw[e];unfold aa;rw[Pb];have E:(λy=>bY S bu y (aq t))∘aq=λu=>some (decide (u=t)):=by funext u;exact DM S 38 u t
 rw[E,DK]
 grind
theorem lE(S:af)(p:Int)(t:Int×Int):f7 (.int p) (aq t) S=some (decide (p=t.1\/p=t.2)):=by
 have e:f7 (.int p) (aq t) S=some _:=rfl;rw[e];congr 1
 grind
def aS(S:af)(n:Nat):Prop:=∃a b,S[n]?=some [.int a,.int b]
theorem aS.set{m:Nat}{a b:Int}(h:aS S n):aS (S.set m [.int a,.int b]) n:=by
 obtain⟨x,y,h⟩:=h;by_cases e:m=n
 ·subst e;have H:=(Zg.mp h).1;exact⟨a,b,by rw[Z8 H]⟩
 ·exact⟨x,y,by rw[Pe e];exact h⟩
theorem p9(o:Flat S)(c:aS S n)(H:0<m)(h1:m<1000):∃r a b,0<=r/\r<m/\b_ [.ref n,.int m] S=.ok (.int r) (S.set n [.int a,.int b]):=by
 obtain⟨a,b,h⟩:=c;have j:=(Zg.mp h).1;have F:∀x y:Int,Flat (S.set n [.int x,.int y]):=λx y=>o.set rfl;have t:∀(r x y:Int),eS S.length (.int r) (S.set n [.int x,.int y])=.ok (.int r) (S.set n [.int x,.int y]):=λr x y=>wX (by simp) (F x y) rfl;by_cases d:b=1
 ·subst d;refine⟨a%m,a/m,1,SD _ (by omega),R5 _ H,?_⟩;rw[<-t];have q:m<1073741824:=by omega
  simp[b_,aJ,wx,ww,ag,ar,am,ah,ai,Res.bind,Res.noErr,ax,a8,aB,h,fA,hV,aw,bb,bY,sh,ut,bu,fM,iP,gC,iR,H,q]
 ·have e:(b==1)=Oy:=by simpa using d
  have f:0<=(a%2147483629*48271+11)%2147483629:=SD _ (by omega);have g:(a%2147483629*48271+11)%2147483629<2147483629:=R5 _ (by omega)
  have E:∀p:Int,(a%2147483629*48271+11)%2147483629=p->b_ [.ref n,.int m] S=.ok (.int ((p*p+40692*p)%2147483647/8%m)) (S.set n [.int p,.int b]):=λp c=>by
   rw[c]at f g;have k: -(18446744073709551616:Int)<p:=by omega
   have l:p<(18446744073709551616:Int):=by omega
   have s:∀x,(S.set n x)[n]?=some x:=λx=>Z8 j;have i:∀x y:List D,(S.set n x).set n y=S.set n y:=λx y=>List.set_set ..;clear j;rw[<-t];simp[b_,aJ,wx,ww,ag,ar,am,ah,ai,Res.bind,Res.noErr,ax,a8,aB,h,fA,hV,aw,bb,bY,sh,ut,bu,fM,iP,gC,nB,gB,iR,H,e,d,s,i,c,k,l]
  exact⟨_,_,b,SD _ (show m≠0 by omega),R5 _ H,E _ rfl⟩
structure cJ (m:Int)(ts:Lq):Prop where
 lo:1<=m
 hi:m<=8
 ris:ts.Pairwise aE
 tie:∀t∈ts,0<=t.1/\t.1<t.2/\t.2<m
 few:ts.length<=28
structure c6 (ts ps:Lq):Prop where
 ris:ps.Pairwise aE
 sub:∀t∈ps,t∈ts
 un:(ps.flatMap λt=>[t.1,t.2]).Nodup
theorem aP(c:ds.length=np)(h:ag Φ Γ body (ds.map some++OG (n-np) none) S=.ok (.ret d) S')(b:S'.length=S.length)(a:Flat S')(H:a_ 0 d=Ox):aJ Φ Γ body n np ds S=.ok d S':=by unfold aJ;rw[if_pos c,h];exact wX b a H
theorem run_next(b:ds.length=np)(h:ag Φ Γ body (ds.map some++OG (n-np) none) S=.ok (.next ρ) S')(a:S'.length=S.length)(H:Flat S'):aJ Φ Γ body n np ds S=.ok .non S':=by unfold aJ;rw[if_pos b,h];exact wX a H rfl
theorem LK(h:Flat S)(i:Int):g8 [.int i] S=.ok (.bl Ox) S:=aP rfl rfl rfl h rfl
theorem w4(H:Flat S)(i l a:Int):fH [.int i,.int l,.int a] S=.ok (.bl (decide (l<=i/\i<=a))) S:=by refine aP rfl ?_ rfl H rfl;simp[k_,CH,ag,ar,am,ah,ai,Res.bind,Res.noErr,ax,we,LK H,aw,F1];by_cases h:l<=i<;>simp[h]
theorem DO(h:Flat S)(m i:Int):lf [.int m,.int i] S=.ok (.bl (decide (0<=i/\i<m))) S:=by refine aP rfl ?_ rfl h rfl;have e:(i<=m-1)=(i<m):=propext (by lia);simp[pC,ag,ar,ah,ai,Res.bind,Res.noErr,CI,w4 h,fM,jZ,e]
theorem p_{step:D->List D->af->Res (List D)}(h:∀x∈xs,∀acc,acc.length<a'->step x acc S=.ok (acc++[.bl Ox]) S)(b:xs.length<=a'):aV step xs [] S=.ok (xs.map λ_=>D.bl Ox) S:=by rw[wY (λ_=>some _) _ _ (λx a acc H=>h x a _ H) (by simp_all)];simp
theorem p':gF [.lst (xs.map λ_=>D.bl Ox)] S=.ok (.bl Ox) S:=by unfold gF;simp only[aB,Pb,show bo (xs.map (ii∘λx=>D.bl _))=some _ from LJ λx h=>rfl];rfl
theorem DP(xs:List D):bF xs (some 1) none=xs.drop 1:=by
 unfold bF;have e:HT.bt xs.length 0 (some 1)=min 1 _:=rfl;have E:HT.bt xs.length _ none=xs.length:=rfl;rw[e,E];cases xs with
 |nil=>rfl
 |cons x r=>simp
theorem DQ(b:Flat S)(d:xs.length<=1000)(h:∀(i:Nat) x y,xs[i]?=some x->xs[i+1]?=some y->jJ S bu x y=some Ox):d9 [.tup xs] S=.ok (.bl Ox) S:=by
 refine aP rfl ?_ rfl b rfl;have a:dR S (.tup xs) (.tup (xs.drop 1))=some (.items (OC (λx y=>.tup [x,y]) xs (xs.drop 1))):=rfl;simp[wh,wg,ag,ar,am,ah,ai,a7,Res.bind,Res.noErr,ax,ig,cz,dt,aA];simp only[DP xs,a,b3];rw[p_]
 ·simp only[Res.noErr,p']
 ·intro z a A c;obtain⟨i,H⟩:=Ts.mp a;rw[QC]at H;cases e:xs[i]? with
  |none=>rw[e]at H;cases H
  |some x=>
   cases E:(xs.drop 1)[i]? with
   |none=>rw[e,E]at H;cases H
   |some y=>rw[e,E]at H;cases H;rw[T',Nat.add_comm]at E;simp[bp,bZ,slots,dP,aL,bH,aX,bB,ah,Res.bind,aw,h i x y e E,bb,Res.noErr];unfold a' at c;omega
 ·simp;unfold a';omega
theorem LL(H:Flat S)(g:ns.length<=1000)(h:∀n∈ns,0<=n/\n<m):gb [.int m,.tup (ns.map D.int)] S=.ok (.bl Ox) S:=by
 refine aP rfl ?_ rfl H rfl;have d:bG [.tup (ns.map D.int),.ty "tuple"] S=.ok (.bl Ox) S:=rfl;simp[lh,CJ,ag,ar,am,ah,ai,a7,Res.bind,Res.noErr,ax,aA,d,dQ,yv];simp only[b3];rw[p_]
 ·simp only[Res.noErr];rw[p']
 ·intro z f A b;obtain⟨n,e,rfl⟩:=Zs.mp f;have a:=DO H m n;have c:decide (0<=n/\n<m)=Ox:=ZA (h n e);rw[c]at a;simp[bp,bZ,slots,dP,aL,bH,aX,bB,ah,ai,Res.bind,Kv,a,Res.noErr];unfold a' at b;omega
 ·simp;unfold a';omega
theorem DR(H:Flat S){t:Int×Int}(h:0<=t.1/\t.1<t.2/\t.2<m):fk [.int m,aq t] S=.ok (.bl Ox) S:=by
 refine aP rfl ?_ rfl H rfl;have b:gb [.int m,aq t] S=.ok (.bl Ox) S:=LL H (ns:=[t.1,t.2]) (by simp) (by intro n a;simp at a;rcases a with rfl|rfl<;>omega)
 have c:d9 [aq t] S=.ok (.bl Ox) S:=DQ H (xs:=[.int t.1,.int t.2]) (by simp) (by
  intro i x y E e;have g:i=0:=by have:=(Zg.mp e).1;simp at this;omega
  subst g;simp at E e;subst E;subst e;show some (decide (t.1<t.2))=some Ox;simp[h.2.1])
 have d:aA .len [aq t] S=.ok (.int 2) S:=rfl;have f:aw .Eq (.int 2) (.int 2) S=.ok (.bl Ox) S:=rfl;simp[jh,CL,ag,ar,am,ah,ai,Res.bind,Res.noErr,ax,pF,CM,b,c,d,f]
theorem DS{i:Nat}{x:D}(h:(aa ts)[i]?=some x):∃t,ts[i]?=some t/\x=aq t:=by
 simp[aa]at h
 grind
theorem DT(H:Flat S)(a:ts.length<=1000)(h:ts.Pairwise aE):d9 [.tup (aa ts)] S=.ok (.bl Ox) S:=
 DQ H (by unfold aa;simpa using a) λi x y e E=>by obtain⟨t,f,rfl⟩:=DS e;obtain⟨u,F,rfl⟩:=DS E;rw[show jJ S bu _ _=some _ from DN S _ t u];obtain⟨g,rfl⟩:=Zg.mp f;obtain⟨G,rfl⟩:=Zg.mp F;rw[ZA (Px.mp h i _ _ _ (by omega))]
theorem LM(h:Flat S)(W:cJ m ts):dD [ao m ts] S=.ok (.bl Ox) S:=by
 have l:=W.few;refine aP rfl ?_ rfl h rfl;have b:bG [ao m ts,.ty "tuple"] S=.ok (.bl Ox) S:=rfl;have c:c_ [ao m ts] S=.ok (.int 2) S:=rfl;have d:aw .NotEq (.int 2) (.int 2) S=.ok (.bl Oy) S:=rfl;have H:=w4 h m 1 8;rw[ZA (⟨W.lo,W.hi⟩:1<=m/\m<=8)]at H;have e:bG [.tup (aa ts),.ty "tuple"] S=.ok (.bl Ox) S:=rfl;have a:=DT h (show ts.length<=1000 by omega) W.ris;have f:G0 "MOST_PLACES"=some (.int 8):=rfl;have g:aL (.tup [.var 1,.var 2]) (ao m ts) [some (ao m ts),none,none]=some _:=rfl;simp[ji,CN,ag,ar,am,ah,ai,a7,Res.bind,Res.noErr,ax,aA,b,c,d,CP,CQ,CU,H,e,a9,a,f,g,dQ,CO,Kx,yw];simp only[b3];rw[p_]
 ·simp only[Res.noErr,p'];simp[a]
 ·intro z k A i;obtain⟨t,j,rfl⟩:=Zs.mp k;simp[bp,bZ,slots,dP,aL,bH,aX,bB,ah,ai,Res.bind,CU,DR h (W.tie t j),Res.noErr];unfold a' at i;omega
 ·unfold aa a';simp;omega
theorem w_(h:Flat S)(W:cJ m ts):eT [ao m ts] S=.ok .non S:=by refine run_next (ρ:=[some (ao m ts)]) rfl ?_ rfl h;simp[wl,wk,ag,ar,am,ah,ai,Res.bind,CZ,LM h W,a9]
theorem DU{b:Type}{f e:b->D}{p:b->Bool}{step:D->List D->af->Res (List D)}{S:af}:∀(xs:List b) (acc:List D),(∀x∈xs,∀acc,acc.length<a'->step (f x) acc S=.ok (if p x=Ox then acc++[e x]else acc) S)->acc.length+xs.length<=a'->aV step (xs.map f) acc S=.ok (acc++(xs.filter p).map e) S
 | [],acc,_,_=>by simp[aV]
 |x::xs,acc,h,c=>by
  simp only[ZE]at c;simp only[ZV];unfold aV;rw[h x Zd acc (by omega)];unfold Res.bind;dsimp only;have i:=λa=>DU (f:=f) (e:=e) (p:=p) (step:=step) xs a (λy d=>h y (Zc _ d));by_cases H:p x=Ox
  ·rw[if_pos H,i _ (by simp;omega)];simp[H]
  ·rw[if_neg H,i _ (by omega)];simp[H]
theorem xa{f e:α->D}{p:α->Bool}{step:D->List D->af->Res (List D)}{xs:List α}(h:∀x∈xs,∀acc,acc.length<a'->step (f x) acc S=.ok (if p x=Ox then acc++[e x]else acc) S)(H:xs.length<=a'):aV step (xs.map f) [] S=.ok ((xs.filter p).map e) S:=by rw[DU _ _ h (by simp_all)];simp
theorem aW{c:CS}(h:ar Φ Γ c ρ S=.ok (.next ρ') S'):ag Φ Γ (c::cs) ρ S=ag Φ Γ cs ρ' S':=by rw[ag,h];rfl
theorem br{c:CS}(h:ar Φ Γ c ρ S=.ok (.ret d) S'):ag Φ Γ (c::cs) ρ S=.ok (.ret d) S':=by rw[ag,h];rfl
theorem gr{t:CT}{it:CE}{its:iT}(h:a7 Φ Γ it ρ S=.ok its S1):ar Φ Γ (.for_ t it body) ρ S=nY (λx ρ S=>match aL t x ρ with
   |some ρ'=>ag Φ Γ body ρ' S
   |none=>.fail) its ρ S1:=by
 rw[ar,h];rfl
theorem bj{i:Nat}{e:CE}(h:ah Φ Γ e ρ S=.ok d S'):ag Φ Γ (.asg i e::cs) ρ S=ag Φ Γ cs (ρ.set i (some d)) S':=
 aW (by rw[ar,h];rfl)
noncomputable def b6(l:Int):Nat->Li
 |0=>[]
 |n+1=>l::b6 (l+1) n
theorem qa(l:Int)(n:Nat):dU l n=(b6 l n).map D.int:=by
 induction n generalizing l with
 |zero=>rfl
 |succ n i=>unfold dU b6;rw[i];rfl
theorem LN{l x:Int}:x∈b6 l n->l<=x/\x<l+n:=by
 induction n generalizing l with
 |zero=>intro h;cases h
 |succ n i=>
  intro h;unfold b6 at h;rcases Zh.mp h with rfl|h
  ·omega
  ·have:=i h;omega
theorem qb{l:Int}:(b6 l n).length=n:=by
 induction n generalizing l with
 |zero=>rfl
 |succ n i=>unfold b6;simp[i]
noncomputable def cY(p:Int)(t:Int×Int):Bool:=decide (p=t.1\/p=t.2)
noncomputable def iL:Lq->Int->Option Int
 | [],_=>none
 |t::ts,p=>if p=t.1 then some t.2 else if p=t.2 then some t.1 else iL ts p
noncomputable def xb(m:Int)(ps:Lq):Li:=(b6 0 m.toNat).filter λi=>(iL ps i).isNone
theorem LO(c:Flat S)(n:Nat)(i:Int):bS (n+1) [.int i,.int i] S=.ok (.bl Ox) S:=by
 refine aP rfl ?_ rfl c rfl;have h:bG [.int i,.ty "bool"] S=.ok (.bl Oy) S:=rfl;have H:bG [.int i,.ty "int"] S=.ok (.bl Ox) S:=rfl
 have a:aw .Eq (.int i) (.int i) S=.ok (.bl Ox) S:=by have:aw .Eq (.int i) (.int i) S=.ok (.bl (i==i)) S:=rfl;rw[this];simp
 have b:aw .Is (.int i) .non S=.ok (.bl Oy) S:=rfl;simp[gj,gh,ag,ar,am,ah,ai,Res.bind,Res.noErr,ax,aA,h,H,a,b,a9]
theorem xf{a:Type}{f:a->D}{g:a->List D}{c:Nat}{step:D->List D->af->Res (List D)}{S:af}(H:∀x,(g x).length<=c):∀(xs:List a) (acc:List D),(∀x∈xs,∀acc,acc.length+c<=a'->step (f x) acc S=.ok (acc++g x) S)->acc.length+c*xs.length<=a'->aV step (xs.map f) acc S=.ok (acc++xs.flatMap g) S
 | [],acc,_,_=>by simp[aV]
 |x::xs,acc,h,b=>by simp[Nat.mul_add]at b;simp;unfold aV;rw[h x Zd _ (by omega)];unfold Res.bind;dsimp;rw[xf H _ _ (λy d=>h y (Zc _ d)) (by grind)];simp
theorem DV:∀(ns acc:Li),(acc++ns).Nodup->ns.foldl Pj acc=acc++ns
 | [],acc,_=>by simp
 |n::ns,acc,h=>by
  simp only[Rt]
  have H:acc.any (· ==n)=Oy:=by
   rw[List.any_eq_false];intro x a z;have:x=n:=by simpa using z
   subst this;have:=(ZT.mp h).2.2 x a x Zd;exact this rfl
  have e:Pj acc n=acc++[n]:=by unfold Pj;rw[H];rfl
  rw[e,DV ns (acc++[n]) (by rw[ZX];exact h),ZX];rfl
theorem LP(c:Flat S)(g:ns.length<1000)(h:ns.Nodup):li [.lst (ns.map D.int)] S=.ok (.bl Ox) S:=by
 refine aP rfl ?_ rfl c rfl
 have H:iU (.lst (ns.map D.int)) S=.ok (.int ns.length) S:=by
  have e:(ns.map D.int).all (az .int)=Ox:=by rw[Zp];intro x d;obtain⟨n,_,rfl⟩:=Zs.mp d;rfl
  have E:(ns.map D.int).filterMap cR=ns:=by rw[PV];exact TY
  have f:cS ns=ns:=by unfold cS;have:=DV ns [] (by simp_all);simp_all
  show(if(ns.map _).all _=Ox/\(ns.map _).length<1000 then Res.ok _ S else _)=_;simp_all
 have a:c_ [.lst (ns.map D.int)] S=.ok (.int ns.length) S:=by simp[c_,aB]
 have b:aw .Eq (.int ns.length) (.int ns.length) S=.ok (.bl Ox) S:=by have:aw .Eq (.int ns.length) (.int ns.length) S=.ok _ S:=rfl;simp_all
 simp[wj,ag,ar,ah,ai,Res.bind,Res.noErr,aA,H,a,b]
noncomputable def au(ps:Lq):Li:=ps.flatMap λt=>[t.1,t.2]
theorem DW(ps:Lq):ps.flatMap (λt=>[D.int t.1,D.int t.2])=(au ps).map D.int:=by unfold au;rw[List.map_flatMap];rfl
theorem qc(ps:Lq):(au ps).length=2*ps.length:=by
 unfold au
 induction ps with
 |nil=>rfl
 |cons t T i=>simp only[List.flatMap_cons,Zk,i,ZE];simp;omega
theorem LQ(b:Flat S)(W:cJ m ts)(P:c6 ts ps)(o:ps.length<=100):g9 [ao m ts,.tup (aa ps)] S=.ok (.bl Ox) S:=by
 refine aP rfl ?_ rfl b rfl;have e:a8 (ao m ts) (.int 0) S=.ok (.int m) S:=rfl;have H:a8 (ao m ts) (.int 1) S=.ok (.tup (aa ts)) S:=rfl;have f:bG [.tup (aa ps),.ty "tuple"] S=.ok (.bl Ox) S:=rfl;have g:=DT b (show ps.length<=1000 by omega) P.ris;unfold jj;refine(aW (ρ':=[some (ao m ts),some (.tup (aa ps))]) (S':=S) (by simp[CV,ar,ag,am,ah,ai,Res.bind,Res.noErr,aA,f,a9,mx,my])).trans ?_;refine br ?_;simp[ar,ah,ai,a7,Res.bind,Res.noErr,ax,aA,dQ,b3,mx,my];rw[p_]
 ·simp only[Res.noErr];rw[p'];simp[CW,g]
 ·intro z k a i;obtain⟨t,d,rfl⟩:=Zs.mp k;have j:=DR b (W.tie t (P.sub t d));have h:=wZ S t ts;rw[ZA (P.sub t d)]at h;have c:a.length<16777216:=i;simp[bp,bZ,slots,dP,aL,bH,aX,bB,ah,ai,Res.bind,pG,j,Res.noErr,e,H,aw,h,bb,ax,c,mx,my]
 ·unfold aa a';simp;omega
theorem LR(h:Flat S)(W:cJ m ts)(P:c6 ts ps)(d:ps.length<=100):d_ [ao m ts,.tup (aa ps)] S=.ok (.bl Ox) S:=by
 refine aP rfl ?_ rfl h rfl;have j:=LP h (ns:=au ps) (by rw[qc];omega) P.un;refine(aW (ρ':=[some (ao m ts),some (.tup (aa ps))]) (S':=S) (by simp[C0,ar,ah,ai,Res.bind,C1,w_ h W,mz])).trans ?_;refine br ?_;simp[ar,ah,ai,a7,Res.bind,Res.noErr,ax,wm,C2,LQ h W P d,dQ,b3,mz];unfold aa;rw[xf (g:=λt=>[.int t.1,.int t.2]) (c:=2) (λx=>by simp)]
 ·rw[DW];simp_all
 ·intro t k a H;have b:a.length+2<=16777216:=H;have e:dQ S (aq t)=some _:=rfl;simp[(rfl),bp,bZ,slots,aL,aX,bB,ah,a7,Res.bind,e,b3,aV,show a.length<16777216 by omega,show a.length+1<16777216 by omega,mz]
 grind
noncomputable def insI(x:Int×Int):Lq->Lq
 | []=>[x]
 |y::ys=>if aE x y then x::y::ys else y::insI x ys
noncomputable def sortI(l:Lq):Lq:=l.foldl (λacc x=>insI x acc) []
theorem qd(a b:Int×Int):b4 (.seq .int) (aq a) (aq b)=decide (aE a b):=by
 have e:b4 (.seq .int) (aq a) (aq b)=(if decide (a.1<b.1)=Ox then Ox else if decide (b.1<a.1)=Ox then Oy else if decide (a.2<b.2)=Ox then Ox else if decide (b.2<a.2)=Ox then Oy else Oy):=rfl;rw[e];simp only[decide_eq_true_eq];by_cases h:aE a b
 ·rw[ZA h];unfold aE at h
  repeat' split
  all_goals first|rfl|omega
 ·rw[Zy h];unfold aE at h
  repeat' split
  all_goals first|rfl|omega
theorem DX(x:Int×Int):∀l:Lq,ej (b4 (.seq .int)) (aq x) (aa l)=aa (insI x l)
 | []=>rfl
 |y::Y=>by
  show(if b4 _ _ _=Ox then aq x::aq y::aa _ else aq y::ej _ _ (aa _))=aa _;have e:insI x (y::Y)=if aE x y then x::y::Y else y::insI x _:=rfl;rw[qd,DX x _,e];by_cases h:aE x y
  ·rw[ZA h,if_pos h];rfl
  ·rw[Zy h,if_neg h];rfl
theorem DY:∀(l acc:Lq),(aa l).foldl (λacc x=>ej (b4 (.seq .int)) x acc) (aa acc)=aa (l.foldl (λacc x=>insI x acc) acc)
 | [],acc=>rfl
 |x::l,acc=>by show(aa l).foldl _ (ej _ _ _)=_;rw[DX,DY l];rfl
theorem DZ(l:Lq):fg (b4 (.seq .int)) (aa l)=aa (sortI l):=DY l []
theorem qe(x:Int×Int):∀l,(insI x l).Perm (x::l)
 | []=>.refl _
 |y::Y=>by
  unfold insI;split
  ·exact .refl _
  ·exact((qe x _).cons y).trans (.swap x y _)
theorem D0:∀(l acc:Lq),(l.foldl (λacc x=>insI x acc) acc).Perm (l++acc)
 | [],acc=>.refl _
 |x::l,acc=>by exact(D0 l _).trans (((qe x _).append_left l).trans QG)
theorem iw(l:Lq):(sortI l).Perm l:=by have:=D0 l [];rw[P0]at this;exact this
theorem lex_tot{x y:Int×Int}(h:¬aE x y)(n:x≠y):aE y x:=by
 unfold aE at h⊢
 grind
theorem D3{x y z:Int×Int}(a:aE x y)(b:aE y z):aE x z:=by unfold aE at*;omega
theorem D4(x:Int×Int):∀l,l.Pairwise aE->x∉l->(insI x l).Pairwise aE
 | [],_,_=>List.pairwise_singleton _ _
 |y::Y,h,n=>by
  obtain⟨a,b⟩:=Z5.mp h;unfold insI;by_cases e:aE x y
  ·rw[if_pos e];refine Z5.mpr ⟨λz H=>?_,h⟩;rcases Zh.mp H with rfl|H
   ·exact e
   ·exact D3 e (a z H)
  ·rw[if_neg e];refine Z5.mpr ⟨λz H=>?_,D4 x _ b λz=>n (Zc _ z)⟩;rcases Zh.mp ((qe x _).mem_iff.mp H)with rfl|H
   ·exact lex_tot e λz=>n (by simp_all)
   simp_all
theorem D5:∀(l acc:Lq),acc.Pairwise aE->(l++acc).Nodup->(l.foldl (λacc x=>insI x acc) acc).Pairwise aE
 | [],acc,h,_=>h
 |x::l,acc,h,n=>by have N:=n;obtain⟨a,b⟩:=OS.mp N;exact D5 l _ (D4 x _ h λz=>a (ZD _ z)) ((((qe x _).append_left l).trans QG).nodup_iff.mpr N)
theorem qf{l:Lq}(h:l.Nodup):(sortI l).Pairwise aE:=D5 l _ .nil (by simp_all)
theorem xg{l:Lq}(H:aB S d=some (aa l))(b:l.length<64):kb Oy (.seq .int) [d] S=.ok (.lst (aa (sortI l))) S:=by
 have e:(aa l).all (az (.seq .int))=Ox:=by rw[Zp];intro x h;obtain⟨t,_,rfl⟩:=Zs.mp h;rfl
 have E:gL (.seq .int) (aa l)=Ox:=by
  have:((aa l).all λd=> !fO d)=Ox:=by rw[Zp];intro x h;obtain⟨t,_,rfl⟩:=Zs.mp h;rfl
  show(Ox&&((aa l).all λd=> !fO d))=Ox;rw[this];rfl
 have a:(aa l).length<64:=by unfold aa;rw[Zn];omega
 unfold kb;simp only[H];rw[if_pos ⟨e,a,E⟩,DZ];rfl
theorem xh{l:Lq}(h1:1<=m)(h:m<=8)(a:l.Nodup)(c:∀t∈l,0<=t.1/\t.1<t.2/\t.2<m)(H:l.length<=28):cJ m (sortI l):=
 ⟨h1,h,qf a,λt b=>c t ((iw l).mem_iff.mp b),by rw[(iw l).length_eq];exact H⟩
noncomputable def jy(m:Nat):Lq:=(b6 0 m).flatMap λi=>(b6 (i+1) (m-1-i.toNat)).map λj=>(i,j)
theorem lF(h1:1<=m)(h:m<=8):m=1\/m=2\/m=3\/m=4\/m=5\/m=6\/m=7\/m=8:=by obtain⟨n,rfl⟩:=Qt (Int.le_trans (by decide) h1);exact(by decide:∀n:Fin 9,(1:Int)<=(n.val:Nat)->((n.val:Nat):Int)=1\/((n.val:Nat):Int)=2\/((n.val:Nat):Int)=3\/((n.val:Nat):Int)=4\/((n.val:Nat):Int)=5\/((n.val:Nat):Int)=6\/((n.val:Nat):Int)=7\/((n.val:Nat):Int)=8) ⟨n,Q8 (Int.ofNat_le.mp h)⟩ h1
theorem NQ(h1:2<m)(H:m<=8):m=3\/m=4\/m=5\/m=6\/m=7\/m=8:=by
 rcases lF (Int.le_trans (by decide) h1) H with rfl|rfl|h
 ·exact absurd h1 (by decide)
 ·exact absurd h1 (by decide)
 ·exact h
theorem LS(h1:1<=m)(h:m<=8):ag Dc G0 C' ([D.int m].map some++OG (C_.length-1) none) S=.ok (.ret (.lst (aa (jy m.toNat)))) S:=by rcases lF h1 h with rfl|rfl|rfl|rfl|rfl|rfl|rfl|rfl<;>rfl
theorem D6(H:Flat S)(h1:1<=m)(h:m<=8):pN [.int m] S=.ok (.lst (aa (jy m.toNat))) S:=
 aP rfl (LS h1 h) rfl H (fo _)
theorem LU(h1:1<=m)(h:m<=8):cJ m (jy m.toNat):=by rcases lF h1 h with rfl|rfl|rfl|rfl|rfl|rfl|rfl|rfl<;>exact⟨by omega,by omega,by decide+kernel,by decide+kernel,by decide+kernel⟩
theorem D7{u:Lq}(W:cJ m ts)(h:u.Sublist ts):cJ m u:=
 ⟨W.lo,W.hi,W.ris.sublist h,λt H=>W.tie t (h.subset H),Zl h.length_le W.few⟩
def Drawn(n:Nat)(S S':af):Prop:=∃a b:Int,S'=S.set n [.int a,.int b]
theorem Drawn.refl(h:aS S n):Drawn n S S:=by obtain⟨a,b,h⟩:=h;obtain⟨H,e⟩:=Zg.mp h;exact⟨a,b,by rw[<-e,List.set_getElem_self]⟩
theorem Drawn.trans(a:Drawn n S S1)(b:Drawn n S1 S2):Drawn n S S2:=by obtain⟨x,y,rfl⟩:=a;obtain⟨z,w,rfl⟩:=b;exact⟨z,w,by rw[List.set_set]⟩
theorem Drawn.flat(h:Drawn n S S')(H:Flat S):Flat S':=by obtain⟨a,b,rfl⟩:=h;exact H.set rfl
theorem Drawn.pen(h:Drawn n S S')(H:aS S n):aS S' n:=by obtain⟨a,b,rfl⟩:=h;exact H.set
theorem Drawn.len(h:Drawn n S S'):S'.length=S.length:=by obtain⟨a,b,rfl⟩:=h;simp
theorem fJ(H:Flat S)(c:aS S n)(h:0<m)(h1:m<1000):∃r S',0<=r/\r<m/\Drawn n S S'/\b_ [.ref n,.int m] S=.ok (.int r) S':=by obtain⟨r,a,b,x,y,e⟩:=p9 H c h h1;exact⟨r,_,x,y,⟨a,b,rfl⟩,e⟩
theorem xi{n:Nat}{step:D->List D->af->Res (List D)}{f:Int×Int->D}:∀(ts:Lq) (acc:List D) (S:af),Flat S->aS S n->acc.length+ts.length<=1000->
  (∀t∈ts,∀acc S,Flat S->aS S n->acc.length<=1000->∃k S',Drawn n S S'/\step (f t) acc S=.ok (if k=Ox then acc++[f t]else acc) S')->
  ∃(us:Lq) (S':af),us.Sublist ts/\Drawn n S S'/\aV step (ts.map f) acc S=.ok (acc++us.map f) S'
 | [],acc,S,b,H,_,_=>⟨[],S,.slnil,.refl H,by simp[aV]⟩
 |t::ts,acc,S,b,H,g,h=>by
  simp only[ZE]at g;obtain⟨k,a,d1,E⟩:=h t Zd acc S b H (by lia);rw[ZV];unfold aV;rw[E];cases k with
  |true=>obtain⟨us,c,s,d2,e⟩:=xi ts (acc++[f t]) a (d1.flat b) (d1.pen H) (by grind) λu d=>h u (Zc _ d);exact⟨t::us,c,s.cons_cons t,d1.trans d2,by show aV step (ts.map f) (acc++[f t]) a=_;simp_all⟩
  |false=>obtain⟨us,c,s,d2,e⟩:=xi ts acc a (d1.flat b) (d1.pen H) (by lia) λu d=>h u (Zc _ d);exact⟨us,c,s.cons t,d1.trans d2,by show aV step (ts.map f) acc a=_;rw[e]⟩
theorem D8{n:Nat}{step:D->List D->af->Res (List D)}:∀(k:Nat) (lo:Int) (acc:List D) (S:af),1<=lo->lo+k<=100->Flat S->aS S n->acc.length+k<=1000->
  (∀p:Int,1<=p->p<100->∀acc S,Flat S->aS S n->acc.length<=1000->∃r S',0<=r/\r<p/\Drawn n S S'/\step (.int p) acc S=.ok (acc++[aq (r,p)]) S')->
  ∃(us:Lq) (S':af),us.map (·.2)=b6 lo k/\(∀t∈us,0<=t.1/\t.1<t.2/\lo<=t.2/\t.2<lo+k)/\Drawn n S S'/\aV step ((b6 lo k).map D.int) acc S=.ok (acc++aa us) S'
 |0,lo,acc,S,_,_,a,H,_,_=>⟨[],S,rfl,λt h=>(by cases h),.refl H,by simp[aV,b6,aa]⟩
 |k+1,lo,acc,S,f,g,a,H,i,h=>by
  obtain⟨r,c,R,j,d1,e⟩:=h lo f (by omega) acc S a H (by omega);obtain⟨us,d,s,v,d2,E⟩:=D8 k (lo+1) (acc++[aq (r,lo)]) c (by omega) (by omega) (d1.flat a) (d1.pen H) (by simp;omega) h;refine⟨(r,lo)::us,d,?_,λt b=>?_,d1.trans d2,?_⟩
  ·simp_all;rfl
  ·rcases Zh.mp b with rfl|b
   ·dsimp only;omega
   ·have:=v t b;omega
  ·show aV step (D.int lo::(b6 (lo+1) k).map D.int) acc S=_;unfold aV;rw[e];show aV step _ (acc++[aq (r,lo)]) c=_;rw[E];simp[aa]
theorem D_{l:Int}:(b6 l n).Nodup:=by
 induction n generalizing l with
 |zero=>exact Qb
 |succ n i=>refine OS.mpr ⟨λh=>?_,i⟩;have:=LN h;omega
theorem cZ{c:CE}{a b:List CS}{k:Bool}(h:am Φ Γ c ρ S=.ok k S1):ar Φ Γ (.ite c a b) ρ S=if k=Ox then ag Φ Γ a ρ S1 else ag Φ Γ b ρ S1:=by rw[ar,h];rfl
theorem ix{t:CT}{it:CE}{i:List CE}{body:CE}{a:af}{its:iT}{ys:List D}(h:a7 Φ Γ it ρ S=.ok its S1)
  (H:b3 (λx acc S2=>match bp t x (fr.map λj=>j.bind λj=>(ρ[j]?).join)with
    |some ρ'=>(aX Φ Γ i ρ' S2).bind λk S3=>if k=Ox then bB Φ Γ body ρ' acc S3 else .ok acc S3
    |none=>.fail) its [] S1=.ok ys a):ah Φ Γ (.comp Oy N fr t it i body) ρ S=.ok (.lst ys) a:=by
 rw[ah,h];exact Eq.trans (congrArg (λr=>Res.bind (Res.noErr r) (λys a=>if Oy=Ox then Res.ok (D.ref a.length) (a++[ys])else Res.ok (.lst ys) a)) H) rfl
section
variable {S3:af}{d2 r x y:D}{e a b:CE}
theorem al{i:Nat}(h:ρ[i]?=some (some d)):ah Φ Γ (.var i) ρ S=.ok d S:=by rw[ah,h]
theorem lH{k:il}(h:ah Φ Γ e ρ S=.ok d S1)(H:aA k [d] S1=.ok r S2):ah Φ Γ (.blt k [e]) ρ S=.ok r S2:=by simp[ah,ai,h,Res.bind,H,Res.noErr]
theorem Ea(h1:ah Φ Γ a ρ S=.ok x S1)(h:ah Φ Γ b ρ S1=.ok y S2):ah Φ Γ (.tup [a,b]) ρ S=.ok (.tup [x,y]) S2:=by simp[ah,ai,h1,h,Res.bind]
theorem xj{f:Str}(H:Φ f=some φ)(h1:ah Φ Γ a ρ S=.ok x S1)(h:φ [x] S1=.ok r S2):ah Φ Γ (.call f [a]) ρ S=.ok r S2:=by simp[ah,ai,H,h1,h,Res.bind]
theorem fK{f:Str}(c:Φ f=some φ)(h1:ah Φ Γ a ρ S=.ok x S1)(H:ah Φ Γ b ρ S1=.ok y S2)(h:φ [x,y] S2=.ok r S3):ah Φ Γ (.call f [a,b]) ρ S=.ok r S3:=by simp[ah,ai,c,h1,H,h,Res.bind]
theorem fq(h:ah Φ Γ e ρ S=.ok d S1):ar Φ Γ (.ret e) ρ S=.ok (.ret d) S1:=by rw[ar,h];rfl
end
theorem jz{w k j:Int}(a:ρ[2]?=some (some (.int m)))(b:ρ[3]?=some (some (.int w))):am Φ Γ (.band (.cmp .Eq (.var 3) (.lit (.int k))) (.cmp .Gt (.var 2) (.lit (.int j)))) ρ S=.ok (decide (w=k/\j<m)) S:=by
 have e:aw .Eq (.int w) (.int k) S=.ok (.bl (w==k)) S:=rfl;have E:aw .Gt (.int m) (.int j) S=.ok (.bl (decide (j<m))) S:=rfl;by_cases h:w=k
 ·subst h;have H:(w==w)=Ox:=by simp
  rw[H]at e;simp[am,ah,Res.bind,Res.noErr,ax,a,b,e,E]
 ·have H:(w==k)=Oy:=by simpa using h
  rw[H]at e;simp[am,ah,Res.bind,Res.noErr,ax,a,b,e,E,h]
theorem Eb{w k:Int}(h:ρ[3]?=some (some (.int w))):am Φ Γ (.cmp .Eq (.var 3) (.lit (.int k))) ρ S=.ok (decide (w=k)) S:=by have e:aw .Eq (.int w) (.int k) S=.ok (.bl (w==k)) S:=rfl;have E:(w==k)=decide (w=k):=rfl;simp[am,ah,Res.bind,Res.noErr,ax,h,e,E]
theorem qg{c:CE}{a:List CS}{P:Prop} [Decidable P] (h:am Φ Γ c ρ S=.ok (decide P) S)(H:¬P):ag Φ Γ (.ite c a []::cs) ρ S=ag Φ Γ cs ρ S:=
 aW (by rw[cZ h,Zy H,if_neg Z6,ag])
theorem qh{c:CE}{a:List CS}{P:Prop} [Decidable P] (h:am Φ Γ c ρ S=.ok (decide P) S)(b:P)(H:ag Φ Γ a ρ S=.ok (.ret d) S'):ag Φ Γ (.ite c a []::cs) ρ S=.ok (.ret d) S':=
 br (by rw[cZ h,ZA b,if_pos rfl,H])
theorem LV{r:Int}(h:0<=r)(h1:r<12):∃v,0<=v/\v<8/\a8 (.lst [.int 0,.int 0,.int 1,.int 0,.int 2,.int 1,.int 3,.int 4,.int 5,.int 6,.int 7,.int 0]) (.int r) S=.ok (.int v) S:=by
 obtain⟨n,rfl⟩:=Qt h;have H:n<12:=Int.ofNat_lt.mp h1;clear h h1
 match n,H with
 |0,_|1,_|2,_|3,_|4,_|5,_|6,_|7,_|8,_|9,_|10,_|11,_=>exact⟨_,by decide,by decide,rfl⟩
theorem LW{r:Int}(h:0<=r)(h1:r<5):∃v:Int,a8 (.lst [.int 2,.int 3,.int 4,.int 6,.int 8]) (.int r) S=.ok (.int v) S:=by
 have:r=0\/r=1\/r=2\/r=3\/r=4:=by lia
 rcases this with rfl|rfl|rfl|rfl|rfl<;>exact⟨_,rfl⟩
noncomputable def Ec(m:Nat):Lq:=(b6 0 (m-1)).map (λk=>(k,k+1))++[(0,(m:Int)-1)]
noncomputable def xk(m:Nat):Lq:=[(0,1),(0,2),(1,2)]++((b6 3 (m-4)).map (λk=>(k,k+1))++[(3,(m:Int)-1),(2,3)])
theorem xl(C:Flat S)(E:aS S n):∃m ts S',cJ m ts/\Drawn n S S'/\jo [.ref n,.int 8] S=.ok (ao m ts) S':=by
 suffices h:∃m ts S',cJ m ts/\Drawn n S S'/\ag eV G0 wy [some (.ref n),some (.int 8),none,none,none,none,none] S=.ok (.ret (ao m ts)) S' by obtain⟨m,ts,S',W,d,e⟩:=h;exact⟨m,ts,S',W,d,aP rfl e d.len (d.flat C) (p8 m ts)⟩
 obtain⟨r,V,R,O,d1,e1⟩:=fJ C E (m:=12) (by decide) (by decide);have G:=d1.flat C;have I:=d1.pen E;obtain⟨v,v0,v1,ev⟩:=LV (S:=V) R O;obtain⟨w,b,w0,w1,d2,e2⟩:=fJ G I (m:=9) (by decide) (by decide);have H:=d2.flat G;have j:=d2.pen I;have D:=d1.trans d2;have hm:∃m:Int,1<=m/\m<=8/\1+8-1-v%8=m:=⟨8-v,by omega,by omega,by omega⟩;obtain⟨m,M,N,em⟩:=hm;unfold wy
 rw[bj (d:=.int m) (S':=V) (by simp[ah,ai,Res.bind,Res.noErr,jn,e1,ev,fM,gB,jZ,iP];omega)];rw[bj (d:=.int w) (S':=b) (by simp[ah,ai,Res.bind,Res.noErr,jn,e2])];simp only[QU,QV];by_cases K:w=0/\2<m
 ·refine⟨m,sortI (Ec m.toNat),b,?_,D,?_⟩
  ·have:=NQ K.2 (by omega);rcases this with rfl|rfl|rfl|rfl|rfl|rfl<;>exact xh (by decide) (by decide) (by decide+kernel) (by decide+kernel) (by decide+kernel)
  ·refine qh (jz rfl rfl) K ?_;have:=NQ K.2 (by omega);rcases this with rfl|rfl|rfl|rfl|rfl|rfl<;>rfl
 rw[qg (jz rfl rfl) K];by_cases Z:w=1/\5<m
 ·refine⟨m,sortI (xk m.toNat),b,?_,D,?_⟩
  ·have:m=6\/m=7\/m=8:=by omega
   rcases this with rfl|rfl|rfl<;>exact xh (by decide) (by decide) (by decide+kernel) (by decide+kernel) (by decide+kernel)
  ·refine qh (jz rfl rfl) Z ?_;have:m=6\/m=7\/m=8:=by omega
   rcases this with rfl|rfl|rfl<;>rfl
 rw[qg (jz rfl rfl) Z];have s:=LU M N;by_cases c3:w=2/\2<m
 ·obtain⟨q,a,q0,q1,B,F⟩:=fJ H j (m:=2) (by decide) (by decide);have i:=B.flat H;refine⟨m,(jy m.toNat).filter (λt=>decide (t.1<1+q/\1+q<=t.2)),a,D7 s TZ,D.trans B,?_⟩;refine qh (jz rfl rfl) c3 ?_;rw[bj (d:=.int (1+q)) (S':=a) (by simp[ah,ai,Res.bind,Res.noErr,jn,F,fM,gB])];refine br ?_;simp[ar,ah,ai,a7,Res.bind,Res.noErr,ax,aA,b3,Dd,D6 i M N,dQ];unfold aa;rw[xa (f:=aq) (e:=aq) (p:=λt=>decide (t.1<1+q/\1+q<=t.2))]
  ·simp[Res.noErr,nH,aB,ao,aa]
  ·intro t U A P;have c:A.length<16777216:=P;have x0:a8 (aq t) (.int 0) a=.ok (.int t.1) a:=rfl;have x1:a8 (aq t) (.int 1) a=.ok (.int t.2) a:=rfl;have X:aw .Lt (.int t.1) (.int (1+q)) a=.ok (.bl (decide (t.1<1+q))) a:=rfl;have x3:aw .LtE (.int (1+q)) (.int t.2) a=.ok (.bl (decide (1+q<=t.2))) a:=rfl;by_cases y1:t.1<1+q<;>by_cases y2:1+q<=t.2<;>simp[bp,bZ,slots,dP,aL,bH,aX,am,bB,ah,Res.bind,Res.noErr,ax,x0,x1,X,x3,y1,y2,c]
  ·have:=s.few;unfold a';omega
 rw[qg (jz rfl rfl) c3];by_cases c4:w=3
 ·obtain⟨u,a,s3,v3,B,F⟩:=D8 (n:=n) (step:=λx A b=>match bp (.var 0) x [none,some (.ref n)]with
    |some g=>(aX eV G0 [] g b).bind λk a=>if k=Ox then bB eV G0 (.emit (.tup [.call "_law_draw" [.var 1,.var 0],.var 0])) g A a else .ok A a
    |none=>.fail) (m-1).toNat 1 [] b (by decide) (by omega) H j (by simp;omega) (λp p0 p1 A S C E P=>by
     obtain⟨r,S',R,O,d,e⟩:=fJ C E (m:=p) (by omega) (by omega);refine⟨r,S',R,O,d,?_⟩;have c:A.length<16777216:=by omega
     simp[bp,bZ,slots,dP,aL,bH,aX,bB,ah,ai,Res.bind,jn,e,aq,c])
  have hl:u.length=(m-1).toNat:=by have:=congrArg RG s3;simpa[qb]using this
  have hn:u.Nodup:=by
   have h:(u.map (·.2)).Nodup:=by rw[s3];exact D_
   exact(Qw.mp h).imp λz e=>z (by rw[e])
  refine⟨m,sortI u,a,xh M N hn (λt U=>by have:=v3 t U;omega) (by omega),D.trans B,?_⟩;refine qh (Eb rfl) c4 (br ?_);have L:a7 eV G0 (.range [.lit (.int 1),.var 2]) [some (.ref n),some (.int 8),some (.int m),some (.int w),none,none,none] b=.ok (.items (dU 1 (m-1).toNat)) b:=by simp[a7,ai,ah,Res.bind];omega
  have Q:ah eV G0 (.comp Oy ["_law_place","_law_pen_here"] [none,some 0] (.var 0) (.range [.lit (.int 1),.var 2]) [] (.emit (.tup [.call "_law_draw" [.var 1,.var 0],.var 0]))) [some (.ref n),some (.int 8),some (.int m),some (.int w),none,none,none] b=.ok (.lst (aa u)) a:=by rw[qa]at L;exact ix L F
  have J:=xg (S:=a) (d:=.lst (aa u)) (l:=u) rfl (by omega);exact fq (Ea (al rfl) (lH (lH Q J) rfl))
 rw[qg (Eb rfl) c4];obtain⟨q,a,q0,q1,B,F⟩:=fJ H j (m:=5) (by decide) (by decide);have i:=B.flat H;have T:=B.pen j;obtain⟨o,eo⟩:=LW (S:=a) q0 q1;rw[bj (d:=.int o) (S':=a) (by simp[ah,ai,Res.bind,Res.noErr,jn,F,eo])];simp only[QU,QV]
 obtain⟨u,Y,s4,d4,e4⟩:=xi (n:=n) (f:=aq) (step:=λx A b=>match bp (.var 0) x [none,some (.ref n),some (.int o)]with
    |some g=>(aX eV G0 [.cmp .Lt (.call "_law_draw" [.var 1,.lit (.int 8)]) (.var 2)] g b).bind λk a=>if k=Ox then bB eV G0 (.emit (.var 0)) g A a else .ok A a
    |none=>.fail) (jy m.toNat) [] a i T (by have:=s.few;simp;omega) (λt U A S C E P=>by
     obtain⟨r,S',R,O,d,e⟩:=fJ C E (m:=8) (by decide) (by decide);refine⟨decide (r<o),S',d,?_⟩;have X:aw .Lt (.int r) (.int o) S'=.ok (.bl (decide (r<o))) S':=rfl;have c:A.length<16777216:=by omega
     by_cases y:r<o<;>simp[bp,bZ,slots,dP,aL,bH,aX,am,bB,ah,ai,Res.bind,Res.noErr,ax,jn,e,X,y,c])
 refine⟨m,u,Y,D7 s s4,(D.trans B).trans d4,br ?_⟩
 have Q:ah eV G0 (.comp Oy ["_law_tie","_law_pen_here","_law_often"] [none,some 0,some 6] (.var 0) (.seq (.call "_law_pairs" [.var 2])) [.cmp .Lt (.call "_law_draw" [.var 1,.lit (.int 8)]) (.var 2)] (.emit (.var 0))) [some (.ref n),some (.int 8),some (.int m),some (.int w),none,none,some (.int o)] a=.ok (.lst (aa u)) Y:=by
  have L:a7 eV G0 (.seq (.call "_law_pairs" [.var 2])) [some (.ref n),some (.int 8),some (.int m),some (.int w),none,none,some (.int o)] a=.ok (.items ((jy m.toNat).map aq)) a:=by simp[a7,ai,ah,Res.bind,Dd,D6 i M N,dQ,aa]
  exact ix L e4
 exact fq (Ea (al rfl) (lH Q rfl))
section
variable {A B:List D}
theorem xm:(S++[A,B])[S.length]?=some A:=by rw[Zq (Zf _)];simp
theorem qi:(S++[A,B])[S.length+1]?=some B:=by simp_all
theorem LX{X:List D}:(S++[A,B]).set S.length X=S++[X,B]:=by simp_all
theorem LY{X:List D}:(S++[A,B]).set (S.length+1) X=S++[A,X]:=by simp_all
theorem Ed(h:Flat S)(H:bi 0 A=Ox)(a:bi 0 B=Ox):Flat (S++[A,B]):=by have:=(h.snoc H).snoc a;simp_all
theorem LZ(h:aS S n):aS (S++[A,B]) n:=by obtain⟨a,b,h⟩:=h;exact⟨a,b,by rw[Zv (Zg.mp h).1];exact h⟩
theorem sQ(d:Flat S)(H:aS S n)(f:bi 0 A=Ox)(g:bi 0 B=Ox)(c:0<m)(h1:m<1000):∃r S',0<=r/\r<m/\Drawn n S S'/\b_ [.ref n,.int m] (S++[A,B])=.ok (.int r) (S'++[A,B]):=by obtain⟨r,T,R,i,⟨a,b,rfl⟩,e⟩:=fJ (Ed d f g) (LZ H) c h1;obtain⟨x,y,h⟩:=H;refine⟨r,S.set n [.int a,.int b],R,i,⟨a,b,rfl⟩,?_⟩;rw[e,RJ _ _ (Zg.mp h).1]
end
theorem Ee:∀(l:Lq) (k:Nat),(aa l).eraseIdx k=aa (l.eraseIdx k)
 | [],k=>by simp[aa]
 |t::l,0=>rfl
 |t::l,k+1=>by show aq t::(aa l).eraseIdx k=aq t::aa (l.eraseIdx k);rw[Ee l k]
theorem qj(l:Lq):(aa l).length=l.length:=by unfold aa;simp
theorem Ef{step:D->List D->af->Res (List D)}{S:af}{k:Nat}{xs:List D}(a:S[k]?=some xs)(hs:∀x∈xs,∀acc,acc.length<a'->step x acc S=.ok (acc++[.bl Ox]) S\/step x acc S=.ok (acc++[.bl Oy]) S):
  ∀(f i:Nat) (acc:List D),xs.length<f+i->i<=xs.length->cE step (gK k) f i acc S=aV step (xs.drop i) acc S\/a'<=acc.length+(xs.length-i)
 |0,i,acc,H,b=>absurd H (by omega)
 |f+1,i,acc,H,b=>by
  unfold cE;have d:gK k S i=some xs[i]? :=by unfold gK;rw[a];rfl
  rw[d];by_cases h:i<xs.length
  ·rw[Zj h,Qh h];by_cases c:acc.length<a'
   ·dsimp only;unfold aV;rcases hs xs[i] (QH h) acc c with e|e<;>rw[e]<;>dsimp only[Res.bind]
    all_goals
     rcases Ef a hs f (i+1) (acc++[_]) (by omega) (by omega)with z|z
     ·exact .inl z
     ·right;simp at z;omega
   ·right;omega
  ·rw[QD (by omega),Rq (by omega)];exact .inl rfl
noncomputable def jA(t:Int×Int)(fs:Lq):Bool:=fs.all λo=> !cY t.1 o&& !cY t.2 o
noncomputable def fV:CE:=.comp Oy ["_law_one","_law_tie"] [none,some 4] (.var 0) (.seq (.var 3)) [] (.emit (.band (.cmp .NotIn (.idx (.var 1) (.lit (.int 0))) (.var 0)) (.cmp .NotIn (.idx (.var 1) (.lit (.int 1))) (.var 0))))
noncomputable def jB:List CS:=[.asg 4 (.meth .pop (.var 2) [.call "_law_draw" [.var 0,.blt .len [.var 2]]]),.ite (.band (.blt .all [fV]) (.cmp .Gt (.call "_law_draw" [.var 0,.lit (.int 4)]) (.lit (.int 0)))) [.expr (.meth .append (.var 3) [.var 4])] []]
noncomputable def lI:CE:=.cmp .NotEq (.var 2) (.lst Oy [])
theorem qk{w:D}{t:Int×Int}{fs:Lq}{A:List D}(u:fs.length<=100):ah b5 G0 fV [some (.ref n),some w,some (.ref S.length),some (.ref (S.length+1)),some (aq t)] (S++[A,aa fs])=.ok (.lst (fs.map λo=>D.bl (!cY t.1 o&& !cY t.2 o))) (S++[A,aa fs]):=by
 have H:∀(x:Int×Int) (a:List D),a.length<a'->(λx a d=>match bp (.var 0) x (([none,some 4]:List (Option Nat)).map λj=>j.bind λj=>(([some (.ref n),some w,some (.ref S.length),some (.ref (S.length+1)),some (aq t)]:bv)[j]?).join)with
    |some b=>(aX b5 G0 [] b d).bind λk c=>if k=Ox then bB b5 G0 (.emit (.band (.cmp .NotIn (.idx (.var 1) (.lit (.int 0))) (.var 0)) (.cmp .NotIn (.idx (.var 1) (.lit (.int 1))) (.var 0)))) b a c else .ok a c
    |none=>.fail) (aq x) a (S++[A,aa fs])=.ok (a++[.bl (!cY t.1 x&& !cY t.2 x)]) (S++[A,aa fs]):=by
  intro x a h;generalize S++[A,aa fs]=T;have g:a.length<16777216:=h;have X:a8 (aq t) (.int 0) T=.ok (.int t.1) T:=rfl;have q:a8 (aq t) (.int 1) T=.ok (.int t.2) T:=rfl;have I:f7 (.int t.1) (aq x) T=some (cY t.1 x):=lE T t.1 x;have l:f7 (.int t.2) (aq x) T=some (cY t.2 x):=lE T t.2 x;cases Y:cY t.1 x<;>cases r:cY t.2 x<;>rw[Y]at I<;>rw[r]at l<;>simp[bp,bZ,slots,dP,aL,bH,aX,bB,ah,Res.bind,Res.noErr,ax,X,q,aw,I,l,bb,g]
 refine ix (its:=.live ((aa fs).length+1) (gK (S.length+1))) (S1:=S++[A,aa fs]) ?_ ?_
 ·simp only[a7,ah,Res.bind,Zr,Zo,dQ,qi];rfl
 ·rcases Ef (step:=λx a d=>match bp (.var 0) x (([none,some 4]:List (Option Nat)).map λj=>j.bind λj=>(([some (.ref n),some w,some (.ref S.length),some (.ref (S.length+1)),some (aq t)]:bv)[j]?).join)with
    |some b=>(aX b5 G0 [] b d).bind λk c=>if k=Ox then bB b5 G0 (.emit (.band (.cmp .NotIn (.idx (.var 1) (.lit (.int 0))) (.var 0)) (.cmp .NotIn (.idx (.var 1) (.lit (.int 1))) (.var 0)))) b a c else .ok a c
    |none=>.fail) (qi (S:=S) (A:=A) (B:=aa fs)) (λx i a h=>by
     obtain⟨o,v,rfl⟩:=Zs.mp i;have:=H o a h;cases y:(!cY t.1 o&& !cY t.2 o)<;>rw[y]at this
     ·exact .inr this
     ·exact .inl this) ((aa fs).length+1) 0 [] (by omega) (by omega)with z|z
  ·rw[List.drop_zero]at z;refine Eq.trans z ?_;refine Eq.trans (xa (xs:=fs) (f:=aq) (p:=λ_=>Ox) (e:=λo=>D.bl (!cY t.1 o&& !cY t.2 o)) (λx i a h=>Eq.trans (H x a h) rfl) (by unfold a';omega)) ?_;rw[T1.mpr (λ_ _=>rfl)]
  ·rw[qj]at z;unfold a' at z;simp at z;omega
theorem L0{w:D}{x:Option D}{B:List D}:am b5 G0 lI [some (.ref n),some w,some (.ref S.length),some (.ref (S.length+1)),x] (S++[aa ls,B])=.ok (!ls.isEmpty) (S++[aa ls,B]):=by
 have e:bY (S++[aa ls,B]) bu (.ref S.length) (.lst [])=some ls.isEmpty:=by
  show(match((S++[aa ls,B])[S.length]?).map Sh.lst,some (Sh.lst [])with
   |some x,some y=>ut (bY (S++[aa ls,B]) 39) x y
   |_,_=>none)=_
  rw[xm];cases ls with
  |nil=>rfl
  |cons t ls=>rfl
 simp[lI,am,ah,ai,Res.bind,Res.noErr,ax,aw,e,bb]
theorem qm{w:D}{x:Option D}{fs:Lq}(f:Flat S)(j:aS S n)(o:ls.length<=100)(b:ls≠[]):∃t k S',t∈ls/\k<ls.length/\Drawn n S S'/\
  ah b5 G0 (.meth .pop (.var 2) [.call "_law_draw" [.var 0,.blt .len [.var 2]]]) [some (.ref n),some w,some (.ref S.length),some (.ref (S.length+1)),x] (S++[aa ls,aa fs])=.ok (aq t) (S'++[aa (ls.eraseIdx k),aa fs]):=by
 have c:0<ls.length:=T2.mpr b;obtain⟨r,S',R,l,d,e⟩:=sQ (A:=aa ls) (B:=aa fs) f j (fo _) (fo _) (m:=ls.length) (by omega) (by omega);have h:c_ [.ref S.length] (S++[aa ls,aa fs])=.ok (.int ls.length) (S++[aa ls,aa fs]):=by simp only[c_,aB,xm,qj]
 have a:r.toNat<ls.length:=by omega
 have H:Al (.ref S.length) [.int r] (S'++[aa ls,aa fs])=.ok (aq ls[r.toNat]) (S'++[aa (ls.eraseIdx r.toNat),aa fs]):=by
  show j9 (.ref S.length) [.int r] (S'++[aa ls,aa fs])=_;unfold j9;rw[<-d.len];simp only[xm,qj];have i:hV ls.length r=some r.toNat:=by unfold hV;rw[if_pos R,if_pos l]
  have g:(aa ls)[r.toNat]?=some (aq ls[r.toNat]):=by unfold aa;rw[ZW,Zj a];rfl
  rw[i];simp only[g];rw[if_pos (by unfold a';omega),LX,Ee]
 refine⟨ls[r.toNat],r.toNat,S',QH a,a,d,?_⟩;simp[ah,ai,Res.bind,Res.noErr,aA,h,De,e,fh,H]
theorem qo{fs:Lq}{g:Int×Int->Bool}:gF [.lst (fs.map λo=>D.bl (g o))] S=.ok (.bl (fs.all g)) S:=by unfold gF;simp only[aB];rw[Pb];rw[show bo (fs.map (ii∘λo=>D.bl (g o)))=some (fs.all g)from allO_map];rfl
theorem L1{w:D}{x:Option D}{fs:Lq}(s:Flat S)(v:aS S n)(I:ls.length<=100)(G:fs.length<=100)(l:ls≠[]):
  ∃t k fs' S',t∈ls/\k<ls.length/\Drawn n S S'/\(fs'=fs\/(jA t fs=Ox/\fs'=fs++[t]))/\
  ag b5 G0 jB [some (.ref n),some w,some (.ref S.length),some (.ref (S.length+1)),x] (S++[aa ls,aa fs])=.ok (.next [some (.ref n),some w,some (.ref S.length),some (.ref (S.length+1)),some (aq t)]) (S'++[aa (ls.eraseIdx k),aa fs']):=by
 obtain⟨t,k,a,q,j,d1,z⟩:=qm (w:=w) (x:=x) (fs:=fs) s v I l;have g:=d1.flat s;have p:=d1.pen v;have f:=qk (S:=a) (n:=n) (w:=w) (t:=t) (fs:=fs) (A:=aa (ls.eraseIdx k)) G;rw[d1.len]at f
 have u:am b5 G0 (.blt .all [fV]) [some (.ref n),some w,some (.ref S.length),some (.ref (S.length+1)),some (aq t)] (a++[aa (ls.eraseIdx k),aa fs])=.ok (jA t fs) (a++[aa (ls.eraseIdx k),aa fs]):=by have d:aA .all [.lst (fs.map λo=>D.bl (!cY t.1 o&& !cY t.2 o))] (a++[aa (ls.eraseIdx k),aa fs])=.ok (.bl (jA t fs)) (a++[aa (ls.eraseIdx k),aa fs]):=qo;revert f;generalize fV=E;intro f;simp[am,ai,f,Res.bind,Res.noErr,d,a9]
 unfold jB;rw[bj z];simp only[QU,QV];by_cases h:jA t fs=Ox
 ·obtain⟨r,b,R,J,d2,C⟩:=sQ (A:=aa (ls.eraseIdx k)) (B:=aa fs) g p (fo _) (fo _) (m:=4) (by decide) (by decide);have i:aw .Gt (.int r) (.int 0) (b++[aa (ls.eraseIdx k),aa fs])=.ok (.bl (decide (0<r))) (b++[aa (ls.eraseIdx k),aa fs]):=rfl
  have c:am b5 G0 (.band (.blt .all [fV]) (.cmp .Gt (.call "_law_draw" [.var 0,.lit (.int 4)]) (.lit (.int 0)))) [some (.ref n),some w,some (.ref S.length),some (.ref (S.length+1)),some (aq t)] (a++[aa (ls.eraseIdx k),aa fs])=.ok (decide (0<r)) (b++[aa (ls.eraseIdx k),aa fs]):=by rw[am,u,h];simp[am,ah,ai,Res.bind,Res.noErr,ax,De,C,i]
  by_cases y:0<r
  ·refine⟨t,k,fs++[t],b,q,j,d1.trans d2,.inr ⟨h,rfl⟩,?_⟩;rw[ZA y]at c;have e:ij (.ref (S.length+1)) [aq t] (b++[aa (ls.eraseIdx k),aa fs])=.ok .non (b++[aa (ls.eraseIdx k),aa (fs++[t])]):=by have F:=(d1.trans d2).len;unfold ij;rw[<-F];simp only[qi,qj];rw[if_pos (by unfold a';omega),LY];unfold aa;simp
   refine aW ?_;rw[cZ c,if_pos rfl];simp[ag,ar,ah,ai,Res.bind,Res.noErr,fh,e]
  ·refine⟨t,k,fs,b,q,j,d1.trans d2,.inl rfl,?_⟩;rw[Zy y]at c;refine aW ?_;rw[cZ c,if_neg Z6,ag]
 ·refine⟨t,k,fs,a,q,j,d1,.inl rfl,?_⟩;have H:jA t fs=Oy:=by simpa using h
  have c:am b5 G0 (.band (.blt .all [fV]) (.cmp .Gt (.call "_law_draw" [.var 0,.lit (.int 4)]) (.lit (.int 0)))) [some (.ref n),some w,some (.ref S.length),some (.ref (S.length+1)),some (aq t)] (a++[aa (ls.eraseIdx k),aa fs])=.ok Oy (a++[aa (ls.eraseIdx k),aa fs]):=by rw[am,u,H];simp[Res.bind]
  refine aW ?_;rw[cZ c,if_neg Z6,ag]
structure Found (ts fs:Lq):Prop where
 sub:∀t∈fs,t∈ts
 un:(au fs).Nodup
theorem L3(fs:Lq)(t:Int×Int):au (fs++[t])=au fs++[t.1,t.2]:=by unfold au;simp
theorem Eg{fs:Lq}{p:Int}(h:p∈au fs):∃o∈fs,p=o.1\/p=o.2:=by unfold au at h;simp_all
theorem Found.add{fs:Lq}{t:Int×Int}(W:cJ m ts)(F:Found ts fs)(d:t∈ts)(h:jA t fs=Ox):Found ts (fs++[t]):=by
 have j:∀o∈fs,¬(t.1=o.1\/t.1=o.2)/\¬(t.2=o.1\/t.2=o.2):=λo H=>by have:=Zp.mp h o H;simp only[ZG,Q5,cY,decide_eq_false_iff_not]at this;exact this
 refine⟨λu k=>?_,?_⟩
 ·rcases ZC.mp k with z|z
  ·exact F.sub u z
  ·have:u=t:=by simpa using z
   subst this;exact d
 ·rw[L3,ZT];have:=W.tie t d;refine⟨F.un,?_,λa i b c=>?_⟩
  ·simp;omega
  ·obtain⟨o,H,e⟩:=Eg i;obtain⟨f,g⟩:=j o H;simp at c;intro z;subst z;rcases c with rfl|rfl
   ·exact f e
   ·exact g e
theorem Found.length{fs:Lq}(W:cJ m ts)(F:Found ts fs):fs.length<=28:=by
 have b:fs.Nodup:=by
  have h:=F.un;clear F
  induction fs with
  |nil=>exact Qb
  |cons t fs i=>have e:au (t::fs)=[t.1,t.2]++au fs:=rfl;rw[e]at h;obtain⟨d,H,a⟩:=ZT.mp h;refine OS.mpr ⟨λz=>?_,i H⟩;exact a t.1 (by simp) t.1 (by unfold au;exact UB.mpr ⟨t,z,by simp⟩) rfl
 exact Zl (b.length_le_of_subset λt c=>F.sub t c) W.few
theorem Found.nodup{fs:Lq}(F:Found ts fs):fs.Nodup:=by
 have h:=F.un;clear F
 induction fs with
 |nil=>simp_all
 |cons t fs i=>obtain⟨b,H,a⟩:=ZT.mp h;exact OS.mpr ⟨λz=>a t.1 (by simp) _ (by grind) rfl,i H⟩
theorem Found.pairing{fs:Lq}(F:Found ts fs):c6 ts (sortI fs):=
 ⟨qf F.nodup,λt h=>F.sub t ((iw _).mem_iff.mp h),((iw _).flatMap_right _).nodup_iff.mpr F.un⟩
theorem Eh{n:Nat}{w:D}{m:Int}{ts:Lq}(W:cJ m ts):∀(f:Nat) (S:af) (x:Option D) (ls fs:Lq),ls.length<f->ls.length<=100->(∀t∈ls,t∈ts)->Found ts fs->Flat S->aS S n->
  ∃X fs' S',Found ts fs'/\Drawn n S S'/\gM (am b5 G0 lI) (ag b5 G0 jB) f [some (.ref n),some w,some (.ref S.length),some (.ref (S.length+1)),x] (S++[aa ls,aa fs])=.ok (.next [some (.ref n),some w,some (.ref S.length),some (.ref (S.length+1)),X]) (S'++[[],aa fs'])
 |0,S,x,ls,fs,h,_,_,_,_,_=>absurd h (by omega)
 |f+1,S,x,ls,fs,h,i,H,F,g,e=>by
  unfold gM;rw[L0];cases ls with
  |nil=>exact⟨x,fs,S,F,.refl e,rfl⟩
  |cons T ls=>
   obtain⟨t,k,fs',p,z,y,d1,c,r⟩:=L1 (w:=w) (x:=x) (ls:=T::ls) (fs:=fs) g e i (by have:=F.length W;omega) (by simp)
   have l:Found ts fs':=by
    rcases c with rfl| ⟨v,rfl⟩
    ·exact F
    ·exact F.add W (H t z) v
   have j:((T::ls).eraseIdx k).length=ls.length:=by rw[SG y];rfl
   simp only[ZE]at h i;obtain⟨X,b,q,o,d2,E⟩:=Eh W f p (some (aq t)) ((T::ls).eraseIdx k) fs' (by omega) (by omega) (λu A=>H u (List.mem_of_mem_eraseIdx A)) l (d1.flat g) (d1.pen e);refine⟨X,b,q,o,d1.trans d2,?_⟩
   show(Res.bind (ag b5 G0 jB [some (.ref n),some w,some (.ref S.length),some (.ref (S.length+1)),x] (S++[aa (T::ls),aa fs])) λs S'=>match s with
    | .next a=>gM (am b5 G0 lI) (ag b5 G0 jB) f a S'
    | .cont a=>gM (am b5 G0 lI) (ag b5 G0 jB) f a S'
    | .brk a=>.ok (.next a) S'
    | .ret d=>.ok (.ret d) S')=_
   rw[r];rw[d1.len]at E;exact E
theorem L4(W:cJ m ts)(H:Flat S)(g:aS S n):∃ps S',c6 ts ps/\ps.length<=28/\Drawn n S S'/\jp [.ref n,ao m ts] S=.ok (.tup (aa ps)) S':=by
 obtain⟨x,fs,a,F,d,e⟩:=Eh (n:=n) (w:=ao m ts) W 40 S none ts [] (by have:=W.few;omega) (by have:=W.few;omega) (λt h=>h) ⟨λt h=>(by cases h),Qb⟩ H g;have f:=F.length W;refine⟨sortI fs,a,F.pairing,by rw[(iw fs).length_eq];exact f,d,?_⟩
 have c:ag b5 G0 lp [some (.ref n),some (ao m ts),none,none,none] S=.ok (.ret (.tup (aa (sortI fs)))) (a++[[],aa fs]):=by
  unfold lp;have X:a8 (ao m ts) (.int 1) S=.ok (.tup (aa ts)) S:=rfl;have l1:iB Ox [.tup (aa ts)] S=.ok (.ref S.length) (S++[aa ts]):=rfl;rw[bj (d:=.ref S.length) (S':=S++[aa ts]) (by simp[ah,ai,Res.bind,Res.noErr,aA,X,l1])];rw[bj (d:=.ref (S.length+1)) (S':=S++[aa ts,[]]) (by simp[ah,ai,Res.bind])];simp only[QU,QV];refine(aW (ρ':=[some (.ref n),some (ao m ts),some (.ref S.length),some (.ref (S.length+1)),x]) (S':=a++[[],aa fs]) ?_).trans ?_
  ·rw[ar];exact e
  ·refine br (fq (lH (lH (al rfl) (xg (l:=fs) ?_ (by omega))) rfl));rw[<-d.len];exact qi
 show aJ b5 G0 lp wz.length 2 [.ref n,ao m ts] S=_;unfold aJ;rw[if_pos (show [D.ref n,ao m ts].length=2 from rfl)];rw[show ag b5 G0 lp ([D.ref n,ao m ts].map some++OG (wz.length-2) none) S=_ from c];have b:(a++[[],aa fs]).take S.length=a:=by rw[<-d.len];simp
 have:=wW (k:=S.length) (d:=.tup (aa (sortI fs))) (S':=a++[[],aa fs]) (by rw[b];exact d.flat H) (fo _);rw[b]at this;exact this
theorem L5:ir=g8:=rfl
noncomputable def Kn(d:D):Prop:=(∃i,d=.int i)\/(∃b,d=.bl b)\/(∃x,d=.str x)\/d=.non\/(∃xs,d=.tup xs)\/∃xs,d=.lst xs
noncomputable def jC:D->Bool
 | .int _=>Ox
 |_=>Oy
noncomputable def qp(m:Int):D->Bool
 | .int i=>decide (0<=i/\i<m)
 |_=>Oy
theorem lJ(H:Flat S)(h:Kn d):g8 [d] S=.ok (.bl (jC d)) S:=by
 refine aP rfl ?_ rfl H rfl;rcases h with⟨i,rfl⟩| ⟨b,rfl⟩| ⟨x,rfl⟩|rfl| ⟨X,rfl⟩| ⟨X,rfl⟩
 ·rfl
 ·rfl
 ·rfl
 ·rfl
 ·rfl
 rfl
theorem Kn.isI_or(h:Kn d):(∃i,d=.int i)\/(jC d=Oy/\∀m,qp m d=Oy):=by
 rcases h with h| ⟨b,rfl⟩| ⟨x,rfl⟩|rfl| ⟨X,rfl⟩| ⟨X,rfl⟩
 ·exact .inl h
 all_goals exact .inr ⟨rfl,λ_=>rfl⟩
theorem L6(H:Flat S)(m:Int)(h:Kn d):lf [.int m,d] S=.ok (.bl (qp m d)) S:=by
 rcases h.isI_or with⟨i,rfl⟩| ⟨a,e⟩
 ·exact K92.DO H m i
 ·rw[e m];have b:=lJ H h;rw[a]at b
  have c:∀l a:Int,fH [d,.int l,.int a] S=.ok (.bl Oy) S:=λl a=>by refine aP rfl ?_ rfl H rfl;simp[k_,ag,ar,ah,ai,Res.bind,ax,we,b]
  refine aP rfl ?_ rfl H rfl;show ag wf G0 pC [some (.int m),some d] S=_;have f:fM .Sub (.int m) (.int 1) S=.ok (.int (m-1)) S:=rfl;simp only[pC,ag,ar,ah,ai,Res.bind,Res.noErr,CI,c,f,Zo,Zr]
theorem lK{f:D->Bool}:gF [.lst (ds.map λd=>.bl (f d))] S=.ok (.bl (ds.all f)) S:=by show bb (bo ((ds.map λd=>D.bl (f d)).map ii)) S=_;rw[Pb];have:bo (ds.map (ii∘λd=>D.bl (f d)))=some (ds.all f):=allO_map;rw[this];rfl
theorem Ei{step:D->List D->af->Res (List D)}(f:D->Bool)(h:∀x∈xs,∀acc,acc.length<a'->step x acc S=.ok (acc++[.bl (f x)]) S)(a:xs.length<=a'):aV step xs [] S=.ok (xs.map λx=>D.bl (f x)) S:=by rw[wY (λx=>some (.bl (f x))) xs [] (λx b acc H=>h x b acc H) (by simpa using a)];simp
theorem lL{e:CE}{rs:List (Option D)}{it:CE}{f:D->Bool}(i:a7 Φ G0 it ρ S=.ok (.items ds) S)(k:fr.map (λj=>j.bind λj=>(ρ[j]?).join)=none::rs)(l:ds.length<=1000)(g:∀d∈ds,ah Φ G0 e (some d::rs) S=.ok (.bl (f d)) S):
  ah Φ G0 (.comp Oy N fr (.var 0) it [] (.emit e)) ρ S=.ok (.lst (ds.map λd=>.bl (f d))) S:=by
 refine ix i ?_;rw[k];refine Ei f (λd c a b=>?_) (show ds.length<=16777216 by lia);have h:a.length<16777216:=b;have H:bp (.var 0) d (none::rs)=some (some d::rs):=rfl;rw[H];simp[aX,bB,Res.bind,g d c,h]
theorem hE{i:Nat}(h:ρ[i]?=some (some (.tup ds))):a7 Φ G0 (.seq (.var i)) ρ S=.ok (.items ds) S:=by simp[a7,ah,h,Res.bind,dQ]
theorem lM{e:CE}{f:D->Bool}(h:ah Φ G0 e ρ S=.ok (.lst (ds.map λd=>.bl (f d))) S):ah Φ G0 (.blt .all [e]) ρ S=.ok (.bl (ds.all f)) S:=by have H:aA .all [.lst (ds.map λd=>D.bl (f d))] S=.ok (.bl (ds.all f)) S:=lK;simp only[ah,ai,h,Res.bind,H,Res.noErr]
theorem Ej:lh=[.ret (.band (.blt .isinst [.var 1,.ty "tuple"]) (.blt .all [yv]))]:=rfl
theorem xn(a:Flat S)(m:Int)(h:∀x∈xs,Kn x)(j:xs.length<=1000):gb [.int m,.tup xs] S=.ok (.bl (xs.all (qp m))) S:=by
 refine aP rfl ?_ rfl a rfl;show ag jg G0 lh [some (.int m),some (.tup xs)] S=_;have g:aA .isinst [.tup xs,.ty "tuple"] S=.ok (.bl Ox) S:=rfl
 have b:=lM (S:=S) (lL (S:=S) (Φ:=jg) (N:=["place","many"]) (fr:=[none,some 0]) (e:=.call "is_place" [.var 1,.var 0]) (ρ:=[some (.int m),some (.tup xs)]) (rs:=[some (.int m)]) (f:=qp m) (hE (i:=1) rfl) rfl j λd c=>by have l:=L6 a m (h d c);trivial);simp only[Ej];refine br ?_;generalize k:(CE.blt il.all [yv])=q;have H:ah jg G0 q [some (.int m),some (.tup xs)] S=.ok (.bl (xs.all (qp m))) S:=k▸b;simp only[ar,ah,ai,Res.bind,Res.noErr,g,ax,H,Zo,Zr,if_true]
def NT(d:D):Prop:=∀S,bG [d,.ty "tuple"] S=.ok (.bl Oy) S
theorem L7(H:Flat S)(m:Int)(h:NT d):gb [.int m,d] S=.ok (.bl Oy) S:=by refine aP rfl ?_ rfl H rfl;show ag jg G0 lh [some (.int m),some d] S=_;have a:aA .isinst [d,.ty "tuple"] S=.ok (.bl Oy) S:=h S;simp only[Ej];refine br ?_;simp only[ar,ah,ai,Res.bind,Res.noErr,a,ax,Zo,Zr,Zw,Z3,yv]
theorem qq(H:Flat S)(h:gb [.int m,d] S=.ok (.bl Oy) S):fk [.int m,d] S=.ok (.bl Oy) S:=by refine aP rfl ?_ rfl H rfl;simp[jh,ag,ar,ah,ai,Res.bind,ax,pF,h,yv]
theorem L8(H:Flat S)(h:∀x∈xs,Kn x)(d:xs.length<=1000)(f:xs.length≠2):fk [.int m,.tup xs] S=.ok (.bl Oy) S:=by
 have a:=xn H m h d;cases e:xs.all (qp m)with
 |false=>rw[e]at a;exact qq H a
 |true=>
  refine aP rfl ?_ rfl H rfl;have b:aA .len [.tup xs] S=.ok (.int (xs.length:Nat)) S:=rfl
  have c:aw .Eq (.int (xs.length:Nat)) (.int 2) S=.ok (.bl Oy) S:=by
   have:aw .Eq (.int (xs.length:Nat)) (.int 2) S=.ok (.bl (((xs.length:Nat):Int)==2)) S:=rfl;have:¬(((xs.length:Nat):Int)=2):=by lia
   simp_all
  simp[jh,ag,ar,ah,ai,Res.bind,Res.noErr,ax,pF,a,b,c]
structure jD (e:D):Prop where
 kn:Kn e
 tu:∀xs,e=.tup xs->(∀x∈xs,Kn x)/\xs.length<=1000/\(xs.length≠2\/xs.all jC=Oy)
theorem Kn.nt(h:Kn d):NT d\/∃xs,d=.tup xs:=by
 rcases h with⟨i,rfl⟩| ⟨b,rfl⟩| ⟨x,rfl⟩|rfl|h| ⟨xs,rfl⟩
 ·exact .inl λ_=>rfl
 ·exact .inl λ_=>rfl
 ·exact .inl λ_=>rfl
 ·exact .inl λ_=>rfl
 ·exact .inr h
 ·exact .inl λ_=>rfl
theorem L9(h:xs.all jC=Oy):xs.all (qp m)=Oy:=by rw[List.all_eq_false]at h⊢;obtain⟨x,H,q⟩:=h;refine⟨x,H,λz=>q ?_⟩;cases x<;>first|rfl|cases z
theorem Ek(a:Flat S)(m:Int){e:D}(h:jD e):fk [.int m,e] S=.ok (.bl Oy) S:=by
 rcases h.kn.nt with g| ⟨x,rfl⟩
 ·exact qq a (L7 a m g)
 ·obtain⟨b,c,H⟩:=h.tu x rfl;by_cases d:x.length=2
  ·rcases H with H|H
   ·exact absurd d H
   ·have f:=xn a m b c;rw[L9 H]at f;exact qq a f
  ·exact L8 a b c d
theorem El(j:Flat S)(g:D->D->Bool)(l:xs.length<=1000)(h:∀x∈xs,∀y∈xs,jJ S bu x y=some (g x y)):d9 [.tup xs] S=.ok (.bl ((OC g xs (xs.drop 1)).all id)) S:=by
 refine aP rfl ?_ rfl j rfl;have b:dR S (.tup xs) (.tup (xs.drop 1))=some (.items (OC (λx y=>.tup [x,y]) xs (xs.drop 1))):=rfl;have f:=K92.DP xs;simp[wh,wg,ag,ar,am,ah,ai,a7,Res.bind,Res.noErr,ax,ig,cz,dt,aA];simp only[f,b,b3]
 have a:(OC g xs (xs.drop 1)).all id=(OC (λx y=>D.tup [x,y]) xs (xs.drop 1)).all λd=>match d with
   | .tup [x,y]=>g x y
   |_=>Oy:=by
  generalize xs.drop 1=Y;clear b f l h
  induction xs generalizing Y with
  |nil=>rfl
  |cons x xs I=>
   cases Y with
   |nil=>rfl
   |cons y Y=>simp only[Rn,Pa,I Y,id]
 rw[Ei (λd=>match d with
   | .tup [x,y]=>g x y
   |_=>Oy)]
 ·simp only[Res.noErr];rw[lK,<-a,List.drop_one]
 ·intro z b A k;obtain⟨i,H⟩:=Ts.mp b;rw[QC]at H;cases e:xs[i]? with
  |none=>rw[e]at H;cases H
  |some x=>
   cases E:(xs.drop 1)[i]? with
   |none=>rw[e,E]at H;cases H
   |some y=>rw[e,E]at H;cases H;rw[T',Nat.add_comm]at E;have c:=h x (Zx e) y (Zx E);simp[bp,bZ,slots,dP,aL,bH,aX,bB,ah,Res.bind,aw,c,bb,Res.noErr];unfold a' at k;omega
 ·simp;unfold a';omega
noncomputable def dn(ps:Lq):Bool:=(OC (λx y=>decide (aE x y)) ps (ps.drop 1)).all id
theorem xo:∀ps:Lq,dn ps=Ox↔ps.Pairwise aE
 | []=>by decide
 | [x]=>by simp[dn]
 |x::y::ps=>by
  have i:=xo (y::ps);have e:dn (x::y::ps)=(decide (aE x y)&&dn (y::ps)):=rfl;simp only[e,ZG,decide_eq_true_eq,i,Z5 (a:=x)];constructor
  ·intro⟨H,b⟩;refine⟨λz h=>?_,b⟩;rcases Zh.mp h with rfl|h
   ·exact H
   ·exact K92.D3 H ((Z5.mp b).1 z h)
  simp_all
noncomputable def Oi:D->D->Bool
 | .tup [.int a,.int b],.tup [.int c,.int d]=>decide (aE (a,b) (c,d))
 |_,_=>Oy
theorem xp(H:Flat S)(a:ps.length<=1000):d9 [.tup (aa ps)] S=.ok (.bl (dn ps)) S:=by
 have h:=El H (xs:=aa ps) Oi (by unfold aa;simpa using a) λx b y c=>by obtain⟨t,_,rfl⟩:=Zs.mp b;obtain⟨u,_,rfl⟩:=Zs.mp c;exact K92.DN S 38 t u
 rw[h];unfold aa dn;rw[<-Q9,List.zipWith_map];rfl
theorem Em(c:Flat S)(m:Int)(t:Int×Int):fk [.int m,aq t] S=.ok (.bl (decide (0<=t.1/\t.1<t.2/\t.2<m))) S:=by
 have h:=xn c m (xs:=[.int t.1,.int t.2]) (by intro x H;simp at H;rcases H with rfl|rfl<;>exact .inl ⟨_,rfl⟩) (by simp);have g:[D.int t.1,D.int t.2].all (qp m)=decide ((0<=t.1/\t.1<m)/\0<=t.2/\t.2<m):=by simp[qp]
 rw[g]at h;by_cases d:(0<=t.1/\t.1<m)/\0<=t.2/\t.2<m
 ·rw[ZA d]at h
  have e:=El c (xs:=[.int t.1,.int t.2]) (λx y=>match x,y with
   | .int a,.int b=>decide (a<b)
   |_,_=>Oy) (by simp) (by intro x H y f;simp at H f;rcases H with rfl|rfl<;>rcases f with rfl|rfl<;>rfl)
  have i:(OC (λx y=>match x,y with
   |D.int a,D.int b=>decide (a<b)
   |_,_=>Oy) [D.int t.1,D.int t.2] ([D.int t.1,D.int t.2].drop 1)).all id=decide (t.1<t.2):=by simp
  rw[i]at e;refine aP rfl ?_ rfl c rfl;show ag pE G0 jh [some (.int m),some (aq t)] S=_;have j:gb [.int m,aq t] S=.ok (.bl Ox) S:=h;have k:d9 [aq t] S=.ok (.bl (decide (t.1<t.2))) S:=e;have l:aA .len [aq t] S=.ok (.int 2) S:=rfl;have n:aw .Eq (.int 2) (.int 2) S=.ok (.bl Ox) S:=rfl
  have E:decide (0<=t.1/\t.1<t.2/\t.2<m)=decide (t.1<t.2):=by apply decide_eq_decide.mpr;omega
  rw[E];simp only[jh,ag,ar,am,ah,ai,Res.bind,Res.noErr,ax,pF,CM,j,k,l,n,Zo,Zr,if_true]
 ·rw[Zy d]at h;rw[Zy (by omega)];exact qq c h
noncomputable def gw(ts:Lq):D->Bool
 | .tup [.int a,.int b]=>decide ((a,b)∈ts)
 |_=>Oy
def Item(e:D):Prop:=(∃t,e=aq t)\/jD e
theorem jD.not{e:D}(h:jD e)(ts:Lq):gw ts e=Oy:=by
 unfold gw;split
 ·rename_i a b;obtain⟨_,_,q⟩:=h.tu _ rfl;rcases q with q|q
  ·exact absurd rfl q
  ·cases q
 ·rfl
theorem qr(ts:Lq)(t:Int×Int):gw ts (aq t)=decide (t∈ts):=rfl
theorem xq{ts:Lq}:∀{es:List D},es.all (gw ts)=Ox->∃ps,es=aa ps/\∀t∈ps,t∈ts
 | [],_=>⟨[],rfl,λ_ h=>by cases h⟩
 |e::es,h=>by
  rw[Pa,ZG]at h;obtain⟨ps,rfl,d⟩:=xq h.2;have H:=h.1;unfold gw at H;split at H
  ·rename_i a b;refine⟨(a,b)::ps,rfl,λt c=>?_⟩;rcases Zh.mp c with rfl|c
   ·exact ZS H
   ·exact d t c
  ·cases H
theorem Eo(h:∀t∈ps,t∈ts):(aa ps).all (gw ts)=Ox:=by rw[Zp];intro e H;obtain⟨t,a,rfl⟩:=Zs.mp H;rw[qr];exact ZA (h t a)
theorem xr:jj=[.ite (.bnot (.blt .isinst [.var 1,.ty "tuple"])) [.ret (.lit (.bl Oy))] [],.ret (.band (.blt .all [my]) (.call "is_rising" [.var 1]))]:=rfl
theorem Ep(f:Flat S)(W:cJ m ts){e:D}(h:Item e):ah fI G0 mx [some e,some (ao m ts)] S=.ok (.bl (gw ts e)) S:=by
 have a:a8 (ao m ts) (.int 0) S=.ok (.int m) S:=rfl;have b:a8 (ao m ts) (.int 1) S=.ok (.tup (aa ts)) S:=rfl;rcases h with⟨t,rfl⟩|h
 ·have H:=Em f m t;have d:=wZ S t ts;by_cases c:0<=t.1/\t.1<t.2/\t.2<m
  ·rw[ZA c]at H;simp only[mx,ah,ai,Res.bind,Res.noErr,pG,a,b,H,ax,aw,d,bb,Zo,Zr,if_true];rfl
  ·rw[Zy c]at H;have g:gw ts (aq t)=Oy:=by rw[qr];exact Zy λq=>c (W.tie t q)
   rw[g];simp only[mx,ah,ai,Res.bind,Res.noErr,pG,a,b,H,ax,Zo,Zr,Zw,Z3]
 ·have H:=Ek f m h;rw[h.not ts];simp only[mx,ah,ai,Res.bind,Res.noErr,pG,a,b,H,ax,Zo,Zr,Zw,Z3]
theorem Er{w:D}:ag fI G0 (.ite (.bnot (.blt .isinst [.var 1,.ty "tuple"])) [.ret (.lit (.bl Oy))] []::cs) [some w,some (.tup xs)] S=ag fI G0 cs [some w,some (.tup xs)] S:=by have h:bG [.tup xs,.ty "tuple"] S=.ok (.bl Ox) S:=rfl;exact aW (by simp[ar,ag,am,ah,ai,Res.bind,Res.noErr,aA,h,a9])
theorem L_(H:Flat S){w:D}(h:NT d):g9 [w,d] S=.ok (.bl Oy) S:=by refine aP rfl ?_ rfl H rfl;show ag fI G0 jj [some w,some d] S=_;rw[xr];refine br ?_;simp[ar,ag,am,ah,ai,Res.bind,Res.noErr,aA,h S,a9,mx,my]
theorem lN(H:Flat S)(W:cJ m ts){es:List D}(h:∀e∈es,Item e)(b:es.length<=1000):ah fI G0 (.blt .all [my]) [some (ao m ts),some (.tup es)] S=.ok (.bl (es.all (gw ts))) S:=
 lM (S:=S) (lL (S:=S) (rs:=[some (ao m ts)]) (f:=gw ts) (hE (i:=1) rfl) rfl b λd a=>Ep H W (h d a))
theorem Es(a:Flat S)(W:cJ m ts){es:List D}(h:∀e∈es,Item e)(b:es.length<=1000)(c:es.all (gw ts)=Oy):g9 [ao m ts,.tup es] S=.ok (.bl Oy) S:=by refine aP rfl ?_ rfl a rfl;show ag fI G0 jj [some (ao m ts),some (.tup es)] S=_;rw[xr,Er];refine br ?_;have H:=lN a W h b;rw[c]at H;generalize(CE.blt il.all [my])=q at H;simp only[ar,ah,Res.bind,H,ax,Zw,Z3]
theorem L'(H:Flat S)(W:cJ m ts)(h:∀t∈ps,t∈ts)(b:ps.length<=1000):g9 [ao m ts,.tup (aa ps)] S=.ok (.bl (dn ps)) S:=by
 refine aP rfl ?_ rfl H rfl;show ag fI G0 jj [some (ao m ts),some (.tup (aa ps))] S=_;rw[xr,Er];refine br ?_
 have a:=lN H W (es:=aa ps) (λe c=>by obtain⟨t,_,rfl⟩:=Zs.mp c;exact .inl ⟨t,rfl⟩) (by unfold aa;simpa using b);rw[Eo h]at a;generalize(CE.blt il.all [my])=q at a;have d:=xp H b;simp only[ar,ah,ai,Res.bind,a,ax,if_true,CW,d,Zo,Zr]
theorem lO:∀(ns acc:Li),(ns.foldl Pj acc).length<=acc.length+ns.length
 | [],acc=>by simp
 |n::ns,acc=>by
  have h:=lO ns (Pj acc n);have:(Pj acc n).length<=acc.length+1:=by unfold Pj;split<;>simp
  simp;omega
theorem Et:∀(ns acc:Li),acc.Nodup->((ns.foldl Pj acc).length=acc.length+ns.length↔(acc++ns).Nodup)
 | [],acc,h=>by simp[h]
 |n::ns,acc,h=>by
  simp only[Rt,ZE];by_cases H:n∈acc
  ·have e:Pj acc n=acc:=by
    unfold Pj;rw[if_pos (by rw[QF];exact⟨n,H,by simp⟩)]
   rw[e];have:=lO ns acc;constructor
   ·intro q;omega
   ·intro q;exact absurd rfl ((ZT.mp q).2.2 n H n Zd)
  ·have e:Pj acc n=acc++[n]:=by
    unfold Pj
    rw[if_neg (by
     rw[QF];rintro⟨x,g,z⟩;have:x=n:=by simpa using z
     exact H (this▸g))]
   have c:(acc++[n]).Nodup:=by
    rw[ZT];refine⟨h,by simp,λa d b f=>?_⟩;have:b=n:=by simpa using f
    subst this;intro q;exact H (q▸d)
   have i:=Et ns (acc++[n]) c;rw[e];rw[ZX]at i;simp only[Zk,ZE,Z2,UC,P1]at i;rw[<-i];constructor<;>intro q<;>omega
theorem Ma(h:ns.length<1000):iU (.lst (ns.map D.int)) S=.ok (.int ((cS ns).length:Nat)) S:=by
 have e:(ns.map D.int).all (az .int)=Ox:=by rw[Zp];intro x H;obtain⟨n,_,rfl⟩:=Zs.mp H;rfl
 have E:(ns.map D.int).filterMap cR=ns:=by rw[PV];exact TY
 show(if(ns.map D.int).all (az .int)=Ox/\(ns.map D.int).length<1000 then Res.ok (D.int ((cS ((ns.map D.int).filterMap cR)).length:Nat)) S else _)=_;rw[if_pos ⟨e,by simpa using h⟩,E]
theorem Eu(H:ns.length<1000):∃a b:Int,iU (.lst (ns.map D.int)) S=.ok (.int a) S/\c_ [.lst (ns.map D.int)] S=.ok (.int b) S/\aw .Eq (.int a) (.int b) S=.ok (.bl (decide ns.Nodup)) S:=by
 refine⟨_,(ns.length:Nat),Ma H,?_,?_⟩
 ·simp[c_,aB]
 ·have e:aw .Eq (.int ((cS ns).length:Nat)) (.int (ns.length:Nat)) S=.ok (.bl (((cS ns).length:Int)==(ns.length:Int))) S:=rfl;rw[e];have h:=Et ns [] (by simp);simp only[Z2,Ru,P1]at h
  have:(((cS ns).length:Int)==(ns.length:Int))=decide ns.Nodup:=by rw[Pk,decide_eq_true_eq,<-h];unfold cS;rw[beq_iff_eq];omega
  rw[this]
theorem Mb(d:Flat S)(e:ns.length<1000):li [.lst (ns.map D.int)] S=.ok (.bl (decide ns.Nodup)) S:=by refine aP rfl ?_ rfl d rfl;obtain⟨a,b,h,H,c⟩:=Eu (S:=S) e;simp[wj,CK,ag,ar,ah,ai,Res.bind,Res.noErr,aA,h,H,c]
theorem Ew:pH=[.expr (.call "must_be_web" [.var 0]),.ret (.band (.call "are_ties" [.var 0,.var 1]) (.call "are_unlike" [mz]))]:=rfl
theorem Ex(H:Flat S)(W:cJ m ts):ag gc G0 (.expr (.call "must_be_web" [.var 0])::cs) [some (ao m ts),some d] S=ag gc G0 cs [some (ao m ts),some d] S:=by have h:eT [ao m ts] S=.ok .non S:=K92.w_ H W;exact aW (by simp[ar,ah,ai,Res.bind,C1,h])
theorem qs(H:Flat S)(W:cJ m ts)(h:g9 [ao m ts,d] S=.ok (.bl Oy) S):d_ [ao m ts,d] S=.ok (.bl Oy) S:=by refine aP rfl ?_ rfl H rfl;show ag gc G0 pH [some (ao m ts),some d] S=_;rw[Ew,Ex H W];refine br ?_;simp only[ar,ah,ai,Res.bind,wm,h,ax,Zo,Zr,Zw,Z3,mx,my,mz]
theorem Mc(h:ρ[1]?=some (some (.tup (aa ps))))(d:ps.length<=100):ah gc G0 mz ρ S=.ok (.lst ((au ps).map D.int)) S:=by
 refine ix (hE h) ?_;unfold aa;show aV _ (ps.map aq) [] S=_;rw[xf (f:=aq) (g:=λt=>[.int t.1,.int t.2]) (c:=2) (λx=>by simp)]
 ·rw[DW];rfl
 ·intro t i a H;have b:a.length+2<=16777216:=H;have e:bp (.var 0) (aq t) [none,none]=some [some (aq t),none]:=rfl;have E:dQ S (aq t)=some (.items [.int t.1,.int t.2]):=rfl;simp[e,bp,bZ,slots,dP,aL,bH,aX,bB,ah,a7,Res.bind,Res.noErr,E,b3,aV,show a.length<16777216 by omega,show a.length+1<16777216 by omega]
 ·unfold a';simp;omega
theorem Md(H:Flat S)(W:cJ m ts)(h:∀t∈ps,t∈ts)(c:ps.length<=100):d_ [ao m ts,.tup (aa ps)] S=.ok (.bl (dn ps&&decide (au ps).Nodup)) S:=by
 have a:=L' H W h (show ps.length<=1000 by omega);cases e:dn ps with
 |false=>rw[e]at a;exact qs H W a
 |true=>rw[e]at a;refine aP rfl ?_ rfl H rfl;show ag gc G0 pH [some (ao m ts),some (.tup (aa ps))] S=_;rw[Ew,Ex H W];refine br ?_;have b:=Mc (S:=S) (ρ:=[some (ao m ts),some (.tup (aa ps))]) rfl c;have d:=Mb H (ns:=au ps) (by rw[qc];omega);generalize mz=q at b;simp only[ar,ah,ai,Res.bind,wm,C2,a,b,d,ax,Zo,Zr,if_true,Ql]
theorem xt:ln=[.ite (.bnot (.blt .isinst [.var 1,.ty "tuple"])) [.ret (.lit (.bl Oy))] [],.asg 2 (.lst Oy []),.for_ (.var 3) (.seq (.var 1)) pM,.ret Ga]:=rfl
theorem xu(b:Flat S)(a:ρ[3]?=some (some (.tup xs)))(h:∀x∈xs,Kn x)(e:xs.length<=1000):ah bJ G0 (.blt .all [F_]) ρ S=.ok (.bl (xs.all jC)) S:=
 lM (S:=S) (lL (S:=S) (rs:=[]) (f:=jC) (hE a) rfl e λd c=>by have H:=lJ b (h d c);rw[<-L5]at H;simp only[ah,ai,Res.bind,KN,H,Zo])
theorem xv{b:il}{es:List CE}{k:Bool}(h:ah Φ G0 (.blt b es) ρ S=.ok (.bl k) S):am Φ G0 (.blt b es) ρ S=.ok k S:=by
 rw[ah]at h;rw[am];cases e:ai Φ G0 es ρ S with
 |ok D a=>
  rw[e]at h;simp only[Res.bind]at h⊢;cases E:(aA b D a)with
  |ok d c=>rw[E]at h;simp only[Res.noErr]at h⊢;cases h;rfl
  |err x c=>rw[E]at h;cases h
  |fail=>rw[E]at h;cases h
 |err x a=>rw[e]at h;cases h
 |fail=>rw[e]at h;cases h
theorem Ey{e:D}(a:ρ[3]?=some (some e))(h:NT e):am bJ G0 pL ρ S=.ok Ox S:=by have b:aA .isinst [e,.ty "tuple"] S=.ok (.bl Oy) S:=h S;have H:am bJ G0 (.blt .isinst [.var 3,.ty "tuple"]) ρ S=.ok Oy S:=xv (by simp only[ah,ai,a,Res.bind,b,Res.noErr]);unfold pL;generalize(CE.blt .isinst [.var 3,.ty "tuple"])=q at H⊢;simp only[am,H,Res.bind,Bool.not_false,if_true]
theorem lP(d:Flat S)(H:ρ[3]?=some (some (.tup xs)))(h:∀x∈xs,Kn x)(i:xs.length<=1000):am bJ G0 pL ρ S=.ok (!(decide (xs.length=2)&&xs.all jC)) S:=by
 have g:aA .isinst [.tup xs,.ty "tuple"] S=.ok (.bl Ox) S:=rfl;have a:am bJ G0 (.blt .isinst [.var 3,.ty "tuple"]) ρ S=.ok Ox S:=xv (by simp only[ah,ai,H,Res.bind,g,Res.noErr]);have j:aA .len [.tup xs] S=.ok (.int (xs.length:Nat)) S:=rfl
 have f:aw .NotEq (.int (xs.length:Nat)) (.int 2) S=.ok (.bl (!(decide (xs.length=2)))) S:=by
  have:aw .NotEq (.int (xs.length:Nat)) (.int 2) S=.ok (.bl (!(((xs.length:Nat):Int)==2))) S:=rfl;rw[this];have e:(((xs.length:Nat):Int)==2)=decide (xs.length=2):=by rw[Pk,beq_iff_eq,decide_eq_true_eq];omega
  rw[e]
 have b:am bJ G0 (.cmp .NotEq (.blt .len [.var 3]) (.lit (.int 2))) ρ S=.ok (!(decide (xs.length=2))) S:=by simp only[am,ah,ai,H,Res.bind,j,Res.noErr,f,ax]
 have c:=xv (xu d H h i);unfold pL;generalize(CE.blt .isinst [.var 3,.ty "tuple"])=q at a⊢;generalize(CE.cmp .NotEq (.blt .len [.var 3]) (.lit (.int 2)))=Q at b⊢;generalize(CE.blt .all [F_])=k at c⊢;simp only[am,a,b,c,Res.bind,SW,Zw,Z3];cases decide (xs.length=2)<;>simp
theorem xw(c:Flat S){e:D}(H:ρ[3]?=some (some e))(h:jD e):am bJ G0 pL ρ S=.ok Ox S:=by
 rcases h.kn.nt with d| ⟨x,rfl⟩
 ·exact Ey H d
 ·obtain⟨a,b,q⟩:=h.tu x rfl;rw[lP c H a b];rcases q with q|q
  ·rw[Zy q];rfl
  ·rw[q];simp
theorem xx(a:Flat S){t:Int×Int}(H:ρ[3]?=some (some (aq t))):am bJ G0 pL ρ S=.ok Oy S:=by rw[lP a (xs:=[.int t.1,.int t.2]) H (by intro x h;simp at h;rcases h with rfl|rfl<;>exact .inl ⟨_,rfl⟩) (by simp)];rfl
theorem qt(g:Flat S){w th:D}{e:D}(h:Item e){ac:Li}(o:ac.length<=1000):
  ag bJ G0 pM [some (ao m ts),some th,some (.lst (ac.map D.int)),some e] S=(if gw ts e=Ox then .ok (.next [some (ao m ts),some th,some (.lst ((ac++(match e with
   | .tup [.int a,.int b]=>[a,b]
   |_=>[])).map D.int)),some e]) S else .ok (.ret (.bl Oy)) S):=by
 unfold pM;rcases h with⟨t,rfl⟩|h
 ·have i:ar bJ G0 (.ite pL [.ret (.lit (.bl Oy))] []) [some (ao m ts),some th,some (.lst (ac.map D.int)),some (aq t)] S=.ok (.next [some (ao m ts),some th,some (.lst (ac.map D.int)),some (aq t)]) S:=by
   rw[cZ (xx g rfl)];simp only[Zw,Z3,ag]
  rw[aW i];have n:a8 (ao m ts) (.int 1) S=.ok (.tup (aa ts)) S:=rfl;have f:=wZ S t ts
  have j:am bJ G0 (.cmp .NotIn (.var 3) (.idx (.var 0) (.lit (.int 1)))) [some (ao m ts),some th,some (.lst (ac.map D.int)),some (aq t)] S=.ok (!decide (t∈ts)) S:=by simp only[am,ah,Res.bind,Res.noErr,n,aw,f,bb,ax,Zo,Zr,Option.map_some]
  have H:=cZ (a:=[.ret (.lit (.bl Oy))]) (b:=[]) j;by_cases d:t∈ts
  ·rw[ZA d]at H;simp only[SW,Zw,Z3,ag]at H;rw[aW H,qr,ZA d,if_pos rfl];have l:aA (.list Oy) [aq t] S=.ok (.lst [.int t.1,.int t.2]) S:=rfl
   have c:fM .Add (.lst (ac.map D.int)) (.lst [.int t.1,.int t.2]) S=.ok (.lst (ac.map D.int++[.int t.1,.int t.2])) S:=by show(if(ac.map D.int).length+2<=a' then Res.ok (D.lst (ac.map D.int++[.int t.1,.int t.2])) S else .fail)=_;rw[if_pos (by rw[Zn];unfold a';omega)]
   have k:ah bJ G0 (.bin .Add (.var 2) (.blt (.list Oy) [.var 3])) [some (ao m ts),some th,some (.lst (ac.map D.int)),some (aq t)] S=.ok (.lst (ac.map D.int++[.int t.1,.int t.2])) S:=by simp only[ah,ai,Res.bind,Res.noErr,l,c,Zo,Zr]
   rw[bj k];simp[ag,aq]
  ·rw[Zy d]at H;simp only[Bool.not_false,if_true,ag,ar,ah,Res.bind]at H;rw[qr,Zy d,if_neg (by simp)];exact br H
 ·rw[h.not ts,if_neg (by simp)];have H:=cZ (a:=[.ret (.lit (.bl Oy))]) (b:=[]) (xw g (ρ:=[some (ao m ts),some th,some (.lst (ac.map D.int)),some e]) rfl h);simp only[if_true,ag,ar,ah,Res.bind]at H;exact br H
theorem xy(l:Flat S){m:Int}{ts:Lq}{th:D}{step:D->bv->af->Res Fl}(hs:∀e ρ,ρ.length=4->step e ρ S=ag bJ G0 pM (ρ.set 3 (some e)) S):∀(es:List D) (ac:Li) (x:Option D),(∀e∈es,Item e)->ac.length+2*es.length<=1000->
  (es.all (gw ts)=Oy->cK step es [some (ao m ts),some th,some (.lst (ac.map D.int)),x] S=.ok (.ret (.bl Oy)) S)/\(∀ps,es=aa ps->(∀t∈ps,t∈ts)->∃y,cK step es [some (ao m ts),some th,some (.lst (ac.map D.int)),x] S=.ok (.next [some (ao m ts),some th,some (.lst ((ac++au ps).map D.int)),y]) S)
 | [],ac,x,_,_=>by
  refine⟨λh=>(by cases h),λps H _=>⟨x,?_⟩⟩
  have:ps=[]:=by cases ps with
   |nil=>rfl
   |cons a b=>cases H
  subst this;show Res.ok _ _=_;simp[au]
 |e::es,ac,x,n,B=>by
  simp only[ZE]at B;have s:=qt l (m:=m) (ts:=ts) (w:=.non) (th:=th) (n e Zd) (ac:=ac) (by omega);have d:step e [some (ao m ts),some th,some (.lst (ac.map D.int)),x] S=ag bJ G0 pM [some (ao m ts),some th,some (.lst (ac.map D.int)),some e] S:=hs e _ rfl;rw[s]at d;cases i:gw ts e with
  |false=>rw[i,if_neg (by simp)]at d;refine⟨λ_=>by unfold cK;rw[d];rfl,λps H g=>?_⟩;have:=Eo g;rw[<-H,Pa,i]at this;cases this
  |true=>
   rw[i,if_pos rfl]at d
   obtain⟨t,F,A⟩:∃t,t∈ts/\e=aq t:=by
    obtain⟨ps,j,g⟩:=xq (es:=[e]) (ts:=ts) (by rw[Pa,i];rfl);cases ps with
    |nil=>cases j
    |cons t r=>exact⟨t,g t Zd,by injection j⟩
   subst A;have I:=xy l (m:=m) (ts:=ts) (th:=th) hs es (ac++[t.1,t.2]) (some (aq t)) (λy k=>n y (Zc _ k)) (by simp only[Zk,ZE,Z2];omega);have f:step (aq t) [some (ao m ts),some th,some (.lst (ac.map D.int)),x] S=.ok (.next [some (ao m ts),some th,some (.lst ((ac++[t.1,t.2]).map D.int)),some (aq t)]) S:=d;refine⟨λo=>?_,λps H g=>?_⟩
   ·rw[Pa,i,Ql]at o;unfold cK;rw[f];exact I.1 o
   ·cases ps with
    |nil=>cases H
    |cons u r=>
     have E:aq t=aq u/\es=aa r:=by
      have:aq t::es=aq u::aa r:=H;injection this with a b
      exact⟨a,b⟩
     have p:t=u:=by
      have:=E.1;unfold aq at this;injection this with z
      injection z with a b
      injection b with b c
      injection a with a
      injection b with b
      exact Prod.ext a b
     subst p;obtain⟨y,k⟩:=I.2 r E.2 λv C=>g v (Zc _ C);refine⟨y,?_⟩;unfold cK;rw[f];have q:ac++au (t::r)=ac++[t.1,t.2]++au r:=by rw[ZX];rfl
     rw[q];exact k
theorem Ez(n:Nat):∀(a b:Lq),bo (OC (bY S (n+2)) (aa a) (aa b))=some (decide (a.take b.length=b.take a.length))
 | [],b=>by simp[aa,bo]
 |a::as,[]=>rfl
 |a::as,b::bs=>by
  have i:=Ez n as bs;have e:OC (bY S (n+2)) (aa (a::as)) (aa (b::bs))=bY S (n+2) (aq a) (aq b)::OC (bY S (n+2)) (aa as) (aa bs):=rfl;simp only[e,K92.DM]
  show(match some (decide (a=b)),bo (OC (bY S (n+2)) (aa as) (aa bs))with
   |some b,some c=>some (b&&c)
   |_,_=>none)=_
  simp_all
theorem lQ(a b:Lq)(h:a.length=b.length):aw .Eq (.lst (aa a)) (.lst (aa b)) S=.ok (.bl (decide (a=b))) S:=by show bb (if(aa a).length=(aa b).length then bo (OC (bY S (37+2)) (aa a) (aa b))else some Oy) S=_;rw[if_pos (by unfold aa;simpa using h),Ez,h,Ri,<-h,Ri];rfl
theorem EA(x:Int×Int):∀l:Lq,(∀y∈l,aE y x)->K92.insI x l=l++[x]
 | [],_=>rfl
 |y::l,h=>by
  have H:aE y x:=h y Zd;have a:¬aE x y:=by unfold aE at H⊢;omega
  have i:=EA x l λz b=>h z (Zc _ b);unfold K92.insI;simp[a,i]
theorem EB:∀(l acc:Lq),(acc++l).Pairwise aE->l.foldl (λacc x=>K92.insI x acc) acc=acc++l
 | [],acc,_=>by simp
 |x::l,acc,h=>by rw[Rt,EA x acc λy H=>(TC.mp h).2.2 y H x Zd];have:=EB l (acc++[x]) (by rw[ZX];exact h);rw[this,ZX];rfl
theorem Me(h:(au ps).Nodup):ps.Nodup:=by
 induction ps with
 |nil=>exact Qb
 |cons t r i=>have e:au (t::r)=[t.1,t.2]++au r:=rfl;rw[e,ZT]at h;rw[OS];refine⟨λH=>?_,i h.2.1⟩;exact h.2.2 t.1 (by simp) t.1 (by unfold au;exact UB.mpr ⟨t,H,by simp⟩) rfl
theorem Mf(h:(au ps).Nodup):decide (ps=sortI ps)=dn ps:=by
 rw[Pk,decide_eq_true_eq,xo];constructor
 ·intro e;rw[e];exact K92.qf (Me h)
 ·intro q;exact(EB ps [] (by simpa using q)).symm
theorem EC{w:D}{x y:Option D}:ag bJ G0 (.ite (.bnot (.blt .isinst [.var 1,.ty "tuple"])) [.ret (.lit (.bl Oy))] []:: .asg 2 (.lst Oy [])::cs) [some w,some (.tup xs),x,y] S=ag bJ G0 cs [some w,some (.tup xs),some (.lst ([].map D.int)),y] S:=by
 have h:bG [.tup xs,.ty "tuple"] S=.ok (.bl Ox) S:=rfl;have H:ar bJ G0 (.ite (.bnot (.blt .isinst [.var 1,.ty "tuple"])) [.ret (.lit (.bl Oy))] []) [some w,some (.tup xs),x,y] S=.ok (.next [some w,some (.tup xs),x,y]) S:=by simp[ar,ag,am,ah,ai,Res.bind,Res.noErr,aA,h,a9]
 rw[aW H,bj (d:=.lst []) (S':=S) (by simp[ah,ai,Res.bind])];rfl
theorem qu(H:Flat S){w:D}(h:NT d):eU [w,d] S=.ok (.bl Oy) S:=by refine aP rfl ?_ rfl H rfl;show ag bJ G0 ln [some w,some d,none,none] S=_;rw[xt];refine br ?_;simp[ar,ag,am,ah,ai,Res.bind,Res.noErr,aA,h S,a9,F_,pL,pM,Ga]
theorem qv(H:Flat S){es:List D}(h:∀e∈es,Item e)(d:es.length<=100)(b:es.all (gw ts)=Oy):eU [ao m ts,.tup es] S=.ok (.bl Oy) S:=by
 refine aP rfl ?_ rfl H rfl;show ag bJ G0 ln [some (ao m ts),some (.tup es),none,none] S=_;rw[xt,EC];refine br ?_;rw[gr (hE rfl)]
 exact(xy H (m:=m) (ts:=ts) (th:=.tup es) (λe a c=>by
  have:aL (.var 3) e a=some (a.set 3 (some e)):=by simp[aL,c]
  simp only[this]) es [] none h (by simp;omega)).1 b
theorem Mh(o:Flat S)(h:∀t∈ps,t∈ts)(w:ps.length<64):eU [ao m ts,.tup (aa ps)] S=.ok (.bl (dn ps&&decide (au ps).Nodup)) S:=by
 refine aP rfl ?_ rfl o rfl;show ag bJ G0 ln [some (ao m ts),some (.tup (aa ps)),none,none] S=_;rw[xt,EC]
 obtain⟨y,p⟩:=(xy o (m:=m) (ts:=ts) (th:=.tup (aa ps)) (step:=λx f S=>match aL (.var 3) x f with
   |some n=>ag bJ G0 pM n S
   |none=>.fail) (λe f A=>by
  have:aL (.var 3) e f=some (f.set 3 (some e)):=by simp[aL,A]
  simp only[this]) (aa ps) [] none (λe u=>by
  obtain⟨t,_,rfl⟩:=Zs.mp u;exact .inl ⟨t,rfl⟩) (by unfold aa;simp;omega)).2 ps rfl h
 rw[P1]at p;have v:ar bJ G0 (.for_ (.var 3) (.seq (.var 1)) pM) [some (ao m ts),some (.tup (aa ps)),some (.lst ([].map D.int)),none] S=.ok (.next [some (ao m ts),some (.tup (aa ps)),some (.lst ((au ps).map D.int)),y]) S:=by rw[gr (hE rfl)];exact p
 rw[aW v];refine br ?_;obtain⟨a,b,q,r,s⟩:=Eu (S:=S) (ns:=au ps) (by rw[qc];omega);have g:aA .len [.lst ((au ps).map D.int)] S=.ok (.int b) S:=r
 have H:ah bJ G0 (.cmp .Eq (.lenset (.var 2)) (.blt .len [.var 2])) [some (ao m ts),some (.tup (aa ps)),some (.lst ((au ps).map D.int)),y] S=.ok (.bl (decide (au ps).Nodup)) S:=by simp only[ah,ai,Res.bind,Res.noErr,q,g,s,Zo,Zr]
 have i:aA (.list Oy) [.tup (aa ps)] S=.ok (.lst (aa ps)) S:=rfl;have j:aA (.sorted Oy (.seq .int)) [.tup (aa ps)] S=.ok (.lst (aa (sortI ps))) S:=xg (S:=S) (d:=.tup (aa ps)) (l:=ps) rfl w
 have c:ah bJ G0 (.cmp .Eq (.blt (.list Oy) [.var 1]) (.blt (.sorted Oy (.seq .int)) [.var 1])) [some (ao m ts),some (.tup (aa ps)),some (.lst ((au ps).map D.int)),y] S=.ok (.bl (decide (ps=sortI ps))) S:=by have z:=lQ (S:=S) ps (sortI ps) (K92.iw ps).length_eq.symm;simp only[ah,ai,Res.bind,Res.noErr,i,j,z,Zo,Zr]
 unfold Ga;generalize(CE.cmp .Eq (.lenset (.var 2)) (.blt .len [.var 2]))=Q at H⊢;generalize(CE.cmp .Eq (.blt (.list Oy) [.var 1]) (.blt (.sorted Oy (.seq .int)) [.var 1]))=B at c⊢;by_cases k:(au ps).Nodup
 ·rw[Mf k]at c;rw[ZA k]at H⊢;simp only[ar,ah,Res.bind,H,c,ax,if_true,Bool.and_true]
 ·rw[Zy k]at H⊢;simp only[ar,ah,Res.bind,H,ax,Zw,Z3,Bool.and_false]
theorem iy:∀{es:List D},(∀e∈es,a_ 0 e=Ox)->bi 0 es=Ox
 | [],_=>rfl
 |e::es,h=>by show(a_ 0 e&&bi 0 es)=Ox;rw[h e Zd,iy λx H=>h x (Zc _ H)];rfl
def It(e:D):Prop:=Item e/\a_ 0 e=Ox
structure dq (d:D):Prop where
 is:NT d\/∃es,d=.tup es/\(∀e∈es,Item e)/\es.length<64
 lo:a_ 0 d=Ox
theorem iz{es:List D}(a:es.length<64)(h:∀e∈es,It e):dq (.tup es):=⟨.inr ⟨es,rfl,λe H=>(h e H).1,a⟩,iy λe H=>(h e H).2⟩
theorem Mi{es:List D}(h:∀e∈es,It e):dq (.lst es):=⟨.inl λ_=>rfl,iy λe H=>(h e H).2⟩
theorem fL(t:Int×Int):It (aq t):=⟨.inl ⟨t,rfl⟩,rfl⟩
theorem qw{e:D}(h:Kn e)(a:NT e)(H:a_ 0 e=Ox):It e:=⟨.inr ⟨h,λx q=>by subst q;have:=a [];cases this⟩,H⟩
theorem jE(h:∀x∈xs,Kn x)(b:xs.length<=1000)(a:xs.length≠2\/xs.all jC=Oy)(H:a_ 0 (.tup xs)=Ox):It (.tup xs):=⟨.inr ⟨.inr (.inr (.inr (.inr (.inl ⟨xs,rfl⟩)))),λy q=>by cases q;exact⟨h,b,a⟩⟩,H⟩
theorem xz{r:Int}(a:aB S d=some xs)(H:0<=r)(h1:r<(xs.length:Nat)):∃x∈xs,a8 d (.int r) S=.ok x S:=by
 have h:r.toNat<xs.length:=by omega
 refine⟨xs[r.toNat],QH h,?_⟩;have:fA xs r=some xs[r.toNat]:=by unfold fA hV;rw[if_pos H,if_pos h1];show xs[r.toNat]?=_;rw[Zj h]
 unfold a8;simp only[a,this]
theorem qx{p q:List D}(h:p.length+q.length<=1000):fM .Add (.tup p) (.tup q) S=.ok (.tup (p++q)) S:=by have e:fM .Add (.tup p) (.tup q) S=if p.length+q.length<=a' then .ok _ S else .fail:=rfl;lia
theorem xA{p q:List D}(h:p.length+q.length<=1000):fM .Add (.lst p) (.lst q) S=.ok (.lst (p++q)) S:=by
 have e:fM .Add (.lst p) (.lst q) S=if p.length+q.length<=a' then .ok (.lst (p++q)) S else .fail:=by simp only[fM,gB,Py.cy]
 rw[e,if_pos (by show _<=16777216;omega)]
theorem ED(l:List D)(L h:Option Int):(bF l L h).Sublist l:=(Qu _ _).trans (Q6 _ _)
theorem qy(l:List D)(L h:Option Int):(bF l L h).length<=l.length:=(ED l _ _).length_le
theorem xB(l:List D):j_ (.tup l) (.int (-1)) S=.ok (.tup l.reverse) S:=rfl
theorem sl_tup(l:List D)(L h:Option Int):ig (.tup l) L h S=.ok (.tup (bF l L h)) S:=rfl
end K92
namespace Py
end Py
namespace Pc
open K92
section
variable {m:Nat}{so:Li}
end
end Pc
namespace K92
open Pc
theorem qz{A:List D}:(S++[A])[S.length]?=some A:=by rw[Zq (Zf _)];simp
theorem Mj{A B:List D}:(S++[A]).set S.length B=S++[B]:=by rw[List.set_append_right _ _ (Zf _)];simp
theorem qA{step:D->bv->af->Res Fl}(J:bv->af->Prop):∀(xs:List D),(∀x∈xs,∀ρ S,J ρ S->∃ρ' S',J ρ' S'/\step x ρ S=.ok (.next ρ') S')->∀ρ S,J ρ S->∃ρ' S',J ρ' S'/\cK step xs ρ S=.ok (.next ρ') S'
 | [],_,ρ,S,j=>⟨_,S,j,rfl⟩
 |x::xs,h,ρ,S,j=>by obtain⟨c,f,a,e⟩:=h x Zd _ S j;obtain⟨d,g,b,E⟩:=qA J _ (λy H=>h y (Zc _ H)) _ _ a;refine⟨_,_,b,?_⟩;unfold cK;rw[e];exact E
theorem Ml{A:List D}(h:A.length<a'):ij (.ref T.length) [d] (T++[A])=.ok .non (T++[A++[d]]):=by unfold ij;simp only[qz];rw[if_pos h,Mj]
end K92
namespace K92
section
variable {T A:List (List D)}{a u b:Int}{ts c:List Ti}
end
theorem EE:∀n,bS n=K92.bS n
 |0=>rfl
 |n+1=>by
  show aJ (tbl [("_law_same",bS n)]) G0 gj gh.length 2=aJ (tbl [("_law_same",K92.bS n)]) K92.G0 K92.gj K92.gh.length 2;rw[EE n]
  all_goals rfl
theorem xC{S:af}{step:D->bv->af->Res Fl}{a b:Option D}:∀(xs:List D) (x y:Option D),(∀z∈xs,∀(x y:Option D),step (.tup [z,z]) [a,b,x,y] S=.ok (.next [a,b,some z,some z]) S)->∃X Y,cK step (OC (λx y=>.tup [x,y]) xs xs) [a,b,x,y] S=.ok (.next [a,b,X,Y]) S
 | [],x,y,_=>⟨x,y,rfl⟩
 |z::xs,x,y,h=>by obtain⟨X,Y,e⟩:=xC xs (some z) (some z) λw hw=>h w (Zc _ hw);refine⟨X,Y,?_⟩;rw[Rn];unfold cK;rw[h z Zd];exact e
theorem EF(t:Flat S)(v:∀z∈xs,bS n [z,z] S=.ok (.bl Ox) S):bS (n+1) [.tup xs,.tup xs] S=.ok (.bl Ox) S:=by
 show aJ (tbl [("_law_same",bS n)]) G0 gj gh.length 2 _ S=_;refine aP rfl ?_ rfl t rfl;generalize h:D.tup xs=d;have i:bG [d,.ty "bool"] S=.ok (.bl Oy) S:=by subst h;rfl
 have j:bG [d,.ty "int"] S=.ok (.bl Oy) S:=by subst h;rfl
 have k:bG [d,.ty "str"] S=.ok (.bl Oy) S:=by subst h;rfl
 have l:aw .Is d .non S=.ok (.bl Oy) S:=by subst h;rfl
 have m:bG [d,.ty "list"] S=.ok (.bl Oy) S:=by subst h;rfl
 have o:bG [d,.ty "tuple"] S=.ok (.bl Ox) S:=by subst h;rfl
 have p:aw .NotEq (.bl Oy) (.bl Oy) S=.ok (.bl Oy) S:=rfl;have q:aw .NotEq (.bl Ox) (.bl Ox) S=.ok (.bl Oy) S:=rfl;have r:c_ [d] S=.ok (.int xs.length) S:=by subst h;simp[c_,aB]
 have H:aw .NotEq (.int xs.length) (.int xs.length) S=.ok (.bl Oy) S:=by have:aw .NotEq (.int xs.length) (.int xs.length) S=.ok (.bl (!((xs.length:Int)==xs.length))) S:=rfl;rw[this];simp
 have g:dR S d d=some (.items (OC (λx y=>.tup [x,y]) xs xs)):=by subst h;rfl
 unfold gj;refine(aW (ρ':=[some d,some d,none,none]) (S':=S) (by simp[gh,ar,ag,am,ah,ai,Res.bind,Res.noErr,ax,aA,l])).trans ?_;refine(aW (ρ':=[some d,some d,none,none]) (S':=S) (by simp[ar,ag,am,ah,ai,Res.bind,Res.noErr,ax,aA,i,a9])).trans ?_;refine(aW (ρ':=[some d,some d,none,none]) (S':=S) (by simp[ar,ag,am,ah,ai,Res.bind,Res.noErr,ax,aA,j,a9])).trans ?_;refine(aW (ρ':=[some d,some d,none,none]) (S':=S) (by simp[ar,ag,am,ah,ai,Res.bind,Res.noErr,ax,aA,k,a9])).trans ?_;refine(aW (ρ':=[some d,some d,none,none]) (S':=S) (by simp[ar,ag,am,ah,ai,Res.bind,Res.noErr,ax,aA,m,o,p,q,a9])).trans ?_;refine(aW (ρ':=[some d,some d,none,none]) (S':=S) (by simp[ar,ag,am,ah,ai,Res.bind,Res.noErr,ax,aA,r,H,a9])).trans ?_
 obtain⟨X,Y,e⟩:=xC (S:=S) (a:=some d) (b:=some d) (step:=λx A S=>match aL (.tup [.var 2,.var 3]) x A with
   |some c=>ag (tbl [("_law_same",bS n)]) G0 [.ite (.bnot (.call "_law_same" [.var 2,.var 3])) [.ret (.lit (.bl Oy))] []] c S
   |none=>.fail) xs none none (λz w x y=>by have u:=v z w;simp[aL,bH,ag,ar,am,ah,ai,Res.bind,tbl,u,a9])
 have s:a7 (tbl [("_law_same",bS n)]) G0 (.zip [.var 0,.var 1]) [some d,some d,none,none] S=.ok (.items (OC (λx y=>.tup [x,y]) xs xs)) S:=by simp only[a7,ai,ah,Res.bind,Zo,Zr,g]
 refine(aW (ρ':=[some d,some d,X,Y]) (S':=S) ((gr s).trans e)).trans ?_;rfl
section
variable {u a r:Int}{ts:List Ti}{ks:List Nat}
end
section
variable {u:Int}{ts:List Ti}{ks:List Nat}
end
section
variable {A B C:List D}{P:List (List Ti)}
end
section
variable {ts:List Ti}{P:List (List Ti)}{x3:Option D}
end
section
variable {c t l w a b:Int}{x9:Option D}
end
section
variable {ts:List Ti}
end
theorem l1{c:Int}:ah t_law_arrows G0 (.idx (.var 0) (.lit (.int 1))) [some (ao m ts),some (.int c)] S=.ok (.tup (aa ts)) S:=by have h:a8 (ao m ts) (.int 1) S=.ok (.tup (aa ts)) S:=rfl;simp only[ah,Res.bind,Zo,h,Res.noErr]
theorem l2{c:Int}:ah t_law_arrows G0 (.blt .len [.idx (.var 0) (.lit (.int 1))]) [some (ao m ts),some (.int c)] S=.ok (.int ((ts.length:Nat):Int)) S:=by
 have h:c_ [.tup (aa ts)] S=.ok (.int (ts.length:Nat)) S:=by show Res.ok (D.int ((aa ts).length:Nat)) S=_;unfold aa;rw[Zn]
 rw[ah,ai,l1];simp only[ai,Res.bind,aA,h,Res.noErr]
theorem l3{e:CE}{L:Int}(h:ah Φ G0 e ρ S=.ok (.int L) S)(h1:0<=L)(H:L<=100):a7 Φ G0 (.range [e]) ρ S=.ok (.items ((b6 0 L.toNat).map D.int)) S:=by rw[a7,ai,h];simp only[ai,Res.bind];rw[if_pos (by omega),K92.qa]
theorem xD{e:CE}{t:CT}{rs:α->bv}{r0:bv}{it:CE}{ds:List α}{h:α->D}{f:α->D}(o:a7 Φ G0 it ρ S=.ok (.items (ds.map h)) S)(q:fr.map (λj=>j.bind λj=>(ρ[j]?).join)=r0)
  (m:∀d∈ds,bp t (h d) r0=some (rs d)) (r:ds.length<=100000) (n:∀d∈ds,ah Φ G0 e (rs d) S=.ok (f d) S):ah Φ G0 (.comp Oy N fr t it [] (.emit e)) ρ S=.ok (.lst (ds.map f)) S:=by
 refine ix o ?_;rw[q]
 have:=xa (f:=h) (p:=λ_=>Ox) (e:=f) (xs:=ds) (S:=S) (step:=λy a l=>match bp t y r0 with
    |some b=>(aX Φ G0 [] b l).bind λk c=>if k=Ox then bB Φ G0 (.emit e) b a c else .ok a c
    |none=>.fail) (λd i a g=>by
     have H:a.length<16777216:=g
     show(match bp t (h d) r0 with
      |some b=>(aX Φ G0 [] b S).bind λk c=>if k=Ox then bB Φ G0 (.emit e) b a c else .ok a c
      |none=>.fail)=_
     rw[m d i];simp[aX,bB,Res.bind,n d i,H]) (show ds.length<=16777216 by omega)
 rw[T1.mpr (λ_ _=>rfl)]at this;exact this
theorem jF{b:il}{e:CE}{r:D}(h:ah Φ G0 e ρ S=.ok d S)(H:aA b [d] S=.ok r S):ah Φ G0 (.blt b [e]) ρ S=.ok r S:=by simp[ah,ai,h,Res.bind,H,Res.noErr]
theorem lR{b:il}{es:List CE}{k:Bool}(h:ah Φ G0 (.blt b es) ρ S=.ok (.bl k) S):am Φ G0 (.blt b es) ρ S=.ok k S:=by
 simp only[ah]at h;dsimp only[am];cases e:ai _ _ _ _ S with
 |ok D a=>
  rw[e]at h;dsimp[Res.bind]at h⊢;cases E:aA b _ _ with
  |ok d c=>rw[E]at h;cases h;rfl
  |err x c=>rw[E]at h;cases h
  |fail=>rw[E]at h;cases h
 |err x a=>rw[e]at h;cases h
 |fail=>rw[e]at h;cases h
theorem lS{e:CE}(h:ah Φ G0 e ρ S=.ok d S)(H:dQ S d=some (.items ds)):a7 Φ G0 (.seq e) ρ S=.ok (.items ds) S:=by rw[a7,h];simp[Res.bind,H]
theorem av:ah Φ G0 (.lit d) ρ S=.ok d S:=rfl
theorem ft{a b:CE}{x e:D}(h1:ah Φ G0 a ρ S=.ok d S1)(h:ah Φ G0 b ρ S1=.ok e S2)(H:a8 d e S2=.ok x S2):ah Φ G0 (.idx a b) ρ S=.ok x S2:=by simp[ah,h1,h,Res.bind,H,Res.noErr]
theorem eY{o:Sx}{a b:CE}{x e:D}(h1:ah Φ G0 a ρ S=.ok d S1)(h:ah Φ G0 b ρ S1=.ok e S2)(H:fM o d e S2=.ok x S2):ah Φ G0 (.bin o a b) ρ S=.ok x S2:=by simp[ah,h1,h,Res.bind,H,Res.noErr]
theorem xE{o:QZ}{a b:CE}{x e:D}(h1:ah Φ G0 a ρ S=.ok d S1)(h:ah Φ G0 b ρ S1=.ok e S2)(H:aw o d e S2=.ok x S2):ah Φ G0 (.cmp o a b) ρ S=.ok x S2:=by simp[ah,h1,h,Res.bind,H,Res.noErr]
theorem qB{f:Str}{a b:CE}{x y:D}{k:Bool}(c:Φ f=some φ)(h1:ah Φ G0 a ρ S=.ok x S)(H:ah Φ G0 b ρ S=.ok y S)(h:φ [x,y] S=.ok (.bl k) S):am Φ G0 (.call f [a,b]) ρ S=.ok k S:=by simp[am,ai,c,h1,H,Res.bind,h,a9]
theorem bd{e:CE}{k:Bool}(h:am Φ G0 e ρ S=.ok k S):am Φ G0 (.bnot e) ρ S=.ok (!k) S:=by simp[am,h,Res.bind]
theorem jG{c:CE}(h:am Φ G0 c ρ S=.ok Ox S):ag Φ G0 (.ite c [.ret (.lit (.bl Oy))] []::cs) ρ S=.ok (.ret (.bl Oy)) S:=by refine br ?_;rw[cZ h];rfl
theorem gu{c:CE}(h:am Φ G0 c ρ S=.ok Oy S):ag Φ G0 (.ite c [.ret (.lit (.bl Oy))] []::cs) ρ S=ag Φ G0 cs ρ S:=by refine aW ?_;rw[cZ h];rfl
theorem eZ{a b:CE}{x y:Bool}(h1:am Φ G0 a ρ S=.ok x S)(h:am Φ G0 b ρ S=.ok y S):am Φ G0 (.bor a b) ρ S=.ok (x||y) S:=by
 simp only[am,h1,Res.bind];cases x
 ·simp[h]
 ·simp
theorem fu{a b:CE}(h1:am Φ G0 a ρ S=.ok Ox S):am Φ G0 (.bor a b) ρ S=.ok Ox S:=by simp only[am,h1,Res.bind,if_true]
theorem qC{o:QZ}{a b:CE}{e:D}{k:Bool}(h1:ah Φ G0 a ρ S=.ok d S)(h:ah Φ G0 b ρ S=.ok e S)(H:aw o d e S=.ok (.bl k) S):am Φ G0 (.cmp o a b) ρ S=.ok k S:=by simp only[am,h1,h,Res.bind,H,Res.noErr,ax]
theorem qD{f:Str}{a:CE}{x:D}{k:Bool}(H:Φ f=some φ)(h1:ah Φ G0 a ρ S=.ok x S)(h:φ [x] S=.ok (.bl k) S):am Φ G0 (.call f [a]) ρ S=.ok k S:=by simp[am,ai,H,h1,Res.bind,h,a9]
theorem Mm:g8=K92.g8:=rfl
theorem Mn:fH=K92.fH:=rfl
noncomputable def hG(m:Int):D->Bool
 | .tup [.int a,.int b]=>decide (0<=a/\a<b/\b<m)
 |_=>Oy
theorem EG{e:D}(h:jD e)(m:Int):hG m e=Oy:=by
 unfold hG;split
 ·obtain⟨_,_,q⟩:=h.tu _ rfl;rcases q with q|q
  ·exact absurd rfl q
  ·cases q
 ·rfl
theorem xF{m:Int}:∀{es:List D},es.all (hG m)=Ox->∃ps,es=aa ps
 | [],_=>⟨[],rfl⟩
 |e::es,h=>by
  simp only[Pa,ZG]at h;obtain⟨ps,rfl⟩:=xF h.2;have H:=h.1;unfold hG at H;split at H
  ·rename_i a b;exact⟨(a,b)::ps,rfl⟩
  trivial
noncomputable def frB:D->Bool
 | .int i=>decide (1<=i/\i<=8)
 |_=>Oy
theorem qE(H:Flat S){a:D}(h:Kn a):fH [a,.int 1,.int 8] S=.ok (.bl (frB a)) S:=by
 rcases h.isI_or with⟨i,rfl⟩| ⟨b,d⟩
 ·rw[Mn];exact K92.w4 H i 1 8
 ·have c:=K92.lJ H h;rw[b,<-Mm]at c;have:frB a=Oy:=by cases a<;>first|rfl|cases b
  rw[this];refine aP rfl ?_ rfl H rfl;show ag wc G0 k_ [some a,some (.int 1),some (.int 8)] S=_;simp[k_,ag,ar,ah,ai,Res.bind,Res.noErr,ax,we,c]
theorem du{i:Nat}{k:Bool}(h:ρ[i]?=some (some d))(H:bG [d,.ty "tuple"] S=.ok (.bl k) S):am Φ G0 (.blt .isinst [.var i,.ty "tuple"]) ρ S=.ok k S:=by have H:aA .isinst [d,.ty "tuple"] S=.ok (.bl k) S:=H;exact lR (by simp only[ah,ai,h,Res.bind,H,Res.noErr])
theorem hH{i:Nat}(h:ρ[i]?=some (some (.tup xs))):am Φ G0 (.cmp .NotEq (.blt .len [.var i]) (.lit (.int 2))) ρ S=.ok (!(decide (xs.length=2))) S:=by
 have H:aA .len [.tup xs] S=.ok (.int (xs.length:Nat)) S:=rfl;refine qC (jF (al h) H) av ?_;have:aw .NotEq (.int (xs.length:Nat)) (.int 2) S=.ok (.bl (!(((xs.length:Nat):Int)==2))) S:=rfl;rw[this];have e:(((xs.length:Nat):Int)==2)=decide (xs.length=2):=by lia
 rw[e]
theorem xG:ji=[.ite CO [.ret (.lit (.bl Oy))] [],.asgT (.tup [.var 1,.var 2]) (.var 0),.ite Kx [.ret (.lit (.bl Oy))] [],.ret (.band (.blt .all [yw]) (.call "is_rising" [.var 2]))]:=rfl
theorem lT(e:Flat S){a b:D}(h:Kn a):am dC G0 (.call "is_number_from" [.var 1,.lit (.int 1),.glob "MOST_PLACES"]) [some d,some a,some b] S=.ok (frB a) S:=by have H:=qE e h;have c:G0 "MOST_PLACES"=some (.int 8):=rfl;simp only[am,ah,ai,Res.bind,Zr,Zo,c,CQ,H,a9]
theorem lU(H:Flat S)(h:am dC G0 CO [some d,none,none] S=.ok Ox S):dD [d] S=.ok (.bl Oy) S:=by refine aP rfl ?_ rfl H rfl;show ag dC G0 ji [some d,none,none] S=_;rw[xG];exact jG h
theorem xH(H:Flat S)(h:NT d):dD [d] S=.ok (.bl Oy) S:=lU H (fu (bd (du rfl (h S))))
theorem EI(H:Flat S)(h:xs.length≠2):dD [.tup xs] S=.ok (.bl Oy) S:=lU H (by have:=eZ (Φ:=dC) (bd (du (i:=0) (S:=S) (d:=.tup xs) (ρ:=[some (.tup xs),none,none]) (k:=Ox) rfl rfl)) (hH (i:=0) (xs:=xs) rfl);rw[Zy h]at this;exact this)
theorem EJ{a b:D}:ag dC G0 (.ite CO [.ret (.lit (.bl Oy))] []:: .asgT (.tup [.var 1,.var 2]) (.var 0)::cs) [some (.tup [a,b]),none,none] S=ag dC G0 cs [some (.tup [a,b]),some a,some b] S:=by have:=eZ (Φ:=dC) (bd (du (i:=0) (S:=S) (d:=.tup [a,b]) (ρ:=[some (.tup [a,b]),none,none]) (k:=Ox) rfl rfl)) (hH (i:=0) (xs:=[a,b]) rfl);refine(gu this).trans ?_;refine aW ?_;rw[ar,al (d:=.tup [a,b]) rfl];rfl
theorem EK(c:Flat S){a b:D}(f:Kn a)(h:frB a=Oy\/NT b):dD [.tup [a,b]] S=.ok (.bl Oy) S:=by
 refine aP rfl ?_ rfl c rfl;show ag dC G0 ji [some (.tup [a,b]),none,none] S=_;simp only[xG,EJ];have H:=lT (b:=b) (d:=.tup [a,b]) c f;refine jG ?_;cases e:frB a with
 |false=>rw[e]at H;exact fu (bd H)
 |true=>
  rw[e]at h H;rcases h with h|h
  ·cases h
  ·exact eZ (bd H) (bd (du rfl (h S)))
theorem Mo(H:Flat S){e:D}(h:Item e):fk [.int m,e] S=.ok (.bl (hG m e)) S:=by
 rcases h with⟨t,rfl⟩|h
 ·exact K92.Em H m t
 ·rw[EG h];exact K92.Ek H m h
theorem qF(c:Flat S){es:List D}{k:Bool}(o:1<=m/\m<=8)(j:∀e∈es,Item e)(n:es.length<=1000)(l:es.all (hG m)=Ox->d9 [.tup es] S=.ok (.bl k) S):dD [.tup [.int m,.tup es]] S=.ok (.bl (es.all (hG m)&&k)) S:=by
 refine aP rfl ?_ rfl c rfl;show ag dC G0 ji [some (.tup [.int m,.tup es]),none,none] S=_;rw[xG,EJ];have g:=lT (a:=.int m) (b:=.tup es) (d:=.tup [.int m,.tup es]) c (.inl ⟨m,rfl⟩);rw[show frB (.int m)=Ox from ZA o]at g;refine(gu (eZ (bd g) (bd (du (k:=Ox) rfl rfl)))).trans ?_
 have H:ah dC G0 (.blt .all [yw]) [some (.tup [.int m,.tup es]),some (.int m),some (.tup es)] S=.ok (.bl (es.all (hG m))) S:=lM (S:=S) (lL (S:=S) (rs:=[some (.int m)]) (f:=hG m) (hE rfl) rfl n λe i=>by have h:=Mo c (m:=m) (j e i);trivial);show ag dC G0 [.ret (.band (.blt .all [yw]) (.call "is_rising" [.var 2]))] [some (.tup [.int m,.tup es]),some (.int m),some (.tup es)] S=_;refine br (fq ?_);generalize CE.blt .all [yw]=q at H⊢;cases e:es.all (hG m)with
 |false=>rw[e]at H;simp only[ah,H,Res.bind,ax,Zw,Z3,Bool.false_and]
 |true=>rw[e]at H;simp only[ah,ai,H,Res.bind,ax,CP,l e,if_true,Ql,Zr,Zo]
theorem EL:pQ=[.ite yy [.ret (.lit (.bl Oy))] [],.ite (.bnot (.blt .isinst [hY,.ty "tuple"])) [.ret (.lit (.bl Oy))] [],.for_ (.var 1) (.seq hY) sO,.ret (.cmp .Eq (.blt (.list Oy) [hY]) (.sset hY))]:=rfl
theorem lV(H:Flat S)(h:am bE G0 yy [some d,none] S=.ok Ox S):eX [d] S=.ok (.bl Oy) S:=by refine aP rfl ?_ rfl H rfl;show ag bE G0 pQ [some d,none] S=_;rw[EL];exact jG h
theorem EM(H:Flat S)(h:NT d):eX [d] S=.ok (.bl Oy) S:=lV H (fu (bd (du rfl (h S))))
theorem xI(a:Flat S)(h:xs.length≠2):eX [.tup xs] S=.ok (.bl Oy) S:=lV a (by have H:=hH (Φ:=bE) (S:=S) (ρ:=[some (.tup xs),none]) (i:=0) (xs:=xs) rfl;rw[Zy h]at H;exact eZ (bd (du (k:=Ox) rfl rfl)) (fu H))
theorem qG(H:Flat S){a b:D}{x:Option D}(h:Kn a):am bE G0 (.call "_law_whole" [yx]) [some (.tup [a,b]),x] S=.ok (jC a) S:=
 qD K4 (ft (al rfl) av rfl) (K92.lJ H h)
theorem lW(f:Flat S){a b:D}(h:Kn a):am bE G0 yy [some (.tup [a,b]),none] S=.ok (!(frB a)) S:=by
 have H:=qG (b:=b) (x:=none) f h
 have e:∀y,am bE G0 (.bor (.bnot (.call "_law_whole" [yx])) (.bnot Ge)) [some (.tup [a,b]),none] S=.ok y S->am bE G0 yy [some (.tup [a,b]),none] S=.ok y S:=λy j=>
  eZ (bd (du (k:=Ox) rfl rfl)) (eZ (hH (xs:=[a,b]) rfl) j)
 refine e _ ?_;rcases h.isI_or with⟨i,rfl⟩| ⟨c,l⟩
 ·have g:am bE G0 Ge [some (.tup [.int i,b]),none] S=.ok (decide (1<=i/\i<=8)) S:=by
   have d1:ah bE G0 yx [some (.tup [.int i,b]),none] S=.ok (.int i) S:=ft (al rfl) av rfl;have C:aw .LtE (.int 1) (.int i) S=.ok (.bl (decide (1<=i))) S:=rfl;have d:aw .LtE (.int i) (.int 8) S=.ok (.bl (decide (i<=8))) S:=rfl;unfold Ge;simp only[am,ah,d1,Res.bind,C,d,Res.noErr,ax];by_cases q:1<=i<;>simp[q]
  exact eZ (bd H) (bd g)
 ·rw[c]at H;have:frB a=Oy:=by cases a<;>first|rfl|cases c
  rw[this];exact fu (bd H)
theorem lX(c:Flat S){a b:D}(d:Kn a)(h:frB a=Oy\/NT b):eX [.tup [a,b]] S=.ok (.bl Oy) S:=by
 have H:=lW (b:=b) c d;cases e:frB a with
 |false=>rw[e]at H;exact lV c H
 |true=>
  rw[e]at h H;rcases h with h|h
  ·cases h
  ·refine aP rfl ?_ rfl c rfl;refine(gu H).trans (jG (bd (k:=Oy) (lR ?_)));have f:aA .isinst [b,.ty "tuple"] S=.ok (.bl Oy) S:=h S;have d1:ah bE G0 hY [some (.tup [a,b]),none] S=.ok b S:=ft (al rfl) av rfl;show ah bE G0 (.blt .isinst [hY,.ty "tuple"]) [some (.tup [a,b]),none] S=_;simp only[ah,ai,d1,Res.bind,f,Res.noErr]
theorem Mp{a b c d:CE}{i j k l:Int}(h1:ah Φ G0 a ρ S=.ok (.int i) S)(h:ah Φ G0 b ρ S=.ok (.int j) S)(H:ah Φ G0 c ρ S=.ok (.int k) S)(g:ah Φ G0 d ρ S=.ok (.int l) S):am Φ G0 (.chain3 .LtE .Lt .Lt a b c d) ρ S=.ok (decide (i<=j/\j<k/\k<l)) S:=by have C:aw .LtE (.int i) (.int j) S=.ok (.bl (decide (i<=j))) S:=rfl;have e:aw .Lt (.int j) (.int k) S=.ok (.bl (decide (j<k))) S:=rfl;have f:aw .Lt (.int k) (.int l) S=.ok (.bl (decide (k<l))) S:=rfl;simp only[am,h1,h,H,g,Res.bind,C,e,f,Res.noErr,ax];by_cases q:i<=j<;>by_cases Q:j<k<;>simp[q,Q]
theorem EN(a:Flat S)(h:∀x∈xs,Kn x)(c:xs.length<=1000):am bE G0 K3 [some d,some (.tup xs)] S=.ok (!(decide (xs.length=2)&&xs.all jC)) S:=by have H:ah bE G0 (.blt .all [NO]) [some d,some (.tup xs)] S=.ok (.bl (xs.all jC)) S:=lM (S:=S) (lL (S:=S) (rs:=[]) (f:=jC) (hE rfl) rfl c λd b=>by have e:ir [d] S=.ok (.bl (jC d)) S:=K92.lJ a (h d b);trivial);have:=eZ (bd (du (Φ:=bE) (S:=S) (ρ:=[some d,some (.tup xs)]) (i:=1) (d:=.tup xs) (k:=Ox) rfl rfl)) (eZ (hH (i:=1) (xs:=xs) rfl) (bd (lR H)));refine Eq.trans this ?_;simp
theorem qH(b:Flat S){T e:D}(h:Item e):ag bE G0 sO [some (.tup [.int m,T]),some e] S=if hG m e=Ox then .ok (.next [some (.tup [.int m,T]),some e]) S else .ok (.ret (.bl Oy)) S:=by
 rcases h with⟨t,rfl⟩|h
 ·have a:am bE G0 K3 [some (.tup [.int m,T]),some (aq t)] S=.ok Oy S:=EN b (xs:=[.int t.1,.int t.2]) (by intro x c;simp at c;rcases c with rfl|rfl<;>exact .inl ⟨_,rfl⟩) (by simp);have H:am bE G0 NP [some (.tup [.int m,T]),some (aq t)] S=.ok (hG m (aq t)) S:=Mp av (ft (al rfl) av rfl) (ft (al rfl) av rfl) (ft (al rfl) av rfl);refine(gu a).trans ?_;cases e:hG m (aq t)with
  |true=>rw[e]at H;exact(gu (bd H)).trans rfl
  |false=>rw[e]at H;exact jG (bd H)
 ·rw[EG h];refine jG ?_;rcases h.kn.nt with d| ⟨X,rfl⟩
  ·exact fu (bd (du rfl (d S)))
  ·obtain⟨a,H,q⟩:=h.tu X rfl;refine(EN b a H).trans ?_;simp_all
theorem EO(a:Flat S){m:Int}{T:D}:∀(es:List D) (x:Option D),(∀e∈es,Item e)->if es.all (hG m)=Ox then ∃y,cK (λx ρ S=>match aL (.var 1) x ρ with
   |some ρ'=>ag bE G0 sO ρ' S
   |none=>.fail) es [some (.tup [.int m,T]),x] S=.ok (.next [some (.tup [.int m,T]),y]) S else cK (λx ρ S=>match aL (.var 1) x ρ with
   |some ρ'=>ag bE G0 sO ρ' S
   |none=>.fail) es [some (.tup [.int m,T]),x] S=.ok (.ret (.bl Oy)) S
 | [],x,_=>⟨x,rfl⟩
 |e::es,x,h=>by
  have H:=qH a (m:=m) (T:=T) (h e Zd);have i:=EO a (m:=m) (T:=T) es (some e) λz d=>h z (Zc _ d);have b:aL (.var 1) e [some (.tup [.int m,T]),x]=some [some (.tup [.int m,T]),some e]:=rfl;rw[Pa];cases c:hG m e with
  |false=>rw[c]at H;unfold cK;rw[b];dsimp only;rw[H];rfl
  |true=>rw[c]at H;unfold cK;rw[b];dsimp only;rw[H];exact i
noncomputable def yz(t:Int×Int):Li:=[t.1,t.2]
theorem EQ:∀{l:List (Li)},(∀k∈l,∃t,k=yz t)->∃rs:Lq,l=rs.map yz
 | [],_=>⟨[],rfl⟩
 |k::l,h=>by obtain⟨t,rfl⟩:=h k Zd;obtain⟨rs,rfl⟩:=EQ λz H=>h z (Zc _ H);exact⟨t::rs,rfl⟩
theorem Mq(s:ps.length<64):∃q,eH (.tup (aa ps)) S=.ok (.lst (aa q)) S/\q.Pairwise aE/\∀t,t∈q↔t∈ps:=by
 cases ps with
 |nil=>exact⟨[],rfl,.nil,λ_=>Iff.rfl⟩
 |cons p ps=>
  have g:(aa (p::ps)).map fP=(p::ps).map yz:=by unfold aa;rw[Pb];exact T3 λt _=>rfl
  obtain⟨n,N⟩:=By ((p::ps).map yz);obtain⟨r,E⟩:=EQ (l:=kc ((p::ps).map yz)) λk i=>by obtain⟨t,_,e⟩:=Zs.mp ((N k).mp i);exact⟨t,e.symm⟩
  have j:r.Nodup:=by rw[E]at n;exact(Qw.mp n).imp λh e=>h (by rw[e])
  refine⟨sortI r,?_,K92.qf j,λt=>?_⟩
  ·have C:(aa (p::ps)).all (az (.seq .int))=Ox/\(aa (p::ps)).length<64/\((aa (p::ps)).all λd=> !fO d)=Ox:=by
    refine⟨Zp.mpr λx f=>?_,by unfold aa;rw[Zn];omega,Zp.mpr λx f=>?_⟩<;>
    ·obtain⟨t,_,rfl⟩:=Zs.mp f;rfl
   have m:eH (.tup (aa (p::ps))) S=.ok (.lst (eE ((aa (p::ps)).map fP))) S:=by
    unfold eH
    first
     |exact(if_neg o).trans (if_pos C)
     |exact if_pos C
   rw[m,g];unfold eE;rw[E,Pb,<-K92.DZ];rfl
  ·rw[(K92.iw r).mem_iff];have:=N (yz t);rw[E]at this;constructor
   ·intro h;obtain⟨u,H,e⟩:=Zs.mp (this.mp (RR h));obtain⟨a,b⟩:=u;obtain⟨c,d⟩:=t;cases e;exact H
   ·intro h;obtain⟨u,H,e⟩:=Zs.mp (this.mpr (RR h));obtain⟨a,b⟩:=u;obtain⟨c,d⟩:=t;cases e;exact H
theorem qI:∀{l k:Lq},l.Pairwise aE->k.Pairwise aE->(∀p,p∈l↔p∈k)->l=k:=λ{l k} H c h=>by
 refine Sl (le:=aE) (λx y _ _ H c=>?_) H c ?_
 ·unfold aE at H c;lia
 ·have n:∀{l:Lq},l.Pairwise aE->l.Nodup:=λh=>h.imp λ{a b} h e=>by
   subst e;unfold aE at h;simp_all
  exact(Qa (n H) (n c)).mpr h
theorem xJ(a b:Lq):aw .Eq (.lst (aa a)) (.lst (aa b)) S=.ok (.bl (decide (a=b))) S:=by
 by_cases h:a.length=b.length
 ·exact K92.lQ a b h
 ·show bb (if(aa a).length=(aa b).length then bo (OC (bY S 39) (aa a) (aa b))else some Oy) S=_;rw[if_neg (by unfold aa;rw[Zn,Zn];exact h),Zy λe=>h (by rw[e])];rfl
theorem xK(f:Flat S){es:List D}(l:1<=m/\m<=8)(i:∀e∈es,Item e)(j:es.length<64):∃k,dD [.tup [.int m,.tup es]] S=.ok (.bl k) S/\eX [.tup [.int m,.tup es]] S=.ok (.bl k) S:=by
 have v:am bE G0 yy [some (.tup [.int m,.tup es]),none] S=.ok Oy S:=by have:=lW (b:=.tup es) f (a:=.int m) (.inl ⟨m,rfl⟩);rw[show frB (.int m)=Ox from ZA l]at this;exact this
 have dT:∀x,ah bE G0 hY [some (.tup [.int m,.tup es]),x] S=.ok (.tup es) S:=λx=>ft (al rfl) av rfl;have w:am bE G0 (.bnot (.blt .isinst [hY,.ty "tuple"])) [some (.tup [.int m,.tup es]),none] S=.ok Oy S:=rfl;have q:a7 bE G0 (.seq hY) [some (.tup [.int m,.tup es]),none] S=.ok (.items es) S:=K92.lS (dT none) rfl;have H:=EO f (m:=m) (T:=.tup es) es none i
 have c:∀{F:Bool},ag bE G0 [.for_ (.var 1) (.seq hY) sO,.ret (.cmp .Eq (.blt (.list Oy) [hY]) (.sset hY))] [some (.tup [.int m,.tup es]),none] S=.ok (.ret (.bl F)) S->eX [.tup [.int m,.tup es]] S=.ok (.bl F) S:=λ{F} h=>by refine aP rfl ?_ rfl f rfl;show ag bE G0 pQ [some (.tup [.int m,.tup es]),none] S=_;rw[EL];exact(gu v).trans ((gu w).trans h)
 cases g:es.all (hG m)with
 |false=>rw[g,if_neg (by decide)]at H;refine⟨Oy,?_,c (br (Eq.trans (gr (t:=.var 1) (body:=sO) q) H))⟩;have:=qF f (k:=Oy) l i (by omega) (λz=>by rw[g]at z;cases z);rw[g]at this;exact this
 |true=>
  rw[g,if_pos rfl]at H;obtain⟨y,H⟩:=H;obtain⟨P,rfl⟩:=xF g;have n:P.length<64:=by unfold aa at j;rw[Zn]at j;exact j
  have B:=K92.xp (S:=S) f (ps:=P) (by omega);refine⟨dn P,?_,c ((aW (Eq.trans (gr (t:=.var 1) (body:=sO) q) H)).trans (br (fq ?_)))⟩
  ·have:=qF f (k:=dn P) l i (by omega) λ_=>B;rw[g]at this;exact this
  ·obtain⟨Q,s,E,u⟩:=Mq (S:=S) n;have d1:=dT y
   have A:decide (P=Q)=dn P:=by rw[Pk,decide_eq_true_eq,K92.xo];exact⟨λe=>by rw[e];exact E,λh=>qI h E λp=>(u p).symm⟩
   refine xE (d:=.lst (aa P)) (e:=.lst (aa Q)) (S1:=S) (jF d1 rfl) ?_ (by rw[xJ,A]);rw[ah];refine Eq.trans (congrArg (λr=>Res.bind r λd o=>(eH d o).noErr) d1) ?_;show(eH (.tup (aa P)) S).noErr=_;rw[s];rfl
structure cr (d:D):Prop where
 is:NT d\/∃xs,d=.tup xs/\(xs.length≠2\/∃a b,xs=[a,b]/\Kn a/\(NT b\/∃es,b=.tup es/\(∀e∈es,Item e)/\es.length<64))
 lo:a_ 0 d=Ox
noncomputable def ee(c:Nat):Option Int:=if 48<=c/\c<=57 then some ((c:Int)-48)else none
noncomputable def lY(w:Str):Option Int:=match w.cps.toList with
 | [c]=>ee c
 |_=>none
noncomputable def oD:Option Int->D
 |some i=>.int i
 |none=>.non
noncomputable def c0:Str:="0123456789"
theorem xL{w:Str}(h:w.length=1):∃c,w=⟨#[c]⟩:=by
 obtain⟨a⟩:=w;obtain⟨l⟩:=a
 match l,h with
 | [c],_=>exact⟨c,rfl⟩
theorem qJ{w:Str}(h:w.length≠1):lY w=none:=by
 unfold lY;split
 ·rename_i c e;exact absurd (by show w.cps.size=1;rw[<-ZH,e];rfl) h
 ·rfl
theorem ER(c:Nat):lY ⟨#[c]⟩=ee c:=rfl
theorem Mr(c:Nat):c∈([48,49,50,51,52,53,54,55,56,57]:List Nat)↔48<=c/\c<=57:=by rw[show([48,49,50,51,52,53,54,55,56,57]:List Nat)=List.range' 48 10 from rfl,List.mem_range'_1];exact and_congr_right' Nat.lt_succ_iff
theorem qK(c:Nat):(c∈c0.cps.toList)↔48<=c/\c<=57:=by
 have e:c0.cps.toList=[48,49,50,51,52,53,54,55,56,57]:=by decide+kernel
 rw[e];exact Mr c
theorem qL:∀c∈[48,49,50,51,52,53,54,55,56,57],OP c0 ⟨#[c]⟩ 0 c0.length 1=[c-48]:=by decide+kernel
theorem ES(c:Nat):f7 (.str ⟨#[c]⟩) (.str c0) S=some (decide (48<=c/\c<=57)):=by show some (!(OP c0 ⟨#[c]⟩ 0 c0.length 1).isEmpty)=_;rw[StrLaws.found_one];congr 1;exact decide_eq_decide.mpr (qK c)
theorem lZ(f:Flat S)(w:Str)(j:w.length<=a'):pI [.str w] S=.ok (oD (lY w)) S:=by
 have E:aA .len [.str w] S=.ok (.int w.length) S:=by show(if w.length<=a' then _ else _)=_;rw[if_pos j]
 refine aP rfl ?_ rfl f (by cases lY w<;>rfl);show ag C3 G0 lj [some (.str w)] S=_;have a:aw .Eq (.int (w.length:Int)) (.int 1) S=.ok (.bl ((w.length:Int)==1)) S:=rfl;have g:G0 "FIGURES"=some (.str c0):=rfl;by_cases h:w.length=1
 ·obtain⟨c,rfl⟩:=xL h;rw[ER];have b:aw .In (.str ⟨#[c]⟩) (.str c0) S=.ok (.bl (decide (48<=c/\c<=57))) S:=(show aw .In (.str ⟨#[c]⟩) (.str c0) S=bb (f7 (.str ⟨#[c]⟩) (.str c0) S) S from rfl).trans (by rw[ES];rfl);have e:(((⟨#[c]⟩:Str).length:Int)==1)=Ox:=by rw[h];rfl
  by_cases H:48<=c/\c<=57
  ·have d:gI .index c0 [.str ⟨#[c]⟩] S=.ok (.int ((c:Int)-48)) S:=by
    show(match OP c0 ⟨#[c]⟩ 0 c0.length 1 with|i::_=>Res.ok (D.int i) S| []=>.fail)=_;rw[qL c ((Mr c).mpr H)];show Res.ok (D.int (((c-48:Nat)):Int)) S=_;rw[show((c-48:Nat):Int)=(c:Int)-48 by omega]
   rw[show ee c=some ((c:Int)-48)from if_pos H];simp[lj,ag,ar,ah,am,ai,Res.bind,Res.noErr,ax,E,a,g,b,e,d,H,oD]
  ·rw[show ee c=none from if_neg H];simp[lj,ag,ar,ah,am,ai,Res.bind,Res.noErr,ax,E,a,g,b,e,H,oD]
 ·rw[qJ h];have e:((w.length:Int)==1)=Oy:=by rw[beq_eq_false_iff_ne];omega
  simp[lj,ag,ar,ah,am,ai,Res.bind,Res.noErr,ax,E,a,e,oD]
noncomputable def cM(w:Str):Option (Option Int×Option Int):=match w.cps.toList with
 | [a,b,c]=>if b=45 then some (ee a,ee c)else none
 |_=>none
noncomputable def bO:Option (Option Int×Option Int)->D
 |some (p,q)=>.tup [oD p,oD q]
 |none=>.non
noncomputable def cj(w:Str):Option (Int×Int):=match cM w with
 |some (some p,some q)=>some (p,q)
 |_=>none
noncomputable def bK:Option (Int×Int)->D
 |some t=>aq t
 |none=>.non
theorem ET{w:Str}(h:w.length=3):∃a b c,w=⟨#[a,b,c]⟩:=by
 obtain⟨a⟩:=w;obtain⟨l⟩:=a
 match l,h with
 | [a,b,c],_=>exact⟨a,b,c,rfl⟩
theorem EU{w:Str}(h:w.length≠3):cM w=none:=by
 unfold cM;split
 ·rename_i a b c e;exact absurd (by show w.cps.size=3;rw[<-ZH,e];rfl) h
 ·rfl
theorem fv{w:Str}{i:Int}{c:Nat}(H:w.length<=a')(h:fA w.cps.toList i=some c):a8 (.str w) (.int i) S=.ok (.str ⟨#[c]⟩) S:=by show(if w.length<=a' then(match fA w.cps.toList i with|some c=>Res.ok (D.str ⟨#[c]⟩) S|none=>.fail)else .fail)=_;rw[if_pos H,h]
theorem l4(b c:Nat):aw .NotEq (.str ⟨#[b]⟩) (.str ⟨#[c]⟩) S=.ok (.bl (!(decide (b=c)))) S:=by
 have e:bY S bu (.str ⟨#[b]⟩) (.str ⟨#[c]⟩)=some ((⟨#[b]⟩:Str)==⟨#[c]⟩):=rfl;have E:((⟨#[b]⟩:Str)==⟨#[c]⟩)=decide (b=c):=by lia
 show bb ((bY S bu (.str ⟨#[b]⟩) (.str ⟨#[c]⟩)).map not) S=_;rw[e,E];rfl
theorem EV:("-":Str)=⟨#[45]⟩:=by decide+kernel
theorem Ms(f:Flat S)(w:Str)(H:w.length<=a'):wn [.str w] S=.ok (bO (cM w)) S:=by
 have E:aA .len [.str w] S=.ok (.int w.length) S:=by show(if w.length<=a' then _ else _)=_;rw[if_pos H]
 have d:aw .NotEq (.int (w.length:Int)) (.int 3) S=.ok (.bl (!((w.length:Int)==3))) S:=rfl;refine aP rfl ?_ rfl f ?_
 rotate_left
 ·unfold bO;split
  ·rename_i p q _;cases p<;>cases q<;>rfl
  ·rfl
 by_cases h:w.length=3
 ·obtain⟨a,b,c,rfl⟩:=ET h;have e:(((⟨#[a,b,c]⟩:Str).length:Int)==3)=Ox:=by rw[h];rfl
  have j:a8 (.str ⟨#[a,b,c]⟩) (.int 0) S=.ok (.str ⟨#[a]⟩) S:=fv H rfl;have I:a8 (.str ⟨#[a,b,c]⟩) (.int 1) S=.ok (.str ⟨#[b]⟩) S:=fv H rfl;have k:a8 (.str ⟨#[a,b,c]⟩) (.int 2) S=.ok (.str ⟨#[c]⟩) S:=fv H rfl;have i:(1:Nat)<=a':=by decide
  have f0:=lZ f ⟨#[a]⟩ i;have F:=lZ f ⟨#[c]⟩ i;rw[ER]at f0 F;have n:=l4 (S:=S) b 45;rw[<-EV]at n;by_cases g:b=45
  ·subst g;rw[show cM ⟨#[a,45,c]⟩=some (ee a,ee c)from rfl];simp[pJ,ag,ar,ah,am,ai,Res.bind,Res.noErr,ax,E,d,e,j,I,k,n,KA,f0,F,bO]
  ·rw[show cM ⟨#[a,b,c]⟩=none from if_neg g];simp[pJ,ag,ar,ah,am,ai,Res.bind,Res.noErr,ax,E,d,e,I,n,g,bO]
 ·rw[EU h];have e:((w.length:Int)==3)=Oy:=by rw[beq_eq_false_iff_ne];omega
  simp[pJ,ag,ar,ah,am,ai,Res.bind,Res.noErr,ax,E,d,e,bO]
theorem EW(c:Nat):aw .NotIn (.str ⟨#[c]⟩) (.str c0) S=.ok (.bl (!(decide (48<=c/\c<=57)))) S:=(show aw .NotIn (.str ⟨#[c]⟩) (.str c0) S=bb ((f7 (.str ⟨#[c]⟩) (.str c0) S).map not) S from rfl).trans (by rw[ES];rfl)
theorem qM:∀c∈[48,49,50,51,52,53,54,55,56,57],intText? ⟨#[c]⟩=some ((c:Int)-48):=by decide+kernel
theorem EX{c:Nat}(h:48<=c/\c<=57):aA .int [.str ⟨#[c]⟩] S=.ok (.int ((c:Int)-48)) S:=by show(if(⟨#[c]⟩:Str).length<=640 then(match intText? ⟨#[c]⟩with|some n=>Res.ok (D.int n) S|none=>.fail)else .fail)=_;rw[if_pos (by show(1:Nat)<=640;decide),qM c ((Mr c).mpr h)]
theorem Mt(l:Flat S)(w:Str)(g:w.length<=a'):jk [.str w] S=.ok (bK (cj w)) S:=by
 have E:aA .len [.str w] S=.ok (.int w.length) S:=by show(if w.length<=a' then _ else _)=_;rw[if_pos g]
 have d:aw .NotEq (.int (w.length:Int)) (.int 3) S=.ok (.bl (!((w.length:Int)==3))) S:=rfl;refine aP rfl ?_ rfl l (by unfold bK;split<;>rfl);show ag C7 G0 iq [some (.str w)] S=_;unfold cj;by_cases h:w.length=3
 ·obtain⟨a,b,c,rfl⟩:=ET h;have e:(((⟨#[a,b,c]⟩:Str).length:Int)==3)=Ox:=by rw[h];rfl
  have I:a8 (.str ⟨#[a,b,c]⟩) (.int 0) S=.ok (.str ⟨#[a]⟩) S:=fv g rfl;have i:a8 (.str ⟨#[a,b,c]⟩) (.int 1) S=.ok (.str ⟨#[b]⟩) S:=fv g rfl;have k:a8 (.str ⟨#[a,b,c]⟩) (.int 2) S=.ok (.str ⟨#[c]⟩) S:=fv g rfl;have n:=l4 (S:=S) b 45;rw[<-EV]at n;have m:aw .NotIn (.str ⟨#[a]⟩) (.str "0123456789") S=_:=EW (S:=S) a;have M:aw .NotIn (.str ⟨#[c]⟩) (.str "0123456789") S=_:=EW (S:=S) c;by_cases j:b=45
  ·subst j;rw[show cM ⟨#[a,45,c]⟩=some (ee a,ee c)from rfl];by_cases H:48<=a/\a<=57
   ·rw[show ee a=some ((a:Int)-48)from if_pos H];by_cases f:48<=c/\c<=57
    ·rw[show ee c=some ((c:Int)-48)from if_pos f];have J:=EX (S:=S) H;have o:=EX (S:=S) f;simp[iq,ag,ar,ah,am,ai,Res.bind,Res.noErr,ax,E,d,e,I,i,k,n,m,M,H,f,J,o,bK,aq]
    ·rw[show ee c=none from if_neg f];simp[iq,ag,ar,ah,am,ai,Res.bind,Res.noErr,ax,E,d,e,I,i,k,n,m,M,H,f,bK]
   ·rw[show ee a=none from if_neg H];simp[iq,ag,ar,ah,am,ai,Res.bind,Res.noErr,ax,E,d,e,I,i,n,m,H,bK]
  ·rw[show cM ⟨#[a,b,c]⟩=none from if_neg j];simp[iq,ag,ar,ah,am,ai,Res.bind,Res.noErr,ax,E,d,e,i,n,j,bK]
 ·rw[EU h];have e:((w.length:Int)==3)=Oy:=by rw[beq_eq_false_iff_ne];omega
  simp[iq,ag,ar,ah,am,ai,Res.bind,Res.noErr,ax,E,d,e,bK]
theorem qN(b:Flat S)(ns:Li):∃c:Int,jl [.scr (ns.map D.int),.int 0] S=.ok (.int c) S:=by
 cases ns with
 |nil=>exact⟨0,aP rfl rfl rfl b rfl⟩
 |cons n ns=>
  refine⟨n,aP rfl ?_ rfl b rfl⟩;have h:c_ [.scr ((n::ns).map D.int)] S=.ok (.int ((n::ns).map D.int).length) S:=rfl
  have H:aw .Lt (.int 0) (.int ((n::ns).map D.int).length) S=.ok (.bl Ox) S:=by have:aw .Lt (.int 0) (.int ((n::ns).map D.int).length) S=.ok (.bl (decide ((0:Int)<((n::ns).map D.int).length))) S:=rfl;rw[this,ZA (by simp)]
  have a:a8 (.scr ((n::ns).map D.int)) (.int 0) S=.ok (.int n) S:=by
   unfold a8
   have:fA ((n::ns).map D.int) 0=some (.int n):=by
    unfold fA hV;simp
    try omega
   simp only[aB,this]
  generalize(n::ns).map D.int=x at h H a;simp[C9,C8,ag,ar,am,ah,ai,Res.bind,Res.noErr,ax,aA,h,H,a]
theorem xM(h:Flat S)(c:Int):∃b:Int,jm [.int c] S=.ok (.ref S.length) (S++[[.int c,.int b]]):=by refine⟨if decide ((10:Int)^18<=c)=Ox then 1 else 0,?_⟩;have e:ag wv G0 wu ([D.int c].map some++OG (wt.length-1) none) S=.ok (.ret (.ref S.length)) (S++[[.int c,.int (if decide ((10:Int)^18<=c)=Ox then 1 else 0)]]):=rfl;show aJ wv G0 wu wt.length 1 [.int c] S=_;unfold aJ;rw[if_pos (show [D.int c].length=1 from rfl),e];show eS S.length (.ref S.length) _=_;unfold eS;rw[Sv rfl,if_pos h.all,if_neg (by unfold a_;simp)];simp[bi,a_]
theorem Mu:b_=K92.b_:=rfl
section
variable {l:List D}{a:Int}{k:Nat}{o:D}
theorem c7:ai Φ G0 [] ρ S=.ok [] S:=by rw[ai]
theorem aU{e:CE}{es:List CE}(h1:ah Φ G0 e ρ S=.ok d S)(h:ai Φ G0 es ρ S=.ok ds S):ai Φ G0 (e::es) ρ S=.ok (d::ds) S:=by simp only[ai,h1,h,Res.bind]
theorem gx{es:List CE}(h:ai Φ G0 es ρ S=.ok ds S):ah Φ G0 (.tup es) ρ S=.ok (.tup ds) S:=by simp only[ah,h,Res.bind]
theorem l5{es:List CE}(h:ai Φ G0 es ρ S=.ok ds S):ah Φ G0 (.lst Oy es) ρ S=.ok (.lst ds) S:=by simp only[ah,h,Res.bind,Zw,Z3]
theorem NR{es:List CE}(h:ai Φ G0 es ρ S=.ok ds S):ah Φ G0 (.lst Ox es) ρ S=.ok (.ref S.length) (S++[ds]):=by simp only[ah,h,Res.bind,if_true]
theorem Mv:ah Φ G0 (.neg (.lit (.int 1))) ρ S=.ok (.int (-1)) S:=by rw[ah];rfl
theorem o0:(ai Φ G0 [] ρ S).bind cz=.ok none S:=by rw[ai];rfl
theorem o1{e:CE}{i:Int}(h:ah Φ G0 e ρ S=.ok (.int i) S):(ai Φ G0 [e] ρ S).bind cz=.ok (some i) S:=by simp only[ai,h,Res.bind];rfl
theorem yA{e:CE}{L H:List CE}{x y:Option Int}(h:ah Φ G0 e ρ S=.ok (.tup l) S)(h1:(ai Φ G0 L ρ S).bind cz=.ok x S)(c:(ai Φ G0 H ρ S).bind cz=.ok y S):ah Φ G0 (.sl e L H) ρ S=.ok (.tup (bF l x y)) S:=by rw[ah,h];show(((ai Φ G0 L ρ S).bind cz).bind λd b=>((ai Φ G0 H ρ b).bind cz).bind λh a=>(ig (.tup l) d h a).noErr)=_;rw[h1];show(((ai Φ G0 H ρ S).bind cz).bind λh a=>(ig (.tup l) x h a).noErr)=_;rw[c];rfl
theorem l6{e f:CE}{p q:List D}(h1:ah Φ G0 e ρ S=.ok (.tup p) S)(H:ah Φ G0 f ρ S=.ok (.tup q) S)(h:p.length+q.length<=1000):ah Φ G0 (.bin .Add e f) ρ S=.ok (.tup (p++q)) S:=eY h1 H (qx h)
theorem d1{e:CE}{i:Int}(h:ah Φ G0 e ρ S=.ok (.int i) S):ah Φ G0 (.bin .Add e (.lit (.int 1))) ρ S=.ok (.int (i+1)) S:=eY h av rfl
theorem d2{e:CE}{i:Int}(h:ah Φ G0 e ρ S=.ok (.int i) S):ah Φ G0 (.bin .Add e (.lit (.int 2))) ρ S=.ok (.int (i+2)) S:=eY h av rfl
theorem Mw{e:CE}{i:Int}(h:ah Φ G0 e ρ S=.ok (.int i) S):ah Φ G0 (.bin .Sub e (.lit (.int 1))) ρ S=.ok (.int (i-1)) S:=eY h av rfl
theorem NS:ah Φ G0 (.bin .Pow (.lit (.int 10)) (.lit (.int 30))) ρ S=.ok (.int (10^30)) S:=eY av av rfl
theorem EY{R:af}(b:Flat (S++R))(d:aS S n){c:Int}(a:0<c)(h1:c<1000):∃r S',0<=r/\r<c/\Drawn n S S'/\b_ [.ref n,.int c] (S++R)=.ok (.int r) (S'++R):=by obtain⟨x,y,H⟩:=d;have h:=(Zg.mp H).1;obtain⟨r,T,f,g,⟨u,v,rfl⟩,e⟩:=fJ b (n:=n) ⟨x,y,by rw[Zv h];exact H⟩ a h1;exact⟨r,S.set n [.int u,.int v],f,g,⟨u,v,rfl⟩,by rw[Mu,e,RJ _ _ h]⟩
theorem qO{R:af}(H:Flat (S++R))(g:aS S n){e:CE}{c:Int}(h:0<c)(h1:c<1000)(i:ρ[0]?=some (some (.ref n)))(f:ah bC G0 e ρ (S++R)=.ok (.int c) (S++R)):∃r S',0<=r/\r<c/\Drawn n S S'/\ah bC G0 (gm e) ρ (S++R)=.ok (.int r) (S'++R):=by obtain⟨r,S',a,b,c,d⟩:=EY H g h h1;exact⟨r,S',a,b,c,K92.fK K1 (al i) f d⟩
theorem qP(l:List D)(k:Nat):(bF l (some (k:Int)) (some ((k:Int)+1))).length<=1:=by
 have e:((k:Int)+1)=((k+1:Nat):Int):=by rfl
 rw[e];unfold bF;simp only[HT.m_,OV];omega
def IL(c:Nat)(xs:List D):Prop:=xs.length<=c/\∀e∈xs,It e
theorem IL.cut{c:Nat}(h:IL c l)(x y:Option Int):IL c (bF l x y):=⟨Zl (qy l x y) h.1,λe H=>h.2 e ((ED l x y).subset H)⟩
theorem IL.app{b c:Nat}{ys:List D}(h:IL b xs)(h':IL c ys):IL (b+c) (xs++ys):=⟨by rw[Zk];have:=h.1;have:=h'.1;lia,λe H=>(ZC.mp H).elim (h.2 e) (h'.2 e)⟩
theorem IL.one(h:It o):IL 1 [o]:=⟨Zf _,λe H=>by rw[OT.mp H];exact h⟩
theorem IL.fine{c:Nat}(h:IL c l)(H:c<64):dq (.tup l):=iz (by have:=h.1;omega) h.2
theorem IL.at_(h:IL 28 l)(k:Nat):IL 1 (bF l (some (k:Int)) (some ((k:Int)+1))):=⟨qP l k,(h.cut _ _).2⟩
theorem Mx:wK=[.asgT (.tup [.var 2,.var 3]) (.var 1),.asg 4 (gm (.bin .Add (.blt .len [.var 3]) (.lit (.int 1)))),.asg 5 (.lst Oy jq),.asg 5 (.idx (.bin .Add (.var 5) (.lst Oy jr)) (gm (.lit (.int 15)))),.asg 6 (.lst Ox js),.expr (.meth .append (.var 6) [jt]),.asg 6 (.catB (.var 6) (.lst Oy ju)),.asg 7 jv,.expr (.meth .append (.var 6) [jw]),.ite (.cmp .Gt (gm (.lit (.int 3))) (.lit (.int 0))) [.ret (.tup [.var 2,.idx (.var 6) (gm (.lit (.int 10)))])] [],.asg 8 (.lst Ox lr),.asg 8 (.catB (.var 8) (.lst Oy lu)),.expr (.meth .append (.var 8) [lv]),.ret (.idx (.var 8) (gm (.lit (.int 18))))]:=rfl
theorem l7(H:ρ[2]?=some (some (.int m)))(j:ρ[3]?=some (some (.tup l)))(k:It (.tup l)):∃o q:List D,(∀e∈o++q,It e)/\o.length=11/\q.length=4/\ai Φ G0 jq ρ S=.ok o S/\ai Φ G0 jr ρ S=.ok q S:=by
 have d:∀i:Int,Kn (.int i):=λi=>.inl ⟨i,rfl⟩;have f:∀i:Bool,Kn (.bl i):=λi=>.inr (.inl ⟨i,rfl⟩);refine⟨[aq (0,0),aq (1,0),aq (0,m),aq (-1,0),.tup [.bl Oy,.bl Ox],.tup [.int 0,.bl Ox],.tup [.int 0],.tup [.int 0,.int 1,.int 2],.lst [.int 0,.int 1],.non,.str "01"],[aq (m-1,m-1),aq (0,10^30),aq (0,1),.tup l],λe g=>?_,rfl,rfl,?_,?_⟩
 ·simp only[ZC,Zh,Zt,ZZ]at g;rcases g with(rfl|rfl|rfl|rfl|rfl|rfl|rfl|rfl|rfl|rfl|rfl)| (rfl|rfl|rfl|rfl)
  ·exact fL _
  ·exact fL _
  ·exact fL _
  ·exact fL _
  ·exact jE (by intro x h;simp at h;rcases h with rfl|rfl<;>exact f _) (by simp) (.inr rfl) rfl
  ·exact jE (by intro x h;simp at h;rcases h with rfl|rfl;exact d _;exact f _) (by simp) (.inr rfl) rfl
  ·exact jE (by intro x h;simp at h;rcases h with rfl;exact d _) (by simp) (.inl (by simp)) rfl
  ·exact jE (by intro x h;simp at h;rcases h with rfl|rfl|rfl<;>exact d _) (by simp) (.inl (by simp)) rfl
  ·exact qw (.inr (.inr (.inr (.inr (.inr ⟨_,rfl⟩))))) (λ_=>rfl) rfl
  ·exact qw (.inr (.inr (.inr (.inl rfl)))) (λ_=>rfl) rfl
  ·exact qw (.inr (.inr (.inl ⟨_,rfl⟩))) (λ_=>rfl) rfl
  ·exact fL _
  ·exact fL _
  ·exact fL _
  ·exact k
 ·have t:∀{a b:CE} {x y:Int},ah Φ G0 a ρ S=.ok (.int x) S->ah Φ G0 b ρ S=.ok (.int y) S->ah Φ G0 (.tup [a,b]) ρ S=.ok (aq (x,y)) S:=λc H=>gx (aU c (aU H c7));exact aU (t av av) (aU (t av av) (aU (t av (al H)) (aU (t Mv av) (aU (gx (aU av (aU av c7))) (aU (gx (aU av (aU av c7))) (aU (gx (aU av c7)) (aU (gx (aU av (aU av (aU av c7)))) (aU (l5 (aU av (aU av c7))) (aU av (aU av c7))))))))))
 ·have t:∀{a b:CE} {x y:Int},ah Φ G0 a ρ S=.ok (.int x) S->ah Φ G0 b ρ S=.ok (.int y) S->ah Φ G0 (.tup [a,b]) ρ S=.ok (aq (x,y)) S:=λc H=>gx (aU c (aU H c7));exact aU (t (Mw (al H)) (Mw (al H))) (aU (t av NS) (aU (t av av) (aU (al j) c7)))
variable (h39:ρ[3]?=some (some (.tup l)))(h49:ρ[4]?=some (some (.int (k:Int))))(hl9:IL 28 l)
include h39 h49
theorem yB:ah Φ G0 sA ρ S=.ok (.tup (bF l none (some (k:Int)))) S:=yA (al h39) o0 (o1 (al h49))
theorem My:ah Φ G0 sB ρ S=.ok (.tup (bF l (some (k:Int)) none)) S:=yA (al h39) (o1 (al h49)) o0
theorem NU:ah Φ G0 sC ρ S=.ok (.tup (bF l (some ((k:Int)+1)) none)) S:=yA (al h39) (o1 (d1 (al h49))) o0
theorem EZ:ah Φ G0 sD ρ S=.ok (.tup (bF l (some (k:Int)) (some ((k:Int)+1)))) S:=yA (al h39) (o1 (al h49)) (o1 (d1 (al h49)))
theorem Oj:ah Φ G0 sE ρ S=.ok (.tup (bF l (some ((k+1:Nat):Int)) (some (((k+1:Nat):Int)+1)))) S:=by have:=yA (al (Γ:=G0) (Φ:=Φ) (S:=S) h39) (o1 (d1 (al h49))) (o1 (d2 (al h49)));exact this
theorem Ol:ah Φ G0 sF ρ S=.ok (.tup (bF l (some ((k:Int)+2)) none)) S:=yA (al h39) (o1 (d2 (al h49))) o0
include hl9
theorem E1(H:ρ[5]?=some (some o))(b:It o):∃rs:List D,(∀e∈rs,dq e)/\rs.length=3/\ai Φ G0 js ρ S=.ok rs S:=by
 have a:=hl9.cut none (some (k:Int));have c:=hl9.cut (some (k:Int)) none;have C:=hl9.cut (some ((k:Int)+1)) none;have i:=a.app (.one b);refine⟨[_,_,.tup l.reverse],λe h=>?_,rfl,aU (l6 (l6 (yB h39 h49) (gx (aU (al H) c7)) (by have:=i.1;rw[Zk]at this;omega)) (My h39 h49) (by have:=i.1;have:=c.1;omega)) (aU (l6 (l6 (yB h39 h49) (gx (aU (al H) c7)) (by have:=i.1;rw[Zk]at this;omega)) (NU h39 h49) (by have:=i.1;have:=C.1;omega)) (aU ?_ c7))⟩
 ·simp only[Zh,Zt,ZZ]at h;rcases h with rfl|rfl|rfl
  ·exact(i.app c).fine (by omega)
  ·exact(i.app C).fine (by omega)
  ·exact iz (by rw[PM];have:=hl9.1;omega) λe h=>hl9.2 e (UD.mp h)
 ·simp only[ah,h39,Res.bind,Mv,K92.xB,Res.noErr]
theorem Mz:∃r,dq r/\ah Φ G0 jt ρ S=.ok r S:=by have i:=(hl9.cut none (some (k:Int))).app (hl9.cut (some ((k:Int)+1)) none);exact⟨_,i.fine (by omega),l6 (yB h39 h49) (NU h39 h49) (by have:=i.1;rw[Zk]at this;omega)⟩
theorem E2(H:It (.tup l)):∃rs:List D,(∀e∈rs,dq e)/\rs.length=5/\ai Φ G0 ju ρ S=.ok rs S:=by
 have i:=(hl9.cut none (some (k:Int))).app (hl9.at_ k);have c:=hl9.cut (some (k:Int)) none;have I:=c.app (hl9.cut none (some (k:Int)));refine⟨[_,.lst l,_,.non,.tup [.tup l]],λe h=>?_,rfl,aU (l6 (l6 (yB h39 h49) (EZ h39 h49) (by have:=i.1;rw[Zk]at this;omega)) (My h39 h49) (by have:=i.1;have:=c.1;omega)) (aU (jF (al h39) rfl) (aU (l6 (My h39 h49) (yB h39 h49) (by have:=I.1;rw[Zk]at this;omega)) (aU av (aU (gx (aU (al h39) c7)) c7))))⟩;simp only[Zh,Zt,ZZ]at h;rcases h with rfl|rfl|rfl|rfl|rfl
 ·exact(i.app c).fine (by omega)
 ·exact Mi hl9.2
 ·exact I.fine (by omega)
 ·exact⟨.inl λ_=>rfl,rfl⟩
 ·exact iz (by simp) λe h=>by rw[OT.mp h];exact H
theorem MA:∃t,IL 2 t/\ah Φ G0 jv ρ S=.ok (.tup t) S:=by have i:=(hl9.at_ (k+1)).app (hl9.at_ k);exact⟨_,i,l6 (Oj h39 h49) (EZ h39 h49) (by have:=i.1;rw[Zk]at this;omega)⟩
theorem MB{t:List D}(h:ρ[7]?=some (some (.tup t)))(H:IL 2 t):∃r,dq r/\ah Φ G0 jw ρ S=.ok r S:=by have i:=(hl9.cut none (some (k:Int))).app H;have c:=hl9.cut (some ((k:Int)+2)) none;exact⟨_,(i.app c).fine (by omega),l6 (l6 (yB h39 h49) (al h) (by have:=i.1;rw[Zk]at this;omega)) (Ol h39 h49) (by have:=i.1;have:=c.1;omega)⟩
omit h39 h49 hl9
end
section
variable {l:List D}{a:Int}{k:Nat}{o:D}
theorem e9{a b:D}(H:Kn a)(l:a_ 0 a=Ox)(h:dq b):cr (.tup [a,b]):=⟨.inr ⟨_,rfl,.inr ⟨a,b,rfl,H,h.is⟩⟩,by show(a_ 0 a&&(a_ 0 b&&Ox))=Ox;rw[l,h.lo];rfl⟩
theorem xN(h:xs.length≠2)(H:∀x∈xs,a_ 0 x=Ox):cr (.tup xs):=⟨.inr ⟨_,rfl,.inl h⟩,iy H⟩
theorem hJ(h:NT d)(H:a_ 0 d=Ox):cr d:=⟨.inl h,H⟩
theorem hO(i:Int):Kn (.int i):=.inl ⟨i,rfl⟩
theorem xO(i:Int):dq (.int i):=⟨.inl λ_=>rfl,rfl⟩
theorem xP:dq (.tup []):=iz (by simp) λe h=>by cases h
theorem qQ(h:ts.length<=28):cr (.tup (aa ts)):=by
 have l:a_ 0 (.tup (aa ts))=Ox:=K92.fo ts;by_cases a:ts.length=2
 ·match ts,a with
  | [t,u],_=>refine e9 (.inr (.inr (.inr (.inr (.inl ⟨_,rfl⟩))))) rfl (iz (by simp) λe H=>?_);simp only[Zh,Zt,ZZ]at H;rcases H with rfl|rfl<;>exact qw (hO _) (λ_=>rfl) rfl
 ·exact⟨.inr ⟨_,rfl,.inl (by simp[aa];omega)⟩,l⟩
theorem xQ(h1:1<=m)(h:m<=8):∃x,aA .str [.int m] S=.ok (.str x) S:=by refine⟨(toString m:String),?_⟩;show(if m.natAbs<2^64 then Res.ok (D.str (toString m:String)) S else .fail)=_;rw[if_pos (by omega)]
variable (h29:ρ[2]?=some (some (.int m)))(h39:ρ[3]?=some (some (.tup (aa ts))))(hl9:ts.length<=28)
include h29 h39 hl9
theorem xR(h:dq (.tup (aa ts))):∃rs:List D,(∀e∈rs,cr e)/\rs.length=8/\ai Φ G0 lr ρ S=.ok rs S:=by
 have t:∀{a b:CE} {x y:D},ah Φ G0 a ρ S=.ok x S->ah Φ G0 b ρ S=.ok y S->ah Φ G0 (.tup [a,b]) ρ S=.ok (.tup [x,y]) S:=λd h29=>gx (aU d (aU h29 c7));refine⟨_,λe c=>?_,?_,aU (t (d1 (al h29)) (al h39)) (aU (t (Mw (al h29)) (al h39)) (aU (t av (al h39)) (aU (t av (al h39)) (aU (t av (gx c7)) (aU (t av (al h39)) (aU (l5 (aU (al h29) (aU (al h39) c7))) (aU (gx (aU (al h29) c7)) c7)))))))⟩
 ·simp only[Zh,Zt,ZZ]at c;rcases c with rfl|rfl|rfl|rfl|rfl|rfl|rfl|rfl
  ·exact e9 (hO _) rfl h
  ·exact e9 (hO _) rfl h
  ·exact e9 (.inr (.inl ⟨_,rfl⟩)) rfl h
  ·exact e9 (hO _) rfl h
  ·exact e9 (hO _) rfl xP
  ·exact e9 (.inr (.inr (.inr (.inl rfl)))) rfl h
  ·exact hJ (λ_=>rfl) (iy λx H=>by simp only[Zh,Zt,ZZ]at H;rcases H with rfl|rfl;rfl;exact h.lo)
  ·exact xN (by simp) λx H=>by rw[OT.mp H];rfl
 ·rfl
theorem xS(h1:1<=m)(d:m<=8)(H:dq (.tup (aa ts))):∃rs:List D,(∀e∈rs,cr e)/\rs.length=9/\ai Φ G0 lu ρ S=.ok rs S:=by
 have t:∀{a b:CE} {x y:D},ah Φ G0 a ρ S=.ok x S->ah Φ G0 b ρ S=.ok y S->ah Φ G0 (.tup [a,b]) ρ S=.ok (.tup [x,y]) S:=λh1 h29=>gx (aU h1 (aU h29 c7));obtain⟨x,h⟩:=xQ (S:=S) h1 d;have f:ah Φ G0 .dct ρ S=.ok .dct S:=by rw[ah]
 refine⟨_,λe c=>?_,?_,aU (gx (aU (al h29) (aU (al h39) (aU (gx c7) c7)))) (aU (t (jF (al h29) h) (al h39)) (aU (t (al h39) (al h29)) (aU (al h39) (aU av (aU (al h29) (aU f (aU av (aU (t Mv (gx c7)) c7))))))))⟩
 ·simp only[Zh,Zt,ZZ]at c;rcases c with rfl|rfl|rfl|rfl|rfl|rfl|rfl|rfl|rfl
  ·exact xN (by simp) λx h=>by simp only[Zh,Zt,ZZ]at h;rcases h with rfl|rfl|rfl;rfl;exact H.lo;rfl
  ·exact e9 (.inr (.inr (.inl ⟨_,rfl⟩))) rfl H
  ·exact e9 (.inr (.inr (.inr (.inr (.inl ⟨_,rfl⟩))))) H.lo (xO _)
  ·exact qQ hl9
  ·exact hJ (λ_=>rfl) rfl
  ·exact hJ (λ_=>rfl) rfl
  ·exact hJ (λ_=>rfl) rfl
  ·exact hJ (λ_=>rfl) rfl
  ·exact e9 (hO _) rfl xP
 ·rfl
omit h29 h39 hl9
theorem E3:∃r,cr r/\ah Φ G0 lv ρ S=.ok r S:=⟨_,e9 (hO _) rfl xP,gx (aU NS (aU (gx c7) c7))⟩
theorem xT{b:Nat}{e:CE}{i:Nat}{A:List D}{r:D}(a:ρ[i]?=some (some (.ref S.length)))(H:ah bC G0 e ρ (S++[A])=.ok r (S++[A]))(c:A.length<=1000):ar bC G0 (.expr (.meth .append (.var i) [e])) ρ (S++[A])=.ok (.next ρ) (S++[A++[r]]):=by have h:=Ml (T:=S) (A:=A) (d:=r) (by lia);simp only[ar,ah,a,Res.bind,ai,H,fh,h,Res.noErr]
theorem E4{b:Nat}{i:Nat}{es:List CE}{A B:List D}(c:ρ[i]?=some (some (.ref b)))(H:S[b]?=some A)(a:ai bC G0 es ρ S=.ok B S)(hl9:A.length+B.length<=1000):ah bC G0 (.catB (.var i) (.lst Oy es)) ρ S=.ok (.ref S.length) (S++[A++B]):=by
 have h:gD (.ref b) (.lst B) S=.ok (.ref S.length) (S++[A++B]):=by
  have e:Py.cy S (.ref b)=some A:=by simp[Py.cy,H]
  have E:Py.cy S (.lst B)=some B:=rfl;unfold gD;rw[e,E];dsimp only;rw[if_pos (by show _<=16777216;omega)]
 simp only[ah,c,Res.bind,a,h,Res.noErr,Zw,Z3]
end
section
variable {l:List D}{a:Int}{k:Nat}{o:D}
theorem E5(H:Flat S)(b:aS S n){e:CE}{c:Int}(h:0<c)(h1:c<1000)(d:ρ[0]?=some (some (.ref n)))(a:ah bC G0 e ρ S=.ok (.int c) S):∃r S',0<=r/\r<c/\Drawn n S S'/\ah bC G0 (gm e) ρ S=.ok (.int r) S':=by have:=qO (R:=[]) (S:=S) (n:=n) (ρ:=ρ) (e:=e) (c:=c) (by rw[P0];exact H) b h h1 d (by rw[P0];exact a);simpa only[P0]using this
theorem MC{k:Nat}{R:af}(c:ds.length=np)(h:ag Φ Γ body (ds.map some++OG (k-np) none) S=.ok (.ret d) (S'++R))(b:S'.length=S.length)(a:Flat S')(H:a_ 0 d=Ox):aJ Φ Γ body k np ds S=.ok d S':=by unfold aJ;rw[if_pos c,h];show eS S.length d (S'++R)=_;rw[<-b,K92.wW (by rw[Sv rfl];exact a) H,Sv rfl]
theorem sR{es:List D}(h:∀e∈es,dq e):bi 0 es=Ox:=iy λe H=>(h e H).lo
theorem sS{es:List D}(h:∀e∈es,cr e):bi 0 es=Ox:=iy λe H=>(h e H).lo
theorem qR{P:D->Prop}{A:List D}{r:D}(h:∀e∈A,P e)(a:P r):∀e∈A++[r],P e:=λe H=>by
 rcases ZC.mp H with H|H
 ·exact h e H
 ·rw[OT.mp H];exact a
theorem E6{P:D->Prop}{A B:List D}(h:∀e∈A,P e)(a:∀e∈B,P e):∀e∈A++B,P e:=λe H=>(ZC.mp H).elim (h e) (a e)
theorem xU(W:cJ m ts)(X:Flat S)(Y:aS S n):∃S' R g x4 x5 x7,Drawn n S S'/\Flat (S'++R)/\(∀e∈g,dq e)/\g.length=10/\(S'++R)[S.length+1]?=some g/\R.length=2/\∀cs,ag bC G0 (.asgT (.tup [.var 2,.var 3]) (.var 1):: .asg 4 (gm (.bin .Add (.blt .len [.var 3]) (.lit (.int 1)))):: .asg 5 (.lst Oy jq):: .asg 5 (.idx (.bin .Add (.var 5) (.lst Oy jr)) (gm (.lit (.int 15)))):: .asg 6 (.lst Ox js):: .expr (.meth .append (.var 6) [jt]):: .asg 6 (.catB (.var 6) (.lst Oy ju)):: .asg 7 jv:: .expr (.meth .append (.var 6) [jw])::cs) [some (.ref n),some (ao m ts),none,none,none,none,none,none,none] S=ag bC G0 cs [some (.ref n),some (ao m ts),some (.int m),some (.tup (aa ts)),x4,x5,some (.ref (S.length+1)),x7,none] (S'++R):=by
 have hf:=W.few;have hL:(aa ts).length=ts.length:=by unfold aa;simp
 have hi:∀e∈aa ts,It e:=λe he=>by obtain⟨t,_,rfl⟩:=Zs.mp he;exact fL t
 have I:IL 28 (aa ts):=⟨by omega,hi⟩
 have q:It (.tup (aa ts)):=by
  cases ts with
  |nil=>exact jE (λx P=>by cases P) (by simp[aa]) (.inl (by simp[aa])) rfl
  |cons p r=>refine jE (λx P=>?_) (by omega) (.inr rfl) (K92.fo _);obtain⟨t,_,rfl⟩:=Zs.mp P;exact .inr (.inr (.inr (.inr (.inl ⟨_,rfl⟩))))
 have hw:ao m ts=.tup [.int m,.tup (aa ts)]:=rfl;generalize ao m ts=w at*;generalize aa ts=l at*;have s0:ar bC G0 (.asgT (.tup [.var 2,.var 3]) (.var 1)) [some (.ref n),some w,none,none,none,none,none,none,none] S=.ok (.next [some (.ref n),some w,some (.int m),some (.tup l),none,none,none,none,none]) S:=by rw[ar,al (d:=w) rfl,hw];rfl
 obtain⟨a,L,a0,a1,J,e1⟩:=E5 (ρ:=[some (.ref n),some w,some (.int m),some (.tup l),none,none,none,none,none]) (e:=.bin .Add (.blt .len [.var 3]) (.lit (.int 1))) X Y (c:=(l.length:Int)+1) (by omega) (by omega) rfl (d1 (jF (d:=.tup l) (r:=.int (l.length:Nat)) (al rfl) rfl));obtain⟨k,rfl⟩:∃k:Nat,a=(k:Int):=⟨a.toNat,by omega⟩;have z:=J.flat X;have C:=J.pen Y;obtain⟨D,Q,ho,ol,ql,eo,eq⟩:=l7 (Φ:=bC) (S:=L) (ρ:=[some (.ref n),some w,some (.int m),some (.tup l),some (.int (k:Int)),none,none,none,none]) rfl rfl q;have eq:=l7 (Φ:=bC) (S:=L) (ρ:=[some (.ref n),some w,some (.int m),some (.tup l),some (.int (k:Int)),some (.lst D),none,none,none]) rfl rfl q;obtain⟨os2,Q,N,ol2,ql,_,eq⟩:=eq;obtain⟨b,f,b0,b1,K,e2⟩:=E5 (ρ:=[some (.ref n),some w,some (.int m),some (.tup l),some (.int (k:Int)),some (.lst D),none,none,none]) (e:=.lit (.int 15)) z C (c:=15) (by omega) (by omega) rfl av;have M:=K.flat z;have hp2:=K.pen C;obtain⟨O,s,e3⟩:=xz (S:=f) (d:=.lst (D++Q)) (xs:=D++Q) (r:=b) rfl b0 (by rw[Zk];omega)
 have s:It O:=by
  rcases ZC.mp s with h|h
  ·exact ho O (Z7 _ h)
  ·exact N O (ZD _ h)
 have s3:=ft (eY (al (Φ:=bC) (Γ:=G0) (S:=L) (ρ:=[some (.ref n),some w,some (.int m),some (.tup l),some (.int (k:Int)),some (.lst D),none,none,none]) (i:=5) rfl) (l5 eq) (xA (by omega))) e2 e3;obtain⟨u,f1,l1,e4⟩:=E1 (Φ:=bC) (S:=f) (l:=l) (k:=k) (o:=O) (ρ:=[some (.ref n),some w,some (.int m),some (.tup l),some (.int (k:Int)),some O,none,none,none]) rfl rfl I rfl s;obtain⟨E,f2,e5⟩:=Mz (Φ:=bC) (S:=f++[u]) (l:=l) (k:=k) (ρ:=[some (.ref n),some w,some (.int m),some (.tup l),some (.int (k:Int)),some O,some (.ref f.length),none,none]) rfl rfl I;have s5:=xT (b:=0) (i:=6) (S:=f) (A:=u) rfl e5 (by omega);have y:=qR f1 f2;obtain⟨T,f3,l3,e6⟩:=E2 (Φ:=bC) (S:=f++[u++[E]]) (l:=l) (k:=k) (ρ:=[some (.ref n),some w,some (.int m),some (.tup l),some (.int (k:Int)),some O,some (.ref f.length),none,none]) rfl rfl I q;have s6:=E4 (i:=6) (b:=f.length) (S:=f++[u++[E]]) (A:=u++[E]) (B:=T) rfl qz e6 (by rw[Zk,O9];omega);have F:=E6 y f3;have Z:(u++[E]++T).length=9:=by rw[Zk,Zk,O9];omega
 generalize hA:u++[E]=A at*;generalize hB:A++T=B at*;have H:(f++[A]).length=S.length+1:=by rw[Zk,K.len,J.len];rfl
 obtain⟨t,ht,e7⟩:=MA (Φ:=bC) (S:=f++[A]++[B]) (l:=l) (k:=k) (ρ:=[some (.ref n),some w,some (.int m),some (.tup l),some (.int (k:Int)),some O,some (.ref (f++[A]).length),none,none]) rfl rfl I;obtain⟨G,U,e8⟩:=MB (Φ:=bC) (S:=f++[A]++[B]) (l:=l) (k:=k) (t:=t) (ρ:=[some (.ref n),some w,some (.int m),some (.tup l),some (.int (k:Int)),some O,some (.ref (f++[A]).length),some (.tup t),none]) rfl rfl I rfl ht;have s8:=xT (b:=0) (i:=6) (S:=f++[A]) (A:=B) rfl e8 (by omega);have V:Flat (f++[A]++[B++[G]]):=(M.snoc (sR y)).snoc (sR (qR F U));refine⟨f,[A,B++[G]],B++[G],some (.int (k:Int)),some O,some (.tup t),J.trans K,?_,qR F U,by rw[Zk,O9];omega,?_,rfl,λcs=>?_⟩
 ·rw[ZX]at V;exact V
 ·have:(f++[A]++[B++[G]])[(f++[A]).length]?=some (B++[G]):=qz;rw[H,ZX]at this;exact this
 ·refine(aW s0).trans ?_;refine(bj e1).trans ((bj (l5 eo)).trans ((bj s3).trans ((bj (NR e4)).trans ((aW s5).trans ((bj s6).trans ((bj e7).trans ((aW s8).trans ?_)))))));rw[H,ZX];rfl
end
section
variable {l:List D}{a:Int}{k:Nat}{o:D}
noncomputable def Gh:CE:=.cmp .Gt (gm (.lit (.int 3))) (.lit (.int 0))
theorem xV(W:cJ m ts)(U:Flat S)(hp:aS S n):∃d S',cr d/\Drawn n S S'/\iu [.ref n,ao m ts] S=.ok d S':=by
 have hf:=W.few;obtain⟨Z,R,j,X,k,l,f,hF,hr,hrl,O,hR,ha⟩:=xU W U hp;have V:=f.flat U;have p:=f.pen hp
 have fz:dq (.tup (aa ts)):=iz (by unfold aa;rw[Zn];omega) λe he=>by obtain⟨t,_,rfl⟩:=Zs.mp he;exact fL t
 obtain⟨g,a,g0,g1,h,e1⟩:=qO (R:=R) (ρ:=[some (.ref n),some (ao m ts),some (.int m),some (.tup (aa ts)),X,k,some (.ref (S.length+1)),l,none]) (e:=.lit (.int 3)) hF p (c:=3) (by omega) (by omega) rfl av;have hS2:=h.flat V;have K:=h.pen p
 have I:Flat (a++R):=by obtain⟨u,v,e⟩:=h;have:Drawn n (Z++R) (a++R):=⟨u,v,by obtain⟨x,y,hx⟩:=p;rw[e,RJ _ _ (Zg.mp hx).1]⟩;exact this.flat hF
 have hk2:(a++R)[S.length+1]?=some j:=by rw[Zq (by rw[h.len,f.len];omega),h.len,f.len];rw[Zq (by rw[f.len];omega),f.len]at O;exact O
 have N:am bC G0 Gh [some (.ref n),some (ao m ts),some (.int m),some (.tup (aa ts)),X,k,some (.ref (S.length+1)),l,none] (Z++R)=.ok (decide (0<g)) (a++R):=by have c1:aw .Gt (.int g) (.int 0) (a++R)=.ok (.bl (decide (0<g))) (a++R):=rfl;unfold Gh;generalize gm (.lit (.int 3))=q at e1⊢;simp only[am,ah,e1,Res.bind,c1,Res.noErr,ax,jq,jr,sA,sB,sC,js,jt,sD,ju,sE,jv,sF,jw,lr,lu,lv]
 have fin:∀{d:D} {S' R':af},cr d->Drawn n S S'->ag bC G0 wK [some (.ref n),some (ao m ts),none,none,none,none,none,none,none] S=.ok (.ret d) (S'++R')->∃d S',cr d/\Drawn n S S'/\iu [.ref n,ao m ts] S=.ok d S':=λ{d S' R'} h1 T h3=>⟨d,S',h1,T,MC (R:=R') rfl h3 T.len (T.flat U) h1.lo⟩;rw[Mx,ha]at fin;generalize hw:ao m ts=w at*;cases hg:decide (0<g)with
 |true=>
  rw[hg]at N;obtain⟨b,G,P,b1,o,M⟩:=qO (R:=R) (ρ:=[some (.ref n),some w,some (.int m),some (.tup (aa ts)),X,k,some (.ref (S.length+1)),l,none]) (e:=.lit (.int 10)) I K (c:=10) (by omega) (by omega) rfl av;have H:aB (G++R) (.ref (S.length+1))=some j:=by show(G++R)[S.length+1]?=some j;rw[Zq (by rw[o.len,h.len,f.len];omega),o.len,h.len,f.len];rw[Zq (by rw[f.len];omega),f.len]at O;exact O
  obtain⟨r,z,Q⟩:=xz H P (by omega);refine fin (R':=R) (e9 (hO m) rfl (hr r z)) ((f.trans h).trans o) (br ?_);show ar bC G0 (.ite Gh [.ret (.tup [.var 2,.idx (.var 6) (gm (.lit (.int 10)))])] []) _ _=_;rw[cZ N,if_pos rfl];refine br (fq ?_);generalize gm (.lit (.int 10))=q at M⊢;simp only[ah,ai,Res.bind,Zr,Zo,M,Q,Res.noErr,jq,jr,sA,sB,sC,js,jt,sD,ju,sE,jv,sF,jw,lr,lu,lv]
 |false=>
  rw[hg]at N;obtain⟨s,f1,l1,M⟩:=xR (Φ:=bC) (S:=a++R) (ρ:=[some (.ref n),some w,some (.int m),some (.tup (aa ts)),X,k,some (.ref (S.length+1)),l,none]) rfl rfl hf fz;obtain⟨E,f2,l2,Q⟩:=xS (Φ:=bC) (S:=a++R++[s]) (ρ:=[some (.ref n),some w,some (.int m),some (.tup (aa ts)),X,k,some (.ref (S.length+1)),l,some (.ref (a++R).length)]) rfl rfl hf W.lo W.hi fz;have s3:=E4 (i:=8) (b:=(a++R).length) (S:=a++R++[s]) (A:=s) (B:=E) rfl qz Q (by omega);obtain⟨r4,f4,e4⟩:=E3 (Φ:=bC) (S:=a++R++[s]++[s++E]) (ρ:=[some (.ref n),some w,some (.int m),some (.tup (aa ts)),X,k,some (.ref (S.length+1)),l,some (.ref (a++R++[s]).length)]);have Y:(s++E).length=17:=by rw[Zk];omega
  have s4:=xT (b:=0) (i:=8) (S:=a++R++[s]) (A:=s++E) rfl e4 (by omega);have F:=qR (E6 f1 f2) f4;have fl:Flat (a++R++[s]++[s++E++[r4]]):=(I.snoc (sS f1)).snoc (sS F);generalize hC:s++E++[r4]=C at*;have hCl:C.length=18:=by rw[<-hC,Zk,Y];rfl
  have J:(a++R++[s]).length=S.length+3:=by rw[Zk,Zk,h.len,f.len,hR];rfl
  have eR:a++R++[s]++[C]=a++(R++[s,C]):=by rw[ZX,ZX];rfl
  rw[eR]at fl;obtain⟨b,G,P,b1,o,e5⟩:=qO (R:=R++[s,C]) (ρ:=[some (.ref n),some w,some (.int m),some (.tup (aa ts)),X,k,some (.ref (S.length+1)),l,some (.ref (S.length+3))]) (e:=.lit (.int 18)) fl K (c:=18) (by omega) (by omega) rfl av;have H:aB (G++(R++[s,C])) (.ref (S.length+3))=some C:=by show(G++(R++[s,C]))[S.length+3]?=some C;rw[Zq (by rw[o.len,h.len,f.len];omega),o.len,h.len,f.len,Zq (by omega),hR,show S.length+3-S.length-2=1 by omega];rfl
  obtain⟨r,z,e6⟩:=xz H P (by omega);refine fin (R':=R++[s,C]) (F r z) ((f.trans h).trans o) ?_;refine(aW (ρ':=[some (.ref n),some w,some (.int m),some (.tup (aa ts)),X,k,some (.ref (S.length+1)),l,none]) (S':=a++R) ?_).trans ?_
  ·show ar bC G0 (.ite Gh [.ret (.tup [.var 2,.idx (.var 6) (gm (.lit (.int 10)))])] []) _ _=_;rw[cZ N,if_neg (by decide)];rfl
  ·refine(bj (NR M)).trans ((bj s3).trans ((aW s4).trans ?_));rw[J,eR];exact br (fq (ft (al rfl) e5 e6))
end
theorem MD{i:Int}:(iL ps i).isNone= !decide (i∈au ps):=by
 induction ps with
 |nil=>rfl
 |cons t ps I=>
  unfold iL;have a:au (t::ps)=t.1::t.2::au ps:=rfl;rw[a];by_cases h:i=t.1
  ·simp[h]
  ·by_cases H:i=t.2
   ·simp[h,H]
    try split<;>rfl
   ·simp[h,H,I]
theorem ME{l x:Int}(h1:l<=x)(H:x<l+n):x∈b6 l n:=by
 induction n generalizing l with
 |zero=>omega
 |succ n i=>
  unfold b6;by_cases h:x=l
  ·simp[h]
  ·exact Zc _ (i (by omega) (by omega))
theorem E7{p:Int->Bool}:∀l:Li,(l.filter λi=> !p i).length+(l.filter p).length=l.length
 | []=>rfl
 |a::l=>by have:=E7 (p:=p) l;cases h:p a<;>simp[h]<;>omega
theorem MF(W:cJ m ts)(P:c6 ts ps):((xb m ps).length:Int)=m-2*ps.length:=by
 have e:xb m ps=(b6 0 m.toNat).filter λi=> !decide (i∈au ps):=by unfold xb;congr 1;funext i;exact MD
 have H:=E7 (p:=λi=>decide (i∈au ps)) (b6 0 m.toNat);rw[qb,<-e]at H
 have a:((b6 0 m.toNat).filter λi=>decide (i∈au ps)).Perm (au ps):=by
  refine(Qa (List.Nodup.sublist TZ D_) P.un).mpr λi=>?_;rw[So];constructor
  ·rintro⟨_,h⟩;exact ZS h
  ·intro h;refine⟨?_,ZA (show i∈au ps from h)⟩;obtain⟨o,b,q⟩:=Eg (fs:=ps) h;have:=W.tie o (P.sub o b);exact ME (by omega) (by omega)
 have c:=a.length_eq;have d:(au ps).length=2*ps.length:=qc ps;have:=W.lo;omega
theorem qS(W:cJ m ts)(P:c6 ts ps):2*(ps.length:Int)<=m:=by have:=MF W P;omega
section
variable {ts:List Ti}{G:List (List Ti)}{k:Nat}
end
section
variable {ts:List Ti}{G:List (List Ti)}{k:Nat}{x0 x1 x3 x6:Option D}
end
section
variable {ts p:List Ti}
end
section
variable {ts p:List Ti}
end
theorem E8:dD=K92.dD:=rfl
theorem MG:eX=K92.eX:=rfl
theorem MH:d_=K92.d_:=rfl
theorem MI:eU=K92.eU:=rfl
section
variable {w p:D}
theorem l8{x:Exc}(a:ds.length=np)(h:ag Φ Γ body (ds.map some++OG (n-np) none) S=.err x S)(H:Flat S):aJ Φ Γ body n np ds S=.err x S:=by unfold aJ;rw[if_pos a,h];dsimp only;rw[Ri,if_pos H.all]
abbrev MJ:Exc:=⟨"NoWeb",[]⟩
theorem E_(h:cr d):∃k,∀S,Flat S->dD [d] S=.ok (.bl k) S/\eX [d] S=.ok (.bl k) S:=by
 rw[E8,MG];rcases h.is with h| ⟨x,rfl,h| ⟨a,b,rfl,c,h⟩⟩
 ·exact⟨Oy,λS H=>⟨xH H h,EM H h⟩⟩
 ·exact⟨Oy,λS H=>⟨EI H h,xI H h⟩⟩
 ·cases e:K92.frB a with
  |false=>exact⟨Oy,λS H=>⟨EK H c (.inl e),lX H c (.inl e)⟩⟩
  |true=>
   rcases h with h| ⟨E,rfl,i,g⟩
   ·exact⟨Oy,λS H=>⟨EK H c (.inr h),lX H c (.inr h)⟩⟩
   ·unfold K92.frB at e;split at e
    ·rename_i m;have j:=ZS e
     obtain⟨k,n⟩:∃k,∀S,Flat S->K92.dD [.tup [.int m,.tup E]] S=.ok (.bl k) S:=by
      cases f:E.all (hG m)with
      |false=>exact⟨Oy,λS H=>by have:=qF H (k:=Oy) j i (by omega) (λz=>by rw[f]at z;cases z);rw[f]at this;exact this⟩
      |true=>
       obtain⟨p,rfl⟩:=xF f;have q:p.length<64:=by unfold aa at g;rw[Zn]at g;exact g
       exact⟨K92.dn p,λS H=>by have:=qF H (k:=K92.dn p) j i (by omega) λ_=>K92.xp H (by omega);rw[f]at this;exact this⟩
     refine⟨k,λS H=>⟨n S H,?_⟩⟩;obtain⟨K,l,o⟩:=xK H j i g;rw[n S H]at l;cases l;exact o
    ·cases e
theorem xW(W:cJ m ts)(h:dq d):∃k,∀S,Flat S->d_ [ao m ts,d] S=.ok (.bl k) S/\eU [ao m ts,d] S=.ok (.bl k) S:=by
 rw[MH,MI];rcases h.is with h| ⟨E,rfl,a,b⟩
 ·exact⟨Oy,λS H=>⟨K92.qs H W (K92.L_ H h),K92.qu H h⟩⟩
 ·cases e:E.all (gw ts)with
  |false=>exact⟨Oy,λS H=>⟨K92.qs H W (K92.Es H W a (by omega) e),K92.qv H a (by omega) e⟩⟩
  |true=>
   obtain⟨p,rfl,c⟩:=K92.xq e;have:p.length<64:=by unfold aa at b;simpa using b
   exact⟨_,λS H=>⟨K92.Md H W c (by omega),K92.Mh H c this⟩⟩
def qT(d:D):Prop:=∀S,Flat S->dD [d] S=.ok (.bl Oy) S
theorem MK(H:Flat S)(h:qT d):eT [d] S=.err MJ S:=by have e:=h S H;refine l8 rfl ?_ H;simp[wl,wk,ag,ar,am,ah,ai,Res.bind,Res.noErr,CZ,e,a9]
variable {x:Exc}
variable {a b c:D}{i:Int}
theorem Ot:aw .Eq (.int i) (.int 0) S=.ok (.bl (i==0)) S:=rfl
theorem Ou:aw .Lt (.int i) (.int 6) S=.ok (.bl (decide (i<6))) S:=rfl
end
noncomputable def aR(x:Str):Ls:=QR x " "
theorem fw(a b:Str):(a++b).length=a.length+b.length:=by show(a.cps++b.cps).size=_;rw[Array.size_append];rfl
theorem xX(y:Str):∀{ws:Ls} {p:Str},p∈ws->p.length<=(PQ y ws).length
 | [x],p,h=>by rw[OT.mp h];exact Zf _
 |x::z::r,p,h=>by
  show p.length<=(x++y++PQ y (z::r)).length;rw[fw,fw];rcases Zh.mp h with rfl|h
  ·omega
  ·have:=xX y h;omega
theorem xY(y:Str)(h:y.length=1):∀ws:Ls,ws.length<=(PQ y ws).length+1
 | []=>ZY _
 | [x]=>RA _ _
 |x::z::r=>by show(z::r).length+1<=(x++y++PQ y (z::r)).length+1;have:=xY y h (z::r);rw[fw,fw];omega
theorem l9(x:Str):PQ " " (aR x)=x:=PR x " "
theorem Fa(x:Str):aR x≠[]:=by
 intro h;have e:=l9 x;rw[h]at e;have E:x.length=0:=by rw[<-e];rfl
 have:aR x=[x]:=if_pos (by rw[E];rfl);rw[this]at h;cases h
theorem ML{x p:Str}(h:p∈aR x):p.length<=x.length:=by have:=xX " " h;rw[l9]at this;exact this
theorem MM(x:Str):(aR x).length<=x.length+1:=by have:=xY " " rfl (aR x);rw[l9]at this;exact this
theorem MN{i:Nat}{x:Str}(b:x.length<=1000)(h:ρ[i]?=some (some (.str x))):ah Φ G0 (.smt .split (.var i) [.lit (.str " ")]) ρ S=.ok (.lst ((aR x).map D.str)) S:=by
 have e:gI .split x [.str " "] S=.ok (.lst ((aR x).map D.str)) S:=by
  have H:=MM x;have a:(1000:Nat)<=a':=by decide
  show(if(" ":Str).length≠0/\x.length<=a'/\(aR x).length<=10000 then Res.ok (D.lst ((aR x).map D.str)) S else .fail)=_;rw[if_pos ⟨by decide,by omega,by omega⟩]
 simp only[ah,ai,h,Res.bind,e,Res.noErr]
noncomputable def yC:Exc:=⟨"NoText",[]⟩
theorem qU(H:Flat S)(x:Str):gf [.str x] S=.ok .non S:=by refine run_next (ρ:=[some (.str x)]) rfl ?_ rfl H;have h:aA .isinst [.str x,.ty "str"] S=.ok (.bl Ox) S:=rfl;show ag wo G0 ll [some (.str x)] S=.ok (.next [some (.str x)]) S;simp[ll,ag,ar,ah,am,ai,Res.bind,Res.noErr,h,a9]
theorem qV(H:Flat S)(h:aA .isinst [d,.ty "str"] S=.ok (.bl Oy) S):gf [d] S=.err yC S:=by refine l8 rfl ?_ H;show ag wo G0 ll [some d] S=_;simp[ll,ag,ar,ah,am,ai,Res.bind,Res.noErr,h,a9,yC]
theorem MO(o:Option (Option Int×Option Int)):a_ 0 (bO o)=Ox:=by
 match o with
 |none=>rfl
 |some (p,q)=>cases p<;>cases q<;>rfl
theorem sT(o:Option Int):Kn (oD o):=by
 cases o with
 |none=>exact .inr (.inr (.inr (.inl rfl)))
 |some i=>exact .inl ⟨i,rfl⟩
theorem MP(o:Option (Option Int×Option Int)):Item (bO o):=by
 match o with
 |none=>exact .inr ⟨.inr (.inr (.inr (.inl rfl))),λX e=>nomatch e⟩
 |some (some p,some q)=>exact .inl ⟨(p,q),rfl⟩
 |some (none,q)=>refine .inr ⟨.inr (.inr (.inr (.inr (.inl ⟨_,rfl⟩)))),λX e=>?_⟩;cases e;refine⟨λx h=>?_,show(2:Nat)<=1000 by decide,.inr rfl⟩;simp only[Zh,Zt,ZZ]at h;rcases h with rfl|rfl<;>exact sT _
 |some (some p,none)=>refine .inr ⟨.inr (.inr (.inr (.inr (.inl ⟨_,rfl⟩)))),λX e=>?_⟩;cases e;refine⟨λx h=>?_,show(2:Nat)<=1000 by decide,.inr rfl⟩;simp only[Zh,Zt,ZZ]at h;rcases h with rfl|rfl<;>exact sT _
theorem xZ{w:Str}{t:Int×Int}(h:cj w=some t):bO (cM w)=aq t:=by
 unfold cj at h;split at h
 ·rename_i p q e;cases h;rw[e];rfl
 ·cases h
theorem Fb:∀{ws:Ls},(ws.all λp=>(cj p).isSome)=Ox->∃ts,(ws.map λp=>bO (cM p))=aa ts/\(ws.map λp=>bK (cj p))=aa ts
 | [],_=>⟨[],rfl,rfl⟩
 |w::ws,h=>by
  rw[Pa,ZG]at h;obtain⟨ts,a,b⟩:=Fb h.2;obtain⟨t,H⟩:=PD.mp h.1;refine⟨t::ts,?_,?_⟩
  ·rw[ZV,a,xZ H];rfl
  ·rw[ZV,b,H];rfl
theorem Fc:∀n,bS n=K92.bS n
 |0=>rfl
 |n+1=>by show aJ (tbl [("_law_same",bS n)]) G0 gj gh.length 2=_;rw[Fc n];rfl
theorem MQ(h:Flat S)(n:Nat)(i:Int):K92.bS (n+1) [.int i,.int i] S=.ok (.bl Ox) S:=by rw[K92.EE];exact LO h n i
theorem MR(d:Flat S)(n:Nat)(x:Str):bS (n+1) [.str x,.str x] S=.ok (.bl Ox) S:=by
 refine aP rfl ?_ rfl d rfl;have h:bG [.str x,.ty "bool"] S=.ok (.bl Oy) S:=rfl;have H:bG [.str x,.ty "int"] S=.ok (.bl Oy) S:=rfl;have c:bG [.str x,.ty "str"] S=.ok (.bl Ox) S:=rfl
 have a:aw .Eq (.str x) (.str x) S=.ok (.bl Ox) S:=by have:aw .Eq (.str x) (.str x) S=.ok (.bl (x==x)) S:=rfl;simp_all
 have b:aw .Is (.str x) .non S=.ok (.bl Oy) S:=rfl;simp[gj,ag,ar,am,ah,ai,Res.bind,Res.noErr,ax,aA,h,H,a,b,c,a9]
theorem MS(t:Flat S)(v:∀z∈xs,bS n [z,z] S=.ok (.bl Ox) S):bS (n+1) [.lst xs,.lst xs] S=.ok (.bl Ox) S:=by
 refine aP rfl ?_ rfl t rfl;generalize h:D.lst xs=d;have i:bG [d,.ty "bool"] S=.ok (.bl Oy) S:=by subst h;rfl
 have j:bG [d,.ty "int"] S=.ok (.bl Oy) S:=by subst h;rfl
 have k:bG [d,.ty "str"] S=.ok (.bl Oy) S:=by subst h;rfl
 have l:aw .Is d .non S=.ok (.bl Oy) S:=by subst h;rfl
 have m:bG [d,.ty "list"] S=.ok (.bl Ox) S:=by subst h;rfl
 have o:bG [d,.ty "tuple"] S=.ok (.bl Oy) S:=by subst h;rfl
 have p:aw .NotEq (.bl Oy) (.bl Oy) S=.ok (.bl Oy) S:=rfl;have q:aw .NotEq (.bl Ox) (.bl Ox) S=.ok (.bl Oy) S:=rfl;have r:c_ [d] S=.ok (.int xs.length) S:=by subst h;simp[c_,aB]
 have H:aw .NotEq (.int xs.length) (.int xs.length) S=.ok (.bl Oy) S:=by have:aw .NotEq (.int xs.length) (.int xs.length) S=.ok (.bl (!((xs.length:Int)==xs.length))) S:=rfl;rw[this];simp
 have g:dR S d d=some (.items (OC (λx y=>.tup [x,y]) xs xs)):=by subst h;rfl
 unfold gj;refine(aW (ρ':=[some d,some d,none,none]) (S':=S) (by simp[gh,ar,ag,am,ah,ai,Res.bind,Res.noErr,ax,aA,l])).trans ?_;refine(aW (ρ':=[some d,some d,none,none]) (S':=S) (by simp[ar,ag,am,ah,ai,Res.bind,Res.noErr,ax,aA,i,a9])).trans ?_;refine(aW (ρ':=[some d,some d,none,none]) (S':=S) (by simp[ar,ag,am,ah,ai,Res.bind,Res.noErr,ax,aA,j,a9])).trans ?_;refine(aW (ρ':=[some d,some d,none,none]) (S':=S) (by simp[ar,ag,am,ah,ai,Res.bind,Res.noErr,ax,aA,k,a9])).trans ?_;refine(aW (ρ':=[some d,some d,none,none]) (S':=S) (by simp[ar,ag,am,ah,ai,Res.bind,Res.noErr,ax,aA,m,o,p,q,a9])).trans ?_;refine(aW (ρ':=[some d,some d,none,none]) (S':=S) (by simp[ar,ag,am,ah,ai,Res.bind,Res.noErr,ax,aA,r,H,a9])).trans ?_
 obtain⟨X,Y,e⟩:=K92.xC (S:=S) (a:=some d) (b:=some d) (step:=λx A S=>match aL (.tup [.var 2,.var 3]) x A with
   |some c=>ag (tbl [("_law_same",bS n)]) G0 [.ite (.bnot (.call "_law_same" [.var 2,.var 3])) [.ret (.lit (.bl Oy))] []] c S
   |none=>.fail) xs none none (λz w x y=>by have u:=v z w;simp[aL,bH,ag,ar,am,ah,ai,Res.bind,tbl,u,a9])
 have s:a7 (tbl [("_law_same",bS n)]) G0 (.zip [.var 0,.var 1]) [some d,some d,none,none] S=.ok (.items (OC (λx y=>.tup [x,y]) xs xs)) S:=by simp only[a7,ai,ah,Res.bind,Zo,Zr,g]
 refine(aW (ρ':=[some d,some d,X,Y]) (S':=S) ((gr s).trans e)).trans ?_;rfl
noncomputable def fx:D:=.lst [.str "no",.str "text"]
theorem MT(h:Flat S):gk [fx,fx] S=.ok (.bl Ox) S:=by show bS (5+1) _ S=_;refine MS h λz H=>?_;simp only[Zh,Zt,ZZ]at H;rcases H with rfl|rfl<;>exact MR h 4 _
open Builtin.Str (strSliceIndices)
noncomputable def cnt(x:Str):Nat:=x.cps.toList.count 32
theorem qW(a b:Str):cnt (a++b)=cnt a+cnt b:=by show(a.cps++b.cps).toList.count 32=_;rw[TH,Ul];rfl
theorem Fe:(" ":Str)=⟨#[32]⟩:=by decide+kernel
theorem MU:cnt " "=1:=by decide+kernel
theorem x_:∀(ws:Ls),ws≠[]->(∀p∈ws,cnt p=0)->cnt (PQ " " ws)+1=ws.length
 | [],h,_=>absurd rfl h
 | [x],_,h=>by show cnt x+1=1;rw[h x Zd]
 |x::z::r,_,h=>by have i:=x_ (z::r) (by simp) λp H=>h p (Zc _ H);show cnt (x++" "++PQ " " (z::r))+1=(z::r).length+1;simp only[qW,h x Zd,MU];lia
theorem Ff{x p:Str}(h:p∈aR x):cnt p=0:=by unfold aR at h;rw[Fe]at h;exact Ua.mpr (Tt x 32 p h)
theorem ya(x:Str):(aR x).length=cnt x+1:=by have:=x_ (aR x) (Fa x) λp h=>Ff h;rw[l9]at this;exact this.symm
def Sm(n k:Nat)(x:Str):Prop:=x.length<=n/\cnt x<=k
theorem Sm.mono{k N K:Nat}{x:Str}(h:Sm n k x)(h1:n<=N)(H:k<=K):Sm N K x:=⟨Zl h.1 h1,Zl h.2 H⟩
theorem Sm.app{k m l:Nat}{x:Str}(h:Sm n k x)(h':Sm m l y):Sm (n+m) (k+l) (x++y):=by
 refine⟨?_,?_⟩
 ·rw[fw];have:=h.1;have:=h'.1;lia
 ·rw[qW];have:=h.2;have:=h'.2;lia
theorem yd{k:Nat}{x:Str}(h:Sm n k x)(s:y.cps.toList.Sublist x.cps.toList):Sm n k y:=by refine⟨Zl ?_ h.1,Zl (s.count_le 32) h.2⟩;have:=s.length_le;show y.cps.size<=x.cps.size;simpa using this
theorem Fh(l:List α)(a c:Nat):((OD c).map (a+ ·)).filterMap (l[·]?)=(l.drop a).take c:=by
 have e:((OD c).map (a+ ·)).filterMap (l[·]?)=(l.drop a).take c:=by
  induction c with
  |zero=>rfl
  |succ c i=>simp only[List.range_succ,Qr,Tr,i,List.take_succ];simp;rfl
 exact e
theorem MV(l:List α)(a c:Nat):(((OD c).map (a+ ·)).filterMap (l[·]?)).Sublist l:=by rw[Fh];exact(Qu _ _).trans (Q6 _ _)
theorem qX(l h:Option Int)(n:Nat):∃a c,strSliceIndices l h 1 n=(OD c).map (a+ ·):=by
 have K:∀(z:Int) (c:Nat),0<=z->((OD c).map λ(k:Nat)=>(z+(1:Int)*(k:Int)).toNat)=(OD c).map (z.toNat+ ·):=λz c H=>T3 λk _=>by lia
 cases l with
 |none=>exact⟨_,_,K _ _ (by simp)⟩
 |some i=>exact⟨_,_,K _ _ (by dsimp;omega)⟩
theorem ye{k:Nat}{x:Str}(h:Sm n k x)(l H:Option Int):Sm n k (dL x l H 1):=by refine yd h ?_;obtain⟨a,c,e⟩:=qX l H x.length;show(((strSliceIndices l H 1 x.length).filterMap (x.cps[·]?)).toArray).toList.Sublist _;rw[e];have:=MV x.cps.toList a c;simpa using this
theorem l_{k:Nat}{x:Str}(h:Sm n k x)(b:n<=1000)(l H:Option Int):∃y,Sm n k y/\ig (.str x) l H S=.ok (.str y) S:=by
 have e:ig (.str x) l H S=zD (.str x) l H S:=rfl;rw[e];unfold zD;dsimp only;split
 ·exact⟨x,h,rfl⟩
 ·have a:=ye h l H;rw[if_pos (by have:=a.1;lia)];exact⟨_,a,rfl⟩
theorem MW(l:List α):((OD l.length).map λk=>l.length-1-k).filterMap (l[·]?)=l.reverse:=by
 have e:((OD l.length).map λk=>l.length-1-k)=(OD l.length).reverse:=by refine Rh (by simp) λi h H=>?_;simp
 have E:=Fh l 0 l.length;simp_all
theorem l'{k:Nat}{x:Str}(h:Sm n k x)(a:n<=1000):∃y,Sm n k y/\j_ (.str x) (.int (-1)) S=.ok (.str y) S:=by
 have e:(dL x none none (-1)).cps.toList=x.cps.toList.reverse:=by show(((strSliceIndices none none (-1) x.length).filterMap (x.cps[·]?)).toArray).toList=_;rw[picked_rev];have:=MW x.cps.toList;simpa[Str.length]using this
 have H:Sm n k (dL x none none (-1)):=by
  refine⟨?_,?_⟩
  ·have:(dL x none none (-1)).length=x.length:=by
    show(dL x none none (-1)).cps.size=x.cps.size;rw[<-ZH,e];simp
   rw[this];exact h.1
  ·show(dL x none none (-1)).cps.toList.count 32<=k;rw[e,List.count_reverse];exact h.2
 refine⟨_,H,?_⟩;show(if(-1:Int)= -1/\(dL x none none (-1)).length<=a' then Res.ok (D.str (dL x none none (-1))) S else .fail)=_;rw[if_pos ⟨rfl,by have:=H.1;lia⟩]
end K92
namespace K92
noncomputable def tot(l:Ls):Nat:=(l.map (·.length)).sum+l.length
theorem jH(a b:Ls):tot (a++b)=tot a+tot b:=by simp[tot];lia
theorem Fi{a b:Ls}(h:a.Sublist b):tot a<=tot b:=by
 induction h with
 |slnil=>exact Zf _
 |cons x _ i=>simp[tot]at i⊢;lia
 |cons_cons x _ i=>simp[tot]at i⊢;lia
theorem MX(x:Str):tot (aR x)=x.length+1:=by
 have h:=Sn " " (aR x);rw[PZ,l9]at h
 have H:1<=(aR x).length:=by
  cases e:aR x with
  |nil=>exact absurd e (Fa x)
  |cons a l=>simp
 unfold tot;have E:(" ":Str).length=1:=rfl;lia
theorem ma{l:Ls}{k:Nat}(H:∀p∈l,cnt p=0)(h1:tot l<=n)(b:l.length<=k):Sm n k (Pt " " l):=by
 have h:=Sn " " l;have e:(" ":Str).length=1:=rfl;rw[e]at h;refine⟨?_,?_⟩
 ·show(RF " " l).length<=n;rw[h];unfold tot at h1;omega
 ·show cnt (RF " " l)<=k;rw[PZ];cases l with
  |nil=>show cnt (PQ " " [])<=k;exact ZY _
  |cons a r=>have:=x_ (a::r) (by simp) H;omega
theorem MY{xs:Ls}{e:CE}(H:xs.length<=1000)(b:∀z∈xs,z.length<=1000)(h:ah Φ G0 e ρ S=.ok (.lst (xs.map D.str)) S):ah Φ G0 (.join " " [e]) ρ S=.ok (.str (Pt " " xs)) S:=by
 have E:cQ (xs.map D.str)=some xs:=by
  clear h b H
  induction xs with
  |nil=>rfl
  |cons a l i=>show(cQ (l.map D.str)).map (a:: ·)=_;rw[i];rfl
 have c:fN " " [.lst (xs.map D.str)] S=.ok (.str (Pt " " xs)) S:=by
  show(match(some (xs.map D.str)).bind cQ with
   |some xs=>if(" ":Str).length<=100/\xs.length<=1000/\(xs.all λx=>decide (x.length<=1000))=Ox then Res.ok (D.str (Pt " " xs)) S else .fail
   |none=>.fail)=_
  rw[Ub,E];dsimp only;rw[if_pos ⟨by decide,H,Zp.mpr λx h=>ZA (b x h)⟩]
 simp only[ah,ai,h,Res.bind,c,Res.noErr]
theorem me(ws:Ls)(l h:Option Int):ig (.lst (ws.map D.str)) l h S=.ok (.lst (((ws.drop (HT.bt ws.length 0 l)).take (HT.bt ws.length ws.length h-HT.bt ws.length 0 l)).map D.str)) S:=by show Res.ok (D.lst (bF (ws.map D.str) l h)) S=_;unfold bF;rw[Zn,RT,Q9]
theorem yf(a b:Ls)(h:a.length+b.length<=a'):fM .Add (.lst (a.map D.str)) (.lst (b.map D.str)) S=.ok (.lst ((a++b).map D.str)) S:=by show(if(a.map D.str).length+(b.map D.str).length<=a' then Res.ok (D.lst (a.map D.str++b.map D.str)) S else .fail)=_;rw[Zn,Zn,if_pos h,Qr]
theorem Fj(a b:Str)(h:a.length+b.length<=a'):fM .Add (.str a) (.str b) S=.ok (.str (a++b)) S:=by show(if a.length+b.length<=a' then Res.ok (D.str (a++b)) S else .fail)=_;rw[if_pos h]
theorem MZ:b_=K92.b_:=rfl
theorem mf{l:List α}{i:Int}(h:0<=i)(h1:i<l.length):∃c,fA l i=some c/\c∈l:=by simp[fA,hV];simp_all
theorem mi{i:Nat}{e:CE}{b:Int}{y:D}(H:ρ[i]?=some (some d))(h:ah Φ G0 e ρ S=.ok (.int b) S)(hs:ig d none (some b) S=.ok y S):ah Φ G0 (.sl (.var i) [] [e]) ρ S=.ok y S:=by have t:dt [D.int b]=some (some b):=rfl;have T:dt []=some none:=rfl;simp only[ah,ai,H,h,Res.bind,cz,t,T,hs,Res.noErr]
theorem iM{i:Nat}{e:CE}{b:Int}{y:D}(H:ρ[i]?=some (some d))(h:ah Φ G0 e ρ S=.ok (.int b) S)(hs:ig d (some b) none S=.ok y S):ah Φ G0 (.sl (.var i) [e] []) ρ S=.ok y S:=by have t:dt [D.int b]=some (some b):=rfl;have T:dt []=some none:=rfl;simp only[ah,ai,H,h,Res.bind,cz,t,T,hs,Res.noErr]
theorem Fm{i:Nat}{e f:CE}{a b:Int}{y:D}(H:ρ[i]?=some (some d))(h:ah Φ G0 e ρ S=.ok (.int a) S)(h':ah Φ G0 f ρ S=.ok (.int b) S)(hs:ig d (some a) (some b) S=.ok y S):ah Φ G0 (.sl (.var i) [e] [f]) ρ S=.ok y S:=by have t:dt [D.int a]=some (some a):=rfl;have T:dt [D.int b]=some (some b):=rfl;simp only[ah,ai,H,h,h',Res.bind,cz,t,T,hs,Res.noErr]
theorem Fn{i:Nat}{a:Int}(h:ρ[i]?=some (some (.int a))):ah Φ G0 (.bin .Add (.var i) (.lit (.int 1))) ρ S=.ok (.int (a+1)) S:=eY (al h) av rfl
noncomputable def iN:Str:=" !\"#$&'()*+,-./0123456789:;<=>?@ABCDEFGHIJKLMNOPQRSTUVWXYZ[\\]^_`abcdefghijklmnopqrstuvwxyz{|}~\n"
noncomputable def Fo:Str:="01234567 ,-"
theorem M0:wJ=[.asg 2 NJ,.asg 3 (.lit (.str " !\"#$&'()*+,-./0123456789:;<=>?@ABCDEFGHIJKLMNOPQRSTUVWXYZ[\\]^_`abcdefghijklmnopqrstuvwxyz{|}~\n")),.asg 4 Dh,.asg 5 (.smt .split (.var 1) [.lit (.str " ")]),.asg 6 NK,.asg 7 (.lst Oy wE),.asg 7 (.bin .Add (.var 7) (.lst Oy wH)),.asg 7 (.bin .Add (.var 7) (.lst Oy wI)),.ret (.idx (.bin .Add (.var 7) (.lst Oy pP)) (.call "_law_draw" [.var 0,.lit (.int 17)]))]:=rfl
theorem jI{e:CE}(H:Flat S)(f:aS S n)(h:0<m)(h1:m<1000)(g:ρ[0]?=some (some (.ref n)))(c:ah dk G0 e ρ S=.ok (.int m) S):∃r S',0<=r/\r<m/\Drawn n S S'/\ah dk G0 (.call "_law_draw" [.var 0,e]) ρ S=.ok (.int r) S':=by obtain⟨r,S',a,b,d,k⟩:=fJ H f h h1;rw[<-MZ]at k;exact⟨r,S',a,b,d,by simp only[ah,ai,g,c,Res.bind,KZ,k]⟩
theorem qY:iN.cps.toList.length=95:=by decide+kernel
theorem qZ:Fo.cps.toList.length=11:=by decide+kernel
theorem sU{z:Str}{i:Int}(a:z.length<=1000)(h:0<=i)(h1:i<z.cps.toList.length):∃y,Sm 1 1 y/\a8 (.str z) (.int i) S=.ok (.str y) S:=by obtain⟨c,H,_⟩:=mf h h1;refine⟨⟨#[c]⟩,⟨Zf _,?_⟩,fv (by lia) H⟩;exact Zl RK (Zf _)
theorem q5(o:Flat S)(p:aS S n)(j:ρ[0]?=some (some (.ref n)))(s:ρ[3]?=some (some (.str iN))):∃y S',Sm 1 1 y/\Drawn n S S'/\ah dk G0 Dh ρ S=.ok (.str y) S':=by
 obtain⟨r,a,R,v,d1,l⟩:=jI (ρ:=ρ) o p (m:=3) (by decide) (by decide) j av;have H:=d1.flat o;have c:=d1.pen p
 have d:am dk G0 (.cmp .Eq (.call "_law_draw" [.var 0,.lit (.int 3)]) (.lit (.int 0))) ρ S=.ok (decide (r=0)) a:=by
  have t:aw .Eq (.int r) (.int 0) a=.ok (.bl (decide (r=0))) a:=by have:aw .Eq (.int r) (.int 0) a=.ok (.bl (r==0)) a:=rfl;rw[this];congr 2
  have i:ah dk G0 (.lit (.int 0)) ρ a=.ok (.int 0) a:=by simp only[ah]
  generalize CE.call "_law_draw" [.var 0,.lit (.int 3)]=q at l⊢;simp only[am,l,i,Res.bind,t,Res.noErr,ax]
 by_cases h:r=0
 ·rw[ZA h]at d;obtain⟨q,b,Q,u,d2,E⟩:=jI (ρ:=ρ) H c (m:=95) (by decide) (by decide) j av;obtain⟨y,k,f⟩:=sU (S:=b) (z:=iN) (by decide+kernel) Q (by rw[qY];omega);refine⟨y,b,k,d1.trans d2,?_⟩;have g:ah dk G0 (.idx (.var 3) (.call "_law_draw" [.var 0,.lit (.int 95)])) ρ a=.ok (.str y) b:=by rw[ah,al s];show((ah dk G0 (.call "_law_draw" [.var 0,.lit (.int 95)]) ρ a).bind λe b=>(a8 (.str iN) e b).noErr)=_;rw[E];show(a8 (.str iN) (.int q) b).noErr=_;rw[f];rfl
  unfold Dh;rw[ah,d];exact g
 ·rw[Zy h]at d;obtain⟨q,b,Q,u,d2,E⟩:=jI (ρ:=ρ) H c (m:=11) (by decide) (by decide) j av;obtain⟨y,k,f⟩:=sU (S:=b) (z:=Fo) (by decide+kernel) Q (by rw[qZ];omega);refine⟨y,b,k,d1.trans d2,?_⟩
  have g:ah dk G0 (.idx (.lit (.str "01234567 ,-")) (.call "_law_draw" [.var 0,.lit (.int 11)])) ρ a=.ok (.str y) b:=by
   have i:ah dk G0 (.lit (.str "01234567 ,-")) ρ a=.ok (.str Fo) a:=by simp only[ah];rfl
   rw[ah,i];show((ah dk G0 (.call "_law_draw" [.var 0,.lit (.int 11)]) ρ a).bind λe b=>(a8 (.str Fo) e b).noErr)=_;rw[E];show(a8 (.str Fo) (.int q) b).noErr=_;rw[f];rfl
  unfold Dh;rw[ah,d];exact g
theorem dv{e f:CE}{a b:Str}(h:a.length+b.length<=1000)(h1:ah Φ G0 e ρ S=.ok (.str a) S)(H:ah Φ G0 f ρ S=.ok (.str b) S):ah Φ G0 (.bin .Add e f) ρ S=.ok (.str (a++b)) S:=
 eY h1 H (Fj a b (Zl h (by decide)))
theorem c5{x:Str}:ah Φ G0 (.lit (.str x)) ρ S=.ok (.str x) S:=av
theorem gv{e f:CE}{a b:Ls}(h:a.length+b.length<=1000)(h1:ah Φ G0 e ρ S=.ok (.lst (a.map D.str)) S)(H:ah Φ G0 f ρ S=.ok (.lst (b.map D.str)) S):ah Φ G0 (.bin .Add e f) ρ S=.ok (.lst ((a++b).map D.str)) S:=
 eY h1 H (yf a b (Zl h (by decide)))
structure Ws (W l:Ls)(k:Nat):Prop where
 zero:∀p∈l,cnt p=0
 tot_le:tot l<=tot W
 len:l.length<=k
theorem Ws.sub{l:Ls}{k:Nat}(h:l.Sublist W)(b:∀p∈W,cnt p=0)(H:l.length<=k):Ws W l k:=⟨λp a=>b p (h.subset a),Fi h,H⟩
theorem q8(a b:Nat):((W.drop a).take b).Sublist W:=(Qu _ _).trans (Q6 _ _)
theorem q9{l:Ls}{e:CE}(d:∀p∈l,cnt p=0)(H:tot l<=1000)(c:l.length<=63)(h:ah Φ G0 e ρ S=.ok (.lst (l.map D.str)) S):ah Φ G0 (.join " " [e]) ρ S=.ok (.str (Pt " " l)) S/\Sm 1000 63 (Pt " " l):=by
 refine⟨MY (by lia) (λz b=>?_) h,ma d H c⟩
 have:z.length<=(l.map (·.length)).sum:=by
  clear h d H c
  induction l with
  |nil=>cases b
  |cons a l i=>
   grind
 unfold tot at H;lia
theorem q_(l:Ls):tot l.reverse=tot l:=by unfold tot;rw[UE,List.sum_reverse,PM]
theorem mj{r:Int}(h:0<=r)(h1:r<ys.length):∃y∈ys,a8 (.lst (ys.map D.str)) (.int r) S=.ok (.str y) S:=by obtain⟨c,H,a⟩:=mf (l:=ys.map D.str) h (by simp_all);obtain⟨y,b,rfl⟩:=Zs.mp a;refine⟨y,b,?_⟩;show(match fA (ys.map D.str) r with|some y=>Res.ok y S|none=>.fail)=_;rw[H]
theorem rc{t:Nat}(h1:t<ys.length):∃y∈ys,a8 (.lst (ys.map D.str)) (.int (t:Int)) S=.ok (.str y) S:=mj (by simp) (by simp_all)
theorem sV{e f:CE}{a b:Str}(h1:ah Φ G0 e ρ S=.ok (.str a) S)(h:ah Φ G0 f ρ S=.ok (.str b) S):ah Φ G0 (.lst Oy [e,f]) ρ S=.ok (.lst (([a,b]:Ls).map D.str)) S:=by simp[ah,ai,h1,h,Res.bind]
theorem Fp{e f g k:CE}{a b c d:Str}(h1:ah Φ G0 e ρ S=.ok (.str a) S)(h:ah Φ G0 f ρ S=.ok (.str b) S)(H:ah Φ G0 g ρ S=.ok (.str c) S)(i:ah Φ G0 k ρ S=.ok (.str d) S):ah Φ G0 (.lst Oy [e,f,g,k]) ρ S=.ok (.lst (([a,b,c,d]:Ls).map D.str)) S:=by simp[ah,ai,h1,h,H,i,Res.bind]
theorem NV{x y w:Nat}(h1:x<=w)(H:y<=w)(h:w<=n+1):x+y<=3*n+9:=by omega
theorem NW{x y z w:Nat}(h1:x<=w)(H:y<=w)(a:z<=w)(h:w<=n+1):x+y+z<=3*n+9:=by omega
theorem Om{A C D p q t N:Nat}(b:p<=N)(_:t<=q)(h1:A<=p-0)(H:C<=min q N-p)(a:D<=N-p)(h:N<=31):A+C+D<=63:=by omega
theorem Oo{F N:Nat}(h1:F<=N-0)(h:N<=31):F+(N-1)<=63:=by omega
theorem NX{A B:Nat}(h:A+B<=62):A+1+B<=63:=by omega
theorem NY{A B C:Nat}(h:A+B<=300)(H:C<=300):A+B+C<=1000:=by omega
theorem NZ{A B:Nat}(h:A+B<=300):A+B<=1000:=by omega
theorem N1{A B:Nat}(h:A<=300)(H:B<=300):A+B<=1000:=by omega
theorem rf{t:Nat}{x s:Str}{a:Int}(hn:n<=200)(h:Sm n 30 x)(hg:Sm 1 1 s)(ht:t<(aR x).length):
  ∃r1 r2 r3:Ls,(∀y∈r1++r2++r3,Sm (3*n+9) 63 y)/\r1.length=4/\r2.length=2/\r3.length=2/\∀ρ:bv,ρ[1]?=some (some (.str x))->ρ[2]?=some (some (.int a))->ρ[4]?=some (some (.str s))->ρ[5]?=some (some (.lst ((aR x).map D.str)))->ρ[6]?=some (some (.int (t:Int)))->ah Φ G0 (.lst Oy wE) ρ S=.ok (.lst (r1.map D.str)) S/\ah Φ G0 (.lst Oy wH) ρ S=.ok (.lst (r2.map D.str)) S/\ah Φ G0 (.lst Oy wI) ρ S=.ok (.lst (r3.map D.str)) S:=by
 have R:(aR x).length<=31:=by rw[ya];have:=h.2;omega
 have r:tot (aR x)<=n+1:=by rw[MX];have:=h.1;omega
 have hz:∀p∈aR x,cnt p=0:=λp H=>Ff H;obtain⟨Y,U,ea⟩:=l_ (S:=S) h (by omega) none (some a);obtain⟨yb,hb,eb⟩:=l_ (S:=S) h (by omega) (some a) none;obtain⟨yc,hc,ec⟩:=l_ (S:=S) h (by omega) (some (a+1)) none;have sn:Sm 1 1 ("\n":Str):=⟨Zf _,by decide+kernel⟩;have wA:=me (S:=S) (aR x) none (some (t:Int));have wB:=me (S:=S) (aR x) (some ((t+1:Nat):Int)) none;have wC:=me (S:=S) (aR x) (some (t:Int)) (some ((t+1:Nat):Int));have wD:=me (S:=S) (aR x) (some (t:Int)) none;have wF:=me (S:=S) (aR x) none (some ((1:Nat):Int))
 have wG:ka (.lst ((aR x).map D.str)) (.int 0) (.int (-1)) S=.ok (.lst ((aR x).tail.reverse.map D.str)) S:=by show Res.ok (D.lst ((aR x).map D.str).tail.reverse) S=_;rw[<-List.map_tail,UE]
 have sx:∀(k:Nat),HT.bt (aR x).length 0 (some (k:Int))=min k (aR x).length:=λk=>rfl;have sy:∀(k:Nat),HT.bt (aR x).length (aR x).length (some (k:Int))=min k (aR x).length:=λk=>rfl;rw[sy]at wA;rw[sx]at wB wC wD;rw[sy]at wC wF;have n0:HT.bt (aR x).length 0 none=0:=rfl;have nN:HT.bt (aR x).length (aR x).length none=(aR x).length:=rfl;rw[n0]at wA wF;rw[nN]at wB wD;generalize hW:aR x=W at*;have cut:∀a b,Ws W ((W.drop a).take b) ((W.drop a).take b).length:=λa b=>.sub (q8 a b) hz (Zf _)
 have m:∀a b,((W.drop a).take b).length<=b/\((W.drop a).take b).length<=W.length-a:=λa b=>by rw[OV,QE];omega
 have P:=cut 0 (min t W.length-0);have cB:=cut (min (t+1) W.length) (W.length-min (t+1) W.length);have cC:=cut (min t W.length) (min (t+1) W.length-min t W.length);have cD:=cut (min t W.length) (W.length-min t W.length);have cF:=cut 0 (min 1 W.length-0);have kA:=m 0 (min t W.length-0);have kB:=m (min (t+1) W.length) (W.length-min (t+1) W.length);have kC:=m (min t W.length) (min (t+1) W.length-min t W.length);have kD:=m (min t W.length) (W.length-min t W.length);have kF:=m 0 (min 1 W.length-0);obtain⟨w,hw,ew⟩:=rc (S:=S) ht
 have sw:Sm n 0 w:=⟨by
  have:=ML (x:=x) (p:=w) (by rw[hW];exact hw);have:=h.1;omega,by rw[hz w hw];exact Zf _⟩
 obtain⟨j,u,ew'⟩:=l' (S:=S) sw (by omega);have cG:tot W.tail.reverse<=tot W:=by rw[q_];exact Fi (Um W)
 have zG:∀p∈W.tail.reverse,cnt p=0:=λp H=>hz p ((Um W).subset (UD.mp H));have lG:W.tail.reverse.length=W.length-1:=by rw[PM,Rg]
 generalize hA:(W.drop 0).take (min t W.length-0)=A at*;generalize hB:(W.drop (min (t+1) W.length)).take (W.length-min (t+1) W.length)=B at*;generalize hC:(W.drop (min t W.length)).take (min (t+1) W.length-min t W.length)=C at*;generalize hD:(W.drop (min t W.length)).take (W.length-min t W.length)=i at*;generalize hF:(W.drop 0).take (min 1 W.length-0)=F at*;have tA:=P.tot_le;have tB:=cB.tot_le;have tC:=cC.tot_le;have tD:=cD.tot_le;have tF:=cF.tot_le;have tw:tot [j]<=n+1:=by have:=u.1;unfold tot;simp;omega
 have M:∀p∈A++B,cnt p=0:=λp H=>(ZC.mp H).elim (P.zero p) (cB.zero p);have z:∀p∈A++C++i,cnt p=0:=λp H=>(ZC.mp H).elim (λq=>(ZC.mp q).elim (P.zero p) (cC.zero p)) (cD.zero p);have O:∀p∈F++W.tail.reverse,cnt p=0:=λp H=>(ZC.mp H).elim (cF.zero p) (zG p);have Z:∀p∈A++[j]++B,cnt p=0:=λp H=>(ZC.mp H).elim (λq=>(ZC.mp q).elim (P.zero p) λq=>by rw[OT.mp q];exact Nat.le_zero.mp u.2) (cB.zero p);have J:tot (A++B)<=3*n+9:=by rw[jH];exact NV tA tB r
 have T:tot (A++C++i)<=3*n+9:=by rw[jH,jH];exact NW tA tC tD r
 have K:tot (F++W.tail.reverse)<=3*n+9:=by rw[jH];exact NV tF cG r
 have g:tot (A++[j]++B)<=3*n+9:=by rw[jH,jH];exact NW (Zl tA r) tw (Zl tB r) (Zf _)
 have c:3*n+9<=1000:=Zl (Nat.add_le_add_right (Nat.mul_le_mul_left 3 hn) 9) (by decide);have l:A.length+B.length<=62:=Nat.add_le_add (Zl kA.2 (Zl (Nat.sub_le _ _) R)) (Zl kB.2 (Zl (Nat.sub_le _ _) R));have L:A.length+C.length+i.length<=63:=Om (Nat.min_le_right _ _) (TL t) kA.1 kC.1 kD.1 R;have E:F.length+(W.length-1)<=63:=Oo kF.2 R;clear kA kB kC kD kF;have G:(A++B).length<=63:=by rw[Zk];exact Ux l
 have N:(A++C++i).length<=63:=by rw[Zk,Zk];exact L
 have I:(F++W.tail.reverse).length<=63:=by rw[Zk,lG];exact E
 have f:(A++[j]++B).length<=63:=by rw[Zk,Zk,O9];exact NX l
 refine⟨[Y++s++yb,Y++yc,Y++s++yc,x++"\n"],[Pt " " (A++B),Pt " " (A++C++i)],[Pt " " (F++W.tail.reverse),Pt " " (A++[j]++B)],?_,rfl,rfl,rfl,?_⟩
 ·intro y hy;simp only[UC,P1,Zh,Zt,ZZ]at hy;rcases hy with rfl|rfl|rfl|rfl|rfl|rfl|rfl|rfl
  ·exact((U.app hg).app hb).mono (by omega) (by decide)
  ·exact(U.app hc).mono (by omega) (by decide)
  ·exact((U.app hg).app hc).mono (by omega) (by decide)
  ·exact(h.app sn).mono (by omega) (by decide)
  ·exact ma M J G
  ·exact ma z T N
  ·exact ma O K I
  ·exact ma Z g f
 ·intro ρ X v2 v4 v v6;have da:ah Φ G0 Gb ρ S=.ok (.str Y) S:=mi X (al v2) ea;have db:ah Φ G0 NL ρ S=.ok (.str yb) S:=iM X (al v2) eb;have dc:ah Φ G0 KW ρ S=.ok (.str yc) S:=iM X (Fn v2) ec;have dg:ah Φ G0 (.var 4) ρ S=.ok (.str s) S:=al v4;have dx:ah Φ G0 (.var 1) ρ S=.ok (.str x) S:=al X;have la:=U.1;have lb:=hb.1;have lc:=hc.1;have lg:=hg.1;have lx:=h.1;have nl:("\n":Str).length=1:=rfl;have d6:ah Φ G0 (.var 6) ρ S=.ok (.int (t:Int)) S:=al v6;have o:ah Φ G0 (.bin .Add (.var 6) (.lit (.int 1))) ρ S=.ok (.int ((t+1:Nat):Int)) S:=Fn v6;have eA:ah Φ G0 Gd ρ S=.ok (.lst (A.map D.str)) S:=mi v d6 wA;have eB:ah Φ G0 KY ρ S=.ok (.lst (B.map D.str)) S:=iM v o wB;have eC:ah Φ G0 NM ρ S=.ok (.lst (C.map D.str)) S:=Fm v d6 o wC;have eD:ah Φ G0 NN ρ S=.ok (.lst (i.map D.str)) S:=iM v d6 wD;have eF:ah Φ G0 (.sl (.var 5) [] [.lit (.int 1)]) ρ S=.ok (.lst (F.map D.str)) S:=mi v av wF
  have eG:ah Φ G0 (.rv0 (.var 5) (.lit (.int 0)) (.neg (.lit (.int 1)))) ρ S=.ok (.lst (W.tail.reverse.map D.str)) S:=by simp only[ah,v,Res.bind,wG,Res.noErr]
  have eW:ah Φ G0 (.lst Oy [.rev (.idx (.var 5) (.var 6)) (.neg (.lit (.int 1)))]) ρ S=.ok (.lst (([j]:Ls).map D.str)) S:=by have hi:ah Φ G0 (.idx (.var 5) (.var 6)) ρ S=.ok (.str w) S:=ft (al v) (al v6) ew;generalize CE.idx (.var 5) (.var 6)=q at hi⊢;simp[ah,ai,hi,Res.bind,ew',Res.noErr]
  have V:Y.length+s.length<=300:=Nat.add_le_add (b:=299) (d:=1) (Zl la (Zl hn (by decide:200<=299))) lg;have e:n<=300:=Zl hn (by decide);have Q:yb.length<=300/\yc.length<=300/\Y.length<=300/\x.length<=300:=⟨Zl lb e,Zl lc e,Zl la e,Zl lx e⟩;clear la lb lc lg lx
  exact⟨Fp (dv (by rw[fw];exact NY V Q.1) (dv (NZ V) da dg) db) (dv (N1 Q.2.2.1 Q.2.1) da dc) (dv (by rw[fw];exact NY V Q.2.1) (dv (NZ V) da dg) dc) (dv (by rw[nl];exact N1 Q.2.2.2 (by decide)) dx c5),
   sV (q9 M (Zl J c) G (gv (Zl l (by decide)) eA eB)).1 (q9 z (Zl T c) N (gv (by rw[Zk];exact Zl L (by decide)) (gv (Zl (Tu L) (by decide)) eA eC) eD)).1,
   sV (q9 O (Zl K c) I (gv (by rw[lG];exact Zl E (by decide)) eF eG)).1 (q9 Z (Zl g c) f (gv (by rw[Zk,O9];exact Zl (NX l) (by decide)) (gv (by rw[O9];exact Zl (Nat.succ_le_succ (Tu l)) (by decide)) eA eW) eB)).1⟩
theorem Fq{E i j k l m n o p:CE}{a A b c d e f g h:Str}(h1:ah Φ G0 E ρ S=.ok (.str a) S)(H:ah Φ G0 i ρ S=.ok (.str A) S)(q:ah Φ G0 j ρ S=.ok (.str b) S)(r:ah Φ G0 k ρ S=.ok (.str c) S)(s:ah Φ G0 l ρ S=.ok (.str d) S)(t:ah Φ G0 m ρ S=.ok (.str e) S)(u:ah Φ G0 n ρ S=.ok (.str f) S)(v:ah Φ G0 o ρ S=.ok (.str g) S)(w:ah Φ G0 p ρ S=.ok (.str h) S):ah Φ G0 (.lst Oy [E,i,j,k,l,m,n,o,p]) ρ S=.ok (.lst (([a,A,b,c,d,e,f,g,h]:Ls).map D.str)) S:=by simp[ah,ai,h1,H,q,r,s,t,u,v,w,Res.bind]
noncomputable def r4(x:Str):Ls:=[""," ","9","0","none","None","8 0-8"," "++x,x++" "]
theorem Fs{x:Str}(h:Sm n 30 x):∀y∈r4 x,Sm (3*n+9) 63 y:=by
 have s:Sm 1 1 (" ":Str):=⟨Zf _,by decide+kernel⟩;have k:∀z:Str,z.length<=9->cnt z<=63->Sm (3*n+9) 63 z:=λz a b=>⟨by lia,b⟩;intro y H;simp only[r4,Zh,Zt,ZZ]at H;rcases H with rfl|rfl|rfl|rfl|rfl|rfl|rfl|rfl|rfl
 ·exact k _ (by decide+kernel) (by decide+kernel)
 ·exact k _ (by decide+kernel) (by decide+kernel)
 ·exact k _ (by decide+kernel) (by decide+kernel)
 ·exact k _ (by decide+kernel) (by decide+kernel)
 ·exact k _ (by decide+kernel) (by decide+kernel)
 ·exact k _ (by decide+kernel) (by decide+kernel)
 ·exact k _ (by decide+kernel) (by decide+kernel)
 ·exact(s.app h).mono (by lia) (by simp)
 ·exact(h.app s).mono (by lia) (by simp)
theorem yg{x:Str}(l:x.length<=200)(v:ρ[1]?=some (some (.str x))):ah Φ G0 (.lst Oy pP) ρ S=.ok (.lst ((r4 x).map D.str)) S:=by have n:(" ":Str).length=1:=rfl;exact Fq c5 c5 c5 c5 c5 c5 c5 (dv (by lia) c5 (al v)) (dv (by lia) (al v) c5)
theorem Ft{i:Nat}{x:Str}(h:x.length<=1000)(v:ρ[i]?=some (some (.str x))):ah Φ G0 (.blt .len [.var i]) ρ S=.ok (.int x.length) S:=by
 have e:aA .len [.str x] S=.ok (.int x.length) S:=by show(if x.length<=a' then _ else _)=_;lia
 simp only[ah,ai,v,Res.bind,e,Res.noErr]
theorem Fu{i:Nat}{l:Ls}(h:l.length<=1000)(v:ρ[i]?=some (some (.lst (l.map D.str)))):ah Φ G0 (.blt .len [.var i]) ρ S=.ok (.int l.length) S:=by have e:aA .len [.lst (l.map D.str)] S=.ok (.int (l.map D.str).length) S:=rfl;rw[Zn]at e;simp only[ah,ai,v,Res.bind,e,Res.noErr]
theorem rg{l:Nat}{x:Str}(B:Flat S)(M:aS S n)(X:l<=200)(h:Sm l 30 x):∃y S',Sm (3*l+9) 63 y/\Drawn n S S'/\lq [.ref n,.str x] S=.ok (.str y) S':=by
 suffices g:∃y S',Sm (3*l+9) 63 y/\Drawn n S S'/\ag dk G0 wJ [some (.ref n),some (.str x),none,none,none,none,none,none] S=.ok (.ret (.str y)) S' by obtain⟨y,S',s,d,e⟩:=g;exact⟨y,S',s,d,aP rfl e d.len (d.flat B) rfl⟩
 have lx:=h.1;have hN:(aR x).length<=31:=by rw[ya];have:=h.2;omega
 have hP:0<(aR x).length:=by rw[ya];omega
 obtain⟨a,I,a0,a1,d1,O⟩:=jI (ρ:=[some (.ref n),some (.str x),none,none,none,none,none,none]) B M (m:=(x.length:Int)+1) (e:=.bin .Add (.blt .len [.var 1]) (.lit (.int 1))) (by omega) (by omega) rfl (eY (Ft (by omega) rfl) av rfl);have H:=d1.flat B;have p:=d1.pen M;obtain⟨f,J,G,d2,P⟩:=q5 (ρ:=[some (.ref n),some (.str x),some (.int a),some (.str iN),none,none,none,none]) H p rfl rfl;have o:=d2.flat H;have w:=d2.pen p;obtain⟨t,i,t0,t1,A,Q⟩:=jI (ρ:=[some (.ref n),some (.str x),some (.int a),some (.str iN),some (.str f),some (.lst ((aR x).map D.str)),none,none]) o w (m:=((aR x).length:Int)) (e:=.blt .len [.var 5]) (by omega) (by omega) rfl (Fu (by omega) rfl);have C:=A.flat o;have E:=A.pen w;obtain⟨k,rfl⟩:=Qt t0;obtain⟨R,c,j,Y,l1,l2,l3,F⟩:=rf (Φ:=dk) (S:=i) (t:=k) (a:=a) X h G (by omega);have U:=(F [some (.ref n),some (.str x),some (.int a),some (.str iN),some (.str f),some (.lst ((aR x).map D.str)),some (.int (k:Int)),none] rfl rfl rfl rfl rfl).1;have V:=(F [some (.ref n),some (.str x),some (.int a),some (.str iN),some (.str f),some (.lst ((aR x).map D.str)),some (.int (k:Int)),some (.lst (R.map D.str))] rfl rfl rfl rfl rfl).2.1;have W:=(F [some (.ref n),some (.str x),some (.int a),some (.str iN),some (.str f),some (.lst ((aR x).map D.str)),some (.int (k:Int)),some (.lst ((R++c).map D.str))] rfl rfl rfl rfl rfl).2.2;obtain⟨q,K,q0,q1,N,L⟩:=jI (ρ:=[some (.ref n),some (.str x),some (.int a),some (.str iN),some (.str f),some (.lst ((aR x).map D.str)),some (.int (k:Int)),some (.lst ((R++c++j).map D.str))]) C E (m:=17) (e:=.lit (.int 17)) (by decide) (by decide) rfl av;have n4:(r4 x).length=9:=rfl;obtain⟨y,Z,T⟩:=mj (S:=K) (ys:=R++c++j++r4 x) (r:=q) q0 (by simp only[Zk,l1,l2,l3,n4];omega);refine⟨y,K,(ZC.mp Z).elim (Y y) (Fs h y),((d1.trans d2).trans A).trans N,?_⟩;rw[M0];refine(bj (d:=.int a) (S':=I) O).trans ?_;refine(bj (d:=.str iN) (S':=I) c5).trans ?_;refine(bj (d:=.str f) (S':=J) P).trans ?_;refine(bj (d:=.lst ((aR x).map D.str)) (S':=J) (MN (by omega) rfl)).trans ?_;refine(bj (d:=.int (k:Int)) (S':=i) Q).trans ?_;refine(bj (d:=.lst (R.map D.str)) (S':=i) U).trans ?_;refine(bj (d:=.lst ((R++c).map D.str)) (S':=i) (gv (by omega) (al rfl) V)).trans ?_;refine(bj (d:=.lst ((R++c++j).map D.str)) (S':=i) (gv (by rw[Zk];omega) (al rfl) W)).trans ?_;refine br (fq ?_);have g:=gv (Φ:=dk) (S:=i) (ρ:=[some (.ref n),some (.str x),some (.int a),some (.str iN),some (.str f),some (.lst ((aR x).map D.str)),some (.int (k:Int)),some (.lst ((R++c++j).map D.str))]) (e:=.var 7) (a:=R++c++j) (b:=r4 x) (by rw[Zk,Zk];omega) (al rfl) (yg (by omega) rfl);generalize CE.bin .Add (.var 7) (.lst Oy pP)=u at g⊢;generalize CE.call "_law_draw" [.var 0,.lit (.int 17)]=v at L⊢;show ah dk G0 (.idx u v) [some (.ref n),some (.str x),some (.int a),some (.str iN),some (.str f),some (.lst ((aR x).map D.str)),some (.int (k:Int)),some (.lst ((R++c++j).map D.str))] i=_;simp only[ah,g,L,Res.bind,T,Res.noErr]
theorem M1:iu=K92.iu:=rfl
theorem M3(W:cJ m ts)(H:Flat S)(g:aS S n):∃d S',qT d/\Drawn n S S'/\pR [.ref n,ao m ts] S=.ok d S':=by
 obtain⟨d,a,b,D,e⟩:=K92.xV W H g;rw[<-M1]at e;have h:=D.flat H;obtain⟨k,c⟩:=E_ b;have E:=(c a h).2;have L:a_ 0 (.tup (aa ts))=Ox:=K92.fo ts
 have F:cr (.tup [.int m,.tup (aa ts),.tup []]):=xN (by simp) λx f=>by
  simp only[Zh,Zt,ZZ]at f;rcases f with rfl|rfl|rfl
  ·rfl
  ·exact L
  ·rfl
 have i:a8 (ao m ts) (.int 0) a=.ok (.int m) a:=rfl;have I:a8 (ao m ts) (.int 1) a=.ok (.tup (aa ts)) a:=rfl;generalize ao m ts=w at*;cases k with
 |false=>refine⟨d,a,λS H=>(c S H).1,D,aP rfl ?_ D.len h b.lo⟩;simp[wM,wL,ag,ar,am,ah,ai,Res.bind,Di,Dj,e,E,a9]
 |true=>refine⟨.tup [.int m,.tup (aa ts),.tup []],a,λS H=>by rw[E8];exact K92.EI H (by simp),D,aP rfl ?_ D.len h F.lo⟩;generalize aa ts=l at*;simp[wM,wL,ag,ar,am,ah,ai,Res.bind,Res.noErr,Di,Dj,e,E,i,I,a9]
noncomputable def nS(i:Int):Str:=(toString i:String)
noncomputable def dF(t:Int×Int):Str:=nS t.1++"-"++nS t.2
theorem n8:∀i∈([0,1,2,3,4,5,6,7,8]:Li),(nS i).length=1/\cnt (nS i)=0:=by decide+kernel
theorem Fv{i:Int}(h:0<=i/\i<=8):i∈([0,1,2,3,4,5,6,7,8]:Li):=by obtain⟨n,rfl⟩:=Qt h.1;exact(by decide:∀n:Fin 9,((n.val:Nat):Int)∈([0,1,2,3,4,5,6,7,8]:Li)) ⟨n,Q8 (Int.ofNat_le.mp h.2)⟩
theorem nl{i:Int}(h:0<=i/\i<=8):(nS i).length=1/\cnt (nS i)=0:=n8 i (Fv h)
theorem Fw{e:CE}{i:Int}(h:0<=i/\i<=8)(H:ah Φ G0 e ρ S=.ok (.int i) S):ah Φ G0 (.blt .str [e]) ρ S=.ok (.str (nS i)) S:=by refine jF H ?_;show(if i.natAbs<2^64 then Res.ok (D.str (nS i)) S else .fail)=_;rw[if_pos (by omega)]
def ml(t:Int×Int):Prop:=(0<=t.1/\t.1<=8)/\0<=t.2/\t.2<=8
theorem Fx:(("-":Str)).length=1/\cnt ("-":Str)=0:=by decide+kernel
theorem rh{e f:CE}{t:Int×Int}(h:ml t)(h1:ah Φ G0 e ρ S=.ok (.int t.1) S)(H:ah Φ G0 f ρ S=.ok (.int t.2) S):ah Φ G0 (.bin .Add (.bin .Add (.blt .str [e]) (.lit (.str "-"))) (.blt .str [f])) ρ S=.ok (.str (dF t)) S:=by have a:=nl h.1;have b:=nl h.2;have c:=Fx;exact dv (by rw[fw];omega) (dv (by omega) (Fw h.1 h1) av) (Fw h.2 H)
theorem mm{t:Int×Int}(h:ml t):(dF t).length=3/\cnt (dF t)=0:=by have a:=nl h.1;have b:=nl h.2;have c:=Fx;unfold dF;rw[fw,fw,qW,qW];omega
theorem mn(W:cJ m ts){t:Int×Int}(h:t∈ts):ml t:=by have H:=W.tie t h;have a:=W.hi;exact⟨⟨by omega,by omega⟩,by omega,by omega⟩
theorem Fy:∀{ts:Lq},(∀t∈ts,ml t)->tot (ts.map dF)=4*ts.length
 | [],_=>rfl
 |t::ts,h=>by have a:=(mm (h t Zd)).1;have b:=Fy (ts:=ts) λz H=>h z (Zc _ H);unfold tot at b⊢;simp only[ZV,List.sum_cons,ZE]at b⊢;omega
theorem M4(ts:Lq):(ts.map dF).map D.str=ts.map λt=>D.str (dF t):=by rw[Pb];rfl
theorem M5{e:CE}(H:∀t∈ts,ml t)(b:ts.length<=100)(h:ah Φ G0 e ρ S=.ok (.tup (aa ts)) S):ah Φ G0 (.comp Oy ["_law_one","_law_other"] [none,none] (.tup [.var 0,.var 1]) (.seq e) [] (.emit (.bin .Add (.bin .Add (.blt .str [.var 0]) (.lit (.str "-"))) (.blt .str [.var 1])))) ρ S=.ok (.lst ((ts.map dF).map D.str)) S:=by rw[M4];exact xD (ds:=ts) (h:=aq) (r0:=[none,none]) (rs:=λt=>[some (.int t.1),some (.int t.2)]) (lS h rfl) rfl (λ_ _=>rfl) (by omega) λt a=>rh (H t a) (al rfl) (al rfl)
theorem rj:eT=K92.eT:=rfl
theorem Fz:d_=K92.d_:=rfl
theorem M6:eU=K92.eU:=rfl
theorem M7:jk=K92.jk:=rfl
theorem rm:gf=K92.gf:=rfl
section
variable {x:Str}
noncomputable def wC(x:Str):Ls:=QR x ","
theorem rn(x:Str):(wC x).length<=x.length+1:=by have h:=xY "," rfl (wC x);rw[show PQ "," (wC x)=x from PR x ","]at h;exact h
theorem mq{p:Str}(h:p∈wC x):p.length<=x.length:=by have:=xX "," h;rw[show PQ "," (wC x)=x from PR x ","]at this;exact this
theorem FA{i:Nat}(a:x.length<=1000)(h:ρ[i]?=some (some (.str x))):ah Φ G0 (.smt .split (.var i) [.lit (.str ",")]) ρ S=.ok (.lst ((wC x).map D.str)) S:=by
 have e:gI .split x [.str ","] S=.ok (.lst ((wC x).map D.str)) S:=by have H:=rn x;show(if(",":Str).length≠0/\x.length<=a'/\(wC x).length<=10000 then Res.ok (D.lst ((wC x).map D.str)) S else .fail)=_;rw[if_pos ⟨by decide,by lia,by lia⟩]
 simp only[ah,ai,h,Res.bind,e,Res.noErr]
noncomputable def fW(x:Str):Ls:=if x="none" then []else wC x
theorem ro(x:Str):(fW x).length<=x.length+1:=by
 unfold fW;split
 ·exact ZY _
 ·exact rn x
theorem rx{p:Str}(h:p∈fW x):p.length<=x.length:=by
 unfold fW at h;split at h
 ·cases h
 ·exact mq h
noncomputable def pD(ws:Ls):D:=.tup (ws.map λp=>bO (cM p))
noncomputable def lD(ws:Ls):D:=.tup (ws.map λp=>bK (cj p))
noncomputable def ry(ws:Ls):Bool:=ws.all λp=>(cj p).isSome
theorem mr(ws:Ls):a_ 0 (pD ws)=Ox:=by
 show bi 0 (ws.map λp=>bO (cM p))=Ox
 induction ws with
 |nil=>rfl
 |cons a l i=>show(a_ 0 _&&bi 0 _)=Ox;rw[K92.MO,i];rfl
theorem M8{w:Str}(h:K92.gw ts (bO (cM w))=Ox):(cj w).isSome=Ox:=by
 unfold cj
 match e:cM w with
 |none=>rw[e]at h;cases h
 |some (some p,some q)=>rfl
 |some (none,q)=>rw[e]at h;cases q<;>cases h
 |some (some p,none)=>rw[e]at h;cases h
theorem M9(W:cJ m ts){ws:Ls}(g:ws.length<64):∃k,(k=Ox->ry ws=Ox)/\(ry ws=Ox->∃ps,pD ws=.tup (aa ps)/\lD ws=.tup (aa ps))/\∀S,Flat S->d_ [ao m ts,pD ws] S=.ok (.bl k) S/\(ry ws=Ox->eU [ao m ts,lD ws] S=.ok (.bl k) S):=by
 cases e:ry ws with
 |false=>
  refine⟨Oy,(λh=>nomatch h),(λh=>nomatch h),λS H=>⟨?_,(λh=>nomatch h)⟩⟩;refine K92.qs H W (K92.Es H W (λd c=>?_) (by grind) ?_)
  ·obtain⟨p,_,rfl⟩:=Zs.mp c;exact K92.MP _
  ·cases q:(ws.map λp=>bO (cM p)).all (K92.gw ts)with
   |false=>rfl
   |true=>
    rw[<-e]
    symm
    refine Zp.mpr λp n=>M8 (ts:=ts) ?_;simp_all
 |true=>
  obtain⟨ps,a,b⟩:=K92.Fb e;have Q:pD ws=.tup (aa ps):=congrArg D.tup a;have j:lD ws=.tup (aa ps):=congrArg D.tup b;have i:(aa ps).length<64:=by rw[<-a,Zn];exact g
  obtain⟨k,l⟩:=K92.xW W (K92.iz i λe f=>by obtain⟨t,_,rfl⟩:=Zs.mp f;exact K92.fL t);refine⟨k,λ_=>rfl,λ_=>⟨ps,Q,j⟩,λS H=>?_⟩;rw[Q,j];exact⟨(l S H).1,λ_=>(l S H).2⟩
theorem M_:lm=[.expr (.call "must_be_web" [.var 0]),.expr (.call "must_be_text" [.var 1]),.asg 2 pK,.asg 3 mB,.ite (.bnot (.call "is_pairing" [.var 0,.var 3])) [.raise_ "NoText" [.lit (.str "this text writes no pairing of the web")]] [],.ret (.var 3)]:=rfl
theorem M'(x y:Str):aw .Eq (.str x) (.str y) S=.ok (.bl (x==y)) S:=rfl
theorem rA{a b c:Option D}(H:x.length<=1000):ah fm G0 pK [a,some (.str x),b,c] S=.ok (.lst ((fW x).map D.str)) S:=by
 have s:=FA (Φ:=fm) (S:=S) (ρ:=[a,some (.str x),b,c]) (i:=1) H rfl;show(if(x==("none":Str))=Ox then _ else _)=_;unfold fW;by_cases h:x="none"
 ·rw[if_pos (by simp_all),if_pos h];rfl
 simp_all
theorem rB(d:Flat S){a b c:Option D}{ws:Ls}(j:ws.length<=1001)(hw:∀p∈ws,p.length<=1000):ah fm G0 mB [a,b,some (.lst (ws.map D.str)),c] S=.ok (pD ws) S:=by
 have e:(1000:Nat)<=a':=by decide
 have H:ah fm G0 (.comp Oy ["word"] [none] (.var 0) (.seq (.var 2)) [] (.emit (.call "read_tie" [.var 0]))) [a,b,some (.lst (ws.map D.str)),c] S=.ok (.lst (ws.map λp=>bO (cM p))) S:=
  xD (ds:=ws) (h:=D.str) (r0:=[none]) (rs:=λp=>[some (.str p)]) (lS (al rfl) rfl) rfl (λ_ _=>rfl) (by lia) λp f=>by have F:=K92.Ms d p (Zl (hw p f) e);trivial
 have g:aA .tuple [.lst (ws.map λp=>bO (cM p))] S=.ok (.tup (ws.map λp=>bO (cM p))) S:=rfl;unfold mB;generalize CE.comp Oy ["word"] [none] (.var 0) (.seq (.var 2)) [] (.emit (.call "read_tie" [.var 0]))=q at H⊢;simp only[ah,ai,Res.bind,H,g,Res.noErr,pD]
theorem FC(h:Flat S)(W:cJ m ts):eT [ao m ts] S=.ok .non S:=by rw[rj];exact K92.w_ h W
theorem FD(H:Flat S)(W:cJ m ts)(j:x.length<=1000){k:Bool}(h:d_ [ao m ts,pD (fW x)] S=.ok (.bl k) S):gg [ao m ts,.str x] S=if k=Ox then .ok (pD (fW x)) S else .err yC S:=by
 have E:=FC H W;have l:gf [.str x] S=.ok .non S:=by exact K92.qU H x
 have n:=rA (S:=S) (a:=some (ao m ts)) (b:=none) (c:=none) j;have s:=ro x;have o:=rB H (a:=some (ao m ts)) (b:=some (.str x)) (c:=none) (ws:=fW x) (by lia) (λp q=>Zl (rx q) j);generalize ao m ts=w at*
 have i:∀{r},ag fm G0 [.ite (.bnot (.call "is_pairing" [.var 0,.var 3])) [.raise_ "NoText" [.lit (.str "this text writes no pairing of the web")]] [],.ret (.var 3)] [some w,some (.str x),some (.lst ((fW x).map D.str)),some (pD (fW x))] S=r->ag fm G0 lm [some w,some (.str x),none,none] S=r:=λ{r} e=>by
  simp only[<-e,M_];refine(aW (ρ':=[some w,some (.str x),none,none]) (S':=S) ?_).trans ?_
  ·simp only[ar,ah,ai,Res.bind,Zo,wq,E,mz,pK,mB]
  refine(aW (ρ':=[some w,some (.str x),none,none]) (S':=S) ?_).trans ?_
  ·simp only[ar,ah,ai,Res.bind,Zo,Zr,C6,l,mz,pK,mB]
  refine(bj (d:=.lst ((fW x).map D.str)) (S':=S) n).trans ?_;exact(bj (d:=pD (fW x)) (S':=S) o).trans rfl
 have t:am fm G0 (.bnot (.call "is_pairing" [.var 0,.var 3])) [some w,some (.str x),some (.lst ((fW x).map D.str)),some (pD (fW x))] S=.ok (!k) S:=
  bd (K92.qB KD (al rfl) (al rfl) h)
 cases k with
 |true=>refine aP rfl (i ?_) rfl H (mr _);refine(aW (ρ':=[some w,some (.str x),some (.lst ((fW x).map D.str)),some (pD (fW x))]) (S':=S) ((cZ t).trans rfl)).trans ?_;rfl
 |false=>refine l8 rfl (i ?_) H;rw[ag,cZ t];rfl
theorem Na(H:Flat S){w:D}(h:qT w):gg [w,d] S=.err MJ S:=by
 have e:eT [w] S=.err MJ S:=by exact K92.MK H h
 refine l8 rfl ?_ H;simp[lm,ag,ar,ah,ai,Res.bind,wq,e,pK,mB]
theorem Nb(H:Flat S)(W:cJ m ts)(h:aA .isinst [d,.ty "str"] S=.ok (.bl Oy) S):gg [ao m ts,d] S=.err yC S:=by
 have E:=FC H W;have e:gf [d] S=.err yC S:=by rw[rm];exact K92.qV H h
 refine l8 rfl ?_ H;generalize ao m ts=w at*;simp[lm,C5,ag,ar,ah,ai,Res.bind,wq,C6,E,e,pK,mB]
end
theorem FE:gk=K92.gk:=rfl
section
variable {x:Str}
theorem FF{a b v:D}(H:Flat S)(c:a_ 0 v=Ox)(h:gg [a,b] S=.ok v S):gq [a,b] S=.ok v S:=by refine aP rfl ?_ rfl H c;show ag iv G0 wO [some a,some b,none] S=_;refine br ?_;have e:ag iv G0 [.ret (.call "read_pairing" [.var 0,.var 1])] [some a,some b,none] S=.ok (.ret v) S:=br (fq (fK K6 (al rfl) (al rfl) h));simp only[ar,e,pK,mB]
theorem FG{a b:D}{e:Exc}(c:Flat S)(h:gg [a,b] S=.err e S)(f:e.fs=[])(d:(Kp.zip F9).lookup e.cls=some y):gq [a,b] S=.ok (.lst [.str "no",.str y]) S:=by
 refine aP rfl ?_ rfl c rfl;show ag iv G0 wO [some a,some b,none] S=_;refine br ?_;have H:ah iv G0 (.call "read_pairing" [.var 0,.var 1]) [some a,some b,none] S=.err e S:=by trivial
 have E:ag iv G0 [.ret (.call "read_pairing" [.var 0,.var 1])] [some a,some b,none] S=.err e S:=by rw[ag,ar,H];rfl
 dsimp only[ar,pK,mB];simp_all
theorem FH(H:Flat S){a b:D}(h:gg [a,b] S=.err yC S):gq [a,b] S=.ok fx S:=FG H h rfl (by decide+kernel)
theorem Nc(H:Flat S){a b:D}(h:qT a):gq [a,b] S=.ok (.lst [.str "no",.str "web"]) S:=FG H (Na H h) rfl (by decide+kernel)
theorem Nf(H:Flat S)(W:cJ m ts)(h:aA .isinst [d,.ty "str"] S=.ok (.bl Oy) S):gq [ao m ts,d] S=.ok fx S:=FH H (Nb H W h)
theorem rE:wP=[.ite (.cmp .Eq (.var 1) (.lit (.str "none"))) [.ret (.tup [])] [],.asg 2 Gf,.ret (.ite sP Dk (.var 2))]:=rfl
theorem Ng(ws:Ls):aw .In .non (lD ws) S=.ok (.bl (!(ry ws))) S:=by
 have e:f7 .non (lD ws) S=some (!(ry ws)):=by
  show iQ ((ws.map λp=>bK (cj p)).map λy=>bY S bu y .non)=_;rw[Pb];have:(λy=>bY S bu y .non)∘(λp=>bK (cj p))=λp=>some (!(cj p).isSome):=by funext p;show bY S bu (bK (cj p)) .non=_;cases cj p<;>rfl
  rw[this,K92.DK];simp[ry]
  induction ws with
  |nil=>rfl
  |cons a l i=>simp_all
 exact(show aw .In .non (lD ws) S=bb (f7 .non (lD ws) S) S from rfl).trans (by rw[e];rfl)
theorem rF(c:Flat S){a:Option D}(b:x.length<=1000):ah cW G0 Gf [a,some (.str x),none] S=.ok (lD (wC x)) S:=by
 have d:(1000:Nat)<=a':=by decide
 have j:=rn x
 have H:ah cW G0 (.comp Oy ["_law_word"] [none] (.var 0) (.seq (.smt .split (.var 1) [.lit (.str ",")])) [] (.emit (.call "_law_tie_in" [.var 0]))) [a,some (.str x),none] S=.ok (.lst ((wC x).map λp=>bK (cj p))) S:=
  xD (ds:=wC x) (h:=D.str) (r0:=[none]) (rs:=λp=>[some (.str p)]) (lS (FA b rfl) rfl) rfl (λ_ _=>rfl) (by omega) λp e=>by have f:=K92.Mt c p (Zl (Zl (mq e) b) d);rw[<-M7]at f;simp only[ah,ai,Zo,Res.bind,K8,f]
 have g:aA .tuple [.lst ((wC x).map λp=>bK (cj p))] S=.ok (.tup ((wC x).map λp=>bK (cj p))) S:=rfl;unfold Gf;generalize CE.comp Oy ["_law_word"] [none] (.var 0) (.seq (.smt .split (.var 1) [.lit (.str ",")])) [] (.emit (.call "_law_tie_in" [.var 0]))=q at H⊢;simp only[ah,ai,Res.bind,H,g,Res.noErr,lD]
theorem yh(ws:Ls):a_ 0 (lD ws)=Ox:=by
 show bi 0 (ws.map λp=>bK (cj p))=Ox
 induction ws with
 |nil=>rfl
 |cons a l i=>
  show(a_ 0 _&&bi 0 _)=Ox;rw[i];have:a_ 0 (bK (cj a))=Ox:=by cases cj a<;>rfl
  rw[this];rfl
theorem FI(h:Flat S)(ps:Lq):gk [.tup (aa ps),.tup (aa ps)] S=.ok (.bl Ox) S:=by rw[FE];show K92.bS 6 _ S=_;rw[K92.Fc];refine K92.EF h λt a=>?_;obtain⟨t,_,rfl⟩:=Zs.mp a;refine K92.EF h λy H=>?_;simp only[Zh,Zt,ZZ]at H;rcases H with rfl|rfl<;>exact K92.MQ h 3 _
theorem FJ(H:Flat S)(W:cJ m ts)(p:x.length<=1000)(n:(wC x).length<64):∃v,gq [ao m ts,.str x] S=.ok v S/\lw [ao m ts,.str x] S=.ok v S/\gk [v,v] S=.ok (.bl Ox) S:=by
 by_cases s:x="none"
 ·subst s;have e:fW "none"=[]:=rfl
  have j:d_ [ao m ts,pD (fW "none")] S=.ok (.bl Ox) S:=by rw[Fz,e];exact K92.LR H W (ps:=[]) ⟨.nil,(λ_ h=>nomatch h),.nil⟩ (by decide)
  have g:=FD H W p j;rw[e]at g;refine⟨pD [],FF H rfl g,?_,FI H []⟩;refine aP rfl ?_ rfl H rfl;rfl
 ·have e:fW x=wC x:=if_neg s;obtain⟨k,K,E,F⟩:=M9 W n;obtain⟨j,g⟩:=F S H;have l:=FD H W p (by rw[e];exact j);rw[e]at l;have u:(x==("none":Str))=Oy:=by simpa using s
  have t:am cW G0 (.cmp .Eq (.var 1) (.lit (.str "none"))) [some (ao m ts),some (.str x),none] S=.ok Oy S:=by rw[<-u];exact qC (al rfl) av (M' _ _)
  have f:=rF H (x:=x) (a:=some (ao m ts)) p;have o:∀{r v},ah cW G0 (.ite sP Dk (.var 2)) [some (ao m ts),some (.str x),some (lD (wC x))] S=r->r=.ok v S->a_ 0 v=Ox->lw [ao m ts,.str x] S=.ok v S:=λ{r v} h q B=>by subst h;refine aP rfl ?_ rfl H B;show ag cW G0 wP [some (ao m ts),some (.str x),none] S=_;rw[rE];refine(aW (ρ':=[some (ao m ts),some (.str x),none]) (S':=S) ((cZ t).trans rfl)).trans ?_;refine(bj (d:=lD (wC x)) (S':=S) f).trans ?_;exact br (fq q)
  have D:ah cW G0 Dk [some (ao m ts),some (.str x),some (lD (wC x))] S=.ok fx S:=l5 (aU av (aU av c7));have C:am cW G0 (.cmp .In (.lit (.non)) (.var 2)) [some (ao m ts),some (.str x),some (lD (wC x))] S=.ok (!(ry (wC x))) S:=qC av (al rfl) (Ng _)
  have G:∀{b:Bool},am cW G0 sP [some (ao m ts),some (.str x),some (lD (wC x))] S=.ok b S->ah cW G0 (.ite sP Dk (.var 2)) [some (ao m ts),some (.str x),some (lD (wC x))] S=if b=Ox then .ok fx S else .ok (lD (wC x)) S:=λ{b} h=>by rw[ah,h];show(if b=Ox then _ else _)=_;rw[D];rfl
  have A:=FI (S:=S) H;have z:gk [fx,fx] S=.ok (.bl Ox) S:=by rw[FE];exact K92.MT H
  cases k with
  |true=>
   have ok:=K rfl;obtain⟨P,Q,I⟩:=E ok;have c:am cW G0 sP [some (ao m ts),some (.str x),some (lD (wC x))] S=.ok Oy S:=by have i:=bd (K92.qB (Φ:=cW) (a:=.var 0) (b:=.var 2) (ρ:=[some (ao m ts),some (.str x),some (lD (wC x))]) Dl (al rfl) (al rfl) (g ok));rw[ok]at C;exact eZ (x:=Oy) (y:=Oy) C i
   refine⟨.tup (aa P),?_,?_,A P⟩
   ·rw[<-Q];exact FF H (mr _) l
   ·rw[<-I];exact o rfl ((G c).trans rfl) (yh _)
  |false=>
   refine⟨fx,FH H l,?_,z⟩;cases ok:ry (wC x)with
   |false=>rw[ok]at C;have c:am cW G0 sP [some (ao m ts),some (.str x),some (lD (wC x))] S=.ok Ox S:=fu C;exact o rfl ((G c).trans rfl) rfl
   |true=>have i:=bd (K92.qB (Φ:=cW) (a:=.var 0) (b:=.var 2) (ρ:=[some (ao m ts),some (.str x),some (lD (wC x))]) Dl (al rfl) (al rfl) (g ok));rw[ok]at C;have c:am cW G0 sP [some (ao m ts),some (.str x),some (lD (wC x))] S=.ok Ox S:=eZ (x:=Oy) (y:=Ox) C i;exact o rfl ((G c).trans rfl) rfl
end
theorem Oq:∀i∈([0,1,2,3,4,5,6,7,8]:Li),(nS i).cps.toList.count 44=0:=by decide+kernel
section
variable {x:Str}
noncomputable def cC(x:Str):Nat:=x.cps.toList.count 44
theorem yi(a b:Str):cC (a++b)=cC a+cC b:=by show(a.cps++b.cps).toList.count 44=_;rw[TH,Ul];rfl
theorem ms:(",":Str)=⟨#[44]⟩:=by decide+kernel
theorem Nh:cC ","=1:=by decide+kernel
theorem rG:cC "-"=0:=by decide+kernel
theorem yj:∀(ws:Ls),ws≠[]->(∀p∈ws,cC p=0)->cC (PQ "," ws)+1=ws.length
 | [],h,_=>absurd rfl h
 | [x],_,h=>by show cC x+1=1;rw[h x Zd]
 |x::z::r,_,h=>by have i:=yj (z::r) (by simp) λp H=>h p (Zc _ H);show cC (x++","++PQ "," (z::r))+1=(z::r).length+1;simp only[yi,h x Zd,Nh];lia
theorem FK(x:Str):wC x≠[]:=by
 intro h;have e:PQ "," (wC x)=x:=PR x ",";rw[h]at e;have E:x.length=0:=by rw[<-e];rfl
 have:wC x=[x]:=if_pos (by rw[E];rfl);rw[this]at h;cases h
theorem yk(x:Str):(wC x).length=cC x+1:=by
 have:=yj (wC x) (FK x) λp h=>by unfold wC at h;rw[ms]at h;exact Ua.mpr (Tt x 44 p h)
 rw[show PQ "," (wC x)=x from PR x ","]at this;exact this.symm
theorem yl{t:Int×Int}(h:ml t):cC (dF t)=0:=by have q:∀{i:Int},0<=i/\i<=8->cC (nS i)=0:=λ{i} h=>Oq i (K92.Fv h);unfold dF;rw[yi,yi,q h.1,q h.2,rG]
noncomputable def ef(ps:Lq):Str:=if ps=[]then "none" else Pt "," (ps.map dF)
theorem Ni(s:Str)(l:Ls):(Pt s l).length=(l.map (·.length)).sum+(l.length-1)*s.length:=Sn s l
theorem FL(h:∀t∈ps,ml t):(ef ps).length<=4*ps.length+4/\(ps.length<=4->(ef ps).length<=15):=by
 unfold ef;split
 ·exact⟨by show(4:Nat)<=_;simp,λ_=>by show(4:Nat)<=15;simp⟩
 ·rename_i H;have a:=Fy h;have b:=Ni "," (ps.map dF);have c:(",":Str).length=1:=rfl;have d:0<ps.length:=T2.mpr H;unfold tot at a
  grind
theorem Nj(h:∀t∈ps,ml t):(wC (ef ps)).length<=ps.length+1:=by
 rw[yk];unfold ef;split
 ·show 0+1<=_;simp
 ·have:=yj (ps.map dF) (by simp_all) λp H=>by
   obtain⟨t,a,rfl⟩:=Zs.mp H;exact yl (h t a)
  rw[<-PZ]at this;show cC (RF "," (ps.map dF))+1<=_;simp_all
theorem Nk{xs:Ls}{e:CE}(H:xs.length<=1000)(b:∀z∈xs,z.length<=1000)(h:ah Φ G0 e ρ S=.ok (.lst (xs.map D.str)) S):ah Φ G0 (.join "," [e]) ρ S=.ok (.str (Pt "," xs)) S:=by
 have E:cQ (xs.map D.str)=some xs:=by
  clear h b H
  induction xs with
  |nil=>rfl
  |cons a l i=>show(cQ (l.map D.str)).map (a:: ·)=_;simp_all
 have c:fN "," [.lst (xs.map D.str)] S=.ok (.str (Pt "," xs)) S:=by
  show(match(some (xs.map D.str)).bind cQ with
   |some xs=>if(",":Str).length<=100/\xs.length<=1000/\(xs.all λx=>decide (x.length<=1000))=Ox then Res.ok (D.str (Pt "," xs)) S else .fail
   |none=>.fail)=_
  rw[Ub,E];dsimp only;rw[if_pos ⟨by decide,H,Zp.mpr λx h=>ZA (b x h)⟩]
 simp only[ah,ai,h,Res.bind,c,Res.noErr]
theorem FN(a:Flat S)(H:∀t∈ps,ml t)(b:ps.length<=100):pO [.tup (aa ps)] S=.ok (.str (ef ps)) S:=by
 refine aP rfl ?_ rfl a rfl;cases ps with
 |nil=>rfl
 |cons t ps=>have h:am Dg G0 (.cmp .Eq (.var 0) (.tup [])) [some (.tup (aa (t::ps)))] S=.ok Oy S:=rfl;refine(aW (ρ':=[some (.tup (aa (t::ps)))]) (S':=S) ((cZ h).trans rfl)).trans ?_;refine br (fq (Nk (xs:=(t::ps).map dF) (by grind) (λz c=>?_) (M5 H b (al rfl))));obtain⟨t,h,rfl⟩:=Zs.mp c;rw[(K92.mm (H t h)).1];simp
theorem rH(x:Str):(QJ x "," " ").length=x.length:=by rw[ms,StrLaws.replace_one,<-ms,<-PZ];have a:=Sn " " (wC x);have b:=Sn "," (wC x);have e:PQ "," (wC x)=x:=PR x ",";rw[PZ,e]at b;have c:(" ":Str).length=1:=rfl;have C:(",":Str).length=1:=rfl;rw[c]at a;rw[C]at b;exact a.trans b.symm
theorem Nl{a b c d:CE}{l x z:Str}{d1 d2 e f:D}{es:List CE}(h1:ah Φ G0 a ρ S=.ok d1 S)(H:ah Φ G0 b ρ S=.ok d2 S)(h:fM .Add d2 (.str l) S=.ok e S)(g:ah Φ G0 c ρ S=.ok f S)(i:ah Φ G0 d ρ S=.ok (.str z) S)(k:gJ x y (.str z) S=.ok (.str (QJ z x y)) S)(j:ai Φ G0 es ρ S=.ok ds S)(m:ds.length<900):ah Φ G0 (.lstR a b l c d x y es) ρ S=.ok (.lst (d1::e::f:: .str (QJ z x y)::ds)) S:=by simp only[ah,h1,H,h,g,i,j,Res.bind,Res.noErr,k,ZE];lia
end
theorem rJ:jo=K92.jo:=rfl
theorem rK:jm=K92.jm:=rfl
theorem Nm:jl=K92.jl:=rfl
theorem Nn:jp=K92.jp:=rfl
theorem rL:fU=[.for_ (.var 1) pS ly,.ret (.lit (.bl Ox))]:=rfl
def Ask(x:Str):Prop:=x.length<=1000/\(wC x).length<64
def fy(d:D):Prop:=∃x,Ask x/\d=.str x
theorem Np{x:Str}(h:x.length<=60):Ask x:=⟨by lia,by have:=rn x;lia⟩
theorem hU{x:Str}(h:x.length<=60):fy (.str x):=⟨x,Np h,rfl⟩
noncomputable def cu(x:Str):List D:=[.str x,.str "none",.str "",.str " ",.str "none ",.str "None",.str "0-1",.str "1-0",.str "0-1,0-1",.str "0-1,",.str ",0-1",.str "0-1 2-3",.str "0-1, 2-3"]
theorem Nq{x:Str}(h:x.length<=15):∀d∈cu x,fy d:=by
 intro d H;simp only[cu,Zh,Zt,ZZ]at H;rcases H with rfl|rfl|rfl|rfl|rfl|rfl|rfl|rfl|rfl|rfl|rfl|rfl|rfl
 ·exact hU (by lia)
 all_goals exact hU (by decide+kernel)
theorem FO{x:Str}(h:ρ[5]?=some (some (.str x))):ah Φ G0 Dm ρ S=.ok (.lst (cu x)) S:=
 l5 (aU (al h) (aU av (aU av (aU av (aU av (aU av (aU av (aU av (aU av (aU av (aU av (aU av (aU av c7)))))))))))))
theorem FP(j:Flat S)(W:cJ m ts){x:Str}(q:x.length<=15)(g:ρ[3]?=some (some (ao m ts)))(h:ρ[5]?=some (some (.str x))):∃ys,(∀d∈ys,fy d)/\ys.length=6/\ah aD G0 Dq ρ S=.ok (.lst ys) S:=by
 have w:=W.few;have v:(1000:Nat)<=a':=by decide
 have L:(",0-1":Str).length=4:=rfl;obtain⟨y,s,E⟩:=l' (S:=S) (x:=x) (n:=15) (k:=x.length) ⟨q,RK⟩ (by decide);have f:ah aD G0 (.rev (.var 5) (.neg (.lit (.int 1)))) ρ S=.ok (.str y) S:=by simp only[ah,h,Res.bind,E,Res.noErr]
 have H:∀t∈ts,ml t:=λt p=>mn W p;have e:=FN j H (by omega);have i:ah aD G0 (.call "_law_pairing_text" [.idx (.var 3) (.lit (.int 1))]) ρ S=.ok (.str (ef ts)) S:=xj Dr (ft (al g) av rfl) e;have o:gJ "," " " (.str x) S=.ok (.str (QJ x "," " ")) S:=if_pos ⟨by omega,by decide+kernel,by decide⟩;have r:=Nl (Φ:=aD) (ρ:=ρ) (S:=S) (l:=",0-1") f (al h) (K92.Fj x ",0-1" (by omega)) i (al h) o (es:=[.lit (.str "[]"),.lit (.str "()")]) (ds:=[.str "[]",.str "()"]) (aU av (aU av c7)) (by decide);refine⟨_,λd c=>?_,rfl,r⟩;simp only[Zh,Zt,ZZ]at c;rcases c with rfl|rfl|rfl|rfl|rfl|rfl
 ·exact hU (by have:=s.1;omega)
 ·exact hU (by rw[fw];omega)
 ·have a:=FL H;have b:=Nj H;exact⟨_,⟨by omega,by omega⟩,rfl⟩
 ·exact hU (by rw[rH];omega)
 ·exact hU (by decide)
 ·exact hU (by decide)
theorem mu{x:Str}(f:Sm 15 30 x){step:D->List D->af->Res (List D)}(hs:∀y acc S d S',acc.length<a'->lq [.ref n,.str x] S=.ok d S'->step y acc S=.ok (acc++[d]) S'):∀(xs acc:List D) (S:af),Flat S->aS S n->acc.length+xs.length<=1000->(∀d∈acc,fy d)->
  ∃ys S',(∀d∈ys,fy d)/\ys.length=acc.length+xs.length/\Drawn n S S'/\aV step xs acc S=.ok ys S'
 | [],acc,S,H,h,_,b=>⟨acc,S,b,rfl,.refl h,rfl⟩
 |z::xs,acc,S,H,h,m,b=>by
  obtain⟨y,e,k,a,E⟩:=K92.rg H h (by simp) f;have q:=hs z acc S (.str y) e (by lia) E
  obtain⟨ys,i,c,l,g,j⟩:=mu f hs xs (acc++[.str y]) e (a.flat H) (a.pen h) (by grind) (λd hd=>by
   rcases ZC.mp hd with hd|hd
   ·exact b d hd
   ·rw[OT.mp hd];exact hU (Zl k.1 (by simp)))
  refine⟨ys,i,c,?_,a.trans g,?_⟩
  ·grind
  ·simp[aV];rw[q];exact j
theorem rN{x:Str}(u:Sm 15 30 x)(o:Flat S)(s:aS S n)(i:ρ[2]?=some (some (.ref n)))(l:ρ[5]?=some (some (.str x))):∃ys S',(∀d∈ys,fy d)/\ys.length=8/\Drawn n S S'/\ah aD G0 wQ ρ S=.ok (.lst ys) S':=by
 have m:a7 aD G0 (.range [.lit (.int 8)]) ρ S=.ok (.items (dU 0 8)) S:=by simp[a7,ai,ah,Res.bind]
 obtain⟨ys,S',a,b,c,d⟩:=mu u (step:=λx A g=>match bp (.var 0) x ([none,some 2,some 5].map λj=>j.bind λj=>(ρ[j]?).join)with
    |some e=>(aX aD G0 [] e g).bind λk f=>if k=Ox then bB aD G0 (.emit (.call "_law_bent_text" [.var 1,.var 2])) e A f else .ok A f
    |none=>.fail) (λz A S d S' p r=>by
   have t:([none,some 2,some 5].map λj=>Option.bind j λj=>(ρ[j]?).join)=[none,some (.ref n),some (.str x)]:=by simp[i,l]
   have h:A.length<16777216:=p;have H:bp (.var 0) z [none,some (.ref n),some (.str x)]=some [some z,some (.ref n),some (.str x)]:=rfl;simp only[t,H];simp only[aX,bB,Res.bind,if_true,ah,ai,Zo,Zr,Lc,r];simp[h]) (dU 0 8) [] S o s (by simp[K92.qa,K92.qb]) (λd q=>by cases q)
 refine⟨ys,S',a,?_,c,?_⟩
 ·rw[b];simp[K92.qa,K92.qb]
 ·exact ix m d
theorem FQ(b:Flat S)(W:cJ m ts){s0 x1 x6 x7:Option D}(f:∀d∈ds,fy d):∃y,cK (λx ρ S=>match aL (.var 7) x ρ with
   |some ρ'=>ag aD G0 [.ite pT [.ret (.lit (.bl Oy))] []] ρ' S
   |none=>.fail) ds [s0,x1,x2,some (ao m ts),x4,x5,x6,x7,x8] S=.ok (.next [s0,x1,x2,some (ao m ts),x4,x5,x6,y,x8]) S:=by
 obtain⟨ρ',g,⟨y,rfl,rfl⟩,h⟩:=qA (step:=λx ρ S=>match aL (.var 7) x ρ with
   |some ρ'=>ag aD G0 [.ite pT [.ret (.lit (.bl Oy))] []] ρ' S
   |none=>.fail) (λρ T=>∃y,ρ=[s0,x1,x2,some (ao m ts),x4,x5,x6,y,x8]/\T=S) ds (by rintro d c ρ T ⟨y,rfl,rfl⟩;obtain⟨x,H,rfl⟩:=f d c;obtain⟨v,e,E,a⟩:=FJ b W H.1 H.2;generalize ao m ts=w at*;have t:am aD G0 pT [s0,x1,x2,some w,x4,x5,x6,some (.str x),x8] T=.ok Oy T:=bd (K92.qB Ld (fK wT (al rfl) (al rfl) e) (fK Lf (al rfl) (al rfl) E) a);exact⟨_,T,⟨some (.str x),rfl,rfl⟩,(gu t).trans (rfl)⟩) [s0,x1,x2,some (ao m ts),x4,x5,x6,x7,x8] S ⟨x7,rfl,rfl⟩
 exact⟨y,h⟩
theorem FR(f:Flat S)(W:cJ m ts){s0 x1 x6 x7:Option D}:∃y,ar aD G0 (.for_ (.var 8) wR [.ite pU [.ret (.lit (.bl Oy))] []]) [s0,x1,x2,some (ao m ts),some (.tup (aa ps)),x5,x6,x7,x8] S=.ok (.next [s0,x1,x2,some (ao m ts),some (.tup (aa ps)),x5,x6,x7,y]) S:=by
 have g:ah aD G0 .dct [s0,x1,x2,some (ao m ts),some (.tup (aa ps)),x5,x6,x7,x8] S=.ok .dct S:=rfl;have c:a7 aD G0 wR [s0,x1,x2,some (ao m ts),some (.tup (aa ps)),x5,x6,x7,x8] S=.ok (.items [.non,.int 3,.tup (aa ps),.lst [.str "none"],.bl Ox,.dct]) S:=lS (l5 (aU av (aU av (aU (al rfl) (aU (l5 (aU av c7)) (aU av (aU g c7))))))) rfl
 have i:∀d∈([.non,.int 3,.tup (aa ps),.lst [.str "none"],.bl Ox,.dct]:List D),∀T,aA .isinst [d,.ty "str"] T=.ok (.bl Oy) T:=by intro d H T;simp only[Zh,Zt,ZZ]at H;rcases H with h|h|h|h|h|h<;>rw[h]<;>rfl
 generalize D.tup (aa ps)=p at*
 obtain⟨a,j,⟨y,rfl,rfl⟩,h⟩:=qA (step:=λx b S=>match aL (.var 8) x b with
   |some a=>ag aD G0 [.ite pU [.ret (.lit (.bl Oy))] []] a S
   |none=>.fail) (λb T=>∃y,b=[s0,x1,x2,some (ao m ts),some p,x5,x6,x7,y]/\T=S) [.non,.int 3,p,.lst [.str "none"],.bl Ox,.dct] (by rintro d H b T ⟨y,rfl,rfl⟩;have e:=Nf f W (i d H T);have q:aw .NotEq fx fx T=.ok (.bl Oy) T:=rfl;generalize ao m ts=w at*;have t:am aD G0 pU [s0,x1,x2,some w,some p,x5,x6,x7,some d] T=.ok Oy T:=qC (fK wT (al rfl) (al rfl) e) (l5 (aU av (aU av c7))) q;exact⟨_,T,⟨some d,rfl,rfl⟩,(gu t).trans (rfl)⟩) [s0,x1,x2,some (ao m ts),some p,x5,x6,x7,x8] S ⟨x8,rfl,rfl⟩
 exact⟨y,(gr c).trans h⟩
theorem FU{k:Nat}(H:Flat S)(a:aS S k)(h:ρ[2]?=some (some (.ref k))):∃v S',Drawn k S S'/\ah aD G0 pV ρ S=.ok v S':=by
 obtain⟨r,S',R,f,d,e⟩:=fJ H a (m:=3) (by simp) (by simp);have c:ah aD G0 (.call "_law_draw" [.var 2,.lit (.int 3)]) ρ S=.ok (.int r) S':=fK Lg (al h) av e;have l:ah aD G0 (.lst Oy [.lit (.non),.lit (.str "none"),.lit (.str "x")]) ρ S=.ok (.lst [.non,.str "none",.str "x"]) S:=l5 (aU av (aU av (aU av c7)))
 obtain⟨v,b⟩:∃v,a8 (.lst [.non,.str "none",.str "x"]) (.int r) S'=.ok v S':=by rcases(by lia:r=0\/r=1\/r=2)with rfl|rfl|rfl<;>exact⟨_,rfl⟩
 refine⟨v,S',d,?_⟩;unfold pV;generalize CE.call "_law_draw" [.var 2,.lit (.int 3)]=q at c⊢;generalize CE.lst Oy [.lit (.non),.lit (.str "none"),.lit (.str "x")]=u at l⊢;simp only[ah,l,Res.bind,c,b,Res.noErr]
theorem FV{k:Nat}(f:Flat S)(W:cJ m ts)(g:aS S k)(e:ρ[2]?=some (some (.ref k)))(p:ρ[3]?=some (some (ao m ts))):∃S',Flat S'/\am aD G0 wS ρ S=.ok Oy S':=by obtain⟨B,i,d,d1,E⟩:=K92.M3 W f g;have h:=d1.flat f;obtain⟨v,a,d2,j⟩:=FU (ρ:=ρ) h (d1.pen g) e;have H:=d2.flat h;have l:=Nc (b:=v) H d;have c:ah aD G0 (.call "_law_no_web" [.var 2,.var 3]) ρ S=.ok B i:=fK Le (al e) (al p) E;have G:ah aD G0 (.call "_law_told" [.call "_law_no_web" [.var 2,.var 3],pV]) ρ S=.ok (.lst [.str "no",.str "web"]) a:=fK wT c j l;have n:ah aD G0 (.lst Oy [.lit (.str "no"),.lit (.str "web")]) ρ a=.ok (.lst [.str "no",.str "web"]) a:=l5 (aU av (aU av c7));have o:aw .NotEq (.lst [.str "no",.str "web"]) (.lst [.str "no",.str "web"]) a=.ok (.bl Oy) a:=rfl;refine⟨a,H,?_⟩;unfold wS;simp only[am,G,n,o,Res.bind,Res.noErr,ax]
theorem rO(a:Flat S)(f:ns.length<=63){x:List (Option D)}:∃cs:Li,a7 aD G0 pS (some (.scr (ns.map D.int))::x) S=.ok (.items (cs.map D.int)) S:=by
 obtain⟨c,e⟩:=K92.qN a ns;rw[<-Nm]at e;obtain⟨cs,b,d⟩:∃cs:Li,bF (ns.map D.int) (some 1) (some 8)=cs.map D.int/\cs.length<=63:=by refine⟨(ns.drop _).take _,by unfold bF;rw[<-Q9,<-RT],?_⟩;simp;omega
 refine⟨c::cs,?_⟩;have h:ig (.scr (ns.map D.int)) (some 1) (some 8) S=.ok (.lst (cs.map D.int)) S:=by rw[<-b];rfl
 have H:gB (.lst [.int c]) (.lst (cs.map D.int)) S=.ok (.lst ([.int c]++cs.map D.int)) S:=by
  show(if 1+(cs.map D.int).length<=a' then Res.ok (D.lst ([.int c]++cs.map D.int)) S else .fail)=_
  grind
 simp[pS,a7,ah,ai,Res.bind,Res.noErr,Lb,e,cz,dt,h,fM,H,dQ]
theorem ym(M:Flat S){s0 x3 x6 x7:Option D}(c:Int):∃y2 y3 y4 y5 y6 Y j S',Flat S'/\ag aD G0 ly [s0,some (.int c),x2,x3,x4,x5,x6,x7,x8] S=.ok (.next [s0,some (.int c),y2,y3,y4,y5,y6,Y,j]) S':=by
 obtain⟨b,L⟩:=K92.xM M c;rw[<-rK]at L;have k:Flat (S++[[.int c,.int b]]):=M.snoc rfl;have n:aS (S++[[.int c,.int b]]) S.length:=⟨c,b,by rw[Zq (Zf _)];simp⟩;obtain⟨m,T,O,W,d2,J⟩:=K92.xl k n;rw[<-rJ]at J;have l:=d2.flat k;have o:=d2.pen n;obtain⟨e,g,P,hl,G,K⟩:=K92.L4 W l o;rw[<-Nn]at K;have H:=G.flat l;have q:=G.pen o;have N:∀t∈e,ml t:=λt ht=>mn W (P.sub t ht)
 have h4:e.length<=4:=by have a:=K92.qS W P;have b:=W.hi;omega
 have u:=(FL N).2 h4;have Q:=FN H N (by omega);have B:Sm 15 30 (ef e):=⟨u,Zl RK (Zl u (by decide))⟩;generalize ef e=x at*;obtain⟨y,hy,hyl,R⟩:=FP (ρ:=[s0,some (.int c),some (.ref S.length),some (ao m T),some (.tup (aa e)),some (.str x),some (.lst (cu x)),x7,x8]) H W u rfl rfl;obtain⟨Z,v,hz,hzl,I,U⟩:=rN B H q (ρ:=[s0,some (.int c),some (.ref S.length),some (ao m T),some (.tup (aa e)),some (.str x),some (.lst (cu x++y)),x7,x8]) rfl rfl;have f:=I.flat H;have A:=I.pen q;have nx:(cu x).length=13:=rfl
 obtain⟨Y,eQ⟩:=FQ f W (s0:=s0) (x1:=some (.int c)) (x2:=some (.ref S.length)) (x4:=some (.tup (aa e))) (x5:=some (.str x)) (x6:=some (.lst (cu x++y))) (x7:=x7) (x8:=x8) (ds:=cu x++y++Z) λd hd=>by
  rcases ZC.mp hd with hd|hd
  ·rcases ZC.mp hd with hd|hd
   ·exact Nq u d hd
   ·exact hy d hd
  ·exact hz d hd
 obtain⟨j,X⟩:=FR f W (ps:=e) (s0:=s0) (x1:=some (.int c)) (x2:=some (.ref S.length)) (x5:=some (.str x)) (x6:=some (.lst (cu x++y))) (x7:=Y) (x8:=x8);obtain⟨F,z,V⟩:=FV f W A (ρ:=[s0,some (.int c),some (.ref S.length),some (ao m T),some (.tup (aa e)),some (.str x),some (.lst (cu x++y)),Y,j]) rfl rfl;refine⟨some (.ref S.length),some (ao m T),some (.tup (aa e)),some (.str x),some (.lst (cu x++y)),Y,j,F,z,?_⟩;generalize ao m T=w at*;generalize D.tup (aa e)=p at*;unfold ly;refine(bj (d:=.ref S.length) (S':=S++[[.int c,.int b]]) (xj K9 (al rfl) L)).trans ?_;refine(bj (d:=w) (S':=O) (fK K_ (al rfl) av J)).trans ?_;refine(bj (d:=p) (S':=g) (fK K' (al rfl) (al rfl) K)).trans ?_;refine(bj (d:=.str x) (S':=g) (xj Dr (al rfl) Q)).trans ?_;refine(bj (d:=.lst (cu x)) (S':=g) (FO rfl)).trans ?_;refine(bj (d:=.lst (cu x++y)) (S':=g) (eY (al rfl) R (xA (by omega)))).trans ?_;refine(aW (ρ':=[s0,some (.int c),some (.ref S.length),some w,some p,some (.str x),some (.lst (cu x++y)),Y,x8]) (S':=v) ?_).trans ?_
 ·have h:=eY (al (Φ:=aD) (Γ:=G0) (S:=g) (ρ:=[s0,some (.int c),some (.ref S.length),some w,some p,some (.str x),some (.lst (cu x++y)),x7,x8]) (i:=6) rfl) U (xA (p:=cu x++y) (by rw[Zk];omega))
  have hI:a7 aD G0 (.seq (.bin .Add (.var 6) wQ)) [s0,some (.int c),some (.ref S.length),some w,some p,some (.str x),some (.lst (cu x++y)),x7,x8] g=.ok (.items (cu x++y++Z)) v:=by
   rw[a7]
   refine Eq.trans (congrArg (λr=>Res.bind r λd E=>match dQ E d with
    |some i=>Res.ok i E
    |none=>.fail) h) ?_
   rfl
  exact(gr hI).trans eQ
 refine(aW (ρ':=[s0,some (.int c),some (.ref S.length),some w,some p,some (.str x),some (.lst (cu x++y)),Y,j]) (S':=v) X).trans ?_;exact(aW (ρ':=[s0,some (.int c),some (.ref S.length),some w,some p,some (.str x),some (.lst (cu x++y)),Y,j]) (S':=F) ((cZ V).trans rfl)).trans rfl
theorem good(ns:Li)(p:ns.length<=63):∃S',lz [.scr (ns.map D.int)] []=.ok (.bl Ox) S':=by
 obtain⟨C,j⟩:=rO (S:=[]) Flat.nil p (x:=[none,none,none,none,none,none,none,none])
 obtain⟨a,S',_,o⟩:=qA (step:=λx i S=>match aL (.var 1) x i with
   |some a=>ag aD G0 ly a S
   |none=>.fail) (λi S=>(∃k X x3 b d f g h,i=[some (.scr (ns.map D.int)),k,X,x3,b,d,f,g,h])/\Flat S) (C.map D.int) (by rintro x q i S ⟨⟨k,X,x3,b,d,f,g,h,rfl⟩,m⟩;obtain⟨c,_,rfl⟩:=Zs.mp q;obtain⟨y,Y,r,t,u,v,w,l,H,e⟩:=ym m (s0:=some (.scr (ns.map D.int))) (x2:=X) (x3:=x3) (x4:=b) (x5:=d) (x6:=f) (x7:=g) (x8:=h) c;exact⟨_,l,⟨⟨_,_,_,_,_,_,_,_,rfl⟩,H⟩,e⟩) [some (.scr (ns.map D.int)),none,none,none,none,none,none,none,none] [] ⟨⟨_,_,_,_,_,_,_,_,rfl⟩,Flat.nil⟩
 have n:ag aD G0 fU [some (.scr (ns.map D.int)),none,none,none,none,none,none,none,none] []=.ok (.ret (.bl Ox)) S':=by simp only[rL];refine(aW (ρ':=a) (S':=S') ?_).trans rfl;exact(gr j).trans o
 refine⟨[],?_⟩;show aJ aD G0 fU iJ.length 1 [.scr (ns.map D.int)] []=_;unfold aJ;rw[show ag aD G0 fU ([D.scr (ns.map D.int)].map some++OG (iJ.length-1) none) []=_ from n];rfl
end K92
section
namespace K92
theorem walk{l:PySem.W.OpenLaw}{q:OF}{d:DefRec}{K:Params->Fg}(i:l.most=some 63)(H:d.params.defaults=[])
  (e:∀(w:ON) (h:OI),YP w h->(K w.params).In h)
  (F:∀(w:ON) (mg:Mg) (fa:OA) (h:OI),(K w.params).In h->h.Ns mainGlobals mg->mg d.name=some (.ref fa)->
   ∃fd:Pr,(∀(s:Oz) (u:OB),S_ s fd ⟨[u],[]⟩ [("_law_script",u)])/\∀base:OI,(K w.params).In base->base.Ns mainGlobals mg->c9 l.prog w (K w.params) mg base (bz l.prog w) 11 fa fd ["_law_script"] (iK (K w.params))):
  PySem.W.WalkO q loose XP YP l.row.toRowW d [] (λf vs=>PySem.call f vs):=
 L2.ny (n:=63) (k:=11) (x:="_law_script") (CX:=λw=>bz l.prog w) (sp:=λw=>iK (K w.params)) i (by decide) H ⟨rfl,by decide,by decide,rfl⟩ e F (λ_ _ a N g b c=>⟨a,N,rfl,b,c,g,λ_=>rfl⟩) λ_ _ _ _ _ z=>sM _ _ _ _ _ z
end K92
namespace PySem.W.Fast
def tw2021578604955649119:=Nat
def tw11504531137194212975:=Nat
def tw13661231429583959542:=Nat
def tw8760182946220739229:=Nat
def tw6110592655808140923:=Nat
def tw5927857185796050468:=Nat
def tw6106700319025656289:=Nat
def tw3304573944862451722:=Nat
def tw10371713889250879484:=Nat
def tw7759041738078629800:=Nat
def tw15933570403774263267:=Nat
def tw12765611336249015939:=Nat
def tw16230941103846094081:=Nat
def tw16443696077223032936:=Nat
def tw448918299089754299:=Nat
def tw15649839153404966637:=Nat
def tw12672199886118962987:=Nat
def tw12922946372667041747:=Nat
def tw6035527404567377211:=Nat
def tw9175604147220190180:=Nat
def tw7484583265487078860:=Nat
def tw2807414398338222573:=Nat
def tw11099267340021423149:=Nat
def tw5876126416624694171:=Nat
def tw11637578987873947368:=Nat
def tw9635739470914911139:=Nat
def tw18123869138523141105:=Nat
def tw3384038493311919391:=Nat
def tw15033615861703745081:=Nat
def tw2491828005037465157:=Nat
def tw2484202366237522316:=Nat
def tw1563872271971388297:=Nat
def tw4428246557918298011:=Nat
def tw12178024697535409607:=Nat
def tw11955691360659753661:=Nat
def tw18294396771151603450:=Nat
def tw17911955441221329076:=Nat
def tw17163826766832329837:=Nat
def tw10802529216797880102:=Nat
def tw348217133185324759:=Nat
def tw9506467585839567918:=Nat
def tw14386513318844213753:=Nat
def tw7532473178559833688:=Nat
def tw8296134085708862344:=Nat
def tw1426750507168844438:=Nat
def tw5315575151807418224:=Nat
def tw6233672098417218166:=Nat
def tw17936662227371265619:=Nat
def tw1518289989770946728:=Nat
def tw12302329168562013226:=Nat
def tw10329028008547560489:=Nat
def tw7622380096205436422:=Nat
def tw3291516501754144391:=Nat
def tw15369375409132167418:=Nat
def tw14765859968890621944:=Nat
def tw14981572233712338667:=Nat
def tw7345235299785502284:=Nat
def tw18216120834997105772:=Nat
def tw9883891879374544334:=Nat
def tw5041253210547075683:=Nat
def tw15966695095832752787:=Nat
def tw14552239198790841395:=Nat
def tw13918561520487684500:=Nat
def tw13319241806955909189:=Nat
def tw12548421276873475816:=Nat
def tw11361943713153161536:=Nat
def tw9718827883104252790:=Nat
def tw8361161100573839178:=Nat
def tw8259829007741805438:=Nat
def tw7444613513300893337:=Nat
def tw6948776110472426771:=Nat
def tw6395831005140824123:=Nat
def tw5330404833753095508:=Nat
def tw335371735756134441:=Nat
def tw16515910977509826418:=Nat
def tw15543330860734729389:=Nat
def tw15004273225049875152:=Nat
def tw14924769566081441033:=Nat
def tw14791864705133310116:=Nat
def tw1247111227846629945:=Nat
def tw15990483245393105928:=Nat
def tw8352219955263153468:=Nat
def tw12544659463784645814:=Nat
def tw16948130877639935527:=Nat
def tw13368928622091481560:=Nat
def tw4057966018523567944:=Nat
def tw8229982829045794729:=Nat
def tw3120964293303566965:=Nat
def tw11118040651468817137:=Nat
def tw13678738028342961413:=Nat
def tw6870892199434942436:=Nat
def tw1855431978706885154:=Nat
def tw16538861564815716480:=Nat
def tw11512441050211892673:=Nat
def tw7870463964742975596:=Nat
def tw16751558347429872198:=Nat
def tw9180503614202011631:=Nat
def tw7869414561174629763:=Nat
def tw7606734864114371996:=Nat
def tw6935526242402645609:=Nat
def tw6669416357800528354:=Nat
def tw6491625355872356525:=Nat
def tw6240354596408813507:=Nat
def tw161459307892679213:=Nat
def tw14421670096260186445:=Nat
def tw11014779402619740188:=Nat
def tw720931579602159659:=Nat
def tw4135149755095444229:=Nat
def tw7205237044168327853:=Nat
def tw2243931090671160335:=Nat
def tw15625792453733449984:=Nat
def tw3879941374915805669:=Nat
def tw7917625242695847188:=Nat
def tw723484932531769776:=Nat
def tw3277621520623591517:=Nat
def tw16296677123828446738:=Nat
def tw7105661378716220204:=Nat
def tw8640339941043821448:=Nat
def tw15172882928333468405:=Nat
def tw9400776821574527003:=Nat
def tw6942741238586820443:=Nat
def tw4203728265056014814:=Nat
def tw2750960517123971564:=Nat
def tw2685546102241875187:=Nat
def tw2644473289149117545:=Nat
def tw16976531150203348122:=Nat
def tw12821148131365475541:=Nat
def tw7920800688913348554:=Nat
def tw1252880294865804468:=Nat
def tw11230983368633315070:=Nat
def tw5194540992444894628:=Nat
def tw4209291552113926107:=Nat
def tw8810357454668295223:=Nat
def tw6028825975283450777:=Nat
def tw4976568144666050185:=Nat
def tw4880401997609893885:=Nat
def tw4306415833308931014:=Nat
def tw17597453323921160239:=Nat
def tw11812916760152064658:=Nat
def tw11690280115960457915:=Nat
def tw6637566793409730901:=Nat
def tw16473901354834777888:=Nat
def tw15746655053839178712:=Nat
def tw10704834958762028355:=Nat
def tw5582725385973235415:=Nat
def tw4659550867049279001:=Nat
def tw17795747705063398574:=Nat
def tw17593680756695004728:=Nat
def tw8045335422420142413:=Nat
def tw2544009551864654084:=Nat
def tw14773222555881722357:=Nat
def tw13682351316269549332:=Nat
def tw10766758239339108218:=Nat
def tw13669196909399817593:=Nat
def tw15820640532552680657:=Nat
def tw7541766064986092614:=Nat
def tw18073176550395110170:=Nat
def tw14940671989846092203:=Nat
def tw10142864337041024395:=Nat
def tw13922402434619570091:=Nat
def tw5577749409393716683:=Nat
def tw12308353366629162707:=Nat
def tw2374394170205924049:=Nat
def tw12718700520999423540:=Nat
def tw5061949835379395926:=Nat
def tw7903398084896526105:=Nat
def tw7552849824445184876:=Nat
def tw3988477735887172842:=Nat
def tw11189733627933078933:=Nat
def tw3771226359385478044:=Nat
def tw2164728558713349004:=Nat
def tw10567981968571704448:=Nat
def tw16465339992332352360:=Nat
def tw1698672511743981918:=Nat
def tw7964569219630399184:=Nat
def tw13751701301889501112:=Nat
def tw3084460803137604118:=Nat
def tw12104966094302345850:=Nat
def tw14635900775077528133:=Nat
def tw16487659747548221306:=Nat
def tw5701669787062155156:=Nat
def tw2589310199337890319:=Nat
def tw2313557124932087918:=Nat
def tw591123191057171380:=Nat
def tw8111878161304476436:=Nat
def tw11514648913198259485:=Nat
def tw7928943347196563052:=Nat
def tw6584336650724924846:=Nat
def tw17527166002434430077:=Nat
def tw2982457566249662610:=Nat
def tw372842909966500756:=Nat
def tw12022646260907671019:=Nat
def tw11378997435124180109:=Nat
def tw2016198223472402647:=Nat
def tw1124244400735312057:=Nat
def tw17424438707781878025:=Nat
def tw15084475542328136939:=Nat
def tw5734286103214381915:=Nat
def tw11126089389464298406:=Nat
def tw10395803419724384466:=Nat
def tw6462037348565652356:=Nat
def tw7557588066060583126:=Nat
def tw9401464256835984278:=Nat
def tw9031063973532971731:=Nat
def tw17548113882699971837:=Nat
def tw11894769426284796615:=Nat
def tw15084816244764054334:=Nat
def tw18374949770921639382:=Nat
def tw6273208366561660595:=Nat
def tw17966012955050999559:=Nat
def tw14992761303379284838:=Nat
def tw10836671248796091097:=Nat
def tw14806125003859782324:=Nat
def tw5981811248422160148:=Nat
def tw17615876815830254921:=Nat
def tw9170083478691449999:=Nat
def tw14803456032544822147:=Nat
def tw10153389544175695815:=Nat
def tw17734909485044388176:=Nat
def tw16857717316450269273:=Nat
def tw13187998950809667717:=Nat
def tw5904639137114059329:=Nat
def tw12128222555074005506:=Nat
def tw7633197598745185411:=Nat
def tw16993838625461331662:=Nat
def tw8760024209982274918:=Nat
def tw4586566107533194675:=Nat
def tw2512084912991557447:=Nat
def tw14168954478978492014:=Nat
def tw3755401409367057645:=Nat
def tw12493721171501163989:=Nat
def tw8783646006095932269:=Nat
def tw10778798613500606500:=Nat
def tw194052876775789467:=Nat
def tw11786242951414244721:=Nat
def tw8008704470855785976:=Nat
def tw16612998753292145920:=Nat
def tw3737498881782694850:=Nat
def tw13008113846596100069:=Nat
def tw7338884259701729804:=Nat
def tw3104753378076327547:=Nat
def tw7393572203881811209:=Nat
def tw8220238477957340682:=Nat
def tw1472060017770774344:=Nat
def tw16795915744649937347:=Nat
def tw16700243029524289145:=Nat
def tw17170859625239884428:=Nat
def tw17062425131104011921:=Nat
def tw938657804728330562:=Nat
def tw10414415667446079579:=Nat
def tw2397403960561666245:=Nat
def tw8440791149719569291:=Nat
def tw15821716010258702610:=Nat
def tw3109050060873002475:=Nat
def tw12212214463428652679:=Nat
def tw11281660022709389279:=Nat
def tw5785781830096501546:=Nat
def tw16868238955944285829:=Nat
def tw8324705371960408663:=Nat
def tw9140721968606971368:=Nat
def tw4698425279284576429:=Nat
def tw15245321145786392469:=Nat
def tw15786738926907730509:=Nat
def tw11028716489288175340:=Nat
def tw8299412093138591197:=Nat
def tw7549990573262238162:=Nat
def tw7231255572360235370:=Nat
def tw16562859975752022689:=Nat
def tw3198346190982184358:=Nat
def tw8105751178263776635:=Nat
def tw13270508445034370476:=Nat
def tw6991961307289380683:=Nat
def tw9616434647504096552:=Nat
def tw17314247695158511697:=Nat
def tw8247724558948626851:=Nat
def tw3433412348864304077:=Nat
def tw10230669874621912519:=Nat
def tw4474366229653868477:=Nat
def tw13828891522972407162:=Nat
def tw5907974598026496395:=Nat
def tw2706827196738049339:=Nat
def tw10215388145986124310:=Nat
def tw7889089742475142752:=Nat
def tw1794701194237231575:=Nat
def tw14063646309507370078:=Nat
def tw1487173997579383842:=Nat
def tw11887063966000161590:=Nat
def tw18407414858067763621:=Nat
def tw556387860040064259:=Nat
def tw2950556549893485488:=Nat
def tw15544939850545081793:=Nat
def tw3158189493743783026:=Nat
def tw10390176036059872025:=Nat
def tw13106221908204739389:=Nat
def tw874346511710258697:=Nat
def tw10377999024941343987:=Nat
def tw3752232677794136802:=Nat
def tw14657024937815873595:=Nat
def tw9845825299212641630:=Nat
def tw7903334081414932189:=Nat
def tw5906612967256153081:=Nat
def tw15185797159451030178:=Nat
def tw5252167499711152576:=Nat
def tw16369082279220706696:=Nat
def tw12732173121548905674:=Nat
def tw3959656096339896796:=Nat
def tw6792765267283486826:=Nat
def tw7174102872014653148:=Nat
end PySem.W.Fast
open PySem PySem.W PyProof.Rows
set_option maxRecDepth 100000 in
set_option maxHeartbeats 0 in
theorem PySem.Challenge.cw_pairwebs_k92_pairings_read_holds : PySem.Challenge.rw_pairwebs_k92_pairings_read.Holds := by
 w_on;o_law;k_head;(case hw=>w_witness2)
 k_fill
 refine K92.walk (l:=PySem.Challenge.rw_pairwebs_k92_pairings_read) rfl rfl (λw h Y=>PySem.W.kIn_of Y) ?F
 case F=>
  intro w mg fa h KX G hmg
  refine' K92.wV KX G hmg K92.good ⟨K92.dm ?_ ?_ ?_ ?_,K92.dm ?_ ?_ ?_ ?_,K92.dm ?_ ?_ ?_ ?_,K92.dm ?_ ?_ ?_ ?_,K92.dm ?_ ?_ ?_ ?_,K92.dm ?_ ?_ ?_ ?_,K92.dm ?_ ?_ ?_ ?_,K92.dm ?_ ?_ ?_ ?_,K92.dm ?_ ?_ ?_ ?_,K92.dm ?_ ?_ ?_ ?_,K92.dm ?_ ?_ ?_ ?_,K92.dm ?_ ?_ ?_ ?_,K92.dm ?_ ?_ ?_ ?_,K92.dm ?_ ?_ ?_ ?_,K92.dm ?_ ?_ ?_ ?_,K92.dm ?_ ?_ ?_ ?_,K92.dm ?_ ?_ ?_ ?_,K92.dm ?_ ?_ ?_ ?_,K92.dm ?_ ?_ ?_ ?_,K92.dm ?_ ?_ ?_ ?_,K92.dm ?_ ?_ ?_ ?_,K92.dm ?_ ?_ ?_ ?_,K92.dm ?_ ?_ ?_ ?_,K92.dm ?_ ?_ ?_ ?_,K92.dm ?_ ?_ ?_ ?_,K92.dm ?_ ?_ ?_ ?_,K92.dm ?_ ?_ ?_ ?_,K92.dm ?_ ?_ ?_ ?_,K92.dm ?_ ?_ ?_ ?_,K92.dm ?_ ?_ ?_ ?_,K92.dm ?_ ?_ ?_ ?_,K92.dm ?_ ?_ ?_ ?_,K92.dm ?_ ?_ ?_ ?_,K92.dm ?_ ?_ ?_ ?_⟩ ?Z ?_ ?_ ?_ ?R
  case R=>kernel_rfl
  case Z=>intro x hx;simp only[Py.gQ,Zh,UA,ZZ]at hx;rcases hx with rfl|rfl|rfl|rfl|rfl|rfl|rfl|rfl|rfl|rfl|rfl|rfl|rfl|rfl|rfl|rfl|rfl|rfl|rfl|rfl|rfl<;>k_is
  all_goals first|k_is|skip
end
