import PyProof.Rows.All
import Wide.All
import OpenK.AllK
import Wide.FinOn
import Lean
import PyProof.EqAt
import PyProof.EqKinds
import PyProof.TupleCall
import PyProof.ListMulAny
import PyProof.FactsAll.tuple
import KE.IntBitsLaws
import PyProof.NeKinds
import PyProof.FactsAll.tuple_2
import PyProof.SumWalkG
import PyProof.WalksMore
import PyProof.MinMaxWalk
import PyProof.Rows.SeqMore
import PyProof.FactsAll.tuple_3
import PyProof.StrCalls2
import PyProof.StrCalls3
import KE.KRevIter
import PyProof.FactsAll.range_2
import PyProof.EnumFor
import PyProof.TupleOfGen
import PyProof.ListRange
import PyProof.Rows.SetFrom
import PyProof.FactsAll.subtypes_4
import PyProof.TupleKey
import PyProof.IsRules
import PyProof.RangeFor
import PyProof.FactsAll.set_1
import PyProof.CollectIter
import PyProof.FactsAll.set_2
import KE.KSortAsk
import KE.KSortTup
import PyProof.DictWalks
import PyProof.DictRoadsH
import PyProof.CallStr
import PyProof.Rows.FStr
import PyProof.ExcBaseAll.ValueError
import PyProof.Rows.TopTwo
import PyProof.ExcAttrAll.ValueError
import KE.KIsAll
import KE.KTryMore
import PySem.Challenge.RW_pairwebs_k45_papers_refused
noncomputable section
set_option genSizeOfSpec false
set_option compiler.extract_closed false
set_option Elab.async false
set_option linter.all false
set_option maxRecDepth 100000
set_option maxHeartbeats 16000000
namespace L2
end L2
namespace Py
end Py
open PySem renaming wpAny_bind->Za,wpAny_pure->Zd,mem_of_lookup->Zw,wpAny_holding->ZI,wpAny_truthy_bool->ZO,wpAny_call_entry->ZR,wpAny_callSpecial?_slot->ZT,wpAny_field->ZV,Shared->MY,Addr->MZ,Value->M0,Program->M5,Heap->M8,SetTable->Nb,World->Nc,Comprehension->Nk,wpAny_mono->Nn,wpAny_newObj_type->Nv,wpAny_setState_of->Ny,codeAny_builtin->NB,wpAny_Call_Name_kw->NF,wpAny_pyIter_tuple->NG,Around->NM,wpAny_seqItems->NN,NameKind->NR,FuncData->NZ,Builtin->N5,wpAny_pyIter_list->N_,IsPair->Od,sizeLine_eq->Oh,codeAny_mono->Oi,wpAny_setField_rec->Oj,wpAny_passesOwn->Om,Stmt->OB,wpAny_forIn_list->OD,wpAny_askSetting->OE,call_meets->OL,wpAny_typeOf->OT,wpAny_rule->O1,wpAny_ite->O2,wpAny_attempt->O4,CmpOp->O5,codeAny_call_builtin->O7,wpAny_loadPart'->Pa,wpAny_setField->Pp,IsZip->Px,wpAny_storeSet_of->PC,fits_of_scanBound->PD,wpAny_standAt->PF,filterMap_getElem?_range->PH,plainId_quiet->PJ,PassesOwn->PM,wpAny_execs_nil->P5,codeAny_of_tree->P7,Result->Qf,IsPart->Qg,wpAny_updateSeq_pair->Qh,wpAny_runValue->Qi,wpAny_setEntries_of->Qt,wpAny_onRaise->Qv,ExceptHandler->Qw,wpAny_call->Qy,Operator->QF,Keyword->QG,wpAny_sequenceKey->QH,noFill_tuple_add->QQ,wpAny_isInstance->QS,BindsTo->Q7,wpAny_newFunctionEnv_cells->Rg,intKind_is->Rm,isSubtype_type->Ro,seq_tuple_add->RA,wpAny_comprehension_free->RC,wpAny_newList->RF,putSet_of->RP,concat_meets->RU,seqIndex_neg->RW,wpAny_Call_method_late->RY,richCompare_meets_room->R1,ElemsOf->R5,codeAny_call_function->R_,weight_type_call_type->Sd,wpAny_eqIsQuiet_tuple->Sf,builtinLookup_eq_fast->Sg
open List renaming mem_cons_of_mem->Zb,mem_cons_self->Ze,mem_cons->Zf,getElem?_eq_getElem->Zh,length_map->Zk,getElem?_eq_some_iff->Zl,length_append->Zm,all_eq_true->Zn,mem_map->Zo,not_mem_nil->Zp,mem_of_getElem?->Zr,mem_append_right->Zt,getElem?_cons_zero->Zu,pairwise_cons->Zv,getElem?_cons_succ->Zx,getElem?_append_right->Zz,size_toArray->ZB,length_cons->ZC,mem_append->ZE,mem_iff_getElem->ZH,exists_cons_of_length_eq_add_one->ZJ,map_map->ZL,eq_nil_of_length_eq_zero->ZM,mem_append_left->ZP,mem_range->ZS,mem_filterMap->ZW,getElem?_append_left->ZX,append_nil->ZY,map_cons->ZZ,zip_cons_cons->Z2,getElem?_set_self->Z4,nodup_append->Z7,zipWith->M1,replicate->M3,range->M4,toArray->M_,length_filter_le->Nh,pairwise_map->Nr,filter_sublist->Nt,pairwise_iff_getElem->Nw,getElem?_set_ne->NE,append_assoc->NH,mem_filter->NI,nodup_cons->NK,mem_singleton->NV,set_cons_succ->NW,set_cons_zero->NX,length_nil->N1,map_append->N2,length->N4,getElem?_map->N6,takeWhile_append_dropWhile->N8,perm_middle->Ob,all_cons->Of,getD_eq_getElem?_getD->Oo,perm_ext_iff_of_nodup->Oq,any_eq_true->Ot,getElem?_eq_none_iff->Oz,drop_eq_getElem_cons->OA,map_drop->OC,length_singleton->OP,dropLast_sublist->OQ,length_take->OR,getElem_mem->OS,length_dropLast->OV,of_mem_zip->OX,forIn_cons->OZ,take_left'->O0,reverse_cons->Pj,zip_nil_left->Pk,getElem?_take_of_lt->Pl,map_take->Pn,ext_getElem->Pq,take_length->Pr,zipWith_cons_cons->Pw,drop_eq_nil_of_le->Pz,getElem?_eq_none->PL,pairwise_append->PX,nodup_nil->PY,map_eq_cons_iff->PZ,filterMap_cons->P4,replicate_succ->P6,mem_map_of_mem->P8,length_pos_iff->P_,zip_nil_right->Qd,take_sublist->Qm,map->Qo,idxOf_lt_length_of_mem->QI,forIn_nil->QN,getLast?_eq_none_iff->QU,filterMap_cons_some->QX,pairwise_singleton->Q6,not_of_lt_findIdx->Q8,take_of_length_le->Q9,dropLast_eq_take->Ri,take_append_drop->Rk,contains_iff_mem->Rp,mem_iff_getElem?->Rq,getElem?_zipWith->Rr,getElem_toArray->Rt,set_append_left->Ry,zip_eq_zipWith->RD,map_congr_left->RG,filter_eq_self->RH,length_reverse->RI,filterMap_map->RM,getElem?_drop->RS,filter_append->RT,flatten_cons->R0,drop_sublist->R3,getElem_inj->R8,lookup_cons->Sa,zipIdx_cons->Sb,mem_nil_iff->Sk,zipWith_map->Sl,mem_reverse->Sm
open PySem.Heap renaming get?_push_of_some->Zc,get?_push_size->Zi,lt_size->Zj,get?_update_self->Ng,SameBut->NP,size_push->NU,get?_update_other->OH,MadeExcOf->QP,IsTuple->Q_,FlyingW->Ra,ExtBut->Ru,IsList->Rv
open Nat renaming le_refl->Zg,ne_of_lt->Zq,lt_of_lt_of_le->Zs,le_trans->Zy,zero_le->Z1,lt_irrefl->Ni,lt_succ_self->NS,le_of_succ_le->Ol,ne_of_gt->Ox,le_of_lt->OJ,not_lt->Pb,le_add_right->Pt,mod_lt->Qj,lt_trans->Qq,lt_succ_of_lt->Qs,add_assoc->Q0,zero_add->Rj,add_left_cancel->RN
open Bool renaming false_eq_true->ZA,and_eq_true->ZN,true->MW,false->MX,false_ne_true->NA,eq_iff_iff->NJ,and_eq_true_iff->OW,or_eq_true_iff->P9,eq_false_iff->Qn,or_eq_true->QC,and_true->QY,not_eq_true'->R7
open Array renaming length_toList->ZF,getD_eq_getD_getElem?->Nl,getElem?_eq_getElem->Nu,getElem?_toList->Og,getElem?_eq_some_iff->O6,getD->QJ,ext'->QK,toList_filterMap->QZ,getElem?_eq_none->Q1,range->Rn,forIn_toList->RE,getElem_mem->RK,toList_push->RR,toList_map->R6,size_push->Se
open Nat.succ renaming inj->ZG
open PySem.Heap.SameBut renaming update->ZQ,refl->QT
open Option renaming map_eq_some_iff->Z3,isSome_iff_exists->N3,getD_none->RJ,getD_some->RL
open PyProof.Rows renaming slot_tuple_getitem->Z6,callWith_type1->Nf,callWith_builtin1->OG,SortKind->OU,AllBare->Pu,IntsAre->P0,step_dedup->P1,entry_tuple_getitem->Qp,args_tuple_getitem->Qz,IsTup->Rf,tupleItemsOf_->RB,subscriptTail_builtinR->RX
open PySem.SetTable renaming below->M6,insertAt->M9,sizeAbove->Oa,fill->O_,toList_insertAt->O',tooFull->Ph,insertAt_perm->Pm,fits->QD,layClean->Rl,grown->RQ,slot->R4
open PySem.Value renaming none->M7,type->Nq,ref->N9,bool->ON,isInt_shape->Pf,int->Po,notImplemented->Rh
open PySem.Builtin.SmallTypes renaming nextOf->M',ownedTupleIsFree->Nz,ownedTupleHandOut->O9
open PySem.NameKind renaming cell->Na,free->PQ
open LawfulBEq renaming eq_of_beq->Nj
open PySem.Builtin.Slice renaming slicePlaces->Nm,sliceAdjust->Oe,sliceApplied->Qa
open ForInStep renaming yield->Np
open PySem.Obj renaming mapSeq->NC,data_mapFields->Oc,putSet->Pe,isFreed_of_fields->PR,cls_mapFields->Qr
open PySem.Around renaming under_plainId->ND,under_plain->Rw
open Int renaming toNat_natCast->NL,toNat_of_nonneg->Qc,emod_lt_of_pos->Ql,emod_nonneg->QL
open PyProof.Rows.F renaming plain_set_update_loop->NO,entry_set_update_loop->OI
open PySem.SetTable.probe renaming go->NQ
open PySem.SetTable.layClean renaming free->NY
open PySem.Str renaming ofString->N7
open PySem.SetTable.below renaming go->Ou
open PySem.F renaming slot_tuple_iterator_next->Oy,slot_zip_next->PV,args_tuple_iterator_next_1->QR,entry_tuple_iterator_next->QW,sub_tuple_frozenset->RO
open PySem.Builtin.Frozenset renaming updateFrom->OF
open Option.some renaming inj->OK
open PySem.Builtin.Int renaming intBits->OM
open PySem.Builtin.Tuple renaming tupleItemsOf->OO,tupleCompareSizes->PK
open PySem.Builtin.List renaming listTooLong->OY,listExtendWith->Qb,listUpdate->Qu
open Classical renaming byContradiction->O3
open List.Perm renaming eq_of_pairwise->O8
open PySem.Shared renaming heap->Pd,TypeIs->P2
open PySem.Calls renaming spliced_nil->Pg,callWith_builtin->Ps,evalArgs_plain->PN,spliced_cons->P',Name_function_global->QE,call_function_entry->QO
open PySem.Builtin.ObjectAttr renaming bindTo->PU,find->Si,dataDescriptor?->Sj
open PySem.Code renaming quiet_builtin->Qe
open PySem.Heap.UpToSlots renaming of_keeps->Qk
open PySem.Builtin renaming bitAnd->Qx,bitOr->R9
open PySem.Heap.IsSliceOf renaming new->QA
open PySem.AutoSeq1 renaming sub_tuple_tuple->QB
open True renaming intro->QM
open PyProof.Rows.IsTup renaming new->QV
open PySem.Builtin.Getset_descriptor renaming descrGet->Q2,descrGetter->Q3,descrCheckInstance->Q4,descrNameAndClass->Q5
open Sum renaming inl->Rb,inr->Rc
open PyProof.Rows.SortSt renaming mk'->Rx
open PySem PySem.Spec PyProof.Rows L2 Py
abbrev Mg:=Str->Option M0
abbrev Vs:=M0->MY->Prop
abbrev Fg:=PySem.W.Frag
abbrev Lp:=List (MZ×Obj)
abbrev Lq:=List (Int×Int)
abbrev Li:=List Int
abbrev La:=List MZ
abbrev Lv:=List M0
abbrev Ls:=List Str
abbrev Lx:=List Expr
abbrev Ov:=Option M0
abbrev Av:=Array M0
def ZD:=@decide_eq_false
def ZK:=@decide_eq_true
def ZU:=@congrArg
def Z0:=@or_false
def Z5:=@of_decide_eq_true
variable {us its its' args:Lv}{u cd doc pm cdv ct oc vl vu cls a0:M0}{a it C dx f sl fa acc I pa:MZ}{o ob:Obj}{w:Nc}{h h' h1 h2 base h0 h3:M8}{α β:Type}{e tg iter r' z ce elt:Expr}{pq pins':Lp}{s s':MY}{g':Array GenState}{t' k n tk mask wanted ep line np:Nat}{d':PySem.Drawn}{ch fp μ μ' F μ1 μ0 wr:La}{N loose N':Ls}{M:Model}{A:NM}{E Q E':Vs}{rest ifs:Lx}{y name qual pe:Str}{K:Fg}{st:OB}{es es':Array (Int×M0)}{pos' apos p2 cpos p1 p3 p4 vp tp cp rp hp:Pos}{lo m:Int}{hi:Option Int}{R:Int->Int->Prop}{op' op'':O5}{prog:M5}{mg:Mg}{ps ts:Lq}{ks:List Nat}{scope:Scope}{outer:List Env}{od:Option MZ}{osl:Array (Ov)}{items:Av}{ns hs so left:Li}{XP:(Mg)->M8->Prop}{YP:Nc->M8->Prop}{env:Env}{tn:Nat->M8->Prop}{cs:List (Li×MZ)}{cell bf:Str->Bool}{b1 b2 led:Bool}{gens:List Nk}{fr:List (Option Nat)}{nb:Option (Str×Nat×Pos×Pos)}{tie:Int->Int->Bool}
namespace L2
abbrev Key:=Sum Int Str
noncomputable def qk:Key->M0->Bool
 | .inl k,v=>Value.isInt k v
 | .inr x,v=>Value.isStrOf x v
noncomputable def E4(w:Nc):Key->Int
 | .inl k=>hashInt k
 | .inr x=>hashStr w x
theorem fA:∀{k:Key} {v:M0},qk k v=MW->(∃i t,k=Rb i/\v=Po i t)\/(∃x t,k=Rc x/\v=Value.str x t)
 | .inl i,v,h=>by obtain⟨t,e⟩:=Pf h;exact .inl ⟨i,t,rfl,e⟩
 | .inr x,v,h=>by obtain⟨t,e⟩:=Value.isStrOf_shape h;exact .inr ⟨x,t,rfl,e⟩
theorem q8(a b:Int):decide ((Rb a:Key)=Rb b)=(a==b):=by lia
theorem q9(a b:Str):decide ((Rc a:Key)=Rc b)=decide (a=b):=by lia
theorem q_(a:Int)(b:Str):decide ((Rb a:Key)=Rc b)=MX:=ZD λq=>nomatch q
theorem rc(a:Str)(b:Int):decide ((Rc a:Key)=Rb b)=MX:=ZD λq=>nomatch q
noncomputable def rf(prog:M5)(w:Nc):PySem.KeyKind prog w Key where
 is:=qk
 hash:=E4 w
 inj:=λv a b ha hb=>by
  rcases fA ha with⟨i,t,rfl,rfl⟩| ⟨x,t,rfl,rfl⟩
  ·rcases fA hb with⟨j,u,rfl,e⟩| ⟨y,u,rfl,e⟩
   ·injection e with e1 _;rw[e1]
   ·exact nomatch e
  ·rcases fA hb with⟨j,u,rfl,e⟩| ⟨y,u,rfl,e⟩
   ·exact nomatch e
   ·injection e with e1 _;rw[e1]
 byValue:=λk v h=>by rcases fA h with⟨i,t,rfl,rfl⟩| ⟨x,t,rfl,rfl⟩<;>rfl
 pyHash:=λhv h=>by
  rcases fA hv with⟨i,t,rfl,rfl⟩| ⟨x,t,rfl,rfl⟩
  ·exact wpAny_pyHash_int h
  ·exact wpAny_pyHash_str h
 eqBool:=λhu hv h=>by
  rcases fA hu with⟨i,t,rfl,rfl⟩| ⟨x,t,rfl,rfl⟩
  ·rcases fA hv with⟨j,u,rfl,rfl⟩| ⟨y,u,rfl,rfl⟩
   ·rw[q8]at h;exact wpAny_eqBool_int h
   ·rw[q_]at h;exact SeqAt.EqAt.int_str i t y u _ _ _ _ h
  ·rcases fA hv with⟨j,u,rfl,rfl⟩| ⟨y,u,rfl,rfl⟩
   ·rw[rc]at h;exact SeqAt.EqAt.str_int x t j u _ _ _ _ h
   ·rw[q9]at h;exact wpAny_eqBool_str h
 «strs»:=λk x t v h=>by
  rcases fA h with⟨i,u,rfl,e⟩| ⟨y,u,rfl,e⟩
  ·exact nomatch e
  ·injection e with e1 _
   subst e1;cases v<;>rfl
inductive V where
 |non|bl (b:Bool)|int (i:Int)|str (x:Str)|byt (b:Array UInt8)|flt (b:UInt64)|ref (a:MZ)|ty (n:String)
 deriving DecidableEq
noncomputable def RelV:V->M0->Prop
 | .non,u=>u=M7
 | .bl b,u=>u=ON b
 | .int i,u=>∃t,u=Po i t
 | .str x,u=>∃t,u=Value.str x t
 | .byt b,u=>∃t,u=Value.bytes b t
 | .flt b,u=>∃t,u=Value.float b t
 | .ref a,u=>u=N9 a
 | .ty n,u=>u=Nq n
abbrev Vals:List V->Lv->Prop:=Paired RelV
theorem Vals.length{xs:List V}(r:Vals xs us):xs.length=us.length:=Paired.length r
theorem Vals.get:∀{xs:List V} {us:Lv} {i:Nat} {x:V},Vals xs us->xs[i]?=some x->∃u,us[i]?=some u/\RelV x u
 |_,_,_,_,.nil,e=>by simp_all
 |_,_,0,_,.cons r _,e=>by simp_all
 |_,_,i+1,x,.cons _ t,e=>by obtain⟨u,h,H⟩:=Vals.get t (by simpa using e);simp_all
theorem Vals.set{x:V}(r:RelV x u):∀{xs:List V} {us:Lv} (i:Nat),Vals xs us->Vals (xs.set i x) (us.set i u)
 |_,_,_,.nil=>.nil
 |_,_,0,.cons _ t=>.cons r t
 |_,_,i+1,.cons q t=>.cons q (Vals.set r i t)
theorem Vals.append:∀{xs ys:List V} {us w:Lv},Vals xs us->Vals ys w->Vals (xs++ys) (us++w)
 |_,_,_,_,.nil,s=>s
 |_,_,_,_,.cons r t,s=>.cons r (Vals.append t s)
theorem Vals.take:∀{xs:List V} {us:Lv} (n:Nat),Vals xs us->Vals (xs.take n) (us.take n)
 |_,_,0,_=>.nil
 |_,_,_+1,.nil=>.nil
 |_,_,n+1,.cons r t=>.cons r (Vals.take n t)
theorem Vals.drop:∀{xs:List V} {us:Lv} (n:Nat),Vals xs us->Vals (xs.drop n) (us.drop n)
 |_,_,0,r=>r
 |_,_,_+1,.nil=>.nil
 |_,_,n+1,.cons _ t=>Vals.drop n t
noncomputable def xp:Option V->Ov->Prop
 |some v,some u=>RelV v u
 |none,none=>True
 |_,_=>False
def KV{a:Type}:List (a×V)->List (a×M0)->Prop:=Paired λ(p:a×V) (q:a×M0)=>p.1=q.1/\RelV p.2 q.2
noncomputable def kV:Key->V
 | .inl i=>.int i
 | .inr x=>.str x
inductive HO where
 |lst (xs:List V)
 |tup (xs:List V)
 |dK (kvs:List (Key×V))|dT (kvs:List (List Key×V))
 |set (S:Int->Bool) (n:Nat)
 |ins (C dx:MZ) (fs:List (Str×V))
 |own (x:MZ)
 |xd (fs:List (Str×V))
 |met (f x:MZ)
 |rng (lo hi:Int)
 |frz (o:Obj) (u:HO)
 |tbl (ps:Av)
 |ext (φ:M8->Prop)
abbrev Hp:=MZ->Option HO
noncomputable def aZ(H:Hp)(a:MZ)(o:HO):Hp:=λb=>if b=a then some o else H b
theorem bO{H:Hp}{o:HO}:aZ H a o a=some o:=by unfold aZ;simp_all
theorem aD{H:Hp}{b:MZ}{o:HO}(h:b≠a):aZ H a o b=H b:=by unfold aZ;rw[if_neg h]
theorem bT{H:Hp}{b:MZ}{o:HO}(h:H a=some o)(h':H b=none):a≠b:=by lia
def qm(h:M8)(a:MZ):Prop:=∃o,h.get? a=some o/\o.dict=none
theorem qm.new(h:M8)(items:Av):qm (h.push {cls:=.type "tuple",data:=.seq items}) h.objs.size:=⟨_,Zi _ rfl,rfl⟩
section
variable (P:M5)(w:Nc)
noncomputable def bc(H:Hp)(h:M8)(a:MZ):HO->Prop
 | .lst xs=>xs.length<=sizeLine/\∃(its:Lv) (n:Nat),Vals xs its/\h.get? a=some {cls:=.type "list",data:=.seq its.toArray n}
 | .tup xs=>xs.length<=sizeLine/\∃its:Lv,Vals xs its/\Rf h a its.toArray/\qm h a
 | .dK k=>k.length<=sizeLine/\(a==sysModules)=MX/\∃vs,KV k vs/\h.DictOf (rf P w) a vs
 | .dT k=>k.length<=sizeLine/\(a==sysModules)=MX/\∃xs:List (List Key×MZ×M0),
   Paired (λ(p:List Key×V) (q:List Key×MZ×M0)=>p.1=q.1/\H q.2.1=some (.tup (p.1.map kV))/\RelV p.2 q.2.2) k xs/\
   ∃o es ep,h.get? a=some o/\o.ExactDict/\o.data=.dict es ep/\es.toList=xs.map (entryOfKey (tupleKind (rf P w)))/\(xs.map (·.1)).Nodup
 | .set S n=>h.SetOf (intKind P w) a S n
 | .ins C dx fs=>H dx=some (.own a)/\fs.length<=1000/\dx≠a/\h.get? a=some (PySem.W.instObj C dx)/\
   ∃mA,h.Ns1 dx mA/\(∀f,xp (fs.lookup f) (mA f))/\PySem.Within mA (fs.map (·.1))
 | .own _=>∃o,h.get? a=some o
 | .xd fs=>∃mA,h.Ns1 a mA/\∀f,xp (fs.lookup f) (mA f)
 | .rng lo hi=>∃t u v,h.get? a=some {cls:=.type "range",data:=.fields #[.int lo t,.int hi u,.int 1 v]}
 | .frz o u=>h.get? a=some o/\bc H h a u
 | .tbl ps=>h.get? a=some {cls:=.none,data:=.fields ps}
 | .met f x=>h.get? a=some (PySem.W.methodObj (.ref f) (.ref x))
 | .ext φ=>φ h/\(∃o,h.get? a=some o)/\∀h1 h2:M8,φ h1->(∀o,h1.get? a=some o->h2.get? a=some o)->φ h2
def dU(H:Hp)(h:M8):Prop:=∀a o,H a=some o->bc P w H h a o
end
section
variable {P:M5}{H H':Hp}{o:HO}
theorem bc.lt(x:bc P w H h a o):a<h.objs.size:=by
 cases o with
 |lst X=>obtain⟨_,_,_,_,e⟩:=x;exact Zj e
 |tup X=>obtain⟨_,_,_,p,_⟩:=x;exact p.lt
 |dK k=>obtain⟨_,_,_,_,o,_,_,e,_⟩:=x;exact Zj e
 |dT k=>obtain⟨_,_,_,_,o,_,_,e,_⟩:=x;exact Zj e
 |set S n=>obtain⟨o,_,_,_,e,_⟩:=x;exact Zj e
 |ins C d fs=>obtain⟨_,_,_,e,_⟩:=x;exact Zj e
 |own y=>obtain⟨_,e⟩:=x;exact Zj e
 |xd fs=>obtain⟨_,⟨_,_,_,e,_⟩,_⟩:=x;exact Zj e
 |rng lo b=>obtain⟨_,_,_,e⟩:=x;exact Zj e
 |frz O u=>obtain⟨e,_⟩:=x;exact Zj e
 |tbl c=>exact Zj (show h.get? a=some _ from x)
 |met f y=>exact Zj (show h.get? a=some _ from x)
 |ext g=>obtain⟨_,⟨_,e⟩,_⟩:=x;exact Zj e
theorem Paired.mapP{F G:α->β->Prop}:∀{l:List α} {L:List β},Paired F l L->(∀a b,F a b->G a b)->Paired G l L
 |_,_,.nil,_=>.nil
 |_,_,.cons r t,f=>.cons (f _ _ r) (Paired.mapP t f)
theorem bc.stay(x:bc P w H h a o)(k:∀b u,(b=a\/H b=some (.own a))->h.get? b=some u->h'.get? b=some u)
  (A:∀b,H b=some (.own a)->H' b=some (.own a)) (B:∀b xs,H b=some (.tup xs)->H' b=some (.tup xs)):bc P w H' h' a o:=by
 induction o with
 |lst xs=>obtain⟨z,i,n,r,e⟩:=x;exact⟨z,_,n,r,k _ _ (.inl rfl) e⟩
 |tup xs=>obtain⟨z,i,r,⟨O,e,c⟩,D,l,j⟩:=x;exact⟨z,_,r,⟨_,k _ _ (.inl rfl) e,c⟩,_,k _ _ (.inl rfl) l,j⟩
 |dK K=>obtain⟨z,y,vs,r,O,g,E,e,c⟩:=x;exact⟨z,y,_,r,_,_,_,k _ _ (.inl rfl) e,c⟩
 |dT K=>obtain⟨z,y,xs,r,O,g,E,e,c⟩:=x;exact⟨z,y,_,Paired.mapP r λp q z=>⟨z.1,B _ _ z.2.1,z.2.2⟩,_,_,_,k _ _ (.inl rfl) e,c⟩
 |set S n=>obtain⟨O,g,E,t,e,c⟩:=x;exact⟨_,_,_,t,k _ _ (.inl rfl) e,c⟩
 |ins C G fs=>obtain⟨d,z,ne,e,M,⟨F,g,E,m,c⟩,r⟩:=x;exact⟨A _ d,z,ne,k _ _ (.inl rfl) e,_,⟨_,_,_,k _ _ (.inr d) m,c⟩,r⟩
 |own y=>obtain⟨O,e⟩:=x;exact⟨_,k _ _ (.inl rfl) e⟩
 |xd fs=>obtain⟨M,⟨F,g,E,e,c⟩,r⟩:=x;exact⟨_,⟨_,_,_,k _ _ (.inl rfl) e,c⟩,r⟩
 |rng lo J=>obtain⟨t,u,v,e⟩:=x;exact⟨t,u,v,k _ _ (.inl rfl) e⟩
 |frz O u I=>obtain⟨e,q⟩:=x;exact⟨k _ _ (.inl rfl) e,I q⟩
 |tbl L=>exact k a _ (.inl rfl) x
 |met f y=>exact k a _ (.inl rfl) x
 |ext N=>obtain⟨p,⟨o,e⟩,s⟩:=x;exact⟨s _ _ p λo q=>k _ _ (.inl rfl) q,⟨o,k _ _ (.inl rfl) e⟩,s⟩
theorem dU.lt(x:dU P w H h)(e:H a=some o):a<h.objs.size:=(x a o e).lt
theorem dU.fresh(x:dU P w H h)(e:h.objs.size<=a):H a=none:=by
 cases q:H a with
 |none=>rfl
 |some u=>exact absurd (Zs (x.lt q) e) (Ni _)
theorem dU.kept(x:dU P w H h)(k:∀b u,h.get? b=some u->h'.get? b=some u):dU P w H h':=λa o e=>
 (x a o e).stay (λb u _ q=>k b u q) (λ_ q=>q) λ_ _ q=>q
theorem dU.laid(x:dU P w H h)(k:∀b u,h.get? b=some u->h'.get? b=some u)(g:h.objs.size<=a)(new:bc P w (aZ H a o) h' a o):dU P w (aZ H a o) h':=λb u e=>by
 have f:=x.fresh g;by_cases d:b=a
 ·subst d;rw[bO]at e;simp_all
 ·rw[aD d]at e;exact(x b u e).stay (λc v _ q=>k c v q) (λc q=>by rw[aD (bT q f)];exact q) λc X q=>by rw[aD (bT q f)];exact q
end
def Rd(H:Hp)(a:MZ)(u:HO):Prop:=H a=some u\/∃o,H a=some (.frz o u)
theorem Rd.ok{P:M5}{H:Hp}{u:HO}(r:Rd H a u)(x:dU P w H h):bc P w H h a u:=by
 rcases r with r| ⟨o,r⟩
 ·exact x a u r
 ·obtain⟨_,q⟩:=x a _ r;exact q
noncomputable def EK:Option HO->Prop
 |some (.lst _)=>True
 |some (.dK _)=>True
 |some (.dT _)=>True
 |some (.set _ _)=>True
 |some (.ins _ _ _)=>True
 |some (.ext _)=>True
 |_=>False
section
variable {P:M5}{H:Hp}{x e:MZ}{o':HO}
theorem dU.write(ok:dU P w H h)(m:EK (H x))(i:e=x\/H e=some (.own x))(k:∀b u,b≠e->h.get? b=some u->h'.get? b=some u)(a:∃u,h'.get? e=some u)
  (new:bc P w (aZ H x o') h' x o'):dU P w (aZ H x o') h':=λb u q=>by
 have n:∀c y,H c=some (.own y)->c≠x:=λc y r z=>by subst z;rw[r]at m;exact m
 have N:∀c X,H c=some (.tup X)->c≠x:=λc X r z=>by subst z;rw[r]at m;exact m
 by_cases d:b=x
 ·subst d;rw[bO]at q;simp_all
 ·rw[aD d]at q;by_cases f:b=e
  ·have Q:H b=some (.own x):=by lia
   rw[q]at Q;cases Q;obtain⟨v,j⟩:=a;exact⟨v,by lia⟩
  ·refine(ok b u q).stay (λc v g r=>k c v ?_ r) (λc r=>by rw[aD (n c b r)];exact r) λc X r=>by rw[aD (N c _ r)];exact r
   grind
end
structure Un (fs ex:La)(H H':Hp)(h h':M8):Prop where
 keep:∀b o,h.get? b=some o->H b=none->b∉fs->b∉ex->h'.get? b=some o
 slot:∀b o,h.get? b=some o->H b=none->b∈fs->b∉ex->∃sl,h'.get? b=some {o with slots:=sl}
 free:∀b o,h.get? b=some o->H b=none->b∉ex->H' b=none
 there:∀b o,h.get? b=some o->b∉ex->∃o',h'.get? b=some o'
 tups:∀b xs,H b=some (.tup xs)->H' b=some (.tup xs)
 frzs:∀b o u,H b=some (.frz o u)->H' b=some (.frz o u)
 tbls:∀b ps,H b=some (.tbl ps)->∃more,H' b=some (.tbl (ps++more))
section
variable {fs fs' ex ex':La}{H H1 H2:Hp}{x e:MZ}{o:HO}
theorem Un.any(u:Un fs ex H H1 h h1){b:MZ}(q:h.get? b=some ob)(n:H b=none)(c:b∉ex):∃sl,h1.get? b=some {ob with slots:=sl}:=by
 by_cases a:b∈fs
 ·exact u.slot b _ q n a c
 ·exact⟨_,u.keep b _ q n a c⟩
theorem Un.kept(k:∀b u,h.get? b=some u->h'.get? b=some u):Un fs ex H H h h':=
 ⟨λb o q _ _ _=>k b _ q,λb o q _ _ _=>⟨_,k b _ q⟩,λ_ _ _ n _=>n,λb o q _=>⟨_,k b _ q⟩,λ_ _ q=>q,λ_ _ _ q=>q,λ_ p q=>⟨#[],by simp_all⟩⟩
theorem Un.refl:Un fs ex H H h h:=Un.kept λ_ _ q=>q
theorem Un.laid(k:∀b u,h.get? b=some u->h'.get? b=some u)(hp:h.objs.size<=a)(hn:H a=none):Un fs ex H (aZ H a o) h h' where
 keep:=λb u q _ _ _=>k b u q
 slot:=λb u q _ _ _=>⟨_,k b u q⟩
 free:=λb u q n _=>by rw[aD (Zq (Zs (Zj q) hp))];exact n
 there:=λb u q _=>⟨u,k b u q⟩
 tups:=λb xs q=>by rw[aD (bT q hn)];exact q
 frzs:=λb u xs q=>by rw[aD (bT q hn)];exact q
 tbls:=λb ps q=>⟨#[],by rw[aD (bT q hn),q];simp⟩
theorem Un.write(m:EK (H x))(g:e=x\/H e=some (.own x))(k:∀b u,b≠e->h.get? b=some u->h'.get? b=some u)(d:∃u,h'.get? e=some u):Un fs ex H (aZ H x o) h h':=by
 have f:∀b,H b=none->b≠x:=λb n z=>by subst z;rw[n]at m;exact m
 have c:∀b,H b=none->b≠e:=λb n z=>by lia
 have a:∀b u,H b=some u->¬EK (some u)->b≠x:=λb u q nm z=>by lia
 refine⟨λb u q n _ _=>k b u (c b n) q,λb u q n _ _=>⟨_,k b u (c b n) q⟩,λb u q n _=>by rw[aD (f b n)];exact n,λb u q _=>?_,
  λb X q=>by rw[aD (a b _ q λz=>z)];exact q,λb u X q=>by rw[aD (a b _ q λz=>z)];exact q,λb p q=>⟨#[],by rw[aD (a b _ q λz=>z),q];simp⟩⟩
 grind
end
noncomputable def My(h:M8)(H:Hp):La:=(M4 h.objs.size).filter λa=>(H a).isSome
noncomputable def fU(h:M8)(H:Hp):M8:=PySem.W.hideAll h (My h H)
theorem E5(h:M8)(H:Hp):(fU h H).objs.size=h.objs.size:=PySem.W.hideAll_size _ _
theorem E6{H:Hp}{b:MZ}(e:h.get? b=some o)(n:H b=none):(fU h H).get? b=some o:=
 PySem.W.hideAll_get _ e λa=>by have q:=(NI.mp a).2;simp_all
theorem lu{H:Hp}{b:MZ}(e:(fU h H).get? b=some o):h.get? b=some o/\H b=none:=by
 have E:=PySem.W.of_hideAll _ e;refine⟨E,?_⟩;cases q:H b with
 |none=>rfl
 |some x=>have z:(fU h H).get? b=none:=PySem.W.hideAll_none _ (NI.mpr ⟨ZS.mpr (Zj E),by simp[q]⟩);simp_all
structure Mod (K:Fg)(mg:Mg)(base:M8):Prop where
 kin:K.In base
 glob:base.Ns mainGlobals mg
 blt:∃mb,base.Ns builtinsNs mb/\∀x:Str,x≠"__name__"->mb x=bootBuiltins x
 nolimit:base.NoLimit
structure Cx where
 prog:M5
 w:Nc
 K:Fg
 mg:Mg
 base:M8
 A:NM
 N:Ls
 s₀:MY
 H₀:Hp
 env:Env
 outer:List Env
 stack:List Env
 ex:La
 fn:Str->Bool
 calm:Bool
 pn:Lp
 xe:Vs
noncomputable def bU(l:List Env):La:=l.filterMap (·.frame)
abbrev Cx.fs(X:Cx):La:=bU X.outer
def xq(s:Scope)(x:Str):Prop:=s.names.lookup x=some .local\/s.names.lookup x=some .cell\/s.names.lookup x=some .free
def Loc(s:Scope)(x:Str):Prop:=s.names.lookup x=some .local\/s.names.lookup x=some .cell
def Look(env:Env)(h:M8)(m:Mg)(x:Str)(u:M0):Prop:=
 (env.kindOf x=some .local/\m x=some u)\/((env.kindOf x=some .cell\/env.kindOf x=some .free)/\∃c,env.cells.lookup x=some c/\h.IsCell c (some u))
structure Cx.Ok (X:Cx):Prop where
 mod:Mod X.K X.mg X.base
 kind:X.env.scope.kind=.function
 glob:X.env.globals=mainGlobals
 blt:X.env.builtins=builtinsNs
 above:X.s₀.heap.objs.size<=X.env.locals
 inj:∀x y c,X.env.cells.lookup x=some c->X.env.cells.lookup y=some c->x=y
 has:∀x,(X.env.kindOf x=some .cell\/X.env.kindOf x=some .free)->∃c,X.env.cells.lookup x=some c
 cab:∀x c,X.fn x=MW->X.env.cells.lookup x=some c->X.s₀.heap.objs.size<=c
 hd:X.calm=MW->X.A.handled=none
 frames:X.A.frames=some X.stack
 stk:X.stack=X.outer\/(X.stack=X.env::X.outer/\X.env.frame=some X.env.locals)
 exf:∀b∈X.ex,b≠X.env.locals/\∀x c,X.env.cells.lookup x=some c->c≠b
 bs:∀b o,X.base.get? b=some o->X.s₀.heap.get? b=some o/\X.H₀ b=none
 bsz:X.base.objs.size<=X.s₀.heap.objs.size
 noex:∀b o,X.base.get? b=some o->b∉X.ex
 exfs:∀b∈X.ex,b∉X.fs
 funs:X.s₀.heap.FunFrames X.base X.outer
 frf:∀b∈X.fs,X.H₀ b=none
structure Inv (X:Cx)(pq:Lp)(σ:List (Option V))(H:Hp)(s:MY):Prop where
 ok:X.Ok
 os:s.os=X.s₀.os
 bare:Pu s.gens
 base:Un X.fs X.ex X.H₀ H X.s₀.heap s.heap
 loc:∃m,s.heap.Ns X.env.locals m/\∀(i:Nat) (x:Str) (v:V),X.N[i]?=some x->σ[i]?=some (some v)->xq X.env.scope x->∃u,RelV v u/\Look X.env s.heap m x u
 cell:∀x c,X.env.cells.lookup x=some c->∃v,s.heap.IsCell c v
 free:H X.env.locals=none
 freeC:∀x c,X.env.cells.lookup x=some c->H c=none
 pin:∀p∈X.pn++pq,s.heap.get? p.1=some p.2/\H p.1=none/\p.1≠X.env.locals/\p.1∉X.fs/\∀v,p.2.data≠.cell v
 hok:dU X.prog X.w H s.heap
 len:σ.length=X.N.length
section
variable {X:Cx}{σ:List (Option V)}{H H':Hp}
theorem Cx.Ok.nofr(ok:X.Ok){b:MZ}(e:X.base.get? b=some o):b∉X.fs:=λh=>by have:=(ok.funs.mem h).1;simp_all
theorem Inv.bs(I:Inv X pq σ H s):∀b o,X.base.get? b=some o->s.heap.get? b=some o/\H b=none:=λb o e=>
 ⟨I.base.keep b o (I.ok.bs b o e).1 (I.ok.bs b o e).2 (I.ok.nofr e) (I.ok.noex b o e),I.base.free b o (I.ok.bs b o e).1 (I.ok.bs b o e).2 (I.ok.noex b o e)⟩
theorem Inv.bk(I:Inv X pq σ H s):∀b o,X.base.get? b=some o->s.heap.get? b=some o:=λb o e=>(I.bs b o e).1
theorem Inv.mod(I:Inv X pq σ H s):Mod X.K X.mg X.base:=I.ok.mod
theorem Inv.kIn(I:Inv X pq σ H s):X.K.In s.heap:=I.ok.mod.kin.keeps I.bk
theorem Inv.lt(I:Inv X pq σ H s):X.env.locals<s.heap.objs.size:=let⟨_,h,_⟩:=I.loc;h.lt
theorem Inv.sz(I:Inv X pq σ H s):X.s₀.heap.objs.size<=s.heap.objs.size:=Zy I.ok.above (OJ I.lt)
theorem Inv.nofs(I:Inv X pq σ H s)(h:s.heap.objs.size<=a):a∉X.fs:=λb=>by obtain⟨_,o,c,_⟩:=I.ok.funs.mem b;exact absurd (Zs (Zj c) (Zy I.sz h)) (Ni _)
theorem Inv.cne(I:Inv X pq σ H s):∀x c,X.env.cells.lookup x=some c->c≠X.env.locals:=λx c e z=>by obtain⟨v,o,f,d⟩:=I.cell x c e;obtain⟨m,⟨O,b,E,a,h,_⟩,_⟩:=I.loc;simp_all
theorem Inv.funs(I:Inv X pq σ H s):s.heap.FunFrames X.base X.outer:=by
 have all:∀(l:List _),(∀b∈bU l,b∈X.fs)->X.s₀.heap.FunFrames X.base l->s.heap.FunFrames X.base l:=by
  intro l
  induction l with
  |nil=>intro _ _;trivial
  |cons E r n=>intro d i;obtain⟨g,⟨L,o,c,j,k,f⟩,m⟩:=i;have h:=d L (by unfold bU;simp_all);obtain⟨sl,e⟩:=I.base.slot L o k (I.ok.frf L h) h λz=>I.ok.exfs L z h;exact⟨g,⟨L,_,c,j,e,f⟩,n (λb a=>d b (by unfold bU;simp only[P4,c];exact Zb _ a)) m⟩
 exact all _ (λ_ a=>a) I.ok.funs
theorem Inv.stack(I:Inv X pq σ H s):s.heap.FunFrames X.base X.stack:=by
 rcases I.ok.stk with e| ⟨e,h⟩
 ·rw[e];exact I.funs
 ·rw[e];obtain⟨m,a,_⟩:=I.loc;exact .cons (by rw[I.ok.kind];decide) h a (Heap.get?_none_of_le (Zy I.ok.bsz I.ok.above)) I.funs
theorem Inv.stkSub(I:Inv X pq σ H s):∀b∈bU X.stack,b∈X.env.locals::X.fs:=λb h=>by
 rcases I.ok.stk with e| ⟨e,a⟩
 ·simp_all
 ·rw[e]at h;unfold bU at h;rw[P4,a]at h;exact h
theorem Inv.stkFree(I:Inv X pq σ H s):∀b∈bU X.stack,H b=none:=λb h=>by
 rcases Zf.mp (I.stkSub b h)with e|h
 ·rw[e];exact I.free
 ·obtain⟨_,o,a,_⟩:=I.ok.funs.mem h;exact I.base.free b o a (I.ok.frf b h) λz=>I.ok.exfs b z h
theorem Inv.step{J:Array GenState}{t':Nat}{Q:PySem.Drawn}(I:Inv X pq σ H s)
  (a:∀b∈ch,(b∈X.ex\/X.s₀.heap.objs.size<=b)/\b≠X.env.locals/\(∀x c,X.env.cells.lookup x=some c->c≠b)/\∀p∈X.pn++pq,p.1≠b)
  (K:∀b o,b≠X.env.locals->b∉X.fs->b∉ch->s.heap.get? b=some o->H b=none->h'.get? b=some o)
  (S:∀b o,b≠X.env.locals->b∈X.fs->b∉ch->s.heap.get? b=some o->H b=none->∃sl,h'.get? b=some {o with slots:=sl}) (f:∀b o,b∉ch->s.heap.get? b=some o->H b=none->H' b=none)
  (t:∀b o,b∉ch->s.heap.get? b=some o->∃o',h'.get? b=some o')
  (T:∀b xs,H b=some (.tup xs)->H' b=some (.tup xs)) (F:∀b o u,H b=some (.frz o u)->H' b=some (.frz o u)) (O:∀b ps,H b=some (.tbl ps)->∃more,H' b=some (.tbl (ps++more)))
  (ns:∀m,s.heap.Ns X.env.locals m->h'.Ns X.env.locals m) (D:dU X.prog X.w H' h') (U:Pu J):
  Inv X pq σ H' {s with heap:=h',gens:=J,drawn:=Q,toks:=t'}:=by
 have y:∀b o,X.s₀.heap.get? b=some o->b≠X.env.locals:=λb o e=>Zq (Zs (Zj e) I.ok.above)
 have N:∀b o,X.s₀.heap.get? b=some o->b∉X.ex->b∉ch:=λb o e h g=>by
  rcases(a b g).1 with z|z
  ·exact h z
  ·exact absurd (Zs (Zj e) z) (Ni _)
 have C:∀x c,X.env.cells.lookup x=some c->∀v,s.heap.IsCell c v->h'.IsCell c v:=λx c e v ⟨o,j,B⟩=>by
  have w:c∉ch:=λz=>(a c z).2.2.1 x c e rfl;by_cases L:c∈X.fs
  ·obtain⟨sl,q⟩:=S c o (I.cne x c e) L w j (I.freeC x c e);exact⟨_,q,B⟩
  ·exact⟨o,K c o (I.cne x c e) L w j (I.freeC x c e),B⟩
 refine⟨I.ok,I.os,U,⟨λb o e n g h=>?_,λb o e n g h=>?_,λb o e n h=>?_,λb o e h=>?_,λb xs e=>T b xs (I.base.tups b xs e),λb o xs e=>F b o xs (I.base.frzs b o xs e),λb ps e=>?_⟩,?_,λx c e=>?_,?_,λx c e=>?_,λp Y=>?_,D,I.len⟩
 ·exact K b o (y b o e) g (N b o e h) (I.base.keep b o e n g h) (I.base.free b o e n h)
 ·obtain⟨sl,E⟩:=I.base.slot b o e n g h;obtain⟨G,A⟩:=S b _ (y b o e) g (N b o e h) E (I.base.free b o e n h);exact⟨G,A⟩
 ·obtain⟨o',E⟩:=I.base.there b o e h;exact f b o' (N b o e h) E (I.base.free b o e n h)
 ·obtain⟨o',E⟩:=I.base.there b o e h;exact t b o' (N b o e h) E
 ·obtain⟨Z,E⟩:=I.base.tbls b ps e
  grind
 ·obtain⟨m,W,V⟩:=I.loc;refine⟨m,ns m W,λi x v E A R=>?_⟩;obtain⟨u,r,l⟩:=V i x v E A R;refine⟨u,r,?_⟩;rcases l with l| ⟨k,c,e,z⟩
  ·exact .inl l
  ·exact .inr ⟨k,c,e,C x c e _ z⟩
 ·obtain⟨v,z⟩:=I.cell x c e;exact⟨v,C x c e v z⟩
 ·obtain⟨m,⟨o,_,_,j,_⟩,_⟩:=I.loc;exact f _ o (λz=>(a _ z).2.1 rfl) j I.free
 ·obtain⟨v,o,j,B⟩:=I.cell x c e;exact f c o (λz=>(a c z).2.2.1 x c e rfl) j (I.freeC x c e)
 ·obtain⟨e,n,ne,nf,d⟩:=I.pin p Y
  grind
theorem Inv.un{t':Nat}(I:Inv X pq σ H s)(u:Un X.fs [] H H' s.heap h')(c:dU X.prog X.w H' h'):Inv X pq σ H' {s with heap:=h',toks:=t'}:=by obtain⟨m,⟨o,l,k,f,r⟩,_⟩:=id I.loc;obtain⟨sl,i⟩:=u.any f I.free (by simp);exact I.step (ch:=[]) (λ_ z=>nomatch z) (λb o _ a _ e n=>u.keep b o e n a (by simp)) (λb o _ a _ e n=>u.slot b o e n a (by simp)) (λb o _ e n=>u.free b o e n (by simp)) (λb o _ e=>u.there b o e (by simp)) u.tups u.frzs u.tbls (λM j=>by obtain⟨O,g,E,h,R⟩:=j;rw[f]at h;cases h;exact⟨_,_,_,i,R⟩) c I.bare
theorem Inv.call{t':Nat}{D:PySem.Drawn}(I:Inv X pq σ H s)(u:Un (bU X.stack) ch H H' s.heap h')(g:dU X.prog X.w H' h')(q:Pu g')
  (a:∀b∈ch,(b∈X.ex\/X.s₀.heap.objs.size<=b)/\b≠X.env.locals/\(∀x c,X.env.cells.lookup x=some c->c≠b)/\∀p∈X.pn++pq,p.1≠b):
  Inv X pq σ H' {s with heap:=h',gens:=g',drawn:=D,toks:=t'}:=by
 obtain⟨m,⟨o,y,w,j,r⟩,_⟩:=id I.loc;obtain⟨sl,f⟩:=u.any j I.free λz=>(a _ z).2.1 rfl;exact I.step a (λb o f l h e n=>u.keep b o e n (λz=>(Zf.mp (I.stkSub b z)).elim f l) h) (λb o _ _ h e n=>u.any e n h) (λb o h e n=>u.free b o e n h) (λb o h e=>u.there b o e h) u.tups u.frzs u.tbls (λM v=>by obtain⟨O,k,E,d,R⟩:=v;rw[j]at d;cases d;exact⟨_,_,_,f,R⟩) g q
theorem Inv.turned{t':Nat}(I:Inv X pq σ H s)(k:∀b o,b≠it->s.heap.get? b=some o->h'.get? b=some o)(y:H it=none)(d:it≠X.env.locals)
  (h1:it∈X.ex\/X.s₀.heap.objs.size<=it) (j:∀x c,X.env.cells.lookup x=some c->c≠it) (l:∀p∈X.pn++pq,p.1≠it):Inv X pq σ H {s with heap:=h',toks:=t'}:=by
 refine I.step (ch:=[it]) (λb w=>?_) (λb o _ _ h e _=>k b o (λz=>h (by simp[z])) e) (λb o _ _ h e _=>⟨_,k b o (λz=>h (by simp[z])) e⟩) (λ_ _ _ _ n=>n)
  (λb o h e=>⟨o,k b o (λz=>h (by simp[z])) e⟩) (λ_ _ e=>e) (λ_ _ _ e=>e) (λb P e=>⟨#[],by simp_all⟩) (λm f=>?_) (λb u e=>?_) I.bare
 ·grind
 ·obtain⟨o,i,E,g,r⟩:=f;exact⟨o,_,_,k _ o (Ne.symm d) g,r⟩
 ·refine(I.hok b u e).stay (λc v h q=>k c v ?_ q) (λ_ q=>q) λ_ _ q=>q
  grind
theorem Inv.tok(I:Inv X pq σ H s)(t:Nat):Inv X pq σ H {s with toks:=t}:=I.un Un.refl I.hok
theorem Inv.kept{t':Nat}(I:Inv X pq σ H s)(k:∀b u,s.heap.get? b=some u->h'.get? b=some u):Inv X pq σ H {s with heap:=h',toks:=t'}:=I.un (Un.kept k) (I.hok.kept k)
theorem Inv.laid{o:HO}{t':Nat}(I:Inv X pq σ H s)(k:∀b u,s.heap.get? b=some u->h'.get? b=some u)(h:s.heap.objs.size<=a)(new:bc X.prog X.w (aZ H a o) h' a o):
  Inv X pq σ (aZ H a o) {s with heap:=h',toks:=t'}:=I.un (Un.laid k h (I.hok.fresh h)) (I.hok.laid k h new)
theorem Inv.write{x e:MZ}{o:HO}{t':Nat}(I:Inv X pq σ H s)(m:EK (H x))(a:e=x\/H e=some (.own x))(k:∀b u,b≠e->s.heap.get? b=some u->h'.get? b=some u)(h:∃u,h'.get? e=some u)
  (new:bc X.prog X.w (aZ H x o) h' x o):Inv X pq σ (aZ H x o) {s with heap:=h',toks:=t'}:=I.un (Un.write m a k h) (I.hok.write m a k h new)
theorem Inv.pins_of(I:Inv X pq σ H s)(h:∀p∈pins',s.heap.get? p.1=some p.2/\H p.1=none/\p.1≠X.env.locals/\p.1∉X.fs/\∀v,p.2.data≠.cell v):Inv X pins' σ H s:=
 ⟨I.ok,I.os,I.bare,I.base,I.loc,I.cell,I.free,I.freeC,λp a=>(ZE.mp a).elim (λz=>I.pin p (ZP _ z)) (h p),I.hok,I.len⟩
theorem xr(h:N.Nodup){i j:Nat}{x:Str}(a:N[i]?=some x)(b:N[j]?=some x):i=j:=by obtain⟨H,e⟩:=Zl.mp a;obtain⟨c,E⟩:=Zl.mp b;exact(R8 h).mp (e.trans E.symm)
theorem xt{M:Model}{A:NM}{E:Vs}{i:Nat}{x:Str}{v:V}{Q:Unit->MY->Prop}(I:Inv X pq σ H s)(hN:X.N.Nodup)(P:X.N[i]?=some x)(w:Loc X.env.scope x)(r:RelV v u)
  (h:∀s',Inv X pq (σ.set i (some v)) H s'->(∃a,NP a s.heap s'.heap/\(a=X.env.locals\/X.env.cells.lookup x=some a))->Q () s') (hf:X.fn x=MW\/X.env.scope.names.lookup x=some .local:=by first|exact .inl rfl|exact .inr rfl|assumption):wpAny M A (storeName X.env x u) Q E s:=by
 obtain⟨m,U,hl⟩:=id I.loc;have D:i<σ.length:=by rw[I.len];exact(Zl.mp P).1
 have cne:=I.cne
 have t:∀{a:MZ} {K:M8},(∃o,s.heap.get? a=some o/\H a=none)->NP a s.heap K->dU X.prog X.w H K:=λ{a K} ha f b ob e=>by
  obtain⟨_,_,B⟩:=ha;refine(I.hok b ob e).stay (λc W l q=>(f.2 c ?_).trans q) (λ_ q=>q) λ_ _ q=>q;rintro rfl;rcases l with rfl|l
  ·rw[B]at e;cases e
  ·rw[B]at l;cases l
 rcases w with L|L
 ·refine wpAny_storeName_local L U (λK Y f=>?_) (by rw[I.ok.kind];rfl);obtain⟨oL,_,_,Z,_⟩:=id U;refine h _ ⟨I.ok,I.os,I.bare,⟨λb o e n F w=>?_,λb o e n F w=>?_,I.base.free,λb o e w=>?_,I.base.tups,I.base.frzs,I.base.tbls⟩,⟨_,Y,λj y v' g C T=>?_⟩,λy c e=>?_,I.free,I.freeC,λp hp=>?_,t ⟨oL,Z,I.free⟩ f,by simpa using I.len⟩ ⟨_,f,.inl rfl⟩
  ·exact(f.2 b (Zq (Zs (Zj e) I.ok.above))).trans (I.base.keep b o e n F w)
  ·obtain⟨sl,g⟩:=I.base.slot b o e n F w;exact⟨sl,(f.2 b (Zq (Zs (Zj e) I.ok.above))).trans g⟩
  ·obtain⟨o',g⟩:=I.base.there b o e w;exact⟨o',(f.2 b (Zq (Zs (Zj e) I.ok.above))).trans g⟩
  ·by_cases J:j=i
   ·subst J;rw[P]at g;cases g;rw[Z4 D]at C;cases C;exact⟨u,r,.inl ⟨L,by simp⟩⟩
   ·rw[NE (Ne.symm J)]at C;obtain⟨u',r',q⟩:=hl j y v' g C T;refine⟨u',r',?_⟩;rcases q with⟨k,e⟩| ⟨k,c,e,z⟩
    ·refine .inl ⟨k,?_⟩;have:y≠x:=λe=>J (xr hN g (e▸P));simp[this,e]
    ·exact .inr ⟨k,c,e,z.sameBut f (cne y c e)⟩
  ·obtain⟨W,z⟩:=I.cell y c e;exact⟨W,z.sameBut f (cne y c e)⟩
  ·obtain⟨e,n,ne,nf,d⟩:=I.pin p hp;exact⟨(f.2 p.1 ne).trans e,n,ne,nf,d⟩
 ·have G:X.fn x=MW:=by grind
  obtain⟨c,l⟩:=I.ok.has x (.inl L);obtain⟨W,z⟩:=I.cell x c l;refine wpAny_storeName_cell I.ok.kind L l z (λK N f=>?_);obtain⟨oc,R,hocd⟩:=id z;refine h {s with heap:=K} ⟨I.ok,I.os,I.bare,⟨λb o e n F w=>?_,λb o e n F w=>?_,I.base.free,λb o e w=>?_,I.base.tups,I.base.frzs,I.base.tbls⟩,⟨m,U.sameBut f (Ne.symm (cne x c l)),λj y v' g C T=>?_⟩,λy S e=>?_,I.free,I.freeC,λp hp=>?_,t ⟨oc,R,I.freeC x c l⟩ f,by simpa using I.len⟩ ⟨c,f,.inr l⟩
  ·exact(f.2 b (Zq (Zs (Zj e) (I.ok.cab x c G l)))).trans (I.base.keep b o e n F w)
  ·obtain⟨sl,g⟩:=I.base.slot b o e n F w;exact⟨sl,(f.2 b (Zq (Zs (Zj e) (I.ok.cab x c G l)))).trans g⟩
  ·obtain⟨o',g⟩:=I.base.there b o e w;exact⟨o',(f.2 b (Zq (Zs (Zj e) (I.ok.cab x c G l)))).trans g⟩
  ·by_cases J:j=i
   ·subst J;rw[P]at g;cases g;rw[Z4 D]at C;cases C;exact⟨u,r,.inr ⟨.inl L,c,l,N⟩⟩
   ·rw[NE (Ne.symm J)]at C;obtain⟨u',r',q⟩:=hl j y v' g C T;refine⟨u',r',?_⟩;rcases q with q| ⟨k,S,e,z'⟩
    ·exact .inl q
    ·refine .inr ⟨k,S,e,z'.sameBut f ?_⟩;rintro rfl;exact J (xr hN g (I.ok.inj _ _ _ e l▸P))
  ·by_cases O:S=c
   ·subst O;exact⟨_,N⟩
   ·obtain⟨w2,z2⟩:=I.cell y S e;exact⟨w2,z2.sameBut f O⟩
  ·obtain⟨e,n,ne,nf,d⟩:=I.pin p hp;refine⟨(f.2 p.1 ?_).trans e,n,ne,nf,d⟩;intro q;rw[q,R]at e;exact d W (by grind)
theorem rg{M:Model}{A:NM}{E:Vs}{i:Nat}{x:Str}{v:V}{Q:Unit->MY->Prop}(I:Inv X pq σ H s)(b:X.N.Nodup)(d:X.N[i]?=some x)(e:Loc X.env.scope x)(r:RelV v u)
  (h:∀s',Inv X pq (σ.set i (some v)) H s'->Q () s') (c:X.fn x=MW\/X.env.scope.names.lookup x=some .local:=by first|exact .inl rfl|exact .inr rfl|assumption):wpAny M A (storeName X.env x u) Q E s:=
 xt I b d e r (λs' a _=>h _ a) c
theorem Inv.call'(I:Inv X pq σ H s)(e:s'.os=s.os)(u:Un (bU X.stack) ch H H' s.heap s'.heap)(a:dU X.prog X.w H' s'.heap)(d:Pu s'.gens)
  (h:∀b∈ch,(b∈X.ex\/X.s₀.heap.objs.size<=b)/\b≠X.env.locals/\(∀x c,X.env.cells.lookup x=some c->c≠b)/\∀p∈X.pn++pq,p.1≠b):Inv X pq σ H' s':=by
 obtain⟨f,g,D,t,o⟩:=s';subst(e);exact I.call u a d h
end
abbrev XK:=M0->Option MZ->Hp->Prop
abbrev St:=List (Option V)
abbrev VK:=V->Hp->Prop
abbrev TE:=St->Hp->VK->Prop
abbrev TT:=St->Hp->(Bool->Hp->Prop)->Prop
abbrev TA:=St->Hp->(List V->Hp->Prop)->Prop
set_option genInjectivity false in
structure Ends where
 nx:St->Hp->Prop
 rt:VK
 bk:St->Hp->Prop:=λ_ _=>False
 ct:St->Hp->Prop:=λ_ _=>False
abbrev TS:=Ends->St->Hp->Prop
def EP(X:Cx)(p:Lp)(σ:St)(Q:VK)(u:M0)(s:MY):Prop:=∃v H',Inv X p σ H' s/\RelV v u/\Q v H'
def TP(X:Cx)(p:Lp)(σ:St)(Q:Bool->Hp->Prop)(b:Bool)(s:MY):Prop:=∃H',Inv X p σ H' s/\Q b H'
def AP(X:Cx)(p:Lp)(σ:St)(Q:List V->Hp->Prop)(u:Lv)(s:MY):Prop:=∃vs H',Inv X p σ H' s/\Vals vs u/\Q vs H'
def SP(X:Cx)(p:Lp)(D:Ends)(f:Flow)(s:MY):Prop:=
 match f with
 | .next=>∃σ' H',Inv X p σ' H' s/\D.nx σ' H'
 | .brk=>∃σ' H',Inv X p σ' H' s/\D.bk σ' H'
 | .cont=>∃σ' H',Inv X p σ' H' s/\D.ct σ' H'
 | .ret u=>∃v σ' H',Inv X p σ' H' s/\RelV v u/\D.rt v H'
def PE(X:Cx)(e:Expr)(t:TE):Prop:=
 ∀(pq:Lp) (s:MY) (σ:St) (H:Hp) (Q:VK),Inv X pq σ H s->t σ H Q->wpAny (model X.prog X.w) X.A (eval e X.env) (EP X pq σ Q) X.xe s
def PT(X:Cx)(e:Expr)(t:TT):Prop:=
 ∀(pq:Lp) (s:MY) (σ:St) (H:Hp) (Q:Bool->Hp->Prop),Inv X pq σ H s->t σ H Q->wpAny (model X.prog X.w) X.A (isTrue e X.env (eval e X.env)) (TP X pq σ Q) X.xe s
def PW(X:Cx)(e:Expr)(t:TT):Prop:=
 ∀(whole:Sem M0) (pq:Lp) (s:MY) (σ:St) (H:Hp) (Q:Bool->Hp->Prop),Inv X pq σ H s->t σ H Q->wpAny (model X.prog X.w) X.A (isTrue e X.env whole) (TP X pq σ Q) X.xe s
theorem PW.pt{X:Cx}{t:TT}(h:PW X e t):PT X e t:=h _
def PA(X:Cx)(es:Lx)(t:TA):Prop:=
 ∀(pos:Pos) (pq:Lp) (s:MY) (σ:St) (H:Hp) (Q:List V->Hp->Prop),Inv X pq σ H s->t σ H Q->wpAny (model X.prog X.w) X.A (spliced (backTo pos (starEach es X.env))) (AP X pq σ Q) X.xe s
def PS(X:Cx)(st:OB)(t:TS):Prop:=
 ∀(pq:Lp) (s:MY) (σ:St) (H:Hp) (D:Ends),Inv X pq σ H s->t D σ H->wpAny (model X.prog X.w) X.A (exec st X.env) (SP X pq D) X.xe s
def eh(X:Cx)(st:List OB)(t:TS):Prop:=
 ∀(pq:Lp) (s:MY) (σ:St) (H:Hp) (D:Ends),Inv X pq σ H s->t D σ H->wpAny (model X.prog X.w) X.A (execs st X.env) (SP X pq D) X.xe s
theorem aO{t:Sem α}{Q b:α->MY->Prop}(h:wpAny M A t Q E s)(H:∀a s,Q a s->b a s):wpAny M A t b E s:=Nn h H λ_ _ x=>x
section
variable {X:Cx}
noncomputable def rh(i:Nat):TE:=λσ H Q=>∃v,σ[i]?=some (some v)/\Q v H
noncomputable def tC(v:V):TE:=λ_ H Q=>Q v H
theorem rj{i:Nat}{x:Str}{pos:Pos}(j:X.N[i]?=some x)(p:xq X.env.scope x)(f:(x==("__debug__":Str))=MX:=by decide)(d:(x==("__classdict__":Str))=MX:=by decide):PE X (.Name x pos) (rh i):=by
 intro P s q H Q I h;obtain⟨v,e,h⟩:=h;obtain⟨m,o,k⟩:=I.loc;obtain⟨u,r,l⟩:=k i x v j e p;have fin:EP X _ _ Q u s:=⟨v,H,I,r,h⟩;rcases l with⟨b,n⟩| ⟨b,c,g,a⟩
 ·exact wpAny_Name (wpAny_loadName_local I.ok.kind b o n fin) f
 ·rcases b with b|b
  ·exact wpAny_Name (wpAny_loadName_cell I.ok.kind b g a fin) f
  ·exact wpAny_Name (wpAny_loadName_free I.ok.kind b g a fin d) f
theorem jn{i j pos}:PE X (.Constant (.int i) j pos) (tC (.int i)):=λ_ _ _ H _ I h=>wpAny_Constant_int ⟨.int i,H,I.tok _,⟨_,rfl⟩,h⟩
theorem qo{b j pos}:PE X (.Constant (.bool b) j pos) (tC (.bl b)):=λ_ _ _ H _ I h=>Constant_bool ⟨.bl b,H,I,rfl,h⟩
theorem rk{j pos}:PE X (.Constant .none j pos) (tC .non):=λ_ _ _ H _ I h=>Constant_none ⟨.non,H,I,rfl,h⟩
theorem rm{x j pos}:PE X (.Constant (.str x) j pos) (tC (.str x)):=λ_ _ _ H _ I h=>Calls.Constant_str ⟨.str x,H,I.tok _,⟨_,rfl⟩,h⟩
def Gl(X:Cx)(x:Str):Prop:=X.env.kindOf x=some .globalImplicit
theorem jo{E:Vs}{σ:St}{H:Hp}{x:Str}{pos:Pos}(I:Inv X pq σ H s)(b:Gl X x)(c:X.mg x=some u)(h:Q u s)
  (a:(x==("__debug__":Str))=MX:=by decide):wpAny (model X.prog X.w) X.A (eval (.Name x pos) X.env) Q E s:=
 QE I.ok.kind b (Calls.loadGlobal_global (by rw[I.ok.glob];exact I.mod.glob.keeps I.bk) c h) a
theorem eS{E:Vs}{σ:St}{H:Hp}{x:Str}{pos:Pos}(I:Inv X pq σ H s)(d:Gl X x)(e:X.mg x=none)(g:bootBuiltins x=some u)(h:Q u s)
  (f:x≠"__name__":=by decide) (c:(x==("__debug__":Str))=MX:=by decide):wpAny (model X.prog X.w) X.A (eval (.Name x pos) X.env) Q E s:=by
 obtain⟨m,a,b⟩:=I.mod.blt;exact QE I.ok.kind d (Calls.loadGlobal_builtin (by rw[I.ok.glob];exact I.mod.glob.keeps I.bk) e (by rw[I.ok.blt];exact a.keeps I.bk) ((b x f).trans g) h) c
theorem rn{x:Str}{v:V}{pos:Pos}(b:Gl X x)(c:X.mg x=some u)(r:RelV v u)(a:(x==("__debug__":Str))=MX:=by decide):PE X (.Name x pos) (tC v):=
 λ_ _ _ H _ I h=>jo I b c ⟨v,H,I,r,h⟩ a
theorem xu{x:Str}{v:V}{pos:Pos}(b:Gl X x)(c:X.mg x=none)(e:bootBuiltins x=some u)(r:RelV v u)(d:x≠"__name__":=by decide)(a:(x==("__debug__":Str))=MX:=by decide):PE X (.Name x pos) (tC v):=
 λ_ _ _ H _ I h=>eS I b c e ⟨v,H,I,r,h⟩ d a
variable {a b:Expr}{ta tb:TE}{pos:Pos}
noncomputable def tB(t:TE):TT:=λσ H Q=>t σ H λx H1=>∃c,x=.bl c/\Q c H1
theorem ro{t:TE}(h:PE X e t)(b:∀w,isTrue e X.env w=(do let v <-w;standAt e.pos;holding [v] (truthy v)):=by intro _;rfl):PT X e (tB t):=by intro p s f H Q I hw;refine isTrue_plain (aO (h p s f H _ I hw) λv S ⟨x,H1,a,r,c⟩=>?_) (b _);obtain⟨d,rfl,q⟩:=c;cases r;exact ZO ⟨H1,a,q⟩
variable {tA tB':TT}
noncomputable def E7(t u:TT):TT:=λσ H Q=>t σ H λc H1=>if c=MW then u σ H1 Q else Q MX H1
noncomputable def Mz(t u:TT):TT:=λσ H Q=>t σ H λc H1=>if c=MW then Q MW H1 else u σ H1 Q
noncomputable def E8(t:TT):TT:=λσ H Q=>t σ H λc H1=>Q (!c) H1
theorem lv(b:PT X a tA):PW X (.BoolOp .And [a] pos) tA:=by
 intro w p s d H Q I h;refine isTrue_and (aO (b _ s _ H Q I h) λc S e=>?_);cases c with
 |true=>exact isTrue_and_nil e
 |false=>exact e
theorem jp(b:PT X a tA):PW X (.BoolOp .Or [a] pos) tA:=by
 intro w p s d H Q I h;refine isTrue_or (aO (b _ s _ H Q I h) λc S e=>?_);cases c with
 |false=>exact isTrue_or_nil e
 |true=>exact e
theorem rx(e:PT X a tA)(f:PW X (.BoolOp .And (b::rest) pos) tB'):PW X (.BoolOp .And (a::b::rest) pos) (E7 tA tB'):=by
 intro w p s g H Q I h;refine isTrue_and (aO (e _ s _ H _ I h) λc S ⟨_,d,q⟩=>?_);cases c with
 |true=>exact f _ _ _ _ _ Q d q
 |false=>exact⟨_,d,q⟩
theorem qp(e:PT X a tA)(f:PW X (.BoolOp .Or (b::rest) pos) tB'):PW X (.BoolOp .Or (a::b::rest) pos) (Mz tA tB'):=by
 intro w p s g H Q I h;refine isTrue_or (aO (e _ s _ H _ I h) λc S ⟨_,d,q⟩=>?_);cases c with
 |true=>exact⟨_,d,q⟩
 |false=>exact f _ _ _ _ _ Q d q
theorem jq(b:PT X a tA):PT X (.UnaryOp .Not a pos) (E8 tA):=by intro p s c H Q I h;exact isTrue_not (b _ s _ H _ I h)
noncomputable def xv(t tb:TE):TE:=λσ H Q=>t σ H λx H1=>∃c,x=.bl c/\if c=MW then tb σ H1 Q else Q (.bl MX) H1
noncomputable def E_(t tb:TE):TE:=λσ H Q=>t σ H λx H1=>∃c,x=.bl c/\if c=MW then Q (.bl MW) H1 else tb σ H1 Q
theorem jr{op}{t:TE}(h:PE X a t):PE X (.BoolOp op [a] pos) t:=λp s b H Q I hw=>BoolOp_one (h _ s _ H Q I hw)
theorem ry(e:PE X a ta)(f:PE X (.BoolOp .And (b::rest) pos) tb):PE X (.BoolOp .And (a::b::rest) pos) (xv ta tb):=by
 intro p s g H Q I h;refine BoolOp_and (aO (e _ s _ H _ I h) λv S ⟨x,_,d,r,q⟩=>?_);obtain⟨c,rfl,q⟩:=q;subst r;refine ZO ?_;cases c with
 |true=>exact f _ _ _ _ Q d q
 |false=>exact⟨.bl _,_,d,rfl,q⟩
theorem xw(e:PE X a ta)(f:PE X (.BoolOp .Or (b::rest) pos) tb):PE X (.BoolOp .Or (a::b::rest) pos) (E_ ta tb):=by
 intro p s g H Q I h;refine BoolOp_or (aO (e _ s _ H _ I h) λv S ⟨x,_,d,r,q⟩=>?_);obtain⟨c,rfl,q⟩:=q;subst r;refine ZO ?_;cases c with
 |false=>exact f _ _ _ _ Q d q
 |true=>exact⟨.bl _,_,d,rfl,q⟩
noncomputable def MA(t:TT)(T tb:TE):TE:=λσ H Q=>t σ H λc H1=>if c=MW then T σ H1 Q else tb σ H1 Q
theorem Fa{c:Expr}(i:PT X c tA)(f:PE X a ta)(g:PE X b tb):PE X (.IfExp c a b pos) (MA tA ta tb):=by
 intro p s j H Q I h;refine wpAny_IfExp (aO (i _ s _ H _ I h) λd S ⟨_,e,q⟩=>?_);cases d with
 |true=>exact f _ _ _ _ Q e q
 |false=>exact g _ _ _ _ Q e q
end
def cQ(K:Fg)(H:Hp)(a:MZ)(xs:List V):Prop:=
 Rd H a (.lst xs)\/
  ∃(o:Obj) (its:Av) (n:Nat),K.lookup a=some o/\o.cls=.type "list"/\o.dict=none/\o.data=.seq its n/\its.size<=sizeLine/\Vals xs its.toList
def bX(K:Fg)(H:Hp)(a:MZ)(xs:List V):Prop:=
 Rd H a (.tup xs)\/
  ∃(o:Obj) (its:Av) (n:Nat),K.lookup a=some o/\o.cls=.type "tuple"/\o.dict=none/\o.data=.seq its n/\its.size<=sizeLine/\Vals xs its.toList
noncomputable def Fb:M0->Option V
 | .none=>some .non
 | .bool b=>some (.bl b)
 | .int i _=>some (.int i)
 | .str x _=>some (.str x)
 | .bytes b _=>some (.byt b)
 | .float b _=>some (.flt b)
 | .ref a=>some (.ref a)
 | .type n=>some (.ty n)
 |_=>none
theorem RelV.abs{x:V}(r:RelV x u):Fb u=some x:=by
 cases x with
 |non=>cases r;rfl
 |bl _=>cases r;rfl
 |int _=>obtain⟨t,rfl⟩:=r;rfl
 |str _=>obtain⟨t,rfl⟩:=r;rfl
 |byt _=>obtain⟨t,rfl⟩:=r;rfl
 |flt _=>obtain⟨t,rfl⟩:=r;rfl
 |ref _=>cases r;rfl
 |ty _=>cases r;rfl
theorem RelV.inj{x y:V}(r:RelV x u)(q:RelV y u):x=y:=OK (r.abs.symm.trans q.abs)
theorem Vals.inj:∀{xs ys:List V} {us:Lv},Vals xs us->Vals ys us->xs=ys
 |_,_,_,.nil,.nil=>rfl
 |_,_,_,.cons r t,.cons R T=>by rw[r.inj R,Vals.inj t T]
section
variable {X:Cx}{σ:St}{H:Hp}{xs ys:List V}
theorem cQ.of(h:H a=some (.lst xs)):cQ K H a xs:=.inl (.inl h)
theorem bX.of(h:H a=some (.tup xs)):bX K H a xs:=.inl (.inl h)
theorem Inv.list(I:Inv X pq σ H s)(h:cQ X.K H a xs):∃its:Lv,Vals xs its/\PlainL s.heap a its.toArray/\xs.length<=sizeLine:=by
 rcases h with h| ⟨o,its,n,c,b,hd,d,f,r⟩
 ·obtain⟨z,its,n,r,e⟩:=h.ok I.hok;exact⟨_,r,⟨_,n,e,rfl,rfl,rfl⟩,z⟩
 ·refine⟨_,r,⟨o,n,I.kIn a o c,b,hd,by simp_all⟩,?_⟩;have e:=r.length;simp_all
theorem Inv.tuple(I:Inv X pq σ H s)(h:bX X.K H a xs):∃its:Lv,Vals xs its/\Rf s.heap a its.toArray/\xs.length<=sizeLine:=by
 rcases h with h| ⟨o,its,n,c,b,_,d,f,r⟩
 ·obtain⟨z,its,r,p,_⟩:=h.ok I.hok;exact⟨_,r,p,z⟩
 ·refine⟨_,r,⟨o,I.kIn a o c,b,n,by simp_all⟩,?_⟩;have e:=r.length;simp_all
theorem Inv.noD(I:Inv X pq σ H s)(h:bX X.K H a xs):qm s.heap a:=by
 rcases h with h| ⟨o,i,n,c,d,b,e,f,r⟩
 ·obtain⟨z,i,r,p,q⟩:=h.ok I.hok;exact q
 ·exact⟨o,I.kIn a o c,b⟩
theorem Inv.list_inj(I:Inv X pq σ H s)(h:cQ X.K H a xs)(h':cQ X.K H a ys):xs=ys:=by
 obtain⟨b,r,⟨o,n,e,_,_,d⟩,_⟩:=I.list h;obtain⟨i,R,⟨O,N,E,_,_,D⟩,_⟩:=I.list h';have:b=i:=by simp_all
 subst this;exact r.inj R
theorem Inv.tuple_inj(I:Inv X pq σ H s)(h:bX X.K H a xs)(h':bX X.K H a ys):xs=ys:=by
 obtain⟨b,r,⟨o,e,_,n,d⟩,_⟩:=I.tuple h;obtain⟨i,R,⟨O,E,_,N,D⟩,_⟩:=I.tuple h';have:b=i:=by simp_all
 subst this;exact r.inj R
end
section
variable {X:Cx}{σ:St}{H:Hp}
end
section
variable {X:Cx}{rest:List OB}{t u:TS}{te:TE}{pos:Pos}
noncomputable def qq:TS:=λD σ H=>D.nx σ H
noncomputable def Fc(t u:TS):TS:=λD σ H=>t {D with nx:=u D} σ H
theorem lw:eh X [] qq:=λ_ _ a H _ I h=>P5 ⟨_,H,I,h⟩
theorem fB(h1:PS X st t)(b:eh X rest u):eh X (st::rest) (Fc t u):=by
 intro p s e H D I h;refine wpAny_execs_cons (aO (h1 _ s _ H _ I h) λf S q=>?_);cases f with
 |next=>obtain⟨c,d,a,q⟩:=q;exact b _ _ _ _ D a q
 |ret v=>exact q
 |brk=>exact q
 |cont=>exact q
noncomputable def rA:TS:=λD σ H=>D.bk σ H
noncomputable def xx:TS:=λD σ H=>D.ct σ H
theorem lx:PS X (.Pass pos) qq:=λ_ _ a H _ I h=>wpAny_Pass ⟨_,H,I,h⟩
theorem Fe:PS X (.Break pos) rA:=λ_ _ a H _ I h=>wpAny_Break ⟨_,H,I,h⟩
theorem Ff:PS X (.Continue pos) xx:=λ_ _ a H _ I h=>wpAny_Continue ⟨_,H,I,h⟩
theorem Inv.quiet{σ:St}{H:Hp}(I:Inv X pq σ H s):interactive X.env=MX:=by simp[interactive,I.ok.kind]
noncomputable def xy(t:TE):TS:=λD σ H=>t σ H λ_ H1=>D.nx σ H1
theorem ly(b:PE X e te)(hs:swapsWith e none pos.line X.env=pure MX:=by rfl):PS X (.Expr e pos) (xy te):=by intro p s c H D I h;exact wpAny_Expr_any (aO (b _ s _ H _ I h) λv S ⟨x,_,a,_,q⟩=>⟨_,_,a,q⟩) I.quiet hs
noncomputable def Fh(t:TE):TS:=λD σ H=>t σ H D.rt
theorem rB(b:PE X e te):PS X (.Return (some e) pos) (Fh te):=by intro p s c H D I h;exact wpAny_Return_some (aO (b _ s _ H _ I h) λv S ⟨x,_,a,r,q⟩=>⟨x,_,_,a,r,q⟩)
noncomputable def xz:TS:=λD _ H=>D.rt .non H
theorem lz:PS X (.Return none pos) xz:=λ_ _ a H _ I h=>wpAny_Return_none ⟨.non,_,H,I,rfl,h⟩
noncomputable def Fi(c:TT)(t u:TS):TS:=λD σ H=>c σ H λb H1=>if b=MW then t D σ H1 else u D σ H1
theorem qr{c:Expr}{a b:List OB}{T:TT}(i:PT X c T)(f:eh X a t)(g:eh X b u):PS X (.If c a b pos) (Fi T t u):=by
 intro p s j H D I h;refine wpAny_If (aO (i _ s _ H _ I h) λd S ⟨_,e,q⟩=>?_);cases d with
 |true=>exact f _ _ _ _ D e q
 |false=>exact g _ _ _ _ D e q
noncomputable def rE:TS:=λ_ _ _=>False
theorem Fj{s:List OB}:eh X s rE:=λ_ _ _ _ _ _ h=>h.elim
end
abbrev TG:=V->St->Hp->(St->Hp->Prop)->Prop
abbrev qs:=List V->St->Hp->(St->Hp->Prop)->Prop
def PG(X:Cx)(target:Expr)(t:TG):Prop:=
 ∀(pq:Lp) (s:MY) (σ:St) (H:Hp) (v:V) (u:M0) (Q:St->Hp->Prop),Inv X pq σ H s->RelV v u->t v σ H Q->
  wpAny (model X.prog X.w) X.A (assign target X.env u) (λ_ s'=>∃σ' H',Inv X pq σ' H' s'/\Q σ' H') X.xe s
def xA(X:Cx)(ts:Lx)(t:qs):Prop:=
 ∀(pq:Lp) (s:MY) (σ:St) (H:Hp) (vs:List V) (us:Lv) (Q:St->Hp->Prop),Inv X pq σ H s->Vals vs us->t vs σ H Q->
  wpAny (model X.prog X.w) X.A (assignInOrder ((assignEach ts X.env).map (·.2)) us) (λ_ s'=>∃σ' H',Inv X pq σ' H' s'/\Q σ' H') X.xe s
abbrev lA:=V->V->V->Hp->(Hp->Prop)->Prop
def rF(X:Cx)(t:lA):Prop:=
 ∀(pq:Lp) (s:MY) (σ:St) (H:Hp) (o i v:V) (O I u:M0) (Q:Hp->Prop),Inv X pq σ H s->RelV o O->RelV i I->RelV v u->t o i v H Q->
  wpAny (model X.prog X.w) X.A (setItem O I u) (λ_ s'=>∃H',Inv X pq σ H' s'/\Q H') X.xe s
section
variable {X:Cx}{pos:Pos}
noncomputable def dV(i:Nat):TG:=λv σ H Q=>Q (σ.set i (some v)) H
theorem lB{i:Nat}{x:Str}(b:X.N.Nodup)(d:X.N[i]?=some x)(e:Loc X.env.scope x)(c:X.fn x=MW\/X.env.scope.names.lookup x=some .local:=by first|exact .inl rfl|exact .inr rfl|assumption):PG X (.Name x pos) (dV i):=by intro p s f H v u Q I r h;exact wpAny_assign_Name (rg I b d e r (λS a=>⟨_,H,a,h⟩) c)
noncomputable def xB:qs:=λvs σ H Q=>vs=[]/\Q σ H
noncomputable def qt(t:TG)(u:qs):qs:=λvs σ H Q=>∃v r,vs=v::r/\t v σ H λσ' H'=>u r σ' H' Q
theorem lC:xA X [] xB:=by intro p s a H vs u Q I r h;obtain⟨e,h⟩:=h;exact assignInOrder_nil ⟨_,H,I,h⟩
theorem Fm{es:Lx}{t:TG}{u:qs}(h1:PG X e t)(b:xA X es u)
  (hs:(assignEach (e::es) X.env).map (·.2)=assign e X.env::(assignEach es X.env).map (·.2):=by rfl):xA X (e::es) (qt t u):=by
 intro p s c H vs U Q I r h;obtain⟨v,V,E,h⟩:=h;subst E;cases r with
 |cons r R=>rw[hs];exact assignInOrder_cons (aO (h1 _ s _ H _ _ _ I r h) λ_ S ⟨_,_,a,q⟩=>b _ _ _ _ _ _ Q a R q)
noncomputable def xC(K:Fg)(n:Nat)(t:qs):TG:=λv σ H Q=>∃a xs,v=.ref a/\bX K H a xs/\xs.length=n/\t xs σ H Q
theorem rG{es:Lx}{k:Nat}{t:qs}(d:X.calm=MW)(h:xA X es t)
  (g:(assignEach es X.env).length=n:=by rfl) (c:(assignEach es X.env).findIdx? (·.1)=none:=by rfl):PG X (.Tuple es k pos) (xC X.K n t):=by
 intro P s w H v u Q I r hw;obtain⟨a,x,E,i,f,hw⟩:=hw;subst E;subst r;obtain⟨m,R,j,q⟩:=I.tuple i;exact assign_Tuple_tuple (I.ok.hd d) j (by simp[g,<-f,R.length]) c λp l=>h _ _ _ H _ _ Q (I.kept (t':=s.toks) λb o e=>l b o (Zq (Zj e)) e) (by omega) hw
noncomputable def Fn(to T:TE)(t:lA):TG:=λv σ H Q=>to σ H λo H1=>T σ H1 λi H2=>t o i v H2 λa=>Q σ a
theorem rH{o i:Expr}{to T:TE}{t:lA}(f:PE X o to)(e:PE X i T)(hs:rF X t)
  (l:∀v,assign (.Subscript o i pos) X.env v=(do
   let O <-holding [v] (eval o X.env)
   let a <-holding [v,O] (eval i X.env)
   standAt pos
   holding [v,O,a] (setItem O a v)
   release [v,O,a] []):=by intro _;rfl):PG X (.Subscript o i pos) (Fn to T t):=by
 intro p s m H v u Q I r h;refine Za (ZI (aO (f _ s _ H _ I h) λO S ⟨x,_,b,R,q⟩=>?_));exact Za (ZI (aO (e _ _ _ _ _ b q) λa s2 ⟨y,_,c,k,g⟩=>Za (PF (Za (ZI (aO (hs _ _ _ _ x y v _ _ u _ c R k r g) λ_ s3 ⟨_,d,j⟩=>wpAny_release ⟨_,_,d,j⟩))))))
noncomputable def lD(t:TE)(g:TG):TS:=λD σ H=>t σ H λx H1=>g x σ H1 D.nx
theorem js{t:TE}{g:TG}(b:PE X e t)(c:PG X tg g)(hs:swapsWithSole [tg] e pos.line X.env=pure MX:=by rfl)(hw:swappedStores [tg] e X.env=pure none:=by rfl)
  (h1:(assignEach [tg] X.env).map (·.2)=[assign tg X.env]:=by rfl):PS X (.Assign [tg] e pos) (lD t g):=by
 intro p s d H D I h;refine wpAny_Assign_stores (aO (b _ s _ H _ I h) λv S ⟨x,_,a,r,Q⟩=>?_) hs hw;rw[h1];exact aO (c _ _ _ _ x v _ a r Q) λ_ s2 q=>q
theorem jt{i:Nat}{x:Str}{t:TE}(c:X.N.Nodup)(g:X.N[i]?=some x)(j:Loc X.env.scope x)(d:PE X e t)(hs:swapsWith e (some (.Name x pos')) pos.line X.env=pure MX:=by rfl)(f:X.fn x=MW\/X.env.scope.names.lookup x=some .local:=by first|exact .inl rfl|exact .inr rfl|assumption):
  PS X (.Assign [.Name x pos'] e pos) (lD t (dV i)):=by
 intro p s k H D I h;exact wpAny_Assign_Name (aO (d _ s _ H _ I h) λv S ⟨y,_,a,r,q⟩=>rg a c g j r (λs2 b=>⟨_,_,b,q⟩) f) hs
end
section
variable {X:Cx}{pos:Pos}
noncomputable def rJ(c:TT)(tb:TS):TS:=λD σ H=>∃W:Nat->St->Hp->Prop,(∃m,W m σ H)/\∀m σ H,W m σ H->
 c σ H λb H1=>if b=MW then ∃N:St->Hp->Prop,(∀σ' H',N σ' H'->∃M,M<m/\W M σ' H')/\tb {D with nx:=N,ct:=N,bk:=D.nx} σ H1 else D.nx σ H1
theorem Fo{c:Expr}{body:List OB}{t:TT}{tb:TS}(i:PM (model X.prog X.w) X.A X.env X.xe)(o:PT X c t)(m:eh X body tb):PS X (.While c body [] pos) (rJ t tb):=by
 intro P s z H D I h;obtain⟨W,⟨M,w⟩,turn⟩:=h;refine wpAny_While (codeAny_whileLoop (λn S=>∃a e,Inv X _ a e S/\W n a e) ?_ _ ⟨_,H,I,w⟩);rintro n y ⟨u,H1,k,r⟩;refine Om i (aO (o _ _ _ _ _ k (turn n _ _ r)) λb s2 ⟨_,g,q⟩=>?_);cases b with
 |true=>
  obtain⟨N,x,q⟩:=q;refine Om i (aO (m _ _ _ _ _ g q) λf s3 Q=>?_);cases f with
  |next=>
   obtain⟨d,j,l,p⟩:=Q
   grind
  |cont=>
   obtain⟨d,j,l,p⟩:=Q
   grind
  |brk=>exact Q
  |ret v=>exact Q
 |false=>exact P5 ⟨_,_,g,q⟩
end
set_option genInjectivity false in
structure It where
 go:Nat->Hp->Prop
 yld:Nat->Hp->V->Hp->Prop
 stop:Nat->Hp->Prop
def df(X:Cx)(P:Lp)(H:Hp)(b:MZ):Prop:=
 H b=none/\b≠X.env.locals/\b∉X.fs/\(b∈X.ex\/X.s₀.heap.objs.size<=b)/\(∀x c,X.env.cells.lookup x=some c->c≠b)/\∀p∈X.pn++P,p.1≠b
theorem Inv.fpOk{X:Cx}{σ:St}{H a:Hp}{b:MZ}(I:Inv X pq σ H s)(h:s.heap.objs.size<=b)(d:a b=none):df X pq a b:=by
 refine⟨d,Ox (Zs I.lt h),I.nofs h,.inr (Zy I.sz h),λx c e z=>?_,λp f z=>?_⟩
 ·obtain⟨v,q⟩:=I.cell x c e;exact absurd (Zs q.lt (by simp_all)) (Ni _)
 ·exact absurd (Zs (Zj (I.pin p f).1) (by simp_all)) (Ni _)
structure Turn (P:M5)(w:Nc)(K:Fg)(tg:Expr)(J:It)(fp:La)(it:MZ)(tn:Nat->M8->Prop):Prop where
 mem:it∈fp
 obj:∀i h,tn i h->∀b∈fp,∃o,h.get? b=some o/\∀v,o.data≠.cell v
 keep:∀i h h',tn i h->(∀b∈fp,∀o,h.get? b=some o->h'.get? b=some o)->tn i h'
 item:∀(X:Cx),X.prog=P->X.w=w->X.K=K->X.calm=MW->∀(i:Nat) (pq:Lp) (s:MY) (σ:St) (H:Hp) (E:Vs),Inv X pq σ H s->(∀b∈fp,df X pq H b)->tn i s.heap->J.go i H->
  wpAny (model P w) X.A (pyNext (.ref it)) (λr s1=>∃u,r=some u/\
   wpAny (model P w) X.A (letOwnedTupleGo tg (.ref it) u) (λ_ s2=>∃x H',Inv X pq σ H' s2/\RelV x u/\J.yld i H x H'/\tn (i+1) s2.heap/\∀b∈fp,H' b=none) E s1) E s
 done:∀(X:Cx),X.prog=P->X.w=w->X.K=K->X.calm=MW->∀(i:Nat) (pq:Lp) (s:MY) (σ:St) (H:Hp) (E:Vs),Inv X pq σ H s->(∀b∈fp,df X pq H b)->tn i s.heap->J.stop i H->
  wpAny (model P w) X.A (pyNext (.ref it)) (λr s1=>r=none/\Inv X pq σ H s1) E s
 self:∀(A:NM) (i:Nat) (s:MY) (Q:Vs) (E:Vs),tn i s.heap->Q (.ref it) s->wpAny (model P w) A (pyIter (.ref it)) Q E s
abbrev TI:=St->Hp->(It->Hp->Prop)->Prop
def EL(X:Cx)(p:Lp)(σ:St)(tg:Expr)(R:It->Hp->Prop)(i:M0)(s2:MY):Prop:=
 ∃(it:MZ) (fp:La) (tn:Nat->M8->Prop) (J:It) (H':Hp),i=.ref it/\Inv X p σ H' s2/\Turn X.prog X.w X.K tg J fp it tn/\tn 0 s2.heap/\(∀b∈fp,df X p H' b)/\R J H'
def PI(X:Cx)(tg i:Expr)(w:TI):Prop:=
 ∀(pq:Lp) (s:MY) (σ:St) (H:Hp) (R:It->Hp->Prop),Inv X pq σ H s->w σ H R->
  wpAny (model X.prog X.w) X.A (eval i X.env) (λv S=>wpAny (model X.prog X.w) X.A (pyIter v) (EL X pq σ tg R) X.xe S) X.xe s
theorem ju{n:String}{vs:Av}{Q:Unit->MY->Prop}(b:s.heap.get? it=some o)(H:o.cls=.type n)(a:o.data=.fields vs)
  (c:["enumerate","zip","dict_itemiterator","dict_reverseitemiterator","odict_iterator","itertools.zip_longest","itertools.pairwise"].contains n=MX) (h:Q () s):wpAny M A (letOwnedTupleGo tg (.ref it) u) Q E s:=by
 cases tg<;>first
  |exact Zd h
  | (cases u<;>first
    |exact Zd h
    | (refine Za (wpAny_load b ?_)
       rw[H,a];show wpAny M A (if(["enumerate","zip","dict_itemiterator","dict_reverseitemiterator","odict_iterator","itertools.zip_longest","itertools.pairwise"].contains n&&vs[0]?==some _)=MW then _ else _) Q E s;rw[if_neg (by lia)];exact Zd h))
noncomputable def EM(K:Fg)(a:MZ):It:=
 ⟨λi H=>∃xs x,cQ K H a xs/\xs[i]?=some x,λi H x H'=>H'=H/\∀xs,cQ K H a xs->xs[i]?=some x,λi H=>∃xs,cQ K H a xs/\xs.length<=i⟩
noncomputable def Fp(K:Fg)(a:MZ):It:=
 ⟨λi H=>∃xs x,bX K H a xs/\xs[i]?=some x,λi H x H'=>H'=H/\∀xs,bX K H a xs->xs[i]?=some x,λi H=>∃xs,bX K H a xs/\xs.length<=i⟩
noncomputable def xD(l:Int)(n:Nat):It:=⟨λi _=>i<n,λi H x H'=>H'=H/\x=.int (l+i),λi _=>n<=i⟩
theorem Fq{P:M5}(a it:MZ):Turn P w K tg (EM K a) [it] it (λi h=>h.IsListIter it a i) where
 mem:=by simp
 obj:=λi h st b hb=>by
  have e:=by simpa using hb
  obtain⟨o,e,c,d⟩:=st;simp_all
 keep:=λi h h' st k=>st.at λo e=>k _ (by simp) o e
 item:=by intro X hP hw hK hc i pq s σ H E I hf st hg;subst hP hw hK;obtain⟨xs,x,hq,hx⟩:=hg;obtain⟨its,rv,p,hz⟩:=I.list hq;obtain⟨u,hu,ru⟩:=rv.get hx;obtain⟨f0,f1,f2,f3,f4,f5⟩:=hf it (by simp);refine wpAny_pyNext_list_item st p.isList (by simpa using hu) λh' st' sb=>?_;obtain⟨o,e,c,d⟩:=id st';exact⟨u,rfl,ju e c d (rfl) ⟨x,H,I.turned (t':=s.toks) (λb o hb e=>(sb.2 b hb).trans e) f0 f1 f3 f4 f5,ru,⟨rfl,λys hy=>by rw[I.list_inj hy hq];exact hx⟩,st',λb hb=>(hf b hb).1⟩⟩
 done:=by intro X hP hw hK hc i pq s σ H E I hf st hg;subst hP hw hK;obtain⟨xs,hq,hx⟩:=hg;obtain⟨its,rv,p,hz⟩:=I.list hq;obtain⟨f0,f1,f2,f3,f4,f5⟩:=hf it (by simp);have hl:=rv.length;exact wpAny_pyNext_list_end (I.ok.hd hc) st p.isList (by simp_all) λh' eb=>⟨rfl,I.turned (λb o hb e=>eb b o hb e) f0 f1 f3 f4 f5⟩
 self:=λ_ _ _ _ _ st h=>wpAny_pyIter_listiter st h
theorem Fs{P:M5}(a it:MZ):Turn P w K tg (Fp K a) [it] it (λi h=>h.IsTupleIter it a i) where
 mem:=by simp
 obj:=λi h st b hb=>by
  have e:=by simpa using hb
  obtain⟨o,e,c,d⟩:=st;simp_all
 keep:=λi h h' st k=>st.at λo e=>k _ (by simp) o e
 item:=by intro X hP hw hK hc i pq s σ H E I hf st hg;subst hP hw hK;obtain⟨xs,x,hq,hx⟩:=hg;obtain⟨its,rv,p,hz⟩:=I.tuple hq;obtain⟨u,hu,ru⟩:=rv.get hx;obtain⟨f0,f1,f2,f3,f4,f5⟩:=hf it (by simp);refine wpAny_pyNext_tuple_item st (show s.heap.IsTuple a _ from p) (by simpa using hu) λh' st' sb=>?_;obtain⟨o,e,c,d⟩:=id st';exact⟨u,rfl,ju e c d (rfl) ⟨x,H,I.turned (t':=s.toks) (λb o hb e=>(sb.2 b hb).trans e) f0 f1 f3 f4 f5,ru,⟨rfl,λys hy=>by rw[I.tuple_inj hy hq];exact hx⟩,st',λb hb=>(hf b hb).1⟩⟩
 done:=by intro X hP hw hK hc i pq s σ H E I hf st hg;subst hP hw hK;obtain⟨xs,hq,hx⟩:=hg;obtain⟨its,rv,p,hz⟩:=I.tuple hq;obtain⟨f0,f1,f2,f3,f4,f5⟩:=hf it (by simp);have hl:=rv.length;exact wpAny_pyNext_tuple_end (I.ok.hd hc) st (show s.heap.IsTuple a _ from p) (by simp_all) λh' eb=>⟨rfl,I.turned (λb o hb e=>eb b o hb e) f0 f1 f3 f4 f5⟩
 self:=λ_ _ _ _ _ st h=>wpAny_pyIter_tupleiter st h
theorem Ft{P:M5}(it:MZ)(lo:Int)(n:Nat):Turn P w K tg (xD lo n) [it] it (λi h=>IsRangeIter h it (lo+(i:Nat)*1) ((n:Int)-(i:Nat)) 1) where
 mem:=by simp
 obj:=λi h st b hb=>by simp_all
 keep:=λi h h' st k=>k _ (by simp) _ st
 item:=by intro X hP hw hK hc i pq s σ H E I hf st hg;subst hP hw hK;obtain⟨f0,f1,f2,f3,f4,f5⟩:=hf it (by simp);refine(Walks.range (prog:=X.prog) (w:=X.w) (I.ok.hd hc) it lo 1 n).item i s _ _ hg st λv h' tk hv st' kk=>?_;obtain⟨t,rfl⟩:=hv;have I1:Inv X _ _ H {s with heap:=h',toks:=tk}:=I.turned (λb o hb e=>kk b o (by simp_all) e) f0 f1 f3 f4 f5;refine⟨_,rfl,ju st' rfl rfl (rfl) ⟨.int _,H,I1,⟨t,?_⟩,⟨rfl,rfl⟩,st',λb hb=>(hf b hb).1⟩⟩;simp_all
 done:=by intro X hP hw hK hc i pq s σ H E I hf st hg;obtain⟨f0,f1,f2,f3,f4,f5⟩:=hf it (by simp);exact wpAny_pyNext_range_end (I.ok.hd hc) st (by have:n<=i:=hg;omega) λh' eb=>⟨rfl,I.turned (λb o hb e=>eb b o hb e) f0 f1 f3 f4 f5⟩
 self:=λ_ _ _ _ _ st h=>wpAny_pyIter_rangeiter st h
section
variable {X:Cx}
theorem xE{σ:St}{H:Hp}{R:It->Hp->Prop}{h:Int}{t u v:Tok}{tk:Nat}(I:Inv X pq σ H s)(h1: -(2^62)<=lo)(g:lo<2^62)(i: -(2^62)<=h)(j:h<2^62)
  (q:R (xD lo (h-lo).toNat) H):wpAny (model X.prog X.w) X.A (pyIter (.ref s.heap.objs.size)) (EL X pq σ tg R) E {s with heap:=s.heap.push {cls:=.type "range",data:=.fields #[.int lo t,.int h u,.int 1 v]},toks:=tk}:=by
 refine wpAny_pyIter_range (IsRange.new ..) (small_one h1 g i j) ?_;have c:Inv X _ _ H {s with heap:=s.heap.push {cls:=.type "range",data:=.fields #[.int lo t,.int h u,.int 1 v]},toks:=tk}:=I.kept λb o e=>Zc _ e
 refine⟨_,_,_,_,H,rfl,
  c.kept λb o e=>Zc _ e,Ft _ _ _,?_,λb k=>?_,q⟩
 ·have d:lo+(0:Nat)*1=lo:=by simp
  have f:(h-lo).toNat-(0:Nat)=Builtin.Range.rangeSize lo h 1:=by rw[rangeSize_one];grind
  rw[d,f];exact Zi _ rfl
 ·have e:b=(s.heap.push {cls:=.type "range",data:=.fields #[.int lo t,.int h u,.int 1 v]}).objs.size:=by simp_all
  subst e;exact c.fpOk (Zg _) (c.hok.fresh (Zg _))
noncomputable def xF(t:TA):TI:=λσ H R=>t σ H λvs H1=>∃j:Int,vs=[.int j]/\ -(2^62)<=j/\j<2^62/\R (xD 0 j.toNat) H1
noncomputable def xG(t:TA):TI:=λσ H R=>t σ H λvs H1=>∃i j:Int,vs=[.int i,.int j]/\(-(2^62)<=i/\i<2^62/\ -(2^62)<=j/\j<2^62)/\R (xD i (j-i).toNat) H1
theorem Fu{a:Expr}{T:TA}{p pos:Pos}(d:Gl X "range")(f:X.mg "range"=none)(c:PA X [a] T)(hs:starEach [a] X.env=[(MX,eval a X.env)]:=by rfl):PI X tg (.Call (.Name "range" p) [a] [] pos) (xF T):=by
 intro P s l H R I h;refine Call_ (eS I d f boot_range (Nf (aO (c _ _ s _ H _ I h) λu S ⟨_,_,b,i,Q⟩=>?_) hs rfl));obtain⟨j,e,Q,g,q⟩:=Q;subst e;cases i with
 |cons r k=>cases k;obtain⟨t,rfl⟩:=r;exact call_range_1 (xE b (by simp) (by simp) Q g (by simp_all))
theorem Fv{a b:Expr}{T:TA}{p pos:Pos}(k:Gl X "range")(l:X.mg "range"=none)(g:PA X [a,b] T)(hs:starEach [a,b] X.env=[(MX,eval a X.env),(MX,eval b X.env)]:=by rfl)(c:starEach [b] X.env=[(MX,eval b X.env)]:=by rfl):
  PI X tg (.Call (.Name "range" p) [a,b] [] pos) (xG T):=by
 intro P s x H R I h;refine Call_ (eS I k l boot_range (Nf (aO (g _ _ s _ H _ I h) λU S ⟨_,_,f,v,Q⟩=>?_) (by simp_all) (by rw[c];rfl)));obtain⟨i,j,e,⟨Q,m,n,o⟩,q⟩:=Q;subst e;cases v with
 |cons r d=>
  cases d with
  |cons u d=>cases d;obtain⟨t,rfl⟩:=r;obtain⟨w,rfl⟩:=u;exact call_range_2 (xE f Q m n o q)
noncomputable def Fw(w:TI)(g:TG)(tb:TS):TS:=λD σ H=>w σ H λJ H1=>∃W:Nat->Nat->St->Hp->Prop,(∃m,W 0 m σ H1)/\∀i m σ H,W i m σ H->
 (J.stop i H/\D.nx σ H)\/(J.go i H/\∃N:St->Hp->Prop,(∀σ' H',N σ' H'->∃M,M<m/\W (i+1) M σ' H')/\∀x H',J.yld i H x H'->g x σ H' λa H2=>tb {D with nx:=N,ct:=N,bk:=D.nx} a H2)
noncomputable def lE(f:La)(h:M8):Lp:=f.filterMap λb=>(h.get? b).map λo=>(b,o)
theorem lF{b:MZ}(H:b∈fp)(e:h.get? b=some o):(b,o)∈lE fp h:=ZW.mpr ⟨b,H,by simp_all⟩
theorem Fx{p:MZ×Obj}(H:p∈lE fp h):p.1∈fp/\h.get? p.1=some p.2:=by
 obtain⟨b,a,e⟩:=ZW.mp H;cases q:h.get? b with
 |none=>simp_all
 |some o=>
  grind
theorem Inv.pinned{σ:St}{H:Hp}(I:Inv X pq σ H s)(a:∀b∈fp,df X pq H b)(g:∀b∈fp,∃o,s.heap.get? b=some o/\∀v,o.data≠.cell v):Inv X (pq++lE fp s.heap) σ H s:=
 I.pins_of λp c=>(ZE.mp c).elim (λz=>I.pin p (Zt _ z)) λz=>by
  obtain⟨h,e⟩:=Fx z;obtain⟨f,F,d,_⟩:=a _ h
  grind
theorem Inv.unpinned{pl:Lp}{σ:St}{H:Hp}(I:Inv X (pq++pl) σ H s):Inv X pq σ H s:=I.pins_of λp h=>I.pin p (Zt _ (ZP _ h))
theorem rK{body:List OB}{wi:TI}{g:TG}{tb:TS}{pos:Pos}(y:PM (model X.prog X.w) X.A X.env X.xe)(Y:X.calm=MW)(hi:PI X tg iter wi)(hg:PG X tg g)(k:eh X body tb)
  (hs:∀x,foldedSetIterable iter X.env x=pure x:=by intro _;rfl):PS X (.For tg iter body [] pos) (Fw wi g tb):=by
 intro P s σ H D I h;refine wpAny_For (aO (hi P s σ H _ I h) λv s1 h1=>aO h1 λitv s2 h2=>?_) hs;obtain⟨it,F,tn,J,H2,e,I2,T,M,V,W,⟨m0,w0⟩,turn⟩:=h2;subst e;have S:∀{q:Hp},(∀b∈F,q b=none)->∀b∈F,df X P q b:=λhn b k=>⟨hn b k,(V b k).2⟩;refine codeAny_forLoop_any (λn Z=>∃i l q,Inv X P l q Z/\tn i Z.heap/\(∀b∈F,q b=none)/\W i n l q) ?_ m0 ⟨0,σ,H2,I2,M,λb k=>(V b k).1,w0⟩;rintro n s3 ⟨i,p,C,U,B,w,w3⟩;rcases turn i n p C w3 with⟨stop,qn⟩| ⟨go,N,hN,step⟩
 ·refine Om y (aO (T.done X rfl rfl rfl Y i P s3 p C X.xe U (S w) B stop) λr s4 ⟨K,I4⟩=>?_);subst K;exact P5 ⟨p,C,I4,qn⟩
 ·refine Om y (aO (T.item X rfl rfl rfl Y i P s3 p C X.xe U (S w) B go) λr s4 ⟨u,K,h4⟩=>?_);subst K;refine Om y (aO h4 λ_ s5 ⟨x,R,I5,r5,y5,t,G⟩=>?_);have E:=I5.pinned (S G) (T.obj _ _ t);refine Om y (aO (hg _ s5 p R x u _ E r5 (step x R y5)) λ_ s6 ⟨O,H6,I6,q6⟩=>?_);refine Om y (aO (k _ s6 O H6 _ I6 q6) λf L Q=>?_)
  have A:∀{a:St} {c:Hp},Inv X (P++lE F s5.heap) a c L->N a c->∃m,m<n/\∃i l q,Inv X P l q L/\tn i L.heap/\(∀b∈F,q b=none)/\W i m l q:=λ{a c} j z=>by obtain⟨m',hm,w7⟩:=hN a c z;refine⟨m',hm,i+1,a,c,j.unpinned,T.keep _ _ _ t λb k o e=>(j.pin (b,o) (Zt _ (Zt _ (lF k e)))).1,λb k=>?_,w7⟩;obtain⟨o,e,d⟩:=T.obj _ _ t b k;exact(j.pin (b,o) (Zt _ (Zt _ (lF k e)))).2.1
  cases f with
  |next=>obtain⟨a,c,j,z⟩:=Q;exact A j z
  |cont=>obtain⟨a,c,j,z⟩:=Q;exact A j z
  |brk=>obtain⟨a,c,j,Q⟩:=Q;exact⟨a,c,j.unpinned,Q⟩
  |ret v=>obtain⟨x7,a,c,j,r7,Q⟩:=Q;exact⟨x7,a,c,j.unpinned,r7,Q⟩
end
abbrev R2:=V->V->Hp->VK->Prop
def cu(X:Cx)(f:M0->M0->Sem M0)(r:R2):Prop:=
 ∀(pq:Lp) (s:MY) (σ:St) (H:Hp) (x y:V) (v u:M0) (Q:VK),Inv X pq σ H s->RelV x v->RelV y u->r x y H Q->
  wpAny (model X.prog X.w) X.A (f v u) (EP X pq σ Q) X.xe s
def Fy(X:Cx)(f:M0->Sem M0)(r:V->Hp->VK->Prop):Prop:=
 ∀(pq:Lp) (s:MY) (σ:St) (H:Hp) (x:V) (v:M0) (Q:VK),Inv X pq σ H s->RelV x v->r x H Q->
  wpAny (model X.prog X.w) X.A (f v) (EP X pq σ Q) X.xe s
def aS(X:Cx)(f:M0)(r:List V->Hp->VK->Prop):Prop:=
 ∀(pq:Lp) (s:MY) (σ:St) (H:Hp) (xs:List V) (us:Lv) (Q:VK),Inv X pq σ H s->Vals xs us->r xs H Q->
  wpAny (model X.prog X.w) X.A (call f us) (EP X pq σ Q) X.xe s
def Fz(X:Cx)(r:V->Hp->(Bool->Hp->Prop)->Prop):Prop:=
 ∀(pq:Lp) (s:MY) (σ:St) (H:Hp) (x:V) (v:M0) (Q:Bool->Hp->Prop),Inv X pq σ H s->RelV x v->r x H Q->
  wpAny (model X.prog X.w) X.A (truthy v) (TP X pq σ Q) X.xe s
noncomputable def EN(r:R2)(t tb:TE):TE:=λσ H Q=>t σ H λx H1=>tb σ H1 λy H2=>r x y H2 Q
noncomputable def MB(r:V->Hp->VK->Prop)(t:TE):TE:=λσ H Q=>t σ H λx H1=>r x H1 Q
noncomputable def rI(C:Int->Int->Prop)(g:Int->Int->V):R2:=λx y H Q=>∃i j,x=.int i/\y=.int j/\C i j/\Q (g i j) H
noncomputable def lG(g:Int->Int->V):R2:=λx y H Q=>∃i j,x=.int i/\y=.int j/\Q (g i j) H
def rU(g:Int->V):V->Hp->VK->Prop:=λx H Q=>∃i,x=.int i/\Q (g i) H
section
variable {X:Cx}{a b c:Expr}{ta tb tc:TE}{pos:Pos}
theorem rL(g:PE X a ta)(i:PE X b tb){σ:St}{H:Hp}{R:V->V->Hp->Prop}(I:Inv X pq σ H s)
  (h:ta σ H λx H1=>tb σ H1 λy H2=>R x y H2)  {f:M0->M0->Sem M0}
  (j:∀v u s2 x y H2,Inv X pq σ H2 s2->RelV x v->RelV y u->R x y H2->wpAny (model X.prog X.w) X.A (f v u) Q X.xe s2):
  wpAny (model X.prog X.w) X.A (eval a X.env) (λv S=>wpAny (model X.prog X.w) X.A (eval b X.env) (λu c=>wpAny (model X.prog X.w) X.A (f v u) Q X.xe c) X.xe S) X.xe s:=by
 exact aO (g _ s _ H _ I h) λv m ⟨x,_,d,r,q⟩=>aO (i _ _ _ _ _ d q) λu s2 ⟨y,_,e,l,k⟩=>j v u _ x y _ e r l k
theorem hV{o:QF}{r:R2}(f:cu X (binaryOp o) r)(d:PE X a ta)(e:PE X b tb):PE X (.BinOp a o b pos) (EN r ta tb):=by intro p s j H Q I h;exact wpAny_BinOp (rL d e I h λv u s2 x y i c R g q=>f _ _ _ _ x y v u Q c R g q)
theorem xH{o:UnaryOp}{r:V->Hp->VK->Prop}(d:Fy X (unaryOp o) r)(c:PE X a ta):PE X (.UnaryOp o a pos) (MB r ta):=by intro p s e H Q I h;exact UnaryOp_ (aO (c _ s _ H _ I h) λv S ⟨x,_,b,R,q⟩=>d _ _ _ _ x v Q b R q)
theorem rN{f:M0->M0->Sem M0}{C:Int->Int->Prop}{g:Int->Int->Int}
  (r:∀(i j:Int) (t u:Tok) (s:MY) (Q:Vs) (E:Vs),C i j->Q (.int (g i j) s.toks) {s with toks:=s.toks+1}->wpAny (model X.prog X.w) X.A (f (.int i t) (.int j u)) Q E s):
  cu X f (rI C λi j=>.int (g i j)):=by
 intro p s d H x y v u Q I R b h;obtain⟨i,j,rfl,rfl,a,q⟩:=h;obtain⟨t,rfl⟩:=R;obtain⟨c,rfl⟩:=b;exact r i j t _ s _ _ a ⟨.int _,H,I.tok _,⟨_,rfl⟩,q⟩
theorem lH{f:M0->M0->Sem M0}{g:Int->Int->Int}
  (r:∀(i j:Int) (t u:Tok) (s:MY) (Q:Vs) (E:Vs),Q (.int (g i j) s.toks) {s with toks:=s.toks+1}->wpAny (model X.prog X.w) X.A (f (.int i t) (.int j u)) Q E s):
  cu X f (lG λi j=>.int (g i j)):=by
 intro p s c H x y v u Q I R a h;obtain⟨i,j,rfl,rfl,q⟩:=h;obtain⟨t,rfl⟩:=R;obtain⟨b,rfl⟩:=a;exact r i j t _ s _ _ ⟨.int _,H,I.tok _,⟨_,rfl⟩,q⟩
theorem rO{f:M0->M0->Sem M0}{g:Int->Int->Bool}
  (r:∀(i j:Int) (t u:Tok) (s:MY) (Q:Vs) (E:Vs),Q (.bool (g i j)) s->wpAny (model X.prog X.w) X.A (f (.int i t) (.int j u)) Q E s):
  cu X f (lG λi j=>.bl (g i j)):=by
 intro p s b H x y v u Q I R a h;obtain⟨i,j,rfl,rfl,q⟩:=h;obtain⟨t,rfl⟩:=R;obtain⟨T,rfl⟩:=a;exact r i j t _ s _ _ ⟨.bl _,H,I,rfl,q⟩
def FA(i j:Int):Prop:=0<j/\j<1073741824
def FC(i j:Int):Prop:=0<=j/\j<=1000000/\i.natAbs<2^64
noncomputable def rP(i j:Int):Prop:=(-(2^64)<i/\i<2^64)\/(-(2^64)<j/\j<2^64)
theorem rP.ok{i j:Int}(h:rP i j):IntMulOk i j:=by
 rcases h with⟨H,a⟩| ⟨H,a⟩
 ·exact .of_left (intBits_le_64 H a)
 ·exact .of_right (intBits_le_64 H a)
theorem rQ:cu X (binaryOp .Add) (lG λi j=>.int (i+j)):=lH λ_ _ _ _ _ _ _ q=>add_int q
theorem rR:cu X (binaryOp .Sub) (lG λi j=>.int (i-j)):=lH λ_ _ _ _ _ _ _ q=>sub_int q
theorem rS:cu X (binaryOp .Mult) (rI rP λi j=>.int (i*j)):=rN λ_ _ _ _ _ _ _ h q=>mul_int q h.ok
theorem lI:cu X (binaryOp .FloorDiv) (rI FA λi j=>.int (i/j)):=rN λi j _ _ _ _ _ h q=>by have H:=h.1;have a:=h.2;exact floordiv_int (by omega) (by grind) (.inl (PyProof.noPylong_small (by omega)))
theorem rT:cu X (binaryOp .Mod) (rI (λ_ j=>0<j) λi j=>.int (i%j)):=rN λi j _ _ _ _ _ h q=>by exact mod_int' (by lia) (by grind)
theorem rV:cu X (binaryOp .Pow) (rI FC λi j=>.int (i^j.toNat)):=rN λ_ _ _ _ _ _ _ h q=>pow_int_small h.1 h.2.1 h.2.2 q
theorem rW:cu X (binaryOp .RShift) (rI (λ_ j=>0<=j) λi j=>.int (i/2^j.toNat)):=rN λi j _ _ _ _ _ h q=>
 rshift_int h (by grind)
theorem rX:cu X (binaryOp .BitAnd) (lG λi j=>.int (Qx i j)):=lH λ_ _ _ _ _ _ _ q=>and_int q
theorem xI:cu X (binaryOp .BitOr) (lG λi j=>.int (R9 i j)):=lH λ_ _ _ _ _ _ _ q=>or_int q
theorem MC{f:M0->Sem M0}{g:Int->Int}
  (r:∀(i:Int) (t:Tok) (s:MY) (Q:Vs) (E:Vs),Q (.int (g i) s.toks) {s with toks:=s.toks+1}->wpAny (model X.prog X.w) X.A (f (.int i t)) Q E s):
  Fy X f (rU λi=>.int (g i)):=by
 intro p s a H x v Q I R h;obtain⟨i,rfl,q⟩:=h;obtain⟨t,rfl⟩:=R;exact r i t s _ _ ⟨.int _,H,I.tok _,⟨_,rfl⟩,q⟩
theorem rY:Fy X (unaryOp .USub) (rU λi=>.int (-i)):=MC λ_ _ _ _ _ q=>neg_int q
end
noncomputable def FD:V->V->Bool
 | .non,.non=>MW| .non,.int _=>MW| .int _,.non=>MW| .non,.bl _=>MW| .bl _,.non=>MW| .non,.str _=>MW| .str _,.non=>MW
 | .int _,.int _=>MW| .bl _,.bl _=>MW| .str _,.str _=>MW| .byt _,.byt _=>MW
 | .int _,.str _=>MW| .str _,.int _=>MW| .bl _,.str _=>MW| .str _,.bl _=>MW
 |_,_=>MX
noncomputable def MD:R2:=λx y H Q=>FD x y=MW/\Q (.bl (!decide (x=y))) H
theorem lJ{i j:Int}:decide (V.int i=V.int j)=(i==j):=by rw[NJ];simp
theorem rZ{i j:Bool}:decide (V.bl i=V.bl j)=(i==j):=by rw[NJ];simp
theorem lK{i j:Str}:decide (V.str i=V.str j)=(i==j):=by rw[NJ];simp
theorem lL{i j:Array UInt8}:decide (V.byt i=V.byt j)=(i.toList==j.toList):=by rw[NJ];cases i;cases j;simp
section
variable {X:Cx}{a b c:Expr}{ta tb tc:TE}{pos:Pos}
theorem cB{σ:St}{H:Hp}{Q:VK}{k K:Bool}(I:Inv X pq σ H s)(q:Q (.bl k) H)(e:k=K):EP X pq σ Q (.bool K) s:=by subst e;exact⟨.bl k,H,I,rfl,q⟩
theorem xJ:cu X (compareOp .NotEq) MD:=by
 intro p s b H x y v u Q I R r h;obtain⟨a,q⟩:=h;cases x with
 |non=>
  cases R;cases y with
  |non=>cases r;exact PySem.EqNone.ne_none_none (cB I q (by simp))
  |bl j=>cases r;exact PySem.EqNone.ne_none_bool (cB I q (by simp))
  |int j=>obtain⟨T,rfl⟩:=r;exact PySem.EqNone.ne_none_int (cB I q (by simp))
  |str j=>obtain⟨T,rfl⟩:=r;exact PySem.EqNone.ne_none_str (cB I q (by simp))
  |_=>exact absurd (show MX=MW from a) NA
 |bl i=>
  cases R;cases y with
  |non=>cases r;exact PySem.EqNone.ne_bool_none (cB I q (by simp))
  |bl j=>cases r;exact ne_bool (cB I q (ZU not rZ))
  |str j=>obtain⟨T,rfl⟩:=r;exact PySem.EqMixed.ne_bool_str (cB I q (by simp))
  |_=>exact absurd (show MX=MW from a) NA
 |int i=>
  obtain⟨t,rfl⟩:=R;cases y with
  |non=>cases r;exact PySem.EqNone.ne_int_none (cB I q (by simp))
  |int j=>obtain⟨T,rfl⟩:=r;exact ne_int (cB I q (ZU not lJ))
  |str j=>obtain⟨T,rfl⟩:=r;exact PySem.EqMixed.ne_int_str (cB I q (by simp))
  |_=>exact absurd (show MX=MW from a) NA
 |str i=>
  obtain⟨t,rfl⟩:=R;cases y with
  |non=>cases r;exact PySem.EqNone.ne_str_none (cB I q (by simp))
  |bl j=>cases r;exact PySem.EqMixed.ne_str_bool (cB I q (by simp))
  |int j=>obtain⟨T,rfl⟩:=r;exact PySem.EqMixed.ne_str_int (cB I q (by simp))
  |str j=>obtain⟨T,rfl⟩:=r;exact ne_str (cB I q (ZU not lK))
  |_=>exact absurd (show MX=MW from a) NA
 |byt i=>
  obtain⟨t,rfl⟩:=R;cases y with
  |byt j=>obtain⟨T,rfl⟩:=r;exact PySem.W.ne_bytes (cB I q (ZU not lL))
  |_=>exact absurd (show MX=MW from a) NA
 |_=>cases y<;>exact absurd (show MX=MW from a) NA
theorem xK:cu X (compareOp .LtE) (lG λi j=>.bl (decide (i<=j))):=rO λ_ _ _ _ _ _ _ q=>le_int q
theorem xL:cu X (compareOp .Gt) (lG λi j=>.bl (decide (j<i))):=rO λ_ _ _ _ _ _ _ q=>gt_int q
theorem xM:cu X (compareOp .GtE) (lG λi j=>.bl (decide (j<=i))):=rO λ_ _ _ _ _ _ _ q=>ge_int q
theorem r8:cu X (compareOp .Is) (λx y H Q=>y=.non/\Q (.bl (decide (x=.non))) H):=by
 intro p s a H x y v u Q I r R h;obtain⟨rfl,q⟩:=h;subst R;refine is_none_gen (cB I q ?_)
 cases x<;>first
  |lia
  | (obtain⟨t,rfl⟩:=r;rfl)
theorem lM:cu X (compareOp .IsNot) (λx y H Q=>y=.non/\Q (.bl (!decide (x=.non))) H):=by
 intro p s a H x y v u Q I r R h;obtain⟨rfl,q⟩:=h;subst R;refine isnot_none_gen (cB I q ?_)
 cases x<;>first
  |lia
  | (obtain⟨t,rfl⟩:=r;rfl)
theorem lN{o:O5}{r:R2}(g:cu X (compareOp o) r)(d:PE X a ta)(e:PE X b tb)(f:behindInMarks o b=MX):PE X (.Compare a [o] [b] pos) (EN r ta tb):=by intro p s k H Q I h;exact wpAny_Compare1 (rL d e I h λv u s2 x y j c R i q=>g _ _ _ _ x y v u Q c R i q) f
noncomputable def qu(t:TE):TT:=λσ H Q=>t σ H λx H'=>∃k,x=.bl k/\Q k H'
theorem xN{o:O5}{r:R2}(m:cu X (compareOp o) r)(i:PE X a ta)(j:PE X b tb)(l:behindInMarks o b=MX):PT X (.Compare a [o] [b] pos) (qu (EN r ta tb)):=by
 intro P s A H Q I h
 refine wpAny_isTrue_Compare1 (aO (i _ s _ H _ I h) λv S ⟨x,_,d,R,q⟩=>aO (j _ _ _ _ _ d q) λu s2 ⟨y,_,f,t,n⟩=>
  aO (m _ _ _ _ x y v u _ f R t n) λc s3 ⟨z,_,g,w,k,e,p⟩=>?_) l
 subst e;subst w;exact ZO ⟨_,g,p⟩
noncomputable def jv(r R:R2)(t tb T:TE):TE:=λσ H Q=>t σ H λx H1=>tb σ H1 λy H2=>r x y H2 λz a=>∃k,z=.bl k/\
 (if k=MW then T σ a λw b=>R y w b Q else Q (.bl MX) a)
theorem FE{o:O5}{r R:R2}(A:cu X (compareOp o) r)(f:cu X (compareOp op') R)(n:PE X a ta)(p:PE X b tb)(t:PE X c tc)
  (w:lastMarks [o,op'] [b,c]=MX:=by with_unfolding_all rfl):PE X (.Compare a [o,op'] [b,c] pos) (jv r R ta tb tc):=by
 intro P s K H Q I h
 refine Compare_chain (aO (n _ s _ H _ I h) λv S ⟨x,_,j,E,B⟩=>chain_link (aO (p _ _ _ _ _ j B) λu s2 ⟨y,_,l,i,C⟩=>
  aO (A _ _ _ _ x y v u _ l E i C) λd s3 ⟨z,_,g,F,k,e,q⟩=>?_)) w
 subst e;subst F;refine ZO ?_;cases k with
 |false=>exact ite_ff ⟨.bl _,_,g,rfl,q⟩
 |true=>exact ite_tt (chain_last (aO (t _ _ _ _ _ g q) λW J ⟨_,_,m,G,D⟩=>f _ _ _ _ y _ u _ Q m i G D))
theorem FF{o:O5}{r R:R2}(C:cu X (compareOp o) r)(f:cu X (compareOp op') R)(t:PE X a ta)(w:PE X b tb)(A:PE X c tc)
  (B:lastMarks [o,op'] [b,c]=MX:=by with_unfolding_all rfl):PT X (.Compare a [o,op'] [b,c] pos) (qu (jv r R ta tb tc)):=by
 intro T s Z H Q I h
 refine isTrue_chain (aO (t _ s _ H _ I h) λv U ⟨x,_,j,L,F⟩=>test_link (aO (w _ _ _ _ _ j F) λu s2 ⟨y,_,l,i,G⟩=>
  aO (C _ _ _ _ x y v u _ l L i G) λd s3 ⟨z,_,g,M,k,e,q⟩=>?_)) B
 subst e;subst M;refine ZO ?_;cases k with
 |false=>obtain⟨S,E,D⟩:=q;cases E;exact ite_ff ⟨_,g,D⟩
 |true=>refine ite_tt (test_last (aO (A _ _ _ _ _ g q) λY V ⟨_,_,m,N,J⟩=>aO (f _ _ _ _ y _ u _ _ m i N J) λP W ⟨_,_,n,O,_,p,K⟩=>?_));subst p;subst O;exact ZO ⟨_,n,K⟩
def il(K:Fg)(x:V)(H:Hp)(k:Bool):Prop:=
 match x with
 | .non=>k=MX
 | .bl b=>k=b
 | .int i=>k=(i !=0)
 | .str y=>y.length<=sizeLine/\k=((y.length:Int) !=0)
 | .byt y=>y.size<=sizeLine/\k=((y.size:Int) !=0)
 | .ref p=>(∃xs,cQ K H p xs/\k= !xs.isEmpty)\/(∃xs,bX K H p xs/\k= !xs.isEmpty)\/∃a,H p=some (.dK a)/\k= !a.isEmpty
 |_=>False
theorem FG{a:Type}{k:List (a×V)}{vs:List (a×M0)}(r:KV k vs):(!vs.isEmpty)= !k.isEmpty:=by cases r<;>rfl
theorem xO{xs:List V}(r:Vals xs its):(!its.toArray.isEmpty)= !xs.isEmpty:=by cases r<;>simp
theorem im:(sizeLine:Nat)<2^63:=by decide
theorem jw:Fz X (λx H Q=>∃k,il X.K x H k/\Q k H):=by
 intro u s w H x v Q I R h;obtain⟨k,e,q⟩:=h;have n:=im;have o:sizeLine=16777216:=Oh;cases x with
 |non=>cases R;subst(e);exact truthy_none ⟨H,I,q⟩
 |bl b=>cases R;have E:k=b:=e;subst E;exact ZO ⟨H,I,q⟩
 |int i=>obtain⟨t,rfl⟩:=R;subst(e);exact PySem.P.truthy_int ⟨H,I,q⟩
 |str y=>obtain⟨t,rfl⟩:=R;obtain⟨l,E⟩:y.length<=sizeLine/\k=((y.length:Int) !=0):=e;subst E;exact PySem.P.truthy_str (by omega) ⟨H,I.tok _,q⟩
 |byt y=>obtain⟨t,rfl⟩:=R;obtain⟨l,E⟩:y.size<=sizeLine/\k=((y.size:Int) !=0):=e;subst E;exact PySem.W.truthy_bytes (by omega) ⟨H,I.tok _,q⟩
 |ref p=>
  cases R;have E:(∃c,cQ X.K H p c/\k= !c.isEmpty)\/(∃c,bX X.K H p c/\k= !c.isEmpty)\/∃K,H p=some (.dK K)/\k= !K.isEmpty:=e;rcases E with⟨c,d,E⟩| ⟨c,d,E⟩| ⟨K,d,E⟩
  ·subst E;obtain⟨f,r,P,g⟩:=I.list d;have a:=r.length;exact wpAny_truthy_list P.isList (by grind) ⟨H,I.tok _,by rw[xO r];exact q⟩
  ·subst E;obtain⟨f,r,P,g⟩:=I.tuple d;have a:=r.length;exact truthy_tuple P (by grind) ⟨H,I.tok _,by rw[xO r];exact q⟩
  ·subst E;obtain⟨g,j,vs,r,m⟩:K.length<=sizeLine/\(p==sysModules)=MX/\∃vs,KV K vs/\s.heap.DictOf (rf X.prog X.w) p vs:=I.hok p _ d;have a:K.length=vs.length:=Paired.length r;exact wpAny_truthy_dict j m (by omega) ⟨H,I.tok _,by rw[FG r];exact q⟩
 |_=>exact(show False from e).elim
theorem FH(c:PE X a ta)(d:∀w,isTrue a X.env w=(do let v <-w;standAt a.pos;holding [v] (truthy v))):
  PT X a (λσ H Q=>ta σ H λx H'=>∃k,il X.K x H' k/\Q k H'):=by
 intro p s σ H Q I h;exact isTrue_plain (aO (c _ s _ H _ I h) λv S ⟨x,_,b,r,q⟩=>jw _ _ _ _ x v Q b r q) (d _)
theorem FI:cu X (binaryOp .Add) (λx y H Q=>∃i j,x=.str i/\y=.str j/\i.length+j.length<=sizeLine/\Q (.str (i++j)) H):=by intro p s c H x y v u Q I r R h;obtain⟨i,j,rfl,rfl,a,q⟩:=h;obtain⟨t,rfl⟩:=r;obtain⟨T,rfl⟩:=R;exact add_str (λT b=>⟨.str _,H,I.tok _,⟨_,rfl⟩,q⟩) a
theorem vals1{x:V}(r:Vals [x] us):∃u,us=[u]/\RelV x u:=by
 cases r with
 |cons a R=>cases R;simp_all
theorem vals2{x y:V}(r:Vals [x,y] us):∃u w,us=[u,w]/\RelV x u/\RelV y w:=by
 cases r with
 |cons b R=>
  cases R with
  |cons c a=>cases a;lia
theorem FJ(b:X.calm=MW):aS X (.builtin "max") (λxs H Q=>∃i j,xs=[.int i,.int j]/\Q (.int (if j>i then j else i)) H):=by
 intro p s e H xs U Q I r h;obtain⟨i,j,rfl,q⟩:=h;obtain⟨u,w,rfl,⟨t,rfl⟩,⟨T,rfl⟩⟩:=vals2 r;refine max_two_ints (I.ok.hd b) λc d k=>⟨_,H,I.kept k,?_,q⟩;by_cases a:j>i
 ·rw[if_pos a,if_pos a];exact⟨_,rfl⟩
 ·rw[if_neg a,if_neg a];exact⟨_,rfl⟩
theorem FK(b:X.calm=MW):aS X (.builtin "min") (λxs H Q=>∃i j,xs=[.int i,.int j]/\Q (.int (if j<i then j else i)) H):=by
 intro p s e H xs U Q I r h;obtain⟨i,j,rfl,q⟩:=h;obtain⟨u,w,rfl,⟨t,rfl⟩,⟨T,rfl⟩⟩:=vals2 r;refine min_two_ints (I.ok.hd b) λc d k=>⟨_,H,I.kept k,?_,q⟩;by_cases a:j<i
 ·rw[if_pos a,if_pos a];exact⟨_,rfl⟩
 ·rw[if_neg a,if_neg a];exact⟨_,rfl⟩
theorem xP:aS X (.type "int") (λxs H Q=>(∃i,xs=[.int i]/\Q (.int i) H)\/∃k,xs=[.bl k]/\Q (.int (if k then 1 else 0)) H):=by
 intro p s a H xs U Q I r h;rcases h with⟨i,rfl,q⟩| ⟨k,rfl,q⟩
 ·obtain⟨u,rfl,t,rfl⟩:=vals1 r;exact call_int_int ⟨.int i,H,I,⟨_,rfl⟩,q⟩
 ·obtain⟨u,rfl,R⟩:=vals1 r;subst R;exact call_int_bool ⟨.int _,H,I.tok _,⟨_,rfl⟩,q⟩
end
section
variable {x:MZ}{mA:Mg}{v:M0}
end
section
variable {P:M5}{H H':Hp}{fs fs':List (Str×V)}
end
section
variable {X:Cx}{σ:St}{H:Hp}{fs:List (Str×V)}{f:Str}{v:V}
end
section
variable {X:Cx}{o value:Expr}{f:Str}{pos tpos:Pos}{ta tv:TE}
end
section
variable {X:Cx}{σ:St}{H:Hp}{c:M0}{b:Bool}
end
structure cC (k:Nat)(A:NM):Prop where
 hd:A.handled=none
 dp:A.depth+3*k+5<recursionLimit
 un:A.units+16*k+200<cLine
 gd:A.guards=some []
theorem cC.mono{j:Nat}(r:cC k A)(h:j<=k):cC j A:=⟨r.hd,by have:=r.dp;lia,by have:=r.un;lia,r.gd⟩
theorem cC.deeper(r:cC (k+1) A)(env:Env):cC k (A.deeper env):=
 ⟨r.hd,by have:=r.dp;show A.depth+1+3*k+5<_;lia,by have:=r.un;show A.units+3+16*k+200<_;lia,r.gd⟩
theorem cC.depth(r:cC k A):A.depth<recursionLimit:=by have:=r.dp;lia
theorem cC.units(r:cC k A):A.units+64<cLine:=by have:=r.un;lia
noncomputable def lO:TA:=λ_ H Q=>Q [] H
noncomputable def hW(t:TE)(T:TA):TA:=λσ H Q=>t σ H λx H1=>T σ H1 λxs H2=>Q (x::xs) H2
section
variable {X:Cx}{es:Lx}{te:TE}{t:TA}{pos:Pos}
theorem el:PA X [] lO:=λ_ _ _ _ H Q I h=>Pg ⟨_,H,I,.nil,h⟩
theorem dg(c:PE X e te)(d:PA X es t)(hs:starEach (e::es) X.env=(MX,eval e X.env)::starEach es X.env:=by rfl):PA X (e::es) (hW te t):=by intro pos p s g H Q I h;rw[hs];show wpAny _ _ (spliced ((MX,eval e _)::backTo _ _)) _ _ s;exact P' (aO (c _ s _ H _ I h) λu S ⟨x,_,a,r,q⟩=>aO (d _ _ _ _ _ _ a q) λU s2 ⟨_,_,b,R,f⟩=>⟨_,_,b,.cons r R,f⟩)
noncomputable def FL(t:TA):TE:=λσ H Q=>t σ H λxs H1=>xs.length<=sizeLine/\∀p,H1 p=none->Q (.ref p) (aZ H1 p (.tup xs))
noncomputable def FN(t:TA):TE:=λσ H Q=>t σ H λxs H1=>xs.length<=sizeLine/\∀p,H1 p=none->Q (.ref p) (aZ H1 p (.lst xs))
theorem r9{x1}(h:PA X es t):PE X (.Tuple es x1 pos) (FL t):=by intro p s f H Q I d;refine wpAny_Tuple_spliced (aO (h _ _ s _ H _ I d) λU S ⟨_,_,a,r,z,q⟩=>⟨by rw[<-r.length];exact z,?_⟩);have c:=a.hok.fresh (Zg _);refine⟨.ref _,_,a.laid (λb u e=>Zc _ e) (Zg _) ?_,rfl,q _ c⟩;exact⟨z,_,r,⟨_,Zi _ rfl,rfl,_,rfl⟩,_,Zi _ rfl,rfl⟩
theorem gQ(h:PA X es t):PE X (.List es pos) (FN t):=by intro p s f H Q I d;refine wpAny_List_spliced (aO (h _ _ s _ H _ I d) λU S ⟨_,_,a,r,z,q⟩=>⟨by rw[<-r.length];exact z,?_⟩);have c:=a.hok.fresh (Zg _);refine⟨.ref _,_,a.laid (λb u e=>Zc _ e) (Zg _) ?_,rfl,q _ c⟩;exact⟨z,_,0,r,Zi _ rfl⟩
end
abbrev Sp:=List V->Hp->VK->XK->Prop
abbrev dh:=List Env->Hp->MY->XK->Vs
structure lP (P:M5)(w:Nc)(K:Fg)(mg:Mg)(base:M8)(A:NM)(outer:List Env)(s:MY)(H:Hp):Prop where
 frames:A.frames=some outer
 mod:Mod K mg base
 bs:∀b o,base.get? b=some o->s.heap.get? b=some o/\H b=none
 bsz:base.objs.size<=s.heap.objs.size
 funs:s.heap.FunFrames base outer
 frf:∀b∈bU outer,H b=none
 hok:dU P w H s.heap
 bare:Pu s.gens
def CE(o:List Env)(P:M5)(w:Nc)(H:Hp)(s:MY)(Q:VK)(u:M0)(S:MY):Prop:=
 ∃v H',S.os=s.os/\Pu S.gens/\Un (bU o) [] H H' s.heap S.heap/\dU P w H' S.heap/\RelV v u/\Q v H'
def CR(CX:dh)(o:List Env)(P:M5)(w:Nc)(H:Hp)(s:MY)(Q:VK)(E:XK)(r:Qf)(S:MY):Prop:=
 match r with
 | .ok (.ret u)=>CE o P w H s Q u S
 | .ok _=>False
 | .error e=>CX o H s E e S
structure cR (P:M5)(w:Nc)(K:Fg)(mg:Mg)(base:M8)(CX:dh)(k:Nat)(f:MZ)(fd:NZ)(ps:Ls)(sp:Sp):Prop where
 len:∀vs H Q E,sp vs H Q E->vs.length=ps.length
 run:∀(A:NM) (outer:List Env) (s:MY) (H:Hp) (args:Args) (us:Lv) (vs:List V) (Q:VK) (E:XK),cC k A->lP P w K mg base A outer s H->Q7 s fd args (ps.zip us)->Vals vs us->sp vs H Q E->
  codeAny (model P w) A (.call (.ref f) args) (CR CX outer P w H s Q E) s
theorem cR.mono{P:M5}{CX:dh}{j:Nat}{b:NZ}{ps:Ls}{sp:Sp}(F:cR P w K mg base CX j f b ps sp)(h:j<=k):
  cR P w K mg base CX k f b ps sp:=⟨F.len,λA o s H a u vs Q E c=>F.run A _ s H _ _ _ Q E (c.mono h)⟩
theorem cR.imp{P:M5}{CX:dh}{b:NZ}{ps:Ls}{sp S:Sp}(F:cR P w K mg base CX k f b ps sp)
  (h:∀vs H Q E,S vs H Q E->sp vs H Q E):cR P w K mg base CX k f b ps S:=
 ⟨λvs H Q E q=>F.len _ H Q E (h _ _ _ _ q),λA o s H a u vs Q E e d c i g=>F.run A _ s H _ _ _ Q E e d c i (h _ _ _ _ g)⟩
section
variable {X:Cx}{σ:St}{H:Hp}
theorem Inv.env0(I:Inv X pq σ H s):lP X.prog X.w X.K X.mg X.base X.A X.stack s H:=
 ⟨I.ok.frames,I.ok.mod,I.bs,Zy I.ok.bsz I.sz,I.stack,I.stkFree,I.hok,I.bare⟩
theorem Inv.after{Q:VK}(I:Inv X pq σ H s)(h:CE X.stack X.prog X.w H s Q u s'):EP X pq σ Q u s':=by obtain⟨v,c,O,B,un,a,r,q⟩:=h;obtain⟨e,g,d,t,o⟩:=s';obtain rfl:o=s.os:=O;exact⟨v,_,I.call un a B λb z=>absurd z (by nofun),r,q⟩
end
noncomputable def xQ(sp:Sp)(d:List V)(E:XK)(t:TA):TE:=λσ H Q=>t σ H λvs H1=>sp (vs++d) H1 Q E
def Binds(K:Fg)(f:NZ)(ps:Ls)(ds:Lv):Prop:=
 ∀(s:MY) (us:Lv),K.In s.heap->(us++ds).length=ps.length->Q7 s f ⟨us,[]⟩ (ps.zip (us++ds))
theorem Binds.all{f:NZ}{ps:Ls}(h:∀us:Lv,us.length=ps.length->bindArgs f ⟨us,[]⟩=pure (ps.zip us)):Binds K f ps []:=λs us _ H=>by rw[ZY]at H⊢;exact .of_eq (h _ H)
def jx(CX:dh)(X:Cx)(E:XK):Prop:=∀(pq:Lp) (σ:St) (H:Hp) (s:MY) (e:M0) (s':MY),Inv X pq σ H s->CX X.stack H s E e s'->X.xe e s'
section
variable {X:Cx}{CX:dh}{fd:NZ}{ps:Ls}{sp:Sp}{dvs:List V}{ds:Lv}{E:XK}{x m:Str}{p pos:Pos}{o:Expr}{es:Lx}{ta:TE}{t:TA}
theorem jy{σ:St}{H:Hp}{Q:VK}{vs:List V}(F:cR X.prog X.w X.K X.mg X.base CX k f fd ps sp)(g:cC k X.A)(c:Binds X.K fd ps ds)(d:Vals dvs ds)(i:jx CX X E)
  (I:Inv X pq σ H s) (r:Vals vs us) (h:sp (vs++dvs) H Q E):wpAny (model X.prog X.w) X.A (call (.ref f) us) (EP X pq σ Q) X.xe s:=by
 have R:=r.append d;refine Qy (Oi (F.run _ _ s H _ _ _ Q E g I.env0 (c s _ I.kIn (by rw[<-R.length];exact F.len _ _ _ _ h)) R h) λr S a=>?_);cases r with
 |error e=>exact i _ _ H s e _ I a
 |ok b=>
  cases b with
  |ret u=>exact I.after a
  |next=>exact False.elim a
  |brk=>exact False.elim a
  |cont=>exact False.elim a
theorem lQ(F:cR X.prog X.w X.K X.mg X.base CX k f fd ps sp)(o:cC k X.A)(l:Gl X x)(n:X.mg x=some (.ref f))(m:PySem.W.keepIn X.K (.ref f)=MW)(g:Binds X.K fd ps ds)(i:Vals dvs ds)(u:jx CX X E)
  (d:PA X (e::es) t) (a:(x==("__debug__":Str))=MX:=by decide) (j:starEach (e::es) X.env=(MX,eval e X.env)::starEach es X.env:=by rfl) (b:(backTo pos (starEach es X.env)).any (·.1)=MX:=by rfl):
  PE X (.Call (.Name x p) (e::es) [] pos) (xQ sp dvs E t):=by
 intro P s v H Q I h;exact NF (jo I l n (PySem.W.callWith_K I.ok.mod.kin m (aO (d _ _ s _ H _ I h) λU S ⟨_,_,c,r,q⟩=>⟨c.kIn,jy F o g i u c r q⟩) j b) a)
end
section
variable {X:Cx}{CX:dh}{fd:NZ}{ps ks:Ls}{sp:Sp}{E:XK}{x m:Str}{p pos kpos:Pos}{o:Expr}{es:Lx}{uD:List QG}{te ta:TE}{t tk:TA}{nm:Option Str}
variable {g:Lv->Lv->Lv}{gV:List V->List V->List V}
end
structure b6 (N P:Ls)(sc:Scope):Prop where
 kind:sc.kind=.function
 co:sc.isCoroutine=MX
 gen:sc.isGenerator=MX
 nd:N.Nodup
 pre:N.take P.length=P
 par:∀x∈P,sc.names.lookup x=some .local\/sc.names.lookup x=some .cell
 nofree:∀y∈sc.names,y.2≠.free
theorem xR{kindOf:Str->Option NR}{x:Str}:∀{binds:List (Str×M0)} {m:Mg},(∀v,(x,v)∉binds)->bindL kindOf binds m x=m x
 | [],_,_=>rfl
 | (n,v)::r,m,h=>by
  dsimp only[bindL];rw[xR λw hw=>h w (Zb _ hw)];split
  ·grind
  ·rfl
theorem xS{kindOf:Str->Option NR}{x:Str}:∀{binds:List (Str×M0)} {m:Mg},(∀v,(x,v)∉binds)->bindC kindOf binds m x=m x
 | [],_,_=>rfl
 | (n,v)::r,m,h=>by
  unfold bindC;rw[xS λw hw=>h w (Zb _ hw)];split
  ·rfl
  grind
theorem xT{kindOf:Str->Option NR}{x:Str}{v:M0}:∀{P:Ls} {vs:Lv} {i:Nat} {m:Mg},P.Nodup->P[i]?=some x->vs[i]?=some v->kindOf x=some .local->
  bindL kindOf (P.zip vs) m x=some v
 | [],_,_,_,_,h,_,_=>by trivial
 |_::_,[],_,_,_,_,h,_=>by trivial
 |p::P,w::vs,0,m,n,H,a,b=>by simp at H a;subst H;subst a;show bindL _ ((p,w)::P.zip _) m p=_;dsimp only[bindL];rw[xR λv c=>(NK.mp n).1 (OX c).1,if_pos b];simp
 |p::P,w::vs,i+1,m,n,H,a,b=>by unfold bindL;exact xT (NK.mp n).2 (by exact H) (by trivial) b
theorem xU{kindOf:Str->Option NR}{x:Str}{v:M0}:∀{P:Ls} {vs:Lv} {i:Nat} {m:Mg},P.Nodup->P[i]?=some x->vs[i]?=some v->kindOf x≠some .local->
  bindC kindOf (P.zip vs) m x=some v
 | [],_,_,_,_,h,_,_=>by simp_all
 |_::_,[],_,_,_,_,h,_=>by simp_all
 |p::P,w::vs,0,m,n,H,a,b=>by simp at H a;subst H;subst a;show bindC _ ((p,w)::P.zip _) m p=_;unfold bindC;rw[xS λv c=>(NK.mp n).1 (OX c).1,if_neg b];simp
 |p::P,w::vs,i+1,m,n,H,a,b=>by unfold bindC;exact xU (NK.mp n).2 (by simpa using H) (by simp_all) b
noncomputable def start(N:Ls)(vs:List V):St:=vs.map some++M3 (N.length-vs.length) none
noncomputable def fC(CX:dh)(P:M5)(w:Nc)(K:Fg)(mg:Mg)(base:M8)(N:Ls)(qual:Str)(scope:Scope)(f:MZ)(cd:M0)(A:NM)(outer:List Env)(s:MY)(H:Hp)(E:XK):Cx where
 prog:=P
 w:=w
 K:=K
 mg:=mg
 base:=base
 A:=A.deeper (envOfC qual scope s.heap.objs.size f cd)
 N:=N
 s₀:=s
 H₀:=H
 env:=envOfC qual scope s.heap.objs.size f cd
 outer:=outer
 stack:=envOfC qual scope s.heap.objs.size f cd::outer
 ex:=[]
 calm:=MW
 fn:=λ_=>MW
 pn:=[]
 xe:=λe s'=>wpAny (model P w) (A.deeper (envOfC qual scope s.heap.objs.size f cd)) (leaving (envOfC qual scope s.heap.objs.size f cd) e) (λ_ s''=>CX outer H s E e s'') (λe' s''=>CX outer H s E e' s'') s'
theorem xV{s:Scope}{x:Str}(h:s.names.lookup x=some .cell):∃c,(cellsFrom n s.names []).lookup x=some c:=by exact N3.mp (PySem.W.cellsFrom_some _ n [] (.inl h))
theorem xW{CX:dh}{P:M5}{ps:Ls}{t:MY}{H:Hp}{E:XK}{vs:List V}
  (S:b6 N ps scope) (C:A.handled=none) (e0:lP P w K mg base A outer s H) (I:vs.length=ps.length) (r:Vals vs us)
  (x:InCallC s s.heap.objs.size (bindL (envOfC qual scope s.heap.objs.size f cd).kindOf (ps.zip us) λ_=>none) (cellsFrom (s.heap.objs.size+1) scope.names []) (bindC (envOfC qual scope s.heap.objs.size f cd).kindOf (ps.zip us) λ_=>none) t):
  Inv (fC CX P w K mg base N qual scope f cd A outer s H E) [] (start N vs) H t:=by
 have D:ps.length<=N.length:=by have:=ZU N4 S.pre;rw[OR]at this;omega
 obtain⟨j,T,rfl,m⟩:=x.done;have n:∀b:MZ,b∉(fC CX P w K mg base N qual scope f cd A outer s H E).ex:=λb z=>absurd (show b∈[]from z) (by simp)
 refine⟨⟨e0.mod,S.kind,rfl,rfl,Zg _,λy z c j l=>?_,λy d=>?_,λy c _ h=>?_,λ_=>C,Around.frames_deeper e0.frames,.inr ⟨rfl,rfl⟩,λb z=>absurd z (n b),e0.bs,e0.bsz,λb _ _=>n b,λb z=>absurd z (n b),e0.funs,e0.frf⟩,
  rfl,e0.bare,Un.kept m,⟨_,x.toInCall.ns,λi y v j l F=>?_⟩,λy c h=>⟨_,x.cell y c h⟩,e0.hok.fresh (Zg _),λy c h=>?_,λp a=>absurd (show p∈([])from a) (by simp),e0.hok.kept m,?_⟩
 ·exact name_of_addr x.apart (Zw j) (Zw l)
 ·rcases d with d|d
  ·exact xV d
  ·exact absurd rfl (S.nofree _ (Zw d))
 ·exact OJ (x.above y c (Zw h))
 ·have G:i<vs.length:=by
   unfold start at l
   grind
  have B:vs[i]?=some v:=by
   unfold start at l
   grind
  obtain⟨u,o,R⟩:=r.get B;have a:ps[i]?=some y:=by rw[<-S.pre,Pl (by omega)];exact j
  have g:ps.Nodup:=by rw[<-S.pre];exact S.nd.sublist (Qm _ _)
  refine⟨u,R,?_⟩;rcases S.par y (Zr a)with k|k
  ·exact .inl ⟨k,xT g a o k⟩
  ·obtain⟨c,e⟩:=xV k;refine .inr ⟨.inl k,c,e,?_⟩;have q:=x.cell y c e;rw[xU g a o (by show scope.names.lookup y≠_;rw[k];decide)]at q;exact q
 ·exact e0.hok.fresh (OJ (x.above y c (Zw h)))
 ·unfold start;show _=N.length;simp_all
theorem xX{CX:dh}{P:M5}{p:Arguments}{body:List OB}{D kV:M0}{an:Option MZ}
   {ps:Ls} {sp:Sp} (lk:K.lookup f=some ⟨oc,od,.func (PySem.W.fnOf name qual p body scope D kV doc pm an cdv ct),osl⟩) (j:PySem.W.codeIn K cdv qual=MW) (S:b6 N ps scope)
  (len:∀vs H Q E,sp vs H Q E->vs.length=ps.length)
  (h:∀(A:NM) (outer:List Env) (s:MY) (H:Hp) (vs:List V) (Q:VK) (E:XK),cC k (A.deeper (envOfC qual scope s.heap.objs.size f cdv))->sp vs H Q E->
   ∃t,eh (fC CX P w K mg base N qual scope f cdv A outer s H E) body t/\t {nx:=λ_ H'=>Q .non H',rt:=Q} (start N vs) H):
  cR P w K mg base CX (k+1) f (PySem.W.fnOf name qual p body scope D kV doc pm an cdv ct) ps sp:=by
 refine⟨len,λA outer s H m W vs Q E l g C r i=>?_⟩;have M:=len _ _ _ _ i;have KX:=g.mod.kin.keeps λb o e=>(g.bs b o e).1;have L:=g.mod.nolimit.keeps λb o e=>(g.bs b o e).1
 have c:∀y∈ps.zip W,scope.names.lookup y.1=some _\/(scope.names.lookup y.1=some _/\((cellsFrom (s.heap.objs.size+1) _ []).lookup y.1).isSome=MW):=λ⟨n,v⟩ U=>by
  rcases S.par n (OX U).1 with q|q
  ·exact .inl q
  ·exact .inr ⟨q,PySem.W.cellsFrom_some _ _ _ (.inl q)⟩
 refine R_ l.depth (KX _ _ lk) rfl S.co S.gen rfl (PySem.W.codeRec_of KX j) (C _ _ _ _ ?_);refine Rg S.kind c λB G Z x=>?_;subst G;refine⟨L.keeps x.toInCall.keep,codeAny_func ?_⟩;obtain⟨t,T,O⟩:=h A _ s H _ Q E (l.deeper _) i;have I:Inv (fC CX P w K _ _ N _ _ f _ A _ s H E) _ _ H _:=xW S l.hd g M r x;refine Nn (T _ _ _ H _ I O) (λF z d=>?_) λe z d=>d
 have fin:∀{a:St} {H':Hp} {v:V} {u:M0},Inv (fC CX P w K mg base N qual scope f cdv A _ s H E) [] a _ _->RelV v u->Q v H'->CE outer P w H s Q u z:=
  λ{a H' v u} J R q=>⟨v,_,J.os,J.bare,J.base,J.hok,R,q⟩
 cases F with
 |ret u=>obtain⟨v,a,H',J,R,q⟩:=d;exact fin J R q
 |next=>obtain⟨a,H',J,q⟩:=d;exact fin (v:=V.non) J rfl q
 |brk=>obtain⟨_,_,_,q⟩:=d;simp_all
 |cont=>obtain⟨_,_,_,q⟩:=d;simp_all
section
variable {X:Cx}{x:Str}{p pos:Pos}{es:Lx}{t:TA}{id T:String}{r:List V->Hp->VK->Prop}
noncomputable def FO(r:List V->Hp->VK->Prop)(t:TA):TE:=λσ H Q=>t σ H λvs H1=>r vs H1 Q
theorem r_(f:aS X (.builtin id) r)(i:Gl X x)(j:X.mg x=none)(l:bootBuiltins x=some (.builtin id))(d:PA X (e::es) t)(k:x≠"__name__":=by decide)(a:(x==("__debug__":Str))=MX:=by decide)
  (g:starEach (e::es) X.env=(MX,eval e X.env)::starEach es X.env:=by rfl) (b:(backTo pos (starEach es X.env)).any (·.1)=MX:=by rfl):PE X (.Call (.Name x p) (e::es) [] pos) (FO r t):=by
 intro P s m H Q I h;exact NF (eS I i j l (OG (aO (d _ _ s _ H _ I h) λu S ⟨_,_,c,R,q⟩=>f _ _ _ _ _ _ Q c R q) g b) k a)
theorem lR(f:aS X (.type T) r)(i:Gl X x)(j:X.mg x=none)(l:bootBuiltins x=some (.type T))(d:PA X (e::es) t)(k:x≠"__name__":=by decide)(a:(x==("__debug__":Str))=MX:=by decide)
  (g:starEach (e::es) X.env=(MX,eval e X.env)::starEach es X.env:=by rfl) (b:(backTo pos (starEach es X.env)).any (·.1)=MX:=by rfl):PE X (.Call (.Name x p) (e::es) [] pos) (FO r t):=by
 intro P s m H Q I h;exact NF (eS I i j l (Nf (aO (d _ _ s _ H _ I h) λu S ⟨_,_,c,R,q⟩=>f _ _ _ _ _ _ Q c R q) g b) k a)
end
end L2
namespace HT
section
open PySem.SeqAt
open PySem.AutoSeq1 (wpAny_loadPart')
open PySem.MeetsSeq PySem.MeetsSeq2 PySem.MeetsSeq3
end
theorem lS{t b:MZ}{vs W:Lv}(l:Rf s.heap t vs.toArray)(g:Rf s.heap b W.toArray)(p:vs≠[])
  (h1:W=[]->Q (.ref t) s) (o:W≠[]->Q (.ref s.heap.objs.size) {s with heap:=s.heap.push {cls:=.type "tuple",data:=.seq (vs++W).toArray}})
  (k:vs.length+W.length<=sizeLine):wpAny (model prog w) A (binaryOp .Add (.ref t) (.ref b)) Q E s:=by
 obtain⟨⟨cls,m,d,sl⟩,H,i,n,j⟩:=id l;obtain⟨⟨C,f,D,S⟩,h,a,N,c⟩:=id g;subst i j a c;by_cases hw:W=[]
 ·exact RU ⟨_,H,rfl⟩ ⟨_,h,rfl⟩ QQ RA PySem.F.slot_tuple_add PySem.F.entry_tuple_add (PySem.F.args_tuple_add_2 _ _)
   (tuple_addW1 t b _ _ n _ _ _ _ _ (by simp_all) (by simp_all)) ⟨H,h,h1 hw⟩
 ·refine RU ⟨_,H,rfl⟩ ⟨_,h,rfl⟩ QQ RA PySem.F.slot_tuple_add PySem.F.entry_tuple_add (PySem.F.args_tuple_add_2 _ _)
   (tuple_addW2 t b _ _ n _ _ _ _ _ (by simp_all) (by simp_all) (by simp_all)) ⟨H,h,?_⟩
  simp_all
noncomputable def cc(n d:Nat):Option Int->Nat
 |none=>d
 |some v=>if v<0 then(v+(n:Int)).toNat else min v.toNat n
theorem xY(v:Int)(n d:Nat):(if v<0 then max (v+(n:Int)) 0 else min v (n:Int))=((cc n d (some v):Nat):Int):=by
 show(if v<0 then max _ 0 else min v _)=((if v<0 then(v+(n)).toNat else min _ n):Nat)
 grind
theorem FP(l h:Option Int)(n:Nat):Oe l h 1 (n:Int)=(((cc n 0 l:Nat):Int),((cc n n h:Nat):Int)):=by
 refine Prod.ext ?_ ?_
 ·cases l with
  |none=>rfl
  |some v=>exact xY v n 0
 ·cases h with
  |none=>rfl
  |some v=>exact xY v n n
theorem FQ(i j:Nat):Nm (i:Int) (j:Int) 1=j-i:=by unfold Nm;lia
theorem sd{v:M0}{o:Option Int}{Q:Option Int->MY->Prop}(p:Qg v o)(h:Q o s):wpAny (model prog w) A (Builtin.Slice.slicePartIndex v) Q E s:=by
 cases p with
 |none=>exact slicePart_none h
 |int i t=>exact slicePart_int h
theorem xZ{l:Option Int}{Q:Int×Int×Nat->MY->Prop}(hs:s.heap.IsSliceOf sl vl vu .none)(pl:Qg vl l)(p:Qg vu hi)
  (h:Q (((cc n 0 l:Nat):Int),1,cc n n hi-cc n 0 l) s):wpAny (model prog w) A (Qa (.ref sl) (pure (n:Int))) Q E s:=by
 obtain⟨o,a,b,H⟩:=id hs;refine Za (Za (ZV a H rfl (Za (ZV a H rfl (Za (ZV a H rfl (Zd ?_)))))));refine Za (slicePart_none ?_);refine Za (sd pl (Za (sd p (Za (Zd ?_)))));show wpAny _ _ (match Oe _ _ 1 n with| (l,hi)=>pure (l,(1:Int),Nm l hi 1)) _ _ s;rw[FP _ _ n];show wpAny _ _ (pure _) _ _ s;rw[FQ];exact Zd h
theorem FR(xs:Av)(i k:Nat):((M4 k).filterMap λ(m:Nat)=>xs[((i:Int)+(m:Int)*1).toNat]?).toArray=((xs.toList.drop i).take k).toArray:=by
 have e:(λ(m:Nat)=>xs[((i:Int)+m*1).toNat]?)=λm=>xs[i+m]? :=by grind
 have:=pick_run xs i k;have E:((λx=>xs[x]?)∘λx=>i+x)=λm=>xs[i+m]? :=rfl;simp_all
theorem FU{t:MZ}{l:Option Int}(a:Rf s.heap t items)(hs:s.heap.IsSliceOf sl vl vu .none)(pl:Qg vl l)(p:Qg vu hi)
  (hw:¬(cc items.size 0 l=0/\cc items.size items.size hi=items.size))
  (h:Q (.ref s.heap.objs.size) {s with heap:=s.heap.push {cls:=.type "tuple",data:=.seq ((items.toList.drop (cc items.size 0 l)).take (cc items.size items.size hi-cc items.size 0 l)).toArray}})
  (f:items.size<=sizeLine):wpAny (model prog w) A (getItem (.ref t) (.ref sl)) Q E s:=by
 have H:=by
  show((items.toList.drop (cc items.size 0 l)).take (cc items.size items.size hi-cc items.size 0 l)).toArray.size<=sizeLine
  grind
 obtain⟨o,c,b,e⟩:=id hs;unfold getItem
 try with_reducible refine ZI ?_
 refine Za (QH a.typeIs (by decide) ?_)
 refine Za (ZT a.typeIs Z6
  (ZR Z6 a.typeIs Qp ?_ (Qz _ _)))
 show wpAny _ _ (OO (.ref t)>>=_) _ _ s;refine Za (RB a ?_);refine Za (OT ⟨o,c,b⟩ ?_);refine Za (xZ hs pl p ?_);show wpAny _ _ (if(((cc _ 0 l:Nat):Int)==0&&(1:Int)==1&&(cc _ items.size hi-cc items.size 0 l)==items.size)=MW then _ else _) _ _ s;rw[if_neg (by simp_all),FR]
 first
  |exact Za (Nv (Zd ⟨_,rfl,Zd h⟩) H)
  |simp_all
  |simp_all
  |simp_all
end HT
namespace L2
abbrev TO:=St->Hp->(Option Int->Hp->Prop)->Prop
def PO(X:Cx)(e:Option Expr)(t:TO):Prop:=
 ∀(pq:Lp) (s:MY) (σ:St) (H:Hp) (Q:Option Int->Hp->Prop),Inv X pq σ H s->t σ H Q->
  wpAny (model X.prog X.w) X.A (evalPart e X.env) (λu s'=>∃o H',Inv X pq σ H' s'/\Qg u o/\Q o H') X.xe s
noncomputable def lT:TO:=λ_ H Q=>Q none H
noncomputable def x_(t:TE):TO:=λσ H Q=>t σ H λx H1=>∃i,x=.int i/\Q (some i) H1
theorem se:∀{us:Lv},Vals (ns.map V.int) us->P0 us ns:=by
 induction ns with
 |nil=>intro us r;cases r;exact .nil
 |cons n ns i=>
  intro us r;cases r with
  |cons R a=>obtain⟨t,e⟩:=R;subst e;exact .cons n t (i a)
section
variable {X:Cx}{te:TE}{lo hi:Option Expr}{tl th:TO}{pos:Pos}
theorem lU:PO X none lT:=by intro p s a H Q I h;exact Zd ⟨_,H,I,.none,h⟩
theorem lV(h:PE X e te):PO X (some e) (x_ te):=by intro p s c H Q I hw;refine aO (h _ s _ H _ I hw) λu S ⟨x,_,a,r,b⟩=>?_;obtain⟨i,rfl,q⟩:=b;obtain⟨t,rfl⟩:=r;exact⟨_,_,a,.int i t,q⟩
def EO(X:Cx)(r:V->Option Int->Option Int->Hp->VK->Prop):Prop:=
 ∀(pq:Lp) (s:MY) (σ:St) (H:Hp) (x:V) (v vl vu:M0) (lo hi:Option Int) (sl:MZ) (Q:VK),Inv X pq σ H s->RelV x v->s.heap.IsSliceOf sl vl vu .none->Qg vl lo->Qg vu hi->r x lo hi H Q->
  ∃T id,typeLookup (.type T) "__getitem__"=pure (some (.builtin id))/\s.TypeIs v T/\wpAny (model X.prog X.w) X.A (getItem v (.ref sl)) (EP X pq σ Q) X.xe s
noncomputable def ME(r:V->Option Int->Option Int->Hp->VK->Prop)(t:TE)(b T:TO):TE:=λσ H Q=>t σ H λx H1=>b σ H1 λl H2=>T σ H2 λu a=>r x l u a Q
theorem FV{r:V->Option Int->Option Int->Hp->VK->Prop}(n:EO X r)(j:PE X e te)(m:PO X lo tl)(p:PO X hi th):PE X (.Subscript e (.Slice lo hi none p2) pos) (ME r te tl th):=by intro B s C H Q I h;refine Subscript_ (aO (j _ s _ H _ I h) λv S ⟨x,_,c,R,w⟩=>?_);refine wpAny_Slice (aO (m _ _ _ _ _ c w) λA s2 ⟨l,_,d,P,y⟩=>aO (p _ _ _ _ _ d y) λvu s3 ⟨u,_,f,t,z⟩=>?_);refine Zd ?_;have g:Inv X _ _ _ {s3 with heap:=s3.heap.push {cls:=.type "slice",data:=.fields #[A,vu,.none]}}:=f.kept λb O q=>Zc _ q;obtain⟨T,id,i,o,k⟩:=n _ _ _ _ x v _ _ l u _ Q g R (QA ..) P t z;exact tail_any o i k rfl
noncomputable def io(xs:List V)(l h:Option Int):List V:=(xs.drop (HT.cc xs.length 0 l)).take (HT.cc xs.length xs.length h-HT.cc xs.length 0 l)
theorem ya(xs:List V)(l h:Option Int):(io xs l h).length<=xs.length:=by unfold io;rw[OR,List.length_drop];omega
def FW(K:Fg):V->Option Int->Option Int->Hp->VK->Prop:=λx lo hi H Q=>∃a xs,x=.ref a/\bX K H a xs/\
 ¬(HT.cc xs.length 0 lo=0/\HT.cc xs.length xs.length hi=xs.length)/\∀p,H p=none->Q (.ref p) (aZ H p (.tup (io xs lo hi)))
theorem sl_tup:EO X (FW X.K):=by
 intro m s t H x v V n l k sl Q I R e p P h;obtain⟨a,j,rfl,f,hw,q⟩:=h;cases R;obtain⟨i,r,d,g⟩:=I.tuple f;have c:i.toArray.size=j.length:=by exact r.length.symm
 refine⟨_,_,PyProof.Rows.slot_tuple_getitem.lookup,d.typeIs,?_⟩;refine HT.FU d e p P (by lia) ?_ (by lia);rw[c];refine⟨.ref _,_,I.laid (λb o q=>Zc _ q) (Zg _) ?_,rfl,q _ (I.hok.fresh (Zg _))⟩;exact⟨Zy (ya _ _ _) g,_,(r.drop _).take _,QV _ _,qm.new _ _⟩
noncomputable def yb(K:Fg):R2:=λx y H Q=>∃a b xs ys,x=.ref a/\y=.ref b/\bX K H a xs/\bX K H b ys/\xs≠[]/\xs.length+ys.length<=sizeLine/\
 (ys=[]->Q (.ref a) H)/\(ys≠[]->∀p,H p=none->Q (.ref p) (aZ H p (.tup (xs++ys))))
theorem Vals.nil_iff{xs:List V}(r:Vals xs us):us=[]↔xs=[]:=by
 cases r with
 |nil=>simp
 |cons _ _=>simp
theorem lW:cu X (binaryOp .Add) (yb X.K):=by intro n s A H x y v u Q I l m h;obtain⟨a,b,t,Y,rfl,rfl,c,d,e,f,j,k⟩:=h;subst l;subst m;obtain⟨g,R,p,_⟩:=I.tuple c;obtain⟨i,r,P,_⟩:=I.tuple d;refine HT.lS p P (λz=>e (R.nil_iff.mp z)) (λz=>⟨.ref a,H,I,rfl,j (r.nil_iff.mp z)⟩) (λz=>?_) (by rw[<-R.length,<-r.length];exact f);refine⟨.ref _,_,I.laid (λb o q=>Zc _ q) (Zg _) ?_,rfl,k (λw=>z (r.nil_iff.mpr w)) _ (I.hok.fresh (Zg _))⟩;exact⟨by simp_all,_,R.append r,QV _ _,qm.new _ _⟩
end
noncomputable def hX(n:Nat)(i:Int):Option Nat:=if 0<=i then(if i<n then some i.toNat else none)else if-(n:Int)<=i then some (i+n).toNat else none
noncomputable def gL{a:Type}(xs:List a)(i:Int):Option a:=(hX xs.length i).bind λj=>xs[j]?
theorem sf{i:Int}{j:Nat}(h:hX n i=some j):seqIndex? i n=some j/\j<n/\ -(n:Int)<=i/\i<n:=by
 unfold hX at h;by_cases a:0<=i
 ·rw[if_pos a]at h;by_cases H:i<n
  ·rw[if_pos H]at h;have e:=OK h;exact⟨by rw[seqIndex_of a H,e],by lia,by lia,H⟩
  simp_all
 ·rw[if_neg a]at h;by_cases H: -n<=i
  ·rw[if_pos H]at h;have e:=OK h;exact⟨by rw[RW (by simp_all) H,e],by lia,H,by lia⟩
  simp_all
theorem yc{xs:List α}{i:Int}{v:α}(h:gL xs i=some v):∃j,seqIndex? i xs.length=some j/\xs[j]?=some v/\j<xs.length/\ -(xs.length:Int)<=i/\i<xs.length:=by
 unfold gL at h;cases e:hX xs.length i with
 |none=>simp_all
 |some j=>rw[e]at h;obtain⟨H,a,b,c⟩:=sf e;exact⟨j,H,h,a,b,c⟩
def yd(b:Expr):Prop:=∀o i,subscripted b MX o i=operate [o,i] (getItem o i)
def EQ(X:Cx)(r:R2):Prop:=
 ∀(value S:Expr) (pq:Lp) (s:MY) (σ:St) (H:Hp) (x y:V) (v u:M0) (Q:VK),Inv X pq σ H s->RelV x v->RelV y u->r x y H Q->
  subscripted S MX v u=operate [v,u] (getItem v u)->wpAny (model X.prog X.w) X.A (subscriptTail value S v u) (EP X pq σ Q) X.xe s
def jh(X:Cx)(id:String)(r:V->List V->Hp->VK->Prop):Prop:=
 ∀(pq:Lp) (s:MY) (σ:St) (H:Hp) (x:V) (xs:List V) (v:M0) (us:Lv) (Q:VK),Inv X pq σ H s->RelV x v->Vals xs us->r x xs H Q->
  wpAny (model X.prog X.w) X.A (call (.builtin id) (v::us)) (EP X pq σ Q) X.xe s
section
variable {X:Cx}{a b:Expr}{ta tb:TE}{pos:Pos}
theorem jz{r:R2}(f:EQ X r)(d:PE X a ta)(e:PE X b tb)(hs:yd b):PE X (.Subscript a b pos) (EN r ta tb):=by intro p s j H Q I h;exact Subscript_ (rL d e I h λv u s2 x y i c R g q=>f a b _ _ _ _ x y v u Q c R g q (hs _ _))
noncomputable def FX(K:Fg):R2:=λx y H Q=>∃p xs i v,x=.ref p/\y=.int i/\cQ K H p xs/\gL xs i=some v/\Q v H
noncomputable def FY(K:Fg):R2:=λx y H Q=>∃p xs i v,x=.ref p/\y=.int i/\bX K H p xs/\gL xs i=some v/\Q v H
theorem sg:EQ X (FX X.K):=by
 intro V S F s J H x y v u Q I n o h d;obtain⟨p,G,i,z,rfl,rfl,m,k,q⟩:=h;cases n;obtain⟨t,rfl⟩:=o;obtain⟨a,r,P,D⟩:=I.list m;obtain⟨j,c,e,A,f,g⟩:=yc k;obtain⟨w,E,R⟩:=r.get e;have B:=r.length;have C:=im;have fin:EP X _ _ Q w s:=⟨z,H,I,R,q⟩;by_cases b:0<=i
 ·have l:i.toNat=j:=by
   rw[seqIndex_of b g]at c;simp_all
  exact item_listR P.isList b (by omega) (by simp_all) fin d
 ·have l:(i+a.toArray.size).toNat=j:=by
   rw[RW (by omega) f]at c;simp_all
  exact RX P.isList.typeIs slot_list_getitem.lookup
   (wpAny_getItem_list_neg P.isList (by omega) (by simp_all) (by omega) (by simp_all) ⟨rfl,fin⟩) d
theorem si:EQ X (FY X.K):=by
 intro V S C s F H x y v u Q I f g h d;obtain⟨p,D,i,z,rfl,rfl,c,b,q⟩:=h;cases f;obtain⟨t,rfl⟩:=g;obtain⟨e,r,P,B⟩:=I.tuple c;obtain⟨j,k,a,l,m,n⟩:=yc b;obtain⟨w,E,R⟩:=r.get a;have o:=r.length;have A:=im;have fin:EP X _ _ Q w s:=⟨z,H,I,R,q⟩
 exact RX P.typeIs slot_tuple_getitem.lookup
  (getItem_tuple (j:=j) P (by omega) (by omega) (by simp_all) (by simp_all) ⟨rfl,fin⟩) d
theorem FZ(its:Lv)(n j:Nat)(u:M0):NC (·.setIfInBounds j u) {cls:=.type "list",data:=.seq its.toArray n}={cls:=.type "list",data:=.seq (its.set j u).toArray n}:=by simp[NC]
theorem Inv.lst{σ:St}{H:Hp}{p:MZ}{xs:List V}(I:Inv X pq σ H s)(h:H p=some (.lst xs)):
  ∃(its:Lv) (n:Nat),Vals xs its/\s.heap.get? p=some {cls:=.type "list",data:=.seq its.toArray n}/\xs.length<=sizeLine:=by
 obtain⟨z,its,n,r,e⟩:=I.hok p _ h;exact⟨_,n,r,e,z⟩
theorem Inv.lstUpd{σ:St}{H:Hp}{p:MZ}{xs y:List V}{its i:Lv}{n N:Nat}{f:Obj->Obj}(I:Inv X pq σ H s)(h:H p=some (.lst xs))
  (g:s.heap.get? p=some {cls:=.type "list",data:=.seq its.toArray n}) (c:f {cls:=.type "list",data:=.seq its.toArray n}={cls:=.type "list",data:=.seq i.toArray N}) (r:Vals y i) (j:y.length<=sizeLine) (t:Nat):
  Inv X pq σ (aZ H p (.lst y)) {s with heap:=s.heap.update p f,toks:=t}:=by
 have e:(s.heap.update p f).get? p=some {cls:=.type "list",data:=.seq i.toArray N}:=by rw[Ng f g (by rw[c]<;>rfl),c]
 refine I.write (by rw[h];trivial) (.inl rfl) (λb u d q=>(OH _ _ (Ne.symm d)).trans q) ⟨_,e⟩ ?_;exact⟨j,_,_,r,e⟩
def ye:V->V->V->Hp->(Hp->Prop)->Prop:=λo i v H Q=>∃p xs k j,o=.ref p/\i=.int k/\H p=some (.lst xs)/\hX xs.length k=some j/\Q (aZ H p (.lst (xs.set j v)))
theorem F0:rF X ye:=by
 intro P s F H o i v O D u Q I x R y h;obtain⟨p,E,k,j,rfl,rfl,g,w,q⟩:=h;cases x;obtain⟨t,rfl⟩:=R;obtain⟨c,n,r,b,C⟩:=I.lst g;obtain⟨f,z,l,m⟩:=sf w;have A:=r.length;have B:=im
 have d:=
  I.lstUpd g b (FZ _ n j u) (r.set y j) (by simp_all) s.toks
 by_cases e:0<=k
 ·have a:k.toNat=j:=by
   rw[seqIndex_of e m]at f;simp_all
  exact PySem.W.ki_setAt b e (by omega) (by simp_all) (by rw[a];exact⟨_,d,q⟩)
 ·have a:(k+c.toArray.size).toNat=j:=by
   rw[RW (by omega) l]at f;simp_all
  exact PySem.W.ki_setBack b (by omega) (by simp_all) (by omega) (by rw[a];exact⟨_,d,q⟩)
theorem F1(l H:Option Int)(n:Nat):(sliceBounds l H none n).1=((HT.cc n 0 l:Nat):Int)/\(sliceBounds l H none n).2.1=((HT.cc n n H:Nat):Int)/\(sliceBounds l H none n).2.2=1:=by
 refine⟨?_,?_,rfl⟩
 ·cases l with
  |none=>rfl
  |some i=>
   simp only[sliceBounds,HT.cc,RJ,show(1:Int)>0 by decide,if_true];by_cases h:i<0
   ·simp only[h,if_true]<;>omega
   ·simp only[h,if_false]<;>omega
 ·cases H with
  |none=>rfl
  |some i=>
   simp only[sliceBounds,HT.cc,RJ,show(1:Int)>0 by decide,if_true];by_cases h:i<0
   ·simp only[h,if_true]<;>omega
   ·simp only[h,if_false]<;>omega
theorem F2(its:Lv)(l h:Option Int):slicePick its.toArray l h none=((its.drop (HT.cc its.length 0 l)).take (HT.cc its.length its.length h-HT.cc its.length 0 l)).toArray:=by obtain⟨H,a,b⟩:=F1 _ _ _;unfold slicePick;rw[H,a,b];simp only[sliceRange_one,pick_run]<;>rfl
def F3(K:Fg):V->Option Int->Option Int->Hp->VK->Prop:=λx lo hi H Q=>∃a xs,x=.ref a/\cQ K H a xs/\∀p,H p=none->Q (.ref p) (aZ H p (.lst (io xs lo hi)))
theorem lX:EO X (F3 X.K):=by intro k s t H x v V m l j sl Q I R e p P h;obtain⟨a,n,rfl,f,q⟩:=h;subst R;obtain⟨i,r,d,g⟩:=I.list f;have c:=r.length;refine⟨_,_,slot_list_getitem.lookup,d.isList.typeIs,?_⟩;refine wpAny_getItem_list_slice d.isList e p P .none (by decide) ?_ (by simp_all);rw[F2,<-c];refine⟨.ref _,_,I.laid (λb o q=>Zc _ q) (Zg _) ?_,rfl,q _ (I.hok.fresh (Zg _))⟩;exact⟨Zy (ya _ _ _) g,_,0,(r.drop _).take _,Zi _ rfl⟩
theorem F4:aS X (.builtin "len") (λxs H Q=>∃p ys,xs=[.ref p]/\(cQ X.K H p ys\/bX X.K H p ys)/\Q (.int ys.length) H):=by
 intro f s g H xs U Q I r h;obtain⟨p,ys,rfl,b,q⟩:=h;obtain⟨u,rfl,d⟩:=vals1 r;cases d;have e:=im;rcases b with b|b
 ·obtain⟨i,R,P,c⟩:=I.list b;have a:=R.length;exact Calls.call_len_list P.isList (by grind) ⟨.int _,H,I.tok _,⟨s.toks+1,by simp_all⟩,q⟩
 ·obtain⟨i,R,P,c⟩:=I.tuple b;have a:=R.length;exact len_tuple P (by grind) ⟨.int _,H,I.tok _,⟨s.toks+1,by simp_all⟩,q⟩
theorem F5:aS X (.builtin "len") (λxs H Q=>∃z,xs=[.str z]/\z.length<=sizeLine/\Q (.int z.length) H):=by intro p s c H xs U Q I r h;obtain⟨z,rfl,b,q⟩:=h;obtain⟨u,rfl,t,rfl⟩:=vals1 r;have a:=im;exact len_str (by lia) ⟨.int _,H,I.tok _,⟨_,rfl⟩,q⟩
theorem F6:aS X (.type "list") (λxs H Q=>∃p ys,xs=[.ref p]/\(cQ X.K H p ys\/bX X.K H p ys)/\∀l,H l=none->Q (.ref l) (aZ H l (.lst ys))):=by
 intro v s w H xs U Q I r h;obtain⟨p,ys,rfl,d,q⟩:=h;obtain⟨u,rfl,t⟩:=vals1 r;subst t
 have fin:∀(i:List _),Vals _ i->ys.length<=sizeLine->∀(a:M8) (C:Nat),(∀b O,s.heap.get? b=some _->a.get? b=some _)->
   a.get? _=some _->EP X _ _ Q _ _:=λi R f a C k e=>
  ⟨.ref _,_,I.laid (t':=s.toks) k (Zg _) (show bc _ _ _ _ _ (.lst _)from⟨f,_,C,R,e⟩),rfl,q _ (I.hok.fresh (Zg _))⟩
 rcases d with d|d
 ·obtain⟨i,R,P,f⟩:=I.list d;have c:=R.length;obtain⟨o,m,g,n,j⟩:=P.isList;exact call_list_seq p (.inl rfl) m g j (λa C k e=>fin _ R f _ _ k e) (by simp_all)
 ·obtain⟨i,R,P,f⟩:=I.tuple d;have c:=R.length;obtain⟨o,m,g,n,j⟩:=P;exact call_list_seq p (.inr rfl) m g j (λa C k e=>fin _ R f _ _ k e) (by simp_all)
theorem yf:aS X (.type "tuple") (λxs H Q=>∃p ys,xs=[.ref p]/\((cQ X.K H p ys/\∀l,H l=none->Q (.ref l) (aZ H l (.tup ys)))\/(bX X.K H p ys/\Q (.ref p) H))):=by
 intro n s v H xs U Q I r h;obtain⟨p,ys,rfl,h⟩:=h;obtain⟨u,rfl,j⟩:=vals1 r;subst j;rcases h with⟨a,q⟩| ⟨a,q⟩
 ·obtain⟨i,R,P,f⟩:=I.list a;have d:=R.length;refine call_tuple_list P.isList (λm k=>?_) (by simp_all);have c:=I.kept (t':=s.toks) k
  have g:=
   c.laid (t':=s.toks) (λb o e=>Zc _ e) (Zg _) (show bc _ _ _ _ _ (.tup _)from⟨f,_,R,QV _ _,qm.new _ _⟩)
  exact⟨.ref _,_,g,rfl,q _ (c.hok.fresh (Zg _))⟩
 ·obtain⟨i,R,P,f⟩:=I.tuple a;exact call_tuple_same P ⟨.ref p,H,I,rfl,q⟩
def yg(K:Fg)(T:String)(x:V)(H:Hp):Prop:=match x with
 | .str _=>T="str"
 | .int _=>T="int"
 | .ref p=>(T="list"/\∃xs,cQ K H p xs)\/(T="tuple"/\∃o,K.lookup p=some o/\o.cls=.type "tuple"/\o.dict=none)\/
   (T="dict"/\((∃k,H p=some (.dK k))\/∃k,H p=some (.dT k)))\/(T="set"/\∃S n,H p=some (.set S n))
 |_=>False
theorem jA{σ:St}{H:Hp}{T:String}{x:V}{v:M0}(I:Inv X pq σ H s)(r:RelV x v)(ty:yg X.K T x H):
  s.TypeIs v T/\∀a,v=.ref a->∃ob,s.heap.get? a=some ob/\ob.dict=none:=by
 cases x with
 |str z=>
  obtain⟨t,rfl⟩:=r;cases show T="str" from ty
  exact⟨typeIs_str s z t,λ_ e=>nomatch e⟩
 |int i=>
  obtain⟨t,rfl⟩:=r;cases show T="int" from ty
  exact⟨typeIs_int s i t,λ_ e=>nomatch e⟩
 |ref p=>
  cases r;rcases ty with⟨rfl,l,g⟩| ⟨rfl,o,h,f,d⟩| ⟨rfl,h⟩| ⟨rfl,S,n,h⟩
  ·obtain⟨j,_,P,_⟩:=I.list g;refine⟨P.isList.typeIs,λa e=>?_⟩;obtain⟨o,n,e,c,d,_⟩:=P;simp_all
  ·refine⟨⟨o,I.kIn p o h,f⟩,λa e=>?_⟩;cases e;exact⟨o,I.kIn _ o h,d⟩
  ·have z:∃o,s.heap.get? p=some o/\o.ExactDict:=by
    rcases h with⟨k,h⟩| ⟨k,h⟩
    ·obtain⟨_,_,_,_,o,_,_,e,E,_⟩:=I.hok p _ h;simp_all
    ·obtain⟨_,_,_,_,o,_,_,e,E,_⟩:=I.hok p _ h;simp_all
   obtain⟨o,e,E⟩:=z;refine⟨⟨o,e,E.1⟩,λa b=>?_⟩;cases b;exact⟨o,e,E.2.1⟩
  ·obtain⟨o,_,_,_,e,E,_⟩:=I.hok p _ h;refine⟨⟨o,e,E.1⟩,λa b=>?_⟩;cases b;exact⟨o,e,E.2.1⟩
 |_=>exact False.elim ty
noncomputable def F7(K:Fg)(T:String)(r:V->List V->Hp->VK->Prop)(to:TE):TE:=λσ H Q=>to σ H λx H1=>yg K T x H1/\r x [] H1 Q
noncomputable def Me(K:Fg)(T:String)(r:V->List V->Hp->VK->Prop)(to:TE)(t:TA):TE:=λσ H Q=>to σ H λx H1=>yg K T x H1/\t σ H1 λxs H2=>r x xs H2 Q
variable {o:Expr}{es:Lx}{to:TE}{t:TA}{T id:String}{r:V->List V->Hp->VK->Prop}
theorem sj(p:PlainAttrs T)(S:Slot T name id)(c:typeOf (.builtin id)=pure (.type "method_descriptor"))(g:jh X id r)(i:PE X o to)
  (a:attributeBase o name X.env (eval o X.env)=eval o X.env:=by rfl) (b:(apos.endLine==cpos.line)=MW:=by rfl):PE X (.Call (.Attribute o name apos) [] [] cpos) (F7 X.K T r to):=by
 intro P s k H Q I h;refine wpAny_Call_method0_late a b (aO (i _ s _ H _ I h) λv j ⟨x,_,d,R,ty,q⟩=>?_);obtain⟨e,f⟩:=jA d R ty;exact⟨T,_,p,S,c,e,f,Ps rfl (PySem.evalArgs_none (g _ _ _ _ x _ v _ Q d R .nil q))⟩
theorem qv(P:PlainAttrs T)(S:Slot T name id)(f:typeOf (.builtin id)=pure (.type "method_descriptor"))(n:jh X id r)(p:PE X o to)(m:PA X (e::es) t)
  (a:attributeBase o name X.env (eval o X.env)=eval o X.env:=by rfl)
  (c:((backTo cpos (starEach (e::es) X.env)).all (λx=> !x.1)&&(backToKw cpos (keywordEach [] X.env)).all (λx=>x.1.isSome)
   &&decide ((e::es).length+([]:List QG).length+(if([]:List QG).isEmpty then 0 else 1)<30))=MW:=by rfl)
  (b:(apos.endLine==cpos.line)=MW:=by rfl) (hs:starEach (e::es) X.env=(MX,eval e X.env)::starEach es X.env:=by rfl) (d:(backTo cpos (starEach es X.env)).any (·.1)=MX:=by rfl):
  PE X (.Call (.Attribute o name apos) (e::es) [] cpos) (Me X.K T r to t):=by
 intro y s A H Q I h;refine RY a c b rfl (aO (p _ s _ H _ I h) λv z ⟨x,_,g,R,ty,q⟩=>?_);obtain⟨k,l⟩:=jA g R ty;refine⟨T,_,P,S,f,k,l,?_⟩;have i:=m cpos _ _ _ _ _ g q;rw[hs]at i⊢;exact Ps (by assumption) (PN (aO i λU s2 ⟨_,_,j,w,u⟩=>n _ _ _ _ x _ v _ Q j R w u))
end
def ER(X:Cx)(id:String)(r:V->List V->Hp->VK->Prop):Prop:=
 ∀(pq:Lp) (s:MY) (σ:St) (H:Hp) (x:V) (xs:List V) (v:M0) (us:Lv) (Q:VK),Inv X pq σ H s->RelV x v->Vals xs us->r x xs H Q->
  wpAny (model X.prog X.w) X.A (call (.builtin id) (v::us)) (EP X pq σ Q) X.xe s
theorem Vals.un{x:V}{xs:List V}(h:Vals (x::xs) us):∃u r,us=u::r/\RelV x u/\Vals xs r:=by
 cases h with
 |cons r t=>lia
theorem Vals.nul(h:Vals [] us):us=[]:=by cases h;rfl
theorem Vals.one{x:V}(h:Vals [x] us):∃u,us=[u]/\RelV x u:=by obtain⟨u,r,rfl,a,H⟩:=h.un;cases H.nul;lia
theorem Vals.two{x y:V}(h:Vals [x,y] us):∃u v,us=[u,v]/\RelV x u/\RelV y v:=by obtain⟨u,r,rfl,a,H⟩:=h.un;obtain⟨v,rfl,b⟩:=H.one;lia
theorem Vals.zero:∀{us:Lv},Vals [] us->us=[]
 |_,.nil=>rfl
theorem Vals.dropLast{xs:List V}(h:Vals xs us):Vals xs.dropLast us.dropLast:=by
 induction h with
 |nil=>exact .nil
 |cons r t i=>
  cases t with
  |nil=>exact .nil
  |cons q T=>exact .cons r i
theorem Vals.eraseIdx:∀{xs:List V} {us:Lv} (i:Nat),Vals xs us->Vals (xs.eraseIdx i) (us.eraseIdx i)
 |_,_,_,.nil=>.nil
 |_,_,0,.cons _ t=>t
 |_,_,i+1,.cons r t=>.cons r (Vals.eraseIdx i t)
theorem Vals.reverse{xs:List V}(h:Vals xs us):Vals xs.reverse us.reverse:=by
 induction h with
 |nil=>exact .nil
 |cons r t i=>rw[Pj,Pj];exact Vals.append i (.cons r .nil)
theorem Vals.rep{xs:List V}(h:Vals xs us):∀k:Nat,Vals (M3 k xs).flatten (M3 k us).flatten
 |0=>.nil
 |k+1=>by exact Vals.append h (Vals.rep h k)
theorem yh{a:Type}:∀(l:List a) (i:Nat),(l.eraseIdx i).length<=l.length
 | [],_=>Zg _
 |_::_,0=>Nat.le_succ _
 |_::r,i+1=>Nat.succ_le_succ (yh r i)
theorem yi(its:Lv):∀(k:Nat) (acc:Lv),
  List.foldl (λx1 x2=>x1++x2) acc.toArray (M3 k its.toArray)=(acc++(M3 k its).flatten).toArray
 |0,acc=>by simp
 |k+1,acc=>by
  have e:acc.toArray++its.toArray=(acc++its).toArray:=by simp
  have E:acc++its++(M3 k its).flatten=acc++(M3 (k+1) its).flatten:=by grind
  rw[<-E,<-yi _ k _,<-e,P6,List.foldl_cons]
section
variable {X:Cx}{σ:St}{H:Hp}{l b:MZ}{xs ys zs:List V}
theorem Inv.lset{its i:Lv}{n:Nat}{f:Av->Av}{t':Nat}(I:Inv X pq σ H s)(a:H l=some (.lst xs))
  (e:s.heap.get? l=some {cls:=.type "list",data:=.seq its.toArray n}) (c:f its.toArray=i.toArray) (g:Vals ys i) (j:ys.length<=sizeLine):
  Inv X pq σ (aZ H l (.lst ys)) {s with heap:=s.heap.update l (NC f),toks:=t'}:=by
 have q:=PySem.IsL.update e f;rw[c]at q;refine I.write (by rw[a];exact trivial) (.inl rfl) (λB u b d=>(OH _ _ (Ne.symm b)).trans d) ⟨_,q⟩ ?_;exact⟨j,_,_,g,q⟩
theorem Inv.lnew{t':Nat}(I:Inv X pq σ H s)(a:Vals ys its)(b:ys.length<=sizeLine):
  Inv X pq σ (aZ H s.heap.objs.size (.lst ys)) {s with heap:=s.heap.push {cls:=.type "list",data:=.seq its.toArray},toks:=t'}:=
 I.laid (λ_ _ q=>Zc _ q) (Zg _) ⟨b,_,0,a,Zi _ rfl⟩
theorem Inv.fresh(I:Inv X pq σ H s):H s.heap.objs.size=none:=I.hok.fresh (Zg _)
theorem Inv.lstM(I:Inv X pq σ H s)(h:H l=some (.lst xs)):xs.length<=sizeLine/\∃(its:Lv) (n:Nat),Vals xs its/\xs.length=its.length/\s.heap.get? l=some {cls:=.type "list",data:=.seq its.toArray n}:=by obtain⟨z,its,n,r,e⟩:=I.hok l _ h;exact⟨z,_,n,r,r.length,e⟩
theorem yj(h:n<=sizeLine):OY n=MX:=by exact ZD (by omega)
end
section
variable {X:Cx}
def lY:V->List V->Hp->VK->Prop:=λx vs H Q=>∃l xs y,x=.ref l/\vs=[y]/\H l=some (.lst xs)/\xs.length<sizeLine/\Q .non (aZ H l (.lst (xs++[y])))
theorem yk:ER X "list.append" lY:=by intro p s j H x vs v U Q I c b h;obtain⟨l,g,y,rfl,rfl,a,f,q⟩:=h;cases c;obtain⟨u,rfl,R⟩:=b.one;obtain⟨z,i,n,r,d,e⟩:=I.lstM a;refine OL F.slot_list_append ⟨_,e,rfl⟩ F.entry_list_append (F.args_list_append_2 _ _) (PySem.list_append l _ n u (by simp_all)) ⟨e,?_⟩;refine⟨.non,_,I.lset a e (by simp) (r.append (.cons R .nil)) ?_,rfl,q⟩;rw[Zm,OP];omega
def lZ:V->List V->Hp->VK->Prop:=λx vs H Q=>∃l b xs zs,x=.ref l/\vs=[.ref b]/\H l=some (.lst xs)/\H b=some (.lst zs)/\xs.length+zs.length<=sizeLine/\Q .non (aZ H l (.lst (xs++zs)))
theorem F8:ER X "list.extend" lZ:=by
 intro P s A H x vs v U Q I o m h;obtain⟨l,b,w,y,rfl,rfl,f,g,t,q⟩:=h;cases o;obtain⟨u,rfl,k⟩:=m.one;cases k;obtain⟨z,c,n,r,p,e⟩:=I.lstM f;obtain⟨Z,i,N,R,j,E⟩:=I.lstM g;have d:c.toArray.size+i.toArray.size<=sizeLine:=by simp_all
 have a:¬(!c.toArray.isEmpty&&OY (c.toArray.size+i.toArray.size))=MW:=by rw[yj d];simp_all
 refine OL F.slot_list_extend ⟨_,e,rfl⟩ F.entry_list_extend (F.args_list_extend_2 _ _)
  (AutoSeq1.list_extend_list_list_0 l _ n b _ _ a (by lia) (by omega)) ⟨e,E,?_⟩
 refine⟨.non,_,I.lset f e (by simp) (r.append R) ?_,rfl,q⟩;simp_all
def F9:V->List V->Hp->VK->Prop:=λx vs H Q=>∃l xs y,x=.ref l/\vs=[]/\H l=some (.lst xs)/\xs[xs.length-1]?=some y/\Q y (aZ H l (.lst xs.dropLast))
theorem sm:ER X "list.pop" F9:=by
 intro p s o H x vs v U Q I g f h;obtain⟨l,m,y,rfl,rfl,c,d,q⟩:=h;cases g;have a:=f.zero;subst a;obtain⟨z,i,n,r,j,e⟩:=I.lstM c;obtain⟨u,k,R⟩:=r.get d;have b:i.toArray[i.toArray.size-1]?=some u:=by simp_all
 refine OL F.slot_list_pop ⟨_,e,rfl⟩ F.entry_list_pop (F.args_list_pop_1 _) (MeetsSeq.list_pop_last l _ n u b (by simp_all)) ⟨e,?_⟩;refine⟨y,_,I.lset c e ?_ r.dropLast ?_,R,q⟩
 ·simp_all
 ·rw[OV];omega
def sr:V->List V->Hp->VK->Prop:=λx vs H Q=>∃l xs i k y,x=.ref l/\vs=[.int i]/\H l=some (.lst xs)/\ -(2^63)<=i/\i<2^63/\seqIndex? i xs.length=some k/\xs[k]?=some y/\Q y (aZ H l (.lst (xs.eraseIdx k)))
theorem F_:ER X "list.pop" sr:=by
 intro P s B H x vs v U Q I m j h;obtain⟨l,o,i,k,y,rfl,rfl,a,b,c,p,d,q⟩:=h;cases m;obtain⟨u,rfl,g⟩:=j.one;obtain⟨t,rfl⟩:=g;obtain⟨z,f,n,r,A,e⟩:=I.lstM a;obtain⟨w,hw,R⟩:=r.get d
 refine OL F.slot_list_pop ⟨_,e,rfl⟩ F.entry_list_pop (F.args_list_pop_2 _ _)
  (MeetsSeq.list_pop_at l _ n i t k w (fitsIndex_both b c) (by simp_all) (by simp_all) (by simp_all)) ⟨e,?_⟩
 refine⟨y,_,I.lset a e ?_ (r.eraseIdx k) ?_,R,q⟩
 ·simp_all
 ·have:=yh o k;omega
noncomputable def Ga:R2:=λx y H Q=>∃l b xs zs,x=.ref l/\y=.ref b/\H l=some (.lst xs)/\H b=some (.lst zs)/\xs.length+zs.length<=sizeLine/\∀p,H p=none->Q (.ref p) (aZ H p (.lst (xs++zs)))
theorem l4:cu X (binaryOp .Add) Ga:=by
 intro p s A H x y v u Q I j k h;obtain⟨l,b,t,w,rfl,rfl,f,d,o,q⟩:=h;subst j;subst k;obtain⟨z,a,n,r,m,e⟩:=I.lstM f;obtain⟨Z,i,N,R,g,E⟩:=I.lstM d;refine PySem.P.add_list e E ?_ (by simp_all);have c:a.toArray++i.toArray=(a++i).toArray:=by simp
 rw[c];exact⟨.ref _,_,I.lnew (r.append R) (by simp_all),rfl,q _ I.fresh⟩
noncomputable def Gb:R2:=λx y H Q=>∃l k xs,x=.ref l/\y=.int k/\H l=some (.lst xs)/\ -(2^63)<=k/\k<2^63/\xs.length*k.toNat<=sizeLine/\
 ∀p,H p=none->Q (.ref p) (aZ H p (.lst (M3 k.toNat xs).flatten))
theorem l5(xs:List α)(k:Nat):(M3 k xs).flatten.length=k*xs.length:=by simp_all
theorem ss:cu X (binaryOp .Mult) Gb:=by
 intro P s K H x y v u Q I R A h;obtain⟨l,k,J,rfl,rfl,p,j,o,w,q⟩:=h;cases R;obtain⟨t,rfl⟩:=A;obtain⟨z,i,n,r,E,e⟩:=I.lstM p;have f:i.toArray.size*k.toNat<=sizeLine:=by simp_all
 have c:¬i.toArray.size*k.toNat>(2^63-1)/8:=by
  have:(sizeLine)<=(2^63-1)/8:=by decide
  omega
 have d:¬(!Builtin.List.listFitsIndex k)=MW:=by rw[fitsIndex_both j o];simp_all
 have b:¬OY (i.toArray.size*k.toNat)=MW:=by rw[yj f];simp_all
 have g:List.foldl (λB C=>B++C) #[] (M3 (if i.toArray.isEmpty=MW then 0 else k.toNat) i.toArray)=(M3 k.toNat i).flatten.toArray:=by
  have D:=λm=>by have:=yi i m [];omega
  cases i with
  |nil=>simp
  |cons a G=>simp_all
 refine wpAny_binaryOp_repeat_ref (by lia) ⟨_,e,rfl⟩ (λS=>typeIs_int _ k t) noFill_list_mul F.fills_int_mul F.slot_int_rmul repeat_list F.slot_int_index.lookup
  (OL F.slot_int_rmul (typeIs_int s k t) F.entry_int_rmul (F.args_int_rmul_2 _ _) (int___rmul___int_list k t l _ n)
   ⟨e,rfl,⟨_,e,rfl⟩,OL F.slot_list_mul ⟨_,e,rfl⟩ F.entry_list_mul (F.args_list_mul_2 _ _) (AutoListH.list___mul___list_int_3 l _ n k t d c b) ⟨e,?_⟩⟩)
 rw[g];exact⟨.ref _,_,I.lnew (r.rep _) (by rw[l5,Nat.mul_comm];exact w),rfl,q _ I.fresh⟩
end
set_option maxRecDepth 100000 in
section
variable {X:Cx}
end
end L2
namespace Att
open PySem PySem.W PySem.Calls PyProof.Rows
theorem Gd{P:Params}:∀(ns:Li) (vs:Lv),WellAll P h vs (ns.map WData.int)->P0 vs ns:=by
 intro ns
 induction ns with
 |nil=>intro vs w;cases w;exact .nil
 |cons n ns i=>
  intro vs w;cases w with
  |cons a b=>cases a;exact .cons _ _ (i _ b)
theorem Ge{l:OpenLaw}(k:l.most=some n){P:Params}{A:List WData}{v:Lv}
  (H:l.row.toRowW.claim.pre A=MW) (f:WellAll P h v A):
  ∃a vs ns,v=[N9 a]/\A=[WData.list (ns.map WData.int)]/\h.get? a=some {cls:=.type "list",data:=.seq vs.toArray}/\P0 vs ns/\ns.length<=n:=by
 obtain⟨d,r,rfl,g,i⟩:=hasAllW_cons (pre_splitW H).1;obtain rfl:=hasAllW_nil i;obtain⟨x,rfl,j⟩:=hasW_list g;obtain⟨ns,rfl⟩:=items_int j
 have c:ns.length<=n:=by
  have e:=by have e:=(holds_andW (pre_splitW H).2).1;rw[k]at e;exact e
  have o:=condW_of e (w_not (w_lt w_lit (w_len_list (w_arg rfl))));simp_all
 cases f with
 |cons w W=>
  cases W;cases w with
  |list m b=>exact⟨_,_,_,rfl,rfl,m,Gd _ _ b,c⟩
theorem Gf(l:OpenLaw)(a:List WData):l.row.toRowW.claim.post a (.bool MW) a=MW:=
 postW_of
  (show WShape.has _ _ _=MW by rfl)
  (show(WTm.eq _ _).value _ _=some _ from w_eq_bool (w_res rfl) w_lit) rfl
theorem Gg{l:OpenLaw}{q:M5}{d:DefRec}
  (C:l.most=some n) (g:d.params.defaults=[])
  (call:∀(w:Nc) (S s:MY) (mg m:Mg) (fa:MZ) (o:Obj) (pm cd doc:M0) (a:MZ) (vs:Lv) (ns:Li),
   Ground q loose [] XP w S mg m s.heap->YP w s.heap->
   s.heap.get? fa=some o->o.data=.func (docDef d.name d.params d.body d.scope pm cd doc)->s.heap.CodeRec cd d.name->mg d.name=some (.ref fa)->
   s.heap.get? a=some {cls:=.type "list",data:=.seq vs.toArray}->P0 vs ns->ns.length<=n->s.gens= #[]->
   codeAny (model l.prog w) callerA (.call (.ref fa) ⟨[.ref a],[]⟩) (λr s'=>r=.ok (.ret (.bool MW))/\OldK s.heap s'.heap/\s'.os=s.os/\Pu s'.gens) s):
  WalkO q loose XP YP l.row.toRowW d [] (λf vs=>PySem.call f vs):=by
 intro w S s mg m G Y fa o pm cd doc D kV E x e hD i y A v as c k I j z;obtain rfl:D=.none:=Dflts.none hD g;obtain rfl:kV=.none:=Dflts.noKw hD;obtain⟨a,vs,ns,rfl,rfl,b,h,H⟩:=Ge C c j;refine enter_call (Oi (call w _ _ _ _ _ o _ _ _ a _ _ G Y E (fd_plain x) e i b h H y) λr s' F=>?_);obtain⟨rfl,p,t,u⟩:=F;exact⟨.inl ⟨_,_,_,rfl,λ_=>rfl,.bool _,Gf l _,λ_=>⟨List.Pairwise.nil,λ_ B=>nomatch B⟩⟩,p,t,u⟩
section
variable {K:Frag}
end
end Att
namespace L2
theorem yl:∀{vs:Lv} {ns:Li},P0 vs ns->Vals (ns.map V.int) vs
 |_,_,.nil=>.nil
 |_,_,.cons n t h=>.cons ⟨t,rfl⟩ (yl h)
def l6(H:Hp):Prop:=∀b,H b=none\/∃o xs,H b=some (.frz o (.lst xs))
theorem Gh{P:M5}{w:Nc}{M:Mg}{CX:dh}{k:Nat}{C:MZ}{R:NZ}{x:Str}{sp:Sp}{S:MY}{vs:Lv}{ns:Li}
  (KX:K.In S.heap) (p:S.heap.Ns mainGlobals mg) (f:S.heap.Ns builtinsNs M) (I:∀x:Str,x≠"__name__"->M x=bootBuiltins x) (l:S.heap.NoLimit) (hg:S.gens= #[])
  (G:S.heap.get? a=some {cls:=.type "list",data:=.seq vs.toArray}) (U:P0 vs ns) (hl:ns.length<=sizeLine) (hr:cC k callerA)
  (F:∀base:M8,K.In base->base.Ns mainGlobals mg->cR P w K mg base CX k C R [x] sp) (g:∀(s:MY) (u:M0),Q7 s R ⟨[u],[]⟩ [(x,u)])
  (L:∀H:Hp,l6 H->cQ K H a (ns.map V.int)->sp [.ref a] H (λv _=>v=.bl MW) λ_ _ _=>False)
  (D:∀H e s',CX [] H S (λ_ _ _=>False) e s'->False):
  codeAny (model P w) callerA (.call (.ref C) ⟨[.ref a],[]⟩) (λr s'=>r=.ok (.ret (.bool MW))/\OldK S.heap s'.heap/\s'.os=S.os/\Pu s'.gens) S:=by
 have rv:=yl U
 have c:∀H:Hp,l6 H->cQ K H a (ns.map V.int)->dU P w H S.heap->(∀b,H b≠none->b=a)->(H a≠none->K.lookup a=none)->
   codeAny (model P w) callerA (.call (.ref C) ⟨[.ref a],[]⟩) (λr s'=>r=.ok (.ret (.bool MW))/\OldK S.heap s'.heap/\s'.os=S.os/\Pu s'.gens) S:=by
  intro H T hS t hA hK;have B:∀{b:MZ} {o:Obj},S.heap.get? b=some o->H b=none->(fU S.heap H).get? b=some o:=λe n=>E6 e n;have O:∀{b:MZ} {o:Obj} {A:Array DictEntry} {E:Nat},S.heap.get? b=some o->o.data=.dict A E->H b=none:=λ{b o A E} e d=>by grind
  have N:∀{b:MZ} {m:Mg},S.heap.Ns b m->(fU S.heap H).Ns b m:=λ{b m} ⟨o,A,E,e,d,r⟩=>⟨o,A,E,B e (O e d),d,r⟩;have j:K.In (fU S.heap H):=λb o e=>B (KX b o e) (by grind);have hM:Mod K mg (fU S.heap H):=⟨j,N p,⟨M,N f,I⟩,let⟨mc,Y,Z⟩:=l;⟨mc,N Y,Z⟩⟩;refine Oi ((F _ j (N p)).run callerA [] S H ⟨[.ref a],[]⟩ [.ref a] [.ref a] _ _ hr ⟨rfl,hM,λb o e=>lu e,Nat.le_of_eq (E5 _ _),trivial,λb f=>absurd (show b∈([]:La)from f) (by simp),t,.of_eq hg⟩ (g S (.ref a)) (.cons rfl .nil) (L H T hS)) λr s' h=>?_;cases r with
  |error e=>exact(D H e s' h).elim
  |ok X=>
   cases X with
   |next=>exact False.elim h
   |brk=>exact False.elim h
   |cont=>exact False.elim h
   |ret u=>
    obtain⟨v,H',os,i,un,y,r',q⟩:=h;subst(q);obtain rfl:u=ON MW:=r';refine⟨rfl,OldK.of_keep λb o e=>?_,os,i⟩;cases q:H b with
    |none=>exact un.keep b o e q (by intro z;exact absurd (show b∈([]:La)from z) (by simp)) (by simp)
    |some u=>
     rcases T b with z| ⟨ob,xs,z⟩
     ·rw[q]at z;cases z
     ·obtain⟨Q,_⟩:=t b _ z;obtain⟨W,_⟩:=y b _ (un.frzs b ob _ z);rw[e]at Q;cases Q;exact W
 cases J:K.lookup a with
 |some o=>have e:=KX a o J;rw[G]at e;cases e;refine c (λ_=>none) (λ_=>.inl rfl) (.inr ⟨_,vs.toArray,_,J,rfl,rfl,rfl,by rw[ZB,U.length];exact hl,by grind⟩) (λb u z=>by grind) (λb z=>absurd rfl z) λz=>absurd rfl z
 |none=>
  refine c (λb=>if b=a then some _ else none) (λb=>?_) (.inl (.inr ⟨{cls:=.type "list",data:=.seq vs.toArray},if_pos rfl⟩)) (λb u z=>?_) (λb z=>?_) λ_=>J
  ·grind
  ·by_cases f:b=a
   ·cases(if_pos f).symm.trans z;subst f;exact⟨G,by grind,vs,_,rv,G⟩
   ·cases(if_neg f).symm.trans z
  simp_all
theorem l7{l:PySem.W.OpenLaw}{q:M5}{d:DefRec}{K:Params->Fg}{CX:Nc->dh}{sp:Nc->Sp}{x:Str}
  (J:l.most=some n) (p:n<=sizeLine) (j:d.params.defaults=[]) (L:cC k callerA)
  (B:∀(w:Nc) (h:M8),YP w h->(K w.params).In h)
  (F:∀(w:Nc) (mg:Mg) (fa:MZ) (h:M8),(K w.params).In h->h.Ns mainGlobals mg->mg d.name=some (.ref fa)->
   ∃fd:NZ,(∀(s:MY) (u:M0),Q7 s fd ⟨[u],[]⟩ [(x,u)])/\
    ∀base:M8,(K w.params).In base->base.Ns mainGlobals mg->cR l.prog w (K w.params) mg base (CX w) k fa fd [x] (sp w))
  (r:∀(w:Nc) (H:Hp) (a:MZ) (ns:Li),ns.length<=n->l6 H->cQ (K w.params) H a (ns.map V.int)->sp w [.ref a] H (λv _=>v=.bl MW) λ_ _ _=>False)
  (i:∀(w:Nc) (H:Hp) (s:MY) (e:M0) (s':MY),CX w [] H s (λ_ _ _=>False) e s'->False):
  PySem.W.WalkO q loose XP YP l.row.toRowW d [] (λf vs=>PySem.call f vs):=by
 refine Att.Gg J j λw S t mg P fa o Q M D a vs ns G Y O N E m g c b I=>?_;have KX:=B w _ Y;obtain⟨fd,C,y⟩:=F w _ _ _ KX G.T.g m;exact Gh KX G.T.g G.T.b G.T.builtins G.T.nolimit I g c (Zy b p) L y C (λH z A=>r w H a _ b z A) λH e s'=>i w H _ e _
noncomputable def ip(s:OB):Arguments:=match s with
 | .FunctionDef _ a _ _ _ _ _ _ _ _=>a
 |_=>{posonlyargs:=[],args:=[],vararg:=none,kwonlyargs:=[],kw_defaults:=[],kwarg:=none,defaults:=[]}
noncomputable def bY(s:OB):List OB:=match s with
 | .FunctionDef _ _ b _ _ _ _ _ _ _=>b
 |_=>[]
noncomputable def bx(s:OB):Scope:=match s with
 | .FunctionDef _ _ _ _ _ _ sc _ _ _=>sc
 |_=>{kind:=.function,names:=[],isGenerator:=MX,isCoroutine:=MX}
abbrev Gi:dh:=λ_ _ _ _ _ _=>False
abbrev E0:XK:=λ_ _ _=>False
structure qw (K:Fg)(x qual:Str)(st:OB)(f:MZ)(fd:NZ):Prop where
 ex:∃(oc:M0) (od:Option MZ) (kV doc pm:M0) (an:Option MZ) (cdv ct:M0) (osl:Array (Ov)),
  fd=PySem.W.fnOf x qual (ip st) (bY st) (bx st) .none kV doc pm an cdv ct/\K.lookup f=some ⟨oc,od,.func fd,osl⟩/\PySem.W.codeIn K cdv qual=MW
 kp:PySem.W.keepIn K (.ref f)=MW
section
variable {P:M5}
theorem qw.binds{x:Str}{a:NZ}{ps:Ls}(F:qw K x qual st f a)
  (h:∀(kV doc pm:M0) (an:Option MZ) (cdv ct:M0) (us:Lv),us.length=ps.length->bindArgs (PySem.W.fnOf x qual (ip st) (bY st) (bx st) .none kV doc pm an cdv ct) ⟨us,[]⟩=pure (ps.zip us)):Binds K a ps []:=by
 obtain⟨O,b,kV,doc,pm,an,cdv,ct,o,rfl,lk,H⟩:=F.ex;exact .all (h _ _ _ _ _ _)
theorem su{x:Str}{an:Option MZ}{kV:M0}(l:K.lookup f=some ⟨oc,od,.func (PySem.W.fnOf x qual (ip st) (bY st) (bx st) .none kV doc pm an cdv ct),osl⟩)
  (c:PySem.W.codeIn K cdv qual=MW) (k:PySem.W.keepIn K (.ref f)=MW):qw K x qual st f (PySem.W.fnOf x qual (ip st) (bY st) (bx st) .none kV doc pm an cdv ct):=⟨⟨_,_,_,_,_,_,_,_,_,rfl,l,c⟩,k⟩
end
section
variable {X:Cx}
end
end L2
variable {H H' H1 H0 Hx:L2.Hp}{X:L2.Cx}{σ σ':L2.St}{v:L2.V}{ta te to:L2.TE}{tb:L2.St->L2.Hp->(L2.St->L2.Hp->Prop)->Prop}{tc:L2.TT}{g:L2.TG}{wi:L2.TI}{r:L2.V->List L2.V->L2.Hp->L2.VK->Prop}{CX:L2.dh}{sp:L2.Sp}{u':L2.HO}{B:La->L2.Hp->Prop}
namespace Py
theorem aB{C:Prop}{a b c d:Sort _}{p q r:a->b->c->d->Prop}(h:∃x y z w,p x y z w/\q x y z w/\r x y z w)(k:∀x y z w,p x y z w->q x y z w->r x y z w->C):C:=by
 grind
theorem sv{C:Prop}{a b c d e f g h i:Sort _}{p q r:a->b->c->d->e->f->g->h->i->Prop}(z:∃x1 x2 x3 x4 x5 x6 x7 x8 x9,p x1 x2 x3 x4 x5 x6 x7 x8 x9/\q x1 x2 x3 x4 x5 x6 x7 x8 x9/\r x1 x2 x3 x4 x5 x6 x7 x8 x9)(k:∀x1 x2 x3 x4 x5 x6 x7 x8 x9,p x1 x2 x3 x4 x5 x6 x7 x8 x9->q x1 x2 x3 x4 x5 x6 x7 x8 x9->r x1 x2 x3 x4 x5 x6 x7 x8 x9->C):C:=by
 grind
theorem az{C:Prop}{a b c:Sort _}{p q r t:a->b->c->Prop}(h:∃x y z,p x y z/\q x y z/\r x y z/\t x y z)(k:∀x y z,p x y z->q x y z->r x y z->t x y z->C):C:=by
 grind
inductive D where
 |non|bl (b:Bool)|int (i:Int)|str (x:Str)
 |tup (xs:List D)|lst (xs:List D)|ref (n:Nat)|scr (xs:List D)
 |fn (x:Str)|dct|ty (n:String)|dks (ks:List (Li))
 deriving Inhabited
abbrev ae:=List (List D)
set_option genInjectivity false in
structure GS where
 mg:Mg
 F:La
noncomputable def sw(K:Fg)(H:Hp)(a:MZ)(vs:List V):Prop:=(∃o,H a=some (.frz o (.lst vs)))\/
 ∃(o:Obj) (its:Av) (n:Nat),K.lookup a=some o/\o.cls=.type "list"/\o.dict=none/\o.data=.seq its n/\its.size<=sizeLine/\Vals vs its.toList
theorem sw.sq{vs:List V}(h:sw K H a vs):cQ K H a vs:=by
 rcases h with⟨o,h⟩|h
 ·exact .inl (.inr ⟨o,h⟩)
 ·exact .inr h
noncomputable def hD(k:Li):Int:=reduceHash (Builtin.Tuple.tupleHashOf (k.map hashInt))
noncomputable def MF(h:M8)(a:MZ)(cs:List (Li×MZ)):Prop:=(a==sysModules)=MX/\∃o es ep,h.get? a=some o/\o.ExactDict/\o.data=.dict es ep/\es.toList=cs.map λc=>⟨hD c.1,.ref c.2,.bool MW⟩
section
variable (K:Fg)(mg:GS)(μ:La)(H:Hp)
mutual
def Rep:D->V->Prop
 | .non,v=>v=.non
 | .bl b,v=>v=.bl b
 | .int i,v=>v=.int i
 | .str x,v=>v=.str x
 | .tup ds,v=>∃a vs,v=.ref a/\bX K H a vs/\ah ds vs
 | .lst ds,v=>∃a vs,v=.ref a/\H a=some (.lst vs)/\(a∉μ/\a∉mg.F)/\ah ds vs
 | .scr ds,v=>∃a vs,v=.ref a/\sw K H a vs/\ah ds vs
 | .ref n,v=>∃a,v=.ref a/\μ[n]?=some a
 | .fn x,v=>∃a,v=.ref a/\mg.mg x=some (.ref a)
 | .dct,v=>∃a,v=.ref a/\H a=some (.dK [])
 | .ty n,v=>v=.ty n
 | .dks ks,v=>∃a cs,v=.ref a/\H a=some (.ext λh=>MF h a cs)/\a∉mg.F/\(cs.map (·.1)=ks/\ks.Nodup)/\∀c∈cs,bX K H c.2 (c.1.map V.int)
def ah:List D->List V->Prop
 | [],vs=>vs=[]
 |d::ds,vs=>∃w W,vs=w::W/\Rep d w/\ah ds W
end
end
structure aI (K:Fg)(mg:GS)(μ:La)(S:ae)(H:Hp):Prop where
 live:∀a∈mg.F,∃o,H a=some o
 len:μ.length=S.length
 nd:μ.Nodup
 at_:∀(n:Nat) (a:MZ) (ds:List D),μ[n]?=some a->S[n]?=some ds->∃vs,H a=some (.lst vs)/\ah K mg μ H ds vs
structure Ext (μ:La)(H:Hp)(μ':La)(H':Hp):Prop where
 pre:∃r,μ'=μ++r
 keep:∀a o,H a=some o->((∀xs,o≠.lst xs)\/a∉μ)->H' a=some o
 there:∀a o,H a=some o->∃o',H' a=some o'
 fresh:∀a∈μ',a∈μ\/H a=none
section
variable {mg:GS}{μ'':La}{H'':Hp}
theorem Ext.refl:Ext μ H μ H:=⟨⟨[],by simp⟩,λ_ _ h _=>h,λ_ o h=>⟨o,h⟩,λ_ h=>.inl h⟩
theorem Ext.trans(a:Ext μ H μ' H')(b:Ext μ' H' μ'' H''):Ext μ H μ'' H'':=by
 obtain⟨r,e⟩:=a.pre;obtain⟨R,E⟩:=b.pre;refine⟨⟨r++R,by simp_all⟩,λx o h c=>?_,λx o h=>?_,λx h=>?_⟩
 ·refine b.keep x o (a.keep x o h c) ?_;rcases c with c|c
  ·exact .inl c
  ·refine .inr λz=>?_;rcases a.fresh x z with z|z
   ·exact c z
   simp_all
 ·obtain⟨o1,d⟩:=a.there x o h;exact b.there x _ d
 ·rcases b.fresh x h with h|h
  ·exact a.fresh x h
  ·refine .inr ?_;cases e:H x with
   |none=>rfl
   |some o=>obtain⟨o1,d⟩:=a.there x o e;simp_all
theorem Ext.sqT{vs:List V}(x:Ext μ H μ' H')(h:bX K H a vs):bX K H' a vs:=by
 rcases h with(h| ⟨o,h⟩)|h
 ·exact .inl (.inl (x.keep _ _ h (.inl λ_ z=>by lia)))
 ·exact .inl (.inr ⟨o,x.keep _ _ h (.inl λ_ z=>by lia)⟩)
 ·exact .inr h
theorem Ext.frz{vs:List V}(x:Ext μ H μ' H')(h:sw K H a vs):sw K H' a vs:=by
 rcases h with⟨o,h⟩|h
 ·exact .inl ⟨o,x.keep _ _ h (.inl λ_ z=>by lia)⟩
 ·exact .inr h
theorem Ext.lst{vs:List V}(x:Ext μ H μ' H')(h:H a=some (.lst vs))(b:a∉μ):H' a=some (.lst vs)/\a∉μ':=by
 refine⟨x.keep _ _ h (.inr b),λz=>?_⟩;rcases x.fresh a z with z|z
 ·exact b z
 simp_all
theorem Ext.get(x:Ext μ H μ' H')(h:μ[n]?=some a):μ'[n]?=some a:=by
 obtain⟨r,rfl⟩:=x.pre
 grind
mutual
theorem Rep.mono(x:Ext μ H μ' H'):∀(d:D) (v:V),Rep K mg μ H d v->Rep K mg μ' H' d v
 | .non,_,h=>h
 | .bl _,_,h=>h
 | .int _,_,h=>h
 | .str _,_,h=>h
 | .tup _,v,h=>by obtain⟨a,vs,e,q,r⟩:=h;exact⟨a,_,e,x.sqT q,ah.mono x _ _ r⟩
 | .lst _,v,h=>by obtain⟨a,vs,e,q,n,r⟩:=h;exact⟨a,_,e,(x.lst q n.1).1,⟨(x.lst q n.1).2,n.2⟩,ah.mono x _ _ r⟩
 | .scr _,v,h=>by obtain⟨a,vs,e,q,r⟩:=h;exact⟨a,_,e,x.frz q,ah.mono x _ _ r⟩
 | .ref n,v,h=>by obtain⟨a,e,q⟩:=h;exact⟨a,e,x.get q⟩
 | .fn y,v,h=>h
 | .ty y,v,h=>h
 | .dct,v,h=>by obtain⟨a,e,q⟩:=h;exact⟨a,e,x.keep _ _ q (.inl λ_ z=>by lia)⟩
 | .dks _,v,h=>by obtain⟨a,C,e,q,n,r,k⟩:=h;exact⟨a,_,e,x.keep _ _ q (.inl λ_ z=>by lia),n,r,λc b=>x.sqT (k c b)⟩
theorem ah.mono(x:Ext μ H μ' H'):∀(ds:List D) (vs:List V),ah K mg μ H ds vs->ah K mg μ' H' ds vs
 | [],vs,h=>h
 |d::ds,vs,h=>by obtain⟨w,W,e,r,q⟩:=h;exact⟨w,_,e,Rep.mono x d w r,ah.mono x _ _ q⟩
end
theorem ah.length:∀{ds:List D} {vs:List V},ah K mg μ H ds vs->ds.length=vs.length
 | [],vs,h=>by subst h;rfl
 |d::ds,vs,h=>by obtain⟨w,W,rfl,r,q⟩:=h;simp[ah.length q]
theorem ah.get:∀{ds:List D} {vs:List V} {i:Nat} {d:D},ah K mg μ H ds vs->ds[i]?=some d->∃v,vs[i]?=some v/\Rep K mg μ H d v
 | [],vs,i,d,h,e=>by simp at e
 |c::ds,vs,i,d,h,e=>by
  unfold ah at h;obtain⟨w,W,rfl,r,q⟩:=h;cases i with
  |zero=>simp at e;subst e;exact⟨w,rfl,r⟩
  |succ i=>simpa using ah.get q (by simpa using e)
theorem ah.of:∀{ds:List D} {vs:List V},ds.length=vs.length->(∀(i:Nat) d v,ds[i]?=some d->vs[i]?=some v->Rep K mg μ H d v)->ah K mg μ H ds vs
 | [],[],_,_=>rfl
 | [],_::_,h,_=>by simp_all
 |_::_,[],h,_=>by simp_all
 |d::ds,v::vs,h,k=>by exact⟨v,_,rfl,k 0 d v rfl rfl,ah.of (by simp_all) λi a e b c=>k (i+1) _ _ (by simp_all) (by simp_all)⟩
theorem ah.nil:ah K mg μ H [] []:=rfl
theorem ah.cons{d:D}{ds:List D}{vs:List V}(h:Rep K mg μ H d v)(t:ah K mg μ H ds vs):ah K mg μ H (d::ds) (v::vs):=by unfold ah;lia
theorem ah.uncons{d:D}{ds:List D}{vs:List V}(h:ah K mg μ H (d::ds) vs):∃v w,vs=v::w/\Rep K mg μ H d v/\ah K mg μ H ds w:=by exact h
theorem ah.append:∀{ds es:List D} {vs w:List V},ah K mg μ H ds vs->ah K mg μ H es w->ah K mg μ H (ds++es) (vs++w)
 | [],es,vs,w,h,k=>by subst h;exact k
 |d::ds,es,vs,w,h,k=>by obtain⟨v,u,rfl,r,q⟩:=h.uncons;exact .cons r (ah.append q k)
theorem ah.take:∀{ds:List D} {vs:List V} (n:Nat),ah K mg μ H ds vs->ah K mg μ H (ds.take n) (vs.take n)
 | [],vs,n,h=>by subst h;simpa using ah.nil
 |d::ds,vs,0,h=>rfl
 |d::ds,vs,n+1,h=>by obtain⟨v,u,rfl,r,q⟩:=h.uncons;exact .cons r (ah.take n q)
theorem ah.drop:∀{ds:List D} {vs:List V} (n:Nat),ah K mg μ H ds vs->ah K mg μ H (ds.drop n) (vs.drop n)
 | [],vs,n,h=>by subst h;simpa using ah.nil
 |d::ds,vs,0,h=>h
 |d::ds,vs,n+1,h=>by obtain⟨v,u,rfl,r,q⟩:=h.uncons;exact ah.drop n q
theorem ah.reverse:∀{ds:List D} {vs:List V},ah K mg μ H ds vs->ah K mg μ H ds.reverse vs.reverse
 | [],vs,h=>by subst h;rfl
 |d::ds,vs,h=>by obtain⟨v,u,rfl,r,q⟩:=h.uncons;rw[Pj,Pj];exact ah.append (ah.reverse q) (.cons r .nil)
theorem ah.set:∀{ds:List D} {vs:List V} (i:Nat) {d:D} {v:V},ah K mg μ H ds vs->Rep K mg μ H d v->ah K mg μ H (ds.set i d) (vs.set i v)
 | [],vs,i,_,_,h,_=>by subst h;rfl
 |d::ds,vs,0,_,_,h,k=>by obtain⟨v,u,rfl,r,q⟩:=h.uncons;exact .cons k q
 |d::ds,vs,i+1,_,_,h,k=>by obtain⟨v,u,rfl,r,q⟩:=h.uncons;exact .cons r (ah.set i q k)
theorem Ext.laid{p:MZ}{o:HO}(b:H p=none):Ext μ H μ (aZ H p o):=
 ⟨⟨[],by simp⟩,λa u h _=>by rw[aD (bT h b)];exact h,λa u h=>⟨u,by rw[aD (bT h b)];exact h⟩,λ_ h=>.inl h⟩
theorem aI.notin{S:ae}{p:MZ}(s:aI K mg μ S H)(b:H p=none):p∉μ:=λz=>by obtain⟨n,a,e⟩:=ZH.mp z;have E:S[n]?=some (S[n]'(by rw[<-s.len];exact a)):=Zh _;obtain⟨vs,h,_⟩:=s.at_ n p _ (by simp_all) E;simp_all
theorem aI.notF{S:ae}{p:MZ}(s:aI K mg μ S H)(a:H p=none):p∉mg.F:=λz=>by obtain⟨o,h⟩:=s.live p z;simp_all
theorem aI.laid{S:ae}{p:MZ}{o:HO}(s:aI K mg μ S H)(b:H p=none):aI K mg μ S (aZ H p o):=by refine⟨λa h=>(Ext.laid (μ:=μ) b).there a _ (s.live a h).choose_spec,s.len,s.nd,λn a D c d=>?_⟩;obtain⟨vs,h,r⟩:=s.at_ n a _ c d;exact⟨_,by rw[aD (bT h b)];exact h,ah.mono (Ext.laid b) _ _ r⟩
theorem Ext.boxed{p:MZ}{o:HO}(b:H p=none):Ext μ H (μ++[p]) (aZ H p o):=
 ⟨⟨_,rfl⟩,λa u h _=>by rw[aD (bT h b)];exact h,λa u h=>⟨u,by rw[aD (bT h b)];exact h⟩,λa h=>by
  grind⟩
theorem aI.boxed{S:ae}{p:MZ}{ds:List D}{vs:List V}(s:aI K mg μ S H)(c:H p=none)(r:ah K mg μ H ds vs):
  aI K mg (μ++[p]) (S++[ds]) (aZ H p (.lst vs)):=by
 have N:=s.notin c;refine⟨λa h=>(Ext.laid (μ:=μ) c).there a _ (s.live a h).choose_spec,by simp[s.len],?_,λn a g d e=>?_⟩
 ·rw[Z7];exact⟨s.nd,by simp,λa i b j=>by grind⟩
 ·by_cases f:n<μ.length
  ·rw[ZX f]at d;rw[ZX (by rw[<-s.len];exact f)]at e;obtain⟨w,h,q⟩:=s.at_ n a _ d e;exact⟨_,by rw[aD (bT h c)];exact h,ah.mono (Ext.boxed c) _ _ q⟩
  ·have E:n=μ.length:=by grind
   subst E;simp[s.len]at d e;subst d;subst e;exact⟨_,bO,ah.mono (Ext.boxed c) _ _ r⟩
theorem Ext.wrote{xs:List V}{y:List V}(d:a∈μ)(h:H a=some (.lst xs)):Ext μ H μ (aZ H a (.lst y)):=by
 refine⟨⟨[],by simp⟩,λb o e c=>?_,λb o e=>?_,λ_ h=>.inl h⟩
 ·have:b≠a:=by grind
  rw[aD this];exact e
 ·by_cases z:b=a
  ·subst z;exact⟨_,bO⟩
  ·exact⟨o,by rw[aD z];exact e⟩
theorem aI.wrote{S:ae}{ds:List D}{xs vs:List V}(s:aI K mg μ S H)(hn:μ[n]?=some a)(h:H a=some (.lst xs))(r:ah K mg μ H ds vs):
  aI K mg μ (S.set n ds) (aZ H a (.lst vs)):=by
 have ha:=Zr hn;have hl:=s.len;refine⟨λb hb=>(Ext.wrote ha h).there b _ (s.live b hb).choose_spec,by simp_all,s.nd,λm b es h1 h2=>?_⟩;by_cases e:m=n
 ·subst e;rw[hn]at h1;cases h1;rw[Z4 (by grind)]at h2;cases h2;exact⟨_,bO,ah.mono (Ext.wrote ha h) _ _ r⟩
 ·rw[NE (Ne.symm e)]at h2;obtain⟨ws,q,r'⟩:=s.at_ m b _ h1 h2;have:b≠a:=by rintro rfl;exact e (L2_nodup s.nd h1 hn)
  exact⟨_,by rw[aD this];exact q,ah.mono (Ext.wrote ha h) _ _ r'⟩
where
 L2_nodup {l:List _} (nd:l.Nodup) {i j:Nat} {x:MZ} (a:l[i]?=some x) (b:l[j]?=some x):i=j:=by obtain⟨h1,e1⟩:=Zl.mp a;obtain⟨h2,e2⟩:=Zl.mp b;exact(R8 nd).mp (e1.trans e2.symm)
end
end Py
variable {xs ys ds:List Py.D}{T S S1 S' S2:Py.ae}{d:Py.D}{Γ:Str->Option Py.D}{O:MZ->List Py.D->List L2.V->L2.HO->Prop}{x5 x6 x2 x3 x4:Option Py.D}
namespace Py
open PySem.Sem (wp)
open PySem.Builtin
end Py
namespace Py
set_option genInjectivity false in
structure Exc where
 cls:Str
 fs:List D
inductive Res (α:Type) where
 |ok (a:α) (S:ae)
 |err (x:Exc) (S:ae)
 |fail
abbrev bB:Nat:=16777216
theorem iq:sizeLine=bB:=Oh
noncomputable def aT(K:Fg)(m:GS)(μ:La)(H:Hp)(Q:VK):Res D->Prop
 | .ok d S'=>∀μ' H' v,Ext μ H μ' H'->aI K m μ' S' H'->Rep K m μ' H' d v->Q v H'
 |_=>False
section
variable {mg:GS}{Q:VK}
theorem aT.now(w:aT K mg μ H Q (.ok d S))(s:aI K mg μ S H)(r:Rep K mg μ H d v):Q v H:=w _ H v .refl s r
theorem aT.tup{vs:List V}(w:aT K mg μ H Q (.ok (.tup ds) S))(s:aI K mg μ S H)(r:ah K mg μ H ds vs)(p:MZ)(h:H p=none):Q (.ref p) (aZ H p (.tup vs)):=
 w _ _ _ (.laid h) (s.laid h) (by exact⟨p,_,rfl,bX.of bO,ah.mono (.laid h) _ _ r⟩)
theorem aT.lst{vs:List V}(w:aT K mg μ H Q (.ok (.lst ds) S))(s:aI K mg μ S H)(r:ah K mg μ H ds vs)(p:MZ)(h:H p=none):Q (.ref p) (aZ H p (.lst vs)):=
 w _ _ _ (.laid h) (s.laid h) (by exact⟨p,_,rfl,bO,⟨s.notin h,s.notF h⟩,ah.mono (.laid h) _ _ r⟩)
theorem aT.box{vs:List V}(w:aT K mg μ H Q (.ok (.ref S.length) (S++[ds])))(s:aI K mg μ S H)(r:ah K mg μ H ds vs)(p:MZ)(h:H p=none):Q (.ref p) (aZ H p (.lst vs)):=
 w _ _ _ (.boxed h) (s.boxed h r) (by exact⟨p,rfl,by rw[Zz (by rw[s.len];simp_all),s.len];simp⟩)
theorem aT.wrote{xs vs:List V}(w:aT K mg μ H Q (.ok d (S.set n ds)))(s:aI K mg μ S H)(b:μ[n]?=some a)(h:H a=some (.lst xs))(r:ah K mg μ H ds vs)
  (R:Rep K mg μ H d v):Q v (aZ H a (.lst vs)):=
 w _ _ _ (.wrote (Zr b) h) (s.wrote b h r) (Rep.mono (.wrote (Zr b) h) _ _ R)
noncomputable def c7(S:ae):D->Option (List D)
 | .lst xs=>some xs
 | .ref n=>S[n]?
 |_=>none
noncomputable def av(S:ae):D->Option (List D)
 | .lst xs=>some xs
 | .ref n=>S[n]?
 | .tup xs=>some xs
 | .scr xs=>some xs
 |_=>none
theorem dj(s:aI K mg μ S H)(r:Rep K mg μ H d v)(e:c7 S d=some xs):∃a vs,v=.ref a/\H a=some (.lst vs)/\ah K mg μ H xs vs:=by
 cases d with
 |lst y=>
  cases e;unfold Rep at r
  grind
 |ref n=>obtain⟨a,E,h⟩:=r;obtain⟨vs,b,q⟩:=s.at_ n a _ h e;simp_all
 |_=>cases e
theorem eT(s:aI K mg μ S H)(r:Rep K mg μ H d v)(e:av S d=some xs):∃a vs,v=.ref a/\(cQ K H a vs\/bX K H a vs)/\ah K mg μ H xs vs:=by
 cases d with
 |lst y=>obtain⟨a,vs,E,h,q⟩:=dj s r (show c7 S (.lst y)=some xs from e);exact⟨a,vs,E,.inl (.of h),q⟩
 |ref n=>obtain⟨a,vs,E,h,q⟩:=dj s r (show c7 S (.ref n)=some xs from e);exact⟨a,vs,E,.inl (.of h),q⟩
 |tup y=>unfold av at e;cases e;unfold Rep at r;obtain⟨a,vs,e,h,q⟩:=r;exact⟨a,vs,e,.inr h,q⟩
 |scr y=>unfold av at e;cases e;unfold Rep at r;obtain⟨a,vs,e,h,q⟩:=r;exact⟨a,vs,e,.inl h.sq,q⟩
 |_=>cases e
theorem aE{i:Int}(r:Rep K mg μ H (.int i) v):v=.int i:=by exact r
theorem fV{i:Bool}(r:Rep K mg μ H (.bl i) v):v=.bl i:=by exact r
theorem fW{i:Str}(r:Rep K mg μ H (.str i) v):v=.str i:=by exact r
theorem gR(r:Rep K mg μ H .non v):v=.non:=by exact r
theorem bV(r:Rep K mg μ H (.tup ds) v):∃a vs,v=.ref a/\bX K H a vs/\ah K mg μ H ds vs:=by exact r
theorem bC{i:Int}:Rep K mg μ H (.int i) (.int i):=rfl
theorem cD{i:Bool}:Rep K mg μ H (.bl i) (.bl i):=rfl
theorem ir{i:Str}:Rep K mg μ H (.str i) (.str i):=rfl
theorem jB:Rep K mg μ H .non .non:=rfl
end
noncomputable def rD(K:Fg)(m:Mg)(g:D->D->ae->Res D):R2:=λx y H Q=>∃F μ S d e,aI K ⟨m,F⟩ μ S H/\Rep K ⟨m,F⟩ μ H d x/\Rep K ⟨m,F⟩ μ H e y/\aT K ⟨m,F⟩ μ H Q (g d e S)
noncomputable def fD(d e:D)(S:ae):Res D:=match d,e with
 | .int i,.int j=>.ok (.int (i+j)) S
 | .str x,.str y=>if x.length+y.length<=bB then .ok (.str (x++y)) S else .fail
 | .tup a,.tup b=>if a.length+b.length<=bB then .ok (.tup (a++b)) S else .fail
 |d,e=>match c7 S d,c7 S e with
  |some a,some b=>if a.length+b.length<=bB then .ok (.lst (a++b)) S else .fail
  |_,_=>.fail
noncomputable def iu(d e:D)(S:ae):Res D:=match d,e with
 | .int i,.int j=>.ok (.int (i-j)) S
 |_,_=>.fail
noncomputable def l8(d e:D)(S:ae):Res D:=match d,e with
 | .int i,.int j=>if(-(2^64)<i/\i<2^64)\/(-(2^64)<j/\j<2^64)then .ok (.int (i*j)) S else if OM i<=100000/\OM j<=100000 then .ok (.int (i*j)) S else .fail
 | .lst a,.int k=>if-(2^63)<=k/\k<2^63/\a.length*k.toNat<=bB then .ok (.lst (M3 k.toNat a).flatten) S else .fail
 |_,_=>.fail
theorem Gj:cu X (binaryOp .FloorDiv) (rI (λ_ j=>0<j/\j<2^100) λi j=>.int (i/j)):=rN λi j _ _ _ _ _ h q=>by
 have a:(0:Int)<j:=h.1;have b:j<2^100:=h.2;refine floordiv_int (by omega) (by rw[Int.fdiv_eq_ediv_of_nonneg i (by omega)];exact q) (.inl (PyProof.noPylong_of_log2 ?_));have H:j.natAbs<2^100:=by omega
 exact Qq ((Nat.log2_lt (by omega)).mpr H) (by decide)
noncomputable def fj(d e:D)(S:ae):Res D:=match d,e with
 | .int i,.int j=>if 0<j/\j<1073741824 then .ok (.int (i/j)) S else if 0<j/\j<2^100 then .ok (.int (i/j)) S else .fail
 |_,_=>.fail
noncomputable def iv(d e:D)(S:ae):Res D:=match d,e with
 | .int i,.int j=>if 0<j then .ok (.int (i%j)) S else .fail
 |_,_=>.fail
noncomputable def sx(d e:D)(S:ae):Res D:=match d,e with
 | .int i,.int j=>if 0<=j/\j<=1000000/\i.natAbs<2^64 then .ok (.int (i^j.toNat)) S else .fail
 |_,_=>.fail
noncomputable def sy(d e:D)(S:ae):Res D:=match d,e with
 | .int i,.int j=>if 0<=j then .ok (.int (i/2^j.toNat)) S else .fail
 |_,_=>.fail
noncomputable def l9(d e:D)(S:ae):Res D:=match d,e with
 | .int i,.int j=>.ok (.int (Qx i j)) S
 |_,_=>.fail
noncomputable def Gk(d e:D)(S:ae):Res D:=match d,e with
 | .int i,.int j=>.ok (.int (R9 i j)) S
 |_,_=>.fail
noncomputable def fE:QF->D->D->ae->Res D
 | .Add=>fD| .Sub=>iu| .Mult=>l8| .FloorDiv=>fj| .Mod=>iv| .Pow=>sx| .RShift=>sy| .LShift=>λ_ _ _=>.fail | .BitAnd=>l9| .BitOr=>Gk
 |_=>λ_ _ _=>.fail
theorem Gm{t b:MZ}{W:Lv}(k:Rf s.heap t #[])(g:Rf s.heap b W.toArray)
  (h1:Q (.ref b) s):wpAny (model prog w) A (binaryOp .Add (.ref t) (.ref b)) Q E s:=by
 obtain⟨⟨cls,l,D,sl⟩,e,i,n,j⟩:=id k;obtain⟨⟨c,f,d,S⟩,h,H,N,a⟩:=id g;subst i j H a
 exact RU ⟨_,e,rfl⟩ ⟨_,h,rfl⟩ QQ RA PySem.F.slot_tuple_add PySem.F.entry_tuple_add (PySem.F.args_tuple_add_2 _ _)
   (tuple_addW0 t b _ _ n _ _ _ _ _ rfl) ⟨e,h,h1⟩
theorem Gn:cu X (binaryOp .Add) (λx y H Q=>∃a b ys,x=.ref a/\y=.ref b/\bX X.K H a []/\bX X.K H b ys/\Q (.ref b) H):=by intro j s l H x y v u Q I R g h;obtain⟨a,b,ys,rfl,rfl,c,d,q⟩:=h;cases R;cases g;obtain⟨f,r,p,_⟩:=I.tuple c;obtain⟨i,k,P,_⟩:=I.tuple d;have e:=r.zero;subst e;exact Gm p P ⟨.ref b,H,I,rfl,q⟩
theorem l_:cu X (binaryOp .Mult) (rI (λi j=>OM i<=100000/\OM j<=100000) λi j=>.int (i*j)):=rN λ_ _ _ _ _ _ _ h q=>PyProof.Rows.mul_int q (PySem.IntMulOk.of_le h.1 h.2 (by lia))
theorem Gp(O:QF):cu X (binaryOp O) (rD X.K X.mg (fE O)):=by
 intro P s g H x y v u Q I r R h;obtain⟨F,n,S,d,e,c,i,j,w⟩:=h;have D:=iq;cases O with
 |Add=>
  replace w:aT X.K ⟨X.mg,F⟩ n H Q (fD d e S):=w;unfold fD at w;split at w
  ·have:=aE i;have:=aE j;subst x y
   exact rQ P s g H _ _ v u Q I r R ⟨_,_,rfl,rfl,w.now c bC⟩
  ·have:=fW i;have:=fW j;subst x y
   split at w
   ·exact FI P s g H _ _ v u Q I r R ⟨_,_,rfl,rfl,by omega,w.now c ir⟩
   ·exact w.elim
  ·split at w
   ·obtain⟨a,vs,rfl,o,q⟩:=bV i;obtain⟨b,W,rfl,l,z⟩:=bV j;have L:=q.length;have A:=z.length;cases vs with
    |nil=>refine Gn P s g H _ _ v u Q I r R ⟨a,b,W,rfl,rfl,o,l,?_⟩;rename_i as bs _;have:as=[]:=ZM (by simpa using L);subst this;exact w.now c j
    |cons v0 vs=>
     refine lW P s g H _ _ v u Q I r R ⟨a,b,v0::vs,W,rfl,rfl,o,l,by simp,by omega,?_,?_⟩
     ·intro hw;subst hw;rename_i as bs _;have:bs=[]:=ZM (by simpa using A);subst this;rw[ZY]at w;exact w.now c i
     ·intro _ p t;exact w.tup c (q.append z) p t
   ·exact w.elim
  ·split at w
   ·rename_i as bs E B;split at w
    ·obtain⟨a,vs,rfl,o,q⟩:=dj c i E;obtain⟨b,W,rfl,l,z⟩:=dj c j B;have L:=q.length;have A:=z.length;exact l4 P s g H _ _ v u Q I r R ⟨a,b,vs,W,rfl,rfl,o,l,by omega,λp t=>w.lst c (q.append z) p t⟩
    ·exact w.elim
   ·exact w.elim
 |Sub=>
  replace w:aT X.K ⟨X.mg,F⟩ n H Q (iu d e S):=w;unfold iu at w;split at w
  ·have:=aE i;have:=aE j;subst x y
   exact rR P s g H _ _ v u Q I r R ⟨_,_,rfl,rfl,w.now c bC⟩
  ·exact w.elim
 |Mult=>
  replace w:aT X.K ⟨X.mg,F⟩ n H Q (l8 d e S):=w;unfold l8 at w;split at w
  ·have:=aE i;have:=aE j;subst x y
   split at w
   ·rename_i f;exact rS P s g H _ _ v u Q I r R ⟨_,_,rfl,rfl,f,w.now c bC⟩
   ·split at w
    ·rename_i f;exact l_ P s g H _ _ v u Q I r R ⟨_,_,rfl,rfl,f,w.now c bC⟩
    ·exact w.elim
  ·split at w
   ·rename_i as k f;obtain⟨a,vs,rfl,o,q⟩:=dj c i rfl;have:=aE j;subst y;have L:=q.length;refine ss P s g H _ _ v u Q I r R ⟨a,k,vs,rfl,rfl,o,f.1,f.2.1,by rw[<-L];omega,λp t=>w.lst c ?_ p t⟩;generalize k.toNat=m;clear f w
    induction m with
    |zero=>simpa using ah.nil
    |succ m C=>rw[P6,P6,R0,R0];exact q.append C
   ·exact w.elim
  ·exact w.elim
 |FloorDiv=>
  replace w:aT X.K ⟨X.mg,F⟩ n H Q (fj d e S):=w;unfold fj at w;split at w
  ·have:=aE i;have:=aE j;subst x y
   split at w
   ·rename_i f;exact lI P s g H _ _ v u Q I r R ⟨_,_,rfl,rfl,f,w.now c bC⟩
   ·split at w
    ·rename_i f;exact Gj P s g H _ _ v u Q I r R ⟨_,_,rfl,rfl,f,w.now c bC⟩
    ·exact w.elim
  ·exact w.elim
 |Mod=>
  replace w:aT X.K ⟨X.mg,F⟩ n H Q (iv d e S):=w;unfold iv at w;split at w
  ·have:=aE i;have:=aE j;subst x y
   split at w
   ·rename_i f;exact rT P s g H _ _ v u Q I r R ⟨_,_,rfl,rfl,f,w.now c bC⟩
   ·exact w.elim
  ·exact w.elim
 |Pow=>
  replace w:aT X.K ⟨X.mg,F⟩ n H Q (sx d e S):=w;unfold sx at w;split at w
  ·have:=aE i;have:=aE j;subst x y
   split at w
   ·rename_i f;exact rV P s g H _ _ v u Q I r R ⟨_,_,rfl,rfl,f,w.now c bC⟩
   ·exact w.elim
  ·exact w.elim
 |RShift=>
  replace w:aT X.K ⟨X.mg,F⟩ n H Q (sy d e S):=w;unfold sy at w;split at w
  ·have:=aE i;have:=aE j;subst x y
   split at w
   ·rename_i f;exact rW P s g H _ _ v u Q I r R ⟨_,_,rfl,rfl,f,w.now c bC⟩
   ·exact w.elim
  ·exact w.elim
 |LShift=>exact w.elim
 |BitAnd=>
  replace w:aT X.K ⟨X.mg,F⟩ n H Q (l9 d e S):=w;unfold l9 at w;split at w
  ·have:=aE i;have:=aE j;subst x y
   exact rX P s g H _ _ v u Q I r R ⟨_,_,rfl,rfl,w.now c bC⟩
  ·exact w.elim
 |BitOr=>
  replace w:aT X.K ⟨X.mg,F⟩ n H Q (Gk d e S):=w;unfold Gk at w;split at w
  ·have:=aE i;have:=aE j;subst x y
   exact xI P s g H _ _ v u Q I r R ⟨_,_,rfl,rfl,w.now c bC⟩
  ·exact w.elim
 |_=>exact w.elim
noncomputable def fX(d e:D)(S:ae):Res D:=match c7 S d,c7 S e with
 |some a,some b=>if a.length+b.length<=bB then .ok (.ref S.length) (S++[a++b])else .fail
 |_,_=>.fail
theorem ym:cu X (binaryOp .Add) (rD X.K X.mg fX):=by
 intro P s n H x y v u Q I l m h;obtain⟨F,z,S,d,e,f,r,R,w⟩:=h;have o:=iq;unfold fX at w;split at w
 ·rename_i as bs E i;split at w
  ·obtain⟨a,vs,rfl,j,q⟩:=dj f r E;obtain⟨b,W,rfl,c,g⟩:=dj f R i;have L:=q.length;have t:=g.length;exact l4 P s n H _ _ v u Q I l m ⟨a,b,vs,W,rfl,rfl,j,c,by omega,λp k=>w.box f (q.append g) p k⟩
  ·exact w.elim
 ·exact w.elim
end Py
variable {l:List (Str×(List Py.D->Py.ae->Py.Res Py.D))}{φ:List Py.D->Py.ae->Py.Res Py.D}
namespace Py
set_option genInjectivity false in
inductive Sh where
 |non|bl (b:Bool)|int (i:Int)|str (x:Str)|tup (xs:List D)|lst (xs:List D)
noncomputable def sh(S:ae):D->Option Sh
 | .non=>some .non
 | .bl b=>some (.bl b)
 | .int i=>some (.int i)
 | .str x=>some (.str x)
 | .tup xs=>some (.tup xs)
 | .lst xs=>some (.lst xs)
 | .ref n=>(S[n]?).map .lst
 |_=>none
noncomputable def a8:List (Option Bool)->Option Bool
 | []=>some MW
 |o::r=>match o,a8 r with
  |some b,some c=>some (b&&c)
  |_,_=>none
noncomputable def w4(f:D->D->Option Bool):Sh->Sh->Option Bool
 | .non,.non=>some MW
 | .bl a,.bl b=>some (a==b)
 | .int a,.int b=>some (a==b)
 | .str a,.str b=>some (a==b)
 | .bl a,.int b=>some ((if a then 1 else 0)==b)
 | .int a,.bl b=>some (a==(if b then 1 else 0))
 | .tup a,.tup b=>(a8 (M1 f a b)).map (· &&a.length==b.length)
 | .lst a,.lst b=>if a.length=b.length then a8 (M1 f a b)else some MX
 |_,_=>some MX
noncomputable def cb(S:ae):Nat->D->D->Option Bool
 |0,_,_=>none
 |n+1,d,e=>match sh S d,sh S e with
  |some x,some y=>w4 (cb S n) x y
  |_,_=>none
noncomputable def eJ(l:List (Option Bool))(j:Nat):Bool:=match l[j]? with
 |some (some b)=>b
 |_=>MW
theorem l':∀(l:List (Option Bool)) (k:Bool),a8 l=some k->(∀(j:Nat) o,l[j]?=some o->o=some (eJ l j))/\k=(M4 l.length).all (eJ l)
 | [],k,h=>by unfold a8 at h;simp_all
 |o::r,k,h=>by
  unfold a8 at h;split at h
  ·rename_i b c E;cases h;obtain⟨H,a⟩:=l' r c E;refine⟨λj o e=>?_,?_⟩
   ·cases j with
    |zero=>simp at e;subst e;simp[eJ]
    |succ j=>rw[H j o (by grind)];simp[eJ]
   ·rw[ZC,List.range_succ_eq_map,Of,List.all_map,a];rfl
  ·cases h
section
noncomputable def sG(K:Fg)(m:GS)(μ:La)(H:Hp)(s:MY)(u:M0):Sh->Prop
 | .non=>u=.none
 | .bl b=>u=.bool b
 | .int i=>∃t,u=.int i t
 | .str x=>∃t,u=.str x t
 | .tup ds=>∃a its vs,u=.ref a/\s.heap.IsTuple a its.toArray/\Vals vs its/\ah K m μ H ds vs
 | .lst ds=>∃a its vs,u=.ref a/\s.heap.IsList a its.toArray/\Vals vs its/\ah K m μ H ds vs
theorem ma(I:Inv X pq σ H s)(c:aI X.K ⟨X.mg,F⟩ μ S H){x:Sh}(r:Rep X.K ⟨X.mg,F⟩ μ H d v)(q:RelV v u)(e:sh S d=some x):sG X.K ⟨X.mg,F⟩ μ H s u x:=by
 cases d with
 |non=>cases e;cases gR r;exact q
 |bl b=>cases e;cases fV r;exact q
 |int b=>cases e;cases aE r;exact q
 |str b=>cases e;cases fW r;exact q
 |tup f=>cases e;obtain⟨a,vs,rfl,h,k⟩:=bV r;cases q;obtain⟨i,R,p,_⟩:=I.tuple h;exact⟨a,_,_,rfl,p,R,k⟩
 |lst f=>cases e;obtain⟨a,vs,rfl,h,k⟩:=dj c r rfl;cases q;obtain⟨i,R,p,_⟩:=I.list (.of h);exact⟨a,_,_,rfl,p.isList,R,k⟩
 |ref n=>
  replace e:S[n]?.map _=some x:=e;cases E:S[n]? with
  |none=>simp_all
  |some f=>rw[E]at e;cases e;obtain⟨a,vs,rfl,h,k⟩:=dj c r E;cases q;obtain⟨i,R,p,_⟩:=I.list (.of h);exact⟨a,_,_,rfl,p.isList,R,k⟩
 |_=>cases e
def qx(A:NM)(s:MY)(f:D->D->Option Bool)(K:Fg)(m:GS)(μ:La)(H:Hp):Prop:=
 ∀d e v w u z k,Rep K m μ H d v->RelV v u->Rep K m μ H e w->RelV w z->f d e=some k->SeqAt.EqAt A s u z k
theorem yn{f:D->D->Option Bool}{m:GS}(F:qx A s f K m μ H){es:List D}{vs W:List V}{zs:Lv}(r:ah K m μ H ds vs)(q:Vals vs us)(R:ah K m μ H es W)(Q:Vals W zs){k:Bool}
  (h:a8 (M1 f ds es)=some k):∀j (h1:j<us.toArray.size) (h2:j<zs.toArray.size),SeqAt.EqAt A s us.toArray[j] zs.toArray[j] (eJ (M1 f ds es) j):=by
 intro j h1 h2;have L:=r.length;have t:=R.length;have x:=q.length;have y:=Q.length
 have l:=by simpa using h1
 have n:=by simpa using h2
 have a:ds[j]?=some (ds[j]'(by omega)):=Zh _;have b:es[j]?=some (es[j]'(by omega)):=Zh _;obtain⟨v,B,C⟩:=r.get a;obtain⟨w,c,d⟩:=R.get b;obtain⟨u,o,e⟩:=q.get B;obtain⟨z,p,g⟩:=Q.get c;have E:us.toArray[j]=u:=by simp_all
 have i:zs.toArray[j]=z:=by simp_all
 rw[E,i];exact F _ _ v w u z _ C e d g ((l' _ _ h).1 j _ (by grind))
theorem yo{f:D->D->Option Bool}{es:List D}{k:Bool}(h:a8 (M1 f ds es)=some k)(m:Nat)(H:m=min ds.length es.length):(M4 m).all (eJ (M1 f ds es))=k:=by have:=(l' _ _ h).2;simp_all
open PySem.SeqAt
theorem MG{M:GS}{f:D->D->Option Bool}(F:qx A.in1 s f K M μ H)(c:A.units<cLine){z:M0}:∀{x y:Sh} {k:Bool},sG K M μ H s u x->sG K M μ H s z y->w4 f x y=some k->
  RcAt A s u z k/\RcNeAt A s u z (!k):=by
 intro x y k j d h;cases x with
 |non=>
  cases j;cases y with
  |non=>cases d;cases h;exact⟨RcAt.none_none,RcNeAt.none_none⟩
  |bl b=>cases d;cases h;exact⟨RcAt.none_bool b,RcNeAt.none_bool b⟩
  |int b=>obtain⟨t,rfl⟩:=d;cases h;exact⟨RcAt.none_int b t,RcNeAt.none_int b t⟩
  |str b=>obtain⟨t,rfl⟩:=d;cases h;exact⟨RcAt.none_str b t,RcNeAt.none_str b t⟩
  |tup b=>obtain⟨a,e,vs,rfl,p,_⟩:=d;cases h;exact⟨RcAt.none_tuple p c,RcNeAt.none_tuple p c⟩
  |lst b=>obtain⟨a,e,vs,rfl,p,_⟩:=d;cases h;exact⟨RcAt.none_list p c,RcNeAt.none_list p c⟩
 |bl a=>
  cases j;cases y with
  |non=>cases d;cases h;exact⟨RcAt.bool_none a,RcNeAt.bool_none a⟩
  |bl b=>cases d;cases h;exact⟨RcAt.bool_bool a b,RcNeAt.bool_bool a b⟩
  |int b=>obtain⟨t,rfl⟩:=d;cases h;exact⟨RcAt.bool_int a b t,RcNeAt.bool_int a b t⟩
  |str b=>obtain⟨t,rfl⟩:=d;cases h;exact⟨RcAt.bool_str a b t,RcNeAt.bool_str a b t⟩
  |tup b=>obtain⟨_,e,vs,rfl,p,_⟩:=d;cases h;exact⟨RcAt.bool_tuple a p c,RcNeAt.bool_tuple a p c⟩
  |lst b=>obtain⟨_,e,vs,rfl,p,_⟩:=d;cases h;exact⟨RcAt.bool_list a p c,RcNeAt.bool_list a p c⟩
 |int a=>
  obtain⟨T,rfl⟩:=j;cases y with
  |non=>cases d;cases h;exact⟨RcAt.int_none a T,RcNeAt.int_none a T⟩
  |bl b=>cases d;cases h;exact⟨RcAt.int_bool a T b,RcNeAt.int_bool a T b⟩
  |int b=>obtain⟨t,rfl⟩:=d;cases h;exact⟨RcAt.int_int a T b t,RcNeAt.int_int a T b t⟩
  |str b=>obtain⟨t,rfl⟩:=d;cases h;exact⟨RcAt.int_str a T b t,RcNeAt.int_str a T b t⟩
  |tup b=>obtain⟨_,e,vs,rfl,p,_⟩:=d;cases h;exact⟨RcAt.int_tuple a T p c,RcNeAt.int_tuple a T p c⟩
  |lst b=>obtain⟨_,e,vs,rfl,p,_⟩:=d;cases h;exact⟨RcAt.int_list a T p c,RcNeAt.int_list a T p c⟩
 |str a=>
  obtain⟨T,rfl⟩:=j;cases y with
  |non=>cases d;cases h;exact⟨RcAt.str_none a T,RcNeAt.str_none a T⟩
  |bl b=>cases d;cases h;exact⟨RcAt.str_bool a T b,RcNeAt.str_bool a T b⟩
  |int b=>obtain⟨t,rfl⟩:=d;cases h;exact⟨RcAt.str_int a T b t,RcNeAt.str_int a T b t⟩
  |str b=>obtain⟨t,rfl⟩:=d;cases h;exact⟨RcAt.str_str a T b t,RcNeAt.str_str a T b t⟩
  |tup b=>obtain⟨_,e,vs,rfl,p,_⟩:=d;cases h;exact⟨RcAt.str_tuple a T p c,RcNeAt.str_tuple a T p c⟩
  |lst b=>obtain⟨_,e,vs,rfl,p,_⟩:=d;cases h;exact⟨RcAt.str_list a T p c,RcNeAt.str_list a T p c⟩
 |tup a=>
  obtain⟨G,I,V,rfl,P,q,r⟩:=j;cases y with
  |non=>cases d;cases h;exact⟨RcAt.tuple_none P c,RcNeAt.tuple_none P c⟩
  |bl b=>cases d;cases h;exact⟨RcAt.tuple_bool b P c,RcNeAt.tuple_bool b P c⟩
  |int b=>obtain⟨t,rfl⟩:=d;cases h;exact⟨RcAt.tuple_int b t P c,RcNeAt.tuple_int b t P c⟩
  |str b=>obtain⟨t,rfl⟩:=d;cases h;exact⟨RcAt.tuple_str b t P c,RcNeAt.tuple_str b t P c⟩
  |tup b=>
   obtain⟨n,i,v,rfl,g,Q,R⟩:=d;replace h:(a8 (M1 f a b)).map (· &&a.length==b.length)=some k:=h;obtain⟨O,w,J⟩:=Z3.mp h;have m:=yn F r q R Q w;have L:=r.length;have B:=R.length;have o:=q.length;have C:=Q.length
   have E:k=((M4 (min I.toArray.size i.toArray.size)).all (eJ (M1 f a b))&&I.toArray.size==i.toArray.size):=by rw[<-J,yo w _ (by grind),ZB,ZB,<-o,<-C,<-L,<-B]
   rw[E];exact⟨RcAt.tuples P g c m,RcNeAt.tuples P g c m⟩
  |lst b=>obtain⟨n,i,v,rfl,g,_⟩:=d;cases h;exact⟨RcAt.tuple_list P g c,RcNeAt.tuple_list P g c⟩
 |lst a=>
  obtain⟨G,I,V,rfl,P,q,r⟩:=j;cases y with
  |non=>cases d;cases h;exact⟨RcAt.list_none P c,RcNeAt.list_none P c⟩
  |bl b=>cases d;cases h;exact⟨RcAt.list_bool b P c,RcNeAt.list_bool b P c⟩
  |int b=>obtain⟨t,rfl⟩:=d;cases h;exact⟨RcAt.list_int b t P c,RcNeAt.list_int b t P c⟩
  |str b=>obtain⟨t,rfl⟩:=d;cases h;exact⟨RcAt.list_str b t P c,RcNeAt.list_str b t P c⟩
  |tup b=>obtain⟨n,i,v,rfl,g,_⟩:=d;cases h;exact⟨RcAt.list_tuple P g c,RcNeAt.list_tuple P g c⟩
  |lst b=>
   obtain⟨n,i,v,rfl,g,Q,R⟩:=d;have L:=r.length;have B:=R.length;have o:=q.length;have C:=Q.length
   replace h:(if a.length=b.length then a8 (M1 f a b)else some MX)=some k:=h;split at h
   ·rename_i N;have m:=yn F r q R Q h
    have E:k=(M4 I.toArray.size).all (eJ (M1 f a b)):=by rw[yo h _ (by rw[ZB,<-o,<-L];omega)]
    rw[E];have l:I.toArray.size=i.toArray.size:=by grind
    exact⟨RcAt.lists P g l c m,RcNeAt.lists P g l c m⟩
   ·rename_i N;cases h;have l:(I.toArray.size !=i.toArray.size)=MW:=by grind
    exact⟨RcAt.lists_lengths P g l c,RcNeAt.lists_lengths P g l c⟩
theorem yp(I:Inv X pq σ H s)(sk:aI X.K ⟨X.mg,F⟩ μ S H):∀(n:Nat) (d e:D) (v:V) (k:Bool),Rep X.K ⟨X.mg,F⟩ μ H d v->Rep X.K ⟨X.mg,F⟩ μ H e v->cb S n d e=some k->k=MW:=by
 intro n
 induction n with
 |zero=>intro d e v k _ _ h;cases h
 |succ n ih=>
  intro d e v k rd re h
  have L:∀(m E:List D) (vs:List V) (k:Bool),ah X.K ⟨X.mg,F⟩ μ H m vs->ah X.K ⟨X.mg,F⟩ μ H E vs->a8 (M1 (cb S n) m E)=some k->k=MW:=by
   intro m
   induction m with
   |nil=>intro E vs k _ _ h;cases h;rfl
   |cons d m Y=>
    intro E vs k R r h;obtain⟨v,W,rfl,O,b1⟩:=R.uncons;cases E with
    |nil=>cases h;rfl
    |cons e E=>
     obtain⟨v',ws',p,C,b2⟩:=r.uncons;cases p;rw[Pw]at h;unfold a8 at h;split at h
     ·rename_i x y p J;cases h;rw[ih d e v x O C p,Y E W y b1 b2 J];rfl
     ·cases h
  unfold cb at h;cases p:sh S d with
  |none=>rw[p]at h;cases h
  |some x=>
   cases J:sh S e with
   |none=>rw[p,J]at h;cases h
   |some y=>
    rw[p,J]at h;replace h:w4 (cb S n) x y=some k:=h
    obtain⟨u,ru⟩:∃u,RelV v u:=by
     cases v with
     |non=>exact⟨_,rfl⟩
     |bl b=>exact⟨_,rfl⟩
     |int i=>exact⟨.int i 0,0,rfl⟩
     |str x=>exact⟨.str x 0,0,rfl⟩
     |byt x=>exact⟨.bytes x 0,0,rfl⟩
     |flt x=>exact⟨.float x 0,0,rfl⟩
     |ref a=>exact⟨_,rfl⟩
     |ty n=>exact⟨_,rfl⟩
    have B:=ma I sk rd ru p;have s2:=ma I sk re ru J
    have len:∀{m E:List D} {vs W:List V} {us:Lv},ah X.K ⟨X.mg,F⟩ μ H m vs->Vals vs us->ah X.K ⟨X.mg,F⟩ μ H E W->Vals W us->vs=W/\m.length=E.length:=λR N r Q=>by have:=N.inj Q;subst this;exact⟨rfl,R.length.trans r.length.symm⟩
    cases x with
    |non=>
     cases B;cases y with
     |non=>cases h;rfl
     |bl b=>cases s2
     |int b=>obtain⟨t,z⟩:=s2;cases z
     |str b=>obtain⟨t,z⟩:=s2;cases z
     |tup b=>obtain⟨_,_,_,z,_⟩:=s2;cases z
     |lst b=>obtain⟨_,_,_,z,_⟩:=s2;cases z
    |bl a=>
     cases B;cases y with
     |non=>cases s2
     |bl b=>cases s2;cases h;simp
     |int b=>obtain⟨t,z⟩:=s2;cases z
     |str b=>obtain⟨t,z⟩:=s2;cases z
     |tup b=>obtain⟨_,_,_,z,_⟩:=s2;cases z
     |lst b=>obtain⟨_,_,_,z,_⟩:=s2;cases z
    |int a=>
     obtain⟨t',rfl⟩:=B;cases y with
     |non=>cases s2
     |bl b=>cases s2
     |int b=>obtain⟨t,z⟩:=s2;cases z;cases h;simp
     |str b=>obtain⟨t,z⟩:=s2;cases z
     |tup b=>obtain⟨_,_,_,z,_⟩:=s2;cases z
     |lst b=>obtain⟨_,_,_,z,_⟩:=s2;cases z
    |str a=>
     obtain⟨t',rfl⟩:=B;cases y with
     |non=>cases s2
     |bl b=>cases s2
     |int b=>obtain⟨t,z⟩:=s2;cases z
     |str b=>obtain⟨t,z⟩:=s2;cases z;cases h;simp
     |tup b=>obtain⟨_,_,_,z,_⟩:=s2;cases z
     |lst b=>obtain⟨_,_,_,z,_⟩:=s2;cases z
    |tup a=>
     obtain⟨O,l,w,rfl,M,N,R⟩:=B;cases y with
     |non=>cases s2
     |bl b=>cases s2
     |int b=>obtain⟨t,z⟩:=s2;cases z
     |str b=>obtain⟨t,z⟩:=s2;cases z
     |tup b=>
      obtain⟨C,g,A,z,P,Q,r⟩:=s2;cases z
      have T:l=g:=by
       obtain⟨o,q,_,n,K⟩:=M;obtain⟨o',f,_,Z,j⟩:=P;rw[q]at f;cases f;rw[K]at j;injection j with z _
       simpa using ZU Array.toList z
      subst T;obtain⟨rfl,U⟩:=len R N r Q;replace h:(a8 (M1 (cb S n) a b)).map (· &&a.length==b.length)=some k:=h;obtain⟨k1,e3,e4⟩:=Z3.mp h;rw[<-e4,L a b w k1 R r e3,U];simp
     |lst b=>obtain⟨C,g,A,z,P,Q,r⟩:=s2;cases z;obtain⟨o,q,c,n,K⟩:=M;obtain⟨o',f,G,Z,j⟩:=P;rw[q]at f;cases f;rw[c]at G;exact absurd G (by decide)
    |lst a=>
     obtain⟨O,l,w,rfl,M,N,R⟩:=B;cases y with
     |non=>cases s2
     |bl b=>cases s2
     |int b=>obtain⟨t,z⟩:=s2;cases z
     |str b=>obtain⟨t,z⟩:=s2;cases z
     |tup b=>obtain⟨C,g,A,z,P,Q,r⟩:=s2;cases z;obtain⟨o,q,c,n,K⟩:=M;obtain⟨o',f,G,Z,j⟩:=P;rw[q]at f;cases f;rw[c]at G;exact absurd G (by decide)
     |lst b=>
      obtain⟨C,g,A,z,P,Q,r⟩:=s2;cases z
      have T:l=g:=by
       obtain⟨o,q,_,n,K⟩:=M;obtain⟨o',f,_,Z,j⟩:=P;rw[q]at f;cases f;rw[K]at j;injection j with z _
       simpa using ZU Array.toList z
      subst T;obtain⟨rfl,U⟩:=len R N r Q;replace h:(if a.length=b.length then a8 (M1 (cb S n) a b)else some MX)=some k:=h;rw[if_pos U]at h;exact L a b w k R r h
theorem w_(I:Inv X pq σ H s)(D:aI X.K ⟨X.mg,F⟩ μ S H):∀(n:Nat) (A:NM),A.units+n<cLine->∀d e v w u z k,Rep X.K ⟨X.mg,F⟩ μ H d v->RelV v u->Rep X.K ⟨X.mg,F⟩ μ H e w->RelV w z->cb S n d e=some k->
  RcAt A s u z k/\RcNeAt A s u z (!k)/\EqAt A s u z k:=by
 intro n
 induction n with
 |zero=>intro A _ d e v w u z k _ _ _ _ h;cases h
 |succ n Y=>
  intro A Z d e v w u z k K R L o h;have m:=λ(C:v=w)=>yp I D (n+1) d e v k K (C▸L) h;unfold cb at h;cases E:sh S d with
  |none=>rw[E]at h;cases h
  |some x=>
   cases B:sh S e with
   |none=>rw[E,B]at h;cases h
   |some y=>
    rw[E,B]at h;replace h:w4 (cb S n) x y=some k:=h;have g:=ma I D K R E;have s2:=ma I D L o B;have W:A.in1.units=A.units+1:=rfl;obtain⟨G,N⟩:=MG (λd e v w u z k a b c O h=>(Y A.in1 (by omega) d e v w u z k a b c O h).2.2) (by omega) g s2 h;refine⟨G,N,?_⟩
    have r:∀{l b:MZ},u=.ref l->z=.ref b->EqAt A s u z k:=λ{l b} Q U=>by
     subst Q;subst U;by_cases J:l=b
     ·subst J
      have C:v=w:=by
       cases v<;>first| (cases R;done)|skip
       all_goals first| (obtain⟨_,q⟩:=R;cases q;done)|skip
       cases w<;>first| (cases o;done)|skip
       all_goals first| (obtain⟨_,q⟩:=o;cases q;done)|skip
       cases R;cases o;rfl
      rw[m C];exact EqAt.same _
     ·exact .of_refs J G
    have f:A.units<cLine:=by omega
    cases x with
    |non=>
     cases g;cases y with
     |non=>cases s2;cases h;exact EqAt.same _
     |bl b=>cases s2;cases h;exact EqAt.none_bool b
     |int b=>obtain⟨t,rfl⟩:=s2;cases h;exact EqAt.none_int b t
     |str b=>obtain⟨t,rfl⟩:=s2;cases h;exact EqAt.none_str b t
     |tup b=>obtain⟨a,i,vs,rfl,p,_⟩:=s2;cases h;exact EqAt.none_tuple p f
     |lst b=>obtain⟨a,i,vs,rfl,p,_⟩:=s2;cases h;exact EqAt.none_list p f
    |bl a=>
     cases g;cases y with
     |non=>cases s2;cases h;exact EqAt.bool_none a
     |bl b=>cases s2;cases h;exact EqAt.bool_bool a b
     |int b=>obtain⟨t,rfl⟩:=s2;cases h;exact EqAt.bool_int a b t
     |str b=>obtain⟨t,rfl⟩:=s2;cases h;exact EqAt.bool_str a b t
     |tup b=>obtain⟨_,i,vs,rfl,p,_⟩:=s2;cases h;exact EqAt.bool_tuple a p f
     |lst b=>obtain⟨_,i,vs,rfl,p,_⟩:=s2;cases h;exact EqAt.bool_list a p f
    |int a=>
     obtain⟨T,rfl⟩:=g;cases y with
     |non=>cases s2;cases h;exact EqAt.int_none a T
     |bl b=>cases s2;cases h;exact EqAt.int_bool a T b
     |int b=>obtain⟨t,rfl⟩:=s2;cases h;exact EqAt.int_int a T b t
     |str b=>obtain⟨t,rfl⟩:=s2;cases h;exact EqAt.int_str a T b t
     |tup b=>obtain⟨_,i,vs,rfl,p,_⟩:=s2;cases h;exact EqAt.int_tuple a T p f
     |lst b=>obtain⟨_,i,vs,rfl,p,_⟩:=s2;cases h;exact EqAt.int_list a T p f
    |str a=>
     obtain⟨T,rfl⟩:=g;cases y with
     |non=>cases s2;cases h;exact EqAt.str_none a T
     |bl b=>cases s2;cases h;exact EqAt.str_bool a T b
     |int b=>obtain⟨t,rfl⟩:=s2;cases h;exact EqAt.str_int a T b t
     |str b=>obtain⟨t,rfl⟩:=s2;cases h;exact EqAt.str_str a T b t
     |tup b=>obtain⟨_,i,vs,rfl,p,_⟩:=s2;cases h;exact EqAt.str_tuple a T p f
     |lst b=>obtain⟨_,i,vs,rfl,p,_⟩:=s2;cases h;exact EqAt.str_list a T p f
    |tup a=>
     obtain⟨M,j,V,rfl,P,_⟩:=g;cases y with
     |non=>cases s2;cases h;exact EqAt.tuple_none P f
     |bl b=>cases s2;cases h;exact EqAt.tuple_bool b P f
     |int b=>obtain⟨t,rfl⟩:=s2;cases h;exact EqAt.tuple_int b t P f
     |str b=>obtain⟨t,rfl⟩:=s2;cases h;exact EqAt.tuple_str b t P f
     |tup b=>obtain⟨_,i,vs,rfl,p,_⟩:=s2;exact r rfl rfl
     |lst b=>obtain⟨_,i,vs,rfl,p,_⟩:=s2;exact r rfl rfl
    |lst a=>
     obtain⟨M,j,V,rfl,P,_⟩:=g;cases y with
     |non=>cases s2;cases h;exact EqAt.list_none P f
     |bl b=>cases s2;cases h;exact EqAt.list_bool b P f
     |int b=>obtain⟨t,rfl⟩:=s2;cases h;exact EqAt.list_int b t P f
     |str b=>obtain⟨t,rfl⟩:=s2;cases h;exact EqAt.list_str b t P f
     |tup b=>obtain⟨_,i,vs,rfl,p,_⟩:=s2;exact r rfl rfl
     |lst b=>obtain⟨_,i,vs,rfl,p,_⟩:=s2;exact r rfl rfl
end
noncomputable def xa(eq lt:D->D->Option Bool):List D->List D->Option Bool
 | [],[]=>some MX
 | [],_::_=>some MW
 |_::_,[]=>some MX
 |a::as,b::bs=>match eq a b with
  |some MW=>xa eq lt as bs
  |some MX=>lt a b
  |none=>none
noncomputable def ji(S:ae):Nat->D->D->Option Bool
 |0,_,_=>none
 |n+1,.int a,.int b=>some (decide (a<b))
 |n+1,.tup a,.tup b=>xa (cb S n) (ji S n) a b
 |_,_,_=>none
open PySem.SeqAt
def gS(A:NM)(s:MY)(y x:M0)(b:Bool):Prop:=
 ∀(prog:M5) (w:Nc) (E:Vs) (Q:Vs),Q (.bool b) s->wpAny (model prog w) A (richCompare .Lt y x) Q E s
inductive c5 (A:NM)(s:MY):Lv->Lv->Bool->Prop where
 |nn:c5 A s [] [] MX
 |nc {w ws}:c5 A s [] (w::ws) MW
 |cn {v vs}:c5 A s (v::vs) [] MX
 |eq {v w vs ws k}:EqAt A s v w MW->c5 A s vs ws k->c5 A s (v::vs) (w::ws) k
 |lt {v w vs ws k}:EqAt A s v w MX->gS A s v w k->c5 A s (v::vs) (w::ws) k
section
open PySem.AutoSeq1 (wpAny_loadPart')
open PySem.MeetsSeq PySem.MeetsSeq2 PySem.MeetsSeq3
theorem Gq(l b:MZ)(items i:Av)(n N:Nat)(dd D:Option MZ)(sl z:Array (Ov))(k:Bool):
  Meets (N5.«tuple.__lt__» ⟨[.ref l,.ref b],[]⟩)
   (λA R s=>s.heap.get? l=some {cls:=.type "tuple",dict:=dd,data:=.seq items n,slots:=sl}/\s.heap.get? b=some {cls:=.type "tuple",dict:=D,data:=.seq i N,slots:=z}/\
    c5 A.in1 s items.toList i.toList k/\R (.ok (.ret (.bool k))) s):=
 .of_wp λp w A R s h=>by
  obtain⟨t,g,d,T,O⟩:=s;obtain⟨C,B,q,h⟩:=h;have J:=QB
  wp_walk using Pa C,Pa B,OD _ (λr b S=>b.1=none/\S=⟨t,g,d,T,O⟩/\∃(vs W:Lv),r=vs.zip W/\
   c5 A.in1 ⟨t,g,d,T,O⟩ vs W k/\vs.length+i.size=W.length+items.size/\R (.ok (.ret (.bool k))) ⟨t,g,d,T,O⟩) _
  case turn=>
   rintro⟨y,x⟩ r b S ⟨e,rfl,vs,W,a,f,H,hR⟩;cases f with
   |nn=>rw[Pk]at a;cases a
   |nc=>rw[Pk]at a;cases a
   |cn=>rw[Qd]at a;cases a
   |eq m o=>
    rw[Z2]at a;injection a with j c
    injection j with v q
    subst v q;simp only[ZC]at H;refine Za (m p w _ _ ?_)
    wp_walk
    exact⟨rfl,rfl,_,_,c,o,by omega,hR⟩
   |lt m o=>
    rw[Z2]at a;injection a with j c
    injection j with v q
    subst v q;refine Za (m p w _ _ ?_);have u:=λ(E:Vs) (Q:Vs)=>o p w E Q
    wp_walk using u
    exact⟨_,rfl,by simpa using hR⟩
  case fin=>
   rintro⟨G,I⟩ S ⟨e,rfl,vs,W,a,f,H,hR⟩;simp only at e;subst e
   have F:k=decide (items.size<i.size):=by
    cases f with
    |nn=>simp only[N1]at H;exact(ZD (by omega)).symm
    |nc=>simp only[N1,ZC]at H;exact(ZK (by omega)).symm
    |cn=>simp only[N1,ZC]at H;exact(ZD (by omega)).symm
    |eq m o=>rw[Z2]at a;cases a
    |lt m o=>rw[Z2]at a;cases a
   rw[F]at hR
   wp_walk
   exact⟨_,rfl,by simpa[PK]using hR⟩
  case h=>exact⟨rfl,rfl,items.toList,i.toList,rfl,q,by simp;omega,h⟩
end
theorem gS.tuples{l b:MZ}{vs W:Lv}{k:Bool}(m:s.heap.IsTuple l vs.toArray)(g:s.heap.IsTuple b W.toArray)(o:A.units<cLine)(r:c5 A.in1 s vs W k):gS A s (.ref l) (.ref b) k:=λp w E Q h=>by
 obtain⟨⟨cls,q,D,sl⟩,e,i,n,j⟩:=id m;obtain⟨⟨C,f,d,S⟩,H,a,N,c⟩:=id g;subst i j a c
 exact R1 ⟨_,e,rfl⟩ ⟨_,H,rfl⟩ PySem.F.slot_tuple_lt PySem.F.entry_tuple_lt (PySem.F.args_tuple_lt_2 _ _) (Gq l b _ _ n _ _ _ _ _ k)
  ⟨e,H,by lia,show ON k≠Rh/\Q _ s from⟨(λx=>nomatch x),h⟩⟩ o
def yq(A:NM)(s:MY)(y x:M0)(b:Bool):Prop:=
 ∀(prog:M5) (w:Nc) (E:Vs) (Q:Vs),Q (.bool b) s->wpAny (model prog w) A (richCompare .LtE y x) Q E s
inductive dk (A:NM)(s:MY):Lv->Lv->Bool->Prop where
 |nl {ws}:dk A s [] ws MW
 |cn {v vs}:dk A s (v::vs) [] MX
 |eq {v w vs ws k}:EqAt A s v w MW->dk A s vs ws k->dk A s (v::vs) (w::ws) k
 |le {v w vs ws k}:EqAt A s v w MX->yq A s v w k->dk A s (v::vs) (w::ws) k
section
open PySem.AutoSeq1 (wpAny_loadPart')
open PySem.MeetsSeq PySem.MeetsSeq2 PySem.MeetsSeq3
theorem Gr(l b:MZ)(xs Y:Av)(n N:Nat)(dd D:Option MZ)(sl v:Array (Ov))(k:Bool):
  Meets (N5.«tuple.__le__» ⟨[.ref l,.ref b],[]⟩)
   (λA R s=>s.heap.get? l=some {cls:=.type "tuple",dict:=dd,data:=.seq xs n,slots:=sl}/\s.heap.get? b=some {cls:=.type "tuple",dict:=D,data:=.seq Y N,slots:=v}/\
    dk A.in1 s xs.toList Y.toList k/\R (.ok (.ret (.bool k))) s):=
 .of_wp λp w A R s h=>by
  obtain⟨q,g,d,T,O⟩:=s;obtain⟨B,z,o,h⟩:=h;have I:=QB
  wp_walk using Pa B,Pa z,OD _ (λr b S=>b.1=none/\S=⟨q,g,d,T,O⟩/\∃(vs W:Lv),r=vs.zip W/\
   dk A.in1 ⟨q,g,d,T,O⟩ vs W k/\vs.length+Y.size=W.length+xs.size/\R (.ok (.ret (.bool k))) ⟨q,g,d,T,O⟩) _
  case turn=>
   rintro⟨y,x⟩ r b S ⟨e,rfl,vs,W,a,f,H,hR⟩;cases f with
   |nl=>rw[Pk]at a;cases a
   |cn=>rw[Qd]at a;cases a
   |eq j m=>
    rw[Z2]at a;injection a with i c
    injection i with u o
    subst u o;simp only[ZC]at H;refine Za (j p w _ _ ?_)
    wp_walk
    exact⟨rfl,rfl,_,_,c,m,by omega,hR⟩
   |le j m=>
    rw[Z2]at a;injection a with i c
    injection i with u o
    subst u o;refine Za (j p w _ _ ?_);have t:=λ(E:Vs) (Q:Vs)=>m p w E Q
    wp_walk using t
    exact⟨_,rfl,by simpa using hR⟩
  case fin=>
   rintro⟨F,G⟩ S ⟨e,rfl,vs,W,a,f,H,hR⟩;simp only at e;subst e
   have C:k=decide (xs.size<=Y.size):=by
    cases f with
    |nl=>simp only[N1]at H;exact(ZK (by omega)).symm
    |cn=>simp only[N1,ZC]at H;exact(ZD (by omega)).symm
    |eq j m=>rw[Z2]at a;cases a
    |le j m=>rw[Z2]at a;cases a
   rw[C]at hR
   wp_walk
   exact⟨_,rfl,by simpa[PK]using hR⟩
  case h=>exact⟨rfl,rfl,xs.toList,Y.toList,rfl,o,by simp;omega,h⟩
end
theorem Gs{l b:MZ}{vs W:Lv}{k:Bool}(m:s.heap.IsTuple l vs.toArray)(g:s.heap.IsTuple b W.toArray)(o:A.units<cLine)(r:dk A.in1 s vs W k):yq A s (.ref l) (.ref b) k:=λp w E Q h=>by
 obtain⟨⟨cls,q,D,sl⟩,e,i,n,j⟩:=id m;obtain⟨⟨C,f,d,S⟩,H,a,N,c⟩:=id g;subst i j a c
 exact R1 ⟨_,e,rfl⟩ ⟨_,H,rfl⟩ PySem.F.slot_tuple_le PySem.F.entry_tuple_le (PySem.F.args_tuple_le_2 _ _) (Gr l b _ _ n _ _ _ _ _ k)
  ⟨e,H,by lia,show ON k≠Rh/\Q _ s from⟨(λx=>nomatch x),h⟩⟩ o
noncomputable def yr:List D->List D->Option Bool
 | [],_=>some MW
 |_::_,[]=>some MX
 | .int a::as,.int b::bs=>if a=b then yr as bs else some (decide (a<=b))
 |_::_,_::_=>none
theorem jC{K:Fg}{m:GS}{μ:La}{H:Hp}{A:NM}{s:MY}:∀(ds es:List D) (vs W:List V) (us zs:Lv) (k:Bool),ah K m μ H ds vs->Vals vs us->ah K m μ H es W->Vals W zs->yr ds es=some k->dk A s us zs k
 | [],es,vs,W,us,zs,k,r,q,R,i,h=>by
  unfold ah at r;subst r;have:=q.zero;subst this
  cases h;exact .nl
 |d::ds,[],vs,W,us,zs,k,r,q,R,i,h=>by
  obtain⟨v,vs,rfl,l,B⟩:=r.uncons;unfold ah at R;subst R;have:=i.zero;subst this
  cases q;have f:some MX=some k:=by cases d<;>exact h
  cases f;exact .cn
 |d::ds,e::es,vs,W,us,zs,k,r,q,R,i,h=>by
  obtain⟨v,vs,rfl,l,B⟩:=r.uncons;obtain⟨w,W,rfl,n,o⟩:=R.uncons;cases d with
  |int a=>cases e with
   |int b=>
    have:=aE l;have:=aE n;subst v w
    cases q with
    |cons C d1=>cases i with
     |cons u d2=>
      obtain⟨t,rfl⟩:=C;obtain⟨T,rfl⟩:=u;have f:(if a=b then yr ds es else some (decide (a<=b)))=some k:=h;have g:=EqAt.int_int (A:=A) (s:=s) a t b T;by_cases c:a=b
      ·rw[if_pos c]at f;have j:(a==b)=MW:=by simpa using c
       rw[j]at g;exact .eq g (jC ds es vs W _ _ k B d1 o d2 f)
      ·rw[if_neg c]at f;have j:(a==b)=MX:=by simpa using c
       rw[j]at g;cases f;exact .le g λp w E Q x=>(PyProof.Rows.le_int x:wpAny (model p w) A (compareOp .LtE (.int _ t) (.int _ T)) Q E s)
   |_=>cases h
  |_=>
   have f:(none:Option Bool)=some k:=by cases e<;>exact h
   cases f
theorem jD(I:Inv X pq σ H s)(K:aI X.K ⟨X.mg,F⟩ μ S H):∀(n:Nat) (A:NM),A.units+n<cLine->∀d e v w u z k,Rep X.K ⟨X.mg,F⟩ μ H d v->RelV v u->Rep X.K ⟨X.mg,F⟩ μ H e w->RelV w z->ji S n d e=some k->gS A s u z k:=by
 intro n
 induction n with
 |zero=>intro A _ d e v w u z k _ _ _ _ h;cases h
 |succ n ih=>
  intro A hA d e v w u z k y G B J h;have Y:A.in1.units=A.units+1:=rfl
  have L:∀(f c:List D) (vs W:List V) (U Z:Lv),ah X.K ⟨X.mg,F⟩ μ H f vs->Vals vs U->ah X.K ⟨X.mg,F⟩ μ H c W->Vals W Z->xa (cb S n) (ji S n) f c=some k->c5 A.in1 s U Z k:=by
   intro f
   induction f with
   |nil=>
    intro c vs W U Z R g r q h;unfold ah at R;subst R;have:=g.zero;subst this
    cases c with
    |nil=>unfold ah at r;subst r;have:=q.zero;subst this;cases h;exact .nn
    |cons e c=>obtain⟨w,W,rfl,_,_⟩:=r.uncons;cases q;cases h;exact .nc
   |cons d f x=>
    intro c vs W U Z R g r q h;obtain⟨v,vs,rfl,i,M⟩:=R.uncons;cases g with
    |cons C d1=>
     cases c with
     |nil=>unfold ah at r;subst r;have:=q.zero;subst this;cases h;exact .cn
     |cons e c=>
      obtain⟨w,W,rfl,j,N⟩:=r.uncons;cases q with
      |cons l d2=>
       unfold xa at h;split at h
       ·rename_i m;exact .eq (w_ I K n A.in1 (by omega) d e v w _ _ MW i C j l m).2.2 (x c vs W _ _ M d1 N d2 h)
       ·rename_i m;exact .lt (w_ I K n A.in1 (by omega) d e v w _ _ MX i C j l m).2.2 (ih A.in1 (by omega) d e v w _ _ k i C j l h)
       ·cases h
  unfold ji at h;split at h
  ·rename_i O;cases O
  ·have:=aE y;have:=aE B;subst v w
   obtain⟨t,rfl⟩:=G;obtain⟨t',rfl⟩:=J;cases h;exact λp w E Q hq=>(PyProof.Rows.lt_int hq:wpAny (model p w) A (compareOp .Lt (.int _ t) (.int _ t')) Q E s)
  ·rename_i n' f c o;cases o;obtain⟨a,vs,rfl,P,R⟩:=bV y;obtain⟨b,W,rfl,T,r⟩:=bV B;cases G;cases J;obtain⟨U,g,p1,_⟩:=I.tuple P;obtain⟨Z,q,p2,_⟩:=I.tuple T;exact gS.tuples p1 p2 (by omega) (L f c vs W U Z R g r q h)
  ·cases h
noncomputable def bG:Nat:=40
noncomputable def jE:D->Bool
 | .non=>MW
 |_=>MX
noncomputable def a'(o:Option Bool)(S:ae):Res D:=match o with
 |some k=>.ok (.bl k) S
 |none=>.fail
noncomputable def fY(l:List (Option Bool)):Option Bool:=(a8 (l.map λo=>o.map not)).map not
noncomputable def iw(d e:D)(S:ae):Option Bool:=match av S e with
 |some xs=>fY (xs.map λy=>cb S bG y d)
 |none=>none
noncomputable def ES(d e:D)(S:ae):Res D:=match d,e with
 | .int i,.int j=>.ok (.bl (decide (i<=j))) S
 | .tup a,.tup b=>a' (yr a b) S
 |_,_=>.fail
noncomputable def Gu(d e:D)(S:ae):Res D:=match d,e with
 | .int i,.int j=>.ok (.bl (decide (j<i))) S
 |_,_=>.fail
noncomputable def Gv(d e:D)(S:ae):Res D:=match d,e with
 | .int i,.int j=>.ok (.bl (decide (j<=i))) S
 |_,_=>.fail
noncomputable def Gw(d e:D)(S:ae):Res D:=match e with
 | .non=>.ok (.bl (jE d)) S
 |_=>.fail
noncomputable def sH(d e:D)(S:ae):Res D:=match e with
 | .non=>.ok (.bl (!jE d)) S
 |_=>.fail
noncomputable def aF(o:O5)(d e:D)(S:ae):Res D:=match o with
 | .Eq=>a' (cb S bG d e) S
 | .NotEq=>a' ((cb S bG d e).map not) S
 | .Lt=>a' (ji S bG d e) S
 | .LtE=>ES d e S
 | .Gt=>Gu d e S
 | .GtE=>Gv d e S
 | .In=>a' (iw d e S) S
 | .NotIn=>a' ((iw d e S).map not) S
 | .Is=>Gw d e S
 | .IsNot=>sH d e S
theorem yt{m:GS}(r:Rep K m μ H d v):decide (v=.non)=jE d:=by
 cases d with
 |non=>cases gR r;rfl
 |bl b=>cases fV r;rfl
 |int b=>cases aE r;rfl
 |str b=>cases fW r;rfl
 |tup b=>obtain⟨a,vs,rfl,_⟩:=bV r;rfl
 |lst b=>obtain⟨a,vs,rfl,_⟩:=r;rfl
 |ref b=>obtain⟨a,rfl,_⟩:=r;rfl
 |scr b=>obtain⟨a,vs,rfl,_⟩:=r;rfl
 |fn b=>obtain⟨a,rfl,_⟩:=r;rfl
 |dct=>obtain⟨a,rfl,_⟩:=r;rfl
 |dks b=>obtain⟨a,_,rfl,_⟩:=r;rfl
 |ty n=>cases r;rfl
theorem fF{m:GS}{Q:VK}{o:Option Bool}(w:aT K m μ H Q (a' o S))(s:aI K m μ S H):∃k,o=some k/\Q (.bl k) H:=by
 cases o with
 |none=>exact w.elim
 |some k=>exact⟨k,rfl,w.now s cD⟩
theorem yu{l:List (Option Bool)}{k:Bool}(h:fY l=some k):(∀o∈l,o.isSome=MW)/\k=l.any (λo=>o==some MW):=by
 unfold fY at h;obtain⟨K,e,E⟩:=Z3.mp h;subst E;clear h
 induction l generalizing K with
 |nil=>cases e;exact⟨by simp,rfl⟩
 |cons o r I=>
  rw[ZZ]at e;unfold a8 at e;split at e
  ·rename_i b c a d;cases e;obtain⟨g,i⟩:=I c d;obtain⟨B,rfl,f⟩:=Z3.mp a;subst f;refine⟨λo H=>?_,?_⟩
   ·rcases Zf.mp H with rfl|H
    ·rfl
    ·exact g o H
   ·rw[List.any_cons,<-i];cases B<;>cases c<;>rfl
  ·cases e
theorem qy(I:Inv X pq σ H s)(E:aI X.K ⟨X.mg,F⟩ μ S H)(hu:A.units+64<cLine){e:D}{w:V}{z:M0}{k:Bool}(W:Rep X.K ⟨X.mg,F⟩ μ H d v)(Z:RelV v u)(Y:Rep X.K ⟨X.mg,F⟩ μ H e w)(rz:RelV w z)
  (h:iw d e S=some k):∃(a:MZ) (its:Lv) (f:M0->Bool),z=.ref a/\(s.heap.IsList a its.toArray\/s.heap.IsTuple a its.toArray)/\(∀y∈its.toArray,EqAt A.in1 s y u (f y))/\its.toArray.any f=k:=by
 unfold iw at h;split at h
 ·rename_i g G;obtain⟨a,vs,rfl,l,r⟩:=eT E Y G;cases rz
  obtain⟨its,q,U⟩:∃its,Vals vs its/\(s.heap.IsList a its.toArray\/s.heap.IsTuple a its.toArray):=by
   rcases l with l|l
   ·obtain⟨its,q,p,_⟩:=I.list l;exact⟨its,q,.inl p.isList⟩
   ·obtain⟨its,q,p,_⟩:=I.tuple l;exact⟨its,q,.inr p⟩
  have Q:A.in1.units=A.units+1:=rfl;have P:bG=40:=rfl;obtain⟨K,L⟩:=yu h
  classical
  have at_:∀(j:Nat) (x:D) (y:M0),g[j]?=some x->its[j]?=some y->∀b,cb S bG x d=some b->EqAt A.in1 s y u b:=λj x y n t b m=>by obtain⟨v',M,N⟩:=r.get n;obtain⟨y',B,O⟩:=q.get M;rw[t]at B;cases B;exact(w_ I E bG A.in1 (by omega) x d v' v _ u b N O W Z m).2.2
  have len:g.length=its.length:=r.length.trans q.length;refine⟨a,its,λy=>decide (∃(j:Nat) (x:D),its[j]?=some y/\g[j]?=some x/\cb S bG x d=some MW),rfl,U,λy t=>?_,?_⟩
  ·obtain⟨j,R,J⟩:=ZH.mp (show y∈its by simpa using t);have c:its[j]?=some y:=by grind
   have i:g[j]?=some (g[j]'(by omega)):=Zh _;by_cases C:∃(j:Nat) (x:D),its[j]?=some y/\g[j]?=some x/\cb S bG x d=some MW
   ·grind
   ·show EqAt A.in1 s y u (decide (∃(j:Nat) (x:D),its[j]?=some y/\g[j]?=some x/\cb S bG x d=some MW));rw[ZD C];obtain⟨b,m⟩:=N3.mp (K (cb S bG (g[j]'(by omega)) d) (Zo.mpr ⟨_,Zr i,rfl⟩));cases b with
    |false=>exact at_ j _ y i c MX m
    |true=>exact absurd ⟨j,_,c,i,m⟩ C
  ·rw[L];apply NJ.mpr;rw[List.any_toArray,Ot,Ot];constructor
   ·grind
   ·rintro⟨o,T,P⟩;obtain⟨x,n,rfl⟩:=Zo.mp T;obtain⟨j,R,J⟩:=ZH.mp n;have c:its[j]?=some (its[j]'(by omega)):=Zh _;exact⟨_,Zr c,ZK ⟨j,x,c,by grind,by grind⟩⟩
 ·cases h
theorem dn(O:O5)(B:X.A.units+64<cLine):cu X (compareOp O) (rD X.K X.mg (aF O)):=by
 intro p s l H x y v u Q I i j h;obtain⟨F,n,S,d,e,c,r,R,w⟩:=h;have T:bG=40:=rfl;have fin:∀{k:Bool},Q (.bl k) H->EP X p l Q (.bool k) s:=λ{k} q=>⟨.bl k,H,I,rfl,q⟩;cases O with
 |Eq=>obtain⟨k,E,q⟩:=fF (o:=cb S bG d e) w c;exact(w_ I c bG X.A (by omega) d e x y v u k r i R j E).1 X.prog X.w _ _ (fin q)
 |NotEq=>obtain⟨k,E,q⟩:=fF (o:=(cb S bG d e).map not) w c;obtain⟨K,t,rfl⟩:=Z3.mp E;exact(w_ I c bG X.A (by omega) d e x y v u K r i R j t).2.1 X.prog X.w _ _ (fin q)
 |Lt=>obtain⟨k,E,q⟩:=fF (o:=ji S bG d e) w c;exact jD I c bG X.A (by omega) d e x y v u k r i R j E X.prog X.w _ _ (fin q)
 |LtE=>
  replace w:aT X.K ⟨X.mg,F⟩ n H Q (ES d e S):=w;unfold ES at w;split at w
  ·have:=aE r;have:=aE R;subst x y
   exact xK p s l H _ _ v u Q I i j ⟨_,_,rfl,rfl,w.now c cD⟩
  ·rename_i as bs;obtain⟨k,E,q⟩:=fF (o:=yr as bs) w c;obtain⟨a,vs,rfl,C,M⟩:=bV r;obtain⟨b,W,rfl,D,N⟩:=bV R;cases i;cases j;obtain⟨U,J,P,_⟩:=I.tuple C;obtain⟨Z,L,G,_⟩:=I.tuple D;exact Gs P G (by omega) (jC as bs vs W U Z k M J N L E) X.prog X.w _ _ (fin q)
  ·exact w.elim
 |Gt=>
  replace w:aT X.K ⟨X.mg,F⟩ n H Q (Gu d e S):=w;unfold Gu at w;split at w
  ·have:=aE r;have:=aE R;subst x y
   exact xL p s l H _ _ v u Q I i j ⟨_,_,rfl,rfl,w.now c cD⟩
  ·exact w.elim
 |GtE=>
  replace w:aT X.K ⟨X.mg,F⟩ n H Q (Gv d e S):=w;unfold Gv at w;split at w
  ·have:=aE r;have:=aE R;subst x y
   exact xM p s l H _ _ v u Q I i j ⟨_,_,rfl,rfl,w.now c cD⟩
  ·exact w.elim
 |In=>
  obtain⟨k,E,q⟩:=fF (o:=iw d e S) w c;obtain⟨a,z,f,rfl,g,m,rfl⟩:=qy I c (A:=X.A) B r i R j E;rcases g with g|g
  ·exact in_listAt f g m (fin q)
  ·exact in_tupleAt f g m (fin q)
 |NotIn=>
  obtain⟨k,E,q⟩:=fF (o:=(iw d e S).map not) w c;obtain⟨K,t,rfl⟩:=Z3.mp E;obtain⟨a,z,f,rfl,g,m,rfl⟩:=qy I c (A:=X.A) B r i R j t;rcases g with g|g
  ·exact notIn_listAt f g m (fin q)
  ·exact notIn_tupleAt f g m (fin q)
 |Is=>
  replace w:aT X.K ⟨X.mg,F⟩ n H Q (Gw d e S):=w;unfold Gw at w;split at w
  ·cases gR R;exact r8 p s l H _ _ v u Q I i j ⟨rfl,by rw[yt r];exact w.now c cD⟩
  ·exact w.elim
 |IsNot=>
  replace w:aT X.K ⟨X.mg,F⟩ n H Q (sH d e S):=w;unfold sH at w;split at w
  ·cases gR R;exact lM p s l H _ _ v u Q I i j ⟨rfl,by rw[yt r];exact w.now c cD⟩
  ·exact w.elim
end Py
namespace Py
def rC(K:Fg)(m:Mg)(g:List D->ae->Res D):List V->Hp->VK->Prop:=λxs H Q=>∃F μ S ds,aI K ⟨m,F⟩ μ S H/\ah K ⟨m,F⟩ μ H ds xs/\aT K ⟨m,F⟩ μ H Q (g ds S)
theorem ah.one{m:GS}{vs:List V}(r:ah K m μ H [d] vs):∃v,vs=[v]/\Rep K m μ H d v:=by obtain⟨v,w,rfl,h,t⟩:=r.uncons;unfold ah at t;simp_all
theorem ah.two{m:GS}{e:D}{vs:List V}(r:ah K m μ H [d,e] vs):∃v w,vs=[v,w]/\Rep K m μ H d v/\Rep K m μ H e w:=by obtain⟨v,W,rfl,h,t⟩:=r.uncons;obtain⟨w,rfl,a⟩:=t.one;lia
theorem me{m:GS}{vs:List V}{i:Int}(r:ah K m μ H ds vs)(h:gL ds i=some d):∃v,gL vs i=some v/\Rep K m μ H d v:=by
 unfold gL at h⊢;rw[<-r.length];cases e:hX _ i with
 |none=>simp_all
 |some j=>rw[e]at h;exact r.get h
noncomputable def bP(d e:D)(S:ae):Res D:=match av S d,e with
 |some xs,.int i=>match gL xs i with
  |some y=>.ok y S
  |none=>.fail
 |_,_=>.fail
theorem Gx:EQ X (rD X.K X.mg bP):=by
 intro V g p s A H x y v u Q I R l h b;obtain⟨F,t,S,d,e,f,n,o,w⟩:=h;unfold bP at w;split at w
 ·rename_i q i E;split at w
  ·rename_i Y m;obtain⟨a,vs,rfl,c,r⟩:=eT f n E;cases aE o;obtain⟨z,j,k⟩:=me r m;rcases c with c|c
   ·exact sg _ _ _ s _ H _ _ v u Q I R l ⟨a,_,i,z,rfl,rfl,c,j,w.now f k⟩ b
   ·exact si _ _ _ s _ H _ _ v u Q I R l ⟨a,_,i,z,rfl,rfl,c,j,w.now f k⟩ b
  ·exact w.elim
 ·exact w.elim
noncomputable def dM(ds:List D)(S:ae):Res D:=match ds with
 | [.str x]=>if x.length<=bB then .ok (.int x.length) S else .fail
 | [d]=>match av S d with
  |some xs=>.ok (.int xs.length) S
  |none=>.fail
 |_=>.fail
theorem yv:aS X (.builtin "len") (rC X.K X.mg dM):=by
 intro p s k H i u Q I r h;obtain⟨F,j,S,D,c,R,w⟩:=h;have g:=iq;unfold dM at w;split at w
 ·split at w
  ·obtain⟨v,rfl,b⟩:=R.one;cases fW b;exact F5 _ s _ H _ _ Q I r ⟨_,rfl,by omega,w.now c bC⟩
  ·exact w.elim
 ·split at w
  ·rename_i x e;obtain⟨v,rfl,b⟩:=R.one;obtain⟨a,vs,rfl,d,f⟩:=eT c b e;refine F4 _ s _ H _ _ Q I r ⟨a,_,rfl,d,?_⟩;rw[<-f.length];exact w.now c bC
  ·exact w.elim
 ·exact w.elim
noncomputable def mf(ds:List D)(S:ae):Res D:=match ds with
 | [.tup xs]=>.ok (.tup xs) S
 | [d]=>match av S d with
  |some xs=>.ok (.tup xs) S
  |none=>.fail
 |_=>.fail
theorem yw{m:GS}(s:aI K m μ S H)(r:Rep K m μ H d v)(e:av S d=some xs)(b:∀ys,d≠.tup ys):∃a vs,v=.ref a/\cQ K H a vs/\ah K m μ H xs vs:=by
 cases d with
 |lst ys=>obtain⟨a,vs,E,h,q⟩:=dj s r (show c7 S _=some _ from e);exact⟨a,_,E,.of h,q⟩
 |ref n=>obtain⟨a,vs,E,h,q⟩:=dj s r (show c7 S _=some _ from e);exact⟨a,_,E,.of h,q⟩
 |tup ys=>simp_all
 |scr ys=>cases e;obtain⟨a,vs,e,h,q⟩:=r;exact⟨a,_,e,h.sq,q⟩
 |_=>cases e
theorem mi:aS X (.type "tuple") (rC X.K X.mg mf):=by
 intro P s m H k u Q I r h;obtain⟨F,l,S,D,f,g,w⟩:=h;unfold mf at w;split at w
 ·obtain⟨v,rfl,b⟩:=g.one;obtain⟨a,vs,rfl,c,R⟩:=bV b;exact yf _ s _ H _ _ Q I r ⟨a,_,rfl,.inr ⟨c,w.now f b⟩⟩
 ·rename_i d i;split at w
  ·rename_i x e;obtain⟨v,rfl,b⟩:=g.one;obtain⟨a,vs,rfl,c,R⟩:=yw f b e λy z=>i y (by lia);exact yf _ s _ H _ _ Q I r ⟨a,_,rfl,.inl ⟨c,λp j=>w.tup f R p j⟩⟩
  ·exact w.elim
 ·exact w.elim
noncomputable def jF(box:Bool)(ds:List D)(S:ae):Res D:=match ds with
 | [d]=>match av S d with
  |some xs=>if box then .ok (.ref S.length) (S++[xs])else .ok (.lst xs) S
  |none=>.fail
 |_=>.fail
theorem sI(box:Bool):aS X (.type "list") (rC X.K X.mg (jF box)):=by
 intro P s k H i u Q I r h;obtain⟨F,j,S,D,b,g,w⟩:=h;unfold jF at w;split at w
 ·split at w
  ·rename_i x e;obtain⟨v,rfl,f⟩:=g.one;obtain⟨a,vs,rfl,d,R⟩:=eT b f e;refine F6 _ s _ H _ _ Q I r ⟨a,_,rfl,d,λp c=>?_⟩;split at w
   ·exact w.box b R p c
   ·exact w.lst b R p c
  ·exact w.elim
 ·exact w.elim
noncomputable def intD(ds:List D)(S:ae):Res D:=match ds with
 | [.int i]=>.ok (.int i) S
 | [.bl b]=>.ok (.int (if b then 1 else 0)) S
 |_=>.fail
theorem yx:aS X (.type "int") (rC X.K X.mg intD):=by
 intro p s e H x u Q I r h;obtain⟨F,c,S,d,b,R,w⟩:=h;unfold intD at w;split at w
 ·obtain⟨v,rfl,a⟩:=R.one;cases aE a;exact xP _ s _ H _ _ Q I r (.inl ⟨_,rfl,w.now b bC⟩)
 ·obtain⟨v,rfl,a⟩:=R.one;cases fV a;exact xP _ s _ H _ _ Q I r (.inr ⟨_,rfl,w.now b bC⟩)
 ·exact w.elim
noncomputable def mj(ds:List D)(S:ae):Res D:=match ds with
 | [.int i,.int j]=>.ok (.int (if j<i then j else i)) S
 |_=>.fail
noncomputable def ml(ds:List D)(S:ae):Res D:=match ds with
 | [.int i,.int j]=>.ok (.int (if j>i then j else i)) S
 |_=>.fail
theorem yy(a:X.calm=MW):aS X (.builtin "min") (rC X.K X.mg mj):=by
 intro p s f H x u Q I r h;obtain⟨F,e,S,d,c,R,w⟩:=h;unfold mj at w;split at w
 ·obtain⟨v,W,rfl,b,hw⟩:=R.two;cases aE b;cases aE hw;exact FK a _ s _ H _ _ Q I r ⟨_,_,rfl,w.now c bC⟩
 ·exact w.elim
theorem yz(a:X.calm=MW):aS X (.builtin "max") (rC X.K X.mg ml):=by
 intro p s f H x u Q I r h;obtain⟨F,e,S,d,c,R,w⟩:=h;unfold ml at w;split at w
 ·obtain⟨v,W,rfl,b,hw⟩:=R.two;cases aE b;cases aE hw;exact FJ a _ s _ H _ _ Q I r ⟨_,_,rfl,w.now c bC⟩
 ·exact w.elim
noncomputable def bH(S:ae):D->Option Bool
 | .non=>some MX
 | .bl b=>some b
 | .int i=>some (i !=0)
 | .str x=>if x.length<=bB then some ((x.length:Int) !=0)else none
 |d=>(av S d).map λxs=> !xs.isEmpty
theorem qz{m:GS}{k:Bool}(j:aI K m μ S H)(r:Rep K m μ H d v)(e:bH S d=some k):il K v H k:=by
 have l:=iq
 have seq:∀(x:List D),av S d=some x->k= !x.isEmpty->il K v H k:=λx f E=>by
  obtain⟨a,vs,rfl,c,q⟩:=eT j r f;have i:=q.length;have g:x.isEmpty=vs.isEmpty:=by cases x<;>cases vs<;>simp at i⊢
  rw[g]at E;rcases c with c|c
  ·exact .inl ⟨_,c,E⟩
  ·exact .inr (.inl ⟨_,c,E⟩)
 have s:(av S d).map _=some k->il K v H k:=λh=>by obtain⟨x,f,E⟩:=Z3.mp h;exact seq _ f E.symm
 cases d with
 |non=>cases gR r;cases e;rfl
 |bl b=>cases fV r;cases e;rfl
 |int b=>cases aE r;cases e;rfl
 |str b=>
  cases fW r;replace e:(if b.length<=bB then some _ else none)=some k:=e;split at e
  ·cases e;exact⟨by omega,rfl⟩
  ·cases e
 |tup b=>exact s e
 |lst b=>exact s e
 |ref b=>exact s e
 |scr b=>exact s e
 |fn b=>exact s e
 |dct=>exact s e
 |dks b=>exact s e
 |ty b=>exact s e
noncomputable def a9(xs:List D)(l h:Option Int):List D:=(xs.drop (HT.cc xs.length 0 l)).take (HT.cc xs.length xs.length h-HT.cc xs.length 0 l)
theorem yA{m:GS}{vs:List V}{l:Option Int}(r:ah K m μ H ds vs):ah K m μ H (a9 ds l hi) (io vs l hi):=by unfold a9 io;rw[r.length];exact(r.drop _).take _
noncomputable def mm(d:D)(l h:Option Int)(S:ae):Res D:=match d with
 | .tup xs=>.ok (.tup (a9 xs l h)) S
 |d=>match av S d with
  |some xs=>.ok (.lst (a9 xs l h)) S
  |none=>.fail
def MH(K:Fg)(m:Mg):V->Option Int->Option Int->Hp->VK->Prop:=λx lo hi H Q=>∃F μ S d,aI K ⟨m,F⟩ μ S H/\Rep K ⟨m,F⟩ μ H d x/\aT K ⟨m,F⟩ μ H Q (mm d lo hi S)
theorem Gy{t:MZ}{l:Option Int}(H:Rf s.heap t items)(hs:s.heap.IsSliceOf sl vl vu .none)(pl:Qg vl l)(p:Qg vu hi)
  (hw:HT.cc items.size 0 l=0/\HT.cc items.size items.size hi=items.size) (h:Q (.ref t) s):wpAny (model prog w) A (getItem (.ref t) (.ref sl)) Q E s:=by
 obtain⟨o,b,a,c⟩:=id hs;unfold getItem
 try with_reducible refine ZI ?_
 refine Za (QH H.typeIs (rfl) ?_)
 refine Za (ZT H.typeIs Z6
  (ZR Z6 H.typeIs Qp ?_ (Qz _ _)))
 show wpAny _ _ (OO _>>=_) _ _ s;refine Za (RB H ?_);refine Za (OT ⟨_,b,a⟩ ?_);refine Za (HT.xZ hs pl p ?_);show wpAny _ _ (if(((HT.cc _ 0 _:Nat):Int)==0&&(1)==1&&(HT.cc _ _ _-HT.cc _ 0 _)==items.size)=MW then _ else _) _ _ s;rw[if_pos (by simp_all)];exact Za (Za (OT H.typeIs (Zd (Za (O1 (Zd ⟨_,rfl,Zd h⟩))))))
theorem Gz:EO X (MH X.K X.mg):=by
 intro y s B H x v V A l f sl Q I o k P n h;obtain⟨F,G,S,d,i,R,w⟩:=h;unfold mm at w;split at w
 ·rename_i q;obtain⟨a,vs,rfl,g,r⟩:=bV R;have t:=r.length;by_cases c:HT.cc vs.length 0 l=0/\HT.cc vs.length vs.length f=vs.length
  ·cases o;obtain⟨m,D,u,E⟩:=I.tuple g;have b:m.toArray.size=vs.length:=by rw[ZB];exact D.length.symm
   refine⟨"tuple",_,PyProof.Rows.slot_tuple_getitem.lookup,u.typeIs,?_⟩;refine Gy u k P n (by rw[b];exact c) ⟨.ref a,H,I,rfl,?_⟩;have e:a9 q l f=q:=by unfold a9;rw[t,c.1,c.2];simp[<-t]
   rw[e]at w;exact w.now i R
  ·exact sl_tup y s B H _ v V A l f sl Q I o k P n ⟨a,vs,rfl,g,c,λp j=>w.tup i (yA r) p j⟩
 ·rename_i d C;split at w
  ·rename_i q e;obtain⟨a,vs,rfl,g,r⟩:=yw i R e (λY z=>C Y z);exact lX y s B H _ v V A l f sl Q I o k P n ⟨a,vs,rfl,g,λp j=>w.lst i (yA r) p j⟩
  ·exact w.elim
noncomputable def sJ(S:ae):D->Option String
 | .non=>some "NoneType"
 | .bl _=>some "bool"
 | .int _=>some "int"
 | .str _=>some "str"
 | .tup _=>some "tuple"
 | .lst _=>some "list"
 | .ref n=>(S[n]?).map λ_=>"list"
 | .scr _=>some "list"
 | .dct=>some "dict"
 |_=>none
noncomputable def jG(t c:String):Option Bool:=
 if ["NoneType","bool","int","str","tuple","list","dict"].contains t&&["bool","int","str","tuple","list","dict"].contains c then some (t==c||(t=="bool"&&c=="int"))else none
theorem mn{t c:String}{b:Bool}(h:jG t c=some b):PySem.W.kitOne K (.type t) (.type c)=some b:=by
 unfold jG at h;split at h
 ·rename_i H;simp at H;cases h;obtain⟨a,d⟩:=H;rcases a with rfl|rfl|rfl|rfl|rfl|rfl|rfl<;>rcases d with rfl|rfl|rfl|rfl|rfl|rfl<;>first|rfl|decide+kernel
 ·cases h
noncomputable def fG(ds:List D)(S:ae):Res D:=match ds with
 | [d,.ty c]=>match sJ S d with
  |some t=>a' (jG t c) S
  |none=>.fail
 |_=>.fail
theorem GA:aS X (.builtin "isinstance") (rC X.K X.mg fG):=by
 intro P s B H V us Q I r h;obtain⟨F,μ,S,W,m,N,w⟩:=h;unfold fG at w;split at w
 ·rename_i d c;split at w
  ·rename_i t E;obtain⟨b,J,q⟩:=fF w m;obtain⟨v,z,rfl,g,x⟩:=N.two;have k:z=.ty c:=by unfold Rep at x;exact x
   subst k;obtain⟨u,y,rfl,R,U⟩:=r.two;cases U;have e:=mn (K:=X.K) J;have fin:∀T,EP X P B Q (.bool b) {s with toks:=T}:=λT=>⟨.bl b,H,I.tok _,rfl,q⟩
   have lst:∀a vs,v=.ref a->cQ X.K H a vs->t="list"->wpAny (model X.prog X.w) X.A (call _ [u,.type c]) (EP X P B Q) X.xe s:=λa vs L f E=>by subst L;subst E;cases R;obtain⟨l,O,M,_⟩:=I.list f;obtain⟨o,i,j,_⟩:=M.isList;exact PySem.W.kia_one PySem.W.kitx_list I.kIn ⟨o,i,j⟩ e (λz=>nomatch z) fin
   cases d with
   |non=>cases gR g;cases R;cases E;exact PySem.W.kia_one PySem.W.kitx_none I.kIn QM e (λz=>nomatch z) fin
   |bl b=>cases fV g;cases R;cases E;exact PySem.W.kia_one PySem.W.kitx_bool I.kIn QM e (λz=>nomatch z) fin
   |int b=>cases aE g;obtain⟨t,rfl⟩:=R;cases E;exact PySem.W.kia_one PySem.W.kitx_int I.kIn QM e (λz=>nomatch z) fin
   |str b=>cases fW g;obtain⟨t,rfl⟩:=R;cases E;exact PySem.W.kia_one PySem.W.kitx_str I.kIn QM e (λz=>nomatch z) fin
   |tup b=>obtain⟨a,vs,rfl,f,_⟩:=bV g;cases R;cases E;obtain⟨l,O,p,_⟩:=I.tuple f;obtain⟨o,i,j,_⟩:=p;exact PySem.W.kia_one PySem.W.kitx_tuple I.kIn ⟨o,i,j⟩ e (λz=>nomatch z) fin
   |lst b=>obtain⟨a,vs,rfl,f,_⟩:=dj m g rfl;cases E;exact lst a vs rfl (.of f) rfl
   |ref n=>obtain⟨V,C,D⟩:=Z3.mp E;obtain⟨a,vs,rfl,f,_⟩:=dj m g C;exact lst a vs rfl (.of f) D.symm
   |scr b=>obtain⟨a,vs,rfl,f,_⟩:=g;cases E;exact lst a vs rfl f.sq rfl
   |dct=>obtain⟨a,rfl,G⟩:=g;cases R;cases E;obtain⟨_,_,vs,_,p⟩:=(show bc X.prog X.w H s.heap a (.dK [])from I.hok a _ G);obtain⟨o,Z,Y,i,j,_⟩:=p;exact PySem.W.kia_one PySem.W.kitx_dict I.kIn ⟨o,i,j.1⟩ e (λz=>nomatch z) fin
   |fn b=>cases E
   |ty b=>cases E
   |dks b=>cases E
  ·exact w.elim
 ·exact w.elim
noncomputable def eP:D->Option Bool
 | .bl b=>some b
 |_=>none
noncomputable def ix(ds:List D)(S:ae):Res D:=match ds with
 | [d]=>match av S d with
  |some xs=>a' (a8 (xs.map eP)) S
  |none=>.fail
 |_=>.fail
noncomputable def jH(ds:List D)(S:ae):Res D:=match ds with
 | [d]=>match av S d with
  |some xs=>a' (fY (xs.map eP)) S
  |none=>.fail
 |_=>.fail
theorem yB{M:GS}{vs:List V}(r:ah K M μ H xs vs)(q:Vals vs its)(h:∀(j:Nat) o,(xs.map eP)[j]?=some o->o=some (eJ (xs.map eP) j)):
  ∀(i:Nat) v,its.toArray[i]?=some v->v=.bool (eJ (xs.map eP) i):=λi v l=>by
 have L:=r.length;have p:=q.length
 have a:=by simpa using l
 have n:=(Zl.mp a).1;have m:xs[i]?=some (xs[i]'(by omega)):=Zh _;obtain⟨w,g,e⟩:=r.get m;obtain⟨u,f,k⟩:=q.get g;rw[a]at f;cases f;have c:=h i (eP (xs[i]'(by omega))) (by simp_all);revert e c;generalize xs[i]'(by omega)=d;intro e c;cases d with
 |bl b=>
  cases fV e;have:=by simpa[eP]using c
  rw[<-this];exact k
 |_=>cases c
theorem jI(C:X.calm=MW)(I:Inv X pq σ H s)(M:aI X.K ⟨X.mg,F⟩ μ S H)(G:Rep X.K ⟨X.mg,F⟩ μ H d v)(J:RelV v u)(e:av S d=some xs)
  (h:∀(j:Nat) o,(xs.map eP)[j]?=some o->o=some (eJ (xs.map eP) j)) (b:Bool->Bool) {Q:VK} {fb:Nat->Bool} (q:Q (.bl (fb xs.length)) H):
  wpAny (model X.prog X.w) X.A.in1 (pyIter u) (λit g=>∃I fp wr n P St,it=.ref I/\Walks X.prog X.w X.A.in1 I fp wr n P St/\St 0 g.heap/\TruthOf X.prog X.w X.A.in1 P (eJ (xs.map eP))/\
   ∀h' tk,(∀b o,b∉wr->g.heap.get? b=some o->h'.get? b=some o)->EP X pq σ Q (.bool (fb n)) {g with heap:=h',toks:=tk}) X.xe s:=by
 obtain⟨a,vs,rfl,m,r⟩:=eT M G e;cases J;have y:X.A.in1.handled=none:=I.ok.hd C;rcases m with m|m
 ·obtain⟨c,R,p,D⟩:=I.list m;have B:=yB r R h;refine N_ p.isList ?_;have k:a≠s.heap.objs.size:=by obtain⟨o,f,_⟩:=p.isList;exact Zq (Zj f)
  refine⟨_,_,_,_,_,_,rfl,Walks.list y s.heap.objs.size a k c.toArray,⟨⟨_,Zi _ rfl,rfl,rfl⟩,Heap.IsList.push p.isList _⟩,?_,λh' tk K=>?_⟩
  ·intro i v L A E w l;rw[B i v w];exact ZO l
  ·have t:c.toArray.size=xs.length:=by rw[ZB,<-R.length,<-r.length]
   rw[t];refine⟨.bl _,H,I.kept (h':=h') (t':=tk) λb o f=>K b o ?_ (Zc _ f),rfl,q⟩;intro z;have Z:b=s.heap.objs.size:=by simpa using z
   exact absurd (Zj f) (by rw[Z];exact Ni _)
 ·obtain⟨c,R,p,D⟩:=I.tuple m;have B:=yB r R h;refine NG (show s.heap.IsTuple a c.toArray from p) ?_;have k:a≠s.heap.objs.size:=by obtain⟨o,f,_⟩:=p;exact Zq (Zj f)
  refine⟨_,_,_,_,_,_,rfl,Walks.tuple y s.heap.objs.size a k c.toArray,⟨⟨_,Zi _ rfl,rfl,rfl⟩,by obtain⟨o,f,r⟩:=p;exact⟨o,Zc _ f,r⟩⟩,?_,λh' tk K=>?_⟩
  ·intro i v L A E w l;rw[B i v w];exact ZO l
  ·have t:c.toArray.size=xs.length:=by rw[ZB,<-R.length,<-r.length]
   rw[t];refine⟨.bl _,H,I.kept (h':=h') (t':=tk) λb o f=>K b o ?_ (Zc _ f),rfl,q⟩;intro z;have Z:b=s.heap.objs.size:=by simpa using z
   exact absurd (Zj f) (by rw[Z];exact Ni _)
theorem yC(t:X.calm=MW):aS X (.builtin "all") (rC X.K X.mg ix):=by
 intro C s K H G U Q I r h;obtain⟨F,J,S,D,b,R,w⟩:=h;unfold ix at w;split at w
 ·split at w
  ·rename_i d Y e;obtain⟨k,E,q⟩:=fF w b;obtain⟨v,rfl,x⟩:=R.one;obtain⟨u,rfl,y⟩:=r.one;obtain⟨p,a⟩:=l' _ _ E;have hw:=jI t I b x y e p id (Q:=Q) (fb:=λn=>(M4 n).all (eJ (Y.map eP))) (by rw[Zk]at a;rw[<-a];exact q);exact call_all_walk (Nn hw (λit c ⟨f,o,W,n,P,g,A,i,j,l,m⟩=>⟨f,o,W,n,P,g,_,A,i,j,l,m⟩) λ_ _ z=>z)
  ·exact w.elim
 ·exact w.elim
theorem yD(D:X.calm=MW):aS X (.builtin "any") (rC X.K X.mg jH):=by
 intro Y s σ H xs Z Q I r h;obtain⟨F,μ,S,O,g,R,w⟩:=h;unfold jH at w;split at w
 ·split at w
  ·rename_i d y e;obtain⟨k,E,q⟩:=fF w g;obtain⟨v,rfl,K⟩:=R.one;obtain⟨u,rfl,L⟩:=r.one;obtain⟨x,B⟩:=yu E
   have C:∀(j:Nat) o,(y.map _)[j]?=some o->o=some (eJ (y.map eP) j):=λj o a=>by
    have:=x o (Zr a);cases o with
    |none=>cases this
    |some b=>simp[eJ,a]
   have W:k=(M4 y.length).any (eJ (y.map eP)):=by
    rw[B];apply NJ.mpr;rw[Ot,Ot];constructor
    ·rintro⟨o,a,G⟩;obtain⟨j,J,T⟩:=ZH.mp a;have c:(y.map eP)[j]?=some o:=by grind
     grind
    ·rintro⟨j,J,G⟩;have f:j<(y.map eP).length:=by grind
     have c:=Zh f
     grind
   exact call_any_walk (Nn (jI D I g K L e C id (Q:=Q) (fb:=λn=>(M4 n).any (eJ (y.map eP))) (by lia)) (λit i ⟨M,V,wr,n,P,N,A,l,m,p,t⟩=>⟨_,_,_,n,P,_,_,A,l,m,p,t⟩) λ_ _ z=>z)
  ·exact w.elim
 ·exact w.elim
def rM(K:Fg)(m:Mg)(g:D->List D->ae->Res D):V->List V->Hp->VK->Prop:=λx xs H Q=>∃F μ S d ds,aI K ⟨m,F⟩ μ S H/\Rep K ⟨m,F⟩ μ H d x/\ah K ⟨m,F⟩ μ H ds xs/\aT K ⟨m,F⟩ μ H Q (g d ds S)
theorem jJ{m:GS}(s:aI K m μ S H)(r:Rep K m μ H (.ref n) v)(e:S[n]?=some xs):∃a vs,v=.ref a/\μ[n]?=some a/\H a=some (.lst vs)/\ah K m μ H xs vs:=by obtain⟨a,rfl,h⟩:=r;obtain⟨vs,b,q⟩:=s.at_ n a _ h e;exact⟨a,_,rfl,h,b,q⟩
noncomputable def gT(d:D)(ds:List D)(S:ae):Res D:=match d,ds with
 | .ref n,[y]=>match S[n]? with
  |some xs=>if xs.length<bB then .ok .non (S.set n (xs++[y]))else .fail
  |none=>.fail
 |_,_=>.fail
theorem GB:jh X "list.append" (rM X.K X.mg gT):=by
 intro p s t H x o v u Q I k j h;obtain⟨F,q,S,d,D,c,i,R,w⟩:=h;have l:=iq;unfold gT at w;split at w
 ·split at w
  ·rename_i n y Y e;split at w
   ·obtain⟨a,vs,rfl,f,b,r⟩:=jJ c i e;obtain⟨z,rfl,g⟩:=R.one;have m:=r.length;exact yk _ s _ H _ _ v _ Q I k j ⟨a,_,z,rfl,rfl,b,by omega,w.wrote c f b (r.append (.cons g .nil)) jB⟩
   ·exact w.elim
  ·exact w.elim
 ·exact w.elim
noncomputable def gU(d:D)(ds:List D)(S:ae):Res D:=match d,ds with
 | .ref n,[y]=>match S[n]?,c7 S y with
  |some xs,some ys=>if xs.length+ys.length<=bB then .ok .non (S.set n (xs++ys))else .fail
  |_,_=>.fail
 |_,_=>.fail
theorem GC:jh X "list.extend" (rM X.K X.mg gU):=by
 intro P s C H x A v u Q I p o h;obtain⟨F,B,S,d,D,c,m,R,w⟩:=h;have q:=iq;unfold gU at w;split at w
 ·split at w
  ·rename_i n y Y Z e E;split at w
   ·obtain⟨a,vs,rfl,k,f,r⟩:=jJ c m e;obtain⟨z,rfl,l⟩:=R.one;obtain⟨b,W,rfl,i,g⟩:=dj c l E;have t:=r.length;have j:=g.length;exact F8 _ s _ H _ _ v _ Q I p o ⟨a,b,_,_,rfl,rfl,f,i,by omega,w.wrote c k f (r.append g) jB⟩
   ·exact w.elim
  ·exact w.elim
 ·exact w.elim
theorem ah.dropLast{m:GS}{vs:List V}(r:ah K m μ H ds vs):ah K m μ H ds.dropLast vs.dropLast:=by rw[Ri,Ri,r.length];exact r.take _
noncomputable def jK(d:D)(ds:List D)(S:ae):Res D:=match d,ds with
 | .ref n,[]=>match S[n]? with
  |some xs=>match xs[xs.length-1]? with
   |some y=>.ok y (S.set n xs.dropLast)
   |none=>.fail
  |none=>.fail
 |_,_=>.fail
theorem yE:jh X "list.pop" (rM X.K X.mg jK):=by
 intro p s q H x m v u Q I l k h;obtain⟨F,o,S,d,D,f,j,R,w⟩:=h;unfold jK at w;split at w
 ·split at w
  ·rename_i n Y e;split at w
   ·rename_i y E;obtain⟨a,vs,rfl,i,c,r⟩:=jJ f j e;subst R;obtain⟨z,b,g⟩:=r.get E;rw[r.length]at b;exact sm _ s _ H _ _ v _ Q I l k ⟨a,_,z,rfl,rfl,c,b,w.wrote f i c r.dropLast g⟩
   ·exact w.elim
  ·exact w.elim
 ·exact w.elim
noncomputable def iy(d e f:D)(S:ae):Option ae:=match d,e with
 | .ref n,.int i=>match S[n]? with
  |some xs=>match hX xs.length i with
   |some j=>some (S.set n (xs.set j f))
   |none=>none
  |none=>none
 |_,_=>none
noncomputable def GD(K:Fg)(m:Mg):lA:=λo i v H Q=>∃F μ S d e f,aI K ⟨m,F⟩ μ S H/\Rep K ⟨m,F⟩ μ H d o/\Rep K ⟨m,F⟩ μ H e i/\Rep K ⟨m,F⟩ μ H f v/\
 ∃S',iy d e f S=some S'/\∀μ' H',Ext μ H μ' H'->aI K ⟨m,F⟩ μ' S' H'->Q H'
theorem yF:rF X (GD X.K X.mg):=by
 intro P s C H o i v O A u Q I x t y h;obtain⟨F,B,S,d,e,f,l,R,p,q,z,E,w⟩:=h;unfold iy at E;split at E
 ·split at E
  ·rename_i n k _ Y m;split at E
   ·rename_i j c;cases E;obtain⟨a,vs,rfl,g,b,r⟩:=jJ l R m;cases aE p;rw[r.length]at c;exact F0 _ s _ H _ _ v _ _ u Q I x t y ⟨a,_,k,j,rfl,rfl,b,c,w _ _ (.wrote (Zr g) b) (l.wrote g b (r.set j q))⟩
   ·cases E
  ·cases E
 ·cases E
noncomputable def cf(env:Env):List (Str×NR)->List (Str×MZ)->List (Str×MZ)
 | [],cs=>cs
 | (n,k)::r,cs=>cf env r (if k== .free then(match env.cells.lookup n with|some c=>(n,c)::cs|none=>cs)else cs)
theorem GF(h:∀x∈scope.names,x.2=.free->∃c,env.cells.lookup x.1=some c):closureFor scope env=pure (cf env scope.names []):=by
 unfold closureFor
 have K:∀(l:List _) (C:List _),(∀x∈l,x.2=.free->∃c,env.cells.lookup x.1=some c)->
   (forIn l C λx r=>(if(x.2==PQ)=MW then do let c <-cellOf env x.1;pure (Np ((x.1,c)::r))else pure (Np r):Sem _))=pure (cf env l C):=by
  intro l
  induction l with
  |nil=>intro C _;rfl
  |cons x l i=>
   intro C d;obtain⟨n,k⟩:=x;unfold cf;by_cases b:k=.free
   ·subst b;obtain⟨c,H⟩:=d (n,.free) (by simp) rfl;have a:cellOf env n=pure c:=by unfold cellOf;rw[H]
    simp_all
   grind
 grind
theorem sK{env:Env}:∀(l:List (Str×NR)) (cs:List (Str×MZ)),(∀p∈cs,env.cells.lookup p.1=some p.2)->∀p∈cf env l cs,env.cells.lookup p.1=some p.2
 | [],cs,h,p,H=>h p H
 | (n,k)::r,cs,h,p,H=>by
  refine sK r _ (λq a=>?_) p H
  grind
theorem yG{env:Env}:∀(l:List (Str×NR)) (cs:List (Str×MZ)),∀p∈cs,p∈cf env l cs
 | [],cs,p,h=>h
 | (n,k)::r,cs,p,h=>by
  refine yG r _ p ?_
  grind
theorem yH{env:Env}{x:Str}{c:MZ}(H:env.cells.lookup x=some c):∀(l:List (Str×NR)) (cs:List (Str×MZ)),(x,PQ)∈l->(x,c)∈cf env l cs
 | [],cs,h=>by cases h
 | (n,k)::r,cs,h=>by
  rcases Zf.mp h with e|h
  ·refine yG r _ _ ?_;simp_all
  ·exact yH H r _ h
theorem yI{a:Type}{x:Str}{c:a}:∀{l:List (Str×a)},(x,c)∈l->∃d,l.lookup x=some d
 | [],h=>by cases h
 | (n,d)::r,h=>by
  rw[Sa];cases e:x==n with
  |true=>simp_all
  |false=>
   rcases Zf.mp h with E|h
   ·simp_all
   ·exact yI h
theorem yJ{env:Env}:∀{N:List (Str×NR)} {x:Str} {k:NR},(N.map λ(n,k)=>if(k==PQ&&env.scope.kind== .function&&env.kindOf n==some .cell)then(n,Na)else(n,k)).lookup x=some k->
  ∃K,N.lookup x=some K/\(k=K\/(K=.free/\k=.cell))
 | [],_,_,h=>by simp_all
 | (n,a)::r,x,k,h=>by
  have i:= @yJ env r x k
  grind
theorem yK{env:Env}:∀{N:List (Str×NR)} {x:Str},N.lookup x=some .free->
  let m:=(N.map λ(n,k)=>if(k==PQ&&env.scope.kind== .function&&env.kindOf n==some .cell)then(n,Na)else(n,k))
  m.lookup x=some .cell\/m.lookup x=some .free
 | [],_,h=>by simp_all
 | (n,K)::r,x,h=>by
  have i:= @yK env r x
  grind
theorem jL:∀(N:List (Str×NR)) (n:Nat) (a b:List (Str×MZ)),cellsFrom n N (a++b)=cellsFrom n N a++b
 | [],_,_,_=>rfl
 | (x,k)::r,n,a,b=>by
  show(if(k==Na)=MW then cellsFrom _ r _ else cellsFrom n r _)=(if(k==Na)=MW then cellsFrom _ r _ else cellsFrom n r a)++b;split
  ·exact jL r _ ((x,n)::a) b
  ·exact jL r n a b
theorem sL{x:Str}{c:MZ}:∀(N:List (Str×NR)) (n:Nat) (a:List (Str×MZ)),(x,c)∈cellsFrom n N a->(x,c)∈a\/(x,Na)∈N
 | [],_,_,h=>.inl h
 | (y,k)::r,n,a,h=>by
  replace h:(x,c)∈if(k==Na)=MW then cellsFrom _ r _ else cellsFrom n r a:=h;split at h
  ·rcases sL r _ _ h with h|h
   ·grind
   simp_all
  ·rcases sL r n _ h with h|h
   ·exact .inl h
   simp_all
theorem sM{M:Model}{A:NM}{E:Vs}:∀(n:List (Str×NR)) (cs:List (Str×MZ)) (s:MY) (Q:List (Str×MZ)->MY->Prop),Q (cellsFrom s.heap.objs.size n cs) {s with heap:=pushCells s.heap n}->
  wpAny M A (forIn n cs λx r=>match x with
   | (name,kind)=>if(kind==Na)=MW then do
     let c <-alloc {cls:=Nq "cell",data:=Data.cell none}
     pure (Np ((name,c)::r))
    else pure (Np r)) Q E s
 | [],cs,s,Q,h=>by rw[QN];exact Zd h
 | (x,k)::r,cs,s,Q,h=>by
  rw[OZ];have h:Q (if(k==Na)=MW then cellsFrom (s.heap.objs.size+1) r ((x,s.heap.objs.size)::cs)else cellsFrom s.heap.objs.size r cs) {s with heap:=if(k==Na)=MW then pushCells (s.heap.push {cls:=.type "cell",data:=.cell none}) r else pushCells s.heap r}:=h;cases a:(k==Na)with
  |true=>rw[a,if_pos rfl,if_pos rfl]at h;refine Za ?_;show wpAny M A (if(k==Na)=MW then _ else _) _ _ _;rw[a,if_pos rfl];refine Za (wpAny_alloc (Zd ?_));refine sM r _ {s with heap:=s.heap.push {cls:=.type "cell",data:=.cell none}} Q ?_;show Q (cellsFrom (s.heap.push {cls:=.type "cell",data:=.cell none}).objs.size r _) _;rw[NU];exact h
  |false=>rw[a,if_neg (by decide),if_neg (by decide)]at h;refine Za ?_;show wpAny M A (if(k==Na)=MW then _ else _) _ _ _;rw[a,if_neg (by decide)];exact Zd (sM r _ s Q h)
theorem GG{M:Model}{A:NM}{E:Vs}{g:MZ}{c:List (Str×MZ)}{q:Str}{out:Env}{bl:MZ}{Q:Env->MY->Prop}
  (h:Q ⟨scope,s.heap.objs.size,g,cellsFrom (s.heap.objs.size+1) scope.names c,q,none,out.code,out.frame,out.builtins⟩ {s with heap:=pushCells (s.heap.push {cls:=.type "dict",data:=.dict #[]}) scope.names}):
  wpAny M A (newFunctionEnv scope g c [] q none .none (some out) bl) Q E s:=by
 refine Za (wpAny_alloc (Za (sM _ _ _ _ ?_)));refine Za (Zd (Zd ?_));simp_all
noncomputable def fH(X:Cx)(scope:Scope)(N:Ls)(C:MZ)(s0:MY)(a:Hp)(f:La):Cx:=
 {X with N:=N,s₀:=s0,H₀:=a,env:=compEnvC scope (cellsFrom (C+1) scope.names (cf X.env scope.names [])) C X.env,outer:=X.stack,stack:=X.stack,ex:=f,fn:=λx=>scope.names.lookup x==some .cell,pn:=[],xe:=λ_ _=>False}
structure dN (X:Cx)(scope:Scope):Prop where
 kind:scope.kind=.function
 cel:∀y∈scope.names,y.2=.cell->scope.names.lookup y.1=some .cell
 loc:∀y∈scope.names,y.2=.local->scope.names.lookup y.1=some .local
 free:∀y∈scope.names,y.2=.free->X.env.kindOf y.1=some .cell\/X.env.kindOf y.1=some .free
theorem jM(I:Inv X pq σ H s){b:MZ}(h1:b≠X.env.locals)(h:b∉X.fs):b∉bU X.stack:=λz=>(Zf.mp (I.stkSub b z)).elim h1 h
theorem gW{x:Str}{c:MZ}(h:(cellsFrom n scope.names (cf X.env scope.names [])).lookup x=some c):(cellsFrom n scope.names []).lookup x=some c\/((cellsFrom n scope.names []).lookup x=none/\(cf X.env scope.names []).lookup x=some c):=by have e:=jL scope.names n [] (cf X.env scope.names []);rw[List.nil_append]at e;rw[e,List.lookup_append]at h;simp_all
theorem GH{x:Str}{c:MZ}(h:(cellsFrom n scope.names []).lookup x=some c):(cellsFrom n scope.names (cf X.env scope.names [])).lookup x=some c:=by
 have e:=jL scope.names n [] (cf X.env scope.names [])
 grind
theorem yL{x:Str}{c:MZ}(h:(cellsFrom n scope.names []).lookup x=none)(H:(cf X.env scope.names []).lookup x=some c):(cellsFrom n scope.names (cf X.env scope.names [])).lookup x=some c:=by
 have e:=jL scope.names n [] (cf X.env scope.names [])
 grind
theorem GI{m:Mg}{tk:Nat}(hc:X.calm=MW)(I:Inv X pq σ H s)(S:dN X scope)(R:∀b∈fp,df X pq H b)(T:∀b∈fp,∃o,s.heap.get? b=some o)
  (hn:h1.Ns s.heap.objs.size m) (old:∀b o,s.heap.get? b=some o->h1.get? b=some o) (f:CellsOk h1 (s.heap.objs.size+1) (cellsFrom (s.heap.objs.size+1) scope.names [])) (hl:σ'.length=N.length)
  (U:∀(i:Nat) (v:V) (x:Str),N[i]?=some x->σ'[i]?=some (some v)->scope.names.lookup x=some .free/\∃j:Nat,X.N[j]?=some x/\σ[j]?=some (some v)):
  Inv (fH X scope N s.heap.objs.size s H fp) (X.pn++pq) σ' H {s with heap:=h1,toks:=tk}:=by
 have lt:∀{b:MZ} {o:Obj},s.heap.get? b=some o->b≠s.heap.objs.size:=λe=>Zq (Zj e);have C:∀x c,(cf X.env scope.names []).lookup x=some c->X.env.cells.lookup x=some c:=λx c h=>sK scope.names [] (λ_ z=>nomatch z) (x,c) (Zw h);have a:∀x c,X.env.cells.lookup x=some c->c<s.heap.objs.size:=λx c h=>by obtain⟨v,q⟩:=I.cell x c h;exact q.lt
 have O:∀x c,(cellsFrom (s.heap.objs.size+1) scope.names []).lookup x=some c->h1.IsCell c none/\s.heap.objs.size+1<=c:=λx c h=>f.empty x c (Zw h)
 have E:∀x c,(cellsFrom (s.heap.objs.size+1) scope.names []).lookup x=some c->scope.names.lookup x=some .cell:=λx c h=>by
  rcases sL scope.names _ _ (Zw h)with z|z
  ·cases z
  ·exact S.cel _ z rfl
 have D:∀x,scope.names.lookup x=some .free->(cellsFrom (s.heap.objs.size+1) scope.names []).lookup x=none/\∃c,(cf X.env scope.names []).lookup x=some c:=λx h=>by
  refine⟨?_,?_⟩
  ·cases z:(cellsFrom (s.heap.objs.size+1) scope.names []).lookup x with
   |none=>rfl
   |some c=>have:=E x c z;rw[h]at this;cases this
  ·have hm:=Zw h;obtain⟨c,P⟩:=I.ok.has x (S.free _ hm rfl);exact yI (yH P scope.names [] hm)
 have gm:∀x,((fH X scope N s.heap.objs.size s H fp).env.kindOf x=some .cell\/(fH X scope N s.heap.objs.size s H fp).env.kindOf x=some .free)->scope.names.lookup x=some .free\/scope.names.lookup x=some .cell:=λx h=>by
  have go:∀k,(k=Na\/k=.free)->(relabel scope X.env).names.lookup x=some k->scope.names.lookup x=some .free\/scope.names.lookup x=some .cell:=λk hk h=>by
   obtain⟨k',h1,g⟩:=yJ h;rcases g with rfl| ⟨rfl,_⟩
   ·rcases hk with rfl|rfl
    ·exact .inr h1
    ·exact .inl h1
   ·exact .inl h1
  rcases h with h|h
  ·exact go _ (.inl rfl) h
  ·exact go _ (.inr rfl) h
 have A:∀x y c,(cellsFrom (s.heap.objs.size+1) scope.names []).lookup x=some c->(cellsFrom (s.heap.objs.size+1) scope.names []).lookup y=some c->x=y:=λx y c h1 g=>by
  have m1:=Zw h1;have m2:=Zw g;have W:=f.apart;generalize cellsFrom (s.heap.objs.size+1) scope.names []=l at m1 m2 W
  induction l with
  |nil=>cases m1
  |cons p l ih=>
   obtain⟨a1,a2⟩:=Zv.mp W
   grind
 refine⟨⟨I.ok.mod,?_,I.ok.glob,I.ok.blt,Zg _,λx y c h1 g=>?_,λx h=>?_,λx c h g=>?_,I.ok.hd,I.ok.frames,.inl rfl,λb w=>?_,I.bs,Zy I.ok.bsz I.sz,λb o e w=>?_,λb w=>?_,I.stack,I.stkFree⟩,
  rfl,I.bare,Un.kept old,⟨m,hn,λi x v e1 e2 e3=>?_⟩,λx c h=>?_,I.hok.fresh (Zg _),λx c h=>?_,λp hp=>?_,I.hok.kept old,hl⟩
 ·show(relabel scope X.env).kind=.function;unfold relabel;exact S.kind
 ·rcases gW h1 with z| ⟨_,z⟩<;>rcases gW g with Y| ⟨_,Y⟩
  ·exact A x y c z Y
  ·exact absurd (a _ _ (C _ _ Y)) (Pb.mpr (Ol (O _ _ z).2))
  ·exact absurd (a _ _ (C _ _ z)) (Pb.mpr (Ol (O _ _ Y).2))
  ·exact I.ok.inj x y c (C x c z) (C y c Y)
 ·rcases gm x h with h|h
  ·obtain⟨z,c,t⟩:=D x h;exact⟨c,yL z t⟩
  ·have:=PySem.W.cellsFrom_some (x:=x) scope.names (s.heap.objs.size+1) [] (.inl h);obtain⟨c,t⟩:=N3.mp this;exact⟨c,GH t⟩
 ·rcases gW g with z| ⟨z,_⟩
  ·exact Ol (O _ _ z).2
  ·have:=PySem.W.cellsFrom_some (x:=x) scope.names (s.heap.objs.size+1) [] (.inl (by simpa[fH]using h));rw[z]at this;cases this
 ·obtain⟨Z,J,L,F,M,f5⟩:=R b w;obtain⟨o,B⟩:=T b w;refine⟨lt B,λx c h=>?_⟩;rcases gW h with z| ⟨_,z⟩
  ·exact λq=>absurd (Zj B) (Pb.mpr (q▸Ol (O _ _ z).2))
  ·exact M x c (C x c z)
 ·obtain⟨Z,J,L,F,M,f5⟩:=R b w;rcases F with F|F
  ·exact I.ok.noex b o e F
  ·exact absurd (Zj (I.ok.bs b o e).1) (Pb.mpr F)
 ·obtain⟨Z,J,L,F,M,f5⟩:=R b w;exact jM I J L
 ·obtain⟨G,j,g2,g3⟩:=U i v x e1 e2;obtain⟨m0,_,l0⟩:=I.loc
  have hv:xq X.env.scope x:=by
   rcases S.free _ (Zw G) rfl with q|q
   ·exact .inr (.inl q)
   ·exact .inr (.inr q)
  obtain⟨u,r,q⟩:=l0 j x v g2 g3 hv;refine⟨u,r,.inr ⟨yK G,?_⟩⟩;obtain⟨z,c,f⟩:=D x G;refine⟨c,yL z f,?_⟩;have K:=S.free _ (Zw G) rfl;rcases q with⟨q,_⟩| ⟨_,c',q1,q2⟩
  ·rcases K with K|K
   ·rw[q]at K;cases K
   ·rw[q]at K;cases K
  ·rw[C x c f]at q1;cases q1;obtain⟨o,B,Q⟩:=q2;exact⟨o,old _ _ B,Q⟩
 ·rcases gW h with z| ⟨_,z⟩
  ·exact⟨none,(O _ _ z).1⟩
  ·obtain⟨v,o,B,Q⟩:=I.cell x c (C x c z);exact⟨v,o,old _ _ B,Q⟩
 ·rcases gW h with z| ⟨_,z⟩
  ·exact I.hok.fresh (Ol (O _ _ z).2)
  ·exact I.freeC x c (C x c z)
 ·obtain⟨e,n,ne,nf,d⟩:=I.pin p (by simpa[fH]using hp);exact⟨old _ _ e,n,lt e,jM I ne nf,d⟩
theorem GJ(I:Inv X pq σ H s)(j:∀b∈fp,df X pq H b)(i:C=s.heap.objs.size)(J:Inv (fH X scope N C s H fp) pins' σ' H' s')(hs:NP C s'.heap h'):
  Inv X pq σ H' {s' with heap:=h'}:=by
 have ne:∀{b:MZ} {o:Obj},s.heap.get? b=some o->b≠C:=λe=>by rw[i];exact Zq (Zj e)
 have B:=J.base
 have u:Un _ _ H _ _ _:=
  ⟨λb o e n h a=>(hs.2 b (ne e)).trans (B.keep b o e n h a),λb o e n h a=>by obtain⟨sl,q⟩:=B.slot b o e n h a;exact⟨_,(hs.2 b (ne e)).trans q⟩,B.free,
   λb o e a=>by obtain⟨v,q⟩:=B.there b o e a;exact⟨_,(hs.2 b (ne e)).trans q⟩,B.tups,B.frzs,B.tbls⟩
 have d:H' C=none:=J.free
 have f:=λb O e=>by
  refine(J.hok b O e).stay (λc w t q=>(hs.2 c ?_).trans q) (λ_ q=>q) λ_ _ q=>q
  grind
 exact I.call' J.os u f J.bare λb h=>by obtain⟨F,k,l,m,p,r⟩:=j b h;lia
def PB(X:Cx)(body:Sem Unit)(t:L2.St->Hp->(L2.St->Hp->Prop)->Prop):Prop:=
 ∀(pq:Lp) (s:MY) (σ:L2.St) (H:Hp) (Q:L2.St->Hp->Prop),Inv X pq σ H s->t σ H Q->wpAny (model X.prog X.w) X.A body (λ_ s'=>∃σ' H',Inv X pq σ' H' s'/\Q σ' H') X.xe s
theorem fZ{m:Sem α}{Q:α->MY->Prop}(H:X.xe=λ_ _=>False)(h:wpAny M A m Q X.xe s):wpAny M A m Q E s:=by rw[H]at h;exact Nn h (λ_ _ q=>q) λ_ _ z=>z.elim
noncomputable def iz:Expr->Bool
 | .ListComp .. =>MW
 | .SetComp .. =>MW
 |_=>MX
theorem mq(h:iz ce=MW){d:Nat}{it a:M0}:(model prog w).den (.compLoop ce d it a env)=(compTurn ce d it a env).onRaise (λx=>do noteFrame x env;theTreesLotGoes x)/\A.under (.compLoop ce d it a env)=A/\(model prog w).den (.compStart ce d it a env)=(compStart ce d it a env).onRaise (λx=>do noteFrame x env;standAt theWindowsPlace)/\A.under (.compStart ce d it a env)=A:=by cases ce<;>first|exact⟨rfl,rfl,rfl,rfl⟩|cases h
theorem yM{d:Nat}{c:M0}{p:Pos}{body:Sem Unit}{J:It}{R:Qf->MY->Prop}{Fin:L2.St->Hp->Prop}
  (k:iz ce=MW) (l:X.xe=λ_ _=>False) (O:X.calm=MW)
  (C:compTurn ce d (.ref it) c X.env=(standAt p>>=λ_=>pyNext (.ref it)>>=λr=>match r with
   |none=>pure (.done .next)
   |some v=>letOwnedTupleGo tg (.ref it) v>>=λ_=>assign tg X.env v>>=λ_=>body>>=λ_=>again (.compLoop ce d (.ref it) c X.env)))
  (T:Turn X.prog X.w X.K tg J fp it tn) (hg:PG X tg g) (h:PB X body tb) (I:Inv X pq σ H s) (st:tn 0 s.heap) (P:∀b∈fp,df X pq H b)
  (W:∃W:Nat->Nat->L2.St->Hp->Prop,(∃m,W 0 m σ H)/\∀i m σ H,W i m σ H->
   (J.stop i H/\Fin σ H)\/(J.go i H/\∃Nx:L2.St->Hp->Prop,(∀σ' H',Nx σ' H'->∃M,M<m/\W (i+1) M σ' H')/\∀x H',J.yld i H x H'->g x σ H' λE H2=>tb E H2 Nx))
  (hR:∀s' σ' H',Inv X pq σ' H' s'->(∀b∈fp,H' b=none)->Fin σ' H'->R (.ok .next) s'):codeAny (model X.prog X.w) X.A (.compLoop ce d (.ref it) c X.env) R s:=by
 obtain⟨W,⟨m0,w0⟩,turn⟩:=W;have S:∀{H':Hp},(∀b∈fp,H' b=none)->∀b∈fp,df X pq H' b:=λhn b h=>⟨hn b h,(P b h).2⟩;refine codeAny_loop rfl (λn s'=>∃i σ' H',Inv X pq σ' H' s'/\tn i s'.heap/\(∀b∈fp,H' b=none)/\W i n σ' H') ?_ m0 ⟨0,σ,H,I,st,λb h=>(P b h).1,w0⟩;rintro n s3 ⟨i,a,y,N,q,f,w3⟩;rw[(mq (A:=X.A) k).1,(mq (prog:=X.prog) (w:=X.w) k).2.1];refine wpAny_noted ?_;rw[C];refine Za (PF ?_);rcases turn i n a y w3 with⟨stop,qn⟩| ⟨go,Nx,hN,step⟩
 ·refine Za (fZ l (aO (T.done X rfl rfl rfl O i pq s3 a y X.xe N (S f) q stop) λr U ⟨D,Y⟩=>?_));subst D;exact Zd (hR U a y Y f qn)
 ·refine Za (fZ l (aO (T.item X rfl rfl rfl O i pq s3 a y X.xe N (S f) q go) λr U ⟨u,D,h4⟩=>?_));subst D;refine Za (fZ l (aO h4 λ_ s5 ⟨x,K,Z,r5,y5,j,F⟩=>?_));have z:=Z.pinned (S F) (T.obj _ _ j);refine Za (fZ l (aO (hg _ s5 a K x u _ z r5 (step x K y5)) λ_ s6 ⟨G,V,I6,q6⟩=>?_));refine Za (fZ l (aO (h _ s6 G V _ I6 q6) λ_ s7 ⟨t,L,B,n7⟩=>?_));refine Zd ?_;obtain⟨M,hm,w7⟩:=hN t L n7;refine⟨rfl,M,hm,i+1,t,L,B.unpinned,T.keep _ _ _ j λb h o e=>(B.pin (b,o) (Zt _ (Zt _ (lF h e)))).1,λb h=>?_,w7⟩;obtain⟨o,e,d⟩:=T.obj _ _ j b h;exact(B.pin (b,o) (Zt _ (Zt _ (lF h e)))).2.1
theorem yN{R:Qf->MY->Prop}{d:Nat}{it a:M0}{t i:Expr}{fs:Lx}(H:iz ce=MW)(e:(clausesOf ce)[d]?=some ⟨t,i,fs,0⟩)
  (c:codeAny (model prog w) A (.compLoop ce d it a env) R s)
  (h:wpAny (model prog w) A (pyIter it) (λI s'=>codeAny (model prog w) A (.compLoop ce d I a env) R s') (notedBy (model prog w) A env λx s'=>R (.error x) s') s):
  codeAny (model prog w) A (.compStart ce d it a env) R s:=by
 refine P7 ?_;rw[(mq (A:=A) H).2.2.1,(mq (prog:=prog) (w:=w) H).2.2.2];refine wpAny_notedAt ?_;unfold compStart;rw[e];refine Za (OE (O2 ?_));split
 ·first
   |grind
   |exact Zd (And.intro rfl c)
 ·first
   |exact Za (O1 (Za (PF (Za (Nn h (λI s' b=>Zd (And.intro rfl b)) λ_ _ x=>x)))))
   |simp_all
abbrev TU:=L2.St->Hp->(L2.St->Hp->Prop)->Prop
noncomputable def mr:List TT->(L2.St->Hp->(Bool->Hp->Prop)->Prop)
 | []=>λ_ H Q=>Q MW H
 |t::r=>λσ H Q=>t σ H λb H1=>if b=MW then mr r σ H1 Q else Q MX H1
noncomputable def yO(X:Cx):Lx->List TT->Prop
 | [],[]=>True
 |e::es,t::ts=>PT X e t/\yO X es ts
 |_,_=>False
theorem yP{M:Model}{A:NM}{E:Vs}{env:Env}{Q:Bool->MY->Prop}{s:MY}:∀(ifs:Lx),Q MX s->
  wpAny M A (forIn ifs MX λc r=>if r=MW then do let ok <-isTrue c env (eval c env);pure (Np ok)else pure (Np r)) Q E s
 | [],h=>Zd h
 |c::r,h=>by rw[OZ];exact Za (Zd (yP r h))
theorem yQ:∀(ifs:Lx) (ts:List TT),yO X ifs ts->∀(pq:Lp) (s:MY) (σ:L2.St) (H:Hp) (Q:Bool->Hp->Prop),Inv X pq σ H s->mr ts σ H Q->
  wpAny (model X.prog X.w) X.A (forIn ifs MW λc r=>if r=MW then do let ok <-isTrue c X.env (eval c X.env);pure (Np ok)else pure (Np r)) (TP X pq σ Q) X.xe s
 | [],[],_,pq,s,σ,H,Q,I,h=>Zd ⟨H,I,h⟩
 |e::E,t::ts,p,pq,s,σ,H,Q,I,h=>by
  rw[OZ];refine Za (Za (aO (p.1 _ s _ H _ I h) λb S ⟨_,a,q⟩=>Zd ?_));cases b with
  |true=>exact yQ _ _ p.2 _ _ _ _ Q a q
  |false=>exact yP _ ⟨_,a,q⟩
 | [],_::_,p,_,_,_,_,_,_,_=>p.elim
 |_::_,[],p,_,_,_,_,_,_,_=>p.elim
noncomputable def yR(a:MZ)(t:TE):TU:=λσ H Q=>t σ H λv H1=>∃ys,H1 a=some (.lst ys)/\ys.length<sizeLine/\Q σ (aZ H1 a (.lst (ys++[v])))
noncomputable def yS(ts:List TT)(t:TU):TU:=λσ H Q=>mr ts σ H λb H1=>if b=MW then t σ H1 Q else Q σ H1
noncomputable def sN(w:TI)(g:TG)(tb:TU):TU:=λσ H Q=>w σ H λJ H1=>∃W:Nat->Nat->L2.St->Hp->Prop,(∃m,W 0 m σ H1)/\∀i m σ H,W i m σ H->
   (J.stop i H/\Q σ H)\/(J.go i H/\∃N:L2.St->Hp->Prop,(∀σ' H',N σ' H'->∃M,M<m/\W (i+1) M σ' H')/\∀x H',J.yld i H x H'->g x σ H' λa H2=>tb a H2 N)
noncomputable def jN(o0:MZ->HO)(cs:L2.St->L2.St)(w:TI)(g:TG)(tb:MZ->TU):TE:=λσ H Q=>w σ H λJ H1=>∀acc,H1 acc=none->
 ∃W:Nat->Nat->L2.St->Hp->Prop,(∃m,W 0 m (cs σ) (aZ H1 acc (o0 acc)))/\∀i m σ H,W i m σ H->
   (J.stop i H/\Q (.ref acc) H)\/(J.go i H/\∃N:L2.St->Hp->Prop,(∀σ' H',N σ' H'->∃M,M<m/\W (i+1) M σ' H')/\∀x H',J.yld i H x H'->g x σ H' λa H2=>tb acc a H2 N)
def ms(X:Cx)(scope:Scope)(N:Ls)(cs:L2.St->L2.St):Prop:=∀σ:L2.St,σ.length=X.N.length->(cs σ).length=N.length/\
 ∀(i:Nat) (v:V) (x:Str),N[i]?=some x->(cs σ)[i]?=some (some v)->scope.names.lookup x=some .free/\∃j:Nat,X.N[j]?=some x/\σ[j]?=some (some v)
theorem yT(I:Inv X pq σ H s)(S:dN X scope):closureFor scope X.env=pure (cf X.env scope.names []):=
 GF λx a h=>I.ok.has _ (S.free x a h)
theorem GK(H:M8)(d:Obj)(n:List (Str×NR)):CellsOk (pushCells (H.push d) n) (H.objs.size+1) (cellsFrom (H.objs.size+1) n []):=by have:=cellsFrom_ok n (H.push d) (H.objs.size+1) _ ⟨(λ_ _ h=>by cases h),.nil⟩ (by simp_all);simp_all
theorem yU{G:List Nk}{O:Obj}{o0:MZ->HO}{mk:Sem M0}{scope:Scope}{N:Ls}{cs:L2.St->L2.St}{J:It}{g:TG}{tb:MZ->TU}{R:M0->MZ->Qf->MY->Prop}{Fin:V->Hp->Prop}
  {P:Lp} {σ:L2.St} {H:Hp}  {it:MZ} {f:La} {tn:Nat->M8->Prop} {E:Vs} (D:iz ce=MW) (hce:clausesOf ce=⟨tg,iter,ifs,0⟩::G) (hmk:∀{s:MY} {Q:Vs},Q (.ref s.heap.objs.size) {s with heap:=s.heap.push O}->wpAny (model X.prog X.w) X.A mk Q E s) (hob:bc X.prog X.w (aZ H s.heap.objs.size (o0 s.heap.objs.size)) (s.heap.push O) s.heap.objs.size (o0 s.heap.objs.size)) (hc:X.calm=MW) (sc:dN X scope) (hcs:ms X scope N cs) (I:Inv X P σ H s) (T:Turn X.prog X.w X.K tg J f it tn) (st:tn 0 s.heap) (hf:∀b∈f,df X P H b)
  (body:MZ->Env->Sem Unit)
  (heq:∀(acc:MZ) (env:Env),compTurn ce 0 (.ref it) (.ref acc) env=(standAt iter.pos>>=λ_=>pyNext (.ref it)>>=λr=>match r with
   |none=>pure (.done .next)
   |some v=>letOwnedTupleGo tg (.ref it) v>>=λ_=>assign tg env v>>=λ_=>body acc env>>=λ_=>again (.compLoop ce 0 (.ref it) (.ref acc) env)))
  (hin:∀(C:MZ) (s0:MY) (H0:Hp) (f:La) (acc:MZ),PG (fH X scope N C s0 H0 f) tg g/\PB (fH X scope N C s0 H0 f) (body acc (fH X scope N C s0 H0 f).env) (tb acc))
  (W:∀acc,H acc=none->∃W:Nat->Nat->L2.St->Hp->Prop,(∃m,W 0 m (cs σ) (aZ H acc (o0 acc)))/\∀i m σ H,W i m σ H->
   (J.stop i H/\Fin (.ref acc) H)\/(J.go i H/\∃Nx:L2.St->Hp->Prop,(∀σ' H',Nx σ' H'->∃m',m'<m/\W (i+1) m' σ' H')/\∀x H',J.yld i H x H'->g x σ H' λσ2 H2=>tb acc σ2 H2 Nx))
  (hR:∀(acc C:MZ) (s':MY) (H':Hp) (m:Mg),s'.heap.Ns C m->C≠X.env.locals->(∀x c,X.env.cells.lookup x=some c->c≠C)->H' C=none->X.s₀.heap.objs.size<=C->(∀p∈X.pn++P,p.1≠C)->(∀h',NP C s'.heap h'->Inv X P σ H' {s' with heap:=h'})->Fin (.ref acc) H'->R (.ref acc) C (.ok .next) s'):
  wpAny (model X.prog X.w) X.A mk (λacc K=>wpAny (model X.prog X.w) X.A (newFunctionEnv scope X.env.globals (cf X.env scope.names []) [] X.env.qual none .none (some X.env)) (λl M=>
   codeAny (model X.prog X.w) X.A (.compStart ce 0 (.ref it) acc {l with scope:=relabel scope X.env}) (R acc l.locals) M) E K) E s:=by
 refine hmk (GG ?_);have hfr:H s.heap.objs.size=none:=I.hok.fresh (Zg _);have u:Inv X P σ (aZ H s.heap.objs.size (o0 s.heap.objs.size)) {s with heap:=s.heap.push O,toks:=s.toks}:=I.laid (t':=s.toks) (λb o e=>Zc _ e) (Zg _) hob;have A:∀b∈f,∃o,s.heap.get? b=some o:=λb j=>by obtain⟨o,e,_⟩:=T.obj _ _ st b j;exact⟨o,e⟩
 have w:∀b∈f,df X P (aZ H s.heap.objs.size (o0 s.heap.objs.size)) b:=λb j=>by obtain⟨Z,f1⟩:=hf b j;obtain⟨o,y⟩:=A b j;exact⟨by rw[aD (Zq (Zj y))];exact Z,f1⟩
 have F:∀b∈f,∃o,(s.heap.push O).get? b=some o:=λb j=>by obtain⟨o,y⟩:=A b j;exact⟨o,Zc _ y⟩
 obtain⟨k1,k2⟩:=hcs σ I.len;obtain⟨a,U⟩:∃a,a=pushCells ((s.heap.push O).push {cls:=.type "dict",data:=.dict #[]}) scope.names:=⟨_,rfl⟩;have n:∀b o,(s.heap.push O).get? b=some o->a.get? b=some o:=λb o e=>by rw[U];exact pushCells_keeps _ _ _ _ (Zc _ e)
 have k:a.Ns (s.heap.push O).objs.size λ_=>none:=by rw[U];exact⟨_,_,_,pushCells_keeps _ _ _ _ (Zi _ rfl),rfl,(λx h=>by simp at h),λ_=>rfl⟩
 have B:CellsOk a ((s.heap.push O).objs.size+1) (cellsFrom ((s.heap.push O).objs.size+1) scope.names []):=by rw[U];exact GK _ _ _
 rw[<-U];have J0:=GI (tk:=s.toks) (N:=N) (scope:=scope) (σ':=cs σ) hc u sc w F k n B k1 k2;have old:∀b o,s.heap.get? b=some o->a.get? b=some o:=λb o e=>n b o (Zc _ e);have S:tn 0 a:=T.keep _ _ _ st λb _ o e=>old b o e;have hlt:X.env.locals<(s.heap.push O).objs.size:=u.lt
 have L:codeAny (model X.prog X.w) X.A (.compLoop ce 0 (.ref it) (.ref s.heap.objs.size) (fH X scope N (s.heap.push O).objs.size {s with heap:=s.heap.push O,toks:=s.toks} (aZ H s.heap.objs.size (o0 s.heap.objs.size)) f).env)
   (R (.ref s.heap.objs.size) (s.heap.push O).objs.size) {s with heap:=a,toks:=s.toks}:=by
  obtain⟨p1,p2⟩:=hin (s.heap.push O).objs.size {s with heap:=s.heap.push O,toks:=s.toks} (aZ H s.heap.objs.size (o0 s.heap.objs.size)) f s.heap.objs.size;refine yM (X:=fH X scope N _ _ _ f) (Fin:=λ_ H'=>Fin (.ref s.heap.objs.size) H') D rfl hc (heq _ _) T p1 p2 J0 S (λb j=>?_) ?_ ?_
  ·obtain⟨Z,f1,f2,f3,f4,f5⟩:=w b j;obtain⟨o,y⟩:=F b j;refine⟨Z,Zq (Zj y),jM u f1 f2,.inl j,λx c h=>?_,λp hp=>f5 p (by simpa[fH]using hp)⟩;rcases gW h with z| ⟨_,z⟩
   ·exact λq=>absurd (Zj y) (Pb.mpr (q▸Ol (B.empty x c (Zw z)).2))
   ·exact f4 x c (sK scope.names [] (λ_ z=>nomatch z) (x,c) (Zw z))
  ·exact W _ hfr
  ·intro s' σ' H' Y _ fin;obtain⟨m,hm,_⟩:=id Y.loc;refine hR _ _ s' H' m hm (Ox hlt) (λx c h z=>?_) Y.free u.sz (λp hp z=>?_) (λh' hs'=>?_) fin
   ·obtain⟨v,q⟩:=u.cell x c h;exact absurd q.lt (by rw[z];exact Ni _)
   ·exact absurd (Zj (u.pin p hp).1) (by rw[z];exact Ni _)
   ·exact GJ u w rfl Y hs'
 exact yN D (by rw[hce];rfl) L (T.self _ 0 _ _ _ S L)
theorem mu{R:List Nk}{pos:Pos}{cs:L2.St->L2.St}{tb:MZ->TU}(n:X.calm=MW)(S:dN X scope)(a:ms X scope N cs)(o:PI X tg iter wi)(body:MZ->Env->Sem Unit)
  (b:∀(it acc:MZ) (env:Env),compTurn (.ListComp elt (⟨tg,iter,ifs,0⟩::R) scope pos) 0 (.ref it) (.ref acc) env=(standAt iter.pos>>=λ_=>pyNext (.ref it)>>=λr=>match r with
   |none=>pure (.done .next)
   |some v=>letOwnedTupleGo tg (.ref it) v>>=λ_=>assign tg env v>>=λ_=>body acc env>>=λ_=>again (.compLoop (.ListComp elt (⟨tg,iter,ifs,0⟩::R) scope pos) 0 (.ref it) (.ref acc) env)))
  (c:∀(C:MZ) (s0:MY) (H0:Hp) (fp:La) (acc:MZ),PG (fH X scope N C s0 H0 fp) tg g/\PB (fH X scope N C s0 H0 fp) (body acc (fH X scope N C s0 H0 fp).env) (tb acc))
  (hs:∀x,foldedSetIterable iter X.env x=pure x:=by intro _;rfl):PE X (.ListComp elt (⟨tg,iter,ifs,0⟩::R) scope pos) (jN (λ_=>.lst []) cs wi g tb):=by
 intro P s D H Q I h;refine RC rfl hs (yT I S) S.kind S.loc (Nn (o _ s _ H _ I h) (λv A j=>Nn j (λt s2 k=>?_) λ_ _ e=>e) λ_ _ e=>e);obtain⟨it,fp,B,J,w,e,i,T,f,F,W⟩:=k;subst e;refine yU (o0:=λ_=>.lst _) rfl rfl (λq=>Nv q) ⟨Z1 _,_,0,.nil,Zi _ rfl⟩ n S a i T f F _ (b _) c W ?_;intro acc C z u m p _ _ _ _ _ l fin;exact⟨m,p,λy d=>⟨.ref _,_,l _ d,rfl,fin⟩⟩
theorem mw{R:List Nk}{pos S P:Pos}{cs:L2.St->L2.St}{tb:MZ->TU}{x:Str}{j:Nat}(hc:X.calm=MW)(Z:X.N.Nodup)(hj:X.N[j]?=some x)(F:X.env.scope.names.lookup x=some .local)
  (B:swapsWith (.ListComp elt (⟨tg,iter,ifs,0⟩::R) scope pos) (some (.Name x P)) S.line X.env=pure MW)
  (c:dN X scope) (u:ms X scope N cs) (hi:PI X tg iter wi) (body:MZ->Env->Sem Unit)
  (w:∀(it acc:MZ) (env:Env),compTurn (.ListComp elt (⟨tg,iter,ifs,0⟩::R) scope pos) 0 (.ref it) (.ref acc) env=(standAt iter.pos>>=λ_=>pyNext (.ref it)>>=λr=>match r with
   |none=>pure (.done .next)
   |some v=>letOwnedTupleGo tg (.ref it) v>>=λ_=>assign tg env v>>=λ_=>body acc env>>=λ_=>again (.compLoop (.ListComp elt (⟨tg,iter,ifs,0⟩::R) scope pos) 0 (.ref it) (.ref acc) env)))
  (y:∀(C:MZ) (s0:MY) (H0:Hp) (fp:La) (acc:MZ),PG (fH X scope N C s0 H0 fp) tg g/\PB (fH X scope N C s0 H0 fp) (body acc (fH X scope N C s0 H0 fp).env) (tb acc))
  (hs:∀x,foldedSetIterable iter X.env x=pure x:=by intro _;rfl):PS X (.Assign [.Name x P] (.ListComp elt (⟨tg,iter,ifs,0⟩::R) scope pos) S) (lD (jN (λ_=>.lst []) cs wi g tb) (dV j)):=by
 intro pq s K H D I h;rw[exec_Assign_Name_used _ _ _ _ B];refine Za (PF (Za ?_))
 refine Za (Nn (RC rfl hs (yT I c) c.kind c.loc
  (Nn (hi pq s K H _ I h) (λv s1 U=>Nn U (λitv s2 V=>?_) λ_ _ e=>e) λ_ _ e=>e)) (λ_ G hq=>Zd (Zd hq)) λ_ _ e=>e)
 obtain⟨it,fp,tn,J,H2,e,L,T,E,Q,W⟩:=V;subst e;refine yU (o0:=λ_=>.lst []) rfl rfl (λq=>Nv q) ⟨Z1 _,[],0,.nil,Zi _ rfl⟩ (Fin:=λv d=>dV j v K d D.nx) hc c u L T E Q body (w it) y W ?_;intro acc C G d m hm l p f i k Y fin;have M:=by have:=Y G.heap (.refl ..);simpa using this
 refine wpAny_assign_Name (xt M Z hj (.inl F) (v:=.ref acc) rfl (λs'' O t=>?_) (.inr F));obtain⟨a,A,ha⟩:=t
 have n:C≠a:=by
  grind
 exact⟨m,hm.sameBut A n,λh' z=>⟨_,d,O.turned (λb o hb e=>(z.2 b hb).trans e) f l (.inr i) p k,fin⟩⟩
theorem ah.eraseIdx{m:GS}:∀{ds:List D} {vs:List V} (i:Nat),ah K m μ H ds vs->ah K m μ H (ds.eraseIdx i) (vs.eraseIdx i)
 | [],vs,i,h=>by subst h;rfl
 |d::ds,vs,0,h=>by obtain⟨v,u,rfl,r,q⟩:=h.uncons;exact q
 |d::ds,vs,i+1,h=>by obtain⟨v,u,rfl,r,q⟩:=h.uncons;exact .cons r (ah.eraseIdx i q)
noncomputable def sO(d:D)(ds:List D)(S:ae):Res D:=match d,ds with
 | .ref n,[.int i]=>match S[n]? with
  |some xs=>match hX xs.length i with
   |some k=>match xs[k]? with
    |some y=>if xs.length<=bB then .ok y (S.set n (xs.eraseIdx k))else .fail
    |none=>.fail
   |none=>.fail
  |none=>.fail
 |_,_=>.fail
theorem mx:jh X "list.pop" (rM X.K X.mg sO):=by
 intro P s J H x C v U Q I t p h;obtain⟨F,G,S,d,D,c,m,R,w⟩:=h;unfold sO at w;split at w
 ·split at w
  ·rename_i n i _ Y e;split at w
   ·rename_i k f;split at w
    ·rename_i y E;split at w
     ·obtain⟨a,vs,rfl,l,b,r⟩:=jJ c m e;obtain⟨V,rfl,o⟩:=R.one;cases aE o;obtain⟨z,g,j⟩:=r.get E;obtain⟨q,u,A,B⟩:=sf f;rw[r.length]at q;exact F_ _ s _ H _ _ v _ Q I t p ⟨a,_,i,k,z,rfl,rfl,b,by lia,by lia,q,g,w.wrote c l b (r.eraseIdx k) j⟩
     ·exact w.elim
    ·exact w.elim
   ·exact w.elim
  ·exact w.elim
 ·exact w.elim
noncomputable def f6:List D->Option (Li)
 | []=>some []
 | .int i::r=>(f6 r).map (i:: ·)
 |_=>none
theorem yV:∀{xs:List D} {ns:Li},f6 xs=some ns->xs=ns.map D.int
 | [],ns,h=>by cases h;rfl
 |x::xs,ns,h=>by
  cases x with
  |int i=>
   unfold f6 at h;cases e:f6 xs with
   |none=>simp_all
   |some m=>rw[e]at h;cases h;rw[yV e];rfl
  |_=>cases h
noncomputable def my(ds:List D)(S:ae):Res D:=ml ds S
theorem GL{m:GS}:∀(ns:Li) (vs:List V),ah K m μ H (ns.map D.int) vs->vs=ns.map V.int:=by
 intro ns
 induction ns with
 |nil=>intro vs r;exact r
 |cons n ns i=>intro vs r;obtain⟨v,w,rfl,R,a⟩:=r.uncons;cases aE R;rw[i _ a];rfl
theorem mz(h:X.calm=MW):aS X (.builtin "max") (rC X.K X.mg my):=yz h
theorem yW:∀{ns:Li} {its:Lv},Vals (ns.map V.int) its->PyProof.Rows.IntsAre its ns
 | [],its,r=>by cases r;exact .nil
 |n::ns,its,r=>by
  cases r with
  |cons p q=>obtain⟨t,rfl⟩:=p;exact .cons _ _ (yW q)
noncomputable def mB(ds:List D)(S:ae):Res D:=mj ds S
theorem GN(h:X.calm=MW)(H:1=1):aS X (.builtin "min") (rC X.K X.mg mB):=yy h
mutual
noncomputable def yX:D->Option PyData
 | .non=>some .none
 | .bl b=>some (.bool b)
 | .int i=>some (.int i)
 | .str x=>some (.str x)
 | .tup ds=>(dq ds).map .tuple
 | .lst ds=>(dq ds).map .list
 |_=>none
noncomputable def dq:List D->Option (List PyData)
 | []=>some []
 |d::ds=>match yX d,dq ds with
  |some p,some ps=>some (p::ps)
  |_,_=>none
end
mutual
theorem GO(I:Inv X pq σ H s):∀(d:D) (v:V) (u:M0) (p:PyData),Rep X.K ⟨X.mg,F⟩ μ H d v->RelV v u->yX d=some p->p.hasDict=MX/\∃as,Reads s.heap u p as
 | .non,v,u,p,r,q,h=>by cases gR r;subst(q);cases h;exact⟨rfl,_,.none⟩
 | .bl b,v,u,p,r,q,h=>by cases fV r;subst(q);cases h;exact⟨rfl,_,.bool b⟩
 | .int i,v,u,p,r,q,h=>by cases aE r;obtain⟨t,rfl⟩:=q;cases h;exact⟨rfl,_,.int i t⟩
 | .str x,v,u,p,r,q,h=>by cases fW r;obtain⟨t,rfl⟩:=q;cases h;exact⟨rfl,_,.str x t⟩
 | .tup c,v,u,p,r,q,h=>by
  obtain⟨a,vs,rfl,l,R⟩:=bV r;subst(q);obtain⟨f,m,⟨o,g,j,n,k⟩,_⟩:=I.tuple l;have h:(dq c).map PyData.tuple=some p:=h;cases e:dq c with
  |none=>rw[e]at h;cases h
  |some P=>rw[e]at h;cases h;obtain⟨K,as,w⟩:=sP I c vs f P R m e;exact⟨K,as,.tuple g j k (by grind)⟩
 | .lst c,v,u,p,r,q,h=>by
  unfold Rep at r;obtain⟨a,vs,rfl,l,_,R⟩:=r;subst(q);obtain⟨f,m,y,_⟩:=I.list (.of l);obtain⟨o,g,j,n,k⟩:=y.isList;have h:(dq c).map PyData.list=some p:=h;cases e:dq c with
  |none=>rw[e]at h;cases h
  |some P=>rw[e]at h;cases h;obtain⟨K,as,w⟩:=sP I c vs f P R m e;exact⟨K,_,.list g j k (by simpa using w)⟩
 | .ref _,v,u,p,r,q,h=>by cases h
 | .scr _,v,u,p,r,q,h=>by cases h
 | .fn _,v,u,p,r,q,h=>by cases h
 | .dct,v,u,p,r,q,h=>by cases h
 | .dks _,v,u,p,r,q,h=>by cases h
 | .ty _,v,u,p,r,q,h=>by cases h
theorem sP(I:Inv X pq σ H s):∀(ds:List D) (vs:List V) (us:Lv) (ps:List PyData),ah X.K ⟨X.mg,F⟩ μ H ds vs->Vals vs us->dq ds=some ps->PyData.hasDictAll ps=MX/\∃as,ReadsAll s.heap us ps as
 | [],vs,us,ps,r,q,h=>by unfold ah at r;subst r;cases q.zero;cases h;exact⟨rfl,_,.nil⟩
 |d::ds,vs,us,ps,r,q,h=>by
  obtain⟨w,W,rfl,R,f⟩:=r.uncons;obtain⟨u,U,rfl,Q,c⟩:=q.un;unfold dq at h;split at h
  ·rename_i p P e E;cases h;obtain⟨k,as,K⟩:=GO I d w u p R Q e;obtain⟨a,bs,b⟩:=sP I ds W U P f c E;exact⟨by show(PyData.hasDict p||PyData.hasDictAll P)=MX;rw[k,a];rfl,_,.cons K b⟩
  ·cases h
end
open PySem.SeqAt PySem.MeetsSeq PySem.MeetsSeq2 PySem.MeetsSeq3
open PySem.AutoSeq1 (wpAny_loadPart')
theorem GP(f:Nat->β->Sem (ForInStep β))(I:Nat->β->MY->Prop)(Q:β->MY->Prop)
  (turn:∀i b s,i<n->I i b s->wpAny M A (f i b) (λr s'=>match r with| .yield B=>I (i+1) B s'| .done B=>Q B s') E s)
  (fin:∀b s,I n b s->Q b s) (b:β) (h:I 0 b s):wpAny M A (forIn [0:n] b f) Q E s:=by
 rw[Std.Legacy.Range.forIn_eq_forIn_range'];have d:[0:n].size=n:=by simp_all
 rw[d];refine OD f (λl c S=>∃i,i<=n/\l=List.range' i (n-i) 1/\I i c S) Q ?_ ?_ _ b ⟨0,Z1 _,rfl,h⟩
 ·rintro x R c S ⟨i,j,e,g⟩
  have a:i<n:=by
   rcases Nat.lt_or_ge i n with H|H
   ·exact H
   simp_all
  obtain⟨m,k⟩:∃m,n-i=m+1:=⟨n-i-1,by omega⟩;rw[k]at e;obtain⟨rfl,rfl⟩:=List.cons.inj e;refine Nn (turn x c _ a g) (λr o H=>?_) λ_ _ H=>H
  grind
 grind
theorem GQ(l:MZ)(items:Av)(n:Nat)(dd:Option MZ)(sl:Array (Ov))(x:M0)(e:M0->Bool)(j:Nat)(C:j<items.size)(f:e items[j]=MW)(k:∀m (D:m<items.size),m<j->e items[m]=MX):
  Meets (N5.«tuple.index» ⟨[.ref l,x],[]⟩)
   (λA R s=>s.heap.get? l=some {cls:=.type "tuple",dict:=dd,data:=.seq items n,slots:=sl}/\(∀y,y∈items->EqAt A.in1 s y x (e y))/\R (.ok (.ret (.int j s.toks))) {s with toks:=s.toks+1}):=
 .of_wp λp w A R s h=>by
  obtain⟨v,g,d,T,O⟩:=s;obtain⟨u,r,h⟩:=h;have H:min items.size items.size=items.size:=Nat.min_self _
  wp_walk using Pa u,GP (n:=min items.size items.size) _ (λi b S=>b.1=none/\S=⟨v,g,d,T,O⟩/\i<=j) _
  case turn=>
   rintro i b S c ⟨o,rfl,a⟩;rw[H]at c;rw[Nu c];refine Za (r items[i] (RK c) p w _ _ ?_);by_cases q:i=j
   ·subst q;rw[f]
    wp_walk
    exact⟨_,rfl,h⟩
   ·rw[k i c (by omega)]
    wp_walk
    exact⟨rfl,rfl,by omega⟩
  case fin=>rintro⟨B,z⟩ S ⟨o,rfl,a⟩;rw[H]at a;omega
  case h=>exact⟨rfl,rfl,Z1 _⟩
theorem GR{prog:M5}{w:Nc}{A:NM}{E:Vs}{l:MZ}{vs:Lv}{k:Int}{t:Tok}(q:s.heap.IsTuple l vs.toArray)(b:P0 vs ns)(o:k∈ns)
  (h:Q (.int (ns.idxOf k:Nat) s.toks) {s with toks:=s.toks+1}):wpAny (model prog w) A (call (.builtin "tuple.index") [.ref l,.int k t]) Q E s:=by
 obtain⟨⟨cls,u,D,sl⟩,f,g,n,j⟩:=id q;simp only at g j;subst g j
 have H:vs.length=ns.length:=by
  clear q f h o
  induction b with
  |nil=>rfl
  |cons _ _ _ I=>simp[I]
 have v:ns.idxOf k<ns.length:=QI o;have r:∀(m:Nat) (a:m<vs.length),isInt k vs[m]=decide (ns[m]'(by omega)=k):=by intro m a;obtain⟨z,e⟩:=b.int_at m vs[m] (Zh a);rw[e,Oo,Zh (by omega)];simp only[isInt,RL];exact Bool.beq_eq_decide_eq _ _
 refine OL PySem.F.slot_tuple_index ⟨_,f,rfl⟩ PySem.F.entry_tuple_index (PySem.F.args_tuple_index_2 _ _) (GQ l vs.toArray n u sl (.int k t) (isInt k) (ns.idxOf k) (by simpa[H]using v) ?_ ?_) ⟨f,λy x=>(eq_isInt k t b y (by simpa using x)).at _ _,h⟩
 ·have:=r (ns.idxOf k) (by omega);rw[Rt,this];simp
 ·intro m a c;have d:m<vs.length:=by simpa using a
  rw[Rt,r m d];have:=Q8 (p:=(· ==k)) (xs:=ns) (i:=m) c;simpa using this
noncomputable def sQ(d:D)(ds:List D)(S:ae):Res D:=match d,ds with
 | .tup xs,[.int k]=>match f6 xs with
  |some ns=>if k∈ns then .ok (.int (ns.idxOf k:Nat)) S else .fail
  |none=>.fail
 |_,_=>.fail
theorem yY:jh X "tuple.index" (rM X.K X.mg sQ):=by
 intro P s G H x B v U Q I y m h;obtain⟨F,C,S,d,D,A,l,R,w⟩:=h;unfold sQ at w;split at w
 ·split at w
  ·rename_i N E;split at w
   ·rename_i i;have c:=yV E;subst c;obtain⟨a,vs,rfl,g,r⟩:=bV l;have j:=GL _ _ r;subst j;obtain⟨z,rfl,f⟩:=R.one;cases aE f;cases y;obtain⟨u,rfl,n⟩:=m.one;obtain⟨t,rfl⟩:=n;obtain⟨k,q,p,f⟩:=I.tuple g;exact GR p (yW q) i ⟨.int _,H,I.kept λb o e=>e,⟨_,rfl⟩,w _ H _ .refl A bC⟩
   ·exact w.elim
  ·exact w.elim
 ·exact w.elim
end Py
namespace Py
section
variable {E:XK}{Φ:FT}
end
theorem GU(n:Nat):Oe none none (-1) (n:Int)=((n:Int)-1,-1):=rfl
theorem GV(n:Nat):Nm ((n:Int)-1) (-1) (-1)=n:=by
 unfold Nm;have h:¬((-1:Int)>0):=by omega
 have e:(-(-1:Int))=1:=by omega
 simp only[h,if_false,e,Int.ediv_one];split<;>omega
theorem GW{t:Tok}{Q:Int×Int×Nat->MY->Prop}(hs:s.heap.IsSliceOf sl .none .none (.int (-1) t))
  (h:Q ((n:Int)-1,-1,n) s):wpAny (model prog w) A (Qa (.ref sl) (pure (n:Int))) Q E s:=by
 obtain⟨o,a,b,H⟩:=id hs;refine Za (Za (ZV a H rfl (Za (ZV a H rfl (Za (ZV a H rfl (Zd ?_)))))));refine Za (HT.sd (.int (-1) t) ?_);show wpAny _ _ (match Oe none none (-1) (n)with| (lo,c)=>pure (lo,(-1),Nm lo c (-1))) _ _ s;rw[GU n];show wpAny _ _ (pure _) _ _ s;rw[GV];exact Zd h
theorem yZ{a b:Type}{f g:a->Option b}:∀{l:List a},(∀x∈l,f x=g x)->l.filterMap f=l.filterMap g
 | [],_=>rfl
 |x::l,h=>by
  have t:=yZ λy H=>h y (Zb _ H)
  grind
theorem GX(xs:Av):((M4 xs.size).filterMap λ(m:Nat)=>xs[(((xs.size:Int)-1)+(m:Int)*(-1)).toNat]?).toArray=xs.toList.reverse.toArray:=by
 have h:=pick_run xs.toList.reverse.toArray 0 xs.size;rw[RM]at h;have e:xs.toList.reverse.toArray.toList.drop 0=xs.toList.reverse:=by simp
 rw[e,Q9 (by simp)]at h;rw[<-h];congr 1;refine yZ λm a=>?_;have H:m<xs.size:=ZS.1 a;have E:(((xs.size:Int)-1)+(m:Int)*(-1)).toNat=xs.size-1-m:=by omega
 rw[E];show xs[xs.size-1-m]?=xs.toList.reverse.toArray[0+m]?;rw[Rj,List.getElem?_toArray (xs:=xs.toList.reverse),List.getElem?_reverse (by simpa using H),ZF,Og]
theorem GY{prog:M5}{w:Nc}{A:NM}{E:Vs}{t:MZ}{u:Tok}(a:Rf s.heap t items)(hs:s.heap.IsSliceOf sl .none .none (.int (-1) u))
  (h:Q (.ref s.heap.objs.size) {s with heap:=s.heap.push {cls:=.type "tuple",data:=.seq items.toList.reverse.toArray}})
  (f:items.size<=sizeLine):wpAny (model prog w) A (getItem (.ref t) (.ref sl)) Q E s:=by
 have H:=by show items.toList.reverse.toArray.size<=sizeLine;simp_all
 obtain⟨o,c,b,e⟩:=id hs;unfold getItem
 try with_reducible refine ZI ?_
 refine Za (QH a.typeIs (rfl) ?_)
 refine Za (ZT a.typeIs Z6
  (ZR Z6 a.typeIs Qp ?_ (Qz _ _)))
 show wpAny _ _ (OO _>>=_) _ _ s;refine Za (RB a ?_);refine Za (OT ⟨_,c,b⟩ ?_);refine Za (GW hs ?_);show wpAny _ _ (if((items.size:Int)-1==0&&(-1)==1&&items.size==items.size)=MW then _ else _) _ _ s;rw[if_neg (by simp_all),GX]
 first
  |exact Za (Nv (Zd ⟨_,rfl,Zd h⟩) H)
  |simp_all
  |simp_all
  |simp_all
noncomputable def mC(d k:D)(S:ae):Res D:=match d,k with
 | .tup xs,.int i=>if i= -1 then .ok (.tup xs.reverse) S else .fail
 |_,_=>.fail
def GZ(K:Fg)(m:Mg):V->V->Hp->VK->Prop:=λx y H Q=>∃F μ S d k,aI K ⟨m,F⟩ μ S H/\Rep K ⟨m,F⟩ μ H d x/\Rep K ⟨m,F⟩ μ H k y/\aT K ⟨m,F⟩ μ H Q (mC d k S)
theorem sR{st:Expr}{ts:TE}{pos:Pos}(m:PE X e te)(hs:PE X st ts):PE X (.Subscript e (.Slice none none (some st) p2) pos) (λσ H Q=>te σ H λx H1=>ts σ H1 λy H2=>GZ X.K X.mg x y H2 Q):=by
 intro P s σ H Q I h;refine Subscript_ (aO (m _ s _ H _ I h) λv K ⟨x,_,j,A,u⟩=>?_);refine wpAny_Slice ?_;refine Zd (Zd (aO (hs _ _ _ _ _ j u) λvs s3 ⟨y,_,l,B,z⟩=>?_));obtain⟨F,L,S,d,k,G,C,D,w⟩:=z;unfold mC at w;split at w
 ·split at w
  ·rename_i n;subst n;have E:=aE D;subst E;obtain⟨t,rfl⟩:=B;obtain⟨a,W,rfl,o,r⟩:=bV C;cases A;have c:Inv X _ _ _ {s3 with heap:=s3.heap.push {cls:=.type "slice",data:=.fields #[.none,.none,.int (-1) t]}}:=l.kept λb O q=>Zc _ q;obtain⟨p,R,i,J⟩:=c.tuple o;have g:=by exact R.length.symm
   refine tail_any i.typeIs PyProof.Rows.slot_tuple_getitem.lookup (GY i (QA ..) ?_ (by simp_all)) (rfl);refine⟨.ref _,_,c.laid (λb O q=>Zc _ q) (Zg _) ?_,rfl,w.tup G r.reverse _ (c.hok.fresh (Zg _))⟩;exact⟨by simp_all,_,R.reverse,QV _ _,qm.new _ _⟩
  ·exact w.elim
 ·exact w.elim
section
open PySem.AutoSeq1 (wpAny_loadPart')
open PySem.MeetsSeq PySem.MeetsSeq2 PySem.MeetsSeq3
open PySem.AutoSeq1
end
set_option genInjectivity false in
inductive ei where
 |int|seq (t:ei)
 deriving DecidableEq
set_option genInjectivity false in
inductive jj where
 |len|tuple|list (box:Bool)|int|min|max|isinst|all|any|sum|repr|abs|str|sorted (box:Bool) (t:ei)
 deriving DecidableEq
inductive qA where
 |append|extend|pop|count|insert|index
 deriving DecidableEq
set_option genInjectivity false in
inductive CT where
 |var (i:Nat)
 |tup (ts:List CT)
set_option genInjectivity false in
inductive CE where
 |var (i:Nat)
 |lit (d:D)
 |glob (x:Str)
 |ty (n:String)
 |bin (op:QF) (a b:CE)
 |catB (a b:CE)
 |neg (a:CE)
 |cmp (op:O5) (a b:CE)
 |chain (op op':O5) (a b c:CE)
 |chain3 (op op' op'':O5) (a b c d:CE)
 |band (a b:CE)
 |bor (a b:CE)
 |bnot (a:CE)
 |ite (c a b:CE)
 |tup (es:List CE)
 |lst (box:Bool) (es:List CE)
 |idx (a b:CE)
 |sl (a:CE) (lo hi:List CE)
 |call (f:Str) (es:List CE)
 |blt (b:jj) (es:List CE)
 |meth (m:qA) (o:CE) (es:List CE)
 |tix (o:CE) (es:List CE)
 |sel (fs:Ls) (i:CE) (es:List CE)
 |lenset (a:CE)
 |sset (a:CE)
 |comp (box:Bool) (N:Ls) (fr:List (Option Nat)) (tg:CT) (it:CE) (ifs:List CE) (body:CE)
 |emit (e:CE)
 |inner (tg:CT) (it:CE) (ifs:List CE) (body:CE)
 |seq (e:CE)
 |range (es:List CE)
 |zip (es:List CE)
 |down (es:List CE)
 |dct
 |rev (a b:CE)
set_option genInjectivity false in
inductive CS where
 |asg (i:Nat) (e:CE)
 |asgT (t:CT) (e:CE)
 |set (o i v:CE)
 |expr (e:CE)
 |ret (e:CE)
 |retN
 |pass
 |brk
 |cont
 |ite (c:CE) (a b:List CS)
 |for_ (t:CT) (it:CE) (body:List CS)
 |while_ (n:Nat) (c:CE) (body:List CS)
 |never
 |raise_ (x:Str) (es:List CE)
 |tryK (i:Nat) (body:List CS) (f:Str) (ys ws:Ls)
abbrev bI:=List (Option D)
abbrev FT:=Str->Option (List D->ae->Res D)
noncomputable def Res.bind{b c:Type}(r:Res b)(f:b->ae->Res c):Res c:=match r with
 | .ok a S=>f a S
 | .err x S=>.err x S
 | .fail=>.fail
noncomputable def Res.noErr{b:Type}:Res b->Res b
 | .ok a S=>.ok a S
 |_=>.fail
noncomputable def aH{a:Type}(d:D)(f:Bool->Res a):Res a:=match d with
 | .bl k=>f k
 |_=>.fail
noncomputable def bt:List CT->List D->bI->Option bI
 | [],ds,ρ=>if ds.isEmpty=MW then some ρ else none
 |t::ts,ds,ρ=>match t,ds with
  | .var i,d::ds=>bt ts ds (ρ.set i (some d))
  |_,_=>none
noncomputable def aL:CT->D->bI->Option bI
 | .var i,d,ρ=>some (ρ.set i (some d))
 | .tup ts,d,ρ=>match d with
  | .tup ds=>bt ts ds ρ
  |_=>none
noncomputable def cE:List CT->List Nat
 | []=>[]
 |t::ts=>match t with
  | .var i=>i::cE ts
  | .tup _=>cE ts
noncomputable def slots:CT->List Nat
 | .var i=>[i]
 | .tup ts=>cE ts
noncomputable def bu:bI->List Nat->Bool
 |ρ,is=>is.all λi=>match ρ[i]? with
  |some none=>MW
  |_=>MX
noncomputable def bd(t:CT)(d:D)(ρ:bI):Option bI:=if bu ρ (slots t)=MW then aL t d ρ else none
set_option genInjectivity false in
inductive iA where
 |items (xs:List D)|live (f:Nat) (get:ae->Nat->Option (Option D))
noncomputable def aG(step:D->List D->ae->Res (List D)):List D->List D->ae->Res (List D)
 | [],acc,S=>.ok acc S
 |x::xs,acc,S=>(step x acc S).bind λa S'=>aG step xs a S'
noncomputable def bo(step:D->List D->ae->Res (List D))(get:ae->Nat->Option (Option D)):Nat->Nat->List D->ae->Res (List D)
 |0,_,_,_=>.fail
 |f+1,i,acc,S=>match get S i with
  |none=>.fail
  |some none=>.ok acc S
  |some (some x)=>(step x acc S).bind λa S'=>bo step get f (i+1) a S'
noncomputable def bK(step:D->List D->ae->Res (List D))(its:iA)(a:List D)(S:ae):Res (List D):=match its with
 | .items xs=>aG step xs a S
 | .live f get=>bo step get f 0 a S
noncomputable def cq(n:Nat):ae->Nat->Option (Option D):=λS i=>(S[n]?).map λxs=>xs[i]?
noncomputable def dr(S:ae):D->Option iA
 | .tup xs=>some (.items xs)
 | .lst xs=>some (.items xs)
 | .scr xs=>some (.items xs)
 | .ref n=>some (.live (((S[n]?).getD []).length+1) (cq n))
 |_=>none
noncomputable def mD:D->Option (List D)
 | .tup xs=>some xs
 | .lst xs=>some xs
 | .scr xs=>some xs
 |_=>none
noncomputable def mE(d e:D):ae->Nat->Option (Option D):=λS i=>match av S d,av S e with
 |some xs,some ys=>some (match xs[i]?,ys[i]? with
  |some x,some y=>some (.tup [x,y])
  |_,_=>none)
 |_,_=>none
noncomputable def er:D->Bool
 | .tup _=>MX
 |_=>MW
noncomputable def et(S:ae)(d e:D):Option iA:=match mD d,mD e with
  |some xs,some ys=>some (.items (M1 (λx y=>.tup [x,y]) xs ys))
  |_,_=>match av S d,av S e with
   |some xs,some ys=>some (.live (min xs.length ys.length+1) (mE d e))
   |_,_=>none
noncomputable def dZ(l:Int):Nat->List D
 |0=>[]
 |n+1=>.int l::dZ (l+1) n
noncomputable def hY:List D->Option (Option Int)
 | []=>some none
 | [.int i]=>some (some i)
 |_=>none
noncomputable def cS(ds:List D)(S:ae):Res (Option Int):=match hY ds with
 |some o=>.ok o S
 |none=>.fail
noncomputable def aq:ei->D->Bool
 | .int,.int _=>MW
 | .seq t,.tup xs=>xs.all (aq t)
 |_,_=>MX
noncomputable def bQ(f:D->D->Bool):List D->List D->Bool
 | [],[]=>MX
 | [],_::_=>MW
 |_::_,[]=>MX
 |x::xs,y::ys=>if f x y=MW then MW else if f y x=MW then MX else bQ f xs ys
noncomputable def bL:ei->D->D->Bool
 | .int,.int i,.int j=>decide (i<j)
 | .seq t,.tup xs,.tup ys=>bQ (bL t) xs ys
 |_,_,_=>MX
noncomputable def cF(f:D->D->Bool)(x:D):List D->List D
 | []=>[x]
 |y::ys=>if f x y=MW then x::y::ys else y::cF f x ys
noncomputable def d8(f:D->D->Bool)(xs:List D):List D:=xs.foldl (λacc x=>cF f x acc) []
noncomputable def b7:ei->Bool
 | .int=>MW
 | .seq t=>b7 t
noncomputable def fk:D->Bool
 | .tup []=>MW
 |_=>MX
noncomputable def f7:ei->List D->Bool
 | .int,_=>MW
 | .seq t,xs=>b7 t&&(xs.all λd=> !fk d)
noncomputable def gX(box:Bool)(t:ei)(ds:List D)(S:ae):Res D:=match ds with
 | [d]=>match av S d with
  |some xs=>if xs.all (aq t)=MW/\xs.length<64/\f7 t xs=MW then(if box=MW then .ok (.ref S.length) (S++[d8 (bL t) xs])else .ok (.lst (d8 (bL t) xs)) S)else .fail
  |none=>.fail
 |_=>.fail
noncomputable def bD:D->Option Int
 | .int i=>some i
 |_=>none
noncomputable def d9(ns:Li):Li:=ns.foldl P1 []
noncomputable def fm:D->Li
 | .tup ds=>ds.filterMap bD
 |_=>[]
noncomputable def jO(ks:List (Li)):List (Li):=ks.foldl (λacc k=>if acc.contains k=MW then acc else acc++[k]) []
noncomputable def mF(d:D)(S:ae):Res D:=match av S d with
  |some xs=>if xs.all (aq .int)=MW/\xs.length<1000 then .ok (.int ((d9 (xs.filterMap bD)).length:Nat)) S else .fail
  |none=>.fail
noncomputable def dW(ks:List (Li)):List D:=d8 (bL (.seq .int)) ((jO ks).map λk=>D.tup (k.map D.int))
noncomputable def jP:D->Bool
 | .int n=>decide (0<=n)&&decide (n<8)
 |_=>MX
noncomputable def cG(d:D)(S:ae):Res D:=match av S d with
 |some xs=>if xs.all jP=MW then .ok (.lst (((M4 8).filter λk:Nat=>(xs.filterMap bD).contains (k:Int)).map λk:Nat=>D.int k)) S else
  if xs.all (aq (.seq .int))=MW/\xs.length<64/\(xs.all λd=> !fk d)=MW then .ok (.lst (dW (xs.map fm))) S else .fail
 |none=>.fail
noncomputable def cH:ei->Nat
 | .int=>1
 | .seq t=>cH t+1
noncomputable def sS:jj->Bool
 | .sorted _ t=>decide (cH t<=40)
 | .sum=>MX
 | .repr=>MX
 | .abs=>MX
 |_=>MW
noncomputable def sT(ds:List D)(S:ae):Res D:=match ds with
 | [.int k]=>if k.natAbs<2^64 then .ok (.str (toString k:String)) S else .fail
 |_=>.fail
noncomputable def bg:jj->List D->ae->Res D
 | .len=>dM| .tuple=>mf| .list b=>jF b| .int=>intD| .min=>mB| .max=>my| .isinst=>fG| .all=>ix| .any=>jH| .sum=>λ_ _=>.fail | .repr=>λ_ _=>.fail | .abs=>λ_ _=>.fail | .str=>sT
 | .sorted b t=>gX b t
noncomputable def y0(d:D)(ds:List D)(S:ae):Res D:=match ds with
 | []=>jK d [] S
 |ds=>sO d ds S
noncomputable def dt:qA->D->List D->ae->Res D
 | .append=>gT| .extend=>gU| .pop=>y0| .count=>λ_ _ _=>.fail | .insert=>λ_ _ _=>.fail | .index=>λ_ _ _=>.fail
section
variable (Φ:FT)(Γ:Str->Option D)
mutual
noncomputable def aj:CE->bI->ae->Res D
 | .var i,ρ,S=>match ρ[i]? with
  |some (some d)=>.ok d S
  |_=>.fail
 | .dct,ρ,S=>.ok .dct S
 | .lit d,ρ,S=>.ok d S
 | .glob x,ρ,S=>match Γ x with
  |some d=>.ok d S
  |none=>.fail
 | .ty n,ρ,S=>.ok (.ty n) S
 | .bin op a b,ρ,S=>(aj a ρ S).bind λd S1=>(aj b ρ S1).bind λe S2=>(fE op d e S2).noErr
 | .catB a b,ρ,S=>(aj a ρ S).bind λd S1=>(aj b ρ S1).bind λe S2=>(fX d e S2).noErr
 | .neg a,ρ,S=>(aj a ρ S).bind λd S1=>match d with
  | .int i=>.ok (.int (-i)) S1
  |_=>.fail
 | .cmp op a b,ρ,S=>(aj a ρ S).bind λd S1=>(aj b ρ S1).bind λe S2=>(aF op d e S2).noErr
 | .chain3 _ _ _ _ _ _ _,_,_=>.fail
 | .chain op op' a b c,ρ,S=>(aj a ρ S).bind λd S1=>(aj b ρ S1).bind λe S2=>(aF op d e S2).noErr.bind λk S3=>aH k λk=>if k=MW then(aj c ρ S3).bind λf p=>(aF op' e f p).noErr else .ok (.bl MX) S3
 | .band a b,ρ,S=>(aj a ρ S).bind λd S1=>aH d λk=>if k=MW then aj b ρ S1 else .ok (.bl MX) S1
 | .bor a b,ρ,S=>(aj a ρ S).bind λd S1=>aH d λk=>if k=MW then .ok (.bl MW) S1 else aj b ρ S1
 | .bnot a,ρ,S=>(aj a ρ S).bind λd S1=>match bH S1 d with
  |some k=>.ok (.bl (!k)) S1
  |none=>.fail
 | .ite c a b,ρ,S=>(am c ρ S).bind λk S1=>if k=MW then aj a ρ S1 else aj b ρ S1
 | .tup es,ρ,S=>(ai es ρ S).bind λds S1=>.ok (.tup ds) S1
 | .lst box es,ρ,S=>(ai es ρ S).bind λds S1=>if box=MW then .ok (.ref S1.length) (S1++[ds])else .ok (.lst ds) S1
 | .rev a b,ρ,S=>(aj a ρ S).bind λd S1=>(aj b ρ S1).bind λe S2=>(mC d e S2).noErr
 | .idx a b,ρ,S=>(aj a ρ S).bind λd S1=>(aj b ρ S1).bind λe S2=>(bP d e S2).noErr
 | .sl a lo hi,ρ,S=>(aj a ρ S).bind λd S1=>((ai lo ρ S1).bind cS).bind λl S2=>((ai hi ρ S2).bind cS).bind λh S3=>(mm d l h S3).noErr
 | .call f es,ρ,S=>match Φ f with
  |some φ=>(ai es ρ S).bind λds S1=>φ ds S1
  |none=>.fail
 | .blt b es,ρ,S=>(ai es ρ S).bind λds S1=>(bg b ds S1).noErr
 | .meth m o es,ρ,S=>(aj o ρ S).bind λd S1=>match d with
  | .ref n=>(ai es ρ S1).bind λds S2=>(dt m (.ref n) ds S2).noErr
  |_=>.fail
 | .sel fs i es,ρ,S=>if(fs.all λf=>(Φ f).isSome)=MW/\fs.length<1000 then(aj i ρ S).bind λd S1=>(match d with
   | .int k=>(match(if 0<=k then fs[k.toNat]? else none)with
    |some f=>(match Φ f with
     |some φ=>(ai es ρ S1).bind λds S2=>φ ds S2
     |none=>.fail)
    |none=>.fail)
   |_=>.fail)else .fail
 | .tix o es,ρ,S=>(aj o ρ S).bind λd S1=>match d with
  | .tup xs=>(ai es ρ S1).bind λds S2=>(sQ (.tup xs) ds S2).noErr
  |_=>.fail
 | .lenset a,ρ,S=>(aj a ρ S).bind λd S1=>(mF d S1).noErr
 | .sset a,ρ,S=>(aj a ρ S).bind λd S1=>(cG d S1).noErr
 | .comp box N fr tg it ifs body,ρ,S=>(aW it ρ S).bind λits S1=>
   (bK (λx acc S2=>match bd tg x (fr.map λj=>j.bind λj=>(ρ[j]?).join)with
    |some ρ'=>(aM ifs ρ' S2).bind λk S3=>if k=MW then bq body ρ' acc S3 else .ok acc S3
    |none=>.fail) its [] S1).noErr.bind λys g=>if box=MW then .ok (.ref g.length) (g++[ys])else .ok (.lst ys) g
 | .emit _,_,_=>.fail
 | .inner _ _ _ _,_,_=>.fail
 | .seq _,_,_=>.fail
 | .range _,_,_=>.fail
 | .zip _,_,_=>.fail
 | .down _,_,_=>.fail
noncomputable def am:CE->bI->ae->Res Bool
 | .band a b,ρ,S=>(am a ρ S).bind λk S1=>if k=MW then am b ρ S1 else .ok MX S1
 | .bor a b,ρ,S=>(am a ρ S).bind λk S1=>if k=MW then .ok MW S1 else am b ρ S1
 | .bnot a,ρ,S=>(am a ρ S).bind λk S1=>.ok (!k) S1
 | .cmp op a b,ρ,S=>(aj a ρ S).bind λd S1=>(aj b ρ S1).bind λe S2=>(aF op d e S2).noErr.bind λk S3=>aH k λk=>.ok k S3
 | .chain3 op op' op'' a b c d,ρ,S=>(aj a ρ S).bind λx S1=>(aj b ρ S1).bind λe S2=>(aF op x e S2).noErr.bind λk S3=>aH k λk=>if k=MW then(aj c ρ S3).bind λf j=>(aF op' e f j).noErr.bind λk h=>aH k λk=>if k=MW then(aj d ρ h).bind λg l=>(aF op'' f g l).noErr.bind λk m=>aH k λk=>.ok k m else .ok MX h else .ok MX S3
 | .chain op op' a b c,ρ,S=>(aj a ρ S).bind λd S1=>(aj b ρ S1).bind λe S2=>(aF op d e S2).noErr.bind λk S3=>aH k λk=>if k=MW then(aj c ρ S3).bind λf j=>(aF op' e f j).noErr.bind λk h=>aH k λk=>.ok k h else .ok MX S3
 | .var i,ρ,S=>match ρ[i]? with
  |some (some d)=>match bH S d with
   |some k=>.ok k S
   |none=>.fail
  |_=>.fail
 | .call f es,ρ,S=>match Φ f with
  |some φ=>(ai es ρ S).bind λds S1=>(φ ds S1).bind λd S2=>match bH S2 d with
   |some k=>.ok k S2
   |none=>.fail
  |none=>.fail
 | .blt b es,ρ,S=>(ai es ρ S).bind λds S1=>(bg b ds S1).noErr.bind λd S2=>match bH S2 d with
   |some k=>.ok k S2
   |none=>.fail
 | .lit d,ρ,S=>match bH S d with
   |some k=>.ok k S
   |none=>.fail
 |_,_,_=>.fail
noncomputable def ai:List CE->bI->ae->Res (List D)
 | [],_,S=>.ok [] S
 |e::es,ρ,S=>(aj e ρ S).bind λd S1=>(ai es ρ S1).bind λds S2=>.ok (d::ds) S2
noncomputable def aM:List CE->bI->ae->Res Bool
 | [],_,S=>.ok MW S
 |e::es,ρ,S=>(am e ρ S).bind λk S1=>if k=MW then aM es ρ S1 else .ok MX S1
noncomputable def aW:CE->bI->ae->Res iA
 | .seq e,ρ,S=>(aj e ρ S).bind λd S1=>match dr S1 d with
  |some xs=>.ok xs S1
  |none=>.fail
 | .range es,ρ,S=>(ai es ρ S).bind λds S1=>match ds with
  | [.int j]=>if-(2^62)<=j/\j<2^62 then .ok (.items (dZ 0 j.toNat)) S1 else .fail
  | [.int i,.int j]=>if-(2^62)<=i/\i<2^62/\ -(2^62)<=j/\j<2^62 then .ok (.items (dZ i (j-i).toNat)) S1 else .fail
  |_=>.fail
 | .down _,_,_=>.fail
 | .zip es,ρ,S=>(ai es ρ S).bind λds S2=>match ds with
  | [d,e]=>(match et S2 d e with
   |some its=>.ok its S2
   |none=>.fail)
  |_=>.fail
 |_,_,_=>.fail
noncomputable def bq:CE->bI->List D->ae->Res (List D)
 | .emit e,ρ,acc,S=>(aj e ρ S).bind λy S1=>if acc.length<bB then .ok (acc++[y]) S1 else .fail
 | .inner tg it ifs body,ρ,acc,S=>(aW it ρ S).bind λits S1=>
   bK (λx acc S2=>match bd tg x ρ with
    |some ρ'=>(aM ifs ρ' S2).bind λk S3=>if k=MW then bq body ρ' acc S3 else .ok acc S3
    |none=>.fail) its acc S1
 |_,_,_,_=>.fail
end
set_option genInjectivity false in
inductive Fl where
 |next(ρ:bI)|ret (d:D)|brk (ρ:bI)|cont (ρ:bI)
noncomputable def d_(step:D->bI->ae->Res Fl):List D->bI->ae->Res Fl
 | [],ρ,S=>.ok (.next ρ) S
 |x::xs,ρ,S=>(step x ρ S).bind λf S'=>match f with
  | .next ρ'=>d_ step xs ρ' S'
  | .cont ρ'=>d_ step xs ρ' S'
  | .brk ρ'=>.ok (.next ρ') S'
  | .ret d=>.ok (.ret d) S'
noncomputable def du(step:D->bI->ae->Res Fl)(get:ae->Nat->Option (Option D)):Nat->Nat->bI->ae->Res Fl
 |0,_,_,_=>.fail
 |f+1,i,ρ,S=>match get S i with
  |none=>.fail
  |some none=>.ok (.next ρ) S
  |some (some x)=>(step x ρ S).bind λF S'=>match F with
    | .next ρ'=>du step get f (i+1) ρ' S'
    | .cont ρ'=>du step get f (i+1) ρ' S'
    | .brk ρ'=>.ok (.next ρ') S'
    | .ret d=>.ok (.ret d) S'
noncomputable def mG(step:D->bI->ae->Res Fl)(its:iA)(ρ:bI)(S:ae):Res Fl:=match its with
 | .items xs=>d_ step xs ρ S
 | .live f get=>du step get f 0 ρ S
noncomputable def iB(c:bI->ae->Res Bool)(step:bI->ae->Res Fl):Nat->bI->ae->Res Fl
 |0,_,_=>.fail
 |n+1,ρ,S=>(c ρ S).bind λk S1=>if k=MW then(step ρ S1).bind λf S'=>match f with
   | .next ρ'=>iB c step n ρ' S'
   | .cont ρ'=>iB c step n ρ' S'
   | .brk ρ'=>.ok (.next ρ') S'
   | .ret d=>.ok (.ret d) S'
  else .ok (.next ρ) S1
mutual
noncomputable def ap:CS->bI->ae->Res Fl
 | .asg i e,ρ,S=>(aj Φ Γ e ρ S).bind λd S1=>.ok (.next (ρ.set i (some d))) S1
 | .asgT t e,ρ,S=>(aj Φ Γ e ρ S).bind λd S1=>match aL t d ρ with
  |some ρ'=>.ok (.next ρ') S1
  |none=>.fail
 | .set o i v,ρ,S=>(aj Φ Γ v ρ S).bind λf S1=>(aj Φ Γ o ρ S1).bind λd S2=>(aj Φ Γ i ρ S2).bind λe S3=>match iy d e f S3 with
  |some g=>.ok (.next ρ) g
  |none=>.fail
 | .expr e,ρ,S=>(aj Φ Γ e ρ S).bind λ_ S1=>.ok (.next ρ) S1
 | .ret e,ρ,S=>(aj Φ Γ e ρ S).bind λd S1=>.ok (.ret d) S1
 | .retN,_,S=>.ok (.ret .non) S
 | .pass,ρ,S=>.ok (.next ρ) S
 | .brk,ρ,S=>.ok (.brk ρ) S
 | .cont,ρ,S=>.ok (.cont ρ) S
 | .ite c a b,ρ,S=>(am Φ Γ c ρ S).bind λk S1=>if k=MW then af a ρ S1 else af b ρ S1
 | .for_ t it body,ρ,S=>(aW Φ Γ it ρ S).bind λxs S1=>mG (λx ρ S=>match aL t x ρ with
   |some ρ'=>af body ρ' S
   |none=>.fail) xs ρ S1
 | .while_ n c body,ρ,S=>iB (am Φ Γ c) (af body) n ρ S
 | .never,_,_=>.fail
 | .raise_ x es,ρ,S=>(ai Φ Γ es ρ S).bind λds S1=>if ds.length<=1000 then .err ⟨x,[]⟩ S1 else .fail
 | .tryK _ body _ ys w,ρ,S=>match af body ρ S with
  | .err x S'=>(match x.fs,(ys.zip w).lookup x.cls with
   | [],some r=>.ok (.ret (.str r)) S'
   |_,_=>.fail)
  |r=>r
noncomputable def af:List CS->bI->ae->Res Fl
 | [],ρ,S=>.ok (.next ρ) S
 |c::cs,ρ,S=>(ap c ρ S).bind λf S1=>match f with
  | .next ρ'=>af cs ρ' S1
  |f=>.ok f S1
end
end
end Py
variable {body:List Py.CS}{Φ:Py.FT}{ρ ρ' r0:Py.bI}
namespace Py
def y7(m:Mg)(x:Exc)(cls:M0)(d:Option MZ)(H:Hp):Prop:=m x.cls=some cls/\x.fs=[]
def y8(m:Mg)(E:XK)(x:Exc)(H:Hp):Prop:=∀cls d,y7 m x cls d H->E cls d H
noncomputable def ak{c d:Type}(K:Fg)(m:GS)(E:XK)(Rel:La->Hp->c->d->Prop)(μ:La)(H:Hp)(Q:d->Hp->Prop):Res c->Prop
 | .ok a S'=>∀μ' H' b,Ext μ H μ' H'->aI K m μ' S' H'->Rel μ' H' a b->Q b H'
 | .err x S'=>∀μ' H',Ext μ H μ' H'->aI K m μ' S' H'->y8 m.mg E x H'
 | .fail=>False
section
variable {mg:GS}{E:XK}
theorem cr{Q:VK}{r:Res D}(w:ak K mg E (Rep K mg) μ H Q r.noErr):aT K mg μ H Q r:=by cases r<;>first|exact w|exact w.elim
theorem ak.ext{Rel:La->Hp->α->β->Prop}{Q:β->Hp->Prop}{r:Res α}(x:Ext μ H μ' H')(w:ak K mg E Rel μ H Q r):ak K mg E Rel μ' H' Q r:=by
 cases r with
 |ok d S=>exact λa b v X s2 R=>w _ _ v (x.trans X) s2 R
 |err y S=>exact λa b X s2=>w _ _ (x.trans X) s2
 |fail=>exact w
theorem ak.bind{c d:Type}{Rel:La->Hp->α->β->Prop}{R:La->Hp->c->d->Prop}{Q:d->Hp->Prop}{r:Res α}{f:α->ae->Res c}(w:ak K mg E R μ H Q (r.bind f)):
  ak K mg E Rel μ H (λb H'=>∃μ' S' a,Ext μ H μ' H'/\aI K mg μ' S' H'/\Rel μ' H' a b/\ak K mg E R μ' H' Q (f a S')) r:=by
 cases r with
 |ok a S'=>exact λe g b x s r=>⟨_,_,a,x,s,r,ak.ext x (show ak K _ E _ _ H Q _ from w)⟩
 |err y S'=>exact w
 |fail=>exact w
theorem ak.mono{Rel:La->Hp->α->β->Prop}{Q c:β->Hp->Prop}{r:Res α}(w:ak K mg E Rel μ H Q r)(h:∀b H',Q b H'->c b H'):ak K mg E Rel μ H c r:=by
 cases r with
 |ok a S=>exact λd e b x s r=>h b _ (w _ _ b x s r)
 |err y S=>exact w
 |fail=>exact w
def aX(K:Fg)(m:GS)(μ:La)(H:Hp)(ρ:bI)(σ:L2.St):Prop:=
 ρ.length=σ.length/\∀(i:Nat) (d:D),ρ[i]?=some (some d)->∃v,σ[i]?=some (some v)/\Rep K m μ H d v
theorem aX.mono(x:Ext μ H μ' H')(h:aX K mg μ H ρ σ):aX K mg μ' H' ρ σ:=
 ⟨h.1,λi d e=>let⟨v,a,b⟩:=h.2 i d e;⟨v,a,Rep.mono x _ _ b⟩⟩
theorem aX.set{i:Nat}(h:aX K mg μ H ρ σ)(r:Rep K mg μ H d v):aX K mg μ H (ρ.set i (some d)) (σ.set i (some v)):=by
 refine⟨by simp[h.1],λj e a=>?_⟩;by_cases b:j=i
 ·subst b;have c:j<ρ.length:=by grind
  rw[Z4 c]at a;cases a;exact⟨v,Z4 (by rw[<-h.1];exact c),r⟩
 ·rw[NE (Ne.symm b)]at a⊢;exact h.2 j e a
end
section
variable (K:Fg)(mg:Mg)(E:XK)(Φ:FT)(Γ:Str->Option D)
noncomputable def tE(c:CE):TE:=λσ H Q=>∃F μ ρ S,aI K ⟨mg,F⟩ μ S H/\aX K ⟨mg,F⟩ μ H ρ σ/\ak K ⟨mg,F⟩ E (Rep K ⟨mg,F⟩) μ H Q (aj Φ Γ c ρ S)
noncomputable def tT(c:CE):TT:=λσ H Q=>∃F μ ρ S,aI K ⟨mg,F⟩ μ S H/\aX K ⟨mg,F⟩ μ H ρ σ/\ak K ⟨mg,F⟩ E (λ_ _ a b=>a=b) μ H Q (am Φ Γ c ρ S)
noncomputable def tL(cs:List CE):TA:=λσ H Q=>∃F μ ρ S,aI K ⟨mg,F⟩ μ S H/\aX K ⟨mg,F⟩ μ H ρ σ/\ak K ⟨mg,F⟩ E (ah K ⟨mg,F⟩) μ H Q (ai Φ Γ cs ρ S)
end
theorem aJ{t t':TE}(h:PE X e t)(w:∀σ H Q,t' σ H Q->t σ H Q):PE X e t':=λp s σ H Q I q=>h _ s _ H Q I (w _ H Q q)
theorem dv{t t':TT}(h:PT X e t)(w:∀σ H Q,t' σ H Q->t σ H Q):PT X e t':=λp s σ H Q I q=>h _ s _ H Q I (w _ H Q q)
theorem dX{e:Lx}{t t':TA}(h:PA X e t)(w:∀σ H Q,t' σ H Q->t σ H Q):PA X e t':=λpos p s σ H Q I q=>h _ _ s _ H Q I (w _ H Q q)
noncomputable def mH(s:List (Str×NR))(x:Str):Bool:=match s.lookup x with
 |some .local=>MW|some .cell=>MW|some .free=>MW
 |_=>MX
noncomputable def a_(s:List (Str×NR))(x:Str):Bool:=s.lookup x==some .globalImplicit&& !(x==("__debug__":Str))&& !(x==("__name__":Str))
noncomputable def ew(x:Str):Bool:= !(x==("__debug__":Str))&& !(x==("__classdict__":Str))
noncomputable def bR:Expr->Bool
 | .Starred _ _=>MX
 |_=>MW
noncomputable def jQ:D->Const->Bool
 | .non,.none=>MW
 | .bl b,.bool c=>b==c
 | .int i,.int j=>i==j
 | .str x,.str y=>x==y
 |_,_=>MX
noncomputable def gY:jj->Str
 | .len=>"len"| .tuple=>"tuple"| .list _=>"list"| .int=>"int"| .min=>"min"| .max=>"max"| .isinst=>"isinstance"| .all=>"all"| .any=>"any"| .sum=>"sum"| .repr=>"repr"| .abs=>"abs"| .str=>"str"| .sorted _ _=>"sorted"
noncomputable def jR:jj->M0
 | .len=>.builtin "len"| .tuple=>.type "tuple"| .list _=>.type "list"| .int=>.type "int"| .min=>.builtin "min"| .max=>.builtin "max"| .isinst=>.builtin "isinstance"| .all=>.builtin "all"| .any=>.builtin "any"| .sum=>.builtin "sum"| .repr=>.builtin "repr"| .abs=>.builtin "abs"| .str=>.type "str"| .sorted _ _=>.builtin "sorted"
theorem G1(b:jj):bootBuiltins (gY b)=some (jR b):=by
 cases b with
 |list box=>show bootBuiltins (N7 _)=some (.type _);decide+kernel
 |sorted box t=>rfl
 |_=>decide+kernel
noncomputable def iC:List String:=["int","bool","str","tuple","list","dict"]
theorem mI{n:String}(h:iC.contains n=MW):bootBuiltins (N7 n)=some (.type n):=by simp[iC]at h;rcases h with rfl|rfl|rfl|rfl|rfl|rfl<;>decide+kernel
abbrev Sc:=List (Str×NR)
noncomputable def jS(N s:Sc):Sc:=N.map λ(n,k)=>if(k== .free&&s.lookup n==some .cell)then(n,.cell)else(n,k)
noncomputable def sU(n:Sc):Str->Bool:=λx=>n.lookup x==some .cell
noncomputable def G2(scope:Scope)(s:Sc):Bool:=scope.kind== .function&&scope.names.all λ(n,k)=>(k !=.cell||scope.names.lookup n==some .cell)&&(k !=.local||scope.names.lookup n==some .local)&&(k !=.free||(s.lookup n==some .cell||s.lookup n==some .free))
noncomputable def frB(n:Sc)(a N:Ls)(fr:List (Option Nat)):Bool:=fr.length==a.length&&(M4 a.length).all λi=>match fr[i]? with
 |some (some j)=>(match a[i]? with
  |some x=>n.lookup x==some .free&&N[j]?==some x
  |none=>MX)
 |_=>MW
noncomputable def iD:Ls->Bool
 | []=>MW
 |x::r=> !r.contains x&&iD r
noncomputable def f8:Expr->Bool
 | .Slice _ _ _ _=>MX
 |_=>MW
theorem y9{b:Expr}(h:f8 b=MW):yd b:=by intro o i;cases b<;>first|rfl|cases h
noncomputable def mJ:qA->Str
 | .append=>"append"| .extend=>"extend"| .pop=>"pop"| .count=>"count"| .insert=>"insert"| .index=>"index"
noncomputable def mK:Expr->Bool
 | .Name _ _=>MW
 |_=>MX
noncomputable def fo:Expr->Bool
 | .Tuple _ _ _=>MW
 |_=>MX
noncomputable def mL:Expr->Bool
 | .Set _ _ _=>MX
 |_=>MW
noncomputable def dE:Expr:=.Name "" ⟨0,0,0,0⟩
noncomputable def dG:Nk:=⟨dE,dE,[],0⟩
set_option genInjectivity false in
structure Nd where
 e0:Expr:=dE
 e1:Expr:=dE
 e2:Expr:=dE
 es:Lx:=[]
 lo:Option Expr:=none
 hi:Option Expr:=none
 gs:List Nk:=[]
 sc:Scope:=default
 k:Nat:=0
 pos:Pos:=⟨0,0,0,0⟩
noncomputable def vw:Expr->Nd
 | .BoolOp _ vs p=>{es:=vs,pos:=p}
 | .BinOp l _ r p=>{e0:=l,e1:=r,pos:=p}
 | .UnaryOp _ x p=>{e0:=x,pos:=p}
 | .IfExp t x y p=>{e0:=t,e1:=x,e2:=y,pos:=p}
 | .ListComp a g sc p=>{e0:=a,gs:=g,sc:=sc,pos:=p}
 | .SetComp a g sc p=>{e0:=a,gs:=g,sc:=sc,pos:=p}
 | .Compare l _ R p=>{e0:=l,es:=R,pos:=p}
 | .Call f xs ks p=>{e0:=f,es:=xs,e1:=(ks.headD ⟨none,dE,⟨0,0,0,0⟩⟩).value,e2:=.Name "" (ks.headD ⟨none,dE,⟨0,0,0,0⟩⟩).pos,pos:=p}
 | .Constant _ k p=>{k:=k,pos:=p}
 | .Attribute v _ p=>{e0:=v,pos:=p}
 | .Subscript v s p=>{e0:=v,e1:=s,pos:=p}
 | .Name _ p=>{pos:=p}
 | .List es p=>{es:=es,pos:=p}
 | .Tuple es k p=>{es:=es,k:=k,pos:=p}
 | .Slice l u s p=>{lo:=l,hi:=u,e2:=s.getD dE,pos:=p}
 | .Dict _ _ p=>{pos:=p}
 | .JoinedStr vs p=>{es:=vs,pos:=p}
 | .FormattedValue v _ _ p=>{e0:=v,pos:=p}
 |_=>{}
noncomputable def y_:D->Const
 | .bl b=>.bool b
 | .int i=>.int i
 | .str x=>.str x
 |_=>.none
noncomputable def mM:CT->Bool
 | .tup _=>MW
 |_=>MX
noncomputable def jT:CE->Bool
 | .band _ _=>MW
 |_=>MX
noncomputable def f9:CE->Bool
 | .bor _ _=>MW
 |_=>MX
noncomputable def jU:CE->Bool
 | .comp .. =>MW
 |_=>MX
mutual
noncomputable def iE:CT->Ls->Expr->Expr
 | .var i,N,e=>.Name (N.getD i "") (vw e).pos
 | .tup ts,N,e=>.Tuple (gZ ts N (vw e).es) (vw e).k (vw e).pos
noncomputable def gZ:List CT->Ls->Lx->Lx
 | [],_,_=>[]
 |t::ts,N,es=>iE t N (es.headD dE)::gZ ts N es.tail
end
mutual
noncomputable def qB(c:Str->Bool)(N:Ls)(s:Sc):CT->Bool
 | .var i=>N[i]?==some (N.getD i "")&&(s.lookup (N.getD i "")==some .local||(c (N.getD i "")&&s.lookup (N.getD i "")==some .cell))
 | .tup ts=>sV c N s ts
noncomputable def sV(c:Str->Bool)(N:Ls)(s:Sc):List CT->Bool
 | []=>MW
 |t::ts=>qB c N s t&&sV c N s ts
end
noncomputable def jV:Ls->Lx->Lx
 | [],_=>[]
 |f::fs,es=>.Name f (vw (es.headD dE)).pos::jV fs es.tail
mutual
noncomputable def a7:CE->Ls->Expr->Expr
 | .var i,N,e=>.Name (N.getD i "") (vw e).pos
 | .dct,_,e=>.Dict [] [] (vw e).pos
 | .rev a b,N,e=>.Subscript (a7 a N (vw e).e0) (.Slice none none (some (a7 b N (vw (vw e).e1).e2)) (vw (vw e).e1).pos) (vw e).pos
 | .lit d,_,e=>.Constant (y_ d) (vw e).k (vw e).pos
 | .glob y,_,e=>.Name y (vw e).pos
 | .ty n,_,e=>.Name (N7 n) (vw e).pos
 | .bin op a b,N,e=>.BinOp (a7 a N (vw e).e0) op (a7 b N (vw e).e1) (vw e).pos
 | .catB a b,N,e=>.BinOp (a7 a N (vw e).e0) .Add (a7 b N (vw e).e1) (vw e).pos
 | .neg a,N,e=>.UnaryOp .USub (a7 a N (vw e).e0) (vw e).pos
 | .cmp op a b,N,e=>.Compare (a7 a N (vw e).e0) [op] [a7 b N ((vw e).es.headD dE)] (vw e).pos
 | .chain3 op op' op'' a b c d,N,e=>.Compare (a7 a N (vw e).e0) [op,op',op''] [a7 b N ((vw e).es.headD dE),a7 c N ((vw e).es.tail.headD dE),a7 d N ((vw e).es.tail.tail.headD dE)] (vw e).pos
 | .chain op op' a b c,N,e=>.Compare (a7 a N (vw e).e0) [op,op'] [a7 b N ((vw e).es.headD dE),a7 c N ((vw e).es.tail.headD dE)] (vw e).pos
 | .band a b,N,e=>.BoolOp .And (a7 a N ((vw e).es.headD dE)::cond ((vw e).es.length==2) [a7 b N ((vw e).es.tail.headD dE)] (vw (a7 b N (.BoolOp .And (vw e).es.tail (vw e).pos))).es) (vw e).pos
 | .bor a b,N,e=>.BoolOp .Or (a7 a N ((vw e).es.headD dE)::cond ((vw e).es.length==2) [a7 b N ((vw e).es.tail.headD dE)] (vw (a7 b N (.BoolOp .Or (vw e).es.tail (vw e).pos))).es) (vw e).pos
 | .bnot a,N,e=>.UnaryOp .Not (a7 a N (vw e).e0) (vw e).pos
 | .ite c a b,N,e=>.IfExp (a7 c N (vw e).e0) (a7 a N (vw e).e1) (a7 b N (vw e).e2) (vw e).pos
 | .tup es,N,e=>.Tuple (dJ es N (vw e).es) (vw e).k (vw e).pos
 | .lst _ es,N,e=>.List (dJ es N (vw e).es) (vw e).pos
 | .idx a b,N,e=>.Subscript (a7 a N (vw e).e0) (a7 b N (vw e).e1) (vw e).pos
 | .sl a lo hi,N,e=>.Subscript (a7 a N (vw e).e0) (.Slice (dJ lo N (vw (vw e).e1).lo.toList).head? (dJ hi N (vw (vw e).e1).hi.toList).head? none (vw (vw e).e1).pos) (vw e).pos
 | .call f es,N,e=>.Call (.Name f (vw (vw e).e0).pos) (dJ es N (vw e).es) [] (vw e).pos
 | .blt b es,N,e=>.Call (.Name (gY b) (vw (vw e).e0).pos) (dJ es N (vw e).es) [] (vw e).pos
 | .sel fs i es,N,e=>.Call (.Subscript (.List (jV fs (vw (vw (vw e).e0).e0).es) (vw (vw (vw e).e0).e0).pos) (a7 i N (vw (vw e).e0).e1) (vw (vw e).e0).pos) (dJ es N (vw e).es) [] (vw e).pos
 | .tix o es,N,e=>.Call (.Attribute (a7 o N (vw (vw e).e0).e0) "index" (vw (vw e).e0).pos) (dJ es N (vw e).es) [] (vw e).pos
 | .meth m o es,N,e=>.Call (.Attribute (a7 o N (vw (vw e).e0).e0) (mJ m) (vw (vw e).e0).pos) (dJ es N (vw e).es) [] (vw e).pos
 | .lenset a,N,e=>.Call (.Name "len" (vw (vw e).e0).pos) [.Call (.Name "set" (vw (vw ((vw e).es.headD dE)).e0).pos) [a7 a N ((vw ((vw e).es.headD dE)).es.headD dE)] [] (vw ((vw e).es.headD dE)).pos] [] (vw e).pos
 | .sset a,N,e=>.Call (.Name "sorted" (vw (vw e).e0).pos) [.Call (.Name "set" (vw (vw ((vw e).es.headD dE)).e0).pos) [a7 a N ((vw ((vw e).es.headD dE)).es.headD dE)] [] (vw ((vw e).es.headD dE)).pos] [] (vw e).pos
 | .comp _ N' _ tg it ifs body,N,e=>.ListComp (mO body N' (vw e).e0) (⟨iE tg N' ((vw e).gs.headD dG).target,sX it N ((vw e).gs.headD dG).iter,dJ ifs N' ((vw e).gs.headD dG).ifs,0⟩::sW body N' (vw e).gs.tail) (vw e).sc (vw e).pos
 | .emit _,_,e=>e
 | .inner _ _ _ _,_,e=>e
 | .seq _,_,e=>e
 | .range _,_,e=>e
 | .zip _,_,e=>e
 | .down _,_,e=>e
noncomputable def mO:CE->Ls->Expr->Expr
 | .emit a,N,e=>a7 a N e
 | .inner _ _ _ body,N,e=>mO body N e
 |_,_,e=>e
noncomputable def sW:CE->Ls->List Nk->List Nk
 | .inner tg it ifs body,N,g=>⟨iE tg N (g.headD dG).target,sX it N (g.headD dG).iter,dJ ifs N (g.headD dG).ifs,0⟩::sW body N g.tail
 |_,_,_=>[]
noncomputable def dJ:List CE->Ls->Lx->Lx
 | [],_,_=>[]
 |c::cs,N,es=>a7 c N (es.headD dE)::dJ cs N es.tail
noncomputable def sX:CE->Ls->Expr->Expr
 | .seq c,N,e=>a7 c N e
 | .range es,N,e=>.Call (.Name "range" (vw (vw e).e0).pos) (dJ es N (vw e).es) [] (vw e).pos
 | .down es,N,e=>.Call (.Name "reversed" (vw (vw e).e0).pos) [.Call (.Name "range" (vw (vw ((vw e).es.headD dE)).e0).pos) (dJ es N (vw ((vw e).es.headD dE)).es) [] (vw ((vw e).es.headD dE)).pos] [] (vw e).pos
 | .zip es,N,e=>.Call (.Name "zip" (vw (vw e).e0).pos) (dJ es N (vw e).es) [] (vw e).pos
 |_,_,e=>e
end
mutual
noncomputable def bS:CE->Ls->Sc->Expr->Bool
 | .var i,N,sc,_=>N[i]?==some (N.getD i "")&&(mH sc (N.getD i "")&&ew (N.getD i ""))
 | .dct,_,_,_=>MW
 | .rev a b,N,sc,e=>bS a N sc (vw e).e0&&bS b N sc (vw (vw e).e1).e2
 | .lit d,_,_,_=>jQ d (y_ d)
 | .glob y,_,sc,_=>a_ sc y
 | .ty n,_,sc,_=>a_ sc (N7 n)&&iC.contains n
 | .bin _ a b,N,sc,e=>bS a N sc (vw e).e0&&bS b N sc (vw e).e1
 | .catB a b,N,sc,e=>bS a N sc (vw e).e0&&bS b N sc (vw e).e1
 | .neg a,N,sc,e=>bS a N sc (vw e).e0
 | .cmp op a b,N,sc,e=>bS a N sc (vw e).e0&&(bS b N sc ((vw e).es.headD dE)&& !behindInMarks op (a7 b N ((vw e).es.headD dE)))
 | .chain3 _ _ op'' a b c d,N,sc,e=>bS a N sc (vw e).e0&&(bS b N sc ((vw e).es.headD dE)&&(bS c N sc ((vw e).es.tail.headD dE)&&(bS d N sc ((vw e).es.tail.tail.headD dE)&& !behindInMarks op'' (a7 d N ((vw e).es.tail.tail.headD dE)))))
 | .chain _ op' a b c,N,sc,e=>bS a N sc (vw e).e0&&(bS b N sc ((vw e).es.headD dE)&&(bS c N sc ((vw e).es.tail.headD dE)&& !behindInMarks op' (a7 c N ((vw e).es.tail.headD dE))))
 | .band a b,N,sc,e=>bS a N sc ((vw e).es.headD dE)&&cond ((vw e).es.length==2) (bS b N sc ((vw e).es.tail.headD dE)) (jT b&&bS b N sc (.BoolOp .And (vw e).es.tail (vw e).pos))
 | .bor a b,N,sc,e=>bS a N sc ((vw e).es.headD dE)&&cond ((vw e).es.length==2) (bS b N sc ((vw e).es.tail.headD dE)) (f9 b&&bS b N sc (.BoolOp .Or (vw e).es.tail (vw e).pos))
 | .bnot a,N,sc,e=>bS a N sc (vw e).e0
 | .ite c a b,N,sc,e=>bS c N sc (vw e).e0&&(bS a N sc (vw e).e1&&bS b N sc (vw e).e2)
 | .tup es,N,sc,e=>fq es N sc (vw e).es&&decide (es.length<1000)
 | .lst _ es,N,sc,e=>fq es N sc (vw e).es&&decide (es.length<1000)
 | .idx a b,N,sc,e=>bS a N sc (vw e).e0&&(bS b N sc (vw e).e1&&f8 (a7 b N (vw e).e1))
 | .sl a lo hi,N,sc,e=>bS a N sc (vw e).e0&&(fq lo N sc (vw (vw e).e1).lo.toList&&(fq hi N sc (vw (vw e).e1).hi.toList&&(decide (lo.length<2)&&decide (hi.length<2))))
 | .call f es,N,sc,e=>a_ sc f&&(fq es N sc (vw e).es&& !es.isEmpty)
 | .blt b es,N,sc,e=>a_ sc (gY b)&&(fq es N sc (vw e).es&&(!es.isEmpty&&sS b))
 | .sel fs i es,N,sc,e=>(fs.all λf=>a_ sc f)&&(bS i N sc (vw (vw e).e0).e1&&(f8 (a7 i N (vw (vw e).e0).e1)&&(fq es N sc (vw e).es&& !es.isEmpty)))
 | .tix o es,N,sc,e=>mK (a7 o N (vw (vw e).e0).e0)&&((vw (vw e).e0).pos.endLine==(vw e).pos.line&&(bS o N sc (vw (vw e).e0).e0&&(fq es N sc (vw e).es&&decide (es.length=1))))
 | .meth m o es,N,sc,e=>mK (a7 o N (vw (vw e).e0).e0)&&((vw (vw e).e0).pos.endLine==(vw e).pos.line&&(bS o N sc (vw (vw e).e0).e0&&(fq es N sc (vw e).es&&decide (es.length<20))))
 | .lenset a,N,sc,e=>a_ sc "len"&&(a_ sc "set"&&(bS a N sc ((vw ((vw e).es.headD dE)).es.headD dE)&&bR (a7 a N ((vw ((vw e).es.headD dE)).es.headD dE))))
 | .sset a,N,sc,e=>a_ sc "sorted"&&(a_ sc "set"&&(bS a N sc ((vw ((vw e).es.headD dE)).es.headD dE)&&bR (a7 a N ((vw ((vw e).es.headD dE)).es.headD dE))))
 | .comp _ N' fr tg it ifs body,N,sc,e=>G2 (vw e).sc sc&&(frB (vw e).sc.names N' N fr&&(iD N'&&(qB (sU (vw e).sc.names) N' (jS (vw e).sc.names sc) tg&&(za it N sc tg ((vw e).gs.headD dG).iter&&(mL (sX it N ((vw e).gs.headD dG).iter)&&(fq ifs N' (jS (vw e).sc.names sc) ((vw e).gs.headD dG).ifs&&ET body MX (sU (vw e).sc.names) N' (jS (vw e).sc.names sc) (vw e).gs.tail (vw e).e0))))))
 | .emit _,_,_,_=>MX
 | .inner _ _ _ _,_,_,_=>MX
 | .seq _,_,_,_=>MX
 | .range _,_,_,_=>MX
 | .zip _,_,_,_=>MX
 | .down _,_,_,_=>MX
noncomputable def ET:CE->Bool->(Str->Bool)->Ls->Sc->List Nk->Expr->Bool
 | .emit a,k,_,N,sc,_,e=> !k&&bS a N sc e
 | .inner tg it ifs body,k,cell,N,sc,g,e=>qB cell N sc tg&&(za it N sc tg (g.headD dG).iter&&(mL (sX it N (g.headD dG).iter)&&(fq ifs N sc (g.headD dG).ifs&&ET body k cell N sc g.tail e)))
 |_,_,_,_,_,_,_=>MX
noncomputable def fq:List CE->Ls->Sc->Lx->Bool
 | [],_,_,_=>MW
 |c::cs,N,sc,es=>bS c N sc (es.headD dE)&&(bR (a7 c N (es.headD dE))&&fq cs N sc es.tail)
noncomputable def za:CE->Ls->Sc->CT->Expr->Bool
 | .seq c,N,sc,_,e=>bS c N sc e
 | .range es,N,sc,_,e=>a_ sc "range"&&(fq es N sc (vw e).es&&(es.length==1||es.length==2))
 | .down es,N,sc,_,e=>a_ sc "reversed"&&(a_ sc "range"&&(fq es N sc (vw ((vw e).es.headD dE)).es&&es.length==1))
 | .zip es,N,sc,t,e=>a_ sc "zip"&&(fq es N sc (vw e).es&&(es.length==2&&mM t))
 |_,_,_,_,_=>MX
end
theorem aa{a b:Bool}(h:(a&&b)=MW):a=MW/\b=MW:=OW.mp h
theorem iF{p:Prop} [Decidable p] (h:decide p=MW):p:=Z5 h
theorem f_{a:Bool}(h:(!a)=MW):a=MX:=by lia
end Py
variable {sc:Py.Sc}
namespace Py
noncomputable def sY(K:Fg)(m:Mg)(n:Nat)(a:List D->ae->Res D):Sp:=λvs H Q E=>vs.length=n/\∃F μ S ds,aI K ⟨m,F⟩ μ S H/\ah K ⟨m,F⟩ μ H ds vs/\ak K ⟨m,F⟩ E (Rep K ⟨m,F⟩) μ H Q (a ds S)
structure bv (P:M5)(w:Nc)(K:Fg)(mg:Mg)(base:M8)(CX:dh)(k:Nat)(f:Str)(φ:List D->ae->Res D):Prop where
 ex:∃fa fd ps,mg f=some (.ref fa)/\PySem.W.keepIn K (.ref fa)=MW/\Binds K fd ps []/\cR P w K mg base CX k fa fd ps (sY K mg ps.length φ)/\∀ds S,φ ds S≠.fail->ds.length=ps.length
noncomputable def f':Ls:=["len","tuple","list","int","min","max","isinstance","all","any","sorted","bool","str","dict","range","zip","set","sum","reversed","repr","abs","enumerate"]
structure EU (P:M5)(w:Nc)(K:Fg)(mg:Mg)(base:M8)(CX:dh)(Φ:FT)(Γ:Str->Option D)(k:Nat):Prop where
 fns:∀f φ,Φ f=some φ->bv P w K mg base CX k f φ
 gl:∀x d,Γ x=some d->∃v u,mg x=some u/\RelV v u/\∀F μ H,Rep K ⟨mg,F⟩ μ H d v
 bl:∀x∈f',mg x=none
structure cv (X:Cx)(cell:Str->Bool)(N:Ls)(sc:Sc)(CX:dh)(E:XK)(Φ:FT)(Γ:Str->Option D)(k:Nat):Prop where
 n:X.N=N
 nd:N.Nodup
 sc:X.env.scope.names=sc
 kd:X.env.scope.kind=.function
 calm:X.calm=MW
 room:cC k X.A
 fn:∀x,cell x=MW->X.fn x=MW
 mod:EU X.prog X.w X.K X.mg X.base CX Φ Γ k
 pass:jx CX X E
 cx0:∀outer H s e s',CX outer H s E0 e s'->False
section
variable {E:XK}{l r:Expr}{pos:Pos}{a b c:CE}
theorem zb{o:QF}(h:PE X l (tE X.K X.mg E Φ Γ a))(c:PE X r (tE X.K X.mg E Φ Γ b)):PE X (.BinOp l o r pos) (tE X.K X.mg E Φ Γ (.bin o a b)):=
 aJ (hV (Gp _) h c) λu H Q z=>aB z λF q t S f e w=>
  ⟨F,_,_,S,f,e,(ak.bind w).mono λv H1 z=>az z λj n d1 x s R W=>⟨F,_,_,_,s,e.mono x,(ak.bind W).mono λV m z=>az z λk p d2 i s2 d g=>⟨F,_,_,_,_,s2,Rep.mono i _ _ R,d,cr g⟩⟩⟩
theorem sZ(h:PE X l (tE X.K X.mg E Φ Γ a))(c:PE X r (tE X.K X.mg E Φ Γ b)):PE X (.BinOp l .Add r pos) (tE X.K X.mg E Φ Γ (.catB a b)):=
 aJ (hV ym h c) λt H Q z=>aB z λF p q S f e w=>
  ⟨F,_,_,S,f,e,(ak.bind w).mono λv H1 z=>az z λj n d1 x s R W=>⟨F,_,_,_,s,e.mono x,(ak.bind W).mono λV m z=>az z λk o d2 i s2 d g=>⟨F,_,_,_,_,s2,Rep.mono i _ _ R,d,cr g⟩⟩⟩
theorem zc{o:O5}(f:X.A.units+64<cLine)(h:PE X l (tE X.K X.mg E Φ Γ a))(c:PE X r (tE X.K X.mg E Φ Γ b))(d:behindInMarks o r=MX):PE X (.Compare l [o] [r] pos) (tE X.K X.mg E Φ Γ (.cmp o a b)):=
 aJ (lN (dn _ f) h c d) λA H Q z=>aB z λF u y S i e w=>
  ⟨F,_,_,S,i,e,(ak.bind w).mono λv H1 z=>az z λm q d1 x s R W=>⟨F,_,_,_,s,e.mono x,(ak.bind W).mono λV p z=>az z λn t d2 k s2 g j=>⟨F,_,_,_,_,s2,Rep.mono k _ _ R,g,cr j⟩⟩⟩
theorem fI{m:GS}{E:XK}{Rel:La->Hp->α->β->Prop}{Q:β->Hp->Prop}{f:Bool->Res α}
  (w:ak K m E Rel μ H Q (aH d f)) (r:Rep K m μ H d v):∃k,v=.bl k/\d=.bl k/\ak K m E Rel μ H Q (f k):=by
 cases d with
 |bl k=>exact⟨k,fV r,rfl,w⟩
 |_=>exact w.elim
theorem zd{o:O5}(f:X.A.units+64<cLine)(h:PE X l (tE X.K X.mg E Φ Γ a))(c:PE X r (tE X.K X.mg E Φ Γ b))(d:behindInMarks o r=MX):PT X (.Compare l [o] [r] pos) (tT X.K X.mg E Φ Γ (.cmp o a b)):=
 dv (xN (dn _ f) h c d) λN H Q z=>aB z λF L M S j e w=>
  ⟨F,_,_,S,j,e,(ak.bind w).mono λV H1 z=>az z λt B d1 x s R W=>⟨F,_,_,_,s,e.mono x,(ak.bind W).mono λI y z=>az z λu C d2 q s2 g m=>
   ⟨F,_,_,_,_,s2,Rep.mono q _ _ R,g,cr ((ak.bind m).mono λJ A z=>az z λv D G K s3 i n=>by obtain⟨k,rfl,rfl,p⟩:=fI n i;exact⟨k,rfl,p _ _ k .refl s3 rfl⟩)⟩⟩⟩
theorem mP{o:O5}(h:X.A.units+64<cLine)(g:PE X l (tE X.K X.mg E Φ Γ a))(i:PE X r (tE X.K X.mg E Φ Γ b))(j:PE X r' (tE X.K X.mg E Φ Γ c))(m:behindInMarks op' r'=MX):PE X (.Compare l [o,op'] [r,r'] pos) (tE X.K X.mg E Φ Γ (.chain o op' a b c)):=
 aJ (FE (dn _ h) (dn _ h) g i j m) λσ H Q z=>aB z λF μ ρ S u e w=>
  ⟨F,_,_,S,u,e,(ak.bind w).mono λY H1 z=>az z λD N d1 x s n v=>⟨F,_,_,_,s,e.mono x,(ak.bind v).mono λZ K z=>az z λG O d2 d s2 R y=>
   ⟨F,_,_,_,_,s2,Rep.mono d _ _ n,R,cr ((ak.bind y).mono λv3 L z=>az z λI P U f s3 p A=>by
    obtain⟨k,rfl,rfl,W⟩:=fI A p;refine⟨k,rfl,?_⟩;cases k with
    |true=>exact⟨F,_,_,_,s3,(e.mono x).mono (d.trans f),(ak.bind W).mono λv4 M z=>az z λJ T V C t q B=>⟨F,_,_,_,_,t,Rep.mono (f.trans C) _ _ R,q,cr B⟩⟩
    |false=>exact W _ _ _ .refl s3 cD)⟩⟩⟩
theorem mQ{o:O5}(h:X.A.units+64<cLine)(g:PE X l (tE X.K X.mg E Φ Γ a))(i:PE X r (tE X.K X.mg E Φ Γ b))(j:PE X r' (tE X.K X.mg E Φ Γ c))(m:behindInMarks op' r'=MX):PT X (.Compare l [o,op'] [r,r'] pos) (tT X.K X.mg E Φ Γ (.chain o op' a b c)):=
 dv (FF (dn _ h) (dn _ h) g i j m) λσ H Q z=>aB z λF μ ρ S y e w=>
  ⟨F,_,_,S,y,e,(ak.bind w).mono λv1 H1 z=>az z λK Y d1 x t n A=>⟨F,_,_,_,t,e.mono x,(ak.bind A).mono λv2 P z=>az z λL Z d2 d s2 R B=>
   ⟨F,_,_,_,_,s2,Rep.mono d _ _ n,R,cr ((ak.bind B).mono λv3 T z=>az z λM S3 d3 f s3 p C=>by
    obtain⟨k,rfl,rfl,W⟩:=fI C p;refine⟨k,rfl,?_⟩;cases k with
    |true=>exact⟨F,_,_,_,s3,(e.mono x).mono (d.trans f),(ak.bind W).mono λv4 U z=>az z λN S4 d4 J u q D=>⟨F,_,_,_,_,u,Rep.mono (f.trans J) _ _ R,q,cr ((ak.bind D).mono λv5 V z=>az z λO S5 d5 x5 v s G=>by obtain⟨k,rfl,rfl,I⟩:=fI G s;exact⟨k,rfl,I _ _ k .refl v rfl⟩)⟩⟩
    |false=>exact⟨_,rfl,W _ _ _ .refl s3 rfl⟩)⟩⟩⟩
theorem qC(h:PE X l (tE X.K X.mg E Φ Γ a))(c:PE X (.BoolOp .And (r::rest) pos) (tE X.K X.mg E Φ Γ b)):PE X (.BoolOp .And (l::r::rest) pos) (tE X.K X.mg E Φ Γ (.band a b)):=
 aJ (ry h c) λn H Q z=>aB z λF j m S d e w=>
  ⟨F,_,_,S,d,e,(ak.bind w).mono λv H1 z=>az z λg i d1 x s R f=>by
   obtain⟨k,rfl,rfl,W⟩:=fI f R;refine⟨k,rfl,?_⟩;cases k with
   |true=>exact⟨F,_,_,_,s,e.mono x,W⟩
   |false=>exact W _ _ _ .refl s cD⟩
theorem ze(h:PE X l (tE X.K X.mg E Φ Γ a))(c:PE X (.BoolOp .Or (r::rest) pos) (tE X.K X.mg E Φ Γ b)):PE X (.BoolOp .Or (l::r::rest) pos) (tE X.K X.mg E Φ Γ (.bor a b)):=
 aJ (xw h c) λn H Q z=>aB z λF j m S d e w=>
  ⟨F,_,_,S,d,e,(ak.bind w).mono λv H1 z=>az z λg i d1 x s R f=>by
   obtain⟨k,rfl,rfl,W⟩:=fI f R;refine⟨k,rfl,?_⟩;cases k with
   |true=>exact W _ _ _ .refl s cD
   |false=>exact⟨F,_,_,_,s,e.mono x,W⟩⟩
theorem mR(c:PE X l ta):PE X (.UnaryOp .Not l pos) (λσ H Q=>ta σ H λx H'=>∃k,il X.K x H' k/\Q (.bl (!k)) H'):=by intro p s σ H Q I h;exact UnaryOp_ (aO (c _ s _ H _ I h) λv S ⟨x,_,a,r,k,t,q⟩=>not_of (aO (jw _ _ _ _ x v (λk H'=>Q (.bl !k) H') a r ⟨k,t,q⟩) λK s2 ⟨_,b,d⟩=>⟨.bl _,_,b,rfl,d⟩))
theorem zf{m:GS}{E:XK}{Rel:La->Hp->α->β->Prop}{Q:β->Hp->Prop}{f:Bool->Res α}
  (w:ak K m E Rel μ H Q (match bH S d with|some k=>f k|none=>.fail)):∃k,bH S d=some k/\ak K m E Rel μ H Q (f k):=by
 cases e:bH S d with
 |none=>rw[e]at w;exact w.elim
 |some k=>rw[e]at w;exact⟨k,rfl,w⟩
theorem zg(h:PE X l (tE X.K X.mg E Φ Γ a)):PE X (.UnaryOp .Not l pos) (tE X.K X.mg E Φ Γ (.bnot a)):=
 aJ (mR h) λm H Q z=>aB z λF i j S c b w=>⟨F,_,_,S,c,b,(ak.bind w).mono λv H1 z=>az z λf g d1 x s r W=>by obtain⟨k,e,d⟩:=zf W;exact⟨k,qz s r e,d _ _ _ .refl s cD⟩⟩
theorem zh(h:PE X l (tE X.K X.mg E Φ Γ a)):PE X (.UnaryOp .USub l pos) (tE X.K X.mg E Φ Γ (.neg a)):=
 aJ (xH rY h) λj H Q z=>aB z λF f g S b e w=>⟨F,_,_,S,b,e,(ak.bind w).mono λv H1 z=>az z λc d d1 x s r W=>by
  cases d1 with
  |int i=>exact⟨i,aE r,W _ _ _ .refl s bC⟩
  |_=>exact W.elim⟩
theorem qD(h:PT X l (tT X.K X.mg E Φ Γ a))(f:PW X (.BoolOp .And (r::rest) pos) (tT X.K X.mg E Φ Γ b)):PW X (.BoolOp .And (l::r::rest) pos) (tT X.K X.mg E Φ Γ (.band a b)):=λm p s q H Q I z=>aB z λF n o S g e w=>
 rx h f _ _ s _ H Q I ⟨F,_,_,S,g,e,(ak.bind w).mono λk H1 z=>az z λi j K x c d W=>by
  subst d;cases K with
  |true=>exact⟨F,_,_,_,c,e.mono x,W⟩
  |false=>exact W _ _ _ .refl c rfl⟩
theorem zi(h:PT X l (tT X.K X.mg E Φ Γ a))(f:PW X (.BoolOp .Or (r::rest) pos) (tT X.K X.mg E Φ Γ b)):PW X (.BoolOp .Or (l::r::rest) pos) (tT X.K X.mg E Φ Γ (.bor a b)):=λm p s q H Q I z=>aB z λF n o S g e w=>
 qp h f _ _ s _ H Q I ⟨F,_,_,S,g,e,(ak.bind w).mono λk H1 z=>az z λi j K x c d W=>by
  subst d;cases K with
  |true=>exact W _ _ _ .refl c rfl
  |false=>exact⟨F,_,_,_,c,e.mono x,W⟩⟩
theorem zj(h:PT X l (tT X.K X.mg E Φ Γ a)):PT X (.UnaryOp .Not l pos) (tT X.K X.mg E Φ Γ (.bnot a)):=
 dv (jq h) λj H Q z=>aB z λF g i S c b w=>⟨F,_,_,S,c,b,(ak.bind w).mono λk H1 z=>az z λd f K x s e W=>by subst e;exact W _ _ _ .refl s rfl⟩
theorem zk{t x y:Expr}(i:PT X t (tT X.K X.mg E Φ Γ c))(h:PE X x (tE X.K X.mg E Φ Γ a))(g:PE X y (tE X.K X.mg E Φ Γ b)):PE X (.IfExp t x y pos) (tE X.K X.mg E Φ Γ (.ite c a b)):=
 aJ (Fa i h g) λp H Q z=>aB z λF n o S j e w=>⟨F,_,_,S,j,e,(ak.bind w).mono λk H1 z=>az z λl m K d s f W=>by
  subst f;cases K with
  |true=>exact⟨F,_,_,_,s,e.mono d,W⟩
  |false=>exact⟨F,_,_,_,s,e.mono d,W⟩⟩
theorem zl:PA X [] (tL X.K X.mg E Φ Γ []):=dX el λc H Q z=>aB z λF a b S s e w=>w _ H _ .refl s .nil
theorem cI{es:Lx}(h:bR e=MW):starEach (e::es) env=(MX,eval e env)::starEach es env:=by cases e<;>first|rfl|cases h
theorem s9{es:Lx}{cs:List CE}(j:bR e=MW)(i:PE X e (tE X.K X.mg E Φ Γ a))(k:PA X es (tL X.K X.mg E Φ Γ cs)):PA X (e::es) (tL X.K X.mg E Φ Γ (a::cs)):=
 dX (dg i k (cI j)) λq H Q z=>aB z λF o f S l d w=>⟨F,o,f,S,l,d,(ak.bind w).mono λv H1 z=>az z λb h d1 x s r W=>
  ⟨F,b,f,h,s,d.mono x,(ak.bind W).mono λvs g z=>az z λc p D n s2 R m=>m c g _ .refl s2 (.cons (Rep.mono n _ _ r) R)⟩⟩
end
theorem mS:∀{cs:List CE} {N:Ls} {es:Lx},(dJ cs N es).length=cs.length
 | [],N,es=>rfl
 |c::cs,N,es=>ZU _ mS
theorem eU:∀{cs:List CE} {N:Ls} {sc:Sc} {es:Lx},fq cs N sc es=MW->∀e∈dJ cs N es,bR e=MW
 | [],N,sc,es,h,e,H=>absurd H Zp
 |c::cs,N,sc,es,h,e,H=>by
  rcases Zf.mp H with rfl|H
  ·exact(aa (aa h).2).1
  ·exact eU (aa (aa h).2).2 e H
theorem g5:∀{es:Lx} {env:Env} {pos:Pos},(∀e∈es,bR e=MW)->(backTo pos (starEach es env)).any (·.1)=MX
 | [],env,pos,h=>rfl
 |e::es,env,pos,h=>by rw[cI (h e Ze)];show(MX||(backTo _ _).any _)=MX;rw[g5 λe H=>h e (Zb _ H)];rfl
theorem mT:∀{es:Lx} {env:Env} {pos:Pos},(∀e∈es,bR e=MW)->(backTo pos (starEach es env)).all (λx=> !x.1)=MW
 | [],env,pos,h=>rfl
 |e::es,env,pos,h=>by rw[cI (h e Ze)];show(!MX&&(backTo _ _).all _)=MW;rw[mT λe H=>h e (Zb _ H)];rfl
theorem s_:∀{cs:List CE} {ρ:bI} {S S':ae} {ds:List D},ai Φ Γ cs ρ S=.ok ds S'->ds.length=cs.length
 | [],ρ,S,S',ds,h=>by cases h;rfl
 |c::cs,ρ,S,S',ds,h=>by
  unfold ai at h;cases e:aj _ _ c _ S with
  |ok d a=>
   rw[e]at h;cases E:ai Φ Γ cs ρ a with
   |ok f b=>simp only[Res.bind,E]at h;cases h;simp[s_ E]
   |err x b=>simp only[Res.bind,E]at h;cases h
   |fail=>simp only[Res.bind,E]at h;cases h
  |err x a=>rw[e]at h;cases h
  |fail=>rw[e]at h;cases h
theorem G3{x:Str}{s:Scope}(hs:s.names=sc)(h:mH sc x=MW):xq s x:=by unfold xq;unfold mH at h;lia
theorem iG{x:Str}(h:ew x=MW):(x==("__debug__":Str))=MX/\(x==("__classdict__":Str))=MX:=by
 unfold ew at h
 grind
theorem cJ{x:Str}(h:a_ sc x=MW):sc.lookup x=some .globalImplicit/\(x==("__debug__":Str))=MX/\x≠"__name__":=by unfold a_ at h;simp_all
section
variable {E:XK}{l r:Expr}{es:Lx}{pos:Pos}{a b c:CE}{cs:List CE}{x:Str}
theorem cv.gl(O:cv X cell N sc CX E Φ Γ k)(h:sc.lookup x=some .globalImplicit):Gl X x:=by show X.env.scope.names.lookup x=_;rw[O.sc];exact h
theorem qE(O:cv X cell N sc CX E Φ Γ k){i:Nat}(h1:(N[i]?==some x)=MW)(c:mH sc x=MW)(h:ew x=MW):PE X (.Name x pos) (tE X.K X.mg E Φ Γ (.var i)):=by
 refine aJ (rj (by rw[O.n];simpa using h1) (G3 O.sc c) (iG h).1 (iG h).2) λj H Q z=>aB z λF f g S s b w=>?_;simp[aj]at w;split at w
 ·rename_i d e;obtain⟨v,a,r⟩:=b.2 i d e;exact⟨v,a,w _ H v .refl s r⟩
 ·exact w.elim
theorem qF{cn:Const}{j}(h:jQ d cn=MW):PE X (.Constant cn j pos) (tE X.K X.mg E Φ Γ (.lit d)):=by
 unfold jQ at h;split at h
 ·exact aJ rk λf H Q z=>aB z λF b c S s a w=>w _ H _ .refl s jB
 ·have e:=beq_iff_eq.mp h;subst e;exact aJ qo λf H Q z=>aB z λF b c S s a w=>w _ H _ .refl s cD
 ·have e:=beq_iff_eq.mp h;subst e;exact aJ jn λf H Q z=>aB z λF b c S s a w=>w _ H _ .refl s bC
 ·have e:=beq_iff_eq.mp h;subst e;exact aJ rm λf H Q z=>aB z λF b c S s a w=>w _ H _ .refl s ir
 ·cases h
theorem tf(O:cv X cell N sc CX E Φ Γ k)(h:a_ sc x=MW):PE X (.Name x pos) (tE X.K X.mg E Φ Γ (.glob x)):=by
 obtain⟨a,b,j⟩:=cJ h;cases e:Γ x with
 |none=>intro p s g H Q I ⟨F,_,_,S,_,_,w⟩;simp[aj]at w;rw[e]at w;exact w.elim
 |some d=>obtain⟨v,u,m,M,c⟩:=O.mod.gl x d e;refine aJ (rn (O.gl a) m M b) λg H Q z=>aB z λF l n S f i w=>?_;simp[aj]at w;rw[e]at w;exact w _ H v .refl f (c F _ H)
theorem mU{n:String}(h:iC.contains n=MW):(N7 n)∈f':=by simp[iC]at h;rcases h with rfl|rfl|rfl|rfl|rfl|rfl<;>decide+kernel
theorem G4(O:cv X cell N sc CX E Φ Γ k){n:String}(h:a_ sc (N7 n)=MW)(a:iC.contains n=MW):PE X (.Name (N7 n) pos) (tE X.K X.mg E Φ Γ (.ty n)):=by obtain⟨b,c,d⟩:=cJ h;exact aJ (xu (v:=.ty n) (O.gl b) (O.mod.bl _ (mU a)) (mI a) rfl d c) λi H Q z=>aB z λF f g S s e w=>w _ H _ .refl s rfl
theorem jW{m:GS}{Q:List V->Hp->Prop}(h:cs.length<1000)(w:ak K m E (ah K m) μ H Q (ai Φ Γ cs ρ S)):ak K m E (ah K m) μ H (λvs H'=>vs.length<=sizeLine/\Q vs H') (ai Φ Γ cs ρ S):=by
 cases e:ai _ _ _ _ S with
 |ok d a=>rw[e]at w;intro b H' vs x s r;refine⟨?_,w _ _ _ x s r⟩;rw[<-r.length,s_ e];exact OJ (Zs h (by decide))
 |err y a=>rw[e]at w;exact w
 |fail=>rw[e]at w;exact w
theorem zm{x1}(a:cs.length<1000)(h:PA X es (tL X.K X.mg E Φ Γ cs)):PE X (.Tuple es x1 pos) (tE X.K X.mg E Φ Γ (.tup cs)):=
 aJ (r9 h) λi H Q z=>aB z λF f g S d e w=>⟨F,_,_,S,d,e,(jW a (ak.bind w)).mono λvs H1 ⟨c,_,_,_,_,s,r,W⟩=>⟨c,λp b=>by exact aT.tup (show aT _ _ _ _ Q _ from W) s r p b⟩⟩
theorem zn{box:Bool}(b:cs.length<1000)(h:PA X es (tL X.K X.mg E Φ Γ cs)):PE X (.List es pos) (tE X.K X.mg E Φ Γ (.lst box cs)):=
 aJ (gQ h) λi H Q z=>aB z λF f g S d e w=>⟨F,_,_,S,d,e,(jW b (ak.bind w)).mono λvs H1 ⟨c,_,_,_,_,s,r,W⟩=>⟨c,λp a=>by
  cases box with
  |true=>exact aT.box (show aT _ _ _ _ Q _ from W) s r p a
  |false=>exact aT.lst (show aT _ _ _ _ Q _ from W) s r p a⟩⟩
theorem zo:PE X (.Dict [] [] pos) (tE X.K X.mg E Φ Γ .dct):=λp s l H Q I z=>aB z λF j k S c d w=>by
 have a:=Zs I.mod.glob.lt (Zy I.ok.bsz I.sz);have h:=I.hok.fresh (Zg _);refine wpAny_Dict_empty ⟨.ref _,_,I.laid (o:=.dK []) (λb O q=>Zc _ q) (Zg _) ?_,rfl,?_⟩
 ·refine⟨Z1 _,?_,_,.nil,_,_,_,Zi _ rfl,⟨rfl,rfl,rfl⟩,rfl,λe i=>by simp_all,.nil,.nil⟩;have g:mainGlobals=3:=rfl;have f:sysModules=1:=rfl
  grind
 ·exact w _ _ _ (.laid h) (c.laid h) (by exact⟨_,rfl,bO⟩)
theorem zp(hs:f8 r=MW)(h:PE X l (tE X.K X.mg E Φ Γ a))(c:PE X r (tE X.K X.mg E Φ Γ b)):PE X (.Subscript l r pos) (tE X.K X.mg E Φ Γ (.idx a b)):=
 aJ (jz Gx h c (y9 hs)) λt H Q z=>aB z λF p q S f e w=>
  ⟨F,_,_,S,f,e,(ak.bind w).mono λv H1 z=>az z λj n d1 x s R W=>⟨F,_,_,_,s,e.mono x,(ak.bind W).mono λV m z=>az z λk o d2 i s2 d g=>⟨F,_,_,_,_,s2,Rep.mono i _ _ R,d,cr g⟩⟩⟩
theorem zq(h:PE X l (tE X.K X.mg E Φ Γ a))(c:PE X r (tE X.K X.mg E Φ Γ b)):PE X (.Subscript l (.Slice none none (some r) p2) pos) (tE X.K X.mg E Φ Γ (.rev a b)):=
 aJ (sR h c) λt H Q z=>aB z λF p q S f e w=>
  ⟨F,_,_,S,f,e,(ak.bind w).mono λv H1 z=>az z λj n d1 x s R W=>⟨F,_,_,_,s,e.mono x,(ak.bind W).mono λV m z=>az z λk o d2 i s2 d g=>⟨F,_,_,_,_,s2,Rep.mono i _ _ R,d,cr g⟩⟩⟩
noncomputable def zr(K:Fg)(m:Mg)(E:XK)(Φ:FT)(Γ:Str->Option D)(cs:List CE):TO:=λσ H Q=>∃F μ ρ S,aI K ⟨m,F⟩ μ S H/\aX K ⟨m,F⟩ μ H ρ σ/\
 ak K ⟨m,F⟩ E (λ_ _ o o'=>o=o') μ H Q ((ai Φ Γ cs ρ S).bind cS)
theorem mV:PO X none (zr X.K X.mg E Φ Γ []):=by intro p s b H Q I ⟨F,_,_,S,a,_,w⟩;exact lU _ s _ H Q I (w _ H _ .refl a rfl)
theorem mW(h:PE X e (tE X.K X.mg E Φ Γ a)):PO X (some e) (zr X.K X.mg E Φ Γ [a]):=by
 intro p s q H Q I ⟨F,l,c,S,j,f,w⟩;refine lV h _ s _ H Q I ⟨F,_,_,S,j,f,?_⟩
 have k:ak X.K ⟨X.mg,F⟩ E (λ_ _ o O=>o=O) l H Q ((aj Φ Γ a c S).bind λd b=>cS [d] b):=by
  have n:(ai Φ Γ [a] c S).bind cS=(aj Φ Γ a c S).bind λd b=>cS [d] b:=by rw[ai];cases aj _ _ a _ S<;>rfl
  simp_all
 refine(ak.bind k).mono λv H1 z=>az z λm b d x g r W=>?_;cases d with
 |int i=>exact⟨i,aE r,W _ _ _ .refl g rfl⟩
 |_=>exact W.elim
theorem G5{L h:Option Expr}{c ch:List CE}(g:PE X l (tE X.K X.mg E Φ Γ a))(j:PO X L (zr X.K X.mg E Φ Γ c))(i:PO X h (zr X.K X.mg E Φ Γ ch)):PE X (.Subscript l (.Slice L h none p2) pos) (tE X.K X.mg E Φ Γ (.sl a c ch)):=
 aJ (FV Gz g j i) λK H Q z=>aB z λF I J S k e w=>⟨F,_,_,S,k,e,(ak.bind w).mono λV H1 z=>az z λq A d1 x s r W=>⟨F,_,_,_,s,e.mono x,
  (ak.bind W).mono λo v z=>az z λt B D b s2 d m=>⟨F,_,_,_,s2,(e.mono x).mono b,(ak.bind m).mono λG y z=>az z λu C O p s3 f n=>by subst d;subst f;exact⟨F,_,_,_,s3,Rep.mono (b.trans p) _ _ r,cr n⟩⟩⟩⟩
theorem jX(O:cv X cell N sc CX E Φ Γ k){f:Str}(h:a_ sc f=MW)(a:∀x∈e::es,bR x=MW)(i:PA X (e::es) (tL X.K X.mg E Φ Γ cs)):PE X (.Call (.Name f p2) (e::es) [] pos) (tE X.K X.mg E Φ Γ (.call f cs)):=by
 obtain⟨d,g,B⟩:=cJ h;cases b:Φ f with
 |none=>intro P s u H Q I ⟨F,_,_,S,_,_,w⟩;simp[aj]at w;rw[b]at w;exact w.elim
 |some L=>obtain⟨y,A,C,m,M,l,n,o⟩:=(O.mod.fns f _ b).ex;refine aJ (lQ n O.room (O.gl d) m M l .nil O.pass i g (cI (a e Ze)) (g5 λx j=>a x (Zb _ j))) λu H Q Z=>aB Z λF J K S q c w=>?_;simp[aj]at w;rw[b]at w;refine⟨F,_,_,S,q,c,(ak.bind w).mono λvs H1 Z=>az Z λt v D G p r W=>?_⟩;rw[ZY];refine⟨?_,F,_,_,_,p,r,W⟩;rw[<-r.length];exact o _ _ λz=>by rw[z]at W;exact W
theorem qG(O:cv X cell N sc CX E Φ Γ k){b:jj}(g:aS X (jR b) (rC X.K X.mg (bg b)))(h:a_ sc (gY b)=MW)(j:∀x∈e::es,bR x=MW)(f:PA X (e::es) (tL X.K X.mg E Φ Γ cs)):PE X (.Call (.Name (gY b) p2) (e::es) [] pos) (tE X.K X.mg E Φ Γ (.blt b cs)):=by
 obtain⟨a,c,d⟩:=cJ h
 have i:X.mg (gY b)=none:=O.mod.bl _ (by
  cases b with
  |list box=>show(N7 _)∈f';decide+kernel
  |sorted box t=>show(N7 _)∈f';decide+kernel
  |_=>decide+kernel)
 have K:PE X (.Call (.Name (gY b) p2) (e::es) [] pos) (FO (rC X.K X.mg (bg b)) (tL X.K X.mg E Φ Γ cs)):=by
  have s:=cI (env:=X.env) (es:=es) (j e Ze);have s2:=g5 (env:=X.env) (pos:=pos) λx p=>j x (Zb _ p);have l:=G1 b;cases b with
  |tuple=>exact lR g (O.gl a) i l f d c s s2
  |list box=>exact lR g (O.gl a) i l f d c s s2
  |int=>exact lR g (O.gl a) i l f d c s s2
  |str=>exact lR g (O.gl a) i l f d c s s2
  |_=>exact r_ g (O.gl a) i l f d c s s2
 refine aJ K λB H Q z=>aB z λF u y S q o w=>⟨F,u,y,S,q,o,(ak.bind w).mono λvs H1 z=>az z λv n D A s r W=>⟨F,_,n,D,s,r,cr W⟩⟩
theorem G6{m:GS}(s:aI K m μ S H)(r:Rep K m μ H (.ref n) v):yg K "list" v H:=by
 obtain⟨a,rfl,h⟩:=r;have c:n<S.length:=by rw[<-s.len];exact(Zl.mp h).1
 obtain⟨vs,b,q⟩:=s.at_ n a _ h (Zh c);exact .inl ⟨rfl,_,.of b⟩
noncomputable def jY:qA->String
 | .append=>"list.append"| .extend=>"list.extend"| .pop=>"list.pop"| .count=>"list.count"| .insert=>"list.insert"| .index=>"list.index"
theorem jZ(m:qA):jh X (jY m) (rM X.K X.mg (dt m)):=by
 cases m with
 |append=>exact GB
 |count=>exact λ_ _ _ _ _ _ _ _ _ _ _ _ ⟨_,_,_,_,_,_,_,_,w⟩=>w.elim
 |insert=>exact λ_ _ _ _ _ _ _ _ _ _ _ _ ⟨_,_,_,_,_,_,_,_,w⟩=>w.elim
 |index=>exact λ_ _ _ _ _ _ _ _ _ _ _ _ ⟨_,_,_,_,_,_,_,_,w⟩=>w.elim
 |extend=>exact GC
 |pop=>
  intro p s i H x f v u Q I b a h;obtain⟨F,g,S,d,D,c,R,r,w⟩:=h;cases D with
  |nil=>exact yE p s i H x f v u Q I b a ⟨F,g,S,d,[],c,R,r,w⟩
  |cons e E=>exact mx p s i H x f v u Q I b a ⟨F,g,S,d,e::E,c,R,r,w⟩
theorem zt(m:qA):Slot "list" (mJ m) (jY m):=by
 cases m with
 |append=>exact PySem.F.slot_list_append
 |count=>exact PySem.F.slot_list_count
 |insert=>exact PySem.F.slot_list_insert
 |index=>exact PySem.F.slot_list_index
 |extend=>exact PySem.F.slot_list_extend
 |pop=>exact PySem.F.slot_list_pop
theorem zu(m:qA):typeOf (.builtin (jY m))=pure (.type "method_descriptor"):=by
 cases m with
 |append=>exact PySem.F.type_list_append
 |count=>exact PySem.F.type_list_count
 |insert=>exact PySem.F.type_list_insert
 |index=>exact PySem.F.type_list_index
 |extend=>exact PySem.F.type_list_extend
 |pop=>exact PySem.F.type_list_pop
theorem ti{m:qA}{o:Expr}(G:mK o=MW)(y:(apos.endLine==pos.line)=MW)(f:∀x∈es,bR x=MW)(O:es.length<20)(j:cs.length=es.length)(A:PE X o (tE X.K X.mg E Φ Γ a))(C:PA X es (tL X.K X.mg E Φ Γ cs)):
  PE X (.Call (.Attribute o (mJ m) apos) es [] pos) (tE X.K X.mg E Φ Γ (.meth m a cs)):=by
 have h:attributeBase o (mJ m) X.env (eval o X.env)=eval o X.env:=by cases o<;>first|rfl|cases G
 have k:∀{F b d H1 c d1 Q v},aI X.K ⟨X.mg,F⟩ b d H1->Rep X.K ⟨X.mg,F⟩ b H1 d1 v->ak X.K ⟨X.mg,F⟩ E (Rep X.K ⟨X.mg,F⟩) b H1 Q (match d1 with
   | .ref n=>(ai Φ Γ cs c d).bind λD i=>(dt m (.ref n) D i).noErr
   |_=>.fail)->yg X.K "list" v H1/\ak X.K ⟨X.mg,F⟩ E (ah X.K ⟨X.mg,F⟩) b H1 (λvs u=>rM X.K X.mg (dt m) v vs u Q) (ai Φ Γ cs c d):=by
  intro F b d H1 c d1 Q v s r W;cases d1 with
  |ref n=>exact⟨G6 s r,(ak.bind W).mono λvs u z=>az z λt i D L s2 R J=>⟨F,t,i,_,D,s2,Rep.mono L _ _ r,R,cr J⟩⟩
  |_=>exact W.elim
 cases es with
 |nil=>have e:=ZM j;subst e;refine aJ (sj PySem.F.plainAttrs_list (zt m) (zu m) (jZ m) A h y) λM H Q z=>aB z λF q c S p g w=>⟨F,q,c,S,p,g,(ak.bind w).mono λv H1 z=>az z λb d d1 B s r W=>?_⟩;obtain⟨K,l⟩:=k s r W;exact⟨K,l b H1 [] .refl s .nil⟩
 |cons e es=>
  refine aJ (qv PySem.F.plainAttrs_list (zt m) (zu m) (jZ m) A C h ?_ y (cI (f e Ze)) (g5 λx I=>f x (Zb _ I))) λM H Q z=>aB z λF q c S p g w=>⟨F,q,c,S,p,g,(ak.bind w).mono λv H1 z=>az z λb d d1 B s r W=>?_⟩
  ·rw[mT f];have N:(backToKw pos (keywordEach [] X.env)).all (λx=>x.1.isSome)=MW:=rfl
   grind
  ·obtain⟨K,l⟩:=k s r W;exact⟨K,F,b,c,d,s,g.mono B,l⟩
theorem zv{id:String}{r:V->List V->Hp->VK->Prop}{o:Expr}{es:Lx}{t:TA}(S:Slot "tuple" name id)(j:typeOf (.builtin id)=pure (.type "method_descriptor"))(u:jh X id r)(w:PE X o to)(q:PA X (e::es) t)
  (c:attributeBase o name X.env (eval o X.env)=eval o X.env)
  (f:((backTo cpos (starEach (e::es) X.env)).all (λx=> !x.1)&&(backToKw cpos (keywordEach [] X.env)).all (λx=>x.1.isSome)
   &&decide ((e::es).length+([]:List QG).length+(if([]:List QG).isEmpty then 0 else 1)<30))=MW)
  (d:(apos.endLine==cpos.line)=MW) (hs:starEach (e::es) X.env=(MX,eval e X.env)::starEach es X.env) (g:(backTo cpos (starEach es X.env)).any (·.1)=MX):
  PE X (.Call (.Attribute o name apos) (e::es) [] cpos) (λσ H Q=>to σ H λx H1=>(∃a vs,x=.ref a/\bX X.K H1 a vs)/\t σ H1 λxs H2=>r x xs H2 Q):=by
 intro P s σ H Q I h;refine RY c f d rfl (aO (w _ s _ H _ I h) λv C ⟨x,_,i,R,ty,z⟩=>?_);obtain⟨a,vs,rfl,l⟩:=ty;cases R;obtain⟨y,_,⟨O,E,n,_⟩,_⟩:=i.tuple l;refine⟨_,_,PySem.F.plainAttrs_tuple,S,j,⟨_,E,n⟩,λb p=>by cases p;exact i.noD l,?_⟩;have k:=q cpos _ _ _ _ _ i z;rw[hs]at k⊢;exact Ps (by grind) (PN (aO k λU s2 ⟨_,_,m,B,A⟩=>u _ _ _ _ (.ref a) _ _ _ Q m rfl B A))
theorem zw{o:Expr}(j:mK o=MW)(i:(apos.endLine==pos.line)=MW)(b:∀x∈es,bR x=MW)(m:es.length=1)(k:PE X o (tE X.K X.mg E Φ Γ a))(g:PA X es (tL X.K X.mg E Φ Γ cs)):
  PE X (.Call (.Attribute o "index" apos) es [] pos) (tE X.K X.mg E Φ Γ (.tix a cs)):=by
 have h:attributeBase o "index" X.env (eval o X.env)=eval o X.env:=by cases o<;>first|rfl|cases j
 cases es with
 |nil=>cases m
 |cons e es=>
  refine aJ (zv PySem.F.slot_tuple_index PySem.F.type_tuple_index yY k g h ?_ i (cI (b e Ze)) (g5 λx l=>b x (Zb _ l))) λK H Q z=>aB z λF I J S n d w=>⟨F,_,_,S,n,d,(ak.bind w).mono λV H1 z=>az z λu A d1 q s r W=>?_⟩
  ·rw[mT b];have c:(backToKw pos (keywordEach [] X.env)).all λx=>x.1.isSome=MW:=rfl
   grind
  ·cases d1 with
   |tup G=>obtain⟨a,vs,c,f,C⟩:=bV r;exact⟨⟨a,_,c,f⟩,F,_,_,_,s,d.mono q,(ak.bind W).mono λvs y z=>az z λv B D t s2 R p=>⟨F,_,_,_,_,s2,Rep.mono t _ _ r,R,cr p⟩⟩
   |_=>exact W.elim
end
theorem G7{t:MZ}{i:Nat}{x:M0}(h:s.heap.IsTupleIter it t i)(g:s.heap.IsTuple t items)(j:items[i]?=some x)
  (e:∀h',h'.IsTupleIter it t (i+1)->NP it s.heap h'->Q x {s with heap:=h'}):wpAny (model prog w) A (M' (.ref it)) Q E s:=by
 obtain⟨o,a,f,H⟩:=id h;obtain⟨O,c,_,nl,b⟩:=g;refine Za (ZT h.typeIs Oy (ZR Oy h.typeIs QW ?_ (QR _)));show wpAny _ _ (field _ 0>>=_) _ _ s;refine Za (ZV a H rfl ?_);refine Za (ZV a H rfl ?_);refine Za (NN c b ?_);simp[j];exact Za (Pp a H (by simp) (Zd ⟨x,rfl,Zd (e _ ⟨_,Ng _ a (PR (Oc H _)),(Qr ..).trans f,by rw[Oc H];simp[rawInt]⟩ (ZQ ..))⟩))
theorem zx{t:MZ}{i:Nat}{Q:Vs}(g:A.handled=none)(h:s.heap.IsTupleIter it t i)(j:s.heap.IsTuple t items)(k:items[i]?=none)
  (f:∀h' e,Ru it s.heap h'->(∃o,h'.get? e=some o/\o.cls=.type "StopIteration")->E (.ref e) {s with heap:=h'}):wpAny (model prog w) A (M' (.ref it)) Q E s:=by
 obtain⟨o,b,l,H⟩:=id h;obtain⟨O,c,_,nl,a⟩:=j;refine Za (ZT h.typeIs Oy (ZR Oy h.typeIs QW ?_ (QR _)));show wpAny _ _ (field (.ref it) 0>>=_) _ _ s;refine Za (ZV b H (x:=.ref t) rfl ?_);refine Za (ZV b H rfl ?_);refine Za (NN c a ?_);simp only[NL,k];refine Za (O1 (Za (Pp b H (by simp) ?_)));refine Za ?_;refine Za (m:=firstArgMember _ _) (wpAny_of_eq (rfl) ?_);refine Nv ?_ (by size_fits);refine Za (wpAny_handled ?_)
 first|lia|rw[g]
 exact Za (Zd (wpAny_throw (f _ _ (((ZQ ..).extBut.push _).push _) ⟨_,Zi _ rfl,rfl⟩)))
def b8(b:Bool)(h:M8)(l:MZ)(xs:Av):Prop:=match b with
 |true=>h.IsList l xs
 |false=>h.IsTuple l xs
def bE(b:Bool)(h:M8)(it l:MZ)(i:Nat):Prop:=match b with
 |true=>h.IsListIter it l i
 |false=>h.IsTupleIter it l i
theorem b8.at{b:Bool}{l:MZ}{xs:Av}(q:b8 b h l xs)(k:∀o,h.get? l=some o->h'.get? l=some o):b8 b h' l xs:=by
 cases b with
 |true=>exact Heap.IsList.at q k
 |false=>obtain⟨o,e,r⟩:=q;exact⟨o,k o e,r⟩
theorem bE.at{b:Bool}{l:MZ}{i:Nat}(q:bE b h it l i)(k:∀o,h.get? it=some o->h'.get? it=some o):bE b h' it l i:=by
 cases b with
 |true=>exact Heap.IsListIter.at q k
 |false=>exact Heap.IsTupleIter.at q k
theorem bE.obj{b:Bool}{l:MZ}{i:Nat}(q:bE b h it l i):∃o,h.get? it=some o/\∀v,o.data≠.cell v:=by
 cases b with
 |true=>obtain⟨o,e,c,d⟩:=q;simp_all
 |false=>obtain⟨o,e,c,d⟩:=q;simp_all
theorem hZ(d:A.handled=none)(b:Bool)(it l:MZ)(a:l≠it)(items:Av):
  Draws prog w A it [it,l] items.size (λi v=>items[i]?=some v) (λi h=>bE b h it l i/\b8 b h l items):=by
 cases b with
 |true=>exact Draws.list d _ l a _
 |false=>exact{
   live:=λ_ _ S=>let⟨o,ho,_⟩:=S.1;⟨o,ho⟩
   frame:=λ_ _ _ S f=>⟨S.1.at λo e=>f _ (by simp) o e,S.2.at λo e=>f l (by simp) o e⟩
   item:=λi s Q E m S j=>by exact G7 S.1 S.2 (x:=items[i]) (by simp_all) λk H c=>j _ _ _ (by simp_all) ⟨H,S.2.at λo e=>c.extBut _ _ a e⟩ c
   done:=λs Q E S g=>zx d S.1 S.2 (by simp) g}
structure dO (z TI TO i1 i2 l1 l2:MZ):Prop where
 TIz:TI≠z
 TOz:TO≠z
 i1z:i1≠z
 i2z:i2≠z
 TITO:TI≠TO
 TIi1:TI≠i1
 TIi2:TI≠i2
 TOi1:TO≠i1
 TOi2:TO≠i2
 i12:i1≠i2
 l1:l1≠z/\l1≠TO/\l1≠i1/\l1≠i2
 l2:l2≠z/\l2≠TO/\l2≠i1/\l2≠i2
theorem zy{prog:M5}{w:Nc}{b:Bool}{t:MZ}{i:Nat}{Q:Vs}(c:A.handled=none)(h:bE b s.heap it t i)(d:b8 b s.heap t items)(f:items[i]?=none)
  (H:∀h' e,Ru it s.heap h'->(∃o,h'.get? e=some o/\o.cls=.type "StopIteration")->E (.ref e) {s with heap:=h'}):wpAny (model prog w) A (M' (.ref it)) Q E s:=by
 cases b with
 |true=>exact wpAny_nextOf_list_end c h d f H
 |false=>exact zx c h d f H
section
variable {z TI TO i1 i2 l1 l2:MZ}{k1 k2:Nat}{xs ys:Av}{a b:M0}
theorem tj(D:dO z TI TO i1 i2 l1 l2)(hh:A.handled=none){x y:M0}
  (O:Px s.heap z TI TO .none) (hTI:Od s.heap TI (.ref i1) (.ref i2)) (hTO:Od s.heap TO a b)
  (h1:bE b1 s.heap i1 l1 k1) (h2:bE b2 s.heap i2 l2 k2) (hl1:b8 b1 s.heap l1 xs) (hl2:b8 b2 s.heap l2 ys) (hx:xs[k1]?=some x) (hy:ys[k2]?=some y)
  (hQ:∀h',Px h' z TI TO (rawInt s.heap.objs.size)->Od h' TO x y->bE b1 h' i1 l1 (k1+1)->bE b2 h' i2 l2 (k2+1)->Od h' s.heap.objs.size x y->h'.objs.size=s.heap.objs.size+1->
   (∀c o,c≠z->c≠TO->c≠i1->c≠i2->s.heap.get? c=some o->h'.get? c=some o)->∀tk,Q (.ref s.heap.objs.size) {s with heap:=h',toks:=tk}):
  wpAny (model prog w) A (N5.«zip.__next__» ⟨[.ref z],[]⟩) (λfin s'=>∃v,fin=.done (.ret v)/\Q v s') E s:=by
 have D1:=hZ (prog:=prog) (w:=w) (A:=A) hh b1 i1 l1 D.l1.2.2.1 xs;have D2:=hZ (prog:=prog) (w:=w) (A:=A) hh b2 i2 l2 D.l2.2.2.2 ys;have n1:k1<xs.size:=(O6.mp hx).1;have n2:k2<ys.size:=(O6.mp hy).1;show wpAny _ _ (field (.ref z) 2>>=_) _ _ _;refine Za (ZV O rfl (x:=.bool MX) rfl ?_);show wpAny _ _ (field (.ref z) 3>>=_) _ _ _;refine Za (ZV O rfl (x:=.ref TI) rfl ?_);refine Za (NN hTI rfl ?_);show wpAny _ _ (Nz (.ref z)>>=_) _ _ _;refine Za ?_;unfold Nz;refine Za (ZV O rfl (x:=.none) rfl (Zd ?_));simp only[if_true];refine Za (O1 ?_);refine Za (ZV O rfl (x:=.ref TO) rfl ?_);refine Za (Oj O (by simp) λR q H=>?_);replace q:Px R z TI TO .ellipsis:=q;refine Za ?_;simp only[Sb,List.zipIdx_nil,OZ,QN];refine Za (Za (Qv ?_));show wpAny _ _ (M' (.ref i1)>>=_) _ _ _;refine Za (D1.item k1 _ _ _ n1 ⟨h1.at λo e=>H.extBut _ _ D.i1z e,hl1.at λo e=>H.extBut _ _ D.l1.1 e⟩ λx' T tk M S d=>Zd ?_);rw[hx]at M;cases M;have t:Od T TO a b:=d.extBut _ _ D.TOi1 (H.extBut _ _ D.TOz hTO);refine Za (NN t rfl ?_);refine Za (Qh t λU k f=>?_);replace k:Od U TO x b:=k;refine Za (wpAny_letGo (Zd ?_));refine Za (Za (Qv ?_));show wpAny _ _ (M' (.ref i2)>>=_) _ _ _;refine Za (D2.item k2 _ _ _ n2 ⟨h2.at λo e=>f.extBut _ _ D.TOi2.symm (d.extBut _ _ D.i12.symm (H.extBut _ _ D.i2z e)),hl2.at λo e=>f.extBut _ _ D.l2.2.1 (d.extBut _ _ D.l2.2.2.1 (H.extBut _ _ D.l2.1 e))⟩ λy' V tk2 N K i=>Zd ?_);rw[hy]at N;cases N;have u:Od V TO x b:=i.extBut _ _ D.TOi2 k;refine Za (NN u rfl ?_);refine Za (Qh u λh g j=>?_);replace g:Od h TO x y:=g;refine Za (wpAny_letGo (Zd (Zd ?_)));refine Za (NN g rfl ?_);refine Za (wpAny_newTuple ?_);have L:h.objs.size=s.heap.objs.size:=by rw[j.1,i.1,f.1,d.1,H.1]
 have C:Px h z TI TO .ellipsis:=j.extBut _ _ D.TOz.symm (i.extBut _ _ D.i2z.symm (f.extBut _ _ D.TOz.symm (d.extBut _ _ D.i1z.symm q)));have I:∀c o,c≠z->c≠TO->c≠i1->c≠i2->s.heap.get? c=some o->h.get? c=some o:=λc o G X Y Z e=>j.extBut _ _ X (i.extBut _ _ Z (f.extBut _ _ X (d.extBut _ _ Y (H.extBut _ _ G e))));have g1:bE b1 h i1 l1 (k1+1):=S.1.at λo e=>j.extBut _ _ D.TOi1.symm (i.extBut _ _ D.i12 (f.extBut _ _ D.TOi1.symm e));have g2:bE b2 h i2 l2 (k2+1):=K.1.at λo e=>j.extBut _ _ D.TOi2.symm e;have F:z<h.objs.size:=Zj C;show wpAny _ _ (O9 (.ref z) (.ref h.objs.size)>>=_) _ _ _;refine Za ?_;unfold O9;have J:Px (h.push {cls:=.type "tuple",data:=.seq #[x,y]}) z TI TO .ellipsis:=Zc _ C;refine Za (Oj J (by simp) λW r n=>?_);replace r:Px W z TI TO (rawInt h.objs.size):=r;refine Oj r (by simp) λm l p=>?_;replace l:Px m z TI TO (rawInt h.objs.size):=l;have up:∀c o,c≠z->h.get? c=some o->m.get? c=some o:=λc o G e=>p.extBut _ _ G (n.extBut _ _ G (Zc _ e));have B:Od m h.objs.size x y:=p.extBut _ _ (Ox F) (n.extBut _ _ (Ox F) (Zi _ rfl));have P:m.objs.size=h.objs.size+1:=by rw[p.1,n.1,NU]
 rw[L]at l B P;refine Zd ⟨_,rfl,?_⟩;show Q (.ref h.objs.size) _;rw[L];exact hQ m l (up _ _ D.TOz g) (g1.at λo e=>up _ o D.i1z e) (g2.at λo e=>up _ o D.i2z e) B P (λc o G X Y Z e=>up c o G (I c o G X Y Z e)) _
theorem G8(D:dO z TI TO i1 i2 l1 l2)(I:A.handled=none){Q:Fin->MY->Prop}
  (v:Px s.heap z TI TO .none) (K:Od s.heap TI (.ref i1) (.ref i2)) (L:Od s.heap TO a b)
  (h1:bE b1 s.heap i1 l1 k1) (Z:bE b2 s.heap i2 l2 k2) (u:b8 b1 s.heap l1 xs) (N:b8 b2 s.heap l2 ys) (t:xs[k1]?=none\/ys[k2]?=none)
  (P:∀h' e tk,(∀c o,c≠z->c≠TO->c≠i1->c≠i2->s.heap.get? c=some o->h'.get? c=some o)->(∃o,h'.get? e=some o/\o.cls=.type "StopIteration")->E (.ref e) {s with heap:=h',toks:=tk}):
  wpAny (model prog w) A (N5.«zip.__next__» ⟨[.ref z],[]⟩) Q E s:=by
 have W:=hZ (prog:=prog) (w:=w) (A:=A) I b1 i1 l1 D.l1.2.2.1 xs;have D2:=hZ (prog:=prog) (w:=w) (A:=A) I b2 i2 l2 D.l2.2.2.2 ys;show wpAny _ _ (field (.ref z) 2>>=_) _ _ _;refine Za (ZV v rfl (x:=.bool MX) rfl ?_);show wpAny _ _ (field (.ref z) 3>>=_) _ _ _;refine Za (ZV v rfl (x:=.ref TI) rfl ?_);refine Za (NN K rfl ?_);show wpAny _ _ (Nz (.ref z)>>=_) _ _ _;refine Za ?_;unfold Nz;refine Za (ZV v rfl (x:=.none) rfl (Zd ?_));simp only[if_true];refine Za (O1 ?_);refine Za (ZV v rfl (x:=.ref TO) rfl ?_);refine Za (Oj v (by simp) λy f h=>?_);replace f:Px y z TI TO .ellipsis:=f;refine Za ?_;simp only[Sb,List.zipIdx_nil,OZ,QN];refine Za (Za (Qv ?_));show wpAny _ _ (M' (.ref i1)>>=_) _ _ _;by_cases U:k1<xs.size
 ·have hy:ys[k2]?=none:=t.resolve_left (by simp[U]);refine Za (W.item k1 _ _ _ U ⟨h1.at λo e=>h.extBut _ _ D.i1z e,u.at λo e=>h.extBut _ _ D.l1.1 e⟩ λx p tk T S H=>Zd ?_);have i:Od p TO a b:=H.extBut _ _ D.TOi1 (h.extBut _ _ D.TOz L);refine Za (NN i rfl ?_);refine Za (Qh i λq G d=>?_);refine Za (wpAny_letGo (Zd ?_));refine Za (Za (Qv ?_));show wpAny _ _ (M' (.ref i2)>>=_) _ _ _;refine Za (zy I (Z.at λo e=>d.extBut _ _ D.TOi2.symm (H.extBut _ _ D.i12.symm (h.extBut _ _ D.i2z e))) (N.at λo e=>d.extBut _ _ D.l2.2.1 (H.extBut _ _ D.l2.2.2.1 (h.extBut _ _ D.l2.1 e))) hy λB e k M=>?_);obtain⟨O,g,j⟩:=M;have n:Px B z TI TO .ellipsis:=k _ _ D.i2z.symm (d.extBut _ _ D.TOz.symm (H.extBut _ _ D.i1z.symm f));have r:e≠z:=λx=>by subst x;rw[n]at g;cases g;simp at j
  exact Oj n (by simp) λF _ l=>P F e _ (λc o C X J Y x=>l.extBut _ _ C (k _ _ Y (d.extBut _ _ X (H.extBut _ _ J (h.extBut _ _ C x))))) ⟨O,l.extBut _ _ r g,j⟩
 ·have T:xs[k1]?=none:=by simp;omega
  refine Za (zy I (h1.at λo e=>h.extBut _ _ D.i1z e) (u.at λo e=>h.extBut _ _ D.l1.1 e) T λp e H M=>?_);obtain⟨O,g,j⟩:=M;have m:Px p z TI TO .ellipsis:=H _ _ D.i1z.symm f;have r:e≠z:=λx=>by subst x;rw[m]at g;cases g;simp at j
  exact Oj m (by simp) λq _ d=>P q e _ (λc o C _ J _ x=>d.extBut _ _ C (H _ _ J (h.extBut _ _ C x))) ⟨O,d.extBut _ _ r g,j⟩
theorem G9(D:dO z TI TO i1 i2 l1 l2)(v:A.handled=none){x y:M0}{Q:Ov->MY->Prop}
  (i:Px s.heap z TI TO .none) (h:Od s.heap TI (.ref i1) (.ref i2)) (H:Od s.heap TO a b)
  (h1:bE b1 s.heap i1 l1 k1) (r:bE b2 s.heap i2 l2 k2) (d:b8 b1 s.heap l1 xs) (e:b8 b2 s.heap l2 ys) (B:xs[k1]?=some x) (C:ys[k2]?=some y)
  (u:∀h',Px h' z TI TO (rawInt s.heap.objs.size)->Od h' TO x y->bE b1 h' i1 l1 (k1+1)->bE b2 h' i2 l2 (k2+1)->Od h' s.heap.objs.size x y->h'.objs.size=s.heap.objs.size+1->
   (∀c o,c≠z->c≠TO->c≠i1->c≠i2->s.heap.get? c=some o->h'.get? c=some o)->∀tk,Q (some (.ref s.heap.objs.size)) {s with heap:=h',toks:=tk}):
  wpAny (model prog w) A (pyNext (.ref z)) Q E s:=by
 have f:s.TypeIs (.ref z) _:=⟨_,i,rfl⟩
 exact Za (O4 (ZT f PV
  (ZR PV f F.entry_zip_next (tj D (show A.in1.handled=none from v) i h H h1 r d e B C λh' j k l m n p q tk=>Zd (u _ j k l m n p q _)) (F.args_zip_next_1 _))))
theorem G_(D:dO z TI TO i1 i2 l1 l2)(q:A.handled=none){Q:Ov->MY->Prop}
  (k:Px s.heap z TI TO .none) (H:Od s.heap TI (.ref i1) (.ref i2)) (d:Od s.heap TO a b)
  (h1:bE b1 s.heap i1 l1 k1) (l:bE b2 s.heap i2 l2 k2) (f:b8 b1 s.heap l1 xs) (g:b8 b2 s.heap l2 ys) (h:xs[k1]?=none\/ys[k2]?=none)
  (m:∀h' tk,(∀c o,c≠z->c≠TO->c≠i1->c≠i2->s.heap.get? c=some o->h'.get? c=some o)->Q none {s with heap:=h',toks:=tk}):wpAny (model prog w) A (pyNext (.ref z)) Q E s:=by
 have i:s.TypeIs (.ref z) _:=⟨_,k,rfl⟩
 refine Za (O4 (ZT i PV
  (ZR PV i F.entry_zip_next (G8 D (show A.in1.handled=none from q) k H d h1 l f g h λh' e tk r p=>?_) (F.args_zip_next_1 _))))
 obtain⟨o,u,n⟩:=p;exact Za (QS ⟨o,u,n⟩ isSubtype_stop (Zd (m _ _ r)))
end
noncomputable def gb(b:Bool)(l:MZ):Obj:={cls:=.type (match b with|true=>"list_iterator"|false=>"tuple_iterator"),data:=.fields #[.ref l,.int 0 0]}
noncomputable def zA(h:M8)(b:Bool)(l:MZ):M8:=h.push (gb b l)
noncomputable def zB(h:M8)(b B:Bool)(l L:MZ):M8:=(zA h b l).push (gb B L)
noncomputable def zC(h:M8)(b B:Bool)(l L:MZ):M8:=(zB h b B l L).push {cls:=.type "tuple",data:=.seq #[.ref h.objs.size,.ref (zA h b l).objs.size]}
noncomputable def zD(h:M8)(b B:Bool)(l L:MZ):M8:=(zC h b B l L).push {cls:=.type "tuple",data:=.seq #[.none,.none]}
noncomputable def qH(h:M8)(b B:Bool)(l L:MZ):M8:=(zD h b B l L).push {cls:=.type "zip",data:=.fields #[.none,.bool MX,.bool MX,.ref (zB h b B l L).objs.size,.ref (zC h b B l L).objs.size]}
theorem mX(c B:Bool)(l L:MZ)(xs y:Av):
  Meets (N5.«zip.__new__» ⟨[.type "zip",.ref l,.ref L],[]⟩) (λ_ R s=>b8 c s.heap l xs/\b8 B s.heap L y/\R (.ok (.ret (.ref (zD s.heap c B l L).objs.size))) {s with heap:=qH s.heap c B l L}):=
 .of_wp λp w A R s h=>by
  obtain⟨b,g,d,t,O⟩:=s;obtain⟨f,i,h⟩:=h;have k:=sub_zip;have H:b8 B (zA b c l) L y:=i.at λo e=>Zc _ e;cases c with
  |true=>
   have a:Rv (Pd ⟨b,g,d,t,O⟩) l xs:=f;cases B with
   |true=>
    have H:Rv (Pd ⟨b.push {cls:=.type "list_iterator",data:=.fields #[.ref l,.int 0 0]},g,d,t,O⟩) L y:=H
    wp_walk using N_ a,N_ H
    exact⟨_,rfl,h⟩
   |false=>
    have H:Q_ (Pd ⟨b.push {cls:=.type "list_iterator",data:=.fields #[.ref l,.int 0 0]},g,d,t,O⟩) L y:=H
    wp_walk using N_ a,NG H
    exact⟨_,rfl,h⟩
  |false=>
   have a:Q_ (Pd ⟨b,g,d,t,O⟩) l xs:=f;cases B with
   |true=>
    have H:Rv (Pd ⟨b.push {cls:=.type "tuple_iterator",data:=.fields #[.ref l,.int 0 0]},g,d,t,O⟩) L y:=H
    wp_walk using NG a,N_ H
    exact⟨_,rfl,h⟩
   |false=>
    have H:Q_ (Pd ⟨b.push {cls:=.type "tuple_iterator",data:=.fields #[.ref l,.int 0 0]},g,d,t,O⟩) L y:=H
    wp_walk using NG a,NG H
    exact⟨_,rfl,h⟩
theorem zE{b:Bool}{l:MZ}(e:h.get? it=some (gb b l)):bE b h it l 0:=by
 cases b with
 |true=>exact⟨_,e,rfl,rfl⟩
 |false=>exact⟨_,e,rfl,rfl⟩
theorem G'{l L:MZ}{xs y:Av}(H:b8 b1 s.heap l xs)(a:b8 b2 s.heap L y)
  (h:∀h',Px h' (s.heap.objs.size+4) (s.heap.objs.size+2) (s.heap.objs.size+3) .none->Od h' (s.heap.objs.size+2) (.ref s.heap.objs.size) (.ref (s.heap.objs.size+1))->
   Od h' (s.heap.objs.size+3) .none .none->bE b1 h' s.heap.objs.size l 0->bE b2 h' (s.heap.objs.size+1) L 0->h'.objs.size=s.heap.objs.size+5->
   (∀c o,s.heap.get? c=some o->h'.get? c=some o)->Q (.ref (s.heap.objs.size+4)) {s with heap:=h'}):
  wpAny (model prog w) A (call (.type "zip") [.ref l,.ref L]) Q E s:=by
 refine callType_new F.called_zip (by decide) (F.typeCall_zip_2 _ _) (F.newCall_zip_2 _ _) (λobj=>F.args_object_init_3 obj _ _) F.entry_zip_new (mX b1 b2 l L xs y) ⟨H,a,?_⟩;have z:(zA s.heap b1 l).objs.size=s.heap.objs.size+1:=NU ..;have Z:(zB s.heap b1 b2 l L).objs.size=s.heap.objs.size+2:=by unfold zB;rw[NU,z]
 have b:(zC s.heap b1 b2 l L).objs.size=s.heap.objs.size+3:=by unfold zC;rw[NU,Z]
 have d:(zD s.heap b1 b2 l L).objs.size=s.heap.objs.size+4:=by unfold zD;rw[NU,b]
 have k:(qH s.heap b1 b2 l L).objs.size=s.heap.objs.size+5:=by unfold qH;rw[NU,d]
 have g:(qH s.heap b1 b2 l L).get? (zD s.heap b1 b2 l L).objs.size=some _:=Zi _ rfl;have f:(qH s.heap b1 b2 l L).get? (zC s.heap b1 b2 l L).objs.size=some _:=Zc _ (Zi _ rfl);have e:(qH s.heap b1 b2 l L).get? (zB s.heap b1 b2 l L).objs.size=some _:=Zc _ (Zc _ (Zi _ rfl));have G:(qH s.heap b1 b2 l L).get? (zA s.heap b1 l).objs.size=some (gb b2 L):=Zc _ (Zc _ (Zc _ (Zi _ (by cases b2<;>rfl))));have j:(qH s.heap b1 b2 l L).get? s.heap.objs.size=some (gb b1 l):=Zc _ (Zc _ (Zc _ (Zc _ (Zi _ (by cases b1<;>rfl)))));show _/\_;rw[Z,b,d]at g;rw[z,Z]at e;rw[b]at f;rw[z]at G;rw[d]
 exact⟨⟨_,g,rfl⟩,h _ g e f (zE j) (zE G) k λc o x=>
  Zc _ (Zc _ (Zc _ (Zc _ (Zc _ x))))⟩
def iH(b:Bool)(K:Fg)(H:Hp)(l:MZ)(xs:List V):Prop:=match b with
 |true=>cQ K H l xs
 |false=>bX K H l xs
noncomputable def Mf(K:Fg)(b B:Bool)(l L:MZ):It:=
 ⟨λi H=>∃xs ys x y,iH b K H l xs/\iH B K H L ys/\xs[i]?=some x/\ys[i]?=some y,
  λi H v H'=>∃T x y,v=.ref T/\H T=none/\H'=aZ H T (.tup [x,y])/\(∀xs,iH b K H l xs->xs[i]?=some x)/\(∀ys,iH B K H L ys->ys[i]?=some y),
  λi H=>∃xs ys,iH b K H l xs/\iH B K H L ys/\(xs.length<=i\/ys.length<=i)⟩
theorem iI{b:Bool}{l:MZ}{xs:List V}(I:Inv X pq σ H s)(h:iH b X.K H l xs):∃its,Vals xs its/\b8 b s.heap l its.toArray:=by
 cases b with
 |true=>obtain⟨its,r,p,_⟩:=I.list h;exact⟨_,r,p.isList⟩
 |false=>obtain⟨its,r,p,_⟩:=I.tuple h;exact⟨_,r,p⟩
theorem zF{b:Bool}{l:MZ}{xs y:List V}(I:Inv X pq σ H s)(h:iH b X.K H l xs)(h':iH b X.K H l y):xs=y:=by
 cases b with
 |true=>exact I.list_inj h h'
 |false=>exact I.tuple_inj h h'
theorem cU{b:Bool}{l c:MZ}{xs:List V}(I:Inv X pq σ H s)(h:iH b X.K H l xs)(d:df X pq H c):l≠c:=by
 have k:∀{o:Obj},X.K.lookup l=some o->l≠c:=λ{o} e=>by
  have E:=I.mod.kin l o e;rintro rfl;rcases d.2.2.2.1 with z|z
  ·exact I.ok.noex l o E z
  ·exact absurd (Zs (Zj E) (Zy I.ok.bsz z)) (Ni _)
 have a:∀{o:HO},H l=some o->l≠c:=λ{o} e=>by rintro rfl;rw[d.1]at e;cases e
 cases b with
 |true=>
  rcases h with(h| ⟨o,h⟩)| ⟨o,i,n,h,_⟩
  ·exact a h
  ·exact a h
  ·exact k h
 |false=>
  rcases h with(h| ⟨o,h⟩)| ⟨o,i,n,h,_⟩
  ·exact a h
  ·exact a h
  ·exact k h
theorem zG{t':Nat}(I:Inv X pq σ H s)(k:∀b o,b∉ch->s.heap.get? b=some o->h'.get? b=some o)(a:∀b∈ch,df X pq H b):Inv X pq σ H {s with heap:=h',toks:=t'}:=by
 have N:∀b u,H b=some u->b∉ch:=λb u e z=>by rw[(a b z).1]at e;cases e
 refine I.step (λb f=>?_) (λb o _ _ h e _=>k b o h e) (λb o _ _ h e _=>⟨_,k b o h e⟩) (λ_ _ _ _ n=>n)
  (λb o h e=>⟨o,k b o h e⟩) (λ_ _ e=>e) (λ_ _ _ e=>e) (λb P e=>⟨#[],by simp_all⟩) (λm g=>?_) (λb u e=>?_) I.bare
 ·obtain⟨_,F,_,l,p,w⟩:=a b f;lia
 ·obtain⟨o,j,E,i,r⟩:=g;exact⟨o,_,_,k _ o (λz=>(a _ z).2.1 rfl) i,r⟩
 ·refine(I.hok b u e).stay (λc v h q=>k c v ?_ q) (λ_ q=>q) λ_ _ q=>q
  grind
def MI(b B:Bool)(z TI TO I c l L:MZ)(i:Nat)(h:M8):Prop:=Px h z TI TO .none/\Od h TI (.ref I) (.ref c)/\(∃a b,Od h TO a b)/\bE b h I l i/\bE B h c L i
theorem Hc{P:M5}{es:Lx}{x1}{pos:Pos}(b b':Bool)(z TI TO i1 i2 l1 l2:MZ)(n1:TI≠z)(n2:TO≠z)(n3:i1≠z)(n4:i2≠z)(n5:TI≠TO)(n6:TI≠i1)(n7:TI≠i2)(n8:TO≠i1)(n9:TO≠i2)(n10:i1≠i2):
  Turn P w K (.Tuple es x1 pos) (Mf K b b' l1 l2) [z,TI,TO,i1,i2] z (MI b b' z TI TO i1 i2 l1 l2) where
 mem:=by simp
 obj:=λi h ⟨hz,hTI,⟨a,c,hTO⟩,h1,h2⟩ d hd=>by
  simp only[Zf,Zp,Z0]at hd;rcases hd with rfl|rfl|rfl|rfl|rfl
  ·exact⟨_,hz,λv q=>by have q':Data.fields _=Data.cell v:=q;cases q'⟩
  ·exact⟨_,hTI,λv q=>by grind⟩
  ·exact⟨_,hTO,λv q=>by grind⟩
  ·exact h1.obj
  ·exact h2.obj
 keep:=λi h h' ⟨hz,hTI,⟨a,c,hTO⟩,h1,h2⟩ k=>⟨k z (by simp) _ hz,k TI (by simp) _ hTI,⟨a,c,k TO (by simp) _ hTO⟩,h1.at λo e=>k i1 (by simp) o e,h2.at λo e=>k i2 (by simp) o e⟩
 item:=by
  intro X hP hw hK hc i pq s σ H E I hf st hg;subst hP hw hK;obtain⟨hz,hTI,⟨a,c,hTO⟩,h1,h2⟩:=st;obtain⟨xs,ys,x,y,q1,q2,ex,ey⟩:=hg;obtain⟨us,r1,s1⟩:=iI I q1;obtain⟨ws,r2,s2⟩:=iI I q2;obtain⟨u,eu,ru⟩:=r1.get ex;obtain⟨v,ev,rv⟩:=r2.get ey
  have Dp:dO z TI TO i1 i2 l1 l2:=⟨n1,n2,n3,n4,n5,n6,n7,n8,n9,n10,⟨cU I q1 (hf z (by simp)),cU I q1 (hf TO (by simp)),cU I q1 (hf i1 (by simp)),cU I q1 (hf i2 (by simp))⟩,
   ⟨cU I q2 (hf z (by simp)),cU I q2 (hf TO (by simp)),cU I q2 (hf i1 (by simp)),cU I q2 (hf i2 (by simp))⟩⟩
  refine G9 Dp (I.ok.hd hc) hz hTI hTO h1 h2 s1 s2 (x:=u) (y:=v) (by simpa using eu) (by simpa using ev) λh' a1 a2 a3 a4 a5 a6 kk tk=>?_;refine⟨_,rfl,?_⟩;refine wpAny_letOwnedTupleGo_zip (s:={s with heap:=h',toks:=tk}) a1 λh2' b1 sb=>?_;have hTn:H s.heap.objs.size=none:=I.hok.fresh (Zg _)
  have kk2:∀c o,c∉[z,TI,TO,i1,i2]->s.heap.get? c=some o->h2'.get? c=some o:=λc o hc e=>by simp only[Zf,Zp,Z0,not_or]at hc;exact(sb.2 c hc.1).trans (kk c o hc.1 hc.2.2.1 hc.2.2.2.1 hc.2.2.2.2 e)
  have hTz:∀c∈[z,TI,TO,i1,i2],s.heap.objs.size≠c:=λc hc e=>by
   obtain⟨o,q,_⟩:∃o,s.heap.get? c=some o/\True:=by
    simp only[Zf,Zp,Z0]at hc;rcases hc with rfl|rfl|rfl|rfl|rfl
    ·exact⟨_,hz,trivial⟩
    ·exact⟨_,hTI,trivial⟩
    ·exact⟨_,hTO,trivial⟩
    ·exact⟨_,h1.obj.choose_spec.1,trivial⟩
    ·exact⟨_,h2.obj.choose_spec.1,trivial⟩
   exact absurd (Zj q) (by rw[e];exact Ni _)
  have I2:Inv X pq σ (aZ H s.heap.objs.size (.tup [x,y])) {s with heap:=h2',toks:=tk}:=by
   have Im:Inv X pq σ (aZ H s.heap.objs.size (.tup [x,y])) {s with heap:=s.heap.push {cls:=.type "tuple",data:=.seq #[u,v]},toks:=s.toks}:=
    I.laid (λb o e=>Zc _ e) (Zg _) ⟨by show 2<=sizeLine;decide,[u,v],.cons ru (.cons rv .nil),⟨_,Zi _ rfl,rfl,_,rfl⟩,_,Zi _ rfl,rfl⟩
   refine zG (s:={s with heap:=s.heap.push {cls:=.type "tuple",data:=.seq #[u,v]},toks:=s.toks}) Im (ch:=[z,TI,TO,i1,i2]) (λb o hb e=>?_) λb hb=>?_
   ·rcases Heap.get?_push_cases e with⟨rfl,rfl⟩|e'
    ·exact(sb.2 _ (hTz z (by simp))).trans a5
    ·exact kk2 b o hb e'
   ·obtain⟨f0,f1⟩:=hf b hb;exact⟨by rw[aD (λe=>hTz b hb e.symm)];exact f0,f1⟩
  refine⟨.ref s.heap.objs.size,aZ H s.heap.objs.size (.tup [x,y]),I2,rfl,⟨s.heap.objs.size,x,y,rfl,hTn,rfl,λzs hq=>by rw[zF I hq q1];exact ex,λzs hq=>by rw[zF I hq q2];exact ey⟩,
   ⟨b1,(sb.2 TI n1).trans (kk TI _ n1 n5 n6 n7 hTI),⟨u,v,(sb.2 TO n2).trans a2⟩,a3.at λo e=>(sb.2 i1 n3).trans e,a4.at λo e=>(sb.2 i2 n4).trans e⟩,λc hc=>?_⟩
  rw[aD (λe=>hTz c hc e.symm)];exact(hf c hc).1
 done:=by
  intro X hP hw hK hc i pq s σ H E I hf st hg;subst hP hw hK;obtain⟨hz,hTI,⟨a,c,hTO⟩,h1,h2⟩:=st;obtain⟨xs,ys,q1,q2,en⟩:=hg;obtain⟨us,r1,s1⟩:=iI I q1;obtain⟨ws,r2,s2⟩:=iI I q2;have hl1:=r1.length;have hl2:=r2.length
  have Dp:dO z TI TO i1 i2 l1 l2:=⟨n1,n2,n3,n4,n5,n6,n7,n8,n9,n10,⟨cU I q1 (hf z (by simp)),cU I q1 (hf TO (by simp)),cU I q1 (hf i1 (by simp)),cU I q1 (hf i2 (by simp))⟩,
   ⟨cU I q2 (hf z (by simp)),cU I q2 (hf TO (by simp)),cU I q2 (hf i1 (by simp)),cU I q2 (hf i2 (by simp))⟩⟩
  refine G_ Dp (I.ok.hd hc) hz hTI hTO h1 h2 s1 s2 (en.elim (λen=>.inl (by simp;omega)) λen=>.inr (by simp;omega)) λh' tk kk=>?_;refine⟨rfl,zG I (ch:=[z,TI,TO,i1,i2]) (λc o hc e=>?_) hf⟩;simp only[Zf,Zp,Z0,not_or]at hc;exact kk c o hc.1 hc.2.2.1 hc.2.2.2.1 hc.2.2.2.2 e
 self:=λ_ _ _ _ _ st h=>wpAny_pyIter_zip st.1 h
structure cA (K:Fg)(F:La)(μ:La)(H:Hp)(F':La)(μ':La)(H':Hp):Prop where
 tup:∀a vs,bX K H a vs->bX K H' a vs
 lst:∀a vs,H a=some (.lst vs)->a∉μ->a∉F->H' a=some (.lst vs)/\a∉μ'/\a∉F'
 frz:∀a vs,sw K H a vs->sw K H' a vs
 box:∀(n:Nat) a,μ[n]?=some a->μ'[n]?=some a
 dct:∀a,H a=some (.dK [])->H' a=some (.dK [])
 ext:∀a φ,H a=some (.ext φ)->a∉F->H' a=some (.ext φ)/\a∉F'
section
variable {F':La}
mutual
theorem Rep.chg(x:cA K F μ H F' μ' H'):∀(d:D) (v:V),Rep K ⟨mg,F⟩ μ H d v->Rep K ⟨mg,F'⟩ μ' H' d v
 | .non,_,h=>h
 | .bl _,_,h=>h
 | .int _,_,h=>h
 | .str _,_,h=>h
 | .tup _,v,h=>by obtain⟨a,vs,e,q,r⟩:=h;exact⟨a,_,e,x.tup a _ q,ah.chg x _ _ r⟩
 | .lst _,v,h=>by obtain⟨a,vs,e,q,n,r⟩:=h;obtain⟨b,f,g⟩:=x.lst a _ q n.1 n.2;exact⟨a,_,e,b,⟨f,g⟩,ah.chg x _ _ r⟩
 | .scr _,v,h=>by obtain⟨a,vs,e,q,r⟩:=h;exact⟨a,_,e,x.frz a _ q,ah.chg x _ _ r⟩
 | .ref n,v,h=>by obtain⟨a,e,q⟩:=h;exact⟨a,e,x.box n a q⟩
 | .fn y,v,h=>h
 | .ty y,v,h=>h
 | .dct,v,h=>by obtain⟨a,e,q⟩:=h;exact⟨a,e,x.dct a q⟩
 | .dks _,v,h=>by obtain⟨a,C,e,q,n,r,k⟩:=h;obtain⟨b,f⟩:=x.ext a _ q n;exact⟨a,_,e,b,f,r,λc i=>x.tup _ _ (k c i)⟩
theorem ah.chg(x:cA K F μ H F' μ' H'):∀(ds:List D) (vs:List V),ah K ⟨mg,F⟩ μ H ds vs->ah K ⟨mg,F'⟩ μ' H' ds vs
 | [],vs,h=>h
 |d::ds,vs,h=>by obtain⟨w,W,e,r,q⟩:=h;exact⟨w,_,e,Rep.chg x d w r,ah.chg x _ _ q⟩
end
theorem aX.chg(x:cA K F μ H F' μ' H')(h:aX K ⟨mg,F⟩ μ H ρ σ):aX K ⟨mg,F'⟩ μ' H' ρ σ:=
 ⟨h.1,λi d e=>let⟨v,a,b⟩:=h.2 i d e;⟨v,a,Rep.chg x _ _ b⟩⟩
theorem cA.start{o:HO}(h:H acc=none):cA K F μ H (acc::F) μ (aZ H acc o):=by
 have x:Ext _ H μ (aZ H _ o):=.laid h;refine⟨λa vs q=>x.sqT q,λa vs q b c=>⟨(x.lst q b).1,b,λz=>?_⟩,λa vs q=>x.frz q,λn a q=>q,λa q=>x.keep _ _ q (.inl λ_ z=>by lia),λa d q c=>⟨x.keep _ _ q (.inl λ_ z=>by lia),λz=>?_⟩⟩
 ·simp_all
 simp_all
noncomputable def h9:HO->Bool
 | .lst _=>MW
 | .ext _=>MW
 |_=>MX
theorem cA.more{u:HO}(d:acc∈F)(h:H acc=some u)(f:h9 u=MW):cA K F μ H F μ (aZ H acc u'):=by
 have ne:∀{a:MZ} {o:HO},H a=some o->h9 o=MX->a≠acc:=λe n z=>by lia
 refine⟨λa vs q=>?_,λa vs q c b=>⟨?_,c,b⟩,λa vs q=>?_,λn a q=>q,λa q=>?_,λa g q b=>⟨by rw[aD (show a≠acc from λz=>b (by lia))];exact q,b⟩⟩
 ·rcases q with(q| ⟨o,q⟩)|q
  ·exact .inl (.inl (by rw[aD (ne q rfl)];exact q))
  ·exact .inl (.inr ⟨o,by rw[aD (ne q rfl)];exact q⟩)
  ·exact .inr q
 ·have:a≠acc:=λz=>by lia
  rw[aD this];exact q
 ·rcases q with⟨o,q⟩|q
  ·exact .inl ⟨o,by rw[aD (ne q rfl)];exact q⟩
  ·exact .inr q
 ·rw[aD (ne q rfl)];exact q
theorem cA.out:cA K (acc::F) μ H F μ H:=
 ⟨λ_ _ q=>q,λa vs q b c=>⟨q,b,λz=>c (Zb _ z)⟩,λ_ _ q=>q,λ_ _ q=>q,λ_ q=>q,λ_ _ q h=>⟨q,λz=>h (Zb _ z)⟩⟩
theorem cA.outBox:cA K (acc::F) μ H F (μ++[acc]) H:=by
 refine⟨λ_ _ q=>q,λa vs q c b=>⟨q,λz=>?_,λz=>b (Zb _ z)⟩,λ_ _ q=>q,λn a q=>?_,λ_ q=>q,λ_ _ q h=>⟨q,λz=>h (Zb _ z)⟩⟩
 ·simp_all
 grind
theorem aI.start{o:HO}(s:aI K ⟨mg,F⟩ μ S H)(h:H acc=none):aI K ⟨mg,acc::F⟩ μ S (aZ H acc o):=by
 have x:Ext μ H _ (aZ H _ o):=.laid h;refine⟨λa b=>?_,s.len,s.nd,λn a D c d=>?_⟩
 ·rcases Zf.mp b with rfl|b
  ·exact⟨o,bO⟩
  ·obtain⟨O,q⟩:=s.live a b;exact x.there a _ q
 ·obtain⟨vs,q,r⟩:=s.at_ n a _ c d;exact⟨_,by rw[aD (bT q h)];exact q,ah.chg (.start h) _ _ r⟩
theorem aI.more{u:HO}(s:aI K ⟨mg,F⟩ μ S H)(d:acc∈F)(i:acc∉μ)(h:H acc=some u)(g:h9 u=MW):aI K ⟨mg,F⟩ μ S (aZ H acc u'):=by
 refine⟨λa f=>?_,s.len,s.nd,λn a D b c=>?_⟩
 ·by_cases e:a=acc
  ·subst e;exact⟨_,bO⟩
  ·obtain⟨o,q⟩:=s.live a f;exact⟨_,by rw[aD e];exact q⟩
 ·obtain⟨vs,q,r⟩:=s.at_ n a _ b c;have:a≠acc:=λz=>by grind
  exact⟨_,by rw[aD this];exact q,ah.chg (.more d h g) _ _ r⟩
theorem aI.out(s:aI K ⟨mg,acc::F⟩ μ S H):aI K ⟨mg,F⟩ μ S H:=
 ⟨λa c=>s.live a (Zb _ c),s.len,s.nd,λn a d h b=>by obtain⟨vs,q,r⟩:=s.at_ n a _ h b;exact⟨_,q,ah.chg .out _ _ r⟩⟩
theorem aI.outBox{vs:List V}(s:aI K ⟨mg,acc::F⟩ μ S H)(k:acc∉μ)(h:H acc=some (.lst vs))(r:ah K ⟨mg,acc::F⟩ μ H ys vs):aI K ⟨mg,F⟩ (μ++[acc]) (S++[ys]) H:=by
 refine⟨λa e=>s.live a (Zb _ e),by simp[s.len],?_,λn a i c d=>?_⟩
 ·rw[Z7];exact⟨s.nd,by simp,λa e b j=>by grind⟩
 ·have f:=s.len;by_cases g:n<μ.length
  ·rw[ZX g]at c;rw[ZX (by omega)]at d;obtain⟨w,q,R⟩:=s.at_ n a _ c d;exact⟨_,q,ah.chg .outBox _ _ R⟩
  ·have E:n=μ.length:=by grind
   subst E;simp[f]at c d;subst c;subst d;exact⟨_,h,ah.chg .outBox _ _ r⟩
theorem Ext.more{o:HO}(x:Ext μ H μ1 H1)(h:H acc=none):Ext μ H μ1 (aZ H1 acc o):=
 ⟨x.pre,λa u e c=>by rw[aD (bT e h)];exact x.keep a u e c,λa u e=>by rw[aD (bT e h)];exact x.there a u e,x.fresh⟩
theorem Ext.outBox(x:Ext μ H μ1 H1)(h:H acc=none):Ext μ H (μ1++[acc]) H1:=by
 obtain⟨r,e⟩:=x.pre;refine⟨⟨r++[acc],by simp_all⟩,x.keep,x.there,λa b=>?_⟩;rcases ZE.mp b with b|b
 ·exact x.fresh a b
 simp_all
end
noncomputable def ba:iA->ae->Nat->Option (Option D)
 | .items xs=>λ_ i=>some xs[i]?
 | .live _ get=>get
def fJ(K:Fg)(m:GS)(J:It)(get:ae->Nat->Option (Option D))(μ:La)(H:Hp):Prop:=
 ∀(i:Nat) μ' S' H' F',cA K m.F μ H F' μ' H'->aI K ⟨m.mg,F'⟩ μ' S' H'->
  (∀x,get S' i=some (some x)->J.go i H'/\∀y H'',J.yld i H' y H''->Ext μ' H' μ' H''/\aI K ⟨m.mg,F'⟩ μ' S' H''/\Rep K ⟨m.mg,F'⟩ μ' H'' x y)/\(get S' i=some none->J.stop i H')
noncomputable def tI(K:Fg)(m:Mg)(E:XK)(Φ:FT)(Γ:Str->Option D)(c:CE):TI:=λσ H R=>∃F μ ρ S,aI K ⟨m,F⟩ μ S H/\aX K ⟨m,F⟩ μ H ρ σ/\ak K ⟨m,F⟩ E (λμ' H' its J=>fJ K ⟨m,F⟩ J (ba its) μ' H') μ H R (aW Φ Γ c ρ S)
theorem cA.refl:cA K F μ H F μ H:=⟨λ_ _ q=>q,λ_ _ q a b=>⟨q,a,b⟩,λ_ _ q=>q,λ_ _ q=>q,λ_ q=>q,λ_ _ q h=>⟨q,h⟩⟩
theorem cA.trans{d e c:La}{f:Hp}(a:cA K F μ H d μ1 H1)(b:cA K d μ1 H1 e c f):cA K F μ H e c f:=
 ⟨λx vs q=>b.tup x _ (a.tup x _ q),λx vs q g i=>by obtain⟨p,P,j⟩:=a.lst x _ q g i;exact b.lst x _ p P j,λx vs q=>b.frz x _ (a.frz x _ q),λn x q=>b.box n x (a.box n x q),λx q=>b.dct x (a.dct x q),λx k q h=>by obtain⟨p,P⟩:=a.ext x _ q h;exact b.ext x _ p P⟩
theorem cA.of_ext{b:La}(x:Ext μ H μ' H')(d:∀a∈b,a∈F\/H a=none):cA K F μ H b μ' H':=by
 refine⟨λa vs q=>x.sqT q,λa vs q c h=>⟨(x.lst q c).1,(x.lst q c).2,λz=>?_⟩,λa vs q=>x.frz q,λn a q=>x.get q,λa q=>x.keep _ _ q (.inl λ_ z=>by lia),λa e q h=>⟨x.keep _ _ q (.inl λ_ z=>by lia),λz=>?_⟩⟩<;>rcases d a z with z|z
 ·exact h z
 ·simp_all
 ·exact h z
 simp_all
section
variable {E:XK}{l:Expr}{pos:Pos}{c:CE}
theorem tm{R:It->Hp->Prop}{xs:List V}(I:Inv X pq σ H s)(c:cQ X.K H a xs)(q:R (EM X.K a) H):wpAny (model X.prog X.w) X.A (pyIter (.ref a)) (EL X pq σ tg R) E' s:=by
 obtain⟨i,r,p,d⟩:=I.list c;refine N_ p.isList ?_;refine⟨_,_,_,_,H,rfl,I.kept λb o e=>Zc _ e,Fq a _,⟨_,Zi _ rfl,rfl,rfl⟩,λb h=>?_,q⟩;have e:=by simpa using h
 subst e;exact I.fpOk (Zg _) (I.hok.fresh (Zg _))
theorem Hd{R:It->Hp->Prop}{xs:List V}(I:Inv X pq σ H s)(c:bX X.K H a xs)(q:R (Fp X.K a) H):wpAny (model X.prog X.w) X.A (pyIter (.ref a)) (EL X pq σ tg R) E' s:=by
 obtain⟨i,r,p,d⟩:=I.tuple c;refine NG (show s.heap.IsTuple a _ from p) ?_;refine⟨_,_,_,_,H,rfl,I.kept λb o e=>Zc _ e,Fs a _,⟨_,Zi _ rfl,rfl,rfl⟩,λb h=>?_,q⟩;have e:=by simpa using h
 subst e;exact I.fpOk (Zg _) (I.hok.fresh (Zg _))
theorem zH{m:GS}{vs:List V}{i:Nat}(r:ah K m μ H ds vs)(h:ba (.items ds) S i=some none):vs.length<=i:=by have a:=Oz.mp (by simpa[ba]using h);have b:=r.length;omega
theorem zI{m:GS}{vs:List V}(h:∀F' μ' H',cA K m.F μ H F' μ' H'->cQ K H' a vs)(r:ah K m μ H ds vs):fJ K m (EM K a) (ba (.items ds)) μ H:=by
 intro i μ' S H' F' c s;have l:=r.length;refine⟨λy b=>?_,λk=>⟨vs,h _ _ _ c,zH r k⟩⟩;have b:ds[i]?=some y:=by simpa[ba]using b
 obtain⟨v,f,j⟩:=r.get b;refine⟨⟨vs,v,h _ _ _ c,f⟩,λz g d=>?_⟩;obtain⟨rfl,d⟩:=d;have e:=d vs (h _ _ _ c);rw[f]at e;cases e;exact⟨.refl,s,Rep.chg c _ _ j⟩
theorem He{m:GS}{vs:List V}(h:bX K H a vs)(r:ah K m μ H ds vs):fJ K m (Fp K a) (ba (.items ds)) μ H:=by intro i l S n F c s;refine⟨λy k=>?_,λj=>⟨_,c.tup _ _ h,zH r j⟩⟩;obtain⟨v,d,g⟩:=r.get (by simpa[ba]using k);refine⟨⟨_,v,c.tup _ _ h,d⟩,λz f b=>?_⟩;obtain⟨rfl,b⟩:=b;have e:=b _ (c.tup _ _ h);rw[d]at e;cases e;exact⟨.refl,s,Rep.chg c _ _ g⟩
theorem Hf{M:GS}(g:μ[n]?=some a):fJ K M (EM K a) (cq n) μ H:=by
 intro i o S p F C s;have f:n<S.length:=by rw[<-s.len];exact(Zl.mp (C.box _ _ g)).1
 have j:=Zh f;obtain⟨vs,b,r⟩:=s.at_ n a _ (C.box _ _ g) j;have f:=r.length;refine⟨λy h=>?_,λm=>⟨_,.of b,?_⟩⟩
 ·unfold cq at h;rw[j]at h;simp at h;obtain⟨v,d,l⟩:=r.get h;refine⟨⟨_,v,.of b,d⟩,λz k c=>?_⟩;obtain⟨rfl,c⟩:=c;have e:=c _ (.of b);rw[d]at e;cases e;exact⟨.refl,s,l⟩
 ·unfold cq at m;simp_all
theorem zJ(x:PE X l (tE X.K X.mg E Φ Γ c)):PI X tg l (tI X.K X.mg E Φ Γ (.seq c)):=by
 intro P s J H R I h;obtain⟨F,B,G,S,z,q,w⟩:=h;refine aO (x _ s _ H _ I ⟨F,_,_,S,z,q,ak.bind w⟩) λu A ⟨v,_,g,j,_,p,d,_,b,i,W⟩=>?_;cases d with
 |tup D=>obtain⟨a,vs,rfl,e,r⟩:=bV i;cases j;exact Hd g e (W _ _ _ .refl b (He e r))
 |lst D=>obtain⟨a,vs,rfl,e,f,r⟩:=i;cases j;exact tm g (.of e) (W _ _ _ .refl b (zI (λm k o C=>.of (C.lst a _ e f.1 f.2).1) r))
 |scr D=>obtain⟨a,vs,rfl,e,r⟩:=i;cases j;exact tm g e.sq (W _ _ _ .refl b (zI (λm k o C=>(C.frz a _ e).sq) r))
 |ref n=>
  obtain⟨a,rfl,f⟩:=i;cases j;have y:n<p.length:=by rw[<-b.len];exact(Zl.mp f).1
  obtain⟨vs,t,r⟩:=b.at_ n a _ f (Zh y);exact tm g (.of t) (W _ _ _ .refl b (Hf f))
 |_=>exact W.elim
theorem zK(l:Int)(n:Nat):(dZ l n).length=n:=by
 induction n generalizing l with
 |zero=>rfl
 |succ n i=>unfold dZ;simp_all
theorem Hg(l:Int)(n i:Nat)(h:i<n):(dZ l n)[i]?=some (.int (l+i)):=by
 induction n generalizing l i with
 |zero=>omega
 |succ n I=>
  unfold dZ
  grind
theorem zL{m:GS}(l:Int)(n:Nat):fJ K m (xD l n) (ba (.items (dZ l n))) μ H:=by
 intro i d S e F C s;refine⟨λy h=>?_,λa=>?_⟩
 ·have h:=by simpa[ba]using h
  have a:=by have:=(Zl.mp h).1;rwa [zK]at this
  rw[Hg _ n i a]at h;cases h;refine⟨a,λz b c=>?_⟩;obtain⟨rfl,rfl⟩:=c;exact⟨.refl,s,bC⟩
 ·have:(dZ l n)[i]?=none:=by simpa[ba]using a
  have:=Oz.mp this;rw[zK]at this;exact this
variable {es:Lx}{cs:List CE}{a b:CE}{r:Expr}
theorem j0{m:GS}{Q:List V->Hp->Prop}(w:ak K m E (ah K m) μ H Q (ai Φ Γ cs ρ S)):ak K m E (ah K m) μ H (λvs H'=>vs.length=cs.length/\Q vs H') (ai Φ Γ cs ρ S):=by
 cases e:ai _ _ _ _ S with
 |ok d a=>rw[e]at w;intro b H' vs x s r;refine⟨?_,w _ _ _ x s r⟩;rw[<-r.length,s_ e]
 |err y a=>rw[e]at w;exact w
 |fail=>rw[e]at w;exact w
theorem Hh(O:cv X cell N sc CX E Φ Γ k)(h:a_ sc "range"=MW)(i:bR l=MW)(g:cs.length=1)(f:PA X [l] (tL X.K X.mg E Φ Γ cs)):PI X tg (.Call (.Name "range" p2) [l] [] pos) (tI X.K X.mg E Φ Γ (.range cs)):=by
 obtain⟨d,_,_⟩:=cJ h;intro p s u H R I ⟨F,q,t,S,o,e,w⟩;refine Fu (O.gl d) (O.mod.bl _ (by decide+kernel)) f (by rw[cI i];rfl) p s u H R I ⟨F,q,t,S,o,e,(j0 (ak.bind w)).mono λvs H1 ⟨y,b,x,D,z,n,r,W⟩=>?_⟩;have a:=r.length;split at W
 ·rename_i j;split at W
  ·rename_i c;obtain⟨v,rfl,m⟩:=r.one;cases aE m;exact⟨j,rfl,c.1,c.2,W b H1 _ .refl n (zL 0 j.toNat)⟩
  ·exact W.elim
 ·simp only[ZC,N1]at a;omega
 ·exact W.elim
theorem Hi(O:cv X cell N sc CX E Φ Γ k)(h:a_ sc "range"=MW)(p:bR l=MW)(a:bR r=MW)(n:cs.length=2)(m:PA X [l,r] (tL X.K X.mg E Φ Γ cs)):PI X tg (.Call (.Name "range" p2) [l,r] [] pos) (tI X.K X.mg E Φ Γ (.range cs)):=by
 obtain⟨g,_,_⟩:=cJ h;intro P s z H R I ⟨F,x,y,S,u,f,w⟩;refine Fv (O.gl g) (O.mod.bl _ (by decide+kernel)) m (by rw[cI p,cI a];rfl) (by rw[cI a];rfl) P s z H R I ⟨F,x,y,S,u,f,(j0 (ak.bind w)).mono λvs H1 ⟨B,d,A,D,C,t,e,W⟩=>?_⟩;have b:=e.length;split at W
 ·simp only[ZC,N1]at b;omega
 ·rename_i i j;split at W
  ·rename_i o;obtain⟨v,V,rfl,q,c⟩:=e.two;cases aE q;cases aE c;exact⟨i,j,rfl,o,W d H1 _ .refl t (zL i (j-i).toNat)⟩
  ·exact W.elim
 ·exact W.elim
theorem zM{m:GS}(s:aI K m μ S H)(r:Rep K m μ H d v)(e:av S d=some xs):∃a,v=.ref a/\
  ∀μ' S' H' F',cA K m.F μ H F' μ' H'->aI K ⟨m.mg,F'⟩ μ' S' H'->∃ys vs,av S' d=some ys/\iH (er d) K H' a vs/\ah K ⟨m.mg,F'⟩ μ' H' ys vs:=by
 cases d with
 |tup D=>obtain⟨a,vs,rfl,b,q⟩:=bV r;exact⟨a,rfl,λμ' S' H' F' c f=>⟨_,_,rfl,c.tup _ _ b,ah.chg c _ _ q⟩⟩
 |lst D=>obtain⟨a,vs,rfl,b,h,q⟩:=r;exact⟨a,rfl,λμ' S' H' F' c f=>⟨_,_,rfl,cQ.of (c.lst a _ b h.1 h.2).1,ah.chg c _ _ q⟩⟩
 |scr D=>obtain⟨a,vs,rfl,b,q⟩:=r;exact⟨a,rfl,λμ' S' H' F' c f=>⟨_,_,rfl,(c.frz a _ b).sq,ah.chg c _ _ q⟩⟩
 |ref n=>
  obtain⟨a,rfl,h⟩:=r;refine⟨a,rfl,λμ' S' H' F' c f=>?_⟩;have i:n<S'.length:=by rw[<-f.len];exact(Zl.mp (c.box _ _ h)).1
  obtain⟨vs,g,q⟩:=f.at_ n a _ (c.box _ _ h) (Zh _);exact⟨_,_,Zh i,cQ.of g,q⟩
 |_=>cases e
theorem mY(h:mD d=some xs)(S:ae):av S d=some xs:=by unfold mD at h;split at h<;>first|exact h|cases h
theorem Hj{e:D}{its:iA}(h:et S d e=some its):(∃xs ys,av S d=some xs/\av S e=some ys)/\∀S' i,(∃xs ys,av S' d=some xs/\av S' e=some ys)->ba its S' i=mE d e S' i:=by
 unfold et at h;split at h
 ·rename_i xs ys E a;cases h;refine⟨⟨_,_,mY E S,mY a S⟩,λS' i _=>?_⟩;show some _=_;unfold mE;rw[mY E _,mY a _]
  grind
 ·split at h
  ·rename_i xs ys E a;cases h;exact⟨⟨_,_,E,a⟩,λS' i _=>rfl⟩
  ·cases h
theorem Hk{m:GS}{e:D}{u:V}{its:iA}(j:aI K m μ S H)(rd:Rep K m μ H d v)(re:Rep K m μ H e u)(h:et S d e=some its):
  ∃a b,v=.ref a/\u=.ref b/\(∃vs,iH (er d) K H a vs)/\(∃vs,iH (er e) K H b vs)/\fJ K m (Mf K (er d) (er e) a b) (ba its) μ H:=by
 obtain⟨⟨xs,ys,O,P⟩,U⟩:=Hj h;obtain⟨a,rfl,G⟩:=zM j rd O;obtain⟨b,rfl,I⟩:=zM j re P;obtain⟨_,va,_,X,_⟩:=G μ S H m.F .refl j;obtain⟨_,vb,_,Z,_⟩:=I μ S H m.F .refl j;refine⟨a,b,rfl,rfl,⟨va,X⟩,⟨vb,Z⟩,λi f k n F C s=>?_⟩;obtain⟨x,vs,r,Q,R⟩:=G f k n F C s;obtain⟨Y,w,t,l,J⟩:=I f k n F C s;rw[U k i ⟨x,Y,r,t⟩];unfold mE;rw[r,t];have l1:=R.length;have l2:=J.length;refine⟨λy c=>?_,λc=>⟨vs,w,Q,l,?_⟩⟩
 ·have c:=OK c;cases g1:x[i]? with
  |none=>rw[g1]at c;cases c
  |some p=>
   cases g2:Y[i]? with
   |none=>rw[g1,g2]at c;cases c
   |some q=>rw[g1,g2]at c;cases c;obtain⟨L,A,rp⟩:=R.get g1;obtain⟨M,B,rq⟩:=J.get g2;refine⟨⟨vs,w,L,M,Q,l,A,B⟩,λz N W=>?_⟩;obtain⟨T,x',y',rfl,g,rfl,z1,z2⟩:=W;have E:=z1 vs Q;rw[A]at E;cases E;have o:=z2 w l;rw[B]at o;cases o;refine⟨.laid g,s.laid g,?_⟩;unfold Rep;exact⟨T,[L,M],rfl,bX.of bO,.cons (Rep.mono (.laid g) _ _ rp) (.cons (Rep.mono (.laid g) _ _ rq) .nil)⟩
 grind
theorem xb{i j:Nat}(h:i≠j):n+i≠n+j:=λe=>h (RN e)
theorem tq{j:Nat}(h:0≠j):n≠n+j:=λe=>h (RN (n:=n) (by lia))
theorem qI{j:Nat}(h:0≠j):n+j≠n:=λe=>tq h e.symm
theorem Hl:bootBuiltins "zip"=some (.type "zip"):=by decide+kernel
theorem zN(O:cv X cell N sc CX E Φ Γ k)(h:a_ sc "zip"=MW)(L:fo tg=MW)(K:bR l=MW)(n:bR r=MW)(J:PA X [l,r] (tL X.K X.mg E Φ Γ cs)):PI X tg (.Call (.Name "zip" p2) [l,r] [] pos) (tI X.K X.mg E Φ Γ (.zip cs)):=by
 obtain⟨G,_,_⟩:=cJ h;intro P s y H R I ⟨F,μ,ρ,S,sk,C,w⟩;refine Call_ (eS I (O.gl G) (O.mod.bl _ (by decide+kernel)) Hl (Nf (aO (J pos P s y H _ I ⟨F,μ,ρ,S,sk,C,ak.bind w⟩) λus f ⟨vs,H1,g,rv,o,B,ds,x1,j,Z,W⟩=>?_) (cI K) (by rw[cI n];rfl)));split at W
 ·rename_i d e;obtain⟨v,u,rfl,rd,re⟩:=Z.two;cases m:et B d e with
  |none=>rw[m]at W;exact W.elim
  |some M=>
   rw[m]at W;obtain⟨a,b,rfl,rfl,⟨va,V⟩,⟨vb,Y⟩,ok⟩:=Hk j rd re m;cases rv with
   |cons p q=>
    cases q with
    |cons T U=>
     cases U;cases p;cases T;obtain⟨as,ra,sa⟩:=iI g V;obtain⟨bs,rb,sb⟩:=iI g Y;refine G' sa sb λD z z2 z3 z4 z5 z6 Q=>?_;refine wpAny_pyIter_zip z ?_;have A:Inv X P y H1 {f with heap:=D}:=g.kept (t':=f.toks) Q;cases tg with
     |Tuple ts x1 tp=>
      refine⟨f.heap.objs.size+4,[f.heap.objs.size+4,f.heap.objs.size+2,f.heap.objs.size+3,f.heap.objs.size,f.heap.objs.size+1],_,_,H1,rfl,A,
       Hc (er d) (er e) (f.heap.objs.size+4) (f.heap.objs.size+2) (f.heap.objs.size+3) f.heap.objs.size (f.heap.objs.size+1) a b (xb (by decide)) (xb (by decide)) (tq (by decide)) (xb (by decide)) (xb (by decide)) (qI (by decide)) (xb (by decide)) (qI (by decide)) (xb (by decide)) (tq (by decide)),⟨z,z2,⟨_,_,z3⟩,z4,z5⟩,λc t=>?_,W o H1 _ .refl j ok⟩
      have i:f.heap.objs.size<=c:=by
       simp only[Zf,Zp,Z0]at t;rcases t with rfl|rfl|rfl|rfl|rfl
       ·exact Pt _ _
       ·exact Pt _ _
       ·exact Pt _ _
       ·exact Zg _
       ·exact Pt _ _
      exact g.fpOk i (g.hok.fresh i)
     |_=>cases L
 ·exact W.elim
end
noncomputable def ez(i:Lx)(env:Env):Sem Bool:=forIn i MW (λc r=>if r=MW then do let ok <-isTrue c env (eval c env);pure (Np ok)else pure (Np r))
noncomputable def br(c:Expr)(e:Sem Unit)(g:List Nk)(d:Nat)(a:M0)(env:Env):Sem Unit:=match g[d+1]? with
 |some g'=>do
   let x <-eval g'.iter env
   standAt g'.iter.pos
   let x <-if g'.is_async !=0 then foldedIterable g'.iter x else foldedSetIterable g'.iter env x
   let _ <-runOwn (.compStart c (d+1) (<-holding [x] (if g'.is_async !=0 then asyncIter x else pyIter x)) a env) env
 |none=>e
noncomputable def tr(e:Expr)(a:M0)(env:Env):Sem Unit:=do let _ <-call (.builtin "list.append") [a,<-eval e env]
theorem Hm{C:Expr}{e:Sem Unit}{d:Nat}{it a:M0}{env:Env}{t i:Expr}{fs:Lx}(h:gens[d]?=some ⟨t,i,fs,0⟩):
  (do
    let some g:=gens[d]? |unsupported "internal:comprehension-depth"
    standAt (if g.is_async !=0 then C.pos else g.iter.pos)
    match <-if g.is_async !=0 then asyncNext it else pyNext it with
    |none=>pure (.done .next)
    |some v=>
     letOwnedTupleGo g.target it v
     assign g.target env v
     let mut ok:=MW
     for c in g.ifs do
      if ok then ok <-isTrue c env (eval c env)
     if ok then
      match gens[d+1]? with
      |some g'=>
       let x <-eval g'.iter env
       standAt g'.iter.pos
       let x <-if g'.is_async !=0 then foldedIterable g'.iter x else foldedSetIterable g'.iter env x
       let _ <-runOwn (.compStart C (d+1) (<-holding [x] (if g'.is_async !=0 then asyncIter x else pyIter x)) a env) env
      |none=>e
     again (.compLoop C d it a env):Sem Fin)=(standAt i.pos>>=λ_=>pyNext it>>=λr=>match r with
   |none=>pure (.done .next)
   |some v=>letOwnedTupleGo t it v>>=λ_=>assign t env v>>=λ_=>(ez fs env>>=λok=>if ok=MW then br C e gens d a env else pure ())>>=λ_=>
    again (.compLoop C d it a env)):=by
 simp only[h];show(standAt i.pos>>=λ_=>pyNext it>>=_)=_;congr 1;funext _;congr 1;funext r;cases r with
 |none=>rfl
 |some v=>
  show(letOwnedTupleGo t it v>>=λ_=>assign t env v>>=λ_=>_>>=λok=>_)=_;congr 1;funext _;congr 1;funext _
  conv=>rhs;rw[bind_assoc]
  unfold ez;refine ZU (λk=>_>>=k) (funext λok=>?_);cases ok with
  |true=>
   unfold br;cases gens[d+1]? with
   |none=>rfl
   |some g'=>
    by_cases H:(g'.is_async !=0)=MW
    ·simp_all
    simp_all
  |false=>simp_all
section
variable {em:Sem Unit}{d:Nat}
theorem mZ{fs:Lx}{ts:List TT}{t:TU}(e:yO X fs ts)(c:PB X (br ce em gens d (.ref acc) X.env) t):
  PB X (ez fs X.env>>=λok=>if ok=MW then br ce em gens d (.ref acc) X.env else pure ()) (yS ts t):=by
 intro p s f H Q I h;refine Za (aO (yQ _ _ e _ s _ H _ I h) λb S ⟨_,a,q⟩=>?_);cases b with
 |false=>exact Zd ⟨_,_,a,q⟩
 |true=>exact c _ _ _ _ Q a q
theorem m6(g:gens[d+1]?=none)(f:PE X elt te):PB X (br ce (tr elt (.ref acc) X.env) gens d (.ref acc) X.env) (yR acc te):=by intro p s k H Q I h;unfold br;rw[g];exact Za (aO (f _ s _ H _ I h) λu s2 ⟨v,_,b,r,_,e,i,q⟩=>Za (aO (yk _ _ _ _ (.ref _) _ _ _ (λ_ a=>Q _ a) b rfl (.cons r .nil) ⟨_,_,v,rfl,rfl,e,i,q⟩) λ_ s3 ⟨_,_,c,_,j⟩=>Zd ⟨_,_,c,j⟩))
theorem Hn{t i:Expr}{fs:Lx}{tb:TU}(c:iz ce=MW)(k:clausesOf ce=gens)(m:∀it:MZ,compTurn ce (d+1) (.ref it) (.ref acc) X.env=(standAt i.pos>>=λ_=>pyNext (.ref it)>>=λr=>match r with
   |none=>pure (.done .next)
   |some v=>letOwnedTupleGo t (.ref it) v>>=λ_=>assign t X.env v>>=λ_=>(ez fs X.env>>=λok=>if ok=MW then br ce em gens (d+1) (.ref acc) X.env else pure ())>>=λ_=>again (.compLoop ce (d+1) (.ref it) (.ref acc) X.env))) (D:X.xe=λ_ _=>False) (B:X.calm=MW) (o:gens[d+1]?=some ⟨t,i,fs,0⟩) (C:PI X t i wi) (hs:∀x,foldedSetIterable i X.env x=pure x) (n:PG X t g)
  (A:PB X (ez fs X.env>>=λok=>if ok=MW then br ce em gens (d+1) (.ref acc) X.env else pure ()) tb):PB X (br ce em gens d (.ref acc) X.env) (sN wi g tb):=by
 intro p s G H Q I h;unfold br;rw[o];show wpAny _ _ (eval i X.env>>=λx=>standAt i.pos>>=λ_=>foldedSetIterable i X.env x>>=λx=>holding [x] (pyIter x)>>=λit=>runOwn (.compStart ce (d+1) it (.ref acc) X.env) X.env>>=λ_=>pure ()) _ _ s;refine Za (aO (C p s G H _ I h) λv M y=>Za (PF (Za ?_)));rw[hs];refine Zd (Za (ZI (aO y λE s2 z=>Za ?_)));obtain⟨it,L,N,J,K,e,w,T,j,F,W⟩:=z;subst e
 have l:codeAny (model X.prog X.w) X.A (.compLoop ce (d+1) (.ref it) (.ref acc) X.env) (λr S=>match r with
   | .ok f=>∃a b,Inv X p a b S/\Q a b
   | .error e=>cameBackBy (model X.prog X.w) X.A X.env X.xe e S) s2:=
  yM (Fin:=Q) c D B (m it) T n A w j F W λS a b u _ q=>⟨a,b,u,q⟩
 refine wpAny_runOwn (h:=none) ?_
 refine Oi (R:=λr S=>match r with
   | .ok f=>∃a b,Inv X p a b S/\Q a b
   | .error e=>cameBackBy (model X.prog X.w) X.A X.env X.xe e S) (yN c (by rw[k];exact o) l (T.self _ 0 _ _ _ j l)) λr S q=>?_
 cases r with
 |ok f=>exact Zd q
 |error e=>exact q
end
noncomputable def EV:List CT->qs
 | []=>xB
 |t::ts=>match t with
  | .var i=>qt (dV i) (EV ts)
  | .tup _=>λ_ _ _ _=>False
noncomputable def qJ(K:Fg):CT->TG
 | .var i=>dV i
 | .tup ts=>xC K ts.length (EV ts)
section
variable {E:XK}
theorem qK(O:cv X cell N sc CX E Φ Γ k){i:Nat}{p:Pos}(h:qB cell N sc (.var i)=MW):PG X (.Name (N.getD i "") p) (dV i):=by
 have H:=(aa h).1;have a:=(aa h).2;generalize N.getD i _=x at H a;simp at H a
 have b:L2.Loc X.env.scope x:=by
  unfold L2.Loc;rw[O.sc]
  grind
 refine lB (by rw[O.n];exact O.nd) (by rw[O.n];exact H) b ?_;rcases a with z|z
 ·exact .inr (by rw[O.sc];exact z)
 ·exact .inl (O.fn x z.1)
theorem tt{env:Env}:∀{ts:List CT} {es:Lx},((assignEach (gZ ts N es) env).length=ts.length/\(assignEach (gZ ts N es) env).findIdx? (·.1)=none)
 | [],_=>⟨rfl,rfl⟩
 |t::ts,es=>by
  have i:=tt (env:=env) (ts:=ts) (es:=es.tail);have e:assignEach (gZ (t::ts) N es) env=(MX,assign (iE t N (es.headD dE)) env)::assignEach (gZ ts N es.tail) env:=by cases t<;>rfl
  rw[e];exact⟨by rw[ZC,i.1,ZC],by rw[List.findIdx?_cons,i.2];rfl⟩
theorem qL(O:cv X cell N sc CX E Φ Γ k):∀{ts:List CT} {es:Lx},sV cell N sc ts=MW->xA X (gZ ts N es) (EV ts)
 | [],es,h=>lC
 |t::ts,es,h=>by
  cases t with
  |tup _=>exact λ_ _ _ _ _ _ _ _ _ z=>z.elim
  |var i=>exact Fm (qK O (aa h).1) (qL O (aa h).2)
theorem j1(O:cv X cell N sc CX E Φ Γ k){t:CT}(h:qB cell N sc t=MW):PG X (iE t N e) (qJ X.K t):=by
 cases t with
 |var i=>exact qK O h
 |tup T=>exact rG O.calm (qL O h) tt.1 tt.2
theorem qM{F μ:La}{H:Hp}{K:Fg}{m:Mg}{ρ':bI}{Q:L2.St->Hp->Prop}:∀{ts:List CT} {ds:List D} {vs:List V} {ρ:bI} {σ:L2.St},bt ts ds ρ=some ρ'->ah K ⟨m,F⟩ μ H ds vs->aX K ⟨m,F⟩ μ H ρ σ->(∀σ',aX K ⟨m,F⟩ μ H ρ' σ'->Q σ' H)->EV ts vs σ H Q
 | [],ds,vs,ρ,σ,h,r,e,q=>by
  cases ds with
  |nil=>cases h;exact⟨r,q _ e⟩
  |cons _ _=>cases h
 |t::ts,ds,vs,ρ,σ,h,r,e,q=>by
  cases t with
  |tup _=>cases h
  |var i=>
   cases ds with
   |nil=>cases h
   |cons d ds=>obtain⟨v,w,rfl,R,a⟩:=r.uncons;exact⟨v,w,rfl,qM h a (e.set R) q⟩
theorem tw{ρ':bI}:∀{ts:List CT} {ds:List D} {ρ:bI},bt ts ds ρ=some ρ'->ts.length=ds.length/\ρ'.length=ρ.length
 | [],ds,ρ,h=>by
  cases ds with
  |nil=>cases h;exact⟨rfl,rfl⟩
  |cons _ _=>cases h
 |t::ts,ds,ρ,h=>by
  cases t with
  |tup _=>cases h
  |var i=>
   cases ds with
   |nil=>cases h
   |cons d ds=>have:=tw (ts:=ts) h;exact⟨ZU Nat.succ this.1,by rw[this.2,List.length_set]⟩
theorem zO{ρ':bI}{j:Nat}:∀{ts:List CT} {ds:List D} {ρ:bI},bt ts ds ρ=some ρ'->(∀i∈cE ts,i≠j)->ρ'[j]?=ρ[j]?
 | [],ds,ρ,h,H=>by
  cases ds with
  |nil=>cases h;rfl
  |cons _ _=>cases h
 |t::ts,ds,ρ,h,H=>by
  cases t with
  |tup _=>cases h
  |var i=>
   cases ds with
   |nil=>cases h
   |cons d ds=>rw[zO (ts:=ts) h λk a=>H k (Zb _ a),NE (H i Ze)]
theorem tx{Q:L2.St->Hp->Prop}{t:CT}(h:aL t d ρ=some ρ')(r:Rep K ⟨mg,F⟩ μ H d v)(e:aX K ⟨mg,F⟩ μ H ρ σ)
  (q:∀σ',aX K ⟨mg,F⟩ μ H ρ' σ'->Q σ' H):qJ K t v σ H Q:=by
 cases t with
 |var i=>cases h;exact q _ (e.set r)
 |tup T=>
  cases d with
  |tup D=>obtain⟨a,vs,rfl,b,R⟩:=bV r;exact⟨a,_,rfl,b,by rw[<-R.length];exact(tw h).1.symm,qM h R e q⟩
  |_=>cases h
end
theorem Ho{l:List Nat}{i:Nat}(h:bu ρ l=MW)(H:i∈l):ρ[i]?=some none:=by
 unfold bu at h
 grind
theorem m9{t:CT}(h:aL t d ρ=some ρ'):ρ'.length=ρ.length/\∀j,(∀i∈slots t,i≠j)->ρ'[j]?=ρ[j]? :=by
 cases t with
 |var i=>cases h;exact⟨List.length_set,λj H=>NE (H i Ze)⟩
 |tup T=>
  cases d with
  |tup D=>exact⟨(tw h).2,λj H=>zO h H⟩
  |_=>cases h
theorem Hq{m:GS}{t:CT}(h:bd t d ρ=some ρ')(E:aX K m μ H ρ' σ):aX K m μ H ρ σ:=by
 unfold bd at h;by_cases a:bu ρ (slots t)=MW
 ·rw[if_pos a]at h;have g:=m9 h;refine⟨by rw[<-E.1,g.1],λj D e=>E.2 j _ ?_⟩;rw[g.2 j λi b z=>by subst z;rw[Ho a b]at e;cases e];exact e
 simp_all
theorem Hr{t:CT}(h:bd t d ρ=some ρ'):aL t d ρ=some ρ':=by unfold bd at h;simp_all
structure gc (K:Fg)(mg:Mg)(F:La)(acc:MZ)(O:List D->List V->HO->Prop)(B:La->Hp->Prop)(μ0:La)(H0:Hp)(μ:La)(S:ae)(H:Hp)(ρ:bI)(σ:L2.St)(ds:List D)(vs:List V):Prop where
 n0:H0 acc=none
 ext:Ext μ0 H0 μ H
 sok:aI K ⟨mg,acc::F⟩ μ S H
 nin:acc∉μ
 env:aX K ⟨mg,acc::F⟩ μ H ρ σ
 at_:∃o,H acc=some o/\O ds vs o
 rep:ah K ⟨mg,acc::F⟩ μ H ds vs
 b:B μ H
def iJ(K:Fg)(F:La)(B:La->Hp->Prop):Prop:=∀μ H μ1 H1,B μ H->cA K F μ H F μ1 H1->B μ1 H1
noncomputable def dw(K:Fg)(m:Mg)(F:La)(a:MZ)(O:List D->List V->HO->Prop)(B:La->Hp->Prop)(b:La)(H:Hp)(ρ:bI)(Q:L2.St->Hp->Prop):Res (List D)->Prop
 | .ok d S'=>∀μ' H' σ' v,gc K m F a O B b H μ' S' H' ρ σ' d v->Q σ' H'
 |_=>False
noncomputable def tB(K:Fg)(m:Mg)(O:MZ->List D->List V->HO->Prop)(Φ:FT)(Γ:Str->Option D)(c:CE)(a:MZ):TU:=λσ H Q=>∃F B μ0 H0 μ ρ S ds vs,iJ K (a::F) B/\gc K m F a (O a) B μ0 H0 μ S H ρ σ ds vs/\dw K m F a (O a) B μ0 H0 ρ Q (bq Φ Γ c ρ ds S)
noncomputable def fv(Φ:FT)(Γ:Str->Option D)(i:List CE)(body:CE)(ρ:bI)(ds:List D)(S:ae):Res (List D):=(aM Φ Γ i ρ S).bind λk S3=>if k=MW then bq Φ Γ body ρ ds S3 else .ok ds S3
noncomputable def tC(K:Fg)(m:Mg)(O:MZ->List D->List V->HO->Prop)(Φ:FT)(Γ:Str->Option D)(i:List CE)(c:CE)(a:MZ):TU:=λσ H Q=>∃F B μ0 H0 μ ρ S ds vs,iJ K (a::F) B/\gc K m F a (O a) B μ0 H0 μ S H ρ σ ds vs/\dw K m F a (O a) B μ0 H0 ρ Q (fv Φ Γ i c ρ ds S)
section
variable {O:List D->List V->HO->Prop}{vs:List V}
theorem gc.next(hB:iJ K (acc::F) B)(c:gc K mg F acc O B μ0 H0 μ S H ρ σ ds vs)(x:Ext μ H μ1 H1)(s:aI K ⟨mg,acc::F⟩ μ1 S1 H1):gc K mg F acc O B μ0 H0 μ1 S1 H1 ρ σ ds vs where
 n0:=c.n0
 ext:=c.ext.trans x
 sok:=s
 nin:=λz=>by
  rcases x.fresh _ z with z|z
  ·exact c.nin z
  ·obtain⟨o,e,_⟩:=c.at_;simp_all
 env:=c.env.mono x
 at_:=let⟨o,e,h⟩:=c.at_;⟨o,x.keep _ _ e (.inr c.nin),h⟩
 rep:=ah.mono x _ _ c.rep
 b:=hB _ H _ _ c.b (.of_ext x λ_ z=>.inl z)
theorem gc.put{u:HO}(f:iJ K (acc::F) B)(c:gc K mg F acc O B μ0 H0 μ S H ρ σ ds vs)(h:H acc=some u)(a:h9 u=MW)(r:Rep K ⟨mg,acc::F⟩ μ H d v)(g:O (ds++[d]) (vs++[v]) u'):gc K mg F acc O B μ0 H0 μ S (aZ H acc u') ρ σ (ds++[d]) (vs++[v]):=by
 have C:cA K _ _ H (acc::F) μ (aZ H _ u'):=.more Ze h a
 exact{
  n0:=c.n0
  ext:=c.ext.more c.n0
  sok:=c.sok.more Ze c.nin h a
  nin:=c.nin
  env:=c.env.chg C
  at_:=⟨_,bO,g⟩
  rep:=ah.append (ah.chg C _ _ c.rep) (.cons (Rep.chg C _ _ r) .nil)
  b:=f _ _ _ _ c.b C}
theorem Hs{E:XK}:∀{cs:List CE} {σ:L2.St} {Q:Bool->Hp->Prop},aI X.K ⟨X.mg,F⟩ μ S H->aX X.K ⟨X.mg,F⟩ μ H ρ σ->ak X.K ⟨X.mg,F⟩ E (λ_ _ a b=>a=b) μ H Q (aM Φ Γ cs ρ S)->mr (cs.map (tT X.K X.mg E Φ Γ)) σ H Q:=by
 intro cs
 induction cs generalizing μ H S with
 |nil=>exact λs e w=>w _ H _ .refl s rfl
 |cons c cs i=>
  intro σ Q s e w;refine⟨F,_,_,S,s,e,(ak.bind w).mono λk H1 z=>az z λg h K x d f W=>?_⟩;subst f;cases K with
  |true=>exact i d (e.mono x) W
  |false=>exact W _ _ _ .refl d rfl
end
section
variable {E:XK}
theorem PB.weak{body:Sem Unit}{t t':TU}(h:PB X body t)(w:∀σ H Q,t' σ H Q->t σ H Q):PB X body t':=λp s σ H Q I q=>h _ s _ H Q I (w _ H Q q)
theorem Ht{vs:List V}{i:List CE}{c:CE}{Q:L2.St->Hp->Prop}
  (h:iJ K (acc::F) B) (st:gc K mg F acc (O acc) B μ0 H0 μ S H ρ σ ds vs) (w:dw K mg F acc (O acc) B μ0 H0 ρ Q (fv Φ Γ i c ρ ds S)):
  ak K ⟨mg,acc::F⟩ E (λ_ _ a b=>a=b) μ H (λb H1=>if b=MW then tB K mg O Φ Γ c acc σ H1 Q else Q σ H1) (aM Φ Γ i ρ S):=by
 unfold fv at w;cases e:aM _ _ _ _ S with
 |ok k f=>
  rw[e]at w;intro j H1 b x s g;subst g;have d:=st.next h x s;cases k with
  |true=>exact⟨F,B,_,_,_,_,_,_,_,h,d,w⟩
  |false=>exact w _ _ _ _ d
 |err y f=>rw[e]at w;exact w.elim
 |fail=>rw[e]at w;exact w.elim
theorem tz{e:Sem Unit}{d:Nat}{fs:Lx}{i:List CE}{c:CE}(b:yO X fs (i.map (tT X.K X.mg E Φ Γ)))(a:PB X (br ce e gens d (.ref acc) X.env) (tB X.K X.mg O Φ Γ c acc)):
  PB X (ez fs X.env>>=λok=>if ok=MW then br ce e gens d (.ref acc) X.env else pure ()) (tC X.K X.mg O Φ Γ i c acc):=
 PB.weak (mZ b a) λl H Q z=>sv z λF B f g j k S D vs h s w=>Hs s.sok s.env (Ht h s w)
def oL(_:MZ)(_:List D)(vs:List V)(o:HO):Prop:=o=.lst vs
theorem tD{d:Nat}{c:CE}(k:gens[d+1]?=none)(j:PE X elt (tE X.K X.mg E Φ Γ c)):PB X (br ce (tr elt (.ref acc) X.env) gens d (.ref acc) X.env) (tB X.K X.mg oL Φ Γ (.emit c) acc):=
 PB.weak (m6 k j) λq H Q z=>sv z λF B l n o p S D vs g b w=>by
  refine⟨_,_,_,S,b.sok,b.env,?_⟩;simp[bq]at w;cases e:aj _ _ c _ S with
  |ok y i=>
   rw[e]at w;intro m H1 v x s r;have a:=b.next g x s;have W:dw _ _ F _ _ B _ _ _ Q (if D.length<bB then .ok _ _ else .fail):=w;by_cases h:D.length<bB
   ·rw[if_pos h]at W;obtain⟨_,f,rfl⟩:=a.at_;exact⟨_,f,by rw[<-a.rep.length];exact h,W _ _ _ _ (a.put g f rfl r rfl)⟩
   ·rw[if_neg h]at W;exact W.elim
  |err y i=>rw[e]at w;exact w.elim
  |fail=>rw[e]at w;exact w.elim
end
noncomputable def j2:iA->Nat
 | .items xs=>xs.length+1
 | .live f _=>f
theorem zP(step:D->List D->ae->Res (List D))(xs:List D):∀(n i:Nat) (acc:List D) (S:ae),i+n=xs.length->bo step (λ_ i=>some xs[i]?) (n+1) i acc S=aG step (xs.drop i) acc S
 |0,i,acc,S,h=>by rw[Pz (by omega)];unfold bo;have:xs[i]?=none:=Oz.mpr (by omega);rw[this];rfl
 |n+1,i,acc,S,h=>by
  have H:i<xs.length:=by omega
  rw[OA H];unfold bo;rw[Zh H];show(step _ _ S).bind _=(step _ _ S).bind _;congr 1;funext a b;exact zP _ _ n _ _ _ (by omega)
theorem zQ(step:D->List D->ae->Res (List D))(its:iA)(a:List D)(S:ae):bK step its a S=bo step (ba its) (j2 its) 0 a S:=by
 cases its with
 |items x=>exact(zP _ _ _ 0 _ S (by omega)).symm
 |live f get=>rfl
noncomputable def cK(Φ:FT)(Γ:Str->Option D)(tg:CT)(i:List CE)(body:CE)(ρ:bI):D->List D->ae->Res (List D):=λx acc S2=>match bd tg x ρ with
 |some ρ'=>fv Φ Γ i body ρ' acc S2
 |none=>.fail
theorem gc.back{B':La->Hp->Prop}{vs:List V}(c:gc K mg F acc (O acc) B μ0 H0 μ S H ρ σ ds vs)(b:B' μ H)(e:aX K ⟨mg,acc::F⟩ μ H ρ' σ'):gc K mg F acc (O acc) B' μ0 H0 μ S H ρ' σ' ds vs:=
 ⟨c.n0,c.ext,c.sok,c.nin,e,c.at_,c.rep,b⟩
theorem Hu{tg:CT}{i:List CE}{body:CE}{x:D}(h:bd tg x ρ=some ρ'):cK Φ Γ tg i body ρ x ds S=fv Φ Γ i body ρ' ds S:=by unfold cK;rw[h]
theorem Hv{tg:CT}{i:List CE}{body:CE}{x:D}(h:bd tg x ρ=none):cK Φ Γ tg i body ρ x ds S=.fail:=by unfold cK;rw[h]
theorem zR{d:La}{a:La}{f:Hp}{J:It}{get:ae->Nat->Option (Option D)}{tg:CT}{I:List CE}{body:CE}{Q:L2.St->Hp->Prop}(u:iJ K (acc::F) B)(ok:fJ K ⟨mg,d⟩ J get a f)
        {vs:List V} (ch:cA K d a f (acc::F) μ H) (st:gc K mg F acc (O acc) B μ0 H0 μ S H ρ σ ds vs) (w:dw K mg F acc (O acc) B μ0 H0 ρ Q (bo (cK Φ Γ tg I body ρ) get n 0 ds S)):
  ∃W:Nat->Nat->L2.St->Hp->Prop,(∃m,W 0 m σ H)/\∀i m σ H,W i m σ H->
   (J.stop i H/\Q σ H)\/(J.go i H/\∃Nx:L2.St->Hp->Prop,(∀σ' H',Nx σ' H'->∃M,M<m/\W (i+1) M σ' H')/\∀x H',J.yld i H x H'->qJ K tg x σ H' λj H2=>tC K mg O Φ Γ I body acc j H2 Nx):=by
 refine⟨λi m σ H=>∃μ S ds vs,cA K d a f (acc::F) μ H/\gc K mg F acc (O acc) B μ0 H0 μ S H ρ σ ds vs/\dw K mg F acc (O acc) B μ0 H0 ρ Q (bo (cK Φ Γ tg I body ρ) get m i ds S),⟨n,μ,S,ds,vs,ch,st,w⟩,?_⟩;rintro i m σ H ⟨μ,S,ds,vs,ch,st,w⟩;cases m with
 |zero=>exact w.elim
 |succ m=>
  unfold bo at w;obtain⟨N,P⟩:=ok i μ S H (acc::F) ch st.sok;cases e:get S i with
  |none=>rw[e]at w;exact w.elim
  |some o=>
   cases o with
   |none=>rw[e]at w;exact .inl ⟨P e,w μ H σ vs st⟩
   |some x=>
    rw[e]at w;obtain⟨G,Y⟩:=N x e;refine .inr ⟨G,λσ' H'=>∃μ S ds vs,cA K d a f (acc::F) μ H'/\gc K mg F acc (O acc) B μ0 H0 μ S H' ρ σ' ds vs/\dw K mg F acc (O acc) B μ0 H0 ρ Q (bo (cK Φ Γ tg I body ρ) get m (i+1) ds S),λσ' H' q=>⟨m,NS m,q⟩,λy H' L=>?_⟩;obtain⟨X,T,R⟩:=Y y H' L;have g:=st.next u X T;have C:cA K d a f (acc::F) μ H':=ch.trans (.of_ext X λ_ z=>.inl z);have b:dw K mg F acc (O acc) B μ0 H0 ρ Q ((cK Φ Γ tg I body ρ x ds S).bind λA k=>bo (cK Φ Γ tg I body ρ) get m (i+1) A k):=w;cases E:bd tg x ρ with
    |none=>rw[Hv E]at b;exact b.elim
    |some h=>
     rw[Hu E]at b;refine tx (Hr E) R g.env λj p=>?_;refine⟨F,λμ H=>B μ H/\cA K d a f (acc::F) μ H,μ0,H0,μ,h,S,ds,vs,λU Ha Z Hb q c=>⟨u _ _ _ _ q.1 c,q.2.trans c⟩,g.back (B':=λμ H=>B μ H/\cA K d a f (acc::F) μ H) ⟨g.b,C⟩ p,?_⟩;cases r:fv Φ Γ I body h ds S with
     |ok l k=>rw[r]at b;intro t H2 σ' v s;exact⟨t,k,l,v,s.b.2,s.back s.b.1 (Hq E s.env),b⟩
     |err z k=>rw[r]at b;exact b.elim
     |fail=>rw[r]at b;exact b.elim
section
variable {E:XK}
theorem m_{a:Sem Unit}{d:Nat}{t i:Expr}{fs:Lx}{tg:CT}{it:CE}{I:List CE}{body:CE}(f:iz ce=MW)(h:clausesOf ce=gens)(b:∀it:MZ,compTurn ce (d+1) (.ref it) (.ref acc) X.env=(standAt i.pos>>=λ_=>pyNext (.ref it)>>=λr=>match r with
   |none=>pure (.done .next)
   |some v=>letOwnedTupleGo t (.ref it) v>>=λ_=>assign t X.env v>>=λ_=>(ez fs X.env>>=λok=>if ok=MW then br ce a gens (d+1) (.ref acc) X.env else pure ())>>=λ_=>again (.compLoop ce (d+1) (.ref it) (.ref acc) X.env))) (p:X.xe=λ_ _=>False) (m:X.calm=MW) (n:gens[d+1]?=some ⟨t,i,fs,0⟩)
  (o:PI X t i (tI X.K X.mg E Φ Γ it)) (hs:∀x,foldedSetIterable i X.env x=pure x) (c:PG X t (qJ X.K tg))
  (l:PB X (ez fs X.env>>=λok=>if ok=MW then br ce a gens (d+1) (.ref acc) X.env else pure ()) (tC X.K X.mg O Φ Γ I body acc)):PB X (br ce a gens d (.ref acc) X.env) (tB X.K X.mg O Φ Γ (.inner tg it I body) acc):=
 PB.weak (Hn f h b p m n o hs c l) λL H Q z=>sv z λF B u C G K S D vs j g w=>by
  refine⟨_,_,_,S,g.sok,g.env,?_⟩;simp[bq]at w;cases e:aW _ _ _ _ S with
  |ok q k=>rw[e]at w;intro A H1 J x s ok;have W:dw _ _ F _ _ B _ _ _ Q (bK _ _ _ _):=w;rw[zQ]at W;exact zR j ok .refl (g.next j x s) W
  |err y k=>rw[e]at w;exact w.elim
  |fail=>rw[e]at w;exact w.elim
noncomputable def gf(fr:List (Option Nat)):L2.St->L2.St:=λσ=>fr.map λj=>j.bind λj=>(σ[j]?).join
theorem tF{m:GS}(c:aX K m μ H ρ σ):aX K m μ H (fr.map λj=>j.bind λj=>(ρ[j]?).join) (gf fr σ):=by
 refine⟨by simp[gf],λi d e=>?_⟩;rw[N6]at e;cases b:fr[i]? with
 |none=>simp_all
 |some o=>
  rw[b]at e;have e:=OK e;cases o with
  |none=>cases e
  |some j=>
   have E:ρ[j]?.join=some d:=e;cases a:ρ[j]? with
   |none=>simp_all
   |some o=>rw[a]at E;subst(E);obtain⟨v,f,k⟩:=c.2 j d a;exact⟨v,by unfold gf;simp_all,k⟩
theorem j3{tg0:Expr}{box:Bool}{tg:CT}{it:CE}{I:List CE}{body:CE}{Q:VK}(h:tE X.K X.mg E Φ Γ (.comp box N' fr tg it I body) σ H Q):
  jN (λ_=>.lst []) (gf fr) (tI X.K X.mg E Φ Γ it) (qJ X.K tg) (tC X.K X.mg oL Φ Γ I body) σ H Q:=by
 obtain⟨F,k,m,S,C,t,w⟩:=h;refine⟨F,k,m,S,C,t,?_⟩;simp only[aj]at w;refine ak.mono (Rel:=λf l i J=>fJ X.K ⟨X.mg,F⟩ J (ba i) f l) (ak.bind w) λJ H1 h A a=>?_;obtain⟨d,o,i,K,p,ok,G⟩:=h
 have D:gc X.K X.mg F A (oL A) (λk H=>cA X.K F d H1 (A::F) k H) d H1 d o (aZ H1 A (.lst [])) (fr.map λj=>j.bind λj=>(m[j]?).join) (gf fr σ) [] []:={
  n0:=a
  ext:=.laid a
  sok:=p.start a
  nin:=p.notin a
  env:=(tF (t.mono K)).chg (.start a)
  at_:=⟨_,bO,rfl⟩
  rep:=.nil
  b:=.start a}
 refine zR (Q:=λ_ H=>Q (.ref A) H) (B:=λk H=>cA X.K F d H1 (A::F) k H) (n:=j2 i) (λL P M R q c=>q.trans c) ok (.start a) D ?_;have W:ak X.K ⟨X.mg,F⟩ E (Rep X.K ⟨X.mg,F⟩) d H1 Q ((bK (cK Φ Γ tg I body (fr.map λj=>j.bind λj=>(m[j]?).join)) i [] o).noErr.bind λY g=>if box=MW then .ok (.ref g.length) (g++[Y])else .ok (.lst Y) g):=G;rw[zQ]at W;cases e:bo (cK Φ Γ tg I body (fr.map λj=>j.bind λj=>(m[j]?).join)) (ba i) (j2 i) 0 [] o with
 |ok Y g=>
  rw[e]at W;intro f l O v s;have x:A∉F:=p.notF a;obtain⟨_,r,rfl⟩:=s.at_;cases box with
  |false=>refine W f l (.ref A) s.ext s.sok.out ?_;unfold Rep;exact⟨A,v,rfl,r,⟨s.nin,x⟩,ah.chg .out _ _ s.rep⟩
  |true=>refine W (f++[A]) l (.ref A) (s.ext.outBox a) (s.sok.outBox s.nin r s.rep) ?_;unfold Rep;refine⟨A,rfl,?_⟩;have z:=s.sok.len;rw[Zz (by omega)];simp[z]
 |err y g=>rw[e]at W;exact W.elim
 |fail=>rw[e]at W;exact W.elim
end
noncomputable def bF(l:Bool):Obj:={cls:=.type "set",dict:=none,data:=.set #[] 0 (.fresh 0 0 l)}
theorem Hw{t:MZ}{vs:Av}(hh:A.handled=none)(ht:s.heap.IsTuple t vs)(hi:P0 vs.toList ns)(z:vs.size+1<scanBound)
  (h:∀(h':M8) (tk:Nat),h'.SetOf (intKind prog w) s.heap.objs.size (λM=>(firstMet (λi=>ns.getD i 0) vs.size).any (· ==M)) (firstMet (λi=>ns.getD i 0) vs.size).length->
   (∀b o,b<s.heap.objs.size->s.heap.get? b=some o->h'.get? b=some o)->Q (.ref s.heap.objs.size) {s with heap:=h',toks:=tk}):wpAny (model prog w) A (call (.type "set") [.ref t]) Q E s:=by
 obtain⟨c,tl,X⟩:=F.called_set.mro;have J:=F.called_set.made;have Y:=F.called_set.sub;refine Qy (P7 ?_);show wpAny _ _ (callAny (.type "set") _) _ _ _;refine Zd ⟨Qe _ (by decide+kernel),NB F.entry_type_call ?_⟩;rw[Rw (Sd "set" [.ref t] []) rfl];have g1:=F.called_set.notType;have g2:=F.called_set.canCreate;have g3:=F.typeCall_set_1 (.ref t)
 repeat(any_goals (first|assumption|wp_step))
 refine Oi (code_set_new_1 (.ref t) (E:=E) (Q₁:=λobj S=>∃l:Bool,obj=.ref s.heap.objs.size/\S={s with heap:=s.heap.push (bF l)}) λl=>⟨l,rfl,rfl⟩) λr S K=>?_;cases r with
 |error e=>exact K
 |ok fl=>
  cases fl with
  |ret obj=>
   obtain⟨l,rfl,rfl⟩:=K;have W:(s.heap.push (bF l)).get? s.heap.objs.size=some (bF l):=Zi _ rfl;have hT:P2 {s with heap:=s.heap.push (bF l)} (.ref s.heap.objs.size) "set":=⟨_,W,rfl⟩;have hli:=F.called_set.init.lookup;have hbi:=F.called_set.init.bind (.ref s.heap.objs.size)
   repeat(any_goals (first|assumption|wp_step))
   refine Oi (O7 (R:=wants (λr d=>r=.none/\∃h' tk,d={s with heap:=h',toks:=tk}/\h'.SetOf (intKind prog w) s.heap.objs.size (λM=>(firstMet (λi=>ns.getD i 0) vs.size).any (· ==M)) (firstMet (λi=>ns.getD i 0) vs.size).length/\
     (∀b o,b<s.heap.objs.size->s.heap.get? b=some o->h'.get? b=some o)) E) F.called_set.init.plain F.entry_set_init (check_set_init_1 hT ?_)) λy d H=>?_
   ·obtain⟨⟨Z,j,N,O⟩,u,k,nl,m⟩:=ht;simp only at k m;subst k;subst m;have x:(s.heap.push (bF l)).get? t=some {cls:=.type "tuple",dict:=j,data:=.seq vs nl,slots:=O}:=Zc _ u;have q1:=F.sub_tuple_set;have q2:=RO;have q3:(Nq "tuple"==Nq "dict")=MX:=by decide
    have n:(s.heap.push (bF l)).IsTuple t vs:=⟨_,x,rfl,nl,rfl⟩;unfold N5.«set.__init__» noKeywords OF;generalize C:pyIter=PI
    wp_walk
    subst C;refine NG n (Za (Qi ?_));have p:t<s.heap.objs.size:=Zj u;have G:A.in1.in1.in1.handled=none:=by simp[hh]
    have L:(s.heap.push (bF l)).objs.size=s.heap.objs.size+1:=NU ..;have q:t≠(s.heap.push (bF l)).objs.size:=by rw[L];exact Zq (Qs p)
    have D:s.heap.objs.size∉[(s.heap.push (bF l)).objs.size,t]:=by rw[L];simp only[Zf,Zp,Z0,not_or];exact⟨Zq (NS _),Ox p⟩
    refine codeAny_set_update_loopS ((Walks.tuple G _ t q vs).toS) s.heap.objs.size D (λi=>ns.getD i 0) (λi v hv=>hi.int_at i v (by rw[Og];exact hv)) z (vs.size-0) 0 _ (by omega) (Z1 _) ⟨⟨_,Zi _ rfl,rfl,rfl⟩,(n.push _)⟩ ?hS0 ?hR
    case hS0=>exact SetOf_congr ((setObjOf_fresh (knd:=intKind prog w) l).setOf (Zc _ W) (by unfold scanBound;omega)) (λ_=>rfl) rfl
    case hR=>intro s' B g;obtain⟨h',g',d',U,P⟩:=s';have eg:g'=s.gens:=B.gens;have ed:d'=s.drawn:=B.drawn;have eo:P=s.os:=B.os;subst eg ed eo;show wpAny _ _ _ _ _ _;refine Zd ?_;show wpAny _ _ (ret M7) _ _ _;refine Zd ⟨rfl,h',U,rfl,g,λb o z e=>B.heap b o ?_ (Zc _ (Zc _ e))⟩;simp only[Zf,Zp,Z0,not_or];rw[L];exact⟨Zq z,Zq (Qs z)⟩
   ·cases y with
    |error e=>exact H
    |ok f=>
     cases f with
     |ret r=>
      obtain⟨rfl,h',tk,rfl,g,I⟩:=H
      repeat(any_goals (first|assumption|wp_step))
      exact h _ _ g I
     |_=>exact H.elim
  |_=>exact K.elim
def h_(xs:Array Nat):Prop:=∀i j (hi:i<xs.size) (h:j<xs.size),i<j->xs[i]<xs[j]
theorem Hy{xs:Array Nat}(h:h_ xs)(j:Nat):∀(f lo hi:Nat),hi-lo<=f->lo<=hi->hi<=xs.size->(∀i (g:i<xs.size),i<lo->xs[i]<j)->(∀i (g:i<xs.size),hi<=i->j<=xs[i])->
  lo<=Ou xs j f lo hi/\Ou xs j f lo hi<=hi/\(∀i (g:i<xs.size),i<Ou xs j f lo hi->xs[i]<j)/\(∀i (g:i<xs.size),Ou xs j f lo hi<=i->j<=xs[i]):=by
 intro f
 induction f with
 |zero=>
  intro lo hi p r o k l;have:lo=hi:=by omega
  subst this;exact⟨Zg _,Zg _,k,l⟩
 |succ f I=>
  intro lo hi p r o k l;unfold Ou;split
  ·rename_i t;have m:(lo+hi)/2<xs.size:=by omega
   have q:xs.getD ((lo+hi)/2) j=xs[(lo+hi)/2]:=by simp[QJ,m]
   dsimp only;rw[q];split
   ·rename_i g
    obtain⟨a,b,c,d⟩:=I ((lo+hi)/2+1) hi (by omega) (by omega) o (λi H n=>by
     by_cases e:i=(lo+hi)/2
     ·subst e;exact g
     ·exact Qq (h i _ H m (by omega)) g) l
    exact⟨by omega,b,c,d⟩
   ·rename_i g
    obtain⟨a,b,c,d⟩:=I lo ((lo+hi)/2) (by omega) (by omega) (by omega) k (λi H s=>by
     by_cases e:i=(lo+hi)/2
     ·subst e;omega
     ·exact Zy (by omega) (OJ (h _ i m H (by omega))))
    exact⟨a,by omega,c,d⟩
  grind
theorem ng{xs:Array Nat}(h:h_ xs)(j:Nat):M6 xs j<=xs.size/\(∀i (H:i<xs.size),i<M6 xs j->xs[i]<j)/\(∀i (H:i<xs.size),M6 xs j<=i->j<=xs[i]):=by
 obtain⟨_,b,c,d⟩:=Hy h j xs.size 0 _ (by simp) (by simp) (Zg _) λi _ h=>by simp_all λi H h=>by lia
 exact⟨b,c,d⟩
theorem Hz{xs:Array Nat}(h:h_ xs){i:Nat}(d:i<xs.size):M6 xs (xs[i]+1)=i+1:=by
 obtain⟨a,b,c⟩:=ng h (xs[i]+1);have f:i<M6 xs (xs[i]+1):=by grind
 by_cases e:i+1<M6 xs (xs[i]+1)
 ·have H:i+1<xs.size:=by lia
  have:=b _ H e;have:=h i _ d H (by simp);lia
 ·lia
theorem HA(xs:Array Nat)(h:h_ xs):M6 xs 0=0:=by
 obtain⟨a,b,c⟩:=ng h 0;by_cases e:0<M6 xs 0
 ·have:=b 0 (by lia) e;simp_all
 simp_all
theorem HB{xs:Array Nat}(h:h_ xs){j:Nat}(p:∀i (f:i<xs.size),xs[i]≠j):h_ (M9 xs (M6 xs j) j):=by
 obtain⟨a,b,c⟩:=ng h j;have n:(M9 xs (M6 xs j) j).toList=xs.toList.take (M6 xs j)++j::xs.toList.drop (M6 xs j):=by unfold M9;simp;exact Q9 (by simp)
 have o:(xs.toList.take (M6 xs j)++j::xs.toList.drop (M6 xs j)).Pairwise (· < ·):=by
  have f:xs.toList.Pairwise _:=Nw.mpr λi k e l H=>by simpa using h i k _ _ H
  rw[PX];refine⟨f.sublist (Qm _ _),Zv.mpr ⟨λy d=>?_,f.sublist (R3 _ _)⟩,λx g y d=>?_⟩
  ·obtain⟨i,e,rfl⟩:=ZH.mp d
   grind
  ·obtain⟨i,e,rfl⟩:=ZH.mp g;rw[OR]at e;rw[List.getElem_take];rcases Zf.mp d with rfl|d
   ·exact b i (by lia) (by omega)
   ·obtain⟨k,l,rfl⟩:=ZH.mp d
    grind
 intro i k e l H;have m:(M9 xs (M6 xs j) j).size=(M9 xs (M6 xs j) j).toList.length:=by simp
 have:=Nw.mp (n▸o) i k (by simp_all) (by simp_all) H;simpa using this
theorem zS{l:List Nat}(h:l.Pairwise (· < ·)):h_ l.toArray:=λi j a b H=>by have:=Nw.mp h i j (by omega) (by omega) H;trivial
theorem tG{c d:Type}(f:c->Option d):∀l:List c,((l.filterMap λj=>(f j).map (j, ·)).map (·.1)).Sublist l
 | []=>.slnil
 |a::l=>by
  cases e:f a with
  |none=>rw[List.filterMap_cons_none (by simp_all)];exact(tG f l).cons a
  |some b=>rw[QX (b:=(a,b)) (by simp_all)];exact(tG f l).cons₂ a
open SetTable (Probe runEnd leap bits turns)
noncomputable def nh(mask:Nat)(p:Probe):Probe:=
 if p.more>0 then{p with j:=p.j+1,more:=p.more-1}else
 {p with j:=(leap mask p.i p.perturb).1,more:=runEnd mask (leap mask p.i p.perturb).1-(leap mask p.i p.perturb).1,i:=(leap mask p.i p.perturb).1,perturb:=(leap mask p.i p.perturb).2}
theorem tH(t:Nb)(p:Probe):t.advance p=nh t.mask p:=rfl
noncomputable def pos(mask:Nat):Probe->Nat->Probe
 |p,0=>p
 |p,n+1=>pos mask (nh mask p) n
noncomputable def jk(mask i p:Nat):Probe:=⟨i,runEnd mask i-i,i,p,none⟩
noncomputable def eV(mask:Nat)(h:Int):Probe:=jk mask (bits h%(mask+1)) (bits h)
theorem iK{mask:Nat}:∀(m n:Nat) (p:Probe),pos mask p (m+n)=pos mask (pos mask p m) n
 |0,n,p=>by rw[Rj];rfl
 |m+1,n,p=>by rw[Nat.succ_add];exact iK m n _
theorem HC(p:Probe)(n:Nat):pos mask p (n+1)=nh mask (pos mask p n):=iK n 1 p
theorem ni{mask i p:Nat}{d:Option Nat}:∀(k r j:Nat),k<=r->pos mask ⟨j,r,i,p,d⟩ k=⟨j+k,r-k,i,p,d⟩
 |0,r,j,_=>rfl
 |k+1,r,j,h=>by
  show pos _ _ k=_;have:nh mask ⟨j,r,i,p,d⟩=⟨j+1,r-1,i,p,d⟩:=by dsimp[nh];lia
  rw[this,ni k _ _ (by lia)];lia
theorem run_next{i p r j:Nat}{d:Option Nat}:pos mask ⟨j,r,i,p,d⟩ (r+1)=⟨(leap mask i p).1,runEnd mask (leap mask i p).1-(leap mask i p).1,(leap mask i p).1,(leap mask i p).2,d⟩:=by rw[HC,ni r r j (Zg _)];unfold nh;lia
noncomputable def cz(mask:Nat):Nat->Nat×Nat->Nat×Nat
 |0,x=>x
 |r+1,x=>cz mask r (leap mask x.1 x.2)
theorem nj{i:Nat}:runEnd mask i-i<=9:=by simp[runEnd];grind
theorem j4{mask:Nat}:∀(r:Nat) (x:Nat×Nat),∃n,n<=10*r/\pos mask (jk mask x.1 x.2) n=jk mask (cz mask r x).1 (cz mask r x).2
 |0,x=>⟨0,by simp,rfl⟩
 |r+1,x=>by obtain⟨n,h,e⟩:=j4 r _;have:=nj (mask:=mask) (i:=x.1);refine⟨runEnd mask x.1-x.1+1+n,by lia,?_⟩;rw[iK];show pos _ (pos _ ⟨_,_,_,_,_⟩ _) n=_;rw[run_next];exact e
theorem zT{mask:Nat}:∀(a b:Nat) (x:Nat×Nat),cz mask (a+b) x=cz mask b (cz mask a x)
 |0,b,x=>by rw[Rj];rfl
 |a+1,b,x=>by rw[Nat.succ_add];exact zT a b _
theorem zU{mask:Nat}:∀(r:Nat) (x:Nat×Nat),x.1<=mask->(cz mask r x).1<=mask
 |0,x,h=>h
 |r+1,x,h=>zU r _ (by show(x.1*5+1+x.2/32)%(mask+1)<=mask;have:=Qj (x.1*5+1+x.2/32) (show 0<mask+1 by simp);lia)
theorem zV{mask:Nat}:∀(r:Nat) (x:Nat×Nat),(cz mask r x).2=x.2/32^r
 |0,x=>by simp[cz]
 |r+1,x=>by show(cz _ r _).2=_;rw[zV r];show x.2/32/32^r=_;rw[Nat.div_div_eq_div_mul,Nat.pow_succ,Nat.mul_comm]
noncomputable def EW(m:Nat):Nat->Nat->Nat
 |0,i=>i
 |r+1,i=>EW m r ((i*5+1)%m)
noncomputable def zW(m:Nat):Nat->Nat->Nat
 |0,i=>1<<<i
 |r+1,i=>(1<<<i)|||zW m r ((i*5+1)%m)
theorem zX{i e:Nat}(h:(1<<<i).testBit e=MW):i=e:=by rw[Nat.one_shiftLeft,Nat.testBit_two_pow]at h;simp_all
theorem zY{m e:Nat}:∀(r i:Nat),(zW m r i).testBit e=MW->∃k,k<=r/\EW m k i=e
 |0,i,h=>⟨0,Zg _,zX h⟩
 |r+1,i,h=>by
  dsimp only[zW]at h;rw[Nat.testBit_or,QC]at h;rcases h with h|h
  ·exact⟨0,Z1 _,zX h⟩
  ·obtain⟨k,H,e⟩:=zY r _ h;exact⟨k+1,by simp_all,e⟩
theorem nk:∀mask∈[7,31,127],∀i∈M4 (mask+1),zW (mask+1) mask i=2^(mask+1)-1:=by decide+kernel
theorem zZ{mask:Nat}:∀(r i:Nat),(cz mask r (i,0)).1=EW (mask+1) r i
 |0,i=>rfl
 |r+1,i=>by show(cz _ r (leap _ i 0)).1=EW _ r _;rw[<-zZ r];rfl
def eA(mask:Nat):Prop:=mask∈[7,31,127]
theorem qN(c:eA mask){i p e:Nat}(b:i<=mask)(d:p<2^64)(g:e<=mask):∃r,r<=mask+13/\(cz mask r (i,p)).1=e:=by
 have h:(cz mask 13 (i,p)).2=0:=by rw[zV];exact Nat.div_eq_of_lt (Zs d (by simp))
 have H:=zU 13 (i,p) b;have f:=nk mask c _ (ZS.mpr (Nat.lt_succ_of_le H));have a:(zW (mask+1) mask (cz mask 13 (i,p)).1).testBit e=MW:=by grind
 obtain⟨k,j,E⟩:=zY _ _ a;refine⟨13+k,by lia,?_⟩;rw[zT,show cz mask 13 (i,p)=((cz mask 13 (i,p)).1,0)from Prod.ext rfl h,zZ];exact E
theorem z0(h:Int):bits h<2^64:=by simp[bits];lia
theorem HD(b:eA mask){e:Nat}(H:e<=mask)(h:Int):∃n,n<10*turns mask/\(pos mask (eV mask h) n).j=e:=by obtain⟨r,d,E⟩:=qN b (i:=bits h%(mask+1)) (by have:=Qj (bits h) (show 0<mask+1 by simp);lia) (z0 h) H;obtain⟨n,c,a⟩:=j4 r (bits h%(mask+1),bits h);exact⟨n,by unfold turns;lia,by rw[show eV _ h=jk _ _ _ from rfl,a];exact E⟩
theorem tJ{mask:Nat}:∀(n:Nat) {p:Probe},(pos mask p n).dummy=p.dummy
 |0,p=>rfl
 |n+1,p=>by show(pos _ _ n).dummy=_;rw[tJ n];unfold nh;split<;>rfl
theorem tK:∀(m:Nat) (l:List Nat),l.length<m->∃e,e<m/\e∉l
 |0,l,h=>by simp_all
 |m+1,l,h=>by
  by_cases H:m∈l
  ·have a:(l.filter (· !=m)).length<l.length:=List.length_filter_lt_length_iff_exists.mpr ⟨m,H,by simp⟩;obtain⟨e,b,c⟩:=tK m (l.filter (· !=m)) (by lia)
   grind
  ·exact⟨m,NS m,H⟩
def Fd(mask:Nat)(P:Nat->Prop)(h:Int)(j:Nat):Prop:=∃n,(pos mask (eV mask h) n).j=j/\∀m,m<n->P (pos mask (eV mask h) m).j
theorem Fd.mono{P a:Nat->Prop}{h:Int}{j:Nat}(x:Fd mask P h j)(hs:∀y,P y->a y):Fd mask a h j:=by obtain⟨n,e,f⟩:=x;exact⟨n,e,λm H=>hs _ (f m H)⟩
theorem HE(H:eA mask){pl:List Nat}(c:pl.length<=mask)(h:Int):∃n,n<10*turns mask/\(pos mask (eV mask h) n).j∉pl/\∀m,m<n->(pos mask (eV mask h) m).j∈pl:=by
 obtain⟨e,b,d⟩:=tK (mask+1) pl (by lia);obtain⟨n,a,E⟩:=HD H (e:=e) (by lia) h
 have K:∀n,(pos mask (eV mask h) n).j∉pl->∃k,k<=n/\(pos mask (eV mask h) k).j∉pl/\∀m,m<k->(pos mask (eV mask h) m).j∈pl:=by
  intro n
  induction n using Nat.strongRecOn with
  |ind n i=>
   grind
 grind
structure Tk (t:Nb)(hs:Li):Prop where
 dum:t.dummies= #[]
 ris:h_ t.place
 siz:t.place.size=hs.length
 msk:eA t.mask
 ful:t.tooFull=MX
 fnd:∀x∈hs.zip t.place.toList,Fd t.mask (· ∈t.place.toList) x.1 x.2
theorem HF{xs:Array Nat}(h:h_ xs){i:Nat}(H:i<xs.size):M6 xs xs[i]=i:=by
 obtain⟨a,b,c⟩:=ng h xs[i];have d:M6 xs xs[i]<=i:=by grind
 by_cases z:M6 xs xs[i]<i
 ·have:=h _ i (by omega) H z;have:=c _ (by omega) (Zg _);omega
 ·lia
theorem z7{t:Nb}(h:h_ t.place){i:Nat}(H:i<t.place.size):t.slot t.place[i]=.live i:=by unfold R4;dsimp only;rw[HF h H,if_pos];rw[Nu H];exact beq_self_eq_true _
theorem z8{t:Nb}(h:h_ t.place){j:Nat}(H:j∈t.place.toList):∃i,∃hi:i<t.place.size,t.place[i]=j/\t.slot j=.live i:=by
 obtain⟨i,hi,e⟩:=ZH.mp H;have E:=by simpa using e
 exact⟨i,_,E,by rw[<-E];exact z7 h _⟩
theorem z9{t:Nb}(h:t.dummies= #[]){j:Nat}(H:j∉t.place.toList):t.slot j=.empty:=by
 dsimp[R4];rw[if_neg,h]
 ·rfl
 grind
theorem Tk.fits{t:Nb}(x:Tk t hs):t.place.size<=t.mask/\t.fits hs.length=MW:=by
 have h:=x.ful;unfold Ph O_ at h;have H:t.place.size<=t.mask:=by lia
 refine⟨H,?_⟩;unfold QD O_;rw[x.siz,beq_self_eq_true];exact ZK (by rw[<-x.siz];grind)
theorem z_{t:Nb}{hashAt:Nat->Int}{h:Int}:∀(n f:Nat) (p:Probe),n<f->p.dummy=none->(∀m,m<n->∃i,t.slot (pos t.mask p m).j=.live i/\hashAt i≠h)->
  (t.slot (pos t.mask p n).j=.empty->NQ t hashAt h f p=some (.empty (pos t.mask p n).j none))/\
  (∀i,t.slot (pos t.mask p n).j=.live i->hashAt i=h->NQ t hashAt h f p=some (.candidate (pos t.mask p n).j i (pos t.mask p (n+1))))
 |0,f+1,p,_,b,_=>by
  constructor
  ·intro e;have e:t.slot p.j=.empty:=e;dsimp only[NQ];rw[e,b];rfl
  ·intro i e H;have e:t.slot p.j=.live i:=e;dsimp only[NQ];rw[e];dsimp;rw[if_pos (by simp_all)];rfl
 |n+1,f+1,p,g,b,c=>by
  obtain⟨i,H,a⟩:=c 0 (Nat.succ_pos n);have H:t.slot p.j=.live i:=H
  have step:NQ t hashAt h (f+1) p=NQ t hashAt h f (nh t.mask p):=by
   conv=>lhs;unfold NQ
   rw[H];dsimp;rw[if_neg λz=>a (Nj z),tH]
  rw[step];exact z_ n _ _ (by simp_all) (by rw[show(nh _ p).dummy=(pos _ p 1).dummy from rfl,tJ];exact b) λm d=>c (m+1) (by simp_all)
theorem nq{a:List α}{b:List β}(c:a.length=b.length)(p:Nat)(x:α)(y:β){z:α×β}(H:z∈(a.take p++x::a.drop p).zip (b.take p++y::b.drop p)):z=(x,y)\/z∈a.zip b:=by
 rw[List.zip_append (by simp_all),Z2,ZE,Zf]at H;rcases H with h|h|h
 ·rw[RD,<-List.take_zipWith]at h;exact .inr (List.mem_of_mem_take h)
 ·exact .inl h
 ·rw[RD,<-List.drop_zipWith]at h;exact .inr (List.mem_of_mem_drop h)
theorem Tk.put{t:Nb}(x:Tk t hs){h:Int}(d:(pos t.mask (eV t.mask h) n).j∉t.place.toList)(b:∀m,m<n->(pos t.mask (eV t.mask h) m).j∈t.place.toList):
  let r:=t.put (pos t.mask (eV t.mask h) n).j
  r.1.dummies= #[]/\h_ r.1.place/\r.1.place.size=hs.length+1/\r.1.mask=t.mask/\r.1.led=t.led/\r.1.plain=t.plain/\r.2=M6 t.place (pos t.mask (eV t.mask h) n).j/\
  ∀z∈(hs.take r.2++h::hs.drop r.2).zip r.1.place.toList,Fd t.mask (· ∈r.1.place.toList) z.1 z.2:=by
 intro r;have f:r.1.place.toList=t.place.toList.take r.2++(pos _ _ n).j::t.place.toList.drop r.2:=O' _ _ _
 have H:∀y,y∈t.place.toList->y∈r.1.place.toList:=λy g=>by
  rw[<-Rk r.2 t.place.toList]at g
  grind
 refine⟨?_,HB x.ris λi j e=>d (by grind),?_,rfl,rfl,rfl,rfl,λz a=>?_⟩
 ·show(if SetTable.has _ _ then _ else t.dummies)= #[];rw[x.dum];rfl
 ·show(M9 _ _ _).size=_;rw[<-ZF,(Pm _ _ _).length_eq,ZF,Se,x.siz]
 ·rw[f]at a;rcases nq (by rw[<-x.siz,ZF]) _ _ _ a with rfl|a
  ·exact⟨n,rfl,λm c=>H _ (b m c)⟩
  ·exact(x.fnd z a).mono H
abbrev dy:=Array (Option Nat)
def nr(o:dy)(j:Nat):Prop:=∃q,o[j]?=some (some q)
theorem HG{o:dy}{j:Nat}(H:j<o.size)(h:(o.getD j (some 0)).isNone=MX):nr o j:=by
 have:o.getD j (some 0)=o[j]:=by simp_all
 cases e:o[j]with
 |none=>simp_all
 |some q=>exact⟨q,by simp_all⟩
theorem HH{o:dy}{j:Nat}(h:(o.getD j (some 0)).isNone=MW):o[j]?=some none:=by
 by_cases H:j<o.size
 ·simp_all
 simp_all
theorem Aa{mask:Nat}{o:dy}(hs:o.size=mask+1):∀(f i p:Nat),i<=mask->
  (∃j n,NY mask o f i p=some j/\(pos mask (jk mask i p) n).j=j/\o[j]?=some none/\∀m,m<n->nr o (pos mask (jk mask i p) m).j)\/
  (NY mask o f i p=none/\∀r,r<f->nr o (cz mask r (i,p)).1)
 |0,i,p,v=>.inr ⟨rfl,λr h=>by omega⟩
 |f+1,i,p,v=>by
  have x:i+(runEnd mask i-i)=runEnd mask i/\runEnd mask i<=mask:=by unfold runEnd;split<;>omega
  have d:runEnd mask i+1-i=(runEnd mask i-i)+1:=by omega
  have O:∀k,k<=runEnd mask i-i->(o.getD (i+k) (some 0)).isNone=MX->nr o (pos mask (jk mask i p) k).j:=λk b h=>by unfold jk;rw[ni k _ i b];exact HG (j:=i+k) (by omega) h
  unfold NY;cases c:(M4 (runEnd mask i+1-i)).find? λk=>(o.getD (i+k) (some 0)).isNone with
  |some k=>
   obtain⟨s,t,u⟩:=List.find?_range_eq_some.mp c;have b:=ZS.mp t;refine .inl ⟨i+k,k,rfl,?_,HH s,λm g=>O m (by omega) ?_⟩
   ·unfold jk;rw[ni k _ i (by omega)]
   ·have:=u m g;simpa using this
  |none=>
   have H:=List.find?_eq_none.mp c;have o1:∀k,k<=runEnd mask i-i->nr o (pos mask (jk mask i p) k).j:=λk b=>O k b (by have:=H k (ZS.mpr (by omega));exact Qn.mpr this);dsimp only;have w:(leap mask i p).1<=mask:=by show(i*5+1+p/32)%(mask+1)<=mask;have:=Qj (i*5+1+p/32) (show 0<mask+1 by omega);omega
   have a:pos mask (jk mask i p) (runEnd mask i-i+1)=jk mask (leap mask i p).1 (leap mask i p).2:=run_next;rcases Aa hs f (leap mask i p).1 (leap mask i p).2 w with⟨j,n,e,E,l,q⟩| ⟨e,E⟩
   ·refine .inl ⟨j,(runEnd mask i-i+1)+n,e,by rw[iK,a];exact E,l,λm g=>?_⟩;by_cases z:m<=runEnd mask i-i
    ·exact o1 m z
    ·have:=q (m-(runEnd mask i-i+1)) (by omega);rw[<-a,<-iK]at this;rw[show runEnd mask i-i+1+(m-(runEnd mask i-i+1))=m by omega]at this;exact this
   ·refine .inr ⟨e,λr y=>?_⟩;cases r with
    |zero=>exact o1 0 (Z1 _)
    |succ r=>exact E r (by omega)
structure Ow (mask:Nat)(hs:Li)(k:Nat)(ow:dy):Prop where
 sz:ow.size=mask+1
 ok:∀j q:Nat,ow[j]?=some (some q)->q<k/\∃h,hs[q]?=some h/\Fd mask (nr ow) h j
 all:∀q:Nat,q<k->∃j:Nat,ow[j]?=some (some q)
 inj:∀j j' q:Nat,ow[j]?=some (some q)->ow[j']?=some (some q)->j=j'
theorem Ow.hole{o:dy}(x:Ow mask hs k o)(i:k<=mask):∃e,e<=mask/\o[e]?=some none:=by
 have a:∀q:Nat,∃j:Nat,q<k->o[j]?=some (some q):=λq=>by
  by_cases z:q<k
  ·obtain⟨j,e⟩:=x.all q z;exact⟨j,λ_=>e⟩
  ·exact⟨0,λh=>absurd h z⟩
 obtain⟨e,d,f⟩:=Py.tK (mask+1) ((M4 k).map λq=>Classical.choose (a q)) (by simp;lia);refine⟨e,by omega,?_⟩;have H:e<o.size:=by rw[x.sz];exact d
 rw[Nu H];cases g:o[e]with
 |none=>rfl
 |some q=>
  exfalso;have E:o[e]?=some (some q):=by simp_all
  have b:=(x.ok e q E).1;have c:=Classical.choose_spec (a q) b;exact f (Zo.mpr ⟨q,ZS.mpr b,(x.inj _ _ q E c).symm⟩)
theorem Ow.add(c:eA mask){o:dy}(x:Ow mask hs k o)(A:k<=mask){h:Int}(y:hs[k]?=some h):∃j,NY mask o (turns mask) (bits h%(mask+1)) (bits h)=some j/\Ow mask hs (k+1) (o.setIfInBounds j (some k)):=by
 have l:bits h%(mask+1)<=mask:=by have:=Qj (bits h) (show 0<mask+1 by omega);omega
 rcases Aa x.sz (turns mask) (bits h%(mask+1)) (bits h) l with⟨j,n,d,E,f,p⟩| ⟨d,E⟩
 ·refine⟨j,d,?_⟩;have g:∀i,(o.setIfInBounds j (some k))[i]?=if j=i then some (some k)else o[i]? :=λi=>by grind
  have O:∀i,nr o i->nr (o.setIfInBounds j (some k)) i:=λi ⟨q,b⟩=>by
   unfold nr
   grind
  refine⟨by rw[Array.size_setIfInBounds];exact x.sz,λi q a=>?_,λq b=>?_,λi I q a H=>?_⟩
  ·rw[g]at a;split at a
   ·rename_i z;subst z;cases a;exact⟨NS _,h,y,n,E,λm c=>O _ (p m c)⟩
   ·obtain⟨B,s,u,v⟩:=x.ok i q a;exact⟨by omega,s,u,v.mono O⟩
  ·by_cases z:q=k
   ·subst z;exact⟨j,by grind⟩
   ·obtain⟨i,a⟩:=x.all q (by omega)
    grind
  ·rw[g]at a H;split at a
   ·rename_i z;cases a;split at H
    ·rename_i Z;omega
    ·have:=(x.ok I k H).1;omega
   ·split at H
    ·cases H;have:=(x.ok i k a).1;omega
    ·exact x.inj i I q a H
 ·exfalso;obtain⟨e,w,t⟩:=x.hole A;obtain⟨r,C,f⟩:=qN c l (z0 h) w;obtain⟨q,b⟩:=E r (by unfold turns;omega);rw[f,t]at b;cases b
theorem Ab{mask:Nat}(H:eA mask){hs:Li}(a:hs.length<=mask):∀(rest d:Li) (ow:dy),hs=d++rest->Ow mask hs d.length ow->
  ∃o,rest.foldl (λacc h=>do
   let(owner,k) <-acc
   let j <-NY mask owner (turns mask) (bits h%(mask+1)) (bits h)
   pure (owner.setIfInBounds j (some k),k+1)) (some (ow,d.length))=some (o,hs.length)/\Ow mask hs hs.length o
 | [],d,ow,e,x=>by simp_all
 |h::rest,d,ow,e,x=>by obtain⟨j,E,y⟩:=x.add H (by grind) (h:=h) (by simp_all);have:=Ab H a rest (d++[h]) _ (by simp_all) (by rw[Zm];exact y);simp_all
theorem HI(c:eA mask)(b:hs.length<=mask):∃ow,Rl mask hs.toArray=some ow/\Ow mask hs hs.length ow:=by
 have H:∀j q:Nat,(Array.replicate (mask+1) none)[j]?=some (some q)->False:=λj q h=>by grind
 have a:Ow mask hs ([]:Li).length _:=⟨by simp,λj q h=>(H j q h).elim,λq h=>by simp_all,λj J q h=>(H j q h).elim⟩;obtain⟨ow,e,x⟩:=Ab c b _ _ _ rfl a;dsimp only[Rl];simp_all
theorem Ac{mask:Nat}{P:Nat->Prop}{hs:Li}:∀(live:List (Nat×Nat)),(∀x∈live,∃h,hs[x.2]?=some h/\Fd mask P h x.1)->∀z∈(((live.map (·.2)).filterMap (hs[·]?)).zip (live.map (·.1))),Fd mask P z.1 z.2
 | [],_,z,H=>by simp_all
 |x::live,a,z,H=>by
  obtain⟨h,e,f⟩:=a x Ze;rw[ZZ,QX e]at H;rcases Zf.mp H with rfl|H
  ·exact f
  ·exact Ac _ (λy b=>a y (Zb _ b)) z H
theorem HJ{t:Nb}(r:eA (Oa wanted-1))(C:hs.length*5<(Oa wanted-1)*3):
  ∃t' o,t.relaid hs.toArray wanted=some (t',o)/\o.toList.Perm (M4 hs.length)/\t'.led=t.led/\t'.plain=t.plain/\Tk t' (o.toList.filterMap (hs[·]?)):=by
 generalize f:Oa wanted-1=mask at r C;obtain⟨O,e,x⟩:=HI r (hs:=hs) (by omega)
 have H:∀y∈((M4 (mask+1)).filterMap λj=>(O.getD j none).map (j, ·)),O[y.1]?=some (some y.2):=λy l=>by
  obtain⟨j,d,E⟩:=ZW.mp l;have d:j<O.size:=by grind
  have n:O.getD j none=O[j]:=by simp[QJ,d]
  rw[n]at E;cases p:O[j]with
  |none=>rw[p]at E;cases E
  |some q=>
   grind
 have c:∀j q:Nat,O[j]?=some (some q)->(j,q)∈((M4 (mask+1)).filterMap λj=>(O.getD j none).map (j, ·)):=λj q h=>by
  obtain⟨d,p⟩:=O6.mp h;refine ZW.mpr ⟨j,ZS.mpr (by rw[<-x.sz];exact d),?_⟩;have n:O.getD j none=O[j]:=by simp[QJ,d]
  rw[n,p];rfl
 have k:=tG (λj=>O.getD j none) (M4 (mask+1));have i:t.relaid hs.toArray wanted=some ({mask:=mask,place:=((((M4 (mask+1)).filterMap λj=>(O.getD j none).map (j, ·)).map (·.1)).toArray),dummies:= #[],finger:=t.finger,led:=t.led,moves:=t.movedTo mask,plain:=t.plain},(((M4 (mask+1)).filterMap λj=>(O.getD j none).map (j, ·)).map (·.2)).toArray):=by unfold SetTable.relaid SetTable.laid;rw[f,e];rfl
 rw[i];generalize((M4 (mask+1)).filterMap λj=>(O.getD j none).map (j, ·))=live at*;have g:=List.pairwise_lt_range.sublist k
 have P:(live.map (·.2)).Perm (M4 hs.length):=by
  refine(Oq ?_ List.nodup_range).mpr λq=>?_
  ·rw[Nr]at g;unfold List.Nodup;rw[Nr];refine g.imp_of_mem λ{a b} v A w z=>?_;have m:=H b A;rw[<-z]at m;have:=x.inj _ _ _ (H a v) m;omega
  ·rw[ZS,Zo];constructor
   ·rintro⟨y,l,rfl⟩;exact(x.ok _ _ (H y l)).1
   ·intro s;obtain⟨j,d⟩:=x.all q s;exact⟨(j,q),c j q d,rfl⟩
 have G:live.length=hs.length:=by have:=P.length_eq;simpa using this
 have B:((live.map (·.2)).filterMap (hs[·]?)).length=hs.length:=by rw[(P.filterMap (hs[·]?)).length_eq];have:=PH hs.toArray;simpa using ZU N4 this
 refine⟨_,_,rfl,P,rfl,rfl,rfl,zS g,?_,r,?_,Ac live λy l=>?_⟩
 ·rw[B];simpa using G
 ·unfold Ph O_;refine ZD ?_;simp;omega
 ·obtain⟨_,h,u,m⟩:=x.ok _ _ (H y l);exact⟨h,u,m.mono λj ⟨q,s⟩=>Zo.mpr ⟨(j,q),c j q s,rfl⟩⟩
end Py
variable {ow:Py.dy}
namespace Py
noncomputable def eW(w:Nc):Bool:=w.params.followText "set-order"
theorem HK(v:M0){R:Vs}(fin:R (.ref s.heap.objs.size) {s with heap:=s.heap.push (bF (!eW w))}):codeAny (model prog w) A (.call (.builtin "set.__new__") ⟨[.type "set",v],[]⟩) (wants R E) s:=by
 refine P7 (Za (m:=checkBuiltinCall "set.__new__" ⟨[.type "set",v],[]⟩) (wpAny_of_eq (F.newCall_set_1 v) (Zd ⟨PJ F.plain_set_new _,NB F.entry_set_new ?_⟩)));rw[ND F.plain_set_new _];have S:=sub_set_self;unfold N5.«set.__new__» Builtin.Frozenset.newClass;cases s;dsimp only
 wp_walk
 exact OE (Zd (Za (wpAny_alloc (Zd (Zd fin)))))
open SetTable (Probe turns)
abbrev cL(prog:M5)(w:Nc)(h:M8)(k:Li)(a:MZ):Prop:=IsTupleKey (intKind prog w) h k a
abbrev hK(prog:M5)(w:Nc)(k:Li):Int:=tupleKeyHash (intKind prog w) k
theorem cL.kept{k:Li}(x:cL prog w h k a)(K:∀o,h.get? a=some o->h'.get? a=some o):cL prog w h' k a:=by obtain⟨o,items,n,g,r⟩:=x;exact⟨o,_,n,K o g,r⟩
theorem Ad{k:Li}{vs:Lv}(h:ItemsAre (intKind prog w) k vs):∀v∈vs,∃i t,v=.int i t:=by
 induction h with
 |nil=>intro v H;cases H
 |cons a _ I=>
  intro v H;rcases Zf.mp H with rfl|H
  ·obtain⟨t,b⟩:=Pf a;exact⟨_,t,b⟩
  ·exact I v H
theorem Ae{k:Li}{Q:Bool->MY->Prop}(x:cL prog w s.heap k a)(q:Q MX s):wpAny (model prog w) A (ofAClassStatement 8 (.ref a)) Q E s:=by
 have c:=x.typeIs;obtain⟨o,items,n,f,_,d,e⟩:=x;have h:=Ad e;unfold ofAClassStatement;refine Za (OT c ?_);refine Za (Zd ?_);refine Za (NN f d ?_);refine Za ?_;rw[<-RE];refine OD _ (λR r S=>r.1=none/\S=s/\∀v∈R,∃i t,v=Po i t) _ ?_ ?_ _ _ ⟨rfl,rfl,h⟩
 ·rintro v R r S ⟨H,rfl,b⟩;obtain⟨i,t,rfl⟩:=b v Ze;exact Zd ⟨rfl,rfl,λu g=>b u (Zb _ g)⟩
 ·rintro⟨j,l⟩ S ⟨H,rfl,_⟩;subst H;exact Zd q
theorem Af{k:Li}{Q:Bool->MY->Prop}(x:cL prog w s.heap k a)(q:Q MW s):wpAny (model prog w) A (hashByValue 8 (.ref a)) Q E s:=by
 have c:=x.typeIs;obtain⟨o,items,n,f,_,d,e⟩:=x;have h:=Ad e;refine Za (wpAny_specialOf c F.slot_tuple_hash.lookup ?_);refine Za (NN f d ?_);refine Za ?_;rw[<-RE];refine OD _ (λR r S=>r.1=none/\S=s/\∀v∈R,∃i t,v=Po i t) _ ?_ ?_ _ _ ⟨rfl,rfl,h⟩
 ·rintro v R r S ⟨H,rfl,b⟩;obtain⟨i,t,rfl⟩:=b v Ze;exact Zd ⟨rfl,rfl,λu g=>b u (Zb _ g)⟩
 ·rintro⟨j,l⟩ S ⟨H,rfl,_⟩;subst H;exact Zd q
theorem tM{k:Li}{b:MZ}(x:cL prog w s.heap k b)(l:Lv){Q:Bool->MY->Prop}(e:∀v∈l,∃K a,v=.ref a/\cL prog w s.heap K a)(q:Q MX s):wpAny (model prog w) A (searchCouldBeSeen (.ref b) l) Q E s:=by
 refine Za ?_;refine OD _ (λR r S=>r.1=none/\S=s/\∀v∈R,v∈l) _ ?_ ?_ _ _ ⟨rfl,rfl,λ_ h=>h⟩
 ·rintro v R r S ⟨c,rfl,d⟩;obtain⟨K,a,rfl,y⟩:=e v (d v Ze);have g:=λu f=>d u (Zb _ f);by_cases H:(b==a||carriedByValue (.ref b)&&carriedByValue (.ref a))=MW
  ·rw[if_pos H];exact Zd ⟨rfl,rfl,g⟩
  ·rw[if_neg H];refine Za (Sf x ?_);refine Za (Sf y ?_);exact Za (Ae x (Za (Ae y (Zd ⟨rfl,rfl,g⟩))))
 ·rintro⟨i,j⟩ S ⟨c,rfl,_⟩;subst c;exact Zd q
end Py
namespace Py
open SetTable (Probe turns)
theorem Ag{t:Nb}(f:h_ t.place){hashAt:Nat->Int}{h:Int}{p:Nat->Probe}{n:Nat}(b:∀m,m<n->(p m).j∈t.place.toList):∀(d m:Nat),n-m=d->m<=n->
  ∃M,m<=M/\M<=n/\(∀i,m<=i->i<M->∃q,t.slot (p i).j=.live q/\hashAt q≠h)/\(M=n\/∃q,t.slot (p M).j=.live q/\hashAt q=h)
 |0,m,e,a=>⟨m,Zg _,a,λi c H=>by grind,.inl (by grind)⟩
 |d+1,m,e,a=>by
  obtain⟨q,_,_,l⟩:=z8 f (b m (by omega));by_cases z:hashAt q=h
  ·exact⟨m,Zg _,a,λi c H=>by lia,.inr ⟨q,l,z⟩⟩
  ·obtain⟨M,c,H,o,g⟩:=Ag f b d (m+1) (by grind) (by lia);refine⟨_,by lia,H,λi j k=>?_,g⟩
   grind
noncomputable def bp(prog:M5)(w:Nc)(c:Li×MZ):Int×M0:=(hK prog w c.1,.ref c.2)
theorem nu:∀m∈[7,31,127],(m%2==0)=MX:=by decide
theorem HL{b:MZ}{t:Nb}(g:s.heap.get? a=some o)(d:o.data=.set (cs.map (bp prog w)).toArray ep t)(x:Tk t (cs.map λc=>hK prog w c.1))(key:∀c∈cs,cL prog w s.heap c.1 c.2)
  {k:Li} (hx:cL prog w s.heap k b) (hu:A.units<cLine)  (hn:n<10*turns t.mask) (D:(pos t.mask (eV t.mask (hK prog w k)) n).j∉t.place.toList) (O:∀m,m<n->(pos t.mask (eV t.mask (hK prog w k)) m).j∈t.place.toList)
  {Q:SetFound->MY->Prop} (T:k∈cs.map (·.1)->Q (.there none) s) (F:k∉cs.map (·.1)->Q (.free (pos t.mask (eV t.mask (hK prog w k)) n).j MX) s):
  ∀(f m:Nat) (st:Option Probe),n-m<f->m<=n->st.getD (t.probeStart (hK prog w k))=pos t.mask (eV t.mask (hK prog w k)) m->(∀i,i<m->∀(q:Nat) (c),t.slot (pos t.mask (eV t.mask (hK prog w k)) i).j=.live q->cs[q]?=some c->c.1≠k)->
   wpAny (model prog w) A (setSearchFrom a (.ref b) (hK prog w k) MW f st) Q E s:=by
 have hsz:(cs.map (bp prog w)).toArray.size=(cs.map λc=>hK prog w c.1).length:=by simp
 have P:t.fits (cs.map (bp prog w)).toArray.size=MW:=by rw[hsz];exact x.fits.2
 have hpl:t.place.size=cs.length:=by rw[x.siz,Zk]
 have X:∀q:Nat,(cs.map (bp prog w)).toArray[q]?=cs[q]?.map (bp prog w):=λq=>by simp
 generalize hP:(λm=>pos t.mask (eV t.mask (hK prog w k)) m)=p;have H:∀m,pos t.mask (eV t.mask (hK prog w k)) m=p m:=λm=>congrFun hP m;intro f
 induction f with
 |zero=>intro m st h;omega
 |succ f ih=>
  intro m st hf hm hst Y;obtain⟨M,h1,h2,h3,h4⟩:=Ag (hashAt:=λi=>(((cs.map (bp prog w)).toArray[i]?).map (·.1)).getD 0) (h:=hK prog w k) x.ris (p:=p) (n:=n) (λm hm=>by rw[<-H];exact O m hm) (n-m) m rfl hm;have K:∀i,pos t.mask (p m) i=p (m+i):=λi=>by rw[<-H,<-H,iK]
  obtain⟨g1,g2⟩:=z_ (t:=t) (hashAt:=λi=>(((cs.map (bp prog w)).toArray[i]?).map (·.1)).getD 0) (h:=hK prog w k) (M-m) (10*turns t.mask) (p m) (by omega) (by rw[<-H,tJ];rfl) (λi hi=>by rw[K];exact h3 (m+i) (by omega) (by omega));rw[K,show m+(M-m)=M by omega]at g1 g2;rw[K,show m+(M-m+1)=M+1 by omega]at g2;have U:∀(q:Nat) (c),cs[q]?=some c->(((cs.map (bp prog w)).toArray[q]?).map (·.1)).getD 0=hK prog w c.1:=λq c e=>by rw[X,e];rfl
  unfold setSearchFrom;refine Za (Ny g d P ?_);dsimp only;refine O2 ?_;rw[if_neg (by unfold SetTable.gaveWay;rw[nu _ x.msk];decide),hst,H];generalize hz:t.probe _ _ _=met;rcases h4 with rfl| ⟨q,I,hh⟩
  ·have V:t.slot (p M).j=.empty:=z9 x.dum (by rw[<-H];exact D);have e:met=some (.empty (p M).j none):=hz.symm.trans (g1 V);subst e;dsimp only;rw[H]at F;refine Zd (F λL=>?_);obtain⟨c,hc,rfl⟩:=Zo.mp L;obtain⟨q,I,e⟩:=ZH.mp hc;have hqp:q<t.place.size:=by omega
   have j:=z7 x.ris hqp;have l:cs[q]?=some c:=by rw[Zh I,e]
   obtain⟨N,e0,f0⟩:=x.fnd (hK prog w c.1,t.place[q]) (by refine ZH.mpr ⟨q,by simp;omega,?_⟩;simp[e]);have e0:(p N).j=t.place[q]:=by rw[<-H];exact e0
   have hin:(p N).j∈t.place.toList:=by rw[e0];simp
   have hlt:N<M:=by
    by_cases z:N<M
    ·exact z
    ·by_cases zz:N=M
     ·subst zz;exact absurd (by rw[H];exact hin) D
     ·exact absurd (f0 M (by omega)) D
   rw[<-e0]at j;by_cases zz:N<m
   ·exact Y N zz q c (by rw[H];exact j) l rfl
   ·obtain⟨q',Z,C⟩:=h3 N (by omega) hlt;rw[j]at Z;cases Z;exact C (U q c l)
  ·have e:met=some (.candidate (p M).j q (p (M+1))):=hz.symm.trans (g2 q I hh);subst e;dsimp only
   have hmn:M<n:=by
    by_cases z:M=n
    ·subst z;rw[z9 x.dum (by rw[<-H];exact D)]at I;cases I
    ·omega
   obtain⟨q',hq1,hq2,hq3⟩:=z8 x.ris (O M hmn);rw[H,I]at hq3;cases hq3;have hqc:q<cs.length:=by omega
   obtain⟨c,l⟩:∃c,cs[q]?=some c:=⟨_,Zh hqc⟩;have G:=Zr l;have hy:=key c G;have W:(cs.map (bp prog w)).toArray[q]?=some (hK prog w c.1,.ref c.2):=by rw[X,l];rfl
   have R:wpAny (model prog w) A (do
     let some (_,y):=(cs.map (bp prog w)).toArray[q]? |unsupported "internal:set-entry"
     let u <-holding [y] (eqBool y (.ref b))
     let(es',_,t') <-setState a
     if MW&&u then return SetFound.there none
     let some same:=t'.sameMemory t.moves t.mask|unsupported "set.changed-during-lookup:is-the-new-block-at-the-old-address"
     let S <-match(if same then t'.slot (p M).j else .empty)with
      | .live i'=>match es'[i']? with
       |some (_,y')=>do pure (if <-isSame y' y then some i' else none)
       |none=>pure none
      |_=>pure none
     match S with
     |none=>rule "set.search.anew";setSearchFrom a (.ref b) (hK prog w k) MW f none
     |some i'=>if u then return .there (some i')else setSearchFrom a (.ref b) (hK prog w k) MW f (some (p (M+1)))) Q E s:=by
    rw[W];dsimp only;refine Za (ZI (wpAny_eqBool_tuple hu hy hx ?_));refine Za (Ny g d P ?_);dsimp only;by_cases L:c.1=k
    ·rw[ZK L];exact Zd (T (Zo.mpr ⟨c,G,L⟩))
    ·rw[ZD L];have hsm:t.sameMemory t.moves t.mask=some MW:=by unfold SetTable.sameMemory;rw[if_pos (beq_self_eq_true _)]
     rw[hsm];dsimp only;simp only[Bool.and_false,ZA,if_false,if_true];rw[I];dsimp only;rw[W];dsimp only;refine Za (wpAny_isSame_ref_self (Za (Zd ?_)));rw[if_pos rfl];dsimp only;refine ih (M+1) (some (p (M+1))) (by omega) (by omega) (by rw[H];rfl) λi hi q' c' B r=>?_;rw[H]at B;by_cases z:i<m
     ·exact Y i z q' c' (by rw[H];exact B) r
     ·by_cases zz:i=M
      ·subst zz;rw[I]at B;cases B;rw[l]at r;cases r;exact L
      ·obtain⟨q2,J,C⟩:=h3 i (by omega) (by omega);rw[B]at J;cases J;rw[U _ _ r]at C;exact λe=>C (by rw[e])
   by_cases hl:t.led=MW
   ·rw[hl];exact R
   ·rw[Qn.mpr hl];refine O2 ?_;rw[if_pos (by decide)];refine Za (tM hx _ (λv hv=>?_) ?_)
    ·obtain⟨e,he,rfl⟩:=Zo.mp hv;have he2:=(Array.mem_filter.mp (Array.mem_toList_iff.mp he)).1;have he3:e∈cs.map (bp prog w):=by simpa using he2
     obtain⟨c2,r,rfl⟩:=Zo.mp he3;exact⟨c2.1,c2.2,rfl,key c2 r⟩
    ·exact R
end Py
namespace Py
open SetTable (Probe turns)
def HM(prog:M5)(w:Nc)(h:M8)(a:MZ)(cs:List (Li×MZ)):Prop:=∃o ep t,h.get? a=some o/\o.ExactSet/\o.data=.set (cs.map (bp prog w)).toArray ep t/\t.led=(!eW w)/\t.plain=MW/\Tk t (cs.map λc=>hK prog w c.1)
structure dz (prog:M5)(w:Nc)(h:M8)(a:MZ)(cs:List (Li×MZ)):Prop where
 obj:HM prog w h a cs
 key:∀c∈cs,cL prog w h c.1 c.2
 nod:(cs.map (·.1)).Nodup
theorem dz.kept(x:dz prog w h a cs)(k:∀b o,h.get? b=some o->(b=a\/∃c∈cs,b=c.2)->h'.get? b=some o):dz prog w h' a cs:=by obtain⟨⟨o,E,t,g,r⟩,y,z⟩:=x;exact⟨⟨o,_,t,k a o g (.inl rfl),r⟩,λc H=>(y c H).kept λo e=>k _ o e (.inr ⟨c,H,rfl⟩),z⟩
theorem Ah{t t':Nb}(g:h.get? a=some o)(E:o.ExactSet)(d:o.data=.set es ep t):
  ∃o',(h.update a (Pe es' t')).get? a=some o'/\o'.ExactSet/\o'.data=.set es' (ep+1) t':=by
 have e:(h.update a (Pe _ t')).get? a=some _:=Ng _ g (by rw[RP es' _ d];rfl);rw[RP _ _ d]at e;exact⟨_,e,E,rfl⟩
theorem nv{t:Nb}{Q:Unit->MY->Prop}(g:s.heap.get? a=some o)(m:o.ExactSet)(d:o.data=.set (cs.map (bp prog w)).toArray ep t)(F:t.fits cs.length=MW)
  (q:eA (Oa wanted-1)) (r:cs.length*5<(Oa wanted-1)*3) (hw:Oa wanted<=128) (l:t.led=(!eW w)) (pl:t.plain=MW)
  (fin:∀h' C,NP a s.heap h'->C.Perm cs->HM prog w h' a C->Q () {s with heap:=h'}):wpAny (model prog w) A (setRelay a wanted) Q E s:=by
 obtain⟨T,O,b,P,f,i,x⟩:=HJ (t:=t) (hs:=cs.map λc=>hK prog w c.1) (wanted:=wanted) q (by grind);rw[Zk]at P;have p:(O.toList.filterMap (cs[·]?)).Perm cs:=by refine(P.filterMap _).trans (.of_eq ?_);have:=PH cs.toArray;simpa using this
 have X:Tk T ((O.toList.filterMap (cs[·]?)).map λc=>hK prog w c.1):=by
  grind
 have j:O.filterMap ((cs.map (bp prog w)).toArray[·]?)=((O.toList.filterMap (cs[·]?)).map (bp prog w)).toArray:=by apply QK;rw[QZ,List.map_filterMap];simp_all
 have n:(cs.map (bp prog w)).toArray.map (·.1)=(cs.map λc=>hK prog w c.1).toArray:=by rw[List.map_toArray,ZL];rfl
 unfold setRelay;refine Za (Ny g d (by grind) ?_);dsimp only;refine O2 ?_;rw[if_neg (by rw[Oh];omega),n,b];refine Za ?_;show wpAny _ _ (if((O.filterMap ((cs.map (bp prog w)).toArray[·]?)).size !=(cs.map (bp prog w)).toArray.size)=MW then _ else _) _ _ _;rw[j];generalize O.toList.filterMap (cs[·]?)=C at p X
 have h:(C.map (bp prog w)).toArray.size=(cs.map (bp prog w)).toArray.size:=by rw[ZB,ZB,Zk,Zk,p.length_eq]
 rw[h,bne_self_eq_false,if_neg (by decide)];refine Zd (PC g d ?_ ?_)
 ·obtain⟨o1,G,e,d1⟩:=Ah (es':=(C.map (bp prog w)).toArray) (t':=T) g m d;exact fin _ C (ZQ ..) p ⟨o1,_,T,G,e,d1,f.trans l,i.trans pl,X⟩
 ·refine PD ?_;rw[ZB,Zk,p.length_eq];unfold scanBound
  grind
theorem Ai{b:MZ}{k:Li}{Q:Bool->MY->Prop}(x:dz prog w s.heap a cs)(hx:cL prog w s.heap k b)(hu:A.units<cLine)(few:cs.length<76)
  (fin:∀h' C r,NP a s.heap h'->dz prog w h' a C->(∀K,K∈C.map (·.1)↔K∈cs.map (·.1)\/K=k)->(∀c∈C,c∈cs\/c=(k,b))->C.length<=cs.length+1->Q r {s with heap:=h'}):
  wpAny (model prog w) A (setAddHashed a (.ref b) (hK prog w k)) Q E s:=by
 obtain⟨o,ep,t,g,ex,d,M,W,T⟩:=x.obj;have N:∀{K:Li} {Y:MZ},cL prog w s.heap K Y->Y≠a:=λ{K Y} y e=>by obtain⟨o',_,_,g',_,d',_⟩:=y;subst e;rw[g]at g';cases g';rw[d]at d';cases d'
 have F:t.fits (cs.map (bp prog w)).toArray.size=MW:=by have:=T.fits.2;rw[Zk]at this;rw[ZB,Zk];exact this
 have hsz:t.place.size=cs.length:=by rw[T.siz,Zk]
 obtain⟨n,hn,J,B⟩:=HE T.msk (pl:=t.place.toList) (by rw[ZF];exact T.fits.1) (hK prog w k);have hmsk:=(by simpa[eA]using T.msk:t.mask=7\/t.mask=31\/t.mask=127);unfold setAddHashed setAddHashedIn;refine ZI (Za (Ny g d F ?_));dsimp only;refine O2 ?_;rw[if_neg (show ¬byScan (.ref b) (cs.map (bp prog w)).toArray=MW by unfold byScan;rw[show(N9 b).scannable=MX from rfl];simp)];unfold setSearch;refine Za (HL g d T x.key hx hu hn J B (λhin=>?_) (λL=>?_) 100000 0 none (by unfold turns at hn;omega) (Z1 _) rfl (λi hi=>by omega))
 ·exact Zd (fin s.heap cs MX (QT ..) x (λK=>⟨.inl,λz=>z.elim id λe=>e▸hin⟩) (λc l=>.inl l) (Nat.le_succ _))
 ·dsimp only;refine Za (Ny g d F ?_);dsimp only;obtain⟨p1,p2,O,R,p5,V,p7,p8⟩:=T.put J B;generalize(pos t.mask (eV t.mask (hK prog w k)) n).j=j at*;rw[Zk]at O;refine O2 ?_;rw[if_pos (show(t.put j).1.plain=MW from V.trans W)];refine Za (Af hx ?_);simp only[if_true];generalize hput:t.put j=r at*;obtain⟨u,p⟩:=r;dsimp only at p1 p2 O R p5 V p7 p8⊢;have Z:M9 (cs.map (bp prog w)).toArray p (hK prog w k,N9 b)=((cs.take p++(k,b)::cs.drop p).map (bp prog w)).toArray:=by apply QK;rw[O',N2,ZZ,Pn,OC];rfl
  have hhs:(cs.take p++(k,b)::cs.drop p).map (λc=>hK prog w c.1)=(cs.map λc=>hK prog w c.1).take p++hK prog w k::(cs.map λc=>hK prog w c.1).drop p:=by rw[N2,ZZ,Pn,OC]
  rw[<-hhs]at p8;rw[Z];have pm:(cs.take p++(k,b)::cs.drop p).Perm ((k,b)::cs):=by refine Ob.trans (.cons _ (.of_eq (Rk p cs)))
  generalize cs.take p++(k,b)::cs.drop p=f at p8 pm⊢;have H:f.length=cs.length+1:=by rw[pm.length_eq,ZC]
  have iR:(f.map (bp prog w)).toArray.size<scanBound:=by rw[ZB,Zk];unfold scanBound;omega
  have G:(cs.map (bp prog w)).toArray.size=cs.length:=by simp
  refine Za (PC g d ?_ (PD iR));obtain⟨o1,g1,v,d1⟩:=Ah (es':=(f.map (bp prog w)).toArray) (t':=u) g ex d;have S:=ZQ s.heap a (Pe (f.map (bp prog w)).toArray u)
  have D:∀h' C,NP a s.heap h'->C.Perm f->HM prog w h' a C->Q MW {s with heap:=h'}:=λh' C X q ob=>by
   have P:=q.trans pm
   have pk:∀c∈C,c∈cs\/c=(k,b):=λc l=>by
    rcases Zf.mp (P.mem_iff.mp l)with e|e
    ·exact .inr e
    ·exact .inl e
   refine fin h' C MW X ⟨ob,λc l=>?_,?_⟩ (λK=>?_) pk (by rw[P.length_eq];exact Zg _)
   ·have y:cL prog w s.heap c.1 c.2:=by
     rcases pk c l with e|e
     ·exact x.key c e
     ·rw[e];exact hx
    exact y.kept λo e=>by rw[X.2 c.2 (N y)];exact e
   ·refine((P.map (·.1)).nodup_iff).mpr ?_;rw[ZZ,NK];exact⟨L,x.nod⟩
   ·rw[(P.map (·.1)).mem_iff,ZZ,Zf];exact Or.comm
  have h:u.fill=cs.length+1:=by unfold O_;rw[O,p1];rfl
  cases U:u.tooFull with
  |false=>rw[if_neg (by decide)];refine Zd (D _ f S (.refl _) ⟨o1,_,u,g1,v,d1,p5.trans M,V.trans W,p1,p2,by rw[Zk,O,H],by rw[R];exact T.msk,U,by rw[R];exact p8⟩)
  |true=>
   rw[if_pos (by decide),G];refine Za ?_;have hfull:(cs.length+1)*5>=t.mask*3:=by unfold Ph at U;rw[h,R]at U;exact Z5 U
   have hnot:¬(cs.length*5>=t.mask*3):=by have:=T.ful;unfold Ph O_ at this;rw[T.dum,hsz]at this;exact of_decide_eq_false this
   have I:u.fits f.length=MW:=by
    unfold QD;rw[h,O,H,R];have:cs.length+1<=t.mask:=by omega
    simp[this]
   have l:cs.length+1=5\/cs.length+1=19:=by omega
   refine nv (s:={s with heap:=s.heap.update a (Pe (f.map (bp prog w)).toArray u)}) (cs:=f) g1 v d1 I ?_ ?_ ?_ (p5.trans M) (V.trans W) λh' C X q ob=>Zd (D h' C (S.trans X) q ob)
   ·rcases l with e|e<;>rw[e]<;>(unfold eA;decide+kernel)
   ·rw[H];rcases l with e|e<;>rw[e]<;>decide+kernel
   ·rcases l with e|e<;>rw[e]<;>decide+kernel
end Py
namespace Py
noncomputable def g6(e:Int×M0):Int:=match e.2 with
 | .int k _=>k
 |_=>0
section
theorem j5{l:List (Int×M0)}(h:R5 (intKind prog w) l):∀e∈l,∃t,e.2=.int (g6 e) t:=λe H=>by obtain⟨⟨k,a,_⟩,_⟩:=h e H;obtain⟨t,b⟩:=Pf a;refine⟨t,?_⟩;unfold g6;rw[b]
theorem tN{l:List (Int×M0)}(h:R5 (intKind prog w) l)(k:Int):(∃e∈l,(intKind prog w).is k e.2=MW)↔k∈l.map g6:=by
 rw[Zo];constructor
 ·rintro⟨e,H,b⟩;obtain⟨t,a⟩:=Pf b;exact⟨e,H,by unfold g6;rw[a]⟩
 ·rintro⟨e,H,rfl⟩;obtain⟨t,a⟩:=j5 h e H;exact⟨e,H,by rw[a];exact Rm _ _ _ _⟩
variable {R:Qf->MY->Prop}{P:Nat->M0->Prop}{St:Nat->M8->Prop}
end
noncomputable def cT(l:Bool)(ks:List Nat):Nb:={mask:=if ks.length<=4 then 7 else 31,place:=ks.toArray,dummies:= #[],finger:=0,led:=l,moves:=if ks.length<=4 then 0 else 1,plain:=MW}
noncomputable def nw:List Nat->List (List Nat)
 | []=>[[]]
 |a::l=>nw l++(nw l).map (a:: ·)
noncomputable def cM(v:Nat)(ks:List Nat):List Nat:=ks.takeWhile (· <v)++v::ks.dropWhile (· <v)
noncomputable def tP(l:Bool)(v:Nat)(ks:List Nat):Nb:=((cT l ks).put v).1
theorem tO:∀led:Bool,∀ks∈nw [0,1,2,3,4,5,6,7],∀v∈[0,1,2,3,4,5,6,7],v∉ks->
  (cT led ks).freeSlot (v:Int)=some (v,MX)/\((cT led ks).put v).2=(ks.takeWhile (· <v)).length/\(tP led v ks).fits (ks.length+1)=MW/\(tP led v ks).plain=MW/\
  ((tP led v ks).tooFull=MX->tP led v ks=cT led (cM v ks))/\
  ((tP led v ks).tooFull=MW->(tP led v ks).relaid ((cM v ks).map λk:Nat=>(k:Int)).toArray (RQ (ks.length+1))=some (cT led (cM v ks),Rn (ks.length+1))/\(cT led (cM v ks)).fits (ks.length+1)=MW/\coversAll (Rn (ks.length+1)) (ks.length+1)=MW):=by
 decide+kernel
abbrev p8:List (List Nat):=nw [0,1,2,3,4,5,6,7]
theorem iL:∀ks∈p8,ks.Pairwise (· < ·)/\(∀k∈ks,k<8)/\ks.length<=8/\(∀led:Bool,(cT led ks).fits ks.length=MW)/\∀v∈[0,1,2,3,4,5,6,7],v∉ks->cM v ks∈p8:=by decide+kernel
theorem Aj:∀v∈[0,1,2,3,4,5,6,7],hashInt (v:Nat)=((v:Nat):Int):=by decide+kernel
theorem j6{v:Nat}(h:v<8):v∈[0,1,2,3,4,5,6,7]:=by
 have:v=0\/v=1\/v=2\/v=3\/v=4\/v=5\/v=6\/v=7:=by lia
 simp_all
theorem j7(v:Nat)(ks:List Nat):ks.take (ks.takeWhile (· <v)).length=ks.takeWhile (· <v)/\ks.drop (ks.takeWhile (· <v)).length=ks.dropWhile (· <v):=by
 have h:ks.takeWhile _++ks.dropWhile (· <v)=ks:=N8
 grind
noncomputable def j8(k:Nat):Int×Int:=((k:Int),(k:Int))
noncomputable def gg(e:Int×M0):Int×Int:=(e.1,g6 e)
theorem ny{v:Nat}{tok:Tok}(h:es.toList.map gg=ks.map j8):(M9 es (ks.takeWhile (· <v)).length ((v:Int),.int v tok)).toList.map gg=(cM v ks).map j8:=by rw[O',N2,ZZ,Pn,OC,h,<-Pn,<-OC,(j7 v _).1,(j7 v _).2];unfold cM;rw[N2];rfl
theorem HN(es:Array α):(Rn es.size).filterMap (es[·]?)=es:=by apply QK;rw[QZ,Array.toList_range];exact PH _
theorem Ak{v:Nat}{x:M0}(b:ks∈p8)(d:v<8)(c:v∉ks)(hs:es.size=ks.length):layNew (cT led ks) es (v:Int) x=(M9 es (ks.takeWhile (· <v)).length ((v:Int),x),tP led v ks,MX,MX):=by
 obtain⟨h,H,a,_⟩:=tO _ _ b v (j6 d) c;unfold layNew;rw[h];dsimp;have e:(M9 es ((cT led ks).put v).2 (v,x)).size=ks.length+1:=by rw[<-ZF,(Pm _ _ _).length_eq,ZF,Se,hs]
 rw[e,<-H];unfold SetTable.orStandIn;rw[show((cT _ _).put v).1.fits _=MW from a];rfl
theorem nz{e:Array (Int×M0)}{v:Nat}(i:ks∈p8)(l:v<8)(j:v∉ks)(h:e.toList.map gg=(cM v ks).map j8)(f:(tP led v ks).tooFull=MW):relayAll (tP led v ks) e (RQ e.size)=(e,cT led (cM v ks),MX):=by
 obtain⟨_,_,_,_,_,a⟩:=tO _ _ i v (j6 l) j;obtain⟨b,c,d⟩:=a f
 have H:e.size=ks.length+1:=by
  have:=ZU N4 h;simp only[Zk,Zk,ZF]at this;have m:(cM v ks).length=ks.length+1:=by unfold cM;rw[Zm,ZC,<-Q0,<-Zm,N8]
  simp_all
 have g:e.map (·.1)=((cM v ks).map λk:Nat=>(k:Int)).toArray:=by apply QK;rw[R6];have:=ZU (Qo (·.1)) h;rw[ZL,ZL]at this;exact this
 dsimp only[relayAll];rw[g,H,b];dsimp;rw[<-H,HN,H,c,d];rfl
structure c8 (prog:M5)(w:Nc)(h:M8)(a:MZ)(ks:List Nat)(es:Array (Int×M0)):Prop where
 obj:∃o ep,h.get? a=some o/\o.ExactSet/\o.data=.set es ep (cT (!eW w) ks)
 ent:es.toList.map gg=ks.map j8
 els:R5 (intKind prog w) es.toList
 pow:ks∈p8
theorem c8.size(x:c8 prog w h a ks es):es.size=ks.length:=by have:=ZU N4 x.ent;simp_all
theorem c8.kept(x:c8 prog w h a ks es)(k:∀o,h.get? a=some o->h'.get? a=some o):c8 prog w h' a ks es:=by obtain⟨⟨o,e,q,r⟩,z,Z,b⟩:=x;exact⟨⟨o,_,k o q,r⟩,z,Z,b⟩
theorem c8.born(h:M8):c8 prog w (h.push (bF (!eW w))) h.objs.size [] #[]:=⟨⟨_,0,Zi _ rfl,⟨rfl,rfl,rfl⟩,rfl⟩,rfl,λe H=>by simp_all,by decide+kernel⟩
theorem Al{t t':Nb}(g:h.get? a=some o)(E:o.ExactSet)(d:o.data=.set es ep t):
  ∃o',(h.update a (Pe es' t')).get? a=some o'/\o'.ExactSet/\o'.data=.set es' (ep+1) t':=by
 have e:(h.update a (Pe _ t')).get? a=some _:=Ng _ g (by rw[RP es' _ d];rfl);rw[RP _ _ d]at e;exact⟨_,e,E,rfl⟩
theorem Am{v:Nat}{tok:Tok}{Q:Bool->MY->Prop}(x:c8 prog w s.heap a ks es)(u:v<8)
  (fin:∀h' K es' b,NP a s.heap h'->c8 prog w h' a K es'->(∀k,k∈K↔k∈ks\/k=v)->Q b {s with heap:=h'}):
  wpAny (model prog w) A (setAddHashed a (.int v tok) ((intKind prog w).hash v)) Q E s:=by
 obtain⟨⟨o,ep,g,W,d⟩,n,y,C⟩:=id x;have R:=x.size;obtain⟨_,low,len,t,more⟩:=iL ks C;have F:(cT (!eW w) ks).fits es.size=MW:=by rw[R];exact t _
 have J:es.size<scanBound:=by rw[R];unfold scanBound;omega
 have B:(intKind prog w).is (v:Int) (.int v tok)=MW:=Rm _ _ _ _
 have G:∀(b:Bool) (z:MY) (D:Unit->MY->Prop),D () z->wpAny (model prog w) A (match b with|true=>rule "set.scan.the-table-gave-way"|false=>pure ()) D E z:=λb z D q=>by
  cases b
  ·exact Zd q
  ·exact O1 q
 have l:(∃e∈es.toList,(intKind prog w).is (v:Int) e.2=MW)↔v∈ks:=by
  rw[tN y];have:=ZU (Qo (·.2)) n;rw[ZL,ZL]at this;rw[show es.toList.map g6=ks.map λk:Nat=>(k:Int)from this,Zo];constructor
  ·rintro⟨k,B,e⟩;have:k=v:=by omega
   exact this▸B
  ·exact λh=>⟨v,h,rfl⟩
 have H:(intKind prog w).hash (v:Int)=(v:Int):=Aj v (j6 u);unfold setAddHashed setAddHashedIn;refine ZI (Za (Ny g d F ?_));dsimp only;rw[byScan_of (knd:=intKind prog w) rfl J y,if_pos rfl];unfold setAddByScan;refine Za (Za (O1 (Za (wpAny_setScan_of B g d F y ?_))));cases V:List.findIdx? (λe=>(intKind prog w).is (v:Int) e.2) es.toList with
 |some j=>obtain⟨Z,hp,_⟩:=List.findIdx?_eq_some_iff_getElem.mp V;have O:=l.mp ⟨_,OS Z,hp⟩;exact Zd (Zd (fin s.heap ks es MX (QT a s.heap) x λk=>⟨.inl,λz=>z.elim id λe=>e▸O⟩))
 |none=>
  have N:v∉ks:=λz=>by obtain⟨e,Y,q⟩:=l.mpr z;have:=List.findIdx?_eq_none_iff.mp V e Y;rw[q]at this;cases this
  obtain⟨_,_,ft,pl,nf,fu⟩:=tO (!eW w) ks C v (j6 u) N;have M:hashByValue 8 (.int v tok)=pure MW:=hashByValue_scannable 8 rfl
  have i:∀k,k∈cM v ks↔k∈ks\/k=v:=λk=>by
   unfold cM;rw[ZE,Zf];have:ks.takeWhile (· <v)++ks.dropWhile (· <v)=ks:=N8;rw[<-ZU (k∈ ·) this];rw[ZE];constructor
   ·rintro(h|h|h)
    ·exact .inl (.inl h)
    ·exact .inr h
    ·exact .inl (.inr h)
   ·rintro((h|h)|h)
    ·exact .inl h
    ·exact .inr (.inr h)
    ·exact .inr (.inl h)
  have c:=ny (v:=v) (tok:=tok) n;have m:R5 (intKind prog w) (M9 es (ks.takeWhile (· <v)).length ((v:Int),.int v tok)).toList:=by have p:=Pm es (ks.takeWhile (· <v)).length ((v:Int),Po v tok);rw[RR]at p;have q:=y.push B (x:=.int v tok) rfl;rw[H]at q;exact q.perm p
  have P:=more v (j6 u) N;dsimp only;rw[H,Ak C u N R];generalize M9 es (ks.takeWhile (· <v)).length ((v:Int),Po v tok)=f at c m⊢
  have iR:f.size<scanBound:=by
   have:=ZU N4 c;rw[Zk,Zk,ZF]at this;have h2:(cM v ks).length=ks.length+1:=by unfold cM;rw[Zm,ZC,<-Q0,<-Zm,N8]
   unfold scanBound;omega
  dsimp only;refine Za (G MX s _ ?_);rw[if_pos pl];refine Za ?_;rw[M];refine Zd ?_;simp only[if_true];refine Za (PC g d ?_ (PD iR));obtain⟨o1,L,r,d1⟩:=Al (es':=f) (t':=tP (!eW w) v ks) g W d;have S:=ZQ s.heap a (Pe f (tP (!eW w) v ks));cases U:(tP (!eW w) v ks).tooFull with
  |true=>simp only[Bool.not_false,Bool.and_self,if_true];rw[nz C u N c U];refine Za (G MX _ _ (Za (PC L d1 (Zd (Zd ?_)) (PD iR))));obtain⟨o2,X,I,d2⟩:=Al (es':=f) (t':=cT (!eW w) (cM v ks)) L r d1;exact fin _ _ f MW (S.trans (ZQ _ a _)) ⟨⟨o2,_,X,I,d2⟩,c,m,P⟩ i
  |false=>simp only[Bool.not_false,Bool.and_false,ZA,if_false];rw[nf U]at d1;exact Zd (Zd (fin _ _ f MW S ⟨⟨o1,_,L,r,d1⟩,c,m,P⟩ i))
section
variable {R:Qf->MY->Prop}{P:Nat->M0->Prop}{St:Nat->M8->Prop}
theorem tQ(W:Walks prog w A.in1 I fp wr n P St)(S:MZ)(out:S∉fp)(val:Nat->Int)(H:∀i v,P i v->∃t,v=.int (val i) t)(low:∀i,i<n->0<=val i/\val i<8):
  ∀(k i:Nat) (s:MY) (ks:List Nat) (es:Array (Int×M0)),n-i=k->i<=n->St i s.heap->c8 prog w s.heap S ks es->(∀k:Nat,k∈ks↔∃j,j<i/\val j=k)->
  (∀h' tk d es',(∀b o,b∉wr->b≠S->s.heap.get? b=some o->h'.get? b=some o)->c8 prog w h' S d es'->(∀k:Nat,k∈d↔∃j,j<n/\val j=k)->R (.ok (.ret .none)) {s with heap:=h',toks:=tk})->
  codeAny (model prog w) A (.builtin "set.update.loop" ⟨[.ref S,.ref I],[]⟩) R s:=by
 have L:S∉wr:=λz=>out (W.sub S z);intro k
 induction k with
 |zero=>
  intro i s ks es O Q a x y fin;obtain rfl:i=n:=by omega
  exact NB OI (by rw[ND NO];exact Za (W.done s _ _ a λh' tk K=>Zd (fin h' tk ks es (λb o N _ e=>K b o N e) (x.kept λo e=>K S o L e) y)))
 |succ k Y=>
  intro i s ks es O Q a x y fin;have lt:i<n:=by omega
  refine NB OI ?_;rw[ND NO];refine Za (W.item i s _ _ lt a λv h' tk Z c K=>?_);obtain⟨t,rfl⟩:=H i v Z;have x1:c8 prog w h' S ks es:=x.kept λo e=>K S o L e;obtain⟨u,J⟩:∃u:Nat,val i=(u:Int):=⟨(val i).toNat,by have:=low i lt;omega⟩;have p:u<8:=by have:=low i lt;omega
  refine Za (m:=holding [Po (val i) t] (setAdd S (.int (val i) t))) (ZI ?_);unfold setAdd;refine ZI (Za ((intKind prog w).pyHash (k:=val i) (Rm _ _ _ _) ?_));rw[J];refine Am (s:={s with heap:=h',toks:=tk+1}) x1 p λh2 f E b M x2 l=>?_
  have B:∀k:Nat,k∈f↔∃j,j<i+1/\val j=k:=λk=>by
   rw[l k,y k];constructor
   ·rintro(⟨j,X,e⟩|rfl)
    ·exact⟨j,by omega,e⟩
    ·exact⟨i,by omega,J⟩
   ·rintro⟨j,X,e⟩;by_cases z:j=i
    ·subst z;exact .inr (by omega)
    ·exact .inl ⟨j,by omega,e⟩
  refine Zd ⟨PJ NO _,Y (i+1) _ f E (by omega) lt (W.frame _ _ _ c λb U o e=>?_) x2 B λV D r g q x3 C=>?_⟩
  ·rw[M.2 b λz=>out (z▸U)];exact e
  ·refine fin V D r g (λb o N G e=>q b o N G ?_) x3 C;rw[M.2 b G];exact K b o N e
end
structure An (prog:M5)(w:Nc)(A:NM)(s:MY)(vs:Av)(led:Bool)(Post:M8->Prop):Prop where
 go:∀{I:MZ} {fp wr:La} {St:Nat->M8->Prop} {R:Qf->MY->Prop} (s':MY),Walks prog w A.in1.in1.in1 I fp wr vs.size (λi v=>vs[i]?=some v) St->s.heap.objs.size∉fp->St 0 s'.heap->(∀b o,(s.heap.push (bF led)).get? b=some o->s'.heap.get? b=some o)->(∀b∈wr,s.heap.objs.size<b)->
   (∀h' tk,(∀b o,b∉wr->b≠s.heap.objs.size->s'.heap.get? b=some o->h'.get? b=some o)->Post h'->R (.ok (.ret .none)) {s' with heap:=h',toks:=tk})->codeAny (model prog w) A.in1.in1 (.builtin "set.update.loop" ⟨[.ref s.heap.objs.size,.ref I],[]⟩) R s'
theorem Ao{t:MZ}{vs:Av}{P:M8->Prop}(hh:A.handled=none)(B:s.heap.IsList t vs\/s.heap.IsTuple t vs)
  (L:An prog w A s vs (!eW w) P)
  (h:∀(h':M8) (tk:Nat),P h'->(∀b o,b<s.heap.objs.size->s.heap.get? b=some o->h'.get? b=some o)->Q (.ref s.heap.objs.size) {s with heap:=h',toks:=tk}):wpAny (model prog w) A (call (.type "set") [.ref t]) Q E s:=by
 obtain⟨c,tl,Z⟩:=F.called_set.mro;have U:=F.called_set.made;have hsub:=F.called_set.sub;refine Qy (P7 ?_);show wpAny _ _ (callAny (.type "set") _) _ _ _;refine Zd ⟨Qe _ (by decide+kernel),NB F.entry_type_call ?_⟩;rw[Rw (Sd "set" [.ref t] []) rfl];have g1:=F.called_set.notType;have g2:=F.called_set.canCreate;have g3:=F.typeCall_set_1 (.ref t)
 repeat(any_goals (first|assumption|wp_step))
 refine Oi (HK (.ref t) (E:=E) (R:=λobj S=>obj=.ref s.heap.objs.size/\S={s with heap:=s.heap.push (bF (!eW w))}) ⟨rfl,rfl⟩) λr S V=>?_;cases r with
 |error e=>exact V
 |ok fl=>
  cases fl with
  |ret obj=>
   obtain⟨rfl,rfl⟩:=V;generalize(!eW w)=l at L⊢;have hS:(s.heap.push (bF l)).get? s.heap.objs.size=some (bF l):=Zi _ rfl;have hT:P2 {s with heap:=s.heap.push (bF l)} (.ref s.heap.objs.size) "set":=⟨_,hS,rfl⟩;have hli:=F.called_set.init.lookup;have hbi:=F.called_set.init.bind (.ref s.heap.objs.size)
   repeat(any_goals (first|assumption|wp_step))
   refine Oi (O7 (R:=wants (λr q=>r=.none/\∃h' tk,q={s with heap:=h',toks:=tk}/\P h'/\
     (∀b o,b<s.heap.objs.size->s.heap.get? b=some o->h'.get? b=some o)) E) F.called_set.init.plain F.entry_set_init (check_set_init_1 hT ?_)) λJ q H=>?_
   ·have D:A.in1.in1.in1.handled=none:=by simp[hh]
    have W:(s.heap.push (bF l)).objs.size=s.heap.objs.size+1:=NU ..;have G:t<s.heap.objs.size:=by rcases B with⟨_,d,_⟩| ⟨_,d,_⟩<;>exact Zj d
    have n:t≠(s.heap.push (bF l)).objs.size:=by rw[W];exact Zq (Qs G)
    have C:s.heap.objs.size∉[(s.heap.push (bF l)).objs.size,t]:=by rw[W];simp only[Zf,Zp,Z0,not_or];exact⟨Zq (NS _),Ox G⟩
    have x:∀b∈[(s.heap.push (bF l)).objs.size],s.heap.objs.size<b:=λb m=>by rw[W,NV]at m;rw[m];exact NS _
    have p:∀b,b<s.heap.objs.size->b∉[(s.heap.push (bF l)).objs.size]:=λb m z=>by have:=x b z;omega
    rcases B with B|B
    ·obtain⟨⟨I,a,y,O⟩,d,f,nl,g⟩:=B;simp only at f g;subst f;subst g;have k:(s.heap.push (bF l)).get? t=some {cls:=.type "list",dict:=a,data:=.seq vs nl,slots:=O}:=Zc _ d;have q1:=F.sub_list_set;have q2:=F.sub_list_frozenset;have q3:(Nq "list"==Nq "dict")=MX:=by decide
     have j:(s.heap.push (bF l)).IsList t vs:=⟨_,k,rfl,nl,rfl⟩;unfold N5.«set.__init__» noKeywords OF;generalize v:pyIter=PI
     wp_walk
     subst v;refine N_ j (Za (Qi ?_));exact L.go _ (Walks.list D _ t n vs) C ⟨⟨_,Zi _ rfl,rfl,rfl⟩,(j.push _)⟩ (λb o e=>Zc _ e) x λh' T X Y=>Zd (Zd ⟨rfl,h',T,rfl,Y,λb o m e=>X b o (p b m) (Zq m) (Zc _ (Zc _ e))⟩)
    ·obtain⟨⟨I,a,y,O⟩,d,f,nl,g⟩:=B;simp only at f g;subst f;subst g;have k:(s.heap.push (bF l)).get? t=some {cls:=.type "tuple",dict:=a,data:=.seq vs nl,slots:=O}:=Zc _ d;have q1:=F.sub_tuple_set;have q2:=RO;have q3:(Nq "tuple"==Nq "dict")=MX:=by decide
     have j:(s.heap.push (bF l)).IsTuple t vs:=⟨_,k,rfl,nl,rfl⟩;unfold N5.«set.__init__» noKeywords OF;generalize v:pyIter=PI
     wp_walk
     subst v;refine NG j (Za (Qi ?_));exact L.go _ (Walks.tuple D _ t n vs) C ⟨⟨_,Zi _ rfl,rfl,rfl⟩,(j.push _)⟩ (λb o e=>Zc _ e) x λh' T X Y=>Zd (Zd ⟨rfl,h',T,rfl,Y,λb o m e=>X b o (p b m) (Zq m) (Zc _ (Zc _ e))⟩)
   ·cases J with
    |error e=>exact H
    |ok u=>
     cases u with
     |ret r=>
      obtain⟨rfl,h',tk,rfl,M,N⟩:=H
      repeat(any_goals (first|assumption|wp_step))
      exact h _ _ M N
     |_=>exact H.elim
  |_=>exact V.elim
theorem HP{t:MZ}{vs:Av}(f:A.handled=none)(l:s.heap.IsList t vs\/s.heap.IsTuple t vs)(a:P0 vs.toList ns)(low:∀n∈ns,0<=n/\n<8)
  (h:∀(h':M8) (tk:Nat),(∃ks es,c8 prog w h' s.heap.objs.size ks es/\∀k:Nat,k∈ks↔(k:Int)∈ns)->
   (∀b o,b<s.heap.objs.size->s.heap.get? b=some o->h'.get? b=some o)->Q (.ref s.heap.objs.size) {s with heap:=h',toks:=tk}):wpAny (model prog w) A (call (.type "set") [.ref t]) Q E s:=by
 have c:vs.size=ns.length:=by exact a.length
 refine Ao f l ⟨λB W out S q m fin=>?_⟩ h;refine tQ W _ out _ (λi v y=>a.int_at i v (by simp_all)) (λi j=>low _ (by simp_all)) _ 0 _ _ _ (by omega) (Z1 _) S ((c8.born _).kept λo e=>q _ o e) (λk=>⟨λz=>(by cases z),λ⟨i,z,_⟩=>by omega⟩) λh' u r d K x p=>fin _ _ K ⟨_,_,x,λk=>(p k).trans ⟨λ⟨i,z,e⟩=>by grind,λz=>by obtain⟨i,g,e⟩:=ZH.mp z;exact⟨i,by omega,by simp_all⟩⟩⟩
theorem dz.born(h:M8):dz prog w (h.push (bF (!eW w))) h.objs.size []:=⟨⟨_,0,_,Zi _ rfl,⟨rfl,rfl,rfl⟩,rfl,rfl,rfl,rfl,λi j H=>absurd H (Nat.not_lt_zero _),rfl,Ze,rfl,λx b=>by simp_all⟩,λc a=>(by simp_all),.nil⟩
theorem tR{R:Qf->MY->Prop}{P:Nat->M0->Prop}{St:Nat->M8->Prop}(W:Walks prog w A.in1 I fp wr n P St)(S:MZ)(out:S∉fp)(D:∀b∈wr,S<b)(val:Nat->Li×MZ)(p:∀i v,P i v->v=.ref (val i).2)(X:A.in1.units<cLine)(few:n<76):
  ∀(k i:Nat) (s:MY) (cs:List (Li×MZ)),n-i=k->i<=n->St i s.heap->dz prog w s.heap S cs->(∀j,j<n->cL prog w s.heap (val j).1 (val j).2/\(val j).2<S)->(∀c∈cs,∃j,j<n/\c=val j)->(∀K,K∈cs.map (·.1)↔∃j,j<i/\(val j).1=K)->cs.length<=i->
  (∀h' tk C,(∀b o,b∉wr->b≠S->s.heap.get? b=some o->h'.get? b=some o)->dz prog w h' S C->(∀K,K∈C.map (·.1)↔∃j,j<n/\(val j).1=K)->(∀c∈C,∃j,j<n/\c=val j)->R (.ok (.ret .none)) {s with heap:=h',toks:=tk})->
  codeAny (model prog w) A (.builtin "set.update.loop" ⟨[.ref S,.ref I],[]⟩) R s:=by
 have Y:S∉wr:=λz=>out (W.sub S z);have low:∀b,b<S->b∉wr:=λb g z=>Ni _ (Qq g (D b z));intro k
 induction k with
 |zero=>
  intro i s cs Z e1 a x tup M G len fin;have L:∀c∈cs,c.2<S:=λc H=>let⟨j,h,e⟩:=M c H;e▸(tup j h).2
  obtain rfl:i=n:=by omega
  exact NB OI (by rw[ND NO];exact Za (W.done s _ _ a λh' tk d=>Zd (fin h' tk cs (λb o N _ e=>d b o N e) (x.kept λb o e g=>d b o (by rcases g with rfl| ⟨c,H,rfl⟩;exact Y;exact low _ (L c H)) e) G M)))
 |succ k ih=>
  intro i s cs Z e1 a x tup M G len fin;have L:∀c∈cs,c.2<S:=λc H=>let⟨j,h,e⟩:=M c H;e▸(tup j h).2
  have lt:i<n:=by omega
  refine NB OI ?_;rw[ND NO];refine Za (W.item i s _ _ lt a λv h' tk pv q d=>?_);obtain rfl:=p i v pv;have x1:dz prog w h' S cs:=x.kept λb o e g=>d b o (by rcases g with rfl| ⟨c,H,rfl⟩;exact Y;exact low _ (L c H)) e;have t:∀j,j<n->cL prog w h' (val j).1 (val j).2/\(val j).2<S:=λj h=>⟨(tup j h).1.kept λo e=>d _ o (low _ (tup j h).2) e,(tup j h).2⟩;refine Za (m:=holding [N9 (val i).2] (setAdd S (.ref (val i).2))) (ZI ?_);unfold setAdd;refine ZI (Za (wpAny_pyHash_tuple X (t i lt).1 ?_));refine Ai (s:={s with heap:=h',toks:=tk+((val i).1.length+1)}) x1 (t i lt).1 X (by omega) λh2 f b Q x2 B r bZ=>?_
  have J:∀K,K∈f.map (·.1)↔∃j,j<i+1/\(val j).1=K:=λK=>by
   rw[B K,G K];constructor
   ·rintro(⟨j,h,e⟩|rfl)
    ·exact⟨j,by omega,e⟩
    ·exact⟨i,by omega,rfl⟩
   ·rintro⟨j,h,e⟩;by_cases z:j=i
    ·subst z;exact .inr e.symm
    ·exact .inl ⟨j,by omega,e⟩
  refine Zd ⟨PJ NO _,ih (i+1) _ f (by omega) lt (W.frame _ _ _ q λb fb o e=>?_) x2 (λj h=>⟨(t j h).1.kept λo e=>?_,(t j h).2⟩) (λc H=>?_) J (by omega) λh3 U y E x3 O u=>?_⟩
  ·rw[Q.2 b λz=>out (z▸fb)];exact e
  ·rw[Q.2 _ (Zq (t j h).2)];exact e
  ·rcases r c H with z|z
   ·exact M c z
   ·exact⟨i,lt,z⟩
  ·refine fin h3 U y (λb o N V e=>E b o N V ?_) x3 O u;rw[Q.2 b V];exact d b o N e
theorem HQ{t:MZ}{vs:Av}{ks:List (Li×MZ)}(x:A.handled=none)(M:A.units+64<cLine)(I:s.heap.IsList t vs\/s.heap.IsTuple t vs)(d:vs.toList=ks.map λc=>N9 c.2)(G:∀c∈ks,cL prog w s.heap c.1 c.2)(F:ks.length<76)
  (h:∀(h':M8) (tk:Nat),(∃cs,dz prog w h' s.heap.objs.size cs/\(∀q,q∈cs.map (·.1)↔q∈ks.map (·.1))/\∀c∈cs,c∈ks)->
   (∀b o,b<s.heap.objs.size->s.heap.get? b=some o->h'.get? b=some o)->Q (.ref s.heap.objs.size) {s with heap:=h',toks:=tk}):wpAny (model prog w) A (call (.type "set") [.ref t]) Q E s:=by
 have n:vs.size=ks.length:=by rw[<-ZF,d,Zk]
 have H:∀i,i<ks.length->ks.getD i ([],0)∈ks/\ks[i]?=some (ks.getD i ([],0)):=λi B=>by
  grind
 refine Ao x I ⟨λO W out S r f fin=>?_⟩ h;refine tR W s.heap.objs.size out f (λi=>ks.getD i ([],0)) (λi v N=>?_) (by grind) (by omega) (vs.size-0) 0 _ [] (by omega) (Z1 _) S ((dz.born s.heap).kept λb o e _=>r b o e) (λj D=>?_) (λc a=>by cases a) (λk=>⟨λz=>(by cases z),λ⟨i,z,_⟩=>(by omega)⟩) (Zg _) λh' T C K X p m=>fin h' T K ⟨C,X,λk=>(p k).trans ⟨λ⟨i,z,e⟩=>?_,λz=>?_⟩,λc a=>let⟨j,D,e⟩:=m c a;e▸(H j (by omega)).1⟩
 ·have J:vs.toList[i]?=some v:=by grind
  grind
 ·have y:=G _ (H j (by omega)).1;refine⟨y.kept λo e=>r _ o (Zc _ e),?_⟩;obtain⟨o,_,_,g,_⟩:=y;exact Zj g
 ·grind
 ·obtain⟨c,a,e⟩:=Zo.mp z;obtain⟨i,B,L⟩:=ZH.mp a
  grind
theorem Ap(ns:Li):firstMet (λi=>ns.getD i 0) ns.length=d9 ns:=by unfold firstMet d9;congr 1;refine Pq (by simp) λi H h=>?_;simp[h]
theorem HR(c:X.calm=MW):aS X (.type "set") (λxs H Q=>∃p ns,xs=[.ref p]/\cQ X.K H p (ns.map V.int)/\ns.length+1<scanBound/\∀l S,H l=none->Q (.ref l) (aZ H l (.set S (d9 ns).length))):=by
 intro n s v H xs U Q I r h;obtain⟨p,ns,rfl,f,k,q⟩:=h;obtain⟨u,rfl,g⟩:=vals1 r;subst g;obtain⟨i,R,P,_⟩:=I.list f;have m:=R.length;refine call_set_list (I.ok.hd c) P.isList (by exact se R) (by simp_all) λj t a d=>?_;have E:i.toArray.size=ns.length:=by simp_all
 rw[E,Ap]at a;exact⟨.ref _,_,I.laid (λb o e=>d b o (Zj e) e) (Zg _) (show bc _ _ _ _ _ (.set _ _)from a),rfl,q _ _ (I.hok.fresh (Zg _))⟩
theorem HS(c:X.calm=MW):aS X (.type "set") (λxs H Q=>∃p ns,xs=[.ref p]/\bX X.K H p (ns.map V.int)/\ns.length+1<scanBound/\∀l S,H l=none->Q (.ref l) (aZ H l (.set S (d9 ns).length))):=by
 intro n s v H xs U Q I r h;obtain⟨p,ns,rfl,f,k,q⟩:=h;obtain⟨u,rfl,g⟩:=vals1 r;subst g;obtain⟨i,R,P,_⟩:=I.tuple f;have m:=R.length;refine Hw (I.ok.hd c) P (by exact se R) (by simp_all) λj t a d=>?_;have E:i.toArray.size=ns.length:=by simp_all
 rw[E,Ap]at a;exact⟨.ref _,_,I.laid (λb o e=>d b o (Zj e) e) (Zg _) (show bc _ _ _ _ _ (.set _ _)from a),rfl,q _ _ (I.hok.fresh (Zg _))⟩
theorem HU(c:X.calm=MW):aS X (.type "set") (λxs H Q=>∃p ns,xs=[.ref p]/\(cQ X.K H p (ns.map V.int)\/bX X.K H p (ns.map V.int))/\ns.length+1<scanBound/\∀l S,H l=none->Q (.ref l) (aZ H l (.set S (d9 ns).length))):=by
 intro P s d H xs u Q I r h;obtain⟨p,ns,e,a,b,q⟩:=h;rcases a with a|a
 ·exact HR c _ s _ H _ _ Q I r ⟨p,_,e,a,b,q⟩
 ·exact HS c _ s _ H _ _ Q I r ⟨p,_,e,a,b,q⟩
theorem HV:aS X (.builtin "len") (λxs H Q=>∃p S n,xs=[.ref p]/\H p=some (.set S n)/\n<100000/\Q (.int n) H):=by intro P s i H xs U Q I r h;obtain⟨p,S,n,rfl,e,g,q⟩:=h;obtain⟨u,rfl,R⟩:=vals1 r;subst R;obtain⟨o,f,E,t,d,a,b,_,_,_,c,rfl⟩:=I.hok p _ e;exact call_len_set d a b c (by lia) ⟨.int _,H,I.tok _,⟨_,rfl⟩,q⟩
theorem Aq:bootBuiltins "set"=some (.type "set"):=by decide+kernel
theorem nA(ns:Li):(d9 ns).length<=ns.length:=by
 have k:∀(ns a:Li),(ns.foldl P1 a).length<=a.length+ns.length:=by
  intro ns
  induction ns with
  |nil=>simp
  |cons n ns i=>intro a;refine Zy (i _) ?_;unfold P1;split<;>simp<;>lia
 simpa[d9]using k _ []
theorem nB:∀{xs:List D},xs.all (aq .int)=MW->xs=(xs.filterMap bD).map D.int
 | [],_=>rfl
 |x::xs,h=>by
  simp only[Of,ZN]at h;cases x with
  |int i=>simp only[P4,bD,ZZ];rw[<-nB h.2]
  |_=>simp[aq]at h
theorem nC{K:Fg}{m:GS}{μ:La}{H:Hp}:∀{ns:Li} {vs:List V},ah K m μ H (ns.map D.int) vs->vs=ns.map V.int
 | [],vs,r=>by subst r;rfl
 |n::ns,vs,r=>by obtain⟨v,w,rfl,R,a⟩:=r.uncons;cases aE R;rw[nC a];rfl
def tU(K:Fg):List V->Hp->VK->Prop:=λxs H Q=>∃p ns,xs=[.ref p]/\(cQ K H p (ns.map V.int)\/bX K H p (ns.map V.int))/\ns.length+1<scanBound/\∀l S,H l=none->Q (.ref l) (aZ H l (.set S (d9 ns).length))
def qO:List V->Hp->VK->Prop:=λxs H Q=>∃p S n,xs=[.ref p]/\H p=some (.set S n)/\n<100000/\Q (.int n) H
theorem tV:∀(ks acc:List (Li)),acc.Nodup->(ks.foldl (λacc k=>if acc.contains k=MW then acc else acc++[k]) acc).Nodup/\∀k,k∈ks.foldl (λacc k=>if acc.contains k=MW then acc else acc++[k]) acc↔k∈acc\/k∈ks
 | [],acc,h=>⟨h,λk=>by simp⟩
 |x::ks,acc,h=>by
  by_cases z:acc.contains x=MW
  ·obtain⟨a,b⟩:=tV ks _ h
   grind
  ·obtain⟨a,b⟩:=tV ks (acc++[x]) (Z7.mpr ⟨h,by simp,λa H b c=>by grind⟩)
   grind
theorem Ar(ks:List (Li)):(jO ks).Nodup/\∀k,k∈jO ks↔k∈ks:=by obtain⟨a,b⟩:=tV _ _ PY;exact⟨a,λk=>(b k).trans (by simp)⟩
theorem As{prog:M5}{w:Nc}:∀{k:Li} {its:Lv},Vals (k.map V.int) its->ItemsAre (intKind prog w) k its
 | [],its,r=>by cases r;exact .nil
 |n::k,its,r=>by
  cases r with
  |cons h H=>obtain⟨t,rfl⟩:=h;exact .cons (Rm _ _ _ _) (As H)
theorem nD{k:Li}(I:Inv X pq σ H s)(h:bX X.K H a (k.map V.int)):cL X.prog X.w s.heap k a:=by obtain⟨i,r,p,_⟩:=I.tuple h;obtain⟨o,g,c,n,d⟩:=p;exact⟨o,_,n,g,c,d,As r⟩
theorem Au:∀{ks:List (Li×MZ)} {its:Lv},Vals (ks.map λc=>V.ref c.2) its->its=ks.map λc=>N9 c.2
 | [],its,r=>by cases r;rfl
 |c::ks,its,r=>by
  cases r with
  |cons h H=>subst h;rw[Au H];rfl
noncomputable def HW(K:Fg)(H:Hp)(p:MZ)(ks:List (Li×MZ)):Prop:=(cQ K H p (ks.map λc=>V.ref c.2)\/bX K H p (ks.map λc=>V.ref c.2))/\(∀c∈ks,bX K H c.2 (c.1.map V.int))/\ks.length<76
theorem nE{p:MZ}{ks:List (Li×MZ)}{E:Vs}{Q:Vs}(g:X.calm=MW)(n:X.A.units+64<cLine)(I:Inv X pq σ H s)(h:HW X.K H p ks)
  (fin:∀h' tk cs,dz X.prog X.w h' s.heap.objs.size cs->(∀k,k∈cs.map (·.1)↔k∈ks.map (·.1))->(∀c∈cs,c∈ks)->Inv X pq σ H {s with heap:=h',toks:=tk}->(∀b o,s.heap.get? b=some o->h'.get? b=some o)->Q (.ref s.heap.objs.size) {s with heap:=h',toks:=tk}):wpAny (model X.prog X.w) X.A (call (.type "set") [.ref p]) Q E s:=by
 obtain⟨d,m,f⟩:=h
 obtain⟨i,r,P⟩:∃i,Vals _ i/\(s.heap.IsList p i.toArray\/s.heap.IsTuple p i.toArray):=by
  rcases d with d|d
  ·obtain⟨i,r,P,_⟩:=I.list d;exact⟨_,r,.inl P.isList⟩
  ·obtain⟨i,r,P,_⟩:=I.tuple d;exact⟨_,r,.inr P⟩
 exact HQ (I.ok.hd g) n P (Au r) (λc g=>nD I (m c g)) f λh' tk ⟨_,x,j,l⟩ K=>fin _ _ _ x j l (I.kept λb o e=>K b o (Zj e) e) λb o e=>K b o (Zj e) e
noncomputable def HX(K:Fg)(v:V)(H:Hp)(Q:VK):Prop:=(tU K [v] H λy H2=>qO [y] H2 Q)
theorem HY(l:X.calm=MW)(t:X.A.units+64<cLine)(b:Gl X "len")(c:Gl X "set")(d:X.mg "len"=none)(e:X.mg "set"=none)(m:bR z=MW)(k:PE X z ta):
  PE X (.Call (.Name "len" p1) [.Call (.Name "set" p2) [z] [] p3] [] p4) (λσ H Q=>ta σ H λx H1=>HX X.K x H1 Q):=by
 intro p s σ H Q I h;have f:=cI (env:=X.env) (es:=[]) m;refine NF (eS I b d PySem.boot_len ?_ (by decide) (rfl));refine OG ?_ rfl rfl;refine P' ?_;refine NF (eS I c e Aq ?_ (by decide) (rfl));have j:PA X [z] (hW ta lO):=dg k el f
 refine Nf (aO (j p3 p s σ H (λvs H1=>match vs with
  | [x]=>HX X.K x H1 Q
  |_=>False) I h) λU S ⟨vs,H1,g,r,q⟩=>?_) f rfl
 match vs,q with
 | [v],q=>refine aO (HU l p S σ H1 [v] U (λy a=>qO [y] a Q) g r q) λu s2 ⟨V,a,i,R,n⟩=>?_;refine Pg ?_;exact HV p s2 σ a [V] [u] Q i (.cons R .nil) n
theorem Aw{K:Fg}{m:GS}{μ:La}{H:Hp}:∀{xs:List D} {vs:List V},xs.all (aq (.seq .int))=MW->ah K m μ H xs vs->∃ks:List (Li×MZ),vs=(ks.map λc=>V.ref c.2)/\(∀c∈ks,bX K H c.2 (c.1.map V.int))/\ks.map (·.1)=xs.map fm
 | [],vs,_,r=>by dsimp only[ah]at r;simp_all
 |x::xs,vs,h,r=>by
  simp only[Of,ZN]at h;obtain⟨v,w,rfl,R,f⟩:=r.uncons;obtain⟨ks,rfl,g,b⟩:=Aw h.2 f;cases x with
  |tup d=>
   obtain⟨a,u,rfl,j,q⟩:=bV R;rw[nB h.1]at q;have e:=nC q;refine⟨(d.filterMap _,a)::ks,rfl,λc i=>?_,by rw[ZZ,b];rfl⟩
   grind
  |_=>simp[aq]at h
theorem tW(s:aI K ⟨mg,F⟩ μ S H)(r:Rep K ⟨mg,F⟩ μ H d v)(e:av S d=some xs)(c:xs.all (aq (.seq .int))=MW/\xs.length<76):∃p ks,v=.ref p/\HW K H p ks/\ks.map (·.1)=xs.map fm:=by
 obtain⟨a,vs,rfl,f,R⟩:=eT s r e;obtain⟨ks,rfl,b,h⟩:=Aw c.1 R;refine⟨a,ks,rfl,⟨f,b,?_⟩,h⟩;have:=ZU N4 h
 grind
theorem HZ{Q:VK}(s:aI K ⟨mg,F⟩ μ S H)(r:Rep K ⟨mg,F⟩ μ H d v)(w:aT K ⟨mg,F⟩ μ H Q (mF d S)):HX K v H Q:=by
 unfold mF at w;split at w
 ·rename_i x e;split at w
  ·rename_i g;obtain⟨a,vs,rfl,i,R⟩:=eT s r e;have h:=nB g.1;have c:(x.filterMap bD).length<1000:=by grind
   rw[h]at R;have j:=nC R;subst j;refine⟨a,x.filterMap bD,rfl,i,by unfold scanBound;lia,λl f b=>⟨l,f,_,rfl,bO,by have:=nA (x.filterMap bD);lia,?_⟩⟩;exact w μ _ _ (.laid b) (s.laid b) bC
  ·exact w.elim
 ·exact w.elim
section
variable {R:Qf->MY->Prop}{P:Nat->M0->Prop}{St:Nat->M8->Prop}
end
theorem Ax{a:Type}(f:Nat->Nat):∀(n k:Nat) (left:List a) (out:Array a),left.length=n->(pickOrder.go f n k left out).toList.Perm (out.toList++left)
 |0,k,left,out,h=>by have:left=[]:=ZM h;subst this;dsimp only[pickOrder.go];simp
 |n+1,k,left,out,h=>by
  have H:f k%left.length<left.length:=Qj _ (by simp_all);dsimp only[pickOrder.go];rw[Zh H];refine(Ax f n (k+1) _ _ (by grind)).trans ?_;rw[RR,NH];refine List.Perm.append_left _ ?_;have:left=left.take (f k%left.length)++left[f k%left.length]::left.drop (f k%left.length+1):=by simp
  rw[List.eraseIdx_eq_take_drop_succ];refine List.Perm.trans ?_ (List.Perm.of_eq this.symm);simp only[List.singleton_append];exact(Ob).symm
theorem H7(f:Nat->Nat)(xs:Array α):(pickOrder f xs).toList.Perm xs.toList:=by have:=Ax f xs.size 0 xs.toList #[] (by simp);simpa[pickOrder]using this
noncomputable def cw(w:Nc)(a:MZ)(ep:Nat)(es:Array (Int×M0)):List (Int×M0):=if eW w=MW then(pickOrder (w.params.setOrder a ep) es).toList else es.toList
noncomputable def bM(w:Nc)(ks:List Nat):Nat->Nat
 |0=>0
 |i+1=>if eW w=MW then 0 else ks.getD i 0+1
theorem j9(w:Nc)(a:MZ)(ep:Nat)(es:Array (Int×M0)):(cw w a ep es).Perm es.toList:=by
 unfold cw;split
 ·exact H7 _ _
 simp_all
structure TB (w:Nc)(t:Nb)(n:Nat):Prop where
 fit:t.fits n=MW
 led:t.led=(!eW w)
 pl:t.plain=MW
 ris:h_ t.place
theorem TB.size{t:Nb}(x:TB w t n):n=t.place.toList.length:=by have:=x.fit;unfold QD at this;simp_all
theorem j_{t:Nb}{i:Nat}{Q:Option (M0×Nat)->MY->Prop}(T:TB w t es.size)(g:s.heap.get? a=some o)(d:o.data=.set es ep t)(p:i<=es.size)
  (fin:Q (((cw w a ep es)[i]?).map λe=>(e.2,bM w t.place.toList (i+1))) s):wpAny (model prog w) A (setNext a (bM w t.place.toList i) i ep) Q E s:=by
 have q:=T.size;have f:=T.fit;unfold setNext;refine Za (Ny g d f ?_);dsimp only;refine Za (m:=setsByText) (Za (OE (Zd ?_)));cases h:eW w with
 |true=>
  have H:w.params.followText "set-order"=MW:=h;show wpAny _ _ (if(w.params.followText "set-order")=MW then _ else _) _ _ _;rw[if_pos H];simp only[bne_self_eq_false,ZA,if_false];refine Za ?_;unfold setWalk;refine Za (Ny g d f ?_);dsimp only;refine Za (m:=setsByText) (Za (OE (Zd ?_)));show wpAny _ _ (if(w.params.followText "set-order")=MW then _ else _) _ _ _;rw[if_pos H];refine Za (OE (Zd (Zd ?_)));have j:cw w a ep es=(pickOrder (w.params.setOrder a ep) es).toList:=by unfold cw;rw[if_pos h]
  have k:bM w t.place.toList (i+1)=bM w t.place.toList i:=by
   cases i with
   |zero=>simp[bM,h]
   |succ i=>simp[bM,h]
  rw[j,k,Og]at fin;exact fin
 |false=>
  have H:w.params.followText "set-order"=MX:=h;show wpAny _ _ (if(w.params.followText "set-order")=MW then _ else _) _ _ _;rw[if_neg (by grind)];refine O2 ?_
  rw[if_neg (λz=>by have z:(!t.plain&&decide (es.size>1))=MW:=z;rw[T.pl]at z;simp at z)];refine Za ?_;show wpAny _ _ (if(!t.led&& !es.isEmpty)=MW then _ else pure ()) _ _ _;rw[if_neg (by rw[T.led,h];simp)];refine Zd (Zd ?_);have n:=T.ris;have j:cw w a ep es=es.toList:=by unfold cw;rw[if_neg (by grind)]
  have l:M6 t.place (bM w t.place.toList i)=i:=by
   cases i with
   |zero=>exact HA _ n
   |succ i=>
    have b:i<t.place.size:=by grind
    have e:bM w t.place.toList (i+1)=t.place[i]+1:=by show(if eW w=MW then 0 else t.place.toList.getD i 0+1)=_;rw[h];simp[b]
    rw[e];exact Hz n _
  rw[j,Og]at fin;rw[l];by_cases b:i<es.size
  ·have c:i<t.place.size:=by grind
   have k:bM w t.place.toList (i+1)=t.place[i]+1:=by show(if eW w=MW then 0 else t.place.toList.getD i 0+1)=_;rw[h];simp[c]
   rw[Nu b]at fin⊢;rw[k]at fin;simpa[c]using fin
  ·rw[Q1 (by omega)]at fin⊢;exact fin
theorem iM:Slot "set_iterator" "__next__" "set_iterator.__next__":=.of (owner:="set_iterator") (n:="__next__") (by rw[typeLookup_type,Sg];kernel_rfl) (by decide+kernel) (by decide+kernel) (by decide+kernel) (by first|exact .inl (by decide+kernel)|exact .inr (by decide+kernel)) (by rw[Ro];kernel_rfl)
theorem Ay:Slot "set_iterator" "__iter__" "set_iterator.__iter__":=.of (owner:="set_iterator") (n:="__iter__") (by rw[typeLookup_type,Sg];kernel_rfl) (by decide+kernel) (by decide+kernel) (by decide+kernel) (by first|exact .inl (by decide+kernel)|exact .inr (by decide+kernel)) (by rw[Ro];kernel_rfl)
theorem H8:entryFor table "set_iterator.__iter__"=some N5.«dict_keyiterator.__iter__»:=entryFor_alias (id':="dict_keyiterator.__iter__") (rfl) rfl (by decide+kernel) (rfl)
theorem H9(v:M0):argsOk "set_iterator.__iter__" ⟨[v],[]⟩:=by kernel_rfl
theorem Az:entryFor table "set_iterator.__next__"=some N5.«set_iterator.__next__»:=entryFor_of_tree rfl
theorem AA(v:M0):argsOk "set_iterator.__next__" ⟨[v],[]⟩:=by kernel_rfl
theorem H_:entryFor table "set.__iter__"=some N5.«frozenset.__iter__»:=entryFor_alias (id':="frozenset.__iter__") (rfl) rfl (by decide+kernel) (rfl)
def ka(h:M8)(it a:MZ)(sl i n ep:Nat):Prop:=∃o,h.get? it=some o/\o.cls=.type "set_iterator"/\o.data=.fields #[.int sl 0,.int i 0,.ref a,.int n 0,.int ep 0]
theorem tX{t:Nb}(T:TB w t es.size)(g:s.heap.get? a=some o)(e:o.ExactSet)(d:o.data=.set es ep (t))
  (fin:Q (.ref s.heap.objs.size) {s with heap:=s.heap.push {cls:=.type "set_iterator",data:=.fields #[.int 0 0,.int 0 0,.ref a,.int es.size 0,.int ep 0]}}):wpAny (model prog w) A (pyIter (.ref a)) Q E s:=by
 have f:=T.fit;have ty:s.TypeIs (.ref a) _:=⟨o,g,e.1⟩;refine wpAny_pyIter_slot ty F.slot_set_iter (ZR F.slot_set_iter ty H_ ?_ (F.args_set_iter_1 _));refine Za (Za (Zd (Zd ?_)));refine Za (Za (Qt g d f (Zd ?_)));refine Za ?_;refine Za (Ny g d f ?_);refine Za (Za (OE (Zd (Zd ?_))))
 rw[if_neg (show ¬_ from λz=>by have z:(!(w.params.followText _)&&(!t.plain&&decide _))=MW:=z;rw[T.pl]at z;simp at z)];exact Za (Zd (Za (wpAny_setEpoch_of g d f (Za (Nv (Zd ⟨_,rfl,_,_,⟨_,Zi _ rfl,rfl⟩,iM.lookup,fin⟩))))))
theorem nF{t:Nb}{i:Nat}{e:Int×M0}{Q:Ov->MY->Prop}(h:ka s.heap it a (bM w t.place.toList i) i es.size ep)(T:TB w t es.size)(g:s.heap.get? a=some o)(d:o.data=.set es ep (t))
  (f:(cw w a ep es)[i]?=some e) (fin:∀h',ka h' it a (bM w t.place.toList (i+1)) (i+1) es.size ep->NP it s.heap h'->Q (some e.2) {s with heap:=h'}):wpAny (model prog w) A (pyNext (.ref it)) Q E s:=by
 obtain⟨O,G,c,D⟩:=id h;have ty:s.TypeIs (.ref it) "set_iterator":=⟨O,G,c⟩
 have k:i<=es.size:=by have j:=(Zl.mp f).1;rw[(j9 w a ep es).length_eq,ZF]at j;omega
 unfold pyNext;refine Za (O4 (ZT ty iM (ZR iM ty Az ?_ (AA _))));refine Za (Zd ?_);refine Za (wpAny_fieldsOf G D ?_);dsimp only;refine Za (Qt g d T.fit ?_);rw[if_neg (by simp)];refine Za ?_;rw[NL,NL,NL];refine j_ T g d k ?_;rw[f];refine Za (Pp G D (by simp) ?_);have b:=Ng (Obj.mapFields (·.setIfInBounds 0 (rawInt (bM w t.place.toList (i+1):Nat)))) G (PR (Oc D _));have d1:=Oc D (·.setIfInBounds 0 (rawInt (bM w t.place.toList (i+1):Nat)));refine Za (Pp b d1 (by simp) ?_);refine Zd ⟨_,rfl,Zd (fin _ ⟨_,Ng (Obj.mapFields (·.setIfInBounds 1 (rawInt ((i:Int)+1)))) b (PR (Oc d1 _)),?_,?_⟩ ((ZQ _ it _).trans (ZQ _ it _)))⟩
 ·rw[Qr,Qr];exact c
 ·rw[Oc d1 (·.setIfInBounds 1 (rawInt ((i:Int)+1)))];simp[rawInt]
theorem tY{t:Nb}{Q:Ov->MY->Prop}(c:A.handled=none)(h:ka s.heap it a (bM w t.place.toList es.size) es.size es.size ep)(T:TB w t es.size)(g:s.heap.get? a=some o)(d:o.data=.set es ep (t))
  (fin:∀h',Ru it s.heap h'->Q none {s with heap:=h'}):wpAny (model prog w) A (pyNext (.ref it)) Q E s:=by
 obtain⟨O,G,C,D⟩:=id h;have ty:s.TypeIs (.ref it) "set_iterator":=⟨O,G,C⟩;unfold pyNext;refine Za (O4 (ZT (name:=N7 "__next__") ty iM (ZR iM ty Az ?_ (AA _))));unfold N5.«set_iterator.__next__»;refine Za (Zd ?_);refine Za (wpAny_fieldsOf G D ?_);dsimp only;refine Za (Qt g d T.fit ?_);rw[if_neg (by simp)];refine Za ?_;rw[NL,NL,NL];refine j_ T g d (Zg _) ?_;rw[PL (by rw[(j9 w a ep es).length_eq,ZF];exact Zg _)];dsimp only[Option.map_none];refine Za (Pp G D (by simp) (Za ?_));simp only[newExc,newTuple];refine Za (Nv (Za (m:=firstArgMember _ _) (wpAny_of_eq (a:=M7) (by first|rfl| (simp only[firstArgMember];rfl)) (Nv ?_ (by size_fits)))) (by size_fits));simp only[raiseNew];refine Za (wpAny_handled ?_);rw[show A.in1.handled=none from c];refine Za (Zd (wpAny_throw ?_));exact Za (QS (T:="StopIteration") (b:=MW) ⟨_,Zi _ rfl,rfl⟩ isSubtype_stop (Zd (fin _ (((ZQ ..).extBut.push _).push _))))
theorem Walks.setC(calm:A.handled=none)(hne:a≠it){t:Nb}(T:TB w t es.size)(d:o.data=.set es ep (t)):
  Walks prog w A it [it,a] [it] es.size (λi v=>∃e,(cw w a ep es)[i]?=some e/\v=e.2) (λi h=>ka h it a (bM w t.place.toList i) i es.size ep/\h.get? a=some o) where
 sub:=λb hb=>by simp_all
 frame:=λi h h' st k=>by obtain⟨⟨oi,gi,ri⟩,g⟩:=st;exact⟨⟨_,k _ (by simp) _ gi,ri⟩,k a (by simp) o g⟩
 item:=λi s Q E hi st hQ=>by
  have hl:i<(cw w a ep es).length:=by rw[(j9 w a _ _).length_eq];exact hi
  refine nF st.1 T st.2 d (Zh hl) λh' hit' sb=>?_;refine hQ _ _ _ ⟨_,Zh _,rfl⟩ ⟨hit',sb.extBut a o hne st.2⟩ λb o hb e=>sb.extBut b o (λh=>hb (by simp[h])) e
 done:=λs Q E st hQ=>tY calm st.1 T st.2 d λh' he=>hQ _ _ λb o hb e=>he b o (λh=>hb (by simp[h])) e
 self:=λi s Q E st hQ=>by obtain⟨⟨oi,gi,ci,di⟩,_⟩:=st;have ty:s.TypeIs (.ref _) _:=⟨_,gi,ci⟩;exact wpAny_pyIter_slot ty Ay (ZR Ay ty H8 (Zd ⟨_,rfl,_,_,ty,iM.lookup,hQ⟩) (H9 _))
theorem AB{t:Nb}{Q:Lv->MY->Prop}(C:A.handled=none)(T:TB w t es.size)(g:s.heap.get? a=some o)(q:o.ExactSet)(d:o.data=.set es ep t)(few:es.size<1000)
  (fin:∀(h':M8) (tk:Nat) (vs:Lv),(∀b o,s.heap.get? b=some o->h'.get? b=some o)->vs.Perm (es.toList.map (·.2))->Q vs {s with heap:=h',toks:=tk}):wpAny (model prog w) A (collect (.ref a)) Q E s:=by
 have N:=Zj g;unfold collect;refine Za (Qi (NB F.entry_proto_collect ?_));rw[ND F.plain_proto_collect];refine Za (m:=newList []) (Nv (Zd ⟨PJ F.plain_list_iadd _,NB F.entry_list_iadd ?_⟩));rw[ND F.plain_list_iadd];generalize p:s.heap.objs.size=S;have z:(s.heap.push {cls:=.type "list",data:=.seq ([]:Lv).toArray}).get? S=some {cls:=.type "list",data:=.seq #[]}:=by rw[<-p];exact Zi _ rfl
 have G:(s.heap.push {cls:=.type "list",data:=.seq ([]:Lv).toArray}).get? a=some o:=Zc _ g;have D:∀b o,s.heap.get? b=some o->(s.heap.push {cls:=.type "list",data:=.seq ([]:Lv).toArray}).get? b=some o:=λ_ _ e=>Zc _ e;generalize s.heap.push {cls:=.type "list",data:=.seq ([]:Lv).toArray}=h at z G D⊢;have ty:P2 {s with heap:=h} (.ref a) "set":=⟨o,G,q.1⟩;show wpAny _ A.in1 (Qb (.ref S) (.ref a) (.ref S)) _ _ _;unfold Qb;refine Za (OT ty ?_)
 rw[if_neg (by
  have:S≠a:=by rw[<-p];exact Ox N
  simp[Builtin.List.listSameRef,this])]
 refine Za (tX T G q d ?_);have x:a<h.objs.size:=Zj G;have K:∀b o,h.get? b=some o->(h.push {cls:=.type "set_iterator",data:=.fields #[.int 0 0,.int 0 0,.ref a,.int es.size 0,.int ep 0]}).get? b=some o:=λ_ _ e=>Zc _ e;have k:ka (h.push {cls:=.type "set_iterator",data:=.fields #[.int 0 0,.int 0 0,.ref a,.int es.size 0,.int ep 0]}) h.objs.size a (bM w t.place.toList 0) 0 es.size ep:=⟨_,Zi _ rfl,rfl,rfl⟩;show wpAny _ A.in1 _ _ _ {s with heap:=h.push {cls:=.type "set_iterator",data:=.fields #[.int 0 0,.int 0 0,.ref a,.int es.size 0,.int ep 0]}};generalize h.push {cls:=.type "set_iterator",data:=.fields #[.int 0 0,.int 0 0,.ref a,.int es.size 0,.int ep 0]}=i at K k⊢;have f:P2 {s with heap:=i} (.ref a) "set":=⟨o,K a o G,q.1⟩;refine Za (ZI ?_);unfold Builtin.List.listLengthHint;refine Za (wpAny_specialOf f F.slot_set_len.lookup ?_);have sp:splitId "set.__len__"=some ("set","__len__"):=by decide+kernel
 dsimp only;rw[sp];dsimp only;refine Za (QS (b:=MW) f (by rw[Ro];kernel_rfl) ?_);rw[if_neg (show ¬((!MW)=MW)by decide)];refine O2 ?_;rw[if_pos]
 rotate_left
 ·decide+kernel
 refine Za (OT f (Zd ?_));refine O2 ?_;rw[if_pos]
 rotate_left
 ·decide+kernel
 refine Za (O1 ?_);have l:=K S _ z;refine Za (m:=Builtin.List.listTouch (.ref S)) (Za (m:=updateSeq S (·.push .none)) (wpAny_updateSeq l rfl ?_));have n:=Ng (NC (·.push M7)) l rfl;refine wpAny_updateSeq n rfl ?_;have B:=Ng (NC (·.pop)) n rfl;have J:∀b o,b≠S->i.get? b=some o->((i.update S (NC (·.push M7))).update S (NC (·.pop))).get? b=some o:=λb o U e=>(OH _ _ (Ne.symm U)).trans ((OH _ _ (Ne.symm U)).trans e);have u:a≠S:=by rw[<-p];exact Zq N
 have v:h.objs.size≠S:=Ox (Zj z);have out:S∉[h.objs.size,a]:=by grind
 have W:=(Walks.setC (A:=A.in1) (prog:=prog) (w:=w) (by simpa using C) (Zq x) (it:=h.objs.size) (o:=o) (ep:=ep) T d).toS;refine Zd ⟨PJ F.plain_extend_loop _,codeAny_extend_loopS W (by rw[Oh];omega) S out _ es.size 0 _ _ _ rfl (Z1 _) ⟨?_,J a o u (K a o G)⟩ B ?_ λs' c c' mv r I=>?_⟩
 ·obtain⟨V,gi,ri⟩:=k;exact⟨V,J _ V v gi,ri⟩
 ·exact ItemsOf.nil _
 ·refine Za (wpAny_load r (Zd ?_));obtain⟨h',g',d',M,L⟩:=s';obtain⟨mh,mg,md,mo,_⟩:=mv;have Y:g'=s.gens:=mg;have eo:L=s.os:=mo;subst Y md eo;refine fin h' M _ (λb O e=>?_) ?_
  ·have hb:=Zj (D b O e);have y:=Zj e;have R:b≠S:=by rw[<-p];exact Zq y
   refine mh b O ?_ (J b O R (K b O (D b O e)));simp only[Zf,Zp,Z0,not_or];exact⟨R,Zq hb⟩
  ·have Z:c.toList=(cw w a ep es).map (·.2):=by
    refine List.ext_getElem? λj=>?_;rw[Og,N6];have hz:(cw w a ep es).length=es.size:=by rw[(j9 w a ep es).length_eq,ZF]
    by_cases P:j<c.size
    ·obtain⟨e,h,i⟩:=I.2 j _ (Nu P);rw[Nu P,h,i];rfl
    ·have h0:=I.1;rw[Q1 (by omega),PL (by omega)];rfl
   rw[Z];exact(j9 w a ep es).map _
open PySem PySem.W PyProof.Rows
noncomputable def aA{b:Type}(c:Nat->Nat->Bool):KasT b->b
 | .ret a=>a
 | .ask i j k=>aA c (k (c i j))
noncomputable def eQ{a:Type}(n:Nat)(c:Nat->Nat->Bool):KasT a->Prop
 | .ret _=>True
 | .ask i j k=>i<n/\j<n/\eQ n c (k (c i j))
theorem iN{a b:Type}(c:Nat->Nat->Bool)(f:a->KasT b):∀t:KasT a,aA c (t.bind f)=aA c (f (aA c t))
 | .ret _=>rfl
 | .ask i j k=>iN c f (k (c i j))
theorem gh{a d:Type}{n:Nat}{c:Nat->Nat->Bool}{f:a->KasT d}:∀{t:KasT a},eQ n c t->eQ n c (f (aA c t))->eQ n c (t.bind f)
 | .ret _,_,h=>h
 | .ask i j k,H,b=>⟨H.1,H.2.1,gh H.2.2 b⟩
theorem Mh{a:Type}{n:Nat}{c:Nat->Nat->Bool}{cmp:Nat->Nat->(Bool->MY->Prop)->MY->Prop}{s:MY}(h:∀i j C,i<n->j<n->C (c i j) s->cmp i j C s){G:a->MY->Prop}:∀{t:KasT a},eQ n c t->G (aA c t) s->t.kasWp cmp G s
 | .ret _,_,g=>g
 | .ask i j k,H,g=>h i j _ H.1 H.2.1 (Mh h H.2.2 g)
structure cV (n:Nat)(c:Nat->Nat->Bool):Prop where
 irr:∀i,i<n->c i i=MX
 asym:∀i j,i<n->j<n->c i j=MW->c j i=MX
 ntr:∀i j k,i<n->j<n->k<n->c i j=MX->c j k=MX->c i k=MX
structure ej (n:Nat)(p:Array Nat):Prop where
 size:p.size=n
 perm:p.Perm (M4 n).toArray
theorem ej.lt{p:Array Nat}(h:ej n p)(c:0<n)(k:Nat):p.getD k 0<n:=by
 unfold QJ;split
 ·rename_i a;have b:p[k]∈p:=RK a;have H:p[k]∈(M4 n).toArray:=h.perm.mem_iff.mp b;simpa using H
 ·exact c
theorem AD{p q:Array Nat}{i j:Nat}(h:p[i]?=q[j]?):p.getD i 0=q.getD j 0:=by rw[Nl,Nl,h]
section
variable {c:Nat->Nat->Bool}
def Up(c:Nat->Nat->Bool)(p:Array Nat)(k:Nat):Prop:=∀i,i+1<k->c (p.getD (i+1) 0) (p.getD i 0)=MX
def Dn(c:Nat->Nat->Bool)(p:Array Nat)(k:Nat):Prop:=∀i,i+1<k->c (p.getD i 0) (p.getD (i+1) 0)=MX
theorem Up.all(o:cV n c)(H:0<n){p:Array Nat}(P:ej n p)(h:Up c p k):∀d i,i+d<k->c (p.getD (i+d) 0) (p.getD i 0)=MX:=by
 intro d
 induction d with
 |zero=>intro i a;exact o.irr _ (P.lt H _)
 |succ d I=>intro i a;exact o.ntr _ (p.getD (i+d) 0) _ (P.lt H _) (P.lt H _) (P.lt H _) (h (i+d) (by omega)) (I i (by omega))
theorem Up.le(o:cV n c)(a:0<n){p:Array Nat}(P:ej n p)(h:Up c p k){i j:Nat}(H:i<=j)(b:j<k):c (p.getD j 0) (p.getD i 0)=MX:=by have:=h.all o a P (j-i) i (by simp_all);simp_all
theorem nG{p:Array Nat}(P:ej n p)(i j:Nat):ej n (kas_rev p i j):=⟨by unfold kas_rev;rw[mirror_size];exact P.size,(mirror_perm _ _ _ _).trans P.perm⟩
theorem gj{p:Array Nat}(P:ej n p){i j:Nat}(h:j<=n)(H:i<=k/\k<j):(kas_rev p i j).getD k 0=p.getD (i+j-1-k) 0:=AD (by unfold kas_rev;rw[getElem?_mirror_all (by rw[P.size];exact h),if_pos H])
theorem iO{p:Array Nat}(P:ej n p){i j:Nat}(h:j<=n)(H:¬(i<=k/\k<j)):(kas_rev p i j).getD k 0=p.getD k 0:=AD (by unfold kas_rev;rw[getElem?_mirror_all (by rw[P.size];exact h),if_neg H])
theorem tZ(H:0<n){p:Array Nat}(P:ej n p):∀(f m:Nat),Up c p m->1<=m->eQ n c (kas_asc p f m)/\m<=aA c (kas_asc p f m)/\aA c (kas_asc p f m)<=m+f/\Up c p (aA c (kas_asc p f m))/\
  (aA c (kas_asc p f m)<m+f->c (p.getD (aA c (kas_asc p f m)) 0) (p.getD (aA c (kas_asc p f m)-1) 0)=MW)
 |0,m,h,g=>⟨trivial,Zg _,Zg _,h,λz=>absurd z (Ni _)⟩
 |f+1,m,h,g=>by
  unfold kas_asc;simp only[eQ,aA];cases e:c (p.getD m 0) (p.getD (m-1) 0)with
  |true=>simp only[if_true,aA,eQ,and_true];exact⟨⟨P.lt H _,P.lt H _⟩,Zg _,by lia,h,λ_=>e⟩
  |false=>
   simp only[ZA,if_false]
   have d:Up c p (m+1):=λi l=>by
    by_cases z:i+1<m
    ·exact h i z
    ·have:i=m-1:=by lia
     simp_all
   obtain⟨a,j,k,A,b⟩:=tZ H P f (m+1) d (by omega);exact⟨⟨P.lt H _,P.lt H _,a⟩,by omega,by omega,A,λz=>b (by omega)⟩
def qP(c:Nat->Nat->Bool)(p:Array Nat)(i j:Nat):Prop:=∀a b,i<=a->a<j->i<=b->b<j->c (p.getD a 0) (p.getD b 0)=MX
theorem AE{p:Array Nat}(P:ej n p){i j:Nat}(H:j<=n)(h:qP c p i j):qP c (kas_rev p i j) i j:=λa b d e f g=>by rw[gj P H ⟨d,e⟩,gj P H ⟨f,g⟩];exact h _ _ (by omega) (by omega) (by omega) (by omega)
theorem kb(o:cV n c)(b:0<n){p:Array Nat}(P:ej n p){i j:Nat}(H:j<=n)(f:k<=n)(h:Dn c p k)(e:qP c p i j):Dn c (kas_rev p i j) k:=λa d=>by
 by_cases Z:i<=a/\a<j
 ·by_cases z:i<=a+1/\a+1<j
  ·exact AE P H e a (a+1) Z.1 Z.2 z.1 z.2
  ·rw[gj P H Z,iO P H z];have q:=e (i+j-1-a) a (by omega) (by omega) Z.1 Z.2;exact o.ntr _ _ _ (P.lt b _) (P.lt b _) (P.lt b _) q (h a d)
 ·by_cases z:i<=a+1/\a+1<j
  ·rw[iO P H Z,gj P H z];have q:=e (a+1) (i+j-1-(a+1)) z.1 z.2 (by omega) (by omega);exact o.ntr _ _ _ (P.lt b _) (P.lt b _) (P.lt b _) (h a d) q
  ·rw[iO P H Z,iO P H z];exact h a d
theorem nH(o:cV n c)(H:0<n):∀(f:Nat) (p:Array Nat) (m q:Nat),ej n p->Dn c p m->qP c p (m-(q+1)) m->q+1<=m->m+f<=n->
  eQ n c (kas_desc f p m q)/\ej n (aA c (kas_desc f p m q)).1/\Dn c (aA c (kas_desc f p m q)).1 (aA c (kas_desc f p m q)).2.1/\
   qP c (aA c (kas_desc f p m q)).1 ((aA c (kas_desc f p m q)).2.1-((aA c (kas_desc f p m q)).2.2+1)) (aA c (kas_desc f p m q)).2.1/\(aA c (kas_desc f p m q)).2.2+1<=(aA c (kas_desc f p m q)).2.1/\m<=(aA c (kas_desc f p m q)).2.1/\(aA c (kas_desc f p m q)).2.1<=m+f
 |0,p,m,q,P,h,e,u,L=>⟨trivial,P,h,e,u,Zg _,Zg _⟩
 |f+1,p,m,q,P,h,e,u,L=>by
  unfold kas_desc;simp only[eQ,aA];cases E:c (p.getD m 0) (p.getD (m-1) 0)with
  |true=>
   simp only[if_true];have as:=o.asym _ _ (P.lt H _) (P.lt H _) E
   have one:∀(d:Array Nat),ej n d->Dn c d m->c (d.getD (m-1) 0) (d.getD m 0)=MX->Dn c d (m+1)/\qP c d (m+1-(0+1)) (m+1):=λd r D z=>⟨λi J=>by
    by_cases y:i+1<m
    ·exact D i y
    ·have:i=m-1:=by omega
     subst this;rw[show m-1+1=m by omega];exact z,λa b s t C F=>by
    have:a=m:=by omega
    have:b=m:=by omega
    subst a;subst b;exact o.irr _ (r.lt H _)⟩
   by_cases G:q>0
   ·rw[if_pos G];have r:=nG P (m-(q+1)) m;have D:=kb o H P (by omega:m<=n) (by omega:m<=n) h e
    have z:c ((kas_rev p (m-(q+1)) m).getD (m-1) 0) ((kas_rev p (m-(q+1)) m).getD m 0)=MX:=by rw[gj P (by omega) (by omega),iO P (by omega) (by omega)];exact o.ntr _ (p.getD (m-1) 0) _ (P.lt H _) (P.lt H _) (P.lt H _) (e _ (m-1) (by omega) (by omega) (by omega) (by omega)) as
    obtain⟨K,v⟩:=one _ r D z;obtain⟨A,g,j,k,l,w,x⟩:=nH o H f _ (m+1) 0 r K v (by omega) (by omega);exact⟨⟨P.lt H _,P.lt H _,A⟩,g,j,k,l,by omega,by omega⟩
   ·rw[if_neg G];obtain⟨K,v⟩:=one p P h as;obtain⟨A,g,j,k,l,w,x⟩:=nH o H f p (m+1) 0 P K v (by omega) (by omega);exact⟨⟨P.lt H _,P.lt H _,A⟩,g,j,k,l,by omega,by omega⟩
  |false=>
   simp only[ZA,if_false,eQ,aA];cases B:c (p.getD (m-1) 0) (p.getD m 0)with
   |true=>simp only[if_true,aA,eQ,and_true];exact⟨⟨P.lt H _,P.lt H _,P.lt H _,P.lt H _⟩,P,h,e,u,Zg _,by omega⟩
   |false=>
    simp only[ZA,if_false]
    have D:Dn c p (m+1):=λi J=>by
     by_cases y:i+1<m
     ·exact h i y
     ·have:i=m-1:=by omega
      subst this;rw[show m-1+1=m by omega];exact B
    have I:qP c p (m+1-(q+1+1)) (m+1):=λa b s t C F=>by
     have R:∀a,m+1-(q+1+1)<=a->a<m+1->c (p.getD a 0) (p.getD (m-1) 0)=MX:=λa s t=>by
      by_cases y:a=m
      ·subst y;exact E
      ·exact e a (m-1) (by omega) (by omega) (by omega) (by omega)
     have M:∀a,m+1-(q+1+1)<=a->a<m+1->c (p.getD (m-1) 0) (p.getD a 0)=MX:=λa s t=>by
      by_cases y:a=m
      ·subst y;exact B
      ·exact e (m-1) a (by omega) (by omega) (by omega) (by omega)
     exact o.ntr _ _ _ (P.lt H _) (P.lt H _) (P.lt H _) (R a s t) (M b C F)
    obtain⟨A,g,j,k,l,w,x⟩:=nH o H f p (m+1) (q+1) P D I (by omega) (by omega);exact⟨⟨P.lt H _,P.lt H _,P.lt H _,P.lt H _,A⟩,g,j,k,l,by omega,by omega⟩
structure EX (n:Nat)(c:Nat->Nat->Bool)(r:Nat×Array Nat):Prop where
 pa:ej n r.2
 up:Up c r.2 r.1
 pos:1<=r.1
 le:r.1<=n
theorem AF(e:0<n){p:Array Nat}(P:ej n p){m:Nat}(h:Dn c p m)(h1:1<=m)(H:m<=n):eQ n c (kas_tail3 m n p)/\EX n c (aA c (kas_tail3 m n p)):=by
 have a:=nG P 0 m
 have u:Up c (kas_rev p 0 m) m:=λi j=>by
  rw[gj P H (by simp_all),gj P H (by lia)];have:=h (0+m-1-(i+1)) (by omega)
  rwa [show 0+m-1-(i+1)+1=0+m-1-i by grind]at this
 obtain⟨A,b,f,d,g⟩:=tZ (c:=c) e a (n-m) m u h1;unfold kas_tail3;rw[iN];exact⟨gh A trivial,a,d,Zy h1 b,by show aA c (kas_asc (kas_rev p 0 m) (n-m) m)<=n;simp_all⟩
theorem AG(o:cV n c)(H:0<n){p:Array Nat}(P:ej n p){m:Nat}(h:Dn c p (m+1))(u:m+1<=n):eQ n c (kas_descPart m n p)/\EX n c (aA c (kas_descPart m n p)):=by
 obtain⟨d,A,e,g,i,j,k⟩:=nH o H (n-(m+1)) p (m+1) 0 P h (λa b l q r s=>by
  have:a=b:=by omega
  subst this;exact o.irr _ (P.lt H _)) (by omega) (by omega)
 unfold kas_descPart;rw[iN];by_cases z:(aA c (kas_desc (n-(m+1)) p (m+1) 0)).2.2>0
 ·have f:=nG A ((aA c (kas_desc (n-(m+1)) p (m+1) 0)).2.1-((aA c (kas_desc (n-(m+1)) p (m+1) 0)).2.2+1)) (aA c (kas_desc (n-(m+1)) p (m+1) 0)).2.1;have D:=kb o H A (by omega) (by omega:(aA c (kas_desc (n-(m+1)) p (m+1) 0)).2.1<=n) e g;have t:=AF (c:=c) H f D (by omega) (by omega);rw[if_pos z];exact⟨gh d (by rw[if_pos z];exact t.1),t.2⟩
 ·have t:=AF (c:=c) H A e (by omega) (by omega);rw[if_neg z];exact⟨gh d (by rw[if_neg z];exact t.1),t.2⟩
theorem Ia(o:cV n c)(H:2<=n){p:Array Nat}(P:ej n p):eQ n c (kas_count n p)/\EX n c (aA c (kas_count n p)):=by
 have h:0<n:=by omega
 obtain⟨j,d,w,A,l⟩:=tZ (c:=c) h P (n-1) 1 (λi f=>by omega) (Zg 1);unfold kas_count;rw[iN];generalize s:aA c (kas_asc p (n-1) 1)=m at*
 have k:eQ n c (if(m==n)=MW then KasT.ret (m,p)else if m>1 then .ask (p.getD 0 0) (p.getD (m-1) 0) λc=>if c=MW then .ret (m,p)else kas_descPart m n (kas_rev p 0 m)else kas_descPart m n p)/\
   EX n c (aA c (if(m==n)=MW then KasT.ret (m,p)else if m>1 then .ask (p.getD 0 0) (p.getD (m-1) 0) λc=>if c=MW then .ret (m,p)else kas_descPart m n (kas_rev p 0 m)else kas_descPart m n p)):=by
  by_cases e:(m==n)=MW
  ·rw[if_pos e];exact⟨trivial,P,A,d,by show m<=n;omega⟩
  ·rw[if_neg e];have t:m≠n:=by simpa using e
   have G:=l (by omega);have as:=o.asym _ _ (P.lt h _) (P.lt h _) G;by_cases z:m>1
   ·rw[if_pos z];simp only[eQ,aA];cases r:c (p.getD 0 0) (p.getD (m-1) 0)with
    |true=>simp only[if_true,eQ,aA,and_true];exact⟨⟨P.lt h _,P.lt h _⟩,P,A,d,by show m<=n;omega⟩
    |false=>
     simp only[ZA,if_false];have eq:qP c p 0 m:=λa b _ H _ x=>by have R:=A.le o h P (Z1 a) H;have u:=A.le o h P (show b<=m-1 by omega) (by omega);exact o.ntr _ (p.getD (m-1) 0) _ (P.lt h _) (P.lt h _) (P.lt h _) (o.ntr _ (p.getD 0 0) _ (P.lt h _) (P.lt h _) (P.lt h _) R r) u
     have g:=nG P 0 m;have E:=AE P (by omega:m<=n) eq
     have D:Dn c (kas_rev p 0 m) (m+1):=λi f=>by
      by_cases y:i+1<m
      ·exact E i (i+1) (by omega) (by omega) (by omega) y
      ·have:i=m-1:=by omega
       subst this;rw[gj P (by omega) (by omega),iO P (by omega) (by omega),show m-1+1=m by omega];exact o.ntr _ (p.getD (m-1) 0) _ (P.lt h _) (P.lt h _) (P.lt h _) (eq _ (m-1) (by omega) (by omega) (by omega) (by omega)) as
     obtain⟨T,v⟩:=AG o h g D (by omega);exact⟨⟨P.lt h _,P.lt h _,T⟩,v⟩
   ·rw[if_neg z];have q:m=1:=by omega
    subst q;refine AG o h P (λi f=>?_) (by omega);have:i=0:=by omega
    subst this;exact as
 exact⟨gh j (by rw[s];exact k.1),k.2⟩
theorem t0(o:cV n c)(h:0<n){p:Array Nat}(P:ej n p){k:Nat}(u:Up c p k):∀(f l r:Nat),r<=k->l<=r->r-l<=f->(∀i,i<l->c (p.getD k 0) (p.getD i 0)=MX)->(∀i,r<=i->i<k->c (p.getD k 0) (p.getD i 0)=MW)->
  eQ n c (kas_place p k f l r)/\aA c (kas_place p k f l r)<=k/\(∀i,i<aA c (kas_place p k f l r)->c (p.getD k 0) (p.getD i 0)=MX)/\(∀i,aA c (kas_place p k f l r)<=i->i<k->c (p.getD k 0) (p.getD i 0)=MW)
 |0,l,r,b,t,q,H,a=>by
  have:l=r:=by omega
  subst this;exact⟨trivial,b,H,a⟩
 |f+1,l,r,b,t,q,H,a=>by
  unfold kas_place;by_cases z:l>=r
  ·rw[if_pos z];have:l=r:=by omega
   subst this;exact⟨trivial,b,H,a⟩
  ·rw[if_neg z];simp only[eQ,aA];cases E:c (p.getD k 0) (p.getD ((l+r)/2) 0)with
   |true=>
    simp only[if_true]
    have j:∀i,(l+r)/2<=i->i<k->c (p.getD k 0) (p.getD i 0)=MW:=λi m s=>by
     cases e:c (p.getD k 0) (p.getD i 0)with
     |true=>rfl
     |false=>have:=o.ntr _ (p.getD i 0) _ (P.lt h _) (P.lt h _) (P.lt h _) e (u.le o h P m s);rw[E]at this;cases this
    obtain⟨B,d⟩:=t0 o h P u f l ((l+r)/2) (by omega) (by omega) (by omega) H j;exact⟨⟨P.lt h _,P.lt h _,B⟩,d⟩
   |false=>
    simp only[ZA,if_false]
    have g:∀i,i<(l+r)/2+1->c (p.getD k 0) (p.getD i 0)=MX:=λi m=>
     o.ntr _ (p.getD ((l+r)/2) 0) _ (P.lt h _) (P.lt h _) (P.lt h _) E (u.le o h P (by omega) (by omega))
    obtain⟨B,d⟩:=t0 o h P u f ((l+r)/2+1) r b (by omega) (by omega) g a;exact⟨⟨P.lt h _,P.lt h _,B⟩,d⟩
theorem kc(o:cV n c)(H:0<n):∀(f:Nat) (p:Array Nat) (k:Nat),ej n p->Up c p k->k+f=n->eQ n c (kas_bin f p k)/\ej n (aA c (kas_bin f p k))/\Up c (aA c (kas_bin f p k)) n
 |0,p,k,P,u,h=>by
  have:k=n:=by omega
  subst this;exact⟨trivial,P,u⟩
 |f+1,p,k,P,u,h=>by
  unfold kas_bin;rw[iN];obtain⟨A,r,g,j⟩:=t0 o H P u k 0 k (Zg _) (Z1 _) (by omega) (λi a=>absurd a (Nat.not_lt_zero _)) (λi t v=>by omega);generalize E:aA c (kas_place p k k 0 k)=l at*;have d:ej n (bubble p k (k-l)):=⟨by rw[bubble_size];exact P.size,(bubble_perm _ _ _).trans P.perm⟩
  have at_:∀i,(bubble p k (k-l)).getD i 0=if i=l then p.getD k 0 else if l<i/\i<=k then p.getD (i-1) 0 else p.getD i 0:=λi=>by
   have e:=getElem?_bubble (xs:=p) (src:=k) (by rw[P.size];omega) (k-l) (by omega) i;rw[show k-(k-l)=l by omega]at e;rw[Nl,e];by_cases z:i=l
   ·rw[if_pos z,if_pos z,Nl]
   ·rw[if_neg z,if_neg z];by_cases Z:l<i/\i<=k
    ·rw[if_pos Z,if_pos Z,Nl]
    ·rw[if_neg Z,if_neg Z,Nl]
  have U:Up c (bubble p k (k-l)) (k+1):=λi a=>by
   rw[at_,at_];by_cases z:i+1=l
   ·rw[if_pos z,if_neg (by omega),if_neg (by omega)];exact g i (by omega)
   ·rw[if_neg z];by_cases Z:l<i+1/\i+1<=k
    ·rw[if_pos Z];by_cases b:i=l
     ·rw[if_pos b];have:=j i (by omega) (by omega);rw[show i+1-1=i by omega];exact o.asym _ _ (P.lt H _) (P.lt H _) this
     ·rw[if_neg b,if_pos (by omega)];have:=u (i-1) (by omega)
      rwa [show i-1+1=i+1-1 by omega]at this
    ·rw[if_neg Z,if_neg (by omega),if_neg (by omega)];exact u i (by omega)
  obtain⟨B,m,q⟩:=kc o H f (bubble p k (k-l)) (k+1) d U (by omega);exact⟨gh A (by rw[E];exact B),m,q⟩
theorem nI(o:cV n c)(h:2<=n):eQ n c (kas_sort n)/\ej n (aA c (kas_sort n))/\Up c (aA c (kas_sort n)) n:=by
 have P:ej n (M_ (M4 n)):=⟨by simp,.refl _⟩;obtain⟨A,a⟩:=Ia o h P;unfold kas_sort;rw[iN];by_cases z:(aA c (kas_count n (M_ (M4 n)))).1<n
 ·have e:max (aA c (kas_count n (M_ (M4 n)))).1 1=(aA c (kas_count n (M_ (M4 n)))).1:=Nat.max_eq_left a.pos;obtain⟨b,B,d⟩:=kc o (by lia) (n-max (aA c (kas_count n (M_ (M4 n)))).1 1) _ (max (aA c (kas_count n (M_ (M4 n)))).1 1) a.pa (by rw[e];exact a.up) (by lia);rw[if_pos z];exact⟨gh A (by rw[if_pos z];exact b),B,d⟩
 ·rw[if_neg z];have e:(aA c (kas_count n (M_ (M4 n)))).1=n:=by have:=a.le;lia
  refine⟨gh A (by rw[if_neg z];trivial),a.pa,?_⟩;have:=a.up
  rwa [e]at this
end
end Py
section
set_option autoImplicit false
namespace Py
open PySem PySem.W PySem.Spec PyProof.Rows
noncomputable def bN(n:Nat)(c:Nat->Nat->Bool)(i:Nat):Nat:=((M4 n).filter λj=>c j i).length
section
variable {κ:OU}
theorem nJ{c:Nat->Nat->Bool}(o:cV its.length c)(f:∀i j,i<its.length->j<its.length->its.getD i M7=its.getD j M7->bN its.length c i=bN its.length c j)(e:2<=its.length)(H:its.length<64)
  (b:∀i j C,i<its.length->j<its.length->C (c i j) s->kas_ask prog w A κ its i j C s) {Q:SortSt->MY->Prop}
  (h:∀(S:SortSt) (p:List Nat),failedOf S=none->(arrOf S).map (·.2)=M_ (p.map λi=>its.getD i M7)->p.Perm (M4 its.length)->p.Pairwise (λi j=>c j i=MX)->Q S s):
  wpAny (model prog w) A ((sortRuns').run (Rx κ (its.toArray.zip its.toArray) #[] 7 none)) (λr s'=>Q r.2 s') E s:=by
 obtain⟨n,q,t⟩:=nI o e;have P:(aA c (kas_sort its.length)).toList.Perm (M4 its.length):=Array.perm_iff_toList_perm.mp q.perm
 have m:(aA c (kas_sort its.length)).toList.Pairwise (λi j=>c j i=MX):=by
  rw[Nw];intro i j v x d;have l:(aA c (kas_sort its.length)).size=its.length:=q.size;have g:i<(aA c (kas_sort its.length)).size:=by omega
  have k:j<(aA c (kas_sort its.length)).size:=by omega
  have:=t.le o (by omega) q (OJ d) (by omega:j<its.length);simp_all
 have a:(kas_sort its.length).kasWp (kas_ask prog w A κ its) (λp s'=>p=aA c (kas_sort its.length)/\s'=s) s:=Mh b n ⟨rfl,rfl⟩
 have R:=kat_run (E:=E) (ks:=its) rfl e H (Q:=Q)
  (λp S s' y z Z u=>by obtain⟨rfl,rfl⟩:=u;exact h S _ Z (kat_snds rfl z) P m) a
 omega
end
end Py
end
namespace Py
structure g7 (P:D->Prop)(f:D->D->Bool):Prop where
 irr:∀x,P x->f x x=MX
 asym:∀x y,P x->P y->f x y=MW->f y x=MX
 ntr:∀x y z,P x->P y->P z->f x y=MX->f y z=MX->f x z=MX
 tot:∀x y,P x->P y->f x y=MX->f y x=MX->x=y
section
variable {P:D->Prop}{f:D->D->Bool}
theorem AH(o:g7 P f):∀(xs:List D),(∀x∈xs,P x)->bQ f xs xs=MX
 | [],_=>rfl
 |x::xs,h=>by dsimp only[bQ];rw[o.irr x (h x Ze)];exact AH o _ λy H=>h y (Zb _ H)
theorem AI(o:g7 P f):∀(xs ys:List D),(∀x∈xs,P x)->(∀x∈ys,P x)->bQ f xs ys=MW->bQ f ys xs=MX
 | [],[],_,_,h=>rfl
 | [],_::_,_,_,_=>rfl
 |_::_,[],_,_,h=>by cases h
 |x::xs,y::ys,a,b,h=>by
  dsimp only[bQ]at h⊢;cases e:f x y with
  |true=>rw[o.asym x y (a x Ze) (b y Ze) e];rfl
  |false=>
   rw[e]at h;cases E:f y x with
   |true=>simp_all
   |false=>rw[E]at h;exact AI o _ _ (λz H=>a z (Zb _ H)) (λz H=>b z (Zb _ H)) h
theorem lex_tot(o:g7 P f):∀(xs ys:List D),(∀x∈xs,P x)->(∀x∈ys,P x)->bQ f xs ys=MX->bQ f ys xs=MX->xs=ys
 | [],[],_,_,_,_=>rfl
 | [],_::_,_,_,h,_=>by cases h
 |_::_,[],_,_,_,h=>by cases h
 |x::xs,y::ys,b,c,h,H=>by
  dsimp only[bQ]at h H;cases e:f x y with
  |true=>simp_all
  |false=>
   cases E:f y x with
   |true=>simp_all
   |false=>rw[e,E]at h H;rw[o.tot x y (b x Ze) (c y Ze) e E,lex_tot o _ _ (λz a=>b z (Zb _ a)) (λz a=>c z (Zb _ a)) h H]
theorem AJ(o:g7 P f):∀(xs ys zs:List D),(∀x∈xs,P x)->(∀x∈ys,P x)->(∀x∈zs,P x)->bQ f xs ys=MX->bQ f ys zs=MX->bQ f xs zs=MX
 | [],[],zs,_,_,_,_,h=>h
 | [],_::_,_,_,_,_,h,_=>by cases h
 |_::_,_,[],_,_,_,_,_=>rfl
 |x::xs,[],z::zs,_,_,_,_,h=>by cases h
 |x::xs,y::ys,z::zs,g,i,j,H,a=>by
  have p:=g x Ze;have b:=i y Ze;have c:=j z Ze;simp only[bQ]at H a⊢;cases e:f x y with
  |true=>simp_all
  |false=>
   cases E:f y z with
   |true=>simp_all
   |false=>
    rw[e]at H;rw[E]at a;rw[o.ntr x y z p b c e E];cases d:f z x with
    |true=>rfl
    |false=>rw[o.ntr y z x b c p E d]at H;rw[o.ntr z x y c p b d e]at a;exact AJ o _ _ _ (λw hw=>g w (Zb _ hw)) (λw hw=>i w (Zb _ hw)) (λw hw=>j w (Zb _ hw)) H a
end
theorem cW(h:aq .int d=MW):∃i,d=.int i:=by cases d<;>first|lia| (simp[aq]at h)
theorem c9{t:ei}(h:aq (.seq t) d=MW):∃xs,d=.tup xs/\∀x∈xs,aq t x=MW:=by
 cases d with
 |tup xs=>exact⟨_,rfl,λx H=>Zn.mp h x H⟩
 |_=>simp[aq]at h
theorem gk:∀(t:ei),b7 t=MW->g7 (λd=>aq t d=MW) (bL t)
 | .int,_=>by
  refine⟨λx h=>?_,λx y H a h=>?_,λx y z H a f b c=>?_,λx y H a b c=>?_⟩
  ·obtain⟨i,rfl⟩:=cW h;simp[bL]
  ·obtain⟨i,rfl⟩:=cW H;obtain⟨j,rfl⟩:=cW a;simp[bL]at h⊢;lia
  ·obtain⟨i,rfl⟩:=cW H;obtain⟨j,rfl⟩:=cW a;obtain⟨k,rfl⟩:=cW f;simp[bL]at b c⊢;lia
  ·obtain⟨i,rfl⟩:=cW H;obtain⟨j,rfl⟩:=cW a;simp[bL]at b c;grind
 | .seq t,h=>by
  have o:=gk t h;refine⟨λx h=>?_,λx y H a h=>?_,λx y z H a f b c=>?_,λx y H a b c=>?_⟩
  ·obtain⟨X,rfl,k⟩:=c9 h;exact AH o X k
  ·obtain⟨X,rfl,K⟩:=c9 H;obtain⟨Y,rfl,e⟩:=c9 a;exact AI o X Y K e h
  ·obtain⟨X,rfl,K⟩:=c9 H;obtain⟨Y,rfl,e⟩:=c9 a;obtain⟨Z,rfl,g⟩:=c9 f;exact AJ o X Y Z K e g b c
  ·obtain⟨X,rfl,K⟩:=c9 H;obtain⟨Y,rfl,e⟩:=c9 a;exact ZU D.tup (lex_tot o X Y K e b c)
noncomputable def dL(t:ei)(d e:D):Bool:= !bL t d e&& !bL t e d
theorem Ib{t:ei}(hs:b7 t=MW){e:D}(h1:aq t d=MW)(H:aq t e=MW)(h:dL t d e=MW):d=e:=by unfold dL at h;simp at h;exact(gk t hs).tot d e h1 H h.1 h.2
theorem nK{f:D->D->Bool}{x y:D}:bQ f (x::xs) (y::ys)=if f x y=MW then MW else if f y x=MW then MX else bQ f xs ys:=rfl
theorem AK{t:ei}(hs:b7 t=MW):∀(xs ys:List D),(∀x∈xs,aq t x=MW)->(∀x∈ys,aq t x=MW)->dL (.seq t) (.tup xs) (.tup ys)=((M1 (dL t) xs ys).all id&&xs.length==ys.length)
 | [],[],_,_=>rfl
 | [],y::ys,_,_=>rfl
 |x::xs,[],_,_=>rfl
 |x::xs,y::ys,h,H=>by
  have i:=AK hs _ _ (λw hw=>h w (Zb _ hw)) λw hw=>H w (Zb _ hw);cases e:bL t x y with
  |true=>simp[dL,bL,bQ,e]
  |false=>
   cases E:bL t y x with
   |true=>simp[dL,bL,bQ,E]
   |false=>
    have a:dL t x y=MW:=by simp[dL,e,E]
    have b:dL (.seq t) (.tup (x::xs)) (.tup (y::ys))=dL (.seq t) (.tup xs) (.tup ys):=by show(!bQ _ _ _&& !bQ _ _ _)=(!bQ _ _ _&& !bQ _ _ _);rw[nK,nK,e,E];rfl
    simp_all
theorem allO_map(f:D->D->Bool):∀(xs ys:List D) (g:D->D->Option Bool),(∀x∈xs,∀y∈ys,g x y=some (f x y))->a8 (M1 g xs ys)=some ((M1 f xs ys).all id)
 | [],_,_,_=>rfl
 |_::_,[],_,_=>rfl
 |x::xs,y::ys,g,h=>by
  have i:=allO_map f xs ys g λa H b d=>h a (Zb _ H) b (Zb _ d)
  show(match g x y,a8 (M1 g xs ys)with
   |some b,some c=>some (b&&c)
   |_,_=>none)=_
  simp[*];done
theorem AL{t:ei}(hs:b7 t=MW){eq lt:D->D->Option Bool}:∀(xs ys:List D),(∀x∈xs,aq t x=MW)->(∀x∈ys,aq t x=MW)->(∀x∈xs,∀y∈ys,eq x y=some (dL t x y)/\lt x y=some (bL t x y))->xa eq lt xs ys=some (bQ (bL t) xs ys)
 | [],[],_,_,_=>rfl
 | [],_::_,_,_,_=>rfl
 |_::_,[],_,_,_=>rfl
 |x::xs,y::ys,H,d,h=>by
  have i:=AL hs xs ys (λw hw=>H w (Zb _ hw)) (λw hw=>d w (Zb _ hw)) λa f b g=>h a (Zb _ f) b (Zb _ g);obtain⟨k,K⟩:=h x Ze y Ze;dsimp only[xa];dsimp only[k,nK];cases e:bL t x y with
  |true=>
   have E:dL t x y=MX:=by simp[dL,e]
   simp_all
  |false=>
   cases c:bL t y x with
   |true=>
    have E:dL t x y=MX:=by simp[dL,c]
    simp_all
   |false=>
    have E:dL t x y=MW:=by simp[dL,e,c]
    simp_all
theorem Ic(S:ae):∀(t:ei),b7 t=MW->∀n,cH t<=n->∀d e,aq t d=MW->aq t e=MW->cb S n d e=some (dL t d e)/\ji S n d e=some (bL t d e)
 | .int,_,0,h,_,_,_,_=>by simp[cH]at h
 | .int,_,n+1,_,d,e,a,b=>by obtain⟨i,rfl⟩:=cW a;obtain⟨j,rfl⟩:=cW b;refine⟨?_,rfl⟩;show some (i==j)=some (!decide (i<j)&& !decide (j<i));congr 1;lia
 | .seq t,H,0,h,_,_,_,_=>by simp[cH]at h
 | .seq t,H,n+1,h,d,e,a,b=>by obtain⟨X,rfl,k⟩:=c9 a;obtain⟨Y,rfl,K⟩:=c9 b;have I:=Ic S t H n (by simpa[cH]using h);refine⟨?_,AL (t:=t) H X Y k K λx c y f=>I x y (k x c) (K y f)⟩;show(a8 (M1 (cb S n) X Y)).map (· &&X.length==Y.length)=_;simp only[allO_map (dL t) X Y _ λx c y f=>(I x y (k x c) (K y f)).1,AK (t:=t) H X Y k K];rfl
theorem nL(f:D->D->Bool)(x:D):∀l,(cF f x l).Perm (x::l)
 | []=>.refl _
 |y::Y=>by
  unfold cF;split
  ·exact .refl _
  ·exact((nL f x _).cons y).trans (.swap _ _ _)
theorem t4(f:D->D->Bool)(xs:List D):(d8 f xs).Perm xs:=by
 have k:∀(xs a:List D),(xs.foldl (λa x=>cF f x a) a).Perm (a++xs):=by
  intro xs
  induction xs with
  |nil=>simp_all
  |cons x xs i=>intro a;exact(i _).trans (((nL f x _).append_right _).trans Ob.symm)
 simpa[d8]using k _ []
theorem AM{P:D->Prop}{f:D->D->Bool}(o:g7 P f)(x:D)(p:P x):∀l,(∀y∈l,P y)->l.Pairwise (λa b=>f b a=MX)->(cF f x l).Pairwise (λa b=>f b a=MX)
 | [],_,_=>by simp[cF]
 |y::j,d,h=>by
  simp[cF];have e:=d y Ze;obtain⟨g,i⟩:=Zv.mp h;split
  ·rename_i c;refine Zv.mpr ⟨λz H=>?_,h⟩;have Y:=o.asym x y p e c;rcases Zf.mp H with rfl|H
   ·exact Y
   ·exact o.ntr z y x (d z (Zb _ H)) e p (g z H) Y
  ·refine Zv.mpr ⟨λz H=>?_,AM o x p _ (λw hw=>d w (Zb _ hw)) i⟩;rcases Zf.mp ((nL f x _).mem_iff.mp H)with rfl|H
   ·simp_all
   simp_all
theorem AN{P:D->Prop}{f:D->D->Bool}(o:g7 P f)(xs:List D)(e:∀x∈xs,P x):(d8 f xs).Pairwise (λa b=>f b a=MX):=by
 have k:∀(xs A:List D),(∀x∈xs,P x)->(∀x∈A,P x)->A.Pairwise (λa b=>f b a=MX)->(xs.foldl (λA x=>cF f x A) A).Pairwise λa b=>f b a=MX:=by
  intro xs
  induction xs with
  |nil=>intro A _ _ h;exact h
  |cons x xs i=>
   intro A c d h;have p:=c x Ze;refine i _ (λy H=>c y (Zb _ H)) (λy H=>?_) (AM o x p _ d h);rcases Zf.mp ((nL f x _).mem_iff.mp H)with rfl|H
   ·exact p
   simp_all
 exact k _ _ e (by simp) .nil
theorem AO{t:ei}(hs:b7 t=MW)(h:∀x∈xs,aq t x=MW)(p:ys.Perm xs)(s:ys.Pairwise (λa b=>bL t b a=MX)):ys=d8 (bL t) xs:=by have o:=gk t hs;exact O8 (λa b d e H c=>o.tot a b (h a (p.mem_iff.mp d)) (h b ((t4 _ _).mem_iff.mp e)) c H) s (AN o _ h) (p.trans (t4 _ _).symm)
open PySem PySem.W PySem.Spec PyProof.Rows
def g8(its:Lv)(c:Nat->Nat->Bool)(out:Lv):Prop:=∃p:List Nat,out=p.map (λi=>its.getD i M7)/\p.Perm (M4 its.length)/\p.Pairwise (λi j=>c j i=MX)
theorem AQ{V:Nat}{c:Nat->Nat->Bool}{P:PySem.Fin->MY->Prop}(B:s.heap.get? a=some (seqObj "list" its.toArray V))(D:its.length<64)
  (I:2<=its.length->∃κ:OU,cV its.length c/\(∀i j,i<its.length->j<its.length->its.getD i M7=its.getD j M7->bN its.length c i=bN its.length c j)/\∀h':M8,(∀b o,b≠a->s.heap.get? b=some o->h'.get? b=some o)->
   (∀(J:OU->MY->Prop),J κ {s with heap:=h'}->wpAny (model prog w) A (keyKind' its.toArray) J E {s with heap:=h'})/\
   ∀i j C,i<its.length->j<its.length->C (c i j) {s with heap:=h'}->kas_ask prog w A κ its i j C {s with heap:=h'})
  (M:∀h' q out,(∀b o,b≠a->s.heap.get? b=some o->h'.get? b=some o)->h'.get? a=some (seqObj "list" (M_ out) q)->g8 its c out->P (.done (.ret .none)) {s with heap:=h'}):
  wpAny (model prog w) A (N5.«list.sort» ⟨[.ref a],[]⟩) P E s:=by
 have l:its.length<=sizeLine:=by rw[Oh];omega
 have X:a<s.heap.objs.size:=Zj B;have W:=ZQ s.heap a (NC λ_=>(#[]:Av));obtain⟨u,x⟩:∃u,(s.heap.update a (NC λ_=>(#[]:Av))).get? a=some (seqObj "list" #[] u):=⟨_,get?_update_seq B λ_=> #[]⟩
 have k:∀b o,b≠a->s.heap.get? b=some o->(((s.heap.update a (NC λ_=>(#[]:Av))).push (seqObj "tuple" its.toArray 0)).push (seqObj "list" #[] 0)).get? b=some o:=λb o z e=>
  Zc _ (Zc _ ((W.2 b z).trans e))
 have m:(((s.heap.update a (NC λ_=>(#[]:Av))).push (seqObj "tuple" its.toArray 0)).push (seqObj "list" #[] 0)).get? a=some (seqObj "list" #[] u):=Zc _ (Zc _ x);rw[list_sort_plain];refine Za (listItems_at B rfl ?_);refine Za (listUpdate_at B rfl ?_ (by rw[ZB];exact l) (Z1 _));refine Za (seqEpoch_at x rfl ?_);refine Za (wpAny_newTuple ?_ (by show its.length<=_;exact l));refine Za (RF ?_ (Z1 _));refine ZI ?_;show wpAny (model prog w) A _ P E {s with heap:=((s.heap.update a (NC λ_=>(#[]:Av))).push (seqObj "tuple" its.toArray 0)).push (seqObj "list" #[] 0)};generalize((s.heap.update a (NC λ_=>(#[]:Av))).push (seqObj "tuple" its.toArray 0)).push (seqObj "list" #[] 0)=g at*
 have fin:∀(S:SortSt) (out:Lv),(arrOf S).map (·.2)=M_ out->failedOf S=none->out.length=its.length->g8 its c out->
   wpAny (model prog w) A (do
    let t:=(<-seqEpoch a) !=u
    Qu (.ref a) λ_=>(arrOf S).map (·.2)
    if let some e:=failedOf S then rule "list.sort.comparison-raised";throw e
    if t then rule "list.sort.modified";raiseError "ValueError" "list modified during sort"
    ret .none) P E {s with heap:=g}:=by
  intro S out H v d F;have s2:=ZQ g a (NC λ_=>M_ out);obtain⟨q,G⟩:∃q,(g.update a (NC λ_=>M_ out)).get? a=some (seqObj "list" (M_ out) q):=⟨_,get?_update_seq m λ_=>M_ out⟩;rw[H];refine Za (seqEpoch_at m rfl ?_);refine Za (listUpdate_at m rfl ?_ (Z1 _) (by rw[ZB,d];exact Nat.le_succ_of_le l));rw[v];simp only[bne_self_eq_false,ZA,if_false];exact Zd (M _ q out (λb o z e=>(s2.2 b z).trans (k b o z e)) G F)
 by_cases n:2<=its.length
 ·have f:¬its.toArray.size<2:=by rw[ZB];omega
  rw[if_neg f,if_neg f];obtain⟨κ,o,y,I⟩:=I n;obtain⟨T,U⟩:=I g k;refine Za (T _ ?_)
  have R:=nJ (E:=E) o y n D U (Q:=λS L=>L={s with heap:=g}/\failedOf S=none/\∃out:Lv,(arrOf S).map (·.2)=M_ out/\out.length=its.length/\g8 its c out)
   (λS p v H K O=>⟨rfl,v,_,H,by rw[Zk,K.length_eq,List.length_range],p,rfl,K,O⟩)
  refine Za (Nn R (λr L N=>?_) λ_ _ e=>e);obtain⟨⟨⟩,S⟩:=r;obtain⟨rfl,v,out,H,d,F⟩:=N;exact fin S _ H v d F
 ·have f:its.toArray.size<2:=by rw[ZB];omega
  rw[if_pos f,if_pos f];refine Za (Zd ?_)
  show wpAny (model prog w) A (do
    let t:=(<-seqEpoch a) !=u
    Qu (.ref a) λ_=>(arrOf (Rx general' (its.toArray.zip its.toArray) #[] 7 none)).map (·.2)
    if let some e:=failedOf (Rx general' (its.toArray.zip its.toArray) #[] 7 none)then rule "list.sort.comparison-raised";throw e
    if t then rule "list.sort.modified";raiseError "ValueError" "list modified during sort"
    ret .none) P E {s with heap:=g}
  refine fin _ its ?_ rfl rfl ⟨M4 its.length,?_,.refl _,?_⟩
  ·show(its.toArray.zip its.toArray).map (·.2)=its.toArray;apply Array.toList_inj.mp;rw[R6,Array.toList_zip];exact List.map_snd_zip (Zg _)
  ·refine Pq (by simp) λi g n=>?_;simp[g]
  ·match its,n with
   | [],_=>simp
   | [_],_=>simp
   |_::_::_,n=>simp at n
end Py
namespace Py
open PySem PySem.W PySem.Spec PyProof.Rows L2
theorem Ie{b:Bool}{l:MZ}{c:Nat->Nat->Bool}{Q:Vs}(x:b8 b s.heap l its.toArray)(g:its.length<64)
  (r:2<=its.length->∃κ:OU,cV its.length c/\(∀i j,i<its.length->j<its.length->its.getD i M7=its.getD j M7->bN its.length c i=bN its.length c j)/\∀h':M8,(∀b o,s.heap.get? b=some o->h'.get? b=some o)->
   (∀(E':Vs) (u:OU->MY->Prop),u κ {s with heap:=h'}->wpAny (model prog w) A.in1.in1 (keyKind' its.toArray) u E' {s with heap:=h'})/\
   ∀i j C,i<its.length->j<its.length->C (c i j) {s with heap:=h'}->kas_ask prog w A.in1.in1 κ its i j C {s with heap:=h'})
  (z:∀(h1 h':M8) f out,(∀b o,s.heap.get? b=some o->h1.get? b=some o)->(∀b o,h1.get? b=some o->h'.get? b=some o)->h'.get? h1.objs.size=some (seqObj "list" (M_ out) f)->g8 its c out->Q (.ref h1.objs.size) {s with heap:=h'}):
  wpAny (model prog w) A (call (.builtin "sorted") [.ref l]) Q E s:=by
 refine QO kind_sorted plain_sorted entry_sorted (args_sorted1 _) ?_;unfold N5.«sorted»;refine Za (m:=checkCount "sorted" 1 1 _) (Zd ?_);have H:its.length<=sizeLine:=by rw[Oh];omega
 have d:its.toArray.size<=sizeLine:=by rw[ZB];exact H
 have G:∀h1:M8,(∀b o,s.heap.get? b=some o->h1.get? b=some o)->wpAny (model prog w) A.in1 (do
   let l <-newList its
   let _ <-holding [l] (call (.builtin "list.sort") [l])
   ret l) (λfin F=>∃v,fin=.done (.ret v)/\Q v F) E {s with heap:=h1}:=by
  intro h1 k;refine Za (RF ?_ H);have a:(h1.push (seqObj "list" its.toArray 0)).get? h1.objs.size=some (seqObj "list" its.toArray 0):=Zi _ rfl;refine Za (ZI (ZR slot_list_sort ⟨_,a,rfl⟩ entry_list_sort ?body (args_list_sort _)))
  case body=>
   refine AQ (c:=c) (s:={s with heap:=h1.push (seqObj "list" its.toArray 0)}) a g (λy=>?_) λh' f out K e O=>?_
   ·obtain⟨κ,o,S,r⟩:=r y;refine⟨κ,o,S,λh' K=>?_⟩;obtain⟨B,D⟩:=r h' λb o e=>K b o (Zq (Zj (k b o e))) (Zc _ (k b o e));exact⟨B _,D⟩
   ·exact⟨_,rfl,Zd ⟨_,rfl,z h1 h' f out k (λb o e=>K b o (Zq (Zj e)) (Zc _ e)) e O⟩⟩
 cases b with
 |true=>obtain⟨o,t,p,n,q⟩:=x;exact Za (wpAny_collect_seq l (.inl rfl) t p q (λh1 k=>by simpa using G h1 k) d)
 |false=>obtain⟨o,t,p,n,q⟩:=x;exact Za (wpAny_collect_seq l (.inr rfl) t p q (λh1 k=>by simpa using G h1 k) d)
theorem Ig(I:Inv X pq σ H s)(a:aI X.K ⟨X.mg,F⟩ μ S H){t:ei}(hs:b7 t=MW)(i:cH t<=40)(h:A.units+40<cLine){e:D}{b:V}{z:M0}(h1:aq t d=MW)(g:aq t e=MW)
  (r:Rep X.K ⟨X.mg,F⟩ μ H d v) (q:RelV v u) (R:Rep X.K ⟨X.mg,F⟩ μ H e b) (Q:RelV b z):PySem.SeqAt.EqAt A s u z (dL t d e)/\gS A s u z (bL t d e):=by
 obtain⟨c,f⟩:=Ic S t hs _ i d e h1 g;exact⟨(w_ I a _ A h d e v _ u z _ r q R Q c).2.2,jD I a _ A h d e v _ u z _ r q R Q f⟩
theorem AR{prog:M5}{w:Nc}{A:NM}{Q:Bool->MY->Prop}{t:ei}{b:Bool}(g:b=MW->t=.int):∀(ds es:List D) (us zs:Lv) (i:Nat),(∀d∈ds,aq t d=MW)->(∀e∈es,aq t e=MW)->ds.length=us.length->es.length=zs.length->
  (∀(j:Nat) d e u z,ds[j]?=some d->es[j]?=some e->us[j]?=some u->zs[j]?=some z->PySem.SeqAt.EqAt A s u z (dL t d e)/\gS A s u z (bL t d e)/\(t=.int->∃a b ta tb,d=.int a/\e=.int b/\u=.int a ta/\z=.int b tb))->
  Q (bQ (bL t) ds es) s->KatLex prog w A b (decide (us.length<zs.length)) Q (us.zip zs) i s
 | [],[],us,zs,i,_,_,L,l,_,q=>by have E:us=[]:=ZM L.symm;have f:zs=[]:=ZM l.symm;subst E;subst f;exact kat_nil q
 | [],e::es,us,zs,i,_,_,L,l,_,q=>by
  have E:us=[]:=ZM L.symm;subst E;have:decide (([]:Lv).length<zs.length)=MW:=by grind
  rw[this,Pk];exact kat_nil q
 |d::ds,[],us,zs,i,_,_,L,l,_,q=>by
  have E:zs=[]:=ZM l.symm;subst E;have:decide (us.length<([]:Lv).length)=MX:=by simp
  rw[this,Qd];exact kat_nil q
 |d::ds,e::es,[],zs,i,_,_,L,_,_,_=>by simp at L
 |d::ds,e::es,_::_,[],i,_,_,_,l,_,_=>by simp at l
 |d::ds,e::es,u::us,z::zs,i,I,J,L,l,h,q=>by
  obtain⟨M,O,P⟩:=h 0 d e u z rfl rfl rfl rfl;have G:decide ((u::us).length<(z::zs).length)=decide (us.length<zs.length):=by simp
  rw[G,Z2];refine kat_cons (M prog w _ _ ?_);rw[nK]at q
  have N:∀{k:Bool},bL t d e=k->dL t d e=MX->Q k s->KatGo prog w A b (decide (us.length<zs.length)) Q u z (us.zip zs) i MX s:=λ{k} n _ o=>by
   clear q;refine kat_no ?_;cases H:(b&&i==0)with
   |false=>exact kat_one u z (O prog w _ _ (by rw[n];exact o))
   |true=>simp only[ZN]at H;obtain⟨a,B,ta,tb,rfl,rfl,rfl,rfl⟩:=P (g H.1);have K:=g H.1;subst K;exact oneLt_int (by rw[show decide (a<B)=k from n];exact o)
  cases E:bL t d e with
  |true=>
   have c:dL t d e=MX:=by simp[dL,E]
   rw[E]at q;rw[c];exact N E c (by simpa using q)
  |false=>
   cases f:bL t e d with
   |true=>
    have c:dL t d e=MX:=by simp[dL,E,f]
    rw[E,f]at q;rw[c];exact N E c (by simpa using q)
   |false=>
    have c:dL t d e=MW:=by simp[dL,E,f]
    rw[E,f]at q;rw[c];refine kat_yes (AR g ds es us zs (i+1) (λx m=>I x (Zb _ m)) (λx m=>J x (Zb _ m)) (by grind) (by simpa using l) (λj C F U Z p r v y=>h (j+1) C F U Z p r v y) (by simpa using q))
end Py
namespace Py
open PySem PySem.W PySem.Spec PyProof.Rows L2
end Py
namespace Py
open PySem PySem.W PySem.Spec PyProof.Rows L2
noncomputable def iP:ei->String
 | .int=>"int"
 |_=>"tuple"
theorem ke(I:Inv X pq σ H s){t:ei}(hs:b7 t=MW)(h:aq t d=MW)(r:Rep X.K ⟨X.mg,F⟩ μ H d v)(q:RelV v u):Looks (model X.prog X.w) s.heap (typeOf u) (.type (iP t)):=by
 have tup:∀x,d=.tup x->Looks (model X.prog X.w) s.heap (typeOf u) (.type "tuple"):=by
  rintro x rfl;obtain⟨a,vs,rfl,c,_⟩:=bV r;subst q;obtain⟨e,_,p,_⟩:=I.tuple c;obtain⟨o,b,f,_⟩:=p;have:=show Looks (model X.prog X.w) _ (typeOf (.ref a)) _ from(Looks.ld b).andThen .now
  simp_all
 cases t with
 |int=>obtain⟨i,rfl⟩:=cW h;cases aE r;obtain⟨T,rfl⟩:=q;exact(show Looks _ _ _ _ from .now)
 |seq t=>obtain⟨x,rfl,_⟩:=c9 h;exact tup _ rfl
theorem AS(I:Inv X pq σ H s){t:ei}(hs:b7 t=MW):∀(ys:List D) (vs:List V) (its:Lv),(∀d∈ys,aq (.seq t) d=MW/\d≠.tup [])->ah X.K ⟨X.mg,F⟩ μ H ys vs->Vals vs its->
  ∃fs,KatTups s.heap its fs/\fs.length=its.length/\∀f∈fs,Looks (model X.prog X.w) s.heap (typeOf f) (.type (iP t))
 | [],vs,its,_,r,q=>by subst r;cases q;exact⟨[],KatTups.nil,rfl,λ_ h=>nomatch h⟩
 |d::ys,vs,its,h,r,q=>by
  obtain⟨v,W,rfl,E,G⟩:=r.uncons;cases q with
  |cons Q C=>
   rename_i u i;obtain⟨fs,K,N,O⟩:=AS I hs ys W i (λe y=>h e (Zb _ y)) G C;obtain⟨j,k⟩:=h d Ze;obtain⟨c,rfl,B⟩:=c9 j;cases c with
   |nil=>exact absurd rfl k
   |cons x c=>
    obtain⟨a,as,rfl,A,R⟩:=bV E;subst Q;obtain⟨T,J,p,_⟩:=I.tuple A;obtain⟨w,M,rfl,L,_⟩:=R.uncons;cases J with
    |cons P S=>
     rename_i f U;obtain⟨o,z,l,n,m⟩:=p;refine⟨f::fs,KatTups.cons z l m (by rfl) K,by simp_all,λg b=>?_⟩;rcases Zf.mp b with rfl|b
     ·exact ke I hs (B x Ze) L P
     simp_all
theorem Ih(I:Inv X pq σ H s)(sk:aI X.K ⟨X.mg,F⟩ μ S H){t:ei}(hs:b7 t=MW)(hd:cH t<=40)(hu:A.units+42<cLine){e:D}{y:V}{z:M0}(h1:aq (.seq t) d=MW)(h2:aq (.seq t) e=MW)
  (r1:Rep X.K ⟨X.mg,F⟩ μ H d v) (q1:RelV v u) (r2:Rep X.K ⟨X.mg,F⟩ μ H e y) (q2:RelV y z) {C:Bool->MY->Prop}  (hC:C (bL (.seq t) d e) s):wpAny (model X.prog X.w) A (keyLt' (tuples' (Nq (iP t) !=Nq "tuple")) u z) C E s:=by
 obtain⟨B,rfl,c⟩:=c9 h1;obtain⟨Y,rfl,f⟩:=c9 h2;obtain⟨a,as,rfl,ha,r⟩:=bV r1;obtain⟨b,bs,rfl,h,R⟩:=bV r2;cases q1;cases q2;obtain⟨U,q,pa,_⟩:=I.tuple ha;obtain⟨Z,x,pb,_⟩:=I.tuple h;obtain⟨oa,T,_,na,M⟩:=pa;obtain⟨ob,W,_,nb,N⟩:=pb;refine kat_lt T M W N ?_;have l1:B.length=U.length:=by rw[r.length,q.length]
 have l2:Y.length=Z.length:=by rw[R.length,x.length]
 have:=AR (prog:=X.prog) (w:=X.w) (A:=A) (s:=s) (Q:=C) (t:=t) (b:=(Nq (iP t) !=Nq "tuple")) (λh=>?_) B Y U Z 0 c f l1 l2 (λj d e u z g G g3 g4=>?_) hC
 ·simpa using this
 ·cases t with
  |int=>rfl
  |seq t=>exact absurd h (by show ¬((Nq "tuple" !=Nq "tuple")=MW);decide)
 ·obtain⟨w1,O,K⟩:=r.get g;obtain⟨w2,P,m⟩:=R.get G;obtain⟨u',k,n⟩:=q.get O;obtain⟨z',l,o⟩:=x.get P;rw[g3]at k;cases k;rw[g4]at l;cases l;obtain⟨J,L⟩:=Ig I sk hs hd (A:=A) (by omega) (c d (Zr g)) (f e (Zr G)) K n m o;refine⟨J,L,λht=>?_⟩;subst ht;obtain⟨i,rfl⟩:=cW (c d (Zr g));obtain⟨j,rfl⟩:=cW (f e (Zr G));cases aE K;cases aE m;obtain⟨ta,rfl⟩:=n;obtain⟨tb,rfl⟩:=o;exact⟨i,j,ta,tb,rfl,rfl,rfl,rfl⟩
section
variable {t:ei}{vs:List V}
theorem kf(h:f7 t ys=MW):b7 t=MW:=by
 cases t with
 |int=>rfl
 |seq t=>unfold f7 at h;simp only[ZN]at h;exact h.1
theorem Mi(h:∀y∈ys,aq t y=MW)(r:ah X.K ⟨X.mg,F⟩ μ H ys vs)(a:Vals vs its):∀i,i<its.length->∃d v u,ys[i]?=some d/\vs[i]?=some v/\its[i]?=some u/\aq t d=MW/\Rep X.K ⟨X.mg,F⟩ μ H d v/\RelV v u/\ys.getD i .non=d/\its.getD i M7=u:=λi c=>by have l:=r.length;have L:=a.length;have e:ys[i]?=some ys[i]:=Zh _;obtain⟨v,E,k⟩:=r.get e;obtain⟨u,b,K⟩:=a.get E;simp_all
theorem AU(I:Inv X pq σ H s)(sk:aI X.K ⟨X.mg,F⟩ μ S H)(hu:X.A.units+64<cLine)(O:cH t<=40)(n:∀y∈ys,aq t y=MW)(A:f7 t ys=MW)(rr:ah X.K ⟨X.mg,F⟩ μ H ys vs)(hv:Vals vs its)(h2:2<=its.length):
  ∃κ:OU,cV its.length (λi j=>bL t (ys.getD i .non) (ys.getD j .non))/\(∀i j,i<its.length->j<its.length->its.getD i M7=its.getD j M7->bN its.length (λi j=>bL t (ys.getD i .non) (ys.getD j .non)) i=bN its.length (λi j=>bL t (ys.getD i .non) (ys.getD j .non)) j)/\∀h':M8,(∀b o,s.heap.get? b=some o->h'.get? b=some o)->
   (∀(E':Vs) (W:OU->MY->Prop),W κ {s with heap:=h'}->wpAny (model X.prog X.w) X.A.in1.in1 (keyKind' its.toArray) W E' {s with heap:=h'})/\
   ∀i j C,i<its.length->j<its.length->C (bL t (ys.getD i .non) (ys.getD j .non)) {s with heap:=h'}->kas_ask X.prog X.w X.A.in1.in1 κ its i j C {s with heap:=h'}:=by
 have Q:b7 t=MW:=kf A;have lo:=gk t Q;have at_:=Mi n rr hv
 have V:cV its.length (λi j=>bL t (ys.getD i .non) (ys.getD j .non)):=by
  have ty:∀i,i<its.length->aq t (ys.getD i .non)=MW:=λi a=>by obtain⟨d,v,u,Z,e2,E,k1,k2,k3,k4,k5⟩:=at_ i a;rw[k4];exact k1
  exact⟨λi a=>lo.irr _ (ty i a),λi j a l=>lo.asym _ _ (ty i a) (ty j l),λi j k a l hk=>lo.ntr _ _ _ (ty i a) (ty j l) (ty k hk)⟩
 have p:∀i j,i<its.length->j<its.length->its.getD i M7=its.getD j M7->bN its.length (λi j=>bL t (ys.getD i .non) (ys.getD j .non)) i=bN its.length (λi j=>bL t (ys.getD i .non) (ys.getD j .non)) j:=λi j a l P=>by obtain⟨d,v,u,Z,e2,E,m,r,w,B,D⟩:=at_ i a;obtain⟨Y,v',u',K,L,M,g,G,c,e,f⟩:=at_ j l;rw[D,f]at P;subst P;have ev:v=v':=w.inj c;subst ev;have:=yp I sk 40 d Y v _ r G (Ic S t Q 40 O d Y m g).1;have hde:=Ib Q m g this;subst hde;unfold bN;simp only[B,e]
 have hu2:(X.A.in1.in1).units+42<cLine:=by show X.A.units+1+1+42<cLine;omega
 cases t with
 |int=>
  refine⟨oneType',V,p,λh' kp=>⟨λE' W q=>?_,λi j C a l N=>?_⟩⟩
  ·have J:Inv X pq σ H {s with heap:=h'}:=I.kept (t':=s.toks) kp;refine kas_kind (T:=.type "int") h2 (λu hu=>?_) (by decide) (by decide) q;obtain⟨i,a,rfl⟩:=ZH.mp hu;obtain⟨d,v,u,Z,e2,E,m,r,w,B,D⟩:=at_ i a;rw[Zh a]at E;cases E;exact ke (t:=.int) J rfl m r w
  ·obtain⟨d,v,u,Z,e2,E,m,r,w,B,D⟩:=at_ i a;obtain⟨Y,v',u',K,L,M,g,G,c,e,f⟩:=at_ j l;unfold kas_ask;rw[D,f];rw[B,e]at N;obtain⟨x,rfl⟩:=cW m;obtain⟨y,rfl⟩:=cW g;cases aE r;cases aE G;obtain⟨ta,rfl⟩:=w;obtain⟨tb,rfl⟩:=c;exact kat_lt_int N
 |seq t=>
  unfold f7 at A;have R:=(OW.mp A).2;have U:=R
  have hne:∀y∈ys,aq (.seq t) y=MW/\y≠.tup []:=λy hy=>⟨n y hy,λz=>by have:=Zn.mp U y hy;rw[z]at this;cases this⟩;refine⟨tuples' (Nq (iP t) !=Nq "tuple"),V,p,λh' kp=>⟨λE' W q=>?_,λi j C a l N=>?_⟩⟩
  ·have J:Inv X pq σ H {s with heap:=h'}:=I.kept (t':=s.toks) kp;obtain⟨fs,f1,f2,f3⟩:=AS (t:=t) J Q ys vs its hne rr hv;exact kat_kind (T:=.type (iP t)) f1 (by omega) f3 (by simp) q
  ·have J:Inv X pq σ H {s with heap:=h'}:=I.kept (t':=s.toks) kp;obtain⟨d,v,u,Z,e2,E,m,r,w,B,D⟩:=at_ i a;obtain⟨Y,v',u',K,L,M,g,G,c,e,f⟩:=at_ j l;unfold kas_ask;rw[D,f];rw[B,e]at N;exact Ih (t:=t) J sk Q (by simp[cH]at O;omega) hu2 m g r w G c N
theorem AV(b:f7 t ys=MW)(a:∀y∈ys,aq t y=MW)(r:ah X.K ⟨X.mg,F⟩ μ H ys vs)(f:Vals vs its){out:Lv}(O:g8 its (λi j=>bL t (ys.getD i .non) (ys.getD j .non)) out):∃w,w.length=its.length/\ah X.K ⟨X.mg,F⟩ μ H (d8 (bL t) ys) w/\Vals w out:=by
 have at_:=Mi a r f;have L:ys.length=vs.length:=r.length;have q:vs.length=its.length:=f.length;obtain⟨p,rfl,P,n⟩:=O;have m:∀i∈p,i<its.length:=λi o=>by grind
 have e:p.length=its.length:=by rw[P.length_eq];simp
 have fin:ah X.K ⟨X.mg,F⟩ μ H (p.map λi=>ys.getD i .non) (p.map λi=>vs.getD i .non):=ah.of (by simp) λj d v g c=>by
  grind
 have fin2:=by
  have:∀(l:List Nat),(∀i∈l,i<its.length)->Vals (l.map λi=>vs.getD i .non) (l.map λi=>its.getD i M7):=by
   intro l
   induction l with
   |nil=>exact λ_=>.nil
   |cons i l I=>intro h;refine .cons ?_ (I λj k=>h j (Zb _ k));simp_all
  exact this p m
 have s:(p.map λi=>ys.getD i .non)=d8 (bL t) ys:=by
  refine AO (kf b) a ?_ ?_
  ·have:=P.map λi=>ys.getD i .non;refine this.trans (.of_eq ?_);refine Pq (by grind) λi g c=>?_;simp[c]
  ·rw[Nr];exact n
 grind
end
theorem Ii(V:X.A.units+64<cLine)(box:Bool)(t:ei)(A:cH t<=40):aS X (.builtin "sorted") (rC X.K X.mg (gX box t)):=by
 intro P s E H xs us Q I r h;obtain⟨F,μ,S,ds,z,rl,w⟩:=h;unfold gX at w;split at w
 ·rename_i d;obtain⟨v,rfl,rd⟩:=rl.one;obtain⟨u,rfl,ru⟩:=vals1 r;split at w
  ·rename_i Y e;split at w
   ·rename_i T;obtain⟨B,N,o⟩:=T;have g:∀y∈Y,aq t y=MW:=λy W=>Zn.mp B y W;obtain⟨a,vs,rfl,n,R⟩:=eT z rd e;cases ru
    obtain⟨b,f,U,x⟩:∃b f,b8 b s.heap a (M_ f)/\Vals vs f:=by
     rcases n with n|n
     ·obtain⟨f,C,p,_⟩:=I.list n;exact⟨MW,f,p.isList,C⟩
     ·obtain⟨f,C,p,_⟩:=I.tuple n;exact⟨MX,f,p,C⟩
    refine Ie (c:=λi j=>bL t (Y.getD i .non) (Y.getD j .non)) U (by have:f.length=Y.length:=(R.length.trans x.length).symm;omega) (λM=>AU I z V A g o R x M) λq L J out Z k2 K O=>?_;obtain⟨ws,m,fin,fin2⟩:=AV (X:=X) o g R x O;have D:Inv X P E H {s with heap:=q}:=I.kept (t':=s.toks) Z;have G:Inv X P E (aZ H q.objs.size (.lst ws)) {s with heap:=L}:=D.laid (t':=s.toks) k2 (Zg _) ⟨by have:f.length=Y.length:=(R.length.trans x.length).symm;rw[m,Oh];omega,_,J,fin2,K⟩;have l:H q.objs.size=none:=D.hok.fresh (Zg _);refine⟨.ref q.objs.size,_,G,rfl,?_⟩;cases box with
    |true=>exact aT.box w z fin _ l
    |false=>exact aT.lst w z fin _ l
   ·exact w.elim
  ·exact w.elim
 ·exact w.elim
end Py
namespace Py
open PySem PySem.W PySem.Spec PyProof.Rows L2
noncomputable def kV(v:M0):Int:=match v with
 | .int k _=>k
 |_=>0
theorem Ij{f:α->β}:∀{l:List α} {us:List β},us.Perm (l.map f)->∃L:List α,L.Perm l/\us=L.map f:=λ{l us} p=>by
 generalize H:l.map f=m at p
 induction p generalizing l with
 |nil=>exact⟨[],by simp_all,rfl⟩
 |cons x p g=>obtain⟨a,d,rfl,rfl,h⟩:=PZ.mp H;obtain⟨L,q,rfl⟩:=g h;exact⟨a::L,q.cons a,rfl⟩
 |swap x y k=>obtain⟨a,d,rfl,rfl,h⟩:=PZ.mp H;obtain⟨b,c,rfl,rfl,rfl⟩:=PZ.mp h;exact⟨b::a::c,List.Perm.swap _ _ _,rfl⟩
 |trans p q i I=>obtain⟨d,Q,e⟩:=I H;obtain⟨c,j,E⟩:=i e.symm;exact⟨c,j.trans Q,E⟩
theorem AW{K:Fg}{m:GS}{μ:La}{H:Hp}:∀ns:Li,ah K m μ H (ns.map D.int) (ns.map V.int)
 | []=>.nil
 |n::ns=>.cons bC (AW _)
theorem AX{K:Fg}{m:GS}{μ:La}{H:Hp}:∀{cs:List (Li×MZ)},(∀c∈cs,bX K H c.2 (c.1.map V.int))->ah K m μ H (cs.map λc=>D.tup (c.1.map D.int)) (cs.map λc=>V.ref c.2)
 | [],_=>.nil
 |c::cs,h=>.cons (by exact⟨_,_,rfl,h c Ze,AW _⟩) (AX λd a=>h d (Zb _ a))
theorem AY:∀cs:List (Li×MZ),Vals (cs.map λc=>V.ref c.2) (cs.map λc=>N9 c.2)
 | []=>.nil
 |c::cs=>.cons rfl (AY _)
theorem AZ(k:Li):aq (.seq .int) (.tup (k.map D.int))=MW:=by show(k.map _).all _=MW;rw[Zn];intro x h;obtain⟨i,_,rfl⟩:=Zo.mp h;rfl
theorem A0{a:MZ}{L:Lv}(H:∀{Q:Lv->MY->Prop} {E':Vs},(∀(h':M8) (tk:Nat) (vs:Lv),(∀b o,s.heap.get? b=some o->h'.get? b=some o)->vs.Perm L->Q vs {s with heap:=h',toks:=tk})->wpAny (model prog w) A.in1 (collect (.ref a)) Q E' s)(F:L.length<64)
  (d:∀(h1:M8) (tk:Nat) (vs:Lv),(∀b o,s.heap.get? b=some o->h1.get? b=some o)->vs.Perm L->∃c,(2<=vs.length->∃κ:OU,cV vs.length c/\(∀i j,i<vs.length->j<vs.length->vs.getD i M7=vs.getD j M7->bN vs.length c i=bN vs.length c j)/\∀h':M8,(∀b o,h1.get? b=some o->h'.get? b=some o)->
   (∀(E':Vs) (l:OU->MY->Prop),l κ {s with heap:=h',toks:=tk}->wpAny (model prog w) A.in1.in1 (keyKind' vs.toArray) l E' {s with heap:=h',toks:=tk})/\
   ∀i j C,i<vs.length->j<vs.length->C (c i j) {s with heap:=h',toks:=tk}->kas_ask prog w A.in1.in1 κ vs i j C {s with heap:=h',toks:=tk})/\
   ∀(h':M8) (g:Nat) (out:Lv),(∀b o,h1.get? b=some o->h'.get? b=some o)->h'.get? h1.objs.size=some (seqObj "list" out.toArray g)->g8 vs c out->Q (.ref h1.objs.size) {s with heap:=h',toks:=tk}):
  wpAny (model prog w) A (call (.builtin "sorted") [.ref a]) Q E s:=by
 refine QO kind_sorted plain_sorted entry_sorted (args_sorted1 _) ?_;unfold N5.«sorted»;refine Za (m:=checkCount "sorted" 1 1 _) (Zd (Za (H λh1 tk vs r p=>?_)));obtain⟨c,d,fin⟩:=d h1 tk vs r p;have k:vs.length<64:=by rw[p.length_eq];exact F
 have q:vs.length<=sizeLine:=by rw[Oh];omega
 refine Za (RF ?_ q);have f:(h1.push (seqObj "list" vs.toArray 0)).get? h1.objs.size=some (seqObj "list" vs.toArray 0):=Zi _ rfl;refine Za (ZI (ZR slot_list_sort ⟨_,f,rfl⟩ entry_list_sort ?body (args_list_sort _)))
 case body=>
  refine AQ (c:=c) (s:={s with heap:=h1.push (seqObj "list" vs.toArray 0),toks:=tk}) f k (λn=>?_) λh' g out K e O=>?_
  ·obtain⟨κ,o,S,d⟩:=d n;refine⟨κ,o,S,λh' K=>?_⟩;obtain⟨u,v⟩:=d h' λb o e=>K b o (Zq (Zj e)) (Zc _ e);exact⟨u _,v⟩
  ·exact⟨_,rfl,Zd ⟨_,rfl,fin h' g out (λb o e=>K b o (Zq (Zj e)) (Zc _ e)) e O⟩⟩
theorem Il{t:Nb}{Q:Vs}(l:A.handled=none)(T:TB w t es.size)(g:s.heap.get? a=some o)(n:o.ExactSet)(d:o.data=.set es ep t)(f:es.size<64)
  (H:∀(h1:M8) (tk:Nat) (vs:Lv),(∀b o,s.heap.get? b=some o->h1.get? b=some o)->vs.Perm (es.toList.map (·.2))->∃c,(2<=vs.length->∃κ:OU,cV vs.length c/\(∀i j,i<vs.length->j<vs.length->vs.getD i M7=vs.getD j M7->bN vs.length c i=bN vs.length c j)/\∀h':M8,(∀b o,h1.get? b=some o->h'.get? b=some o)->
   (∀(E':Vs) (k:OU->MY->Prop),k κ {s with heap:=h',toks:=tk}->wpAny (model prog w) A.in1.in1 (keyKind' vs.toArray) k E' {s with heap:=h',toks:=tk})/\
   ∀i j C,i<vs.length->j<vs.length->C (c i j) {s with heap:=h',toks:=tk}->kas_ask prog w A.in1.in1 κ vs i j C {s with heap:=h',toks:=tk})/\
   ∀(h':M8) (m:Nat) (out:Lv),(∀b o,h1.get? b=some o->h'.get? b=some o)->h'.get? h1.objs.size=some (seqObj "list" out.toArray m)->g8 vs c out->Q (.ref h1.objs.size) {s with heap:=h',toks:=tk}):
  wpAny (model prog w) A (call (.builtin "sorted") [.ref a]) Q E s:=
 A0 (λfin=>AB (by omega) T g n d (by lia) fin) (by rw[Zk];exact f) H
theorem Io{t:Nb}(c:A.handled=none)(T:TB w t es.size)(g:s.heap.get? a=some o)(I:o.ExactSet)(d:o.data=.set es ep t)(f:es.toList.map gg=ks.map j8)(n:R5 (intKind prog w) es.toList)(z:ks∈p8)
  (fin:∀(h1 h':M8) (tk m:Nat) (out:Lv),(∀b o,s.heap.get? b=some o->h1.get? b=some o)->(∀b o,h1.get? b=some o->h'.get? b=some o)->h'.get? h1.objs.size=some (seqObj "list" out.toArray m)->(∀v∈out,∃t,v=.int (kV v) t)->out.map kV=ks.map (λk:Nat=>(k:Int))->Q (.ref h1.objs.size) {s with heap:=h',toks:=tk}):
  wpAny (model prog w) A (call (.builtin "sorted") [.ref a]) Q E s:=by
 obtain⟨R,low,len,_,_⟩:=iL ks z;have hs:es.size=ks.length:=by have:=ZU N4 f;rw[Zk,Zk,ZF]at this;exact this
 refine Il c T g I d (by omega) λh1 tk vs U F=>?_;have K:es.toList.map g6=ks.map λk:Nat=>(k:Int):=by have:=ZU (Qo (·.2)) f;rw[ZL,ZL]at this;exact this
 have gN:∀v∈vs,∃t,v=.int (kV v) t:=λv y=>by obtain⟨e,M,rfl⟩:=Zo.mp (F.mem_iff.mp y);obtain⟨t,x⟩:=j5 n e M;exact⟨t,by rw[x];rfl⟩
 have D:(vs.map kV).Perm (ks.map λk:Nat=>(k:Int)):=by refine(F.map kV).trans (.of_eq ?_);rw[<-K,ZL];exact RG λe _=>rfl
 have Z:vs.length<=8:=by have:=D.length_eq;rw[Zk,Zk]at this;omega
 have at_:∀i,i<vs.length->∃t,vs.getD i M7=.int (kV (vs.getD i M7)) t:=λi H=>gN _ (by rw[Oo,Zh H];exact OS H);refine⟨λi j=>decide (kV (vs.getD i M7)<kV (vs.getD j M7)),λl=>?_,λh' m out V e O=>fin h1 h' tk m out U V e ?_ ?_⟩
 ·refine⟨oneType',⟨λi _=>by simp,λi j _ _ h=>?_,λi j k _ _ _ h g=>?_⟩,λi j _ _ h=>?_,λh' kp=>⟨λX Y q=>?_,λi j C H N r=>?_⟩⟩
  ·simp only[decide_eq_true_eq,decide_eq_false_iff_not]at h⊢;omega
  ·simp only[decide_eq_false_iff_not]at h g⊢;omega
  ·unfold bN;dsimp only;rw[h]
  ·refine kas_kind (T:=.type "int") l (λu S=>?_) (by decide) (by decide) q;obtain⟨t,x⟩:=gN u S;rw[x];exact(show Looks (model prog w) h' (typeOf (.int (kV u) t)) (.type "int")from .now)
  ·unfold kas_ask;dsimp only at r;obtain⟨ta,J⟩:=at_ i H;obtain⟨tb,L⟩:=at_ j N;rw[J,L]at r⊢;exact kat_lt_int r
 ·obtain⟨p,rfl,P,_⟩:=O;intro v y;obtain⟨i,H,rfl⟩:=Zo.mp y;exact gN _ (by have:=ZS.mp (P.mem_iff.mp H);rw[Oo,Zh this];exact OS this)
 ·obtain⟨p,rfl,P,z⟩:=O;have W:((p.map λi=>vs.getD i M7).map kV).Perm (ks.map λk:Nat=>(k:Int)):=by refine List.Perm.trans ?_ D;refine((P.map λi=>vs.getD i M7).map kV).trans (.of_eq (ZU (Qo kV) ?_));refine Pq (by simp) λi h1 l=>?_;simp[l]
  refine W.eq_of_pairwise (le:=(· <= ·)) (λa b _ _ h1 l=>Int.le_antisymm h1 l) ?_ ?_
  ·rw[Nr,Nr];refine z.imp λ{i j} h=>?_;simp only[decide_eq_false_iff_not]at h;omega
  ·rw[Nr];exact R.imp λh=>by omega
theorem Ip(c:A.handled=none)(x:c8 prog w s.heap a ks es)
  (fin:∀(h1 h':M8) (tk C:Nat) (out:Lv),(∀b o,s.heap.get? b=some o->h1.get? b=some o)->(∀b o,h1.get? b=some o->h'.get? b=some o)->h'.get? h1.objs.size=some (seqObj "list" out.toArray C)->(∀v∈out,∃t,v=.int (kV v) t)->out.map kV=ks.map (λk:Nat=>(k:Int))->Q (.ref h1.objs.size) {s with heap:=h',toks:=tk}):
  wpAny (model prog w) A (call (.builtin "sorted") [.ref a]) Q E s:=by
 obtain⟨o,f,g,e,d⟩:=x.obj;exact Io c ⟨by rw[x.size];exact(iL ks x.pow).2.2.2.1 _,rfl,rfl,zS (iL ks x.pow).1⟩ g e d x.ent x.els x.pow fin
noncomputable def Iq(K:Fg)(m:Mg)(v:V)(H:Hp)(Q:VK):Prop:=(∃(p:MZ) (ns:Li) (ks:List Nat),v=.ref p/\(cQ K H p (ns.map V.int)\/bX K H p (ns.map V.int))/\(∀n∈ns,0<=n/\n<8)/\(∀k:Nat,k∈ks↔(k:Int)∈ns)/\ks.Pairwise (· < ·)/\∀l,H l=none->Q (.ref l) (aZ H l (.lst (ks.map λk:Nat=>V.int k))))\/
 ∃F μ S p ks,aI K ⟨m,F⟩ μ S H/\v=.ref p/\HW K H p ks/\ks.length<64/\(∀c∈ks,c.1≠[])/\aT K ⟨m,F⟩ μ H Q (.ok (.lst (dW (ks.map (·.1)))) S)
theorem Ir{p:MZ}{ks:List (Li×MZ)}{E:Vs}(i:X.calm=MW)(L:X.A.units+64<cLine)(I:Inv X pq σ H s)(Z:aI X.K ⟨X.mg,F⟩ μ S H)(r:∀c∈ks,bX X.K H c.2 (c.1.map V.int))(J:∀c∈ks,c.1≠[])(A:ks.length<64)
  (j:∀{Q:Lv->MY->Prop} {E':Vs},(∀(h':M8) (tk:Nat) (vs:Lv),(∀b o,s.heap.get? b=some o->h'.get? b=some o)->vs.Perm (cs.map λc=>N9 c.2)->Q vs {s with heap:=h',toks:=tk})->wpAny (model X.prog X.w) X.A.in1 (collect (.ref p)) Q E' s) (N:(cs.map (·.1)).Nodup) (u:∀k,k∈cs.map (·.1)↔k∈ks.map (·.1)) (z:∀c∈cs,c∈ks)
  (fin:∀(h1 h':M8) (tk q:Nat) (out:Lv) (w:List V),(∀b o,s.heap.get? b=some o->h1.get? b=some o)->(∀b o,h1.get? b=some o->h'.get? b=some o)->h'.get? h1.objs.size=some (seqObj "list" out.toArray q)->w.length<=76->ah X.K ⟨X.mg,F⟩ μ H (dW (ks.map (·.1))) w->Vals w out->Q (.ref h1.objs.size) {s with heap:=h',toks:=tk}):
  wpAny (model X.prog X.w) X.A (call (.builtin "sorted") [.ref p]) Q E s:=by
 have G:cs.length<64:=by have h1:=N.length_le_of_subset λk r=>(u k).mp r;rw[Zk,Zk]at h1;omega
 refine A0 j (by rw[Zk];exact G) λh1 tk us K Y=>?_;have x:Inv X pq σ H {s with heap:=h1,toks:=tk}:=I.kept (t':=tk) K
 obtain⟨C,P,rfl⟩:∃C:List (Li×MZ),C.Perm cs/\us=C.map λc=>N9 c.2:=by exact Ij Y
 have M:∀c∈C,c∈ks:=λc i=>z c (P.mem_iff.mp i);have R:ah X.K ⟨X.mg,F⟩ μ H (C.map λc=>D.tup (c.1.map D.int)) (C.map λc=>V.ref c.2):=AX λc i=>r c (M c i);have v:Vals (C.map λc=>V.ref c.2) (C.map λc=>N9 c.2):=AY C
 have g:∀y∈(C.map λc=>D.tup (c.1.map D.int)),aq (.seq .int) y=MW:=λy n=>by obtain⟨c,_,rfl⟩:=Zo.mp n;exact AZ c.1
 have m:f7 (.seq .int) (C.map λc=>D.tup (c.1.map D.int))=MW:=by
  show(MW&&((C.map λc=>D.tup (c.1.map D.int)).all λd=> !fk d))=MW;rw[Zn.mpr]
  ·rfl
  ·intro y n;obtain⟨c,i,rfl⟩:=Zo.mp n;have:=J c (M c i);cases h:c.1 with
   |nil=>exact absurd h this
   |cons a l=>rfl
 refine⟨_,λB=>AU x Z L (by decide) g m R v B,λh' q out U e O=>?_⟩;obtain⟨w,w1,w2,w3⟩:=AV (X:=X) m g R v O;refine fin h1 h' tk q out w K U e (by rw[w1,Zk,P.length_eq];omega) ?_ w3
 have:dW (ks.map (·.1))=d8 (bL (.seq .int)) (C.map λc=>D.tup (c.1.map D.int)):=by
  unfold dW;refine(AO (t:=.seq .int) rfl (λy n=>?_) ((t4 _ _).trans ?_) (AN (gk (.seq .int) rfl) _ g)).symm
  ·obtain⟨k,_,rfl⟩:=Zo.mp n;exact AZ k
  ·have W:(C.map (·.1)).Perm (jO (ks.map (·.1))):=by
    obtain⟨a,b⟩:=Ar (ks.map (·.1));refine(P.map _).trans ((Oq N a).mpr λk=>(u k).trans (b k).symm)
   have:=W.map λk=>D.tup (k.map D.int);rw[ZL]at this;exact this
 rw[this];exact w2
theorem Iu{p:MZ}{ks:List (Li×MZ)}{E:Vs}(i:X.calm=MW)(y:X.A.units+64<cLine)(I:Inv X pq σ H s)(z:aI X.K ⟨X.mg,F⟩ μ S H)(h:∀c∈ks,bX X.K H c.2 (c.1.map V.int))(u:∀c∈ks,c.1≠[])(f:ks.length<64)
  (x:dz X.prog X.w s.heap p cs) (a:∀k,k∈cs.map (·.1)↔k∈ks.map (·.1)) (n:∀c∈cs,c∈ks)
  (fin:∀(h1 h':M8) (tk C:Nat) (out:Lv) (w:List V),(∀b o,s.heap.get? b=some o->h1.get? b=some o)->(∀b o,h1.get? b=some o->h'.get? b=some o)->h'.get? h1.objs.size=some (seqObj "list" out.toArray C)->w.length<=76->ah X.K ⟨X.mg,F⟩ μ H (dW (ks.map (·.1))) w->Vals w out->Q (.ref h1.objs.size) {s with heap:=h',toks:=tk}):
  wpAny (model X.prog X.w) X.A (call (.builtin "sorted") [.ref p]) Q E s:=by
 obtain⟨o,A,t,g,q,d,l,P,m⟩:=x.obj;have r:=m.fits.2;have v:(cs.map (bp X.prog X.w)).toArray.size=cs.length:=by simp
 have B:=by have h1:=x.nod.length_le_of_subset λk h=>(a k).mp h;rw[Zk,Zk]at h1;omega
 refine Ir i y I z h u f (λfin=>AB (by simpa using I.ok.hd i) ⟨by simp_all,l,P,m.ris⟩ g q d (by lia) λh' tk vs k D=>fin _ _ _ k ?_) x.nod a n fin;have:(Qo (λe=>e.2) (cs.map (bp X.prog X.w)).toArray.toList)=cs.map λc=>N9 c.2:=by rw[ZL];rfl
 simp_all
theorem A1:∀{out:Lv} {ks:List Nat},(∀v∈out,∃t,v=.int (kV v) t)->out.map kV=ks.map (λk:Nat=>(k:Int))->Vals (ks.map λk:Nat=>V.int k) out
 | [],[],_,_=>.nil
 | [],_::_,_,h=>by cases h
 |_::_,[],_,h=>by cases h
 |v::out,k::ks,H,h=>by
  injection h with a b
  obtain⟨t,c⟩:=H v Ze;refine .cons ⟨t,?_⟩ (A1 (λv d=>H v (Zb _ d)) b);rw[c,a]
theorem Iv:∀{a b:List Nat},a.Pairwise (· < ·)->b.Pairwise (· < ·)->(∀k,k∈a↔k∈b)->a=b:=λ{a b} H c h=>by
 refine O8 λx y _ _ H c=>by omega H c ?_
 exact(Oq (H.imp λh=>Zq h) (c.imp λh=>Zq h)).mpr h
theorem Iw(G:X.calm=MW)(hu:X.A.units+64<cLine)(J:Gl X "sorted")(L:Gl X "set")(N:X.mg "sorted"=none)(O:X.mg "set"=none)(hb:bootBuiltins "sorted"=some (.builtin "sorted"))(U:bR z=MW)(ha:PE X z ta):
  PE X (.Call (.Name "sorted" p1) [.Call (.Name "set" p2) [z] [] p3] [] p4) (λσ H Q=>ta σ H λx H1=>Iq X.K X.mg x H1 Q):=by
 intro A s σ H Q I h;have hs:=cI (env:=X.env) (es:=[]) U;refine NF (eS I J N hb ?_ (by decide) (by decide));refine OG ?_ rfl rfl;refine P' ?_;refine NF (eS I L O Aq ?_ (by decide) (by decide));have hA:PA X [z] (hW ta lO):=dg ha el hs
 refine Nf (aO (hA p3 A s σ H (λvs H1=>match vs with
  | [x]=>Iq X.K X.mg x H1 Q
  |_=>False) I h) λus w ⟨vs,H1,l,r,q⟩=>?_) hs rfl
 match vs,q with
 | [v],.inr ⟨F,μ,S,p,ks,sk,e,d,D,U,q⟩=>subst e;obtain⟨u,rfl,ru⟩:=r.one;cases ru;refine nE G hu l d λh' T cs x e1 e2 y _=>?_;refine Pg ?_;refine Iu G hu y sk d.2.1 U D x e1 e2 λf h2 j C out ws W Y g hl rw_ R=>?_;have m:Inv X A σ H1 {w with heap:=f,toks:=T}:=y.kept (t':=T) W;exact⟨.ref f.objs.size,aZ H1 f.objs.size (.lst ws),m.laid (t':=j) Y (Zg _) ⟨by rw[Oh];omega,out,C,R,g⟩,rfl,aT.lst q sk rw_ _ (m.hok.fresh (Zg _))⟩
 | [v],.inl ⟨p,Z,ks,e,d,low,hk,ris,q⟩=>
  subst e;obtain⟨u,rfl,ru⟩:=r.one;cases ru
  obtain⟨i,R,P⟩:∃i,Vals (Z.map V.int) i/\(w.heap.IsList p i.toArray\/w.heap.IsTuple p i.toArray):=by
   rcases d with d|d
   ·obtain⟨i,R,P,_⟩:=l.list d;exact⟨i,R,.inl P.isList⟩
   ·obtain⟨i,R,P,_⟩:=l.tuple d;exact⟨i,R,.inr P⟩
  have c:=l.ok.hd G;refine HP (vs:=i.toArray) (ns:=Z) c P (by simpa using se R) low λh' T ⟨K,es,x,M⟩ kp=>?_;have y:Inv X A σ H1 {w with heap:=h',toks:=T}:=l.kept (t':=T) λb o e=>kp b o (Zj e) e;have E:K=ks:=Iv (iL K x.pow).1 ris λk=>(M k).trans (hk k).symm;subst E;refine Pg ?_;refine Ip c x λf h2 j C out W Y g gN ek=>?_;have m:Inv X A σ H1 {w with heap:=f,toks:=T}:=y.kept (t':=T) W
  have n:(K.map λk:Nat=>V.int k).length<=sizeLine:=by have:=(iL K x.pow).2.2.1;rw[Zk,Oh];omega
  exact⟨.ref f.objs.size,aZ H1 f.objs.size (.lst (K.map λk:Nat=>V.int k)),m.laid (t':=j) Y (Zg _) ⟨n,out,C,A1 gN ek,g⟩,rfl,q _ (m.hok.fresh (Zg _))⟩
end Py
namespace Py
noncomputable def xf(kd:Bool)(e:Expr)(g:List Nk)(s:Scope)(p:Pos):Expr:=.ListComp e g s p
noncomputable def EY(kd:Bool)(e:Expr)(a:M0)(env:Env):Sem Unit:=tr e a env
def oK(X:Cx)(kd:Bool):MZ->List D->List V->HO->Prop:=oL
theorem t5{kd:Bool}{pos:Pos}{d:Nat}{it a:M0}{t i:Expr}{fs:Lx}(h:gens[d]?=some ⟨t,i,fs,0⟩):
  compTurn (xf kd elt gens scope pos) d it a env=(standAt i.pos>>=λ_=>pyNext it>>=λr=>match r with
   |none=>pure (.done .next)
   |some v=>letOwnedTupleGo t it v>>=λ_=>assign t env v>>=λ_=>(ez fs env>>=λok=>if ok=MW then br (xf kd elt gens scope pos) (EY kd elt a env) gens d a env else pure ())>>=λ_=>
    again (.compLoop (xf kd elt gens scope pos) d it a env)):=by cases kd<;>exact Hm h
section
variable {E:XK}
end
section
variable {E:XK}
end
section
variable {E:XK}
theorem A2:aS X (.type "str") (rC X.K X.mg sT):=by
 intro p s g H x U Q I r h;obtain⟨F,f,S,D,e,R,w⟩:=h;unfold sT at w;split at w
 ·rename_i k;split at w
  ·rename_i b;obtain⟨v,rfl,c⟩:=R.one;cases aE c;obtain⟨u,rfl,d⟩:=r.one;obtain⟨t,rfl⟩:=d;refine PySem.P.str_of_int ?_ ⟨.str _,H,I.kept λ_ _ z=>z,⟨_,rfl⟩,w _ H _ .refl e ir⟩;by_cases a:k.natAbs=0
   ·simp_all
   ·exact Qq ((Nat.log2_lt a).mpr b) (by lia)
  ·exact w.elim
 ·exact w.elim
theorem kg(O:cv X cell N sc CX E Φ Γ k)(b:jj)(h:sS b=MW):aS X (jR b) (rC X.K X.mg (bg b)):=by
 cases b with
 |len=>exact yv
 |tuple=>exact mi
 |list box=>exact sI box
 |int=>exact yx
 |min=>exact GN O.calm rfl
 |max=>exact mz O.calm
 |isinst=>exact GA
 |all=>exact yC O.calm
 |any=>exact yD O.calm
 |sum=>cases h
 |repr=>cases h
 |abs=>cases h
 |str=>exact A2
 |sorted box t=>exact Ii O.room.units box t (by unfold sS at h;simpa using h)
theorem t6:∀{l:Ls},iD l=MW->l.Nodup
 | [],_=>PY
 |x::r,h=>by unfold iD at h;simp at h;exact NK.mpr ⟨h.1,t6 h.2⟩
theorem A3(O:cv X cell N sc CX E Φ Γ k)(h:G2 scope sc=MW):dN X scope:=by
 unfold G2 at h;simp only[ZN,beq_iff_eq]at h;obtain⟨a,b⟩:=h;refine⟨a,λy H z=>?_,λy H z=>?_,λy H z=>?_⟩
 ·grind
 ·grind
 ·have:=(λy H=>Zn.mp b y H) y H;rw[z]at this;simp at this;show X.env.scope.names.lookup _=_\/X.env.scope.names.lookup _=_;rw[O.sc];exact this
theorem A4(O:cv X cell N sc CX E Φ Γ k)(h:frB scope.names N' N fr=MW):ms X scope N' (gf fr):=by
 unfold frB at h;simp only[ZN,beq_iff_eq]at h;obtain⟨b,c⟩:=h;intro f d;refine⟨by simp[gf,b],λi v x a H=>?_⟩;have:=Zn.mp c i (ZS.mpr (Zl.mp a).1);unfold gf at H;rw[N6]at H;cases e:fr[i]? with
 |none=>simp_all
 |some o=>
  rw[e]at H;cases o with
  |none=>cases H
  |some j=>
   rw[e]at this;simp[a,beq_iff_eq]at this;refine⟨this.1,j,by rw[O.n];exact this.2,?_⟩
   grind
theorem nM(O:cv X cell N sc CX E Φ Γ k):(relabel scope X.env).names=jS scope.names sc:=by
 show scope.names.map _=scope.names.map _;congr 1;funext p;obtain⟨n,K⟩:=p;have e:X.env.kindOf n=sc.lookup n:=by show X.env.scope.names.lookup n=_;rw[O.sc]
 simp[e,O.kd,QY]
theorem A5(O:cv X cell N sc CX E Φ Γ k)(hs:scope.kind=.function)(hn:iD N'=MW)(C:MZ)(s0:MY)(H0:Hp)(fp:La):cv (fH X scope N' C s0 H0 fp) (sU scope.names) N' (jS scope.names sc) CX E0 Φ Γ k where
 n:=rfl
 nd:=t6 hn
 sc:=nM O
 kd:=hs
 calm:=O.calm
 room:=O.room
 fn:=λx z=>z
 mod:=O.mod
 pass:=λ_ _ _ _ _ _ _ z=>O.cx0 _ _ _ _ _ z
 cx0:=O.cx0
theorem nN{i:Expr}(h:mL i=MW):∀x,foldedSetIterable i env x=pure x:=by intro x;cases i<;>first|rfl|cases h
theorem ia{e:Expr}{c:CE}(h:PE X e (tE X.K X.mg E Φ Γ c))(g:∀W,isTrue e X.env W=(do let v <-W;standAt e.pos;holding [v] (truthy v))){σ:L2.St}:
  PT X e (λσ H Q=>∃F μ ρ S,aI X.K ⟨X.mg,F⟩ μ S H/\aX X.K ⟨X.mg,F⟩ μ H ρ σ/\ak X.K ⟨X.mg,F⟩ E (λ_ _ a b=>a=b) μ H Q ((aj Φ Γ c ρ S).bind λd S1=>match bH S1 d with|some k=>.ok k S1|none=>.fail)):=
 dv (FH h g) λσ H Q z=>aB z λF μ ρ S i f w=>⟨F,_,_,S,i,f,(ak.bind w).mono λv H1 z=>az z λm S1 d x s r j=>by obtain⟨k,e,l⟩:=zf j;exact⟨k,qz s r e,l _ _ k .refl s rfl⟩⟩
theorem Iy(O:cv X cell N sc CX E Φ Γ k){a:CE}(h1:a_ sc "len"=MW)(h:a_ sc "set"=MW)(c:bR z=MW)(b:PE X z (tE X.K X.mg E Φ Γ a)):PE X (.Call (.Name "len" p1) [.Call (.Name "set" p2) [z] [] p3] [] p4) (tE X.K X.mg E Φ Γ (.lenset a)):=
 aJ (HY O.calm O.room.units (O.gl (cJ h1).1) (O.gl (cJ h).1) (O.mod.bl _ (by decide+kernel)) (O.mod.bl _ (by decide+kernel)) c b) λm H Q Z=>aB Z λF g j S f e w=>
  ⟨F,g,j,S,f,e,(ak.bind w).mono λv H1 Z=>az Z λi l d x s r W=>HZ s r (cr W)⟩
theorem A6:∀{xs:List D},xs.all jP=MW->xs.all (aq .int)=MW/\∀n∈xs.filterMap bD,0<=n/\n<8
 | [],_=>⟨rfl,λn h=>by cases h⟩
 |x::xs,h=>by
  simp only[Of,ZN]at h;obtain⟨b,c⟩:=A6 h.2;cases x with
  |int i=>
   have a:=h.1;simp[jP,ZN]at a;refine⟨by simp[aq,b],λn H=>?_⟩;rcases Zf.mp H with rfl|H
   ·exact a
   ·exact c n H
  |_=>cases h.1
theorem t7{Q:VK}(s:aI K ⟨mg,F⟩ μ S H)(r:Rep K ⟨mg,F⟩ μ H d v)(w:aT K ⟨mg,F⟩ μ H Q (cG d S)):Iq K mg v H Q:=by
 unfold cG at w;split at w
 ·rename_i x e;split at w
  ·rename_i f;obtain⟨a,vs,rfl,m,R⟩:=eT s r e;clear e;obtain⟨u,low⟩:=A6 f;have g:=nB u;generalize x.filterMap bD=N at low g w;subst g;have B:=nC R;subst B;refine .inl ⟨a,N,(M4 8).filter λk:Nat=>N.contains (k:Int),rfl,m,low,λk=>?_,List.pairwise_lt_range.sublist Nt,λl A=>?_⟩
   ·rw[NI,ZS,Rp];exact⟨λh=>h.2,λh=>⟨by have:=low _ h;omega,h⟩⟩
   ·have G:∀b:List Nat,ah K ⟨mg,F⟩ μ H (b.map λk:Nat=>D.int k) (b.map λk:Nat=>V.int k):=λb=>by
     induction b with
     |nil=>exact .nil
     |cons k b I=>exact .cons bC I
    exact aT.lst w s (G _) l A
  ·split at w
   ·rename_i f;obtain⟨p,b,rfl,m,E⟩:=tW s r e ⟨f.1,by omega⟩;refine .inr ⟨F,μ,S,p,b,s,rfl,m,by have:=ZU N4 E;rw[Zk,Zk]at this;omega,λc j=>?_,by rw[E];exact w⟩;have:c.1∈x.map fm:=by rw[<-E];exact P8 j
    obtain⟨y,o,n⟩:=Zo.mp this;have q:=Zn.mp f.1 y o;have t:=Zn.mp f.2.2 y o;intro z;rw[z]at n;obtain⟨Z,rfl,C⟩:=c9 q;cases Z with
    |nil=>cases t
    |cons a l=>obtain⟨i,rfl⟩:=cW (C a Ze);cases n
   ·exact w.elim
 ·exact w.elim
theorem t8(O:cv X cell N sc CX E Φ Γ k){a:CE}(h1:a_ sc "sorted"=MW)(h:a_ sc "set"=MW)(c:bR z=MW)(b:PE X z (tE X.K X.mg E Φ Γ a)):PE X (.Call (.Name "sorted" p1) [.Call (.Name "set" p2) [z] [] p3] [] p4) (tE X.K X.mg E Φ Γ (.sset a)):=
 aJ (Iw O.calm O.room.units (O.gl (cJ h1).1) (O.gl (cJ h).1) (O.mod.bl _ (by decide+kernel)) (O.mod.bl _ (by decide+kernel)) (rfl) c b) λm H Q Z=>aB Z λF j l S f e w=>
  ⟨F,_,_,S,f,e,(ak.bind w).mono λv H1 Z=>az Z λg i d x s r W=>t7 s r (cr W)⟩
end
section
variable {E:XK}
theorem A7(O:cv X cell N sc CX E Φ Γ k):∀{fs:Ls} {es:Lx},(∀f∈fs,a_ sc f=MW/\(Φ f).isSome=MW)->PA X (jV fs es) (λ_ H Q=>∀as:La,as.length=fs.length->(∀(i:Nat) (f:Str) (a:MZ),fs[i]?=some f->as[i]?=some a->X.mg f=some (.ref a))->Q (as.map V.ref) H)
 | [],es,_=>dX el λl H Q h=>h [] rfl λi f a z=>by simp_all
 |f::fs,es,c=>by
  obtain⟨d,j⟩:=c f Ze;obtain⟨g,G,_⟩:=cJ d;obtain⟨t,e⟩:=N3.mp j;obtain⟨F,q,P,m,_⟩:=(O.mod.fns f _ e).ex;refine dX (dg (rn (v:=.ref _) (O.gl g) m rfl G) (A7 O λf b=>c f (Zb _ b))) λl H Q h=>?_;intro as r s;refine h (F::as) (by simp_all) λi p a n o=>?_
  grind
theorem A8(O:cv X cell N sc CX E Φ Γ k){fs:Ls}{i:CE}{cs:List CE}{ns es:Lx}{J:Expr}{pos:Pos}(h:(fs.all λf=>a_ sc f)=MW)(hi:PE X J (tE X.K X.mg E Φ Γ i))(T:f8 J=MW)(G:∀x∈e::es,bR x=MW)(ha:PA X (e::es) (tL X.K X.mg E Φ Γ cs)):
  PE X (.Call (.Subscript (.List (jV fs ns) p1) J p2) (e::es) [] pos) (tE X.K X.mg E Φ Γ (.sel fs i cs)):=by
 intro pq s σ H Q I Z;obtain⟨F,μ,q,S,sk,en,w⟩:=Z
 have Y:ak X.K ⟨X.mg,F⟩ E (Rep X.K ⟨X.mg,F⟩) μ H Q (if(fs.all λf=>(Φ f).isSome)=MW/\fs.length<1000 then(aj Φ Γ i q S).bind λd r=>(match d with
   | .int k=>(match(if 0<=k then fs[k.toNat]? else none)with
    |some f=>(match Φ f with
     |some j=>(ai Φ Γ cs q r).bind λD b=>j D b
     |none=>.fail)
    |none=>.fail)
   |_=>.fail)else .fail):=w
 split at Y
 ·rename_i c;obtain⟨c,B⟩:=c;show wpAny _ _ (do callWith pos (<-eval (.Subscript (.List (jV fs ns) p1) J p2) X.env) [] (backTo pos (starEach (e::es) X.env)) (backToKw pos (keywordEach [] X.env))) _ _ s;have hN:=A7 O (fs:=fs) (es:=ns) λf m=>⟨Zn.mp h f m,Zn.mp c f m⟩;refine Za (aO (jz sg (gQ hN) hi (y9 T) pq s σ H (λv H1=>∃f j M g r,Φ f=some j/\X.mg f=some (.ref M)/\v=.ref M/\aI X.K ⟨X.mg,F⟩ g r H1/\aX X.K ⟨X.mg,F⟩ g H1 q σ/\ak X.K ⟨X.mg,F⟩ E (Rep X.K ⟨X.mg,F⟩) g H1 Q ((ai Φ Γ cs q r).bind λD b=>j D b)) I ?_) λv s1 ⟨x,H1,I1,r1,f,j,M,g,r,u,em,ev,U,L,w1⟩=>?_)
  ·intro as hl hm;refine⟨by rw[Zk,hl];exact OJ (Zs B (by decide)),λp C=>?_⟩;refine⟨F,μ,q,S,sk.laid C,en.mono (Ext.laid C),(ak.bind (ak.ext (Ext.laid (o:=.lst (as.map V.ref)) C) Y)).mono λy K Z=>?_⟩;obtain⟨l,b,d,x2,s2,R,t⟩:=Z;have n:=x2.lst (a:=p) (vs:=as.map V.ref) bO (sk.notin C);cases d with
   |int k=>
    cases aE R
    have W:ak X.K ⟨X.mg,F⟩ E (Rep X.K ⟨X.mg,F⟩) l K Q (match(if 0<=k then fs[k.toNat]? else none)with
     |some f=>(match Φ f with
      |some j=>(ai Φ Γ cs q b).bind λD b=>j D b
      |none=>.fail)
     |none=>.fail):=t
    by_cases P:0<=k
    ·rw[if_pos P]at W;cases m:fs[k.toNat]? with
     |none=>rw[m]at W;exact W.elim
     |some f=>
      rw[m]at W;dsimp only at W;cases u:Φ f with
      |none=>rw[u]at W;exact W.elim
      |some j=>
       rw[u]at W;have A:k.toNat<as.length:=by rw[hl];exact(Zl.mp m).1
       refine⟨p,as.map V.ref,k,.ref as[k.toNat],rfl,rfl,.of n.1,?_,f,j,as[k.toNat],l,b,u,hm _ f _ m (Zh A),rfl,s2,en.mono ((Ext.laid C).trans x2),W⟩;unfold gL hX;rw[Zk,if_pos P,if_pos (by omega)];show(as.map V.ref)[k.toNat]?=_;rw[N6,Zh A];rfl
    ·rw[if_neg P]at W;exact W.elim
   |_=>exact t.elim
  ·subst ev;cases r1;obtain⟨fa',fd,ps,m1,m2,m3,m4,m5⟩:=(O.mod.fns f j u).ex;rw[em]at m1;cases m1;refine PySem.W.callWith_K (h₀:=X.base) I1.ok.mod.kin m2 (aO (ha pos pq s1 σ H1 _ I1 ⟨F,g,q,r,U,L,(ak.bind w1).mono λvs K Z=>?_⟩) λus s2 ⟨vs,K,I2,R,q2⟩=>⟨I2.kIn,jy (E:=E) m4 O.room m3 .nil O.pass I2 R q2⟩) (cI (G e Ze)) (g5 λx hx=>G x (Zb _ hx));obtain⟨l,b,D,x2,s2,R,t⟩:=Z;rw[ZY];refine⟨?_,F,l,b,D,s2,R,t⟩;rw[<-R.length];exact m5 D b λz=>by rw[z]at t;exact t
 ·exact Y.elim
end
section
variable {a b c d:Expr}{tb tc td:TE}{pos:Pos}
noncomputable def nO(r g R:R2)(t tb T h:TE):TT:=λσ H Q=>t σ H λx H1=>tb σ H1 λy H2=>r x y H2 λz a=>∃k,z=.bl k/\
 (if k=MW then T σ a λw d=>g y w d λi b=>∃c,i=.bl c/\(if c=MW then h σ b λv e=>R w v e λZ f=>∃K,Z=.bl K/\Q K f else Q MX b)else Q MX a)
theorem Iz{o:O5}{r w R:R2}(ho:cu X (compareOp o) r)(i:cu X (compareOp op') w)(g:cu X (compareOp op'') R)(S:PE X a ta)(T:PE X b tb)(U:PE X c tc)(V:PE X d td)
  (Y:lastMarks [o,op',op''] [b,c,d]=MX):PT X (.Compare a [o,op',op''] [b,c,d] pos) (nO r w R ta tb tc td):=by
 intro p s f H Q I h
 refine isTrue_chain (aO (S p s f H _ I h) λv s1 ⟨x,H1,G,r1,q1⟩=>test_link (aO (T p s1 f H1 _ G q1) λu s2 ⟨y,C,J,A,q2⟩=>
  aO (ho p s2 f C x y v u _ J r1 A q2) λd s3 ⟨z,j,m,r3,k,e,q⟩=>?_)) Y
 subst e;cases r3;refine ZO ?_;cases k with
 |false=>exact ite_ff ⟨j,m,q⟩
 |true=>
  refine ite_tt (test_link (aO (U p s3 f j _ m q) λW s4 ⟨Z,D,K,B,q4⟩=>aO (i p s4 f D y Z u W _ K A B q4) λd' s5 ⟨z2,l,n,r5,k2,O,t⟩=>?_));subst O;cases r5;refine ZO ?_;cases k2 with
  |false=>exact ite_ff ⟨l,n,t⟩
  |true=>refine ite_tt (test_last (aO (V p s5 f l _ n t) λw2 s6 ⟨z3,E,L,r6,q6⟩=>aO (g p s6 f E Z z3 W w2 _ L B r6 q6) λN s7 ⟨z4,F,M,r7,k3,P,q7⟩=>?_));subst P;cases r7;exact ZO ⟨F,M,q7⟩
end
section
variable {E:XK}{l r r2:Expr}{pos:Pos}{a b c d:CE}
theorem IA{o:O5}(j:X.A.units+64<cLine)(T:PE X l (tE X.K X.mg E Φ Γ a))(U:PE X r (tE X.K X.mg E Φ Γ b))(V:PE X r' (tE X.K X.mg E Φ Γ c))(Y:PE X r2 (tE X.K X.mg E Φ Γ d))(Z:behindInMarks op'' r2=MX):PT X (.Compare l [o,op',op''] [r,r',r2] pos) (tT X.K X.mg E Φ Γ (.chain3 o op' op'' a b c d)):=
 dv (Iz (dn o j) (dn op' j) (dn op'' j) T U V Y Z) λσ H Q z=>aB z λF μ i S sk g w=>
  ⟨F,μ,i,S,sk,g,(ak.bind w).mono λv1 H1 z=>az z λq J d1 x s1 r1 w1=>⟨F,q,i,J,s1,g.mono x,(ak.bind w1).mono λv2 H2 z=>az z λs K d2 n s2 r2 w2=>
   ⟨F,s,K,d1,d2,s2,Rep.mono n _ _ r1,r2,cr ((ak.bind w2).mono λv3 C z=>az z λe L d3 p s3 r3 w3=>by
    obtain⟨k,rfl,rfl,W⟩:=fI w3 r3;refine⟨k,rfl,?_⟩;cases k with
    |true=>
     rw[if_pos rfl]at W⊢
     exact⟨F,e,i,L,s3,(g.mono x).mono (n.trans p),(ak.bind W).mono λv4 H4 z=>az z λt M D A s4 R w5=>⟨F,t,M,d2,D,s4,Rep.mono (p.trans A) _ _ r2,R,cr ((ak.bind w5).mono λv5 G z=>az z λf N d5 B y r5 w6=>by
      obtain⟨k,rfl,rfl,h⟩:=fI w6 r5;refine⟨k,rfl,?_⟩;cases k with
      |true=>rw[if_pos rfl]at h⊢;exact⟨F,f,i,N,y,(((g.mono x).mono (n.trans p)).mono A).mono B,(ak.bind h).mono λv6 H6 z=>az z λu O P x6 s6 r6 w8=>⟨F,u,O,D,P,s6,Rep.mono (B.trans x6) _ _ R,r6,cr ((ak.bind w8).mono λv7 I z=>az z λv S7 d7 x7 s7 r7 w9=>by obtain⟨k,rfl,rfl,m⟩:=fI w9 r7;exact⟨k,rfl,m v I k .refl s7 rfl⟩)⟩⟩
      |false=>rw[if_neg (by decide)]at h⊢;exact h f G _ .refl y rfl)⟩⟩
    |false=>rw[if_neg (by decide)]at W⊢;exact W e C _ .refl s3 rfl)⟩⟩⟩
end
theorem nP{E:XK}{c:CE}(h:∀ρ S,am Φ Γ c ρ S=.fail):PW X e (tT X.K X.mg E Φ Γ c):=λW p s f H Q I z=>aB z λF d ρ S b a w=>by rw[h]at w;exact w.elim
theorem nQ{E:XK}{c:CE}{t:Expr}(h:∀ρ S,aW Φ Γ c ρ S=.fail):PI X t e (tI X.K X.mg E Φ Γ c):=λp s f H Q I z=>aB z λF d ρ S b a w=>by rw[h]at w;exact w.elim
theorem A9{l:List α}{d:Nat}{x:α}{r:List α}(h:l.drop d=x::r):l[d]?=some x:=by have:=ZU (λl=>l[0]?) h;simpa using this
theorem IB{l:List α}{d:Nat}(h:l.drop d=[]):l[d]?=none:=by simp_all
theorem IC{l:List α}{d:Nat}{x:α}{r:List α}(h:l.drop d=x::r):l.drop (d+1)=r:=by
 have:(l.drop d).drop 1=r:=by simp_all
 rwa [List.drop_drop]at this
section
variable {E:XK}{a b:CE}{l x y:Expr}{pos:Pos}{n:Bool}
theorem t9(h:PE X l (tE X.K X.mg E Φ Γ a))(h1:n=MW->PE X x (tE X.K X.mg E Φ Γ b))(H:n=MX->∃r rest,y=.BoolOp .And (r::rest) pos/\PE X y (tE X.K X.mg E Φ Γ b)):PE X (.BoolOp .And (l::cond n [x] (vw y).es) pos) (tE X.K X.mg E Φ Γ (.band a b)):=by
 cases n with
 |true=>exact qC h (jr (h1 rfl))
 |false=>obtain⟨r,rest,rfl,q⟩:=H rfl;exact qC h q
theorem A_(h:PE X l (tE X.K X.mg E Φ Γ a))(h1:n=MW->PE X x (tE X.K X.mg E Φ Γ b))(H:n=MX->∃r rest,y=.BoolOp .Or (r::rest) pos/\PE X y (tE X.K X.mg E Φ Γ b)):PE X (.BoolOp .Or (l::cond n [x] (vw y).es) pos) (tE X.K X.mg E Φ Γ (.bor a b)):=by
 cases n with
 |true=>exact ze h (jr (h1 rfl))
 |false=>obtain⟨r,rest,rfl,q⟩:=H rfl;exact ze h q
theorem Ba(h:PT X l (tT X.K X.mg E Φ Γ a))(h1:n=MW->PT X x (tT X.K X.mg E Φ Γ b))(H:n=MX->∃r rest,y=.BoolOp .And (r::rest) pos/\PW X y (tT X.K X.mg E Φ Γ b)):PW X (.BoolOp .And (l::cond n [x] (vw y).es) pos) (tT X.K X.mg E Φ Γ (.band a b)):=by
 cases n with
 |true=>exact qD h (lv (h1 rfl))
 |false=>obtain⟨r,rest,rfl,q⟩:=H rfl;exact qD h q
theorem kh(h:PT X l (tT X.K X.mg E Φ Γ a))(h1:n=MW->PT X x (tT X.K X.mg E Φ Γ b))(H:n=MX->∃r rest,y=.BoolOp .Or (r::rest) pos/\PW X y (tT X.K X.mg E Φ Γ b)):PW X (.BoolOp .Or (l::cond n [x] (vw y).es) pos) (tT X.K X.mg E Φ Γ (.bor a b)):=by
 cases n with
 |true=>exact zi h (jp (h1 rfl))
 |false=>obtain⟨r,rest,rfl,q⟩:=H rfl;exact zi h q
theorem t_{es:Lx}(h:jT b=MW):∃r rest,a7 b N (.BoolOp .And es pos)=.BoolOp .And (r::rest) pos:=by
 unfold jT at h;split at h
 ·exact⟨_,_,rfl⟩
 ·cases h
theorem ua{es:Lx}(h:f9 b=MW):∃r rest,a7 b N (.BoolOp .Or es pos)=.BoolOp .Or (r::rest) pos:=by
 unfold f9 at h;split at h
 ·exact⟨_,_,rfl⟩
 ·cases h
theorem ki{tg:CT}(h:mM tg=MW):fo (iE tg N e)=MW:=by
 cases tg with
 |var i=>cases h
 |tup t=>rfl
theorem fw{a b:Bool}(h:cond n a b=MW)(z:n=MW):a=MW:=by lia
theorem cy{a b:Bool}(h:cond n a b=MW)(z:n=MX):b=MW:=by lia
end
def MJ(c:CE):Prop:=∀{X:Cx} {cell:Str->Bool} {N:Ls} {sc:Sc} {CX:dh} {E:XK} {Φ:FT} {Γ:Str->Option D} {k:Nat} {e:Expr},cv X cell N sc CX E Φ Γ k->bS c N sc e=MW->PE X (a7 c N e) (tE X.K X.mg E Φ Γ c)
def Mj(c:CE):Prop:=∀{X:Cx} {cell:Str->Bool} {N:Ls} {sc:Sc} {CX:dh} {E:XK} {Φ:FT} {Γ:Str->Option D} {k:Nat} {e:Expr},cv X cell N sc CX E Φ Γ k->bS c N sc e=MW->PT X (a7 c N e) (tT X.K X.mg E Φ Γ c)
def Ml(c:CE):Prop:=∀{X:Cx} {cell:Str->Bool} {N:Ls} {sc:Sc} {CX:dh} {E:XK} {Φ:FT} {Γ:Str->Option D} {k:Nat} {e:Expr},cv X cell N sc CX E Φ Γ k->bS c N sc e=MW->(jT c||f9 c)=MW->PW X (a7 c N e) (tT X.K X.mg E Φ Γ c)
def Mm(c:CE):Prop:=∀{X:Cx} {cell:Str->Bool} {N:Ls} {sc:Sc} {CX:dh} {E:XK} {Φ:FT} {Γ:Str->Option D} {k:Nat} {tg:CT} {t e:Expr},cv X cell N sc CX E Φ Γ k->za c N sc tg e=MW->(mM tg=MW->fo t=MW)->PI X t (sX c N e) (tI X.K X.mg E Φ Γ c)
def Mn(c:CE):Prop:=∀{X:Cx} {cell:Str->Bool} {N:Ls} {sc:Sc} {CX:dh} {E:XK} {Φ:FT} {Γ:Str->Option D} {k:Nat} {K:Bool} {e:Expr} {gens g:List Nk} {scope:Scope} {pos:Pos} {d:Nat} {acc:MZ},cv X cell N sc CX E Φ Γ k->X.xe=(λ_ _=>False)->gens.drop (d+1)=sW c N g->ET c K cell N sc g e=MW->
  PB X (br (xf K (mO c N e) gens scope pos) (EY K (mO c N e) (.ref acc) X.env) gens d (.ref acc) X.env) (tB X.K X.mg (oK X K) Φ Γ c acc)
theorem Bb{c:CE}(z:∀Φ Γ ρ S,am Φ Γ c ρ S=.fail):Mj c:=λ_ _=>(nP λ_ _=>z _ _ _ _).pt
theorem Bc{c:CE}(z:(jT c||f9 c)=MX):Ml c:=λ_ _ h=>by rw[z]at h;cases h
theorem Bd{c:CE}(z:∀N sc tg e,za c N sc tg e=MX):Mm c:=λ_ h _=>by rw[z]at h;cases h
theorem Be{c:CE}(z:∀kd N sc cell g e,ET c kd cell N sc g e=MX):Mn c:=λ_ _ _ h=>by rw[z]at h;cases h
mutual
theorem aK(c:CE):MJ c:=by
 intro X P N sc CX E Φ Γ k e O h;cases c with
 |var i=>exact qE O (aa h).1 (aa (aa h).2).1 (aa (aa h).2).2
 |dct=>exact zo
 |rev a b=>exact zq (aK a O (aa h).1) (aK b O (aa h).2)
 |lit d=>exact qF h
 |glob y=>exact tf O h
 |ty n=>exact G4 O (aa h).1 (aa h).2
 |bin op a b=>exact zb (aK a O (aa h).1) (aK b O (aa h).2)
 |catB a b=>exact sZ (aK a O (aa h).1) (aK b O (aa h).2)
 |neg a=>exact zh (aK a O h)
 |cmp op a b=>exact zc O.room.units (aK a O (aa h).1) (aK b O (aa (aa h).2).1) (f_ (aa (aa h).2).2)
 |chain op L a b c=>exact mP O.room.units (aK a O (aa h).1) (aK b O (aa (aa h).2).1) (aK c O (aa (aa (aa h).2).2).1) (f_ (aa (aa (aa h).2).2).2)
 |band a b=>exact t9 (aK a O (aa h).1) (λz=>aK b O (fw (aa h).2 z)) λz=>by obtain⟨r,R,q⟩:=t_ (pos:=(vw e).pos) (N:=N) (es:=(vw e).es.tail) (aa (cy (aa h).2 z)).1;exact⟨r,R,q,aK b O (aa (cy (aa h).2 z)).2⟩
 |bor a b=>exact A_ (aK a O (aa h).1) (λz=>aK b O (fw (aa h).2 z)) λz=>by obtain⟨r,R,q⟩:=ua (pos:=(vw e).pos) (N:=N) (es:=(vw e).es.tail) (aa (cy (aa h).2 z)).1;exact⟨r,R,q,aK b O (aa (cy (aa h).2 z)).2⟩
 |bnot a=>exact zg (aK a O h)
 |ite c a b=>exact zk (dP c O (aa h).1) (aK a O (aa (aa h).2).1) (aK b O (aa (aa h).2).2)
 |tup j=>exact zm (iF (aa h).2) (dQ j O (aa h).1)
 |lst box j=>exact zn (iF (aa h).2) (dQ j O (aa h).1)
 |idx a b=>exact zp (aa (aa h).2).2 (aK a O (aa h).1) (aK b O (aa (aa h).2).1)
 |sl a lo hi=>exact G5 (aK a O (aa h).1) (kj lo O (aa (aa h).2).1 (iF (aa (aa (aa (aa h).2).2).2).1)) (kj hi O (aa (aa (aa h).2).2).1 (iF (aa (aa (aa (aa h).2).2).2).2))
 |call f j=>
  have u:=dQ j O (aa (aa h).2).1;cases j with
  |nil=>cases(aa (aa h).2).2
  |cons c t=>exact jX O (aa h).1 (eU (cs:=c::t) (aa (aa h).2).1) u
 |blt b j=>
  have u:=dQ j O (aa (aa h).2).1;cases j with
  |nil=>cases(aa (aa (aa h).2).2).1
  |cons c t=>exact qG O (kg O b (aa (aa (aa h).2).2).2) (aa h).1 (eU (cs:=c::t) (aa (aa h).2).1) u
 |chain3 op L T a b c d=>exact λpq s σ H Q I zz=>aB zz λF μ ρ S sk en w=>w.elim
 |sel fs i j=>
  obtain⟨D,h⟩:=aa h;obtain⟨G,h⟩:=aa h;obtain⟨J,h⟩:=aa h;obtain⟨l,K⟩:=aa h;have u:=dQ j O l;cases j with
  |nil=>cases K
  |cons c t=>exact A8 O D (aK i O G) J (eU (cs:=c::t) l) u
 |tix o j=>have l:=(aa (aa (aa (aa h).2).2).2).1;exact zw (aa h).1 (aa (aa h).2).1 (eU l) (by rw[mS];exact iF (aa (aa (aa (aa h).2).2).2).2) (aK o O (aa (aa (aa h).2).2).1) (dQ j O l)
 |meth m o j=>have l:=(aa (aa (aa (aa h).2).2).2).1;exact ti (aa h).1 (aa (aa h).2).1 (eU l) (by rw[mS];exact iF (aa (aa (aa (aa h).2).2).2).2) mS.symm (aK o O (aa (aa (aa h).2).2).1) (dQ j O l)
 |lenset a=>exact Iy O (aa h).1 (aa (aa h).2).1 (aa (aa (aa h).2).2).2 (aK a O (aa (aa (aa h).2).2).1)
 |sset a=>exact t8 O (aa h).1 (aa (aa h).2).1 (aa (aa (aa h).2).2).2 (aK a O (aa (aa (aa h).2).2).1)
 |comp box M fr U it v body=>
  obtain⟨D,h⟩:=aa h;obtain⟨G,h⟩:=aa h;obtain⟨J,h⟩:=aa h;obtain⟨l,h⟩:=aa h;obtain⟨K,h⟩:=aa h;obtain⟨Y,h⟩:=aa h;obtain⟨Z,h8⟩:=aa h;have x:=A3 O D
  refine aJ (mu (N:=M) (g:=qJ X.K U) (tb:=tC X.K X.mg oL Φ Γ v body) O.calm x (A4 O G) (nT it O K ki) (λA p=>ez _ p>>=λok=>if ok=MW then br (xf MX _ _ _ _) (EY MX _ _ p) (_::_) 0 (.ref A) p else pure ())
   (λit A p=>t5 (kd:=MX) rfl) (λC s0 V W A=>?_) (nN Y)) λσ H Q q=>j3 (tg0:=iE U M ((vw e).gs.headD dG).target) q
  have B:=A5 O x.kind J C s0 V W;exact⟨j1 B l,tz (nS v B Z) (ub body (K:=MX) B rfl rfl h8)⟩
 |emit e=>cases h
 |inner a b c d=>cases h
 |seq a=>cases h
 |range a=>cases h
 |zip a=>cases h
 |down a=>cases h
theorem dP(c:CE):Mj c:=by
 cases c with
 |var i=>
  intro X C N s n E j l k e O h;refine dv (ia (σ:=[]) (qE O (aa h).1 (aa (aa h).2).1 (aa (aa h).2).2) λ_=>rfl) λD H Q Z=>aB Z λF B m S A v w=>⟨F,B,m,S,A,v,?_⟩;cases t:m[i]? with
  |none=>simp only[am,t]at w;exact w.elim
  |some o=>
   cases o with
   |none=>simp only[am,t]at w;exact w.elim
   |some d=>simp only[am,t]at w;simp only[aj,t];exact w
 |lit d=>intro X C N s n E j l k e O h;exact dv (ia (Φ:=j) (Γ:=l) (σ:=[]) (qF h) λ_=>rfl) λD H Q Z=>aB Z λF B m S A v w=>⟨F,B,m,S,A,v,w⟩
 |call f x=>
  intro X C N s n E j l k e O h;have J:=dQ x O (aa (aa h).2).1;cases x with
  |nil=>cases(aa (aa h).2).2
  |cons c p=>
   refine dv (ia (σ:=[]) (jX O (aa h).1 (eU (cs:=c::p) (aa (aa h).2).1) J) λ_=>rfl) λD H Q Z=>aB Z λF B m S A v w=>⟨F,B,m,S,A,v,?_⟩;simp only[am]at w;simp only[aj];cases t:j f with
   |none=>rw[t]at w;exact w
   |some M=>
    rw[t]at w;show ak _ _ _ _ _ _ _ (((ai j l (c::p) m S).bind λI G=>M I G).bind _);cases u:ai j l (c::p) m S with
    |ok I G=>rw[u]at w;exact w
    |err y G=>rw[u]at w;exact w
    |fail=>rw[u]at w;exact w
 |blt b x=>
  intro X C N s n E j l k e O h;have J:=dQ x O (aa (aa h).2).1;cases x with
  |nil=>cases(aa (aa (aa h).2).2).1
  |cons c p=>
   refine dv (ia (σ:=[]) (qG O (kg O b (aa (aa (aa h).2).2).2) (aa h).1 (eU (cs:=c::p) (aa (aa h).2).1) J) λ_=>rfl) λD H Q Z=>aB Z λF B m S A v w=>⟨F,B,m,S,A,v,?_⟩;simp only[am]at w;simp only[aj];cases u:ai j l (c::p) m S with
   |ok I G=>rw[u]at w;exact w
   |err y G=>rw[u]at w;exact w
   |fail=>rw[u]at w;exact w
 |cmp op a b=>intro X C N s n E j l k e O h;exact zd O.room.units (aK a O (aa h).1) (aK b O (aa (aa h).2).1) (f_ (aa (aa h).2).2)
 |chain3 op K L a b c d=>intro X C N s n E j l k e O h;exact IA O.room.units (aK a O (aa h).1) (aK b O (aa (aa h).2).1) (aK c O (aa (aa (aa h).2).2).1) (aK d O (aa (aa (aa (aa h).2).2).2).1) (f_ (aa (aa (aa (aa h).2).2).2).2)
 |chain op K a b c=>intro X C N s n E j l k e O h;exact mQ O.room.units (aK a O (aa h).1) (aK b O (aa (aa h).2).1) (aK c O (aa (aa (aa h).2).2).1) (f_ (aa (aa (aa h).2).2).2)
 |band a b=>intro X C N s n E j l k e O h;exact(Ba (dP a O (aa h).1) (λz=>dP b O (fw (aa h).2 z)) λz=>by have g:=(aa (cy (aa h).2 z)).1;obtain⟨r,R,q⟩:=t_ (pos:=(vw e).pos) (N:=N) (es:=(vw e).es.tail) g;exact⟨r,R,q,nR b O (aa (cy (aa h).2 z)).2 (by rw[g];rfl)⟩).pt
 |bor a b=>intro X C N s n E j l k e O h;exact(kh (dP a O (aa h).1) (λz=>dP b O (fw (aa h).2 z)) λz=>by have g:=(aa (cy (aa h).2 z)).1;obtain⟨r,R,q⟩:=ua (pos:=(vw e).pos) (N:=N) (es:=(vw e).es.tail) g;exact⟨r,R,q,nR b O (aa (cy (aa h).2 z)).2 (by rw[g,Bool.or_true])⟩).pt
 |bnot a=>intro X C N s n E j l k e O h;exact zj (dP a O h)
 |_=>exact Bb λ_ _ _ _=>rfl
theorem nR(c:CE):Ml c:=by
 cases c with
 |band a b=>intro X C N s d E j i k e O h H;exact Ba (dP a O (aa h).1) (λz=>dP b O (fw (aa h).2 z)) λz=>by have g:=(aa (cy (aa h).2 z)).1;obtain⟨r,R,q⟩:=t_ (pos:=(vw e).pos) (N:=N) (es:=(vw e).es.tail) g;exact⟨r,R,q,nR b O (aa (cy (aa h).2 z)).2 (by rw[g];rfl)⟩
 |bor a b=>intro X C N s d E j i k e O h H;exact kh (dP a O (aa h).1) (λz=>dP b O (fw (aa h).2 z)) λz=>by have g:=(aa (cy (aa h).2 z)).1;obtain⟨r,R,q⟩:=ua (pos:=(vw e).pos) (N:=N) (es:=(vw e).es.tail) g;exact⟨r,R,q,nR b O (aa (cy (aa h).2 z)).2 (by rw[g,Bool.or_true])⟩
 |_=>exact Bc rfl
theorem dQ(cs:List CE):∀{X:Cx} {cell:Str->Bool} {N:Ls} {sc:Sc} {CX:dh} {E:XK} {Φ:FT} {Γ:Str->Option D} {k:Nat} {es:Lx},cv X cell N sc CX E Φ Γ k->fq cs N sc es=MW->PA X (dJ cs N es) (tL X.K X.mg E Φ Γ cs):=by
 intro X cell N sc CX E Φ Γ k es O h;cases cs with
 |nil=>exact zl
 |cons c cs=>exact s9 (aa (aa h).2).1 (aK c O (aa h).1) (dQ cs O (aa (aa h).2).2)
theorem kj(cs:List CE):∀{X:Cx} {cell:Str->Bool} {N:Ls} {sc:Sc} {CX:dh} {E:XK} {Φ:FT} {Γ:Str->Option D} {k:Nat} {es:Lx},cv X cell N sc CX E Φ Γ k->fq cs N sc es=MW->cs.length<2->PO X (dJ cs N es).head? (zr X.K X.mg E Φ Γ cs):=by
 intro X cell N sc CX E Φ Γ k es O h H;cases cs with
 |nil=>exact mV
 |cons c cs=>cases cs with
  |nil=>exact mW (aK c O (aa h).1)
  |cons _ _=>exact absurd H (by simp)
theorem nS(cs:List CE):∀{X:Cx} {cell:Str->Bool} {N:Ls} {sc:Sc} {CX:dh} {E:XK} {Φ:FT} {Γ:Str->Option D} {k:Nat} {es:Lx},cv X cell N sc CX E Φ Γ k->fq cs N sc es=MW->yO X (dJ cs N es) (cs.map (tT X.K X.mg E Φ Γ)):=by
 intro X cell N sc CX E Φ Γ k es O h;cases cs with
 |nil=>trivial
 |cons c cs=>exact⟨dP c O (aa h).1,nS cs O (aa (aa h).2).2⟩
theorem nT(c:CE):Mm c:=by
 cases c with
 |seq a=>intro X C N s m E o n k T t e O h l;exact zJ (aK a O h)
 |range f=>
  intro X C N s m E o n k T t e O h l;have i:=(aa (aa h).2).1;have H:=(aa (aa h).2).2;have g:=eU i;have j:=dQ f O i;cases f with
  |nil=>cases H
  |cons a f=>cases f with
   |nil=>exact Hh O (aa h).1 (g _ Ze) rfl j
   |cons b f=>cases f with
    |nil=>exact Hi O (aa h).1 (g _ Ze) (g _ (Zb _ Ze)) rfl j
    |cons d f=>cases H
 |down f=>intro X C N s m E o n k T t e O h l;exact nQ λ_ _=>by rw[aW]
 |zip f=>
  intro X C N s m E o n k T t e O h l;have i:=(aa (aa h).2).1;have H:=(aa (aa h).2).2;have g:=eU i;have j:=dQ f O i;cases f with
  |nil=>cases(aa H).1
  |cons a f=>cases f with
   |nil=>cases(aa H).1
   |cons b f=>cases f with
    |nil=>exact zN O (aa h).1 (l (aa H).2) (g _ Ze) (g _ (Zb _ Ze)) j
    |cons d f=>cases(aa H).1
 |_=>exact Bd λ_ _ _ _=>rfl
theorem ub(c:CE):Mn c:=by
 cases c with
 |emit a=>
  intro X C N S e E q p k K f g G s pos d A O b H h;cases K with
  |true=>cases h
  |false=>exact tD (IB H) (aK a O h)
 |inner t it i body=>intro X C N S e E q p k K f g G s pos d A O b H h;obtain⟨j,h⟩:=aa h;obtain⟨l,h⟩:=aa h;obtain⟨m,h⟩:=aa h;obtain⟨n,o⟩:=aa h;exact m_ (by cases K<;>rfl) (by cases K<;>rfl) (λit=>t5 (A9 H)) b O.calm (A9 H) (nT it O l ki) (nN m) (j1 O j) (tz (nS i O n) (ub body O b (IC H) o))
 |_=>exact Be λ_ _ _ _ _ _=>rfl
end
noncomputable def aw(K:Fg)(m:GS)(E:XK)(D:Ends)(μ:La)(H:Hp):Res Fl->Prop
 | .ok (.next ρ') S'=>∀μ' H' σ',Ext μ H μ' H'->aI K m μ' S' H'->aX K m μ' H' ρ' σ'->D.nx σ' H'
 | .ok (.ret d) S'=>∀μ' H' v,Ext μ H μ' H'->aI K m μ' S' H'->Rep K m μ' H' d v->D.rt v H'
 | .ok (.brk ρ') S'=>∀μ' H' σ',Ext μ H μ' H'->aI K m μ' S' H'->aX K m μ' H' ρ' σ'->D.bk σ' H'
 | .ok (.cont ρ') S'=>∀μ' H' σ',Ext μ H μ' H'->aI K m μ' S' H'->aX K m μ' H' ρ' σ'->D.ct σ' H'
 | .err x S'=>∀μ' H',Ext μ H μ' H'->aI K m μ' S' H'->y8 m.mg E x H'
 | .fail=>False
noncomputable def tS(K:Fg)(m:Mg)(E:XK)(Φ:FT)(Γ:Str->Option D)(c:CS):TS:=λD σ H=>∃F μ ρ S,aI K ⟨m,F⟩ μ S H/\aX K ⟨m,F⟩ μ H ρ σ/\aw K ⟨m,F⟩ E D μ H (ap Φ Γ c ρ S)
noncomputable def lq(K:Fg)(m:Mg)(E:XK)(Φ:FT)(Γ:Str->Option D)(cs:List CS):TS:=λD σ H=>∃F μ ρ S,aI K ⟨m,F⟩ μ S H/\aX K ⟨m,F⟩ μ H ρ σ/\aw K ⟨m,F⟩ E D μ H (af Φ Γ cs ρ S)
section
variable {mg:GS}{E:XK}{D D':Ends}
theorem aw.ext{r:Res Fl}(x:Ext μ H μ' H')(w:aw K mg E D μ H r):aw K mg E D μ' H' r:=by
 cases r with
 |ok f S=>
  cases f with
  |next a=>exact λm h s y=>w m h s (x.trans y)
  |ret d=>exact λm h s y=>w m h s (x.trans y)
  |brk a=>exact λm h s y=>w m h s (x.trans y)
  |cont a=>exact λm h s y=>w m h s (x.trans y)
 |err z S=>exact λm h y=>w m h (x.trans y)
 |fail=>exact w
theorem aw.bind{Rel:La->Hp->α->β->Prop}{r:Res α}{f:α->ae->Res Fl}(w:aw K mg E D μ H (r.bind f)):
  ak K mg E Rel μ H (λb H'=>∃μ' S' a,Ext μ H μ' H'/\aI K mg μ' S' H'/\Rel μ' H' a b/\aw K mg E D μ' H' (f a S')) r:=by
 cases r with
 |ok a S'=>exact λc d b x s r=>⟨_,_,a,x,s,r,aw.ext x (show aw K _ E D _ H _ from w)⟩
 |err y S'=>exact w
 |fail=>exact w
theorem aw.seq{r:Res Fl}{f:bI->ae->Res Fl}{N:L2.St->Hp->Prop}(w:aw K mg E D μ H (r.bind λF S1=>match F with
   | .next ρ'=>f ρ' S1
   |F=>.ok F S1)) (b:∀μ' H' σ' ρ' S',Ext μ H μ' H'->aI K mg μ' S' H'->aX K mg μ' H' ρ' σ'->aw K mg E D μ' H' (f ρ' S')->N σ' H'):aw K mg E {D with nx:=N} μ H r:=by
 cases r with
 |ok F S=>
  cases F with
  |next a=>exact λm h s x k e=>b m h s _ S x k e (aw.ext x (show aw K _ E D _ H _ from w))
  |ret d=>exact w
  |brk a=>exact w
  |cont a=>exact w
 |err z S=>exact w
 |fail=>exact w
end
theorem cg{t t':TS}(h:PS X st t)(w:∀D σ H,t' D σ H->t D σ H):PS X st t':=λp s σ H D I q=>h _ s _ H D I (w D _ H q)
theorem kl{st:List OB}{t t':TS}(h:eh X st t)(w:∀D σ H,t' D σ H->t D σ H):eh X st t':=λp s σ H D I q=>h _ s _ H D I (w D _ H q)
noncomputable def fK:Expr->Bool
 | .ListComp .. =>MX
 | .SetComp .. =>MX
 | .DictComp .. =>MX
 |_=>MW
noncomputable def uc:Expr->Bool
 | .ListComp .. =>MW
 |_=>MX
noncomputable def ud(s:Sc)(x:Str):Bool:=s.lookup x==some .local||s.lookup x==some .cell
noncomputable def Mo(s:Sc)(x:Str)(p:Pos)(v:Expr):Bool:=s.lookup x==some .local&&(p.line==(vw v).pos.line&& !((vw v).sc.names.any λ(n,k)=>n==x&&(k== .local||k== .cell)))
noncomputable def dS:OB:=.Pass ⟨0,0,0,0⟩
set_option genInjectivity false in
structure MK where
 e0:Expr:=dE
 e1:Expr:=dE
 a:List OB:=[]
 b:List OB:=[]
 pos:Pos:=⟨0,0,0,0⟩
 hp:Pos:=⟨0,0,0,0⟩
noncomputable def vs:OB->MK
 | .Assign ts v p=>{e0:=ts.headD dE,e1:=v,pos:=p}
 | .AugAssign t _ v p=>{e0:=t,e1:=v,pos:=p}
 | .Expr v p=>{e0:=v,pos:=p}
 | .Return v p=>{e0:=v.getD dE,pos:=p}
 | .Pass p=>{pos:=p}
 | .Break p=>{pos:=p}
 | .Continue p=>{pos:=p}
 | .If t x y p=>{e0:=t,a:=x,b:=y,pos:=p}
 | .For t i x _ p=>{e0:=t,e1:=i,a:=x,pos:=p}
 | .While t x _ p=>{e0:=t,a:=x,pos:=p}
 | .Raise v _ p=>{e0:=v.getD dE,pos:=p}
 | .Try x [.ExceptHandler t _ y hp] _ _ p=>{e0:=t.getD dE,a:=x,b:=y,pos:=p,hp:=hp}
 |_=>{}
noncomputable def Bf(o i:CE)(N:Ls)(e:Expr):Expr:=.Subscript (a7 o N (vw e).e0) (a7 i N (vw e).e1) (vw e).pos
noncomputable def Bg(o i:CE)(N:Ls)(s:Sc)(e:Expr):Bool:=f8 (a7 i N (vw e).e1)&&(bS o N s (vw e).e0&&bS i N s (vw e).e1)
noncomputable def ID(nb:Option (Str×Nat×Pos×Pos))(e:Expr):Expr:=match nb with
 |none=>e
 |some (x,k,p,q)=>.List [.Constant (.str x) k p,e] q
noncomputable def jl(nb:Option (Str×Nat×Pos×Pos))(p n y:Str)(t np vp c r h:Pos):Qw:=.ExceptHandler (some (.Name p t)) (some n) [.Return (some (ID nb (.Call (.Name y np) [.Name n vp] [] c))) r] h
mutual
noncomputable def km:CS->Ls->OB->OB
 | .asg i e,N,st=>.Assign [.Name (N.getD i "") (vw (vs st).e0).pos] (a7 e N (vs st).e1) (vs st).pos
 | .asgT t e,N,st=>.Assign [iE t N (vs st).e0] (a7 e N (vs st).e1) (vs st).pos
 | .set o i v,N,st=>.Assign [Bf o i N (vs st).e0] (a7 v N (vs st).e1) (vs st).pos
 | .expr e,N,st=>.Expr (a7 e N (vs st).e0) (vs st).pos
 | .ret e,N,st=>.Return (some (a7 e N (vs st).e0)) (vs st).pos
 | .retN,_,st=>.Return none (vs st).pos
 | .pass,_,st=>.Pass (vs st).pos
 | .brk,_,st=>.Break (vs st).pos
 | .cont,_,st=>.Continue (vs st).pos
 | .ite c a b,N,st=>.If (a7 c N (vs st).e0) (cN a N (vs st).a) (cN b N (vs st).b) (vs st).pos
 | .for_ t it body,N,st=>.For (iE t N (vs st).e0) (sX it N (vs st).e1) (cN body N (vs st).a) [] (vs st).pos
 | .while_ _ c body,N,st=>.While (a7 c N (vs st).e0) (cN body N (vs st).a) [] (vs st).pos
 | .never,_,st=>st
 | .raise_ x es,N,st=>.Raise (some (.Call (.Name x (vw (vw (vs st).e0).e0).pos) (dJ es N (vw (vs st).e0).es) [] (vw (vs st).e0).pos)) none (vs st).pos
 | .tryK i body f _ _,N,st=>.Try (cN body N (vs st).a) [jl none "PairError" (N.getD i "") f (vw (vs st).e0).pos (vw (vw (vs ((vs st).b.headD dS)).e0).e0).pos (vw ((vw (vs ((vs st).b.headD dS)).e0).es.headD dE)).pos (vw (vs ((vs st).b.headD dS)).e0).pos (vs ((vs st).b.headD dS)).pos (vs st).hp] [] [] (vs st).pos
noncomputable def cN:List CS->Ls->List OB->List OB
 | [],_,_=>[]
 |c::cs,N,st=>km c N (st.headD dS)::cN cs N st.tail
end
noncomputable def ko:Expr->Bool
 | .Tuple xs _ _=>xs.all (foldedForSure 8)
 |_=>MW
noncomputable def kq(s:Sc):Expr->Bool
 | .Tuple ts _ _=>ts.any fun
  | .Name id _=>s.lookup id==some .cell
  |_=>MX
 |_=>MX
mutual
noncomputable def Bh:CS->Ls->Sc->OB->Bool
 | .asg i e,N,sc,st=>N[i]?==some (N.getD i "")&&(ud sc (N.getD i "")&&(bS e N sc (vs st).e1&&(fK (a7 e N (vs st).e1)||(jU e&&(sc.lookup (N.getD i "")==some .cell||Mo sc (N.getD i "") (vw (vs st).e0).pos (a7 e N (vs st).e1))))))
 | .asgT t e,N,sc,st=>mM t&&((ko (a7 e N (vs st).e1)||kq sc (iE t N (vs st).e0))&&(fK (a7 e N (vs st).e1)&&(qB (λ_=>MW) N sc t&&bS e N sc (vs st).e1)))
 | .set o i v,N,sc,st=>Bg o i N sc (vs st).e0&&(fK (a7 v N (vs st).e1)&&bS v N sc (vs st).e1)
 | .expr e,N,sc,st=>fK (a7 e N (vs st).e0)&&bS e N sc (vs st).e0
 | .ret e,N,sc,st=>bS e N sc (vs st).e0
 | .retN,_,_,_=>MW
 | .pass,_,_,_=>MW
 | .brk,_,_,_=>MW
 | .cont,_,_,_=>MW
 | .ite c a b,N,sc,st=>bS c N sc (vs st).e0&&(eB a N sc (vs st).a&&eB b N sc (vs st).b)
 | .for_ t it body,N,sc,st=>qB (λ_=>MW) N sc t&&(za it N sc t (vs st).e1&&(mL (sX it N (vs st).e1)&&eB body N sc (vs st).a))
 | .while_ _ c body,N,sc,st=>bS c N sc (vs st).e0&&eB body N sc (vs st).a
 | .never,_,_,_=>MW
 | .raise_ x es,N,sc,st=>a_ sc x&&(fq es N sc (vw (vs st).e0).es&&(0<es.length&&(dJ es N (vw (vs st).e0).es).all bR))
 | .tryK i body f _ _,N,sc,st=>N[i]?==some (N.getD i "")&&(sc.lookup (N.getD i "")==some .local&&(ew (N.getD i "")&&(a_ sc "PairError"&&(a_ sc f&&eB body N sc (vs st).a))))
noncomputable def eB:List CS->Ls->Sc->List OB->Bool
 | [],_,_,_=>MW
 |c::cs,N,sc,st=>Bh c N sc (st.headD dS)&&eB cs N sc st.tail
end
section
variable {E:XK}{pos:Pos}
theorem kr{v:Expr}{o:Option Expr}(h:fK v=MW):swapsWith v o line env=pure MX:=by cases v<;>first|rfl|cases h
theorem Bi(O:cv X cell N sc CX E Φ Γ k):X.env.blockKind=.function:=by unfold Env.blockKind;rw[O.kd];rfl
theorem nU(O:cv X cell N sc CX E Φ Γ k){v:Expr}{x:Str}{p:Pos}(h:uc v=MW)(H:sc.lookup x=some .cell):swapsWith v (some (.Name x p)) line X.env=pure MX:=by
 have e:X.env.kindOf x=some .cell:=by show X.env.scope.names.lookup x=_;rw[O.sc];exact H
 cases v<;>first| (cases h)|skip
 show(pure _)=pure _;have a:(some Na==some NameKind.local)=MX:=by lia
 lia
theorem ue(O:cv X cell N sc CX E Φ Γ k){e:Expr}{g:List Nk}{p:Pos}{x:Str}(h:Mo sc x p (.ListComp e g scope vp)=MW):swapsWith (.ListComp e g scope vp) (some (.Name x p)) line X.env=pure MW:=by
 obtain⟨d,h⟩:=aa h;obtain⟨H,a⟩:=aa h;have c:X.env.kindOf x=some .local:=by show X.env.scope.names.lookup x=_;rw[O.sc];simp_all
 show pure (X.env.blockKind== .function&&X.env.kindOf x==some _&&p.line==vp.line&& !_)=pure _;rw[Bi O,show(p.line==vp.line)=MW from H];have b:(!scope.names.any _)=MW:=a;lia
theorem uf(O:cv X (λ_=>MW) N sc CX E Φ Γ k){x:Str}(h:ud sc x=MW):L2.Loc X.env.scope x:=by unfold L2.Loc;rw[O.sc];unfold ud at h;simpa using h
theorem Bj{D:Ends}{i:Nat}{e:CE}(h:tS X.K X.mg E Φ Γ (.asg i e) D σ H):tE X.K X.mg E Φ Γ e σ H λv H1=>D.nx (σ.set i (some v)) H1:=by obtain⟨F,g,j,S,b,a,w⟩:=h;exact⟨F,_,_,S,b,a,(aw.bind w).mono λv H1 z=>az z λc f d x s r W=>W _ _ _ .refl s ((a.mono x).set r)⟩
theorem IE{e:CE}(h:jU e=MW):∃box N fr tg it ifs body,e=.comp box N fr tg it ifs body:=by
 unfold jU at h;split at h
 ·exact⟨_,_,_,_,_,_,_,rfl⟩
 ·cases h
theorem Bk(O:cv X (λ_=>MW) N sc CX E Φ Γ k){i:Nat}{e:CE}(h:Bh (.asg i e) N sc st=MW):PS X (km (.asg i e) N st) (tS X.K X.mg E Φ Γ (.asg i e)):=by
 obtain⟨d,h⟩:=aa h;obtain⟨r,h⟩:=aa h;obtain⟨m,b⟩:=aa h;have d:=beq_iff_eq.mp d
 have p:swapsWith (a7 e N (vs st).e1) (some (.Name (N.getD i "") (vw (vs st).e0).pos)) (vs st).pos.line X.env=pure MX->PS X (km (.asg i e) N st) (tS X.K X.mg E Φ Γ (.asg i e)):=λt=>
  cg (jt (i:=i) (by rw[O.n];exact O.nd) (by rw[O.n];exact d) (uf O r) (aK e O m) t (.inl (O.fn _ rfl))) λD M H q=>Bj q
 rcases P9.mp b with b|b
 ·exact p (kr b)
 ·obtain⟨b,c⟩:=aa b;obtain⟨box,o,P,T,it,I,body,rfl⟩:=IE b;rcases P9.mp c with c|c
  ·exact p (nU O rfl (beq_iff_eq.mp c))
  ·have l:=ue O (line:=(vs st).pos.line) c;have u:X.env.scope.names.lookup (N.getD i "")=some .local:=by rw[O.sc];exact beq_iff_eq.mp (aa c).1
   obtain⟨K,h⟩:=aa m;obtain⟨v,h⟩:=aa h;obtain⟨w,h⟩:=aa h;obtain⟨x,h⟩:=aa h;obtain⟨y,h⟩:=aa h;obtain⟨z,h⟩:=aa h;obtain⟨B,G⟩:=aa h;have s:=A3 O K
   refine cg (mw (N:=o) (j:=i) (g:=qJ X.K T) (tb:=tC X.K X.mg oL Φ Γ I body) O.calm (by rw[O.n];exact O.nd) (by rw[O.n];exact d) u l s (A4 O v) (nT it O y ki) (λA a=>ez _ a>>=λok=>if ok=MW then br (xf MX _ _ _ _) (EY MX _ _ a) (_::_) 0 (.ref A) a else pure ())
    (λit A a=>t5 (kd:=MX) rfl) (λC S n F A=>?_) (nN z)) λD M H q=>j3 (tg0:=.Name (N.getD i "") (vw (vs st).e0).pos) (Bj q)
   have f:=A5 O s.kind w C S n F;exact⟨j1 f x,tz (nS I f B) (ub body (K:=MX) f rfl rfl G)⟩
end
def xg(h:M8)(H:Hp)(h':M8)(e:MZ)(cls:M0):Prop:=
 ∃o vs a0 T O ts,h'.get? e=some o/\(o.cls=cls/\vs[0]?=some a0)/\o.data=.fields vs/\vs[1]?=some (.ref T)/\T≠e/\h'.get? T=some O/\O.data=.fields ts/\ts[3]?=some .none/\(h.get? e=none/\h.get? T=none)/\H e=none/\H T=none
noncomputable def bh(P:M5)(w:Nc):dh:=λouter H s E v s'=>∃e cls H',v=.ref e/\s'.os=s.os/\Pu s'.gens/\Un (bU outer) [] H H' s.heap s'.heap/\dU P w H' s'.heap/\E cls none H'/\xg s.heap H' s'.heap e cls
theorem qQ{P:M5}(o:List Env)(H:Hp)(s:MY)(e:M0)(S:MY)(z:bh P w o H s E0 e S):False:=by obtain⟨_,_,_,_,_,_,_,_,q,_⟩:=z;exact q
theorem ug{P:M5}{o:HO}(x:bc P w H h a o):∃u,h.get? a=some u:=by
 cases o with
 |lst X=>obtain⟨_,_,_,_,e⟩:=x;exact⟨_,e⟩
 |tup X=>obtain⟨_,_,_,_,u,e,_⟩:=x;exact⟨_,e⟩
 |dK k=>obtain⟨_,_,_,_,o,_,_,e,_⟩:=x;exact⟨_,e⟩
 |dT k=>obtain⟨_,_,_,_,o,_,_,e,_⟩:=x;exact⟨_,e⟩
 |set S n=>obtain⟨o,_,_,_,e,_⟩:=x;exact⟨_,e⟩
 |ins C d fs=>obtain⟨_,_,_,e,_⟩:=x;exact⟨_,e⟩
 |own y=>obtain⟨_,e⟩:=x;exact⟨_,e⟩
 |xd fs=>obtain⟨_,⟨_,_,_,e,_⟩,_⟩:=x;exact⟨_,e⟩
 |rng lo b=>obtain⟨_,_,_,e⟩:=x;exact⟨_,e⟩
 |frz O u=>obtain⟨e,_⟩:=x;exact⟨_,e⟩
 |tbl p=>exact⟨_,show h.get? a=some _ from x⟩
 |met f y=>exact⟨_,show h.get? a=some _ from x⟩
 |ext c=>obtain⟨_,e,_⟩:=x;exact e
section
variable {s2 s3:MY}{e T:MZ}{B:M8}{E:XK}
theorem Bl(I:Inv X pq σ H' s2)(x:X.ex=[])(A:X.stack=X.env::X.outer)(G:∀b o,s2.heap.get? b=some o->b∉bU X.stack->b≠e->b≠T->B.get? b=some o)
  (J:X.s₀.heap.get? e=none/\X.s₀.heap.get? T=none) (D:H' e=none/\H' T=none) (F:Ra B X.outer e cls a0 h') (up:s2.heap.UpToSlots h') (q:E cls none H')
  (K:s3.os=s2.os) (L:s3.gens=s2.gens) (M:s3.heap=h'):bh X.prog X.w X.outer X.H₀ X.s₀ E (.ref e) s3:=by
 have U:=I.base;rw[x]at U;have m:∀b,b∈bU X.stack->∃o,s2.heap.get? b=some o/\∀vs,o.data≠.fields vs:=λb f=>(I.stack.mem f).2;have k:∀b o,s2.heap.get? b=some o->b∉bU X.stack->b≠e->b≠T->h'.get? b=some o:=λb o h H c g=>F.1 b o (G b o h H c g);have old:∀b o,X.s₀.heap.get? b=some o->b≠e/\b≠T:=λb o h=>⟨λz=>(by grind),λz=>(by grind)⟩
 have nl:∀b o,X.s₀.heap.get? b=some o->b∉bU X.outer->b∉bU X.stack:=λb o h H c=>by
  rcases Zf.mp (I.stkSub b c)with z|z
  ·have:=Zj h;rw[z]at this;exact absurd this (Pb.mpr I.ok.above)
  ·exact H z
 have C:∀b∈bU X.outer,b∈bU X.stack:=λb f=>by rw[A];obtain⟨P,h,H⟩:=ZW.mp f;exact ZW.mpr ⟨P,Zb _ h,H⟩
 have t:∀b o,s2.heap.get? b=some o->b≠e->b≠T->∃O,h'.get? b=some O:=λb o h H c=>by
  by_cases f:b∈bU X.stack
  ·obtain⟨o1,g,i⟩:=m b f;obtain⟨sl,l⟩:=up b o1 g i;exact⟨_,l⟩
  ·exact⟨o,k b o h f H c⟩
 have U':Un (bU X.outer) [] X.H₀ H' X.s₀.heap h':=by
  refine⟨λb o h H c g=>k b o (U.keep b o h H c g) (nl b o h c) (old b o h).1 (old b o h).2,λb o h H c g=>?_,U.free,λb o h H=>?_,U.tups,U.frzs,U.tbls⟩
  ·obtain⟨sl,i⟩:=U.slot b o h H c g;obtain⟨o1,l,v⟩:=m b (C b c);rw[i]at l;cases l;obtain⟨S,w⟩:=up b _ i v;exact⟨S,w⟩
  ·obtain⟨O,i⟩:=U.there b o h H;exact t b O i (old b o h).1 (old b o h).2
 have s:∀b u,H' b=some u->b∉bU X.stack/\b≠e/\b≠T:=λb u h=>
  ⟨λz=>(by rw[I.stkFree b z]at h;cases h),λz=>(by grind),λz=>(by grind)⟩
 have V:dU X.prog X.w H' h':=λa o N=>(I.hok a o N).stay (λb u f h=>by grind) (λ_ q=>q) λ_ _ q=>q;obtain⟨k1,k2,k3,Y,vs,d,W,Z,h,H,c,g,i,l,v,w,Q⟩:=F
 have f_:∀o,s2.heap.get? d=some o->d=T:=λo y=>by
  refine O3 λR=>?_;by_cases f:d∈bU X.stack
  ·obtain⟨o1,j,p⟩:=m d f;obtain⟨sl,r⟩:=up d o1 j p;rw[v]at r;cases r;exact p _ w
  ·rw[G d o y f l R]at i;cases i
 refine⟨e,cls,H',rfl,by rw[K];exact I.os,by rw[L];exact I.bare,by grind,by grind,q,?_⟩;rw[M];refine⟨Y,vs,a0,d,W,Z,h,H,c,g,l,v,w,Q,⟨J.1,?_⟩,D.1,?_⟩
 ·cases n:X.s₀.heap.get? d with
  |none=>rfl
  |some o=>obtain⟨O,j⟩:=U.there d o n (by simp);rw[f_ O j,J.2]at n;cases n
 ·cases n:H' d with
  |none=>rfl
  |some u=>obtain⟨o,y⟩:=ug (I.hok d u n);rw[f_ o y,D.2]at n;cases n
theorem Bm{l:List Env}(f:xg h0 Hx h e cls)(t:h.FunFrames base l):∃T a0,(h0.get? e=none/\h0.get? T=none)/\(Hx e=none/\Hx T=none)/\Ra (PySem.W.hideAll h (e::T::bU l)) l e cls a0 h:=by obtain⟨u,vs,a0,T,O,v,d,g,i,j,k,m,n,p,H,c⟩:=f;exact⟨T,a0,H,c,λb o q=>PySem.W.of_hideAll _ q,PySem.W.hideAll_none _ (by simp),PySem.W.funFrames_hide t (λE s a r=>Zb _ (Zb _ (ZW.mpr ⟨E,s,r⟩))),u,vs,T,O,v,d,g,i,j,PySem.W.hideAll_none _ (by simp),k,m,n,p⟩
theorem Bn{l:List Env}:∀b o,h.get? b=some o->b∉bU l->b≠e->b≠T->(PySem.W.hideAll h (e::T::bU l)).get? b=some o:=λb o H a c d=>
 PySem.W.hideAll_get _ H λf=>by grind
theorem Bo{v:M0}(I:Inv X pq σ H s)(c:bh X.prog X.w X.stack H s E v s2)(a:X.ex=[]):∃e cls H',v=.ref e/\Inv X pq σ H' s2/\E cls none H'/\xg s.heap H' s2.heap e cls:=by obtain⟨e,cls,H',rfl,o,B,un,h,q,f⟩:=c;exact⟨e,cls,H',rfl,I.call' o un h B (λb z=>absurd z (by simp)),q,f⟩
theorem xg.old(f:xg h0 Hx h e cls)(t:∀b o,h1.get? b=some o->∃o',h0.get? b=some o'):xg h1 Hx h e cls:=by
 obtain⟨r,vs,a,T,O,s,c,d,i,j,k,l,m,p,g,G⟩:=f
 have n:∀b,h0.get? b=none->h1.get? b=none:=λb H=>by
  cases q:h1.get? b with
  |none=>rfl
  |some o=>obtain⟨o',E⟩:=t b o q;rw[H]at E;cases E
 exact⟨r,vs,a,T,O,s,c,d,i,j,k,l,m,p,⟨n _ g.1,n _ g.2⟩,G⟩
end
section
variable {E:XK}
def lr(X:Cx)(E:XK):Prop:=X.ex=[]/\X.stack=X.env::X.outer/\X.env.frame=some X.env.locals/\X.xe=λe s'=>wpAny (model X.prog X.w) X.A (leaving X.env e) (λ_ s=>bh X.prog X.w X.outer X.H₀ X.s₀ E e s) (λa s=>bh X.prog X.w X.outer X.H₀ X.s₀ E a s) s'
theorem lr.of{P:M5}{E:XK}:lr (fC (bh P w) P w K mg base N qual scope f cd A outer s H E) E:=
 ⟨rfl,rfl,rfl,rfl⟩
theorem lr.own(L:lr X E):PM (model X.prog X.w) X.A X.env X.xe:=by rw[L.2.2.2];exact PassesOwn.leaving
theorem lr.pass(L:lr X E):jx (bh X.prog X.w) X E:=by intro P r H s v S I c;obtain⟨a,h,k,d⟩:=L;obtain⟨e,cls,l,rfl,g,q,f⟩:=Bo I c a;obtain⟨T,A,n,N,i⟩:=Bm (f.old (h1:=X.s₀.heap) λb o j=>I.base.there b o j (by grind)) (h▸g.stack);rw[d];exact wpAny_leaves_onW (by rw[I.ok.frames,h]) k i λm F up=>Bl (T:=T) g a h (by rw[h];exact Bn) n N F up q rfl rfl rfl
theorem lr.made{e:MZ}(L:lr X E)(I:Inv X pq σ H s)(m:QP s.heap h2 e (.ref C) args)(q:E (.ref C) none H):X.xe (.ref e) {s with heap:=h2}:=by
 obtain⟨g,c,w,j⟩:=L;rw[j];refine wpAny_leaves_madeW (base:=PySem.W.hideAll s.heap (bU X.stack)) (h:=s.heap) (by rw[I.ok.frames,c]) w (λb o z=>PySem.W.of_hideAll _ z) (PySem.W.funFrames_hide (c▸I.stack) (by rw[c];exact λf v a r=>ZW.mpr ⟨f,v,r⟩)) m λx t F y B up=>?_
 have ne:X.s₀.heap.get? e=none:=by
  cases i:X.s₀.heap.get? e with
  |none=>rfl
  |some o=>obtain⟨O,d⟩:=I.base.there e o i (by grind);rw[m.new]at d;cases d
 have n:H e=none:=by
  cases i:H e with
  |none=>rfl
  |some u=>obtain⟨o,l⟩:=ug (I.hok e u i);rw[m.new]at l;cases l
 exact Bl (T:=e) I g c (λb o p h2 _ _=>PySem.W.hideAll_get _ p h2) ⟨ne,ne⟩ ⟨n,n⟩ F ((Qk m.keeps).trans up) q rfl rfl rfl
end
noncomputable def kt:Lv:=[.type "ValueError",.type "Exception",.type "BaseException",.type "object"]
section
variable {E:XK}{x:Str}
end
open PySem PySem.Spec PySem.Calls PyProof.Rows PySem.W
def uh(x C:MZ)(h:M8):Prop:=∃o,h.get? x=some o/\o.cls=.ref C
theorem uh.type{x:MZ}(I:uh x C h):Looks M h (typeOf (.ref x)) (.ref C):=by obtain⟨o,H,a⟩:=I;exact a▸(Looks.ld H).andThen .now
theorem IF{Q:Unit->MY->Prop}{x:MZ}{n:M0}(L:Looks M s.heap (typeOf (.ref x)) (.ref C))(c:Looks M s.heap (isSubtype (.ref C) (.type "BaseException")) MW)(a:Q () s):
  wpAny M A (checkBuiltinCall "BaseException.__getattribute__" ⟨[.ref x,n],[]⟩) Q E s:=by
 have f:builtinKind "BaseException.__getattribute__"=some .slot:=by decide+kernel
 have h:splitId "BaseException.__getattribute__"=some ("BaseException","__getattribute__"):=by decide+kernel
 have b:=PySem.F.args_bexc_ga (.ref x) n;obtain⟨i,g,d,t,o⟩:=s;simp only[checkBuiltinCall,f,h];refine Za ?_;unfold isInstance;refine Za (L.at (c.at ?_));simp only[Bool.not_true,ZA,if_false];cases H:Manifest.signature? "BaseException.__getattribute__" with
 |none=>exact Zd a
 |some S=>simp only[argsOk,H]at b;have e:Bind.checkArgs "BaseException.__getattribute__" S ⟨[.ref x,n],[]⟩=pure ():=b;show wpAny M A (Bind.checkArgs "BaseException.__getattribute__" S ⟨[.ref x,n],[]⟩) Q E _;rw[e];exact Zd a
section
variable {x:MZ}
theorem nV{T:M0}{R:Qf->MY->Prop}(X:K.In s.heap)(I:uh x C s.heap)(H:mroIn K C (.type "object")=some MW)
  (h:R (.ok (.ret (.ref C))) s):codeAny (model prog w) A (.call (.builtin "getset_descriptor.__get__") ⟨[.builtin "object.__class__",.ref x,T],[]⟩) R s:=by
 obtain⟨b,g,d,t,o⟩:=s;have L:=I.type (M:=model prog w);have a:=looks_mroIn (M:=model prog w) X H;refine O7 KF.slot_gs.plain KF.entry_gs (KF.slot_gs.check _ _ _ _ _ _ _ _ KF.type_class (KF.args_gs _ _ _) ?_);unfold N5.«getset_descriptor.__get__» Q2;rw[dga_obj];refine Za (Zd ?_);unfold Q3 Q4 Q5 isInstance;simp only[KF.owner_class]
 repeat lk
 refine⟨Qe _ (by decide+kernel),NB KF.entry_class ?_⟩;unfold N5.«object.__class__» shownTypeOf
 repeat lk
 exact h
structure ku (K:Fg)(C:MZ):Prop where
 cls:∃cd,clsIn K C=some cd
 ga:findIn K (.ref C) "__getattribute__"=some (some (.builtin "BaseException.__getattribute__"))
 gn:findIn K (.ref C) "__getattr__"=some none
 at_:findIn K (.ref C) "__class__"=some (some (.builtin "object.__class__"))
 ob:mroIn K C (.type "object")=some MW
 be:mroIn K C (.type "BaseException")=some MW
 sp:specialIn K (.builtin "object.__class__") "__get__"=some (some (.builtin "getset_descriptor.__get__"))
 tk:takesIn K (.builtin "object.__class__")=some MW
theorem IG{Q:Ov->MY->Prop}(Z:ku K C)(X:K.In s.heap)(I:uh x C s.heap)(h:Q (some (.ref C)) {s with toks:=s.toks+1}):wpAny (model prog w) A (getAttr? (.ref x) "__class__") Q E s:=by
 obtain⟨H,g,d,t,o⟩:=s;have L:=I.type (M:=model prog w);have b:=looks_findIn (M:=model prog w) X Z.ga;have L2:=looks_findIn (M:=model prog w) X Z.gn
 have c:Looks (model prog w) H (Si (.ref x) (.ref C) "__class__") (.bind (.builtin "getset_descriptor.__get__") (.builtin "object.__class__")):=
  (looks_findIn (M:=model prog w) X Z.at_).andThen ((looks_specialIn X Z.sp).andThen
   ((show Looks (model prog w) H (Sj (some (.builtin "object.__class__")) (some (.builtin "getset_descriptor.__get__"))) (some (.builtin "getset_descriptor.__get__",.builtin "object.__class__"))from(looks_takesIn (M:=model prog w) X Z.tk).andThen .now).andThen (Looks.tag .now)))
 have e:=looks_mroIn (M:=model prog w) X Z.be;unfold getAttr? getAttrBy? getAttrBy;refine Za (wpAny_mkText (Za (O4 (ZI (Za (L.at (Za (b.at ?_))))))));show wpAny _ _ (getAttrByItsOwn _ _ _ _ _ _) _ _ _;unfold getAttrByItsOwn hookBefore;refine Za ?_;show wpAny _ _ (typeLookup (.ref C) "__getattr__") _ _ _;refine L2.at ?_;refine Za (O4 (ZI ?_));show wpAny _ _ (boundAndCalled _ _ _) _ _ _;unfold boundAndCalled;have a:bindSpecial (.builtin "BaseException.__getattribute__") (.ref x)=pure (.builtin "BaseException.__getattribute__",[.ref x]):=PySem.F.attr_ValueError.ga.bind _;rw[a];refine Za (Zd ?_);refine Qy (O7 PySem.F.attr_ValueError.ga.plain PySem.F.entry_bexc_ga (IF (s:=⟨H,g,d,t+1,o⟩) L e ?_));unfold N5.«object.__getattribute__»;refine Za (Zd ?_);refine Za (Zd ?_);refine Za (L.at (Za (c.at ?_)));show wpAny _ _ (PU _ _ _ _) _ _ _;unfold PU
 repeat(any_goals (first|assumption|wp_step))
 refine nV (s:=⟨H,g,d,t+1,o⟩) X I Z.ob ?_
 repeat(any_goals (first|assumption|wp_step))
theorem IH(Z:ku K C):KitX K (.ref x) (.ref C) (uh x C) where
 ty:=λ_ _ _ I=>I.type
 it:=λ_ _ X _=>by
  obtain⟨cdD,hcD⟩:=Z.cls;unfold clsIn at hcD;split at hcD
  ·rename_i c' d' cd' sl' ho;intro A' Q' E' s' k q;unfold isType loadHead;exact Za (wpAny_loadPart (k _ _ (X _ _ ho)) (Zd q))
  ·cases hcD
 ne:=λh tp dd its n sl X htp=>by
  obtain⟨cdD,hcD⟩:=Z.cls;refine Qn.mpr λq=>?_;have e:C=tp:=Value.ref.inj (beq_iff_eq.mp q);subst e;unfold clsIn at hcD;split at hcD
  ·rename_i c' d' cd' sl' ho;have z:=(X _ _ ho).symm.trans htp;cases z
  ·cases hcD
 ca:=λX I k=>IG Z X I k
end
section
variable {x:MZ}
noncomputable def dA(x C:MZ):HO:=.ext (uh x C)
theorem nW{P:M5}(i:uh x C h):bc P w H h x (dA x C):=
 ⟨i,let⟨o,e,_⟩:=i;⟨o,e⟩,λa b ⟨o,e,c⟩ k=>⟨o,k o e,c⟩⟩
theorem Bp{D:M0}{b:Bool}(Z:ku X.K C)(e:kitOne X.K (.ref C) D=some b):aS X (.builtin "isinstance") (λxs H Q=>∃v,xs=[.ref x,v]/\RelV v D/\(∀u,RelV v u->u=D)/\H x=some (dA x C)/\Q (.bl b) H):=by
 intro p s k H vs U Q I r h;obtain⟨v,rfl,j,a,c,q⟩:=h;cases r with
 |cons R d=>
  cases d with
  |cons f g=>cases g;cases R;rw[a _ f];obtain⟨i,_,_⟩:=(show bc X.prog X.w H s.heap x (dA x C)from I.hok x _ c);exact kia_one (IH Z) I.kIn i e (λz=>nomatch z) λt=>⟨.bl b,H,I.kept (t':=t) λb o e=>e,rfl,q⟩
end
end Py
namespace Py
open PySem PySem.Spec PySem.SeqAt PyProof.Rows L2
def Sub(H a:Hp):Prop:=∀b o,H b=some o->a b=some o
theorem Sub.refl:Sub H H:=λ_ _ h=>h
theorem Sub.laid{p:MZ}{o:HO}(s:Sub H H')(c:H' p=none):Sub H (aZ H' p o):=λb u h=>by have a:=s b u h;rw[aD (λz=>by rw[z,c]at a;cases a)];exact a
theorem ui:∀{bs:List Bool} {us:Lv},Vals (bs.map V.bl) us->us=bs.map ON
 | [],_,.nil=>rfl
 |b::bs,_,.cons r t=>by rw[ui t,show _=ON b from r];rfl
theorem Bq(bs:List Bool)(A:NM)(s:MY):∀y,y∈(bs.map ON).toArray->EqAt A s y (.bool MW) (isBoolOf MW y):=λy h=>by obtain⟨b,_,rfl⟩:=Zo.mp (List.mem_toArray.mp h);exact EqAt.bool_bool b MW
theorem II:jh X "list.count" (λx xs H Q=>∃(l:MZ) (bs:List Bool),x=.ref l/\xs=[.bl MW]/\H l=some (.lst (bs.map V.bl))/\Q (.int (bs.count MW:Nat)) H):=by
 intro p s j H x xs v u Q I g d h;obtain⟨l,bs,rfl,rfl,c,q⟩:=h;cases g;cases d with
 |cons r R=>
  cases R;cases r;obtain⟨_,i,n,f,a⟩:=(show bc X.prog X.w H s.heap l (.lst (bs.map V.bl))from I.hok l _ c);rw[ui f]at a;refine OL PySem.F.slot_list_count ⟨_,a,rfl⟩ PySem.F.entry_list_count (PySem.F.args_list_count_2 _ _) (list_countAt l _ n none #[] (.bool MW) (isBoolOf MW)) ⟨a,Bq bs _ _,?_⟩;have e:List.countP (isBoolOf MW) (bs.map ON).toArray.toList=bs.count MW:=by rw[List.toList_toArray,List.countP_map];rfl
  rw[e];exact⟨.int _,H,I.kept (t':=s.toks+1) λb o e=>e,⟨_,rfl⟩,q⟩
theorem IJ:jh X "list.index" (λx xs H Q=>∃(l:MZ) (bs:List Bool),x=.ref l/\xs=[.bl MW]/\H l=some (.lst (bs.map V.bl))/\MW∈bs/\bs.length<1000/\Q (.int (bs.idxOf MW:Nat)) H):=by
 intro P s z H x xs v U Q I w t h;obtain⟨l,bs,rfl,rfl,f,g,y,q⟩:=h;cases w;cases t with
 |cons r R=>
  cases R;cases r;obtain⟨_,k,n,u,c⟩:=(show bc X.prog X.w H s.heap l (.lst (bs.map V.bl))from I.hok l _ f);rw[ui u]at c;have d:bs.idxOf MW<bs.length:=QI g;refine OL PySem.F.slot_list_index ⟨_,c,rfl⟩ PySem.F.entry_list_index (PySem.F.args_list_index_2 _ _) (list_indexAt l _ n none #[] (.bool MW) (isBoolOf MW) (bs.idxOf MW) (by simpa using d) (by omega) ?_ ?_) ⟨c,Bq bs _ _,?_⟩
  ·simp[isBoolOf]
  ·intro m j a;have:=Q8 (p:=(· ==MW)) (xs:=bs) (i:=m) a;simpa[isBoolOf]using this
  ·exact⟨.int _,H,I.kept (t':=s.toks+1) λb o e=>e,⟨_,rfl⟩,q⟩
noncomputable def iQ(y:Str):CE:=.blt .isinst [.var 0,.glob y]
noncomputable def kw(y:Str):CE:=.lit (.str y)
noncomputable def gm(a b c d w v:Ls):List CS:=
 [.asg 1 (.lst MX (a.map iQ)),.asg 1 (.bin .Add (.var 1) (.lst MX (b.map iQ))),.asg 1 (.bin .Add (.var 1) (.lst MX (c.map iQ))),.asg 1 (.bin .Add (.var 1) (.lst MX (d.map iQ))),
  .ite (.bor (.bnot (iQ "ValueError")) (.cmp .NotEq (.meth .count (.var 1) [.lit (.bl MW)]) (.lit (.int 1)))) [.ret (.lit (.str "other"))] [],
  .asg 2 (.lst MX (w.map kw)),.ret (.idx (.bin .Add (.var 2) (.lst MX (v.map kw))) (.tix (.var 1) [.lit (.bl MW)]))]
noncomputable def kx(st:List OB):Bool:=((st.drop 4).take 1).all (λs=>(vw (vs s).e0).es.length==2&&(vw (vw (vw ((vw (vs s).e0).es.tail.headD dE)).e0).e0).pos.endLine==(vw (vw ((vw (vs s).e0).es.tail.headD dE)).e0).pos.line)&&(st.length==7&&
 ((st.drop 6).take 1).all λs=>(vw (vw (vw (vs s).e0).e1).e0).pos.endLine==(vw (vw (vs s).e0).e1).pos.line)
structure KX (X:Cx)(N:Ls)(C:MZ)(bf:Str->Bool)(ys:Ls):Prop where
 n:X.N=N
 nd:N.Nodup
 len:N.length=3
 loc:∀(i:Nat) (y:Str),N[i]?=some y->X.env.scope.names.lookup y=some .local/\ew y=MW
 fn:∀y,X.fn y=MW
 isi:Gl X "isinstance"/\X.mg "isinstance"=none
 ve:Gl X "ValueError"/\X.mg "ValueError"=none
 kv:PySem.W.kitOne X.K (.ref C) (.type "ValueError")=some MW
 z:ku X.K C
 cl:∀y∈ys,Gl X y/\(y==("__debug__":Str))=MX/\∃D,X.mg y=some (.ref D)/\PySem.W.kitOne X.K (.ref C) (.ref D)=some (bf y)
section
variable {x:MZ}{ys:Ls}
theorem ib(O:KX X N C bf ys){i:Nat}(h:i<3):N[i]?=some (N.getD i ""):=by rw[Oo,Zh (by rw[O.len];exact h)];rfl
theorem gq(O:KX X N C bf ys){i:Nat}{pos:Pos}(H:i<3):PE X (.Name (N.getD i "") pos) (rh i):=by obtain⟨a,h⟩:=O.loc i _ (ib O H);exact rj (by rw[O.n];exact ib O H) (.inl a) (iG h).1 (iG h).2
noncomputable def Mp(x C:MZ)(b:Bool):TE:=λσ H Q=>σ[0]?=some (some (.ref x))/\H x=some (dA x C)/\Q (.bl b) H
theorem Br(O:KX X N C bf ys)(c:y∈ys):PE X (a7 (iQ y) N e) (Mp x C (bf y)):=by obtain⟨g,G,D,a,b⟩:=O.cl y c;refine aJ (r_ (x:="isinstance") (Bp (x:=x) O.z b) O.isi.1 O.isi.2 (by decide+kernel) (dg (gq O (by decide)) (dg (rn (v:=.ref D) g a rfl G) el))) λd H Q h=>?_;exact⟨_,h.1,.ref D,rfl,rfl,λu r=>r,h.2.1,h.2.2⟩
theorem Bs(O:KX X N C bf ys):PE X (a7 (iQ "ValueError") N e) (Mp x C MW):=by refine aJ (r_ (x:="isinstance") (Bp (x:=x) O.z O.kv) O.isi.1 O.isi.2 (by decide+kernel) (dg (gq O (by decide)) (dg (xu (v:=.ty "ValueError") O.ve.1 O.ve.2 (by decide+kernel) rfl) el))) λa H Q h=>?_;exact⟨_,h.1,.ty "ValueError",rfl,rfl,λu r=>r,h.2.1,h.2.2⟩
theorem ky(O:KX X N C bf ys):∀{zs:Ls} {es:Lx},(∀y∈zs,y∈ys)->PA X (dJ (zs.map iQ) N es) (λσ H Q=>σ[0]?=some (some (.ref x))/\H x=some (dA x C)/\Q ((zs.map bf).map V.bl) H)
 | [],es,_=>dX el λσ H Q h=>h.2.2
 |z::zs,es,a=>by refine dX (dg (Br (x:=x) O (a z Ze)) (ky O (es:=es.tail) λy b=>a y (Zb _ b))) λσ H Q h=>?_;exact⟨h.1,h.2.1,h.1,h.2.1,h.2.2⟩
theorem uj:∀{zs:Ls} {es:Lx},PA X (dJ (zs.map kw) N es) (λσ H Q=>Q (zs.map V.str) H)
 | [],es=>dX el λσ H Q h=>h
 |z::zs,es=>dX (dg (rm (x:=z)) (uj (zs:=zs) (es:=es.tail))) λσ H Q h=>h
theorem kz{t t':TS}(h:PS X st t)(w:∀D σ H,t' D σ H->t D σ H):PS X st t':=λp s σ H D I q=>h p s σ H D I (w D σ H q)
def Mk(x C:MZ)(bs:List Bool)(σ:L2.St)(H:Hp):Prop:=σ.length=3/\σ[0]?=some (some (.ref x))/\H x=some (dA x C)/\∃p,σ[1]?=some (some (.ref p))/\H p=some (.lst (bs.map V.bl))
theorem kA(O:KX X N C bf ys){i:Nat}{p pos:Pos}(h:i<3)(H:PE X e te)(a:fK e=MW):PS X (.Assign [.Name (N.getD i "") p] e pos) (lD te (dV i)):=
 jt (by rw[O.n];exact O.nd) (by rw[O.n];exact ib O h) (.inl (O.loc i _ (ib O h)).1) H (kr a) (.inl (O.fn _))
theorem nX(O:KX X N C bf ys){a:Ls}(f:∀y∈a,y∈ys)(g:a.length<=1000):PS X (km (.asg 1 (.lst MX (a.map iQ))) N st)
  (λD σ H=>(σ.length=3/\σ[0]?=some (some (.ref x))/\H x=some (dA x C))/\∀σ' H',Mk x C (a.map bf) σ' H'->Sub H H'->D.nx σ' H'):=
 kz (kA O (by decide) (gQ (ky (x:=x) O f)) rfl) λD σ H ⟨⟨b,c,h⟩,e⟩=>⟨c,h,by simp;exact Zy g (by decide),λp d=>e _ _ ⟨by simp[b],by simpa using c,by rw[aD (bT h d)];exact h,p,by simp[b],bO⟩ (Sub.refl.laid d)⟩
theorem uk(O:KX X N C bf ys){a:Ls}(bs:List Bool)(m:∀y∈a,y∈ys)(f:bs.length+a.length<=1000):PS X (km (.asg 1 (.bin .Add (.var 1) (.lst MX (a.map iQ)))) N st)
  (λD σ H=>Mk x C bs σ H/\∀σ' H',Mk x C (bs++a.map bf) σ' H'->Sub H H'->D.nx σ' H'):=
 kz (kA O (by decide) (hV l4 (gq O (i:=1) (by decide)) (gQ (ky (x:=x) O m))) rfl) λD σ H ⟨⟨c,d,h,p,l,e⟩,k⟩=>⟨_,l,d,h,by simp;exact Zy (Zy (Nat.le_add_left _ _) f) (by decide),λq b=>
  ⟨p,q,bs.map V.bl,(a.map bf).map V.bl,rfl,rfl,by rw[aD (bT e b)];exact e,bO,by simp;exact Zy f (by decide),λr g=>by
   have j:aZ H q (.lst ((a.map bf).map V.bl)) x=some (dA x C):=by rw[aD (bT h b)];exact h
   exact k _ _ ⟨by simp[c],by simpa using d,by rw[aD (bT j g)];exact j,r,by simp[c],by rw[bO,N2]⟩ ((Sub.refl.laid b).laid g)⟩⟩
theorem iR(h:bR e=MW):((backTo cpos (starEach [e] env)).all (λx=> !x.1)&&(backToKw cpos (keywordEach [] env)).all (λx=>x.1.isSome)&&decide ([e].length+([]:List QG).length+(if([]:List QG).isEmpty then 0 else 1)<30))=MW:=by rw[mT (es:=[e]) (λx H=>by rw[NV.mp H];exact h)];rfl
theorem kB(O:KX X N C bf ys){id:String}{p:Pos}{j}(s:Slot "list" name id)(h:typeOf (.builtin id)=pure (.type "method_descriptor"))(a:jh X id r)(H:(apos.endLine==cpos.line)=MW):
  PE X (.Call (.Attribute (.Name (N.getD 1 "") vp) name apos) [.Constant (.bool MW) j p] [] cpos) (Me X.K "list" r (rh 1) (hW (L2.tC (.bl MW)) lO)):=
 qv PySem.F.plainAttrs_list s h a (gq O (by decide)) (dg qo el) rfl (iR rfl) H rfl rfl
theorem ul(O:KX X N C bf ys)(bs:List Bool)(g:bs.count MW=1)(a:(vw (vs st).e0).es.length=2)(i:((vw (vw (vw ((vw (vs st).e0).es.tail.headD dE)).e0).e0).pos.endLine==(vw (vw ((vw (vs st).e0).es.tail.headD dE)).e0).pos.line)=MW):
  PS X (km (.ite (.bor (.bnot (iQ "ValueError")) (.cmp .NotEq (.meth .count (.var 1) [.lit (.bl MW)]) (.lit (.int 1)))) [.ret (.lit (.str "other"))] []) N st) (λD σ H=>Mk x C bs σ H/\D.nx σ H):=by
 have e:a7 (.bor (.bnot (iQ "ValueError")) (.cmp .NotEq (.meth .count (.var 1) [.lit (.bl MW)]) (.lit (.int 1)))) N (vs st).e0=.BoolOp .Or [a7 (.bnot (iQ "ValueError")) N ((vw (vs st).e0).es.headD dE),a7 (.cmp .NotEq (.meth .count (.var 1) [.lit (.bl MW)]) (.lit (.int 1))) N ((vw (vs st).e0).es.tail.headD dE)] (vw (vs st).e0).pos:=by show Expr.BoolOp _ (_::cond ((vw (vs st).e0).es.length==2) _ _) _=_;rw[a];rfl
 show PS X (.If (a7 (.bor _ _) N (vs st).e0) (cN [_] N _) [] _) _;rw[e];refine kz (qr (PW.pt (qp (jq (ro (Bs (x:=x) O))) (jp (xN xJ (kB O PySem.F.slot_list_count PySem.F.type_list_count II i) jn rfl)))) (Fj) lw) λD σ H ⟨⟨j,b,c,p,d,h⟩,f⟩=>?_;refine⟨b,c,MW,rfl,_,d,.inl ⟨rfl,_,.of h⟩,p,bs,rfl,rfl,h,rfl,?_⟩;rw[g];exact⟨_,rfl,f⟩
theorem nY(O:KX X N C bf ys)(bs:List Bool){w:Ls}(g:w.length<=1000):PS X (km (.asg 2 (.lst MX (w.map kw))) N st)
  (λD σ H=>Mk x C bs σ H/\∀σ' H',(Mk x C bs σ' H'/\∃q,σ'[2]?=some (some (.ref q))/\H' q=some (.lst (w.map V.str)))->Sub H H'->D.nx σ' H'):=
 kz (kA O (by decide) (gQ uj) rfl) λD σ H ⟨⟨a,d,b,p,f,c⟩,e⟩=>⟨by simp;exact Zy g (by decide),λq h=>e _ _ ⟨⟨by simp[a],by simpa using d,by rw[aD (bT b h)];exact b,p,by simpa using f,by rw[aD (bT c h)];exact c⟩,q,by simp[a],bO⟩ (Sub.refl.laid h)⟩
theorem Bt(O:KX X N C bf ys)(bs:List Bool){w v:Ls}{r:Str}(o:MW∈bs)(c:bs.length<1000)(j:(w++v)[bs.idxOf MW]?=some r)(hw:w.length+v.length<=1000)
  (n:((vw (vw (vw (vs st).e0).e1).e0).pos.endLine==(vw (vw (vs st).e0).e1).pos.line)=MW):PS X (km (.ret (.idx (.bin .Add (.var 2) (.lst MX (v.map kw))) (.tix (.var 1) [.lit (.bl MW)]))) N st)
  (λD σ H=>(Mk x C bs σ H/\∃q,σ[2]?=some (some (.ref q))/\H q=some (.lst (w.map V.str)))/\∀H',Sub H H'->D.rt (.str r) H'):=by
 refine kz (rB (jz sg (hV l4 (gq O (i:=2) (by decide)) (gQ uj)) (kB O PySem.F.slot_list_index PySem.F.type_list_index IJ n) (λ_ _=>rfl))) λD σ H ⟨⟨⟨s,t,u,p,l,d⟩,q,m,f⟩,k⟩=>?_;refine⟨_,m,by simp;exact Zy (Zy (Nat.le_add_left _ _) hw) (by decide),λa h=>⟨q,a,w.map V.str,v.map V.str,rfl,rfl,by rw[aD (bT f h)];exact f,bO,by simp;exact Zy hw (by decide),λb g=>?_⟩⟩
 have e:aZ (aZ H a (.lst (v.map V.str))) b (.lst (w.map V.str++v.map V.str)) p=some (.lst (bs.map V.bl)):=by
  have:aZ H a (.lst (v.map V.str)) p=some (.lst (bs.map V.bl)):=by rw[aD (bT d h)];exact d
  rw[aD (bT this g)];exact this
 refine⟨_,l,.inl ⟨rfl,_,.of e⟩,p,bs,rfl,rfl,e,o,c,b,w.map V.str++v.map V.str,_,_,rfl,rfl,.of bO,?_,k _ ((Sub.refl.laid h).laid g)⟩;have y:=(Zl.mp j).1;unfold gL hX;rw[<-N2];simp only[Zk];rw[if_pos (by omega),if_pos (by omega)];show(Qo V.str (w++v))[_]?=_;rw[N6,NL,j];rfl
theorem um(O:KX X N C bf ys){a b c d w v:Ls}{r:Str}{st:List OB}(e:ys=a++b++c++d)(f:ys.length<1000)(hw:w.length+v.length<=1000)(h1:(ys.map bf).count MW=1)(q:(w++v)[(ys.map bf).idxOf MW]?=some r)(n:kx st=MW):
  eh X (cN (gm a b c d w v) N st) (λD σ H=>(σ.length=3/\σ[0]?=some (some (.ref x))/\H x=some (dA x C))/\∀H',Sub H H'->D.rt (.str r) H'):=by
 obtain⟨K,k⟩:=aa n;obtain⟨k,i⟩:=aa k;have k:=Nj k;obtain⟨F,st,rfl⟩:=ZJ (show st.length=6+1 from k);obtain⟨G,st,rfl⟩:=ZJ (show st.length=5+1 from ZG k);obtain⟨s2,st,rfl⟩:=ZJ (show st.length=4+1 from ZG (ZG k));obtain⟨s3,st,rfl⟩:=ZJ (show st.length=3+1 from ZG (ZG (ZG k)));obtain⟨S,st,rfl⟩:=ZJ (show st.length=2+1 from ZG (ZG (ZG (ZG k))));obtain⟨J,st,rfl⟩:=ZJ (show st.length=1+1 from ZG (ZG (ZG (ZG (ZG k)))));obtain⟨L,st,rfl⟩:=ZJ (show st.length=0+1 from ZG (ZG (ZG (ZG (ZG (ZG k))))));have K:((vw (vs S).e0).es.length==2&&_)=MW:=(aa (show(_&&MW)=MW from K)).1;have i:=(aa (show(_&&MW)=MW from i)).1;obtain⟨K,t⟩:=aa K;have j:a.length+b.length+c.length+d.length<1000:=by rw[e]at f;simpa[Q0]using f
 have p:MW∈ys.map bf:=List.count_pos_iff.mp (by omega);have E:ys.map bf=((a.map bf++b.map bf)++c.map bf)++d.map bf:=by rw[e];simp
 refine λP s σ H D I g=>fB (nX (x:=x) O (a:=a) (st:=F) (λy h=>by rw[e];simp[h]) (by omega)) (fB (uk (x:=x) O (st:=G) (a.map bf) (λy h=>by rw[e];simp[h]) (by simp;omega)) (fB (uk (x:=x) O (st:=s2) (a.map bf++b.map bf) (λy h=>by rw[e];simp[h]) (by simp;omega))
  (fB (uk (x:=x) O (st:=s3) (a.map bf++b.map bf++c.map bf) (λy h=>by rw[e];simp[h]) (by simp;omega)) (fB (ul (x:=x) O (ys.map bf) (st:=S) h1 (Nj K) t) (fB (nY (x:=x) O (ys.map bf) (w:=w) (st:=J) (by omega)) (fB (Bt (x:=x) O (ys.map bf) (w:=w) (v:=v) (r:=r) (st:=L) p (by simpa using f) q hw i) lw)))))) P s σ H D I ?_
 obtain⟨g,hD⟩:=g;refine⟨g,λY H1 M U=>⟨M,λZ H2 u Q=>⟨u,λσ3 H3 A R=>⟨A,λσ4 H4 m T=>?_⟩⟩⟩⟩;rw[<-E]at m;exact⟨m,m,λσ5 H5 B V=>⟨B,λl W=>hD l λb o z=>W b o (V b o (T b o (R b o (Q b o (U b o z)))))⟩⟩
end
end Py
namespace Py
abbrev nZ(X:Cx)(A:NM):Cx:={X with A:=A,calm:=MX,xe:=λ_ _=>False}
theorem uo(I:L2.Inv X pq σ H s)(h:A.frames=X.A.frames):L2.Inv (nZ X A) pq σ H s:=
 ⟨⟨I.ok.mod,I.ok.kind,I.ok.glob,I.ok.blt,I.ok.above,I.ok.inj,I.ok.has,I.ok.cab,(λz=>by cases z),h.trans I.ok.frames,I.ok.stk,I.ok.exf,I.ok.bs,I.ok.bsz,I.ok.noex,I.ok.exfs,I.ok.funs,I.ok.frf⟩,I.os,I.bare,I.base,I.loc,I.cell,I.free,I.freeC,I.pin,I.hok,I.len⟩
theorem Bu(I:L2.Inv (nZ X A) pq σ H s)(ok:X.Ok):L2.Inv X pq σ H s:=⟨ok,I.os,I.bare,I.base,I.loc,I.cell,I.free,I.freeC,I.pin,I.hok,I.len⟩
def kC(P:M5)(w:Nc)(K:Fg)(m:Mg)(base:M8)(f:MZ)(C:MZ)(r:Str):Prop:=
 ∀(A:NM) (outer:List Env) (s:MY) (H:Hp) (e:MZ),A.depth<recursionLimit->lP P w K m base A outer s H->H e=some (dA e C)->codeAny (model P w) A (.call (.ref f) ⟨[.ref e],[]⟩) (CR Gi outer P w H s (λv H'=>v=.str r/\Sub H H') E0) s
structure ML (K:Fg)(mg:Mg)(C:MZ)(bf:Str->Bool)(ys:Ls):Prop where
 kv:PySem.W.kitOne K (.ref C) (.type "ValueError")=some MW
 z:ku K C
 cl:∀y∈ys,∃D,mg y=some (.ref D)/\PySem.W.kitOne K (.ref C) (.ref D)=some (bf y)
noncomputable def kD(N Y:Ls)(s:Scope):Bool:=(N.length==3&&N.all (λy=>s.names.lookup y==some .local&&ew y))&&(a_ s.names "isinstance"&&(a_ s.names "ValueError"&&Y.all (λy=>a_ s.names y)))
theorem IM{P:M5}{x e0:Str}{U:NZ}{a b c d wd v:Ls}{r:Str}
  (F:qw K x qual st f U) (S:b6 N [e0] (bx st)) (hb:Binds K U [e0] []) (D:cN (gm a b c d wd v) N (bY st)=bY st) (hk:kx (bY st)=MW) (G:kD N (a++b++c++d) (bx st)=MW)
  (R:ML K mg C bf (a++b++c++d)) (hi:mg "isinstance"=none) (hv:mg "ValueError"=none) (hl:(a++b++c++d).length<1000) (hw:wd.length+v.length<=1000) (h1:((a++b++c++d).map bf).count MW=1) (hr:(wd++v)[((a++b++c++d).map bf).idxOf MW]?=some r):
  kC P w K mg base f C r:=by
 intro A g s H e z E he;obtain⟨oc,od,kV,doc,pm,an,j,ct,osl,rfl,lk,t⟩:=F.ex;have k:K.In s.heap:=E.mod.kin.keeps λb o e=>(E.bs b o e).1;have T:s.heap.NoLimit:=E.mod.nolimit.keeps λb o e=>(E.bs b o e).1
 have l:∀y∈[e0].zip [N9 e],(bx st).names.lookup y.1=some .local\/((bx st).names.lookup y.1=some .cell/\((cellsFrom (s.heap.objs.size+1) (bx st).names []).lookup y.1).isSome=MW):=λ⟨n,v⟩ h=>by
  rcases S.par n (OX h).1 with q|q
  ·exact .inl q
  ·exact .inr ⟨q,PySem.W.cellsFrom_some _ _ _ (.inl q)⟩
 refine R_ z (k _ _ lk) rfl S.co S.gen rfl (PySem.W.codeRec_of k t) (hb s [.ref e] k rfl _ _ _ _ ?_);refine Rg S.kind l λenv B Y Z=>?_;subst B;refine⟨T.keeps Z.toInCall.keep,codeAny_func ?_⟩;have I0:L2.Inv (fC Gi P w K mg base N qual (bx st) f j {A with handled:=none} g s H E0) [] (start N [.ref e]) H Y:=xW S rfl ⟨E.frames,E.mod,E.bs,E.bsz,E.funs,E.frf,E.hok,E.bare⟩ rfl (.cons rfl .nil) Z;have I:=uo (A:=A.deeper (envOfC qual (bx st) s.heap.objs.size f j)) I0 rfl;obtain⟨L,M⟩:=aa G;obtain⟨L,k3⟩:=aa L;obtain⟨M,Q⟩:=aa M;obtain⟨Q,X⟩:=aa Q;have V:=Nj L;have gl:∀y,a_ (bx st).names y=MW->(bx st).names.lookup y=some .globalImplicit/\(y==("__debug__":Str))=MX:=λy h=>⟨(cJ h).1,(cJ h).2.1⟩
 have O:KX (nZ (fC Gi P w K mg base N qual (bx st) f j {A with handled:=none} g s H E0) (A.deeper (envOfC qual (bx st) s.heap.objs.size f j))) N C bf (a++b++c++d):=
  ⟨rfl,S.nd,V,λi y h=>by have:=Zn.mp k3 y (Zr h);obtain⟨q1,q2⟩:=aa this;exact⟨Nj q1,q2⟩,λ_=>rfl,⟨(gl _ M).1,hi⟩,⟨(gl _ Q).1,hv⟩,R.kv,R.z,λy h=>⟨(gl y (Zn.mp X y h)).1,(gl y (Zn.mp X y h)).2,R.cl y h⟩⟩
 have W:=um (x:=e) O (st:=bY st) rfl hl hw h1 hr hk;rw[D]at W;refine Nn (W [] Y (start N [.ref e]) H {nx:=λ_ _=>False,rt:=λv p=>v=.str r/\Sub H p} I ⟨⟨by simp[L2.start,V],by simp[L2.start],he⟩,λp h'=>⟨rfl,h'⟩⟩) (λfl s' m=>?_) λe s' m=>m.elim;cases fl with
 |ret u=>obtain⟨v,σ',p,J,rv,q⟩:=m;exact⟨v,p,J.os,J.bare,J.base,J.hok,rv,q⟩
 |next=>obtain⟨_,_,_,q⟩:=m;exact False.elim q
 |brk=>obtain⟨_,_,_,q⟩:=m;exact False.elim q
 |cont=>obtain⟨_,_,_,q⟩:=m;exact False.elim q
section
variable {s2:MY}{e T:MZ}{B:M8}
theorem Bv(I:L2.Inv X pq σ H s)(f:L2.Inv X pq σ H' s2)(N:s.heap.get? e=none/\s.heap.get? T=none)(M:H' e=none/\H' T=none)(hB:∀b o,s2.heap.get? b=some o->b∉bU X.stack->b≠e->b≠T->B.get? b=some o)(st:B.StaysIn h3)(up:s2.heap.UpToSlots h3)
  (l:X.ex=[]) (J:X.stack=X.env::X.outer):L2.Inv X pq σ H' {s2 with heap:=h3,toks:=tk}:=by
 have K:∀b o,s2.heap.get? b=some o->b∉bU X.stack->b≠e->b≠T->h3.get? b=some o:=λb o h d h3 g=>st b o (hB b o h d h3 g);have A:∀b,b∈bU X.stack->∃o,s2.heap.get? b=some o/\∀vs,o.data≠.fields vs:=λb j=>(f.stack.mem j).2;have n:∀b∈bU X.stack,H' b=none:=f.stkFree;have U:=f.base;rw[l]at U;have O:∀b o,s.heap.get? b=some o->b≠e/\b≠T:=λb o h=>⟨λz=>(by rw[z,N.1]at h;cases h),λz=>(by rw[z,N.2]at h;cases h)⟩
 have old:∀b o,X.s₀.heap.get? b=some o->b≠e/\b≠T:=λb o h=>by obtain⟨D,d⟩:=I.base.there b o h (by rw[l];simp);exact O b D d
 have nl:∀b o,X.s₀.heap.get? b=some o->b∉bU X.outer->b∉bU X.stack:=λb o h d h3=>by
  rcases Zf.mp (f.stkSub b h3)with z|z
  ·have:=Zj h;rw[z]at this;exact absurd this (Pb.mpr f.ok.above)
  ·exact d z
 have L:∀b∈bU X.outer,b∈bU X.stack:=λb j=>by rw[J];obtain⟨en,h,d⟩:=ZW.mp j;exact ZW.mpr ⟨en,Zb _ h,d⟩
 have w:∀b o,s2.heap.get? b=some o->b≠e->b≠T->∃D,h3.get? b=some D:=λb o h d h3=>by
  by_cases j:b∈bU X.stack
  ·obtain⟨o1,g,y⟩:=A b j;obtain⟨sl,E⟩:=up b o1 g y;exact⟨_,E⟩
  ·exact⟨o,K b o h j d h3⟩
 have t:∀b u,H' b=some u->b∉bU X.stack/\b≠e/\b≠T:=λb u h=>
  ⟨λz=>(by rw[n b z]at h;cases h),λz=>(by rw[z,M.1]at h;cases h),λz=>(by rw[z,M.2]at h;cases h)⟩
 have G:dU X.prog X.w H' h3:=λa o Z=>(f.hok a o Z).stay (λb u j h=>by
  have F:∃u,H' b=some u:=by rcases j with rfl|j<;>exact⟨_,by assumption⟩
  obtain⟨u',hu⟩:=F;obtain⟨t1,t2,t3⟩:=t b u' hu;exact K b u h t1 t2 t3) (λ_ q=>q) λ_ _ q=>q
 have C:∀c v,s2.heap.IsCell c v->h3.IsCell c v:=λc v ⟨o,h,d⟩=>by obtain⟨sl,g⟩:=up c o h (λvs q=>by rw[d]at q;cases q);exact⟨_,g,d⟩
 obtain⟨m,hm,hl⟩:=f.loc;refine⟨f.ok,f.os,f.bare,?_,⟨m,up.ns hm,λi x v h d h3=>?_⟩,λx c h=>?_,f.free,f.freeC,λp Q=>?_,G,f.len⟩
 ·rw[l];refine⟨λb o h d h3 g=>K b o (U.keep b o h d h3 g) (nl b o h h3) (old b o h).1 (old b o h).2,λb o h d h3 g=>?_,U.free,λb o h d=>?_,U.tups,U.frzs,U.tbls⟩
  ·obtain⟨sl,y⟩:=U.slot b o h d h3 g;obtain⟨o1,E,h7⟩:=A b (L b h3);rw[y]at E;cases E;obtain⟨S,h8⟩:=up b _ y h7;exact⟨S,h8⟩
  ·obtain⟨D,y⟩:=U.there b o h d;exact w b D y (old b o h).1 (old b o h).2
 ·obtain⟨u,r,q⟩:=hl i x v h d h3;refine⟨u,r,?_⟩;rcases q with⟨k,z⟩| ⟨k,c,z1,z2⟩
  ·exact .inl ⟨k,z⟩
  ·exact .inr ⟨k,c,z1,C c _ z2⟩
 ·obtain⟨v,hv⟩:=f.cell x c h;exact⟨v,C c v hv⟩
 ·obtain⟨p1,p2,R,V,p5⟩:=f.pin p Q;have W:=(I.pin p Q).1;refine⟨K p.1 p.2 p1 (λz=>?_) (O _ _ W).1 (O _ _ W).2,p2,R,V,p5⟩;rcases Zf.mp (f.stkSub p.1 z)with z|z
  ·exact R z
  ·exact V z
theorem IP{vs:Av}{O:Obj}(I:L2.Inv X pq σ H s)(w:X.ex=[])(r:X.s₀.heap.get? e=none)(A:∀p∈X.pn++pq,p.1≠e)(n:H e=none)(i:s.heap.get? e=some O)(t:O.cls=.ref C)(j:O.data=.fields vs):
  L2.Inv X pq σ (aZ H e (dA e C)) s:=by
 obtain⟨m,y,J⟩:=id I.loc;have ne:∀b,H b≠none->b≠e:=λb d z=>d (by rw[z];exact n);refine⟨I.ok,I.os,I.bare,?_,I.loc,I.cell,?_,λx c h=>?_,λp k=>?_,λb u d=>?_,I.len⟩
 ·have U:=I.base;refine⟨U.keep,U.slot,λb o h a g=>?_,U.there,λb l h=>?_,λb o u h=>?_,λb E h=>?_⟩
  ·rw[aD (λz=>by rw[z,r]at h;cases h)];exact U.free b o h a g
  ·have:=U.tups b l h;rw[aD (ne b (by rw[this];simp))];exact this
  ·have:=U.frzs b o u h;rw[aD (ne b (by rw[this];simp))];exact this
  ·obtain⟨m,this⟩:=U.tbls b E h;exact⟨m,by rw[aD (ne b (by rw[this];simp))];exact this⟩
 ·obtain⟨o,G,F,h,a,_⟩:=y;rw[aD (λz=>by rw[z,i]at h;cases h;rw[j]at a;cases a)];exact I.free
 ·obtain⟨v,o,a,g⟩:=I.cell x c h;rw[aD (λz=>by rw[z,i]at a;cases a;rw[j]at g;cases g)];exact I.freeC x c h
 ·obtain⟨P,B,D⟩:=I.pin p k;exact⟨P,by rw[aD (A p k)];exact B,D⟩
 ·by_cases f:b=e
  ·subst f;rw[bO]at d;cases d;exact nW ⟨O,i,t⟩
  ·rw[aD f]at d;exact(I.hok b u d).stay (λ_ _ _ q=>q) (λc q=>by rw[aD (ne c (by rw[q];simp))];exact q) λc l q=>by rw[aD (ne c (by rw[q];simp))];exact q
theorem IQ{M:Mg}(I:L2.Inv X pq σ H s)(u:h3.Ns X.env.locals M)(hs:NP X.env.locals s.heap h3):L2.Inv X pq (M3 X.N.length none) H {s with heap:=h3,toks:=tk}:=by
 obtain⟨m,r,_⟩:=id I.loc;obtain⟨oL,_,_,w,_⟩:=id r;have low:∀b o,X.s₀.heap.get? b=some o->b≠X.env.locals:=λb o e=>Zq (Zs (Zj e) I.ok.above);refine⟨I.ok,I.os,I.bare,⟨λb o e n g h=>(hs.2 b (low b o e)).trans (I.base.keep b o e n g h),λb o e n g h=>?_,I.base.free,λb o e h=>?_,I.base.tups,I.base.frzs,I.base.tbls⟩,⟨M,u,λj y V E d D=>?_⟩,λy c e=>?_,I.free,I.freeC,λp x=>?_,λb z f=>?_,by simp⟩
 ·obtain⟨sl,E⟩:=I.base.slot b o e n g h;exact⟨sl,(hs.2 b (low b o e)).trans E⟩
 ·obtain⟨O,E⟩:=I.base.there b o e h;exact⟨O,(hs.2 b (low b o e)).trans E⟩
 ·rw[List.getElem?_replicate]at d;split at d<;>cases d
 ·obtain⟨v,o,k,l⟩:=I.cell y c e;exact⟨v,o,(hs.2 c (I.cne y c e)).trans k,l⟩
 ·obtain⟨A,B,P,C⟩:=I.pin p x;exact⟨(hs.2 _ P).trans A,B,P,C⟩
 ·refine(I.hok b z f).stay (λc W a q=>(hs.2 c ?_).trans q) (λ_ q=>q) λ_ _ q=>q;rintro rfl;rcases a with rfl|a
  ·rw[I.free]at f;cases f
  ·rw[I.free]at a;cases a
end
section
variable {s2:MY}{n:Str}{i:Nat}
theorem n_{x:MZ}{r:Str}{np pos:Pos}(K:kC X.prog X.w X.K X.mg X.base fa C r)(d:A.depth<recursionLimit)(l:Gl X y)(p:X.mg y=some (.ref fa))(m:PySem.W.keepIn X.K (.ref fa)=MW)(c:(y==("__debug__":Str))=MX)
  (q:X.N[i]?=some n) (o:X.env.scope.names.lookup n=some .local) (g:ew n=MW):PE (nZ X A) (.Call (.Name y np) [.Name n vp] [] pos) (λσ H Q=>(σ[i]?=some (some (.ref x))/\H x=some (dA x C))/\∀H',Sub H H'->Q (.str r) H'):=by
 intro P s σ H Q I h;refine NF (jo I l p ?_ c);refine PySem.W.callWith_K (h₀:=X.base) I.ok.mod.kin m (aO ((dg (rj (X:=nZ X A) q (.inl o) (iG g).1 (iG g).2) el) pos P s σ H (λG H1=>G=[.ref x]/\H1=H) I ⟨_,h.1.1,rfl,rfl⟩) λL S ⟨vs,H1,b,B,t,w⟩=>⟨b.kIn,?_⟩) rfl rfl;subst t w;cases B with
 |cons z R=>
  cases R;cases z;refine Qy (Oi (K A X.stack S H1 x d b.env0 h.1.2) λD J a=>?_);cases D with
  |error e=>exact False.elim a
  |ok F=>
   cases F with
   |ret u=>obtain⟨v,f,k,R,E,U⟩:=b.after a;subst E;exact⟨_,f,k,R,h.2 f U⟩
   |next=>exact False.elim a
   |brk=>exact False.elim a
   |cont=>exact False.elim a
def RV(nb:Option (Str×Nat×Pos×Pos))(r:Str)(v:V)(H a:Hp):Prop:=match nb with
 |none=>v=.str r/\Sub H a
 |some (x,_)=>∃p H1,Sub H H1/\H1 p=none/\v=.ref p/\a=aZ H1 p (.lst [.str x,.str r])
theorem RV.up{r:Str}{b:Hp}(h:RV nb r v H' b)(s:Sub H H'):RV nb r v H b:=by
 have t:∀{H1},Sub H' H1->Sub H H1:=λu a o e=>u a o (s a o e);cases nb with
 |none=>exact⟨h.1,t h.2⟩
 |some q=>obtain⟨p,H1,c,d⟩:=h;exact⟨p,H1,t c,d⟩
theorem IS{x:MZ}{r:Str}{np pos:Pos}(K:kC X.prog X.w X.K X.mg X.base fa C r)(b:A.depth<recursionLimit)(d:Gl X y)(g:X.mg y=some (.ref fa))(e:PySem.W.keepIn X.K (.ref fa)=MW)(a:(y==("__debug__":Str))=MX)
  (j:X.N[i]?=some n) (f:X.env.scope.names.lookup n=some .local) (c:ew n=MW) (nb:Option (Str×Nat×Pos×Pos)):PE (nZ X A) (ID nb (.Call (.Name y np) [.Name n vp] [] pos)) (λσ H Q=>(σ[i]?=some (some (.ref x))/\H x=some (dA x C))/\∀v H',RV nb r v H H'->Q v H'):=by
 have h:=n_ (x:=x) (r:=r) (np:=np) (vp:=vp) (pos:=pos) (A:=A) K b d g e a j f c;cases nb with
 |none=>exact aJ h λσ H Q q=>⟨q.1,λH' u=>q.2 _ _ ⟨rfl,u⟩⟩
 |some q=>exact aJ (gQ (dg rm (dg h el))) λσ H Q q=>⟨q.1,λH' u=>⟨(by show 2<=sizeLine;decide),λp c=>q.2 _ _ ⟨p,H',u,c,rfl,rfl⟩⟩⟩
noncomputable def EH(X:Cx)(nb:Option (Str×Nat×Pos×Pos))(f p:MZ)(D:Ends):XK:=λcls _ H'=>∃C r,cls=.ref C/\kC X.prog X.w X.K X.mg X.base f C r/\PySem.W.exmOne X.K (.ref C) (.ref p)=some MW/\∀v H'',RV nb r v H' H''->D.rt v H''
structure og (X:Cx)(pe n y:Str)(i:Nat)(fa pa:MZ):Prop where
 ex:X.ex=[]
 st:X.stack=X.env::X.outer
 fr:X.env.frame=some X.env.locals
 dp:X.A.depth<recursionLimit
 gp:Gl X pe/\X.mg pe=some (.ref pa)/\(pe==("__debug__":Str))=MX
 gy:Gl X y/\X.mg y=some (.ref fa)/\(y==("__debug__":Str))=MX
 kp:PySem.W.keepIn X.K (.ref fa)=MW
 nd:X.N.Nodup
 at_:X.N[i]?=some n
 nl:X.env.scope.names.lookup n=some .local
 np:ew n=MW
 fn:X.fn n=MW
noncomputable def Bw(X:Cx)(p:Lp)(D:Ends)(h:Qw):Vs:=λe s=>wpAny (model X.prog X.w) X.A (noteFrame e X.env) (λ_ S=>wpAny (model X.prog X.w) X.A (setFlight e none) (λ_ a=>wpAny (model X.prog X.w) X.A (handleBy e X.env [h]) (SP X p D) X.xe a) X.xe S) X.xe s
theorem handled{e T:MZ}{B:M8}{D:Ends}{np:Pos}(Z:og X pe n y i fa pa)(I:L2.Inv X pq σ H s)(J:L2.Inv X pq σ H' s2)(j:s.heap.get? e=none/\s.heap.get? T=none)(d:H' e=none/\H' T=none)
  (L:∀b o,s2.heap.get? b=some o->b∉bU X.stack->b≠e->b≠T->B.get? b=some o)  (l:Ra B X.stack e cls a0 h3) (up:s2.heap.UpToSlots h3) (q:EH X nb fa pa D cls none H'):
  wpAny (model X.prog X.w) X.A (handleBy (.ref e) X.env [jl nb pe n y tp np vp cp rp hp]) (SP X pq D) X.xe {s2 with heap:=h3}:=by
 obtain⟨C,r,rfl,Q,hm,hD⟩:=q
 have Y:X.s₀.heap.get? e=none:=by
  cases hq:X.s₀.heap.get? e with
  |none=>rfl
  |some o=>obtain⟨o',a⟩:=I.base.there e o hq (by rw[Z.ex];simp);rw[j.1]at a;cases a
 have k:L2.Inv X pq σ H' {s2 with heap:=h3,toks:=s2.toks}:=Bv I J j d L l.1 up Z.ex Z.st;have c:(X.A.mark (some (.ref e))).frames=X.A.frames:=rfl;unfold jl;refine wpAny_handleBy_cons (codeAny_handlers_test ?_) (by intro q;cases q);refine jo (X:=nZ X (X.A.mark (some (.ref e)))) (uo k c) Z.gp.1 Z.gp.2.1 ?_ Z.gp.2.2
 have LT:PySem.W.Looks (model X.prog X.w) h3 (typeOf (.ref e)) (.ref C):=by obtain⟨ob,h1,h2⟩:=l.there;exact h2▸(PySem.W.Looks.ld h1).andThen .now
 refine(PySem.W.exm_one (M:=model X.prog X.w) k.kIn LT hm).here ?_;refine codeAny_handlers_suite_as ?_;refine lands_againW (s:={s2 with heap:=h3}) l λh4 F U=>?_;have N:L2.Inv X pq σ H' {s2 with heap:=h4,toks:=s2.toks}:=Bv I J j d L F.1 (up.trans U) Z.ex Z.st;obtain⟨oe,vs,S,V,W,_⟩:=F.first
 have pn:∀p∈X.pn++pq,p.1≠e:=λp hp z=>by have:=(I.pin p hp).1;rw[z,j.1]at this;cases this
 have O:=uo (A:=X.A.mark (some (.ref e))) (IP N Z.ex Y pn d.1 S V W) c;refine rg (X:=nZ X (X.A.mark (some (.ref e)))) O Z.nd Z.at_ (.inl Z.nl) (v:=.ref e) rfl (λs6 P=>?_) (.inl Z.fn);have hs:eh (nZ X (X.A.mark (some (.ref e)))) [.Return (some (ID nb (.Call (.Name y np) [.Name n vp] [] cp))) rp] _:=fB (rB (IS (A:=X.A.mark (some (.ref e))) (x:=e) Q Z.dp Z.gy.1 Z.gy.2.1 Z.kp Z.gy.2.2 Z.at_ Z.nl Z.np nb)) lw;refine Nn (hs pq s6 _ _ {nx:=λ_ _=>False,rt:=λv E=>RV nb r v (aZ H' e (dA e C)) E} P ⟨⟨by rw[Z4 (by rw[k.len];exact(Zl.mp Z.at_).1)],bO⟩,λv E h6=>h6⟩) (λf s7 g=>?_) λ_ _ z=>z.elim;cases f with
 |ret u=>obtain⟨v,σ7,G,K,r7,u7⟩:=g;obtain⟨m7,w,_⟩:=K.loc;refine wpAny_nameGoes (env:=X.env) Z.nl w (by rw[I.ok.kind];rfl) λh8 m8 n8 s8=>?_;refine⟨_,_,G,IQ (Bu K I.ok) n8 s8,r7,hD v G (u7.up λb o m=>?_)⟩;rw[aD (λz=>by rw[z,d.1]at m;cases m)];exact m
 |next=>obtain⟨_,_,_,z⟩:=g;exact z.elim
 |brk=>obtain⟨_,_,_,z⟩:=g;exact z.elim
 |cont=>obtain⟨_,_,_,z⟩:=g;exact z.elim
end
abbrev XB(X:Cx)(pq:Lp)(D:Ends)(h:Qw):Cx:={X with xe:=Bw X pq D h,pn:=X.pn++pq}
section
variable {D:Ends}{h:Qw}
theorem MM(ok:X.Ok):(XB X pq D h).Ok:=⟨ok.mod,ok.kind,ok.glob,ok.blt,ok.above,ok.inj,ok.has,ok.cab,ok.hd,ok.frames,ok.stk,ok.exf,ok.bs,ok.bsz,ok.noex,ok.exfs,ok.funs,ok.frf⟩
theorem Bx(ok:(XB X pq D h).Ok):X.Ok:=⟨ok.mod,ok.kind,ok.glob,ok.blt,ok.above,ok.inj,ok.has,ok.cab,ok.hd,ok.frames,ok.stk,ok.exf,ok.bs,ok.bsz,ok.noex,ok.exfs,ok.funs,ok.frf⟩
theorem IT(I:L2.Inv X pq σ H s):L2.Inv (XB X pq D h) [] σ H s:=⟨MM I.ok,I.os,I.bare,I.base,I.loc,I.cell,I.free,I.freeC,λp a=>I.pin p (by simpa using a),I.hok,I.len⟩
theorem iS(I:L2.Inv (XB X pq D h) pins' σ H s):L2.Inv X pq σ H s:=⟨Bx I.ok,I.os,I.bare,I.base,I.loc,I.cell,I.free,I.freeC,λp a=>I.pin p (ZP _ a),I.hok,I.len⟩
theorem oh{f:Flow}(q:SP (XB X pq D h) pins' D f s):SP X pq D f s:=by
 cases f with
 |next=>obtain⟨a,H,I,q⟩:=q;exact⟨a,H,iS I,q⟩
 |brk=>obtain⟨a,H,I,q⟩:=q;exact⟨a,H,iS I,q⟩
 |cont=>obtain⟨a,H,I,q⟩:=q;exact⟨a,H,iS I,q⟩
 |ret u=>obtain⟨v,a,H,I,r,q⟩:=q;exact⟨v,a,H,iS I,r,q⟩
theorem By:PM (model X.prog X.w) X.A X.env (XB X pq D h).xe:=PassesOwn.looking
variable {n:Str}{i:Nat}{np:Pos}
theorem Bz(Z:og X pe n y i fa pa):jx (bh X.prog X.w) (XB X pq D (jl nb pe n y tp np vp cp rp hp)) (EH X nb fa pa D):=by intro p o H s v s2 d c;have I:=iS d;obtain⟨e,cls,l,rfl,a,q,f⟩:=Bo I c Z.ex;obtain⟨T,A,N,k,g⟩:=Bm f a.stack;show Bw X pq D _ (.ref e) s2;unfold Bw;refine wpAny_looks_onW (by rw[I.ok.frames,Z.st]) Z.fr (Z.st▸g) λj h up=>?_;refine wpAny_landsW (s:={s2 with heap:=j}) h λm F u=>?_;exact handled (s2:=s2) (B:=PySem.W.hideAll s2.heap (e::T::bU X.stack)) (a0:=A) Z I a N k Bn (Z.st▸F) (up.trans u) q
theorem BA(Z:og X pe n y i fa pa){e:MZ}(r:L2.Inv (XB X pq D (jl nb pe n y tp np vp cp rp hp)) pins' σ H s)(m:QP s.heap h2 e (.ref C) args)(q:EH X nb fa pa D (.ref C) none H):(XB X pq D (jl nb pe n y tp np vp cp rp hp)).xe (.ref e) {s with heap:=h2}:=by
 have I:=iS r;show Bw X pq D _ (.ref e) _;unfold Bw;obtain⟨t,c,z,Q⟩:=m.there;have g:∀E∈X.env::X.outer,∀a,E.frame=some a->a∈bU (X.env::X.outer):=λE c a w=>ZW.mpr ⟨E,c,w⟩
 have f:∀b,s.heap.get? b=none->(PySem.W.hideAll s.heap (bU X.stack)).get? b=none:=λb h=>by
  cases j:(PySem.W.hideAll s.heap (bU X.stack)).get? b with
  |none=>rfl
  |some R=>have:=PySem.W.of_hideAll _ j;rw[h]at this;cases this
 have N:H e=none:=by
  cases j:H e with
  |none=>rfl
  |some u=>obtain⟨o,p⟩:=ug (I.hok e u j);rw[m.new]at p;cases p
 have d:s.heap.FunFrames (PySem.W.hideAll s.heap (bU X.stack)) (X.env::X.outer):=PySem.W.funFrames_hide (Z.st▸I.stack) (by rw[Z.st];exact g);unfold noteFrame;simp only[Z.fr];refine Za (ZV c rfl (x:=.none) rfl ?_);rw[if_neg (by decide)];refine wpAny_entryW (base:=PySem.W.hideAll s.heap (bU X.stack)) (a0:=.ref t) (by rw[I.ok.frames,Z.st]) (d.of_keeps λb o h _=>⟨o,m.keeps b o h,rfl⟩) Z.fr c (λb o h=>m.keeps b o (PySem.W.of_hideAll _ h)) (f e m.new) rfl (show 1<6 by decide) rfl λO nt=>?_;obtain⟨K,G,J,M⟩:=nt;refine wpAny_landsW (base:=PySem.W.hideAll s.heap (bU X.stack)) (l:=X.env::X.outer) (L:=X.env.locals) (cls:=.ref C) (a0:=.ref t) ⟨K,f e m.new,G,J⟩ λP F U=>?_;exact handled (s2:=s) (T:=e) (B:=PySem.W.hideAll s.heap (bU X.stack)) (a0:=.ref t) Z I I ⟨m.new,m.new⟩ ⟨N,N⟩ (λb o v h2 _ _=>PySem.W.hideAll_get _ v h2) (Z.st▸F) (((Qk m.keeps).trans M).trans U) q
theorem uq{body:List OB}{pos:Pos}{t:TS}(I:L2.Inv X pq σ H s)(d:eh (XB X pq D (jl nb pe n y tp np vp cp rp hp)) body t)(h:t D σ H):
  wpAny (model X.prog X.w) X.A (exec (.Try body [jl nb pe n y tp np vp cp rp hp] [] [] pos) X.env) (SP X pq D) X.xe s:=by
 refine wpAny_Try_except (Nn (d [] s σ H D (IT I) h) (λf S q=>?_) λe S q=>q);have q:=oh q;cases f with
 |next=>obtain⟨a,b,c,q⟩:=q;exact P5 ⟨a,b,c,q⟩
 |brk=>exact q
 |cont=>exact q
 |ret u=>exact q
end
set_option genInjectivity false in
inductive Rz where
 |cls (x:Str)|kind (f:Str) (ys ws:Ls)
 deriving DecidableEq
mutual
noncomputable def Mq:CS->List Rz
 | .raise_ x _=>[.cls x]
 | .tryK _ body f ys w=>.kind f ys w::eC body
 | .ite _ a b=>eC a++eC b
 | .for_ _ _ body=>eC body
 | .while_ _ _ body=>eC body
 |_=>[]
noncomputable def eC:List CS->List Rz
 | []=>[]
 |c::cs=>Mq c++eC cs
end
noncomputable def XC(P:M5)(w:Nc)(K:Fg)(m:Mg):Rz->Prop
 | .cls x=>∃C,m x=some (.ref C)/\PySem.W.excIn K C kt "ValueError.__new__"=MW
 | .kind f ys W=>∃fa pa,m f=some (.ref fa)/\PySem.W.keepIn K (.ref fa)=MW/\m "PairError"=some (.ref pa)/\
   ∀x r,(ys.zip W).lookup x=some r->∀v,m x=some v->∃C,v=.ref C/\PySem.W.exmOne K (.ref C) (.ref pa)=some MW/\∀base,kC P w K m base fa C r
theorem ur{x:Str}(X:K.In h)(e:mg x=some (.ref C))(q:PySem.W.excIn K C kt "ValueError.__new__"=MW):OwnCls x C kt "ValueError.__new__" mg h:=by
 refine⟨e,?_⟩;unfold PySem.W.excIn at q;split at q
 ·rename_i D p sl u;split at q
  ·rename_i w B k i j m n o f g;simp only[ZN,beq_iff_eq,R7]at q;obtain⟨⟨⟨⟨⟨rfl,rfl⟩,H⟩,v⟩,a⟩,b⟩:=q;obtain⟨nm,bs,M,N,Q,t,S,s,A,c,r⟩:=p;dsimp only at f H a b;subst f H;have d:sl= #[k,i,j,m,some (.builtin "ValueError.__new__"),o]:=by obtain⟨l⟩:=sl;simp only at g;rw[g]
   subst d;exact⟨B,N,nm,Q,bs,t,S,s,A,c,D,k,i,j,m,o,_,X _ _ u,.of_isNs (PySem.W.isNs_of_in X a),PySem.W.nsMap_none_of_in X a b,PySem.W.tail_of_in X v⟩
  ·cases q
 ·cases q
theorem Sub.ext(s:Sub H H'):Ext μ H μ H':=⟨⟨[],by simp⟩,λa o h _=>s a o h,λa o h=>⟨o,s a o h⟩,λ_ h=>.inl h⟩
theorem Sub.sok{m:GS}(s:Sub H H')(k:aI K m μ S H):aI K m μ S H':=
 ⟨λa h=>let⟨o,e⟩:=k.live a h;⟨o,s a o e⟩,k.len,k.nd,λn a d b c=>let⟨vs,e,r⟩:=k.at_ n a d b c;⟨vs,s a _ e,ah.mono s.ext _ _ r⟩⟩
theorem oj{o i:Expr}{p:Pos}(h:f8 i=MW):∀v,assign (.Subscript o i p) env v=(do
   let O <-holding [v] (eval o env)
   let I <-holding [v,O] (eval i env)
   standAt p
   holding [v,O,I] (setItem O I v)
   release [v,O,I] []):=by
 intro v;cases i<;>first|rfl|cases h
section
variable {E:XK}{pos:Pos}
end
structure ut (X:Cx)(N:Ls)(sc:Sc)(CX:dh)(E:XK)(Φ:FT)(Γ:Str->Option D)(k:Nat):Prop where
 x:cv X (λ_=>MW) N sc CX E Φ Γ k
 own:PM (model X.prog X.w) X.A X.env X.xe
 cx:CX=bh X.prog X.w
 fr:X.ex=[]/\X.stack=X.env::X.outer/\X.env.frame=some X.env.locals
 made:∀(pq:Lp) (σ:L2.St) (H:Hp) (s:MY) (h2:M8) (e C:MZ) (args:Lv),L2.Inv X pq σ H s->QP s.heap h2 e (.ref C) args->E (.ref C) none H->X.xe (.ref e) {s with heap:=h2}
section
variable {E:XK}{pos:Pos}
theorem qR{a b:Type}{f:a->Option b}{x:a}(h:f x=none):∀{l:List a},x∈l->(l.filterMap f).length<l.length
 | [],H=>by cases H
 |y::l,H=>by
  rcases Zf.mp H with rfl|H
  ·grind
  ·have:=qR h H
   grind
theorem om{v:Expr}(hs:env.scope.names=sc)(h1:fo tg=MW)(a:(ko v||kq sc tg)=MW):swappedStores [tg] v env=pure none:=by
 cases tg<;>first| (cases h1;done)|skip
 cases v<;>first|rfl|skip
 rename_i t _ _ u _ _;unfold swappedStores;simp only[];split
 ·rfl
 ·split
  ·rfl
  ·split
   ·rfl
   ·rename_i c;rcases P9.mp a with h|h
    ·have h:(List.all u (foldedForSure 8))=MW:=h
     first|rfl|rw[if_pos h]
    ·exfalso
     have h:(t.any λx=>match x with
      | .Name id _=>sc.lookup id==some .cell
      |_=>MX)=MW:=h
     obtain⟨x,d,H⟩:=Ot.mp h;refine c ?_
     have b:=qR (f:=λx=>match x with
      |Expr.Name id pos=>if env.kindOf id==some .local&&pos.line==(t.head?.map (·.pos.line)).getD 0 then some id else none
      |_=>none) (x:=x) (by
       cases x<;>first|rfl|skip
       rename_i id pos;have H:(sc.lookup id==some .cell)=MW:=H
       have e:env.kindOf id=some .cell:=by show env.scope.names.lookup id=_;rw[hs];exact Nj H
       show(if(env.kindOf id==some .local&&_)=MW then _ else _)=none;rw[e];rfl) d
     rw[QC];exact .inl (bne_iff_ne.mpr (Zq b))
theorem IU(h1:fo tg=MW):(assignEach [tg] env).map (·.2)=[assign tg env]:=by cases tg<;>first|rfl|cases h1
theorem IV{t v:Expr}(h:swapsWith v (some t) line env=pure MX):swapsWithSole [t] v line env=pure MX:=h
theorem uu(O:cv X (λ_=>MW) N sc CX E Φ Γ k){t:CT}{e:CE}{v:Expr}(h1:fo (iE t N tg)=MW)(i:(ko v||kq sc (iE t N tg))=MW)(j:fK v=MW)(l:qB (λ_=>MW) N sc t=MW)(m:PE X v (tE X.K X.mg E Φ Γ e)):PS X (.Assign [iE t N tg] v pos) (tS X.K X.mg E Φ Γ (.asgT t e)):=
 cg (js m (j1 O l) (kr j) (om O.sc h1 i) (IU h1)) λD u H z=>aB z λF o h S n g w=>by
  simp only[ap]at w;refine⟨F,o,h,S,n,g,(aw.bind w).mono λv H1 z=>az z λc q d x s r W=>?_⟩;cases a:aL t d h with
  |none=>rw[a]at W;exact W.elim
  |some p=>rw[a]at W;exact tx a r (g.mono x) λf b=>W c H1 f .refl s b
theorem BB{o i v:CE}{k b g:Expr}{p:Pos}(q:f8 b=MW)(m:fK g=MW)(r:PE X k (tE X.K X.mg E Φ Γ o))(n:PE X b (tE X.K X.mg E Φ Γ i))(s:PE X g (tE X.K X.mg E Φ Γ v)):PS X (.Assign [.Subscript k b p] g pos) (tS X.K X.mg E Φ Γ (.set o i v)):=
 cg (js s (rH r n yF (oj q)) (IV (kr m)) rfl) λD σ H z=>aB z λF μ ρ S B a w=>by
  refine⟨F,_,_,S,B,a,(aw.bind w).mono λZ H1 z=>az z λI P f x y R C=>?_⟩;refine⟨F,_,_,_,y,a.mono x,(aw.bind C).mono λY M z=>az z λJ Q d h s2 t G=>?_⟩;refine⟨F,_,_,_,s2,(a.mono x).mono h,(aw.bind G).mono λV N z=>az z λK T e j s3 u W=>?_⟩;cases c:iy d e f _ with
  |none=>rw[c]at W;exact W.elim
  |some U=>rw[c]at W;exact⟨F,_,_,d,e,f,s3,Rep.mono j _ _ t,u,Rep.mono (h.trans j) _ _ R,_,c,λL O l A=>W _ _ _ l A ((((a.mono x).mono h).mono j).mono l)⟩
theorem uv{e:CE}{v:Expr}(h:fK v=MW)(b:PE X v (tE X.K X.mg E Φ Γ e)):PS X (.Expr v pos) (tS X.K X.mg E Φ Γ (.expr e)):=
 cg (ly b (kr h)) λD k H z=>aB z λF i j S c a w=>by exact⟨F,_,_,S,c,a,(aw.bind w).mono λv H1 z=>az z λf g d x s r W=>W _ _ _ .refl s (a.mono x)⟩
theorem BC{e:CE}{v:Expr}(h:PE X v (tE X.K X.mg E Φ Γ e)):PS X (.Return (some v) pos) (tS X.K X.mg E Φ Γ (.ret e)):=
 cg (rB h) λD j H z=>aB z λF f g S c b w=>by simp only[ap]at w;exact⟨F,f,g,S,c,b,(aw.bind w).mono λv H1 z=>az z λa i d x s r W=>W a H1 v .refl s r⟩
theorem uw:PS X (.Return none pos) (tS X.K X.mg E Φ Γ .retN):=cg lz λD c H z=>aB z λF a b S s e w=>w _ H _ .refl s jB
theorem ux:PS X (.Pass pos) (tS X.K X.mg E Φ Γ .pass):=cg lx λD c H z=>aB z λF a b S s e w=>w _ H _ .refl s e
theorem BD:PS X (.Break pos) (tS X.K X.mg E Φ Γ .brk):=cg Fe λD c H z=>aB z λF a b S s e w=>w _ H _ .refl s e
theorem uy:PS X (.Continue pos) (tS X.K X.mg E Φ Γ .cont):=cg Ff λD c H z=>aB z λF a b S s e w=>w _ H _ .refl s e
theorem IW{c:CE}{a b:List CS}{t:Expr}{x y:List OB}(i:PT X t (tT X.K X.mg E Φ Γ c))(h:eh X x (lq X.K X.mg E Φ Γ a))(g:eh X y (lq X.K X.mg E Φ Γ b)):PS X (.If t x y pos) (tS X.K X.mg E Φ Γ (.ite c a b)):=
 cg (qr i h g) λD p H z=>aB z λF n o S j e w=>by
  refine⟨F,_,_,S,j,e,(aw.bind w).mono λk H1 z=>az z λl m K d s f W=>?_⟩;subst f;cases K with
  |true=>exact⟨F,_,_,_,s,e.mono d,W⟩
  |false=>exact⟨F,_,_,_,s,e.mono d,W⟩
theorem uz:eh X [] (lq X.K X.mg E Φ Γ []):=kl lw λD c H z=>aB z λF a b S s e w=>w _ H _ .refl s e
theorem oo{c:CS}{cs:List CS}{s:OB}{st:List OB}(h1:PS X s (tS X.K X.mg E Φ Γ c))(h:eh X st (lq X.K X.mg E Φ Γ cs)):eh X (s::st) (lq X.K X.mg E Φ Γ (c::cs)):=
 kl (fB h1 h) λD n H z=>aB z λF l m S b a w=>by exact⟨F,_,_,S,b,a,aw.seq w λd i g f j x k e W=>⟨F,_,_,_,k,e,W⟩⟩
theorem BE{M:GS}{D:Ends}{r:Res Fl}{f:bI->ae->Res Fl}{Nx:L2.St->Hp->Prop}(w:aw K M E D μ H (r.bind λF S'=>match F with
   | .next ρ'=>f ρ' S'
   | .cont ρ'=>f ρ' S'
   | .brk ρ'=>.ok (.next ρ') S'
   | .ret d=>.ok (.ret d) S')) (a:∀μ' H' σ' ρ' S',Ext μ H μ' H'->aI K M μ' S' H'->aX K M μ' H' ρ' σ'->aw K M E D μ' H' (f ρ' S')->Nx σ' H'):aw K M E {D with nx:=Nx,ct:=Nx,bk:=D.nx} μ H r:=by
 cases r with
 |ok F S=>
  cases F with
  |next b=>exact λm h s x k e=>a m h s _ S x k e (aw.ext x (show aw K _ E D _ H _ from w))
  |ret d=>exact w
  |brk b=>exact w
  |cont b=>exact λm h s x k e=>a m h s _ S x k e (aw.ext x (show aw K _ E D _ H _ from w))
 |err z S=>exact w
 |fail=>exact w
theorem oq{c:CE}{t:Expr}{x:List OB}(r:PM (model X.prog X.w) X.A X.env X.xe)(p:PT X t (tT X.K X.mg E Φ Γ c))(o:eh X x (lq X.K X.mg E Φ Γ body)):PS X (.While t x [] pos) (tS X.K X.mg E Φ Γ (.while_ n c body)):=
 cg (Fo r p o) λD f H z=>aB z λF a b S s e w=>by
  refine⟨λm f H=>∃a b S,aI _ _ a S H/\aX _ _ a H b f/\aw _ _ E D a H (iB _ _ m b S),⟨n,_,_,S,s,e,w⟩,?_⟩;rintro m f H ⟨a,b,S,s,e,w⟩;cases m with
  |zero=>exact w.elim
  |succ m=>
   refine⟨F,_,_,S,s,e,(aw.bind w).mono λk H1 z=>az z λy C K i h l W=>?_⟩;subst l;cases K with
   |true=>exact⟨_,λg j q=>⟨m,NS m,q⟩,F,_,_,_,h,e.mono i,BE W λv j g A B x k d u=>⟨_,_,_,k,d,u⟩⟩
   |false=>exact W _ _ _ .refl h (e.mono i)
end
theorem uA(step:D->bI->ae->Res Fl)(xs:List D):∀(n i:Nat) (ρ:bI) (S:ae),i+n=xs.length->du step (λ_ i=>some xs[i]?) (n+1) i ρ S=d_ step (xs.drop i) ρ S
 |0,i,ρ,S,h=>by rw[Pz (by omega)];unfold du;have:xs[i]?=none:=Oz.mpr (by omega);rw[this];rfl
 |n+1,i,ρ,S,h=>by
  have H:i<xs.length:=by omega
  rw[OA H];unfold du;rw[Zh H];show(step xs[i] ρ S).bind _=(step xs[i] ρ S).bind _;congr 1;funext f b;cases f with
  |next a=>exact uA step xs n (i+1) a b (by omega)
  |cont a=>exact uA step xs n (i+1) a b (by omega)
  |brk a=>rfl
  |ret d=>rfl
theorem ot(step:D->bI->ae->Res Fl)(its:iA)(ρ:bI)(S:ae):mG step its ρ S=du step (ba its) (j2 its) 0 ρ S:=by
 cases its with
 |items x=>exact(uA step x x.length 0 ρ S (by omega)).symm
 |live f get=>rfl
noncomputable def dB(Φ:FT)(Γ:Str->Option D)(t:CT)(body:List CS):D->bI->ae->Res Fl:=λx ρ S=>match aL t x ρ with
 |some ρ'=>af Φ Γ body ρ' S
 |none=>.fail
section
variable {E:XK}{pos:Pos}
theorem BF{t:CT}{it:CE}{i:Expr}{x:List OB}(hp:PM (model X.prog X.w) X.A X.env X.xe)(U:X.calm=MW)(Z:PI X tg i (tI X.K X.mg E Φ Γ it))(V:PG X tg (qJ X.K t))(hs:∀x,foldedSetIterable i X.env x=pure x)(T:eh X x (lq X.K X.mg E Φ Γ body)):
  PS X (.For tg i x [] pos) (tS X.K X.mg E Φ Γ (.for_ t it body)):=
 cg (rK hp U Z V T hs) λD u H zz=>aB zz λF b g S s r w=>by
  simp only[ap]at w;refine⟨F,b,g,S,s,r,ak.mono (Rel:=λp c I J=>fJ X.K ⟨X.mg,F⟩ J (ba I) p c) (aw.bind w) λJ H1 h=>?_⟩;obtain⟨j,M,I,x1,s1,ok,w1⟩:=h;have O:aw X.K ⟨X.mg,F⟩ E D j H1 (mG (dB Φ Γ t body) I g M):=w1;rw[ot]at O;refine⟨λi m u H=>∃b g S,cA X.K F j H1 F b H/\aI X.K ⟨X.mg,F⟩ b S H/\aX X.K ⟨X.mg,F⟩ b H g u/\aw X.K ⟨X.mg,F⟩ E D b H (du (dB Φ Γ t body) (ba I) m i g S),⟨j2 I,j,g,M,.refl,s1,r.mono x1,O⟩,?_⟩;rintro i m u H ⟨b,g,S,N,s,r,w⟩;cases m with
  |zero=>exact w.elim
  |succ m=>
   unfold du at w;obtain⟨k1,k2⟩:=ok i b S H F N s;cases e:ba I S i with
   |none=>rw[e]at w;exact w.elim
   |some o=>
    cases o with
    |none=>rw[e]at w;exact .inl ⟨k2 e,w b H u .refl s r⟩
    |some y=>
     rw[e]at w;obtain⟨R,Y⟩:=k1 y e;refine .inr ⟨R,λl c=>∃b g S,cA X.K F j H1 F b c/\aI X.K ⟨X.mg,F⟩ b S c/\aX X.K ⟨X.mg,F⟩ b c g l/\aw X.K ⟨X.mg,F⟩ E D b c (du (dB Φ Γ t body) (ba I) m (i+1) g S),λl c q=>⟨m,NS m,q⟩,λv c hv=>?_⟩;obtain⟨L,s2,r2⟩:=Y v c hv;have C:cA X.K F j H1 F b c:=N.trans (.of_ext L λ_ z=>.inl z);have w':=aw.ext L w
     have w3:aw X.K ⟨X.mg,F⟩ E D b c ((dB Φ Γ t body y g S).bind λQ n=>match Q with
      | .next a=>du (dB Φ Γ t body) (ba I) m (i+1) a n
      | .cont a=>du (dB Φ Γ t body) (ba I) m (i+1) a n
      | .brk a=>.ok (.next a) n
      | .ret d=>.ok (.ret d) n):=w'
     have W:=BE (f:=λa n=>du (dB Φ Γ t body) (ba I) m (i+1) a n) (Nx:=λl c=>∃b g S,cA X.K F j H1 F b c/\aI X.K ⟨X.mg,F⟩ b S c/\aX X.K ⟨X.mg,F⟩ b c g l/\aw X.K ⟨X.mg,F⟩ E D b c (du (dB Φ Γ t body) (ba I) m (i+1) g S)) w3
      λp P l a n x3 k B K=>⟨p,a,n,C.trans (.of_ext x3 λ_ z=>.inl z),k,B,K⟩
     unfold dB at W;cases A:aL t y g with
     |none=>simp only[A]at W;exact W.elim
     |some a=>simp only[A]at W;exact tx A r2 (r.mono L) λσ2 G=>⟨F,b,a,S,s2,G,W⟩
end
section
variable {E:XK}
theorem ou(O:ut X N sc CX E Φ Γ k){x:Str}{es:List CE}(h:Bh (.raise_ x es) N sc st=MW)(hx:XC X.prog X.w X.K X.mg (.cls x))(ha:PA X (dJ es N (vw (vs st).e0).es) (tL X.K X.mg E Φ Γ es)):PS X (km (.raise_ x es) N st) (tS X.K X.mg E Φ Γ (.raise_ x es)):=by
 obtain⟨h1,h⟩:=aa h;obtain⟨_,h⟩:=aa h;obtain⟨h2,h3⟩:=aa h;obtain⟨C,J,hq⟩:=hx;obtain⟨g1,g2,_⟩:=cJ h1;intro U s Z H D I zz;have own:=ur I.mod.kin J hq;cases es with
 |nil=>cases h2
 |cons e es=>
  have d:=Zn.mp h3;obtain⟨tl,N0,nm,q,bs,a,V,g,B,c,G,K,L,M,P,Q,R,hC,hN,n,T⟩:=own.obj;show wpAny _ _ (exec (.Raise (some (.Call (.Name x _) (a7 e N _::dJ es N _) [] _)) none _) X.env) _ _ s
  refine wpAny_Raise_call_subU (C:=C) (nm:=nm) (q:=q) (N:=N0) (bs:=bs) (bm:=tl) (hdct:=a) (sn:=V) (sub:=g) (ab:=B) (col:=c) (dd:=G) (k0:=K) (k1:=L) (k2:=M) (k3:=P) (k5:=Q)
   PySem.F.excBase_ValueError (bmB:=kt) (by decide+kernel) PySem.F.excBase_ValueError (mN:=R) (T.hasType (by decide+kernel)) (I.ok.hd O.x.calm) (g5 d) n (jo I (O.x.gl g1) own.bound ⟨rfl,?_⟩ g2)
  obtain⟨F,t,v,S,sk,en,w⟩:=zz;have l:=ha (vw (vs st).e0).pos U s Z H (λp H1=>p.length<=sizeLine/\E (.ref C) none H1) I ⟨F,t,v,S,sk,en,?_⟩
  ·have he:=cI (env:=X.env) (es:=dJ es N (vw (vs st).e0).es.tail) (d _ Ze);have b:wpAny _ _ (spliced (backTo _ (starEach (a7 e N ((vw (vs st).e0).es.headD dE)::dJ es N (vw (vs st).e0).es.tail) X.env))) _ _ s:=l;rw[he]at b⊢;refine PN (Nn b (λus Y f=>?_) λ_ _ y=>y);obtain⟨p,H1,i,r,z,q⟩:=f;exact⟨rfl,by rw[<-r.length];exact z,(i.bs _ _ hC).1,hN.keeps i.bk,T.keeps i.bk,λl e m=>O.made U Z H1 _ l e C _ i m q⟩
  ·have W:aw X.K ⟨X.mg,F⟩ E D t H ((ai Φ Γ (e::es) v S).bind _):=w;cases j:ai Φ Γ (e::es) v S with
   |ok ds A=>
    rw[j]at W;intro u H' p x1 s1 r1;have o:aw X.K ⟨X.mg,F⟩ E D t H (if ds.length<=1000 then .err ⟨x,[]⟩ A else .fail):=W;split at o
    ·rename_i hl;exact⟨by rw[<-r1.length];exact Zy hl (by decide),o u H' x1 s1 (.ref C) none ⟨J,rfl⟩⟩
    ·exact o.elim
   |err y A=>rw[j]at W;exact W
   |fail=>rw[j]at W;exact W
noncomputable def Mr(nb:Option (Str×Nat×Pos×Pos))(r:Str):D:=match nb with
 |none=>.str r
 |some (y,_)=>.lst [.str y,.str r]
noncomputable def ic(nb:Option (Str×Nat×Pos×Pos))(y w:Ls):Res Fl->Res Fl
 | .err x S'=>(match x.fs,(y.zip w).lookup x.cls with
  | [],some r=>.ok (.ret (Mr nb r)) S'
  |_,_=>.fail)
 |r=>r
theorem uB(O:ut X N sc CX E Φ Γ k){i:Nat}{f:Str}{y W:Ls}{np pos:Pos}(h:(N[i]?==some (N.getD i "")&&(sc.lookup (N.getD i "")==some .local&&(ew (N.getD i "")&&(a_ sc "PairError"&&(a_ sc f&&eB body N sc (vs st).a)))))=MW)(hx:XC X.prog X.w X.K X.mg (.kind f y W))
  (hb:∀{X':Cx} {E':XK},X'.prog=X.prog->X'.w=X.w->X'.K=X.K->X'.mg=X.mg->ut X' N sc CX E' Φ Γ k->eh X' (cN body N (vs st).a) (lq X'.K X'.mg E' Φ Γ body)):
  PS X (.Try (cN body N (vs st).a) [jl nb "PairError" (N.getD i "") f tp np vp cp rp hp] [] [] pos) (λD σ H=>∃F μ ρ S,aI X.K ⟨X.mg,F⟩ μ S H/\aX X.K ⟨X.mg,F⟩ μ H ρ σ/\aw X.K ⟨X.mg,F⟩ E D μ H (ic nb y W (af Φ Γ body ρ S))):=by
 obtain⟨Y,h⟩:=aa h;obtain⟨h2,h⟩:=aa h;obtain⟨h3,h⟩:=aa h;obtain⟨h4,h⟩:=aa h;obtain⟨h5,h6⟩:=aa h;obtain⟨g,P,m1,m2,m3,m4⟩:=hx;obtain⟨R,T,_⟩:=cJ h4;obtain⟨U,V,_⟩:=cJ h5;have Z:og X "PairError" (N.getD i "") f i g P:=⟨O.fr.1,O.fr.2.1,O.fr.2.2,O.x.room.depth,⟨O.x.gl R,m3,T⟩,⟨O.x.gl U,m1,V⟩,m2,by rw[O.x.n];exact O.x.nd,by rw[O.x.n];exact Nj Y,by rw[O.x.sc];exact Nj h2,h3,O.x.fn _ rfl⟩;intro pq s σ H D I zz;obtain⟨F,μ,ρ,S,sk,M,w⟩:=zz;refine uq I (hb (X':=XB X pq D _) (E':=EH X nb g P D) rfl rfl rfl rfl ⟨⟨O.x.n,O.x.nd,O.x.sc,O.x.kd,O.x.calm,O.x.room,O.x.fn,O.x.mod,?_,O.x.cx0⟩,By,O.cx,O.fr,λj σ' B s' h2' e C A G m q=>BA Z G m q⟩) ⟨F,μ,ρ,S,sk,M,?_⟩
 ·rw[O.cx];exact Bz Z
 ·show aw X.K ⟨X.mg,F⟩ (EH X nb g P D) D μ H (af Φ Γ body ρ S);cases c:af Φ Γ body ρ S with
  |ok Q l=>rw[c]at w;cases Q<;>exact w
  |fail=>rw[c]at w;exact w
  |err x l=>
   rw[c]at w;obtain⟨cls,fs⟩:=x;cases fs with
   |cons _ _=>exact False.elim w
   |nil=>
    cases d:(y.zip W).lookup cls with
    |none=>dsimp only[ic]at w;rw[d]at w;exact False.elim w
    |some r=>
     dsimp only[ic]at w;rw[d]at w;have t:aw X.K ⟨X.mg,F⟩ E D μ H (.ok (.ret (Mr nb r)) l):=w;intro a B z o v n hv;obtain⟨C,J,K,L⟩:=m4 cls r d v hv.1;refine⟨C,r,J,L _,K,λv b u=>?_⟩;cases nb with
     |none=>obtain⟨rfl,u⟩:=u;exact t a b (.str r) (z.trans u.ext) (u.sok o) ir
     |some q=>obtain⟨p,H1,u,hp,rfl,rfl⟩:=u;have s2:=u.sok o;exact t a _ _ ((z.trans u.ext).trans (.laid hp)) (s2.laid hp) (by unfold Rep;exact⟨p,_,rfl,bO,⟨s2.notin hp,s2.notF hp⟩,.cons ir (.cons ir .nil)⟩)
theorem BG(O:ut X N sc CX E Φ Γ k){i:Nat}{f:Str}{y W:Ls}(h:Bh (.tryK i body f y W) N sc st=MW)(d:XC X.prog X.w X.K X.mg (.kind f y W))
  (c:∀{X':Cx} {E':XK},X'.prog=X.prog->X'.w=X.w->X'.K=X.K->X'.mg=X.mg->ut X' N sc CX E' Φ Γ k->eh X' (cN body N (vs st).a) (lq X'.K X'.mg E' Φ Γ body)):PS X (km (.tryK i body f y W) N st) (tS X.K X.mg E Φ Γ (.tryK i body f y W)):=by
 intro p s l H D I ⟨F,j,a,S,g,b,w⟩;refine uB O (nb:=none) h d c p s l H D I ⟨F,j,a,S,g,b,?_⟩;have e:ic none y W (af Φ Γ body a S)=ap Φ Γ (.tryK i body f y W) a S:=by rw[ap];cases af Φ Γ body a S<;>rfl
 exact e▸w
end
mutual
theorem uC(c:CS):∀{X:Cx} {N:Ls} {sc:Sc} {CX:dh} {E:XK} {Φ:FT} {Γ:Str->Option D} {k:Nat} {st:OB},ut X N sc CX E Φ Γ k->Bh c N sc st=MW->(∀z∈Mq c,XC X.prog X.w X.K X.mg z)->PS X (km c N st) (tS X.K X.mg E Φ Γ c):=by
 intro X N sc CX E Φ Γ k st O h d;cases c with
 |asg i e=>exact Bk O.x h
 |asgT t e=>exact uu O.x (ki (aa h).1) ((aa (aa h).2).1) (aa (aa (aa h).2).2).1 (aa (aa (aa (aa h).2).2).2).1 (aK e O.x (aa (aa (aa (aa h).2).2).2).2)
 |set o i v=>exact BB (aa (aa h).1).1 (aa (aa h).2).1 (aK o O.x (aa (aa (aa h).1).2).1) (aK i O.x (aa (aa (aa h).1).2).2) (aK v O.x (aa (aa h).2).2)
 |expr e=>exact uv (aa h).1 (aK e O.x (aa h).2)
 |ret e=>exact BC (aK e O.x h)
 |retN=>exact uw
 |pass=>exact ux
 |brk=>exact BD
 |cont=>exact uy
 |ite c a b=>exact IW (dP c O.x (aa h).1) (g9 a O (aa (aa h).2).1 λz g=>d z (ZP _ g)) (g9 b O (aa (aa h).2).2 λz g=>d z (Zt _ g))
 |for_ t it body=>exact BF O.own O.x.calm (nT it O.x (aa (aa h).2).1 ki) (j1 O.x (aa h).1) (nN (aa (aa (aa h).2).2).1) (g9 body O (aa (aa (aa h).2).2).2 d)
 |while_ n c body=>exact oq O.own (dP c O.x (aa h).1) (g9 body O (aa h).2 d)
 |never=>exact λP s J H D I Z=>aB Z λF C G S B A w=>w.elim
 |raise_ x r=>exact ou O h (d _ Ze) (dQ r O.x (aa (aa h).2).1)
 |tryK i body f Y W=>exact BG O h (d _ Ze) λ{y u} l m p q j=>g9 body j (aa (aa (aa (aa (aa h).2).2).2).2).2 λz g=>by rw[l,m,p,q];exact d z (Zb _ g)
theorem g9(cs:List CS):∀{X:Cx} {N:Ls} {sc:Sc} {CX:dh} {E:XK} {Φ:FT} {Γ:Str->Option D} {k:Nat} {st:List OB},ut X N sc CX E Φ Γ k->eB cs N sc st=MW->(∀z∈eC cs,XC X.prog X.w X.K X.mg z)->eh X (cN cs N st) (lq X.K X.mg E Φ Γ cs):=by
 intro X N sc CX E Φ Γ k st O h a;cases cs with
 |nil=>exact uz
 |cons c cs=>exact oo (uC c O (aa h).1 λz H=>a z (ZP _ H)) (g9 cs O (aa h).2 λz H=>a z (Zt _ H))
end
mutual
noncomputable def aY(k:Nat):D->Bool
 | .tup xs=>bb k xs
 | .lst xs=>bb k xs
 | .scr xs=>bb k xs
 | .ref n=>decide (n<k)
 |_=>MW
noncomputable def bb(k:Nat):List D->Bool
 | []=>MW
 |x::xs=>aY k x&&bb k xs
end
noncomputable def cX(k:Nat)(d:D)(S':ae):Res D:=
 if(S'.take k).all (bb k)=MW then
  (if aY k d=MW then .ok d (S'.take k)else match d with
   | .ref n=>(match S'[n]? with
    |some xs=>if bb k xs=MW/\k<=n then .ok (.ref k) (S'.take k++[xs])else .fail
    |none=>.fail)
   |_=>.fail)
 else .fail
noncomputable def au(Φ:FT)(Γ:Str->Option D)(body:List CS)(n np:Nat)(ds:List D)(S:ae):Res D:=
 if ds.length=np then
  (match af Φ Γ body (ds.map some++M3 (n-np) none) S with
  | .ok (.ret d) S'=>cX S.length d S'
  | .ok (.next _) S'=>cX S.length .non S'
  | .err x S'=>if(S'.take S.length).all (bb S.length)=MW then .err x (S'.take S.length)else .fail
  |_=>.fail)
 else .fail
section
variable {mg:GS}{μ'':La}
mutual
theorem Rep.low(b:∀n,n<k->μ''[n]?=μ'[n]?)(hs:∀a∈μ'',a∈μ'):∀(d:D) (v:V),aY k d=MW->Rep K mg μ' H d v->Rep K mg μ'' H d v
 | .non,_,_,h=>h
 | .bl _,_,_,h=>h
 | .int _,_,_,h=>h
 | .str _,_,_,h=>h
 | .tup _,v,l,h=>by obtain⟨a,vs,e,q,r⟩:=h;exact⟨a,_,e,q,ah.low b hs _ _ l r⟩
 | .lst _,v,l,h=>by obtain⟨a,vs,e,q,n,r⟩:=h;exact⟨a,_,e,q,⟨λz=>n.1 (hs a z),n.2⟩,ah.low b hs _ _ l r⟩
 | .scr _,v,l,h=>by obtain⟨a,vs,e,q,r⟩:=h;exact⟨a,_,e,q,ah.low b hs _ _ l r⟩
 | .ref n,v,l,h=>by unfold Rep at h⊢;unfold aY at l;simp_all
 | .fn y,v,_,h=>h
 | .ty y,v,_,h=>h
 | .dct,v,_,h=>h
 | .dks _,v,_,h=>h
theorem ah.low(b:∀n,n<k->μ''[n]?=μ'[n]?)(hs:∀a∈μ'',a∈μ'):∀(ds:List D) (vs:List V),bb k ds=MW->ah K mg μ' H ds vs->ah K mg μ'' H ds vs
 | [],vs,_,h=>h
 |d::ds,vs,l,h=>by unfold bb at l;simp at l;obtain⟨w,W,e,r,q⟩:=h;exact⟨w,_,e,Rep.low b hs d w l.1 r,ah.low b hs _ _ l.2 q⟩
end
theorem Ext.cut(x:Ext μ H μ' H'):Ext μ H μ H':=⟨⟨[],by simp⟩,x.keep,x.there,λ_ h=>.inl h⟩
theorem aI.cut(x:Ext μ H μ' H')(g:μ.length=k)(s:aI K mg μ' S' H')(l:(S'.take k).all (bb k)=MW):aI K mg μ (S'.take k) H':=by obtain⟨r,rfl⟩:=x.pre;have e:=s.len;simp at e;refine⟨s.live,by grind,(Z7.mp s.nd).1,λn a D f h=>?_⟩;have c:=h;rw[Pl (by grind)]at h;obtain⟨vs,q,R⟩:=s.at_ n a _ (by grind) h;exact⟨_,q,ah.low λm i=>by grind (λb d=>ZP _ d) _ _ (Zn.mp l _ (Zr c)) R⟩
theorem BH{E:XK}{Q:VK}(x:Ext μ H μ' H')(I:μ.length=k)(s:aI K mg μ' S' H')(r:Rep K mg μ' H' d v)(w:ak K mg E (Rep K mg) μ H Q (cX k d S')):Q v H':=by
 unfold cX at w;split at w
 ·rename_i A;split at w
  ·rename_i G;refine w μ H' v x.cut (aI.cut x I s A) ?_;obtain⟨R,rfl⟩:=x.pre;exact Rep.low (k:=k) (λm p=>by grind) (λb f=>ZP _ f) _ _ G r
  ·split at w
   ·rename_i n J;split at w
    ·rename_i X L;split at w
     ·rename_i u;unfold Rep at r;obtain⟨a,rfl,F⟩:=r;obtain⟨vs,q,N⟩:=s.at_ n a X F L;obtain⟨R,rfl⟩:=x.pre;have jl:=Z7.mp s.nd;have P:μ.length<=n:=by omega
      have e:a∈R:=by grind
      have t:a∉μ:=λz=>jl.2.2 a z a e rfl
      have l:H a=none:=by
       rcases x.fresh a (Zt _ e)with z|z
       ·exact absurd z t
       ·exact z
      have g:∀b∈μ++[a],b∈μ++R:=λb f=>by grind
      have S:∀m,m<k->(μ++[a])[m]?=(μ++R)[m]? :=λm p=>by grind
      have o:=s.len;simp at o;refine w (μ++[a]) H' (.ref a) ⟨⟨[a],rfl⟩,x.keep,x.there,λb f=>?_⟩ ⟨s.live,?_,?_,λm b D i h=>?_⟩ ?_
      ·rcases ZE.mp f with z|z
       ·exact .inl z
       ·have:b=a:=by grind
        subst this;exact .inr l
      ·rw[Zm,Zm,OR];simp;omega
      ·rw[Z7];exact⟨jl.1,by simp,λb f c O=>by grind⟩
      ·by_cases p:m<μ.length
       ·rw[ZX p]at i;rw[ZX (by grind)]at h;have j:=h;rw[Pl (by omega)]at h;obtain⟨W,M,y⟩:=s.at_ m b D (by grind) h;exact⟨W,M,ah.low (k:=k) S g _ _ (Zn.mp A D (Zr j)) y⟩
       ·have B:m=μ.length:=by grind
        subst B;rw[Zz (Zg _)]at i;rw[Zz (by grind)]at h;have C:μ.length-(S'.take k).length=0:=by grind
        rw[C]at h;simp at i h;subst i;subst h;exact⟨vs,q,ah.low (k:=k) S g _ _ u.1 N⟩
      ·unfold Rep;exact⟨a,rfl,by grind⟩
     ·exact w.elim
    ·exact w.elim
   ·exact w.elim
 ·exact w.elim
end
theorem IX{m:GS}{vs:List V}(r:ah K m μ H ds vs):aX K m μ H (ds.map some++M3 (N.length-ds.length) none) (L2.start N vs):=by
 unfold L2.start;have c:=r.length;refine⟨by simp_all,λi d e=>?_⟩;by_cases b:i<ds.length
 ·rw[ZX (by simp_all)]at e;cases E:ds[i]? with
  |none=>simp_all
  |some D=>
   obtain⟨v,h,a⟩:=r.get E
   grind
 grind
section
variable {P:M5}
theorem bv.mono{j:Nat}{f:Str}(F:bv P w K mg base CX j f φ)(h:j<=k):bv P w K mg base CX k f φ:=by obtain⟨d,e,p,m,M,a,b,c⟩:=F.ex;exact⟨_,_,_,m,M,a,b.mono h,c⟩
theorem BI{x:Str}{B:NZ}{ps:Ls}(F:qw K x qual st f B)(S:b6 N ps (bx st))(M:EU P w K mg base (bh P w) Φ Γ k)(U:cN body N (bY st)=bY st)(T:eB body N (bx st).names (bY st)=MW)(Y:∀z∈eC body,XC P w K mg z):
  cR P w K mg base (bh P w) (k+1) f B ps (sY K mg ps.length (au Φ Γ body N.length ps.length)):=by
 obtain⟨oc,od,kV,J,pm,an,i,ct,Z,rfl,lk,j⟩:=F.ex;refine xX lk j S (λvs H Q E h=>h.1) λA o s H vs Q E X h=>?_
 ·obtain⟨V,F',μ,t,O,D,r,W⟩:=h;have L:lr (fC _ P w K mg base N qual (bx st) f i A o s H E) E:=lr.of;refine⟨_,U▸g9 _ ⟨⟨rfl,S.nd,rfl,S.kind,rfl,X,λ_ _=>rfl,M,L.pass,qQ⟩,L.own,rfl,⟨rfl,rfl,rfl⟩,λpq σ H1 s1 h2 e C u I m q=>L.made I m q⟩ T Y,_,_,_,_,D,IX r,?_⟩;have b:O.length=ps.length:=by rw[r.length];exact V
  unfold au at W;rw[if_pos b,<-b]at W;have a:=D.len;cases e:af _ _ _ _ _ with
  |ok R p=>
   rw[e]at W;cases R with
   |next G=>exact λg n σ' x c _=>BH x a c jB W
   |ret d=>exact λg n v x c r'=>BH x a c r' W
   |brk G=>exact W.elim
   |cont G=>exact W.elim
  |err y p=>
   rw[e]at W;intro g n x c;by_cases l:(p.take t.length).all (bb t.length)=MW
   ·simp[l]at W;exact W _ _ x.cut (aI.cut x a c l)
   ·simp[l]at W;exact W.elim
  |fail=>rw[e]at W;exact W.elim
theorem MN{x:Str}{a:NZ}{ps:Ls}(F:qw K x qual st f a)(S:b6 N ps (bx st))(d:mg x=some (.ref f))(H:Binds K a ps [])(M:EU P w K mg base (bh P w) Φ Γ k)(c:cN body N (bY st)=bY st)(b:eB body N (bx st).names (bY st)=MW)(e:∀z∈eC body,XC P w K mg z):
  bv P w K mg base (bh P w) (k+1) x (au Φ Γ body N.length ps.length):=by
 refine⟨f,_,_,d,F.kp,H,BI F S M c b e,λD g h=>?_⟩;unfold au at h
 grind
theorem cj{P:Lv->Prop}(h:∀a,P [a]):∀us:Lv,us.length=1->P us:=λus H=>by obtain⟨a,rfl⟩:=List.length_eq_one_iff.mp H;exact h a
theorem bZ{P:Lv->Prop}(h:∀a b,P [a,b]):∀us:Lv,us.length=2->P us:=λus H=>by
 cases us with
 |nil=>cases H
 |cons a us=>exact cj (P:=λus=>P _) (h a) _ (ZG H)
theorem g_{P:Lv->Prop}(h:∀a b c,P [a,b,c]):∀us:Lv,us.length=3->P us:=λus H=>by
 cases us with
 |nil=>cases H
 |cons a us=>exact bZ (P:=λus=>P _) (h a) _ (ZG H)
noncomputable def tbl(l:List (Str×(List D->ae->Res D))):FT:=λf=>l.lookup f
theorem Ms(h:∀p∈l,bv P w K mg base (bh P w) k p.1 p.2)(b:∀x d,Γ x=some d->∃v u,mg x=some u/\RelV v u/\∀F μ H,Rep K ⟨mg,F⟩ μ H d v)(a:∀x∈f',mg x=none):EU P w K mg base (bh P w) (tbl l) Γ k:=
 ⟨λf c e=>h _ (Zw e),b,a⟩
end
end Py
namespace K45
noncomputable def xh:Ls:=["NoWeb","NoPlace","NoPlaces","NoTie","NoNumber","NoPairing","NoWay","NoRing","NoArrows","NoSides","NoText","NoLine","NoDeed","TooGreat"]
noncomputable def uD:Ls:=["web","place","places","tie","number","pairing","way","ring","arrows","sides","text","line","deed","great"]
noncomputable def G0:Str->Option D:=λx=>[(("MOST_PLACES":Str),D.int 8)].lookup x
noncomputable def IY:Ls:=["thing"]
noncomputable def IZ:List CS:=[.ret (.band (.blt .isinst [.var 0,.ty "int"]) (.bnot (.blt .isinst [.var 0,.ty "bool"])))]
noncomputable def I3:FT:=tbl []
noncomputable def gr:List D->ae->Res D:=au I3 G0 IZ IY.length 1
noncomputable def I7:Ls:=["thing","low","high"]
noncomputable def ov:List CS:=[.ret (.band (.call "is_number" [.var 0]) (.chain .LtE .LtE (.var 1) (.var 0) (.var 2)))]
noncomputable def BJ:FT:=tbl [("is_number",gr)]
theorem uE:BJ "is_number"=some gr:=rfl
noncomputable def gu:List D->ae->Res D:=au BJ G0 ov I7.length 3
noncomputable def I8:Ls:=["many","thing"]
noncomputable def ox:List CS:=[.ret (.call "is_number_from" [.var 1,.lit (.int 0),.bin .Sub (.var 0) (.lit (.int 1))])]
noncomputable def uF:FT:=tbl [("is_number_from",gu)]
theorem BK:uF "is_number_from"=some gu:=rfl
noncomputable def kE:List D->ae->Res D:=au uF G0 ox I8.length 2
noncomputable def uG:Ls:=["things"]
noncomputable def uH:List CS:=[.ret (.blt .all [.comp MX ["one","other"] [none,none] (.tup [.var 0,.var 1]) (.zip [.var 0,.sl (.var 0) [.lit (.int 1)] []]) [] (.emit (.cmp .Lt (.var 0) (.var 1)))])]
noncomputable def I9:FT:=tbl []
noncomputable def b9:List D->ae->Res D:=au I9 G0 uH uG.length 1
noncomputable def BL:Ls:=["many","thing"]
noncomputable def oy:List CS:=[.ret (.band (.blt .isinst [.var 1,.ty "tuple"]) (.blt .all [.comp MX ["place","many"] [none,some 0] (.var 0) (.seq (.var 1)) [] (.emit (.call "is_place" [.var 1,.var 0]))]))]
noncomputable def iT:FT:=tbl [("is_place",kE)]
theorem I_:iT "is_place"=some kE:=rfl
noncomputable def c_:List D->ae->Res D:=au iT G0 oy BL.length 2
noncomputable def I':Ls:=["things"]
noncomputable def BM:List CS:=[.ret (.cmp .Eq (.lenset (.var 0)) (.blt .len [.var 0]))]
noncomputable def Ja:FT:=tbl []
noncomputable def oz:List D->ae->Res D:=au Ja G0 BM I'.length 1
noncomputable def Jb:Ls:=["many","thing"]
noncomputable def iU:List CS:=[.ret (.band (.call "are_places" [.var 0,.var 1]) (.band (.cmp .Eq (.blt .len [.var 1]) (.lit (.int 2))) (.call "is_rising" [.var 1])))]
noncomputable def oA:FT:=tbl [("are_places",c_),("is_rising",b9)]
theorem oB:oA "are_places"=some c_:=rfl
theorem BN:oA "is_rising"=some b9:=rfl
noncomputable def eD:List D->ae->Res D:=au oA G0 iU Jb.length 2
noncomputable def BO:Ls:=["thing","many","ties"]
noncomputable def BP:CE:=.bor (.bnot (.blt .isinst [.var 0,.ty "tuple"])) (.cmp .NotEq (.blt .len [.var 0]) (.lit (.int 2)))
noncomputable def Jc:CE:=.bor (.bnot (.call "is_number_from" [.var 1,.lit (.int 1),.glob "MOST_PLACES"])) (.bnot (.blt .isinst [.var 2,.ty "tuple"]))
noncomputable def xi:CE:=.comp MX ["tie","many"] [none,some 1] (.var 0) (.seq (.var 2)) [] (.emit (.call "is_tie" [.var 1,.var 0]))
noncomputable def iV:List CS:=[.ite BP [.ret (.lit (.bl MX))] [],.asgT (.tup [.var 1,.var 2]) (.var 0),.ite Jc [.ret (.lit (.bl MX))] [],.ret (.band (.blt .all [xi]) (.call "is_rising" [.var 2]))]
noncomputable def da:FT:=tbl [("is_rising",b9),("is_number_from",gu),("is_tie",eD)]
theorem BQ:da "is_rising"=some b9:=rfl
theorem BR:da "is_number_from"=some gu:=rfl
theorem BS:da "is_tie"=some eD:=rfl
noncomputable def db:List D->ae->Res D:=au da G0 iV BO.length 1
noncomputable def uI:Ls:=["web","thing"]
noncomputable def oC:List CS:=[.ret (.band (.call "are_places" [.idx (.var 0) (.lit (.int 0)),.var 1]) (.call "is_rising" [.var 1]))]
noncomputable def uJ:FT:=tbl [("are_places",c_),("is_rising",b9)]
theorem uK:uJ "are_places"=some c_:=rfl
theorem BU:uJ "is_rising"=some b9:=rfl
noncomputable def ea:List D->ae->Res D:=au uJ G0 oC uI.length 2
noncomputable def Jd:Ls:=["web","thing"]
noncomputable def Je:List CS:=[.ite (.bnot (.blt .isinst [.var 1,.ty "tuple"])) [.ret (.lit (.bl MX))] [],.ret (.band (.blt .all [.comp MX ["tie","web"] [none,some 0] (.var 0) (.seq (.var 1)) [] (.emit (.band (.call "is_tie" [.idx (.var 1) (.lit (.int 0)),.var 0]) (.cmp .In (.var 0) (.idx (.var 1) (.lit (.int 1))))))]) (.call "is_rising" [.var 1]))]
noncomputable def uL:FT:=tbl [("is_rising",b9),("is_tie",eD)]
theorem Jf:uL "is_rising"=some b9:=rfl
theorem Jg:uL "is_tie"=some eD:=rfl
noncomputable def oD:List D->ae->Res D:=au uL G0 Je Jd.length 2
noncomputable def BV:Ls:=["thing"]
noncomputable def uM:List CS:=[.ite (.bnot (.call "is_web" [.var 0])) [.raise_ "NoWeb" [.lit (.str "this is no web")]] []]
noncomputable def BW:FT:=tbl [("is_web",db)]
theorem BX:BW "is_web"=some db:=rfl
noncomputable def cY:List D->ae->Res D:=au BW G0 uM BV.length 1
noncomputable def BY:Ls:=["web","thing"]
noncomputable def uN:List CS:=[.ite (.bnot (.call "is_some" [.var 0,.var 1])) [.raise_ "NoPlaces" [.lit (.str "this is no rising tuple of places of the web")]] []]
noncomputable def BZ:FT:=tbl [("is_some",ea)]
theorem B0:BZ "is_some"=some ea:=rfl
noncomputable def kF:List D->ae->Res D:=au BZ G0 uN BY.length 2
noncomputable def Jh:Ls:=["one","other"]
noncomputable def B1:List CS:=[.ret (.tup [.blt .min [.var 0,.var 1],.blt .max [.var 0,.var 1]])]
noncomputable def Ji:FT:=tbl []
noncomputable def oE:List D->ae->Res D:=au Ji G0 B1 Jh.length 2
noncomputable def Jj:Ls:=["web","one","other"]
noncomputable def B2:List CS:=[.ret (.cmp .In (.call "tie_of" [.var 1,.var 2]) (.idx (.var 0) (.lit (.int 1))))]
noncomputable def B3:FT:=tbl [("tie_of",oE)]
theorem Jk:B3 "tie_of"=some oE:=rfl
noncomputable def oF:List D->ae->Res D:=au B3 G0 B2 Jj.length 3
noncomputable def uO:Ls:=["web","left","start","reached","waiting","here","fresh"]
noncomputable def kG:List CS:=[.asg 3 (.lst MW [.var 2]),.asg 4 (.lst MW [.var 2]),.while_ 100 (.var 4) [.asg 5 (.meth .pop (.var 4) []),.asg 6 (.comp MX ["place","reached","web","here"] [none,some 3,some 0,some 5] (.var 0) (.seq (.var 1)) [.band (.cmp .NotIn (.var 0) (.var 1)) (.call "have_tie" [.var 2,.var 3,.var 0])] (.emit (.var 0))),.expr (.meth .extend (.var 3) [.var 6]),.expr (.meth .extend (.var 4) [.var 6])],.ret (.blt .tuple [.blt (.sorted MX (.int)) [.var 3]])]
noncomputable def eE:FT:=tbl [("have_tie",oF)]
theorem Jl:eE "have_tie"=some oF:=rfl
noncomputable def kH:List D->ae->Res D:=au eE G0 kG uO.length 3
noncomputable def B4:Ls:=["web","some","left","found","place"]
noncomputable def oG:List CS:=[.expr (.call "must_be_web" [.var 0]),.expr (.call "must_be_some" [.var 0,.var 1]),.asg 2 (.comp MX ["place","some"] [none,some 1] (.var 0) (.range [.idx (.var 0) (.lit (.int 0))]) [.cmp .NotIn (.var 0) (.var 1)] (.emit (.var 0))),.asg 3 (.lst MW []),.for_ (.var 4) (.seq (.var 2)) [.ite (.bnot (.blt .any [.comp MX ["piece","place"] [none,some 4] (.var 0) (.seq (.var 3)) [] (.emit (.cmp .In (.var 1) (.var 0)))])) [.expr (.meth .append (.var 3) [.call "piece_of" [.var 0,.var 2,.var 4]])] []],.ret (.var 3)]
noncomputable def eX:FT:=tbl [("must_be_web",cY),("must_be_some",kF),("piece_of",kH)]
theorem uP:eX "must_be_web"=some cY:=rfl
theorem B5:eX "must_be_some"=some kF:=rfl
theorem Jm:eX "piece_of"=some kH:=rfl
noncomputable def fL:List D->ae->Res D:=au eX G0 oG B4.length 2
noncomputable def B6:Ls:=["web","thing"]
noncomputable def B7:List CS:=[.expr (.call "must_be_web" [.var 0]),.ret (.band (.call "are_ties" [.var 0,.var 1]) (.call "are_unlike" [.comp MX ["tie","place"] [none,none] (.var 0) (.seq (.var 1)) [] (.inner (.var 1) (.seq (.var 0)) [] (.emit (.var 1)))]))]
noncomputable def oH:FT:=tbl [("must_be_web",cY),("are_ties",oD),("are_unlike",oz)]
theorem B8:oH "must_be_web"=some cY:=rfl
theorem Jn:oH "are_ties"=some oD:=rfl
theorem Jo:oH "are_unlike"=some oz:=rfl
noncomputable def kI:List D->ae->Res D:=au oH G0 B7 B6.length 2
noncomputable def B9:Ls:=["web","thing"]
noncomputable def uQ:List CS:=[.ite (.bnot (.call "is_pairing" [.var 0,.var 1])) [.raise_ "NoPairing" [.lit (.str "this is no pairing of the web")]] []]
noncomputable def B_:FT:=tbl [("is_pairing",kI)]
theorem Ca:B_ "is_pairing"=some kI:=rfl
noncomputable def eF:List D->ae->Res D:=au B_ G0 uQ B9.length 2
noncomputable def Jp:Ls:=["pairing","place","low","high"]
noncomputable def Jq:List CS:=[.for_ (.tup [.var 2,.var 3]) (.seq (.var 0)) [.ite (.cmp .Eq (.var 1) (.var 2)) [.ret (.var 3)] [],.ite (.cmp .Eq (.var 1) (.var 3)) [.ret (.var 2)] []],.ret (.lit (.non))]
noncomputable def Jr:FT:=tbl []
noncomputable def Cb:List D->ae->Res D:=au Jr G0 Jq Jp.length 2
noncomputable def Js:Ls:=["web","found","place","ties"]
noncomputable def Cc:List CS:=[.expr (.call "must_be_web" [.var 0]),.asg 1 (.lst MX [.tup []]),.for_ (.var 2) (.down [.idx (.var 0) (.lit (.int 0))]) [.asg 3 (.comp MX ["tie","place"] [none,some 2] (.var 0) (.seq (.idx (.var 0) (.lit (.int 1)))) [.cmp .Eq (.idx (.var 0) (.lit (.int 0))) (.var 1)] (.emit (.var 0))),.asg 1 (.bin .Add (.var 1) (.comp MX ["tie","pairing","found"] [none,none,some 1] (.var 0) (.seq (.var 3)) [] (.inner (.var 1) (.seq (.var 2)) [.cmp .Is (.call "mate_of" [.var 1,.idx (.var 0) (.lit (.int 1))]) (.lit (.non))] (.emit (.bin .Add (.tup [.var 0]) (.var 1))))))],.ret (.blt (.sorted MW (.seq (.seq .int))) [.var 1])]
noncomputable def Cd:FT:=tbl [("must_be_web",cY),("mate_of",Cb)]
theorem Jt:Cd "must_be_web"=some cY:=rfl
noncomputable def oI:List D->ae->Res D:=au Cd G0 Cc Js.length 1
noncomputable def Ju:Ls:=["web","found","many"]
noncomputable def Ce:List CS:=[.asg 1 (.call "all_pairings" [.var 0]),.asg 2 (.blt .max [.comp MX ["pairing"] [none] (.var 0) (.seq (.var 1)) [] (.emit (.blt .len [.var 0]))]),.ret (.comp MW ["pairing","many"] [none,some 2] (.var 0) (.seq (.var 1)) [.cmp .Eq (.blt .len [.var 0]) (.var 1)] (.emit (.var 0)))]
noncomputable def Cf:FT:=tbl [("all_pairings",oI)]
theorem Jv:Cf "all_pairings"=some oI:=rfl
noncomputable def oJ:List D->ae->Res D:=au Cf G0 Ce Ju.length 1
noncomputable def Cg:Ls:=["web"]
noncomputable def Ch:List CS:=[.ret (.idx (.call "greatest" [.var 0]) (.lit (.int 0)))]
noncomputable def Ci:FT:=tbl [("greatest",oJ)]
theorem Jw:Ci "greatest"=some oJ:=rfl
noncomputable def oM:List D->ae->Res D:=au Ci G0 Ch Cg.length 1
noncomputable def kJ:Ls:=["web"]
noncomputable def kK:List CS:=[.ret (.blt .len [.call "first_greatest" [.var 0]])]
noncomputable def kL:FT:=tbl [("first_greatest",oM)]
theorem Jx:kL "first_greatest"=some oM:=rfl
noncomputable def kM:List D->ae->Res D:=au kL G0 kK kJ.length 1
noncomputable def Jy:Ls:=["web","some"]
noncomputable def oN:List CS:=[.ret (.comp MW ["piece"] [none] (.var 0) (.seq (.call "pieces_without" [.var 0,.var 1])) [.cmp .Eq (.bin .BitAnd (.blt .len [.var 0]) (.lit (.int 1))) (.lit (.int 1))] (.emit (.var 0)))]
noncomputable def hE:FT:=tbl [("pieces_without",fL)]
theorem Cj:hE "pieces_without"=some fL:=rfl
noncomputable def fM:List D->ae->Res D:=au hE G0 oN Jy.length 2
noncomputable def Ck:Ls:=["web","some","odd"]
noncomputable def uR:List CS:=[.asg 2 (.call "odd_left" [.var 0,.var 1]),.ret (.bin .FloorDiv (.bin .Sub (.bin .Add (.idx (.var 0) (.lit (.int 0))) (.blt .len [.var 1])) (.blt .len [.var 2])) (.lit (.int 2)))]
noncomputable def Cm:FT:=tbl [("odd_left",fM)]
theorem Cn:Cm "odd_left"=some fM:=rfl
noncomputable def eY:List D->ae->Res D:=au Cm G0 uR Ck.length 2
noncomputable def Jz:Ls:=["web","pairing","thing"]
noncomputable def oO:List CS:=[.expr (.call "must_be_pairing" [.var 0,.var 1]),.ret (.band (.call "is_some" [.var 0,.var 2]) (.cmp .Eq (.call "bound" [.var 0,.var 2]) (.blt .len [.var 1])))]
noncomputable def oP:FT:=tbl [("must_be_pairing",eF),("is_some",ea),("bound",eY)]
theorem uS:oP "must_be_pairing"=some eF:=rfl
theorem Co:oP "is_some"=some ea:=rfl
theorem JA:oP "bound"=some eY:=rfl
noncomputable def gv:List D->ae->Res D:=au oP G0 oO Jz.length 3
noncomputable def JB:Ls:=["web","found","place"]
noncomputable def JC:List CS:=[.asg 1 (.lst MX [.tup []]),.for_ (.var 2) (.down [.idx (.var 0) (.lit (.int 0))]) [.asg 1 (.bin .Add (.var 1) (.comp MX ["some","place"] [none,some 2] (.var 0) (.seq (.var 1)) [] (.emit (.bin .Add (.tup [.var 1]) (.var 0)))))],.ret (.blt (.sorted MX (.seq .int)) [.var 1])]
noncomputable def JD:FT:=tbl []
noncomputable def uT:List D->ae->Res D:=au JD G0 JC JB.length 1
noncomputable def JE:Ls:=["web","many"]
noncomputable def Cp:List CS:=[.asg 1 (.call "most" [.var 0]),.ret (.comp MX ["some","web","many"] [none,some 0,some 1] (.var 0) (.seq (.call "all_some" [.var 0])) [.cmp .Eq (.call "bound" [.var 1,.var 0]) (.var 2)] (.emit (.var 0)))]
noncomputable def Cq:FT:=tbl [("most",kM),("all_some",uT),("bound",eY)]
theorem JF:Cq "most"=some kM:=rfl
noncomputable def iW:List D->ae->Res D:=au Cq G0 Cp JE.length 1
noncomputable def Cr:Ls:=["web"]
noncomputable def Cs:List CS:=[.ret (.idx (.call "all_papers" [.var 0]) (.lit (.int 0)))]
noncomputable def Ct:FT:=tbl [("all_papers",iW)]
theorem JG:Ct "all_papers"=some iW:=rfl
noncomputable def oQ:List D->ae->Res D:=au Ct G0 Cs Cr.length 1
noncomputable def Cu:Ls:=["web","some"]
noncomputable def qS:List CS:=[.expr (.call "must_be_web" [.var 0]),.for_ (.var 1) (.seq (.call "all_some" [.var 0])) [.ite (.cmp .Gt (.blt .len [.call "odd_left" [.var 0,.var 1]]) (.blt .len [.var 1])) [.ret (.var 1)] []],.ret (.lit (.non))]
noncomputable def qT:FT:=tbl [("must_be_web",cY),("all_some",uT),("odd_left",fM)]
theorem JH:qT "must_be_web"=some cY:=rfl
noncomputable def ie:List D->ae->Res D:=au qT G0 qS Cu.length 1
noncomputable def JI:Ls:=["_law_script","_law_k"]
noncomputable def Cv:List CS:=[.ite (.cmp .Lt (.var 1) (.blt .len [.var 0])) [.ret (.idx (.var 0) (.var 1))] [],.ret (.lit (.int 0))]
noncomputable def JJ:FT:=tbl []
noncomputable def iX:List D->ae->Res D:=au JJ G0 Cv JI.length 2
noncomputable def uU:Ls:=["_law_cell_here"]
noncomputable def uV:List CS:=[.ret (.lst MW [.var 0,.blt .int [.cmp .GtE (.var 0) (.bin .Pow (.lit (.int 10)) (.lit (.int 18)))]])]
noncomputable def uW:FT:=tbl []
noncomputable def iY:List D->ae->Res D:=au uW G0 uV uU.length 1
noncomputable def uX:Ls:=["_law_pen_here","_law_many","_law_found"]
noncomputable def uY:List CS:=[.ite (.cmp .Eq (.idx (.var 0) (.lit (.int 1))) (.lit (.int 1))) [.asg 2 (.bin .Mod (.idx (.var 0) (.lit (.int 0))) (.var 1)),.set (.var 0) (.lit (.int 0)) (.bin .FloorDiv (.idx (.var 0) (.lit (.int 0))) (.var 1)),.ret (.var 2)] [],.set (.var 0) (.lit (.int 0)) (.bin .Mod (.bin .Add (.bin .Mult (.bin .Mod (.idx (.var 0) (.lit (.int 0))) (.lit (.int 2147483629))) (.lit (.int 48271))) (.lit (.int 11))) (.lit (.int 2147483629))),.ret (.bin .Mod (.bin .FloorDiv (.bin .Mod (.bin .Add (.bin .Mult (.idx (.var 0) (.lit (.int 0))) (.idx (.var 0) (.lit (.int 0)))) (.bin .Mult (.lit (.int 40692)) (.idx (.var 0) (.lit (.int 0))))) (.lit (.int 2147483647))) (.lit (.int 8))) (.var 1))]
noncomputable def JK:FT:=tbl []
noncomputable def b3:List D->ae->Res D:=au JK G0 uY uX.length 2
noncomputable def Cw:Ls:=["_law_many","_law_found","_law_one"]
noncomputable def Cy:List CS:=[.asg 1 (.lst MX []),.for_ (.var 2) (.range [.var 0]) [.asg 1 (.bin .Add (.var 1) (.comp MX ["_law_other","_law_one"] [none,some 2] (.var 0) (.range [.bin .Add (.var 2) (.lit (.int 1)),.var 0]) [] (.emit (.tup [.var 1,.var 0]))))],.ret (.var 1)]
noncomputable def Cz:FT:=tbl []
noncomputable def oR:List D->ae->Res D:=au Cz G0 Cy Cw.length 1
noncomputable def JL:Ls:=["_law_pen_here","_law_upto","_law_many","_law_way","_law_rest","_law_mids","_law_often"]
noncomputable def uZ:List CS:=[.asg 2 (.bin .Sub (.bin .Sub (.bin .Add (.lit (.int 1)) (.var 1)) (.lit (.int 1))) (.bin .Mod (.idx (.lst MX [.lit (.int 0),.lit (.int 0),.lit (.int 1),.lit (.int 0),.lit (.int 2),.lit (.int 1),.lit (.int 3),.lit (.int 4),.lit (.int 5),.lit (.int 6),.lit (.int 7),.lit (.int 0)]) (.call "_law_draw" [.var 0,.lit (.int 12)])) (.var 1))),.asg 3 (.call "_law_draw" [.var 0,.lit (.int 9)]),.ite (.band (.cmp .Eq (.var 3) (.lit (.int 0))) (.cmp .Gt (.var 2) (.lit (.int 2)))) [.ret (.tup [.var 2,.blt .tuple [.blt (.sorted MX (.seq .int)) [.bin .Add (.comp MX ["_law_k"] [none] (.var 0) (.range [.bin .Sub (.var 2) (.lit (.int 1))]) [] (.emit (.tup [.var 0,.bin .Add (.var 0) (.lit (.int 1))]))) (.lst MX [.tup [.lit (.int 0),.bin .Sub (.var 2) (.lit (.int 1))]])]]])] [],.ite (.band (.cmp .Eq (.var 3) (.lit (.int 1))) (.cmp .Gt (.var 2) (.lit (.int 5)))) [.asg 4 (.bin .Add (.comp MX ["_law_k"] [none] (.var 0) (.range [.lit (.int 3),.bin .Sub (.var 2) (.lit (.int 1))]) [] (.emit (.tup [.var 0,.bin .Add (.var 0) (.lit (.int 1))]))) (.lst MX [.tup [.lit (.int 3),.bin .Sub (.var 2) (.lit (.int 1))],.tup [.lit (.int 2),.lit (.int 3)]])),.ret (.tup [.var 2,.blt .tuple [.blt (.sorted MX (.seq .int)) [.bin .Add (.lst MX [.tup [.lit (.int 0),.lit (.int 1)],.tup [.lit (.int 0),.lit (.int 2)],.tup [.lit (.int 1),.lit (.int 2)]]) (.var 4)]]])] [],.ite (.band (.cmp .Eq (.var 3) (.lit (.int 2))) (.cmp .Gt (.var 2) (.lit (.int 2)))) [.asg 5 (.bin .Add (.lit (.int 1)) (.call "_law_draw" [.var 0,.lit (.int 2)])),.ret (.tup [.var 2,.blt .tuple [.comp MX ["_law_tie","_law_mids"] [none,some 5] (.var 0) (.seq (.call "_law_pairs" [.var 2])) [.chain .Lt .LtE (.idx (.var 0) (.lit (.int 0))) (.var 1) (.idx (.var 0) (.lit (.int 1)))] (.emit (.var 0))]])] [],.ite (.cmp .Eq (.var 3) (.lit (.int 3))) [.ret (.tup [.var 2,.blt .tuple [.blt (.sorted MX (.seq .int)) [.comp MX ["_law_place","_law_pen_here"] [none,some 0] (.var 0) (.range [.lit (.int 1),.var 2]) [] (.emit (.tup [.call "_law_draw" [.var 1,.var 0],.var 0]))]]])] [],.asg 6 (.idx (.lst MX [.lit (.int 2),.lit (.int 3),.lit (.int 4),.lit (.int 6),.lit (.int 8)]) (.call "_law_draw" [.var 0,.lit (.int 5)])),.ret (.tup [.var 2,.blt .tuple [.comp MX ["_law_tie","_law_pen_here","_law_often"] [none,some 0,some 6] (.var 0) (.seq (.call "_law_pairs" [.var 2])) [.cmp .Lt (.call "_law_draw" [.var 1,.lit (.int 8)]) (.var 2)] (.emit (.var 0))]])]
noncomputable def ec:FT:=tbl [("_law_draw",b3),("_law_pairs",oR)]
theorem iZ:ec "_law_draw"=some b3:=rfl
theorem CA:ec "_law_pairs"=some oR:=rfl
noncomputable def i3:List D->ae->Res D:=au ec G0 uZ JL.length 2
noncomputable def u0:Ls:=["_law_pen_here","_law_many","_law_often"]
noncomputable def CB:List CS:=[.asg 2 (.bin .Add (.lit (.int 1)) (.call "_law_draw" [.var 0,.lit (.int 3)])),.ret (.blt .tuple [.comp MX ["_law_place","_law_pen_here","_law_often"] [none,some 0,some 2] (.var 0) (.range [.var 1]) [.cmp .Lt (.call "_law_draw" [.var 1,.lit (.int 4)]) (.var 2)] (.emit (.var 0))])]
noncomputable def oS:FT:=tbl [("_law_draw",b3)]
theorem CC:oS "_law_draw"=some b3:=rfl
noncomputable def hG:List D->ae->Res D:=au oS G0 CB u0.length 2
noncomputable def JM:Ls:=["_law_pen_here","_law_web_here","_law_many","_law_ties","_law_at","_law_odd","_law_rows","_law_turned","_law_some_here"]
noncomputable def fN(e:CE):CE:=.call "_law_draw" [.var 0,e]
noncomputable def oT:List CE:=[.tup [.lit (.int 0),.lit (.int 0)],.tup [.lit (.int 1),.lit (.int 0)],.tup [.lit (.int 0),.var 2],.tup [.neg (.lit (.int 1)),.lit (.int 0)],.tup [.lit (.bl MX),.lit (.bl MW)],.tup [.lit (.int 0),.lit (.bl MW)],.tup [.lit (.int 0)],.tup [.lit (.int 0),.lit (.int 1),.lit (.int 2)],.lst MX [.lit (.int 0),.lit (.int 1)],.lit (.non),.lit (.str "01")]
noncomputable def oU:List CE:=[.tup [.bin .Sub (.var 2) (.lit (.int 1)),.bin .Sub (.var 2) (.lit (.int 1))],.tup [.lit (.int 0),.bin .Pow (.lit (.int 10)) (.lit (.int 30))],.tup [.lit (.int 0),.lit (.int 1)],.var 3]
noncomputable def sA:CE:=.sl (.var 3) [] [.var 4]
noncomputable def sB:CE:=.sl (.var 3) [.var 4] []
noncomputable def sC:CE:=.sl (.var 3) [.bin .Add (.var 4) (.lit (.int 1))] []
noncomputable def oV:List CE:=[.bin .Add (.bin .Add sA (.tup [.var 5])) sB,.bin .Add (.bin .Add sA (.tup [.var 5])) sC,.rev (.var 3) (.neg (.lit (.int 1)))]
noncomputable def oW:CE:=.bin .Add sA sC
noncomputable def sD:CE:=.sl (.var 3) [.var 4] [.bin .Add (.var 4) (.lit (.int 1))]
noncomputable def oX:List CE:=[.bin .Add (.bin .Add sA sD) sB,.blt (.list MX) [.var 3],.bin .Add sB sA,.lit (.non),.tup [.var 3]]
noncomputable def sE:CE:=.sl (.var 3) [.bin .Add (.var 4) (.lit (.int 1))] [.bin .Add (.var 4) (.lit (.int 2))]
noncomputable def oY:CE:=.bin .Add sE sD
noncomputable def sF:CE:=.sl (.var 3) [.bin .Add (.var 4) (.lit (.int 2))] []
noncomputable def oZ:CE:=.bin .Add (.bin .Add sA (.var 7)) sF
noncomputable def u1:List CE:=[.tup [.bin .Add (.var 2) (.lit (.int 1)),.var 3],.tup [.bin .Sub (.var 2) (.lit (.int 1)),.var 3],.tup [.lit (.bl MW),.var 3],.tup [.lit (.int 9),.var 3],.tup [.lit (.int 0),.tup []],.tup [.lit (.non),.var 3],.lst MX [.var 2,.var 3],.tup [.var 2]]
noncomputable def u2:List CE:=[.tup [.var 2,.var 3,.tup []],.tup [.blt .str [.var 2],.var 3],.tup [.var 3,.var 2],.var 3,.lit (.non),.var 2,.dct,.lit (.str "web"),.tup [.neg (.lit (.int 1)),.tup []]]
noncomputable def u3:CE:=.tup [.bin .Pow (.lit (.int 10)) (.lit (.int 30)),.tup []]
noncomputable def u4:List CS:=[.asgT (.tup [.var 2,.var 3]) (.var 1),.asg 4 (fN (.bin .Add (.blt .len [.var 3]) (.lit (.int 1)))),.asg 5 (.lst MX oT),.asg 5 (.idx (.bin .Add (.var 5) (.lst MX oU)) (fN (.lit (.int 15)))),.asg 6 (.lst MW oV),.expr (.meth .append (.var 6) [oW]),.asg 6 (.catB (.var 6) (.lst MX oX)),.asg 7 oY,.expr (.meth .append (.var 6) [oZ]),.ite (.cmp .Gt (fN (.lit (.int 3))) (.lit (.int 0))) [.ret (.tup [.var 2,.idx (.var 6) (fN (.lit (.int 10)))])] [],.asg 8 (.lst MW u1),.asg 8 (.catB (.var 8) (.lst MX u2)),.expr (.meth .append (.var 8) [u3]),.ret (.idx (.var 8) (fN (.lit (.int 18))))]
noncomputable def bw:FT:=tbl [("_law_draw",b3)]
theorem JN:bw "_law_draw"=some b3:=rfl
noncomputable def hH:List D->ae->Res D:=au bw G0 u4 JM.length 2
noncomputable def JO:Ls:=["_law_found"]
noncomputable def JP:List CS:=[.ret (.band (.blt .isinst [.var 0,.ty "int"]) (.bnot (.blt .isinst [.var 0,.ty "bool"])))]
noncomputable def JQ:FT:=tbl []
noncomputable def gw:List D->ae->Res D:=au JQ G0 JP JO.length 1
noncomputable def JR:Ls:=["_law_thing","_law_tie"]
noncomputable def xj:CE:=.idx (.var 0) (.lit (.int 0))
noncomputable def EZ:CE:=.chain .LtE .LtE (.lit (.int 1)) xj (.lit (.int 8))
noncomputable def xk:CE:=.bor (.bnot (.blt .isinst [.var 0,.ty "tuple"])) (.bor (.cmp .NotEq (.blt .len [.var 0]) (.lit (.int 2))) (.bor (.bnot (.call "_law_whole" [xj])) (.bnot EZ)))
noncomputable def gM:CE:=.idx (.var 0) (.lit (.int 1))
noncomputable def Mt:CE:=.comp MX ["_law_place"] [none] (.var 0) (.seq (.var 1)) [] (.emit (.call "_law_whole" [.var 0]))
noncomputable def JS:CE:=.bor (.bnot (.blt .isinst [.var 1,.ty "tuple"])) (.bor (.cmp .NotEq (.blt .len [.var 1]) (.lit (.int 2))) (.bnot (.blt .all [Mt])))
noncomputable def Mu:CE:=.chain3 .LtE .Lt .Lt (.lit (.int 0)) (.idx (.var 1) (.lit (.int 0))) (.idx (.var 1) (.lit (.int 1))) xj
noncomputable def qU:List CS:=[.ite JS [.ret (.lit (.bl MX))] [],.ite (.bnot Mu) [.ret (.lit (.bl MX))] []]
noncomputable def o3:List CS:=[.ite xk [.ret (.lit (.bl MX))] [],.ite (.bnot (.blt .isinst [gM,.ty "tuple"])) [.ret (.lit (.bl MX))] [],.for_ (.var 1) (.seq gM) qU,.ret (.cmp .Eq (.blt (.list MX) [gM]) (.sset gM))]
noncomputable def bz:FT:=tbl [("_law_whole",gw)]
theorem JT:bz "_law_whole"=some gw:=rfl
noncomputable def eZ:List D->ae->Res D:=au bz G0 o3 JR.length 1
noncomputable def u5:Ls:=["_law_pen_here","_law_web_here","_law_thing"]
noncomputable def u6:List CS:=[.asg 2 (.call "_law_bent_web" [.var 0,.var 1]),.ret (.ite (.call "_law_is_web" [.var 2]) (.tup [.idx (.var 1) (.lit (.int 0)),.idx (.var 1) (.lit (.int 1)),.tup []]) (.var 2))]
noncomputable def u8:FT:=tbl [("_law_bent_web",hH),("_law_is_web",eZ)]
theorem CD:u8 "_law_bent_web"=some hH:=rfl
theorem CF:u8 "_law_is_web"=some eZ:=rfl
noncomputable def i4:List D->ae->Res D:=au u8 G0 u6 u5.length 2
noncomputable def JU:Ls:=["_law_pen_here","_law_many","_law_some_here","_law_at","_law_odd","_law_rows"]
noncomputable def CG:List CE:=[.var 1,.neg (.lit (.int 1)),.lit (.bl MW),.lit (.non),.lit (.str "0"),.tup [.lit (.int 0)],.bin .Pow (.lit (.int 10)) (.lit (.int 30)),.call "_law_draw" [.var 0,.var 1]]
noncomputable def xl(l h:List CE):CE:=.sl (.var 2) l h
noncomputable def JV:CE:=.bin .Add (xl [] [.var 3]) (.tup [.var 4])
noncomputable def u9:List CE:=[.bin .Add JV (xl [.var 3] []),.bin .Add JV (xl [.bin .Add (.var 3) (.lit (.int 1))] []),.rev (.var 2) (.neg (.lit (.int 1))),.blt (.list MX) [.var 2],.tup [.var 2],.lit (.non)]
noncomputable def u_:List CE:=[.bin .Add (.var 2) (xl [.neg (.lit (.int 1))] []),.lit (.int 0),.lit (.str "0"),.dct,.bin .Add (xl [.var 3] []) (xl [] [.var 3])]
noncomputable def vc:List CS:=[.asg 3 (.call "_law_draw" [.var 0,.bin .Add (.blt .len [.var 2]) (.lit (.int 1))]),.asg 4 (.idx (.lst MX CG) (.call "_law_draw" [.var 0,.lit (.int 8)])),.asg 5 (.lst MX u9),.ret (.idx (.bin .Add (.var 5) (.lst MX u_)) (.call "_law_draw" [.var 0,.lit (.int 11)]))]
noncomputable def dC:FT:=tbl [("_law_draw",b3)]
theorem o4:dC "_law_draw"=some b3:=rfl
noncomputable def o5:List D->ae->Res D:=au dC G0 vc JU.length 3
noncomputable def JW:Ls:=["_law_many","_law_thing"]
noncomputable def CH:CE:=.band (.call "_law_whole" [.var 0]) (.chain .LtE .Lt (.lit (.int 0)) (.var 0) (.var 1))
noncomputable def Mv:CE:=.comp MX ["_law_place","_law_many"] [none,some 0] (.var 0) (.seq (.var 1)) [] (.emit CH)
noncomputable def JX:CE:=.bor (.bnot (.blt .isinst [.var 1,.ty "tuple"])) (.bnot (.blt .all [Mv]))
noncomputable def vd:List CS:=[.ite JX [.ret (.lit (.bl MX))] [],.ret (.cmp .Eq (.blt (.list MX) [.var 1]) (.sset (.var 1)))]
noncomputable def e9:FT:=tbl [("_law_whole",gw)]
theorem CI:e9 "_law_whole"=some gw:=rfl
noncomputable def i5:List D->ae->Res D:=au e9 G0 vd JW.length 2
noncomputable def vf:Ls:=["_law_pen_here","_law_many","_law_some_here","_law_thing"]
noncomputable def vg:List CS:=[.asg 3 (.call "_law_bent_places" [.var 0,.var 1,.var 2]),.ret (.ite (.call "_law_are_places" [.var 1,.var 3]) (.blt (.list MX) [.var 2]) (.var 3))]
noncomputable def vh:FT:=tbl [("_law_bent_places",o5),("_law_are_places",i5)]
theorem CJ:vh "_law_bent_places"=some o5:=rfl
theorem CK:vh "_law_are_places"=some i5:=rfl
noncomputable def kN:List D->ae->Res D:=au vh G0 vg vf.length 3
noncomputable def JY:Ls:=["_law_way","_law_web_here","_law_thing","_law_e"]
noncomputable def JZ:CE:=.sel ["odd_left","bound"] (.var 0) [.var 1,.var 2]
noncomputable def J1:CE:=.sel ["all_papers","paper_for","bar"] (.bin .Sub (.var 0) (.lit (.int 3))) [.var 1]
noncomputable def c6:List CS:=[.ite (.cmp .Lt (.var 0) (.lit (.int 2))) [.expr JZ] [.ite (.cmp .Eq (.var 0) (.lit (.int 2))) [.expr (.call "is_paper" [.var 1,.tup [],.var 2])] [.expr J1]]]
noncomputable def o6:List CS:=[.tryK 3 c6 "_law_kinds" xh uD,.ret (.lit (.str "told"))]
noncomputable def b4:FT:=tbl [("odd_left",fM),("bound",eY),("is_paper",gv),("all_papers",iW),("paper_for",oQ),("bar",ie)]
theorem vi:b4 "odd_left"=some fM:=rfl
theorem vj:b4 "bound"=some eY:=rfl
theorem J2:b4 "all_papers"=some iW:=rfl
theorem J3:b4 "paper_for"=some oQ:=rfl
theorem J4:b4 "bar"=some ie:=rfl
noncomputable def eG:List D->ae->Res D:=au b4 G0 o6 JY.length 3
noncomputable def ig:Ls:=["_law_script","_law_cell_here","_law_pen_here","_law_web_here","_law_some_here","_law_bad","_law_none"]
noncomputable def gx:List CS:=[.for_ (.var 1) (.seq (.bin .Add (.lst MX [.call "_law_cell" [.var 0,.lit (.int 0)]]) (.sl (.var 0) [.lit (.int 1)] [.lit (.int 8)]))) [.asg 2 (.call "_law_pen" [.var 1]),.asg 3 (.call "_law_web" [.var 2,.lit (.int 8)]),.asg 4 (.call "_law_some" [.var 2,.idx (.var 3) (.lit (.int 0))]),.asgT (.tup [.var 5,.var 6]) (.tup [.call "_law_no_web" [.var 2,.var 3],.call "_law_no_places" [.var 2,.idx (.var 3) (.lit (.int 0)),.var 4]]),.ite (.cmp .NotEq (.comp MX ["_law_way","_law_bad","_law_some_here","_law_none","_law_pen_here"] [none,some 5,some 4,some 6,some 2] (.var 0) (.range [.lit (.int 6)]) [] (.emit (.call "_law_came" [.var 0,.var 1,.idx (.lst MX [.var 2,.var 3]) (.call "_law_draw" [.var 4,.lit (.int 2)])]))) (.bin .Mult (.lst MX [.lit (.str "web")]) (.lit (.int 6)))) [.ret (.lit (.bl MX))] [],.ite (.cmp .NotEq (.comp MX ["_law_way","_law_web_here","_law_none"] [none,some 3,some 6] (.var 0) (.range [.lit (.int 3)]) [] (.emit (.call "_law_came" [.var 0,.var 1,.var 2]))) (.lst MX [.lit (.str "places"),.lit (.str "places"),.lit (.str "told")])) [.ret (.lit (.bl MX))] [],.ite (.cmp .NotEq (.comp MX ["_law_way","_law_web_here","_law_some_here"] [none,some 3,some 4] (.var 0) (.range [.lit (.int 3)]) [] (.emit (.call "_law_came" [.var 0,.var 1,.var 2]))) (.bin .Mult (.lst MX [.lit (.str "told")]) (.lit (.int 3)))) [.ret (.lit (.bl MX))] []],.ret (.lit (.bl MW))]
noncomputable def aN:FT:=tbl [("_law_pen",iY),("_law_web",i3),("_law_some",hG),("_law_cell",iX),("_law_no_web",i4),("_law_no_places",kN),("_law_came",eG),("_law_draw",b3)]
theorem J5:aN "_law_pen"=some iY:=rfl
theorem J6:aN "_law_web"=some i3:=rfl
theorem J7:aN "_law_some"=some hG:=rfl
theorem J8:aN "_law_cell"=some iX:=rfl
theorem J9:aN "_law_no_web"=some i4:=rfl
theorem J_:aN "_law_no_places"=some kN:=rfl
theorem J':aN "_law_came"=some eG:=rfl
theorem Ka:aN "_law_draw"=some b3:=rfl
noncomputable def kO:List D->ae->Res D:=au aN G0 gx ig.length 1
end K45
namespace Py
noncomputable def kP(K:Fg)(y:Str):MZ:=match PySem.W.nsIn K mainGlobals y with
 |some (some (.ref C))=>C
 |_=>0
noncomputable def gz(K:Fg)(y:Str):Bool:=match PySem.W.nsIn K mainGlobals y with
 |some (some (.ref _))=>MW
 |_=>MX
theorem o7(h:gz K y=MW):PySem.W.nsIn K mainGlobals y=some (some (.ref (kP K y))):=by
 unfold gz at h;unfold kP;split at h
 ·rename_i C e;rw[e]
 ·cases h
noncomputable def o8(K:Fg)(C:MZ):Bool:=(PySem.W.clsIn K C).isSome&&(PySem.W.findIn K (.ref C) "__getattribute__"==some (some (.builtin "BaseException.__getattribute__"))&&(PySem.W.findIn K (.ref C) "__getattr__"==some none&&
 (PySem.W.findIn K (.ref C) "__class__"==some (some (.builtin "object.__class__"))&&(PySem.W.mroIn K C (.type "object")==some MW&&(PySem.W.mroIn K C (.type "BaseException")==some MW&&PySem.W.kitOne K (.ref C) (.type "ValueError")==some MW)))))
noncomputable def Kb(K:Fg):Rz->Bool
 | .cls x=>gz K x&&PySem.W.excIn K (kP K x) kt "ValueError.__new__"
 | .kind _ ys _=>gz K "PairError"&&(PySem.W.specialIn K (.builtin "object.__class__") "__get__"==some (some (.builtin "getset_descriptor.__get__"))&&(PySem.W.takesIn K (.builtin "object.__class__")==some MW&&(PySem.W.nsIn K mainGlobals "isinstance"==some none&&(PySem.W.nsIn K mainGlobals "ValueError"==some none&&
   ys.all λx=>gz K x&&(o8 K (kP K x)&&(PySem.W.exmOne K (.ref (kP K x)) (.ref (kP K "PairError"))==some MW&&ys.all λy=>PySem.W.kitOne K (.ref (kP K x)) (.ref (kP K y))==some (y==x)))))))
noncomputable def MO(y w:Ls):Bool:=decide (y.length<1000)&&(decide (w.length<=1000)&&y.all λx=>decide ((y.map (· ==x)).count MW=1)&&decide (w[(y.map (· ==x)).idxOf MW]?=(y.zip w).lookup x))
theorem Kc{y w:Ls}{x r:Str}(h:(y.zip w).lookup x=some r):x∈y:=(OX (Zw h)).1
section
variable {P:M5}
theorem vk(X:K.In h)(G:h.Ns mainGlobals mg){x:Str}(H:Kb K (.cls x)=MW):XC P w K mg (.cls x):=
 ⟨kP K x,PySem.W.mg_of X G (o7 (aa H).1),(aa H).2⟩
theorem o9(X:K.In h)(G:h.Ns mainGlobals mg){f e0:Str}{q:NZ}{a b c d wd v Y W:Ls}(E:Kb K (.kind f Y W)=MW)(hw:MO Y W=MW)(F:qw K f f st fa q)(j:PySem.W.nsIn K mainGlobals f=some (some (.ref fa)))
  (S:b6 N [e0] (bx st)) (A:Binds K q [e0] []) (i:cN (gm a b c d wd v) N (bY st)=bY st) (s:(kx (bY st)&&kD N Y (bx st))=MW) (g:Y=a++b++c++d) (D:W=wd++v):XC P w K mg (.kind f Y W):=by
 subst g;subst D;obtain⟨z1,m⟩:=aa E;obtain⟨z2,n⟩:=aa m;obtain⟨z3,o⟩:=aa n;obtain⟨z4,p⟩:=aa o;obtain⟨z5,e⟩:=aa p;obtain⟨w1,k⟩:=aa hw;obtain⟨w2,l⟩:=aa k;refine⟨fa,kP K "PairError",PySem.W.mg_of X G j,F.kp,PySem.W.mg_of X G (o7 z1),λx r t u C=>?_⟩;have z:=Kc t;obtain⟨U,T⟩:=aa (Zn.mp e x z);obtain⟨V,q5⟩:=aa T;obtain⟨Z,q4⟩:=aa q5;obtain⟨I,s1⟩:=aa V;obtain⟨J,s2⟩:=aa s1;obtain⟨L,s3⟩:=aa s2;obtain⟨M,s4⟩:=aa s3;obtain⟨O,s5⟩:=aa s4;obtain⟨Q,R⟩:=aa s5;obtain⟨r1,r2⟩:=aa (Zn.mp l x z);have H:=PySem.W.mg_of X G (o7 U);rw[C]at H;cases H
 refine⟨_,rfl,Nj Z,λB=>IM (bf:=λy=>y==x) F S A i (aa s).1 (aa s).2 ⟨Nj R,⟨N3.mp I,Nj J,Nj L,Nj M,Nj O,Nj Q,Nj z2,Nj z3⟩,λy g=>?_⟩
  (PySem.W.mg_none_of X G (Nj z4)) (PySem.W.mg_none_of X G (Nj z5)) (Z5 w1) (by simpa using Z5 w2) (Z5 r1) (by rw[<-t];exact Z5 r2)⟩
 exact⟨kP K y,PySem.W.mg_of X G (o7 (aa (Zn.mp e y g)).1),Nj (Zn.mp q4 y g)⟩
end
end Py
namespace K45
noncomputable def bW(i:Nat):OB:=PySem.Challenge.pw_pairwebs_k45_papers_refused.main.body.getD i (.Pass ⟨0,0,0,0⟩)
def ar(K:Fg)(x:Str)(st:OB):Prop:=∃f fd,PySem.W.nsIn K mainGlobals x=some (some (.ref f))/\qw K x x st f fd
theorem dm{x:Str}{an:Option MZ}{kV:M0}(a:PySem.W.nsIn K mainGlobals x=some (some (.ref f)))(l:K.lookup f=some ⟨oc,od,.func (PySem.W.fnOf x x (ip st) (bY st) (bx st) .none kV doc pm an cdv ct),osl⟩)
  (c:PySem.W.codeIn K cdv x=MW) (k:PySem.W.keepIn K (.ref f)=MW):ar K x st:=⟨f,_,a,su l c k⟩
noncomputable def vm(N P:Ls)(s:Scope):Bool:=(s.kind== .function)&& !s.isCoroutine&& !s.isGenerator&&iD N&&(N.take P.length==P)&&P.all (λx=>s.names.lookup x==some .local||s.names.lookup x==some .cell)&&s.names.all (λy=>y.2 !=.free)
theorem vn{P:Ls}{s:Scope}(h:vm N P s=MW):b6 N P s:=by unfold vm at h;simp only[ZN,beq_iff_eq,Zn,QC,bne_iff_ne,R7]at h;obtain⟨⟨⟨⟨⟨⟨H,a⟩,b⟩,c⟩,d⟩,e⟩,f⟩:=h;exact⟨H,a,b,t6 c,d,e,f⟩
noncomputable def RZ:List Rz:=[.cls "NoPairing",.cls "NoPlaces",.cls "NoWeb",.kind "_law_kinds" xh uD]
structure En (P:M5)(w:Nc)(K:Fg)(mg:Mg)(h:M8):Prop where
 X:K.In h
 G:h.Ns mainGlobals mg
 hg:∀x d,G0 x=some d->∃v u,mg x=some u/\RelV v u/\∀F μ H,Rep K ⟨mg,F⟩ μ H d v
 hb:∀x∈f',mg x=none
 xc:∀z∈RZ,XC P w K mg z
section
variable {P:M5}{j:Nat}
theorem fe{x:Str}{ps:Ls}(E:En P w K mg h)(d:ar K x st)
  (c:∀(kV doc pm:M0) (an:Option MZ) (cdv ct:M0) (us:Lv),us.length=ps.length->bindArgs (PySem.W.fnOf x x (ip st) (bY st) (bx st) .none kV doc pm an cdv ct) ⟨us,[]⟩=pure (ps.zip us))
  (H:∀p∈l,bv P w K mg base (bh P w) k p.1 p.2) (e:cN body N (bY st)=bY st) (S:(vm N ps (bx st)&&(eB body N (bx st).names (bY st)&&(eC body).all λz=>decide (z∈RZ)))=MW):bv P w K mg base (bh P w) (k+1) x (au (tbl l) G0 body N.length ps.length):=by
 obtain⟨f,i,a,F⟩:=d;have S:=OW.mp S;have b:=OW.mp S.2;exact MN F (vn S.1) (PySem.W.mg_of E.X E.G a) (F.binds c) (Ms H E.hg E.hb) e b.1 λz g=>E.xc z (Z5 (Zn.mp b.2 z g))
theorem an:∀p∈([]:List (Str×(List D->ae->Res D))),bv P w K mg base (bh P w) k p.1 p.2:=λp h=>(Zp h).elim
theorem ac{x:Str}(F:bv P w K mg base (bh P w) j x φ)(H:j<=k)(r:∀p∈l,bv P w K mg base (bh P w) k p.1 p.2):∀p∈(x,φ)::l,bv P w K mg base (bh P w) k p.1 p.2:=λp a=>by
 rcases Zf.mp a with rfl|h
 ·exact F.mono H
 ·exact r p h
end
structure Df (K:Fg):Prop where
 d_is_number:ar K "is_number" (bW 18)
 d_is_number_from:ar K "is_number_from" (bW 19)
 d_is_place:ar K "is_place" (bW 20)
 d_is_rising:ar K "is_rising" (bW 21)
 d_are_places:ar K "are_places" (bW 22)
 d_are_unlike:ar K "are_unlike" (bW 23)
 d_is_tie:ar K "is_tie" (bW 24)
 d_is_web:ar K "is_web" (bW 25)
 d_is_some:ar K "is_some" (bW 26)
 d_are_ties:ar K "are_ties" (bW 27)
 d_must_be_web:ar K "must_be_web" (bW 28)
 d_must_be_some:ar K "must_be_some" (bW 29)
 d_tie_of:ar K "tie_of" (bW 30)
 d_have_tie:ar K "have_tie" (bW 31)
 d_piece_of:ar K "piece_of" (bW 32)
 d_pieces_without:ar K "pieces_without" (bW 33)
 d_is_pairing:ar K "is_pairing" (bW 35)
 d_must_be_pairing:ar K "must_be_pairing" (bW 36)
 d_mate_of:ar K "mate_of" (bW 37)
 d_all_pairings:ar K "all_pairings" (bW 38)
 d_greatest:ar K "greatest" (bW 40)
 d_first_greatest:ar K "first_greatest" (bW 41)
 d_most:ar K "most" (bW 42)
 d_odd_left:ar K "odd_left" (bW 44)
 d_bound:ar K "bound" (bW 45)
 d_is_paper:ar K "is_paper" (bW 46)
 d_all_some:ar K "all_some" (bW 47)
 d_all_papers:ar K "all_papers" (bW 48)
 d_paper_for:ar K "paper_for" (bW 49)
 d_bar:ar K "bar" (bW 50)
 d_law_cell:ar K "_law_cell" (bW 53)
 d_law_pen:ar K "_law_pen" (bW 54)
 d_law_draw:ar K "_law_draw" (bW 55)
 d_law_pairs:ar K "_law_pairs" (bW 56)
 d_law_web:ar K "_law_web" (bW 57)
 d_law_some:ar K "_law_some" (bW 58)
 d_law_bent_web:ar K "_law_bent_web" (bW 59)
 d_law_whole:ar K "_law_whole" (bW 60)
 d_law_is_web:ar K "_law_is_web" (bW 61)
 d_law_no_web:ar K "_law_no_web" (bW 62)
 d_law_bent_places:ar K "_law_bent_places" (bW 63)
 d_law_are_places:ar K "_law_are_places" (bW 64)
 d_law_no_places:ar K "_law_no_places" (bW 65)
 d_law_came:ar K "_law_came" (bW 66)
 d_law:ar K "law" (bW 67)
 d_law_kinds:ar K "_law_kinds" (bW 52)
section
variable {P:M5}(E9:En P w K mg h)(D9:Df K)
include E9 D9
theorem Kd:bv P w K mg base (bh P w) 1 "is_number" gr:=fe (ps:=["thing"]) E9 D9.d_is_number (λ_ _ _ _ _ _=>cj λ_=>rfl) an rfl (by decide+kernel)
theorem CL:bv P w K mg base (bh P w) 2 "is_number_from" gu:=fe (ps:=["thing","low","high"]) E9 D9.d_is_number_from (λ_ _ _ _ _ _=>g_ λ_ _ _=>rfl) (ac (Kd E9 D9) (by decide) an) rfl (by decide+kernel)
theorem Ke:bv P w K mg base (bh P w) 3 "is_place" kE:=fe (ps:=["many","thing"]) E9 D9.d_is_place (λ_ _ _ _ _ _=>bZ λ_ _=>rfl) (ac (CL E9 D9) (by decide) an) rfl (by decide+kernel)
theorem o_:bv P w K mg base (bh P w) 1 "is_rising" b9:=fe (ps:=["things"]) E9 D9.d_is_rising (λ_ _ _ _ _ _=>cj λ_=>rfl) an rfl (by decide+kernel)
theorem CM:bv P w K mg base (bh P w) 4 "are_places" c_:=fe (ps:=["many","thing"]) E9 D9.d_are_places (λ_ _ _ _ _ _=>bZ λ_ _=>rfl) (ac (Ke E9 D9) (by decide) an) rfl (by decide+kernel)
theorem Kf:bv P w K mg base (bh P w) 1 "are_unlike" oz:=fe (ps:=["things"]) E9 D9.d_are_unlike (λ_ _ _ _ _ _=>cj λ_=>rfl) an rfl (by decide+kernel)
theorem CN:bv P w K mg base (bh P w) 5 "is_tie" eD:=fe (ps:=["many","thing"]) E9 D9.d_is_tie (λ_ _ _ _ _ _=>bZ λ_ _=>rfl) (ac (CM E9 D9) (by decide) (ac (o_ E9 D9) (by decide) an)) rfl (by decide+kernel)
theorem Kg:bv P w K mg base (bh P w) 6 "is_web" db:=fe (ps:=["thing"]) E9 D9.d_is_web (λ_ _ _ _ _ _=>cj λ_=>rfl) (ac (o_ E9 D9) (by decide) (ac (CL E9 D9) (by decide) (ac (CN E9 D9) (by decide) an))) rfl (by decide+kernel)
theorem CO:bv P w K mg base (bh P w) 5 "is_some" ea:=fe (ps:=["web","thing"]) E9 D9.d_is_some (λ_ _ _ _ _ _=>bZ λ_ _=>rfl) (ac (CM E9 D9) (by decide) (ac (o_ E9 D9) (by decide) an)) rfl (by decide+kernel)
theorem Kh:bv P w K mg base (bh P w) 6 "are_ties" oD:=fe (ps:=["web","thing"]) E9 D9.d_are_ties (λ_ _ _ _ _ _=>bZ λ_ _=>rfl) (ac (o_ E9 D9) (by decide) (ac (CN E9 D9) (by decide) an)) rfl (by decide+kernel)
theorem pc:bv P w K mg base (bh P w) 7 "must_be_web" cY:=fe (ps:=["thing"]) E9 D9.d_must_be_web (λ_ _ _ _ _ _=>cj λ_=>rfl) (ac (Kg E9 D9) (by decide) an) rfl (by decide+kernel)
theorem Ki:bv P w K mg base (bh P w) 6 "must_be_some" kF:=fe (ps:=["web","thing"]) E9 D9.d_must_be_some (λ_ _ _ _ _ _=>bZ λ_ _=>rfl) (ac (CO E9 D9) (by decide) an) rfl (by decide+kernel)
theorem Kj:bv P w K mg base (bh P w) 1 "tie_of" oE:=fe (ps:=["one","other"]) E9 D9.d_tie_of (λ_ _ _ _ _ _=>bZ λ_ _=>rfl) an rfl (by decide+kernel)
theorem Kk:bv P w K mg base (bh P w) 2 "have_tie" oF:=fe (ps:=["web","one","other"]) E9 D9.d_have_tie (λ_ _ _ _ _ _=>g_ λ_ _ _=>rfl) (ac (Kj E9 D9) (by decide) an) rfl (by decide+kernel)
theorem Kl:bv P w K mg base (bh P w) 3 "piece_of" kH:=fe (ps:=["web","left","start"]) E9 D9.d_piece_of (λ_ _ _ _ _ _=>g_ λ_ _ _=>rfl) (ac (Kk E9 D9) (by decide) an) rfl (by decide+kernel)
theorem Km:bv P w K mg base (bh P w) 8 "pieces_without" fL:=fe (ps:=["web","some"]) E9 D9.d_pieces_without (λ_ _ _ _ _ _=>bZ λ_ _=>rfl) (ac (pc E9 D9) (by decide) (ac (Ki E9 D9) (by decide) (ac (Kl E9 D9) (by decide) an))) rfl (by decide+kernel)
theorem Ko:bv P w K mg base (bh P w) 8 "is_pairing" kI:=fe (ps:=["web","thing"]) E9 D9.d_is_pairing (λ_ _ _ _ _ _=>bZ λ_ _=>rfl) (ac (pc E9 D9) (by decide) (ac (Kh E9 D9) (by decide) (ac (Kf E9 D9) (by decide) an))) rfl (by decide+kernel)
theorem Kp:bv P w K mg base (bh P w) 9 "must_be_pairing" eF:=fe (ps:=["web","thing"]) E9 D9.d_must_be_pairing (λ_ _ _ _ _ _=>bZ λ_ _=>rfl) (ac (Ko E9 D9) (by decide) an) rfl (by decide+kernel)
theorem Kq:bv P w K mg base (bh P w) 1 "mate_of" Cb:=fe (ps:=["pairing","place"]) E9 D9.d_mate_of (λ_ _ _ _ _ _=>bZ λ_ _=>rfl) an rfl (by decide+kernel)
theorem Kr:bv P w K mg base (bh P w) 8 "all_pairings" oI:=fe (ps:=["web"]) E9 D9.d_all_pairings (λ_ _ _ _ _ _=>cj λ_=>rfl) (ac (pc E9 D9) (by decide) (ac (Kq E9 D9) (by decide) an)) rfl (by decide+kernel)
theorem Ks:bv P w K mg base (bh P w) 9 "greatest" oJ:=fe (ps:=["web"]) E9 D9.d_greatest (λ_ _ _ _ _ _=>cj λ_=>rfl) (ac (Kr E9 D9) (by decide) an) rfl (by decide+kernel)
theorem Kt:bv P w K mg base (bh P w) 10 "first_greatest" oM:=fe (ps:=["web"]) E9 D9.d_first_greatest (λ_ _ _ _ _ _=>cj λ_=>rfl) (ac (Ks E9 D9) (by decide) an) rfl (by decide+kernel)
theorem pd:bv P w K mg base (bh P w) 11 "most" kM:=fe (ps:=["web"]) E9 D9.d_most (λ_ _ _ _ _ _=>cj λ_=>rfl) (ac (Kt E9 D9) (by decide) an) rfl (by decide+kernel)
theorem vo:bv P w K mg base (bh P w) 9 "odd_left" fM:=fe (ps:=["web","some"]) E9 D9.d_odd_left (λ_ _ _ _ _ _=>bZ λ_ _=>rfl) (ac (Km E9 D9) (by decide) an) rfl (by decide+kernel)
theorem vq:bv P w K mg base (bh P w) 10 "bound" eY:=fe (ps:=["web","some"]) E9 D9.d_bound (λ_ _ _ _ _ _=>bZ λ_ _=>rfl) (ac (vo E9 D9) (by decide) an) rfl (by decide+kernel)
theorem Ku:bv P w K mg base (bh P w) 11 "is_paper" gv:=fe (ps:=["web","pairing","thing"]) E9 D9.d_is_paper (λ_ _ _ _ _ _=>g_ λ_ _ _=>rfl) (ac (Kp E9 D9) (by decide) (ac (CO E9 D9) (by decide) (ac (vq E9 D9) (by decide) an))) rfl (by decide+kernel)
theorem CP:bv P w K mg base (bh P w) 1 "all_some" uT:=fe (ps:=["web"]) E9 D9.d_all_some (λ_ _ _ _ _ _=>cj λ_=>rfl) an rfl (by decide+kernel)
theorem CQ:bv P w K mg base (bh P w) 12 "all_papers" iW:=fe (ps:=["web"]) E9 D9.d_all_papers (λ_ _ _ _ _ _=>cj λ_=>rfl) (ac (pd E9 D9) (by decide) (ac (CP E9 D9) (by decide) (ac (vq E9 D9) (by decide) an))) rfl (by decide+kernel)
theorem Kv:bv P w K mg base (bh P w) 13 "paper_for" oQ:=fe (ps:=["web"]) E9 D9.d_paper_for (λ_ _ _ _ _ _=>cj λ_=>rfl) (ac (CQ E9 D9) (by decide) an) rfl (by decide+kernel)
theorem vr:bv P w K mg base (bh P w) 10 "bar" ie:=fe (ps:=["web"]) E9 D9.d_bar (λ_ _ _ _ _ _=>cj λ_=>rfl) (ac (pc E9 D9) (by decide) (ac (CP E9 D9) (by decide) (ac (vo E9 D9) (by decide) an))) rfl (by decide+kernel)
theorem CU:bv P w K mg base (bh P w) 1 "_law_cell" iX:=fe (ps:=["_law_script","_law_k"]) E9 D9.d_law_cell (λ_ _ _ _ _ _=>bZ λ_ _=>rfl) an rfl (by decide+kernel)
theorem CV:bv P w K mg base (bh P w) 1 "_law_pen" iY:=fe (ps:=["_law_cell_here"]) E9 D9.d_law_pen (λ_ _ _ _ _ _=>cj λ_=>rfl) an rfl (by decide+kernel)
theorem i6:bv P w K mg base (bh P w) 1 "_law_draw" b3:=fe (ps:=["_law_pen_here","_law_many"]) E9 D9.d_law_draw (λ_ _ _ _ _ _=>bZ λ_ _=>rfl) an rfl (by decide+kernel)
theorem Kw:bv P w K mg base (bh P w) 1 "_law_pairs" oR:=fe (ps:=["_law_many"]) E9 D9.d_law_pairs (λ_ _ _ _ _ _=>cj λ_=>rfl) an rfl (by decide+kernel)
theorem CW:bv P w K mg base (bh P w) 2 "_law_web" i3:=fe (ps:=["_law_pen_here","_law_upto"]) E9 D9.d_law_web (λ_ _ _ _ _ _=>bZ λ_ _=>rfl) (ac (i6 E9 D9) (by decide) (ac (Kw E9 D9) (by decide) an)) rfl (by decide+kernel)
theorem CY:bv P w K mg base (bh P w) 2 "_law_some" hG:=fe (ps:=["_law_pen_here","_law_many"]) E9 D9.d_law_some (λ_ _ _ _ _ _=>bZ λ_ _=>rfl) (ac (i6 E9 D9) (by decide) an) rfl (by decide+kernel)
theorem Kx:bv P w K mg base (bh P w) 2 "_law_bent_web" hH:=fe (ps:=["_law_pen_here","_law_web_here"]) E9 D9.d_law_bent_web (λ_ _ _ _ _ _=>bZ λ_ _=>rfl) (ac (i6 E9 D9) (by decide) an) rfl (by decide+kernel)
theorem CZ:bv P w K mg base (bh P w) 1 "_law_whole" gw:=fe (ps:=["_law_found"]) E9 D9.d_law_whole (λ_ _ _ _ _ _=>cj λ_=>rfl) an rfl (by decide+kernel)
theorem Ky:bv P w K mg base (bh P w) 2 "_law_is_web" eZ:=fe (ps:=["_law_thing"]) E9 D9.d_law_is_web (λ_ _ _ _ _ _=>cj λ_=>rfl) (ac (CZ E9 D9) (by decide) an) rfl (by decide+kernel)
theorem C0:bv P w K mg base (bh P w) 3 "_law_no_web" i4:=fe (ps:=["_law_pen_here","_law_web_here"]) E9 D9.d_law_no_web (λ_ _ _ _ _ _=>bZ λ_ _=>rfl) (ac (Kx E9 D9) (by decide) (ac (Ky E9 D9) (by decide) an)) rfl (by decide+kernel)
theorem Kz:bv P w K mg base (bh P w) 2 "_law_bent_places" o5:=fe (ps:=["_law_pen_here","_law_many","_law_some_here"]) E9 D9.d_law_bent_places (λ_ _ _ _ _ _=>g_ λ_ _ _=>rfl) (ac (i6 E9 D9) (by decide) an) rfl (by decide+kernel)
theorem KA:bv P w K mg base (bh P w) 2 "_law_are_places" i5:=fe (ps:=["_law_many","_law_thing"]) E9 D9.d_law_are_places (λ_ _ _ _ _ _=>bZ λ_ _=>rfl) (ac (CZ E9 D9) (by decide) an) rfl (by decide+kernel)
theorem C1:bv P w K mg base (bh P w) 3 "_law_no_places" kN:=fe (ps:=["_law_pen_here","_law_many","_law_some_here"]) E9 D9.d_law_no_places (λ_ _ _ _ _ _=>g_ λ_ _ _=>rfl) (ac (Kz E9 D9) (by decide) (ac (KA E9 D9) (by decide) an)) rfl (by decide+kernel)
theorem C2:bv P w K mg base (bh P w) 14 "_law_came" eG:=fe (ps:=["_law_way","_law_web_here","_law_thing"]) E9 D9.d_law_came (λ_ _ _ _ _ _=>g_ λ_ _ _=>rfl) (ac (vo E9 D9) (by decide) (ac (vq E9 D9) (by decide) (ac (Ku E9 D9) (by decide) (ac (CQ E9 D9) (by decide) (ac (Kv E9 D9) (by decide) (ac (vr E9 D9) (by decide) an)))))) rfl (by decide+kernel)
theorem KC:bv P w K mg base (bh P w) 15 "law" kO:=fe (ps:=["_law_script"]) E9 D9.d_law (λ_ _ _ _ _ _=>cj λ_=>rfl) (ac (CV E9 D9) (by decide) (ac (CW E9 D9) (by decide) (ac (CY E9 D9) (by decide) (ac (CU E9 D9) (by decide) (ac (C0 E9 D9) (by decide) (ac (C1 E9 D9) (by decide) (ac (C2 E9 D9) (by decide) (ac (i6 E9 D9) (by decide) an)))))))) rfl (by decide+kernel)
end
noncomputable def ii(K:Fg):Sp:=λvs H Q _=>∃(a:MZ) (ns:Li),vs=[.ref a]/\l6 H/\cQ K H a (ns.map V.int)/\ns.length<=63/\∀H',Q (.bl MW) H'
def Good(f:List D->ae->Res D):Prop:=∀ns:Li,ns.length<=63->∃S',f [.scr (ns.map D.int)] []=.ok (.bl MW) S'
theorem C3{K:Fg}{m:GS}{μ:La}{H:Hp}:∀ns:Li,ah K m μ H (ns.map D.int) (ns.map V.int)
 | []=>.nil
 |n::ns=>.cons bC (C3 ns)
theorem C4{f:List D->ae->Res D}(g:Good f):∀vs H Q E,ii K vs H Q E->sY K mg 1 f vs H Q E:=by
 rintro vs H Q E ⟨a,N,rfl,i,j,d,q⟩;refine⟨rfl,[],[],[],[.scr (N.map D.int)],⟨λa h=>(by cases h),rfl,PY,λn a l h=>(by cases h)⟩,.cons ?_ .nil,?_⟩
 ·unfold Rep;refine⟨a,N.map V.int,rfl,?_,C3 N⟩;rcases j with(h| ⟨o,h⟩)|h
  ·rcases i a with z| ⟨o,X,z⟩<;>rw[z]at h<;>cases h
  ·exact .inl ⟨o,h⟩
  ·exact .inr h
 ·obtain⟨S,e⟩:=g N d;rw[e];intro k c b x s r;unfold Rep at r;rw[r];exact q c
theorem vt{l:PySem.W.OpenLaw}(X:K.In h)(G:h.Ns mainGlobals mg)(m:mg "law"=some (.ref fa))(good:Good kO)(D:Df K)(Z:∀x∈f',PySem.W.nsIn K mainGlobals x=some none)
  {j:Tok} (M:PySem.W.nsIn K mainGlobals "MOST_PLACES"=some (some (.int 8 j))) (y:RZ.all (Kb K)=MW):
  ∃fd:NZ,(∀(s:MY) (v:M0),Q7 s fd ⟨[v],[]⟩ [("_law_script",v)])/\∀base:M8,K.In base->base.Ns mainGlobals mg->cR l.prog w K mg base (bh l.prog w) 15 fa fd ["_law_script"] (ii K):=by
 have p:∀x d,G0 x=some d->∃v u,mg x=some u/\RelV v u/\∀F B H,Rep K ⟨mg,F⟩ B H d v:=λx d e=>by
  unfold G0 at e;rw[Sa]at e;split at e
  ·rename_i n;cases e;have o:x="MOST_PLACES":=by simpa using n
   subst o;exact⟨.int 8,_,PySem.W.mg_of X G M,⟨_,rfl⟩,λ_ _ _=>bC⟩
  cases e
 have r:=Zn.mp y
 have A:∀z∈RZ,XC l.prog w K mg z:=λz g=>by
  have i:=r z g;simp only[RZ,Zf,Sk,Z0]at g;rcases g with rfl|rfl|rfl|rfl
  ·exact vk X G i
  ·exact vk X G i
  ·exact vk X G i
  ·obtain⟨f,fd,a,F⟩:=D.d_law_kinds;exact o9 (e0:="_law_e") (N:=["_law_e","_law_found","_law_words"]) (a:=["NoWeb","NoPlace","NoPlaces","NoTie"]) (b:=["NoNumber","NoPairing","NoWay","NoRing"]) (c:=["NoArrows","NoSides","NoText","NoLine"]) (d:=["NoDeed","TooGreat"]) (wd:=["web","place","places","tie","number","pairing","way","ring","arrows","sides","text","line"]) (v:=["deed","great"]) X G i (by decide+kernel) F a (vn (by decide+kernel)) (F.binds λ_ _ _ _ _ _=>cj λ_=>rfl) rfl (by decide+kernel) rfl rfl
 have E:En l.prog w K mg h:=⟨X,G,p,λx n=>PySem.W.mg_none_of X G (Z x n),A⟩;obtain⟨f,fd,a,F⟩:=D.d_law;have e:=m.symm.trans (PySem.W.mg_of X G a);cases e;have S:b6 ig ["_law_script"] (bx (bW 67)):=vn (by decide+kernel);refine⟨fd,λs v=>?_,λbase _ _=>?_⟩
 ·obtain⟨L,P,kV,q,Q,an,C,I,O,rfl,lk,t⟩:=F.ex;exact .of_eq rfl
 ·exact cR.imp (BI (k:=14) F S (Ms (ac (CV E D) (by decide) (ac (CW E D) (by decide) (ac (CY E D) (by decide) (ac (CU E D) (by decide) (ac (C0 E D) (by decide) (ac (C1 E D) (by decide) (ac (C2 E D) (by decide) (ac (i6 E D) (by decide) an)))))))) p E.hb) rfl (by decide+kernel) λz g=>E.xc z (Z5 (Zn.mp (by decide+kernel:((eC gx).all λz=>decide (z∈RZ))=MW) z g))) (C4 good)
mutual
theorem C5{k:Nat}:∀(d:D),aY 0 d=MW->aY k d=MW
 | .non,_=>rfl
 | .bl _,_=>rfl
 | .int _,_=>rfl
 | .str _,_=>rfl
 | .tup _,h=>by exact hI _ h
 | .lst _,h=>by exact hI _ h
 | .scr _,h=>by exact hI _ h
 | .ref n,h=>by dsimp only[aY]at h;simp at h
 | .fn y,_=>rfl
 | .ty y,_=>rfl
 | .dct,_=>rfl
 | .dks _,_=>rfl
theorem hI{k:Nat}:∀(ds:List D),bb 0 ds=MW->bb k ds=MW
 | [],_=>rfl
 |d::ds,h=>by dsimp only[bb]at h⊢;simp at h⊢;exact⟨C5 d h.1,hI _ h.2⟩
end
def Flat(S:ae):Prop:=∀xs∈S,bb 0 xs=MW
theorem Flat.all(h:Flat S):S.all (bb k)=MW:=Zn.mpr λx H=>hI _ (h _ H)
theorem Flat.nil:Flat []:=λ_ h=>by cases h
theorem Flat.snoc(h:Flat S)(a:bb 0 xs=MW):Flat (S++[xs]):=λy H=>by
 rcases ZE.mp H with z|z
 ·exact h _ z
 simp_all
theorem Flat.set(h:Flat S)(a:bb 0 xs=MW):Flat (S.set n xs):=λy H=>by
 rcases List.mem_or_eq_of_mem_set H with z|z
 ·exact h _ z
 simp_all
theorem vv(h:Flat (S'.take k))(H:aY 0 d=MW):cX k d S'=.ok d (S'.take k):=by unfold cX;rw[if_pos h.all,if_pos (C5 d H)]
theorem KD(h:Flat S)(H:aY 0 d=MW):cX S.length d S=.ok d S:=by rw[vv (by simp_all) H,Pr]
theorem vx(a:S.length=k)(h:Flat S)(H:aY 0 d=MW):cX k d S=.ok d S:=by subst a;exact KD h H
theorem vy{step:D->List D->ae->Res (List D)}{S:ae}(g:D->Option D):∀(xs acc:List D),(∀x∈xs,∀acc,acc.length<bB->step x acc S=.ok (acc++(g x).toList) S)->acc.length+xs.length<=bB->aG step xs acc S=.ok (acc++xs.filterMap g) S
 | [],acc,_,_=>by simp[aG]
 |x::xs,acc,h,H=>by simp at H;simp[aG];rw[h x Ze _ (by lia)];unfold Res.bind;dsimp;rw[vy g _ _ (λy a=>h y (Zb _ a)) (by grind)];cases e:g x<;>simp[e]
theorem KG{l:List α}{f:α->Option Bool}(h:∀x∈l,f x=some MW):a8 (l.map f)=some MW:=by
 induction l with
 |nil=>rfl
 |cons x l i=>unfold a8;simp_all
theorem allO_map{l:List α}{f:α->Bool}:a8 (l.map λx=>some (f x))=some (l.all f):=by
 induction l with
 |nil=>rfl
 |cons x l i=>unfold a8;simp_all
theorem vz{l:List α}{f:α->Bool}:fY (l.map λx=>some (f x))=some (l.any f):=by unfold fY;rw[ZL];have e:(λo=>o.map not)∘(λx=>some _)=λx=>some !f x:=rfl;rw[e,allO_map];simp[List.not_all_eq_any_not]
noncomputable def ay(t:Int×Int):D:=.tup [.int t.1,.int t.2]
noncomputable def ag(ts:Lq):List D:=ts.map ay
noncomputable def ao(m:Int)(ts:Lq):D:=.tup [.int m,.tup (ag ts)]
theorem E1(t:Int×Int):aY 0 (ay t)=MW:=rfl
theorem i7:∀(ts:Lq),bb 0 (ag ts)=MW
 | []=>rfl
 |t::ts=>by show(aY 0 _&&bb 0 (ag _))=MW;rw[i7 _];rfl
theorem gA:∀(ns:Li),bb 0 (ns.map D.int)=MW
 | []=>rfl
 |t::T=>by show(aY 0 _&&bb 0 _)=MW;rw[gA _];rfl
theorem pf(m:Int)(ts:Lq):aY 0 (ao m ts)=MW:=by show(MW&&(bb 0 _&&MW))=MW;rw[i7];rfl
def aC(a b:Int×Int):Prop:=a.1<b.1\/(a.1=b.1/\a.2<b.2)
instance (a b:Int×Int):Decidable (aC a b):=by unfold aC;exact inferInstance
theorem C6(S:ae)(n:Nat)(a b:Int):cb S (n+1) (.int a) (.int b)=some (a==b):=rfl
theorem C7(S:ae)(n:Nat)(a b:Int×Int):cb S (n+2) (ay a) (ay b)=some (decide (a=b)):=by
 have e:cb S (n+2) (ay a) (ay b)=some _:=rfl;simp_all
 grind
theorem C8(S:ae)(n:Nat)(a b:Int×Int):ji S (n+2) (ay a) (ay b)=some (decide (aC a b)):=by
 have e:ji S (n+2) (ay a) (ay b)=match cb S _ _ _ with
  |some MW=>(match cb S _ _ _ with
   |some MW=>some _
   |some MX=>some _
   |none=>none)
  |some MX=>some _
  |none=>none:=rfl
 simp only[e,C6];unfold aC
 grind
theorem C9(S:ae)(t:Int×Int)(ts:Lq):iw (ay t) (.tup (ag ts)) S=some (decide (t∈ts)):=by
 have e:iw (ay t) (.tup (ag ts)) S=fY _:=rfl;rw[e];unfold ag;rw[ZL];have E:(λy=>cb S bG y (ay t))∘ay=λu=>some (decide (u=t)):=by funext u;exact C7 S 38 u t
 rw[E,vz]
 grind
def aP(S:ae)(n:Nat):Prop:=∃a b,S[n]?=some [.int a,.int b]
theorem aP.set{m:Nat}{a b:Int}(h:aP S n):aP (S.set m [.int a,.int b]) n:=by
 obtain⟨x,y,h⟩:=h;by_cases e:m=n
 ·subst e;have H:=(Zl.mp h).1;exact⟨a,b,by rw[Z4 H]⟩
 ·exact⟨x,y,by rw[NE e];exact h⟩
theorem pg(o:Flat S)(c:aP S n)(H:0<m)(h1:m<1000):∃r a b,0<=r/\r<m/\b3 [.ref n,.int m] S=.ok (.int r) (S.set n [.int a,.int b]):=by
 obtain⟨a,b,h⟩:=c;have j:=(Zl.mp h).1;have F:∀x y:Int,Flat (S.set n [.int x,.int y]):=λx y=>o.set rfl;have t:∀(r x y:Int),cX S.length (.int r) (S.set n [.int x,.int y])=.ok (.int r) (S.set n [.int x,.int y]):=λr x y=>vx (by simp) (F x y) rfl;by_cases d:b=1
 ·subst d;refine⟨a%m,a/m,1,QL _ (by omega),Ql _ H,?_⟩;rw[<-t];have q:m<1073741824:=by omega
  simp[b3,au,uY,uX,af,ap,am,aj,ai,Res.bind,Res.noErr,aH,bP,av,h,gL,hX,aF,a',cb,sh,w4,bG,fE,iv,fj,iy,H,q]
 ·have e:(b==1)=MX:=by simpa using d
  have f:0<=(a%2147483629*48271+11)%2147483629:=QL _ (by omega);have g:(a%2147483629*48271+11)%2147483629<2147483629:=Ql _ (by omega)
  have E:∀p:Int,(a%2147483629*48271+11)%2147483629=p->b3 [.ref n,.int m] S=.ok (.int ((p*p+40692*p)%2147483647/8%m)) (S.set n [.int p,.int b]):=λp c=>by
   rw[c]at f g;have k: -(18446744073709551616:Int)<p:=by omega
   have l:p<(18446744073709551616:Int):=by omega
   have s:∀x,(S.set n x)[n]?=some x:=λx=>Z4 j;have i:∀x y:List D,(S.set n x).set n y=S.set n y:=λx y=>List.set_set ..;clear j;rw[<-t];simp[b3,au,uY,uX,af,ap,am,aj,ai,Res.bind,Res.noErr,aH,bP,av,h,gL,hX,aF,a',cb,sh,w4,bG,fE,iv,fj,l8,fD,iy,H,e,d,s,i,c,k,l]
  exact⟨_,_,b,QL _ (show m≠0 by omega),Ql _ H,E _ rfl⟩
structure dD (m:Int)(ts:Lq):Prop where
 lo:1<=m
 hi:m<=8
 ris:ts.Pairwise aC
 tie:∀t∈ts,0<=t.1/\t.1<t.2/\t.2<m
 few:ts.length<=28
structure fO (ts ps:Lq):Prop where
 ris:ps.Pairwise aC
 sub:∀t∈ps,t∈ts
 un:(ps.flatMap λt=>[t.1,t.2]).Nodup
theorem aQ(c:ds.length=np)(h:af Φ Γ body (ds.map some++M3 (n-np) none) S=.ok (.ret d) S')(b:S'.length=S.length)(a:Flat S')(H:aY 0 d=MW):au Φ Γ body n np ds S=.ok d S':=by unfold au;rw[if_pos c,h];exact vx b a H
theorem run_next(b:ds.length=np)(h:af Φ Γ body (ds.map some++M3 (n-np) none) S=.ok (.next ρ) S')(a:S'.length=S.length)(H:Flat S'):au Φ Γ body n np ds S=.ok .non S':=by unfold au;rw[if_pos b,h];exact vx a H rfl
theorem KH(h:Flat S)(i:Int):gr [.int i] S=.ok (.bl MW) S:=aQ rfl rfl rfl h rfl
theorem vA(h:Flat S)(i l H:Int):gu [.int i,.int l,.int H] S=.ok (.bl (decide (l<=i/\i<=H))) S:=by refine aQ rfl ?_ rfl h rfl;simp[ov,af,ap,aj,ai,Res.bind,Res.noErr,aH,uE,KH h,aF,ES];lia
theorem C_(h:Flat S)(m i:Int):kE [.int m,.int i] S=.ok (.bl (decide (0<=i/\i<m))) S:=by refine aQ rfl ?_ rfl h rfl;have e:(i<=m-1)=(i<m):=propext (by lia);simp[ox,af,ap,aj,ai,Res.bind,Res.noErr,BK,vA h,fE,iu,e]
theorem ph{step:D->List D->ae->Res (List D)}(h:∀x∈xs,∀acc,acc.length<bB->step x acc S=.ok (acc++[.bl MW]) S)(b:xs.length<=bB):aG step xs [] S=.ok (xs.map λ_=>D.bl MW) S:=by rw[vy (λ_=>some _) _ _ (λx a acc H=>h x a _ H) (by simp_all)];simp
theorem pi:ix [.lst (xs.map λ_=>D.bl MW)] S=.ok (.bl MW) S:=by unfold ix;simp only[av,ZL,show a8 (xs.map (eP∘λx=>D.bl _))=some _ from KG λx h=>rfl];rfl
theorem C'(xs:List D):a9 xs (some 1) none=xs.drop 1:=by
 unfold a9;have e:HT.cc xs.length 0 (some 1)=min 1 _:=rfl;have E:HT.cc xs.length _ none=xs.length:=rfl;rw[e,E];cases xs with
 |nil=>rfl
 |cons x r=>simp
theorem vB(b:Flat S)(d:xs.length<=1000)(h:∀(i:Nat) x y,xs[i]?=some x->xs[i+1]?=some y->ji S bG x y=some MW):b9 [.tup xs] S=.ok (.bl MW) S:=by
 refine aQ rfl ?_ rfl b rfl;have a:et S (.tup xs) (.tup (xs.drop 1))=some (.items (M1 (λx y=>.tup [x,y]) xs (xs.drop 1))):=rfl;simp[uH,uG,af,ap,am,aj,ai,aW,Res.bind,Res.noErr,aH,mm,cS,hY,bg];simp only[C' xs,a,bK];rw[ph]
 ·simp only[Res.noErr,pi]
 ·intro z a A c;obtain⟨i,H⟩:=Rq.mp a;rw[Rr]at H;cases e:xs[i]? with
  |none=>rw[e]at H;cases H
  |some x=>
   cases E:(xs.drop 1)[i]? with
   |none=>rw[e,E]at H;cases H
   |some y=>rw[e,E]at H;cases H;rw[RS,Nat.add_comm]at E;simp[bd,bu,slots,cE,aL,bt,aM,bq,aj,Res.bind,aF,h i x y e E,a',Res.noErr];unfold bB at c;omega
 ·simp;unfold bB;omega
theorem Dc(H:Flat S)(g:ns.length<=1000)(h:∀n∈ns,0<=n/\n<m):c_ [.int m,.tup (ns.map D.int)] S=.ok (.bl MW) S:=by
 refine aQ rfl ?_ rfl H rfl;have d:fG [.tup (ns.map D.int),.ty "tuple"] S=.ok (.bl MW) S:=rfl;simp[oy,BL,af,ap,am,aj,ai,aW,Res.bind,Res.noErr,aH,bg,d,dr];simp only[bK];rw[ph]
 ·simp only[Res.noErr];rw[pi]
 ·intro z f A b;obtain⟨n,e,rfl⟩:=Zo.mp f;have a:=C_ H m n;have c:decide (0<=n/\n<m)=MW:=ZK (h n e);rw[c]at a;simp[bd,bu,slots,cE,aL,bt,aM,bq,aj,ai,Res.bind,I_,a,Res.noErr];unfold bB at b;omega
 ·simp;unfold bB;omega
theorem Dd(H:Flat S){t:Int×Int}(h:0<=t.1/\t.1<t.2/\t.2<m):eD [.int m,ay t] S=.ok (.bl MW) S:=by
 refine aQ rfl ?_ rfl H rfl;have a:c_ [.int m,ay t] S=.ok _ S:=Dc H (ns:=[t.1,t.2]) (by simp) (by grind)
 have b:b9 [ay t] S=.ok _ S:=vB H (by simp) (by
  intro i x y e E;have f:i=0:=by grind
  subst f;simp at e E;subst e;subst E;show some _=some _;simp_all)
 have c:bg .len [ay t] S=.ok _ S:=rfl;have d:aF .Eq (.int 2) (.int 2) S=.ok _ S:=rfl;simp[iU,af,ap,aj,ai,Res.bind,Res.noErr,aH,oB,BN,a,b,c,d]
theorem De{i:Nat}{x:D}(h:(ag ts)[i]?=some x):∃t,ts[i]?=some t/\x=ay t:=by
 simp[ag]at h
 grind
theorem Dg(H:Flat S)(a:ts.length<=1000)(h:ts.Pairwise aC):b9 [.tup (ag ts)] S=.ok (.bl MW) S:=
 vB H (by simp[ag];omega) λi x y e E=>by obtain⟨t,f,rfl⟩:=De e;obtain⟨u,F,rfl⟩:=De E;rw[show ji S bG (ay t) (ay u)=some (decide (aC t u))from C8 S 38 t u];obtain⟨g,rfl⟩:=Zl.mp f;obtain⟨G,rfl⟩:=Zl.mp F;rw[ZK (Nw.mp h i (i+1) g G (by simp))]
theorem KI(h:Flat S)(W:dD m ts):db [ao m ts] S=.ok (.bl MW) S:=by
 have l:=W.few;refine aQ rfl ?_ rfl h rfl;have b:fG [ao m ts,.ty "tuple"] S=.ok (.bl MW) S:=rfl;have c:dM [ao m ts] S=.ok (.int 2) S:=rfl;have d:aF .NotEq (.int 2) (.int 2) S=.ok (.bl MX) S:=rfl;have H:=vA h m 1 8;rw[ZK (⟨W.lo,W.hi⟩:1<=m/\m<=8)]at H;have e:fG [.tup (ag ts),.ty "tuple"] S=.ok (.bl MW) S:=rfl;have a:=Dg h (show ts.length<=1000 by omega) W.ris;have f:G0 "MOST_PLACES"=some (.int 8):=rfl;have g:aL (.tup [.var 1,.var 2]) (ao m ts) [some (ao m ts),none,none]=some _:=rfl;simp[iV,BO,af,ap,am,aj,ai,aW,Res.bind,Res.noErr,aH,bg,b,c,d,BQ,BR,BS,H,e,bH,a,f,g,dr,BP,Jc,xi];simp only[bK];rw[ph]
 ·simp only[Res.noErr,pi];simp[a]
 ·intro z k A i;obtain⟨t,j,rfl⟩:=Zo.mp k;simp[bd,bu,slots,cE,aL,bt,aM,bq,aj,ai,Res.bind,BS,Dd h (W.tie t j),Res.noErr];unfold bB at i;omega
 ·unfold ag bB;simp;omega
theorem vC(h:Flat S)(W:dD m ts):cY [ao m ts] S=.ok .non S:=by refine run_next (ρ:=[some (ao m ts)]) rfl ?_ rfl h;simp[uM,BV,af,ap,am,aj,ai,Res.bind,BX,KI h W,bH]
theorem Dh{b:Type}{f e:b->D}{p:b->Bool}{step:D->List D->ae->Res (List D)}{S:ae}:∀(xs:List b) (acc:List D),(∀x∈xs,∀acc,acc.length<bB->step (f x) acc S=.ok (if p x=MW then acc++[e x]else acc) S)->acc.length+xs.length<=bB->aG step (xs.map f) acc S=.ok (acc++(xs.filter p).map e) S
 | [],acc,_,_=>by simp[aG]
 |x::xs,acc,h,c=>by
  simp[aG];unfold Res.bind;have i:=λa=>Dh _ a λy H=>h y (Zb _ H)
  grind
theorem kQ{f e:α->D}{p:α->Bool}{step:D->List D->ae->Res (List D)}{xs:List α}(h:∀x∈xs,∀acc,acc.length<bB->step (f x) acc S=.ok (if p x=MW then acc++[e x]else acc) S)(H:xs.length<=bB):aG step (xs.map f) [] S=.ok ((xs.filter p).map e) S:=by rw[Dh xs [] h (by simpa using H)];simp
theorem b5{c:CS}{cs:List CS}(h:ap Φ Γ c ρ S=.ok (.next ρ') S'):af Φ Γ (c::cs) ρ S=af Φ Γ cs ρ' S':=by rw[af,h];rfl
theorem b_{c:CS}{cs:List CS}(h:ap Φ Γ c ρ S=.ok (.ret d) S'):af Φ Γ (c::cs) ρ S=.ok (.ret d) S':=by rw[af,h];rfl
theorem vD{t:CT}{it:CE}{its:iA}(h:aW Φ Γ it ρ S=.ok its S1):ap Φ Γ (.for_ t it body) ρ S=mG (λx ρ S=>match aL t x ρ with
   |some ρ'=>af Φ Γ body ρ' S
   |none=>.fail) its ρ S1:=by
 rw[ap,h];rfl
theorem bJ{i:Nat}{e:CE}{cs:List CS}(h:aj Φ Γ e ρ S=.ok d S'):af Φ Γ (.asg i e::cs) ρ S=af Φ Γ cs (ρ.set i (some d)) S':=
 b5 (by rw[ap,h];rfl)
noncomputable def bi(l:Int):Nat->Li
 |0=>[]
 |n+1=>l::bi (l+1) n
theorem vE(l:Int)(n:Nat):dZ l n=(bi l n).map D.int:=by
 induction n generalizing l with
 |zero=>rfl
 |succ n i=>unfold dZ bi;rw[i];rfl
theorem vF{x:Int}:x∈bi lo n->lo<=x/\x<lo+n:=by
 induction n generalizing lo with
 |zero=>intro h;cases h
 |succ n i=>
  intro h;dsimp[bi]at h
  grind
theorem fP:(bi lo n).length=n:=by
 induction n generalizing lo with
 |zero=>rfl
 |succ n i=>unfold bi;simp[i]
theorem Di{a:Type}{f:a->D}{g:a->List D}{c:Nat}{step:D->List D->ae->Res (List D)}{S:ae}(H:∀x,(g x).length<=c):∀(xs:List a) (acc:List D),(∀x∈xs,∀acc,acc.length+c<=bB->step (f x) acc S=.ok (acc++g x) S)->acc.length+c*xs.length<=bB->aG step (xs.map f) acc S=.ok (acc++xs.flatMap g) S
 | [],acc,_,_=>by simp[aG]
 |x::xs,acc,h,b=>by dsimp only[ZC,Nat.mul_one]at b;simp[aG];rw[h x Ze acc (by lia)];unfold Res.bind;dsimp only;rw[Di H xs _ (λy d=>h y (Zb _ d)) (by grind)];simp
theorem Dj:∀(ns acc:Li),(acc++ns).Nodup->ns.foldl P1 acc=acc++ns
 | [],acc,_=>by simp
 |n::ns,acc,h=>by
  simp;have H:acc.any (· ==n)=MX:=by grind
  have e:P1 acc n=acc++[n]:=by unfold P1;rw[H];rfl
  rw[e,Dj _ _ (by simp_all),NH];rfl
theorem KJ(d:Flat S)(g:ns.length<1000)(h:ns.Nodup):oz [.lst (ns.map D.int)] S=.ok (.bl MW) S:=by
 refine aQ rfl ?_ rfl d rfl
 have H:mF (.lst (ns.map D.int)) S=.ok (.int ns.length) S:=by
  have e:(ns.map D.int).all (aq .int)=MW:=by rw[Zn];intro x f;obtain⟨n,_,rfl⟩:=Zo.mp f;rfl
  have E:(ns.map D.int).filterMap bD=ns:=by rw[RM];exact List.filterMap_some
  have a:d9 ns=ns:=by unfold d9;have:=Dj ns [] (by exact h);exact this
  show(if(ns.map D.int).all (aq .int)=MW/\(ns.map D.int).length<1000 then Res.ok (D.int ((d9 ((ns.map D.int).filterMap bD)).length:Nat)) S else _)=_;rw[if_pos ⟨e,by simp_all⟩,E,a]
 have b:dM [.lst (ns.map D.int)] S=.ok (.int ns.length) S:=by simp[dM,av]
 have c:aF .Eq (.int ns.length) (.int ns.length) S=.ok (.bl MW) S:=by have:aF .Eq (.int ns.length) (.int ns.length) S=.ok (.bl ((ns.length:Int)==ns.length)) S:=rfl;simp_all
 simp[BM,af,ap,aj,ai,Res.bind,Res.noErr,bg,H,b,c]
noncomputable def eH(ps:Lq):Li:=ps.flatMap λt=>[t.1,t.2]
theorem KL(ps:Lq):ps.flatMap (λt=>[D.int t.1,D.int t.2])=(eH ps).map D.int:=by unfold eH;rw[List.map_flatMap];rfl
theorem KN(ps:Lq):(eH ps).length=2*ps.length:=by
 simp[eH]
 induction ps with
 |nil=>rfl
 |cons t T i=>grind
theorem KO(a:Flat S)(W:dD m ts)(P:fO ts ps)(g:ps.length<=100):oD [ao m ts,.tup (ag ps)] S=.ok (.bl MW) S:=by
 refine aQ rfl ?_ rfl a rfl;have c:bP (ao m ts) (.int 0) S=.ok (.int m) S:=rfl;have H:bP (ao m ts) (.int 1) S=.ok (.tup (ag ts)) S:=rfl;refine(b5 (S':=S) (rfl)).trans ?_;refine b_ ?_;simp[ap,aj,ai,aW,Res.bind,Res.noErr,aH,bg,dr,bK];rw[ph]
 ·simp only[Res.noErr,pi];simp[Jf,Dg a (show ps.length<=1000 by omega) P.ris]
 ·intro z e A d;obtain⟨t,b,rfl⟩:=Zo.mp e;have h:=C9 S t ts;rw[ZK (P.sub t b)]at h;simp[bd,bu,slots,cE,aL,bt,aM,bq,aj,ai,Res.bind,Jg,Dd a (W.tie t (P.sub t b)),Res.noErr,c,H,aF,h,a',aH,d]
 ·unfold ag bB;simp;omega
theorem KP(h:Flat S)(W:dD m ts)(P:fO ts ps)(d:ps.length<=100):kI [ao m ts,.tup (ag ps)] S=.ok (.bl MW) S:=by
 refine aQ rfl ?_ rfl h rfl;have j:=KJ h (ns:=eH ps) (by rw[KN];omega) P.un;refine(b5 (ρ':=[some (ao m ts),some (.tup (ag ps))]) (S':=S) (by simp[B6,ap,aj,ai,Res.bind,B8,vC h W])).trans ?_;refine b_ ?_;simp[ap,aj,ai,aW,Res.bind,Res.noErr,aH,Jn,Jo,KO h W P d,dr,bK];unfold ag;rw[Di (g:=λt=>[.int t.1,.int t.2]) (c:=2) (λx=>by simp)]
 ·rw[KL];simp_all
 ·intro t k a H;have b:a.length+2<=16777216:=H;have e:dr S (ay t)=some _:=rfl;simp[(rfl),bd,bu,slots,aL,aM,bq,aj,aW,Res.bind,e,bK,aG,show a.length<16777216 by omega,show a.length+1<16777216 by omega]
 grind
theorem KQ(h:Flat S)(W:dD m ts)(P:fO ts ps)(H:ps.length<=100):eF [ao m ts,.tup (ag ps)] S=.ok .non S:=by refine run_next (ρ:=[some (ao m ts),some (.tup (ag ps))]) rfl ?_ rfl h;simp[uQ,B9,af,ap,am,aj,ai,Res.bind,Ca,KP h W P H,bH]
noncomputable def insI(x:Int×Int):Lq->Lq
 | []=>[x]
 |y::ys=>if aC x y then x::y::ys else y::insI x ys
noncomputable def sortI(l:Lq):Lq:=l.foldl (λacc x=>insI x acc) []
theorem pj(a b:Int×Int):bL (.seq .int) (ay a) (ay b)=decide (aC a b):=by
 have e:bL (.seq .int) (ay a) (ay b)=(if decide (a.1<b.1)=MW then MW else if decide (b.1<a.1)=MW then MX else if decide (a.2<b.2)=MW then MW else if decide (b.2<a.2)=MW then MX else MX):=rfl;rw[e];simp;by_cases h:aC a b
 ·rw[ZK h];unfold aC at h;lia
 ·rw[ZD h];simp[aC]at h
  grind
theorem Dk(x:Int×Int):∀l:Lq,cF (bL (.seq .int)) (ay x) (ag l)=ag (insI x l)
 | []=>rfl
 |y::Y=>by
  show(if bL _ _ _=MW then ay x::ay y::ag _ else ay y::cF _ _ (ag _))=ag _;have e:insI x (y::Y)=if aC x y then x::y::Y else y::insI x _:=rfl;rw[pj,Dk x _,e];by_cases h:aC x y
  ·rw[ZK h,if_pos h];rfl
  ·rw[ZD h,if_neg h];rfl
theorem Dl:∀(l acc:Lq),(ag l).foldl (λacc x=>cF (bL (.seq .int)) x acc) (ag acc)=ag (l.foldl (λacc x=>insI x acc) acc)
 | [],acc=>rfl
 |x::l,acc=>by show(ag l).foldl _ (cF _ _ _)=_;rw[Dk,Dl l];rfl
theorem Dm(l:Lq):d8 (bL (.seq .int)) (ag l)=ag (sortI l):=Dl l []
theorem po(x:Int×Int):∀l,(insI x l).Perm (x::l)
 | []=>.refl _
 |y::Y=>by
  unfold insI;split
  ·exact .refl _
  ·exact((po x _).cons y).trans (.swap x y _)
theorem Dq:∀(l acc:Lq),(l.foldl (λacc x=>insI x acc) acc).Perm (l++acc)
 | [],acc=>.refl _
 |x::l,acc=>by exact(Dq l _).trans (((po x _).append_left l).trans Ob)
theorem vG(l:Lq):(sortI l).Perm l:=by have:=Dq l [];rw[ZY]at this;exact this
theorem lex_tot{x y:Int×Int}(h:¬aC x y)(n:x≠y):aC y x:=by
 unfold aC at h⊢
 grind
theorem Dr{x y z:Int×Int}(a:aC x y)(b:aC y z):aC x z:=by unfold aC at*;lia
theorem Ds(x:Int×Int):∀l,l.Pairwise aC->x∉l->(insI x l).Pairwise aC
 | [],_,_=>Q6 _ _
 |y::Y,h,n=>by
  obtain⟨a,b⟩:=Zv.mp h;unfold insI;by_cases e:aC x y
  ·rw[if_pos e];refine Zv.mpr ⟨λz H=>?_,h⟩;rcases Zf.mp H with rfl|H
   ·exact e
   ·exact Dr e (a z H)
  ·rw[if_neg e];refine Zv.mpr ⟨λz H=>?_,Ds x Y b λz=>n (Zb _ z)⟩;rcases Zf.mp ((po x Y).mem_iff.mp H)with rfl|H
   ·exact lex_tot e λz=>n (by simp[*];done)
   ·exact a z H
theorem Dt:∀(l acc:Lq),acc.Pairwise aC->(l++acc).Nodup->(l.foldl (λacc x=>insI x acc) acc).Pairwise aC
 | [],acc,h,_=>h
 |x::l,acc,h,n=>by have N:=n;obtain⟨a,b⟩:=NK.mp N;exact Dt l _ (Ds x _ h λz=>a (Zt _ z)) ((((po x _).append_left l).trans Ob).nodup_iff.mpr N)
theorem Du{l:Lq}(h:l.Nodup):(sortI l).Pairwise aC:=Dt l _ .nil (by simp_all)
theorem KR{l:Lq}(H:av S d=some (ag l))(b:l.length<64):gX MX (.seq .int) [d] S=.ok (.lst (ag (sortI l))) S:=by
 have e:(ag l).all (aq (.seq .int))=MW:=by rw[Zn];intro x h;obtain⟨t,_,rfl⟩:=Zo.mp h;rfl
 have E:f7 (.seq .int) (ag l)=MW:=by
  have:((ag l).all λd=> !fk d)=MW:=by rw[Zn];intro x h;obtain⟨t,_,rfl⟩:=Zo.mp h;rfl
  show(MW&&((ag l).all λd=> !fk d))=MW;rw[this];rfl
 have a:(ag l).length<64:=by unfold ag;rw[Zk];omega
 unfold gX;simp only[H];rw[if_pos ⟨e,a,E⟩,Dm];rfl
theorem vH{l:Lq}(h1:1<=m)(h:m<=8)(a:l.Nodup)(c:∀t∈l,0<=t.1/\t.1<t.2/\t.2<m)(H:l.length<=28):dD m (sortI l):=
 ⟨h1,h,Du a,λt b=>c t ((vG l).mem_iff.mp b),by rw[(vG l).length_eq];exact H⟩
noncomputable def i8(m:Nat):Lq:=(bi 0 m).flatMap λi=>(bi (i+1) (m-1-i.toNat)).map λj=>(i,j)
theorem qV(h1:1<=m)(h:m<=8):m=1\/m=2\/m=3\/m=4\/m=5\/m=6\/m=7\/m=8:=by lia
theorem KS(h1:1<=m)(h:m<=8):af Cz G0 Cy ([D.int m].map some++M3 (Cw.length-1) none) S=.ok (.ret (.lst (ag (i8 m.toNat)))) S:=by rcases qV h1 h with rfl|rfl|rfl|rfl|rfl|rfl|rfl|rfl<;>rfl
theorem Dv(H:Flat S)(h1:1<=m)(h:m<=8):oR [.int m] S=.ok (.lst (ag (i8 m.toNat))) S:=
 aQ rfl (KS h1 h) rfl H (i7 _)
theorem KU(h1:1<=m)(h:m<=8):dD m (i8 m.toNat):=by rcases qV h1 h with rfl|rfl|rfl|rfl|rfl|rfl|rfl|rfl<;>exact⟨by omega,by omega,by decide+kernel,by decide+kernel,by decide+kernel⟩
theorem Dw{u:Lq}(W:dD m ts)(h:u.Sublist ts):dD m u:=
 ⟨W.lo,W.hi,W.ris.sublist h,λt H=>W.tie t (h.subset H),Zy h.length_le W.few⟩
def Drawn(n:Nat)(S S':ae):Prop:=∃a b:Int,S'=S.set n [.int a,.int b]
theorem Drawn.refl(h:aP S n):Drawn n S S:=by obtain⟨a,b,h⟩:=h;obtain⟨H,e⟩:=Zl.mp h;exact⟨a,b,by rw[<-e,List.set_getElem_self]⟩
theorem Drawn.trans(a:Drawn n S S1)(b:Drawn n S1 S2):Drawn n S S2:=by obtain⟨x,y,rfl⟩:=a;obtain⟨z,w,rfl⟩:=b;exact⟨z,w,by rw[List.set_set]⟩
theorem Drawn.flat(h:Drawn n S S')(H:Flat S):Flat S':=by obtain⟨a,b,rfl⟩:=h;exact H.set rfl
theorem Drawn.pen(h:Drawn n S S')(H:aP S n):aP S' n:=by obtain⟨a,b,rfl⟩:=h;exact H.set
theorem Drawn.len(h:Drawn n S S'):S'.length=S.length:=by obtain⟨a,b,rfl⟩:=h;simp
theorem dF(H:Flat S)(c:aP S n)(h:0<m)(h1:m<1000):∃r S',0<=r/\r<m/\Drawn n S S'/\b3 [.ref n,.int m] S=.ok (.int r) S':=by obtain⟨r,a,b,x,y,e⟩:=pg H c h h1;exact⟨r,_,x,y,⟨a,b,rfl⟩,e⟩
theorem vI{n:Nat}{step:D->List D->ae->Res (List D)}{f:Int×Int->D}:∀(ts:Lq) (acc:List D) (S:ae),Flat S->aP S n->acc.length+ts.length<=1000->
  (∀t∈ts,∀acc S,Flat S->aP S n->acc.length<=1000->∃k S',Drawn n S S'/\step (f t) acc S=.ok (if k=MW then acc++[f t]else acc) S')->
  ∃(us:Lq) (S':ae),us.Sublist ts/\Drawn n S S'/\aG step (ts.map f) acc S=.ok (acc++us.map f) S'
 | [],acc,S,b,H,_,_=>⟨[],S,.slnil,.refl H,by simp[aG]⟩
 |t::ts,acc,S,b,H,g,h=>by
  simp only[ZC]at g;obtain⟨k,a,d1,E⟩:=h t Ze acc S b H (by lia);rw[ZZ];unfold aG;rw[E];cases k with
  |true=>obtain⟨us,c,s2,d2,e⟩:=vI ts (acc++[f t]) a (d1.flat b) (d1.pen H) (by grind) λu d=>h u (Zb _ d);exact⟨t::us,c,s2.cons_cons t,d1.trans d2,by show aG step (ts.map f) (acc++[f t]) a=_;simp_all⟩
  |false=>obtain⟨us,c,s2,d2,e⟩:=vI ts acc a (d1.flat b) (d1.pen H) (by lia) λu d=>h u (Zb _ d);exact⟨us,c,s2.cons t,d1.trans d2,by show aG step (ts.map f) acc a=_;rw[e]⟩
theorem Dx{n:Nat}{step:D->List D->ae->Res (List D)}:∀(k:Nat) (lo:Int) (acc:List D) (S:ae),1<=lo->lo+k<=100->Flat S->aP S n->acc.length+k<=1000->
  (∀p:Int,1<=p->p<100->∀acc S,Flat S->aP S n->acc.length<=1000->∃r S',0<=r/\r<p/\Drawn n S S'/\step (.int p) acc S=.ok (acc++[ay (r,p)]) S')->
  ∃(us:Lq) (S':ae),us.map (·.2)=bi lo k/\(∀t∈us,0<=t.1/\t.1<t.2/\lo<=t.2/\t.2<lo+k)/\Drawn n S S'/\aG step ((bi lo k).map D.int) acc S=.ok (acc++ag us) S'
 |0,lo,acc,S,_,_,a,H,_,_=>⟨[],S,rfl,λt h=>(by cases h),.refl H,by simp[aG,bi,ag]⟩
 |k+1,lo,acc,S,f,g,a,H,i,h=>by
  obtain⟨r,c,R,j,d1,e⟩:=h lo f (by omega) acc S a H (by omega);obtain⟨us,d,s2,v,d2,E⟩:=Dx k (lo+1) (acc++[ay (r,lo)]) c (by omega) (by omega) (d1.flat a) (d1.pen H) (by simp;omega) h;refine⟨(r,lo)::us,d,?_,λt b=>?_,d1.trans d2,?_⟩
  ·simp_all;rfl
  ·rcases Zf.mp b with rfl|b
   ·dsimp only;omega
   ·have:=v t b;omega
  ·show aG step (D.int lo::(bi (lo+1) k).map D.int) acc S=_;unfold aG;rw[e];show aG step _ (acc++[ay (r,lo)]) c=_;rw[E];simp[ag]
theorem Dy:(bi lo n).Nodup:=by
 induction n generalizing lo with
 |zero=>exact PY
 |succ n i=>refine NK.mpr ⟨λh=>?_,i⟩;have:=vF h;omega
theorem hJ{c:CE}{a b:List CS}{k:Bool}(h:am Φ Γ c ρ S=.ok k S1):ap Φ Γ (.ite c a b) ρ S=if k=MW then af Φ Γ a ρ S1 else af Φ Γ b ρ S1:=by rw[ap,h];rfl
theorem fQ{tg:CT}{it:CE}{i:List CE}{body:CE}{a:ae}{its:iA}(h:aW Φ Γ it ρ S=.ok its S1)
  (H:bK (λx acc S2=>match bd tg x (fr.map λj=>j.bind λj=>(ρ[j]?).join)with
    |some ρ'=>(aM Φ Γ i ρ' S2).bind λk S3=>if k=MW then bq Φ Γ body ρ' acc S3 else .ok acc S3
    |none=>.fail) its [] S1=.ok ys a):aj Φ Γ (.comp MX N fr tg it i body) ρ S=.ok (.lst ys) a:=by
 rw[aj,h];exact Eq.trans (ZU (λr=>Res.bind (Res.noErr r) (λys a=>if MX=MW then Res.ok (D.ref a.length) (a++[ys])else Res.ok (.lst ys) a)) H) rfl
section
variable {S3:ae}{d2 r x y:D}{e a b:CE}
theorem al{i:Nat}(h:ρ[i]?=some (some d)):aj Φ Γ (.var i) ρ S=.ok d S:=by rw[aj,h]
theorem i9{k:jj}(h:aj Φ Γ e ρ S=.ok d S1)(H:bg k [d] S1=.ok r S2):aj Φ Γ (.blt k [e]) ρ S=.ok r S2:=by simp[aj,ai,h,Res.bind,H,Res.noErr]
theorem Dz(h1:aj Φ Γ a ρ S=.ok x S1)(h:aj Φ Γ b ρ S1=.ok y S2):aj Φ Γ (.tup [a,b]) ρ S=.ok (.tup [x,y]) S2:=by simp[aj,ai,h1,h,Res.bind]
theorem KW{f:Str}(H:Φ f=some φ)(h1:aj Φ Γ a ρ S=.ok x S1)(h:φ [x] S1=.ok r S2):aj Φ Γ (.call f [a]) ρ S=.ok r S2:=by simp[aj,ai,H,h1,h,Res.bind]
theorem gB{f:Str}(c:Φ f=some φ)(h1:aj Φ Γ a ρ S=.ok x S1)(H:aj Φ Γ b ρ S1=.ok y S2)(h:φ [x,y] S2=.ok r S3):aj Φ Γ (.call f [a,b]) ρ S=.ok r S3:=by simp[aj,ai,c,h1,H,h,Res.bind]
theorem eI(h:aj Φ Γ e ρ S=.ok d S1):ap Φ Γ (.ret e) ρ S=.ok (.ret d) S1:=by rw[ap,h];rfl
end
theorem i_{w k j:Int}(a:ρ[2]?=some (some (.int m)))(b:ρ[3]?=some (some (.int w))):am Φ Γ (.band (.cmp .Eq (.var 3) (.lit (.int k))) (.cmp .Gt (.var 2) (.lit (.int j)))) ρ S=.ok (decide (w=k/\j<m)) S:=by
 have e:aF .Eq (.int w) (.int k) S=.ok (.bl (w==k)) S:=rfl;have E:aF .Gt (.int m) (.int j) S=.ok (.bl (decide (j<m))) S:=rfl;by_cases h:w=k
 ·subst h;have H:(w==w)=MW:=by simp
  rw[H]at e;simp[am,aj,Res.bind,Res.noErr,aH,a,b,e,E]
 ·have H:(w==k)=MX:=by simpa using h
  rw[H]at e;simp[am,aj,Res.bind,Res.noErr,aH,a,b,e,E,h]
theorem DA{w k:Int}(h:ρ[3]?=some (some (.int w))):am Φ Γ (.cmp .Eq (.var 3) (.lit (.int k))) ρ S=.ok (decide (w=k)) S:=by have e:aF .Eq (.int w) (.int k) S=.ok (.bl (w==k)) S:=rfl;have E:(w==k)=decide (w=k):=rfl;simp[am,aj,Res.bind,Res.noErr,aH,h,e,E]
theorem pp{c:CE}{a:List CS}{cs:List CS}{P:Prop} [Decidable P] (h:am Φ Γ c ρ S=.ok (decide P) S)(H:¬P):af Φ Γ (.ite c a []::cs) ρ S=af Φ Γ cs ρ S:=
 b5 (by rw[hJ h,ZD H,if_neg NA,af])
theorem pr{c:CE}{a:List CS}{cs:List CS}{P:Prop} [Decidable P] (h:am Φ Γ c ρ S=.ok (decide P) S)(b:P)(H:af Φ Γ a ρ S=.ok (.ret d) S'):af Φ Γ (.ite c a []::cs) ρ S=.ok (.ret d) S':=
 b_ (by rw[hJ h,ZK b,if_pos rfl,H])
theorem KY{r:Int}(h:0<=r)(h1:r<12):∃v,0<=v/\v<8/\bP (.lst [.int 0,.int 0,.int 1,.int 0,.int 2,.int 1,.int 3,.int 4,.int 5,.int 6,.int 7,.int 0]) (.int r) S=.ok (.int v) S:=by
 have:r=0\/r=1\/r=2\/r=3\/r=4\/r=5\/r=6\/r=7\/r=8\/r=9\/r=10\/r=11:=by lia
 rcases this with rfl|rfl|rfl|rfl|rfl|rfl|rfl|rfl|rfl|rfl|rfl|rfl<;>exact⟨_,by simp,by simp,rfl⟩
theorem KZ{r:Int}(h:0<=r)(h1:r<5):∃v:Int,bP (.lst [.int 2,.int 3,.int 4,.int 6,.int 8]) (.int r) S=.ok (.int v) S:=by
 have:r=0\/r=1\/r=2\/r=3\/r=4:=by lia
 rcases this with rfl|rfl|rfl|rfl|rfl<;>exact⟨_,rfl⟩
noncomputable def DB(m:Nat):Lq:=(bi 0 (m-1)).map (λk=>(k,k+1))++[(0,(m:Int)-1)]
noncomputable def vJ(m:Nat):Lq:=[(0,1),(0,2),(1,2)]++((bi 3 (m-4)).map (λk=>(k,k+1))++[(3,(m:Int)-1),(2,3)])
theorem vK(C:Flat S)(E:aP S n):∃m ts S',dD m ts/\Drawn n S S'/\i3 [.ref n,.int 8] S=.ok (ao m ts) S':=by
 suffices h:∃m ts S',dD m ts/\Drawn n S S'/\af ec G0 uZ [some (.ref n),some (.int 8),none,none,none,none,none] S=.ok (.ret (ao m ts)) S' by obtain⟨m,ts,S',W,d,e⟩:=h;exact⟨m,ts,S',W,d,aQ rfl e d.len (d.flat C) (pf m ts)⟩
 obtain⟨r,U,R,N,d1,e1⟩:=dF C E (m:=12) (by decide) (by decide);have G:=d1.flat C;have I:=d1.pen E;obtain⟨v,v0,v1,ev⟩:=KY (S:=U) R N;obtain⟨w,b,w0,w1,d2,e2⟩:=dF G I (m:=9) (by decide) (by decide);have H:=d2.flat G;have j:=d2.pen I;have D:=d1.trans d2;have hm:∃m:Int,1<=m/\m<=8/\1+8-1-v%8=m:=⟨8-v,by omega,by omega,by omega⟩;obtain⟨m,M,L,em⟩:=hm;unfold uZ
 rw[bJ (d:=.int m) (S':=U) (by simp[aj,ai,Res.bind,Res.noErr,iZ,e1,ev,fE,fD,iu,iv];omega)];rw[bJ (d:=.int w) (S':=b) (by simp[aj,ai,Res.bind,Res.noErr,iZ,e2])];simp only[NW,NX];by_cases Y:w=0/\2<m
 ·refine⟨m,sortI (DB m.toNat),b,?_,D,?_⟩
  ·have:m=3\/m=4\/m=5\/m=6\/m=7\/m=8:=by omega
   rcases this with rfl|rfl|rfl|rfl|rfl|rfl<;>exact vH (by decide) (by decide) (by decide+kernel) (by decide+kernel) (by decide+kernel)
  ·refine pr (i_ rfl rfl) Y ?_;have:m=3\/m=4\/m=5\/m=6\/m=7\/m=8:=by omega
   rcases this with rfl|rfl|rfl|rfl|rfl|rfl<;>rfl
 rw[pp (i_ rfl rfl) Y];by_cases Z:w=1/\5<m
 ·refine⟨m,sortI (vJ m.toNat),b,?_,D,?_⟩
  ·have:m=6\/m=7\/m=8:=by omega
   rcases this with rfl|rfl|rfl<;>exact vH (by decide) (by decide) (by decide+kernel) (by decide+kernel) (by decide+kernel)
  ·refine pr (i_ rfl rfl) Z ?_;have:m=6\/m=7\/m=8:=by omega
   rcases this with rfl|rfl|rfl<;>rfl
 rw[pp (i_ rfl rfl) Z];have s:=KU M L;by_cases c3:w=2/\2<m
 ·obtain⟨q,a,q0,q1,B,F⟩:=dF H j (m:=2) (by decide) (by decide);have i:=B.flat H;refine⟨m,(i8 m.toNat).filter (λt=>decide (t.1<1+q/\1+q<=t.2)),a,Dw s Nt,D.trans B,?_⟩;refine pr (i_ rfl rfl) c3 ?_;rw[bJ (d:=.int (1+q)) (S':=a) (by simp[aj,ai,Res.bind,Res.noErr,iZ,F,fE,fD])];refine b_ ?_;simp[ap,aj,ai,aW,Res.bind,Res.noErr,aH,bg,bK,CA,Dv i M L,dr];unfold ag;rw[kQ (f:=ay) (e:=ay) (p:=λt=>decide (t.1<1+q/\1+q<=t.2))]
  ·simp[Res.noErr,mf,av,ao,ag]
  ·intro t T A O;have c:A.length<16777216:=O;have x0:bP (ay t) (.int 0) a=.ok (.int t.1) a:=rfl;have x1:bP (ay t) (.int 1) a=.ok (.int t.2) a:=rfl;have X:aF .Lt (.int t.1) (.int (1+q)) a=.ok (.bl (decide (t.1<1+q))) a:=rfl;have x3:aF .LtE (.int (1+q)) (.int t.2) a=.ok (.bl (decide (1+q<=t.2))) a:=rfl;by_cases y1:t.1<1+q<;>by_cases y2:1+q<=t.2<;>simp[bd,bu,slots,cE,aL,bt,aM,am,bq,aj,Res.bind,Res.noErr,aH,x0,x1,X,x3,y1,y2,c]
  ·have:=s.few;unfold bB;omega
 rw[pp (i_ rfl rfl) c3];by_cases c4:w=3
 ·obtain⟨u,a,s3,v3,B,F⟩:=Dx (n:=n) (step:=λx A b=>match bd (.var 0) x [none,some (.ref n)]with
    |some g=>(aM ec G0 [] g b).bind λk a=>if k=MW then bq ec G0 (.emit (.tup [.call "_law_draw" [.var 1,.var 0],.var 0])) g A a else .ok A a
    |none=>.fail) (m-1).toNat 1 [] b (by decide) (by omega) H j (by simp;omega) (λp p0 p1 A S C E O=>by
     obtain⟨r,S',R,N,d,e⟩:=dF C E (m:=p) (by omega) (by omega);refine⟨r,S',R,N,d,?_⟩;have c:A.length<16777216:=by omega
     simp[bd,bu,slots,cE,aL,bt,aM,bq,aj,ai,Res.bind,iZ,e,ay,c])
  have hl:u.length=(m-1).toNat:=by have:=ZU N4 s3;simpa[fP]using this
  have hn:u.Nodup:=by
   have h:(u.map (·.2)).Nodup:=by rw[s3];exact Dy
   exact(Nr.mp h).imp λz e=>z (by rw[e])
  refine⟨m,sortI u,a,vH M L hn (λt T=>by have:=v3 t T;omega) (by omega),D.trans B,?_⟩;refine pr (DA rfl) c4 (b_ ?_);have K:aW ec G0 (.range [.lit (.int 1),.var 2]) [some (.ref n),some (.int 8),some (.int m),some (.int w),none,none,none] b=.ok (.items (dZ 1 (m-1).toNat)) b:=by simp[aW,ai,aj,Res.bind];omega
  have P:aj ec G0 (.comp MX ["_law_place","_law_pen_here"] [none,some 0] (.var 0) (.range [.lit (.int 1),.var 2]) [] (.emit (.tup [.call "_law_draw" [.var 1,.var 0],.var 0]))) [some (.ref n),some (.int 8),some (.int m),some (.int w),none,none,none] b=.ok (.lst (ag u)) a:=by rw[vE]at K;exact fQ K F
  have J:=KR (S:=a) (d:=.lst (ag u)) (l:=u) rfl (by omega);exact eI (Dz (al rfl) (i9 (i9 P J) rfl))
 rw[pp (DA rfl) c4];obtain⟨q,a,q0,q1,B,F⟩:=dF H j (m:=5) (by decide) (by decide);have i:=B.flat H;have Q:=B.pen j;obtain⟨o,eo⟩:=KZ (S:=a) q0 q1;rw[bJ (d:=.int o) (S':=a) (by simp[aj,ai,Res.bind,Res.noErr,iZ,F,eo])];simp only[NW,NX]
 obtain⟨u,V,s4,d4,e4⟩:=vI (n:=n) (f:=ay) (step:=λx A b=>match bd (.var 0) x [none,some (.ref n),some (.int o)]with
    |some g=>(aM ec G0 [.cmp .Lt (.call "_law_draw" [.var 1,.lit (.int 8)]) (.var 2)] g b).bind λk a=>if k=MW then bq ec G0 (.emit (.var 0)) g A a else .ok A a
    |none=>.fail) (i8 m.toNat) [] a i Q (by have:=s.few;simp;omega) (λt T A S C E O=>by
     obtain⟨r,S',R,N,d,e⟩:=dF C E (m:=8) (by decide) (by decide);refine⟨decide (r<o),S',d,?_⟩;have X:aF .Lt (.int r) (.int o) S'=.ok (.bl (decide (r<o))) S':=rfl;have c:A.length<16777216:=by omega
     by_cases y:r<o<;>simp[bd,bu,slots,cE,aL,bt,aM,am,bq,aj,ai,Res.bind,Res.noErr,aH,iZ,e,X,y,c])
 refine⟨m,u,V,Dw s s4,(D.trans B).trans d4,b_ ?_⟩
 have P:aj ec G0 (.comp MX ["_law_tie","_law_pen_here","_law_often"] [none,some 0,some 6] (.var 0) (.seq (.call "_law_pairs" [.var 2])) [.cmp .Lt (.call "_law_draw" [.var 1,.lit (.int 8)]) (.var 2)] (.emit (.var 0))) [some (.ref n),some (.int 8),some (.int m),some (.int w),none,none,some (.int o)] a=.ok (.lst (ag u)) V:=by
  have K:aW ec G0 (.seq (.call "_law_pairs" [.var 2])) [some (.ref n),some (.int 8),some (.int m),some (.int w),none,none,some (.int o)] a=.ok (.items ((i8 m.toNat).map ay)) a:=by simp[aW,ai,aj,Res.bind,CA,Dv i M L,dr,ag]
  exact fQ K e4
 exact eI (Dz (al rfl) (i9 P rfl))
section
variable {A B:List D}
theorem vL:(S++[A,B])[S.length]?=some A:=by rw[Zz (Zg _)];simp
theorem vM:(S++[A,B])[S.length+1]?=some B:=by simp_all
theorem K0{X:List D}:(S++[A,B]).set S.length X=S++[X,B]:=by simp_all
theorem DC{X:List D}:(S++[A,B]).set (S.length+1) X=S++[A,X]:=by simp_all
theorem DD(h:Flat S)(H:bb 0 A=MW)(a:bb 0 B=MW):Flat (S++[A,B]):=by have:=(h.snoc H).snoc a;simp_all
end
theorem DE{step:D->List D->ae->Res (List D)}{S:ae}{k:Nat}{xs:List D}(a:S[k]?=some xs)(hs:∀x∈xs,∀acc,acc.length<bB->step x acc S=.ok (acc++[.bl MW]) S\/step x acc S=.ok (acc++[.bl MX]) S):
  ∀(f i:Nat) (acc:List D),xs.length<f+i->i<=xs.length->bo step (cq k) f i acc S=aG step (xs.drop i) acc S\/bB<=acc.length+(xs.length-i)
 |0,i,acc,H,b=>absurd H (by omega)
 |f+1,i,acc,H,b=>by
  unfold bo;have d:cq k S i=some xs[i]? :=by unfold cq;rw[a];rfl
  rw[d];by_cases h:i<xs.length
  ·rw[Zh h,OA h];by_cases c:acc.length<bB
   ·dsimp only;unfold aG;rcases hs xs[i] (OS h) acc c with e|e<;>rw[e]<;>dsimp only[Res.bind]
    all_goals
     rcases DE a hs f (i+1) (acc++[_]) (by omega) (by omega)with z|z
     ·exact .inl z
     ·right;simp at z;omega
   ·right;omega
  ·rw[PL (by omega),Pz (by omega)];exact .inl rfl
noncomputable def Kn(d:D):Prop:=(∃i,d=.int i)\/(∃b,d=.bl b)\/(∃x,d=.str x)\/d=.non\/(∃xs,d=.tup xs)\/∃xs,d=.lst xs
noncomputable def gN:D->Bool
 | .int _=>MW
 |_=>MX
noncomputable def gC(m:Int):D->Bool
 | .int i=>decide (0<=i/\i<m)
 |_=>MX
theorem kR(H:Flat S)(h:Kn d):gr [d] S=.ok (.bl (gN d)) S:=by
 refine aQ rfl ?_ rfl H rfl;rcases h with⟨i,rfl⟩| ⟨b,rfl⟩| ⟨x,rfl⟩|rfl| ⟨X,rfl⟩| ⟨X,rfl⟩
 ·rfl
 ·rfl
 ·rfl
 ·rfl
 ·rfl
 rfl
theorem Kn.isI_or(h:Kn d):(∃i,d=.int i)\/(gN d=MX/\∀m,gC m d=MX):=by
 rcases h with h| ⟨b,rfl⟩| ⟨x,rfl⟩|rfl| ⟨X,rfl⟩| ⟨X,rfl⟩
 ·exact .inl h
 all_goals exact .inr ⟨rfl,λ_=>rfl⟩
theorem K1(H:Flat S)(m:Int)(h:Kn d):kE [.int m,d] S=.ok (.bl (gC m d)) S:=by
 rcases h.isI_or with⟨i,rfl⟩| ⟨a,e⟩
 ·exact K45.C_ H m i
 ·rw[e m];have b:=kR H h;rw[a]at b
  have c:∀l a:Int,gu [d,.int l,.int a] S=.ok (.bl MX) S:=λl a=>by refine aQ rfl ?_ rfl H rfl;simp[ov,af,ap,aj,ai,Res.bind,aH,uE,b]
  refine aQ rfl ?_ rfl H rfl;show af uF G0 ox [some (.int m),some d] S=_;have f:fE .Sub (.int m) (.int 1) S=.ok (.int (m-1)) S:=rfl;simp only[ox,af,ap,aj,ai,Res.bind,Res.noErr,BK,c,f,Zu,Zx]
theorem kS{f:D->Bool}:ix [.lst (ds.map λd=>.bl (f d))] S=.ok (.bl (ds.all f)) S:=by show a' (a8 ((ds.map λd=>D.bl (f d)).map eP)) S=_;rw[ZL];have:a8 (ds.map (eP∘λd=>D.bl (f d)))=some (ds.all f):=allO_map;rw[this];rfl
theorem DF{step:D->List D->ae->Res (List D)}(f:D->Bool)(h:∀x∈xs,∀acc,acc.length<bB->step x acc S=.ok (acc++[.bl (f x)]) S)(a:xs.length<=bB):aG step xs [] S=.ok (xs.map λx=>D.bl (f x)) S:=by rw[vy (λx=>some (.bl (f x))) xs [] (λx b acc H=>h x b acc H) (by simpa using a)];simp
theorem vN{e:CE}{rs:List (Option D)}{it:CE}{f:D->Bool}(i:aW Φ G0 it ρ S=.ok (.items ds) S)(k:fr.map (λj=>j.bind λj=>(ρ[j]?).join)=none::rs)(l:ds.length<=1000)(g:∀d∈ds,aj Φ G0 e (some d::rs) S=.ok (.bl (f d)) S):
  aj Φ G0 (.comp MX N fr (.var 0) it [] (.emit e)) ρ S=.ok (.lst (ds.map λd=>.bl (f d))) S:=by
 refine fQ i ?_;rw[k];refine DF f (λd c a b=>?_) (show ds.length<=16777216 by lia);have h:a.length<16777216:=b;have H:bd (.var 0) d (none::rs)=some (some d::rs):=rfl;rw[H];simp[aM,bq,Res.bind,g d c,h]
theorem vO{i:Nat}(h:ρ[i]?=some (some (.tup ds))):aW Φ G0 (.seq (.var i)) ρ S=.ok (.items ds) S:=by simp[aW,aj,h,Res.bind,dr]
theorem vP{e:CE}{f:D->Bool}(h:aj Φ G0 e ρ S=.ok (.lst (ds.map λd=>.bl (f d))) S):aj Φ G0 (.blt .all [e]) ρ S=.ok (.bl (ds.all f)) S:=by have H:bg .all [.lst (ds.map λd=>D.bl (f d))] S=.ok (.bl (ds.all f)) S:=kS;simp only[aj,ai,h,Res.bind,H,Res.noErr]
noncomputable def MP:CE:=.comp MX ["place","many"] [none,some 0] (.var 0) (.seq (.var 1)) [] (.emit (.call "is_place" [.var 1,.var 0]))
theorem pu(a:Flat S)(m:Int)(h:∀x∈xs,Kn x)(j:xs.length<=1000):c_ [.int m,.tup xs] S=.ok (.bl (xs.all (gC m))) S:=by
 refine aQ rfl ?_ rfl a rfl;show af iT G0 oy [some (.int m),some (.tup xs)] S=_;have g:bg .isinst [.tup xs,.ty "tuple"] S=.ok (.bl MW) S:=rfl
 have b:=vP (S:=S) (vN (S:=S) (Φ:=iT) (N:=["place","many"]) (fr:=[none,some 0]) (e:=.call "is_place" [.var 1,.var 0]) (ρ:=[some (.int m),some (.tup xs)]) (rs:=[some (.int m)]) (f:=gC m) (vO (i:=1) rfl) rfl j λd c=>by have l:=K1 a m (h d c);trivial);rw[show oy=[.ret (.band (.blt .isinst [.var 1,.ty "tuple"]) (.blt .all [MP]))] from rfl];refine b_ ?_;generalize k:(CE.blt jj.all [MP])=q;have H:aj iT G0 q [some (.int m),some (.tup xs)] S=.ok (.bl (xs.all (gC m))) S:=k▸b;simp only[ap,aj,ai,Res.bind,Res.noErr,g,aH,H,Zu,Zx,if_true]
def NT(d:D):Prop:=∀S,fG [d,.ty "tuple"] S=.ok (.bl MX) S
theorem DG(H:Flat S)(m:Int)(h:NT d):c_ [.int m,d] S=.ok (.bl MX) S:=by refine aQ rfl ?_ rfl H rfl;show af iT G0 oy [some (.int m),some d] S=_;have a:bg .isinst [d,.ty "tuple"] S=.ok (.bl MX) S:=h S;rw[show oy=[.ret (.band (.blt .isinst [.var 1,.ty "tuple"]) (.blt .all [MP]))] from rfl];refine b_ ?_;simp only[ap,aj,ai,Res.bind,Res.noErr,a,aH,Zu,Zx,ZA,if_false]
theorem pw(H:Flat S)(h:c_ [.int m,d] S=.ok (.bl MX) S):eD [.int m,d] S=.ok (.bl MX) S:=by refine aQ rfl ?_ rfl H rfl;simp[iU,af,ap,aj,ai,Res.bind,aH,oB,h]
theorem K2(H:Flat S)(h:∀x∈xs,Kn x)(d:xs.length<=1000)(f:xs.length≠2):eD [.int m,.tup xs] S=.ok (.bl MX) S:=by
 have a:=pu H m h d;cases e:xs.all (gC m)with
 |false=>rw[e]at a;exact pw H a
 |true=>
  refine aQ rfl ?_ rfl H rfl;have b:bg .len [.tup xs] S=.ok (.int (xs.length:Nat)) S:=rfl
  have c:aF .Eq (.int (xs.length:Nat)) (.int 2) S=.ok (.bl MX) S:=by
   have:aF .Eq (.int (xs.length:Nat)) (.int 2) S=.ok (.bl (((xs.length:Nat):Int)==2)) S:=rfl;have:¬(((xs.length:Nat):Int)=2):=by lia
   simp_all
  simp[iU,af,ap,aj,ai,Res.bind,Res.noErr,aH,oB,a,b,c]
structure vQ (e:D):Prop where
 kn:Kn e
 tu:∀xs,e=.tup xs->(∀x∈xs,Kn x)/\xs.length<=1000/\(xs.length≠2\/xs.all gN=MX)
theorem Kn.nt(h:Kn d):NT d\/∃xs,d=.tup xs:=by
 rcases h with⟨i,rfl⟩| ⟨b,rfl⟩| ⟨x,rfl⟩|rfl|h| ⟨xs,rfl⟩
 ·exact .inl λ_=>rfl
 ·exact .inl λ_=>rfl
 ·exact .inl λ_=>rfl
 ·exact .inl λ_=>rfl
 ·exact .inr h
 ·exact .inl λ_=>rfl
theorem K3(h:xs.all gN=MX):xs.all (gC m)=MX:=by rw[List.all_eq_false]at h⊢;obtain⟨x,H,q⟩:=h;refine⟨x,H,λz=>q ?_⟩;cases x<;>first|rfl|cases z
theorem K4(a:Flat S)(m:Int){e:D}(h:vQ e):eD [.int m,e] S=.ok (.bl MX) S:=by
 rcases h.kn.nt with g| ⟨x,rfl⟩
 ·exact pw a (DG a m g)
 ·obtain⟨b,c,H⟩:=h.tu x rfl;by_cases d:x.length=2
  ·rcases H with H|H
   ·exact absurd d H
   ·have f:=pu a m b c;rw[K3 H]at f;exact pw a f
  ·exact K2 a b c d
theorem vR(j:Flat S)(g:D->D->Bool)(l:xs.length<=1000)(h:∀x∈xs,∀y∈xs,ji S bG x y=some (g x y)):b9 [.tup xs] S=.ok (.bl ((M1 g xs (xs.drop 1)).all id)) S:=by
 refine aQ rfl ?_ rfl j rfl;have b:et S (.tup xs) (.tup (xs.drop 1))=some (.items (M1 (λx y=>.tup [x,y]) xs (xs.drop 1))):=rfl;have f:=K45.C' xs;simp[uH,uG,af,ap,am,aj,ai,aW,Res.bind,Res.noErr,aH,mm,cS,hY,bg];simp only[f,b,bK]
 have a:(M1 g xs (xs.drop 1)).all id=(M1 (λx y=>D.tup [x,y]) xs (xs.drop 1)).all λd=>match d with
   | .tup [x,y]=>g x y
   |_=>MX:=by
  generalize xs.drop 1=Y;clear b f l h
  induction xs generalizing Y with
  |nil=>rfl
  |cons x xs I=>
   cases Y with
   |nil=>rfl
   |cons y Y=>simp only[Pw,Of,I Y,id]
 rw[DF (λd=>match d with
   | .tup [x,y]=>g x y
   |_=>MX)]
 ·simp only[Res.noErr];rw[kS,<-a,List.drop_one]
 ·intro z b A k;obtain⟨i,H⟩:=Rq.mp b;rw[Rr]at H;cases e:xs[i]? with
  |none=>rw[e]at H;cases H
  |some x=>
   cases E:(xs.drop 1)[i]? with
   |none=>rw[e,E]at H;cases H
   |some y=>rw[e,E]at H;cases H;rw[RS,Nat.add_comm]at E;have c:=h x (Zr e) y (Zr E);simp[bd,bu,slots,cE,aL,bt,aM,bq,aj,Res.bind,aF,c,a',Res.noErr];unfold bB at k;omega
 ·simp;unfold bB;omega
noncomputable def eK(ps:Lq):Bool:=(M1 (λx y=>decide (aC x y)) ps (ps.drop 1)).all id
theorem DH:∀ps:Lq,eK ps=MW↔ps.Pairwise aC
 | []=>by decide
 | [x]=>by simp[eK]
 |x::y::ps=>by
  have i:=DH (y::ps);have e:eK (x::y::ps)=(decide (aC x y)&&eK (y::ps)):=rfl;simp only[e,ZN,decide_eq_true_eq,i,Zv (a:=x)];constructor
  ·intro⟨H,b⟩;refine⟨λz h=>?_,b⟩;rcases Zf.mp h with rfl|h
   ·exact H
   ·exact K45.Dr H ((Zv.mp b).1 z h)
  simp_all
noncomputable def MQ:D->D->Bool
 | .tup [.int a,.int b],.tup [.int c,.int d]=>decide (aC (a,b) (c,d))
 |_,_=>MX
theorem DI(H:Flat S)(a:ps.length<=1000):b9 [.tup (ag ps)] S=.ok (.bl (eK ps)) S:=by
 have h:=vR H (xs:=ag ps) MQ (by unfold ag;simpa using a) λx b y c=>by obtain⟨t,_,rfl⟩:=Zo.mp b;obtain⟨u,_,rfl⟩:=Zo.mp c;exact K45.C8 S 38 t u
 rw[h];unfold ag eK;rw[<-OC,Sl];rfl
theorem K5(c:Flat S)(m:Int)(t:Int×Int):eD [.int m,ay t] S=.ok (.bl (decide (0<=t.1/\t.1<t.2/\t.2<m))) S:=by
 have h:=pu c m (xs:=[.int t.1,.int t.2]) (by intro x H;simp at H;rcases H with rfl|rfl<;>exact .inl ⟨_,rfl⟩) (by simp);have g:[D.int t.1,D.int t.2].all (gC m)=decide ((0<=t.1/\t.1<m)/\0<=t.2/\t.2<m):=by simp[gC]
 rw[g]at h;by_cases d:(0<=t.1/\t.1<m)/\0<=t.2/\t.2<m
 ·rw[ZK d]at h
  have e:=vR c (xs:=[.int t.1,.int t.2]) (λx y=>match x,y with
   | .int a,.int b=>decide (a<b)
   |_,_=>MX) (by simp) (by intro x H y f;simp at H f;rcases H with rfl|rfl<;>rcases f with rfl|rfl<;>rfl)
  have i:(M1 (λx y=>match x,y with
   |D.int a,D.int b=>decide (a<b)
   |_,_=>MX) [D.int t.1,D.int t.2] ([D.int t.1,D.int t.2].drop 1)).all id=decide (t.1<t.2):=by simp
  rw[i]at e;refine aQ rfl ?_ rfl c rfl;show af oA G0 iU [some (.int m),some (ay t)] S=_;have j:c_ [.int m,ay t] S=.ok (.bl MW) S:=h;have k:b9 [ay t] S=.ok (.bl (decide (t.1<t.2))) S:=e;have l:bg .len [ay t] S=.ok (.int 2) S:=rfl;have n:aF .Eq (.int 2) (.int 2) S=.ok (.bl MW) S:=rfl
  have E:decide (0<=t.1/\t.1<t.2/\t.2<m)=decide (t.1<t.2):=by apply decide_eq_decide.mpr;omega
  rw[E];simp only[iU,af,ap,am,aj,ai,Res.bind,Res.noErr,aH,oB,BN,j,k,l,n,Zu,Zx,if_true]
 ·rw[ZD d]at h;rw[ZD (by omega)];exact pw c h
def Item(e:D):Prop:=(∃t,e=ay t)\/vQ e
theorem DJ(n:Nat):∀(a b:Lq),a8 (M1 (cb S (n+2)) (ag a) (ag b))=some (decide (a.take b.length=b.take a.length))
 | [],b=>by simp[ag,a8]
 |a::as,[]=>rfl
 |a::as,b::bs=>by
  have i:=DJ n as bs;have e:M1 (cb S (n+2)) (ag (a::as)) (ag (b::bs))=cb S (n+2) (ay a) (ay b)::M1 (cb S (n+2)) (ag as) (ag bs):=rfl;simp only[e,K45.C7]
  show(match some (decide (a=b)),a8 (M1 (cb S (n+2)) (ag as) (ag bs))with
   |some b,some c=>some (b&&c)
   |_,_=>none)=_
  simp_all
theorem vS(a b:Lq)(h:a.length=b.length):aF .Eq (.lst (ag a)) (.lst (ag b)) S=.ok (.bl (decide (a=b))) S:=by show a' (if(ag a).length=(ag b).length then a8 (M1 (cb S (37+2)) (ag a) (ag b))else some MX) S=_;rw[if_pos (by unfold ag;simpa using h),DJ,h,Pr,<-h,Pr];rfl
theorem e_:∀{es:List D},(∀e∈es,aY 0 e=MW)->bb 0 es=MW
 | [],_=>rfl
 |e::es,h=>by show(aY 0 e&&bb 0 es)=MW;rw[h e Ze,e_ λx H=>h x (Zb _ H)];rfl
def It(e:D):Prop:=Item e/\aY 0 e=MW
structure dc (d:D):Prop where
 is:NT d\/∃es,d=.tup es/\(∀e∈es,Item e)/\es.length<64
 lo:aY 0 d=MW
theorem ja{es:List D}(a:es.length<64)(h:∀e∈es,It e):dc (.tup es):=⟨.inr ⟨es,rfl,λe H=>(h e H).1,a⟩,e_ λe H=>(h e H).2⟩
theorem K6{es:List D}(h:∀e∈es,It e):dc (.lst es):=⟨.inl λ_=>rfl,e_ λe H=>(h e H).2⟩
theorem fR(t:Int×Int):It (ay t):=⟨.inl ⟨t,rfl⟩,rfl⟩
theorem px{e:D}(h:Kn e)(a:NT e)(H:aY 0 e=MW):It e:=⟨.inr ⟨h,λx q=>by subst q;have:=a [];cases this⟩,H⟩
theorem jb(h:∀x∈xs,Kn x)(b:xs.length<=1000)(a:xs.length≠2\/xs.all gN=MX)(H:aY 0 (.tup xs)=MW):It (.tup xs):=⟨.inr ⟨.inr (.inr (.inr (.inr (.inl ⟨xs,rfl⟩)))),λy q=>by cases q;exact⟨h,b,a⟩⟩,H⟩
theorem jc{r:Int}(H:av S d=some xs)(h:0<=r)(h1:r<(xs.length:Nat)):∃x∈xs,bP d (.int r) S=.ok x S:=by
 have:gL xs r=some xs[r.toNat]:=by simp[gL,hX];simp_all
 unfold bP;simp_all
theorem py{p q:List D}(h:p.length+q.length<=1000):fE .Add (.tup p) (.tup q) S=.ok (.tup (p++q)) S:=by have e:fE .Add (.tup p) (.tup q) S=if p.length+q.length<=bB then .ok _ S else .fail:=rfl;lia
theorem DK{p q:List D}(h:p.length+q.length<=1000):fE .Add (.lst p) (.lst q) S=.ok (.lst (p++q)) S:=by
 have e:fE .Add (.lst p) (.lst q) S=if p.length+q.length<=bB then .ok (.lst (p++q)) S else .fail:=rfl
 grind
theorem vT(l:List D)(L h:Option Int):(a9 l L h).Sublist l:=(Qm _ _).trans (R3 _ _)
theorem DL(l:List D)(L h:Option Int):(a9 l L h).length<=l.length:=(vT l _ _).length_le
theorem kT(l:List D):mC (.tup l) (.int (-1)) S=.ok (.tup l.reverse) S:=rfl
theorem sl_tup(l:List D)(L h:Option Int):mm (.tup l) L h S=.ok (.tup (a9 l L h)) S:=rfl
end K45
namespace Py
end Py
namespace Pc
inductive cm (R:Int->Int->Prop):Int->Int->Prop
 |refl (a:Int):cm R a a
 |step {a b c:Int} (h:cm R a b) (r:R b c):cm R a c
theorem cm.trans{a b c:Int}(h:cm R a b)(k:cm R b c):cm R a c:=by
 induction k with
 |refl=>exact h
 |step _ r i=>exact i.step r
theorem cm.symm(hR:∀a b,R a b->R b a){a b:Int}(h:cm R a b):cm R b a:=by
 induction h with
 |refl=>exact .refl _
 |step _ r i=>exact(cm.step (.refl _) (hR _ _ r)).trans i
noncomputable def cZ(ts:Lq)(so:Li)(a b:Int):Prop:=((a,b)∈ts\/(b,a)∈ts)/\a∉so/\b∉so
theorem cZ.symm(a b:Int)(h:cZ ts so a b):cZ ts so b a:=⟨h.1.symm,h.2.2,h.2.1⟩
noncomputable def nm(ns:Li)(p:Int):Int:=ns.getD p.toNat 0
noncomputable def dH(so:Li)(ns:Li)(t:Int×Int):Li:=
 if t.1∉so/\t.2∉so then(ns.set t.1.toNat (min (nm ns t.1) (nm ns t.2))).set t.2.toNat (min (nm ns t.1) (nm ns t.2))else ns
noncomputable def pass(so:Li)(ts:Lq)(ns:Li):Li:=ts.foldl (dH so) ns
theorem kU{i p x:Int}(h:0<=i)(H:i<ns.length)(a:0<=p):nm (ns.set i.toNat x) p=if p=i then x else nm ns p:=by
 unfold nm
 grind
theorem pz{t:Int×Int}:(dH so ns t).length=ns.length:=by unfold dH;split<;>simp
theorem DM:∀{ts:Lq},(pass so ts ns).length=ns.length:=by
 intro ts;unfold pass
 induction ts generalizing ns with
 |nil=>rfl
 |cons t ts i=>rw[List.foldl_cons,i,pz]
theorem pA{t:Int×Int}(h1:0<=t.1)(a:t.1<ns.length)(b:0<=t.2)(c:t.2<ns.length){p:Int}(H:0<=p):
  nm (dH so ns t) p=if(t.1∉so/\t.2∉so)/\(p=t.1\/p=t.2)then min (nm ns t.1) (nm ns t.2)else nm ns p:=by
 unfold dH;by_cases h:t.1∉so/\t.2∉so
 ·rw[if_pos h,kU b (by simp_all) H,kU h1 a H];lia
 lia
def dI(m:Nat)(ts:Lq):Prop:=∀t∈ts,0<=t.1/\t.1<m/\0<=t.2/\t.2<m
theorem vU{m:Nat}{t:Int×Int}(a:ns.length=m)(h:0<=t.1/\t.1<m/\0<=t.2/\t.2<m){p:Int}(H:0<=p):nm (dH so ns t) p<=nm ns p:=by
 rw[pA h.1 (by simp_all) h.2.2.1 (by simp_all) H]
 grind
theorem kW{m:Nat}{so:Li}{p:Int}(a:0<=p):∀{ts:Lq} {ns:Li},dI m ts->ns.length=m->nm (pass so ts ns) p<=nm ns p
 | [],ns,_,_=>by unfold pass;simp
 |t::ts,ns,h,H=>by have c:=vU (so:=so) H (h t Ze) a;have d:=kW (so:=so) a (ns:=dH so _ t) (λu b=>h u (Zb _ b)) (by rw[pz,H]);show nm (pass _ ts _) p<=_;lia
theorem vV{m:Nat}{so:Li}:∀{ts:Lq} {ns:Li},dI m ts->ns.length=m->∀t∈ts,t.1∉so->t.2∉so->nm (pass so ts ns) t.1<=nm ns t.2/\nm (pass so ts ns) t.2<=nm ns t.1
 | [],ns,_,_,t,h,_,_=>by simp_all
 |u::ts,ns,g,i,t,h,d,f=>by
  have c:=g u Ze;have a:=λv k=>g v (Zb _ k);have b:(dH so ns u).length=m:=by rw[pz,i]
  have H:=g t h;show nm (pass _ ts _) _<=_/\nm (pass _ ts _) _<=_;rcases Zf.mp h with e|e
  ·subst e;have A:=kW (so:=so) H.1 a b;have j:=kW (so:=so) H.2.2.1 a b;rw[pA c.1 (by omega) c.2.2.1 (by omega) H.1,if_pos ⟨⟨d,f⟩,.inl rfl⟩]at A;rw[pA c.1 (by omega) c.2.2.1 (by omega) H.2.2.1,if_pos ⟨⟨d,f⟩,.inr rfl⟩]at j
   grind
  ·obtain⟨B,l⟩:=vV a b t e d f;have C:=vU (so:=so) i c H.1;have n:=vU (so:=so) i c H.2.2.1;lia
theorem K7{m:Nat}{TS:Lq}{t:Int×Int}(j:ns.length=m)(H:0<=t.1/\t.1<m/\0<=t.2/\t.2<m)(f:t∈TS)(h:∀p:Int,0<=p->p<m->cm (cZ TS so) p (nm ns p)):∀p:Int,0<=p->p<m->cm (cZ TS so) p (nm (dH so ns t) p):=by
 intro p P k;rw[pA H.1 (by simp_all) H.2.2.1 (by simp_all) P];split
 ·rename_i d;obtain⟨⟨b,c⟩,i⟩:=d;have a:cZ _ _ _ _:=⟨.inl f,b,c⟩;have e:=h _ H.1 H.2.1;have E:=h _ H.2.2.1 H.2.2.2;have F:=(cm.step (.refl _) a).trans E;have g:=(cm.step (.refl _) a.symm).trans e;lia
 simp_all
theorem DN{m:Nat}{TS:Lq}{so:Li}:∀{ts:Lq} {ns:Li},dI m ts->ns.length=m->(∀t∈ts,t∈TS)->(∀p:Int,0<=p->p<m->cm (cZ TS so) p (nm ns p))->∀p:Int,0<=p->p<m->cm (cZ TS so) p (nm (pass so ts ns) p)
 | [],ns,_,_,_,h=>h
 |t::ts,ns,a,b,c,h=>by show ∀p:Int,0<=p->p<m->cm _ p (nm (pass _ ts _) p);exact DN (λu H=>a u (Zb _ H)) (by rw[pz,b]) (λu H=>c u (Zb _ H)) (K7 b (a t Ze) (c t Ze) h)
noncomputable def bA(so:Li)(ts:Lq):Nat->Li->Li
 |0,ns=>ns
 |k+1,ns=>bA so ts k (pass so ts ns)
theorem vW:∀{k:Nat},bA so ts (k+1) ns=pass so ts (bA so ts k ns):=by
 intro k
 induction k generalizing ns with
 |zero=>rfl
 |succ k i=>exact i
theorem K8:∀{k:Nat},(bA so ts k ns).length=ns.length:=by
 intro k
 induction k generalizing ns with
 |zero=>rfl
 |succ k i=>show(bA _ _ k _).length=_;rw[i,DM]
theorem K9{m:Nat}(a:dI m ts)(H:ns.length=m)(h:∀p:Int,0<=p->p<m->cm (cZ ts so) p (nm ns p)):∀{k:Nat} (p:Int),0<=p->p<m->cm (cZ ts so) p (nm (bA so ts k ns) p):=by
 intro k
 induction k generalizing ns with
 |zero=>exact h
 |succ k i=>exact i (by rw[DM,H]) (DN a H (λt b=>b) h)
noncomputable def cnt(m:Nat)(f:Nat->Bool):Nat:=((M4 m).filter f).length
theorem vX{m:Nat}{f:Nat->Bool}:cnt m f<=m:=by exact Zy (Nh _ _) (by simp)
theorem DO{a:Type}{f g:a->Bool}:∀(l:List a),(∀x∈l,f x=MW->g x=MW)->(l.filter f).length<=(l.filter g).length
 | [],_=>Zg _
 |x::l,h=>by
  have i:=DO l λy H=>h y (Zb _ H)
  grind
theorem DP{a:Type}{f g:a->Bool}:∀(l:List a),(∀x∈l,f x=MW->g x=MW)->(∃x∈l,f x=MX/\g x=MW)->(l.filter f).length<(l.filter g).length
 | [],_,h=>by simp_all
 |x::l,h,d=>by
  have I:=DO l λy H=>h y (Zb _ H);obtain⟨y,H,b,c⟩:=d;rcases Zf.mp H with e|e
  ·grind
  ·have i:=DP l (λy H=>h y (Zb _ H)) ⟨y,e,b,c⟩
   grind
theorem K_{m:Nat}(j:dI m ts)(D:ns.length=m)(B:∀p:Int,0<=p->p<m->nm ns p=p){c:Int}(o:0<=c)(x:c<m)(M:∀q,cm (cZ ts so) c q->c<=q):
  ∀p,cm (cZ ts so) c p->nm (bA so ts m ns) p=c:=by
 have inR:∀{q:Int},cm (cZ ts so) c q->0<=q/\q<m:=by
  intro q h;cases h with
  |refl=>exact⟨o,x⟩
  |step _ r=>
   rcases r.1 with r|r
   ·have:=j _ r;dsimp only at this;omega
   ·have:=j _ r;dsimp only at this;omega
 have g:∀{k:Nat} (p:Int),0<=p->p<m->cm (cZ ts so) p (nm (bA so ts k ns) p):=K9 j D λp Q R=>by rw[B p Q R];exact .refl _
 have l:∀{k:Nat} (p:Int),cm (cZ ts so) c p->c<=nm (bA so ts k ns) p:=λp d=>M _ (d.trans (g p (inR d).1 (inR d).2));have H:∀{k:Nat},(bA so ts k ns).length=m:=by intro k;rw[K8,D]
 let A:Nat->Nat->Bool:=λk i=>decide (nm (bA so ts k ns) i=c)
 have n:∀k,nm (bA so ts k ns) c=c:=by
  intro k
  induction k with
  |zero=>exact B c o x
  |succ k F=>have:=kW (so:=so) o j (H (k:=k));rw[<-vW]at this;have:=l (k:=k+1) c (.refl _);omega
 have b:∀(k:Nat) (p:Int),cm (cZ ts so) c p->nm (bA so ts k ns) p=c->nm (bA so ts (k+1) ns) p=c:=by intro k p d e;have K:=kW (so:=so) (inR d).1 j (H (k:=k));rw[<-vW]at K;have L:=l (k:=k+1) p d;omega
 have C:∀k,(∀p,cm (cZ ts so) c p->nm (bA so ts k ns) p=c)\/k+1<=cnt m (A k):=by
  intro k
  induction k with
  |zero=>right;unfold cnt;refine P_.mpr λz=>?_;have:c.toNat∈(M4 m).filter (A 0):=NI.mpr ⟨ZS.mpr (by omega),by show decide (nm (bA so ts 0 ns) (c.toNat:Int)=c)=MW;rw[Qc o,n 0];simp⟩;rw[z]at this;cases this
  |succ k F=>
   by_cases w:∀p,cm (cZ ts so) c p->nm (bA so ts k ns) p=c
   ·left;intro p d;exact b k p d (w p d)
   ·right
    have P:k+1<=cnt m (A k):=by
     rcases F with z|z
     ·exact absurd z w
     ·exact z
    have E:∃q r,cm (cZ ts so) c q/\nm (bA so ts k ns) q=c/\cZ ts so q r/\nm (bA so ts k ns) r≠c:=by
     refine O3 λu=>w λp d=>?_
     induction d with
     |refl=>exact n k
     |step v r I=>exact O3 λz=>u ⟨_,_,v,I,r,z⟩
    obtain⟨q,r,v,S,a,G⟩:=E;have s:cm (cZ ts so) c r:=v.step a
    have J:nm (bA so ts (k+1) ns) r=c:=by
     have L:=l (k:=k+1) r s
     have T:nm (bA so ts (k+1) ns) r<=nm (bA so ts k ns) q:=by
      rw[vW];rcases a.1 with z|z
      ·exact(vV j (H (k:=k)) _ z a.2.1 a.2.2).2
      ·exact(vV j (H (k:=k)) _ z a.2.2 a.2.1).1
     omega
    have lt:cnt m (A k)<cnt m (A (k+1)):=by
     refine DP _ (λi N e=>?_) ⟨r.toNat,ZS.mpr (by have:=inR s;omega),?_,?_⟩
     ·have y:nm (bA so ts k ns) (i:Int)=c:=by simpa[A]using e
      have O:=ZS.mp N;have t:cm (cZ ts so) c i:=by have:=g (k:=k) (i:Int) (by omega) (by omega);rw[y]at this;exact this.symm cZ.symm
      show decide (nm (bA so ts (k+1) ns) (i:Int)=c)=MW;rw[b k i t y];simp
     ·show decide (nm (bA so ts k ns) (r.toNat:Int)=c)=MX;rw[Qc (inR s).1];simpa using G
     ·show decide (nm (bA so ts (k+1) ns) (r.toNat:Int)=c)=MW;rw[Qc (inR s).1,J];simp
    omega
 rcases C m with z|z
 ·exact z
 ·have:=vX (m:=m) (f:=A m);omega
noncomputable def fc(t:Int->Int->Bool)(left:Li):Nat->Li->Li->Li
 |0,r,_=>r
 |f+1,r,w=>match w.getLast? with
  |none=>r
  |some h=>fc t left f (r++left.filter λp=> !r.contains p&&t h p) (w.dropLast++left.filter λp=> !r.contains p&&t h p)
theorem K'{w:Li}{h p:Int}(e:w.getLast? =some h):p∈w↔p∈w.dropLast\/p=h:=by
 have hw:w≠[]:=λz=>by simp_all
 have E:w.getLast hw=h:=by grind
 rw[<-E]
 conv=>lhs;rw[<-List.dropLast_concat_getLast hw]
 simp
theorem DQ{R:Int->Int->Prop}{t:Int->Int->Bool}{left:Li}(l:left.Nodup)(hR:∀a b,a∈left->(R a b↔b∈left/\t a b=MW)){st:Int}:
  ∀(f:Nat) (r w:Li),r.Nodup->w.Nodup->(∀p∈r,p∈left/\cm R st p)->(∀p∈w,p∈r)->(∀p∈r,p∉w->∀q,R p q->q∈r)->st∈r->w.length+left.length<f+r.length->
  (fc t left f r w).Nodup/\∀p,p∈fc t left f r w↔cm R st p
 |0,r,w,n,_,c,_,_,_,u=>by have:r.length<=left.length:=n.length_le_of_subset λp H=>(c p H).1;omega
 |f+1,r,w,n,x,c,j,s,o,u=>by
  unfold fc;cases e:w.getLast? with
  |none=>
   have hw:w=[]:=QU.mp e;subst hw;refine⟨n,λp=>⟨λH=>(c p H).2,λH=>?_⟩⟩
   induction H with
   |refl=>exact o
   |step _ y I=>exact s _ I (by simp) _ y
  |some h=>
   have M:=λp=>K' (p:=p) e;have k:h∈r:=j h ((M h).mpr (.inr rfl));have i:=(c h k).1;have hw:w≠[]:=λz=>by rw[z]at e;cases e
   have v:0<w.length:=P_.mpr hw
   let F:=left.filter λp=> !r.contains p&&t h p
   have m:∀p,p∈F↔p∈left/\p∉r/\t h p=MW:=λp=>by simp[F]
   have N:F.Nodup:=l.sublist Nt;refine DQ l hR f (r++F) (w.dropLast++F) ?_ ?_ ?_ ?_ ?_ ?_ ?_
   ·exact Z7.mpr ⟨n,N,λa d b g z=>by subst z;exact((m a).mp g).2.1 d⟩
   ·refine Z7.mpr ⟨x.sublist (OQ _),N,λa d b g z=>?_⟩;subst z;exact((m a).mp g).2.1 (j a ((M a).mpr (.inl d)))
   ·intro p H;rcases ZE.mp H with z|z
    ·exact c p z
    ·obtain⟨Z,B,A⟩:=(m p).mp z;exact⟨Z,(c h k).2.step ((hR h p i).mpr ⟨Z,A⟩)⟩
   ·grind
   ·grind
   ·exact ZP _ o
   ·simp only[Zm,OV];omega
theorem pB(H:left.Nodup)(hR:∀a b,a∈left->(R a b↔b∈left/\tie a b=MW)){st:Int}(hs:st∈left){f:Nat}(c:left.length<f):
  (fc tie left f [st] [st]).Nodup/\∀p,p∈fc tie left f [st] [st]↔cm R st p:=
 DQ H hR f _ _ (by simp) (by simp) (λp h=>have e:p=st:=(by simp_all);⟨e▸hs,e▸.refl _⟩) (λp h=>h) (λp h hw=>absurd h hw) (by simp) (by lia)
theorem vY:∀{l k:Li},l.Pairwise (· < ·)->k.Pairwise (· < ·)->(∀p,p∈l↔p∈k)->l=k
 | [],[],_,_,_=>rfl
 | [],y::k,_,_,h=>absurd ((h y).mpr Ze) (by simp)
 |x::l,[],_,_,h=>absurd ((h x).mp Ze) (by simp)
 |x::l,y::k,b,a,h=>by
  obtain⟨L,d⟩:=Zv.mp b;obtain⟨K,c⟩:=Zv.mp a
  have e:x=y:=by
   rcases Zf.mp ((h x).mp Ze)with z|z
   ·exact z
   ·rcases Zf.mp ((h y).mpr Ze)with w|w
    ·exact w.symm
    ·have:=K x z;have:=L y w;lia
  subst e;rw[vY d c λp=>⟨λH=>?_,λH=>?_⟩]
  ·rcases Zf.mp ((h p).mp (Zb _ H))with z|z
   ·have:=L p H;omega
   ·exact z
  ·rcases Zf.mp ((h p).mpr (Zb _ H))with z|z
   ·have:=K p H;omega
   ·exact z
open K45
theorem DR{P:Int->Prop}(e:∀p,P p->0<=p):∀(n:Nat) (p:Int),P p->p.toNat<=n->∃c,P c/\c<=p/\∀q,P q->c<=q
 |0,p,H,f=>⟨p,H,by lia,λq b=>by grind⟩
 |n+1,p,H,f=>by
  by_cases h:∀q,P q->p<=q
  ·exact⟨p,H,by lia,h⟩
  ·obtain⟨q,b⟩:=Classical.not_forall.mp h;obtain⟨a,g⟩:=Classical.not_imp.mp b;obtain⟨c,C,i,d⟩:=DR e n q a (by lia);exact⟨c,C,by simp_all,d⟩
theorem vZ:(bi lo n).Pairwise (· < ·):=by
 induction n generalizing lo with
 |zero=>exact .nil
 |succ n i=>unfold bi;exact Zv.mpr ⟨λx h=>by have:=vF h;omega,i⟩
theorem pC{x:Int}:x∈bi lo n↔lo<=x/\x<lo+n:=by
 refine⟨vF,λh=>?_⟩
 induction n generalizing lo with
 |zero=>lia
 |succ n i=>
  simp only[bi]
  grind
theorem Lb{m:Nat}{p:Int}(h:0<=p)(h1:p<m):nm (bi 0 m) p=p:=by
 have k:∀(n:Nat) (lo:Int) (i:Nat),i<n->(bi lo n)[i]?=some (lo+i):=by
  intro n
  induction n with
  |zero=>simp
  |succ n I=>
   simp[bi]
   grind
 unfold nm
 grind
section
variable {m:Nat}
noncomputable def fin(so:Li)(ts:Lq)(m:Nat):Li:=bA so ts m (bi 0 m)
theorem jd(H:dI m ts){p q:Int}(a:0<=p)(h1:p<m)(h:cm (cZ ts so) p q):0<=q/\q<m:=by
 cases h with
 |refl=>simp_all
 |step _ r=>
  rcases r.1 with r|r
  ·have:=H _ r;simp_all
  ·have:=H _ r;simp_all
theorem kX{p q:Int}(H:p∉so)(h:cm (cZ ts so) p q):q∉so:=by
 cases h with
 |refl=>exact H
 |step _ r=>exact r.2.2
theorem je(h:dI m ts){p:Int}(a:0<=p)(h1:p<m):cm (cZ ts so) p (nm (fin so ts m) p)/\∀q,cm (cZ ts so) p q->nm (fin so ts m) p<=q:=by obtain⟨c,C,g,d⟩:=DR (λq H=>(jd h a h1 H).1) _ p (.refl _) (Zg _);have b:=jd h a h1 C;have e:nm (fin so _ m) p=c:=K_ h fP (λq Q f=>Lb Q f) b.1 b.2 (λq H=>d q (C.trans H)) p (C.symm cZ.symm);simp_all
theorem v8(H:dI m ts){p q:Int}(c:0<=p)(h1:p<m)(g:0<=q)(G:q<m):nm (fin so ts m) p=nm (fin so ts m) q↔cm (cZ ts so) p q:=by
 obtain⟨a,A⟩:=je H c h1;obtain⟨b,B⟩:=je H g G;refine⟨λe=>?_,λh=>?_⟩
 ·rw[e]at a;exact a.trans (b.symm cZ.symm)
 ·have:=A _ (h.trans b);have:=B _ ((h.symm cZ.symm).trans a);lia
theorem Lc(H:dI m ts){p:Int}(h:0<=p)(h1:p<m):nm (fin so ts m) (nm (fin so ts m) p)=nm (fin so ts m) p:=by obtain⟨a,A⟩:=je H h h1;have b:=jd H h h1 a;exact((v8 H h h1 b.1 b.2).mpr a).symm
theorem v9(H:dI m ts){p:Int}(h:0<=p)(h1:p<m):nm (fin so ts m) p<=p:=(je H h h1).2 p (.refl _)
noncomputable def chain(so:Li)(ts:Lq)(m:Nat)(c:Int):Li:=(bi 0 m).filter λp=>decide (nm (fin so ts m) p=c)&& !so.contains p
theorem kY{c p:Int}:p∈chain so ts m c↔(0<=p/\p<m)/\nm (fin so ts m) p=c/\p∉so:=by unfold chain;rw[NI,pC];simp
theorem Ld(H:dI m ts){c:Int}(f:0<=c)(h1:c<m):chain so ts m c≠[]↔c∉so/\nm (fin so ts m) c=c:=by
 refine⟨λh=>?_,λ⟨g,i⟩ z=>?_⟩
 ·obtain⟨p,j⟩:=List.exists_mem_of_ne_nil _ h;obtain⟨⟨P,d⟩,e,k⟩:=kY.mp j;have a:=(je (so:=so) H P d).1;have b:=Lc (so:=so) H P d;rw[e]at a b;exact⟨kX k a,b⟩
 ·have:=kY.mpr ⟨⟨f,h1⟩,i,g⟩;simp_all
theorem Le{c:Int}:(chain so ts m c).Pairwise (· < ·):=vZ.sublist Nt
theorem Lf(a:dI m ts){c:Int}(H:0<=c)(h1:c<m)(hs:c∉so)(d:nm (fin so ts m) c=c){l:Li}(f:l.Pairwise (· < ·))(g:∀p,p∈l↔cm (cZ ts so) c p):l=chain so ts m c:=by
 refine vY f Le λp=>?_;rw[g,kY];refine⟨λh=>?_,λ⟨⟨P,i⟩,e,_⟩=>?_⟩
 ·have b:=jd a H h1 h;refine⟨b,?_,kX hs h⟩;rw[<-(v8 a H h1 b.1 b.2).mpr h,d]
 ·refine(v8 a H h1 P i).mp ?_;rw[e,d]
theorem Lg(b:dI m ts){p:Int}(H:0<=p)(h1:p<m)(hs:p∉so):(∃c,(0<=c/\c<p)/\p∈chain so ts m c)↔nm (fin so ts m) p≠p:=by
 refine⟨λ⟨c,_,d⟩=>?_,λh=>?_⟩
 ·obtain⟨_,e,_⟩:=kY.mp d;lia
 ·have:=v9 (so:=so) b H h1;have a:=jd b H h1 (je (so:=so) b H h1).1;exact⟨_,by lia,kY.mpr ⟨⟨H,h1⟩,rfl,hs⟩⟩
end
end Pc
namespace K45
theorem Lh(c:Flat S)(a b:Int):oE [.int a,.int b] S=.ok (ay (min a b,max a b)) S:=by
 refine aQ rfl ?_ rfl c rfl;have h:mB [.int a,.int b] S=.ok (.int (min a b)) S:=by dsimp[mB,mj];lia
 have H:my [.int a,.int b] S=.ok (.int (max a b)) S:=by simp[my,ml];lia
 simp[B1,af,ap,aj,ai,Res.bind,Res.noErr,bg,h,H,ay]
noncomputable def bj(ts:Lq)(a b:Int):Bool:=decide ((min a b,max a b)∈ts)
theorem Lj(h:Flat S)(m:Int)(ts:Lq)(a b:Int):oF [ao m ts,.int a,.int b] S=.ok (.bl (bj ts a b)) S:=by refine aQ rfl ?_ rfl h rfl;have H:bP (ao m ts) (.int 1) S=.ok _ S:=rfl;simp[B2,af,ap,aj,ai,Res.bind,Res.noErr,Jk,Lh h a b,H,aF,K45.C9 S (min a b,max a b) ts,a',bj]
theorem DS(h:Flat S)(f:so.length<=100)(h1:∀p∈so,0<=p/\p<m)(H:so.Pairwise (· < ·)):ea [ao m ts,.tup (so.map D.int)] S=.ok (.bl MW) S:=by
 refine aQ rfl ?_ rfl h rfl;have d:bP (ao m ts) (.int 0) S=.ok (.int m) S:=rfl;have A:c_ [.int m,.tup (so.map D.int)] S=.ok (.bl MW) S:=K45.Dc h (by omega) h1
 have c:b9 [.tup (so.map D.int)] S=.ok (.bl MW) S:=K45.vB h (by simp;omega) λi x y e E=>by
  rw[N6]at e E;cases f1:so[i]? with
  |none=>simp_all
  |some a=>
   cases f2:so[i+1]? with
   |none=>simp_all
   |some b=>rw[f1]at e;rw[f2]at E;cases e;cases E;obtain⟨g,rfl⟩:=Zl.mp f1;obtain⟨G,rfl⟩:=Zl.mp f2;show some (decide (so[i]<so[i+1]))=some MW;rw[ZK (Nw.mp H i (i+1) g G (by simp))]
 simp[oC,af,ap,aj,ai,Res.bind,Res.noErr,aH,uK,BU,d,A,c]
theorem Lk(h:Flat S)(a:so.length<=100)(h1:∀p∈so,0<=p/\p<m)(H:so.Pairwise (· < ·)):kF [ao m ts,.tup (so.map D.int)] S=.ok .non S:=by refine run_next (ρ:=[some (ao m ts),some (.tup (so.map D.int))]) rfl ?_ rfl h;simp[uN,BY,af,ap,am,aj,ai,Res.bind,B0,DS h a h1 H,bH]
noncomputable def ee(x:Int):Li->Li
 | []=>[x]
 |y::ys=>if x<y then x::y::ys else y::ee x ys
noncomputable def eM(l:Li):Li:=l.foldl (λacc x=>ee x acc) []
theorem DT(x:Int):∀l:Li,cF (bL .int) (.int x) (l.map D.int)=(ee x l).map D.int
 | []=>rfl
 |y::Y=>by
  have e:ee x (y::Y)=if x<y then x::y::Y else y::ee x _:=rfl;show(if decide _=MW then D.int x::D.int y::Y.map _ else D.int y::cF _ _ _)=_;rw[DT x _]
  grind
theorem DU:∀(l acc:Li),(l.map D.int).foldl (λacc x=>cF (bL .int) x acc) (acc.map D.int)=(l.foldl (λacc x=>ee x acc) acc).map D.int
 | [],acc=>rfl
 |x::l,acc=>by show(l.map _).foldl _ (cF _ _ _)=_;rw[DT,DU l];rfl
theorem pD(x:Int):∀l,(ee x l).Perm (x::l)
 | []=>.refl _
 |y::Y=>by
  unfold ee;split
  ·exact .refl _
  ·exact((pD x _).cons y).trans (.swap x y _)
theorem DV:∀(l acc:Li),(l.foldl (λacc x=>ee x acc) acc).Perm (l++acc)
 | [],acc=>.refl _
 |x::l,acc=>(DV l _).trans (((pD x _).append_left l).trans Ob)
theorem Ll(l:Li):(eM l).Perm l:=by have:=DV l [];rw[ZY]at this;exact this
theorem DW(x:Int):∀l,l.Pairwise (· < ·)->x∉l->(ee x l).Pairwise (· < ·)
 | [],_,_=>Q6 _ _
 |y::Y,h,n=>by
  obtain⟨b,a⟩:=Zv.mp h;unfold ee;by_cases e:x<y
  ·rw[if_pos e];refine Zv.mpr ⟨λz H=>?_,h⟩
   grind
  ·rw[if_neg e];refine Zv.mpr ⟨λz H=>?_,DW x Y a λz=>n (Zb _ z)⟩;rcases Zf.mp ((pD x Y).mem_iff.mp H)with rfl|H
   ·grind
   simp_all
theorem DX:∀(l acc:Li),acc.Pairwise (· < ·)->(l++acc).Nodup->(l.foldl (λacc x=>ee x acc) acc).Pairwise (· < ·)
 | [],acc,h,_=>h
 |x::l,acc,h,n=>by have N:=n;obtain⟨a,b⟩:=NK.mp N;exact DX l _ (DW x _ h λz=>a (Zt _ z)) ((((pD x _).append_left l).trans Ob).nodup_iff.mpr N)
theorem Lm{l:Li}(h:l.Nodup):(eM l).Pairwise (· < ·):=DX l _ .nil (by simp_all)
theorem Ln{l:Li}(h:av S d=some (l.map D.int))(a:l.length<64):gX MX .int [d] S=.ok (.lst ((eM l).map D.int)) S:=by
 have e:(l.map D.int).all (aq .int)=MW:=by rw[Zn];intro x H;obtain⟨t,_,rfl⟩:=Zo.mp H;rfl
 unfold gX;simp only[h];rw[if_pos ⟨e,by simp;omega,rfl⟩,show d8 (bL .int) (l.map D.int)=(eM l).map D.int from DU l []];rfl
theorem v_{l:Li}(h:av S d=some (l.map D.int))(q:Int):iw (.int q) d S=some (decide (q∈l)):=by
 unfold iw;simp_all;have e:(λy=>cb S bG y (.int q))∘D.int=λu=>some _:=rfl;rw[e,K45.vz]
 grind
noncomputable def pE:List CS:=[.asg 5 (.meth .pop (.var 4) []),.asg 6 (.comp MX ["place","reached","web","here"] [none,some 3,some 0,some 5] (.var 0) (.seq (.var 1)) [.band (.cmp .NotIn (.var 0) (.var 1)) (.call "have_tie" [.var 2,.var 3,.var 0])] (.emit (.var 0))),.expr (.meth .extend (.var 3) [.var 6]),.expr (.meth .extend (.var 4) [.var 6])]
theorem pF(q:Flat S){r w:Li}{h:Int}{st:D}(u:left.length<=100)(B:r.length<=1000)(v:w.length<=1000)(hw:w.getLast? =some h):
  af eE G0 pE [some (ao m ts),some (.lst (left.map D.int)),some st,some (.ref S.length),some (.ref (S.length+1)),x5,x6] (S++[r.map D.int,w.map D.int])=
   .ok (.next [some (ao m ts),some (.lst (left.map D.int)),some st,some (.ref S.length),some (.ref (S.length+1)),some (.int h),some (.lst ((left.filter λp=> !r.contains p&&bj ts h p).map D.int))])
    (S++[(r++left.filter λp=> !r.contains p&&bj ts h p).map D.int,(w.dropLast++left.filter λp=> !r.contains p&&bj ts h p).map D.int]):=by
 have a:y0 (.ref (S.length+1)) [] (S++[r.map D.int,w.map D.int])=.ok (.int h) (S++[r.map D.int,w.dropLast.map D.int]):=by
  show jK (.ref (S.length+1)) [] (S++[r.map D.int,w.map D.int])=_;unfold jK;simp only[vM];have e:(w.map D.int)[(w.map D.int).length-1]?=some (.int h):=by rw[N6,Zk];rw[List.getLast?_eq_getElem?]at hw;rw[hw];rfl
  rw[e];simp only[DC,List.map_dropLast]
 unfold pE;rw[bJ (d:=.int h) (S':=S++[r.map D.int,w.dropLast.map D.int]) (by simp[aj,ai,Res.bind,Res.noErr,dt,a])];simp only[NW,NX];have o:Flat (S++[r.map D.int,w.dropLast.map D.int]):=DD q (K45.gA _) (K45.gA _)
 have H:aj eE G0 (.comp MX ["place","reached","web","here"] [none,some 3,some 0,some 5] (.var 0) (.seq (.var 1)) [.band (.cmp .NotIn (.var 0) (.var 1)) (.call "have_tie" [.var 2,.var 3,.var 0])] (.emit (.var 0))) [some (ao m ts),some (.lst (left.map D.int)),some st,some (.ref S.length),some (.ref (S.length+1)),some (.int h),x6] (S++[r.map D.int,w.dropLast.map D.int])=
   .ok (.lst ((left.filter λp=> !r.contains p&&bj ts h p).map D.int)) (S++[r.map D.int,w.dropLast.map D.int]):=by
  refine fQ (its:=.items (left.map D.int)) (S1:=S++[r.map D.int,w.dropLast.map D.int]) (by simp[aW,aj,Res.bind,dr]) ?_;refine kQ (f:=D.int) (e:=D.int) (p:=λp=> !r.contains p&&bj ts h p) (λp z A s=>?_) (by unfold bB;omega);have g:A.length<16777216:=s;have b:=Lj o m ts h p
  have c:iw (.int p) (.ref S.length) (S++[r.map D.int,w.dropLast.map D.int])=some (r.contains p):=by rw[v_ (l:=r) (by show(S++[r.map D.int,w.dropLast.map D.int])[S.length]?=_;exact vL)];simp
  generalize S++[r.map D.int,w.dropLast.map D.int]=T at b c;cases E:r.contains p<;>cases n:bj ts h p<;>rw[E]at c<;>rw[n]at b<;>simp[bd,bu,slots,cE,aL,bt,aM,am,bq,aj,ai,Res.bind,Res.noErr,aH,aF,c,a',Jl,b,bH,g]
 rw[bJ H];simp only[NW,NX];generalize i:(left.filter λp=> !r.contains p&&bj ts h p)=F;have t:F.length<=100:=by rw[<-i];exact Zy (Nh _ _) u
 have x:gU (.ref S.length) [.lst (F.map D.int)] (S++[r.map D.int,w.dropLast.map D.int])=.ok .non (S++[(r++F).map D.int,w.dropLast.map D.int]):=by unfold gU;simp only[vL,Py.c7,Zk];rw[if_pos (by unfold bB;omega),K0,N2]
 have X:gU (.ref (S.length+1)) [.lst (F.map D.int)] (S++[(r++F).map D.int,w.dropLast.map D.int])=.ok .non (S++[(r++F).map D.int,(w.dropLast++F).map D.int]):=by unfold gU;simp only[vM,Py.c7,Zk,OV];rw[if_pos (by unfold bB;omega),DC,<-N2]
 rw[b5 (ρ':=[some (ao m ts),some (.lst (left.map D.int)),some st,some (.ref S.length),some (.ref (S.length+1)),some (.int h),some (.lst (F.map D.int))]) (S':=S++[(r++F).map D.int,w.dropLast.map D.int]) (by simp only[ap,aj,ai,Res.bind,Res.noErr,dt,Zx,Zu,x])];rw[b5 (ρ':=[some (ao m ts),some (.lst (left.map D.int)),some st,some (.ref S.length),some (.ref (S.length+1)),some (.int h),some (.lst (F.map D.int))]) (S':=S++[(r++F).map D.int,(w.dropLast++F).map D.int]) (by simp only[ap,aj,ai,Res.bind,Res.noErr,dt,Zx,Zu,X])];rw[af]
theorem DY{S:ae}(g:Flat S){m:Int}{ts:Lq}{left:Li}{st:D}(i:left.length<=100)(j:left.Nodup):∀(f:Nat) (r w:Li) (x5 x6:Option D),r.Nodup->(∀p∈r,p∈left)->w.Nodup->(∀p∈w,p∈r)->w.length+left.length<f+r.length->
  ∃y Y,iB (am eE G0 (.var 4)) (af eE G0 pE) f [some (ao m ts),some (.lst (left.map D.int)),some st,some (.ref S.length),some (.ref (S.length+1)),x5,x6] (S++[r.map D.int,w.map D.int])=
   .ok (.next [some (ao m ts),some (.lst (left.map D.int)),some st,some (.ref S.length),some (.ref (S.length+1)),y,Y]) (S++[(Pc.fc (bj ts) left f r w).map D.int,[]])
 |0,r,w,x5,x6,n,s,_,_,u=>by have:r.length<=left.length:=n.length_le_of_subset s;omega
 |f+1,r,w,x5,x6,n,s,N,s2,u=>by
  have x:r.length<=left.length:=n.length_le_of_subset s;have A:w.length<=r.length:=N.length_le_of_subset s2
  have q:am eE G0 (.var 4) [some (ao m ts),some (.lst (left.map D.int)),some st,some (.ref S.length),some (.ref (S.length+1)),x5,x6] (S++[r.map D.int,w.map D.int])=.ok (!w.isEmpty) (S++[r.map D.int,w.map D.int]):=by
   have e:bH (S++[r.map D.int,w.map D.int]) (.ref (S.length+1))=some (!w.isEmpty):=by show((S++[r.map D.int,w.map D.int])[S.length+1]?).map (λX=> !X.isEmpty)=_;rw[vM];cases w<;>rfl
   simp only[am,Zx,Zu,e]
  unfold iB;rw[q];cases e:w.getLast? with
  |none=>have hw:w=[]:=QU.mp e;subst hw;refine⟨x5,x6,?_⟩;unfold Pc.fc;rfl
  |some h=>
   have hw:w≠[]:=λz=>by rw[z]at e;cases e
   have t:(!w.isEmpty)=MW:=by cases w with
    |nil=>exact absurd rfl hw
    |cons a b=>rfl
   have v:=pF (m:=m) (ts:=ts) (x5:=x5) (x6:=x6) (st:=st) (left:=left) (r:=r) (w:=w) g i (by omega) (by omega) e;have M:∀p,p∈(left.filter λp=> !r.contains p&&bj ts h p)↔p∈left/\p∉r/\bj ts h p=MW:=λp=>by simp
   have l:(left.filter λp=> !r.contains p&&bj ts h p).Nodup:=j.sublist Nt;have k:0<w.length:=P_.mpr hw
   obtain⟨y,Y,E⟩:=DY (m:=m) (ts:=ts) (st:=st) g i j f (r++left.filter λp=> !r.contains p&&bj ts h p) (w.dropLast++left.filter λp=> !r.contains p&&bj ts h p) (some (.int h)) (some (.lst ((left.filter λp=> !r.contains p&&bj ts h p).map D.int)))
    (Z7.mpr ⟨n,l,λa H b c z=>by subst z;exact((M a).mp c).2.1 H⟩)
    (λp d=>by
     rcases ZE.mp d with z|z
     ·exact s p z
     ·exact((M p).mp z).1)
    (Z7.mpr ⟨N.sublist (OQ _),l,λa H b c z=>by subst z;exact((M a).mp c).2.1 (s2 a ((OQ _).subset H))⟩)
    (λp d=>by
     rcases ZE.mp d with z|z
     ·exact ZP _ (s2 p ((OQ _).subset z))
     ·exact Zt _ z)
    (by simp only[Zm,OV];omega)
   refine⟨y,Y,?_⟩;rw[t];show(Res.bind (af eE G0 pE [some (ao m ts),some (.lst (left.map D.int)),some st,some (.ref S.length),some (.ref (S.length+1)),x5,x6] (S++[r.map D.int,w.map D.int])) _)=_;rw[v]
   have o:Pc.fc (bj ts) left (f+1) r w=Pc.fc (bj ts) left f (r++left.filter λp=> !r.contains p&&bj ts h p) (w.dropLast++left.filter λp=> !r.contains p&&bj ts h p):=by
    show(match w.getLast? with
     |none=>r
     |some h=>Pc.fc (bj ts) left f (r++left.filter λp=> !r.contains p&&bj ts h p) (w.dropLast++left.filter λp=> !r.contains p&&bj ts h p))=_
    rw[e]
   rw[o];exact E
theorem Lo(H:Flat S){p:Int}(n:left.length<=60)(g:left.Nodup)(i:p∈left)(c:(Pc.fc (bj ts) left 100 [p] [p]).length<64):kH [ao m ts,.lst (left.map D.int),.int p] S=.ok (.tup ((eM (Pc.fc (bj ts) left 100 [p] [p])).map D.int)) S:=by
 obtain⟨y,Y,e⟩:=DY (m:=m) (ts:=ts) (st:=.int p) H (show left.length<=100 by omega) g 100 [p] [p] none none (by simp) (λq h=>(show q=p by simpa using h)▸i) (by simp) (λq h=>h) (by simp;omega)
 have f:af eE G0 kG [some (ao m ts),some (.lst (left.map D.int)),some (.int p),none,none,none,none] S=.ok (.ret (.tup ((eM (Pc.fc (bj ts) left 100 [p] [p])).map D.int))) (S++[(Pc.fc (bj ts) left 100 [p] [p]).map D.int,[]]):=by
  unfold kG;rw[bJ (d:=.ref S.length) (S':=S++[[.int p]]) (by simp[aj,ai,Res.bind])];rw[bJ (d:=.ref (S.length+1)) (S':=S++[[.int p],[.int p]]) (by simp[aj,ai,Res.bind])];simp only[NW,NX];refine(b5 (ρ':=[some (ao m ts),some (.lst (left.map D.int)),some (.int p),some (.ref S.length),some (.ref (S.length+1)),y,Y]) (S':=S++[(Pc.fc (bj ts) left 100 [p] [p]).map D.int,[]]) ?_).trans ?_
  ·rw[ap];exact e
  ·refine b_ (eI (i9 (i9 (al rfl) (Ln (l:=Pc.fc (bj ts) left 100 [p] [p]) ?_ c)) rfl));exact vL
 show au eE G0 kG uO.length 3 [ao m ts,.lst (left.map D.int),.int p] S=_;unfold au;rw[if_pos (show [ao m ts,D.lst (left.map D.int),D.int p].length=3 from rfl)];rw[show af eE G0 kG ([ao m ts,D.lst (left.map D.int),D.int p].map some++M3 (uO.length-3) none) S=_ from f];have b:(S++[(Pc.fc (bj ts) left 100 [p] [p]).map D.int,[]]).take S.length=S:=by simp
 have:=K45.vv (k:=S.length) (d:=.tup ((eM (Pc.fc (bj ts) left 100 [p] [p])).map D.int)) (S':=S++[(Pc.fc (bj ts) left 100 [p] [p]).map D.int,[]]) (by rw[b];exact H) (K45.gA _);rw[b]at this;exact this
open Pc
theorem Lr{f:α->D}{g:α->Bool}{step:D->List D->ae->Res (List D)}{cs:List α}(a:S[k]?=some (cs.map f))(d:cs.length<=1000)(hs:∀c∈cs,∀acc,acc.length<bB->step (f c) acc S=.ok (acc++[.bl (g c)]) S):
  bo step (cq k) ((cs.map f).length+1) 0 [] S=.ok (cs.map λc=>D.bl (g c)) S:=by
 rcases K45.DE a (step:=step) (λx h acc H=>by obtain⟨c,b,rfl⟩:=Zo.mp h;simp_all) ((cs.map f).length+1) 0 _ (by simp) (by simp)with z|z
 ·refine Eq.trans z ?_;refine Eq.trans (kQ (p:=λ_=>MW) (λx h acc H=>Eq.trans (hs x h _ H) rfl) (by lia)) ?_;rw[RH.mpr λ_ _=>rfl]
 ·unfold bB at z;simp at z;lia
theorem pG{cs:List α}{g:α->Bool}:jH [.lst (cs.map λo=>D.bl (g o))] S=.ok (.bl (cs.any g)) S:=by unfold jH;simp only[av];rw[ZL];rw[show fY (cs.map (eP∘λo=>D.bl _))=some _ from K45.vz];rfl
noncomputable def aU(so:Li)(m:Nat):Li:=(bi 0 m).filter λp=> !so.contains p
noncomputable def own(so:Li)(ts:Lq)(m:Nat)(c:Int):Bool:=decide (nm (fin so ts m) c=c)
noncomputable def E2(so:Li)(ts:Lq)(m:Nat)(c:Int):D:=.tup ((chain so ts m c).map D.int)
noncomputable def dY(so:Li)(ts:Lq)(m:Nat)(l:Li):List D:=(l.filter (own so ts m)).map (E2 so ts m)
theorem DZ(so:Li)(ts:Lq)(m:Nat)(l:Li):bb 0 (dY so ts m l)=MW:=by
 unfold dY
 induction l.filter _ with
 |nil=>rfl
 |cons c C i=>show(aY 0 _&&bb 0 _)=MW;rw[i,QY];exact K45.gA _
theorem wa(W:dD m ts):dI m.toNat ts:=λt h=>by
 have:=W.tie t h
 grind
theorem kZ{m:Nat}{p:Int}:p∈aU so m↔(0<=p/\p<m)/\p∉so:=by unfold aU;rw[NI,pC];simp
theorem pH(W:dD m ts)(a b:Int)(H:a∈aU so m.toNat):cZ ts so a b↔b∈aU so m.toNat/\bj ts a b=MW:=by
 simp[bj];rw[kZ]at H⊢;refine⟨λ⟨h,_,_⟩=>?_,λ⟨⟨_,c⟩,h⟩=>⟨?_,H.2,c⟩⟩
 ·rcases h with h|h
  ·have t:=W.tie _ h
   grind
  ·have t:=W.tie _ h
   grind
 lia
theorem Lu(W:dD m ts){p:Int}(c:p∈aU so m.toNat)(l:own so ts m.toNat p=MW)(i:Flat S):kH [ao m ts,.lst ((aU so m.toNat).map D.int),.int p] S=.ok (E2 so ts m.toNat p) S:=by
 have g:(aU so m.toNat).Nodup:=K45.Dy.sublist Nt;have k:(aU so m.toNat).length<=8:=by have:=Nh (λp=> !so.contains p) (bi 0 m.toNat);rw[K45.fP]at this;have:=W.hi;unfold aU;lia
 obtain⟨B,d⟩:=pB g (λa b j=>pH W a b j) c (f:=100) (by lia);have h:=kZ.mp c
 have H:(fc _ _ _ _ _).length<=(bi 0 m.toNat).length:=B.length_le_of_subset λq n=>by rw[pC];have:=jd (wa W) h.1.1 h.1.2 ((d q).mp n);simp_all
 rw[K45.fP]at H;have o:=W.hi;rw[Lo i (by lia) g c (by omega)];have e:=Lf (wa W) h.1.1 h.1.2 h.2 (by simpa[own]using l) (Lm B) λq=>by rw[(Ll _).mem_iff];exact d q
 rw[e];rfl
theorem ff{A:List D}:(S++[A])[S.length]?=some A:=by simp
theorem D0{A B:List D}:(S++[A]).set S.length B=S++[B]:=by simp_all
theorem pI{A:List D}(b:ds.length=np)(h:af Φ Γ body (ds.map some++M3 (n-np) none) S=.ok (.ret (.ref S.length)) (S++[A]))(a:Flat S)(H:bb 0 A=MW):au Φ Γ body n np ds S=.ok (.ref S.length) (S++[A]):=by unfold au;rw[if_pos b,h];dsimp only[cX];rw[O0 rfl,if_pos a.all,if_neg (by dsimp only[aY];simp)];simp only[ff];rw[if_pos ⟨K45.hI A H,Zg _⟩]
noncomputable def ij:CE:=.comp MX ["piece","place"] [none,some 4] (.var 0) (.seq (.var 3)) [] (.emit (.cmp .In (.var 1) (.var 0)))
noncomputable def wb:List CS:=[.ite (.bnot (.blt .any [ij])) [.expr (.meth .append (.var 3) [.call "piece_of" [.var 0,.var 2,.var 4]])] []]
theorem wc{m:Int}{l:Li}{d0 d1 d2:D}{p:Int}(g:l.length<=100):aj eX G0 ij [some d0,some d1,some d2,some (.ref S.length),some (.int p)] (S++[dY so ts k l])=
  .ok (.lst ((l.filter (own so ts k)).map λc=>D.bl (decide (p∈chain so ts k c)))) (S++[dY so ts k l]):=by
 refine fQ (its:=.live ((dY so ts k l).length+1) (cq S.length)) (S1:=S++[dY so ts k l]) ?_ ?_
 ·simp only[aW,aj,Res.bind,Zx,Zu,dr,ff];rfl
 ·have e:=Nh (own so ts k) l;simp[bK];unfold dY;refine Lr ff (by lia) λc f a b=>?_;generalize S++[(l.filter _).map _]=T;have h:=b;have H:iw _ (E2 so ts k c) T=some _:=v_ rfl p;simp[bd,bu,slots,aL,aM,bq,aj,Res.bind,Res.noErr,aF,H,a',h]
theorem D3{S:ae}(B:Flat S){m:Int}{ts:Lq}(W:dD m ts){so:Li}{d1:D}:∀(rest d:Li),aU so m.toNat=d++rest->∀x4:Option D,∃y,
  d_ (λx ρ S=>match aL (.var 4) x ρ with
   |some ρ'=>af eX G0 wb ρ' S
   |none=>.fail) (rest.map D.int) [some (ao m ts),some d1,some (.lst ((aU so m.toNat).map D.int)),some (.ref S.length),x4] (S++[dY so ts m.toNat d])=
  .ok (.next [some (ao m ts),some d1,some (.lst ((aU so m.toNat).map D.int)),some (.ref S.length),y]) (S++[dY so ts m.toNat (d++rest)])
 | [],d,_,x4=>⟨x4,by rw[ZY];rfl⟩
 |p::rest,d,b,x4=>by
  have h:(aU so m.toNat).Pairwise (· < ·):=vZ.sublist Nt;have j:p∈aU so m.toNat:=by rw[b];simp
  obtain⟨⟨P,N⟩,O⟩:=kZ.mp j;have F:=wa W
  have G:(aU so m.toNat).length<=8:=by have:=Nh (λp=> !so.contains p) (bi 0 m.toNat);rw[K45.fP]at this;have:=W.hi;unfold aU;omega
  have t:d.length<=100:=by have:=ZU N4 b;simp at this;omega
  have g:((d.filter (own so ts m.toNat)).any λc=>decide (p∈chain so ts m.toNat c))= !own so ts m.toNat p:=by
   rw[NJ];rw[Ot];have K:=Lg (so:=so) F P N O;have J:(!own so ts m.toNat p)=MW↔nm (fin so ts m.toNat) p≠p:=by simp[own]
   rw[J,<-K];refine⟨λ⟨c,r,n⟩=>?_,λ⟨c,⟨C,Q⟩,n⟩=>?_⟩
   ·obtain⟨i,M⟩:=NI.mp r;have H:c∈aU so m.toNat:=by rw[b];exact ZP _ i
    refine⟨c,⟨(kZ.mp H).1.1,?_⟩,by simpa using n⟩;rw[b]at h;exact(PX.mp h).2.2 c i p Ze
   ·have u:chain so ts m.toNat c≠[]:=λz=>by rw[z]at n;cases n
    obtain⟨I,cn⟩:=(Ld F C (by omega)).mp u;have H:c∈aU so m.toNat:=kZ.mpr ⟨⟨C,by omega⟩,I⟩;rw[b]at H h
    have s:c∈d:=by
     rcases ZE.mp H with z|z
     ·exact z
     ·rcases Zf.mp z with z|z
      ·omega
      ·have:=(Zv.mp (PX.mp h).2.1).1 c z;omega
    exact⟨c,NI.mpr ⟨s,by simp[own,cn]⟩,by simpa using n⟩
  have L:Flat (S++[dY so ts m.toNat d]):=B.snoc (DZ _ _ _ _);have o:=wc (S:=S) (m:=m) (ts:=ts) (so:=so) (l:=d) (k:=m.toNat) (d0:=ao m ts) (d1:=d1) (d2:=.lst ((aU so m.toNat).map D.int)) (p:=p) t
  have r:am eX G0 (.bnot (.blt .any [ij])) [some (ao m ts),some d1,some (.lst ((aU so m.toNat).map D.int)),some (.ref S.length),some (.int p)] (S++[dY so ts m.toNat d])=.ok (own so ts m.toNat p) (S++[dY so ts m.toNat d]):=by
   have f:bg .any [.lst ((d.filter (own so ts m.toNat)).map λc=>D.bl (decide (p∈chain so ts m.toNat c)))] (S++[dY so ts m.toNat d])=.ok (.bl (!own so ts m.toNat p)) (S++[dY so ts m.toNat d]):=by rw[<-g];exact pG
   revert o;generalize ij=E;intro o;simp[am,ai,o,Res.bind,Res.noErr,f,bH]
  have a:af eX G0 wb [some (ao m ts),some d1,some (.lst ((aU so m.toNat).map D.int)),some (.ref S.length),some (.int p)] (S++[dY so ts m.toNat d])=.ok (.next [some (ao m ts),some d1,some (.lst ((aU so m.toNat).map D.int)),some (.ref S.length),some (.int p)]) (S++[dY so ts m.toNat (d++[p])]):=by
   unfold wb;refine(b5 ?_).trans rfl;rw[hJ r];cases v:own so ts m.toNat p with
   |true=>
    rw[if_pos rfl];have w:=Lu W j v L
    have q:gT (.ref S.length) [E2 so ts m.toNat p] (S++[dY so ts m.toNat d])=.ok .non (S++[dY so ts m.toNat (d++[p])]):=by have T:=Nh (own so ts m.toNat) d;unfold gT;simp only[ff];rw[if_pos (by unfold bB dY;simp;omega),D0];unfold dY;simp[RT,v]
    simp[af,ap,aj,ai,Res.bind,Res.noErr,dt,Jm,w,q]
   |false=>
    rw[if_neg NA];have e:dY so ts m.toNat (d++[p])=dY so ts m.toNat d:=by unfold dY;simp[RT,v]
    rw[e,af]
  obtain⟨y,A⟩:=D3 B W (d1:=d1) rest (d++[p]) (by rw[b];simp) (some (.int p));refine⟨y,?_⟩;simp only[ZZ];unfold d_;simp only[aL,bt,NW,NX];rw[a];rw[NH]at A;exact A
theorem Lw(H:Flat S)(W:dD m ts)(o:so.length<=100)(h1:∀p∈so,0<=p/\p<m)(k:so.Pairwise (· < ·)):
  fL [ao m ts,.tup (so.map D.int)] S=.ok (.ref S.length) (S++[dY so ts m.toNat (aU so m.toNat)]):=by
 refine pI rfl ?_ H (DZ _ _ _ _);have i:cY [ao m ts] S=.ok .non S:=K45.vC H W;have j:=Lk (ts:=ts) H o h1 k;have w:=W.lo;have s:=W.hi;unfold oG;refine(b5 (ρ':=[some (ao m ts),some (.tup (so.map D.int)),none,none,none]) (S':=S) (by simp[B4,ap,aj,ai,Res.bind,uP,i])).trans ?_;refine(b5 (ρ':=[some (ao m ts),some (.tup (so.map D.int)),none,none,none]) (S':=S) (by simp[ap,aj,ai,Res.bind,B5,j])).trans ?_;have n:bP (ao m ts) (.int 0) S=.ok (.int m) S:=rfl
 have q:aW eX G0 (.range [.idx (.var 0) (.lit (.int 0))]) [some (ao m ts),some (.tup (so.map D.int)),none,none,none] S=.ok (.items ((bi 0 m.toNat).map D.int)) S:=by simp[aW,ai,aj,Res.bind,Res.noErr,n,K45.vE];omega
 have h:aj eX G0 (.comp MX ["place","some"] [none,some 1] (.var 0) (.range [.idx (.var 0) (.lit (.int 0))]) [.cmp .NotIn (.var 0) (.var 1)] (.emit (.var 0))) [some (ao m ts),some (.tup (so.map D.int)),none,none,none] S=.ok (.lst ((aU so m.toNat).map D.int)) S:=by refine fQ q ?_;refine kQ (f:=D.int) (e:=D.int) (p:=λp=> !so.contains p) (λp r A l=>?_) (by rw[K45.fP];unfold bB;omega);have c:A.length<16777216:=l;have g:iw (.int p) (.tup (so.map D.int)) S=some (decide (p∈so)):=v_ rfl p;by_cases e:p∈so<;>simp[bd,bu,slots,cE,aL,bt,aM,am,bq,aj,Res.bind,Res.noErr,aH,aF,g,a',e,c]
 rw[bJ h];rw[bJ (d:=.ref S.length) (S':=S++[[]]) (by simp[aj,ai,Res.bind])];simp only[NW,NX];obtain⟨y,e⟩:=D3 H W (so:=so) (d1:=.tup (so.map D.int)) (aU so m.toNat) [] rfl none;refine(b5 (ρ':=[some (ao m ts),some (.tup (so.map D.int)),some (.lst ((aU so m.toNat).map D.int)),some (.ref S.length),y]) (S':=S++[dY so ts m.toNat (aU so m.toNat)]) ?_).trans rfl;exact e
noncomputable def aV(l:Li):D:=.tup (l.map D.int)
theorem we{n:Nat}{step:D->List D->ae->Res (List D)}:∀(xs:Li) (acc:List D) (S:ae),Flat S->aP S n->acc.length+xs.length<=1000->
  (∀x∈xs,∀acc S,Flat S->aP S n->acc.length<=1000->∃k S',Drawn n S S'/\step (.int x) acc S=.ok (if k=MW then acc++[.int x]else acc) S')->
  ∃(us:Li) (S':ae),us.Sublist xs/\Drawn n S S'/\aG step (xs.map D.int) acc S=.ok (acc++us.map D.int) S'
 | [],acc,S,b,H,_,_=>⟨[],S,.slnil,.refl H,by simp[aG]⟩
 |t::T,acc,S,b,H,f,h=>by
  simp only[ZC]at f;obtain⟨k,a,d1,E⟩:=h t Ze acc S b H (by omega);simp only[ZZ];unfold aG;rw[E];cases k with
  |true=>obtain⟨us,c,s2,d2,e⟩:=we T (acc++[.int t]) a (d1.flat b) (d1.pen H) (by simp;omega) λu d=>h u (Zb _ d);exact⟨t::us,c,s2.cons_cons t,d1.trans d2,by show aG step (T.map D.int) (acc++[.int t]) a=_;rw[e];simp⟩
  |false=>obtain⟨us,c,s2,d2,e⟩:=we T acc a (d1.flat b) (d1.pen H) (by omega) λu d=>h u (Zb _ d);exact⟨us,c,s2.cons t,d1.trans d2,by show aG step (T.map D.int) acc a=_;rw[e]⟩
structure gD (m:Int)(so:Li):Prop where
 len:so.length<=8
 inn:∀p∈so,0<=p/\p<m
 ris:so.Pairwise (· < ·)
theorem pJ(i:Flat S)(h:aP S n)(M:1<=m)(B:m<=8):∃so S',gD m so/\Drawn n S S'/\hG [.ref n,.int m] S=.ok (.tup (so.map D.int)) S':=by
 obtain⟨r,b,R,F,d1,v⟩:=K45.dF i h (m:=3) (by decide) (by decide);have H:=d1.flat i;have l:=d1.pen h
 obtain⟨u,g,s2,d2,w⟩:=we (n:=n) (step:=λx a g=>match bd (.var 0) x [none,some (.ref n),some (.int (1+r))]with
    |some f=>(aM oS G0 [.cmp .Lt (.call "_law_draw" [.var 1,.lit (.int 4)]) (.var 2)] f g).bind λk o=>if k=MW then bq oS G0 (.emit (.var 0)) f a o else .ok a o
    |none=>.fail) (bi 0 m.toNat) [] b H l (by rw[K45.fP];simp;omega) (λt A a S i h z=>by
     obtain⟨q,S',Q,C,d,e⟩:=K45.dF i h (m:=4) (by decide) (by decide);refine⟨decide (q<1+r),S',d,?_⟩;have s:b3 [.ref n,.int 4] S=.ok (.int q) S':=e;have X:aF .Lt (.int q) (.int (1+r)) S'=.ok (.bl (decide (q<1+r))) S':=rfl;have j:a.length<16777216:=by omega
     by_cases y:q<1+r<;>simp[bd,bu,slots,cE,aL,bt,aM,am,bq,aj,ai,Res.bind,Res.noErr,aH,CC,s,X,y,j])
 have c:=s2.length_le;rw[K45.fP]at c;refine⟨u,g,⟨by omega,λp h=>by have:=pC.mp (s2.subset h);omega,vZ.sublist s2⟩,d1.trans d2,aQ rfl ?_ (d1.trans d2).len (d2.flat H) (K45.gA _)⟩;unfold CB;have E:b3 [.ref n,.int 3] S=.ok (.int r) b:=v;refine(bJ (d:=.int (1+r)) (S':=b) (by simp[u0,aj,ai,Res.bind,Res.noErr,CC,E,fE,fD])).trans ?_;refine b_ (eI (i9 (d:=.lst (u.map D.int)) (S1:=g) ?_ rfl));refine fQ (its:=.items ((bi 0 m.toNat).map D.int)) (S1:=b) ?_ w;simp[u0,aW,ai,aj,Res.bind,K45.vE];omega
theorem D4{step:D->bI->ae->Res Fl}(J:bI->ae->Prop):∀(xs:List D),(∀x∈xs,∀ρ S,J ρ S->∃ρ' S',J ρ' S'/\step x ρ S=.ok (.next ρ') S')->∀ρ S,J ρ S->∃ρ' S',J ρ' S'/\d_ step xs ρ S=.ok (.next ρ') S'
 | [],_,ρ,S,j=>⟨ρ,S,j,rfl⟩
 |x::xs,h,ρ,S,j=>by obtain⟨a,c,f,e⟩:=h x Ze ρ S j;obtain⟨b,d,g,E⟩:=D4 J xs (λy H=>h y (Zb _ H)) a c f;refine⟨b,d,g,?_⟩;dsimp only[d_];rw[e];exact E
theorem pK(so:Li)(ts:Lq)(m:Nat)(l:Li):dY so ts m l=((l.filter (own so ts m)).map (chain so ts m)).map aV:=by rw[ZL];rfl
theorem Ly{A:List D}(h:A.length<bB):gT (.ref T.length) [d] (T++[A])=.ok .non (T++[A++[d]]):=by unfold gT;simp only[ff];rw[if_pos h,D0]
end K45
namespace K45
section
variable {T A:List (List D)}{a u b:Int}{ts c:List Ti}
end
section
variable {u a r:Int}{ts:List Ti}
end
section
variable {u:Int}{ts:List Ti}
end
section
variable {A B C:List D}{P:List (List Ti)}
end
section
variable {ts:List Ti}{P:List (List Ti)}
end
section
variable {c t l w a b:Int}{x8 x9:Option D}
end
section
variable {ts:List Ti}
end
noncomputable def k6(ns:Li):D:=.tup (ns.map D.int)
theorem wf(ns:Li):aY 0 (k6 ns)=MW:=K45.gA _
theorem k7{e:CE}{tg:CT}{rs:α->bI}{it:CE}{ds:List α}{h:α->D}{f:α->D}(n:aW Φ G0 it ρ S=.ok (.items (ds.map h)) S)(o:fr.map (λj=>j.bind λj=>(ρ[j]?).join)=r0)
  (l:∀d∈ds,bd tg (h d) r0=some (rs d)) (q:ds.length<=100000) (m:∀d∈ds,aj Φ G0 e (rs d) S=.ok (f d) S):aj Φ G0 (.comp MX N fr tg it [] (.emit e)) ρ S=.ok (.lst (ds.map f)) S:=by
 refine fQ n ?_;rw[o]
 have:=kQ (p:=λ_=>MW) (e:=f) (S:=S) (step:=λy a i=>match bd _ y _ with
    |some b=>(aM Φ G0 [] b i).bind λk c=>if k=MW then bq Φ G0 (.emit e) b a c else .ok a c
    |none=>.fail) λd g a H=>by rw[l d g];simp[aM,bq,Res.bind,m d g,H] (show ds.length<=16777216 by lia)
 rw[RH.mpr λ_ _=>rfl]at this;exact this
theorem fS{b:jj}{e:CE}{r:D}(h:aj Φ G0 e ρ S=.ok d S)(H:bg b [d] S=.ok r S):aj Φ G0 (.blt b [e]) ρ S=.ok r S:=by simp[aj,ai,h,Res.bind,H,Res.noErr]
theorem allAt{ds:List α}{f:α->Bool}:bg .all [.lst (ds.map λd=>.bl (f d))] S=.ok (.bl (ds.all f)) S:=by show a' (a8 ((ds.map λd=>D.bl (f d)).map eP)) S=_;rw[ZL];have:a8 (ds.map (eP∘λd=>D.bl (f d)))=some (ds.all f):=allO_map;rw[this];rfl
theorem ik{b:jj}{es:List CE}{k:Bool}(h:aj Φ G0 (.blt b es) ρ S=.ok (.bl k) S):am Φ G0 (.blt b es) ρ S=.ok k S:=by
 simp only[aj]at h;dsimp only[am];cases e:ai _ _ _ _ S with
 |ok D a=>
  rw[e]at h;dsimp[Res.bind]at h⊢;cases E:bg b _ _ with
  |ok d c=>rw[E]at h;cases h;rfl
  |err x c=>rw[E]at h;cases h
  |fail=>rw[E]at h;cases h
 |err x a=>rw[e]at h;cases h
 |fail=>rw[e]at h;cases h
theorem k8{e:CE}(h:aj Φ G0 e ρ S=.ok d S)(H:dr S d=some (.items ds)):aW Φ G0 (.seq e) ρ S=.ok (.items ds) S:=by rw[aW,h];simp[Res.bind,H]
theorem k9{i:Nat}(h:ρ[i]?=some (some d)):aj Φ G0 (.var i) ρ S=.ok d S:=by simp[aj,h]
theorem ax:aj Φ G0 (.lit d) ρ S=.ok d S:=rfl
theorem dR{a b:CE}{x e:D}(h1:aj Φ G0 a ρ S=.ok d S1)(h:aj Φ G0 b ρ S1=.ok e S2)(H:bP d e S2=.ok x S2):aj Φ G0 (.idx a b) ρ S=.ok x S2:=by simp[aj,h1,h,Res.bind,H,Res.noErr]
theorem fT{o:QF}{a b:CE}{x e:D}(h1:aj Φ G0 a ρ S=.ok d S1)(h:aj Φ G0 b ρ S1=.ok e S2)(H:fE o d e S2=.ok x S2):aj Φ G0 (.bin o a b) ρ S=.ok x S2:=by simp[aj,h1,h,Res.bind,H,Res.noErr]
theorem k_{o:O5}{a b:CE}{x e:D}(h1:aj Φ G0 a ρ S=.ok d S1)(h:aj Φ G0 b ρ S1=.ok e S2)(H:aF o d e S2=.ok x S2):aj Φ G0 (.cmp o a b) ρ S=.ok x S2:=by simp[aj,h1,h,Res.bind,H,Res.noErr]
theorem bn{e:CE}{k:Bool}(h:am Φ G0 e ρ S=.ok k S):am Φ G0 (.bnot e) ρ S=.ok (!k) S:=by simp[am,h,Res.bind]
theorem gE{c:CE}{cs:List CS}(h:am Φ G0 c ρ S=.ok MW S):af Φ G0 (.ite c [.ret (.lit (.bl MX))] []::cs) ρ S=.ok (.ret (.bl MX)) S:=by refine b_ ?_;rw[hJ h];rfl
theorem fg{c:CE}{cs:List CS}(h:am Φ G0 c ρ S=.ok MX S):af Φ G0 (.ite c [.ret (.lit (.bl MX))] []::cs) ρ S=af Φ G0 cs ρ S:=by refine b5 ?_;rw[hJ h];rfl
theorem eN{a b:CE}{x y:Bool}(h1:am Φ G0 a ρ S=.ok x S)(h:am Φ G0 b ρ S=.ok y S):am Φ G0 (.bor a b) ρ S=.ok (x||y) S:=by simp[am,Res.bind];lia
theorem eO{a b:CE}(h1:am Φ G0 a ρ S=.ok MW S):am Φ G0 (.bor a b) ρ S=.ok MW S:=by simp only[am,h1,Res.bind,if_true]
theorem la{o:O5}{a b:CE}{e:D}{k:Bool}(h1:aj Φ G0 a ρ S=.ok d S)(h:aj Φ G0 b ρ S=.ok e S)(H:aF o d e S=.ok (.bl k) S):am Φ G0 (.cmp o a b) ρ S=.ok k S:=by simp[am,h1,h,Res.bind,H,Res.noErr,aH]
theorem pL{f:Str}{a:CE}{x:D}{k:Bool}(H:Φ f=some φ)(h1:aj Φ G0 a ρ S=.ok x S)(h:φ [x] S=.ok (.bl k) S):am Φ G0 (.call f [a]) ρ S=.ok k S:=by simp[am,ai,H,h1,Res.bind,h,bH]
theorem Lz:gr=K45.gr:=rfl
noncomputable def gF(m:Int):D->Bool
 | .tup [.int a,.int b]=>decide (0<=a/\a<b/\b<m)
 |_=>MX
theorem D5{e:D}(h:vQ e)(m:Int):gF m e=MX:=by
 unfold gF;split
 ·obtain⟨_,_,q⟩:=h.tu _ rfl;rcases q with q|q
  ·exact absurd rfl q
  ·cases q
 ·rfl
theorem wg{m:Int}:∀{es:List D},es.all (gF m)=MW->∃ps,es=ag ps
 | [],_=>⟨[],rfl⟩
 |e::es,h=>by
  simp only[Of,ZN]at h;obtain⟨ps,rfl⟩:=wg h.2;have H:=h.1;unfold gF at H;split at H
  ·rename_i a b;exact⟨(a,b)::ps,rfl⟩
  trivial
noncomputable def frB:D->Bool
 | .int i=>decide (1<=i/\i<=8)
 |_=>MX
theorem pM(H:Flat S){a:D}(h:Kn a):gu [a,.int 1,.int 8] S=.ok (.bl (frB a)) S:=by
 rcases h.isI_or with⟨i,rfl⟩| ⟨b,d⟩
 ·exact K45.vA H i 1 8
 ·have c:=K45.kR H h;rw[b,<-Lz]at c;have:frB a=MX:=by cases a<;>first|rfl|cases b
  rw[this];refine aQ rfl ?_ rfl H rfl;simp[ov,af,ap,aj,ai,Res.bind,aH,uE,c]
theorem cO{i:Nat}{k:Bool}(h:ρ[i]?=some (some d))(H:fG [d,.ty "tuple"] S=.ok (.bl k) S):am Φ G0 (.blt .isinst [.var i,.ty "tuple"]) ρ S=.ok k S:=by have H:bg .isinst [d,.ty "tuple"] S=.ok (.bl k) S:=H;exact ik (by simp only[aj,ai,h,Res.bind,H,Res.noErr])
theorem gG{i:Nat}(h:ρ[i]?=some (some (.tup xs))):am Φ G0 (.cmp .NotEq (.blt .len [.var i]) (.lit (.int 2))) ρ S=.ok (!(decide (xs.length=2))) S:=by
 have H:bg .len [.tup xs] S=.ok (.int (xs.length:Nat)) S:=rfl;refine la (fS (al h) H) ax ?_;have:aF .NotEq (.int (xs.length:Nat)) (.int 2) S=.ok (.bl (!(((xs.length:Nat):Int)==2))) S:=rfl;rw[this];have e:(((xs.length:Nat):Int)==2)=decide (xs.length=2):=by lia
 rw[e]
theorem wh:iV=[.ite BP [.ret (.lit (.bl MX))] [],.asgT (.tup [.var 1,.var 2]) (.var 0),.ite Jc [.ret (.lit (.bl MX))] [],.ret (.band (.blt .all [xi]) (.call "is_rising" [.var 2]))]:=rfl
theorem lb(e:Flat S){a b:D}(h:Kn a):am da G0 (.call "is_number_from" [.var 1,.lit (.int 1),.glob "MOST_PLACES"]) [some d,some a,some b] S=.ok (frB a) S:=by have H:=pM e h;have c:G0 "MOST_PLACES"=some (.int 8):=rfl;simp only[am,aj,ai,Res.bind,Zx,Zu,c,BR,H,bH]
theorem lc(H:Flat S)(h:am da G0 BP [some d,none,none] S=.ok MW S):db [d] S=.ok (.bl MX) S:=by refine aQ rfl ?_ rfl H rfl;show af da G0 iV [some d,none,none] S=_;rw[wh];exact gE h
theorem wj(H:Flat S)(h:NT d):db [d] S=.ok (.bl MX) S:=lc H (eO (bn (cO rfl (h S))))
theorem D6(H:Flat S)(h:xs.length≠2):db [.tup xs] S=.ok (.bl MX) S:=lc H (by have:=eN (Φ:=da) (bn (cO (i:=0) (S:=S) (d:=.tup xs) (ρ:=[some (.tup xs),none,none]) (k:=MW) rfl rfl)) (gG (i:=0) (xs:=xs) rfl);rw[ZD h]at this;exact this)
theorem D7{a b:D}{cs:List CS}:af da G0 (.ite BP [.ret (.lit (.bl MX))] []:: .asgT (.tup [.var 1,.var 2]) (.var 0)::cs) [some (.tup [a,b]),none,none] S=af da G0 cs [some (.tup [a,b]),some a,some b] S:=by have:=eN (Φ:=da) (bn (cO (i:=0) (S:=S) (d:=.tup [a,b]) (ρ:=[some (.tup [a,b]),none,none]) (k:=MW) rfl rfl)) (gG (i:=0) (xs:=[a,b]) rfl);refine(fg this).trans ?_;refine b5 ?_;rw[ap,al (d:=.tup [a,b]) rfl];rfl
theorem D8(c:Flat S){a b:D}(f:Kn a)(h:frB a=MX\/NT b):db [.tup [a,b]] S=.ok (.bl MX) S:=by
 refine aQ rfl ?_ rfl c rfl;show af da G0 iV [some (.tup [a,b]),none,none] S=_;simp only[wh,D7];have H:=lb (b:=b) (d:=.tup [a,b]) c f;refine gE ?_;cases e:frB a with
 |false=>rw[e]at H;exact eO (bn H)
 |true=>
  rw[e]at h H;rcases h with h|h
  ·cases h
  ·exact eN (bn H) (bn (cO rfl (h S)))
theorem LA(H:Flat S){e:D}(h:Item e):eD [.int m,e] S=.ok (.bl (gF m e)) S:=by
 rcases h with⟨t,rfl⟩|h
 ·exact K45.K5 H m t
 ·rw[D5 h];exact K45.K4 H m h
theorem pN(c:Flat S){es:List D}{k:Bool}(o:1<=m/\m<=8)(j:∀e∈es,Item e)(n:es.length<=1000)(l:es.all (gF m)=MW->b9 [.tup es] S=.ok (.bl k) S):db [.tup [.int m,.tup es]] S=.ok (.bl (es.all (gF m)&&k)) S:=by
 refine aQ rfl ?_ rfl c rfl;show af da G0 iV [some (.tup [.int m,.tup es]),none,none] S=_;rw[wh,D7];have g:=lb (a:=.int m) (b:=.tup es) (d:=.tup [.int m,.tup es]) c (.inl ⟨m,rfl⟩);rw[show frB (.int m)=MW from ZK o]at g;refine(fg (eN (bn g) (bn (cO (k:=MW) rfl rfl)))).trans ?_
 have H:aj da G0 (.blt .all [xi]) [some (.tup [.int m,.tup es]),some (.int m),some (.tup es)] S=.ok (.bl (es.all (gF m))) S:=vP (S:=S) (vN (S:=S) (rs:=[some (.int m)]) (f:=gF m) (vO rfl) rfl n λe i=>by have h:=LA c (m:=m) (j e i);trivial);show af da G0 [.ret (.band (.blt .all [xi]) (.call "is_rising" [.var 2]))] [some (.tup [.int m,.tup es]),some (.int m),some (.tup es)] S=_;refine b_ (eI ?_);generalize CE.blt .all [xi]=q at H⊢;cases e:es.all (gF m)with
 |false=>rw[e]at H;simp only[aj,H,Res.bind,aH,ZA,if_false,Bool.false_and]
 |true=>rw[e]at H;simp only[aj,ai,H,Res.bind,aH,BQ,l e,if_true,Bool.true_and,Zx,Zu]
theorem D_:o3=[.ite xk [.ret (.lit (.bl MX))] [],.ite (.bnot (.blt .isinst [gM,.ty "tuple"])) [.ret (.lit (.bl MX))] [],.for_ (.var 1) (.seq gM) qU,.ret (.cmp .Eq (.blt (.list MX) [gM]) (.sset gM))]:=rfl
theorem lf(H:Flat S)(h:am bz G0 xk [some d,none] S=.ok MW S):eZ [d] S=.ok (.bl MX) S:=by refine aQ rfl ?_ rfl H rfl;show af bz G0 o3 [some d,none] S=_;rw[D_];exact gE h
theorem Ea(H:Flat S)(h:NT d):eZ [d] S=.ok (.bl MX) S:=lf H (eO (bn (cO rfl (h S))))
theorem wk(a:Flat S)(h:xs.length≠2):eZ [.tup xs] S=.ok (.bl MX) S:=lf a (by have H:=gG (Φ:=bz) (S:=S) (ρ:=[some (.tup xs),none]) (i:=0) (xs:=xs) rfl;rw[ZD h]at H;exact eN (bn (cO (k:=MW) rfl rfl)) (eO H))
theorem pO(H:Flat S){a b:D}{x:Option D}(h:Kn a):am bz G0 (.call "_law_whole" [xj]) [some (.tup [a,b]),x] S=.ok (gN a) S:=
 pL JT (dR (al rfl) ax rfl) (K45.kR H h)
theorem lg(f:Flat S){a b:D}(h:Kn a):am bz G0 xk [some (.tup [a,b]),none] S=.ok (!(frB a)) S:=by
 have H:=pO (b:=b) (x:=none) f h
 have e:∀y,am bz G0 (.bor (.bnot (.call "_law_whole" [xj])) (.bnot EZ)) [some (.tup [a,b]),none] S=.ok y S->am bz G0 xk [some (.tup [a,b]),none] S=.ok y S:=λy j=>
  eN (bn (cO (k:=MW) rfl rfl)) (eN (gG (xs:=[a,b]) rfl) j)
 refine e _ ?_;rcases h.isI_or with⟨i,rfl⟩| ⟨c,l⟩
 ·have g:am bz G0 EZ [some (.tup [.int i,b]),none] S=.ok (decide (1<=i/\i<=8)) S:=by
   have d1:aj bz G0 xj [some (.tup [.int i,b]),none] S=.ok (.int i) S:=dR (al rfl) ax rfl;have C:aF .LtE (.int 1) (.int i) S=.ok (.bl (decide (1<=i))) S:=rfl;have d:aF .LtE (.int i) (.int 8) S=.ok (.bl (decide (i<=8))) S:=rfl;unfold EZ;simp only[am,aj,d1,Res.bind,C,d,Res.noErr,aH];by_cases q:1<=i<;>simp[q]
  exact eN (bn H) (bn g)
 ·rw[c]at H;have:frB a=MX:=by cases a<;>first|rfl|cases c
  rw[this];exact eO (bn H)
theorem lh(c:Flat S){a b:D}(d:Kn a)(h:frB a=MX\/NT b):eZ [.tup [a,b]] S=.ok (.bl MX) S:=by
 have H:=lg (b:=b) c d;cases e:frB a with
 |false=>rw[e]at H;exact lf c H
 |true=>
  rw[e]at h H;rcases h with h|h
  ·cases h
  ·refine aQ rfl ?_ rfl c rfl;refine(fg H).trans (gE (bn (k:=MX) (ik ?_)));have f:bg .isinst [b,.ty "tuple"] S=.ok (.bl MX) S:=h S;have d1:aj bz G0 gM [some (.tup [a,b]),none] S=.ok b S:=dR (al rfl) ax rfl;show aj bz G0 (.blt .isinst [gM,.ty "tuple"]) [some (.tup [a,b]),none] S=_;simp only[aj,ai,d1,Res.bind,f,Res.noErr]
theorem LB{a b c d:CE}{i j k l:Int}(h1:aj Φ G0 a ρ S=.ok (.int i) S)(h:aj Φ G0 b ρ S=.ok (.int j) S)(H:aj Φ G0 c ρ S=.ok (.int k) S)(g:aj Φ G0 d ρ S=.ok (.int l) S):am Φ G0 (.chain3 .LtE .Lt .Lt a b c d) ρ S=.ok (decide (i<=j/\j<k/\k<l)) S:=by have C:aF .LtE (.int i) (.int j) S=.ok (.bl (decide (i<=j))) S:=rfl;have e:aF .Lt (.int j) (.int k) S=.ok (.bl (decide (j<k))) S:=rfl;have f:aF .Lt (.int k) (.int l) S=.ok (.bl (decide (k<l))) S:=rfl;simp only[am,h1,h,H,g,Res.bind,C,e,f,Res.noErr,aH];by_cases q:i<=j<;>by_cases Q:j<k<;>simp[q,Q]
theorem Eb(a:Flat S)(h:∀x∈xs,Kn x)(c:xs.length<=1000):am bz G0 JS [some d,some (.tup xs)] S=.ok (!(decide (xs.length=2)&&xs.all gN)) S:=by have H:aj bz G0 (.blt .all [Mt]) [some d,some (.tup xs)] S=.ok (.bl (xs.all gN)) S:=vP (S:=S) (vN (S:=S) (rs:=[]) (f:=gN) (vO rfl) rfl c λd b=>by have e:gw [d] S=.ok (.bl (gN d)) S:=K45.kR a (h d b);trivial);have:=eN (bn (cO (Φ:=bz) (S:=S) (ρ:=[some d,some (.tup xs)]) (i:=1) (d:=.tup xs) (k:=MW) rfl rfl)) (eN (gG (i:=1) (xs:=xs) rfl) (bn (ik H)));refine Eq.trans this ?_;simp
theorem pP(b:Flat S){T e:D}(h:Item e):af bz G0 qU [some (.tup [.int m,T]),some e] S=if gF m e=MW then .ok (.next [some (.tup [.int m,T]),some e]) S else .ok (.ret (.bl MX)) S:=by
 rcases h with⟨t,rfl⟩|h
 ·have a:am bz G0 JS [some (.tup [.int m,T]),some (ay t)] S=.ok MX S:=Eb b (xs:=[.int t.1,.int t.2]) (by intro x c;simp at c;rcases c with rfl|rfl<;>exact .inl ⟨_,rfl⟩) (by simp);have H:am bz G0 Mu [some (.tup [.int m,T]),some (ay t)] S=.ok (gF m (ay t)) S:=LB ax (dR (al rfl) ax rfl) (dR (al rfl) ax rfl) (dR (al rfl) ax rfl);refine(fg a).trans ?_;cases e:gF m (ay t)with
  |true=>rw[e]at H;exact(fg (bn H)).trans rfl
  |false=>rw[e]at H;exact gE (bn H)
 ·rw[D5 h];refine gE ?_;rcases h.kn.nt with d| ⟨X,rfl⟩
  ·exact eO (bn (cO rfl (d S)))
  ·obtain⟨a,H,q⟩:=h.tu X rfl;refine(Eb b a H).trans ?_;simp_all
theorem Ec(a:Flat S){m:Int}{T:D}:∀(es:List D) (x:Option D),(∀e∈es,Item e)->if es.all (gF m)=MW then ∃y,d_ (λx ρ S=>match aL (.var 1) x ρ with
   |some ρ'=>af bz G0 qU ρ' S
   |none=>.fail) es [some (.tup [.int m,T]),x] S=.ok (.next [some (.tup [.int m,T]),y]) S else d_ (λx ρ S=>match aL (.var 1) x ρ with
   |some ρ'=>af bz G0 qU ρ' S
   |none=>.fail) es [some (.tup [.int m,T]),x] S=.ok (.ret (.bl MX)) S
 | [],x,_=>⟨x,rfl⟩
 |e::es,x,h=>by
  have H:=pP a (m:=m) (T:=T) (h e Ze);have i:=Ec a (m:=m) (T:=T) es (some e) λz d=>h z (Zb _ d);have b:aL (.var 1) e [some (.tup [.int m,T]),x]=some [some (.tup [.int m,T]),some e]:=rfl;rw[Of];cases c:gF m e with
  |false=>rw[c]at H;unfold d_;rw[b];dsimp only;rw[H];rfl
  |true=>rw[c]at H;unfold d_;rw[b];dsimp only;rw[H];exact i
noncomputable def xm(t:Int×Int):Li:=[t.1,t.2]
theorem Ed:∀{l:List (Li)},(∀k∈l,∃t,k=xm t)->∃rs:Lq,l=rs.map xm
 | [],_=>⟨[],rfl⟩
 |k::l,h=>by obtain⟨t,rfl⟩:=h k Ze;obtain⟨rs,rfl⟩:=Ed λz H=>h z (Zb _ H);exact⟨t::rs,rfl⟩
theorem LC(s:ps.length<64):∃q,cG (.tup (ag ps)) S=.ok (.lst (ag q)) S/\q.Pairwise aC/\∀t,t∈q↔t∈ps:=by
 cases ps with
 |nil=>exact⟨[],rfl,.nil,λ_=>Iff.rfl⟩
 |cons p ps=>
  have g:(ag (p::ps)).map fm=(p::ps).map xm:=by unfold ag;rw[ZL];exact RG λt _=>rfl
  obtain⟨n,N⟩:=Ar ((p::ps).map xm);obtain⟨r,E⟩:=Ed (l:=jO ((p::ps).map xm)) λk i=>by obtain⟨t,_,e⟩:=Zo.mp ((N k).mp i);exact⟨t,e.symm⟩
  have j:r.Nodup:=by rw[E]at n;exact(Nr.mp n).imp λh e=>h (by rw[e])
  refine⟨sortI r,?_,K45.Du j,λt=>?_⟩
  ·have C:(ag (p::ps)).all (aq (.seq .int))=MW/\(ag (p::ps)).length<64/\((ag (p::ps)).all λd=> !fk d)=MW:=by
    refine⟨Zn.mpr λx f=>?_,by unfold ag;rw[Zk];omega,Zn.mpr λx f=>?_⟩<;>
    ·obtain⟨t,_,rfl⟩:=Zo.mp f;rfl
   have m:cG (.tup (ag (p::ps))) S=.ok (.lst (dW ((ag (p::ps)).map fm))) S:=by
    unfold cG
    first
     |exact(if_neg o).trans (if_pos C)
     |exact if_pos C
   rw[m,g];unfold dW;rw[E,ZL,<-K45.Dm];rfl
  ·rw[(K45.vG r).mem_iff];have:=N (xm t);rw[E]at this;constructor
   ·intro h;obtain⟨u,H,e⟩:=Zo.mp (this.mp (P8 h));obtain⟨a,b⟩:=u;obtain⟨c,d⟩:=t;cases e;exact H
   ·intro h;obtain⟨u,H,e⟩:=Zo.mp (this.mpr (P8 h));obtain⟨a,b⟩:=u;obtain⟨c,d⟩:=t;cases e;exact H
theorem pQ:∀{l k:Lq},l.Pairwise aC->k.Pairwise aC->(∀p,p∈l↔p∈k)->l=k:=λ{l k} H c h=>by
 refine O8 (le:=aC) (λx y _ _ H c=>?_) H c ?_
 ·unfold aC at H c;lia
 ·have n:∀{l:Lq},l.Pairwise aC->l.Nodup:=λh=>h.imp λ{a b} h e=>by
   subst e;unfold aC at h;simp_all
  exact(Oq (n H) (n c)).mpr h
theorem wl(a b:Lq):aF .Eq (.lst (ag a)) (.lst (ag b)) S=.ok (.bl (decide (a=b))) S:=by
 by_cases h:a.length=b.length
 ·exact K45.vS a b h
 ·show a' (if(ag a).length=(ag b).length then a8 (M1 (cb S 39) (ag a) (ag b))else some MX) S=_;rw[if_neg (by unfold ag;rw[Zk,Zk];exact h),ZD λe=>h (by rw[e])];rfl
theorem wm(f:Flat S){es:List D}(l:1<=m/\m<=8)(i:∀e∈es,Item e)(j:es.length<64):∃k,db [.tup [.int m,.tup es]] S=.ok (.bl k) S/\eZ [.tup [.int m,.tup es]] S=.ok (.bl k) S:=by
 have v:am bz G0 xk [some (.tup [.int m,.tup es]),none] S=.ok MX S:=by have:=lg (b:=.tup es) f (a:=.int m) (.inl ⟨m,rfl⟩);rw[show frB (.int m)=MW from ZK l]at this;exact this
 have dT:∀x,aj bz G0 gM [some (.tup [.int m,.tup es]),x] S=.ok (.tup es) S:=λx=>dR (al rfl) ax rfl;have w:am bz G0 (.bnot (.blt .isinst [gM,.ty "tuple"])) [some (.tup [.int m,.tup es]),none] S=.ok MX S:=rfl;have q:aW bz G0 (.seq gM) [some (.tup [.int m,.tup es]),none] S=.ok (.items es) S:=K45.k8 (dT none) rfl;have H:=Ec f (m:=m) (T:=.tup es) es none i
 have c:∀{F:Bool},af bz G0 [.for_ (.var 1) (.seq gM) qU,.ret (.cmp .Eq (.blt (.list MX) [gM]) (.sset gM))] [some (.tup [.int m,.tup es]),none] S=.ok (.ret (.bl F)) S->eZ [.tup [.int m,.tup es]] S=.ok (.bl F) S:=λ{F} h=>by refine aQ rfl ?_ rfl f rfl;show af bz G0 o3 [some (.tup [.int m,.tup es]),none] S=_;rw[D_];exact(fg v).trans ((fg w).trans h)
 cases g:es.all (gF m)with
 |false=>rw[g,if_neg (by decide)]at H;refine⟨MX,?_,c (b_ (Eq.trans (vD (t:=.var 1) (body:=qU) q) H))⟩;have:=pN f (k:=MX) l i (by omega) (λz=>by rw[g]at z;cases z);rw[g]at this;exact this
 |true=>
  rw[g,if_pos rfl]at H;obtain⟨y,H⟩:=H;obtain⟨P,rfl⟩:=wg g;have n:P.length<64:=by unfold ag at j;rw[Zk]at j;exact j
  have B:=K45.DI (S:=S) f (ps:=P) (by omega);refine⟨eK P,?_,c ((b5 (Eq.trans (vD (t:=.var 1) (body:=qU) q) H)).trans (b_ (eI ?_)))⟩
  ·have:=pN f (k:=eK P) l i (by omega) λ_=>B;rw[g]at this;exact this
  ·obtain⟨Q,s,E,u⟩:=LC (S:=S) n;have d1:=dT y
   have A:decide (P=Q)=eK P:=by rw[NJ,decide_eq_true_eq,K45.DH];exact⟨λe=>by rw[e];exact E,λh=>pQ h E λp=>(u p).symm⟩
   refine k_ (d:=.lst (ag P)) (e:=.lst (ag Q)) (S1:=S) (fS d1 rfl) ?_ (by rw[wl,A]);rw[aj];refine Eq.trans (ZU (λr=>Res.bind r λd o=>(cG d o).noErr) d1) ?_;show(cG (.tup (ag P)) S).noErr=_;rw[s];rfl
structure ck (d:D):Prop where
 is:NT d\/∃xs,d=.tup xs/\(xs.length≠2\/∃a b,xs=[a,b]/\Kn a/\(NT b\/∃es,b=.tup es/\(∀e∈es,Item e)/\es.length<64))
 lo:aY 0 d=MW
theorem pR(b:Flat S)(ns:Li):∃c:Int,iX [.scr (ns.map D.int),.int 0] S=.ok (.int c) S:=by
 cases ns with
 |nil=>exact⟨0,aQ rfl rfl rfl b rfl⟩
 |cons n ns=>
  refine⟨n,aQ rfl ?_ rfl b rfl⟩;have h:dM [.scr ((n::ns).map D.int)] S=.ok (.int ((n::ns).map D.int).length) S:=rfl
  have H:aF .Lt (.int 0) (.int ((n::ns).map D.int).length) S=.ok (.bl MW) S:=by have:aF .Lt (.int 0) (.int ((n::ns).map D.int).length) S=.ok (.bl (decide ((0:Int)<((n::ns).map D.int).length))) S:=rfl;simp_all
  have a:bP (.scr ((n::ns).map D.int)) (.int 0) S=.ok (.int n) S:=by
   unfold bP;have:gL ((n::ns).map D.int) 0=some (.int n):=by unfold gL hX;simp
   simp only[av,this]
  generalize(n::ns).map D.int=x at h H a;simp[Cv,af,ap,am,aj,ai,Res.bind,Res.noErr,aH,bg,h,H,a]
theorem wn(h:Flat S)(c:Int):∃b:Int,iY [.int c] S=.ok (.ref S.length) (S++[[.int c,.int b]]):=by refine⟨if decide ((10:Int)^18<=c)=MW then 1 else 0,?_⟩;have e:af uW G0 uV ([D.int c].map some++M3 (uU.length-1) none) S=.ok (.ret (.ref S.length)) (S++[[.int c,.int (if decide ((10:Int)^18<=c)=MW then 1 else 0)]]):=rfl;show au uW G0 uV uU.length 1 [.int c] S=_;unfold au;rw[if_pos (show [D.int c].length=1 from rfl),e];show cX S.length (.ref S.length) _=_;unfold cX;rw[O0 rfl,if_pos h.all,if_neg (by unfold aY;simp)];simp[bb,aY]
section
variable {l:List D}{a:Int}{o:D}
theorem cP:ai Φ G0 [] ρ S=.ok [] S:=by rw[ai]
theorem aR{e:CE}{es:List CE}(h1:aj Φ G0 e ρ S=.ok d S)(h:ai Φ G0 es ρ S=.ok ds S):ai Φ G0 (e::es) ρ S=.ok (d::ds) S:=by simp only[ai,h1,h,Res.bind]
theorem fh{es:List CE}(h:ai Φ G0 es ρ S=.ok ds S):aj Φ G0 (.tup es) ρ S=.ok (.tup ds) S:=by simp only[aj,h,Res.bind]
theorem ls{es:List CE}(h:ai Φ G0 es ρ S=.ok ds S):aj Φ G0 (.lst MX es) ρ S=.ok (.lst ds) S:=by simp only[aj,h,Res.bind,ZA,if_false]
theorem Mw{es:List CE}(h:ai Φ G0 es ρ S=.ok ds S):aj Φ G0 (.lst MW es) ρ S=.ok (.ref S.length) (S++[ds]):=by simp only[aj,h,Res.bind,if_true]
theorem xn:aj Φ G0 (.neg (.lit (.int 1))) ρ S=.ok (.int (-1)) S:=by rw[aj];rfl
theorem o0:(ai Φ G0 [] ρ S).bind cS=.ok none S:=by rw[ai];rfl
theorem o1{e:CE}{i:Int}(h:aj Φ G0 e ρ S=.ok (.int i) S):(ai Φ G0 [e] ρ S).bind cS=.ok (some i) S:=by simp only[ai,h,Res.bind];rfl
theorem jm{e:CE}{L H:List CE}{x y:Option Int}(h:aj Φ G0 e ρ S=.ok (.tup l) S)(h1:(ai Φ G0 L ρ S).bind cS=.ok x S)(c:(ai Φ G0 H ρ S).bind cS=.ok y S):aj Φ G0 (.sl e L H) ρ S=.ok (.tup (a9 l x y)) S:=by rw[aj,h];show(((ai Φ G0 L ρ S).bind cS).bind λd b=>((ai Φ G0 H ρ b).bind cS).bind λh a=>(mm (.tup l) d h a).noErr)=_;rw[h1];show(((ai Φ G0 H ρ S).bind cS).bind λh a=>(mm (.tup l) x h a).noErr)=_;rw[c];rfl
theorem gO{e f:CE}{p q:List D}(h1:aj Φ G0 e ρ S=.ok (.tup p) S)(H:aj Φ G0 f ρ S=.ok (.tup q) S)(h:p.length+q.length<=1000):aj Φ G0 (.bin .Add e f) ρ S=.ok (.tup (p++q)) S:=fT h1 H (py h)
theorem d1{e:CE}{i:Int}(h:aj Φ G0 e ρ S=.ok (.int i) S):aj Φ G0 (.bin .Add e (.lit (.int 1))) ρ S=.ok (.int (i+1)) S:=fT h ax rfl
theorem d2{e:CE}{i:Int}(h:aj Φ G0 e ρ S=.ok (.int i) S):aj Φ G0 (.bin .Add e (.lit (.int 2))) ρ S=.ok (.int (i+2)) S:=fT h ax rfl
theorem LD{e:CE}{i:Int}(h:aj Φ G0 e ρ S=.ok (.int i) S):aj Φ G0 (.bin .Sub e (.lit (.int 1))) ρ S=.ok (.int (i-1)) S:=fT h ax rfl
theorem LF:aj Φ G0 (.bin .Pow (.lit (.int 10)) (.lit (.int 30))) ρ S=.ok (.int (10^30)) S:=fT ax ax rfl
theorem Ee{R:ae}(b:Flat (S++R))(d:aP S n){c:Int}(a:0<c)(h1:c<1000):∃r S',0<=r/\r<c/\Drawn n S S'/\b3 [.ref n,.int c] (S++R)=.ok (.int r) (S'++R):=by obtain⟨x,y,H⟩:=d;have h:=(Zl.mp H).1;obtain⟨r,T,f,g,⟨u,v,rfl⟩,e⟩:=dF b (n:=n) ⟨x,y,by rw[ZX h];exact H⟩ a h1;exact⟨r,S.set n [.int u,.int v],f,g,⟨u,v,rfl⟩,by simp only[e,Ry _ _ h]⟩
theorem pS{R:ae}(H:Flat (S++R))(g:aP S n){e:CE}{c:Int}(h:0<c)(h1:c<1000)(i:ρ[0]?=some (some (.ref n)))(f:aj bw G0 e ρ (S++R)=.ok (.int c) (S++R)):∃r S',0<=r/\r<c/\Drawn n S S'/\aj bw G0 (fN e) ρ (S++R)=.ok (.int r) (S'++R):=by obtain⟨r,S',a,b,c,d⟩:=Ee H g h h1;exact⟨r,S',a,b,c,K45.gB JN (al i) f d⟩
theorem pU(l:List D)(k:Nat):(a9 l (some (k:Int)) (some ((k:Int)+1))).length<=1:=by
 have e:((k:Int)+1)=((k+1:Nat):Int):=by rfl
 rw[e];unfold a9;have g:∀n d (k:Nat),HT.cc n d (some (k:Int))=min k n:=λ_ _ _=>rfl;simp only[g,OR];omega
def IL(c:Nat)(xs:List D):Prop:=xs.length<=c/\∀e∈xs,It e
theorem IL.cut{c:Nat}(h:IL c l)(x y:Option Int):IL c (a9 l x y):=⟨Zy (DL l x y) h.1,λe H=>h.2 e ((vT l x y).subset H)⟩
theorem IL.app{b c:Nat}(h:IL b xs)(h':IL c ys):IL (b+c) (xs++ys):=⟨by rw[Zm];have:=h.1;have:=h'.1;lia,λe H=>(ZE.mp H).elim (h.2 e) (h'.2 e)⟩
theorem IL.one(h:It o):IL 1 [o]:=⟨Zg _,λe H=>by rw[NV.mp H];exact h⟩
theorem IL.fine{c:Nat}(h:IL c l)(H:c<64):dc (.tup l):=ja (by have:=h.1;omega) h.2
theorem IL.at_(h:IL 28 l)(k:Nat):IL 1 (a9 l (some (k:Int)) (some ((k:Int)+1))):=⟨pU l k,(h.cut _ _).2⟩
theorem LG:u4=[.asgT (.tup [.var 2,.var 3]) (.var 1),.asg 4 (fN (.bin .Add (.blt .len [.var 3]) (.lit (.int 1)))),.asg 5 (.lst MX oT),.asg 5 (.idx (.bin .Add (.var 5) (.lst MX oU)) (fN (.lit (.int 15)))),.asg 6 (.lst MW oV),.expr (.meth .append (.var 6) [oW]),.asg 6 (.catB (.var 6) (.lst MX oX)),.asg 7 oY,.expr (.meth .append (.var 6) [oZ]),.ite (.cmp .Gt (fN (.lit (.int 3))) (.lit (.int 0))) [.ret (.tup [.var 2,.idx (.var 6) (fN (.lit (.int 10)))])] [],.asg 8 (.lst MW u1),.asg 8 (.catB (.var 8) (.lst MX u2)),.expr (.meth .append (.var 8) [u3]),.ret (.idx (.var 8) (fN (.lit (.int 18))))]:=rfl
theorem li(H:ρ[2]?=some (some (.int m)))(j:ρ[3]?=some (some (.tup l)))(k:It (.tup l)):∃o q:List D,(∀e∈o++q,It e)/\o.length=11/\q.length=4/\ai Φ G0 oT ρ S=.ok o S/\ai Φ G0 oU ρ S=.ok q S:=by
 have d:∀i:Int,Kn (.int i):=λi=>.inl ⟨i,rfl⟩;have f:∀i:Bool,Kn (.bl i):=λi=>.inr (.inl ⟨i,rfl⟩);refine⟨[ay (0,0),ay (1,0),ay (0,m),ay (-1,0),.tup [.bl MX,.bl MW],.tup [.int 0,.bl MW],.tup [.int 0],.tup [.int 0,.int 1,.int 2],.lst [.int 0,.int 1],.non,.str "01"],[ay (m-1,m-1),ay (0,10^30),ay (0,1),.tup l],λe g=>?_,rfl,rfl,?_,?_⟩
 ·simp only[ZE,Zf,Zp,Z0]at g;rcases g with(rfl|rfl|rfl|rfl|rfl|rfl|rfl|rfl|rfl|rfl|rfl)| (rfl|rfl|rfl|rfl)
  ·exact fR _
  ·exact fR _
  ·exact fR _
  ·exact fR _
  ·exact jb (by intro x h;simp at h;rcases h with rfl|rfl<;>exact f _) (by simp) (.inr rfl) rfl
  ·exact jb (by intro x h;simp at h;rcases h with rfl|rfl;exact d _;exact f _) (by simp) (.inr rfl) rfl
  ·exact jb (by intro x h;simp at h;rcases h with rfl;exact d _) (by simp) (.inl (by simp)) rfl
  ·exact jb (by intro x h;simp at h;rcases h with rfl|rfl|rfl<;>exact d _) (by simp) (.inl (by simp)) rfl
  ·exact px (.inr (.inr (.inr (.inr (.inr ⟨_,rfl⟩))))) (λ_=>rfl) rfl
  ·exact px (.inr (.inr (.inr (.inl rfl)))) (λ_=>rfl) rfl
  ·exact px (.inr (.inr (.inl ⟨_,rfl⟩))) (λ_=>rfl) rfl
  ·exact fR _
  ·exact fR _
  ·exact fR _
  ·exact k
 ·have t:∀{a b:CE} {x y:Int},aj Φ G0 a ρ S=.ok (.int x) S->aj Φ G0 b ρ S=.ok (.int y) S->aj Φ G0 (.tup [a,b]) ρ S=.ok (ay (x,y)) S:=λc H=>fh (aR c (aR H cP));exact aR (t ax ax) (aR (t ax ax) (aR (t ax (al H)) (aR (t xn ax) (aR (fh (aR ax (aR ax cP))) (aR (fh (aR ax (aR ax cP))) (aR (fh (aR ax cP)) (aR (fh (aR ax (aR ax (aR ax cP)))) (aR (ls (aR ax (aR ax cP))) (aR ax (aR ax cP))))))))))
 ·have t:∀{a b:CE} {x y:Int},aj Φ G0 a ρ S=.ok (.int x) S->aj Φ G0 b ρ S=.ok (.int y) S->aj Φ G0 (.tup [a,b]) ρ S=.ok (ay (x,y)) S:=λc H=>fh (aR c (aR H cP));exact aR (t (LD (al H)) (LD (al H))) (aR (t ax LF) (aR (t ax ax) (aR (al j) cP)))
variable (h39:ρ[3]?=some (some (.tup l)))(h49:ρ[4]?=some (some (.int (k:Int))))(hl9:IL 28 l)
include h39 h49
theorem xo:aj Φ G0 sA ρ S=.ok (.tup (a9 l none (some (k:Int)))) S:=jm (al h39) o0 (o1 (al h49))
theorem LH:aj Φ G0 sB ρ S=.ok (.tup (a9 l (some (k:Int)) none)) S:=jm (al h39) (o1 (al h49)) o0
theorem Mx:aj Φ G0 sC ρ S=.ok (.tup (a9 l (some ((k:Int)+1)) none)) S:=jm (al h39) (o1 (d1 (al h49))) o0
theorem Ef:aj Φ G0 sD ρ S=.ok (.tup (a9 l (some (k:Int)) (some ((k:Int)+1)))) S:=jm (al h39) (o1 (al h49)) (o1 (d1 (al h49)))
theorem MR:aj Φ G0 sE ρ S=.ok (.tup (a9 l (some ((k+1:Nat):Int)) (some (((k+1:Nat):Int)+1)))) S:=by have:=jm (al (Γ:=G0) (Φ:=Φ) (S:=S) h39) (o1 (d1 (al h49))) (o1 (d2 (al h49)));exact this
theorem MS:aj Φ G0 sF ρ S=.ok (.tup (a9 l (some ((k:Int)+2)) none)) S:=jm (al h39) (o1 (d2 (al h49))) o0
include hl9
theorem Eg(H:ρ[5]?=some (some o))(b:It o):∃rs:List D,(∀e∈rs,dc e)/\rs.length=3/\ai Φ G0 oV ρ S=.ok rs S:=by
 have a:=hl9.cut none (some (k:Int));have c:=hl9.cut (some (k:Int)) none;have C:=hl9.cut (some ((k:Int)+1)) none;have i:=a.app (.one b);refine⟨[_,_,.tup l.reverse],λe h=>?_,rfl,aR (gO (gO (xo h39 h49) (fh (aR (al H) cP)) (by have:=i.1;rw[Zm]at this;omega)) (LH h39 h49) (by have:=i.1;have:=c.1;omega)) (aR (gO (gO (xo h39 h49) (fh (aR (al H) cP)) (by have:=i.1;rw[Zm]at this;omega)) (Mx h39 h49) (by have:=i.1;have:=C.1;omega)) (aR ?_ cP))⟩
 ·simp only[Zf,Zp,Z0]at h;rcases h with rfl|rfl|rfl
  ·exact(i.app c).fine (by omega)
  ·exact(i.app C).fine (by omega)
  ·exact ja (by rw[RI];have:=hl9.1;omega) λe h=>hl9.2 e (Sm.mp h)
 ·simp only[aj,h39,Res.bind,xn,K45.kT,Res.noErr]
theorem LI:∃r,dc r/\aj Φ G0 oW ρ S=.ok r S:=by have i:=(hl9.cut none (some (k:Int))).app (hl9.cut (some ((k:Int)+1)) none);exact⟨_,i.fine (by omega),gO (xo h39 h49) (Mx h39 h49) (by have:=i.1;rw[Zm]at this;omega)⟩
theorem Eh(H:It (.tup l)):∃rs:List D,(∀e∈rs,dc e)/\rs.length=5/\ai Φ G0 oX ρ S=.ok rs S:=by
 have i:=(hl9.cut none (some (k:Int))).app (hl9.at_ k);have c:=hl9.cut (some (k:Int)) none;have I:=c.app (hl9.cut none (some (k:Int)));refine⟨[_,.lst l,_,.non,.tup [.tup l]],λe h=>?_,rfl,aR (gO (gO (xo h39 h49) (Ef h39 h49) (by have:=i.1;rw[Zm]at this;omega)) (LH h39 h49) (by have:=i.1;have:=c.1;omega)) (aR (fS (al h39) rfl) (aR (gO (LH h39 h49) (xo h39 h49) (by have:=I.1;rw[Zm]at this;omega)) (aR ax (aR (fh (aR (al h39) cP)) cP))))⟩;simp only[Zf,Zp,Z0]at h;rcases h with rfl|rfl|rfl|rfl|rfl
 ·exact(i.app c).fine (by omega)
 ·exact K6 hl9.2
 ·exact I.fine (by omega)
 ·exact⟨.inl λ_=>rfl,rfl⟩
 ·exact ja (by simp) λe h=>by rw[NV.mp h];exact H
theorem LJ:∃t,IL 2 t/\aj Φ G0 oY ρ S=.ok (.tup t) S:=by have i:=(hl9.at_ (k+1)).app (hl9.at_ k);exact⟨_,i,gO (MR h39 h49) (Ef h39 h49) (by have:=i.1;rw[Zm]at this;omega)⟩
theorem LK{t:List D}(h:ρ[7]?=some (some (.tup t)))(H:IL 2 t):∃r,dc r/\aj Φ G0 oZ ρ S=.ok r S:=by have i:=(hl9.cut none (some (k:Int))).app H;have c:=hl9.cut (some ((k:Int)+2)) none;exact⟨_,(i.app c).fine (by omega),gO (gO (xo h39 h49) (al h) (by have:=i.1;rw[Zm]at this;omega)) (MS h39 h49) (by have:=i.1;have:=c.1;omega)⟩
omit h39 h49 hl9
end
section
variable {l:List D}{a:Int}{o:D}
theorem ef{a b:D}(H:Kn a)(l:aY 0 a=MW)(h:dc b):ck (.tup [a,b]):=⟨.inr ⟨_,rfl,.inr ⟨a,b,rfl,H,h.is⟩⟩,by show(aY 0 a&&(aY 0 b&&MW))=MW;rw[l,h.lo];rfl⟩
theorem wo(h:xs.length≠2)(H:∀x∈xs,aY 0 x=MW):ck (.tup xs):=⟨.inr ⟨_,rfl,.inl h⟩,e_ H⟩
theorem gH(h:NT d)(H:aY 0 d=MW):ck d:=⟨.inl h,H⟩
theorem gI(i:Int):Kn (.int i):=.inl ⟨i,rfl⟩
theorem wq(i:Int):dc (.int i):=⟨.inl λ_=>rfl,rfl⟩
theorem wt:dc (.tup []):=ja (by simp) λe h=>by cases h
theorem pV(h:ts.length<=28):ck (.tup (ag ts)):=by
 have l:aY 0 (.tup (ag ts))=MW:=K45.i7 ts;by_cases a:ts.length=2
 ·match ts,a with
  | [t,u],_=>refine ef (.inr (.inr (.inr (.inr (.inl ⟨_,rfl⟩))))) rfl (ja (by simp) λe H=>?_);simp only[Zf,Zp,Z0]at H;rcases H with rfl|rfl<;>exact px (gI _) (λ_=>rfl) rfl
 ·exact⟨.inr ⟨_,rfl,.inl (by simp[ag];omega)⟩,l⟩
theorem wu(h1:1<=m)(h:m<=8):∃x,bg .str [.int m] S=.ok (.str x) S:=by refine⟨(toString m:String),?_⟩;show(if m.natAbs<2^64 then Res.ok (D.str (toString m:String)) S else .fail)=_;lia
variable (h29:ρ[2]?=some (some (.int m)))(h39:ρ[3]?=some (some (.tup (ag ts))))(hl9:ts.length<=28)
include h29 h39 hl9
theorem wv(h:dc (.tup (ag ts))):∃rs:List D,(∀e∈rs,ck e)/\rs.length=8/\ai Φ G0 u1 ρ S=.ok rs S:=by
 have t:∀{a b:CE} {x y:D},aj Φ G0 a ρ S=.ok x S->aj Φ G0 b ρ S=.ok y S->aj Φ G0 (.tup [a,b]) ρ S=.ok (.tup [x,y]) S:=λd h29=>fh (aR d (aR h29 cP));refine⟨_,λe c=>?_,?_,aR (t (d1 (al h29)) (al h39)) (aR (t (LD (al h29)) (al h39)) (aR (t ax (al h39)) (aR (t ax (al h39)) (aR (t ax (fh cP)) (aR (t ax (al h39)) (aR (ls (aR (al h29) (aR (al h39) cP))) (aR (fh (aR (al h29) cP)) cP)))))))⟩
 ·simp only[Zf,Zp,Z0]at c;rcases c with rfl|rfl|rfl|rfl|rfl|rfl|rfl|rfl
  ·exact ef (gI _) rfl h
  ·exact ef (gI _) rfl h
  ·exact ef (.inr (.inl ⟨_,rfl⟩)) rfl h
  ·exact ef (gI _) rfl h
  ·exact ef (gI _) rfl wt
  ·exact ef (.inr (.inr (.inr (.inl rfl)))) rfl h
  ·exact gH (λ_=>rfl) (e_ λx H=>by simp only[Zf,Zp,Z0]at H;rcases H with rfl|rfl;rfl;exact h.lo)
  ·exact wo (by simp) λx H=>by rw[NV.mp H];rfl
 ·rfl
theorem ww(h1:1<=m)(d:m<=8)(H:dc (.tup (ag ts))):∃rs:List D,(∀e∈rs,ck e)/\rs.length=9/\ai Φ G0 u2 ρ S=.ok rs S:=by
 have t:∀{a b:CE} {x y:D},aj Φ G0 a ρ S=.ok x S->aj Φ G0 b ρ S=.ok y S->aj Φ G0 (.tup [a,b]) ρ S=.ok (.tup [x,y]) S:=λh1 h29=>fh (aR h1 (aR h29 cP));obtain⟨x,h⟩:=wu (S:=S) h1 d;have f:aj Φ G0 .dct ρ S=.ok .dct S:=by rw[aj]
 refine⟨_,λe c=>?_,?_,aR (fh (aR (al h29) (aR (al h39) (aR (fh cP) cP)))) (aR (t (fS (al h29) h) (al h39)) (aR (t (al h39) (al h29)) (aR (al h39) (aR ax (aR (al h29) (aR f (aR ax (aR (t xn (fh cP)) cP))))))))⟩
 ·simp only[Zf,Zp,Z0]at c;rcases c with rfl|rfl|rfl|rfl|rfl|rfl|rfl|rfl|rfl
  ·exact wo (by simp) λx h=>by simp only[Zf,Zp,Z0]at h;rcases h with rfl|rfl|rfl;rfl;exact H.lo;rfl
  ·exact ef (.inr (.inr (.inl ⟨_,rfl⟩))) rfl H
  ·exact ef (.inr (.inr (.inr (.inr (.inl ⟨_,rfl⟩))))) H.lo (wq _)
  ·exact pV hl9
  ·exact gH (λ_=>rfl) rfl
  ·exact gH (λ_=>rfl) rfl
  ·exact gH (λ_=>rfl) rfl
  ·exact gH (λ_=>rfl) rfl
  ·exact ef (gI _) rfl wt
 ·rfl
omit h29 h39 hl9
theorem Ei:∃r,ck r/\aj Φ G0 u3 ρ S=.ok r S:=⟨_,ef (gI _) rfl wt,fh (aR LF (aR (fh cP) cP))⟩
theorem wx{b:Nat}{e:CE}{i:Nat}{A:List D}{r:D}(a:ρ[i]?=some (some (.ref S.length)))(H:aj bw G0 e ρ (S++[A])=.ok r (S++[A]))(c:A.length<=1000):ap bw G0 (.expr (.meth .append (.var i) [e])) ρ (S++[A])=.ok (.next ρ) (S++[A++[r]]):=by have h:=Ly (T:=S) (A:=A) (d:=r) (by lia);simp only[ap,aj,a,Res.bind,ai,H,dt,h,Res.noErr]
theorem Ej{b:Nat}{i:Nat}{es:List CE}{A B:List D}(c:ρ[i]?=some (some (.ref b)))(H:S[b]?=some A)(a:ai bw G0 es ρ S=.ok B S)(hl9:A.length+B.length<=1000):aj bw G0 (.catB (.var i) (.lst MX es)) ρ S=.ok (.ref S.length) (S++[A++B]):=by
 have h:fX (.ref b) (.lst B) S=.ok (.ref S.length) (S++[A++B]):=by
  have e:Py.c7 S (.ref b)=some A:=by simp[Py.c7,H]
  have E:Py.c7 S (.lst B)=some B:=rfl;unfold fX;rw[e,E];dsimp only;rw[if_pos (by show _<=16777216;omega)]
 simp only[aj,c,Res.bind,a,h,Res.noErr,ZA,if_false]
end
section
variable {l:List D}{a:Int}{o:D}
theorem Ek(H:Flat S)(b:aP S n){e:CE}{c:Int}(h:0<c)(h1:c<1000)(d:ρ[0]?=some (some (.ref n)))(a:aj bw G0 e ρ S=.ok (.int c) S):∃r S',0<=r/\r<c/\Drawn n S S'/\aj bw G0 (fN e) ρ S=.ok (.int r) S':=by have:=pS (R:=[]) (S:=S) (n:=n) (ρ:=ρ) (e:=e) (c:=c) (by rw[ZY];exact H) b h h1 d (by rw[ZY];exact a);simpa only[ZY]using this
theorem El{R:ae}(c:ds.length=np)(h:af Φ Γ body (ds.map some++M3 (k-np) none) S=.ok (.ret d) (S'++R))(b:S'.length=S.length)(a:Flat S')(H:aY 0 d=MW):au Φ Γ body k np ds S=.ok d S':=by unfold au;rw[if_pos c,h];show cX S.length d (S'++R)=_;rw[<-b,K45.vv (by rw[O0 rfl];exact a) H,O0 rfl]
theorem qW{es:List D}(h:∀e∈es,dc e):bb 0 es=MW:=e_ λe H=>(h e H).lo
theorem qX{es:List D}(h:∀e∈es,ck e):bb 0 es=MW:=e_ λe H=>(h e H).lo
theorem pW{P:D->Prop}{A:List D}{r:D}(h:∀e∈A,P e)(a:P r):∀e∈A++[r],P e:=λe H=>by
 rcases ZE.mp H with H|H
 ·exact h e H
 ·rw[NV.mp H];exact a
theorem Em{P:D->Prop}{A B:List D}(h:∀e∈A,P e)(a:∀e∈B,P e):∀e∈A++B,P e:=λe H=>(ZE.mp H).elim (h e) (a e)
theorem wy(W:dD m ts)(X:Flat S)(Y:aP S n):∃S' R g x4 x5 x7,Drawn n S S'/\Flat (S'++R)/\(∀e∈g,dc e)/\g.length=10/\(S'++R)[S.length+1]?=some g/\R.length=2/\∀cs,af bw G0 (.asgT (.tup [.var 2,.var 3]) (.var 1):: .asg 4 (fN (.bin .Add (.blt .len [.var 3]) (.lit (.int 1)))):: .asg 5 (.lst MX oT):: .asg 5 (.idx (.bin .Add (.var 5) (.lst MX oU)) (fN (.lit (.int 15)))):: .asg 6 (.lst MW oV):: .expr (.meth .append (.var 6) [oW]):: .asg 6 (.catB (.var 6) (.lst MX oX)):: .asg 7 oY:: .expr (.meth .append (.var 6) [oZ])::cs) [some (.ref n),some (ao m ts),none,none,none,none,none,none,none] S=af bw G0 cs [some (.ref n),some (ao m ts),some (.int m),some (.tup (ag ts)),x4,x5,some (.ref (S.length+1)),x7,none] (S'++R):=by
 have hf:=W.few;have hL:(ag ts).length=ts.length:=by unfold ag;simp
 have hi:∀e∈ag ts,It e:=λe he=>by obtain⟨t,_,rfl⟩:=Zo.mp he;exact fR t
 have I:IL 28 (ag ts):=⟨by omega,hi⟩
 have q:It (.tup (ag ts)):=by
  cases ts with
  |nil=>exact jb (λx P=>by cases P) (by simp[ag]) (.inl (by simp[ag])) rfl
  |cons p r=>refine jb (λx P=>?_) (by omega) (.inr rfl) (K45.i7 _);obtain⟨t,_,rfl⟩:=Zo.mp P;exact .inr (.inr (.inr (.inr (.inl ⟨_,rfl⟩))))
 have hw:ao m ts=.tup [.int m,.tup (ag ts)]:=rfl;generalize ao m ts=w at*;generalize ag ts=l at*;have s0:ap bw G0 (.asgT (.tup [.var 2,.var 3]) (.var 1)) [some (.ref n),some w,none,none,none,none,none,none,none] S=.ok (.next [some (.ref n),some w,some (.int m),some (.tup l),none,none,none,none,none]) S:=by rw[ap,al (d:=w) rfl,hw];rfl
 obtain⟨a,L,a0,a1,J,e1⟩:=Ek (ρ:=[some (.ref n),some w,some (.int m),some (.tup l),none,none,none,none,none]) (e:=.bin .Add (.blt .len [.var 3]) (.lit (.int 1))) X Y (c:=(l.length:Int)+1) (by omega) (by omega) rfl (d1 (fS (d:=.tup l) (r:=.int (l.length:Nat)) (al rfl) rfl));obtain⟨k,rfl⟩:∃k:Nat,a=(k:Int):=⟨a.toNat,by omega⟩;have z:=J.flat X;have C:=J.pen Y;obtain⟨D,Q,ho,ol,ql,eo,eq⟩:=li (Φ:=bw) (S:=L) (ρ:=[some (.ref n),some w,some (.int m),some (.tup l),some (.int (k:Int)),none,none,none,none]) rfl rfl q;have eq:=li (Φ:=bw) (S:=L) (ρ:=[some (.ref n),some w,some (.int m),some (.tup l),some (.int (k:Int)),some (.lst D),none,none,none]) rfl rfl q;obtain⟨os2,Q,N,ol2,ql,_,eq⟩:=eq;obtain⟨b,f,b0,b1,K,e2⟩:=Ek (ρ:=[some (.ref n),some w,some (.int m),some (.tup l),some (.int (k:Int)),some (.lst D),none,none,none]) (e:=.lit (.int 15)) z C (c:=15) (by omega) (by omega) rfl ax;have M:=K.flat z;have hp2:=K.pen C;obtain⟨O,s,e3⟩:=jc (S:=f) (d:=.lst (D++Q)) (xs:=D++Q) (r:=b) rfl b0 (by rw[Zm];omega)
 have s:It O:=by
  rcases ZE.mp s with h|h
  ·exact ho O (ZP _ h)
  ·exact N O (Zt _ h)
 have s3:=dR (fT (al (Φ:=bw) (Γ:=G0) (S:=L) (ρ:=[some (.ref n),some w,some (.int m),some (.tup l),some (.int (k:Int)),some (.lst D),none,none,none]) (i:=5) rfl) (ls eq) (DK (by omega))) e2 e3;obtain⟨u,f1,l1,e4⟩:=Eg (Φ:=bw) (S:=f) (l:=l) (k:=k) (o:=O) (ρ:=[some (.ref n),some w,some (.int m),some (.tup l),some (.int (k:Int)),some O,none,none,none]) rfl rfl I rfl s;obtain⟨E,f2,e5⟩:=LI (Φ:=bw) (S:=f++[u]) (l:=l) (k:=k) (ρ:=[some (.ref n),some w,some (.int m),some (.tup l),some (.int (k:Int)),some O,some (.ref f.length),none,none]) rfl rfl I;have s5:=wx (b:=0) (i:=6) (S:=f) (A:=u) rfl e5 (by omega);have y:=pW f1 f2;obtain⟨T,f3,l3,e6⟩:=Eh (Φ:=bw) (S:=f++[u++[E]]) (l:=l) (k:=k) (ρ:=[some (.ref n),some w,some (.int m),some (.tup l),some (.int (k:Int)),some O,some (.ref f.length),none,none]) rfl rfl I q;have s6:=Ej (i:=6) (b:=f.length) (S:=f++[u++[E]]) (A:=u++[E]) (B:=T) rfl ff e6 (by rw[Zm,OP];omega);have F:=Em y f3;have Z:(u++[E]++T).length=9:=by rw[Zm,Zm,OP];omega
 generalize hA:u++[E]=A at*;generalize hB:A++T=B at*;have H:(f++[A]).length=S.length+1:=by rw[Zm,K.len,J.len];rfl
 obtain⟨t,ht,e7⟩:=LJ (Φ:=bw) (S:=f++[A]++[B]) (l:=l) (k:=k) (ρ:=[some (.ref n),some w,some (.int m),some (.tup l),some (.int (k:Int)),some O,some (.ref (f++[A]).length),none,none]) rfl rfl I;obtain⟨G,U,e8⟩:=LK (Φ:=bw) (S:=f++[A]++[B]) (l:=l) (k:=k) (t:=t) (ρ:=[some (.ref n),some w,some (.int m),some (.tup l),some (.int (k:Int)),some O,some (.ref (f++[A]).length),some (.tup t),none]) rfl rfl I rfl ht;have s8:=wx (b:=0) (i:=6) (S:=f++[A]) (A:=B) rfl e8 (by omega);have V:Flat (f++[A]++[B++[G]]):=(M.snoc (qW y)).snoc (qW (pW F U));refine⟨f,[A,B++[G]],B++[G],some (.int (k:Int)),some O,some (.tup t),J.trans K,?_,pW F U,by rw[Zm,OP];omega,?_,rfl,λcs=>?_⟩
 ·rw[NH]at V;exact V
 ·have:(f++[A]++[B++[G]])[(f++[A]).length]?=some (B++[G]):=ff;rw[H,NH]at this;exact this
 ·refine(b5 s0).trans ?_;refine(bJ e1).trans ((bJ (ls eo)).trans ((bJ s3).trans ((bJ (Mw e4)).trans ((b5 s5).trans ((bJ s6).trans ((bJ e7).trans ((b5 s8).trans ?_)))))));rw[H,NH];rfl
end
section
variable {l:List D}{a:Int}{o:D}
noncomputable def E3:CE:=.cmp .Gt (fN (.lit (.int 3))) (.lit (.int 0))
theorem wz(W:dD m ts)(T:Flat S)(hp:aP S n):∃d S',ck d/\Drawn n S S'/\hH [.ref n,ao m ts] S=.ok d S':=by
 have hf:=W.few;obtain⟨Y,R,j,X,k,l,f,hF,hr,hrl,N,hR,ha⟩:=wy W T hp;have U:=f.flat T;have p:=f.pen hp
 have fz:dc (.tup (ag ts)):=ja (by unfold ag;rw[Zk];omega) λe he=>by obtain⟨t,_,rfl⟩:=Zo.mp he;exact fR t
 obtain⟨g,a,g0,g1,h,Z⟩:=pS (R:=R) (ρ:=[some (.ref n),some (ao m ts),some (.int m),some (.tup (ag ts)),X,k,some (.ref (S.length+1)),l,none]) (e:=.lit (.int 3)) hF p (c:=3) (by omega) (by omega) rfl ax;have hS2:=h.flat U;have J:=h.pen p
 have G:Flat (a++R):=by obtain⟨u,v,e⟩:=h;have:Drawn n (Y++R) (a++R):=⟨u,v,by obtain⟨x,y,hx⟩:=p;rw[e,Ry _ _ (Zl.mp hx).1]⟩;exact this.flat hF
 have hk2:(a++R)[S.length+1]?=some j:=by rw[Zz (by rw[h.len,f.len];omega),h.len,f.len];rw[Zz (by rw[f.len];omega),f.len]at N;exact N
 have M:am bw G0 E3 [some (.ref n),some (ao m ts),some (.int m),some (.tup (ag ts)),X,k,some (.ref (S.length+1)),l,none] (Y++R)=.ok (decide (0<g)) (a++R):=by have c1:aF .Gt (.int g) (.int 0) (a++R)=.ok (.bl (decide (0<g))) (a++R):=rfl;unfold E3;generalize fN (.lit (.int 3))=q at Z⊢;simp only[am,aj,Z,Res.bind,c1,Res.noErr,aH]
 have fin:∀{d:D} {S' R':ae},ck d->Drawn n S S'->af bw G0 u4 [some (.ref n),some (ao m ts),none,none,none,none,none,none,none] S=.ok (.ret d) (S'++R')->∃d S',ck d/\Drawn n S S'/\hH [.ref n,ao m ts] S=.ok d S':=λ{d S' R'} h1 Q h3=>⟨d,S',h1,Q,El (R:=R') rfl h3 Q.len (Q.flat T) h1.lo⟩;rw[LG,ha]at fin;generalize hw:ao m ts=w at*;cases hg:decide (0<g)with
 |true=>
  rw[hg]at M;obtain⟨b,E,O,b1,o,L⟩:=pS (R:=R) (ρ:=[some (.ref n),some w,some (.int m),some (.tup (ag ts)),X,k,some (.ref (S.length+1)),l,none]) (e:=.lit (.int 10)) G J (c:=10) (by omega) (by omega) rfl ax;have H:av (E++R) (.ref (S.length+1))=some j:=by show(E++R)[S.length+1]?=some j;rw[Zz (by rw[o.len,h.len,f.len];omega),o.len,h.len,f.len];rw[Zz (by rw[f.len];omega),f.len]at N;exact N
  obtain⟨r,z,P⟩:=jc H O (by omega);refine fin (R':=R) (ef (gI m) rfl (hr r z)) ((f.trans h).trans o) (b_ ?_);show ap bw G0 (.ite E3 [.ret (.tup [.var 2,.idx (.var 6) (fN (.lit (.int 10)))])] []) _ _=_;rw[hJ M,if_pos rfl];refine b_ (eI ?_);generalize fN (.lit (.int 10))=q at L⊢;simp only[aj,ai,Res.bind,Zx,Zu,L,P,Res.noErr]
 |false=>
  rw[hg]at M;obtain⟨s,f1,l1,L⟩:=wv (Φ:=bw) (S:=a++R) (ρ:=[some (.ref n),some w,some (.int m),some (.tup (ag ts)),X,k,some (.ref (S.length+1)),l,none]) rfl rfl hf fz;obtain⟨s2,f2,l2,P⟩:=ww (Φ:=bw) (S:=a++R++[s]) (ρ:=[some (.ref n),some w,some (.int m),some (.tup (ag ts)),X,k,some (.ref (S.length+1)),l,some (.ref (a++R).length)]) rfl rfl hf W.lo W.hi fz;have s3:=Ej (i:=8) (b:=(a++R).length) (S:=a++R++[s]) (A:=s) (B:=s2) rfl ff P (by omega);obtain⟨r4,f4,e4⟩:=Ei (Φ:=bw) (S:=a++R++[s]++[s++s2]) (ρ:=[some (.ref n),some w,some (.int m),some (.tup (ag ts)),X,k,some (.ref (S.length+1)),l,some (.ref (a++R++[s]).length)]);have V:(s++s2).length=17:=by rw[Zm];omega
  have s4:=wx (b:=0) (i:=8) (S:=a++R++[s]) (A:=s++s2) rfl e4 (by omega);have F:=pW (Em f1 f2) f4;have fl:Flat (a++R++[s]++[s++s2++[r4]]):=(G.snoc (qX f1)).snoc (qX F);generalize hC:s++s2++[r4]=C at*;have hCl:C.length=18:=by rw[<-hC,Zm,V];rfl
  have I:(a++R++[s]).length=S.length+3:=by rw[Zm,Zm,h.len,f.len,hR];rfl
  have eR:a++R++[s]++[C]=a++(R++[s,C]):=by rw[NH,NH];rfl
  rw[eR]at fl;obtain⟨b,E,O,b1,o,e5⟩:=pS (R:=R++[s,C]) (ρ:=[some (.ref n),some w,some (.int m),some (.tup (ag ts)),X,k,some (.ref (S.length+1)),l,some (.ref (S.length+3))]) (e:=.lit (.int 18)) fl J (c:=18) (by omega) (by omega) rfl ax;have H:av (E++(R++[s,C])) (.ref (S.length+3))=some C:=by show(E++(R++[s,C]))[S.length+3]?=some C;rw[Zz (by rw[o.len,h.len,f.len];omega),o.len,h.len,f.len,Zz (by omega),hR,show S.length+3-S.length-2=1 by omega];rfl
  obtain⟨r,z,e6⟩:=jc H O (by omega);refine fin (R':=R++[s,C]) (F r z) ((f.trans h).trans o) ?_;refine(b5 (ρ':=[some (.ref n),some w,some (.int m),some (.tup (ag ts)),X,k,some (.ref (S.length+1)),l,none]) (S':=a++R) ?_).trans ?_
  ·show ap bw G0 (.ite E3 [.ret (.tup [.var 2,.idx (.var 6) (fN (.lit (.int 10)))])] []) _ _=_;rw[hJ M,if_neg (by decide)];rfl
  ·refine(bJ (Mw L)).trans ((bJ s3).trans ((b5 s4).trans ?_));rw[I,eR];exact b_ (eI (dR (al rfl) e5 e6))
end
section
variable {ts:List Ti}{G:List (List Ti)}
end
section
variable {ts:List Ti}{G:List (List Ti)}{x0 x1:Option D}
end
section
variable {ts p:List Ti}
end
section
variable {ts p:List Ti}
end
theorem LL:db=K45.db:=rfl
theorem LM:eF=K45.eF:=rfl
section
variable {w p:D}
theorem c0{x:Exc}(a:ds.length=np)(h:af Φ Γ body (ds.map some++M3 (n-np) none) S=.err x S)(H:Flat S):au Φ Γ body n np ds S=.err x S:=by unfold au;rw[if_pos a,h];dsimp only;rw[Pr,if_pos H.all]
abbrev gP:Exc:=⟨"NoWeb",[]⟩
theorem Eo(h:ck d):∃k,∀S,Flat S->db [d] S=.ok (.bl k) S/\eZ [d] S=.ok (.bl k) S:=by
 rcases h.is with h| ⟨x,rfl,h| ⟨a,b,rfl,c,h⟩⟩
 ·exact⟨MX,λS H=>⟨wj H h,Ea H h⟩⟩
 ·exact⟨MX,λS H=>⟨D6 H h,wk H h⟩⟩
 ·cases e:K45.frB a with
  |false=>exact⟨MX,λS H=>⟨D8 H c (.inl e),lh H c (.inl e)⟩⟩
  |true=>
   rcases h with h| ⟨E,rfl,f,j⟩
   ·exact⟨MX,λS H=>⟨D8 H c (.inr h),lh H c (.inr h)⟩⟩
   ·unfold K45.frB at e;split at e
    ·rename_i m;have g:=Z5 e
     obtain⟨k,l⟩:∃k,∀S,Flat S->K45.db [.tup [.int m,.tup E]] S=.ok (.bl k) S:=by
      cases i:E.all (gF m)with
      |false=>exact⟨MX,λS H=>by have:=pN H (k:=MX) g f (by lia) (λz=>by simp_all);simp_all⟩
      |true=>
       obtain⟨p,rfl⟩:=wg i;have n:p.length<64:=by simp[ag]at j;simp_all
       exact⟨K45.eK p,λS H=>by have:=pN H (k:=K45.eK p) g f (by lia) λ_=>K45.DI H (by lia);rw[i]at this;exact this⟩
     refine⟨k,λS H=>⟨l S H,?_⟩⟩;obtain⟨K,o,q⟩:=wm H g f j;simp_all
    ·cases e
def de(d:D):Prop:=∀S,Flat S->db [d] S=.ok (.bl MX) S
theorem wA(H:Flat S)(h:de d):cY [d] S=.err gP S:=by have e:=h S H;refine c0 rfl ?_ H;simp[uM,af,ap,am,aj,ai,Res.bind,BX,e,bH]
theorem pX(H:Flat S)(h:de d):kI [d,p] S=.err gP S:=by have e:=wA H h;refine c0 rfl ?_ H;simp[B7,af,ap,aj,ai,Res.bind,B8,e]
theorem LN(H:Flat S)(h:de d):eF [d,p] S=.err gP S:=by have e:=pX (p:=p) H h;refine c0 rfl ?_ H;simp[uQ,af,ap,am,aj,ai,Res.bind,Ca,e]
variable {x:Exc}
theorem wB(H:Flat S)(h:de d):oI [d] S=.err gP S:=by have e:=wA H h;refine c0 rfl ?_ H;simp[Cc,af,ap,aj,ai,Res.bind,Jt,e]
theorem LO(H:Flat S)(h:de d):oJ [d] S=.err gP S:=by have e:=wB H h;refine c0 rfl ?_ H;simp[Ce,af,ap,aj,ai,Res.bind,Jv,e]
theorem LP(H:Flat S)(h:de d):oM [d] S=.err gP S:=by have e:=LO H h;refine c0 rfl ?_ H;simp[Ch,Cg,af,ap,aj,ai,Res.bind,Jw,e]
theorem pY(H:Flat S)(h:de d):kM [d] S=.err gP S:=by have e:=LP H h;refine c0 rfl ?_ H;simp[kK,kJ,af,ap,aj,ai,Res.bind,Jx,e]
variable {a b c:D}{i:Int}
theorem MU:aF .Eq (.int i) (.int 0) S=.ok (.bl (i==0)) S:=rfl
theorem MV:aF .Lt (.int i) (.int 6) S=.ok (.bl (decide (i<6))) S:=rfl
end
theorem LQ:hH=K45.hH:=rfl
theorem LR(W:dD m ts)(H:Flat S)(g:aP S n):∃d S',de d/\Drawn n S S'/\i4 [.ref n,ao m ts] S=.ok d S':=by
 obtain⟨d,a,b,D,e⟩:=K45.wz W H g;rw[<-LQ]at e;have h:=D.flat H;obtain⟨k,c⟩:=Eo b;have E:=(c a h).2;have l:aY 0 (.tup (ag ts))=MW:=K45.i7 ts
 have F:ck (.tup [.int m,.tup (ag ts),.tup []]):=wo (by simp) λx f=>by
  simp only[Zf,Zp,Z0]at f;rcases f with rfl|rfl|rfl
  ·rfl
  ·exact l
  ·rfl
 have i:bP (ao m ts) (.int 0) a=.ok (.int m) a:=rfl;have I:bP (ao m ts) (.int 1) a=.ok (.tup (ag ts)) a:=rfl;cases k with
 |false=>refine⟨d,a,λS H=>(c S H).1,D,aQ rfl ?_ D.len h b.lo⟩;simp[u6,u5,af,ap,am,aj,ai,Res.bind,CD,CF,e,E,bH]
 |true=>refine⟨.tup [.int m,.tup (ag ts),.tup []],a,λS H=>by rw[LL];exact K45.D6 H (by simp),D,aQ rfl ?_ D.len h F.lo⟩;simp[u6,u5,af,ap,am,aj,ai,Res.bind,Res.noErr,CD,CF,e,E,i,I,bH]
end K45
namespace Py
end Py
namespace K45
section
variable {w:D}{F:List (Li)}{a:Int}
end
section
variable {w:D}
end
section
variable {ts:List Ti}{G xs:List (Li)}{x:Li}
end
section
variable {c:Int}{ts:List Ti}{G xs:List (Li)}{x:Li}{x1 x7:Option D}
end
theorem pZ:b9=K45.b9:=rfl
noncomputable def hO(ns:Li):Bool:=(M1 (λx y=>decide (x<y)) ns (ns.drop 1)).all id
theorem Ep:∀ns:Li,hO ns=MW↔ns.Pairwise (· < ·)
 | []=>by decide
 | [x]=>by simp[hO]
 |x::y::ns=>by
  have i:=Ep (y::ns);have e:hO (x::y::ns)=(decide (x<y)&&hO (y::ns)):=rfl;simp only[e,ZN,decide_eq_true_eq,i,Zv (a:=x)];constructor
  ·intro⟨H,b⟩;refine⟨λz h=>?_,b⟩;rcases Zf.mp h with rfl|h
   ·exact H
   ·exact Int.lt_trans H ((Zv.mp b).1 z h)
  simp_all
noncomputable def MT:D->D->Bool
 | .int a,.int b=>decide (a<b)
 |_,_=>MX
theorem LS(H:Flat S)(c:ns.length<=1000):b9 [k6 ns] S=.ok (.bl (hO ns)) S:=by
 rw[pZ];have h:=K45.vR H (xs:=ns.map D.int) MT (by simpa using c) λx d y e=>by obtain⟨a,_,rfl⟩:=Zo.mp d;obtain⟨b,_,rfl⟩:=Zo.mp e;rfl
 refine h.trans ?_;rw[<-OC,Sl];rfl
theorem wC(ns:Li):(ns.map D.int).filterMap bD=ns:=by
 induction ns with
 |nil=>rfl
 |cons n ns i=>rw[ZZ,show List.filterMap bD (D.int n::ns.map D.int)=n::(ns.map D.int).filterMap bD from rfl,i]
noncomputable def gJ(ns:Li):Li:=((M4 8).filter λk:Nat=>ns.contains (k:Int)).map λk:Nat=>(k:Int)
theorem Er(ns:Li):(gJ ns).Pairwise (· < ·):=by unfold gJ;rw[Nr];exact(List.pairwise_lt_range.sublist Nt).imp λh=>by omega
theorem p6(h:∀n∈ns,0<=n/\n<8):decide (ns=gJ ns)=hO ns:=by
 rw[NJ,decide_eq_true_eq,Ep];constructor
 ·intro e;rw[e];exact Er ns
 ·intro a;refine Pc.vY a (Er ns) λp=>?_;unfold gJ;rw[Zo];constructor
  ·intro H;have:=h p H;refine⟨p.toNat,NI.mpr ⟨ZS.mpr (by simp_all),?_⟩,by omega⟩;rw[Rp,show((p.toNat:Nat):Int)=p by omega];exact H
  ·rintro⟨k,b,rfl⟩;simp_all
theorem p9(b:ns.length<=900)(h:∀n∈ns,0<=n/\n<8):cG (k6 ns) S=.ok (.lst ((gJ ns).map D.int)) S:=by
 have e:cG (k6 ns) S=if(ns.map D.int).all jP=MW then .ok (.lst (((M4 8).filter λk:Nat=>((ns.map D.int).filterMap bD).contains (k:Int)).map λk:Nat=>D.int k)) S else _:=rfl;rw[e,if_pos,wC]
 ·unfold gJ;rw[ZL];rfl
 ·refine Zn.mpr λx a=>?_;obtain⟨n,H,rfl⟩:=Zo.mp a;have:=h n H;simp[jP,this.1,this.2]
theorem Es(k:Nat):∀a b:Li,a.length=b.length->a8 (M1 (cb S (k+1)) (a.map D.int) (b.map D.int))=some (decide (a=b))
 | [],[],_=>rfl
 | [],_::_,h=>by cases h
 |_::_,[],h=>by cases h
 |x::a,y::b,h=>by
  have i:=Es k a b (by simpa using h);simp only[ZZ,Pw,K45.C6];dsimp only[a8];by_cases e:x=y
  ·simp_all
  simp_all
theorem LU(a b:Li):aF .Eq (.lst (a.map D.int)) (.lst (b.map D.int)) S=.ok (.bl (decide (a=b))) S:=by
 have e:aF .Eq (.lst (a.map D.int)) (.lst (b.map D.int)) S=a' (if(a.map D.int).length=(b.map D.int).length then a8 (M1 (cb S 39) (a.map D.int) (b.map D.int))else some MX) S:=rfl;rw[e];by_cases h:a.length=b.length
 ·rw[if_pos (by simpa using h),Es 38 a b h];rfl
 ·rw[if_neg (by simpa using h),ZD (λz=>h (ZU _ z))];rfl
open Pc
noncomputable def lj(l:Li):Bool:=decide ((l.length:Int)%2=1)
noncomputable def jf(so:Li)(ts:Lq)(m:Nat):List (Li):=((aU so m).filter (own so ts m)).map (chain so ts m)
theorem LV{f:α->D}{g:α->Bool}{step:D->List D->ae->Res (List D)}{cs:List α}(b:S[k]?=some (cs.map f))(d:cs.length<=1000)(hs:∀c∈cs,∀acc,acc.length<bB->step (f c) acc S=.ok (if g c=MW then acc++[f c]else acc) S):
  bo step (cq k) ((cs.map f).length+1) 0 [] S=.ok ((cs.filter g).map f) S:=by
 suffices h:∀(n i:Nat) (acc:List D),i+n=cs.length->acc.length<=i->bo step (cq k) (n+1) i acc S=.ok (acc++((cs.drop i).filter g).map f) S by simp_all
 intro n
 induction n with
 |zero=>
  intro i acc h a;unfold bo;have e:cq k S i=some none:=by unfold cq;simp_all
  simp_all
 |succ n I=>
  intro i acc h a;have H:i<cs.length:=by omega
  unfold bo;have e:cq k S i=some (some (f cs[i])):=by unfold cq;simp_all
  rw[e];show(step (f cs[i]) acc S).bind _=_;rw[hs cs[i] (OS H) acc (by grind),OA H,List.filter_cons];cases g cs[i]with
  |true=>show bo step (cq k) (n+1) (i+1) (acc++[f cs[i]]) S=_;rw[I (i+1) _ (by omega) (by simp;omega)];simp
  |false=>show bo step (cq k) (n+1) (i+1) acc S=_;rw[I (i+1) _ (by omega) (by omega)];simp
theorem LW{A B:List D}(b:ds.length=np)(h:af Φ Γ body (ds.map some++M3 (n-np) none) S=.ok (.ret (.ref (S.length+1))) (S++[A]++[B]))(a:Flat S)(H:bb 0 B=MW):au Φ Γ body n np ds S=.ok (.ref S.length) (S++[B]):=by
 unfold au;rw[if_pos b,h];dsimp only[cX];have e:(S++[A]++[B]).take S.length=S:=by simp
 have E:(S++[A]++[B])[S.length+1]?=some B:=by simp
 rw[e,if_pos a.all,if_neg (by dsimp only[aY];simp)];simp only[E];rw[if_pos ⟨K45.hI B H,by simp⟩]
theorem Et:∀l:List (Li),bb 0 (l.map aV)=MW
 | []=>rfl
 |x::l=>by show(aY 0 _&&bb 0 _)=MW;rw[Et l,QY];exact K45.gA _
theorem Eu(l:Li):dM [aV l] S=.ok (.int l.length) S:=by simp[dM,av,aV]
theorem p_(n:Nat):Qx (n:Int) 1=(n:Int)%2:=by show((n&&& 1:Nat):Int)=_;rw[Nat.and_one_is_mod];omega
theorem ll(i:Int):aF .Eq (.int i) (.int 1) S=.ok (.bl (decide (i=1))) S:=by show Res.ok (D.bl (i==1)) S=_;rfl
noncomputable def fi(so:Li)(ts:Lq)(m:Nat):List (Li):=(jf so ts m).filter lj
theorem LX(W:dD m ts)(so:Li):(jf so ts m.toNat).length<=1000:=by unfold jf aU;rw[Zk];have H:=Nh (own so ts m.toNat) ((bi 0 m.toNat).filter λp=> !so.contains p);have h:=Nh (λp=> !so.contains p) (bi 0 m.toNat);rw[K45.fP]at h;have:=W.hi;lia
theorem Ew(j:Flat S)(W:dD m ts)(O:gD m so):fM [ao m ts,aV so] S=.ok (.ref S.length) (S++[(fi so ts m.toNat).map aV]):=by
 have n:fL [ao m ts,aV so] S=.ok (.ref S.length) (S++[(jf so ts m.toNat).map aV]):=by have:=K45.Lw j W (so:=so) (by have:=O.len;omega) O.inn O.ris;rw[K45.pK]at this;exact this
 have l:=LX W so;refine LW (A:=(jf so ts m.toNat).map aV) rfl ?_ j (Et _);unfold fi;generalize jf so ts m.toNat=C at n l
 have K:=LV (S:=S++[C.map aV]) (k:=S.length) (f:=aV) (g:=lj) (cs:=C) (step:=λx a o=>match bd (.var 0) x [none]with
    |some b=>(aM hE G0 [.cmp .Eq (.bin .BitAnd (.blt .len [.var 0]) (.lit (.int 1))) (.lit (.int 1))] b o).bind λk i=>if k=MW then bq hE G0 (.emit (.var 0)) b a i else .ok a i
    |none=>.fail) ff l (λc t a q=>by
   have e:=Eu (S:=S++[C.map aV]) c;have E:l9 (.int c.length) (.int 1) (S++[C.map aV])=.ok (.int ((c.length:Int)%2)) (S++[C.map aV]):=by rw[<-p_];rfl
   have H:a.length<16777216:=q;generalize aV c=z at e;generalize S++[C.map aV]=T at*;by_cases h:(c.length:Int)%2=1
   ·simp[bd,bu,slots,cE,aL,bt,aM,am,bq,aj,ai,Res.bind,Res.noErr,aH,bg,e,fE,E,ll,h,lj,H]
   ·simp[bd,bu,slots,cE,aL,bt,aM,am,bq,aj,ai,Res.bind,Res.noErr,aH,bg,e,fE,E,ll,h,lj])
 have p:aW hE G0 (.seq (.call "pieces_without" [.var 0,.var 1])) [some (ao m ts),some (aV so)] S=.ok (.live ((C.map aV).length+1) (cq S.length)) (S++[C.map aV]):=by simp only[aW,aj,ai,Res.bind,Cj,Zx,Zu,n,dr,ff,RL]
 show af hE G0 oN [some (ao m ts),some (aV so)] S=_;have s:aj hE G0 (.comp MW ["piece"] [none] (.var 0) (.seq (.call "pieces_without" [.var 0,.var 1])) [.cmp .Eq (.bin .BitAnd (.blt .len [.var 0]) (.lit (.int 1))) (.lit (.int 1))] (.emit (.var 0))) [some (ao m ts),some (aV so)] S=.ok (.ref (S.length+1)) (S++[C.map aV]++[(C.filter lj).map aV]):=by rw[aj,p];refine Eq.trans (ZU (λr=>(Res.noErr r).bind λy d=>if MW=MW then Res.ok (D.ref (N4 d)) (d++[y])else Res.ok (D.lst y) d) (show bK _ (.live ((C.map aV).length+1) (cq S.length)) [] (S++[C.map aV])=_ from K)) ?_;simp[Res.noErr,Res.bind]
 unfold oN;rw[af,ap,s];rfl
theorem p'{A:List D}{i:Int}(a:ds.length=np)(h:af Φ Γ body (ds.map some++M3 (n-np) none) S=.ok (.ret (.int i)) (S++[A]))(H:Flat S):au Φ Γ body n np ds S=.ok (.int i) S:=by unfold au;rw[if_pos a,h];show cX S.length (.int i) _=_;unfold cX;rw[O0 rfl,if_pos H.all];rfl
noncomputable def hU(m:Int)(ts:Lq)(so:Li):Int:=(m+so.length-(fi so ts m.toNat).length)/2
theorem Ex(a:Flat S)(W:dD m ts)(O:gD m so):eY [ao m ts,aV so] S=.ok (.int (hU m ts so)) S:=by
 have H:=Ew a W O;refine p' (A:=(fi so ts m.toNat).map aV) rfl ?_ a;have b:∀T:ae,dM [aV so] T=.ok (.int so.length) T:=λT=>Eu so;have h:dM [.ref S.length] (S++[(fi so ts m.toNat).map aV])=.ok (.int (fi so ts m.toNat).length) (S++[(fi so ts m.toNat).map aV]):=by simp[dM,av]
 have c:∀T:ae,bP (ao m ts) (.int 0) T=.ok (.int m) T:=λ_=>rfl;unfold hU;generalize(fi so ts m.toNat).length=k at h;generalize S++[(fi so ts m.toNat).map aV]=T at H h;have d:fj (.int (m+so.length-k)) (.int 2) T=.ok (.int ((m+so.length-k)/2)) T:=rfl;simp[uR,Ck,af,ap,aj,ai,Res.bind,Res.noErr,bg,Cn,H,b,h,c,fE,fD,iu,d]
end K45
namespace K45
theorem wD:c_=K45.c_:=rfl
theorem LY:gw=K45.gr:=rfl
theorem qa:b3=K45.b3:=rfl
section
theorem wE:∀{xs:List D},xs.all (gC m)=MW->∃ns:Li,xs=ns.map D.int/\∀n∈ns,0<=n/\n<m
 | [],_=>⟨[],rfl,λ_ h=>by simp_all⟩
 |x::xs,h=>by
  simp only[Of,ZN]at h;obtain⟨ns,rfl,a⟩:=wE h.2;cases x with
  |int i=>exact⟨i::ns,rfl,λn H=>by
    rcases Zf.mp H with rfl|H
    ·exact Z5 h.1
    ·exact a n H⟩
  |_=>cases h.1
noncomputable def LZ(m:Int)(xs:List D):Bool:=xs.all (gC m)&&hO (xs.filterMap bD)
theorem Ey{k:Bool}(a:Flat S)(h:c_ [.int m,d] S=.ok (.bl k) S){j:Bool}(b:k=MW->b9 [d] S=.ok (.bl j) S):ea [ao m ts,d] S=.ok (.bl (k&&j)) S:=by
 refine aQ rfl ?_ rfl a rfl;have H:bP (ao m ts) (.int 0) S=.ok (.int m) S:=rfl;cases k with
 |false=>simp[oC,uI,af,ap,aj,ai,Res.bind,Res.noErr,H,uK,h,aH]
 |true=>simp[oC,uI,af,ap,aj,ai,Res.bind,Res.noErr,H,uK,BU,h,b rfl,aH]
theorem Ez(H:Flat S)(h:NT d):ea [ao m ts,d] S=.ok (.bl MX) S:=Ey (j:=MX) H (k:=MX) (by rw[wD];exact K45.DG H m h) λz=>by cases z
theorem L0(H:Flat S)(h:∀x∈xs,Kn x)(a:xs.length<=900):ea [ao m ts,.tup xs] S=.ok (.bl (LZ m xs)) S:=by refine Ey H (by exact K45.pu H m h (by lia)) λz=>?_;obtain⟨n,rfl,_⟩:=wE z;rw[wC];have:=LS H (ns:=n) (by grind);exact this
theorem wF:vd=[.ite JX [.ret (.lit (.bl MX))] [],.ret (.cmp .Eq (.blt (.list MX) [.var 1]) (.sset (.var 1)))]:=rfl
theorem wG(f:Flat S)(h:Kn d):aj e9 G0 CH [some d,some (.int m)] S=.ok (.bl (gC m d)) S:=by
 have H:=K45.kR f h;rw[<-LY]at H;rcases h.isI_or with⟨i,rfl⟩| ⟨g,e⟩
 ·have q:∀a b:Int,aF .LtE (.int a) (.int b) S=.ok (.bl (decide (a<=b))) S:=λa b=>rfl;have Q:∀a b:Int,aF .Lt (.int a) (.int b) S=.ok (.bl (decide (a<b))) S:=λa b=>rfl;have c:gw [.int i] S=.ok (.bl MW) S:=H
  have e:gC m (.int i)=(decide (0<=i)&&decide (i<m)):=by show decide (0<=i/\i<m)=_;simp_all
  rw[e];simp only[CH,aj,ai,Res.bind,Res.noErr,aH,CI,c,q,Q,Zu,Zx];cases decide (0<=i)<;>rfl
 ·rw[g]at H;rw[e];simp only[CH,aj,ai,Res.bind,aH,CI,H,Zu,ZA,if_false]
theorem qY{k:Bool}(h:fG [d,.ty "tuple"] S=.ok (.bl k) S):am e9 G0 (.bnot (.blt .isinst [.var 1,.ty "tuple"])) [some (.int m),some d] S=.ok (!k) S:=K45.cO (i:=1) rfl h|>bn
theorem wH(H:Flat S)(h:NT d):i5 [.int m,d] S=.ok (.bl MX) S:=by refine aQ rfl ?_ rfl H rfl;show af e9 G0 vd [some (.int m),some d] S=_;rw[wF];exact gE (eO (qY (h S)))
theorem qb(d:Flat S)(s:m<=8)(h:∀x∈xs,Kn x)(t:xs.length<=900):i5 [.int m,.tup xs] S=.ok (.bl (LZ m xs)) S:=by
 refine aQ rfl ?_ rfl d rfl
 have o:aj e9 G0 (.blt .all [Mv]) [some (.int m),some (.tup xs)] S=.ok (.bl (xs.all (gC m))) S:=
  fS (S:=S) (k7 (S:=S) (Φ:=e9) (N:=["_law_place","_law_many"]) (fr:=[none,some 0]) (tg:=.var 0) (e:=CH) (ds:=xs) (h:=id) (r0:=[none,some (.int m)]) (rs:=λe=>[some e,some (.int m)]) (f:=λe=>.bl (gC m e)) (k8 (k9 (i:=1) rfl) (by rw[List.map_id];rfl)) rfl (λe _=>rfl) (by omega) λe p=>wG d (h e p)) K45.allAt
 have H:am e9 G0 JX [some (.int m),some (.tup xs)] S=.ok (!(xs.all (gC m))) S:=eN (qY (k:=MW) rfl) (bn (ik o));unfold LZ;cases b:xs.all (gC m)with
 |false=>rw[b]at H;exact gE H
 |true=>
  rw[b]at H;refine(fg H).trans (b_ (eI ?_));obtain⟨a,rfl,q⟩:=wE b;rw[wC];have g:∀n∈a,0<=n/\n<8:=λn h=>by have:=q n h;omega
  have l:aj e9 G0 (.sset (.var 1)) [some (.int m),some (k6 a)] S=.ok (.lst ((K45.gJ a).map D.int)) S:=by show(cG (k6 a) S).noErr=_;rw[p9 (by simp_all) g];rfl
  have j:aj e9 G0 (.blt (.list MX) [.var 1]) [some (.int m),some (k6 a)] S=.ok (.lst (a.map D.int)) S:=fS (k9 (i:=1) rfl) rfl;have c:=LU (S:=S) a (K45.gJ a);rw[p6 g]at c;exact k_ j l c
structure fx (d:D):Prop where
 is:NT d\/∃xs,d=.tup xs/\(∀x∈xs,Kn x)/\xs.length<=900
 lo:aY 0 d=MW
theorem wI(b:m<=8)(h:fx d):∃k,∀S,Flat S->ea [ao m ts,d] S=.ok (.bl k) S/\i5 [.int m,d] S=.ok (.bl k) S:=by
 rcases h.is with h| ⟨x,rfl,h,a⟩
 ·exact⟨MX,λS H=>⟨Ez H h,wH H h⟩⟩
 ·exact⟨_,λS H=>⟨L0 H h a,qb H b h a⟩⟩
def Ik(e:D):Prop:=Kn e/\aY 0 e=MW
def IK(c:Nat)(xs:List D):Prop:=xs.length<=c/\∀e∈xs,Ik e
variable {l:List D}{o:D}{c b:Nat}
theorem IK.cut(h:IK c l)(x y:Option Int):IK c (a9 l x y):=⟨Zy (DL l x y) h.1,λe H=>h.2 e ((vT l x y).subset H)⟩
theorem IK.app(h:IK b xs)(h':IK c ys):IK (b+c) (xs++ys):=⟨by rw[Zm];have:=h.1;have:=h'.1;lia,λe H=>(ZE.mp H).elim (h.2 e) (h'.2 e)⟩
theorem IK.one(h:Ik o):IK 1 [o]:=⟨Zg _,λe H=>by rw[NV.mp H];exact h⟩
theorem IK.fine(h:IK c l)(a:c<=900):fx (.tup l):=⟨.inr ⟨l,rfl,λe H=>(h.2 e H).1,by have:=h.1;omega⟩,e_ λe H=>(h.2 e H).2⟩
theorem L1:vc=[.asg 3 (.call "_law_draw" [.var 0,.bin .Add (.blt .len [.var 2]) (.lit (.int 1))]),.asg 4 (.idx (.lst MX CG) (.call "_law_draw" [.var 0,.lit (.int 8)])),.asg 5 (.lst MX u9),.ret (.idx (.bin .Add (.var 5) (.lst MX u_)) (.call "_law_draw" [.var 0,.lit (.int 11)]))]:=rfl
variable {a:Int}
theorem qc(b:ρ[2]?=some (some (.tup l)))(d:ρ[3]?=some (some (.int a)))(f:ρ[4]?=some (some o))(H:IK 8 l)(g:Ik o):∃rs,(∀e∈rs,fx e)/\rs.length=6/\ai Φ G0 u9 ρ S=.ok rs S:=by
 have V:aj Φ G0 (.var 3) ρ S=.ok (.int a) S:=al d;have v:aj Φ G0 (.var 2) ρ S=.ok (.tup l) S:=al b;have k:=(H.cut none (some a)).app (IK.one g);have E:aj Φ G0 JV ρ S=.ok (.tup (a9 l none (some a)++[o])) S:=gO (jm v o0 (o1 V)) (fh (aR (al f) cP)) (by have:=(H.cut none (some a)).1;simp only[ZC,N1];omega);have A:∀x,IK 17 (a9 l none (some a)++[o]++a9 l x none):=λx=>k.app (H.cut x none);refine⟨[.tup (a9 l none (some a)++[o]++a9 l (some a) none),.tup (a9 l none (some a)++[o]++a9 l (some (a+1)) none),.tup l.reverse,.lst l,.tup [.tup l],.non],λe h=>?_,rfl,?_⟩
 ·simp only[Zf,Zp,Z0]at h;rcases h with rfl|rfl|rfl|rfl|rfl|rfl
  ·exact(A _).fine (by omega)
  ·exact(A _).fine (by omega)
  ·exact IK.fine (c:=8) ⟨by rw[RI];exact H.1,λe h=>H.2 e (Sm.mp h)⟩ (by omega)
  ·exact⟨.inl λ_=>rfl,e_ λe h=>(H.2 e h).2⟩
  ·exact IK.fine (c:=1) (IK.one ⟨.inr (.inr (.inr (.inr (.inl ⟨_,rfl⟩)))),e_ λe h=>(H.2 e h).2⟩) (by omega)
  ·exact⟨.inl λ_=>rfl,rfl⟩
 ·have z:∀x,(a9 l none (some a)++[o]).length+(a9 l x none).length<=1000:=λx=>by have:=k.1;have:=(H.cut x none).1;omega
  refine aR (gO E (jm v (o1 V) o0) (z _)) (aR (gO E (jm v (o1 (d1 V)) o0) (z _)) (aR ?_ (aR (fS v rfl) (aR (fh (aR v cP)) (aR ax cP)))));simp only[aj,b,Res.bind,xn,K45.kT,Res.noErr]
theorem qd(c:ρ[2]?=some (some (.tup l)))(d:ρ[3]?=some (some (.int a)))(H:IK 8 l):∃rs,(∀e∈rs,fx e)/\rs.length=5/\ai Φ G0 u_ ρ S=.ok rs S:=by
 have V:aj Φ G0 (.var 3) ρ S=.ok (.int a) S:=al d;have v:aj Φ G0 (.var 2) ρ S=.ok (.tup l) S:=al c;refine⟨[.tup (l++a9 l (some (-1)) none),.int 0,.str "0",.dct,.tup (a9 l (some a) none++a9 l none (some a))],λe b=>?_,rfl,?_⟩
 ·simp only[Zf,Zp,Z0]at b;rcases b with rfl|rfl|rfl|rfl|rfl
  ·exact(H.app (H.cut _ _)).fine (by omega)
  ·exact⟨.inl λ_=>rfl,rfl⟩
  ·exact⟨.inl λ_=>rfl,rfl⟩
  ·exact⟨.inl λ_=>rfl,rfl⟩
  ·exact((H.cut _ _).app (H.cut _ _)).fine (by omega)
 ·have h:=H.1;refine aR (gO v (jm v (o1 xn) o0) (by have:=(H.cut (some (-1)) none).1;omega)) (aR ax (aR ax (aR (by rw[aj]) (aR (gO (jm v (o1 V) o0) (jm v o0 (o1 V)) (by have:=(H.cut (some a) none).1;have:=(H.cut none (some a)).1;omega)) cP))))
theorem wJ(H:ρ[0]?=some (some (.ref n)))(h1:ρ[1]?=some (some (.int m)))(M:1<=m)(i:m<=8)(f:Flat S)(g:aP S n):∃o S',(∀e∈o,Ik e)/\o.length=8/\Drawn n S S'/\aj dC G0 (.lst MX CG) ρ S=.ok (.lst o) S':=by
 obtain⟨r,a,R,j,b,E⟩:=dF f g (m:=m) (by omega) (by omega);rw[<-qa]at E;refine⟨[.int m,.int (-1),.bl MW,.non,.str "0",.tup [.int 0],.int (10^30),.int r],a,λe h=>?_,rfl,b,?_⟩
 ·simp only[Zf,Zp,Z0]at h;rcases h with rfl|rfl|rfl|rfl|rfl|rfl|rfl|rfl
  ·exact⟨.inl ⟨_,rfl⟩,rfl⟩
  ·exact⟨.inl ⟨_,rfl⟩,rfl⟩
  ·exact⟨.inr (.inl ⟨_,rfl⟩),rfl⟩
  ·exact⟨.inr (.inr (.inr (.inl rfl))),rfl⟩
  ·exact⟨.inr (.inr (.inl ⟨_,rfl⟩)),rfl⟩
  ·exact⟨.inr (.inr (.inr (.inr (.inl ⟨_,rfl⟩)))),rfl⟩
  ·exact⟨.inl ⟨_,rfl⟩,rfl⟩
  ·exact⟨.inl ⟨_,rfl⟩,rfl⟩
 ·have N:aj dC G0 (.neg (.lit (.int 1))) ρ S=.ok (.int (-1)) S:=xn;have t:aj dC G0 (.bin .Pow (.lit (.int 10)) (.lit (.int 30))) ρ S=.ok (.int (10^30)) S:=LF;have c:aj dC G0 (.call "_law_draw" [.var 0,.var 1]) ρ S=.ok (.int r) a:=gB o4 (al H) (al h1) E;have T:aj dC G0 (.tup [.lit (.int 0)]) ρ S=.ok (.tup [.int 0]) S:=fh (aR ax cP);have v:aj dC G0 (.var 1) ρ S=.ok (.int m) S:=al h1;have l:∀d:D,aj dC G0 (.lit d) ρ S=.ok d S:=λd=>ax
  have e:ai dC G0 CG ρ S=.ok [.int m,.int (-1),.bl MW,.non,.str "0",.tup [.int 0],.int (10^30),.int r] a:=by unfold CG;simp only[ai,N,t,c,T,v,l,Res.bind]
  simp only[aj,e,Res.bind,ZA,if_false]
theorem wK(m1:1<=m)(m8:m<=8)(Z:so.length<=8)(F:Flat S)(G:aP S n):∃d S',fx d/\Drawn n S S'/\o5 [.ref n,.int m,k6 so] S=.ok d S':=by have x:IK 8 (so.map D.int):=⟨by rw[Zk];exact Z,λe Y=>by obtain⟨i,_,rfl⟩:=Zo.mp Y;exact⟨.inl ⟨i,rfl⟩,rfl⟩⟩;unfold k6;generalize so.map D.int=l at*;have hll:=x.1;obtain⟨a,S1,a0,a1,q,E⟩:=dF F G (m:=(l.length:Nat)+1) (by omega) (by omega);rw[<-qa]at E;have h:=q.flat F;have k:=q.pen G;obtain⟨I,S2,ho,hol,s,M⟩:=wJ (ρ:=[some (.ref n),some (.int m),some (.tup l),some (.int a),none,none]) (m:=m) rfl rfl m1 m8 h k;have H:=s.flat h;have p:=s.pen k;obtain⟨c,u,L,c1,t,B⟩:=dF H p (m:=8) (by omega) (by omega);rw[<-qa]at B;have b:=t.flat H;have z:=t.pen p;obtain⟨O,y,N⟩:=jc (S:=u) (d:=.lst I) (xs:=I) (r:=c) rfl L (by omega);obtain⟨R,U,l1,P⟩:=qc (S:=u) (Φ:=dC) (ρ:=[some (.ref n),some (.int m),some (.tup l),some (.int a),some O,none]) (l:=l) (a:=a) (o:=O) rfl rfl rfl x (ho O y);obtain⟨J,V,l2,Q⟩:=qd (S:=u) (Φ:=dC) (ρ:=[some (.ref n),some (.int m),some (.tup l),some (.int a),some O,some (.lst R)]) (l:=l) (a:=a) rfl rfl x;obtain⟨g,v,W,g1,A,C⟩:=dF b z (m:=11) (by omega) (by omega);rw[<-qa]at C;have w:=A.flat b;obtain⟨d,X,T⟩:=jc (S:=v) (d:=.lst (R++J)) (xs:=R++J) (r:=g) rfl W (by simp only[Zm];omega);have f:fx d:=(ZE.mp X).elim (U d) (V d);have hD:Drawn n S v:=((q.trans s).trans t).trans A;refine⟨d,v,f,hD,aQ rfl ?_ hD.len w f.lo⟩;show af dC G0 vc [some (.ref n),some (.int m),some (.tup l),none,none,none] S=_;rw[L1];have j:aj dC G0 (.bin .Add (.blt .len [.var 2]) (.lit (.int 1))) [some (.ref n),some (.int m),some (.tup l),none,none,none] S=.ok (.int ((l.length:Nat)+1)) S:=d1 (fS (al (i:=2) rfl) rfl);refine(bJ (gB o4 (al rfl) j E)).trans ?_;refine(bJ (dR M (gB o4 (al rfl) ax B) N)).trans ?_;refine(bJ (ls P)).trans ?_;exact b_ (eI (dR (fT (al (i:=5) rfl) (ls Q) (DK (by omega))) (gB o4 (al rfl) ax C) T))
def lm(m:Int)(ts:Lq)(d:D):Prop:=∀S,Flat S->ea [ao m ts,d] S=.ok (.bl MX) S
theorem L3(p:1<=m)(M:m<=8)(i:so.length<=8)(H:Flat S)(o:aP S n):∃d S',lm m ts d/\Drawn n S S'/\kN [.ref n,.int m,k6 so] S=.ok d S':=by
 obtain⟨d,b,c,a,e⟩:=wK p M i H o;have h:=a.flat H;obtain⟨k,f⟩:=wI (ts:=ts) M c;have E:=(f b h).2;have L:aY 0 (.lst (so.map D.int))=MW:=K45.wf so;have g:bg (.list MX) [k6 so] b=.ok (.lst (so.map D.int)) b:=rfl;have j:NT (.lst (so.map D.int)):=λ_=>rfl;generalize so.map D.int=l at*;cases k with
 |false=>refine⟨d,b,λS H=>(f S H).1,a,aQ rfl ?_ a.len h c.lo⟩;simp[vg,vf,af,ap,am,aj,ai,Res.bind,CJ,CK,e,E,bH]
 |true=>refine⟨.lst l,b,λS H=>Ez H j,a,aQ rfl ?_ a.len h L⟩;simp[vg,vf,af,ap,am,aj,ai,Res.bind,Res.noErr,CJ,CK,e,E,g,bH]
end
theorem qe:cY=K45.cY:=rfl
theorem qf:eF=K45.eF:=rfl
theorem L4:i4=K45.i4:=rfl
theorem qg:i3=K45.i3:=rfl
theorem qh:iY=K45.iY:=rfl
theorem L5:iX=K45.iX:=rfl
theorem L6:hG=K45.hG:=rfl
section
variable {w p q:D}{x:Exc}
abbrev L7:Exc:=⟨"NoPlaces",[]⟩
theorem EA(H:Flat S)(h:de d):cY [d] S=.err gP S:=by rw[qe];exact K45.wA H h
theorem wL(H:Flat S)(h:de d):fL [d,p] S=.err gP S:=by have e:=EA H h;refine c0 rfl ?_ H;simp[oG,af,ap,aj,ai,Res.bind,uP,e]
theorem L8(h:Flat S)(W:dD m ts):cY [ao m ts] S=.ok .non S:=K45.vC h W
theorem L9(H:Flat S)(h:lm m ts d):kF [ao m ts,d] S=.err L7 S:=by have e:=h S H;refine c0 rfl ?_ H;simp[uN,af,ap,am,aj,ai,Res.bind,B0,e,bH]
theorem wM(H:Flat S)(W:dD m ts)(h:lm m ts d):fL [ao m ts,d] S=.err L7 S:=by have e:=L8 H W;have E:=L9 H h;refine c0 rfl ?_ H;simp[oG,af,ap,aj,ai,Res.bind,uP,B5,e,E]
theorem wN(H:Flat S)(h:fL [w,d] S=.err x S):fM [w,d] S=.err x S:=by refine c0 rfl ?_ H;simp[oN,af,ap,aj,ai,aW,Res.bind,Cj,h]
theorem EB(H:Flat S)(h:fL [w,d] S=.err x S):eY [w,d] S=.err x S:=by have e:=wN H h;refine c0 rfl ?_ H;simp[uR,af,ap,aj,ai,Res.bind,Cn,e]
theorem L_(H:Flat S)(h:de d):gv [d,p,q] S=.err gP S:=by
 have e:eF [d,p] S=.err gP S:=by exact K45.LN H h
 refine c0 rfl ?_ H;simp[oO,af,ap,aj,ai,Res.bind,uS,e]
theorem EC(H:Flat S)(h:de d):iW [d] S=.err gP S:=by
 have e:kM [d] S=.err gP S:=by exact K45.pY H h
 refine c0 rfl ?_ H;simp[Cp,af,ap,aj,ai,Res.bind,JF,e]
theorem wO(H:Flat S)(h:de d):oQ [d] S=.err gP S:=by have e:=EC H h;refine c0 rfl ?_ H;simp[Cs,Cr,af,ap,aj,ai,Res.bind,JG,e]
theorem wP(H:Flat S)(h:de d):ie [d] S=.err gP S:=by have e:=EA H h;refine c0 rfl ?_ H;simp[qS,af,ap,aj,ai,Res.bind,JH,e]
theorem ln(H:Flat S)(W:dD m ts):eF [ao m ts,.tup []] S=.ok .non S:=by rw[qf,K45.LM];exact K45.KQ (ps:=[]) H W ⟨.nil,(λ_ h=>nomatch h),.nil⟩ (by simp)
theorem L'(H:Flat S)(W:dD m ts)(h:lm m ts d):gv [ao m ts,.tup [],d] S=.ok (.bl MX) S:=by have e:=ln H W;have E:=h S H;refine aQ rfl ?_ rfl H rfl;simp[oO,af,ap,aj,ai,Res.bind,uS,Co,e,E,aH]
theorem Ma(h:Flat S)(W:dD m ts)(O:gD m so):∃k,gv [ao m ts,.tup [],aV so] S=.ok (.bl k) S:=by
 have e:=ln h W;have E:ea [ao m ts,aV so] S=.ok (.bl MW) S:=K45.DS h (by have:=O.len;lia) O.inn O.ris;have a:eY [ao m ts,aV so] S=.ok (.int (hU m ts so)) S:=by exact K45.Ex h W O
 have c:dM [.tup []] S=.ok (.int 0) S:=rfl;have d:aF .Eq (.int (hU m ts so)) (.int 0) S=.ok (.bl (hU m ts so==0)) S:=rfl;generalize hU m ts so=b at*;refine⟨b==0,aQ rfl ?_ rfl h rfl⟩;simp[oO,af,ap,aj,ai,Res.bind,Res.noErr,uS,Co,JA,e,E,a,c,d,aH,bg]
abbrev s2:Ls:=["odd_left","bound"]
abbrev s3:Ls:=["all_papers","paper_for","bar"]
theorem ED:o6=[.tryK 3 c6 "_law_kinds" xh uD,.ret (.lit (.str "told"))]:=rfl
variable {a b:D}{i:Int}{R:ae}
theorem gK(H:Flat S)(h:af b4 G0 c6 [some (.int i),some a,some b,none] S=.err x S)(d:x.fs=[])(c:(xh.zip uD).lookup x.cls=some y):eG [.int i,a,b] S=.ok (.str y) S:=by refine aQ rfl ?_ rfl H rfl;show af b4 G0 o6 [some (.int i),some a,some b,none] S=_;rw[ED];refine b_ ?_;rw[ap,h];simp only[d,c]
theorem qi(H:Flat S)(h:af b4 G0 c6 [some (.int i),some a,some b,none] S=.ok (.next [some (.int i),some a,some b,none]) (S++R)):eG [.int i,a,b] S=.ok (.str "told") S:=by refine K45.El (R:=R) rfl ?_ rfl H rfl;show af b4 G0 o6 [some (.int i),some a,some b,none] S=_;rw[ED];refine(b5 (ρ':=[some (.int i),some a,some b,none]) (S':=S++R) ?_).trans (b_ (eI ax));rw[ap,h]
theorem wQ:am b4 G0 (.cmp .Lt (.var 0) (.lit (.int 2))) [some (.int i),some a,some b,none] S=.ok (decide (i<2)) S:=la (al rfl) ax rfl
theorem EE:am b4 G0 (.cmp .Eq (.var 0) (.lit (.int 2))) [some (.int i),some a,some b,none] S=.ok (i==2) S:=la (al rfl) ax rfl
theorem jg{f:Str}(c:0<=i)(d:i<2)(g:s2[i.toNat]?=some f)(H:b4 f=some φ):af b4 G0 c6 [some (.int i),some a,some b,none] S=(φ [a,b] S).bind λ_ S1=>.ok (.next [some (.int i),some a,some b,none]) S1:=by
 have h:(s2.all λf=>(b4 f).isSome)=MW:=rfl;have e:aj b4 G0 JZ [some (.int i),some a,some b,none] S=φ [a,b] S:=by unfold JZ;rw[aj,if_pos ⟨h,by decide⟩];simp[aj,ai,Res.bind,c,g,H]
 have t:=wQ (i:=i) (a:=a) (b:=b) (S:=S);rw[ZK d]at t;unfold c6;simp only[af,ap,t,Res.bind,if_true,e];cases φ [a,b] S<;>rfl
theorem wR:af b4 G0 c6 [some (.int 2),some a,some b,none] S=(gv [a,.tup [],b] S).bind λ_ S1=>.ok (.next [some (.int 2),some a,some b,none]) S1:=by have t:=wQ (i:=2) (a:=a) (b:=b) (S:=S);have T:=EE (i:=2) (a:=a) (b:=b) (S:=S);have e:aj b4 G0 (.call "is_paper" [.var 1,.tup [],.var 2]) [some (.int 2),some a,some b,none] S=gv [a,.tup [],b] S:=rfl;unfold c6;simp only[af,ap,t,T,Res.bind,e];cases gv [a,.tup [],b] S<;>rfl
theorem wS{f:Str}(k:3<=i)(d:s3[(i-3).toNat]?=some f)(H:b4 f=some φ):af b4 G0 c6 [some (.int i),some a,some b,none] S=(φ [a] S).bind λ_ S1=>.ok (.next [some (.int i),some a,some b,none]) S1:=by
 have h:(s3.all λf=>(b4 f).isSome)=MW:=rfl;have g:fE .Sub (.int i) (.int 3) S=.ok (.int (i-3)) S:=rfl
 have e:aj b4 G0 J1 [some (.int i),some a,some b,none] S=φ [a] S:=by
  unfold J1;rw[aj,if_pos ⟨h,by decide⟩];have c:0<=i-3:=by omega
  generalize i-3=j at g d c;simp[aj,ai,Res.bind,Res.noErr,g,c,d,H]
 have t:=wQ (i:=i) (a:=a) (b:=b) (S:=S);have T:=EE (i:=i) (a:=a) (b:=b) (S:=S);rw[ZD (by omega)]at t;rw[show(i==2)=MX by simp;omega]at T;unfold c6;simp only[af,ap,t,T,Res.bind,ZA,if_false,e];cases φ [a] S<;>rfl
theorem fy:(xh.zip uD).lookup gP.cls=some "web":=by decide+kernel
theorem qZ:(xh.zip uD).lookup L7.cls=some "places":=by decide+kernel
theorem Mb(H:Flat S)(h:de a):∀i:Int,0<=i/\i<6->eG [.int i,a,b] S=.ok (.str "web") S:=by
 intro i c;have e:=wL (p:=b) H h;rcases(by omega:i=0\/i=1\/i=2\/i=3\/i=4\/i=5)with rfl|rfl|rfl|rfl|rfl|rfl
 ·exact gK H (by rw[jg (by decide) (by decide) rfl vi,wN H e];rfl) rfl fy
 ·exact gK H (by rw[jg (by decide) (by decide) rfl vj,EB H e];rfl) rfl fy
 ·exact gK H (by rw[wR,L_ H h];rfl) rfl fy
 ·exact gK H (by rw[wS (by decide) rfl J2,EC H h];rfl) rfl fy
 ·exact gK H (by rw[wS (by decide) rfl J3,wO H h];rfl) rfl fy
 ·exact gK H (by rw[wS (by decide) rfl J4,wP H h];rfl) rfl fy
theorem Mc(H:Flat S)(W:dD m ts)(h:lm m ts b):eG [.int 0,ao m ts,b] S=.ok (.str "places") S/\eG [.int 1,ao m ts,b] S=.ok (.str "places") S/\eG [.int 2,ao m ts,b] S=.ok (.str "told") S:=by
 have e:=wM H W h;have E:=L' H W h;generalize ao m ts=w at*;refine⟨?_,?_,?_⟩
 ·exact gK H (by rw[jg (by decide) (by decide) rfl vi,wN H e];rfl) rfl qZ
 ·exact gK H (by rw[jg (by decide) (by decide) rfl vj,EB H e];rfl) rfl qZ
 ·exact qi (R:=[]) H (by rw[wR,E,ZY];rfl)
theorem Md(h:Flat S)(W:dD m ts)(O:gD m so):∀i:Int,0<=i/\i<3->eG [.int i,ao m ts,aV so] S=.ok (.str "told") S:=by
 intro i H;have e:fM [ao m ts,aV so] S=.ok (.ref S.length) (S++[(fi so ts m.toNat).map aV]):=by exact K45.Ew h W O
 have E:eY [ao m ts,aV so] S=.ok (.int (hU m ts so)) S:=by exact K45.Ex h W O
 obtain⟨k,a⟩:=Ma h W O;rcases(by lia:i=0\/i=1\/i=2)with rfl|rfl|rfl
 ·exact qi h (by rw[jg (by decide) (by simp) rfl vi,e];rfl)
 ·exact qi (R:=[]) h (by rw[jg (by simp) (by simp) rfl vj,E,ZY];rfl)
 ·exact qi (R:=[]) h (by rw[wR,a,ZY];rfl)
theorem EF{i:Type}{h f:i->D}{step:D->List D->ae->Res (List D)}:∀(ds:List i) (acc:List D) (S:ae),Flat S->aP S n->
  (∀d∈ds,∀acc T,Flat T->aP T n->acc.length+ds.length<=10000+ds.length->∃c,Drawn n T c/\step (h d) acc T=.ok (acc++[f d]) c)->acc.length+ds.length<=10000->∃S',Drawn n S S'/\aG step (ds.map h) acc S=.ok (acc++ds.map f) S'
 | [],acc,S,_,H,_,_=>⟨S,.refl H,by simp[aG]⟩
 |d::ds,acc,S,e,H,g,p=>by simp only[ZC]at p;obtain⟨b,a,E⟩:=g d Ze acc S e H (by lia);obtain⟨k,j,q⟩:=EF ds (acc++[f d]) b (a.flat e) (a.pen H) (λl o acc T m P r=>g l (Zb _ o) acc T m P (by simp_all)) (by grind);refine⟨k,a.trans j,?_⟩;rw[ZZ];simp[aG];rw[E];show aG step (ds.map h) (acc++[f d]) b=_;simp_all
theorem wT{e:CE}{tg:CT}{rs:α->bI}{it:CE}{ds:List α}{h f:α->D}(o:Flat S)(u:aP S n)(t:aW Φ G0 it ρ S=.ok (.items (ds.map h)) S)(v:fr.map (λj=>j.bind λj=>(ρ[j]?).join)=r0)
  (q:∀d∈ds,bd tg (h d) r0=some (rs d)) (w:ds.length<=10000) (s:∀d∈ds,∀T,Flat T->aP T n->∃c,Drawn n T c/\aj Φ G0 e (rs d) T=.ok (f d) c):∃S',Drawn n S S'/\aj Φ G0 (.comp MX N fr tg it [] (.emit e)) ρ S=.ok (.lst (ds.map f)) S':=by
 obtain⟨S',g,E⟩:=EF (n:=n) (h:=h) (f:=f) (step:=λy a m=>match bd tg y r0 with
    |some b=>(aM Φ G0 [] b m).bind λk i=>if k=MW then bq Φ G0 (.emit e) b a i else .ok a i
    |none=>.fail) ds [] S o u (λd l a T p P r=>by
     obtain⟨c,g,E⟩:=s d l T p P;refine⟨c,g,?_⟩;have H:a.length<16777216:=by lia
     rw[q d l];simp[aM,bq,Res.bind,E,H]) (by simp_all)
 refine⟨S',g,K45.fQ t ?_⟩;rw[v];exact E
theorem EG{o:O5}{a b:CE}{e:D}{k:Bool}(h1:aj Φ G0 a ρ S=.ok d S1)(h:aj Φ G0 b ρ S1=.ok e S2)(H:aF o d e S2=.ok (.bl k) S2):am Φ G0 (.cmp o a b) ρ S=.ok k S2:=by simp only[am,aj,h1,h,H,Res.bind,Res.noErr,aH]
noncomputable def EI:CE:=.call "_law_came" [.var 0,.var 1,.idx (.lst MX [.var 2,.var 3]) (.call "_law_draw" [.var 4,.lit (.int 2)])]
noncomputable def wU:CE:=.cmp .NotEq (.comp MX ["_law_way","_law_bad","_law_some_here","_law_none","_law_pen_here"] [none,some 5,some 4,some 6,some 2] (.var 0) (.range [.lit (.int 6)]) [] (.emit EI)) (.bin .Mult (.lst MX [.lit (.str "web")]) (.lit (.int 6)))
noncomputable def wV(k v V:Nat)(N:Ls):CE:=.comp MX N [none,some v,some V] (.var 0) (.range [.lit (.int k)]) [] (.emit (.call "_law_came" [.var 0,.var 1,.var 2]))
noncomputable def wW:CE:=.cmp .NotEq (wV 3 3 6 ["_law_way","_law_web_here","_law_none"]) (.lst MX [.lit (.str "places"),.lit (.str "places"),.lit (.str "told")])
noncomputable def wX:CE:=.cmp .NotEq (wV 3 3 4 ["_law_way","_law_web_here","_law_some_here"]) (.bin .Mult (.lst MX [.lit (.str "told")]) (.lit (.int 3)))
noncomputable def wY:List CS:=[.asg 2 (.call "_law_pen" [.var 1]),.asg 3 (.call "_law_web" [.var 2,.lit (.int 8)]),.asg 4 (.call "_law_some" [.var 2,.idx (.var 3) (.lit (.int 0))]),.asgT (.tup [.var 5,.var 6]) (.tup [.call "_law_no_web" [.var 2,.var 3],.call "_law_no_places" [.var 2,.idx (.var 3) (.lit (.int 0)),.var 4]]),.ite wU [.ret (.lit (.bl MX))] [],.ite wW [.ret (.lit (.bl MX))] [],.ite wX [.ret (.lit (.bl MX))] []]
noncomputable def EJ:CE:=.seq (.bin .Add (.lst MX [.call "_law_cell" [.var 0,.lit (.int 0)]]) (.sl (.var 0) [.lit (.int 1)] [.lit (.int 8)]))
theorem lp{v V:Nat}{is:Li}{a b:D}{f:Int->D}(H:aW aN G0 (.range [.lit (.int k)]) ρ S=.ok (.items (is.map D.int)) S)(h1:ρ[v]?=some (some a))(e:ρ[V]?=some (some b))(g:is.length<=1000)(c:∀i∈is,eG [.int i,a,b] S=.ok (f i) S):aj aN G0 (wV k v V N) ρ S=.ok (.lst (is.map f)) S:=by refine k7 (h:=D.int) (f:=f) (ds:=is) (r0:=[none,some a,some b]) (rs:=λi=>[some (.int i),some a,some b]) H (by simp_all) (λ_ _=>rfl) (by lia) λi H=>?_;have h:=c i H;assumption
theorem wZ(hS:Flat S){s0:Option D}(c:Int):∃y2 y3 y4 y5 y6 S',Flat S'/\af aN G0 wY [s0,some (.int c),x2,x3,x4,x5,x6] S=.ok (.next [s0,some (.int c),y2,y3,y4,y5,y6]) S':=by
 obtain⟨b,eb⟩:=K45.wn hS c;rw[<-qh]at eb;have q:Flat (S++[[.int c,.int b]]):=hS.snoc rfl;have A:aP (S++[[.int c,.int b]]) S.length:=⟨c,b,by rw[Zz (Zg _)];simp⟩;obtain⟨m,I,J,W,d2,e2⟩:=K45.vK q A;rw[<-qg]at e2;have s:=d2.flat q;have C:=d2.pen A;obtain⟨X,G,O,Z,L⟩:=K45.pJ s C W.lo W.hi;rw[<-L6]at L;have t:=Z.flat s;have E:=Z.pen C;obtain⟨B,S4,y,d4,e4⟩:=K45.LR W t E;rw[<-L4]at e4;have u:=d4.flat t;have F:=d4.pen E;obtain⟨a,o,z,d5,e5⟩:=L3 (ts:=I) W.lo W.hi O.len u F;have v:=d5.flat u;have U:=d5.pen F;have i0:∀T,bP (ao m I) (.int 0) T=.ok (.int m) T:=λT=>rfl;have hs:=λ(T:ae) (j:Flat T)=>Mc j W z;have V:=λ(T:ae) (j:Flat T)=>Md j W O;change kN [.ref S.length,.int m,aV X] S4=.ok a o at e5;change hG [.ref S.length,.int m] J=.ok (aV X) G at L;generalize ao m I=w at*;generalize aV X=l at*
 obtain⟨g,d6,e6⟩:=wT (n:=S.length) (Φ:=aN) (ρ:=[s0,some (.int c),some (.ref S.length),some w,some l,some B,some a]) (e:=EI) (N:=["_law_way","_law_bad","_law_some_here","_law_none","_law_pen_here"]) (fr:=[none,some 5,some 4,some 6,some 2]) (tg:=.var 0) (it:=.range [.lit (.int 6)]) (ds:=([0,1,2,3,4,5]:Li)) (h:=D.int) (f:=λ_=>.str "web") (r0:=[none,some B,some l,some a,some (.ref S.length)]) (rs:=λi=>[some (.int i),some B,some l,some a,some (.ref S.length)]) v U rfl rfl (λ_ _=>rfl) (by decide) (λi k T j pT=>by
  obtain⟨r,p,r0,r1,Y,K⟩:=dF j pT (m:=2) (by omega) (by omega);have K:b3 [.ref S.length,.int 2] T=.ok (.int r) p:=K;have R:=Y.flat j;obtain⟨Q,_,M⟩:=jc (S:=p) (d:=.lst [l,a]) (xs:=[l,a]) rfl r0 (by simpa using r1);have h:=Mb (b:=Q) R y i (by simp only[Zf,Zp,Z0]at k;omega);have P:aj aN G0 (.idx (.lst MX [.var 2,.var 3]) (.call "_law_draw" [.var 4,.lit (.int 2)])) [some (.int i),some B,some l,some a,some (.ref S.length)] T=.ok Q p:=dR (ls (aR (al rfl) (aR (al rfl) cP))) (gB Ka (al rfl) ax K) M;refine⟨p,Y,?_⟩;have v0:aj aN G0 (.var 0) [some (.int i),some B,some l,some a,some (.ref S.length)] T=.ok (.int i) T:=al rfl;have v1:aj aN G0 (.var 1) [some (.int i),some B,some l,some a,some (.ref S.length)] T=.ok B T:=al rfl
  have eL:ai aN G0 [.var 0,.var 1,.idx (.lst MX [.var 2,.var 3]) (.call "_law_draw" [.var 4,.lit (.int 2)])] [some (.int i),some B,some l,some a,some (.ref S.length)] T=.ok [.int i,B,Q] p:=by simp only[ai,v0,v1,P,Res.bind]
  show aj aN G0 (.call "_law_came" _) _ T=_;rw[aj,J'];simp only[eL,Res.bind,h])
 have H:=d6.flat v;obtain⟨g0,g1,g2⟩:=hs g H;have V:=V g H;refine⟨some (.ref S.length),some w,some l,some B,some a,g,H,?_⟩;unfold wY;refine(bJ (d:=.ref S.length) (S':=S++[[.int c,.int b]]) (KW J5 (al rfl) eb)).trans ?_;refine(bJ (d:=w) (S':=J) (gB J6 (al rfl) ax e2)).trans ?_;refine(bJ (d:=l) (S':=G) (gB J7 (al rfl) (dR (al rfl) ax (i0 J)) L)).trans ?_;refine(b5 (ρ':=[s0,some (.int c),some (.ref S.length),some w,some l,some B,some a]) (S':=o) ?_).trans ?_
 ·have h:aj aN G0 (.tup [.call "_law_no_web" [.var 2,.var 3],.call "_law_no_places" [.var 2,.idx (.var 3) (.lit (.int 0)),.var 4]]) [s0,some (.int c),some (.ref S.length),some w,some l,x5,x6] G=.ok (.tup [B,a]) o:=by
   simp only[aj,ai,Res.bind,Res.noErr,Zu,Zx,J9,J_,i0,e4,e5]
  show ap aN G0 _ [s0,some (.int c),some (.ref S.length),some w,some l,x5,x6] G=_;rw[ap,h];rfl
 have t1:am aN G0 wU [s0,some (.int c),some (.ref S.length),some w,some l,some B,some a] o=.ok MX g:=by have M:aj aN G0 (.bin .Mult (.lst MX [.lit (.str "web")]) (.lit (.int 6))) [s0,some (.int c),some (.ref S.length),some w,some l,some B,some a] g=.ok (.lst (M3 6 (.str "web"))) g:=fT (ls (aR ax cP)) ax rfl;have P:aF .NotEq (.lst (([0,1,2,3,4,5]:Li).map λ_=>D.str "web")) (.lst (M3 6 (.str "web"))) g=.ok (.bl MX) g:=rfl;exact EG e6 M P
 have t2:am aN G0 wW [s0,some (.int c),some (.ref S.length),some w,some l,some B,some a] g=.ok MX g:=
  la (lp (is:=[0,1,2]) (f:=λi=>if i=2 then .str "told" else .str "places") rfl rfl rfl (by decide) λi k=>by
   simp only[Zf,Zp,Z0]at k;rcases k with rfl|rfl|rfl
   ·exact g0
   ·exact g1
   ·exact g2) (ls (aR ax (aR ax (aR ax cP)))) rfl
 have t3:am aN G0 wX [s0,some (.int c),some (.ref S.length),some w,some l,some B,some a] g=.ok MX g:=
  la (lp (is:=[0,1,2]) (f:=λ_=>.str "told") rfl rfl rfl (by decide) λi k=>V i (by simp only[Zf,Zp,Z0]at k;omega)) (fT (ls (aR ax cP)) ax (x:=.lst (M3 3 (.str "told"))) rfl) rfl
 refine Eq.trans (b:=af aN G0 [.ite wW [.ret (.lit (.bl MX))] [],.ite wX [.ret (.lit (.bl MX))] []] [s0,some (.int c),some (.ref S.length),some w,some l,some B,some a] g) ?_ ((fg t2).trans ((fg t3).trans rfl));show af aN G0 (.ite wU [.ret (.lit (.bl MX))] []::_) _ o=_;rw[af,ap,t1];rfl
theorem qj(a:Flat S)(f:ns.length<=63){x:List (Option D)}:∃cs:Li,aW aN G0 EJ (some (.scr (ns.map D.int))::x) S=.ok (.items (cs.map D.int)) S:=by
 obtain⟨c,e⟩:=K45.pR a ns;rw[<-L5]at e;obtain⟨cs,b,d⟩:∃cs:Li,a9 (ns.map D.int) (some 1) (some 8)=cs.map D.int/\cs.length<=63:=by refine⟨(ns.drop _).take _,by unfold a9;rw[<-OC,<-Pn],?_⟩;simp;omega
 refine⟨c::cs,?_⟩;have h:mm (.scr (ns.map D.int)) (some 1) (some 8) S=.ok (.lst (cs.map D.int)) S:=by rw[<-b];rfl
 have H:fD (.lst [.int c]) (.lst (cs.map D.int)) S=.ok (.lst ([.int c]++cs.map D.int)) S:=by show(if 1+(cs.map D.int).length<=bB then Res.ok (D.lst ([.int c]++cs.map D.int)) S else .fail)=_;rw[if_pos (by unfold bB;simp;omega)]
 simp[EJ,aW,aj,ai,Res.bind,Res.noErr,J8,e,cS,hY,h,fE,H,dr]
end
theorem good(ns:Li)(p:ns.length<=63):∃S',kO [.scr (ns.map D.int)] []=.ok (.bl MW) S':=by
 obtain⟨l,i⟩:=qj (S:=[]) Flat.nil p (x:=[none,none,none,none,none,none])
 obtain⟨a,S',_,o⟩:=D4 (step:=λx h S=>match aL (.var 1) x h with
   |some a=>af aN G0 wY a S
   |none=>.fail) (λh S=>(∃j X b d f g,h=[some (.scr (ns.map D.int)),j,X,b,d,f,g])/\Flat S) (l.map D.int) (by rintro x q h S ⟨⟨j,X,b,d,f,g,rfl⟩,m⟩;obtain⟨c,_,rfl⟩:=Zo.mp q;obtain⟨y,Y,r,t,u,k,H,e⟩:=wZ m (s0:=some (.scr (ns.map D.int))) (x2:=X) (x3:=b) (x4:=d) (x5:=f) (x6:=g) c;exact⟨_,k,⟨⟨_,_,_,_,_,_,rfl⟩,H⟩,e⟩) [some (.scr (ns.map D.int)),none,none,none,none,none,none] [] ⟨⟨_,_,_,_,_,_,rfl⟩,Flat.nil⟩
 have n:af aN G0 gx [some (.scr (ns.map D.int)),none,none,none,none,none,none] []=.ok (.ret (.bl MW)) S':=by rw[show gx=[.for_ (.var 1) EJ wY,.ret (.lit (.bl MW))] from rfl];refine(b5 (ρ':=a) (S':=S') ?_).trans rfl;rw[vD i];exact o
 refine⟨[],?_⟩;show au aN G0 gx ig.length 1 [.scr (ns.map D.int)] []=_;unfold au;rw[show af aN G0 gx ([D.scr (ns.map D.int)].map some++M3 (ig.length-1) none) []=_ from n];rfl
end K45
section
namespace K45
theorem walk{l:PySem.W.OpenLaw}{q:M5}{d:DefRec}{K:Params->Fg}(i:l.most=some 63)(H:d.params.defaults=[])
  (e:∀(w:Nc) (h:M8),YP w h->(K w.params).In h)
  (F:∀(w:Nc) (mg:Mg) (fa:MZ) (h:M8),(K w.params).In h->h.Ns mainGlobals mg->mg d.name=some (.ref fa)->
   ∃fd:NZ,(∀(s:MY) (u:M0),Q7 s fd ⟨[u],[]⟩ [("_law_script",u)])/\∀base:M8,(K w.params).In base->base.Ns mainGlobals mg->cR l.prog w (K w.params) mg base (bh l.prog w) 15 fa fd ["_law_script"] (ii (K w.params))):
  PySem.W.WalkO q loose XP YP l.row.toRowW d [] (λf vs=>PySem.call f vs):=
 L2.l7 (n:=63) (k:=15) (x:="_law_script") (CX:=λw=>bh l.prog w) (sp:=λw=>ii (K w.params)) i (by decide) H ⟨rfl,by decide,by decide,rfl⟩ e F (λ_ _ a N g b c=>⟨a,N,rfl,b,c,g,λ_=>rfl⟩) λ_ _ _ _ _ z=>qQ _ _ _ _ _ z
end K45
namespace PySem.W.Fast
def tw16928443083253521975:=Nat
def tw15629998192371165760:=Nat
def tw1289352363287658720:=Nat
def tw16357873966490064843:=Nat
def tw3339931069915734283:=Nat
def tw17744322196576520214:=Nat
def tw14907751497818235272:=Nat
def tw5969219640860101495:=Nat
def tw2193836890067465357:=Nat
def tw10077244781212500391:=Nat
def tw13151673641371048632:=Nat
def tw7204024909033375245:=Nat
def tw8519685735547871439:=Nat
def tw8887735693756439103:=Nat
def tw6702785905242302297:=Nat
def tw4897353817395787417:=Nat
def tw4539102629743460600:=Nat
def tw4086627423674936:=Nat
def tw2591443054710826898:=Nat
def tw17452767706170159696:=Nat
def tw10766664568730575359:=Nat
def tw3000697816760934558:=Nat
def tw12735690140452404536:=Nat
def tw14015631402894282469:=Nat
def tw13514302543878643687:=Nat
def tw11562318040675095495:=Nat
def tw12753972810984504298:=Nat
def tw4197632944151465945:=Nat
def tw15348726654915299372:=Nat
def tw3437749259655806773:=Nat
def tw7357092209245514690:=Nat
def tw9715874075770049206:=Nat
def tw9090981069882244265:=Nat
def tw8488236165141430314:=Nat
def tw8864998788866464329:=Nat
def tw8005355162684454417:=Nat
def tw3413382574712482129:=Nat
def tw2240354766058743289:=Nat
def tw6707876732064310057:=Nat
def tw16612942349020902653:=Nat
def tw13295747687134610896:=Nat
def tw10672595447790641237:=Nat
def tw8666271836786014237:=Nat
def tw2997400772159448540:=Nat
def tw60372185069055987:=Nat
def tw2578839360763875834:=Nat
def tw6993913297093281965:=Nat
def tw686494559329971786:=Nat
def tw8187108819249197259:=Nat
def tw7277137300940820458:=Nat
def tw4258810586107660736:=Nat
def tw14568799607805777635:=Nat
def tw5635678331687239507:=Nat
def tw779090559039099722:=Nat
def tw9306624376271450125:=Nat
def tw4933256677001839693:=Nat
def tw17089328314391154043:=Nat
def tw16408585084514878347:=Nat
def tw13289418376488066822:=Nat
def tw1777771299361203107:=Nat
def tw7489130885469474942:=Nat
def tw7501702368999406663:=Nat
def tw1961219676946961760:=Nat
def tw8426816671142907215:=Nat
def tw3659761547611188015:=Nat
def tw16198803034863947131:=Nat
def tw3128407263113404323:=Nat
def tw9736545612538870829:=Nat
def tw9669367695801820396:=Nat
def tw9573774882567672606:=Nat
def tw8982712164080248565:=Nat
def tw8801584583912836732:=Nat
def tw731077028848322485:=Nat
def tw7167823108458797553:=Nat
def tw6573583418980015121:=Nat
def tw6308804917840190821:=Nat
def tw5837623012233566865:=Nat
def tw5228851814222210153:=Nat
def tw512336343453124905:=Nat
def tw4753583634771495880:=Nat
def tw4741609400524441439:=Nat
def tw3992750204043264988:=Nat
def tw3170636525101350107:=Nat
def tw1975257769545018220:=Nat
def tw17990634616245905132:=Nat
def tw17659213118211832979:=Nat
def tw17167788489376867522:=Nat
def tw16748150679962026141:=Nat
def tw16187503496213537104:=Nat
def tw1587044546820288396:=Nat
def tw15551406972665225357:=Nat
def tw14492452715193595745:=Nat
def tw14194186272916147291:=Nat
def tw13763993566643857373:=Nat
def tw13536166620813385488:=Nat
def tw13482707210806514756:=Nat
def tw12806251188196816986:=Nat
def tw12737732953813845017:=Nat
def tw12732940501000068187:=Nat
def tw12215866512632377902:=Nat
def tw1217819975415246177:=Nat
def tw12122902112044524562:=Nat
def tw16037733033248633444:=Nat
def tw8086068350422648771:=Nat
def tw9485239311363353197:=Nat
def tw9533550866136751708:=Nat
def tw8363901385707472986:=Nat
def tw3823119566024619583:=Nat
def tw3166614940422686791:=Nat
def tw3047613032472098938:=Nat
def tw12682796412908832492:=Nat
def tw1202299148585879994:=Nat
def tw8025522183194784023:=Nat
def tw2792263303197906848:=Nat
def tw3582630864121092468:=Nat
def tw2652081693226339462:=Nat
def tw18399143005818422461:=Nat
def tw17140257313804815598:=Nat
def tw15747765779420663447:=Nat
def tw14869163051381680096:=Nat
def tw10184002804700608913:=Nat
def tw10059649111828379142:=Nat
def tw10015159530010913830:=Nat
def tw12693830886648339038:=Nat
def tw15657001976703103152:=Nat
def tw14486034144514560006:=Nat
def tw8352103297153057159:=Nat
def tw8602841956872855851:=Nat
def tw14169068811029385795:=Nat
def tw11811184151977921752:=Nat
def tw4488798470460866382:=Nat
def tw8620020810941358791:=Nat
def tw3573663196607080155:=Nat
def tw209809670646757551:=Nat
def tw10404431863461456958:=Nat
def tw8779193143118821470:=Nat
def tw8677764384599632536:=Nat
def tw15227321069078778200:=Nat
def tw3912128857987482849:=Nat
def tw8974465105271057592:=Nat
def tw8643482807826849142:=Nat
def tw7000471221555565680:=Nat
def tw6526817954933233901:=Nat
def tw5821930114389479354:=Nat
def tw3652192961104750298:=Nat
def tw2148916668029321625:=Nat
def tw18263570166027082556:=Nat
def tw16719710953315256116:=Nat
def tw12279299273472308863:=Nat
def tw11035548316205441482:=Nat
def tw8844376817089718160:=Nat
def tw5083692635260255084:=Nat
def tw3179377329256352536:=Nat
def tw2353533750011205326:=Nat
def tw17595344442006865585:=Nat
def tw12666920470799285369:=Nat
def tw8015663425181869957:=Nat
def tw2490421170784874606:=Nat
def tw1861404537405772320:=Nat
def tw12328541380349329097:=Nat
def tw10329113459814600485:=Nat
def tw4178695534773150026:=Nat
def tw5826023674521329979:=Nat
def tw11191048046258322015:=Nat
def tw4981839611092559602:=Nat
def tw8417101342404823126:=Nat
def tw9155843285286109711:=Nat
def tw9423051188060169100:=Nat
def tw3077930893538122933:=Nat
def tw1776389275609006516:=Nat
def tw1769299660859168139:=Nat
def tw8296905815023649963:=Nat
def tw5418332036980499215:=Nat
def tw1832439441519453865:=Nat
def tw13296809464188954478:=Nat
def tw11007117609674331125:=Nat
def tw14213427152720774254:=Nat
def tw8596732887613882755:=Nat
def tw877231123134922409:=Nat
def tw13837606419898119277:=Nat
def tw11813588454297048739:=Nat
def tw15991073273095291361:=Nat
def tw8979717923570878440:=Nat
def tw473177786327864037:=Nat
def tw8014244916735264168:=Nat
def tw7233723003442848080:=Nat
def tw16653291453361359010:=Nat
def tw3547358647863772975:=Nat
def tw7534282557401007453:=Nat
def tw12024242316442096884:=Nat
def tw15391792092906297159:=Nat
def tw3046824932973136526:=Nat
def tw13031518527059547245:=Nat
def tw3145894116308922135:=Nat
def tw13064663820097197565:=Nat
def tw17346235752832825:=Nat
def tw14735111651781938187:=Nat
def tw10671959907858495318:=Nat
def tw3317959371912881038:=Nat
def tw15492461404917523899:=Nat
def tw17138212454143097723:=Nat
def tw15024211677084092841:=Nat
def tw18153545119143079204:=Nat
def tw14666875389173718697:=Nat
def tw16022880056680358488:=Nat
def tw5417512130075144949:=Nat
def tw3624455645118577075:=Nat
def tw14921724853403205548:=Nat
def tw589978052846702993:=Nat
def tw17092680452887807443:=Nat
def tw883692786841877647:=Nat
def tw843743279388609136:=Nat
def tw1846894188191321830:=Nat
def tw4465251563429942362:=Nat
def tw1165282347555109601:=Nat
def tw1948475155187763575:=Nat
def tw5256616769203628705:=Nat
def tw1550200293214674346:=Nat
def tw1473903223646989740:=Nat
def tw7971569305951947335:=Nat
def tw3401302958421961693:=Nat
def tw13035834119714947797:=Nat
def tw7302791279923154206:=Nat
def tw13706930833103210406:=Nat
def tw3308915557692463734:=Nat
def tw4952532179090132500:=Nat
def tw11533034243944181989:=Nat
def tw11746595689238678516:=Nat
def tw14427947388861747616:=Nat
def tw3758316201464135901:=Nat
def tw16249471805545894380:=Nat
def tw14823210543918693474:=Nat
def tw1348182467983670604:=Nat
def tw12705141301814517898:=Nat
def tw11049285263333537002:=Nat
def tw1624470478152011600:=Nat
def tw13007080764814531571:=Nat
def tw11885729878058061487:=Nat
def tw1292891928044265121:=Nat
def tw49259127727524574:=Nat
def tw16317514046051984143:=Nat
def tw7170357219127809504:=Nat
def tw9080950742497570310:=Nat
def tw14297982389563956334:=Nat
def tw8091935385759691023:=Nat
def tw18008553499134618026:=Nat
def tw7546140717304054026:=Nat
def tw4753359215581365997:=Nat
def tw17492411116710135828:=Nat
def tw17428811656183956587:=Nat
def tw13227590407783251727:=Nat
def tw184212730027237296:=Nat
def tw33283609310466162:=Nat
def tw4351330520618116045:=Nat
def tw16353561677090596072:=Nat
def tw8889832633304911766:=Nat
def tw7038142915970369478:=Nat
def tw819200832419816424:=Nat
def tw7201160924996222481:=Nat
def tw984216315494800042:=Nat
def tw342619682112238731:=Nat
def tw4928975377307517766:=Nat
def tw7992929059733285109:=Nat
def tw1556656517906018003:=Nat
def tw14892849594263246370:=Nat
def tw6549726917553801359:=Nat
def tw10494024643141124930:=Nat
def tw3868685396298144625:=Nat
def tw4109230253542849265:=Nat
def tw5231334325813514525:=Nat
def tw798174385430988067:=Nat
def tw13238059872290563053:=Nat
def tw9517085178742871362:=Nat
def tw2288777250769861976:=Nat
def tw8126733510882895494:=Nat
def tw13020986484876016342:=Nat
def tw9221901500832041983:=Nat
def tw4335039153172776924:=Nat
def tw999035245289860678:=Nat
def tw5448614884183599288:=Nat
def tw15821842310543775458:=Nat
def tw4995761800934155472:=Nat
def tw4969348167927169386:=Nat
def tw8064782014781289614:=Nat
def tw7718472512592994550:=Nat
def tw14472799225463268243:=Nat
def tw13903475071986583800:=Nat
def tw10204019472408362409:=Nat
def tw13270505575979028524:=Nat
def tw13575913804640866783:=Nat
def tw382877872909095661:=Nat
def tw13881325790239421951:=Nat
def tw5665254595872083297:=Nat
def tw14470099289728878056:=Nat
def tw4763993356891498247:=Nat
def tw1307803369560421631:=Nat
def tw8544509139870830584:=Nat
def tw4182571237395560545:=Nat
def tw9541029231550973177:=Nat
def tw6922581662932072670:=Nat
def tw7885276087528289952:=Nat
def tw5673145827133842260:=Nat
def tw15946085806455015998:=Nat
def tw10864528250341127060:=Nat
def tw11395924771966283046:=Nat
def tw332250918367517483:=Nat
def tw11643397747297179726:=Nat
def tw10016658338424627385:=Nat
def tw18181423808689830817:=Nat
def tw1250875677280063153:=Nat
def tw17377959669570402514:=Nat
def tw5065179631007722264:=Nat
def tw18325804325500143053:=Nat
def tw3205466880536212327:=Nat
def tw1412060369803665483:=Nat
def tw8010585880305619555:=Nat
def tw6756980012670745348:=Nat
def tw2164099337656916950:=Nat
def tw2590688585795098923:=Nat
def tw16691276398027938445:=Nat
def tw15574152970468582225:=Nat
def tw2500524025212862706:=Nat
def tw6104282131148673151:=Nat
def tw993950067495724008:=Nat
def tw961772916665946332:=Nat
def tw9404416424209318456:=Nat
def tw884171880281107692:=Nat
def tw7509813941684925785:=Nat
def tw5180156655339455645:=Nat
def tw302651009371401987:=Nat
def tw17479780883148702889:=Nat
def tw13655035274474780598:=Nat
def tw1233963958347664424:=Nat
def tw11576834009395639206:=Nat
def tw11174169254377460002:=Nat
def tw4001079359522362577:=Nat
def tw17963385626716617050:=Nat
def tw1717364676718274109:=Nat
def tw8196933927090115114:=Nat
def tw6888560790490398336:=Nat
def tw10288238844481664577:=Nat
def tw3514623404317470725:=Nat
def tw3393532576173692982:=Nat
def tw2717605963209142707:=Nat
def tw17315641825323192551:=Nat
def tw17093431260139828422:=Nat
def tw10991621952773915960:=Nat
def tw7694795919221555635:=Nat
def tw6497106284938275528:=Nat
def tw12928676216344364144:=Nat
def tw13972874281129137925:=Nat
def tw558189946699515833:=Nat
def tw1127475558179829719:=Nat
def tw4693518093095289593:=Nat
def tw11384099153942674134:=Nat
def tw4820600785995652530:=Nat
def tw2985324692029375191:=Nat
def tw5283712383342050036:=Nat
def tw13441885114409378246:=Nat
def tw13377074924876735357:=Nat
end PySem.W.Fast
open PySem PySem.W PyProof.Rows
set_option maxRecDepth 100000 in
set_option maxHeartbeats 0 in
theorem PySem.Challenge.cw_pairwebs_k45_papers_refused_holds : PySem.Challenge.rw_pairwebs_k45_papers_refused.Holds := by
 w_on;o_law;k_head;(case hw=>w_witness2)
 k_fill
 refine K45.walk (l:=PySem.Challenge.rw_pairwebs_k45_papers_refused) rfl rfl (λw h Y=>PySem.W.kIn_of Y) ?F
 case F=>
  intro w mg fa h KX G hmg
  refine' K45.vt KX G hmg K45.good ⟨K45.dm ?_ ?_ ?_ ?_,K45.dm ?_ ?_ ?_ ?_,K45.dm ?_ ?_ ?_ ?_,K45.dm ?_ ?_ ?_ ?_,K45.dm ?_ ?_ ?_ ?_,K45.dm ?_ ?_ ?_ ?_,K45.dm ?_ ?_ ?_ ?_,K45.dm ?_ ?_ ?_ ?_,K45.dm ?_ ?_ ?_ ?_,K45.dm ?_ ?_ ?_ ?_,K45.dm ?_ ?_ ?_ ?_,K45.dm ?_ ?_ ?_ ?_,K45.dm ?_ ?_ ?_ ?_,K45.dm ?_ ?_ ?_ ?_,K45.dm ?_ ?_ ?_ ?_,K45.dm ?_ ?_ ?_ ?_,K45.dm ?_ ?_ ?_ ?_,K45.dm ?_ ?_ ?_ ?_,K45.dm ?_ ?_ ?_ ?_,K45.dm ?_ ?_ ?_ ?_,K45.dm ?_ ?_ ?_ ?_,K45.dm ?_ ?_ ?_ ?_,K45.dm ?_ ?_ ?_ ?_,K45.dm ?_ ?_ ?_ ?_,K45.dm ?_ ?_ ?_ ?_,K45.dm ?_ ?_ ?_ ?_,K45.dm ?_ ?_ ?_ ?_,K45.dm ?_ ?_ ?_ ?_,K45.dm ?_ ?_ ?_ ?_,K45.dm ?_ ?_ ?_ ?_,K45.dm ?_ ?_ ?_ ?_,K45.dm ?_ ?_ ?_ ?_,K45.dm ?_ ?_ ?_ ?_,K45.dm ?_ ?_ ?_ ?_,K45.dm ?_ ?_ ?_ ?_,K45.dm ?_ ?_ ?_ ?_,K45.dm ?_ ?_ ?_ ?_,K45.dm ?_ ?_ ?_ ?_,K45.dm ?_ ?_ ?_ ?_,K45.dm ?_ ?_ ?_ ?_,K45.dm ?_ ?_ ?_ ?_,K45.dm ?_ ?_ ?_ ?_,K45.dm ?_ ?_ ?_ ?_,K45.dm ?_ ?_ ?_ ?_,K45.dm ?_ ?_ ?_ ?_,K45.dm ?_ ?_ ?_ ?_⟩ ?Z ?_ ?R
  case R=>kernel_rfl
  case Z=>intro x hx;simp only[Py.f',Zf,Sk,Z0]at hx;rcases hx with rfl|rfl|rfl|rfl|rfl|rfl|rfl|rfl|rfl|rfl|rfl|rfl|rfl|rfl|rfl|rfl|rfl|rfl|rfl|rfl|rfl<;>k_is
  all_goals first|k_is|skip
end
