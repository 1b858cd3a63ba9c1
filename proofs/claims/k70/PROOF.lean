import PyProof.Rows.All
import Wide.All
import OpenK.AllK
import Wide.FinOn
import Lean
import PyProof.EqAt
import PyProof.EqKinds
import PyProof.TupleCall
import PyProof.ListMulAny
import PyProof.FactsAll.tuple
import KE.IntBitsLaws
import PyProof.NeKinds
import PyProof.FactsAll.tuple_2
import PyProof.SumWalkG
import PyProof.WalksMore
import PyProof.MinMaxWalk
import PyProof.Rows.SeqMore
import PyProof.FactsAll.tuple_3
import PyProof.StrCalls2
import PyProof.StrCalls3
import KE.KRevIter
import PyProof.FactsAll.range_2
import PyProof.EnumFor
import PyProof.TupleOfGen
import PyProof.ListRange
import PyProof.Rows.SetFrom
import PyProof.FactsAll.subtypes_4
import PyProof.TupleKey
import PyProof.IsRules
import PyProof.RangeFor
import PyProof.FactsAll.set_1
import PyProof.CollectIter
import PyProof.FactsAll.set_2
import KE.KSortAsk
import KE.KSortTup
import PyProof.FactsAll.subtypes_5
import PyProof.DictWalks
import PyProof.DictRoadsH
import PyProof.CallStr
import PyProof.Rows.FStr
import PyProof.ExcBaseAll.ValueError
import PyProof.Rows.TopTwo
import PyProof.ExcAttrAll.ValueError
import KE.KIsAll
import KE.KTryMore
import PySem.Challenge.RW_pairwebs_k70_sides_and_odd_rings
noncomputable section
set_option genSizeOfSpec false
set_option compiler.extract_closed false
set_option Elab.async false
set_option linter.all false
set_option maxRecDepth 100000
set_option maxHeartbeats 16000000
namespace L2
end L2
namespace Py
end Py
open PySem renaming wpAny_bind->Za,wpAny_pure->Zd,mem_of_lookup->ZC,wpAny_setState_of->ZJ,wpAny_call_entry->ZQ,wpAny_holding->ZU,wpAny_callSpecial?_slot->ZV,wpAny_field->ZY,wpAny_setField_rec->Z2,wpAny_pyIter_tuple->Ya,wpAny_truthy_bool->Yd,wpAny_pyIter_list->Ye,wpAny_newObj_type->Yf,Shared->JN,Value->JO,Addr->JP,Heap->JU,Comprehension->J6,Program->J8,wpAny_askSetting->J',World->Ke,wpAny_seqItems->Kf,codeAny_builtin->Ki,wpAny_Call_Name_kw->Kl,wpAny_mono->Kr,NameKind->Ku,SetTable->Kv,Around->KI,wpAny_ite->KJ,FuncData->KL,Builtin->KN,IsPair->KY,wpAny_rule->K1,wpAny_passesOwn->K3,wpAny_storeSet_of->K8,fits_of_scanBound->K9,sizeLine_eq->Le,codeAny_mono->Lg,wpAny_isInstance->Lj,plainId_quiet->Lu,Stmt->Ly,wpAny_letGo->LB,wpAny_attempt->LX,wpAny_updateSeq->L4,wpAny_setField->Mb,CmpOp->Me,IsZip->Mh,wpAny_standAt->Mi,wpAny_typeOf->Mt,call_meets->Mu,ElemsOf->Mw,wpAny_loadPart'->Mz,codeAny_of_tree->MA,IsPart->MQ,wpAny_tryCatch->MR,wpAny_updateSeq_pair->MS,IsEnum->MT,codeAny_call_builtin->MU,wpAny_runValue->MV,PassesOwn->MZ,wpAny_setEntries_of->M8,wpAny_onRaise->Nc,Result->Ng,Operator->Np,wpAny_pyIter_slot->Nt,noFill_tuple_add->NA,wpAny_forIn_list->NB,wpAny_of_eq->NH,wpAny_execs_nil->NL,BindsTo->NR,GenState->NW,wpAny_call->NZ,wpAny_newTuple->N3,isSubtype_stop->N4,intKind_is->N5,isSubtype_type->N6,entryFor_alias->N7,seq_tuple_add->Og,wpAny_comprehension_free->Oh,wpAny_newList->Ol,IsEnumOut->Oy,concat_meets->OG,seqIndex_neg->OI,richCompare_meets_room->OK,weight_type_call_type->OV,hashByValue_scannable->OX,builtinLookup_eq_fast->OY
open PySem.Heap renaming get?_push_of_some->Zb,get?_push_size->Zh,lt_size->Zj,get?_update_other->ZO,get?_update_self->Z8,SameBut->JT,size_push->Ka,IsTuple->M3,ExtBut->Nh,IsList->Ni,get?_push_cases->Oa
open List renaming mem_cons_of_mem->Zc,mem_cons_self->Ze,getElem?_cons_zero->Zf,getElem?_cons_succ->Zg,length_map->Zi,mem_cons->Zk,getElem?_eq_getElem->Zm,length_cons->Zn,mem_filter->Zo,getElem?_eq_some_iff->Zp,length_append->Zq,mem_map->Zs,mem_append_right->Zt,all_eq_true->Zv,length_filter_le->Zw,mem_of_getElem?->Zz,map_map->ZA,mem_append->ZE,pairwise_cons->ZG,not_mem_nil->ZH,filter_sublist->ZI,getElem?_append_left->ZL,mem_append_left->ZP,size_toArray->ZS,nodup_append->ZT,eq_nil_of_length_eq_zero->ZW,set_cons_zero->ZZ,set_cons_succ->Z0,nodup_cons->Z3,append_nil->Z4,any_eq_true->Z7,mem_range->Z9,length_nil->Yb,takeWhile_append_dropWhile->Yg,range->JM,replicate->JQ,zipWith->JR,toArray->JX,drop_eq_getElem_cons->J2,zip_cons_cons->J4,pairwise_map->Kb,getElem?_eq_none->Kh,map_cons->Kj,getElem?_map->Km,append_assoc->Kn,map_append->Ko,length_pos_iff->Kq,getElem_mem->Kt,getElem?_append_right->Kw,getElem?_eq_none_iff->Ky,getElem?_set_ne->KA,mem_iff_getElem->KC,getElem?_set_self->KR,mem_filterMap->KS,drop_eq_nil_of_le->KU,nil_append->K0,length_range->K2,length->K5,getD_eq_getElem?_getD->K6,perm_middle->K_,pairwise_iff_getElem->Lb,filter_eq_self->Ld,length_set->Ll,contains_iff_mem->LF,dropLast_sublist->LG,length_take->LH,length_dropLast->LM,foldl_cons->LQ,forIn_cons->LS,replicate_succ->LU,mem_singleton->L0,zip_nil_left->L7,filter_congr->L8,getElem?_take_of_lt->L9,ext_getElem->Mc,take_left'->Mk,filterMap_cons->My,zip_nil_right->ML,filter_append->MM,append_of_mem->MN,findIdx?_eq_some_iff_getElem->MW,flatten_cons->M1,map->M4,ext_getElem?->M5,getD->Na,take_length->Nb,of_mem_zip->Nk,forIn_nil->Nv,nodup_nil->Nz,findIdx?_eq_none_iff->NE,getLast?_eq_none_iff->NF,all_cons->NG,map_take->NJ,map_drop->NK,pairwise_singleton->NQ,filter_eq_nil_iff->NV,dropLast_eq_take->N2,getElem?_zipWith->N9,pairwise_append->Of,map_congr_left->Om,mem_map_of_mem->Oo,filterMap_some->Oq,getElem?_range->Ot,getElem?_drop->OE,filterMap_map->OF,flatMap_cons->OP,getElem_inj->OR,lookup_cons->OT,zipIdx_cons->OU,map_snd_zip->OZ,mem_nil_iff->O1,mem_flatMap->O2,isEmpty_iff->O3
open Nat renaming le_refl->Zl,ne_of_lt->Zu,lt_of_lt_of_le->ZB,le_trans->ZD,lt_irrefl->Z6,ne_of_gt->Kk,zero_le->Ks,le_of_succ_le->KD,lt_succ_self->KP,le_of_lt->Lz,le_add_right->LJ,zero_add->LY,not_lt->L3,mod_two_eq_zero_or_one->L6,lt_succ_of_lt->L_,add_sub_cancel->MY,add_assoc->NO,le_of_eq->N0,add_left_cancel->OA
open Bool renaming false_eq_true->Zx,and_eq_true->ZR,true->JK,false->JL,eq_iff_iff->Lh,or_eq_true->Lm,not_eq_true'->Lw,and_eq_true_iff->LN,or_eq_false_iff->LP,not_false->LZ,and_self->Ma,false_and->Ms,or_eq_true_iff->MC,true_and->MJ,and_false->Nw,or_true->NU
open PySem.Heap.SameBut renaming update->ZM,refl->Mm
open Array renaming length_toList->ZN,getD_eq_getD_getElem?->J7,getElem?_toList->LC,getElem?_eq_getElem->L5,range->Mq,ext'->MF,toList_range->MG,toList_push->MX,toList_map->M7,isEmpty_iff_size_eq_zero->M_,getElem?_eq_some_iff->Nr,getElem?_eq_none->NP,getD->Oj,size_push->OW
open Classical renaming byContradiction->ZX
open PyProof.Rows renaming callWith_type1->Z1,slot_tuple_getitem->Kx,step_dedup->KQ,callWith_builtin1->Ln,SortKind->LK,AllBare->Mf,IntsAre->M0,IsTup->Ow,subscriptTail_builtinR->OJ
open Option renaming map_eq_some_iff->Yc,isSome_iff_exists->Lc,getD_some->L',getD_none->Ox
open PySem.Value renaming none->JS,type->J3,int->LW,isInt_shape->MO,bool->Nm,notImplemented->N1
open PySem.Builtin.SmallTypes renaming ownedTupleIsFree->JV,nextOf->JW,ownedTupleHandOut->Kc
open PySem.Obj renaming mapSeq->JY,data_mapFields->KW,isFreed_of_fields->Mp,cls_mapFields->M6,putSet->ND
open PySem.NameKind renaming cell->JZ,free->Mo
open PySem.SetTable renaming insertAt->J1,below->J9,sizeAbove->Kd,insertAt_perm->Lo,fill->L1,turns->Nf,orStandIn->NS,layClean->N8,grown->OD,fits->OL,laid->OM,bits->ON,road->OO
open PySem.Around renaming under_plainId->J5,under_plain->Oc
open ForInStep renaming yield->J_
open PySem.AutoSeq1 renaming wpAny_loadPart'->Kg,sub_tuple_tuple->Nl
open PySem.Builtin.Frozenset renaming updateFrom->Kz,isAnySet->KO,addrOf->KZ,copyOf->LD,baseOf->Mx,slot1->MB
open PySem.Str renaming ofString->KG
open Int renaming toNat_natCast->KH,max_eq_right->LL,min_eq_left->LV,min_eq_right->Md,max_eq_left->Mn,toNat_of_nonneg->MI,ne_of_lt->M',le_total->N_,le_refl->Ou,lt_or_eq_of_le->OQ
open Option.some renaming inj->K4
open PySem.SetTable.below renaming go->K7
open PySem.F renaming slot_tuple_iterator_next->K',plain_min_loop->Lf,slot_enumerate_next->LO,slot_zip_next->Mr,entry_min_loop->Nq,args_tuple_iterator_next_1->NC,entry_tuple_iterator_next->NI,args_enumerate_next_1->Ob,entry_enumerate_next->Oi,slot_enumerate_iter->Oz,sub_tuple_frozenset->OC
open PySem.Shared renaming heap->Lk,TypeIs->Mv
open PySem.Builtin renaming bitAnd->Lr,bitOr->OS
open PySem.Builtin.Int renaming intBits->LA
open PySem.Builtin.Slice renaming slicePlaces->LI,sliceAdjust->MK
open PySem.Builtin.List renaming listTooLong->LR,listExtendWith->MH,listUpdate->M9
open PyProof.Rows.F renaming plain_set_update_loop->Mj,entry_set_update_loop->Od
open PySem.Builtin.Tuple renaming tupleCompareSizes->Ml,tupleItemsOf->ME
open PySem.Calls renaming spliced_cons->MD,spliced_nil->MP,Name_function_global->Nn,call_function_entry->Ny,callWith_builtin->NM
open List.Perm renaming eq_of_pairwise->Nj
open True renaming intro->Nu
open PySem.Heap.IsList renaming push->NN
open Sum renaming inl->NX,inr->NY
open PyProof.Rows.SortSt renaming mk'->Oe
open PySem.Code renaming quiet_builtin->OB
open PyProof.Rows.IsTup renaming new->OH
open Nat.succ renaming inj->O0
open PySem PySem.Spec PyProof.Rows L2 Py
abbrev Mg:=Str->Option JO
abbrev Vs:=JO->JN->Prop
abbrev Fg:=PySem.W.Frag
abbrev Lp:=List (JP×Obj)
abbrev Lq:=List (Int×Int)
abbrev Li:=List Int
abbrev La:=List JP
abbrev Lv:=List JO
abbrev Ls:=List Str
abbrev Lx:=List Expr
abbrev Ov:=Option JO
abbrev Av:=Array JO
def Zr:=@decide_eq_true
def Zy:=@decide_eq_false
def ZF:=@of_decide_eq_true
def ZK:=@decide_eq_true_eq
def Z5:=@congrArg
variable {us its its':Lv}{u cd doc pm cdv ct oc vl vu z:JO}{a it C dx f sl fa acc I:JP}{o ob:Obj}{P prog:J8}{w:Ke}{h h' h1 h2 base h0:JU}{α β:Type}{e tg iter r' ce elt z1 z2:Expr}{pq pins':Lp}{s s' s1 s2:JN}{g':Array NW}{t' k n tk ep mask line np:Nat}{d' dr:Drawn}{ch fp μ μ' F wr μ1 μ0:La}{N ps loose N':Ls}{M:Model}{A:KI}{E Q E':Vs}{rest ifs:Lx}{c:Nat->Nat->Bool}{K:Fg}{st:Ly}{es es1:Array (Int×JO)}{pos' apos p2 p1 p3 p4:Pos}{R:List (Li)}{lo m:Int}{hi:Option Int}{op':Me}{name qual:Str}{mg:Mg}{ks:List Nat}{scope:Scope}{outer:List Env}{od:Option JP}{osl:Array (Ov)}{items:Av}{ns L so left:Li}{XP:(Mg)->JU->Prop}{YP:Ke->JU->Prop}{env:Env}{tn:Nat->JU->Prop}{cell:Str->Bool}{b1 b2 led:Bool}{gens:List J6}{ts:Lq}{nb:Option (Str×Nat×Pos×Pos)}{tie:Int->Int->Bool}
namespace L2
abbrev Key:=Sum Int Str
noncomputable def oZ:Key->JO->Bool
 | .inl k,v=>Value.isInt k v
 | .inr x,v=>Value.isStrOf x v
noncomputable def B_(w:Ke):Key->Int
 | .inl k=>hashInt k
 | .inr x=>hashStr w x
theorem fA:∀{k:Key} {v:JO},oZ k v=JK->(∃i t,k=NX i/\v=LW i t)\/(∃x t,k=NY x/\v=Value.str x t)
 | .inl i,v,h=>by obtain⟨t,e⟩:=MO h;exact .inl ⟨i,t,rfl,e⟩
 | .inr x,v,h=>by obtain⟨t,e⟩:=Value.isStrOf_shape h;exact .inr ⟨x,t,rfl,e⟩
theorem pN(a b:Int):decide ((NX a:Key)=NX b)=(a==b):=by lia
theorem pO(a b:Str):decide ((NY a:Key)=NY b)=decide (a=b):=by lia
theorem pP(a:Int)(b:Str):decide ((NX a:Key)=NY b)=JL:=Zy λq=>nomatch q
theorem pQ(a:Str)(b:Int):decide ((NY a:Key)=NX b)=JL:=Zy λq=>nomatch q
noncomputable def pR(prog:J8)(w:Ke):PySem.KeyKind prog w Key where
 is:=oZ
 hash:=B_ w
 inj:=λv a b ha hb=>by
  rcases fA ha with⟨i,t,rfl,rfl⟩| ⟨x,t,rfl,rfl⟩
  ·rcases fA hb with⟨j,u,rfl,e⟩| ⟨y,u,rfl,e⟩
   ·injection e with e1 _;rw[e1]
   ·exact nomatch e
  ·rcases fA hb with⟨j,u,rfl,e⟩| ⟨y,u,rfl,e⟩
   ·exact nomatch e
   ·injection e with e1 _;rw[e1]
 byValue:=λk v h=>by rcases fA h with⟨i,t,rfl,rfl⟩| ⟨x,t,rfl,rfl⟩<;>rfl
 pyHash:=λhv h=>by
  rcases fA hv with⟨i,t,rfl,rfl⟩| ⟨x,t,rfl,rfl⟩
  ·exact wpAny_pyHash_int h
  ·exact wpAny_pyHash_str h
 eqBool:=λhu hv h=>by
  rcases fA hu with⟨i,t,rfl,rfl⟩| ⟨x,t,rfl,rfl⟩
  ·rcases fA hv with⟨j,u,rfl,rfl⟩| ⟨y,u,rfl,rfl⟩
   ·rw[pN]at h;exact wpAny_eqBool_int h
   ·rw[pP]at h;exact SeqAt.EqAt.int_str i t y u _ _ _ _ h
  ·rcases fA hv with⟨j,u,rfl,rfl⟩| ⟨y,u,rfl,rfl⟩
   ·rw[pQ]at h;exact SeqAt.EqAt.str_int x t j u _ _ _ _ h
   ·rw[pO]at h;exact wpAny_eqBool_str h
 «strs»:=λk x t v h=>by
  rcases fA h with⟨i,u,rfl,e⟩| ⟨y,u,rfl,e⟩
  ·exact nomatch e
  ·injection e with e1 _
   subst e1;cases v<;>rfl
inductive V where
 |non|bl (b:Bool)|int (i:Int)|str (x:Str)|byt (b:Array UInt8)|flt (b:UInt64)|ref (a:JP)|ty (n:String)
 deriving DecidableEq
noncomputable def RelV:V->JO->Prop
 | .non,u=>u=JS
 | .bl b,u=>u=Nm b
 | .int i,u=>∃t,u=LW i t
 | .str x,u=>∃t,u=Value.str x t
 | .byt b,u=>∃t,u=Value.bytes b t
 | .flt b,u=>∃t,u=Value.float b t
 | .ref a,u=>u=Value.ref a
 | .ty n,u=>u=J3 n
abbrev Vals:List V->Lv->Prop:=Paired RelV
theorem Vals.length{xs:List V}(r:Vals xs us):xs.length=us.length:=Paired.length r
theorem Vals.get:∀{xs:List V} {us:Lv} {i:Nat} {x:V},Vals xs us->xs[i]?=some x->∃u,us[i]?=some u/\RelV x u
 |_,_,_,_,.nil,e=>by simp_all
 |_,_,0,_,.cons r _,e=>by simp_all
 |_,_,i+1,x,.cons _ t,e=>by obtain⟨u,h,H⟩:=Vals.get t (by simpa using e);simp_all
theorem Vals.set{x:V}(r:RelV x u):∀{xs:List V} {us:Lv} (i:Nat),Vals xs us->Vals (xs.set i x) (us.set i u)
 |_,_,_,.nil=>.nil
 |_,_,0,.cons _ t=>.cons r t
 |_,_,i+1,.cons q t=>.cons q (Vals.set r i t)
theorem Vals.append:∀{xs ys:List V} {us w:Lv},Vals xs us->Vals ys w->Vals (xs++ys) (us++w)
 |_,_,_,_,.nil,s=>s
 |_,_,_,_,.cons r t,s=>.cons r (Vals.append t s)
theorem Vals.take:∀{xs:List V} {us:Lv} (n:Nat),Vals xs us->Vals (xs.take n) (us.take n)
 |_,_,0,_=>.nil
 |_,_,_+1,.nil=>.nil
 |_,_,n+1,.cons r t=>.cons r (Vals.take n t)
theorem Vals.drop:∀{xs:List V} {us:Lv} (n:Nat),Vals xs us->Vals (xs.drop n) (us.drop n)
 |_,_,0,r=>r
 |_,_,_+1,.nil=>.nil
 |_,_,n+1,.cons _ t=>Vals.drop n t
noncomputable def u1:Option V->Ov->Prop
 |some v,some u=>RelV v u
 |none,none=>True
 |_,_=>False
def KV{a:Type}:List (a×V)->List (a×JO)->Prop:=Paired λ(p:a×V) (q:a×JO)=>p.1=q.1/\RelV p.2 q.2
noncomputable def kV:Key->V
 | .inl i=>.int i
 | .inr x=>.str x
inductive HO where
 |lst (xs:List V)
 |tup (xs:List V)
 |dK (kvs:List (Key×V))|dT (kvs:List (List Key×V))
 |set (S:Int->Bool) (n:Nat)
 |ins (C dx:JP) (fs:List (Str×V))
 |own (x:JP)
 |xd (fs:List (Str×V))
 |met (f x:JP)
 |rng (lo hi:Int)
 |frz (o:Obj) (u:HO)
 |tbl (ps:Av)
 |ext (φ:JU->Prop)
abbrev Hp:=JP->Option HO
noncomputable def a'(H:Hp)(a:JP)(o:HO):Hp:=λb=>if b=a then some o else H b
theorem dd{H:Hp}{o:HO}:a' H a o a=some o:=by unfold a';simp_all
theorem aW{H:Hp}{b:JP}{o:HO}(h:b≠a):a' H a o b=H b:=by unfold a';rw[if_neg h]
theorem dk{H:Hp}{b:JP}{o:HO}(h:H a=some o)(h':H b=none):a≠b:=by lia
def uO(h:JU)(a:JP):Prop:=∃o,h.get? a=some o/\o.dict=none
theorem uO.new(h:JU)(items:Av):uO (h.push {cls:=.type "tuple",data:=.seq items}) h.objs.size:=⟨_,Zh _ rfl,rfl⟩
section
variable (P:J8)(w:Ke)
noncomputable def bv(H:Hp)(h:JU)(a:JP):HO->Prop
 | .lst xs=>xs.length<=sizeLine/\∃(its:Lv) (n:Nat),Vals xs its/\h.get? a=some {cls:=.type "list",data:=.seq its.toArray n}
 | .tup xs=>xs.length<=sizeLine/\∃its:Lv,Vals xs its/\Ow h a its.toArray/\uO h a
 | .dK k=>k.length<=sizeLine/\(a==sysModules)=JL/\∃vs,KV k vs/\h.DictOf (pR P w) a vs
 | .dT k=>k.length<=sizeLine/\(a==sysModules)=JL/\∃xs:List (List Key×JP×JO),
   Paired (λ(p:List Key×V) (q:List Key×JP×JO)=>p.1=q.1/\H q.2.1=some (.tup (p.1.map kV))/\RelV p.2 q.2.2) k xs/\
   ∃o es ep,h.get? a=some o/\o.ExactDict/\o.data=.dict es ep/\es.toList=xs.map (entryOfKey (tupleKind (pR P w)))/\(xs.map (·.1)).Nodup
 | .set S n=>h.SetOf (intKind P w) a S n
 | .ins C dx fs=>H dx=some (.own a)/\fs.length<=1000/\dx≠a/\h.get? a=some (PySem.W.instObj C dx)/\
   ∃mA,h.Ns1 dx mA/\(∀f,u1 (fs.lookup f) (mA f))/\PySem.Within mA (fs.map (·.1))
 | .own _=>∃o,h.get? a=some o
 | .xd fs=>∃mA,h.Ns1 a mA/\∀f,u1 (fs.lookup f) (mA f)
 | .rng lo hi=>∃t u v,h.get? a=some {cls:=.type "range",data:=.fields #[.int lo t,.int hi u,.int 1 v]}
 | .frz o u=>h.get? a=some o/\bv H h a u
 | .tbl ps=>h.get? a=some {cls:=.none,data:=.fields ps}
 | .met f x=>h.get? a=some (PySem.W.methodObj (.ref f) (.ref x))
 | .ext φ=>φ h/\(∃o,h.get? a=some o)/\∀h1 h2:JU,φ h1->(∀o,h1.get? a=some o->h2.get? a=some o)->φ h2
def d_(H:Hp)(h:JU):Prop:=∀a o,H a=some o->bv P w H h a o
end
section
variable {H H':Hp}{o:HO}
theorem bv.lt(x:bv P w H h a o):a<h.objs.size:=by
 cases o with
 |lst X=>obtain⟨_,_,_,_,e⟩:=x;exact Zj e
 |tup X=>obtain⟨_,_,_,p,_⟩:=x;exact p.lt
 |dK k=>obtain⟨_,_,_,_,o,_,_,e,_⟩:=x;exact Zj e
 |dT k=>obtain⟨_,_,_,_,o,_,_,e,_⟩:=x;exact Zj e
 |set S n=>obtain⟨o,_,_,_,e,_⟩:=x;exact Zj e
 |ins C d fs=>obtain⟨_,_,_,e,_⟩:=x;exact Zj e
 |own y=>obtain⟨_,e⟩:=x;exact Zj e
 |xd fs=>obtain⟨_,⟨_,_,_,e,_⟩,_⟩:=x;exact Zj e
 |rng lo b=>obtain⟨_,_,_,e⟩:=x;exact Zj e
 |frz O u=>obtain⟨e,_⟩:=x;exact Zj e
 |tbl c=>exact Zj (show h.get? a=some _ from x)
 |met f y=>exact Zj (show h.get? a=some _ from x)
 |ext g=>obtain⟨_,⟨_,e⟩,_⟩:=x;exact Zj e
theorem Paired.mapP{F G:α->β->Prop}:∀{l:List α} {l₂:List β},Paired F l l₂->(∀a b,F a b->G a b)->Paired G l l₂
 |_,_,.nil,_=>.nil
 |_,_,.cons r t,f=>.cons (f _ _ r) (Paired.mapP t f)
theorem bv.stay(x:bv P w H h a o)(k:∀b u,(b=a\/H b=some (.own a))->h.get? b=some u->h'.get? b=some u)
  (A:∀b,H b=some (.own a)->H' b=some (.own a)) (B:∀b xs,H b=some (.tup xs)->H' b=some (.tup xs)):bv P w H' h' a o:=by
 induction o with
 |lst xs=>obtain⟨z,i,n,r,e⟩:=x;exact⟨z,_,n,r,k _ _ (.inl rfl) e⟩
 |tup xs=>obtain⟨z,i,r,⟨O,e,c⟩,D,l,j⟩:=x;exact⟨z,_,r,⟨_,k _ _ (.inl rfl) e,c⟩,_,k _ _ (.inl rfl) l,j⟩
 |dK K=>obtain⟨z,y,vs,r,O,g,E,e,c⟩:=x;exact⟨z,y,_,r,_,_,_,k _ _ (.inl rfl) e,c⟩
 |dT K=>obtain⟨z,y,xs,r,O,g,E,e,c⟩:=x;exact⟨z,y,_,Paired.mapP r λp q z=>⟨z.1,B _ _ z.2.1,z.2.2⟩,_,_,_,k _ _ (.inl rfl) e,c⟩
 |set S n=>obtain⟨O,g,E,t,e,c⟩:=x;exact⟨_,_,_,t,k _ _ (.inl rfl) e,c⟩
 |ins C G fs=>obtain⟨d,z,ne,e,M,⟨F,g,E,m,c⟩,r⟩:=x;exact⟨A _ d,z,ne,k _ _ (.inl rfl) e,_,⟨_,_,_,k _ _ (.inr d) m,c⟩,r⟩
 |own y=>obtain⟨O,e⟩:=x;exact⟨_,k _ _ (.inl rfl) e⟩
 |xd fs=>obtain⟨M,⟨F,g,E,e,c⟩,r⟩:=x;exact⟨_,⟨_,_,_,k _ _ (.inl rfl) e,c⟩,r⟩
 |rng lo J=>obtain⟨t,u,v,e⟩:=x;exact⟨t,u,v,k _ _ (.inl rfl) e⟩
 |frz O u I=>obtain⟨e,q⟩:=x;exact⟨k _ _ (.inl rfl) e,I q⟩
 |tbl L=>exact k a _ (.inl rfl) x
 |met f y=>exact k a _ (.inl rfl) x
 |ext N=>obtain⟨p,⟨o,e⟩,s⟩:=x;exact⟨s _ _ p λo q=>k _ _ (.inl rfl) q,⟨o,k _ _ (.inl rfl) e⟩,s⟩
theorem d_.lt(x:d_ P w H h)(e:H a=some o):a<h.objs.size:=(x a o e).lt
theorem d_.fresh(x:d_ P w H h)(e:h.objs.size<=a):H a=none:=by
 cases q:H a with
 |none=>rfl
 |some u=>exact absurd (ZB (x.lt q) e) (Z6 _)
theorem d_.kept(x:d_ P w H h)(k:∀b u,h.get? b=some u->h'.get? b=some u):d_ P w H h':=λa o e=>
 (x a o e).stay (λb u _ q=>k b u q) (λ_ q=>q) λ_ _ q=>q
theorem d_.laid(x:d_ P w H h)(k:∀b u,h.get? b=some u->h'.get? b=some u)(g:h.objs.size<=a)(new:bv P w (a' H a o) h' a o):d_ P w (a' H a o) h':=λb u e=>by
 have f:=x.fresh g;by_cases d:b=a
 ·subst d;rw[dd]at e;simp_all
 ·rw[aW d]at e;exact(x b u e).stay (λc v _ q=>k c v q) (λc q=>by rw[aW (dk q f)];exact q) λc X q=>by rw[aW (dk q f)];exact q
end
def Rd(H:Hp)(a:JP)(u:HO):Prop:=H a=some u\/∃o,H a=some (.frz o u)
theorem Rd.ok{H:Hp}{u:HO}(r:Rd H a u)(x:d_ P w H h):bv P w H h a u:=by
 rcases r with r| ⟨o,r⟩
 ·exact x a u r
 ·obtain⟨_,q⟩:=x a _ r;exact q
noncomputable def BI:Option HO->Prop
 |some (.lst _)=>True
 |some (.dK _)=>True
 |some (.dT _)=>True
 |some (.set _ _)=>True
 |some (.ins _ _ _)=>True
 |some (.ext _)=>True
 |_=>False
section
variable {H:Hp}{x e:JP}{o':HO}
theorem d_.write(ok:d_ P w H h)(m:BI (H x))(i:e=x\/H e=some (.own x))(k:∀b u,b≠e->h.get? b=some u->h'.get? b=some u)(a:∃u,h'.get? e=some u)
  (new:bv P w (a' H x o') h' x o'):d_ P w (a' H x o') h':=λb u q=>by
 have n:∀c y,H c=some (.own y)->c≠x:=λc y r z=>by subst z;rw[r]at m;exact m
 have N:∀c X,H c=some (.tup X)->c≠x:=λc X r z=>by subst z;rw[r]at m;exact m
 by_cases d:b=x
 ·subst d;rw[dd]at q;simp_all
 ·rw[aW d]at q;by_cases f:b=e
  ·have Q:H b=some (.own x):=by lia
   rw[q]at Q;cases Q;obtain⟨v,j⟩:=a;exact⟨v,by lia⟩
  ·refine(ok b u q).stay (λc v g r=>k c v ?_ r) (λc r=>by rw[aW (n c b r)];exact r) λc X r=>by rw[aW (N c _ r)];exact r
   grind
end
structure Un (fs ex:La)(H H':Hp)(h h':JU):Prop where
 keep:∀b o,h.get? b=some o->H b=none->b∉fs->b∉ex->h'.get? b=some o
 slot:∀b o,h.get? b=some o->H b=none->b∈fs->b∉ex->∃sl,h'.get? b=some {o with slots:=sl}
 free:∀b o,h.get? b=some o->H b=none->b∉ex->H' b=none
 there:∀b o,h.get? b=some o->b∉ex->∃o',h'.get? b=some o'
 tups:∀b xs,H b=some (.tup xs)->H' b=some (.tup xs)
 frzs:∀b o u,H b=some (.frz o u)->H' b=some (.frz o u)
 tbls:∀b ps,H b=some (.tbl ps)->∃more,H' b=some (.tbl (ps++more))
section
variable {fs fs' ex ex':La}{H H1 H2:Hp}{x e:JP}{o:HO}
theorem Un.any(u:Un fs ex H H1 h h1){b:JP}(q:h.get? b=some ob)(n:H b=none)(c:b∉ex):∃sl,h1.get? b=some {ob with slots:=sl}:=by
 by_cases a:b∈fs
 ·exact u.slot b _ q n a c
 ·exact⟨_,u.keep b _ q n a c⟩
theorem Un.kept(k:∀b u,h.get? b=some u->h'.get? b=some u):Un fs ex H H h h':=
 ⟨λb o q _ _ _=>k b _ q,λb o q _ _ _=>⟨_,k b _ q⟩,λ_ _ _ n _=>n,λb o q _=>⟨_,k b _ q⟩,λ_ _ q=>q,λ_ _ _ q=>q,λ_ p q=>⟨#[],by simp_all⟩⟩
theorem Un.refl:Un fs ex H H h h:=Un.kept λ_ _ q=>q
theorem Un.laid(k:∀b u,h.get? b=some u->h'.get? b=some u)(hp:h.objs.size<=a)(hn:H a=none):Un fs ex H (a' H a o) h h' where
 keep:=λb u q _ _ _=>k b u q
 slot:=λb u q _ _ _=>⟨_,k b u q⟩
 free:=λb u q n _=>by rw[aW (Zu (ZB (Zj q) hp))];exact n
 there:=λb u q _=>⟨u,k b u q⟩
 tups:=λb xs q=>by rw[aW (dk q hn)];exact q
 frzs:=λb u xs q=>by rw[aW (dk q hn)];exact q
 tbls:=λb ps q=>⟨#[],by rw[aW (dk q hn),q];simp⟩
theorem Un.write(m:BI (H x))(g:e=x\/H e=some (.own x))(k:∀b u,b≠e->h.get? b=some u->h'.get? b=some u)(d:∃u,h'.get? e=some u):Un fs ex H (a' H x o) h h':=by
 have f:∀b,H b=none->b≠x:=λb n z=>by subst z;rw[n]at m;exact m
 have c:∀b,H b=none->b≠e:=λb n z=>by lia
 have a:∀b u,H b=some u->¬BI (some u)->b≠x:=λb u q nm z=>by lia
 refine⟨λb u q n _ _=>k b u (c b n) q,λb u q n _ _=>⟨_,k b u (c b n) q⟩,λb u q n _=>by rw[aW (f b n)];exact n,λb u q _=>?_,
  λb X q=>by rw[aW (a b _ q λz=>z)];exact q,λb u X q=>by rw[aW (a b _ q λz=>z)];exact q,λb p q=>⟨#[],by rw[aW (a b _ q λz=>z),q];simp⟩⟩
 grind
end
noncomputable def Jv(h:JU)(H:Hp):La:=(JM h.objs.size).filter λa=>(H a).isSome
noncomputable def fR(h:JU)(H:Hp):JU:=PySem.W.hideAll h (Jv h H)
theorem Ca(h:JU)(H:Hp):(fR h H).objs.size=h.objs.size:=PySem.W.hideAll_size _ _
theorem Cb{H:Hp}{b:JP}(e:h.get? b=some o)(n:H b=none):(fR h H).get? b=some o:=
 PySem.W.hideAll_get _ e λa=>by have q:=(Zo.mp a).2;simp_all
theorem kJ{H:Hp}{b:JP}(e:(fR h H).get? b=some o):h.get? b=some o/\H b=none:=by
 have E:=PySem.W.of_hideAll _ e;refine⟨E,?_⟩;cases q:H b with
 |none=>rfl
 |some x=>have z:(fR h H).get? b=none:=PySem.W.hideAll_none _ (Zo.mpr ⟨Z9.mpr (Zj E),by simp[q]⟩);simp_all
structure Mod (K:Fg)(mg:Mg)(base:JU):Prop where
 kin:K.In base
 glob:base.Ns mainGlobals mg
 blt:∃mb,base.Ns builtinsNs mb/\∀x:Str,x≠"__name__"->mb x=bootBuiltins x
 nolimit:base.NoLimit
structure Cx where
 prog:J8
 w:Ke
 K:Fg
 mg:Mg
 base:JU
 A:KI
 N:Ls
 s₀:JN
 H₀:Hp
 env:Env
 outer:List Env
 stack:List Env
 ex:La
 fn:Str->Bool
 calm:Bool
 pn:Lp
 xe:Vs
noncomputable def dM(l:List Env):La:=l.filterMap (·.frame)
abbrev Cx.fs(X:Cx):La:=dM X.outer
def u3(s:Scope)(x:Str):Prop:=s.names.lookup x=some .local\/s.names.lookup x=some .cell\/s.names.lookup x=some .free
def Loc(s:Scope)(x:Str):Prop:=s.names.lookup x=some .local\/s.names.lookup x=some .cell
def Look(env:Env)(h:JU)(m:Mg)(x:Str)(u:JO):Prop:=
 (env.kindOf x=some .local/\m x=some u)\/((env.kindOf x=some .cell\/env.kindOf x=some .free)/\∃c,env.cells.lookup x=some c/\h.IsCell c (some u))
structure Cx.Ok (X:Cx):Prop where
 mod:Mod X.K X.mg X.base
 kind:X.env.scope.kind=.function
 glob:X.env.globals=mainGlobals
 blt:X.env.builtins=builtinsNs
 above:X.s₀.heap.objs.size<=X.env.locals
 inj:∀x y c,X.env.cells.lookup x=some c->X.env.cells.lookup y=some c->x=y
 has:∀x,(X.env.kindOf x=some .cell\/X.env.kindOf x=some .free)->∃c,X.env.cells.lookup x=some c
 cab:∀x c,X.fn x=JK->X.env.cells.lookup x=some c->X.s₀.heap.objs.size<=c
 hd:X.calm=JK->X.A.handled=none
 frames:X.A.frames=some X.stack
 stk:X.stack=X.outer\/(X.stack=X.env::X.outer/\X.env.frame=some X.env.locals)
 exf:∀b∈X.ex,b≠X.env.locals/\∀x c,X.env.cells.lookup x=some c->c≠b
 bs:∀b o,X.base.get? b=some o->X.s₀.heap.get? b=some o/\X.H₀ b=none
 bsz:X.base.objs.size<=X.s₀.heap.objs.size
 noex:∀b o,X.base.get? b=some o->b∉X.ex
 exfs:∀b∈X.ex,b∉X.fs
 funs:X.s₀.heap.FunFrames X.base X.outer
 frf:∀b∈X.fs,X.H₀ b=none
structure Inv (X:Cx)(pq:Lp)(σ:List (Option V))(H:Hp)(s:JN):Prop where
 ok:X.Ok
 os:s.os=X.s₀.os
 bare:Mf s.gens
 base:Un X.fs X.ex X.H₀ H X.s₀.heap s.heap
 loc:∃m,s.heap.Ns X.env.locals m/\∀(i:Nat) (x:Str) (v:V),X.N[i]?=some x->σ[i]?=some (some v)->u3 X.env.scope x->∃u,RelV v u/\Look X.env s.heap m x u
 cell:∀x c,X.env.cells.lookup x=some c->∃v,s.heap.IsCell c v
 free:H X.env.locals=none
 freeC:∀x c,X.env.cells.lookup x=some c->H c=none
 pin:∀p∈X.pn++pq,s.heap.get? p.1=some p.2/\H p.1=none/\p.1≠X.env.locals/\p.1∉X.fs/\∀v,p.2.data≠.cell v
 hok:d_ X.prog X.w H s.heap
 len:σ.length=X.N.length
section
variable {X:Cx}{σ:List (Option V)}{H H':Hp}
theorem Cx.Ok.nofr(ok:X.Ok){b:JP}(e:X.base.get? b=some o):b∉X.fs:=λh=>by have:=(ok.funs.mem h).1;simp_all
theorem Inv.bs(I:Inv X pq σ H s):∀b o,X.base.get? b=some o->s.heap.get? b=some o/\H b=none:=λb o e=>
 ⟨I.base.keep b o (I.ok.bs b o e).1 (I.ok.bs b o e).2 (I.ok.nofr e) (I.ok.noex b o e),I.base.free b o (I.ok.bs b o e).1 (I.ok.bs b o e).2 (I.ok.noex b o e)⟩
theorem Inv.bk(I:Inv X pq σ H s):∀b o,X.base.get? b=some o->s.heap.get? b=some o:=λb o e=>(I.bs b o e).1
theorem Inv.mod(I:Inv X pq σ H s):Mod X.K X.mg X.base:=I.ok.mod
theorem Inv.kIn(I:Inv X pq σ H s):X.K.In s.heap:=I.ok.mod.kin.keeps I.bk
theorem Inv.lt(I:Inv X pq σ H s):X.env.locals<s.heap.objs.size:=let⟨_,h,_⟩:=I.loc;h.lt
theorem Inv.sz(I:Inv X pq σ H s):X.s₀.heap.objs.size<=s.heap.objs.size:=ZD I.ok.above (Lz I.lt)
theorem Inv.nofs(I:Inv X pq σ H s)(h:s.heap.objs.size<=a):a∉X.fs:=λb=>by obtain⟨_,o,c,_⟩:=I.ok.funs.mem b;exact absurd (ZB (Zj c) (ZD I.sz h)) (Z6 _)
theorem Inv.cne(I:Inv X pq σ H s):∀x c,X.env.cells.lookup x=some c->c≠X.env.locals:=λx c e z=>by obtain⟨v,o,f,d⟩:=I.cell x c e;obtain⟨m,⟨O,b,E,a,h,_⟩,_⟩:=I.loc;simp_all
theorem Inv.funs(I:Inv X pq σ H s):s.heap.FunFrames X.base X.outer:=by
 have all:∀(l:List _),(∀b∈dM l,b∈X.fs)->X.s₀.heap.FunFrames X.base l->s.heap.FunFrames X.base l:=by
  intro l
  induction l with
  |nil=>intro _ _;trivial
  |cons E r n=>intro d i;obtain⟨g,⟨L,o,c,j,k,f⟩,m⟩:=i;have h:=d L (by unfold dM;simp_all);obtain⟨sl,e⟩:=I.base.slot L o k (I.ok.frf L h) h λz=>I.ok.exfs L z h;exact⟨g,⟨L,_,c,j,e,f⟩,n (λb a=>d b (by unfold dM;rw[My,c];exact Zc _ a)) m⟩
 exact all _ (λ_ a=>a) I.ok.funs
theorem Inv.stack(I:Inv X pq σ H s):s.heap.FunFrames X.base X.stack:=by
 rcases I.ok.stk with e| ⟨e,h⟩
 ·rw[e];exact I.funs
 ·rw[e];obtain⟨m,a,_⟩:=I.loc;exact .cons (by rw[I.ok.kind];decide) h a (Heap.get?_none_of_le (ZD I.ok.bsz I.ok.above)) I.funs
theorem Inv.stkSub(I:Inv X pq σ H s):∀b∈dM X.stack,b∈X.env.locals::X.fs:=λb h=>by
 rcases I.ok.stk with e| ⟨e,a⟩
 ·simp_all
 ·rw[e]at h;unfold dM at h;rw[My,a]at h;exact h
theorem Inv.stkFree(I:Inv X pq σ H s):∀b∈dM X.stack,H b=none:=λb h=>by
 rcases Zk.mp (I.stkSub b h)with e|h
 ·rw[e];exact I.free
 ·obtain⟨_,o,a,_⟩:=I.ok.funs.mem h;exact I.base.free b o a (I.ok.frf b h) λz=>I.ok.exfs b z h
theorem Inv.step{J:Array NW}{t':Nat}{Q:Drawn}(I:Inv X pq σ H s)
  (a:∀b∈ch,(b∈X.ex\/X.s₀.heap.objs.size<=b)/\b≠X.env.locals/\(∀x c,X.env.cells.lookup x=some c->c≠b)/\∀p∈X.pn++pq,p.1≠b)
  (K:∀b o,b≠X.env.locals->b∉X.fs->b∉ch->s.heap.get? b=some o->H b=none->h'.get? b=some o)
  (S:∀b o,b≠X.env.locals->b∈X.fs->b∉ch->s.heap.get? b=some o->H b=none->∃sl,h'.get? b=some {o with slots:=sl}) (f:∀b o,b∉ch->s.heap.get? b=some o->H b=none->H' b=none)
  (t:∀b o,b∉ch->s.heap.get? b=some o->∃o',h'.get? b=some o')
  (T:∀b xs,H b=some (.tup xs)->H' b=some (.tup xs)) (F:∀b o u,H b=some (.frz o u)->H' b=some (.frz o u)) (O:∀b ps,H b=some (.tbl ps)->∃more,H' b=some (.tbl (ps++more)))
  (ns:∀m,s.heap.Ns X.env.locals m->h'.Ns X.env.locals m) (D:d_ X.prog X.w H' h') (U:Mf J):
  Inv X pq σ H' {s with heap:=h',gens:=J,drawn:=Q,toks:=t'}:=by
 have y:∀b o,X.s₀.heap.get? b=some o->b≠X.env.locals:=λb o e=>Zu (ZB (Zj e) I.ok.above)
 have N:∀b o,X.s₀.heap.get? b=some o->b∉X.ex->b∉ch:=λb o e h g=>by
  rcases(a b g).1 with z|z
  ·exact h z
  ·exact absurd (ZB (Zj e) z) (Z6 _)
 have C:∀x c,X.env.cells.lookup x=some c->∀v,s.heap.IsCell c v->h'.IsCell c v:=λx c e v ⟨o,j,B⟩=>by
  have w:c∉ch:=λz=>(a c z).2.2.1 x c e rfl;by_cases L:c∈X.fs
  ·obtain⟨sl,q⟩:=S c o (I.cne x c e) L w j (I.freeC x c e);exact⟨_,q,B⟩
  ·exact⟨o,K c o (I.cne x c e) L w j (I.freeC x c e),B⟩
 refine⟨I.ok,I.os,U,⟨λb o e n g h=>?_,λb o e n g h=>?_,λb o e n h=>?_,λb o e h=>?_,λb xs e=>T b xs (I.base.tups b xs e),λb o xs e=>F b o xs (I.base.frzs b o xs e),λb ps e=>?_⟩,?_,λx c e=>?_,?_,λx c e=>?_,λp Y=>?_,D,I.len⟩
 ·exact K b o (y b o e) g (N b o e h) (I.base.keep b o e n g h) (I.base.free b o e n h)
 ·obtain⟨sl,E⟩:=I.base.slot b o e n g h;obtain⟨G,A⟩:=S b _ (y b o e) g (N b o e h) E (I.base.free b o e n h);exact⟨G,A⟩
 ·obtain⟨o',E⟩:=I.base.there b o e h;exact f b o' (N b o e h) E (I.base.free b o e n h)
 ·obtain⟨o',E⟩:=I.base.there b o e h;exact t b o' (N b o e h) E
 ·obtain⟨Z,E⟩:=I.base.tbls b ps e
  grind
 ·obtain⟨m,W,V⟩:=I.loc;refine⟨m,ns m W,λi x v E A R=>?_⟩;obtain⟨u,r,l⟩:=V i x v E A R;refine⟨u,r,?_⟩;rcases l with l| ⟨k,c,e,z⟩
  ·exact .inl l
  ·exact .inr ⟨k,c,e,C x c e _ z⟩
 ·obtain⟨v,z⟩:=I.cell x c e;exact⟨v,C x c e v z⟩
 ·obtain⟨m,⟨o,_,_,j,_⟩,_⟩:=I.loc;exact f _ o (λz=>(a _ z).2.1 rfl) j I.free
 ·obtain⟨v,o,j,B⟩:=I.cell x c e;exact f c o (λz=>(a c z).2.2.1 x c e rfl) j (I.freeC x c e)
 ·obtain⟨e,n,ne,nf,d⟩:=I.pin p Y
  grind
theorem Inv.un{t':Nat}(I:Inv X pq σ H s)(u:Un X.fs [] H H' s.heap h')(c:d_ X.prog X.w H' h'):Inv X pq σ H' {s with heap:=h',toks:=t'}:=by obtain⟨m,⟨o,l,k,f,r⟩,_⟩:=id I.loc;obtain⟨sl,i⟩:=u.any f I.free (by simp);exact I.step (ch:=[]) (λ_ z=>nomatch z) (λb o _ a _ e n=>u.keep b o e n a (by simp)) (λb o _ a _ e n=>u.slot b o e n a (by simp)) (λb o _ e n=>u.free b o e n (by simp)) (λb o _ e=>u.there b o e (by simp)) u.tups u.frzs u.tbls (λM j=>by obtain⟨O,g,E,h,R⟩:=j;rw[f]at h;cases h;exact⟨_,_,_,i,R⟩) c I.bare
theorem Inv.call{t':Nat}{D:Drawn}(I:Inv X pq σ H s)(u:Un (dM X.stack) ch H H' s.heap h')(g:d_ X.prog X.w H' h')(q:Mf g')
  (a:∀b∈ch,(b∈X.ex\/X.s₀.heap.objs.size<=b)/\b≠X.env.locals/\(∀x c,X.env.cells.lookup x=some c->c≠b)/\∀p∈X.pn++pq,p.1≠b):
  Inv X pq σ H' {s with heap:=h',gens:=g',drawn:=D,toks:=t'}:=by
 obtain⟨m,⟨o,y,w,j,r⟩,_⟩:=id I.loc;obtain⟨sl,f⟩:=u.any j I.free λz=>(a _ z).2.1 rfl;exact I.step a (λb o f l h e n=>u.keep b o e n (λz=>(Zk.mp (I.stkSub b z)).elim f l) h) (λb o _ _ h e n=>u.any e n h) (λb o h e n=>u.free b o e n h) (λb o h e=>u.there b o e h) u.tups u.frzs u.tbls (λM v=>by obtain⟨O,k,E,d,R⟩:=v;rw[j]at d;cases d;exact⟨_,_,_,f,R⟩) g q
theorem Inv.turned{t':Nat}(I:Inv X pq σ H s)(k:∀b o,b≠it->s.heap.get? b=some o->h'.get? b=some o)(y:H it=none)(d:it≠X.env.locals)
  (h1:it∈X.ex\/X.s₀.heap.objs.size<=it) (j:∀x c,X.env.cells.lookup x=some c->c≠it) (l:∀p∈X.pn++pq,p.1≠it):Inv X pq σ H {s with heap:=h',toks:=t'}:=by
 refine I.step (ch:=[it]) (λb w=>?_) (λb o _ _ h e _=>k b o (λz=>h (by simp[z])) e) (λb o _ _ h e _=>⟨_,k b o (λz=>h (by simp[z])) e⟩) (λ_ _ _ _ n=>n)
  (λb o h e=>⟨o,k b o (λz=>h (by simp[z])) e⟩) (λ_ _ e=>e) (λ_ _ _ e=>e) (λb P e=>⟨#[],by simp_all⟩) (λm f=>?_) (λb u e=>?_) I.bare
 ·grind
 ·obtain⟨o,i,E,g,r⟩:=f;exact⟨o,_,_,k _ o (Ne.symm d) g,r⟩
 ·refine(I.hok b u e).stay (λc v h q=>k c v ?_ q) (λ_ q=>q) λ_ _ q=>q
  grind
theorem Inv.tok(I:Inv X pq σ H s)(t:Nat):Inv X pq σ H {s with toks:=t}:=I.un Un.refl I.hok
theorem Inv.kept{t':Nat}(I:Inv X pq σ H s)(k:∀b u,s.heap.get? b=some u->h'.get? b=some u):Inv X pq σ H {s with heap:=h',toks:=t'}:=I.un (Un.kept k) (I.hok.kept k)
theorem Inv.laid{o:HO}{t':Nat}(I:Inv X pq σ H s)(k:∀b u,s.heap.get? b=some u->h'.get? b=some u)(h:s.heap.objs.size<=a)(new:bv X.prog X.w (a' H a o) h' a o):
  Inv X pq σ (a' H a o) {s with heap:=h',toks:=t'}:=I.un (Un.laid k h (I.hok.fresh h)) (I.hok.laid k h new)
theorem Inv.write{x e:JP}{o:HO}{t':Nat}(I:Inv X pq σ H s)(m:BI (H x))(a:e=x\/H e=some (.own x))(k:∀b u,b≠e->s.heap.get? b=some u->h'.get? b=some u)(h:∃u,h'.get? e=some u)
  (new:bv X.prog X.w (a' H x o) h' x o):Inv X pq σ (a' H x o) {s with heap:=h',toks:=t'}:=I.un (Un.write m a k h) (I.hok.write m a k h new)
theorem Inv.pins_of(I:Inv X pq σ H s)(h:∀p∈pins',s.heap.get? p.1=some p.2/\H p.1=none/\p.1≠X.env.locals/\p.1∉X.fs/\∀v,p.2.data≠.cell v):Inv X pins' σ H s:=
 ⟨I.ok,I.os,I.bare,I.base,I.loc,I.cell,I.free,I.freeC,λp a=>(ZE.mp a).elim (λz=>I.pin p (ZP _ z)) (h p),I.hok,I.len⟩
theorem u4(h:N.Nodup){i j:Nat}{x:Str}(a:N[i]?=some x)(b:N[j]?=some x):i=j:=by obtain⟨H,e⟩:=Zp.mp a;obtain⟨c,E⟩:=Zp.mp b;exact(OR h).mp (e.trans E.symm)
theorem u5{M:Model}{A:KI}{E:Vs}{i:Nat}{x:Str}{v:V}{Q:Unit->JN->Prop}(I:Inv X pq σ H s)(hN:X.N.Nodup)(P:X.N[i]?=some x)(w:Loc X.env.scope x)(r:RelV v u)
  (h:∀s',Inv X pq (σ.set i (some v)) H s'->(∃a,JT a s.heap s'.heap/\(a=X.env.locals\/X.env.cells.lookup x=some a))->Q () s') (hf:X.fn x=JK\/X.env.scope.names.lookup x=some .local:=by first|exact .inl rfl|exact .inr rfl|assumption):wpAny M A (storeName X.env x u) Q E s:=by
 obtain⟨m,U,hl⟩:=id I.loc;have D:i<σ.length:=by rw[I.len];exact(Zp.mp P).1
 have cne:=I.cne
 have t:∀{a:JP} {K:JU},(∃o,s.heap.get? a=some o/\H a=none)->JT a s.heap K->d_ X.prog X.w H K:=λ{a K} ha f b ob e=>by
  obtain⟨_,_,B⟩:=ha;refine(I.hok b ob e).stay (λc W l q=>(f.2 c ?_).trans q) (λ_ q=>q) λ_ _ q=>q;rintro rfl;rcases l with rfl|l
  ·rw[B]at e;cases e
  ·rw[B]at l;cases l
 rcases w with L|L
 ·refine wpAny_storeName_local L U (λK Y f=>?_) (by rw[I.ok.kind];rfl);obtain⟨oL,_,_,Z,_⟩:=id U;refine h _ ⟨I.ok,I.os,I.bare,⟨λb o e n F w=>?_,λb o e n F w=>?_,I.base.free,λb o e w=>?_,I.base.tups,I.base.frzs,I.base.tbls⟩,⟨_,Y,λj y v' g C T=>?_⟩,λy c e=>?_,I.free,I.freeC,λp hp=>?_,t ⟨oL,Z,I.free⟩ f,by simpa using I.len⟩ ⟨_,f,.inl rfl⟩
  ·exact(f.2 b (Zu (ZB (Zj e) I.ok.above))).trans (I.base.keep b o e n F w)
  ·obtain⟨sl,g⟩:=I.base.slot b o e n F w;exact⟨sl,(f.2 b (Zu (ZB (Zj e) I.ok.above))).trans g⟩
  ·obtain⟨o',g⟩:=I.base.there b o e w;exact⟨o',(f.2 b (Zu (ZB (Zj e) I.ok.above))).trans g⟩
  ·by_cases J:j=i
   ·subst J;rw[P]at g;cases g;rw[KR D]at C;cases C;exact⟨u,r,.inl ⟨L,by simp⟩⟩
   ·rw[KA (Ne.symm J)]at C;obtain⟨u',r',q⟩:=hl j y v' g C T;refine⟨u',r',?_⟩;rcases q with⟨k,e⟩| ⟨k,c,e,z⟩
    ·refine .inl ⟨k,?_⟩;have:y≠x:=λe=>J (u4 hN g (e▸P));simp[this,e]
    ·exact .inr ⟨k,c,e,z.sameBut f (cne y c e)⟩
  ·obtain⟨W,z⟩:=I.cell y c e;exact⟨W,z.sameBut f (cne y c e)⟩
  ·obtain⟨e,n,ne,nf,d⟩:=I.pin p hp;exact⟨(f.2 p.1 ne).trans e,n,ne,nf,d⟩
 ·have G:X.fn x=JK:=by grind
  obtain⟨c,l⟩:=I.ok.has x (.inl L);obtain⟨W,z⟩:=I.cell x c l;refine wpAny_storeName_cell I.ok.kind L l z (λK N f=>?_);obtain⟨oc,R,hocd⟩:=id z;refine h {s with heap:=K} ⟨I.ok,I.os,I.bare,⟨λb o e n F w=>?_,λb o e n F w=>?_,I.base.free,λb o e w=>?_,I.base.tups,I.base.frzs,I.base.tbls⟩,⟨m,U.sameBut f (Ne.symm (cne x c l)),λj y v' g C T=>?_⟩,λy S e=>?_,I.free,I.freeC,λp hp=>?_,t ⟨oc,R,I.freeC x c l⟩ f,by simpa using I.len⟩ ⟨c,f,.inr l⟩
  ·exact(f.2 b (Zu (ZB (Zj e) (I.ok.cab x c G l)))).trans (I.base.keep b o e n F w)
  ·obtain⟨sl,g⟩:=I.base.slot b o e n F w;exact⟨sl,(f.2 b (Zu (ZB (Zj e) (I.ok.cab x c G l)))).trans g⟩
  ·obtain⟨o',g⟩:=I.base.there b o e w;exact⟨o',(f.2 b (Zu (ZB (Zj e) (I.ok.cab x c G l)))).trans g⟩
  ·by_cases J:j=i
   ·subst J;rw[P]at g;cases g;rw[KR D]at C;cases C;exact⟨u,r,.inr ⟨.inl L,c,l,N⟩⟩
   ·rw[KA (Ne.symm J)]at C;obtain⟨u',r',q⟩:=hl j y v' g C T;refine⟨u',r',?_⟩;rcases q with q| ⟨k,S,e,z'⟩
    ·exact .inl q
    ·refine .inr ⟨k,S,e,z'.sameBut f ?_⟩;rintro rfl;exact J (u4 hN g (I.ok.inj _ _ _ e l▸P))
  ·by_cases O:S=c
   ·subst O;exact⟨_,N⟩
   ·obtain⟨w2,z2⟩:=I.cell y S e;exact⟨w2,z2.sameBut f O⟩
  ·obtain⟨e,n,ne,nf,d⟩:=I.pin p hp;refine⟨(f.2 p.1 ?_).trans e,n,ne,nf,d⟩;intro q;rw[q,R]at e;exact d W (by grind)
theorem u6{M:Model}{A:KI}{E:Vs}{i:Nat}{x:Str}{v:V}{Q:Unit->JN->Prop}(I:Inv X pq σ H s)(b:X.N.Nodup)(d:X.N[i]?=some x)(e:Loc X.env.scope x)(r:RelV v u)
  (h:∀s',Inv X pq (σ.set i (some v)) H s'->Q () s') (c:X.fn x=JK\/X.env.scope.names.lookup x=some .local:=by first|exact .inl rfl|exact .inr rfl|assumption):wpAny M A (storeName X.env x u) Q E s:=
 u5 I b d e r (λs' a _=>h _ a) c
theorem Inv.call'(I:Inv X pq σ H s)(e:s'.os=s.os)(u:Un (dM X.stack) ch H H' s.heap s'.heap)(a:d_ X.prog X.w H' s'.heap)(d:Mf s'.gens)
  (h:∀b∈ch,(b∈X.ex\/X.s₀.heap.objs.size<=b)/\b≠X.env.locals/\(∀x c,X.env.cells.lookup x=some c->c≠b)/\∀p∈X.pn++pq,p.1≠b):Inv X pq σ H' s':=by
 obtain⟨f,g,D,t,o⟩:=s';subst(e);exact I.call u a d h
end
abbrev XK:=JO->Option JP->Hp->Prop
abbrev St:=List (Option V)
abbrev VK:=V->Hp->Prop
abbrev TE:=St->Hp->VK->Prop
abbrev TT:=St->Hp->(Bool->Hp->Prop)->Prop
abbrev TA:=St->Hp->(List V->Hp->Prop)->Prop
set_option genInjectivity false in
structure Ends where
 nx:St->Hp->Prop
 rt:VK
 bk:St->Hp->Prop:=λ_ _=>False
 ct:St->Hp->Prop:=λ_ _=>False
abbrev TS:=Ends->St->Hp->Prop
def EP(X:Cx)(p:Lp)(σ:St)(Q:VK)(u:JO)(s:JN):Prop:=∃v H',Inv X p σ H' s/\RelV v u/\Q v H'
def TP(X:Cx)(p:Lp)(σ:St)(Q:Bool->Hp->Prop)(b:Bool)(s:JN):Prop:=∃H',Inv X p σ H' s/\Q b H'
def AP(X:Cx)(p:Lp)(σ:St)(Q:List V->Hp->Prop)(us:Lv)(s:JN):Prop:=∃vs H',Inv X p σ H' s/\Vals vs us/\Q vs H'
def SP(X:Cx)(p:Lp)(D:Ends)(f:Flow)(s:JN):Prop:=
 match f with
 | .next=>∃σ' H',Inv X p σ' H' s/\D.nx σ' H'
 | .brk=>∃σ' H',Inv X p σ' H' s/\D.bk σ' H'
 | .cont=>∃σ' H',Inv X p σ' H' s/\D.ct σ' H'
 | .ret u=>∃v σ' H',Inv X p σ' H' s/\RelV v u/\D.rt v H'
def PE(X:Cx)(e:Expr)(t:TE):Prop:=
 ∀(pq:Lp) (s:JN) (σ:St) (H:Hp) (Q:VK),Inv X pq σ H s->t σ H Q->wpAny (model X.prog X.w) X.A (eval e X.env) (EP X pq σ Q) X.xe s
def PT(X:Cx)(e:Expr)(t:TT):Prop:=
 ∀(pq:Lp) (s:JN) (σ:St) (H:Hp) (Q:Bool->Hp->Prop),Inv X pq σ H s->t σ H Q->wpAny (model X.prog X.w) X.A (isTrue e X.env (eval e X.env)) (TP X pq σ Q) X.xe s
def PW(X:Cx)(e:Expr)(t:TT):Prop:=
 ∀(whole:Sem JO) (pq:Lp) (s:JN) (σ:St) (H:Hp) (Q:Bool->Hp->Prop),Inv X pq σ H s->t σ H Q->wpAny (model X.prog X.w) X.A (isTrue e X.env whole) (TP X pq σ Q) X.xe s
theorem PW.pt{X:Cx}{t:TT}(h:PW X e t):PT X e t:=h _
def PA(X:Cx)(es:Lx)(t:TA):Prop:=
 ∀(pos:Pos) (pq:Lp) (s:JN) (σ:St) (H:Hp) (Q:List V->Hp->Prop),Inv X pq σ H s->t σ H Q->wpAny (model X.prog X.w) X.A (spliced (backTo pos (starEach es X.env))) (AP X pq σ Q) X.xe s
def PS(X:Cx)(st:Ly)(t:TS):Prop:=
 ∀(pq:Lp) (s:JN) (σ:St) (H:Hp) (D:Ends),Inv X pq σ H s->t D σ H->wpAny (model X.prog X.w) X.A (exec st X.env) (SP X pq D) X.xe s
def fP(X:Cx)(st:List Ly)(t:TS):Prop:=
 ∀(pq:Lp) (s:JN) (σ:St) (H:Hp) (D:Ends),Inv X pq σ H s->t D σ H->wpAny (model X.prog X.w) X.A (execs st X.env) (SP X pq D) X.xe s
theorem aX{t:Sem α}{Q b:α->JN->Prop}(h:wpAny M A t Q E s)(H:∀a s,Q a s->b a s):wpAny M A t b E s:=Kr h H λ_ _ x=>x
section
variable {X:Cx}
noncomputable def Cc(i:Nat):TE:=λσ H Q=>∃v,σ[i]?=some (some v)/\Q v H
noncomputable def tC(v:V):TE:=λ_ H Q=>Q v H
theorem pS{i:Nat}{x:Str}{pos:Pos}(j:X.N[i]?=some x)(p:u3 X.env.scope x)(f:(x==("__debug__":Str))=JL:=by decide)(d:(x==("__classdict__":Str))=JL:=by decide):PE X (.Name x pos) (Cc i):=by
 intro P s q H Q I h;obtain⟨v,e,h⟩:=h;obtain⟨m,o,k⟩:=I.loc;obtain⟨u,r,l⟩:=k i x v j e p;have fin:EP X _ _ Q u s:=⟨v,H,I,r,h⟩;rcases l with⟨b,n⟩| ⟨b,c,g,a⟩
 ·exact wpAny_Name (wpAny_loadName_local I.ok.kind b o n fin) f
 ·rcases b with b|b
  ·exact wpAny_Name (wpAny_loadName_cell I.ok.kind b g a fin) f
  ·exact wpAny_Name (wpAny_loadName_free I.ok.kind b g a fin d) f
theorem pT{i j pos}:PE X (.Constant (.int i) j pos) (tC (.int i)):=λ_ _ _ H _ I h=>wpAny_Constant_int ⟨.int i,H,I.tok _,⟨_,rfl⟩,h⟩
theorem u7{b j pos}:PE X (.Constant (.bool b) j pos) (tC (.bl b)):=λ_ _ _ H _ I h=>Constant_bool ⟨.bl b,H,I,rfl,h⟩
theorem pU{j pos}:PE X (.Constant .none j pos) (tC .non):=λ_ _ _ H _ I h=>Constant_none ⟨.non,H,I,rfl,h⟩
theorem pV{x j pos}:PE X (.Constant (.str x) j pos) (tC (.str x)):=λ_ _ _ H _ I h=>Calls.Constant_str ⟨.str x,H,I.tok _,⟨_,rfl⟩,h⟩
def Gl(X:Cx)(x:Str):Prop:=X.env.kindOf x=some .globalImplicit
theorem u8{E:Vs}{σ:St}{H:Hp}{x:Str}{pos:Pos}(I:Inv X pq σ H s)(b:Gl X x)(c:X.mg x=some u)(h:Q u s)
  (a:(x==("__debug__":Str))=JL:=by decide):wpAny (model X.prog X.w) X.A (eval (.Name x pos) X.env) Q E s:=
 Nn I.ok.kind b (Calls.loadGlobal_global (by rw[I.ok.glob];exact I.mod.glob.keeps I.bk) c h) a
theorem ea{E:Vs}{σ:St}{H:Hp}{x:Str}{pos:Pos}(I:Inv X pq σ H s)(d:Gl X x)(e:X.mg x=none)(g:bootBuiltins x=some u)(h:Q u s)
  (f:x≠"__name__":=by decide) (c:(x==("__debug__":Str))=JL:=by decide):wpAny (model X.prog X.w) X.A (eval (.Name x pos) X.env) Q E s:=by
 obtain⟨m,a,b⟩:=I.mod.blt;exact Nn I.ok.kind d (Calls.loadGlobal_builtin (by rw[I.ok.glob];exact I.mod.glob.keeps I.bk) e (by rw[I.ok.blt];exact a.keeps I.bk) ((b x f).trans g) h) c
theorem kK{x:Str}{v:V}{pos:Pos}(b:Gl X x)(c:X.mg x=some u)(r:RelV v u)(a:(x==("__debug__":Str))=JL:=by decide):PE X (.Name x pos) (tC v):=
 λ_ _ _ H _ I h=>u8 I b c ⟨v,H,I,r,h⟩ a
theorem kL{x:Str}{v:V}{pos:Pos}(b:Gl X x)(c:X.mg x=none)(e:bootBuiltins x=some u)(r:RelV v u)(d:x≠"__name__":=by decide)(a:(x==("__debug__":Str))=JL:=by decide):PE X (.Name x pos) (tC v):=
 λ_ _ _ H _ I h=>ea I b c e ⟨v,H,I,r,h⟩ d a
variable {a b:Expr}{ta tb:TE}{pos:Pos}
variable {tA tB':TT}
noncomputable def Cd(t u:TT):TT:=λσ H Q=>t σ H λc H1=>if c=JK then u σ H1 Q else Q JL H1
noncomputable def Jw(t u:TT):TT:=λσ H Q=>t σ H λc H1=>if c=JK then Q JK H1 else u σ H1 Q
noncomputable def Ce(t:TT):TT:=λσ H Q=>t σ H λc H1=>Q (!c) H1
theorem kM(b:PT X a tA):PW X (.BoolOp .And [a] pos) tA:=by
 intro w p s d H Q I h;refine isTrue_and (aX (b _ s _ H Q I h) λc S e=>?_);cases c with
 |true=>exact isTrue_and_nil e
 |false=>exact e
theorem pW(b:PT X a tA):PW X (.BoolOp .Or [a] pos) tA:=by
 intro w p s d H Q I h;refine isTrue_or (aX (b _ s _ H Q I h) λc S e=>?_);cases c with
 |false=>exact isTrue_or_nil e
 |true=>exact e
theorem pX(e:PT X a tA)(f:PW X (.BoolOp .And (b::rest) pos) tB'):PW X (.BoolOp .And (a::b::rest) pos) (Cd tA tB'):=by
 intro w p s g H Q I h;refine isTrue_and (aX (e _ s _ H _ I h) λc S ⟨_,d,q⟩=>?_);cases c with
 |true=>exact f _ _ _ _ _ Q d q
 |false=>exact⟨_,d,q⟩
theorem u9(e:PT X a tA)(f:PW X (.BoolOp .Or (b::rest) pos) tB'):PW X (.BoolOp .Or (a::b::rest) pos) (Jw tA tB'):=by
 intro w p s g H Q I h;refine isTrue_or (aX (e _ s _ H _ I h) λc S ⟨_,d,q⟩=>?_);cases c with
 |true=>exact⟨_,d,q⟩
 |false=>exact f _ _ _ _ _ Q d q
theorem pY(b:PT X a tA):PT X (.UnaryOp .Not a pos) (Ce tA):=by intro p s c H Q I h;exact isTrue_not (b _ s _ H _ I h)
noncomputable def u_(t tb:TE):TE:=λσ H Q=>t σ H λx H1=>∃c,x=.bl c/\if c=JK then tb σ H1 Q else Q (.bl JL) H1
noncomputable def Cf(t tb:TE):TE:=λσ H Q=>t σ H λx H1=>∃c,x=.bl c/\if c=JK then Q (.bl JK) H1 else tb σ H1 Q
theorem iM{op}{t:TE}(h:PE X a t):PE X (.BoolOp op [a] pos) t:=λp s b H Q I hw=>BoolOp_one (h _ s _ H Q I hw)
theorem pZ(e:PE X a ta)(f:PE X (.BoolOp .And (b::rest) pos) tb):PE X (.BoolOp .And (a::b::rest) pos) (u_ ta tb):=by
 intro p s g H Q I h;refine BoolOp_and (aX (e _ s _ H _ I h) λv S ⟨x,_,d,r,q⟩=>?_);obtain⟨c,rfl,q⟩:=q;cases r;refine Yd ?_;cases c with
 |true=>exact f _ _ _ _ Q d q
 |false=>exact⟨.bl _,_,d,rfl,q⟩
theorem vc(e:PE X a ta)(f:PE X (.BoolOp .Or (b::rest) pos) tb):PE X (.BoolOp .Or (a::b::rest) pos) (Cf ta tb):=by
 intro p s g H Q I h;refine BoolOp_or (aX (e _ s _ H _ I h) λv S ⟨x,_,d,r,q⟩=>?_);obtain⟨c,rfl,q⟩:=q;cases r;refine Yd ?_;cases c with
 |false=>exact f _ _ _ _ Q d q
 |true=>exact⟨.bl _,_,d,rfl,q⟩
noncomputable def Jx(t:TT)(T tb:TE):TE:=λσ H Q=>t σ H λc H1=>if c=JK then T σ H1 Q else tb σ H1 Q
theorem Cg{c:Expr}(i:PT X c tA)(f:PE X a ta)(g:PE X b tb):PE X (.IfExp c a b pos) (Jx tA ta tb):=by
 intro p s j H Q I h;refine wpAny_IfExp (aX (i _ s _ H _ I h) λd S ⟨_,e,q⟩=>?_);cases d with
 |true=>exact f _ _ _ _ Q e q
 |false=>exact g _ _ _ _ Q e q
end
def c9(K:Fg)(H:Hp)(a:JP)(xs:List V):Prop:=
 Rd H a (.lst xs)\/
  ∃(o:Obj) (its:Av) (n:Nat),K.lookup a=some o/\o.cls=.type "list"/\o.dict=none/\o.data=.seq its n/\its.size<=sizeLine/\Vals xs its.toList
def cB(K:Fg)(H:Hp)(a:JP)(xs:List V):Prop:=
 Rd H a (.tup xs)\/
  ∃(o:Obj) (its:Av) (n:Nat),K.lookup a=some o/\o.cls=.type "tuple"/\o.dict=none/\o.data=.seq its n/\its.size<=sizeLine/\Vals xs its.toList
noncomputable def Ci:JO->Option V
 | .none=>some .non
 | .bool b=>some (.bl b)
 | .int i _=>some (.int i)
 | .str x _=>some (.str x)
 | .bytes b _=>some (.byt b)
 | .float b _=>some (.flt b)
 | .ref a=>some (.ref a)
 | .type n=>some (.ty n)
 |_=>none
theorem RelV.abs{x:V}(r:RelV x u):Ci u=some x:=by
 cases x with
 |non=>cases r;rfl
 |bl _=>cases r;rfl
 |int _=>obtain⟨t,rfl⟩:=r;rfl
 |str _=>obtain⟨t,rfl⟩:=r;rfl
 |byt _=>obtain⟨t,rfl⟩:=r;rfl
 |flt _=>obtain⟨t,rfl⟩:=r;rfl
 |ref _=>cases r;rfl
 |ty _=>cases r;rfl
theorem RelV.inj{x y:V}(r:RelV x u)(q:RelV y u):x=y:=K4 (r.abs.symm.trans q.abs)
theorem Vals.inj:∀{xs ys:List V} {us:Lv},Vals xs us->Vals ys us->xs=ys
 |_,_,_,.nil,.nil=>rfl
 |_,_,_,.cons r t,.cons R T=>by rw[r.inj R,Vals.inj t T]
section
variable {X:Cx}{σ:St}{H:Hp}{xs ys:List V}
theorem c9.of(h:H a=some (.lst xs)):c9 K H a xs:=.inl (.inl h)
theorem cB.of(h:H a=some (.tup xs)):cB K H a xs:=.inl (.inl h)
theorem Inv.list(I:Inv X pq σ H s)(h:c9 X.K H a xs):∃its:Lv,Vals xs its/\PlainL s.heap a its.toArray/\xs.length<=sizeLine:=by
 rcases h with h| ⟨o,its,n,c,b,hd,d,f,r⟩
 ·obtain⟨z,its,n,r,e⟩:=h.ok I.hok;exact⟨_,r,⟨_,n,e,rfl,rfl,rfl⟩,z⟩
 ·refine⟨_,r,⟨o,n,I.kIn a o c,b,hd,by simp_all⟩,?_⟩;have e:=r.length;simp_all
theorem Inv.tuple(I:Inv X pq σ H s)(h:cB X.K H a xs):∃its:Lv,Vals xs its/\Ow s.heap a its.toArray/\xs.length<=sizeLine:=by
 rcases h with h| ⟨o,its,n,c,b,_,d,f,r⟩
 ·obtain⟨z,its,r,p,_⟩:=h.ok I.hok;exact⟨_,r,p,z⟩
 ·refine⟨_,r,⟨o,I.kIn a o c,b,n,by simp_all⟩,?_⟩;have e:=r.length;simp_all
theorem Inv.list_inj(I:Inv X pq σ H s)(h:c9 X.K H a xs)(h':c9 X.K H a ys):xs=ys:=by
 obtain⟨b,r,⟨o,n,e,_,_,d⟩,_⟩:=I.list h;obtain⟨i,R,⟨O,N,E,_,_,D⟩,_⟩:=I.list h';have:b=i:=by lia
 subst this;exact r.inj R
theorem Inv.tuple_inj(I:Inv X pq σ H s)(h:cB X.K H a xs)(h':cB X.K H a ys):xs=ys:=by
 obtain⟨b,r,⟨o,e,_,n,d⟩,_⟩:=I.tuple h;obtain⟨i,R,⟨O,E,_,N,D⟩,_⟩:=I.tuple h';have:b=i:=by lia
 subst this;exact r.inj R
end
section
variable {X:Cx}{σ:St}{H:Hp}
end
section
variable {X:Cx}{rest:List Ly}{t u:TS}{te:TE}{pos:Pos}
noncomputable def o3:TS:=λD σ H=>D.nx σ H
noncomputable def Cj(t u:TS):TS:=λD σ H=>t {D with nx:=u D} σ H
theorem kN:fP X [] o3:=λ_ _ a H _ I h=>NL ⟨_,H,I,h⟩
theorem Ck(h1:PS X st t)(b:fP X rest u):fP X (st::rest) (Cj t u):=by
 intro p s e H D I h;refine wpAny_execs_cons (aX (h1 _ s _ H _ I h) λf S q=>?_);cases f with
 |next=>obtain⟨c,d,a,q⟩:=q;exact b _ _ _ _ D a q
 |ret v=>exact q
 |brk=>exact q
 |cont=>exact q
noncomputable def p0:TS:=λD σ H=>D.bk σ H
noncomputable def vd:TS:=λD σ H=>D.ct σ H
theorem kO:PS X (.Pass pos) o3:=λ_ _ a H _ I h=>wpAny_Pass ⟨_,H,I,h⟩
theorem Cm:PS X (.Break pos) p0:=λ_ _ a H _ I h=>wpAny_Break ⟨_,H,I,h⟩
theorem Cn:PS X (.Continue pos) vd:=λ_ _ a H _ I h=>wpAny_Continue ⟨_,H,I,h⟩
theorem Inv.quiet{σ:St}{H:Hp}(I:Inv X pq σ H s):interactive X.env=JL:=by simp[interactive,I.ok.kind]
noncomputable def ve(t:TE):TS:=λD σ H=>t σ H λ_ H1=>D.nx σ H1
theorem kP(b:PE X e te)(c:swapsWith e none pos.line X.env=pure JL:=by rfl):PS X (.Expr e pos) (ve te):=by intro p s d H D I h;exact wpAny_Expr_any (aX (b _ s _ H _ I h) λv S ⟨x,_,a,_,q⟩=>⟨_,_,a,q⟩) I.quiet c
noncomputable def Co(t:TE):TS:=λD σ H=>t σ H D.rt
theorem p9(b:PE X e te):PS X (.Return (some e) pos) (Co te):=by intro p s c H D I h;exact wpAny_Return_some (aX (b _ s _ H _ I h) λv S ⟨x,_,a,r,q⟩=>⟨x,_,_,a,r,q⟩)
noncomputable def vf:TS:=λD _ H=>D.rt .non H
theorem kQ:PS X (.Return none pos) vf:=λ_ _ a H _ I h=>wpAny_Return_none ⟨.non,_,H,I,rfl,h⟩
noncomputable def Cp(c:TT)(t u:TS):TS:=λD σ H=>c σ H λb H1=>if b=JK then t D σ H1 else u D σ H1
theorem vg{c:Expr}{a b:List Ly}{T:TT}(i:PT X c T)(f:fP X a t)(g:fP X b u):PS X (.If c a b pos) (Cp T t u):=by
 intro p s j H D I h;refine wpAny_If (aX (i _ s _ H _ I h) λd S ⟨_,e,q⟩=>?_);cases d with
 |true=>exact f _ _ _ _ D e q
 |false=>exact g _ _ _ _ D e q
end
abbrev TG:=V->St->Hp->(St->Hp->Prop)->Prop
abbrev o4:=List V->St->Hp->(St->Hp->Prop)->Prop
def PG(X:Cx)(target:Expr)(t:TG):Prop:=
 ∀(pq:Lp) (s:JN) (σ:St) (H:Hp) (v:V) (u:JO) (Q:St->Hp->Prop),Inv X pq σ H s->RelV v u->t v σ H Q->
  wpAny (model X.prog X.w) X.A (assign target X.env u) (λ_ s'=>∃σ' H',Inv X pq σ' H' s'/\Q σ' H') X.xe s
def vh(X:Cx)(ts:Lx)(t:o4):Prop:=
 ∀(pq:Lp) (s:JN) (σ:St) (H:Hp) (vs:List V) (us:Lv) (Q:St->Hp->Prop),Inv X pq σ H s->Vals vs us->t vs σ H Q->
  wpAny (model X.prog X.w) X.A (assignInOrder ((assignEach ts X.env).map (·.2)) us) (λ_ s'=>∃σ' H',Inv X pq σ' H' s'/\Q σ' H') X.xe s
abbrev kR:=V->V->V->Hp->(Hp->Prop)->Prop
def p_(X:Cx)(t:kR):Prop:=
 ∀(pq:Lp) (s:JN) (σ:St) (H:Hp) (o i v:V) (O I u:JO) (Q:Hp->Prop),Inv X pq σ H s->RelV o O->RelV i I->RelV v u->t o i v H Q->
  wpAny (model X.prog X.w) X.A (setItem O I u) (λ_ s'=>∃H',Inv X pq σ H' s'/\Q H') X.xe s
section
variable {X:Cx}{pos:Pos}
noncomputable def eC(i:Nat):TG:=λv σ H Q=>Q (σ.set i (some v)) H
theorem kS{i:Nat}{x:Str}(b:X.N.Nodup)(d:X.N[i]?=some x)(e:Loc X.env.scope x)(c:X.fn x=JK\/X.env.scope.names.lookup x=some .local:=by first|exact .inl rfl|exact .inr rfl|assumption):PG X (.Name x pos) (eC i):=by intro p s f H v u Q I r h;exact wpAny_assign_Name (u6 I b d e r (λS a=>⟨_,H,a,h⟩) c)
noncomputable def vk:o4:=λvs σ H Q=>vs=[]/\Q σ H
noncomputable def o5(t:TG)(u:o4):o4:=λvs σ H Q=>∃v r,vs=v::r/\t v σ H λσ' H'=>u r σ' H' Q
theorem kT:vh X [] vk:=by intro p s a H vs u Q I r h;obtain⟨e,h⟩:=h;exact assignInOrder_nil ⟨_,H,I,h⟩
theorem Cq{es:Lx}{t:TG}{u:o4}(h1:PG X e t)(b:vh X es u)
  (c:(assignEach (e::es) X.env).map (·.2)=assign e X.env::(assignEach es X.env).map (·.2):=by rfl):vh X (e::es) (o5 t u):=by
 intro p s d H vs U Q I r h;obtain⟨v,V,E,h⟩:=h;subst E;cases r with
 |cons r R=>rw[c];exact assignInOrder_cons (aX (h1 _ s _ H _ _ _ I r h) λ_ S ⟨_,_,a,q⟩=>b _ _ _ _ _ _ Q a R q)
noncomputable def vm(K:Fg)(n:Nat)(t:o4):TG:=λv σ H Q=>∃a xs,v=.ref a/\cB K H a xs/\xs.length=n/\t xs σ H Q
theorem p'{es:Lx}{k:Nat}{t:o4}(d:X.calm=JK)(h:vh X es t)
  (g:(assignEach es X.env).length=n:=by rfl) (c:(assignEach es X.env).findIdx? (·.1)=none:=by rfl):PG X (.Tuple es k pos) (vm X.K n t):=by
 intro P s w H v u Q I r hw;obtain⟨a,x,E,i,f,hw⟩:=hw;subst E;cases r;obtain⟨m,R,j,q⟩:=I.tuple i;exact assign_Tuple_tuple (I.ok.hd d) j (by simp[g,<-f,R.length]) c λp l=>h _ _ _ H _ _ Q (I.kept (t':=s.toks) λb o e=>l b o (Zu (Zj e)) e) (by lia) hw
noncomputable def Cr(to T:TE)(t:kR):TG:=λv σ H Q=>to σ H λo H1=>T σ H1 λi H2=>t o i v H2 λa=>Q σ a
theorem qa{o i:Expr}{to T:TE}{t:kR}(f:PE X o to)(e:PE X i T)(g:p_ X t)
  (m:∀v,assign (.Subscript o i pos) X.env v=(do
   let O <-holding [v] (eval o X.env)
   let a <-holding [v,O] (eval i X.env)
   standAt pos
   holding [v,O,a] (setItem O a v)
   release [v,O,a] []):=by intro _;rfl):PG X (.Subscript o i pos) (Cr to T t):=by
 intro p s z H v u Q I r h;refine Za (ZU (aX (f _ s _ H _ I h) λO S ⟨x,_,b,R,q⟩=>?_));exact Za (ZU (aX (e _ _ _ _ _ b q) λa n ⟨y,_,c,l,j⟩=>Za (Mi (Za (ZU (aX (g _ _ _ _ x y v _ _ u _ c R l r j) λ_ w ⟨_,d,k⟩=>wpAny_release ⟨_,_,d,k⟩))))))
noncomputable def qb(t:TE)(g:TG):TS:=λD σ H=>t σ H λx H1=>g x σ H1 D.nx
theorem iN{t:TE}{g:TG}(b:PE X e t)(c:PG X tg g)(d:swapsWithSole [tg] e pos.line X.env=pure JL:=by rfl)(hw:swappedStores [tg] e X.env=pure none:=by rfl)
  (h1:(assignEach [tg] X.env).map (·.2)=[assign tg X.env]:=by rfl):PS X (.Assign [tg] e pos) (qb t g):=by
 intro p s i H D I h;refine wpAny_Assign_stores (aX (b _ s _ H _ I h) λv S ⟨x,_,a,r,Q⟩=>?_) d hw;rw[h1];exact aX (c _ _ _ _ x v _ a r Q) λ_ f q=>q
theorem qc{i:Nat}{x:Str}{t:TE}(c:X.N.Nodup)(g:X.N[i]?=some x)(k:Loc X.env.scope x)(d:PE X e t)(j:swapsWith e (some (.Name x pos')) pos.line X.env=pure JL:=by rfl)(f:X.fn x=JK\/X.env.scope.names.lookup x=some .local:=by first|exact .inl rfl|exact .inr rfl|assumption):
  PS X (.Assign [.Name x pos'] e pos) (qb t (eC i)):=by
 intro p s m H D I h;exact wpAny_Assign_Name (aX (d _ s _ H _ I h) λv S ⟨y,_,a,r,q⟩=>u6 a c g k r (λl b=>⟨_,_,b,q⟩) f) j
end
section
variable {X:Cx}{pos:Pos}
noncomputable def qd(c:TT)(tb:TS):TS:=λD σ H=>∃W:Nat->St->Hp->Prop,(∃m,W m σ H)/\∀m σ H,W m σ H->
 c σ H λb H1=>if b=JK then ∃N:St->Hp->Prop,(∀σ' H',N σ' H'->∃M,M<m/\W M σ' H')/\tb {D with nx:=N,ct:=N,bk:=D.nx} σ H1 else D.nx σ H1
theorem Cs{c:Expr}{body:List Ly}{t:TT}{tb:TS}(i:MZ (model X.prog X.w) X.A X.env X.xe)(o:PT X c t)(m:fP X body tb):PS X (.While c body [] pos) (qd t tb):=by
 intro P s B H D I h;obtain⟨W,⟨M,w⟩,turn⟩:=h;refine wpAny_While (codeAny_whileLoop (λn S=>∃a e,Inv X _ a e S/\W n a e) ?_ _ ⟨_,H,I,w⟩);rintro n y ⟨u,H1,k,r⟩;refine K3 i (aX (o _ _ _ _ _ k (turn n _ _ r)) λb z ⟨_,g,q⟩=>?_);cases b with
 |true=>
  obtain⟨N,x,q⟩:=q;refine K3 i (aX (m _ _ _ _ _ g q) λf A Q=>?_);cases f with
  |next=>
   obtain⟨d,j,l,p⟩:=Q
   grind
  |cont=>
   obtain⟨d,j,l,p⟩:=Q
   grind
  |brk=>exact Q
  |ret v=>exact Q
 |false=>exact NL ⟨_,_,g,q⟩
end
set_option genInjectivity false in
structure It where
 go:Nat->Hp->Prop
 yld:Nat->Hp->V->Hp->Prop
 stop:Nat->Hp->Prop
def dn(X:Cx)(P:Lp)(H:Hp)(b:JP):Prop:=
 H b=none/\b≠X.env.locals/\b∉X.fs/\(b∈X.ex\/X.s₀.heap.objs.size<=b)/\(∀x c,X.env.cells.lookup x=some c->c≠b)/\∀p∈X.pn++P,p.1≠b
theorem Inv.fpOk{X:Cx}{σ:St}{H a:Hp}{b:JP}(I:Inv X pq σ H s)(h:s.heap.objs.size<=b)(d:a b=none):dn X pq a b:=by
 refine⟨d,Kk (ZB I.lt h),I.nofs h,.inr (ZD I.sz h),λx c e z=>?_,λp f z=>?_⟩
 ·obtain⟨v,q⟩:=I.cell x c e;exact absurd (ZB q.lt (by lia)) (Z6 _)
 ·exact absurd (ZB (Zj (I.pin p f).1) (by lia)) (Z6 _)
structure Turn (P:J8)(w:Ke)(K:Fg)(tg:Expr)(J:It)(fp:La)(it:JP)(tn:Nat->JU->Prop):Prop where
 mem:it∈fp
 obj:∀i h,tn i h->∀b∈fp,∃o,h.get? b=some o/\∀v,o.data≠.cell v
 keep:∀i h h',tn i h->(∀b∈fp,∀o,h.get? b=some o->h'.get? b=some o)->tn i h'
 item:∀(X:Cx),X.prog=P->X.w=w->X.K=K->X.calm=JK->∀(i:Nat) (pq:Lp) (s:JN) (σ:St) (H:Hp) (E:Vs),Inv X pq σ H s->(∀b∈fp,dn X pq H b)->tn i s.heap->J.go i H->
  wpAny (model P w) X.A (pyNext (.ref it)) (λr s1=>∃u,r=some u/\
   wpAny (model P w) X.A (letOwnedTupleGo tg (.ref it) u) (λ_ s2=>∃x H',Inv X pq σ H' s2/\RelV x u/\J.yld i H x H'/\tn (i+1) s2.heap/\∀b∈fp,H' b=none) E s1) E s
 done:∀(X:Cx),X.prog=P->X.w=w->X.K=K->X.calm=JK->∀(i:Nat) (pq:Lp) (s:JN) (σ:St) (H:Hp) (E:Vs),Inv X pq σ H s->(∀b∈fp,dn X pq H b)->tn i s.heap->J.stop i H->
  wpAny (model P w) X.A (pyNext (.ref it)) (λr s1=>r=none/\Inv X pq σ H s1) E s
 self:∀(A:KI) (i:Nat) (s:JN) (Q:Vs) (E:Vs),tn i s.heap->Q (.ref it) s->wpAny (model P w) A (pyIter (.ref it)) Q E s
abbrev TI:=St->Hp->(It->Hp->Prop)->Prop
def BJ(X:Cx)(p:Lp)(σ:St)(tg:Expr)(R:It->Hp->Prop)(i:JO)(s:JN):Prop:=
 ∃(it:JP) (fp:La) (tn:Nat->JU->Prop) (J:It) (H':Hp),i=.ref it/\Inv X p σ H' s/\Turn X.prog X.w X.K tg J fp it tn/\tn 0 s.heap/\(∀b∈fp,dn X p H' b)/\R J H'
def PI(X:Cx)(tg i:Expr)(w:TI):Prop:=
 ∀(pq:Lp) (s:JN) (σ:St) (H:Hp) (R:It->Hp->Prop),Inv X pq σ H s->w σ H R->
  wpAny (model X.prog X.w) X.A (eval i X.env) (λv s1=>wpAny (model X.prog X.w) X.A (pyIter v) (BJ X pq σ tg R) X.xe s1) X.xe s
theorem iO{n:String}{vs:Av}{Q:Unit->JN->Prop}(b:s.heap.get? it=some o)(H:o.cls=.type n)(a:o.data=.fields vs)
  (c:["enumerate","zip","dict_itemiterator","dict_reverseitemiterator","odict_iterator","itertools.zip_longest","itertools.pairwise"].contains n=JL) (h:Q () s):wpAny M A (letOwnedTupleGo tg (.ref it) u) Q E s:=by
 cases tg<;>first
  |exact Zd h
  | (cases u<;>first
    |exact Zd h
    | (refine Za (wpAny_load b ?_)
       rw[H,a];show wpAny M A (if(["enumerate","zip","dict_itemiterator","dict_reverseitemiterator","odict_iterator","itertools.zip_longest","itertools.pairwise"].contains n&&vs[0]?==some _)=JK then _ else _) Q E s;rw[if_neg (by lia)];exact Zd h))
noncomputable def BK(K:Fg)(a:JP):It:=
 ⟨λi H=>∃xs x,c9 K H a xs/\xs[i]?=some x,λi H x H'=>H'=H/\∀xs,c9 K H a xs->xs[i]?=some x,λi H=>∃xs,c9 K H a xs/\xs.length<=i⟩
noncomputable def Ct(K:Fg)(a:JP):It:=
 ⟨λi H=>∃xs x,cB K H a xs/\xs[i]?=some x,λi H x H'=>H'=H/\∀xs,cB K H a xs->xs[i]?=some x,λi H=>∃xs,cB K H a xs/\xs.length<=i⟩
noncomputable def vn(l:Int)(n:Nat):It:=⟨λi _=>i<n,λi H x H'=>H'=H/\x=.int (l+i),λi _=>n<=i⟩
theorem Cu(a it:JP):Turn P w K tg (BK K a) [it] it (λi h=>h.IsListIter it a i) where
 mem:=by simp
 obj:=λi h st b hb=>by
  have e:=by simpa using hb
  obtain⟨o,e,c,d⟩:=st;simp_all
 keep:=λi h h' st k=>st.at λo e=>k _ (by simp) o e
 item:=by intro X hP hw hK hc i pq s σ H E I hf st hg;subst hP hw hK;obtain⟨xs,x,hq,hx⟩:=hg;obtain⟨its,rv,p,hz⟩:=I.list hq;obtain⟨u,hu,ru⟩:=rv.get hx;obtain⟨f0,f1,f2,f3,f4,f5⟩:=hf it (by simp);refine wpAny_pyNext_list_item st p.isList (by simpa using hu) λh' st' sb=>?_;obtain⟨o,e,c,d⟩:=id st';exact⟨u,rfl,iO e c d (rfl) ⟨x,H,I.turned (t':=s.toks) (λb o hb e=>(sb.2 b hb).trans e) f0 f1 f3 f4 f5,ru,⟨rfl,λys hy=>by rw[I.list_inj hy hq];exact hx⟩,st',λb hb=>(hf b hb).1⟩⟩
 done:=by intro X hP hw hK hc i pq s σ H E I hf st hg;subst hP hw hK;obtain⟨xs,hq,hx⟩:=hg;obtain⟨its,rv,p,hz⟩:=I.list hq;obtain⟨f0,f1,f2,f3,f4,f5⟩:=hf it (by simp);have hl:=rv.length;exact wpAny_pyNext_list_end (I.ok.hd hc) st p.isList (by simp_all) λh' eb=>⟨rfl,I.turned (λb o hb e=>eb b o hb e) f0 f1 f3 f4 f5⟩
 self:=λ_ _ _ _ _ st h=>wpAny_pyIter_listiter st h
theorem Cv(a it:JP):Turn P w K tg (Ct K a) [it] it (λi h=>h.IsTupleIter it a i) where
 mem:=by simp
 obj:=λi h st b hb=>by
  have e:=by simpa using hb
  obtain⟨o,e,c,d⟩:=st;simp_all
 keep:=λi h h' st k=>st.at λo e=>k _ (by simp) o e
 item:=by intro X hP hw hK hc i pq s σ H E I hf st hg;subst hP hw hK;obtain⟨xs,x,hq,hx⟩:=hg;obtain⟨its,rv,p,hz⟩:=I.tuple hq;obtain⟨u,hu,ru⟩:=rv.get hx;obtain⟨f0,f1,f2,f3,f4,f5⟩:=hf it (by simp);refine wpAny_pyNext_tuple_item st (show s.heap.IsTuple a _ from p) (by simpa using hu) λh' st' sb=>?_;obtain⟨o,e,c,d⟩:=id st';exact⟨u,rfl,iO e c d (rfl) ⟨x,H,I.turned (t':=s.toks) (λb o hb e=>(sb.2 b hb).trans e) f0 f1 f3 f4 f5,ru,⟨rfl,λys hy=>by rw[I.tuple_inj hy hq];exact hx⟩,st',λb hb=>(hf b hb).1⟩⟩
 done:=by intro X hP hw hK hc i pq s σ H E I hf st hg;subst hP hw hK;obtain⟨xs,hq,hx⟩:=hg;obtain⟨its,rv,p,hz⟩:=I.tuple hq;obtain⟨f0,f1,f2,f3,f4,f5⟩:=hf it (by simp);have hl:=rv.length;exact wpAny_pyNext_tuple_end (I.ok.hd hc) st (show s.heap.IsTuple a _ from p) (by simp_all) λh' eb=>⟨rfl,I.turned (λb o hb e=>eb b o hb e) f0 f1 f3 f4 f5⟩
 self:=λ_ _ _ _ _ st h=>wpAny_pyIter_tupleiter st h
theorem Cw(it:JP)(lo:Int)(n:Nat):Turn P w K tg (vn lo n) [it] it (λi h=>IsRangeIter h it (lo+(i:Nat)*1) ((n:Int)-(i:Nat)) 1) where
 mem:=by simp
 obj:=λi h st b hb=>by simp_all
 keep:=λi h h' st k=>k _ (by simp) _ st
 item:=by intro X hP hw hK hc i pq s σ H E I hf st hg;subst hP hw hK;obtain⟨f0,f1,f2,f3,f4,f5⟩:=hf it (by simp);refine(Walks.range (prog:=X.prog) (w:=X.w) (I.ok.hd hc) it lo 1 n).item i s _ _ hg st λv h' tk hv st' kk=>?_;obtain⟨t,rfl⟩:=hv;have I1:Inv X _ _ H {s with heap:=h',toks:=tk}:=I.turned (λb o hb e=>kk b o (by simp_all) e) f0 f1 f3 f4 f5;refine⟨_,rfl,iO st' rfl rfl (rfl) ⟨.int _,H,I1,⟨t,?_⟩,⟨rfl,rfl⟩,st',λb hb=>(hf b hb).1⟩⟩;simp_all
 done:=by intro X hP hw hK hc i pq s σ H E I hf st hg;obtain⟨f0,f1,f2,f3,f4,f5⟩:=hf it (by simp);exact wpAny_pyNext_range_end (I.ok.hd hc) st (by have:n<=i:=hg;omega) λh' eb=>⟨rfl,I.turned (λb o hb e=>eb b o hb e) f0 f1 f3 f4 f5⟩
 self:=λ_ _ _ _ _ st h=>wpAny_pyIter_rangeiter st h
section
variable {X:Cx}
theorem vq{σ:St}{H:Hp}{R:It->Hp->Prop}{h:Int}{t u v:Tok}{tk:Nat}(I:Inv X pq σ H s)(h1: -(2^62)<=lo)(g:lo<2^62)(i: -(2^62)<=h)(j:h<2^62)
  (q:R (vn lo (h-lo).toNat) H):wpAny (model X.prog X.w) X.A (pyIter (.ref s.heap.objs.size)) (BJ X pq σ tg R) E {s with heap:=s.heap.push {cls:=.type "range",data:=.fields #[.int lo t,.int h u,.int 1 v]},toks:=tk}:=by
 refine wpAny_pyIter_range (IsRange.new ..) (small_one h1 g i j) ?_;have c:Inv X _ _ H {s with heap:=s.heap.push {cls:=.type "range",data:=.fields #[.int lo t,.int h u,.int 1 v]},toks:=tk}:=I.kept λb o e=>Zb _ e
 refine⟨_,_,_,_,H,rfl,
  c.kept λb o e=>Zb _ e,Cw _ _ _,?_,λb k=>?_,q⟩
 ·have d:lo+(0:Nat)*1=lo:=by simp
  have f:(h-lo).toNat-(0:Nat)=Builtin.Range.rangeSize lo h 1:=by rw[rangeSize_one];lia
  rw[d,f];exact Zh _ rfl
 ·have e:b=(s.heap.push {cls:=.type "range",data:=.fields #[.int lo t,.int h u,.int 1 v]}).objs.size:=by simp_all
  subst e;exact c.fpOk (Zl _) (c.hok.fresh (Zl _))
noncomputable def vr(t:TA):TI:=λσ H R=>t σ H λvs H1=>∃j:Int,vs=[.int j]/\ -(2^62)<=j/\j<2^62/\R (vn 0 j.toNat) H1
noncomputable def vt(t:TA):TI:=λσ H R=>t σ H λvs H1=>∃i j:Int,vs=[.int i,.int j]/\(-(2^62)<=i/\i<2^62/\ -(2^62)<=j/\j<2^62)/\R (vn i (j-i).toNat) H1
theorem Cy{a:Expr}{T:TA}{p pos:Pos}(d:Gl X "range")(f:X.mg "range"=none)(c:PA X [a] T)(g:starEach [a] X.env=[(JL,eval a X.env)]:=by rfl):PI X tg (.Call (.Name "range" p) [a] [] pos) (vr T):=by
 intro P s m H R I h;refine Call_ (ea I d f boot_range (Z1 (aX (c _ _ s _ H _ I h) λu S ⟨_,_,b,k,Q⟩=>?_) g rfl));obtain⟨j,e,Q,i,q⟩:=Q;subst e;cases k with
 |cons r l=>cases l;obtain⟨t,rfl⟩:=r;exact call_range_1 (vq b (by omega) (by omega) Q i (by lia))
theorem Cz{a b:Expr}{T:TA}{p pos:Pos}(k:Gl X "range")(l:X.mg "range"=none)(g:PA X [a,b] T)(w:starEach [a,b] X.env=[(JL,eval a X.env),(JL,eval b X.env)]:=by rfl)(c:starEach [b] X.env=[(JL,eval b X.env)]:=by rfl):
  PI X tg (.Call (.Name "range" p) [a,b] [] pos) (vt T):=by
 intro P s y H R I h;refine Call_ (ea I k l boot_range (Z1 (aX (g _ _ s _ H _ I h) λU S ⟨_,_,f,v,Q⟩=>?_) (by lia) (by rw[c];rfl)));obtain⟨i,j,e,⟨Q,m,n,o⟩,q⟩:=Q;subst e;cases v with
 |cons r d=>
  cases d with
  |cons u d=>cases d;obtain⟨t,rfl⟩:=r;obtain⟨x,rfl⟩:=u;exact call_range_2 (vq f Q m n o q)
noncomputable def CA(w:TI)(g:TG)(tb:TS):TS:=λD σ H=>w σ H λJ H1=>∃W:Nat->Nat->St->Hp->Prop,(∃m,W 0 m σ H1)/\∀i m σ H,W i m σ H->
 (J.stop i H/\D.nx σ H)\/(J.go i H/\∃N:St->Hp->Prop,(∀σ' H',N σ' H'->∃M,M<m/\W (i+1) M σ' H')/\∀x H',J.yld i H x H'->g x σ H' λa H2=>tb {D with nx:=N,ct:=N,bk:=D.nx} a H2)
noncomputable def kU(f:La)(h:JU):Lp:=f.filterMap λb=>(h.get? b).map λo=>(b,o)
theorem kW{b:JP}(H:b∈fp)(e:h.get? b=some o):(b,o)∈kU fp h:=KS.mpr ⟨b,H,by simp_all⟩
theorem CB{p:JP×Obj}(H:p∈kU fp h):p.1∈fp/\h.get? p.1=some p.2:=by
 obtain⟨b,a,e⟩:=KS.mp H;cases q:h.get? b with
 |none=>simp_all
 |some o=>
  grind
theorem Inv.pinned{σ:St}{H:Hp}(I:Inv X pq σ H s)(a:∀b∈fp,dn X pq H b)(d:∀b∈fp,∃o,s.heap.get? b=some o/\∀v,o.data≠.cell v):Inv X (pq++kU fp s.heap) σ H s:=
 I.pins_of λp c=>(ZE.mp c).elim (λz=>I.pin p (Zt _ z)) λz=>by
  obtain⟨h,e⟩:=CB z;obtain⟨f0,f,F,_⟩:=a _ h
  grind
theorem Inv.unpinned{P:Lp}{σ:St}{H:Hp}(I:Inv X (pq++P) σ H s):Inv X pq σ H s:=I.pins_of λp h=>I.pin p (Zt _ (ZP _ h))
theorem qe{body:List Ly}{wi:TI}{g:TG}{tb:TS}{pos:Pos}(y:MZ (model X.prog X.w) X.A X.env X.xe)(Y:X.calm=JK)(hi:PI X tg iter wi)(hg:PG X tg g)(k:fP X body tb)
  (hs:∀x,foldedSetIterable iter X.env x=pure x:=by intro _;rfl):PS X (.For tg iter body [] pos) (CA wi g tb):=by
 intro P s σ H D I h;refine wpAny_For (aX (hi P s σ H _ I h) λv s1 h1=>aX h1 λitv s2 h2=>?_) hs;obtain⟨it,F,tn,J,H2,e,I2,T,M,V,W,⟨m0,w0⟩,turn⟩:=h2;subst e;have S:∀{q:Hp},(∀b∈F,q b=none)->∀b∈F,dn X P q b:=λhn b k=>⟨hn b k,(V b k).2⟩;refine codeAny_forLoop_any (λn Z=>∃i l q,Inv X P l q Z/\tn i Z.heap/\(∀b∈F,q b=none)/\W i n l q) ?_ m0 ⟨0,σ,H2,I2,M,λb k=>(V b k).1,w0⟩;rintro n s3 ⟨i,p,C,U,B,w,w3⟩;rcases turn i n p C w3 with⟨stop,qn⟩| ⟨go,N,hN,step⟩
 ·refine K3 y (aX (T.done X rfl rfl rfl Y i P s3 p C X.xe U (S w) B stop) λr s4 ⟨K,I4⟩=>?_);subst K;exact NL ⟨p,C,I4,qn⟩
 ·refine K3 y (aX (T.item X rfl rfl rfl Y i P s3 p C X.xe U (S w) B go) λr s4 ⟨u,K,h4⟩=>?_);subst K;refine K3 y (aX h4 λ_ s5 ⟨x,R,I5,r5,y5,t,G⟩=>?_);have E:=I5.pinned (S G) (T.obj _ _ t);refine K3 y (aX (hg _ s5 p R x u _ E r5 (step x R y5)) λ_ s6 ⟨O,H6,I6,q6⟩=>?_);refine K3 y (aX (k _ s6 O H6 _ I6 q6) λf L Q=>?_)
  have A:∀{a:St} {c:Hp},Inv X (P++kU F s5.heap) a c L->N a c->∃m,m<n/\∃i l q,Inv X P l q L/\tn i L.heap/\(∀b∈F,q b=none)/\W i m l q:=λ{a c} j z=>by obtain⟨m',hm,w7⟩:=hN a c z;refine⟨m',hm,i+1,a,c,j.unpinned,T.keep _ _ _ t λb k o e=>(j.pin (b,o) (Zt _ (Zt _ (kW k e)))).1,λb k=>?_,w7⟩;obtain⟨o,e,d⟩:=T.obj _ _ t b k;exact(j.pin (b,o) (Zt _ (Zt _ (kW k e)))).2.1
  cases f with
  |next=>obtain⟨a,c,j,z⟩:=Q;exact A j z
  |cont=>obtain⟨a,c,j,z⟩:=Q;exact A j z
  |brk=>obtain⟨a,c,j,Q⟩:=Q;exact⟨a,c,j.unpinned,Q⟩
  |ret v=>obtain⟨x7,a,c,j,r7,Q⟩:=Q;exact⟨x7,a,c,j.unpinned,r7,Q⟩
end
abbrev R2:=V->V->Hp->VK->Prop
def cZ(X:Cx)(f:JO->JO->Sem JO)(r:R2):Prop:=
 ∀(pq:Lp) (s:JN) (σ:St) (H:Hp) (x y:V) (v u:JO) (Q:VK),Inv X pq σ H s->RelV x v->RelV y u->r x y H Q->
  wpAny (model X.prog X.w) X.A (f v u) (EP X pq σ Q) X.xe s
def UnR(X:Cx)(f:JO->Sem JO)(r:V->Hp->VK->Prop):Prop:=
 ∀(pq:Lp) (s:JN) (σ:St) (H:Hp) (x:V) (v:JO) (Q:VK),Inv X pq σ H s->RelV x v->r x H Q->
  wpAny (model X.prog X.w) X.A (f v) (EP X pq σ Q) X.xe s
def a7(X:Cx)(f:JO)(r:List V->Hp->VK->Prop):Prop:=
 ∀(pq:Lp) (s:JN) (σ:St) (H:Hp) (xs:List V) (us:Lv) (Q:VK),Inv X pq σ H s->Vals xs us->r xs H Q->
  wpAny (model X.prog X.w) X.A (call f us) (EP X pq σ Q) X.xe s
def CC(X:Cx)(r:V->Hp->(Bool->Hp->Prop)->Prop):Prop:=
 ∀(pq:Lp) (s:JN) (σ:St) (H:Hp) (x:V) (v:JO) (Q:Bool->Hp->Prop),Inv X pq σ H s->RelV x v->r x H Q->
  wpAny (model X.prog X.w) X.A (truthy v) (TP X pq σ Q) X.xe s
noncomputable def BL(r:R2)(t tb:TE):TE:=λσ H Q=>t σ H λx H1=>tb σ H1 λy H2=>r x y H2 Q
noncomputable def Jy(r:V->Hp->VK->Prop)(t:TE):TE:=λσ H Q=>t σ H λx H1=>r x H1 Q
noncomputable def rI(C:Int->Int->Prop)(g:Int->Int->V):R2:=λx y H Q=>∃i j,x=.int i/\y=.int j/\C i j/\Q (g i j) H
noncomputable def kX(g:Int->Int->V):R2:=λx y H Q=>∃i j,x=.int i/\y=.int j/\Q (g i j) H
def rU(g:Int->V):V->Hp->VK->Prop:=λx H Q=>∃i,x=.int i/\Q (g i) H
section
variable {X:Cx}{a b c:Expr}{ta tb tc:TE}{pos:Pos}
theorem qf(g:PE X a ta)(i:PE X b tb){σ:St}{H:Hp}{R:V->V->Hp->Prop}(I:Inv X pq σ H s)
  (h:ta σ H λx H1=>tb σ H1 λy H2=>R x y H2)  {f:JO->JO->Sem JO}
  (j:∀v u s2 x y H2,Inv X pq σ H2 s2->RelV x v->RelV y u->R x y H2->wpAny (model X.prog X.w) X.A (f v u) Q X.xe s2):
  wpAny (model X.prog X.w) X.A (eval a X.env) (λv S=>wpAny (model X.prog X.w) X.A (eval b X.env) (λu c=>wpAny (model X.prog X.w) X.A (f v u) Q X.xe c) X.xe S) X.xe s:=by
 exact aX (g _ s _ H _ I h) λv m ⟨x,_,d,r,q⟩=>aX (i _ _ _ _ _ d q) λu s2 ⟨y,_,e,l,k⟩=>j v u _ x y _ e r l k
theorem o6{o:Np}{r:R2}(f:cZ X (binaryOp o) r)(d:PE X a ta)(e:PE X b tb):PE X (.BinOp a o b pos) (BL r ta tb):=by intro p s j H Q I h;exact wpAny_BinOp (qf d e I h λv u S x y i c R g q=>f _ _ _ _ x y v u Q c R g q)
theorem vx{o:UnaryOp}{r:V->Hp->VK->Prop}(d:UnR X (unaryOp o) r)(c:PE X a ta):PE X (.UnaryOp o a pos) (Jy r ta):=by intro p s e H Q I h;exact UnaryOp_ (aX (c _ s _ H _ I h) λv S ⟨x,_,b,R,q⟩=>d _ _ _ _ x v Q b R q)
theorem uP{f:JO->JO->Sem JO}{C:Int->Int->Prop}{g:Int->Int->Int}
  (r:∀(i j:Int) (t u:Tok) (s:JN) (Q:Vs) (E:Vs),C i j->Q (.int (g i j) s.toks) {s with toks:=s.toks+1}->wpAny (model X.prog X.w) X.A (f (.int i t) (.int j u)) Q E s):
  cZ X f (rI C λi j=>.int (g i j)):=by
 intro p s d H x y v u Q I R b h;obtain⟨i,j,rfl,rfl,a,q⟩:=h;obtain⟨t,rfl⟩:=R;obtain⟨c,rfl⟩:=b;exact r i j t _ s _ _ a ⟨.int _,H,I.tok _,⟨_,rfl⟩,q⟩
theorem kY{f:JO->JO->Sem JO}{g:Int->Int->Int}
  (r:∀(i j:Int) (t u:Tok) (s:JN) (Q:Vs) (E:Vs),Q (.int (g i j) s.toks) {s with toks:=s.toks+1}->wpAny (model X.prog X.w) X.A (f (.int i t) (.int j u)) Q E s):
  cZ X f (kX λi j=>.int (g i j)):=by
 intro p s c H x y v u Q I R a h;obtain⟨i,j,rfl,rfl,q⟩:=h;obtain⟨t,rfl⟩:=R;obtain⟨b,rfl⟩:=a;exact r i j t _ s _ _ ⟨.int _,H,I.tok _,⟨_,rfl⟩,q⟩
theorem qg{f:JO->JO->Sem JO}{g:Int->Int->Bool}
  (r:∀(i j:Int) (t u:Tok) (s:JN) (Q:Vs) (E:Vs),Q (.bool (g i j)) s->wpAny (model X.prog X.w) X.A (f (.int i t) (.int j u)) Q E s):
  cZ X f (kX λi j=>.bl (g i j)):=by
 intro p s b H x y v u Q I R a h;obtain⟨i,j,rfl,rfl,q⟩:=h;obtain⟨t,rfl⟩:=R;obtain⟨T,rfl⟩:=a;exact r i j t _ s _ _ ⟨.bl _,H,I,rfl,q⟩
def CD(i j:Int):Prop:=0<j/\j<1073741824
noncomputable def qh(i j:Int):Prop:=(-(2^64)<i/\i<2^64)\/(-(2^64)<j/\j<2^64)
theorem qh.ok{i j:Int}(h:qh i j):IntMulOk i j:=by
 rcases h with⟨H,a⟩| ⟨H,a⟩
 ·exact .of_left (intBits_le_64 H a)
 ·exact .of_right (intBits_le_64 H a)
theorem qk:cZ X (binaryOp .Add) (kX λi j=>.int (i+j)):=kY λ_ _ _ _ _ _ _ q=>add_int q
theorem ql:cZ X (binaryOp .Sub) (kX λi j=>.int (i-j)):=kY λ_ _ _ _ _ _ _ q=>sub_int q
theorem qm:cZ X (binaryOp .Mult) (rI qh λi j=>.int (i*j)):=uP λ_ _ _ _ _ _ _ h q=>mul_int q h.ok
theorem kZ:cZ X (binaryOp .FloorDiv) (rI CD λi j=>.int (i/j)):=uP λi j _ _ _ _ _ h q=>by have H:=h.1;have a:=h.2;exact floordiv_int (by omega) (by grind) (.inl (PyProof.noPylong_small (by omega)))
theorem qo:cZ X (binaryOp .Mod) (rI (λ_ j=>0<j) λi j=>.int (i%j)):=uP λi j _ _ _ _ _ h q=>by exact mod_int' (by omega) (by grind)
theorem qp:cZ X (binaryOp .RShift) (rI (λ_ j=>0<=j) λi j=>.int (i/2^j.toNat)):=uP λi j _ _ _ _ _ h q=>
 rshift_int h (by grind)
theorem qq:cZ X (binaryOp .BitAnd) (kX λi j=>.int (Lr i j)):=kY λ_ _ _ _ _ _ _ q=>and_int q
theorem vy:cZ X (binaryOp .BitOr) (kX λi j=>.int (OS i j)):=kY λ_ _ _ _ _ _ _ q=>or_int q
theorem unI{f:JO->Sem JO}{g:Int->Int}
  (r:∀(i:Int) (t:Tok) (s:JN) (Q:Vs) (E:Vs),Q (.int (g i) s.toks) {s with toks:=s.toks+1}->wpAny (model X.prog X.w) X.A (f (.int i t)) Q E s):
  UnR X f (rU λi=>.int (g i)):=by
 intro p s a H x v Q I R h;obtain⟨i,rfl,q⟩:=h;obtain⟨t,rfl⟩:=R;exact r i t s _ _ ⟨.int _,H,I.tok _,⟨_,rfl⟩,q⟩
theorem qr:UnR X (unaryOp .USub) (rU λi=>.int (-i)):=unI λ_ _ _ _ _ q=>neg_int q
end
section
variable {X:Cx}{a b c:Expr}{ta tb tc:TE}{pos:Pos}
theorem iP{σ:St}{H:Hp}{Q:VK}{k K:Bool}(I:Inv X pq σ H s)(q:Q (.bl k) H)(e:k=K):EP X pq σ Q (.bool K) s:=by subst e;exact⟨.bl k,H,I,rfl,q⟩
theorem vz:cZ X (compareOp .LtE) (kX λi j=>.bl (decide (i<=j))):=qg λ_ _ _ _ _ _ _ q=>le_int q
theorem vA:cZ X (compareOp .Gt) (kX λi j=>.bl (decide (j<i))):=qg λ_ _ _ _ _ _ _ q=>gt_int q
theorem vB:cZ X (compareOp .GtE) (kX λi j=>.bl (decide (j<=i))):=qg λ_ _ _ _ _ _ _ q=>ge_int q
theorem qt:cZ X (compareOp .Is) (λx y H Q=>y=.non/\Q (.bl (decide (x=.non))) H):=by
 intro p s a H x y v u Q I r R h;obtain⟨rfl,q⟩:=h;cases R;refine is_none_gen (iP I q ?_)
 cases x<;>first
  |lia
  | (obtain⟨t,rfl⟩:=r;rfl)
theorem k6:cZ X (compareOp .IsNot) (λx y H Q=>y=.non/\Q (.bl (!decide (x=.non))) H):=by
 intro p s a H x y v u Q I r R h;obtain⟨rfl,q⟩:=h;cases R;refine isnot_none_gen (iP I q ?_)
 cases x<;>first
  |lia
  | (obtain⟨t,rfl⟩:=r;rfl)
theorem k7{o:Me}{r:R2}(g:cZ X (compareOp o) r)(d:PE X a ta)(e:PE X b tb)(f:behindInMarks o b=JL):PE X (.Compare a [o] [b] pos) (BL r ta tb):=by intro p s k H Q I h;exact wpAny_Compare1 (qf d e I h λv u S x y j c R i q=>g _ _ _ _ x y v u Q c R i q) f
noncomputable def o7(t:TE):TT:=λσ H Q=>t σ H λx H'=>∃k,x=.bl k/\Q k H'
theorem k8{o:Me}{r:R2}(m:cZ X (compareOp o) r)(i:PE X a ta)(j:PE X b tb)(l:behindInMarks o b=JL):PT X (.Compare a [o] [b] pos) (o7 (BL r ta tb)):=by
 intro P s C H Q I h
 refine wpAny_isTrue_Compare1 (aX (i _ s _ H _ I h) λv S ⟨x,_,d,R,q⟩=>aX (j _ _ _ _ _ d q) λu A ⟨y,_,f,t,n⟩=>
  aX (m _ _ _ _ x y v u _ f R t n) λc B ⟨z,_,g,w,k,e,p⟩=>?_) l
 subst e;cases w;exact Yd ⟨_,g,p⟩
noncomputable def iQ(r R:R2)(t tb T:TE):TE:=λσ H Q=>t σ H λx H1=>tb σ H1 λy H2=>r x y H2 λz a=>∃k,z=.bl k/\
 (if k=JK then T σ a λw b=>R y w b Q else Q (.bl JL) a)
theorem CF{o:Me}{r R:R2}(A:cZ X (compareOp o) r)(f:cZ X (compareOp op') R)(n:PE X a ta)(p:PE X b tb)(t:PE X c tc)
  (w:lastMarks [o,op'] [b,c]=JL:=by with_unfolding_all rfl):PE X (.Compare a [o,op'] [b,c] pos) (iQ r R ta tb tc):=by
 intro P s M H Q I h
 refine Compare_chain (aX (n _ s _ H _ I h) λv S ⟨x,_,j,E,B⟩=>chain_link (aX (p _ _ _ _ _ j B) λu J ⟨y,_,l,i,C⟩=>
  aX (A _ _ _ _ x y v u _ l E i C) λd K ⟨z,_,g,F,k,e,q⟩=>?_)) w
 subst e;cases F;refine Yd ?_;cases k with
 |false=>exact ite_ff ⟨.bl _,_,g,rfl,q⟩
 |true=>exact ite_tt (chain_last (aX (t _ _ _ _ _ g q) λW L ⟨_,_,m,G,D⟩=>f _ _ _ _ y _ u _ Q m i G D))
theorem CG{o:Me}{r R:R2}(C:cZ X (compareOp o) r)(f:cZ X (compareOp op') R)(t:PE X a ta)(w:PE X b tb)(A:PE X c tc)
  (B:lastMarks [o,op'] [b,c]=JL:=by with_unfolding_all rfl):PT X (.Compare a [o,op'] [b,c] pos) (o7 (iQ r R ta tb tc)):=by
 intro T s σ H Q I h
 refine isTrue_chain (aX (t _ s _ H _ I h) λv U ⟨x,_,j,L,F⟩=>test_link (aX (w _ _ _ _ _ j F) λu V ⟨y,_,l,i,G⟩=>
  aX (C _ _ _ _ x y v u _ l L i G) λd W ⟨z,_,g,M,k,e,q⟩=>?_)) B
 subst e;cases M;refine Yd ?_;cases k with
 |false=>obtain⟨S,E,D⟩:=q;cases E;exact ite_ff ⟨_,g,D⟩
 |true=>refine ite_tt (test_last (aX (A _ _ _ _ _ g q) λw' Y ⟨_,_,m,N,J⟩=>aX (f _ _ _ _ y _ u _ _ m i N J) λP Z ⟨_,_,n,O,_,p,K⟩=>?_));subst p;cases O;exact Yd ⟨_,n,K⟩
def hV(K:Fg)(x:V)(H:Hp)(k:Bool):Prop:=
 match x with
 | .non=>k=JL
 | .bl b=>k=b
 | .int i=>k=(i !=0)
 | .str y=>y.length<=sizeLine/\k=((y.length:Int) !=0)
 | .byt y=>y.size<=sizeLine/\k=((y.size:Int) !=0)
 | .ref p=>(∃xs,c9 K H p xs/\k= !xs.isEmpty)\/(∃xs,cB K H p xs/\k= !xs.isEmpty)\/∃a,H p=some (.dK a)/\k= !a.isEmpty
 |_=>False
theorem CH{a:Type}{k:List (a×V)}{vs:List (a×JO)}(r:KV k vs):(!vs.isEmpty)= !k.isEmpty:=by cases r<;>rfl
theorem vC{xs:List V}(r:Vals xs its):(!its.toArray.isEmpty)= !xs.isEmpty:=by cases r<;>simp
theorem hW:(sizeLine:Nat)<2^63:=by decide
theorem iR:CC X (λx H Q=>∃k,hV X.K x H k/\Q k H):=by
 intro u s w H x v Q I R h;obtain⟨k,e,q⟩:=h;have n:=hW;have o:sizeLine=16777216:=Le;cases x with
 |non=>cases R;subst(e);exact truthy_none ⟨H,I,q⟩
 |bl b=>cases R;have E:k=b:=e;subst E;exact Yd ⟨H,I,q⟩
 |int i=>obtain⟨t,rfl⟩:=R;subst(e);exact PySem.P.truthy_int ⟨H,I,q⟩
 |str y=>obtain⟨t,rfl⟩:=R;obtain⟨l,E⟩:y.length<=sizeLine/\k=((y.length:Int) !=0):=e;subst E;exact PySem.P.truthy_str (by omega) ⟨H,I.tok _,q⟩
 |byt y=>obtain⟨t,rfl⟩:=R;obtain⟨l,E⟩:y.size<=sizeLine/\k=((y.size:Int) !=0):=e;subst E;exact PySem.W.truthy_bytes (by omega) ⟨H,I.tok _,q⟩
 |ref p=>
  cases R;have E:(∃c,c9 X.K H p c/\k= !c.isEmpty)\/(∃c,cB X.K H p c/\k= !c.isEmpty)\/∃K,H p=some (.dK K)/\k= !K.isEmpty:=e;rcases E with⟨c,d,E⟩| ⟨c,d,E⟩| ⟨K,d,E⟩
  ·subst E;obtain⟨f,r,P,g⟩:=I.list d;have a:=r.length;exact wpAny_truthy_list P.isList (by grind) ⟨H,I.tok _,by rw[vC r];exact q⟩
  ·subst E;obtain⟨f,r,P,g⟩:=I.tuple d;have a:=r.length;exact truthy_tuple P (by grind) ⟨H,I.tok _,by rw[vC r];exact q⟩
  ·subst E;obtain⟨g,j,vs,r,m⟩:K.length<=sizeLine/\(p==sysModules)=JL/\∃vs,KV K vs/\s.heap.DictOf (pR X.prog X.w) p vs:=I.hok p _ d;have a:K.length=vs.length:=Paired.length r;exact wpAny_truthy_dict j m (by omega) ⟨H,I.tok _,by rw[CH r];exact q⟩
 |_=>exact(show False from e).elim
theorem CI(c:PE X a ta)(d:∀w,isTrue a X.env w=(do let v <-w;standAt a.pos;holding [v] (truthy v))):
  PT X a (λσ H Q=>ta σ H λx H'=>∃k,hV X.K x H' k/\Q k H'):=by
 intro p s σ H Q I h;exact isTrue_plain (aX (c _ s _ H _ I h) λv S ⟨x,_,b,r,q⟩=>iR _ _ _ _ x v Q b r q) (d _)
theorem CJ:cZ X (binaryOp .Add) (λx y H Q=>∃i j,x=.str i/\y=.str j/\i.length+j.length<=sizeLine/\Q (.str (i++j)) H):=by intro p s c H x y v u Q I r R h;obtain⟨i,j,rfl,rfl,a,q⟩:=h;obtain⟨t,rfl⟩:=r;obtain⟨T,rfl⟩:=R;exact add_str (λT b=>⟨.str _,H,I.tok _,⟨_,rfl⟩,q⟩) a
theorem vals1{x:V}(r:Vals [x] us):∃u,us=[u]/\RelV x u:=by
 cases r with
 |cons a R=>cases R;simp_all
theorem vals2{x y:V}(r:Vals [x,y] us):∃u w,us=[u,w]/\RelV x u/\RelV y w:=by
 cases r with
 |cons b R=>
  cases R with
  |cons c a=>cases a;lia
theorem CK(b:X.calm=JK):a7 X (.builtin "max") (λxs H Q=>∃i j,xs=[.int i,.int j]/\Q (.int (if j>i then j else i)) H):=by
 intro p s e H xs U Q I r h;obtain⟨i,j,rfl,q⟩:=h;obtain⟨u,w,rfl,⟨t,rfl⟩,⟨T,rfl⟩⟩:=vals2 r;refine max_two_ints (I.ok.hd b) λc d k=>⟨_,H,I.kept k,?_,q⟩;by_cases a:j>i
 ·rw[if_pos a,if_pos a];exact⟨_,rfl⟩
 ·rw[if_neg a,if_neg a];exact⟨_,rfl⟩
theorem CL(b:X.calm=JK):a7 X (.builtin "min") (λxs H Q=>∃i j,xs=[.int i,.int j]/\Q (.int (if j<i then j else i)) H):=by
 intro p s e H xs U Q I r h;obtain⟨i,j,rfl,q⟩:=h;obtain⟨u,w,rfl,⟨t,rfl⟩,⟨T,rfl⟩⟩:=vals2 r;refine min_two_ints (I.ok.hd b) λc d k=>⟨_,H,I.kept k,?_,q⟩;by_cases a:j<i
 ·rw[if_pos a,if_pos a];exact⟨_,rfl⟩
 ·rw[if_neg a,if_neg a];exact⟨_,rfl⟩
theorem vD:a7 X (.type "int") (λxs H Q=>(∃i,xs=[.int i]/\Q (.int i) H)\/∃k,xs=[.bl k]/\Q (.int (if k then 1 else 0)) H):=by
 intro p s a H xs U Q I r h;rcases h with⟨i,rfl,q⟩| ⟨k,rfl,q⟩
 ·obtain⟨u,rfl,t,rfl⟩:=vals1 r;exact call_int_int ⟨.int i,H,I,⟨_,rfl⟩,q⟩
 ·obtain⟨u,rfl,R⟩:=vals1 r;cases R;exact call_int_bool ⟨.int _,H,I.tok _,⟨_,rfl⟩,q⟩
end
section
variable {x:JP}{mA:Mg}{v:JO}
end
section
variable {H H':Hp}{fs fs':List (Str×V)}
end
section
variable {X:Cx}{σ:St}{H:Hp}{fs:List (Str×V)}{f:Str}{v:V}
end
section
variable {X:Cx}{o value:Expr}{f:Str}{pos tpos:Pos}{ta tv:TE}
end
section
variable {X:Cx}{σ:St}{H:Hp}{c:JO}{b:Bool}
end
structure cL (k:Nat)(A:KI):Prop where
 hd:A.handled=none
 dp:A.depth+3*k+5<recursionLimit
 un:A.units+16*k+200<cLine
 gd:A.guards=some []
theorem cL.mono{j:Nat}(r:cL k A)(h:j<=k):cL j A:=⟨r.hd,by have:=r.dp;omega,by have:=r.un;omega,r.gd⟩
theorem cL.deeper(r:cL (k+1) A)(env:Env):cL k (A.deeper env):=
 ⟨r.hd,by have:=r.dp;show A.depth+1+3*k+5<_;omega,by have:=r.un;show A.units+3+16*k+200<_;omega,r.gd⟩
theorem cL.depth(r:cL k A):A.depth<recursionLimit:=by have:=r.dp;omega
theorem cL.units(r:cL k A):A.units+64<cLine:=by have:=r.un;omega
noncomputable def k9:TA:=λ_ H Q=>Q [] H
noncomputable def g0(t:TE)(T:TA):TA:=λσ H Q=>t σ H λx H1=>T σ H1 λxs H2=>Q (x::xs) H2
section
variable {X:Cx}{es:Lx}{te:TE}{t:TA}{pos:Pos}
theorem k_:PA X [] k9:=λ_ _ _ _ H Q I h=>MP ⟨_,H,I,.nil,h⟩
theorem la(c:PE X e te)(d:PA X es t)(f:starEach (e::es) X.env=(JL,eval e X.env)::starEach es X.env:=by rfl):PA X (e::es) (g0 te t):=by intro p P s j H Q I h;rw[f];show wpAny _ _ (spliced ((JL,eval e _)::backTo _ _)) _ _ s;exact MD (aX (c _ s _ H _ I h) λu S ⟨x,_,a,r,q⟩=>aX (d _ _ _ _ _ _ a q) λU i ⟨_,_,b,R,g⟩=>⟨_,_,b,.cons r R,g⟩)
noncomputable def CM(t:TA):TE:=λσ H Q=>t σ H λxs H1=>xs.length<=sizeLine/\∀p,H1 p=none->Q (.ref p) (a' H1 p (.tup xs))
noncomputable def CN(t:TA):TE:=λσ H Q=>t σ H λxs H1=>xs.length<=sizeLine/\∀p,H1 p=none->Q (.ref p) (a' H1 p (.lst xs))
theorem qu{x1}(h:PA X es t):PE X (.Tuple es x1 pos) (CM t):=by intro p s f H Q I d;refine wpAny_Tuple_spliced (aX (h _ _ s _ H _ I d) λU S ⟨_,_,a,r,z,q⟩=>⟨by rw[<-r.length];exact z,?_⟩);have c:=a.hok.fresh (Zl _);refine⟨.ref _,_,a.laid (λb u e=>Zb _ e) (Zl _) ?_,rfl,q _ c⟩;exact⟨z,_,r,⟨_,Zh _ rfl,rfl,_,rfl⟩,_,Zh _ rfl,rfl⟩
theorem qv(h:PA X es t):PE X (.List es pos) (CN t):=by intro p s f H Q I d;refine wpAny_List_spliced (aX (h _ _ s _ H _ I d) λU S ⟨_,_,a,r,z,q⟩=>⟨by rw[<-r.length];exact z,?_⟩);have c:=a.hok.fresh (Zl _);refine⟨.ref _,_,a.laid (λb u e=>Zb _ e) (Zl _) ?_,rfl,q _ c⟩;exact⟨z,_,0,r,Zh _ rfl⟩
end
abbrev Sp:=List V->Hp->VK->XK->Prop
abbrev dN:=List Env->Hp->JN->XK->Vs
structure qw (P:J8)(w:Ke)(K:Fg)(mg:Mg)(base:JU)(A:KI)(outer:List Env)(s:JN)(H:Hp):Prop where
 frames:A.frames=some outer
 mod:Mod K mg base
 bs:∀b o,base.get? b=some o->s.heap.get? b=some o/\H b=none
 bsz:base.objs.size<=s.heap.objs.size
 funs:s.heap.FunFrames base outer
 frf:∀b∈dM outer,H b=none
 hok:d_ P w H s.heap
 bare:Mf s.gens
def CE(o:List Env)(P:J8)(w:Ke)(H:Hp)(s:JN)(Q:VK)(u:JO)(S:JN):Prop:=
 ∃v H',S.os=s.os/\Mf S.gens/\Un (dM o) [] H H' s.heap S.heap/\d_ P w H' S.heap/\RelV v u/\Q v H'
def CR(CX:dN)(o:List Env)(P:J8)(w:Ke)(H:Hp)(s:JN)(Q:VK)(E:XK)(r:Ng)(S:JN):Prop:=
 match r with
 | .ok (.ret u)=>CE o P w H s Q u S
 | .ok _=>False
 | .error e=>CX o H s E e S
structure c0 (P:J8)(w:Ke)(K:Fg)(mg:Mg)(base:JU)(CX:dN)(k:Nat)(f:JP)(fd:KL)(ps:Ls)(sp:Sp):Prop where
 len:∀vs H Q E,sp vs H Q E->vs.length=ps.length
 run:∀(A:KI) (outer:List Env) (s:JN) (H:Hp) (args:Args) (us:Lv) (vs:List V) (Q:VK) (E:XK),cL k A->qw P w K mg base A outer s H->NR s fd args (ps.zip us)->Vals vs us->sp vs H Q E->
  codeAny (model P w) A (.call (.ref f) args) (CR CX outer P w H s Q E) s
theorem c0.mono{CX:dN}{j:Nat}{b:KL}{sp:Sp}(F:c0 P w K mg base CX j f b ps sp)(h:j<=k):
  c0 P w K mg base CX k f b ps sp:=⟨F.len,λA o s H a u vs Q E c=>F.run A _ s H _ _ _ Q E (c.mono h)⟩
theorem c0.imp{CX:dN}{b:KL}{sp S:Sp}(F:c0 P w K mg base CX k f b ps sp)
  (h:∀vs H Q E,S vs H Q E->sp vs H Q E):c0 P w K mg base CX k f b ps S:=
 ⟨λvs H Q E q=>F.len _ H Q E (h _ _ _ _ q),λA o s H a u vs Q E e d c i g=>F.run A _ s H _ _ _ Q E e d c i (h _ _ _ _ g)⟩
section
variable {X:Cx}{σ:St}{H:Hp}
theorem Inv.env0(I:Inv X pq σ H s):qw X.prog X.w X.K X.mg X.base X.A X.stack s H:=
 ⟨I.ok.frames,I.ok.mod,I.bs,ZD I.ok.bsz I.sz,I.stack,I.stkFree,I.hok,I.bare⟩
theorem Inv.after{Q:VK}(I:Inv X pq σ H s)(h:CE X.stack X.prog X.w H s Q u s'):EP X pq σ Q u s':=by obtain⟨v,c,O,B,un,a,r,q⟩:=h;obtain⟨e,g,d,t,o⟩:=s';obtain rfl:o=s.os:=O;exact⟨v,_,I.call un a B λb z=>absurd z (by simp),r,q⟩
end
noncomputable def vE(sp:Sp)(d:List V)(E:XK)(t:TA):TE:=λσ H Q=>t σ H λvs H1=>sp (vs++d) H1 Q E
def Binds(K:Fg)(f:KL)(ps:Ls)(ds:Lv):Prop:=
 ∀(s:JN) (us:Lv),K.In s.heap->(us++ds).length=ps.length->NR s f ⟨us,[]⟩ (ps.zip (us++ds))
theorem Binds.all{f:KL}(h:∀us:Lv,us.length=ps.length->bindArgs f ⟨us,[]⟩=pure (ps.zip us)):Binds K f ps []:=λs us _ H=>by rw[Z4]at H⊢;exact .of_eq (h _ H)
def lb(CX:dN)(X:Cx)(E:XK):Prop:=∀(pq:Lp) (σ:St) (H:Hp) (s:JN) (e:JO) (s':JN),Inv X pq σ H s->CX X.stack H s E e s'->X.xe e s'
section
variable {X:Cx}{CX:dN}{fd:KL}{sp:Sp}{dvs:List V}{ds:Lv}{E:XK}{x m:Str}{p pos:Pos}{o:Expr}{es:Lx}{ta:TE}{t:TA}
theorem qx{σ:St}{H:Hp}{Q:VK}{vs:List V}(F:c0 X.prog X.w X.K X.mg X.base CX k f fd ps sp)(g:cL k X.A)(c:Binds X.K fd ps ds)(d:Vals dvs ds)(i:lb CX X E)
  (I:Inv X pq σ H s) (r:Vals vs us) (h:sp (vs++dvs) H Q E):wpAny (model X.prog X.w) X.A (call (.ref f) us) (EP X pq σ Q) X.xe s:=by
 have R:=r.append d;refine NZ (Lg (F.run _ _ s H _ _ _ Q E g I.env0 (c s _ I.kIn (by rw[<-R.length];exact F.len _ _ _ _ h)) R h) λr S a=>?_);cases r with
 |error e=>exact i _ _ H s e _ I a
 |ok b=>
  cases b with
  |ret u=>exact I.after a
  |next=>exact False.elim a
  |brk=>exact False.elim a
  |cont=>exact False.elim a
theorem lc(F:c0 X.prog X.w X.K X.mg X.base CX k f fd ps sp)(o:cL k X.A)(l:Gl X x)(n:X.mg x=some (.ref f))(m:PySem.W.keepIn X.K (.ref f)=JK)(g:Binds X.K fd ps ds)(i:Vals dvs ds)(u:lb CX X E)
  (d:PA X (e::es) t) (a:(x==("__debug__":Str))=JL:=by decide) (j:starEach (e::es) X.env=(JL,eval e X.env)::starEach es X.env:=by rfl) (b:(backTo pos (starEach es X.env)).any (·.1)=JL:=by rfl):
  PE X (.Call (.Name x p) (e::es) [] pos) (vE sp dvs E t):=by
 intro P s v H Q I h;exact Kl (u8 I l n (PySem.W.callWith_K I.ok.mod.kin m (aX (d _ _ s _ H _ I h) λU S ⟨_,_,c,r,q⟩=>⟨c.kIn,qx F o g i u c r q⟩) j b) a)
end
section
variable {X:Cx}{CX:dN}{fd:KL}{ks:Ls}{sp:Sp}{E:XK}{x m:Str}{p pos kpos:Pos}{o:Expr}{es:Lx}{kws:List Keyword}{te ta:TE}{t tk:TA}{nm:Option Str}
variable {g:Lv->Lv->Lv}{gV:List V->List V->List V}
end
structure cl (N P:Ls)(sc:Scope):Prop where
 kind:sc.kind=.function
 co:sc.isCoroutine=JL
 gen:sc.isGenerator=JL
 nd:N.Nodup
 pre:N.take P.length=P
 par:∀x∈P,sc.names.lookup x=some .local\/sc.names.lookup x=some .cell
 nofree:∀y∈sc.names,y.2≠.free
theorem vF{kindOf:Str->Option Ku}{x:Str}:∀{binds:List (Str×JO)} {m:Mg},(∀v,(x,v)∉binds)->bindL kindOf binds m x=m x
 | [],_,_=>rfl
 | (n,v)::r,m,h=>by
  unfold bindL;rw[vF λw hw=>h w (Zc _ hw)];split
  ·grind
  ·rfl
theorem vG{kindOf:Str->Option Ku}{x:Str}:∀{binds:List (Str×JO)} {m:Mg},(∀v,(x,v)∉binds)->bindC kindOf binds m x=m x
 | [],_,_=>rfl
 | (n,v)::r,m,h=>by
  unfold bindC;rw[vG λw hw=>h w (Zc _ hw)];split
  ·rfl
  grind
theorem vH{kindOf:Str->Option Ku}{x:Str}{v:JO}:∀{P:Ls} {vs:Lv} {i:Nat} {m:Mg},P.Nodup->P[i]?=some x->vs[i]?=some v->kindOf x=some .local->
  bindL kindOf (P.zip vs) m x=some v
 | [],_,_,_,_,h,_,_=>by simp_all
 |_::_,[],_,_,_,_,h,_=>by simp_all
 |p::P,w::vs,0,m,n,H,a,b=>by simp at H a;subst H;subst a;show bindL _ ((p,w)::P.zip _) m p=_;unfold bindL;rw[vF λv c=>(Z3.mp n).1 (Nk c).1,if_pos b];simp
 |p::P,w::vs,i+1,m,n,H,a,b=>by unfold bindL;exact vH (Z3.mp n).2 (by simpa using H) (by simp_all) b
theorem vI{kindOf:Str->Option Ku}{x:Str}{v:JO}:∀{P:Ls} {vs:Lv} {i:Nat} {m:Mg},P.Nodup->P[i]?=some x->vs[i]?=some v->kindOf x≠some .local->
  bindC kindOf (P.zip vs) m x=some v
 | [],_,_,_,_,h,_,_=>by simp_all
 |_::_,[],_,_,_,_,h,_=>by simp_all
 |p::P,w::vs,0,m,n,H,a,b=>by simp at H a;subst H;subst a;show bindC _ ((p,w)::P.zip _) m p=_;unfold bindC;rw[vG λv c=>(Z3.mp n).1 (Nk c).1,if_neg b];simp
 |p::P,w::vs,i+1,m,n,H,a,b=>by unfold bindC;exact vI (Z3.mp n).2 (by simpa using H) (by simp_all) b
noncomputable def start(N:Ls)(vs:List V):St:=vs.map some++JQ (N.length-vs.length) none
noncomputable def gv(CX:dN)(P:J8)(w:Ke)(K:Fg)(mg:Mg)(base:JU)(N:Ls)(qual:Str)(scope:Scope)(f:JP)(cd:JO)(A:KI)(outer:List Env)(s:JN)(H:Hp)(E:XK):Cx where
 prog:=P
 w:=w
 K:=K
 mg:=mg
 base:=base
 A:=A.deeper (envOfC qual scope s.heap.objs.size f cd)
 N:=N
 s₀:=s
 H₀:=H
 env:=envOfC qual scope s.heap.objs.size f cd
 outer:=outer
 stack:=envOfC qual scope s.heap.objs.size f cd::outer
 ex:=[]
 calm:=JK
 fn:=λ_=>JK
 pn:=[]
 xe:=λe s'=>wpAny (model P w) (A.deeper (envOfC qual scope s.heap.objs.size f cd)) (leaving (envOfC qual scope s.heap.objs.size f cd) e) (λ_ s''=>CX outer H s E e s'') (λe' s''=>CX outer H s E e' s'') s'
theorem vJ{s:Scope}{x:Str}(h:s.names.lookup x=some .cell):∃c,(cellsFrom n s.names []).lookup x=some c:=by exact Lc.mp (PySem.W.cellsFrom_some _ n [] (.inl h))
theorem CO{CX:dN}{H:Hp}{E:XK}{vs:List V}
  (S:cl N ps scope) (C:A.handled=none) (a:qw P w K mg base A outer s H) (I:vs.length=ps.length) (r:Vals vs us)
  (x:InCallC s s.heap.objs.size (bindL (envOfC qual scope s.heap.objs.size f cd).kindOf (ps.zip us) λ_=>none) (cellsFrom (s.heap.objs.size+1) scope.names []) (bindC (envOfC qual scope s.heap.objs.size f cd).kindOf (ps.zip us) λ_=>none) s1):
  Inv (gv CX P w K mg base N qual scope f cd A outer s H E) [] (start N vs) H s1:=by
 have D:ps.length<=N.length:=by have:=Z5 K5 S.pre;rw[LH]at this;omega
 obtain⟨l,T,rfl,o⟩:=x.done;have n:∀b:JP,b∉(gv CX P w K mg base N qual scope f cd A outer s H E).ex:=λb z=>absurd (show b∈[]from z) (by simp)
 refine⟨⟨a.mod,S.kind,rfl,rfl,Zl _,λy z c l m=>?_,λy g=>?_,λy c _ h=>?_,λ_=>C,Around.frames_deeper a.frames,.inr ⟨rfl,rfl⟩,λb z=>absurd z (n b),a.bs,a.bsz,λb _ _=>n b,λb z=>absurd z (n b),a.funs,a.frf⟩,
  rfl,a.bare,Un.kept o,⟨_,x.toInCall.ns,λi y v l m F=>?_⟩,λy c h=>⟨_,x.cell y c h⟩,a.hok.fresh (Zl _),λy c h=>?_,λp d=>absurd (show p∈([])from d) (by simp),a.hok.kept o,?_⟩
 ·exact name_of_addr x.apart (ZC l) (ZC m)
 ·rcases g with g|g
  ·exact vJ g
  ·exact absurd rfl (S.nofree _ (ZC g))
 ·exact Lz (x.above y c (ZC h))
 ·have G:i<vs.length:=by
   unfold start at m
   grind
  have B:vs[i]?=some v:=by
   unfold start at m
   grind
  obtain⟨u,t,R⟩:=r.get B;have d:ps[i]?=some y:=by rw[<-S.pre,L9 (by omega)];exact l
  have j:ps.Nodup:=by rw[<-S.pre];exact S.nd.sublist (List.take_sublist _ _)
  refine⟨u,R,?_⟩;rcases S.par y (Zz d)with k|k
  ·exact .inl ⟨k,vH j d t k⟩
  ·obtain⟨c,e⟩:=vJ k;refine .inr ⟨.inl k,c,e,?_⟩;have q:=x.cell y c e;rw[vI j d t (by show scope.names.lookup y≠_;rw[k];decide)]at q;exact q
 ·exact a.hok.fresh (Lz (x.above y c (ZC h)))
 ·unfold start;show _=N.length;simp_all
theorem vK{CX:dN}{p:Arguments}{body:List Ly}{D kV:JO}{an:Option JP}
    {sp:Sp} (lk:K.lookup f=some ⟨oc,od,.func (PySem.W.fnOf name qual p body scope D kV doc pm an cdv ct),osl⟩) (j:PySem.W.codeIn K cdv qual=JK) (S:cl N ps scope)
  (len:∀vs H Q E,sp vs H Q E->vs.length=ps.length)
  (h:∀(A:KI) (outer:List Env) (s:JN) (H:Hp) (vs:List V) (Q:VK) (E:XK),cL k (A.deeper (envOfC qual scope s.heap.objs.size f cdv))->sp vs H Q E->
   ∃t,fP (gv CX P w K mg base N qual scope f cdv A outer s H E) body t/\t {nx:=λ_ H'=>Q .non H',rt:=Q} (start N vs) H):
  c0 P w K mg base CX (k+1) f (PySem.W.fnOf name qual p body scope D kV doc pm an cdv ct) ps sp:=by
 refine⟨len,λA outer s H z X vs Q E l g G r i=>?_⟩;have O:=len _ _ _ _ i;have m:=g.mod.kin.keeps λb o e=>(g.bs b o e).1;have L:=g.mod.nolimit.keeps λb o e=>(g.bs b o e).1
 have c:∀y∈ps.zip X,scope.names.lookup y.1=some _\/(scope.names.lookup y.1=some _/\((cellsFrom (s.heap.objs.size+1) _ []).lookup y.1).isSome=JK):=λ⟨n,v⟩ W=>by
  rcases S.par n (Nk W).1 with q|q
  ·exact .inl q
  ·exact .inr ⟨q,PySem.W.cellsFrom_some _ _ _ (.inl q)⟩
 refine codeAny_call_function l.depth (m _ _ lk) rfl S.co S.gen rfl (PySem.W.codeRec_of m j) (G _ _ _ _ ?_);refine wpAny_newFunctionEnv_cells S.kind c λC M Z x=>?_;subst M;refine⟨L.keeps x.toInCall.keep,codeAny_func ?_⟩;obtain⟨t,U,T⟩:=h A _ s H _ Q E (l.deeper _) i;have I:Inv (gv CX P w K _ _ N _ _ f _ A _ s H E) _ _ H _:=CO S l.hd g O r x;refine Kr (U _ _ _ H _ I T) (λF B d=>?_) λe B d=>d
 have fin:∀{a:St} {H':Hp} {v:V} {u:JO},Inv (gv CX P w K mg base N qual scope f cdv A _ s H E) [] a _ _->RelV v u->Q v H'->CE outer P w H s Q u B:=
  λ{a H' v u} J R q=>⟨v,_,J.os,J.bare,J.base,J.hok,R,q⟩
 cases F with
 |ret u=>obtain⟨v,a,H',J,R,q⟩:=d;exact fin J R q
 |next=>obtain⟨a,H',J,q⟩:=d;exact fin (v:=V.non) J rfl q
 |brk=>obtain⟨_,_,_,q⟩:=d;simp_all
 |cont=>obtain⟨_,_,_,q⟩:=d;simp_all
section
variable {X:Cx}{x:Str}{p pos:Pos}{es:Lx}{t:TA}{id T:String}{r:List V->Hp->VK->Prop}
noncomputable def CP(r:List V->Hp->VK->Prop)(t:TA):TE:=λσ H Q=>t σ H λvs H1=>r vs H1 Q
theorem CQ(f:a7 X (.builtin id) r)(i:Gl X x)(j:X.mg x=none)(l:bootBuiltins x=some (.builtin id))(d:PA X (e::es) t)(k:x≠"__name__":=by decide)(a:(x==("__debug__":Str))=JL:=by decide)
  (g:starEach (e::es) X.env=(JL,eval e X.env)::starEach es X.env:=by rfl) (b:(backTo pos (starEach es X.env)).any (·.1)=JL:=by rfl):PE X (.Call (.Name x p) (e::es) [] pos) (CP r t):=by
 intro P s m H Q I h;exact Kl (ea I i j l (Ln (aX (d _ _ s _ H _ I h) λu S ⟨_,_,c,R,q⟩=>f _ _ _ _ _ _ Q c R q) g b) k a)
theorem lf(f:a7 X (.type T) r)(i:Gl X x)(j:X.mg x=none)(l:bootBuiltins x=some (.type T))(d:PA X (e::es) t)(k:x≠"__name__":=by decide)(a:(x==("__debug__":Str))=JL:=by decide)
  (g:starEach (e::es) X.env=(JL,eval e X.env)::starEach es X.env:=by rfl) (b:(backTo pos (starEach es X.env)).any (·.1)=JL:=by rfl):PE X (.Call (.Name x p) (e::es) [] pos) (CP r t):=by
 intro P s m H Q I h;exact Kl (ea I i j l (Z1 (aX (d _ _ s _ H _ I h) λu S ⟨_,_,c,R,q⟩=>f _ _ _ _ _ _ Q c R q) g b) k a)
end
end L2
namespace HT
section
open PySem.SeqAt
open PySem.AutoSeq1 (wpAny_loadPart')
open PySem.MeetsSeq PySem.MeetsSeq2 PySem.MeetsSeq3
end
theorem lg{t b:JP}{vs W:Lv}(l:Ow s.heap t vs.toArray)(g:Ow s.heap b W.toArray)(p:vs≠[])
  (h1:W=[]->Q (.ref t) s) (o:W≠[]->Q (.ref s.heap.objs.size) {s with heap:=s.heap.push {cls:=.type "tuple",data:=.seq (vs++W).toArray}})
  (k:vs.length+W.length<=sizeLine):wpAny (model prog w) A (binaryOp .Add (.ref t) (.ref b)) Q E s:=by
 obtain⟨⟨cls,m,d,sl⟩,H,i,n,j⟩:=id l;obtain⟨⟨C,f,D,S⟩,h,a,N,c⟩:=id g;subst i j a c;by_cases hw:W=[]
 ·exact OG ⟨_,H,rfl⟩ ⟨_,h,rfl⟩ NA Og PySem.F.slot_tuple_add PySem.F.entry_tuple_add (PySem.F.args_tuple_add_2 _ _)
   (tuple_addW1 t b _ _ n _ _ _ _ _ (by simp_all) (by simp_all)) ⟨H,h,h1 hw⟩
 ·refine OG ⟨_,H,rfl⟩ ⟨_,h,rfl⟩ NA Og PySem.F.slot_tuple_add PySem.F.entry_tuple_add (PySem.F.args_tuple_add_2 _ _)
   (tuple_addW2 t b _ _ n _ _ _ _ _ (by simp_all) (by simp_all) (by simp_all)) ⟨H,h,?_⟩
  simp_all
noncomputable def bZ(n d:Nat):Option Int->Nat
 |none=>d
 |some v=>if v<0 then(v+(n:Int)).toNat else min v.toNat n
theorem vL(v:Int)(n d:Nat):(if v<0 then max (v+(n:Int)) 0 else min v (n:Int))=((bZ n d (some v):Nat):Int):=by
 show(if v<0 then max _ 0 else min v _)=((if v<0 then(v+(n)).toNat else min _ n):Nat)
 grind
theorem CU(l h:Option Int)(n:Nat):MK l h 1 (n:Int)=(((bZ n 0 l:Nat):Int),((bZ n n h:Nat):Int)):=by
 refine Prod.ext ?_ ?_
 ·cases l with
  |none=>rfl
  |some v=>exact vL v n 0
 ·cases h with
  |none=>rfl
  |some v=>exact vL v n n
theorem CV(i j:Nat):LI (i:Int) (j:Int) 1=j-i:=by
 unfold LI
 grind
theorem vM{v:JO}{o:Option Int}{Q:Option Int->JN->Prop}(p:MQ v o)(h:Q o s):wpAny (model prog w) A (Builtin.Slice.slicePartIndex v) Q E s:=by
 cases p with
 |none=>exact slicePart_none h
 |int i t=>exact slicePart_int h
theorem vN{l:Option Int}{Q:Int×Int×Nat->JN->Prop}(c:s.heap.IsSliceOf sl vl vu .none)(p:MQ vl l)(P:MQ vu hi)
  (h:Q (((bZ n 0 l:Nat):Int),1,bZ n n hi-bZ n 0 l) s):wpAny (model prog w) A (Builtin.Slice.sliceApplied (.ref sl) (pure (n:Int))) Q E s:=by
 obtain⟨o,a,b,H⟩:=id c;refine Za (Za (ZY a H rfl (Za (ZY a H rfl (Za (ZY a H rfl (Zd ?_)))))));refine Za (slicePart_none ?_);refine Za (vM p (Za (vM P (Za (Zd ?_)))));show wpAny _ _ (match MK _ _ 1 n with| (l,hi)=>pure (l,(1:Int),LI l hi 1)) _ _ s;rw[CU _ _ n];show wpAny _ _ (pure _) _ _ s;rw[CV];exact Zd h
theorem CW(xs:Av)(i k:Nat):((JM k).filterMap λ(m:Nat)=>xs[((i:Int)+(m:Int)*1).toNat]?).toArray=((xs.toList.drop i).take k).toArray:=by
 have e:(λ(m:Nat)=>xs[((i:Int)+m*1).toNat]?)=λm=>xs[i+m]? :=by
  grind
 have:=pick_run xs i k;have E:((λx=>xs[x]?)∘λx=>i+x)=λm=>xs[i+m]? :=rfl;simp_all
theorem CY{t:JP}{l:Option Int}(a:Ow s.heap t items)(e:s.heap.IsSliceOf sl vl vu .none)(p:MQ vl l)(P:MQ vu hi)
  (hw:¬(bZ items.size 0 l=0/\bZ items.size items.size hi=items.size))
  (h:Q (.ref s.heap.objs.size) {s with heap:=s.heap.push {cls:=.type "tuple",data:=.seq ((items.toList.drop (bZ items.size 0 l)).take (bZ items.size items.size hi-bZ items.size 0 l)).toArray}})
  (g:items.size<=sizeLine):wpAny (model prog w) A (getItem (.ref t) (.ref sl)) Q E s:=by
 have H:=by
  show((items.toList.drop (bZ items.size 0 l)).take (bZ items.size items.size hi-bZ items.size 0 l)).toArray.size<=sizeLine
  grind
 obtain⟨o,c,b,f⟩:=id e;unfold getItem
 try with_reducible refine ZU ?_
 refine Za (wpAny_sequenceKey a.typeIs (by decide) ?_)
 refine Za (ZV a.typeIs Kx
  (ZQ Kx a.typeIs entry_tuple_getitem ?_ (args_tuple_getitem _ _)))
 show wpAny _ _ (ME (.ref t)>>=_) _ _ s;refine Za (tupleItemsOf_ a ?_);refine Za (Mt ⟨o,c,b⟩ ?_);refine Za (vN e p P ?_);show wpAny _ _ (if(((bZ _ 0 l:Nat):Int)==0&&(1:Int)==1&&(bZ _ items.size hi-bZ items.size 0 l)==items.size)=JK then _ else _) _ _ s;rw[if_neg (by simp_all),CW]
 first
  |exact Za (Yf (Zd ⟨_,rfl,Zd h⟩) H)
  |simp_all
  |simp_all
  |simp_all
end HT
namespace L2
abbrev TO:=St->Hp->(Option Int->Hp->Prop)->Prop
def PO(X:Cx)(e:Option Expr)(t:TO):Prop:=
 ∀(pq:Lp) (s:JN) (σ:St) (H:Hp) (Q:Option Int->Hp->Prop),Inv X pq σ H s->t σ H Q->
  wpAny (model X.prog X.w) X.A (evalPart e X.env) (λu s'=>∃o H',Inv X pq σ H' s'/\MQ u o/\Q o H') X.xe s
noncomputable def lh:TO:=λ_ H Q=>Q none H
noncomputable def vO(t:TE):TO:=λσ H Q=>t σ H λx H1=>∃i,x=.int i/\Q (some i) H1
theorem qy:∀{us:Lv},Vals (ns.map V.int) us->M0 us ns:=by
 induction ns with
 |nil=>intro us r;cases r;exact .nil
 |cons n ns i=>
  intro us r;cases r with
  |cons R a=>obtain⟨t,e⟩:=R;subst e;exact .cons n t (i a)
section
variable {X:Cx}{te:TE}{lo hi:Option Expr}{tl th:TO}{pos:Pos}
theorem li:PO X none lh:=by intro p s a H Q I h;exact Zd ⟨_,H,I,.none,h⟩
theorem lj(h:PE X e te):PO X (some e) (vO te):=by intro p s c H Q I hw;refine aX (h _ s _ H _ I hw) λu S ⟨x,_,a,r,b⟩=>?_;obtain⟨i,rfl,q⟩:=b;obtain⟨t,rfl⟩:=r;exact⟨_,_,a,.int i t,q⟩
def BM(X:Cx)(r:V->Option Int->Option Int->Hp->VK->Prop):Prop:=
 ∀(pq:Lp) (s:JN) (σ:St) (H:Hp) (x:V) (v vl vu:JO) (lo hi:Option Int) (sl:JP) (Q:VK),Inv X pq σ H s->RelV x v->s.heap.IsSliceOf sl vl vu .none->MQ vl lo->MQ vu hi->r x lo hi H Q->
  ∃T id,typeLookup (.type T) "__getitem__"=pure (some (.builtin id))/\s.TypeIs v T/\wpAny (model X.prog X.w) X.A (getItem v (.ref sl)) (EP X pq σ Q) X.xe s
noncomputable def Jz(r:V->Option Int->Option Int->Hp->VK->Prop)(t:TE)(b T:TO):TE:=λσ H Q=>t σ H λx H1=>b σ H1 λl H2=>T σ H2 λu a=>r x l u a Q
theorem CZ{r:V->Option Int->Option Int->Hp->VK->Prop}(n:BM X r)(j:PE X e te)(m:PO X lo tl)(p:PO X hi th):PE X (.Subscript e (.Slice lo hi none p2) pos) (Jz r te tl th):=by intro C s F H Q I h;refine Subscript_ (aX (j _ s _ H _ I h) λv D ⟨x,_,c,R,w⟩=>?_);refine wpAny_Slice (aX (m _ _ _ _ _ c w) λA E ⟨l,_,d,P,y⟩=>aX (p _ _ _ _ _ d y) λB S ⟨u,_,f,t,z⟩=>?_);refine Zd ?_;have g:Inv X _ _ _ {S with heap:=S.heap.push {cls:=.type "slice",data:=.fields #[A,B,.none]}}:=f.kept λb O q=>Zb _ q;obtain⟨T,id,i,o,k⟩:=n _ _ _ _ x v _ _ l u _ Q g R (Heap.IsSliceOf.new ..) P t z;exact tail_any o i k rfl
noncomputable def hX(xs:List V)(l h:Option Int):List V:=(xs.drop (HT.bZ xs.length 0 l)).take (HT.bZ xs.length xs.length h-HT.bZ xs.length 0 l)
theorem vP(xs:List V)(l h:Option Int):(hX xs l h).length<=xs.length:=by unfold hX;rw[LH,List.length_drop];omega
def C0(K:Fg):V->Option Int->Option Int->Hp->VK->Prop:=λx lo hi H Q=>∃a xs,x=.ref a/\cB K H a xs/\
 ¬(HT.bZ xs.length 0 lo=0/\HT.bZ xs.length xs.length hi=xs.length)/\∀p,H p=none->Q (.ref p) (a' H p (.tup (hX xs lo hi)))
theorem qA:BM X (C0 X.K):=by
 intro m s t H x v V n l k sl Q I R e p P h;obtain⟨a,j,rfl,f,hw,q⟩:=h;cases R;obtain⟨i,r,d,g⟩:=I.tuple f;have c:i.toArray.size=j.length:=by exact r.length.symm
 refine⟨_,_,PyProof.Rows.slot_tuple_getitem.lookup,d.typeIs,?_⟩;refine HT.CY d e p P (by lia) ?_ (by lia);rw[c];refine⟨.ref _,_,I.laid (λb o q=>Zb _ q) (Zl _) ?_,rfl,q _ (I.hok.fresh (Zl _))⟩;exact⟨ZD (vP _ _ _) g,_,(r.drop _).take _,OH _ _,uO.new _ _⟩
noncomputable def vQ(K:Fg):R2:=λx y H Q=>∃a b xs ys,x=.ref a/\y=.ref b/\cB K H a xs/\cB K H b ys/\xs≠[]/\xs.length+ys.length<=sizeLine/\
 (ys=[]->Q (.ref a) H)/\(ys≠[]->∀p,H p=none->Q (.ref p) (a' H p (.tup (xs++ys))))
theorem Vals.nil_iff{xs:List V}(r:Vals xs us):us=[]↔xs=[]:=by
 cases r with
 |nil=>simp
 |cons _ _=>simp
theorem ll:cZ X (binaryOp .Add) (vQ X.K):=by intro n s A H x y v u Q I l m h;obtain⟨a,b,t,Y,rfl,rfl,c,d,e,f,j,k⟩:=h;cases l;cases m;obtain⟨g,R,p,_⟩:=I.tuple c;obtain⟨i,r,P,_⟩:=I.tuple d;refine HT.lg p P (λz=>e (R.nil_iff.mp z)) (λz=>⟨.ref a,H,I,rfl,j (r.nil_iff.mp z)⟩) (λz=>?_) (by rw[<-R.length,<-r.length];exact f);refine⟨.ref _,_,I.laid (λb o q=>Zb _ q) (Zl _) ?_,rfl,k (λw=>z (r.nil_iff.mpr w)) _ (I.hok.fresh (Zl _))⟩;exact⟨by simp_all,_,R.append r,OH _ _,uO.new _ _⟩
end
noncomputable def fk(n:Nat)(i:Int):Option Nat:=if 0<=i then(if i<n then some i.toNat else none)else if-(n:Int)<=i then some (i+n).toNat else none
noncomputable def eD{a:Type}(xs:List a)(i:Int):Option a:=(fk xs.length i).bind λj=>xs[j]?
theorem qB{i:Int}{j:Nat}(h:fk n i=some j):seqIndex? i n=some j/\j<n/\ -(n:Int)<=i/\i<n:=by
 unfold fk at h;by_cases a:0<=i
 ·rw[if_pos a]at h;by_cases H:i<n
  ·rw[if_pos H]at h;have e:=K4 h;exact⟨by rw[seqIndex_of a H,e],by omega,by omega,H⟩
  simp_all
 ·rw[if_neg a]at h;by_cases H: -n<=i
  ·rw[if_pos H]at h;have e:=K4 h;exact⟨by rw[OI (by omega) H,e],by omega,H,by omega⟩
  simp_all
theorem vR{xs:List α}{i:Int}{v:α}(h:eD xs i=some v):∃j,seqIndex? i xs.length=some j/\xs[j]?=some v/\j<xs.length/\ -(xs.length:Int)<=i/\i<xs.length:=by
 unfold eD at h;cases e:fk xs.length i with
 |none=>simp_all
 |some j=>rw[e]at h;obtain⟨H,a,b,c⟩:=qB e;exact⟨j,H,h,a,b,c⟩
def vS(b:Expr):Prop:=∀o i,subscripted b JL o i=operate [o,i] (getItem o i)
def BN(X:Cx)(r:R2):Prop:=
 ∀(value S:Expr) (pq:Lp) (s:JN) (σ:St) (H:Hp) (x y:V) (v u:JO) (Q:VK),Inv X pq σ H s->RelV x v->RelV y u->r x y H Q->
  subscripted S JL v u=operate [v,u] (getItem v u)->wpAny (model X.prog X.w) X.A (subscriptTail value S v u) (EP X pq σ Q) X.xe s
def qC(X:Cx)(id:String)(r:V->List V->Hp->VK->Prop):Prop:=
 ∀(pq:Lp) (s:JN) (σ:St) (H:Hp) (x:V) (xs:List V) (v:JO) (us:Lv) (Q:VK),Inv X pq σ H s->RelV x v->Vals xs us->r x xs H Q->
  wpAny (model X.prog X.w) X.A (call (.builtin id) (v::us)) (EP X pq σ Q) X.xe s
section
variable {X:Cx}{a b:Expr}{ta tb:TE}{pos:Pos}
theorem vT{r:R2}(f:BN X r)(d:PE X a ta)(e:PE X b tb)(g:vS b):PE X (.Subscript a b pos) (BL r ta tb):=by intro p s k H Q I h;exact Subscript_ (qf d e I h λv u S x y j c R i q=>f a b _ _ _ _ x y v u Q c R i q (g _ _))
noncomputable def C1(K:Fg):R2:=λx y H Q=>∃p xs i v,x=.ref p/\y=.int i/\c9 K H p xs/\eD xs i=some v/\Q v H
noncomputable def C2(K:Fg):R2:=λx y H Q=>∃p xs i v,x=.ref p/\y=.int i/\cB K H p xs/\eD xs i=some v/\Q v H
theorem lm:BN X (C1 X.K):=by
 intro V S F s J H x y v u Q I n o h d;obtain⟨p,G,i,z,rfl,rfl,m,k,q⟩:=h;cases n;obtain⟨t,rfl⟩:=o;obtain⟨a,r,P,D⟩:=I.list m;obtain⟨j,c,e,A,f,g⟩:=vR k;obtain⟨w,E,R⟩:=r.get e;have B:=r.length;have C:=hW;have fin:EP X _ _ Q w s:=⟨z,H,I,R,q⟩;by_cases b:0<=i
 ·have l:i.toNat=j:=by
   rw[seqIndex_of b g]at c;simp_all
  exact item_listR P.isList b (by omega) (by simp_all) fin d
 ·have l:(i+a.toArray.size).toNat=j:=by
   rw[OI (by omega) f]at c;simp_all
  exact OJ P.isList.typeIs slot_list_getitem.lookup
   (wpAny_getItem_list_neg P.isList (by omega) (by simp_all) (by omega) (by simp_all) ⟨rfl,fin⟩) d
theorem qD:BN X (C2 X.K):=by
 intro V S C s F H x y v u Q I f g h d;obtain⟨p,D,i,z,rfl,rfl,c,b,q⟩:=h;cases f;obtain⟨t,rfl⟩:=g;obtain⟨e,r,P,B⟩:=I.tuple c;obtain⟨j,k,a,l,m,n⟩:=vR b;obtain⟨w,E,R⟩:=r.get a;have o:=r.length;have A:=hW;have fin:EP X _ _ Q w s:=⟨z,H,I,R,q⟩
 exact OJ P.typeIs slot_tuple_getitem.lookup
  (getItem_tuple (j:=j) P (by omega) (by omega) (by simp_all) (by simp_all) ⟨rfl,fin⟩) d
theorem C3(its:Lv)(n j:Nat)(u:JO):JY (·.setIfInBounds j u) {cls:=.type "list",data:=.seq its.toArray n}={cls:=.type "list",data:=.seq (its.set j u).toArray n}:=by simp[JY]
theorem Inv.lst{σ:St}{H:Hp}{p:JP}{xs:List V}(I:Inv X pq σ H s)(h:H p=some (.lst xs)):
  ∃(its:Lv) (n:Nat),Vals xs its/\s.heap.get? p=some {cls:=.type "list",data:=.seq its.toArray n}/\xs.length<=sizeLine:=by
 obtain⟨z,its,n,r,e⟩:=I.hok p _ h;exact⟨_,n,r,e,z⟩
theorem Inv.lstUpd{σ:St}{H:Hp}{p:JP}{xs y:List V}{its i:Lv}{n N:Nat}{f:Obj->Obj}(I:Inv X pq σ H s)(h:H p=some (.lst xs))
  (g:s.heap.get? p=some {cls:=.type "list",data:=.seq its.toArray n}) (c:f {cls:=.type "list",data:=.seq its.toArray n}={cls:=.type "list",data:=.seq i.toArray N}) (r:Vals y i) (j:y.length<=sizeLine) (t:Nat):
  Inv X pq σ (a' H p (.lst y)) {s with heap:=s.heap.update p f,toks:=t}:=by
 have e:(s.heap.update p f).get? p=some {cls:=.type "list",data:=.seq i.toArray N}:=by rw[Z8 f g (by rw[c]<;>rfl),c]
 refine I.write (by rw[h];trivial) (.inl rfl) (λb u d q=>(ZO _ _ (Ne.symm d)).trans q) ⟨_,e⟩ ?_;exact⟨j,_,_,r,e⟩
def vU:V->V->V->Hp->(Hp->Prop)->Prop:=λo i v H Q=>∃p xs k j,o=.ref p/\i=.int k/\H p=some (.lst xs)/\fk xs.length k=some j/\Q (a' H p (.lst (xs.set j v)))
theorem C4:p_ X vU:=by
 intro P s F H o i v O D u Q I x R y h;obtain⟨p,E,k,j,rfl,rfl,g,w,q⟩:=h;cases x;obtain⟨t,rfl⟩:=R;obtain⟨c,n,r,b,C⟩:=I.lst g;obtain⟨f,z,l,m⟩:=qB w;have A:=r.length;have B:=hW
 have d:=
  I.lstUpd g b (C3 _ n j u) (r.set y j) (by simp_all) s.toks
 by_cases e:0<=k
 ·have a:k.toNat=j:=by
   rw[seqIndex_of e m]at f;simp_all
  exact PySem.W.ki_setAt b e (by omega) (by simp_all) (by rw[a];exact⟨_,d,q⟩)
 ·have a:(k+c.toArray.size).toNat=j:=by
   rw[OI (by omega) l]at f;simp_all
  exact PySem.W.ki_setBack b (by omega) (by simp_all) (by omega) (by rw[a];exact⟨_,d,q⟩)
theorem C5(l H:Option Int)(n:Nat):(sliceBounds l H none n).1=((HT.bZ n 0 l:Nat):Int)/\(sliceBounds l H none n).2.1=((HT.bZ n n H:Nat):Int)/\(sliceBounds l H none n).2.2=1:=by
 refine⟨?_,?_,rfl⟩
 ·cases l with
  |none=>simp[sliceBounds,HT.bZ]
  |some i=>
   simp only[sliceBounds,HT.bZ,Ox,show(1:Int)>0 by decide,if_true];by_cases h:i<0
   ·simp only[h,if_true]<;>omega
   ·simp only[h,if_false]<;>omega
 ·cases H with
  |none=>simp[sliceBounds,HT.bZ]
  |some i=>
   simp only[sliceBounds,HT.bZ,Ox,show(1:Int)>0 by decide,if_true];by_cases h:i<0
   ·simp only[h,if_true]<;>omega
   ·simp only[h,if_false]<;>omega
theorem C6(its:Lv)(l h:Option Int):slicePick its.toArray l h none=((its.drop (HT.bZ its.length 0 l)).take (HT.bZ its.length its.length h-HT.bZ its.length 0 l)).toArray:=by obtain⟨H,a,b⟩:=C5 _ _ _;unfold slicePick;rw[H,a,b];simp only[sliceRange_one,pick_run]<;>rfl
def C7(K:Fg):V->Option Int->Option Int->Hp->VK->Prop:=λx lo hi H Q=>∃a xs,x=.ref a/\c9 K H a xs/\∀p,H p=none->Q (.ref p) (a' H p (.lst (hX xs lo hi)))
theorem ln:BM X (C7 X.K):=by intro k s t H x v V m l j sl Q I R e p P h;obtain⟨a,n,rfl,f,q⟩:=h;cases R;obtain⟨i,r,d,g⟩:=I.list f;have c:=r.length;refine⟨_,_,slot_list_getitem.lookup,d.isList.typeIs,?_⟩;refine wpAny_getItem_list_slice d.isList e p P .none (by simp) ?_ (by simp_all);rw[C6,<-c];refine⟨.ref _,_,I.laid (λb o q=>Zb _ q) (Zl _) ?_,rfl,q _ (I.hok.fresh (Zl _))⟩;exact⟨ZD (vP _ _ _) g,_,0,(r.drop _).take _,Zh _ rfl⟩
theorem C8:a7 X (.builtin "len") (λxs H Q=>∃p ys,xs=[.ref p]/\(c9 X.K H p ys\/cB X.K H p ys)/\Q (.int ys.length) H):=by
 intro f s g H xs U Q I r h;obtain⟨p,ys,rfl,b,q⟩:=h;obtain⟨u,rfl,d⟩:=vals1 r;cases d;have e:=hW;rcases b with b|b
 ·obtain⟨i,R,P,c⟩:=I.list b;have a:=R.length;exact Calls.call_len_list P.isList (by grind) ⟨.int _,H,I.tok _,⟨s.toks+1,by simp_all⟩,q⟩
 ·obtain⟨i,R,P,c⟩:=I.tuple b;have a:=R.length;exact len_tuple P (by grind) ⟨.int _,H,I.tok _,⟨s.toks+1,by simp_all⟩,q⟩
theorem C9:a7 X (.builtin "len") (λxs H Q=>∃z,xs=[.str z]/\z.length<=sizeLine/\Q (.int z.length) H):=by intro p s c H xs U Q I r h;obtain⟨z,rfl,b,q⟩:=h;obtain⟨u,rfl,t,rfl⟩:=vals1 r;have a:=hW;exact len_str (by omega) ⟨.int _,H,I.tok _,⟨_,rfl⟩,q⟩
theorem vV:a7 X (.type "tuple") (λxs H Q=>∃p ys,xs=[.ref p]/\((c9 X.K H p ys/\∀l,H l=none->Q (.ref l) (a' H l (.tup ys)))\/(cB X.K H p ys/\Q (.ref p) H))):=by
 intro n s v H xs U Q I r h;obtain⟨p,ys,rfl,h⟩:=h;obtain⟨u,rfl,j⟩:=vals1 r;cases j;rcases h with⟨a,q⟩| ⟨a,q⟩
 ·obtain⟨i,R,P,f⟩:=I.list a;have d:=R.length;refine call_tuple_list P.isList (λm k=>?_) (by simp_all);have c:=I.kept (t':=s.toks) k
  have g:=
   c.laid (t':=s.toks) (λb o e=>Zb _ e) (Zl _) (show bv _ _ _ _ _ (.tup _)from⟨f,_,R,OH _ _,uO.new _ _⟩)
  exact⟨.ref _,_,g,rfl,q _ (c.hok.fresh (Zl _))⟩
 ·obtain⟨i,R,P,f⟩:=I.tuple a;exact call_tuple_same P ⟨.ref p,H,I,rfl,q⟩
def vW(K:Fg)(T:String)(x:V)(H:Hp):Prop:=match x with
 | .str _=>T="str"
 | .int _=>T="int"
 | .ref p=>(T="list"/\∃xs,c9 K H p xs)\/(T="tuple"/\∃o,K.lookup p=some o/\o.cls=.type "tuple"/\o.dict=none)\/
   (T="dict"/\((∃k,H p=some (.dK k))\/∃k,H p=some (.dT k)))\/(T="set"/\∃S n,H p=some (.set S n))
 |_=>False
theorem iS{σ:St}{H:Hp}{T:String}{x:V}{v:JO}(I:Inv X pq σ H s)(r:RelV x v)(ty:vW X.K T x H):
  s.TypeIs v T/\∀a,v=.ref a->∃ob,s.heap.get? a=some ob/\ob.dict=none:=by
 cases x with
 |str z=>
  obtain⟨t,rfl⟩:=r;cases show T="str" from ty
  exact⟨typeIs_str s z t,λ_ e=>nomatch e⟩
 |int i=>
  obtain⟨t,rfl⟩:=r;cases show T="int" from ty
  exact⟨typeIs_int s i t,λ_ e=>nomatch e⟩
 |ref p=>
  cases r;rcases ty with⟨rfl,l,g⟩| ⟨rfl,o,h,f,d⟩| ⟨rfl,h⟩| ⟨rfl,S,n,h⟩
  ·obtain⟨j,_,P,_⟩:=I.list g;refine⟨P.isList.typeIs,λa e=>?_⟩;obtain⟨o,n,e,c,d,_⟩:=P;simp_all
  ·refine⟨⟨o,I.kIn p o h,f⟩,λa e=>?_⟩;cases e;exact⟨o,I.kIn _ o h,d⟩
  ·have z:∃o,s.heap.get? p=some o/\o.ExactDict:=by
    rcases h with⟨k,h⟩| ⟨k,h⟩
    ·obtain⟨_,_,_,_,o,_,_,e,E,_⟩:=I.hok p _ h;simp_all
    ·obtain⟨_,_,_,_,o,_,_,e,E,_⟩:=I.hok p _ h;simp_all
   obtain⟨o,e,E⟩:=z;refine⟨⟨o,e,E.1⟩,λa b=>?_⟩;cases b;exact⟨o,e,E.2.1⟩
  ·obtain⟨o,_,_,_,e,E,_⟩:=I.hok p _ h;refine⟨⟨o,e,E.1⟩,λa b=>?_⟩;cases b;exact⟨o,e,E.2.1⟩
 |_=>exact False.elim ty
noncomputable def C_(K:Fg)(T:String)(r:V->List V->Hp->VK->Prop)(to:TE):TE:=λσ H Q=>to σ H λx H1=>vW K T x H1/\r x [] H1 Q
noncomputable def JA(K:Fg)(T:String)(r:V->List V->Hp->VK->Prop)(to:TE)(t:TA):TE:=λσ H Q=>to σ H λx H1=>vW K T x H1/\t σ H1 λxs H2=>r x xs H2 Q
variable {o:Expr}{es:Lx}{to:TE}{t:TA}{cpos:Pos}{T id:String}{r:V->List V->Hp->VK->Prop}
theorem qE(p:PlainAttrs T)(S:Slot T name id)(c:typeOf (.builtin id)=pure (.type "method_descriptor"))(g:qC X id r)(i:PE X o to)
  (a:attributeBase o name X.env (eval o X.env)=eval o X.env:=by rfl) (b:(apos.endLine==cpos.line)=JK:=by rfl):PE X (.Call (.Attribute o name apos) [] [] cpos) (C_ X.K T r to):=by
 intro P s k H Q I h;refine wpAny_Call_method0_late a b (aX (i _ s _ H _ I h) λv j ⟨x,_,d,R,ty,q⟩=>?_);obtain⟨e,f⟩:=iS d R ty;exact⟨T,_,p,S,c,e,f,NM rfl (PySem.evalArgs_none (g _ _ _ _ x _ v _ Q d R .nil q))⟩
theorem vX(P:PlainAttrs T)(S:Slot T name id)(f:typeOf (.builtin id)=pure (.type "method_descriptor"))(n:qC X id r)(p:PE X o to)(m:PA X (e::es) t)
  (a:attributeBase o name X.env (eval o X.env)=eval o X.env:=by rfl)
  (c:((backTo cpos (starEach (e::es) X.env)).all (λx=> !x.1)&&(backToKw cpos (keywordEach [] X.env)).all (λx=>x.1.isSome)
   &&decide ((e::es).length+([]:List Keyword).length+(if([]:List Keyword).isEmpty then 0 else 1)<30))=JK:=by rfl)
  (b:(apos.endLine==cpos.line)=JK:=by rfl) (q:starEach (e::es) X.env=(JL,eval e X.env)::starEach es X.env:=by rfl) (d:(backTo cpos (starEach es X.env)).any (·.1)=JL:=by rfl):
  PE X (.Call (.Attribute o name apos) (e::es) [] cpos) (JA X.K T r to t):=by
 intro z s C H Q I h;refine wpAny_Call_method_late a c b rfl (aX (p _ s _ H _ I h) λv A ⟨x,_,g,R,ty,u⟩=>?_);obtain⟨k,l⟩:=iS g R ty;refine⟨T,_,P,S,f,k,l,?_⟩;have i:=m cpos _ _ _ _ _ g u;rw[q]at i⊢;exact NM (by grind) (Calls.evalArgs_plain (aX i λU B ⟨_,_,j,y,w⟩=>n _ _ _ _ x _ v _ Q j R y w))
end
def BO(X:Cx)(id:String)(r:V->List V->Hp->VK->Prop):Prop:=
 ∀(pq:Lp) (s:JN) (σ:St) (H:Hp) (x:V) (xs:List V) (v:JO) (us:Lv) (Q:VK),Inv X pq σ H s->RelV x v->Vals xs us->r x xs H Q->
  wpAny (model X.prog X.w) X.A (call (.builtin id) (v::us)) (EP X pq σ Q) X.xe s
theorem Vals.un{x:V}{xs:List V}(h:Vals (x::xs) us):∃u r,us=u::r/\RelV x u/\Vals xs r:=by
 cases h with
 |cons r t=>lia
theorem Vals.nul(h:Vals [] us):us=[]:=by cases h;rfl
theorem Vals.one{x:V}(h:Vals [x] us):∃u,us=[u]/\RelV x u:=by obtain⟨u,r,rfl,a,H⟩:=h.un;cases H.nul;lia
theorem Vals.two{x y:V}(h:Vals [x,y] us):∃u v,us=[u,v]/\RelV x u/\RelV y v:=by obtain⟨u,r,rfl,a,H⟩:=h.un;obtain⟨v,rfl,b⟩:=H.one;lia
theorem Vals.zero:∀{us:Lv},Vals [] us->us=[]
 |_,.nil=>rfl
theorem Vals.dropLast{xs:List V}(h:Vals xs us):Vals xs.dropLast us.dropLast:=by
 induction h with
 |nil=>exact .nil
 |cons r t i=>
  cases t with
  |nil=>exact .nil
  |cons q T=>exact .cons r i
theorem Vals.eraseIdx:∀{xs:List V} {us:Lv} (i:Nat),Vals xs us->Vals (xs.eraseIdx i) (us.eraseIdx i)
 |_,_,_,.nil=>.nil
 |_,_,0,.cons _ t=>t
 |_,_,i+1,.cons r t=>.cons r (Vals.eraseIdx i t)
theorem Vals.rep{xs:List V}(h:Vals xs us):∀k:Nat,Vals (JQ k xs).flatten (JQ k us).flatten
 |0=>.nil
 |k+1=>by exact Vals.append h (Vals.rep h k)
theorem vY{a:Type}:∀(l:List a) (i:Nat),(l.eraseIdx i).length<=l.length
 | [],_=>Zl _
 |_::_,0=>Nat.le_succ _
 |_::r,i+1=>Nat.succ_le_succ (vY r i)
theorem vZ(its:Lv):∀(k:Nat) (acc:Lv),
  List.foldl (λx1 x2=>x1++x2) acc.toArray (JQ k its.toArray)=(acc++(JQ k its).flatten).toArray
 |0,acc=>by simp
 |k+1,acc=>by
  have e:acc.toArray++its.toArray=(acc++its).toArray:=by simp
  have E:acc++its++(JQ k its).flatten=acc++(JQ (k+1) its).flatten:=by grind
  rw[<-E,<-vZ _ k _,<-e,LU,LQ]
section
variable {X:Cx}{σ:St}{H:Hp}{l b:JP}{xs ys zs:List V}
theorem Inv.lset{its i:Lv}{n:Nat}{f:Av->Av}{t':Nat}(I:Inv X pq σ H s)(a:H l=some (.lst xs))
  (e:s.heap.get? l=some {cls:=.type "list",data:=.seq its.toArray n}) (c:f its.toArray=i.toArray) (g:Vals ys i) (j:ys.length<=sizeLine):
  Inv X pq σ (a' H l (.lst ys)) {s with heap:=s.heap.update l (JY f),toks:=t'}:=by
 have q:=PySem.IsL.update e f;rw[c]at q;refine I.write (by rw[a];exact trivial) (.inl rfl) (λB u b d=>(ZO _ _ (Ne.symm b)).trans d) ⟨_,q⟩ ?_;exact⟨j,_,_,g,q⟩
theorem Inv.lnew{t':Nat}(I:Inv X pq σ H s)(a:Vals ys its)(b:ys.length<=sizeLine):
  Inv X pq σ (a' H s.heap.objs.size (.lst ys)) {s with heap:=s.heap.push {cls:=.type "list",data:=.seq its.toArray},toks:=t'}:=
 I.laid (λ_ _ q=>Zb _ q) (Zl _) ⟨b,_,0,a,Zh _ rfl⟩
theorem Inv.fresh(I:Inv X pq σ H s):H s.heap.objs.size=none:=I.hok.fresh (Zl _)
theorem Inv.lstM(I:Inv X pq σ H s)(h:H l=some (.lst xs)):xs.length<=sizeLine/\∃(its:Lv) (n:Nat),Vals xs its/\xs.length=its.length/\s.heap.get? l=some {cls:=.type "list",data:=.seq its.toArray n}:=by obtain⟨z,its,n,r,e⟩:=I.hok l _ h;exact⟨z,_,n,r,r.length,e⟩
theorem v6(h:n<=sizeLine):LR n=JL:=by exact Zy (by omega)
end
section
variable {X:Cx}
def lp:V->List V->Hp->VK->Prop:=λx vs H Q=>∃l xs y,x=.ref l/\vs=[y]/\H l=some (.lst xs)/\xs.length<sizeLine/\Q .non (a' H l (.lst (xs++[y])))
theorem v7:BO X "list.append" lp:=by intro p s j H x vs v U Q I c b h;obtain⟨l,g,y,rfl,rfl,a,f,q⟩:=h;cases c;obtain⟨u,rfl,R⟩:=b.one;obtain⟨z,i,n,r,d,e⟩:=I.lstM a;refine Mu F.slot_list_append ⟨_,e,rfl⟩ F.entry_list_append (F.args_list_append_2 _ _) (PySem.list_append l _ n u (by simp_all)) ⟨e,?_⟩;refine⟨.non,_,I.lset a e (by simp) (r.append (.cons R .nil)) ?_,rfl,q⟩;rw[Zq,List.length_singleton];omega
def lq:V->List V->Hp->VK->Prop:=λx vs H Q=>∃l b xs zs,x=.ref l/\vs=[.ref b]/\H l=some (.lst xs)/\H b=some (.lst zs)/\xs.length+zs.length<=sizeLine/\Q .non (a' H l (.lst (xs++zs)))
theorem C':BO X "list.extend" lq:=by
 intro P s A H x vs v U Q I o m h;obtain⟨l,b,w,y,rfl,rfl,f,g,t,q⟩:=h;cases o;obtain⟨u,rfl,k⟩:=m.one;cases k;obtain⟨z,c,n,r,p,e⟩:=I.lstM f;obtain⟨Z,i,N,R,j,E⟩:=I.lstM g;have d:c.toArray.size+i.toArray.size<=sizeLine:=by simp_all
 have a:¬(!c.toArray.isEmpty&&LR (c.toArray.size+i.toArray.size))=JK:=by rw[v6 d];simp_all
 refine Mu F.slot_list_extend ⟨_,e,rfl⟩ F.entry_list_extend (F.args_list_extend_2 _ _)
  (AutoSeq1.list_extend_list_list_0 l _ n b _ _ a (by lia) (by omega)) ⟨e,E,?_⟩
 refine⟨.non,_,I.lset f e (by simp) (r.append R) ?_,rfl,q⟩;simp_all
def Dc:V->List V->Hp->VK->Prop:=λx vs H Q=>∃l xs y,x=.ref l/\vs=[]/\H l=some (.lst xs)/\xs[xs.length-1]?=some y/\Q y (a' H l (.lst xs.dropLast))
theorem qF:BO X "list.pop" Dc:=by
 intro p s o H x vs v U Q I g f h;obtain⟨l,m,y,rfl,rfl,c,d,q⟩:=h;cases g;have a:=f.zero;subst a;obtain⟨z,i,n,r,j,e⟩:=I.lstM c;obtain⟨u,k,R⟩:=r.get d;have b:i.toArray[i.toArray.size-1]?=some u:=by simp_all
 refine Mu F.slot_list_pop ⟨_,e,rfl⟩ F.entry_list_pop (F.args_list_pop_1 _) (MeetsSeq.list_pop_last l _ n u b (by simp_all)) ⟨e,?_⟩;refine⟨y,_,I.lset c e ?_ r.dropLast ?_,R,q⟩
 ·simp_all
 ·rw[LM];omega
def qG:V->List V->Hp->VK->Prop:=λx vs H Q=>∃l xs i k y,x=.ref l/\vs=[.int i]/\H l=some (.lst xs)/\ -(2^63)<=i/\i<2^63/\seqIndex? i xs.length=some k/\xs[k]?=some y/\Q y (a' H l (.lst (xs.eraseIdx k)))
theorem Dd:BO X "list.pop" qG:=by
 intro P s B H x vs v U Q I m j h;obtain⟨l,o,i,k,y,rfl,rfl,a,b,c,p,d,q⟩:=h;cases m;obtain⟨u,rfl,g⟩:=j.one;obtain⟨t,rfl⟩:=g;obtain⟨z,f,n,r,A,e⟩:=I.lstM a;obtain⟨w,hw,R⟩:=r.get d
 refine Mu F.slot_list_pop ⟨_,e,rfl⟩ F.entry_list_pop (F.args_list_pop_2 _ _)
  (MeetsSeq.list_pop_at l _ n i t k w (fitsIndex_both b c) (by simp_all) (by simp_all) (by simp_all)) ⟨e,?_⟩
 refine⟨y,_,I.lset a e ?_ (r.eraseIdx k) ?_,R,q⟩
 ·simp_all
 ·have:=vY o k;omega
noncomputable def De:R2:=λx y H Q=>∃l b xs zs,x=.ref l/\y=.ref b/\H l=some (.lst xs)/\H b=some (.lst zs)/\xs.length+zs.length<=sizeLine/\∀p,H p=none->Q (.ref p) (a' H p (.lst (xs++zs)))
theorem qH:cZ X (binaryOp .Add) De:=by
 intro p s A H x y v u Q I j k h;obtain⟨l,b,t,w,rfl,rfl,f,d,o,q⟩:=h;cases j;cases k;obtain⟨z,a,n,r,m,e⟩:=I.lstM f;obtain⟨Z,i,N,R,g,E⟩:=I.lstM d;refine PySem.P.add_list e E ?_ (by simp_all);have c:a.toArray++i.toArray=(a++i).toArray:=by simp
 rw[c];exact⟨.ref _,_,I.lnew (r.append R) (by simp_all),rfl,q _ I.fresh⟩
noncomputable def Dg:R2:=λx y H Q=>∃l k xs,x=.ref l/\y=.int k/\H l=some (.lst xs)/\ -(2^63)<=k/\k<2^63/\xs.length*k.toNat<=sizeLine/\
 ∀p,H p=none->Q (.ref p) (a' H p (.lst (JQ k.toNat xs).flatten))
theorem lr(xs:List α)(k:Nat):(JQ k xs).flatten.length=k*xs.length:=by simp_all
theorem iT:cZ X (binaryOp .Mult) Dg:=by
 intro P s J H x y v u Q I R A h;obtain⟨l,k,G,rfl,rfl,p,j,o,w,q⟩:=h;cases R;obtain⟨t,rfl⟩:=A;obtain⟨z,i,n,r,D,e⟩:=I.lstM p;have f:i.toArray.size*k.toNat<=sizeLine:=by simp_all
 have c:¬i.toArray.size*k.toNat>(2^63-1)/8:=by
  have:(sizeLine)<=(2^63-1)/8:=by decide
  omega
 have d:¬(!Builtin.List.listFitsIndex k)=JK:=by rw[fitsIndex_both j o];simp_all
 have b:¬LR (i.toArray.size*k.toNat)=JK:=by rw[v6 f];simp_all
 have g:List.foldl (λB C=>B++C) #[] (JQ (if i.toArray.isEmpty=JK then 0 else k.toNat) i.toArray)=(JQ k.toNat i).flatten.toArray:=by
  have f0:=λm=>by have:=vZ i m [];rw[K0]at this;exact this
  cases i with
  |nil=>simp
  |cons a E=>simp_all
 refine wpAny_binaryOp_repeat_ref (by lia) ⟨_,e,rfl⟩ (λS=>typeIs_int _ k t) noFill_list_mul F.fills_int_mul F.slot_int_rmul repeat_list F.slot_int_index.lookup
  (Mu F.slot_int_rmul (typeIs_int s k t) F.entry_int_rmul (F.args_int_rmul_2 _ _) (int___rmul___int_list k t l _ n)
   ⟨e,rfl,⟨_,e,rfl⟩,Mu F.slot_list_mul ⟨_,e,rfl⟩ F.entry_list_mul (F.args_list_mul_2 _ _) (AutoListH.list___mul___list_int_3 l _ n k t d c b) ⟨e,?_⟩⟩)
 rw[g];exact⟨.ref _,_,I.lnew (r.rep _) (by rw[lr,Nat.mul_comm];exact w),rfl,q _ I.fresh⟩
end
set_option maxRecDepth 100000 in
section
variable {X:Cx}
end
end L2
namespace Att
open PySem PySem.W PySem.Calls PyProof.Rows
theorem Dh{P:Params}:∀(ns:Li) (vs:Lv),WellAll P h vs (ns.map WData.int)->M0 vs ns:=by
 intro ns
 induction ns with
 |nil=>intro vs w;cases w;exact .nil
 |cons n ns i=>
  intro vs w;cases w with
  |cons a b=>cases a;exact .cons _ _ (i _ b)
theorem Di{l:OpenLaw}(k:l.most=some n){P:Params}{A:List WData}{v:Lv}
  (H:l.row.toRowW.claim.pre A=JK) (f:WellAll P h v A):
  ∃a vs ns,v=[Value.ref a]/\A=[WData.list (ns.map WData.int)]/\h.get? a=some {cls:=.type "list",data:=.seq vs.toArray}/\M0 vs ns/\ns.length<=n:=by
 obtain⟨d,r,rfl,g,i⟩:=hasAllW_cons (pre_splitW H).1;obtain rfl:=hasAllW_nil i;obtain⟨x,rfl,j⟩:=hasW_list g;obtain⟨ns,rfl⟩:=items_int j
 have c:ns.length<=n:=by
  have e:=by have e:=(holds_andW (pre_splitW H).2).1;rw[k]at e;exact e
  have o:=condW_of e (w_not (w_lt w_lit (w_len_list (w_arg rfl))));simp_all
 cases f with
 |cons w W=>
  cases W;cases w with
  |list m b=>exact⟨_,_,_,rfl,rfl,m,Dh _ _ b,c⟩
theorem Dj(l:OpenLaw)(a:List WData):l.row.toRowW.claim.post a (.bool JK) a=JK:=
 postW_of
  (show WShape.has _ _ _=JK by rfl)
  (show(WTm.eq _ _).value _ _=some _ from w_eq_bool (w_res rfl) w_lit) rfl
theorem Dk{l:OpenLaw}{q:J8}{d:DefRec}
  (C:l.most=some n) (g:d.params.defaults=[])
  (call:∀(w:Ke) (S s:JN) (mg m:Mg) (fa:JP) (o:Obj) (pm cd doc:JO) (a:JP) (vs:Lv) (ns:Li),
   Ground q loose [] XP w S mg m s.heap->YP w s.heap->
   s.heap.get? fa=some o->o.data=.func (docDef d.name d.params d.body d.scope pm cd doc)->s.heap.CodeRec cd d.name->mg d.name=some (.ref fa)->
   s.heap.get? a=some {cls:=.type "list",data:=.seq vs.toArray}->M0 vs ns->ns.length<=n->s.gens= #[]->
   codeAny (model l.prog w) callerA (.call (.ref fa) ⟨[.ref a],[]⟩) (λr s'=>r=.ok (.ret (.bool JK))/\OldK s.heap s'.heap/\s'.os=s.os/\Mf s'.gens) s):
  WalkO q loose XP YP l.row.toRowW d [] (λf vs=>PySem.call f vs):=by
 intro w S s mg m G Y fa o pm cd doc D kV E x e hD i y A v as c k I j z;obtain rfl:D=.none:=Dflts.none hD g;obtain rfl:kV=.none:=Dflts.noKw hD;obtain⟨a,vs,ns,rfl,rfl,b,h,H⟩:=Di C c j;refine enter_call (Lg (call w _ _ _ _ _ o _ _ _ a _ _ G Y E (fd_plain x) e i b h H y) λr s' F=>?_);obtain⟨rfl,p,t,u⟩:=F;exact⟨.inl ⟨_,_,_,rfl,λ_=>rfl,.bool _,Dj l _,λ_=>⟨List.Pairwise.nil,λ_ B=>nomatch B⟩⟩,p,t,u⟩
section
variable {K:Frag}
end
end Att
namespace L2
theorem v9:∀{vs:Lv} {ns:Li},M0 vs ns->Vals (ns.map V.int) vs
 |_,_,.nil=>.nil
 |_,_,.cons n t h=>.cons ⟨t,rfl⟩ (v9 h)
def ls(H:Hp):Prop:=∀b,H b=none\/∃o xs,H b=some (.frz o (.lst xs))
theorem Dl{P:J8}{w:Ke}{M:Mg}{CX:dN}{k:Nat}{C:JP}{T:KL}{x:Str}{sp:Sp}{S:JN}{vs:Lv}{ns:Li}
  (Q:K.In S.heap) (p:S.heap.Ns mainGlobals mg) (f:S.heap.Ns builtinsNs M) (I:∀x:Str,x≠"__name__"->M x=bootBuiltins x) (l:S.heap.NoLimit) (hg:S.gens= #[])
  (G:S.heap.get? a=some {cls:=.type "list",data:=.seq vs.toArray}) (W:M0 vs ns) (hl:ns.length<=sizeLine) (hr:cL k callerA)
  (F:∀base:JU,K.In base->base.Ns mainGlobals mg->c0 P w K mg base CX k C T [x] sp) (g:∀(s:JN) (u:JO),NR s T ⟨[u],[]⟩ [(x,u)])
  (L:∀H:Hp,ls H->c9 K H a (ns.map V.int)->sp [.ref a] H (λv _=>v=.bl JK) λ_ _ _=>False)
  (D:∀H e s',CX [] H S (λ_ _ _=>False) e s'->False):
  codeAny (model P w) callerA (.call (.ref C) ⟨[.ref a],[]⟩) (λr s'=>r=.ok (.ret (.bool JK))/\OldK S.heap s'.heap/\s'.os=S.os/\Mf s'.gens) S:=by
 have rv:=v9 W
 have c:∀H:Hp,ls H->c9 K H a (ns.map V.int)->d_ P w H S.heap->(∀b,H b≠none->b=a)->(H a≠none->K.lookup a=none)->
   codeAny (model P w) callerA (.call (.ref C) ⟨[.ref a],[]⟩) (λr s'=>r=.ok (.ret (.bool JK))/\OldK S.heap s'.heap/\s'.os=S.os/\Mf s'.gens) S:=by
  intro H U hS t hA hK;have B:∀{b:JP} {o:Obj},S.heap.get? b=some o->H b=none->(fR S.heap H).get? b=some o:=λe n=>Cb e n;have O:∀{b:JP} {o:Obj} {A:Array DictEntry} {E:Nat},S.heap.get? b=some o->o.data=.dict A E->H b=none:=λ{b o A E} e d=>by grind
  have N:∀{b:JP} {m:Mg},S.heap.Ns b m->(fR S.heap H).Ns b m:=λ{b m} ⟨o,A,E,e,d,r⟩=>⟨o,A,E,B e (O e d),d,r⟩;have j:K.In (fR S.heap H):=λb o e=>B (Q b o e) (by grind);have hM:Mod K mg (fR S.heap H):=⟨j,N p,⟨M,N f,I⟩,let⟨mc,Z,h2⟩:=l;⟨mc,N Z,h2⟩⟩;refine Lg ((F _ j (N p)).run callerA [] S H ⟨[.ref a],[]⟩ [.ref a] [.ref a] _ _ hr ⟨rfl,hM,λb o e=>kJ e,N0 (Ca _ _),trivial,λb f=>absurd (show b∈([]:La)from f) (by simp),t,.of_eq hg⟩ (g S (.ref a)) (.cons rfl .nil) (L H U hS)) λr s' h=>?_;cases r with
  |error e=>exact(D H e s' h).elim
  |ok Y=>
   cases Y with
   |next=>exact False.elim h
   |brk=>exact False.elim h
   |cont=>exact False.elim h
   |ret u=>
    obtain⟨v,H',os,i,un,y,r',q⟩:=h;subst(q);obtain rfl:u=Nm JK:=r';refine⟨rfl,OldK.of_keep λb o e=>?_,os,i⟩;cases q:H b with
    |none=>exact un.keep b o e q (by intro z;exact absurd (show b∈([]:La)from z) (by simp)) (by simp)
    |some u=>
     rcases U b with z| ⟨ob,xs,z⟩
     ·rw[q]at z;cases z
     ·obtain⟨R,_⟩:=t b _ z;obtain⟨X,_⟩:=y b _ (un.frzs b ob _ z);rw[e]at R;cases R;exact X
 cases J:K.lookup a with
 |some o=>have e:=Q a o J;rw[G]at e;cases e;refine c (λ_=>none) (λ_=>.inl rfl) (.inr ⟨_,vs.toArray,_,J,rfl,rfl,rfl,by rw[ZS,W.length];exact hl,by grind⟩) (λb u z=>by grind) (λb z=>absurd rfl z) λz=>absurd rfl z
 |none=>
  refine c (λb=>if b=a then some _ else none) (λb=>?_) (.inl (.inr ⟨{cls:=.type "list",data:=.seq vs.toArray},if_pos rfl⟩)) (λb u z=>?_) (λb z=>?_) λ_=>J
  ·grind
  ·by_cases f:b=a
   ·cases(if_pos f).symm.trans z;subst f;exact⟨G,by grind,vs,_,rv,G⟩
   ·cases(if_neg f).symm.trans z
  simp_all
theorem lu{l:PySem.W.OpenLaw}{q:J8}{d:DefRec}{K:Params->Fg}{CX:Ke->dN}{sp:Ke->Sp}{x:Str}
  (L:l.most=some n) (p:n<=sizeLine) (j:d.params.defaults=[]) (M:cL k callerA)
  (C:∀(w:Ke) (h:JU),YP w h->(K w.params).In h)
  (F:∀(w:Ke) (mg:Mg) (fa:JP) (h:JU),(K w.params).In h->h.Ns mainGlobals mg->mg d.name=some (.ref fa)->
   ∃fd:KL,(∀(s:JN) (u:JO),NR s fd ⟨[u],[]⟩ [(x,u)])/\
    ∀base:JU,(K w.params).In base->base.Ns mainGlobals mg->c0 l.prog w (K w.params) mg base (CX w) k fa fd [x] (sp w))
  (r:∀(w:Ke) (H:Hp) (a:JP) (ns:Li),ns.length<=n->ls H->c9 (K w.params) H a (ns.map V.int)->sp w [.ref a] H (λv _=>v=.bl JK) λ_ _ _=>False)
  (i:∀(w:Ke) (H:Hp) (s:JN) (e:JO) (s':JN),CX w [] H s (λ_ _ _=>False) e s'->False):
  PySem.W.WalkO q loose XP YP l.row.toRowW d [] (λf vs=>PySem.call f vs):=by
 refine Att.Dk L j λw S y mg Q fa o R N D a vs ns G Y P O I m g c b J=>?_;have t:=C w _ Y;obtain⟨fd,E,z⟩:=F w _ _ _ t G.T.g m;exact Dl t G.T.g G.T.b G.T.builtins G.T.nolimit J g c (ZD b p) M z E (λH A B=>r w H a _ b A B) λH e s'=>i w H _ e _
noncomputable def gw(s:Ly):Arguments:=match s with
 | .FunctionDef _ a _ _ _ _ _ _ _ _=>a
 |_=>{posonlyargs:=[],args:=[],vararg:=none,kwonlyargs:=[],kw_defaults:=[],kwarg:=none,defaults:=[]}
noncomputable def c1(s:Ly):List Ly:=match s with
 | .FunctionDef _ _ b _ _ _ _ _ _ _=>b
 |_=>[]
noncomputable def cM(s:Ly):Scope:=match s with
 | .FunctionDef _ _ _ _ _ _ sc _ _ _=>sc
 |_=>{kind:=.function,names:=[],isGenerator:=JL,isCoroutine:=JL}
abbrev E0:XK:=λ_ _ _=>False
structure qI (K:Fg)(x qual:Str)(st:Ly)(f:JP)(fd:KL):Prop where
 ex:∃(oc:JO) (od:Option JP) (kV doc pm:JO) (an:Option JP) (cdv ct:JO) (osl:Array (Ov)),
  fd=PySem.W.fnOf x qual (gw st) (c1 st) (cM st) .none kV doc pm an cdv ct/\K.lookup f=some ⟨oc,od,.func fd,osl⟩/\PySem.W.codeIn K cdv qual=JK
 kp:PySem.W.keepIn K (.ref f)=JK
theorem qI.binds{x:Str}{a:KL}(F:qI K x qual st f a)
  (h:∀(kV doc pm:JO) (an:Option JP) (cdv ct:JO) (us:Lv),us.length=ps.length->bindArgs (PySem.W.fnOf x qual (gw st) (c1 st) (cM st) .none kV doc pm an cdv ct) ⟨us,[]⟩=pure (ps.zip us)):Binds K a ps []:=by
 obtain⟨O,b,kV,doc,pm,an,cdv,ct,o,rfl,lk,H⟩:=F.ex;exact .all (h _ _ _ _ _ _)
theorem qJ{x:Str}{an:Option JP}{kV:JO}(l:K.lookup f=some ⟨oc,od,.func (PySem.W.fnOf x qual (gw st) (c1 st) (cM st) .none kV doc pm an cdv ct),osl⟩)
  (c:PySem.W.codeIn K cdv qual=JK) (k:PySem.W.keepIn K (.ref f)=JK):qI K x qual st f (PySem.W.fnOf x qual (gw st) (c1 st) (cM st) .none kV doc pm an cdv ct):=⟨⟨_,_,_,_,_,_,_,_,_,rfl,l,c⟩,k⟩
section
variable {X:Cx}
end
end L2
variable {H H' H1 H0 Hx:L2.Hp}{X:L2.Cx}{σ σ':L2.St}{v:L2.V}{ta te to:L2.TE}{tb:L2.St->L2.Hp->(L2.St->L2.Hp->Prop)->Prop}{tc:L2.TT}{g:L2.TG}{wi:L2.TI}{CX:L2.dN}{sp:L2.Sp}{J:L2.It}{u':L2.HO}{B:La->L2.Hp->Prop}
namespace Py
theorem aB{C:Prop}{a b c d:Sort _}{p q r:a->b->c->d->Prop}(h:∃x y z w,p x y z w/\q x y z w/\r x y z w)(k:∀x y z w,p x y z w->q x y z w->r x y z w->C):C:=by
 grind
theorem qK{C:Prop}{a b c d e f g h i:Sort _}{p q r:a->b->c->d->e->f->g->h->i->Prop}(z:∃x1 x2 x3 x4 x5 x6 x x8 x9,p x1 x2 x3 x4 x5 x6 x x8 x9/\q x1 x2 x3 x4 x5 x6 x x8 x9/\r x1 x2 x3 x4 x5 x6 x x8 x9)(k:∀x1 x2 x3 x4 x5 x6 x x8 x9,p x1 x2 x3 x4 x5 x6 x x8 x9->q x1 x2 x3 x4 x5 x6 x x8 x9->r x1 x2 x3 x4 x5 x6 x x8 x9->C):C:=by
 grind
theorem aD{C:Prop}{a b c:Sort _}{p q r t:a->b->c->Prop}(h:∃x y z,p x y z/\q x y z/\r x y z/\t x y z)(k:∀x y z,p x y z->q x y z->r x y z->t x y z->C):C:=by
 grind
inductive D where
 |non|bl (b:Bool)|int (i:Int)|str (x:Str)
 |tup (xs:List D)|lst (xs:List D)|ref (n:Nat)|scr (xs:List D)
 |fn (x:Str)|dct|ty (n:String)|dks (ks:List (Li))
 deriving Inhabited
abbrev aa:=List (List D)
set_option genInjectivity false in
structure GS where
 mg:Mg
 F:La
noncomputable def qL(K:Fg)(H:Hp)(a:JP)(vs:List V):Prop:=(∃o,H a=some (.frz o (.lst vs)))\/
 ∃(o:Obj) (its:Av) (n:Nat),K.lookup a=some o/\o.cls=.type "list"/\o.dict=none/\o.data=.seq its n/\its.size<=sizeLine/\Vals vs its.toList
theorem qL.sq{vs:List V}(h:qL K H a vs):c9 K H a vs:=by
 rcases h with⟨o,h⟩|h
 ·exact .inl (.inr ⟨o,h⟩)
 ·exact .inr h
noncomputable def hD(k:Li):Int:=reduceHash (Builtin.Tuple.tupleHashOf (k.map hashInt))
noncomputable def JB(h:JU)(a:JP)(cs:List (Li×JP)):Prop:=(a==sysModules)=JL/\∃o es ep,h.get? a=some o/\o.ExactDict/\o.data=.dict es ep/\es.toList=cs.map λc=>⟨hD c.1,.ref c.2,.bool JK⟩
section
variable (K:Fg)(mg:GS)(μ:La)(H:Hp)
mutual
def Rep:D->V->Prop
 | .non,v=>v=.non
 | .bl b,v=>v=.bl b
 | .int i,v=>v=.int i
 | .str x,v=>v=.str x
 | .tup ds,v=>∃a vs,v=.ref a/\cB K H a vs/\ag ds vs
 | .lst ds,v=>∃a vs,v=.ref a/\H a=some (.lst vs)/\(a∉μ/\a∉mg.F)/\ag ds vs
 | .scr ds,v=>∃a vs,v=.ref a/\qL K H a vs/\ag ds vs
 | .ref n,v=>∃a,v=.ref a/\μ[n]?=some a
 | .fn x,v=>∃a,v=.ref a/\mg.mg x=some (.ref a)
 | .dct,v=>∃a,v=.ref a/\H a=some (.dK [])
 | .ty n,v=>v=.ty n
 | .dks ks,v=>∃a cs,v=.ref a/\H a=some (.ext λh=>JB h a cs)/\a∉mg.F/\(cs.map (·.1)=ks/\ks.Nodup)/\∀c∈cs,cB K H c.2 (c.1.map V.int)
def ag:List D->List V->Prop
 | [],vs=>vs=[]
 |d::ds,vs=>∃w W,vs=w::W/\Rep d w/\ag ds W
end
end
structure aK (K:Fg)(mg:GS)(μ:La)(S:aa)(H:Hp):Prop where
 live:∀a∈mg.F,∃o,H a=some o
 len:μ.length=S.length
 nd:μ.Nodup
 at_:∀(n:Nat) (a:JP) (ds:List D),μ[n]?=some a->S[n]?=some ds->∃vs,H a=some (.lst vs)/\ag K mg μ H ds vs
structure Ext (μ:La)(H:Hp)(μ':La)(H':Hp):Prop where
 pre:∃r,μ'=μ++r
 keep:∀a o,H a=some o->((∀xs,o≠.lst xs)\/a∉μ)->H' a=some o
 there:∀a o,H a=some o->∃o',H' a=some o'
 fresh:∀a∈μ',a∈μ\/H a=none
section
variable {mg:GS}{μ'':La}{H'':Hp}
theorem Ext.refl:Ext μ H μ H:=⟨⟨[],by simp⟩,λ_ _ h _=>h,λ_ o h=>⟨o,h⟩,λ_ h=>.inl h⟩
theorem Ext.trans(a:Ext μ H μ' H')(b:Ext μ' H' μ'' H''):Ext μ H μ'' H'':=by
 obtain⟨r,e⟩:=a.pre;obtain⟨R,E⟩:=b.pre;refine⟨⟨r++R,by simp_all⟩,λx o h c=>?_,λx o h=>?_,λx h=>?_⟩
 ·refine b.keep x o (a.keep x o h c) ?_;rcases c with c|c
  ·exact .inl c
  ·refine .inr λz=>?_;rcases a.fresh x z with z|z
   ·exact c z
   simp_all
 ·obtain⟨O,d⟩:=a.there x o h;exact b.there x _ d
 ·rcases b.fresh x h with h|h
  ·exact a.fresh x h
  ·refine .inr ?_;cases e:H x with
   |none=>rfl
   |some o=>obtain⟨O,d⟩:=a.there x o e;simp_all
theorem Ext.sqT{vs:List V}(x:Ext μ H μ' H')(h:cB K H a vs):cB K H' a vs:=by
 rcases h with(h| ⟨o,h⟩)|h
 ·exact .inl (.inl (x.keep _ _ h (.inl λ_ z=>by lia)))
 ·exact .inl (.inr ⟨o,x.keep _ _ h (.inl λ_ z=>by lia)⟩)
 ·exact .inr h
theorem Ext.frz{vs:List V}(x:Ext μ H μ' H')(h:qL K H a vs):qL K H' a vs:=by
 rcases h with⟨o,h⟩|h
 ·exact .inl ⟨o,x.keep _ _ h (.inl λ_ z=>by lia)⟩
 ·exact .inr h
theorem Ext.lst{vs:List V}(x:Ext μ H μ' H')(h:H a=some (.lst vs))(b:a∉μ):H' a=some (.lst vs)/\a∉μ':=by
 refine⟨x.keep _ _ h (.inr b),λz=>?_⟩;rcases x.fresh a z with z|z
 ·exact b z
 simp_all
theorem Ext.get(x:Ext μ H μ' H')(h:μ[n]?=some a):μ'[n]?=some a:=by
 obtain⟨r,rfl⟩:=x.pre
 grind
mutual
theorem Rep.mono(x:Ext μ H μ' H'):∀(d:D) (v:V),Rep K mg μ H d v->Rep K mg μ' H' d v
 | .non,_,h=>h
 | .bl _,_,h=>h
 | .int _,_,h=>h
 | .str _,_,h=>h
 | .tup _,v,h=>by obtain⟨a,vs,e,q,r⟩:=h;exact⟨a,_,e,x.sqT q,ag.mono x _ _ r⟩
 | .lst _,v,h=>by obtain⟨a,vs,e,q,n,r⟩:=h;exact⟨a,_,e,(x.lst q n.1).1,⟨(x.lst q n.1).2,n.2⟩,ag.mono x _ _ r⟩
 | .scr _,v,h=>by obtain⟨a,vs,e,q,r⟩:=h;exact⟨a,_,e,x.frz q,ag.mono x _ _ r⟩
 | .ref n,v,h=>by obtain⟨a,e,q⟩:=h;exact⟨a,e,x.get q⟩
 | .fn y,v,h=>h
 | .ty y,v,h=>h
 | .dct,v,h=>by obtain⟨a,e,q⟩:=h;exact⟨a,e,x.keep _ _ q (.inl λ_ z=>by lia)⟩
 | .dks _,v,h=>by obtain⟨a,C,e,q,n,r,k⟩:=h;exact⟨a,_,e,x.keep _ _ q (.inl λ_ z=>by lia),n,r,λc b=>x.sqT (k c b)⟩
theorem ag.mono(x:Ext μ H μ' H'):∀(ds:List D) (vs:List V),ag K mg μ H ds vs->ag K mg μ' H' ds vs
 | [],vs,h=>h
 |d::ds,vs,h=>by obtain⟨w,W,e,r,q⟩:=h;exact⟨w,_,e,Rep.mono x d w r,ag.mono x _ _ q⟩
end
theorem ag.length:∀{ds:List D} {vs:List V},ag K mg μ H ds vs->ds.length=vs.length
 | [],vs,h=>by subst h;rfl
 |d::ds,vs,h=>by obtain⟨w,W,rfl,r,q⟩:=h;simp[ag.length q]
theorem ag.get:∀{ds:List D} {vs:List V} {i:Nat} {d:D},ag K mg μ H ds vs->ds[i]?=some d->∃v,vs[i]?=some v/\Rep K mg μ H d v
 | [],vs,i,d,h,e=>by simp at e
 |c::ds,vs,i,d,h,e=>by
  unfold ag at h;obtain⟨w,W,rfl,r,q⟩:=h;cases i with
  |zero=>simp at e;subst e;exact⟨w,rfl,r⟩
  |succ i=>simpa using ag.get q (by simpa using e)
theorem ag.of:∀{ds:List D} {vs:List V},ds.length=vs.length->(∀(i:Nat) d v,ds[i]?=some d->vs[i]?=some v->Rep K mg μ H d v)->ag K mg μ H ds vs
 | [],[],_,_=>rfl
 | [],_::_,h,_=>by simp_all
 |_::_,[],h,_=>by simp_all
 |d::ds,v::vs,h,k=>by exact⟨v,_,rfl,k 0 d v rfl rfl,ag.of (by simp_all) λi a e b c=>k (i+1) _ _ (by simp_all) (by simp_all)⟩
theorem ag.nil:ag K mg μ H [] []:=rfl
theorem ag.cons{d:D}{ds:List D}{vs:List V}(h:Rep K mg μ H d v)(t:ag K mg μ H ds vs):ag K mg μ H (d::ds) (v::vs):=by unfold ag;lia
theorem ag.uncons{d:D}{ds:List D}{vs:List V}(h:ag K mg μ H (d::ds) vs):∃v w,vs=v::w/\Rep K mg μ H d v/\ag K mg μ H ds w:=by exact h
theorem ag.append:∀{ds es:List D} {vs w:List V},ag K mg μ H ds vs->ag K mg μ H es w->ag K mg μ H (ds++es) (vs++w)
 | [],es,vs,w,h,k=>by subst h;exact k
 |d::ds,es,vs,w,h,k=>by obtain⟨v,u,rfl,r,q⟩:=h.uncons;exact .cons r (ag.append q k)
theorem ag.take:∀{ds:List D} {vs:List V} (n:Nat),ag K mg μ H ds vs->ag K mg μ H (ds.take n) (vs.take n)
 | [],vs,n,h=>by subst h;simpa using ag.nil
 |d::ds,vs,0,h=>rfl
 |d::ds,vs,n+1,h=>by obtain⟨v,u,rfl,r,q⟩:=h.uncons;exact .cons r (ag.take n q)
theorem ag.drop:∀{ds:List D} {vs:List V} (n:Nat),ag K mg μ H ds vs->ag K mg μ H (ds.drop n) (vs.drop n)
 | [],vs,n,h=>by subst h;simpa using ag.nil
 |d::ds,vs,0,h=>h
 |d::ds,vs,n+1,h=>by obtain⟨v,u,rfl,r,q⟩:=h.uncons;exact ag.drop n q
theorem ag.set:∀{ds:List D} {vs:List V} (i:Nat) {d:D} {v:V},ag K mg μ H ds vs->Rep K mg μ H d v->ag K mg μ H (ds.set i d) (vs.set i v)
 | [],vs,i,_,_,h,_=>by subst h;rfl
 |d::ds,vs,0,_,_,h,k=>by obtain⟨v,u,rfl,r,q⟩:=h.uncons;exact .cons k q
 |d::ds,vs,i+1,_,_,h,k=>by obtain⟨v,u,rfl,r,q⟩:=h.uncons;exact .cons r (ag.set i q k)
theorem Ext.laid{p:JP}{o:HO}(b:H p=none):Ext μ H μ (a' H p o):=
 ⟨⟨[],by simp⟩,λa u h _=>by rw[aW (dk h b)];exact h,λa u h=>⟨u,by rw[aW (dk h b)];exact h⟩,λ_ h=>.inl h⟩
theorem aK.notin{S:aa}{p:JP}(s:aK K mg μ S H)(b:H p=none):p∉μ:=λz=>by obtain⟨n,a,e⟩:=KC.mp z;have E:S[n]?=some (S[n]'(by rw[<-s.len];exact a)):=Zm _;obtain⟨vs,h,_⟩:=s.at_ n p _ (by simp_all) E;simp_all
theorem aK.notF{S:aa}{p:JP}(s:aK K mg μ S H)(a:H p=none):p∉mg.F:=λz=>by obtain⟨o,h⟩:=s.live p z;simp_all
theorem aK.laid{S:aa}{p:JP}{o:HO}(s:aK K mg μ S H)(b:H p=none):aK K mg μ S (a' H p o):=by refine⟨λa h=>(Ext.laid (μ:=μ) b).there a _ (s.live a h).choose_spec,s.len,s.nd,λn a D c d=>?_⟩;obtain⟨vs,h,r⟩:=s.at_ n a _ c d;exact⟨_,by rw[aW (dk h b)];exact h,ag.mono (Ext.laid b) _ _ r⟩
theorem Ext.boxed{p:JP}{o:HO}(b:H p=none):Ext μ H (μ++[p]) (a' H p o):=
 ⟨⟨_,rfl⟩,λa u h _=>by rw[aW (dk h b)];exact h,λa u h=>⟨u,by rw[aW (dk h b)];exact h⟩,λa h=>by
  grind⟩
theorem aK.boxed{S:aa}{p:JP}{ds:List D}{vs:List V}(s:aK K mg μ S H)(c:H p=none)(r:ag K mg μ H ds vs):
  aK K mg (μ++[p]) (S++[ds]) (a' H p (.lst vs)):=by
 have N:=s.notin c;refine⟨λa h=>(Ext.laid (μ:=μ) c).there a _ (s.live a h).choose_spec,by simp[s.len],?_,λn a g d e=>?_⟩
 ·rw[ZT];exact⟨s.nd,by simp,λa i b j=>by grind⟩
 ·by_cases f:n<μ.length
  ·rw[ZL f]at d;rw[ZL (by rw[<-s.len];exact f)]at e;obtain⟨w,h,q⟩:=s.at_ n a _ d e;exact⟨_,by rw[aW (dk h c)];exact h,ag.mono (Ext.boxed c) _ _ q⟩
  ·have E:n=μ.length:=by grind
   subst E;simp[s.len]at d e;subst d;subst e;exact⟨_,dd,ag.mono (Ext.boxed c) _ _ r⟩
theorem Ext.wrote{xs:List V}{y:List V}(d:a∈μ)(h:H a=some (.lst xs)):Ext μ H μ (a' H a (.lst y)):=by
 refine⟨⟨[],by simp⟩,λb o e c=>?_,λb o e=>?_,λ_ h=>.inl h⟩
 ·have:b≠a:=by grind
  rw[aW this];exact e
 ·by_cases z:b=a
  ·subst z;exact⟨_,dd⟩
  ·exact⟨o,by rw[aW z];exact e⟩
theorem aK.wrote{S:aa}{ds:List D}{xs vs:List V}(s:aK K mg μ S H)(hn:μ[n]?=some a)(h:H a=some (.lst xs))(r:ag K mg μ H ds vs):
  aK K mg μ (S.set n ds) (a' H a (.lst vs)):=by
 have ha:=Zz hn;have hl:=s.len;refine⟨λb hb=>(Ext.wrote ha h).there b _ (s.live b hb).choose_spec,by simp_all,s.nd,λm b es h1 h2=>?_⟩;by_cases e:m=n
 ·subst e;rw[hn]at h1;cases h1;rw[KR (by grind)]at h2;cases h2;exact⟨_,dd,ag.mono (Ext.wrote ha h) _ _ r⟩
 ·rw[KA (Ne.symm e)]at h2;obtain⟨ws,q,r'⟩:=s.at_ m b _ h1 h2;have:b≠a:=by rintro rfl;exact e (L2_nodup s.nd h1 hn)
  exact⟨_,by rw[aW this];exact q,ag.mono (Ext.wrote ha h) _ _ r'⟩
where
 L2_nodup {l:List _} (nd:l.Nodup) {i j:Nat} {x:JP} (a:l[i]?=some x) (b:l[j]?=some x):i=j:=by obtain⟨h1,e1⟩:=Zp.mp a;obtain⟨h2,e2⟩:=Zp.mp b;exact(OR nd).mp (e1.trans e2.symm)
end
end Py
variable {xs ys ds:List Py.D}{y d v8:Py.D}{T S S1 S' S2:Py.aa}{Γ:Str->Option Py.D}{O:JP->List Py.D->List L2.V->L2.HO->Prop}{x5 x6 x2 x3 x4 x0:Option Py.D}
namespace Py
open PySem.Sem (wp)
open PySem.Builtin
end Py
namespace Py
set_option genInjectivity false in
structure Exc where
 cls:Str
 fs:List D
inductive Res (α:Type) where
 |ok (a:α) (S:aa)
 |err (x:Exc) (S:aa)
 |fail
abbrev bB:Nat:=16777216
theorem hY:sizeLine=bB:=Le
noncomputable def aU(K:Fg)(m:GS)(μ:La)(H:Hp)(Q:VK):Res D->Prop
 | .ok d S'=>∀μ' H' v,Ext μ H μ' H'->aK K m μ' S' H'->Rep K m μ' H' d v->Q v H'
 |_=>False
section
variable {mg:GS}{Q:VK}
theorem aU.now(w:aU K mg μ H Q (.ok d S))(s:aK K mg μ S H)(r:Rep K mg μ H d v):Q v H:=w _ H v .refl s r
theorem aU.tup{vs:List V}(w:aU K mg μ H Q (.ok (.tup ds) S))(s:aK K mg μ S H)(r:ag K mg μ H ds vs)(p:JP)(h:H p=none):Q (.ref p) (a' H p (.tup vs)):=
 w _ _ _ (.laid h) (s.laid h) (by exact⟨p,_,rfl,cB.of dd,ag.mono (.laid h) _ _ r⟩)
theorem aU.lst{vs:List V}(w:aU K mg μ H Q (.ok (.lst ds) S))(s:aK K mg μ S H)(r:ag K mg μ H ds vs)(p:JP)(h:H p=none):Q (.ref p) (a' H p (.lst vs)):=
 w _ _ _ (.laid h) (s.laid h) (by exact⟨p,_,rfl,dd,⟨s.notin h,s.notF h⟩,ag.mono (.laid h) _ _ r⟩)
theorem aU.box{vs:List V}(w:aU K mg μ H Q (.ok (.ref S.length) (S++[ds])))(s:aK K mg μ S H)(r:ag K mg μ H ds vs)(p:JP)(h:H p=none):Q (.ref p) (a' H p (.lst vs)):=
 w _ _ _ (.boxed h) (s.boxed h r) (by exact⟨p,rfl,by rw[Kw (by rw[s.len];simp_all),s.len];simp⟩)
theorem aU.wrote{xs vs:List V}(w:aU K mg μ H Q (.ok d (S.set n ds)))(s:aK K mg μ S H)(b:μ[n]?=some a)(h:H a=some (.lst xs))(r:ag K mg μ H ds vs)
  (R:Rep K mg μ H d v):Q v (a' H a (.lst vs)):=
 w _ _ _ (.wrote (Zz b) h) (s.wrote b h r) (Rep.mono (.wrote (Zz b) h) _ _ R)
noncomputable def dP(S:aa):D->Option (List D)
 | .lst xs=>some xs
 | .ref n=>S[n]?
 |_=>none
noncomputable def au(S:aa):D->Option (List D)
 | .lst xs=>some xs
 | .ref n=>S[n]?
 | .tup xs=>some xs
 | .scr xs=>some xs
 |_=>none
theorem dq(s:aK K mg μ S H)(r:Rep K mg μ H d v)(e:dP S d=some xs):∃a vs,v=.ref a/\H a=some (.lst vs)/\ag K mg μ H xs vs:=by
 cases d with
 |lst y=>
  cases e;unfold Rep at r
  grind
 |ref n=>obtain⟨a,E,h⟩:=r;obtain⟨vs,b,q⟩:=s.at_ n a _ h e;simp_all
 |_=>cases e
theorem fS(s:aK K mg μ S H)(r:Rep K mg μ H d v)(e:au S d=some xs):∃a vs,v=.ref a/\(c9 K H a vs\/cB K H a vs)/\ag K mg μ H xs vs:=by
 cases d with
 |lst y=>obtain⟨a,vs,E,h,q⟩:=dq s r (show dP S (.lst y)=some xs from e);exact⟨a,vs,E,.inl (.of h),q⟩
 |ref n=>obtain⟨a,vs,E,h,q⟩:=dq s r (show dP S (.ref n)=some xs from e);exact⟨a,vs,E,.inl (.of h),q⟩
 |tup y=>unfold au at e;cases e;unfold Rep at r;obtain⟨a,vs,e,h,q⟩:=r;exact⟨a,vs,e,.inr h,q⟩
 |scr y=>unfold au at e;cases e;unfold Rep at r;obtain⟨a,vs,e,h,q⟩:=r;exact⟨a,vs,e,.inl h.sq,q⟩
 |_=>cases e
theorem aG{i:Int}(r:Rep K mg μ H (.int i) v):v=.int i:=by exact r
theorem fT{i:Bool}(r:Rep K mg μ H (.bl i) v):v=.bl i:=by exact r
theorem fU{i:Str}(r:Rep K mg μ H (.str i) v):v=.str i:=by exact r
theorem gy(r:Rep K mg μ H .non v):v=.non:=by exact r
theorem cm(r:Rep K mg μ H (.tup ds) v):∃a vs,v=.ref a/\cB K H a vs/\ag K mg μ H ds vs:=by exact r
theorem bN{i:Int}:Rep K mg μ H (.int i) (.int i):=rfl
theorem cN{i:Bool}:Rep K mg μ H (.bl i) (.bl i):=rfl
theorem iU{i:Str}:Rep K mg μ H (.str i) (.str i):=rfl
theorem iV:Rep K mg μ H .non .non:=rfl
end
noncomputable def rD(K:Fg)(m:Mg)(g:D->D->aa->Res D):R2:=λx y H Q=>∃F μ S d e,aK K ⟨m,F⟩ μ S H/\Rep K ⟨m,F⟩ μ H d x/\Rep K ⟨m,F⟩ μ H e y/\aU K ⟨m,F⟩ μ H Q (g d e S)
noncomputable def iW(d e:D)(S:aa):Res D:=match d,e with
 | .int i,.int j=>.ok (.int (i+j)) S
 | .str x,.str y=>if x.length+y.length<=bB then .ok (.str (x++y)) S else .fail
 | .tup a,.tup b=>if a.length+b.length<=bB then .ok (.tup (a++b)) S else .fail
 |d,e=>match dP S d,dP S e with
  |some a,some b=>if a.length+b.length<=bB then .ok (.lst (a++b)) S else .fail
  |_,_=>.fail
noncomputable def lw(d e:D)(S:aa):Res D:=match d,e with
 | .int i,.int j=>.ok (.int (i-j)) S
 |_,_=>.fail
noncomputable def qM(d e:D)(S:aa):Res D:=match d,e with
 | .int i,.int j=>if(-(2^64)<i/\i<2^64)\/(-(2^64)<j/\j<2^64)then .ok (.int (i*j)) S else if LA i<=100000/\LA j<=100000 then .ok (.int (i*j)) S else .fail
 | .lst a,.int k=>if-(2^63)<=k/\k<2^63/\a.length*k.toNat<=bB then .ok (.lst (JQ k.toNat a).flatten) S else .fail
 |_,_=>.fail
theorem Dm:cZ X (binaryOp .FloorDiv) (rI (λ_ j=>0<j/\j<2^100) λi j=>.int (i/j)):=uP λi j _ _ _ _ _ h q=>by
 have a:(0:Int)<j:=h.1;have b:j<2^100:=h.2;refine floordiv_int (by omega) (by rw[Int.fdiv_eq_ediv_of_nonneg i (by omega)];exact q) (.inl (PyProof.noPylong_of_log2 ?_));have H:j.natAbs<2^100:=by omega
 exact Nat.lt_trans ((Nat.log2_lt (by omega)).mpr H) (by decide)
noncomputable def iX(d e:D)(S:aa):Res D:=match d,e with
 | .int i,.int j=>if 0<j/\j<1073741824 then .ok (.int (i/j)) S else if 0<j/\j<2^100 then .ok (.int (i/j)) S else .fail
 |_,_=>.fail
noncomputable def qN(d e:D)(S:aa):Res D:=match d,e with
 | .int i,.int j=>if 0<j then .ok (.int (i%j)) S else .fail
 |_,_=>.fail
noncomputable def qO(d e:D)(S:aa):Res D:=match d,e with
 | .int i,.int j=>if 0<=j then .ok (.int (i/2^j.toNat)) S else .fail
 |_,_=>.fail
noncomputable def qP(d e:D)(S:aa):Res D:=match d,e with
 | .int i,.int j=>.ok (.int (Lr i j)) S
 |_,_=>.fail
noncomputable def orD(d e:D)(S:aa):Res D:=match d,e with
 | .int i,.int j=>.ok (.int (OS i j)) S
 |_,_=>.fail
noncomputable def dj:Np->D->D->aa->Res D
 | .Add=>iW| .Sub=>lw| .Mult=>qM| .FloorDiv=>iX| .Mod=>qN| .Pow=>λ_ _ _=>.fail | .RShift=>qO| .LShift=>λ_ _ _=>.fail | .BitAnd=>qP| .BitOr=>orD
 |_=>λ_ _ _=>.fail
theorem Dq{t b:JP}{W:Lv}(k:Ow s.heap t #[])(g:Ow s.heap b W.toArray)
  (h1:Q (.ref b) s):wpAny (model prog w) A (binaryOp .Add (.ref t) (.ref b)) Q E s:=by
 obtain⟨⟨cls,l,D,sl⟩,e,i,n,j⟩:=id k;obtain⟨⟨c,f,d,S⟩,h,H,N,a⟩:=id g;subst i j H a
 exact OG ⟨_,e,rfl⟩ ⟨_,h,rfl⟩ NA Og PySem.F.slot_tuple_add PySem.F.entry_tuple_add (PySem.F.args_tuple_add_2 _ _)
   (tuple_addW0 t b _ _ n _ _ _ _ _ rfl) ⟨e,h,h1⟩
theorem Dr:cZ X (binaryOp .Add) (λx y H Q=>∃a b ys,x=.ref a/\y=.ref b/\cB X.K H a []/\cB X.K H b ys/\Q (.ref b) H):=by intro j s l H x y v u Q I R g h;obtain⟨a,b,ys,rfl,rfl,c,d,q⟩:=h;cases R;cases g;obtain⟨f,r,p,_⟩:=I.tuple c;obtain⟨i,k,P,_⟩:=I.tuple d;have e:=r.zero;subst e;exact Dq p P ⟨.ref b,H,I,rfl,q⟩
theorem lx:cZ X (binaryOp .Mult) (rI (λi j=>LA i<=100000/\LA j<=100000) λi j=>.int (i*j)):=uP λ_ _ _ _ _ _ _ h q=>PyProof.Rows.mul_int q (PySem.IntMulOk.of_le h.1 h.2 (by lia))
theorem Ds(O:Np):cZ X (binaryOp O) (rD X.K X.mg (dj O)):=by
 intro P s g H x y v u Q I r R h;obtain⟨F,n,S,d,e,c,i,j,w⟩:=h;have D:=hY;cases O with
 |Add=>
  replace w:aU X.K ⟨X.mg,F⟩ n H Q (iW d e S):=w;unfold iW at w;split at w
  ·have:=aG i;have:=aG j;subst x y
   exact qk P s g H _ _ v u Q I r R ⟨_,_,rfl,rfl,w.now c bN⟩
  ·have:=fU i;have:=fU j;subst x y
   split at w
   ·exact CJ P s g H _ _ v u Q I r R ⟨_,_,rfl,rfl,by omega,w.now c iU⟩
   ·exact w.elim
  ·split at w
   ·obtain⟨a,vs,rfl,o,q⟩:=cm i;obtain⟨b,W,rfl,l,z⟩:=cm j;have L:=q.length;have C:=z.length;cases vs with
    |nil=>refine Dr P s g H _ _ v u Q I r R ⟨a,b,W,rfl,rfl,o,l,?_⟩;rename_i as bs _;have:as=[]:=ZW (by grind);subst this;exact w.now c j
    |cons v0 vs=>
     refine ll P s g H _ _ v u Q I r R ⟨a,b,v0::vs,W,rfl,rfl,o,l,by simp,by omega,?_,?_⟩
     ·intro hw;subst hw;rename_i as bs _;have:bs=[]:=ZW (by grind);subst this;rw[Z4]at w;exact w.now c i
     ·intro _ p t;exact w.tup c (q.append z) p t
   ·exact w.elim
  ·split at w
   ·rename_i as bs E A;split at w
    ·obtain⟨a,vs,rfl,o,q⟩:=dq c i E;obtain⟨b,W,rfl,l,z⟩:=dq c j A;have L:=q.length;have C:=z.length;exact qH P s g H _ _ v u Q I r R ⟨a,b,vs,W,rfl,rfl,o,l,by omega,λp t=>w.lst c (q.append z) p t⟩
    ·exact w.elim
   ·exact w.elim
 |Sub=>
  replace w:aU X.K ⟨X.mg,F⟩ n H Q (lw d e S):=w;unfold lw at w;split at w
  ·have:=aG i;have:=aG j;subst x y
   exact ql P s g H _ _ v u Q I r R ⟨_,_,rfl,rfl,w.now c bN⟩
  ·exact w.elim
 |Mult=>
  replace w:aU X.K ⟨X.mg,F⟩ n H Q (qM d e S):=w;unfold qM at w;split at w
  ·have:=aG i;have:=aG j;subst x y
   split at w
   ·rename_i f;exact qm P s g H _ _ v u Q I r R ⟨_,_,rfl,rfl,f,w.now c bN⟩
   ·split at w
    ·rename_i f;exact lx P s g H _ _ v u Q I r R ⟨_,_,rfl,rfl,f,w.now c bN⟩
    ·exact w.elim
  ·split at w
   ·rename_i as k f;obtain⟨a,vs,rfl,o,q⟩:=dq c i rfl;have:=aG j;subst y;refine iT P s g H _ _ v u Q I r R ⟨a,k,vs,rfl,rfl,o,f.1,f.2.1,by rw[<-q.length];omega,λp t=>w.lst c ?_ p t⟩;generalize k.toNat=m;clear f w
    induction m with
    |zero=>simpa using ag.nil
    |succ m B=>rw[LU,LU,M1,M1];exact q.append B
   ·exact w.elim
  ·exact w.elim
 |FloorDiv=>
  replace w:aU X.K ⟨X.mg,F⟩ n H Q (iX d e S):=w;unfold iX at w;split at w
  ·have:=aG i;have:=aG j;subst x y
   split at w
   ·rename_i f;exact kZ P s g H _ _ v u Q I r R ⟨_,_,rfl,rfl,f,w.now c bN⟩
   ·split at w
    ·rename_i f;exact Dm P s g H _ _ v u Q I r R ⟨_,_,rfl,rfl,f,w.now c bN⟩
    ·exact w.elim
  ·exact w.elim
 |Mod=>
  replace w:aU X.K ⟨X.mg,F⟩ n H Q (qN d e S):=w;unfold qN at w;split at w
  ·have:=aG i;have:=aG j;subst x y
   split at w
   ·rename_i f;exact qo P s g H _ _ v u Q I r R ⟨_,_,rfl,rfl,f,w.now c bN⟩
   ·exact w.elim
  ·exact w.elim
 |Pow=>exact w.elim
 |RShift=>
  replace w:aU X.K ⟨X.mg,F⟩ n H Q (qO d e S):=w;unfold qO at w;split at w
  ·have:=aG i;have:=aG j;subst x y
   split at w
   ·rename_i f;exact qp P s g H _ _ v u Q I r R ⟨_,_,rfl,rfl,f,w.now c bN⟩
   ·exact w.elim
  ·exact w.elim
 |LShift=>exact w.elim
 |BitAnd=>
  replace w:aU X.K ⟨X.mg,F⟩ n H Q (qP d e S):=w;unfold qP at w;split at w
  ·have:=aG i;have:=aG j;subst x y
   exact qq P s g H _ _ v u Q I r R ⟨_,_,rfl,rfl,w.now c bN⟩
  ·exact w.elim
 |BitOr=>
  replace w:aU X.K ⟨X.mg,F⟩ n H Q (orD d e S):=w;unfold orD at w;split at w
  ·have:=aG i;have:=aG j;subst x y
   exact vy P s g H _ _ v u Q I r R ⟨_,_,rfl,rfl,w.now c bN⟩
  ·exact w.elim
 |_=>exact w.elim
noncomputable def g5(d e:D)(S:aa):Res D:=match d,e with
 | .lst a,.int k=>if-(2^63)<=k/\k<2^63/\a.length*k.toNat<=bB then .ok (.ref S.length) (S++[(JQ k.toNat a).flatten])else .fail
 |_,_=>.fail
theorem v_:cZ X (binaryOp .Mult) (rD X.K X.mg g5):=by
 intro P s t H x y v u Q I R j h;obtain⟨F,o,S,d,e,c,r,n,w⟩:=h;have l:=hY;unfold g5 at w;split at w
 ·split at w
  ·rename_i as k b;obtain⟨a,vs,rfl,f,q⟩:=dq c r rfl;subst y;have L:=q.length;refine iT _ s _ H _ _ v u Q I R j ⟨a,k,_,rfl,rfl,f,b.1,b.2.1,by lia,λp g=>w.box c ?_ p g⟩;generalize k.toNat=m
   induction m with
   |zero=>rfl
   |succ m i=>exact q.append i
  ·exact w.elim
 ·exact w.elim
end Py
variable {l:List (Str×(List Py.D->Py.aa->Py.Res Py.D))}{φ:List Py.D->Py.aa->Py.Res Py.D}
namespace Py
set_option genInjectivity false in
inductive Sh where
 |non|bl (b:Bool)|int (i:Int)|str (x:Str)|tup (xs:List D)|lst (xs:List D)
noncomputable def sh(S:aa):D->Option Sh
 | .non=>some .non
 | .bl b=>some (.bl b)
 | .int i=>some (.int i)
 | .str x=>some (.str x)
 | .tup xs=>some (.tup xs)
 | .lst xs=>some (.lst xs)
 | .ref n=>(S[n]?).map .lst
 |_=>none
noncomputable def bm:List (Option Bool)->Option Bool
 | []=>some JK
 |o::r=>match o,bm r with
  |some b,some c=>some (b&&c)
  |_,_=>none
noncomputable def wa(f:D->D->Option Bool):Sh->Sh->Option Bool
 | .non,.non=>some JK
 | .bl a,.bl b=>some (a==b)
 | .int a,.int b=>some (a==b)
 | .str a,.str b=>some (a==b)
 | .bl a,.int b=>some ((if a then 1 else 0)==b)
 | .int a,.bl b=>some (a==(if b then 1 else 0))
 | .tup a,.tup b=>(bm (JR f a b)).map (· &&a.length==b.length)
 | .lst a,.lst b=>if a.length=b.length then bm (JR f a b)else some JL
 |_,_=>some JL
noncomputable def cJ(S:aa):Nat->D->D->Option Bool
 |0,_,_=>none
 |n+1,d,e=>match sh S d,sh S e with
  |some x,some y=>wa (cJ S n) x y
  |_,_=>none
noncomputable def eJ(l:List (Option Bool))(j:Nat):Bool:=match l[j]? with
 |some (some b)=>b
 |_=>JK
theorem ly:∀(l:List (Option Bool)) (k:Bool),bm l=some k->(∀(j:Nat) o,l[j]?=some o->o=some (eJ l j))/\k=(JM l.length).all (eJ l)
 | [],k,h=>by unfold bm at h;simp_all
 |o::r,k,h=>by
  unfold bm at h;split at h
  ·rename_i b c E;cases h;obtain⟨H,a⟩:=ly r c E;refine⟨λj o e=>?_,?_⟩
   ·cases j with
    |zero=>simp at e;subst e;simp[eJ]
    |succ j=>rw[H j o (by grind)];simp[eJ]
   ·rw[Zn,List.range_succ_eq_map,NG,List.all_map,a];rfl
  ·cases h
section
noncomputable def qQ(K:Fg)(m:GS)(μ:La)(H:Hp)(s:JN)(u:JO):Sh->Prop
 | .non=>u=.none
 | .bl b=>u=.bool b
 | .int i=>∃t,u=.int i t
 | .str x=>∃t,u=.str x t
 | .tup ds=>∃a its vs,u=.ref a/\s.heap.IsTuple a its.toArray/\Vals vs its/\ag K m μ H ds vs
 | .lst ds=>∃a its vs,u=.ref a/\s.heap.IsList a its.toArray/\Vals vs its/\ag K m μ H ds vs
theorem lz(I:Inv X pq σ H s)(c:aK X.K ⟨X.mg,F⟩ μ S H){x:Sh}(r:Rep X.K ⟨X.mg,F⟩ μ H d v)(q:RelV v u)(e:sh S d=some x):qQ X.K ⟨X.mg,F⟩ μ H s u x:=by
 cases d with
 |non=>cases e;cases gy r;exact q
 |bl b=>cases e;cases fT r;exact q
 |int b=>cases e;cases aG r;exact q
 |str b=>cases e;cases fU r;exact q
 |tup f=>cases e;obtain⟨a,vs,rfl,h,k⟩:=cm r;cases q;obtain⟨i,R,p,_⟩:=I.tuple h;exact⟨a,_,_,rfl,p,R,k⟩
 |lst f=>cases e;obtain⟨a,vs,rfl,h,k⟩:=dq c r rfl;cases q;obtain⟨i,R,p,_⟩:=I.list (.of h);exact⟨a,_,_,rfl,p.isList,R,k⟩
 |ref n=>
  replace e:S[n]?.map _=some x:=e;cases E:S[n]? with
  |none=>simp_all
  |some f=>rw[E]at e;cases e;obtain⟨a,vs,rfl,h,k⟩:=dq c r E;cases q;obtain⟨i,R,p,_⟩:=I.list (.of h);exact⟨a,_,_,rfl,p.isList,R,k⟩
 |_=>cases e
def o8(A:KI)(s:JN)(f:D->D->Option Bool)(K:Fg)(m:GS)(μ:La)(H:Hp):Prop:=
 ∀d e v w u z k,Rep K m μ H d v->RelV v u->Rep K m μ H e w->RelV w z->f d e=some k->SeqAt.EqAt A s u z k
theorem wb{f:D->D->Option Bool}{m:GS}(F:o8 A s f K m μ H){es:List D}{vs W:List V}{Z:Lv}(r:ag K m μ H ds vs)(q:Vals vs us)(R:ag K m μ H es W)(Q:Vals W Z){k:Bool}
  (h:bm (JR f ds es)=some k):∀j (h1:j<us.toArray.size) (h2:j<Z.toArray.size),SeqAt.EqAt A s us.toArray[j] Z.toArray[j] (eJ (JR f ds es) j):=by
 intro j h1 h2;have L:=r.length;have t:=R.length;have x:=q.length;have y:=Q.length
 have l:=by simpa using h1
 have n:=by simpa using h2
 have a:ds[j]?=some (ds[j]'(by omega)):=Zm _;have b:es[j]?=some (es[j]'(by omega)):=Zm _;obtain⟨v,B,C⟩:=r.get a;obtain⟨w,c,d⟩:=R.get b;obtain⟨u,o,e⟩:=q.get B;obtain⟨z,p,g⟩:=Q.get c;have E:us.toArray[j]=u:=by simp_all
 have i:Z.toArray[j]=z:=by simp_all
 rw[E,i];exact F _ _ v w u z _ C e d g ((ly _ _ h).1 j _ (by grind))
theorem wc{f:D->D->Option Bool}{es:List D}{k:Bool}(h:bm (JR f ds es)=some k)(m:Nat)(H:m=min ds.length es.length):(JM m).all (eJ (JR f ds es))=k:=by have:=(ly _ _ h).2;simp_all
open PySem.SeqAt
theorem JC{M:GS}{f:D->D->Option Bool}(F:o8 A.in1 s f K M μ H)(c:A.units<cLine):∀{x y:Sh} {k:Bool},qQ K M μ H s u x->qQ K M μ H s z y->wa f x y=some k->
  RcAt A s u z k/\RcNeAt A s u z (!k):=by
 intro x y k j d h;cases x with
 |non=>
  cases j;cases y with
  |non=>cases d;cases h;exact⟨RcAt.none_none,RcNeAt.none_none⟩
  |bl b=>cases d;cases h;exact⟨RcAt.none_bool b,RcNeAt.none_bool b⟩
  |int b=>obtain⟨t,rfl⟩:=d;cases h;exact⟨RcAt.none_int b t,RcNeAt.none_int b t⟩
  |str b=>obtain⟨t,rfl⟩:=d;cases h;exact⟨RcAt.none_str b t,RcNeAt.none_str b t⟩
  |tup b=>obtain⟨a,e,vs,rfl,p,_⟩:=d;cases h;exact⟨RcAt.none_tuple p c,RcNeAt.none_tuple p c⟩
  |lst b=>obtain⟨a,e,vs,rfl,p,_⟩:=d;cases h;exact⟨RcAt.none_list p c,RcNeAt.none_list p c⟩
 |bl a=>
  cases j;cases y with
  |non=>cases d;cases h;exact⟨RcAt.bool_none a,RcNeAt.bool_none a⟩
  |bl b=>cases d;cases h;exact⟨RcAt.bool_bool a b,RcNeAt.bool_bool a b⟩
  |int b=>obtain⟨t,rfl⟩:=d;cases h;exact⟨RcAt.bool_int a b t,RcNeAt.bool_int a b t⟩
  |str b=>obtain⟨t,rfl⟩:=d;cases h;exact⟨RcAt.bool_str a b t,RcNeAt.bool_str a b t⟩
  |tup b=>obtain⟨_,e,vs,rfl,p,_⟩:=d;cases h;exact⟨RcAt.bool_tuple a p c,RcNeAt.bool_tuple a p c⟩
  |lst b=>obtain⟨_,e,vs,rfl,p,_⟩:=d;cases h;exact⟨RcAt.bool_list a p c,RcNeAt.bool_list a p c⟩
 |int a=>
  obtain⟨T,rfl⟩:=j;cases y with
  |non=>cases d;cases h;exact⟨RcAt.int_none a T,RcNeAt.int_none a T⟩
  |bl b=>cases d;cases h;exact⟨RcAt.int_bool a T b,RcNeAt.int_bool a T b⟩
  |int b=>obtain⟨t,rfl⟩:=d;cases h;exact⟨RcAt.int_int a T b t,RcNeAt.int_int a T b t⟩
  |str b=>obtain⟨t,rfl⟩:=d;cases h;exact⟨RcAt.int_str a T b t,RcNeAt.int_str a T b t⟩
  |tup b=>obtain⟨_,e,vs,rfl,p,_⟩:=d;cases h;exact⟨RcAt.int_tuple a T p c,RcNeAt.int_tuple a T p c⟩
  |lst b=>obtain⟨_,e,vs,rfl,p,_⟩:=d;cases h;exact⟨RcAt.int_list a T p c,RcNeAt.int_list a T p c⟩
 |str a=>
  obtain⟨T,rfl⟩:=j;cases y with
  |non=>cases d;cases h;exact⟨RcAt.str_none a T,RcNeAt.str_none a T⟩
  |bl b=>cases d;cases h;exact⟨RcAt.str_bool a T b,RcNeAt.str_bool a T b⟩
  |int b=>obtain⟨t,rfl⟩:=d;cases h;exact⟨RcAt.str_int a T b t,RcNeAt.str_int a T b t⟩
  |str b=>obtain⟨t,rfl⟩:=d;cases h;exact⟨RcAt.str_str a T b t,RcNeAt.str_str a T b t⟩
  |tup b=>obtain⟨_,e,vs,rfl,p,_⟩:=d;cases h;exact⟨RcAt.str_tuple a T p c,RcNeAt.str_tuple a T p c⟩
  |lst b=>obtain⟨_,e,vs,rfl,p,_⟩:=d;cases h;exact⟨RcAt.str_list a T p c,RcNeAt.str_list a T p c⟩
 |tup a=>
  obtain⟨G,I,V,rfl,P,q,r⟩:=j;cases y with
  |non=>cases d;cases h;exact⟨RcAt.tuple_none P c,RcNeAt.tuple_none P c⟩
  |bl b=>cases d;cases h;exact⟨RcAt.tuple_bool b P c,RcNeAt.tuple_bool b P c⟩
  |int b=>obtain⟨t,rfl⟩:=d;cases h;exact⟨RcAt.tuple_int b t P c,RcNeAt.tuple_int b t P c⟩
  |str b=>obtain⟨t,rfl⟩:=d;cases h;exact⟨RcAt.tuple_str b t P c,RcNeAt.tuple_str b t P c⟩
  |tup b=>
   obtain⟨n,i,v,rfl,g,Q,R⟩:=d;replace h:(bm (JR f a b)).map (· &&a.length==b.length)=some k:=h;obtain⟨O,w,J⟩:=Yc.mp h;have m:=wb F r q R Q w;have L:=r.length;have B:=R.length;have o:=q.length;have C:=Q.length
   have E:k=((JM (min I.toArray.size i.toArray.size)).all (eJ (JR f a b))&&I.toArray.size==i.toArray.size):=by rw[<-J,wc w _ (by grind),ZS,ZS,<-o,<-C,<-L,<-B]
   rw[E];exact⟨RcAt.tuples P g c m,RcNeAt.tuples P g c m⟩
  |lst b=>obtain⟨n,i,v,rfl,g,_⟩:=d;cases h;exact⟨RcAt.tuple_list P g c,RcNeAt.tuple_list P g c⟩
 |lst a=>
  obtain⟨G,I,V,rfl,P,q,r⟩:=j;cases y with
  |non=>cases d;cases h;exact⟨RcAt.list_none P c,RcNeAt.list_none P c⟩
  |bl b=>cases d;cases h;exact⟨RcAt.list_bool b P c,RcNeAt.list_bool b P c⟩
  |int b=>obtain⟨t,rfl⟩:=d;cases h;exact⟨RcAt.list_int b t P c,RcNeAt.list_int b t P c⟩
  |str b=>obtain⟨t,rfl⟩:=d;cases h;exact⟨RcAt.list_str b t P c,RcNeAt.list_str b t P c⟩
  |tup b=>obtain⟨n,i,v,rfl,g,_⟩:=d;cases h;exact⟨RcAt.list_tuple P g c,RcNeAt.list_tuple P g c⟩
  |lst b=>
   obtain⟨n,i,v,rfl,g,Q,R⟩:=d;have L:=r.length;have B:=R.length;have o:=q.length;have C:=Q.length
   replace h:(if a.length=b.length then bm (JR f a b)else some JL)=some k:=h;split at h
   ·rename_i N;have m:=wb F r q R Q h
    have E:k=(JM I.toArray.size).all (eJ (JR f a b)):=by rw[wc h _ (by rw[ZS,<-o,<-L];omega)]
    rw[E];have l:I.toArray.size=i.toArray.size:=by grind
    exact⟨RcAt.lists P g l c m,RcNeAt.lists P g l c m⟩
   ·rename_i N;cases h;have l:(I.toArray.size !=i.toArray.size)=JK:=by grind
    exact⟨RcAt.lists_lengths P g l c,RcNeAt.lists_lengths P g l c⟩
theorem wd(I:Inv X pq σ H s)(sk:aK X.K ⟨X.mg,F⟩ μ S H):∀(n:Nat) (d e:D) (v:V) (k:Bool),Rep X.K ⟨X.mg,F⟩ μ H d v->Rep X.K ⟨X.mg,F⟩ μ H e v->cJ S n d e=some k->k=JK:=by
 intro n
 induction n with
 |zero=>intro d e v k _ _ h;cases h
 |succ n ih=>
  intro d e v k rd re h
  have L:∀(p E:List D) (vs:List V) (k:Bool),ag X.K ⟨X.mg,F⟩ μ H p vs->ag X.K ⟨X.mg,F⟩ μ H E vs->bm (JR (cJ S n) p E)=some k->k=JK:=by
   intro p
   induction p with
   |nil=>intro E vs k _ _ h;cases h;rfl
   |cons d p Z=>
    intro E vs k R r h;obtain⟨v,W,rfl,T,b1⟩:=R.uncons;cases E with
    |nil=>cases h;rfl
    |cons e E=>
     obtain⟨v',ws',q,G,b2⟩:=r.uncons;cases q;rw[List.zipWith_cons_cons]at h;unfold bm at h;split at h
     ·rename_i x y q K;cases h;rw[ih d e v x T G q,Z E W y b1 b2 K];rfl
     ·cases h
  unfold cJ at h;cases q:sh S d with
  |none=>rw[q]at h;cases h
  |some x=>
   cases K:sh S e with
   |none=>rw[q,K]at h;cases h
   |some y=>
    rw[q,K]at h;replace h:wa (cJ S n) x y=some k:=h
    obtain⟨u,ru⟩:∃u,RelV v u:=by
     cases v with
     |non=>exact⟨_,rfl⟩
     |bl b=>exact⟨_,rfl⟩
     |int i=>exact⟨.int i 0,0,rfl⟩
     |str x=>exact⟨.str x 0,0,rfl⟩
     |byt x=>exact⟨.bytes x 0,0,rfl⟩
     |flt x=>exact⟨.float x 0,0,rfl⟩
     |ref a=>exact⟨_,rfl⟩
     |ty n=>exact⟨_,rfl⟩
    have C:=lz I sk rd ru q;have f:=lz I sk re ru K
    have len:∀{p E:List D} {vs W:List V} {us:Lv},ag X.K ⟨X.mg,F⟩ μ H p vs->Vals vs us->ag X.K ⟨X.mg,F⟩ μ H E W->Vals W us->vs=W/\p.length=E.length:=λR O r Q=>by have:=O.inj Q;subst this;exact⟨rfl,R.length.trans r.length.symm⟩
    cases x with
    |non=>
     cases C;cases y with
     |non=>cases h;rfl
     |bl b=>cases f
     |int b=>obtain⟨t,z⟩:=f;cases z
     |str b=>obtain⟨t,z⟩:=f;cases z
     |tup b=>obtain⟨_,_,_,z,_⟩:=f;cases z
     |lst b=>obtain⟨_,_,_,z,_⟩:=f;cases z
    |bl a=>
     cases C;cases y with
     |non=>cases f
     |bl b=>cases f;cases h;simp
     |int b=>obtain⟨t,z⟩:=f;cases z
     |str b=>obtain⟨t,z⟩:=f;cases z
     |tup b=>obtain⟨_,_,_,z,_⟩:=f;cases z
     |lst b=>obtain⟨_,_,_,z,_⟩:=f;cases z
    |int a=>
     obtain⟨t',rfl⟩:=C;cases y with
     |non=>cases f
     |bl b=>cases f
     |int b=>obtain⟨t,z⟩:=f;cases z;cases h;simp
     |str b=>obtain⟨t,z⟩:=f;cases z
     |tup b=>obtain⟨_,_,_,z,_⟩:=f;cases z
     |lst b=>obtain⟨_,_,_,z,_⟩:=f;cases z
    |str a=>
     obtain⟨t',rfl⟩:=C;cases y with
     |non=>cases f
     |bl b=>cases f
     |int b=>obtain⟨t,z⟩:=f;cases z
     |str b=>obtain⟨t,z⟩:=f;cases z;cases h;simp
     |tup b=>obtain⟨_,_,_,z,_⟩:=f;cases z
     |lst b=>obtain⟨_,_,_,z,_⟩:=f;cases z
    |tup a=>
     obtain⟨T,m,A,rfl,N,O,R⟩:=C;cases y with
     |non=>cases f
     |bl b=>cases f
     |int b=>obtain⟨t,z⟩:=f;cases z
     |str b=>obtain⟨t,z⟩:=f;cases z
     |tup b=>
      obtain⟨G,j,B,z,P,Q,r⟩:=f;cases z
      have U:m=j:=by
       obtain⟨o,w,_,n,M⟩:=N;obtain⟨o',g,_,n',l⟩:=P;rw[w]at g;cases g;rw[M]at l;injection l with z _
       simpa using Z5 Array.toList z
      subst U;obtain⟨rfl,Y⟩:=len R O r Q;replace h:(bm (JR (cJ S n) a b)).map (· &&a.length==b.length)=some k:=h;obtain⟨k1,e3,e4⟩:=Yc.mp h;rw[<-e4,L a b A k1 R r e3,Y];simp
     |lst b=>obtain⟨G,j,B,z,P,Q,r⟩:=f;cases z;obtain⟨o,w,c,n,M⟩:=N;obtain⟨o',g,J,n',l⟩:=P;rw[w]at g;cases g;rw[c]at J;exact absurd J (by decide)
    |lst a=>
     obtain⟨T,m,A,rfl,N,O,R⟩:=C;cases y with
     |non=>cases f
     |bl b=>cases f
     |int b=>obtain⟨t,z⟩:=f;cases z
     |str b=>obtain⟨t,z⟩:=f;cases z
     |tup b=>obtain⟨G,j,B,z,P,Q,r⟩:=f;cases z;obtain⟨o,w,c,n,M⟩:=N;obtain⟨o',g,J,n',l⟩:=P;rw[w]at g;cases g;rw[c]at J;exact absurd J (by decide)
     |lst b=>
      obtain⟨G,j,B,z,P,Q,r⟩:=f;cases z
      have U:m=j:=by
       obtain⟨o,w,_,n,M⟩:=N;obtain⟨o',g,_,n',l⟩:=P;rw[w]at g;cases g;rw[M]at l;injection l with z _
       simpa using Z5 Array.toList z
      subst U;obtain⟨rfl,Y⟩:=len R O r Q;replace h:(if a.length=b.length then bm (JR (cJ S n) a b)else some JL)=some k:=h;rw[if_pos Y]at h;exact L a b A k R r h
theorem uQ(I:Inv X pq σ H s)(G:aK X.K ⟨X.mg,F⟩ μ S H):∀(n:Nat) (A:KI),A.units+n<cLine->∀d e v w u z k,Rep X.K ⟨X.mg,F⟩ μ H d v->RelV v u->Rep X.K ⟨X.mg,F⟩ μ H e w->RelV w z->cJ S n d e=some k->
  RcAt A s u z k/\RcNeAt A s u z (!k)/\EqAt A s u z k:=by
 intro n
 induction n with
 |zero=>intro A _ d e v w u z k _ _ _ _ h;cases h
 |succ n Z=>
  intro A hA d e v w u z k L R M B h;have o:=λ(D:v=w)=>wd I G (n+1) d e v k L (D▸M) h;unfold cJ at h;cases E:sh S d with
  |none=>rw[E]at h;cases h
  |some x=>
   cases C:sh S e with
   |none=>rw[E,C]at h;cases h
   |some y=>
    rw[E,C]at h;replace h:wa (cJ S n) x y=some k:=h;have j:=lz I G L R E;have f:=lz I G M B C;have Y:A.in1.units=A.units+1:=rfl;obtain⟨J,O⟩:=JC (λd e v w u z k a b c Q h=>(Z A.in1 (by omega) d e v w u z k a b c Q h).2.2) (by omega) j f h;refine⟨J,O,?_⟩
    have r:∀{l b:JP},u=.ref l->z=.ref b->EqAt A s u z k:=λ{l b} U W=>by
     subst U;subst W;by_cases K:l=b
     ·subst K
      have D:v=w:=by
       cases v<;>first| (cases R;done)|skip
       all_goals first| (obtain⟨_,q⟩:=R;cases q;done)|skip
       cases w<;>first| (cases B;done)|skip
       all_goals first| (obtain⟨_,q⟩:=B;cases q;done)|skip
       cases R;cases B;rfl
      rw[o D];exact EqAt.same _
     ·exact .of_refs K J
    have g:A.units<cLine:=by omega
    cases x with
    |non=>
     cases j;cases y with
     |non=>cases f;cases h;exact EqAt.same _
     |bl b=>cases f;cases h;exact EqAt.none_bool b
     |int b=>obtain⟨t,rfl⟩:=f;cases h;exact EqAt.none_int b t
     |str b=>obtain⟨t,rfl⟩:=f;cases h;exact EqAt.none_str b t
     |tup b=>obtain⟨a,i,vs,rfl,p,_⟩:=f;cases h;exact EqAt.none_tuple p g
     |lst b=>obtain⟨a,i,vs,rfl,p,_⟩:=f;cases h;exact EqAt.none_list p g
    |bl a=>
     cases j;cases y with
     |non=>cases f;cases h;exact EqAt.bool_none a
     |bl b=>cases f;cases h;exact EqAt.bool_bool a b
     |int b=>obtain⟨t,rfl⟩:=f;cases h;exact EqAt.bool_int a b t
     |str b=>obtain⟨t,rfl⟩:=f;cases h;exact EqAt.bool_str a b t
     |tup b=>obtain⟨_,i,vs,rfl,p,_⟩:=f;cases h;exact EqAt.bool_tuple a p g
     |lst b=>obtain⟨_,i,vs,rfl,p,_⟩:=f;cases h;exact EqAt.bool_list a p g
    |int a=>
     obtain⟨T,rfl⟩:=j;cases y with
     |non=>cases f;cases h;exact EqAt.int_none a T
     |bl b=>cases f;cases h;exact EqAt.int_bool a T b
     |int b=>obtain⟨t,rfl⟩:=f;cases h;exact EqAt.int_int a T b t
     |str b=>obtain⟨t,rfl⟩:=f;cases h;exact EqAt.int_str a T b t
     |tup b=>obtain⟨_,i,vs,rfl,p,_⟩:=f;cases h;exact EqAt.int_tuple a T p g
     |lst b=>obtain⟨_,i,vs,rfl,p,_⟩:=f;cases h;exact EqAt.int_list a T p g
    |str a=>
     obtain⟨T,rfl⟩:=j;cases y with
     |non=>cases f;cases h;exact EqAt.str_none a T
     |bl b=>cases f;cases h;exact EqAt.str_bool a T b
     |int b=>obtain⟨t,rfl⟩:=f;cases h;exact EqAt.str_int a T b t
     |str b=>obtain⟨t,rfl⟩:=f;cases h;exact EqAt.str_str a T b t
     |tup b=>obtain⟨_,i,vs,rfl,p,_⟩:=f;cases h;exact EqAt.str_tuple a T p g
     |lst b=>obtain⟨_,i,vs,rfl,p,_⟩:=f;cases h;exact EqAt.str_list a T p g
    |tup a=>
     obtain⟨N,m,V,rfl,P,_⟩:=j;cases y with
     |non=>cases f;cases h;exact EqAt.tuple_none P g
     |bl b=>cases f;cases h;exact EqAt.tuple_bool b P g
     |int b=>obtain⟨t,rfl⟩:=f;cases h;exact EqAt.tuple_int b t P g
     |str b=>obtain⟨t,rfl⟩:=f;cases h;exact EqAt.tuple_str b t P g
     |tup b=>obtain⟨_,i,vs,rfl,p,_⟩:=f;exact r rfl rfl
     |lst b=>obtain⟨_,i,vs,rfl,p,_⟩:=f;exact r rfl rfl
    |lst a=>
     obtain⟨N,m,V,rfl,P,_⟩:=j;cases y with
     |non=>cases f;cases h;exact EqAt.list_none P g
     |bl b=>cases f;cases h;exact EqAt.list_bool b P g
     |int b=>obtain⟨t,rfl⟩:=f;cases h;exact EqAt.list_int b t P g
     |str b=>obtain⟨t,rfl⟩:=f;cases h;exact EqAt.list_str b t P g
     |tup b=>obtain⟨_,i,vs,rfl,p,_⟩:=f;exact r rfl rfl
     |lst b=>obtain⟨_,i,vs,rfl,p,_⟩:=f;exact r rfl rfl
end
noncomputable def lA(eq lt:D->D->Option Bool):List D->List D->Option Bool
 | [],[]=>some JL
 | [],_::_=>some JK
 |_::_,[]=>some JL
 |a::as,b::bs=>match eq a b with
  |some JK=>lA eq lt as bs
  |some JL=>lt a b
  |none=>none
noncomputable def cY(S:aa):Nat->D->D->Option Bool
 |0,_,_=>none
 |n+1,.int a,.int b=>some (decide (a<b))
 |n+1,.tup a,.tup b=>lA (cJ S n) (cY S n) a b
 |_,_,_=>none
open PySem.SeqAt
def gz(A:KI)(s:JN)(y x:JO)(b:Bool):Prop:=
 ∀(prog:J8) (w:Ke) (E:Vs) (Q:Vs),Q (.bool b) s->wpAny (model prog w) A (richCompare .Lt y x) Q E s
inductive c_ (A:KI)(s:JN):Lv->Lv->Bool->Prop where
 |nn:c_ A s [] [] JL
 |nc {w ws}:c_ A s [] (w::ws) JK
 |cn {v vs}:c_ A s (v::vs) [] JL
 |eq {v w vs ws k}:EqAt A s v w JK->c_ A s vs ws k->c_ A s (v::vs) (w::ws) k
 |lt {v w vs ws k}:EqAt A s v w JL->gz A s v w k->c_ A s (v::vs) (w::ws) k
section
open PySem.AutoSeq1 (wpAny_loadPart')
open PySem.MeetsSeq PySem.MeetsSeq2 PySem.MeetsSeq3
theorem Dt(l b:JP)(items i:Av)(n N:Nat)(B D:Option JP)(sl z:Array (Ov))(k:Bool):
  Meets (KN.«tuple.__lt__» ⟨[.ref l,.ref b],[]⟩)
   (λA R s=>s.heap.get? l=some {cls:=.type "tuple",dict:=B,data:=.seq items n,slots:=sl}/\s.heap.get? b=some {cls:=.type "tuple",dict:=D,data:=.seq i N,slots:=z}/\
    c_ A.in1 s items.toList i.toList k/\R (.ok (.ret (.bool k))) s):=
 .of_wp λp w A R s h=>by
  obtain⟨t,g,d,T,O⟩:=s;obtain⟨F,C,q,h⟩:=h;have K:=Nl
  wp_walk using Mz F,Mz C,NB _ (λr b S=>b.1=none/\S=⟨t,g,d,T,O⟩/\∃(vs W:Lv),r=vs.zip W/\
   c_ A.in1 ⟨t,g,d,T,O⟩ vs W k/\vs.length+i.size=W.length+items.size/\R (.ok (.ret (.bool k))) ⟨t,g,d,T,O⟩) _
  case turn=>
   rintro⟨y,x⟩ r b S ⟨e,rfl,vs,W,a,f,H,hR⟩;cases f with
   |nn=>rw[L7]at a;cases a
   |nc=>rw[L7]at a;cases a
   |cn=>rw[ML]at a;cases a
   |eq m o=>
    rw[J4]at a;injection a with j c
    injection j with v q
    subst v q;simp only[Zn]at H;refine Za (m p w _ _ ?_)
    wp_walk
    exact⟨rfl,rfl,_,_,c,o,by omega,hR⟩
   |lt m o=>
    rw[J4]at a;injection a with j c
    injection j with v q
    subst v q;refine Za (m p w _ _ ?_);have u:=λ(E:Vs) (Q:Vs)=>o p w E Q
    wp_walk using u
    exact⟨_,rfl,by simpa using hR⟩
  case fin=>
   rintro⟨I,J⟩ S ⟨e,rfl,vs,W,a,f,H,hR⟩;simp only at e;subst e
   have G:k=decide (items.size<i.size):=by
    cases f with
    |nn=>simp only[Yb]at H;exact(Zy (by omega)).symm
    |nc=>simp only[Yb,Zn]at H;exact(Zr (by omega)).symm
    |cn=>simp only[Yb,Zn]at H;exact(Zy (by omega)).symm
    |eq m o=>rw[J4]at a;cases a
    |lt m o=>rw[J4]at a;cases a
   rw[G]at hR
   wp_walk
   exact⟨_,rfl,by simpa[Ml]using hR⟩
  case h=>exact⟨rfl,rfl,items.toList,i.toList,rfl,q,by simp;omega,h⟩
end
theorem gz.tuples{l b:JP}{vs W:Lv}{k:Bool}(m:s.heap.IsTuple l vs.toArray)(g:s.heap.IsTuple b W.toArray)(o:A.units<cLine)(r:c_ A.in1 s vs W k):gz A s (.ref l) (.ref b) k:=λp w E Q h=>by
 obtain⟨⟨cls,q,D,sl⟩,e,i,n,j⟩:=id m;obtain⟨⟨C,f,d,S⟩,H,a,N,c⟩:=id g;subst i j a c
 exact OK ⟨_,e,rfl⟩ ⟨_,H,rfl⟩ PySem.F.slot_tuple_lt PySem.F.entry_tuple_lt (PySem.F.args_tuple_lt_2 _ _) (Dt l b _ _ n _ _ _ _ _ k)
  ⟨e,H,by lia,show Nm k≠N1/\Q _ s from⟨(λx=>nomatch x),h⟩⟩ o
def we(A:KI)(s:JN)(y x:JO)(b:Bool):Prop:=
 ∀(prog:J8) (w:Ke) (E:Vs) (Q:Vs),Q (.bool b) s->wpAny (model prog w) A (richCompare .LtE y x) Q E s
inductive dt (A:KI)(s:JN):Lv->Lv->Bool->Prop where
 |nl {ws}:dt A s [] ws JK
 |cn {v vs}:dt A s (v::vs) [] JL
 |eq {v w vs ws k}:EqAt A s v w JK->dt A s vs ws k->dt A s (v::vs) (w::ws) k
 |le {v w vs ws k}:EqAt A s v w JL->we A s v w k->dt A s (v::vs) (w::ws) k
section
open PySem.AutoSeq1 (wpAny_loadPart')
open PySem.MeetsSeq PySem.MeetsSeq2 PySem.MeetsSeq3
theorem Du(l b:JP)(xs Y:Av)(n N:Nat)(z D:Option JP)(sl v:Array (Ov))(k:Bool):
  Meets (KN.«tuple.__le__» ⟨[.ref l,.ref b],[]⟩)
   (λA R s=>s.heap.get? l=some {cls:=.type "tuple",dict:=z,data:=.seq xs n,slots:=sl}/\s.heap.get? b=some {cls:=.type "tuple",dict:=D,data:=.seq Y N,slots:=v}/\
    dt A.in1 s xs.toList Y.toList k/\R (.ok (.ret (.bool k))) s):=
 .of_wp λp w A R s h=>by
  obtain⟨q,g,d,T,O⟩:=s;obtain⟨C,B,o,h⟩:=h;have J:=Nl
  wp_walk using Mz C,Mz B,NB _ (λr b S=>b.1=none/\S=⟨q,g,d,T,O⟩/\∃(vs W:Lv),r=vs.zip W/\
   dt A.in1 ⟨q,g,d,T,O⟩ vs W k/\vs.length+Y.size=W.length+xs.size/\R (.ok (.ret (.bool k))) ⟨q,g,d,T,O⟩) _
  case turn=>
   rintro⟨y,x⟩ r b S ⟨e,rfl,vs,W,a,f,H,hR⟩;cases f with
   |nl=>rw[L7]at a;cases a
   |cn=>rw[ML]at a;cases a
   |eq j m=>
    rw[J4]at a;injection a with i c
    injection i with u o
    subst u o;simp only[Zn]at H;refine Za (j p w _ _ ?_)
    wp_walk
    exact⟨rfl,rfl,_,_,c,m,by omega,hR⟩
   |le j m=>
    rw[J4]at a;injection a with i c
    injection i with u o
    subst u o;refine Za (j p w _ _ ?_);have t:=λ(E:Vs) (Q:Vs)=>m p w E Q
    wp_walk using t
    exact⟨_,rfl,by simpa using hR⟩
  case fin=>
   rintro⟨G,I⟩ S ⟨e,rfl,vs,W,a,f,H,hR⟩;simp only at e;subst e
   have F:k=decide (xs.size<=Y.size):=by
    cases f with
    |nl=>simp only[Yb]at H;exact(Zr (by omega)).symm
    |cn=>simp only[Yb,Zn]at H;exact(Zy (by omega)).symm
    |eq j m=>rw[J4]at a;cases a
    |le j m=>rw[J4]at a;cases a
   rw[F]at hR
   wp_walk
   exact⟨_,rfl,by simpa[Ml]using hR⟩
  case h=>exact⟨rfl,rfl,xs.toList,Y.toList,rfl,o,by simp;omega,h⟩
end
theorem Dv{l b:JP}{vs W:Lv}{k:Bool}(m:s.heap.IsTuple l vs.toArray)(g:s.heap.IsTuple b W.toArray)(o:A.units<cLine)(r:dt A.in1 s vs W k):we A s (.ref l) (.ref b) k:=λp w E Q h=>by
 obtain⟨⟨cls,q,D,sl⟩,e,i,n,j⟩:=id m;obtain⟨⟨C,f,d,S⟩,H,a,N,c⟩:=id g;subst i j a c
 exact OK ⟨_,e,rfl⟩ ⟨_,H,rfl⟩ PySem.F.slot_tuple_le PySem.F.entry_tuple_le (PySem.F.args_tuple_le_2 _ _) (Du l b _ _ n _ _ _ _ _ k)
  ⟨e,H,by lia,show Nm k≠N1/\Q _ s from⟨(λx=>nomatch x),h⟩⟩ o
noncomputable def wf:List D->List D->Option Bool
 | [],_=>some JK
 |_::_,[]=>some JL
 | .int a::as,.int b::bs=>if a=b then wf as bs else some (decide (a<=b))
 |_::_,_::_=>none
theorem iY{K:Fg}{m:GS}{μ:La}{H:Hp}{A:KI}{s:JN}:∀(ds es:List D) (vs W:List V) (us zs:Lv) (k:Bool),ag K m μ H ds vs->Vals vs us->ag K m μ H es W->Vals W zs->wf ds es=some k->dt A s us zs k
 | [],es,vs,W,us,zs,k,r,q,R,i,h=>by
  unfold ag at r;subst r;have:=q.zero;subst this
  cases h;exact .nl
 |d::ds,[],vs,W,us,zs,k,r,q,R,i,h=>by
  obtain⟨v,vs,rfl,l,B⟩:=r.uncons;unfold ag at R;subst R;have:=i.zero;subst this
  cases q;have f:some JL=some k:=by cases d<;>exact h
  cases f;exact .cn
 |d::ds,e::es,vs,W,us,zs,k,r,q,R,i,h=>by
  obtain⟨v,vs,rfl,l,B⟩:=r.uncons;obtain⟨w,W,rfl,n,o⟩:=R.uncons;cases d with
  |int a=>cases e with
   |int b=>
    have:=aG l;have:=aG n;subst v w
    cases q with
    |cons C x=>cases i with
     |cons u y=>
      obtain⟨t,rfl⟩:=C;obtain⟨T,rfl⟩:=u;have f:(if a=b then wf ds es else some (decide (a<=b)))=some k:=h;have g:=EqAt.int_int (A:=A) (s:=s) a t b T;by_cases c:a=b
      ·rw[if_pos c]at f;have j:(a==b)=JK:=by simpa using c
       rw[j]at g;exact .eq g (iY ds es vs W _ _ k B x o y f)
      ·rw[if_neg c]at f;have j:(a==b)=JL:=by simpa using c
       rw[j]at g;cases f;exact .le g λp w E Q z=>(PyProof.Rows.le_int z:wpAny (model p w) A (compareOp .LtE (.int _ t) (.int _ T)) Q E s)
   |_=>cases h
  |_=>
   have f:(none:Option Bool)=some k:=by cases e<;>exact h
   cases f
theorem qR(I:Inv X pq σ H s)(K:aK X.K ⟨X.mg,F⟩ μ S H):∀(n:Nat) (A:KI),A.units+n<cLine->∀d e v w u z k,Rep X.K ⟨X.mg,F⟩ μ H d v->RelV v u->Rep X.K ⟨X.mg,F⟩ μ H e w->RelV w z->cY S n d e=some k->gz A s u z k:=by
 intro n
 induction n with
 |zero=>intro A _ d e v w u z k _ _ _ _ h;cases h
 |succ n ih=>
  intro A hA d e v w u z k y G B J h;have hin:A.in1.units=A.units+1:=rfl
  have L:∀(f c:List D) (vs W:List V) (U Z:Lv),ag X.K ⟨X.mg,F⟩ μ H f vs->Vals vs U->ag X.K ⟨X.mg,F⟩ μ H c W->Vals W Z->lA (cJ S n) (cY S n) f c=some k->c_ A.in1 s U Z k:=by
   intro f
   induction f with
   |nil=>
    intro c vs W U Z R g r q h;unfold ag at R;subst R;have:=g.zero;subst this
    cases c with
    |nil=>unfold ag at r;subst r;have:=q.zero;subst this;cases h;exact .nn
    |cons e c=>obtain⟨w,W,rfl,_,_⟩:=r.uncons;cases q;cases h;exact .nc
   |cons d f x=>
    intro c vs W U Z R g r q h;obtain⟨v,vs,rfl,i,M⟩:=R.uncons;cases g with
    |cons C O=>
     cases c with
     |nil=>unfold ag at r;subst r;have:=q.zero;subst this;cases h;exact .cn
     |cons e c=>
      obtain⟨w,W,rfl,j,N⟩:=r.uncons;cases q with
      |cons l P=>
       unfold lA at h;split at h
       ·rename_i m;exact .eq (uQ I K n A.in1 (by omega) d e v w _ _ JK i C j l m).2.2 (x c vs W _ _ M O N P h)
       ·rename_i m;exact .lt (uQ I K n A.in1 (by omega) d e v w _ _ JL i C j l m).2.2 (ih A.in1 (by omega) d e v w _ _ k i C j l h)
       ·cases h
  unfold cY at h;split at h
  ·rename_i T;cases T
  ·have:=aG y;have:=aG B;subst v w
   obtain⟨t,rfl⟩:=G;obtain⟨t',rfl⟩:=J;cases h;exact λp w E Q hq=>(PyProof.Rows.lt_int hq:wpAny (model p w) A (compareOp .Lt (.int _ t) (.int _ t')) Q E s)
  ·rename_i n' f c o;cases o;obtain⟨a,vs,rfl,Y,R⟩:=cm y;obtain⟨b,W,rfl,h2,r⟩:=cm B;cases G;cases J;obtain⟨U,g,p1,_⟩:=I.tuple Y;obtain⟨Z,q,p2,_⟩:=I.tuple h2;exact gz.tuples p1 p2 (by omega) (L f c vs W U Z R g r q h)
  ·cases h
noncomputable def aM:Nat:=40
noncomputable def iZ:D->Bool
 | .non=>JK
 |_=>JL
noncomputable def aR(o:Option Bool)(S:aa):Res D:=match o with
 |some k=>.ok (.bl k) S
 |none=>.fail
noncomputable def eW(l:List (Option Bool)):Option Bool:=(bm (l.map λo=>o.map not)).map not
noncomputable def fm(d e:D)(S:aa):Option Bool:=match au S e with
 |some xs=>eW (xs.map λy=>cJ S aM y d)
 |none=>none
noncomputable def BP(d e:D)(S:aa):Res D:=match d,e with
 | .int i,.int j=>.ok (.bl (decide (i<=j))) S
 | .tup a,.tup b=>aR (wf a b) S
 |_,_=>.fail
noncomputable def Dw(d e:D)(S:aa):Res D:=match d,e with
 | .int i,.int j=>.ok (.bl (decide (j<i))) S
 |_,_=>.fail
noncomputable def Dx(d e:D)(S:aa):Res D:=match d,e with
 | .int i,.int j=>.ok (.bl (decide (j<=i))) S
 |_,_=>.fail
noncomputable def Dy(d e:D)(S:aa):Res D:=match e with
 | .non=>.ok (.bl (iZ d)) S
 |_=>.fail
noncomputable def qS(d e:D)(S:aa):Res D:=match e with
 | .non=>.ok (.bl (!iZ d)) S
 |_=>.fail
noncomputable def aF(o:Me)(d e:D)(S:aa):Res D:=match o with
 | .Eq=>aR (cJ S aM d e) S
 | .NotEq=>aR ((cJ S aM d e).map not) S
 | .Lt=>aR (cY S aM d e) S
 | .LtE=>BP d e S
 | .Gt=>Dw d e S
 | .GtE=>Dx d e S
 | .In=>aR (fm d e S) S
 | .NotIn=>aR ((fm d e S).map not) S
 | .Is=>Dy d e S
 | .IsNot=>qS d e S
theorem wg{m:GS}(r:Rep K m μ H d v):decide (v=.non)=iZ d:=by
 cases d with
 |non=>cases gy r;rfl
 |bl b=>cases fT r;rfl
 |int b=>cases aG r;rfl
 |str b=>cases fU r;rfl
 |tup b=>obtain⟨a,vs,rfl,_⟩:=cm r;rfl
 |lst b=>obtain⟨a,vs,rfl,_⟩:=r;rfl
 |ref b=>obtain⟨a,rfl,_⟩:=r;rfl
 |scr b=>obtain⟨a,vs,rfl,_⟩:=r;rfl
 |fn b=>obtain⟨a,rfl,_⟩:=r;rfl
 |dct=>obtain⟨a,rfl,_⟩:=r;rfl
 |dks b=>obtain⟨a,_,rfl,_⟩:=r;rfl
 |ty n=>cases r;rfl
theorem fB{m:GS}{Q:VK}{o:Option Bool}(w:aU K m μ H Q (aR o S))(s:aK K m μ S H):∃k,o=some k/\Q (.bl k) H:=by
 cases o with
 |none=>exact w.elim
 |some k=>exact⟨k,rfl,w.now s cN⟩
theorem wh{l:List (Option Bool)}{k:Bool}(h:eW l=some k):(∀o∈l,o.isSome=JK)/\k=l.any (λo=>o==some JK):=by
 unfold eW at h;obtain⟨K,e,E⟩:=Yc.mp h;subst E;clear h
 induction l generalizing K with
 |nil=>cases e;exact⟨by simp,rfl⟩
 |cons o r I=>
  rw[Kj]at e;unfold bm at e;split at e
  ·rename_i b c a d;cases e;obtain⟨g,i⟩:=I c d;obtain⟨B,rfl,f⟩:=Yc.mp a;subst f;refine⟨λo H=>?_,?_⟩
   ·rcases Zk.mp H with rfl|H
    ·rfl
    ·exact g o H
   ·rw[List.any_cons,<-i];cases B<;>cases c<;>rfl
  ·cases e
theorem o9(I:Inv X pq σ H s)(G:aK X.K ⟨X.mg,F⟩ μ S H)(hu:A.units+64<cLine){e:D}{w:V}{k:Bool}(Y:Rep X.K ⟨X.mg,F⟩ μ H d v)(ru:RelV v u)(Z:Rep X.K ⟨X.mg,F⟩ μ H e w)(rz:RelV w z)
  (h:fm d e S=some k):∃(a:JP) (its:Lv) (f:JO->Bool),z=.ref a/\(s.heap.IsList a its.toArray\/s.heap.IsTuple a its.toArray)/\(∀y∈its.toArray,EqAt A.in1 s y u (f y))/\its.toArray.any f=k:=by
 unfold fm at h;split at h
 ·rename_i g J;obtain⟨a,vs,rfl,l,r⟩:=fS G Z J;cases rz
  obtain⟨its,q,W⟩:∃its,Vals vs its/\(s.heap.IsList a its.toArray\/s.heap.IsTuple a its.toArray):=by
   rcases l with l|l
   ·obtain⟨its,q,p,_⟩:=I.list l;exact⟨its,q,.inl p.isList⟩
   ·obtain⟨its,q,p,_⟩:=I.tuple l;exact⟨its,q,.inr p⟩
  have R:A.in1.units=A.units+1:=rfl;have Q:aM=40:=rfl;obtain⟨L,M⟩:=wh h
  classical
  have n:∀(j:Nat) (x:D) (y:JO),g[j]?=some x->its[j]?=some y->∀b,cJ S aM x d=some b->EqAt A.in1 s y u b:=λj x y t B b m=>by obtain⟨v',N,O⟩:=r.get t;obtain⟨y',C,P⟩:=q.get N;rw[B]at C;cases C;exact(uQ I G aM A.in1 (by omega) x d v' v _ u b O P Y ru m).2.2
  have len:g.length=its.length:=r.length.trans q.length;refine⟨a,its,λy=>decide (∃(j:Nat) (x:D),its[j]?=some y/\g[j]?=some x/\cJ S aM x d=some JK),rfl,W,λy B=>?_,?_⟩
  ·obtain⟨j,T,K⟩:=KC.mp (show y∈its by simpa using B);have c:its[j]?=some y:=by grind
   have i:g[j]?=some (g[j]'(by omega)):=Zm _;by_cases E:∃(j:Nat) (x:D),its[j]?=some y/\g[j]?=some x/\cJ S aM x d=some JK
   ·grind
   ·show EqAt A.in1 s y u (decide (∃(j:Nat) (x:D),its[j]?=some y/\g[j]?=some x/\cJ S aM x d=some JK));rw[Zy E];obtain⟨b,m⟩:=Lc.mp (L (cJ S aM (g[j]'(by omega)) d) (Zs.mpr ⟨_,Zz i,rfl⟩));cases b with
    |false=>exact n j _ y i c JL m
    |true=>exact absurd ⟨j,_,c,i,m⟩ E
  ·rw[M];apply Lh.mpr;rw[List.any_toArray,Z7,Z7];constructor
   ·grind
   ·rintro⟨o,U,Q⟩;obtain⟨x,t,rfl⟩:=Zs.mp U;obtain⟨j,T,K⟩:=KC.mp t;have c:its[j]?=some (its[j]'(by omega)):=Zm _;exact⟨_,Zz c,Zr ⟨j,x,c,by grind,by grind⟩⟩
 ·cases h
theorem fo(O:Me)(B:X.A.units+64<cLine):cZ X (compareOp O) (rD X.K X.mg (aF O)):=by
 intro p s l H x y v u Q I i j h;obtain⟨F,n,S,d,e,c,r,R,w⟩:=h;have T:aM=40:=rfl;have fin:∀{k:Bool},Q (.bl k) H->EP X p l Q (.bool k) s:=λ{k} q=>⟨.bl k,H,I,rfl,q⟩;cases O with
 |Eq=>obtain⟨k,E,q⟩:=fB (o:=cJ S aM d e) w c;exact(uQ I c aM X.A (by omega) d e x y v u k r i R j E).1 X.prog X.w _ _ (fin q)
 |NotEq=>obtain⟨k,E,q⟩:=fB (o:=(cJ S aM d e).map not) w c;obtain⟨K,t,rfl⟩:=Yc.mp E;exact(uQ I c aM X.A (by omega) d e x y v u K r i R j t).2.1 X.prog X.w _ _ (fin q)
 |Lt=>obtain⟨k,E,q⟩:=fB (o:=cY S aM d e) w c;exact qR I c aM X.A (by omega) d e x y v u k r i R j E X.prog X.w _ _ (fin q)
 |LtE=>
  replace w:aU X.K ⟨X.mg,F⟩ n H Q (BP d e S):=w;unfold BP at w;split at w
  ·have:=aG r;have:=aG R;subst x y
   exact vz p s l H _ _ v u Q I i j ⟨_,_,rfl,rfl,w.now c cN⟩
  ·rename_i as bs;obtain⟨k,E,q⟩:=fB (o:=wf as bs) w c;obtain⟨a,vs,rfl,C,M⟩:=cm r;obtain⟨b,W,rfl,D,N⟩:=cm R;cases i;cases j;obtain⟨U,J,P,_⟩:=I.tuple C;obtain⟨Z,L,G,_⟩:=I.tuple D;exact Dv P G (by omega) (iY as bs vs W U Z k M J N L E) X.prog X.w _ _ (fin q)
  ·exact w.elim
 |Gt=>
  replace w:aU X.K ⟨X.mg,F⟩ n H Q (Dw d e S):=w;unfold Dw at w;split at w
  ·have:=aG r;have:=aG R;subst x y
   exact vA p s l H _ _ v u Q I i j ⟨_,_,rfl,rfl,w.now c cN⟩
  ·exact w.elim
 |GtE=>
  replace w:aU X.K ⟨X.mg,F⟩ n H Q (Dx d e S):=w;unfold Dx at w;split at w
  ·have:=aG r;have:=aG R;subst x y
   exact vB p s l H _ _ v u Q I i j ⟨_,_,rfl,rfl,w.now c cN⟩
  ·exact w.elim
 |In=>
  obtain⟨k,E,q⟩:=fB (o:=fm d e S) w c;obtain⟨a,z,f,rfl,g,m,rfl⟩:=o9 I c (A:=X.A) B r i R j E;rcases g with g|g
  ·exact in_listAt f g m (fin q)
  ·exact in_tupleAt f g m (fin q)
 |NotIn=>
  obtain⟨k,E,q⟩:=fB (o:=(fm d e S).map not) w c;obtain⟨K,t,rfl⟩:=Yc.mp E;obtain⟨a,z,f,rfl,g,m,rfl⟩:=o9 I c (A:=X.A) B r i R j t;rcases g with g|g
  ·exact notIn_listAt f g m (fin q)
  ·exact notIn_tupleAt f g m (fin q)
 |Is=>
  replace w:aU X.K ⟨X.mg,F⟩ n H Q (Dy d e S):=w;unfold Dy at w;split at w
  ·cases gy R;exact qt p s l H _ _ v u Q I i j ⟨rfl,by rw[wg r];exact w.now c cN⟩
  ·exact w.elim
 |IsNot=>
  replace w:aU X.K ⟨X.mg,F⟩ n H Q (qS d e S):=w;unfold qS at w;split at w
  ·cases gy R;exact k6 p s l H _ _ v u Q I i j ⟨rfl,by rw[wg r];exact w.now c cN⟩
  ·exact w.elim
end Py
namespace Py
def rC(K:Fg)(m:Mg)(g:List D->aa->Res D):List V->Hp->VK->Prop:=λxs H Q=>∃F μ S ds,aK K ⟨m,F⟩ μ S H/\ag K ⟨m,F⟩ μ H ds xs/\aU K ⟨m,F⟩ μ H Q (g ds S)
theorem ag.one{m:GS}{vs:List V}(r:ag K m μ H [d] vs):∃v,vs=[v]/\Rep K m μ H d v:=by obtain⟨v,w,rfl,h,t⟩:=r.uncons;unfold ag at t;simp_all
theorem ag.two{m:GS}{e:D}{vs:List V}(r:ag K m μ H [d,e] vs):∃v w,vs=[v,w]/\Rep K m μ H d v/\Rep K m μ H e w:=by obtain⟨v,W,rfl,h,t⟩:=r.uncons;obtain⟨w,rfl,a⟩:=t.one;lia
theorem lB{m:GS}{vs:List V}{i:Int}(r:ag K m μ H ds vs)(h:eD ds i=some d):∃v,eD vs i=some v/\Rep K m μ H d v:=by
 unfold eD at h⊢;rw[<-r.length];cases e:fk _ i with
 |none=>simp_all
 |some j=>rw[e]at h;exact r.get h
noncomputable def bg(d e:D)(S:aa):Res D:=match au S d,e with
 |some xs,.int i=>match eD xs i with
  |some y=>.ok y S
  |none=>.fail
 |_,_=>.fail
theorem Dz:BN X (rD X.K X.mg bg):=by
 intro V g p s A H x y v u Q I R l h b;obtain⟨F,t,S,d,e,f,n,o,w⟩:=h;unfold bg at w;split at w
 ·rename_i q i E;split at w
  ·rename_i Y m;obtain⟨a,vs,rfl,c,r⟩:=fS f n E;cases aG o;obtain⟨z,j,k⟩:=lB r m;rcases c with c|c
   ·exact lm _ _ _ s _ H _ _ v u Q I R l ⟨a,_,i,z,rfl,rfl,c,j,w.now f k⟩ b
   ·exact qD _ _ _ s _ H _ _ v u Q I R l ⟨a,_,i,z,rfl,rfl,c,j,w.now f k⟩ b
  ·exact w.elim
 ·exact w.elim
noncomputable def hZ(ds:List D)(S:aa):Res D:=match ds with
 | [.str x]=>if x.length<=bB then .ok (.int x.length) S else .fail
 | [d]=>match au S d with
  |some xs=>.ok (.int xs.length) S
  |none=>.fail
 |_=>.fail
theorem wj:a7 X (.builtin "len") (rC X.K X.mg hZ):=by
 intro p s k H i u Q I r h;obtain⟨F,j,S,D,c,R,w⟩:=h;have g:=hY;unfold hZ at w;split at w
 ·split at w
  ·obtain⟨v,rfl,b⟩:=R.one;cases fU b;exact C9 _ s _ H _ _ Q I r ⟨_,rfl,by omega,w.now c bN⟩
  ·exact w.elim
 ·split at w
  ·rename_i x e;obtain⟨v,rfl,b⟩:=R.one;obtain⟨a,vs,rfl,d,f⟩:=fS c b e;refine C8 _ s _ H _ _ Q I r ⟨a,_,rfl,d,?_⟩;rw[<-f.length];exact w.now c bN
  ·exact w.elim
 ·exact w.elim
noncomputable def lC(ds:List D)(S:aa):Res D:=match ds with
 | [.tup xs]=>.ok (.tup xs) S
 | [d]=>match au S d with
  |some xs=>.ok (.tup xs) S
  |none=>.fail
 |_=>.fail
theorem wk{m:GS}(s:aK K m μ S H)(r:Rep K m μ H d v)(e:au S d=some xs)(b:∀ys,d≠.tup ys):∃a vs,v=.ref a/\c9 K H a vs/\ag K m μ H xs vs:=by
 cases d with
 |lst ys=>obtain⟨a,vs,E,h,q⟩:=dq s r (show dP S _=some _ from e);exact⟨a,_,E,.of h,q⟩
 |ref n=>obtain⟨a,vs,E,h,q⟩:=dq s r (show dP S _=some _ from e);exact⟨a,_,E,.of h,q⟩
 |tup ys=>simp_all
 |scr ys=>cases e;obtain⟨a,vs,e,h,q⟩:=r;exact⟨a,_,e,h.sq,q⟩
 |_=>cases e
theorem lD:a7 X (.type "tuple") (rC X.K X.mg lC):=by
 intro P s m H k u Q I r h;obtain⟨F,l,S,D,f,g,w⟩:=h;unfold lC at w;split at w
 ·obtain⟨v,rfl,b⟩:=g.one;obtain⟨a,vs,rfl,c,R⟩:=cm b;exact vV _ s _ H _ _ Q I r ⟨a,_,rfl,.inr ⟨c,w.now f b⟩⟩
 ·rename_i d i;split at w
  ·rename_i x e;obtain⟨v,rfl,b⟩:=g.one;obtain⟨a,vs,rfl,c,R⟩:=wk f b e λy z=>i y (by lia);exact vV _ s _ H _ _ Q I r ⟨a,_,rfl,.inl ⟨c,λp j=>w.tup f R p j⟩⟩
  ·exact w.elim
 ·exact w.elim
noncomputable def intD(ds:List D)(S:aa):Res D:=match ds with
 | [.int i]=>.ok (.int i) S
 | [.bl b]=>.ok (.int (if b then 1 else 0)) S
 |_=>.fail
theorem wl:a7 X (.type "int") (rC X.K X.mg intD):=by
 intro p s e H x u Q I r h;obtain⟨F,c,S,d,b,R,w⟩:=h;unfold intD at w;split at w
 ·obtain⟨v,rfl,a⟩:=R.one;cases aG a;exact vD _ s _ H _ _ Q I r (.inl ⟨_,rfl,w.now b bN⟩)
 ·obtain⟨v,rfl,a⟩:=R.one;cases fT a;exact vD _ s _ H _ _ Q I r (.inr ⟨_,rfl,w.now b bN⟩)
 ·exact w.elim
noncomputable def i0(ds:List D)(S:aa):Res D:=match ds with
 | [.int i,.int j]=>.ok (.int (if j<i then j else i)) S
 |_=>.fail
noncomputable def i3(ds:List D)(S:aa):Res D:=match ds with
 | [.int i,.int j]=>.ok (.int (if j>i then j else i)) S
 |_=>.fail
theorem wm(a:X.calm=JK):a7 X (.builtin "min") (rC X.K X.mg i0):=by
 intro p s f H x u Q I r h;obtain⟨F,e,S,d,c,R,w⟩:=h;unfold i0 at w;split at w
 ·obtain⟨v,W,rfl,b,hw⟩:=R.two;cases aG b;cases aG hw;exact CL a _ s _ H _ _ Q I r ⟨_,_,rfl,w.now c bN⟩
 ·exact w.elim
theorem wn(a:X.calm=JK):a7 X (.builtin "max") (rC X.K X.mg i3):=by
 intro p s f H x u Q I r h;obtain⟨F,e,S,d,c,R,w⟩:=h;unfold i3 at w;split at w
 ·obtain⟨v,W,rfl,b,hw⟩:=R.two;cases aG b;cases aG hw;exact CK a _ s _ H _ _ Q I r ⟨_,_,rfl,w.now c bN⟩
 ·exact w.elim
noncomputable def bG(S:aa):D->Option Bool
 | .non=>some JL
 | .bl b=>some b
 | .int i=>some (i !=0)
 | .str x=>if x.length<=bB then some ((x.length:Int) !=0)else none
 |d=>(au S d).map λxs=> !xs.isEmpty
theorem o_{m:GS}{k:Bool}(j:aK K m μ S H)(r:Rep K m μ H d v)(e:bG S d=some k):hV K v H k:=by
 have l:=hY
 have seq:∀(x:List D),au S d=some x->k= !x.isEmpty->hV K v H k:=λx f E=>by
  obtain⟨a,vs,rfl,c,q⟩:=fS j r f;have i:=q.length;have g:x.isEmpty=vs.isEmpty:=by cases x<;>cases vs<;>simp at i⊢
  rw[g]at E;rcases c with c|c
  ·exact .inl ⟨_,c,E⟩
  ·exact .inr (.inl ⟨_,c,E⟩)
 have s:(au S d).map _=some k->hV K v H k:=λh=>by obtain⟨x,f,E⟩:=Yc.mp h;exact seq _ f E.symm
 cases d with
 |non=>cases gy r;cases e;rfl
 |bl b=>cases fT r;cases e;rfl
 |int b=>cases aG r;cases e;rfl
 |str b=>
  cases fU r;replace e:(if b.length<=bB then some _ else none)=some k:=e;split at e
  ·cases e;exact⟨by omega,rfl⟩
  ·cases e
 |tup b=>exact s e
 |lst b=>exact s e
 |ref b=>exact s e
 |scr b=>exact s e
 |fn b=>exact s e
 |dct=>exact s e
 |dks b=>exact s e
 |ty b=>exact s e
noncomputable def dQ(xs:List D)(l h:Option Int):List D:=(xs.drop (HT.bZ xs.length 0 l)).take (HT.bZ xs.length xs.length h-HT.bZ xs.length 0 l)
theorem wo{m:GS}{vs:List V}{l:Option Int}(r:ag K m μ H ds vs):ag K m μ H (dQ ds l hi) (hX vs l hi):=by unfold dQ hX;rw[r.length];exact(r.drop _).take _
noncomputable def qT(d:D)(l h:Option Int)(S:aa):Res D:=match d with
 | .tup xs=>.ok (.tup (dQ xs l h)) S
 |d=>match au S d with
  |some xs=>.ok (.lst (dQ xs l h)) S
  |none=>.fail
def JD(K:Fg)(m:Mg):V->Option Int->Option Int->Hp->VK->Prop:=λx lo hi H Q=>∃F μ S d,aK K ⟨m,F⟩ μ S H/\Rep K ⟨m,F⟩ μ H d x/\aU K ⟨m,F⟩ μ H Q (qT d lo hi S)
theorem DA{t:JP}{l:Option Int}(H:Ow s.heap t items)(c:s.heap.IsSliceOf sl vl vu .none)(p:MQ vl l)(P:MQ vu hi)
  (hw:HT.bZ items.size 0 l=0/\HT.bZ items.size items.size hi=items.size) (h:Q (.ref t) s):wpAny (model prog w) A (getItem (.ref t) (.ref sl)) Q E s:=by
 obtain⟨o,b,a,d⟩:=id c;unfold getItem
 try with_reducible refine ZU ?_
 refine Za (wpAny_sequenceKey H.typeIs (rfl) ?_)
 refine Za (ZV H.typeIs Kx
  (ZQ Kx H.typeIs entry_tuple_getitem ?_ (args_tuple_getitem _ _)))
 show wpAny _ _ (ME _>>=_) _ _ s;refine Za (tupleItemsOf_ H ?_);refine Za (Mt ⟨_,b,a⟩ ?_);refine Za (HT.vN c p P ?_);show wpAny _ _ (if(((HT.bZ _ 0 _:Nat):Int)==0&&(1)==1&&(HT.bZ _ _ _-HT.bZ _ 0 _)==items.size)=JK then _ else _) _ _ s;rw[if_pos (by simp_all)];exact Za (Za (Mt H.typeIs (Zd (Za (K1 (Zd ⟨_,rfl,Zd h⟩))))))
theorem DB:BM X (JD X.K X.mg):=by
 intro y s B H x v V A l f sl Q I o k P n h;obtain⟨F,G,S,d,i,R,w⟩:=h;unfold qT at w;split at w
 ·rename_i q;obtain⟨a,vs,rfl,g,r⟩:=cm R;have t:=r.length;by_cases c:HT.bZ vs.length 0 l=0/\HT.bZ vs.length vs.length f=vs.length
  ·cases o;obtain⟨m,D,u,E⟩:=I.tuple g;have b:m.toArray.size=vs.length:=by rw[ZS];exact D.length.symm
   refine⟨"tuple",_,PyProof.Rows.slot_tuple_getitem.lookup,u.typeIs,?_⟩;refine DA u k P n (by rw[b];exact c) ⟨.ref a,H,I,rfl,?_⟩;have e:dQ q l f=q:=by unfold dQ;rw[t,c.1,c.2];simp[<-t]
   rw[e]at w;exact w.now i R
  ·exact qA y s B H _ v V A l f sl Q I o k P n ⟨a,vs,rfl,g,c,λp j=>w.tup i (wo r) p j⟩
 ·rename_i d C;split at w
  ·rename_i q e;obtain⟨a,vs,rfl,g,r⟩:=wk i R e (λY z=>C Y z);exact ln y s B H _ v V A l f sl Q I o k P n ⟨a,vs,rfl,g,λp j=>w.lst i (wo r) p j⟩
  ·exact w.elim
noncomputable def qU(S:aa):D->Option String
 | .non=>some "NoneType"
 | .bl _=>some "bool"
 | .int _=>some "int"
 | .str _=>some "str"
 | .tup _=>some "tuple"
 | .lst _=>some "list"
 | .ref n=>(S[n]?).map λ_=>"list"
 | .scr _=>some "list"
 | .dct=>some "dict"
 |_=>none
noncomputable def i5(t c:String):Option Bool:=
 if ["NoneType","bool","int","str","tuple","list","dict"].contains t&&["bool","int","str","tuple","list","dict"].contains c then some (t==c||(t=="bool"&&c=="int"))else none
theorem lE{t c:String}{b:Bool}(h:i5 t c=some b):PySem.W.kitOne K (.type t) (.type c)=some b:=by
 unfold i5 at h;split at h
 ·rename_i H;simp at H;cases h;obtain⟨a,d⟩:=H;rcases a with rfl|rfl|rfl|rfl|rfl|rfl|rfl<;>rcases d with rfl|rfl|rfl|rfl|rfl|rfl<;>first|rfl|decide+kernel
 ·cases h
noncomputable def de(ds:List D)(S:aa):Res D:=match ds with
 | [d,.ty c]=>match qU S d with
  |some t=>aR (i5 t c) S
  |none=>.fail
 |_=>.fail
theorem DC:a7 X (.builtin "isinstance") (rC X.K X.mg de):=by
 intro P s B H V us Q I r h;obtain⟨F,μ,S,W,m,N,w⟩:=h;unfold de at w;split at w
 ·rename_i d c;split at w
  ·rename_i t E;obtain⟨b,J,q⟩:=fB w m;obtain⟨v,z,rfl,g,x⟩:=N.two;have k:z=.ty c:=by unfold Rep at x;exact x
   subst k;obtain⟨u,y,rfl,R,U⟩:=r.two;cases U;have e:=lE (K:=X.K) J;have fin:∀T,EP X P B Q (.bool b) {s with toks:=T}:=λT=>⟨.bl b,H,I.tok _,rfl,q⟩
   have lst:∀a vs,v=.ref a->c9 X.K H a vs->t="list"->wpAny (model X.prog X.w) X.A (call _ [u,.type c]) (EP X P B Q) X.xe s:=λa vs L f E=>by subst L;subst E;cases R;obtain⟨l,O,M,_⟩:=I.list f;obtain⟨o,i,j,_⟩:=M.isList;exact PySem.W.kia_one PySem.W.kitx_list I.kIn ⟨o,i,j⟩ e (λz=>nomatch z) fin
   cases d with
   |non=>cases gy g;cases R;cases E;exact PySem.W.kia_one PySem.W.kitx_none I.kIn Nu e (λz=>nomatch z) fin
   |bl b=>cases fT g;cases R;cases E;exact PySem.W.kia_one PySem.W.kitx_bool I.kIn Nu e (λz=>nomatch z) fin
   |int b=>cases aG g;obtain⟨t,rfl⟩:=R;cases E;exact PySem.W.kia_one PySem.W.kitx_int I.kIn Nu e (λz=>nomatch z) fin
   |str b=>cases fU g;obtain⟨t,rfl⟩:=R;cases E;exact PySem.W.kia_one PySem.W.kitx_str I.kIn Nu e (λz=>nomatch z) fin
   |tup b=>obtain⟨a,vs,rfl,f,_⟩:=cm g;cases R;cases E;obtain⟨l,O,p,_⟩:=I.tuple f;obtain⟨o,i,j,_⟩:=p;exact PySem.W.kia_one PySem.W.kitx_tuple I.kIn ⟨o,i,j⟩ e (λz=>nomatch z) fin
   |lst b=>obtain⟨a,vs,rfl,f,_⟩:=dq m g rfl;cases E;exact lst a vs rfl (.of f) rfl
   |ref n=>obtain⟨V,C,D⟩:=Yc.mp E;obtain⟨a,vs,rfl,f,_⟩:=dq m g C;exact lst a vs rfl (.of f) D.symm
   |scr b=>obtain⟨a,vs,rfl,f,_⟩:=g;cases E;exact lst a vs rfl f.sq rfl
   |dct=>obtain⟨a,rfl,G⟩:=g;cases R;cases E;obtain⟨_,_,vs,_,p⟩:=(show bv X.prog X.w H s.heap a (.dK [])from I.hok a _ G);obtain⟨o,Z,Y,i,j,_⟩:=p;exact PySem.W.kia_one PySem.W.kitx_dict I.kIn ⟨o,i,j.1⟩ e (λz=>nomatch z) fin
   |fn b=>cases E
   |ty b=>cases E
   |dks b=>cases E
  ·exact w.elim
 ·exact w.elim
noncomputable def ez:D->Option Bool
 | .bl b=>some b
 |_=>none
noncomputable def h6(ds:List D)(S:aa):Res D:=match ds with
 | [d]=>match au S d with
  |some xs=>aR (bm (xs.map ez)) S
  |none=>.fail
 |_=>.fail
noncomputable def i6(ds:List D)(S:aa):Res D:=match ds with
 | [d]=>match au S d with
  |some xs=>aR (eW (xs.map ez)) S
  |none=>.fail
 |_=>.fail
theorem wq{M:GS}{vs:List V}(r:ag K M μ H xs vs)(q:Vals vs its)(h:∀(j:Nat) o,(xs.map ez)[j]?=some o->o=some (eJ (xs.map ez) j)):
  ∀(i:Nat) v,its.toArray[i]?=some v->v=.bool (eJ (xs.map ez) i):=λi v l=>by
 have L:=r.length;have p:=q.length
 have a:=by simpa using l
 have n:=(Zp.mp a).1;have m:xs[i]?=some (xs[i]'(by omega)):=Zm _;obtain⟨w,g,e⟩:=r.get m;obtain⟨u,f,k⟩:=q.get g;rw[a]at f;cases f;have c:=h i (ez (xs[i]'(by omega))) (by simp_all);revert e c;generalize xs[i]'(by omega)=d;intro e c;cases d with
 |bl b=>
  cases fT e;have:=by simpa[ez]using c
  rw[<-this];exact k
 |_=>cases c
theorem i7(C:X.calm=JK)(I:Inv X pq σ H s)(M:aK X.K ⟨X.mg,F⟩ μ S H)(G:Rep X.K ⟨X.mg,F⟩ μ H d v)(J:RelV v u)(e:au S d=some xs)
  (h:∀(j:Nat) o,(xs.map ez)[j]?=some o->o=some (eJ (xs.map ez) j)) (b:Bool->Bool) {Q:VK} {fb:Nat->Bool} (q:Q (.bl (fb xs.length)) H):
  wpAny (model X.prog X.w) X.A.in1 (pyIter u) (λit g=>∃I fp wr n P St,it=.ref I/\Walks X.prog X.w X.A.in1 I fp wr n P St/\St 0 g.heap/\TruthOf X.prog X.w X.A.in1 P (eJ (xs.map ez))/\
   ∀h' tk,(∀b o,b∉wr->g.heap.get? b=some o->h'.get? b=some o)->EP X pq σ Q (.bool (fb n)) {g with heap:=h',toks:=tk}) X.xe s:=by
 obtain⟨a,vs,rfl,m,r⟩:=fS M G e;cases J;have y:X.A.in1.handled=none:=I.ok.hd C;rcases m with m|m
 ·obtain⟨c,R,p,D⟩:=I.list m;have B:=wq r R h;refine Ye p.isList ?_;have k:a≠s.heap.objs.size:=by obtain⟨o,f,_⟩:=p.isList;exact Zu (Zj f)
  refine⟨_,_,_,_,_,_,rfl,Walks.list y s.heap.objs.size a k c.toArray,⟨⟨_,Zh _ rfl,rfl,rfl⟩,NN p.isList _⟩,?_,λh' tk K=>?_⟩
  ·intro i v L A E w l;rw[B i v w];exact Yd l
  ·have t:c.toArray.size=xs.length:=by rw[ZS,<-R.length,<-r.length]
   rw[t];refine⟨.bl _,H,I.kept (h':=h') (t':=tk) λb o f=>K b o ?_ (Zb _ f),rfl,q⟩;intro z;have Z:b=s.heap.objs.size:=by simpa using z
   exact absurd (Zj f) (by rw[Z];exact Z6 _)
 ·obtain⟨c,R,p,D⟩:=I.tuple m;have B:=wq r R h;refine Ya (show s.heap.IsTuple a c.toArray from p) ?_;have k:a≠s.heap.objs.size:=by obtain⟨o,f,_⟩:=p;exact Zu (Zj f)
  refine⟨_,_,_,_,_,_,rfl,Walks.tuple y s.heap.objs.size a k c.toArray,⟨⟨_,Zh _ rfl,rfl,rfl⟩,by obtain⟨o,f,r⟩:=p;exact⟨o,Zb _ f,r⟩⟩,?_,λh' tk K=>?_⟩
  ·intro i v L A E w l;rw[B i v w];exact Yd l
  ·have t:c.toArray.size=xs.length:=by rw[ZS,<-R.length,<-r.length]
   rw[t];refine⟨.bl _,H,I.kept (h':=h') (t':=tk) λb o f=>K b o ?_ (Zb _ f),rfl,q⟩;intro z;have Z:b=s.heap.objs.size:=by simpa using z
   exact absurd (Zj f) (by rw[Z];exact Z6 _)
theorem wt(t:X.calm=JK):a7 X (.builtin "all") (rC X.K X.mg h6):=by
 intro C s K H G U Q I r h;obtain⟨F,J,S,D,b,R,w⟩:=h;unfold h6 at w;split at w
 ·split at w
  ·rename_i d Y e;obtain⟨k,E,q⟩:=fB w b;obtain⟨v,rfl,x⟩:=R.one;obtain⟨u,rfl,y⟩:=r.one;obtain⟨p,a⟩:=ly _ _ E;have hw:=i7 t I b x y e p id (Q:=Q) (fb:=λn=>(JM n).all (eJ (Y.map ez))) (by rw[Zi]at a;rw[<-a];exact q);exact call_all_walk (Kr hw (λit c ⟨f,o,W,n,P,g,A,i,j,l,m⟩=>⟨f,o,W,n,P,g,_,A,i,j,l,m⟩) λ_ _ z=>z)
  ·exact w.elim
 ·exact w.elim
theorem wu(D:X.calm=JK):a7 X (.builtin "any") (rC X.K X.mg i6):=by
 intro Y s σ H xs Z Q I r h;obtain⟨F,μ,S,O,g,R,w⟩:=h;unfold i6 at w;split at w
 ·split at w
  ·rename_i d y e;obtain⟨k,E,q⟩:=fB w g;obtain⟨v,rfl,K⟩:=R.one;obtain⟨u,rfl,L⟩:=r.one;obtain⟨x,B⟩:=wh E
   have C:∀(j:Nat) o,(y.map _)[j]?=some o->o=some (eJ (y.map ez) j):=λj o a=>by
    have:=x o (Zz a);cases o with
    |none=>cases this
    |some b=>simp[eJ,a]
   have W:k=(JM y.length).any (eJ (y.map ez)):=by
    rw[B];apply Lh.mpr;rw[Z7,Z7];constructor
    ·rintro⟨o,a,G⟩;obtain⟨j,J,T⟩:=KC.mp a;have c:(y.map ez)[j]?=some o:=by grind
     grind
    ·rintro⟨j,J,G⟩;have f:j<(y.map ez).length:=by grind
     have c:=Zm f
     grind
   exact call_any_walk (Kr (i7 D I g K L e C id (Q:=Q) (fb:=λn=>(JM n).any (eJ (y.map ez))) (by lia)) (λit i ⟨M,V,wr,n,P,N,A,l,m,p,t⟩=>⟨_,_,_,n,P,_,_,A,l,m,p,t⟩) λ_ _ z=>z)
  ·exact w.elim
 ·exact w.elim
def rM(K:Fg)(m:Mg)(g:D->List D->aa->Res D):V->List V->Hp->VK->Prop:=λx xs H Q=>∃F μ S d ds,aK K ⟨m,F⟩ μ S H/\Rep K ⟨m,F⟩ μ H d x/\ag K ⟨m,F⟩ μ H ds xs/\aU K ⟨m,F⟩ μ H Q (g d ds S)
theorem i8{m:GS}(s:aK K m μ S H)(r:Rep K m μ H (.ref n) v)(e:S[n]?=some xs):∃a vs,v=.ref a/\μ[n]?=some a/\H a=some (.lst vs)/\ag K m μ H xs vs:=by obtain⟨a,rfl,h⟩:=r;obtain⟨vs,b,q⟩:=s.at_ n a _ h e;exact⟨a,_,rfl,h,b,q⟩
noncomputable def fV(d:D)(ds:List D)(S:aa):Res D:=match d,ds with
 | .ref n,[y]=>match S[n]? with
  |some xs=>if xs.length<bB then .ok .non (S.set n (xs++[y]))else .fail
  |none=>.fail
 |_,_=>.fail
theorem DD:qC X "list.append" (rM X.K X.mg fV):=by
 intro p s t H x o v u Q I k j h;obtain⟨F,q,S,d,D,c,i,R,w⟩:=h;have l:=hY;unfold fV at w;split at w
 ·split at w
  ·rename_i n y Y e;split at w
   ·obtain⟨a,vs,rfl,f,b,r⟩:=i8 c i e;obtain⟨z,rfl,g⟩:=R.one;have m:=r.length;exact v7 _ s _ H _ _ v _ Q I k j ⟨a,_,z,rfl,rfl,b,by omega,w.wrote c f b (r.append (.cons g .nil)) iV⟩
   ·exact w.elim
  ·exact w.elim
 ·exact w.elim
noncomputable def fC(d:D)(ds:List D)(S:aa):Res D:=match d,ds with
 | .ref n,[y]=>match S[n]?,dP S y with
  |some xs,some ys=>if xs.length+ys.length<=bB then .ok .non (S.set n (xs++ys))else .fail
  |_,_=>.fail
 |_,_=>.fail
theorem DE:qC X "list.extend" (rM X.K X.mg fC):=by
 intro P s C H x A v u Q I p o h;obtain⟨F,B,S,d,D,c,m,R,w⟩:=h;have q:=hY;unfold fC at w;split at w
 ·split at w
  ·rename_i n y Y Z e E;split at w
   ·obtain⟨a,vs,rfl,k,f,r⟩:=i8 c m e;obtain⟨z,rfl,l⟩:=R.one;obtain⟨b,W,rfl,i,g⟩:=dq c l E;have t:=r.length;have j:=g.length;exact C' _ s _ H _ _ v _ Q I p o ⟨a,b,_,_,rfl,rfl,f,i,by omega,w.wrote c k f (r.append g) iV⟩
   ·exact w.elim
  ·exact w.elim
 ·exact w.elim
theorem ag.dropLast{m:GS}{vs:List V}(r:ag K m μ H ds vs):ag K m μ H ds.dropLast vs.dropLast:=by rw[N2,N2,r.length];exact r.take _
noncomputable def i9(d:D)(ds:List D)(S:aa):Res D:=match d,ds with
 | .ref n,[]=>match S[n]? with
  |some xs=>match xs[xs.length-1]? with
   |some y=>.ok y (S.set n xs.dropLast)
   |none=>.fail
  |none=>.fail
 |_,_=>.fail
theorem wv:qC X "list.pop" (rM X.K X.mg i9):=by
 intro p s q H x m v u Q I l k h;obtain⟨F,o,S,d,D,f,j,R,w⟩:=h;unfold i9 at w;split at w
 ·split at w
  ·rename_i n Y e;split at w
   ·rename_i y E;obtain⟨a,vs,rfl,i,c,r⟩:=i8 f j e;subst R;obtain⟨z,b,g⟩:=r.get E;rw[r.length]at b;exact qF _ s _ H _ _ v _ Q I l k ⟨a,_,z,rfl,rfl,c,b,w.wrote f i c r.dropLast g⟩
   ·exact w.elim
  ·exact w.elim
 ·exact w.elim
noncomputable def h7(d e f:D)(S:aa):Option aa:=match d,e with
 | .ref n,.int i=>match S[n]? with
  |some xs=>match fk xs.length i with
   |some j=>some (S.set n (xs.set j f))
   |none=>none
  |none=>none
 |_,_=>none
noncomputable def DF(K:Fg)(m:Mg):kR:=λo i v H Q=>∃F μ S d e f,aK K ⟨m,F⟩ μ S H/\Rep K ⟨m,F⟩ μ H d o/\Rep K ⟨m,F⟩ μ H e i/\Rep K ⟨m,F⟩ μ H f v/\
 ∃S',h7 d e f S=some S'/\∀μ' H',Ext μ H μ' H'->aK K ⟨m,F⟩ μ' S' H'->Q H'
theorem ww:p_ X (DF X.K X.mg):=by
 intro P s C H o i v O A u Q I x t y h;obtain⟨F,B,S,d,e,f,l,R,p,q,z,E,w⟩:=h;unfold h7 at E;split at E
 ·split at E
  ·rename_i n k _ Y m;split at E
   ·rename_i j c;cases E;obtain⟨a,vs,rfl,g,b,r⟩:=i8 l R m;cases aG p;rw[r.length]at c;exact C4 _ s _ H _ _ v _ _ u Q I x t y ⟨a,_,k,j,rfl,rfl,b,c,w _ _ (.wrote (Zz g) b) (l.wrote g b (r.set j q))⟩
   ·cases E
  ·cases E
 ·cases E
noncomputable def b7(env:Env):List (Str×Ku)->List (Str×JP)->List (Str×JP)
 | [],cs=>cs
 | (n,k)::r,cs=>b7 env r (if k== .free then(match env.cells.lookup n with|some c=>(n,c)::cs|none=>cs)else cs)
theorem DG(h:∀x∈scope.names,x.2=.free->∃c,env.cells.lookup x.1=some c):closureFor scope env=pure (b7 env scope.names []):=by
 unfold closureFor
 have K:∀(l:List _) (C:List _),(∀x∈l,x.2=.free->∃c,env.cells.lookup x.1=some c)->
   (forIn l C λx r=>(if(x.2==Mo)=JK then do let c <-cellOf env x.1;pure (J_ ((x.1,c)::r))else pure (J_ r):Sem _))=pure (b7 env l C):=by
  intro l
  induction l with
  |nil=>intro C _;rfl
  |cons x l i=>
   intro C d;obtain⟨n,k⟩:=x;unfold b7;by_cases b:k=.free
   ·subst b;obtain⟨c,H⟩:=d (n,.free) (by simp) rfl;have a:cellOf env n=pure c:=by unfold cellOf;rw[H]
    simp_all
   grind
 grind
theorem qV{env:Env}:∀(l:List (Str×Ku)) (cs:List (Str×JP)),(∀p∈cs,env.cells.lookup p.1=some p.2)->∀p∈b7 env l cs,env.cells.lookup p.1=some p.2
 | [],cs,h,p,H=>h p H
 | (n,k)::r,cs,h,p,H=>by
  refine qV r _ (λq a=>?_) p H
  grind
theorem wx{env:Env}:∀(l:List (Str×Ku)) (cs:List (Str×JP)),∀p∈cs,p∈b7 env l cs
 | [],cs,p,h=>h
 | (n,k)::r,cs,p,h=>by
  refine wx r _ p ?_
  grind
theorem wy{env:Env}{x:Str}{c:JP}(H:env.cells.lookup x=some c):∀(l:List (Str×Ku)) (cs:List (Str×JP)),(x,Mo)∈l->(x,c)∈b7 env l cs
 | [],cs,h=>by cases h
 | (n,k)::r,cs,h=>by
  rcases Zk.mp h with e|h
  ·refine wx r _ _ ?_;simp_all
  ·exact wy H r _ h
theorem wz{a:Type}{x:Str}{c:a}:∀{l:List (Str×a)},(x,c)∈l->∃d,l.lookup x=some d
 | [],h=>by cases h
 | (n,d)::r,h=>by
  rw[OT];cases e:x==n with
  |true=>simp_all
  |false=>
   rcases Zk.mp h with E|h
   ·simp_all
   ·exact wz h
theorem wC{env:Env}:∀{N:List (Str×Ku)} {x:Str} {k:Ku},(N.map λ(n,k)=>if(k==Mo&&env.scope.kind== .function&&env.kindOf n==some .cell)then(n,JZ)else(n,k)).lookup x=some k->
  ∃K,N.lookup x=some K/\(k=K\/(K=.free/\k=.cell))
 | [],_,_,h=>by simp_all
 | (n,a)::r,x,k,h=>by
  have i:= @wC env r x k
  grind
theorem wD{env:Env}:∀{N:List (Str×Ku)} {x:Str},N.lookup x=some .free->
  let m:=(N.map λ(n,k)=>if(k==Mo&&env.scope.kind== .function&&env.kindOf n==some .cell)then(n,JZ)else(n,k))
  m.lookup x=some .cell\/m.lookup x=some .free
 | [],_,h=>by simp_all
 | (n,K)::r,x,h=>by
  have i:= @wD env r x
  grind
theorem i_:∀(N:List (Str×Ku)) (n:Nat) (a b:List (Str×JP)),cellsFrom n N (a++b)=cellsFrom n N a++b
 | [],_,_,_=>rfl
 | (x,k)::r,n,a,b=>by
  show(if(k==JZ)=JK then cellsFrom _ r _ else cellsFrom n r _)=(if(k==JZ)=JK then cellsFrom _ r _ else cellsFrom n r a)++b;split
  ·exact i_ r _ ((x,n)::a) b
  ·exact i_ r n a b
theorem qW{x:Str}{c:JP}:∀(N:List (Str×Ku)) (n:Nat) (a:List (Str×JP)),(x,c)∈cellsFrom n N a->(x,c)∈a\/(x,JZ)∈N
 | [],_,_,h=>.inl h
 | (y,k)::r,n,a,h=>by
  replace h:(x,c)∈if(k==JZ)=JK then cellsFrom _ r _ else cellsFrom n r a:=h;split at h
  ·rcases qW r _ _ h with h|h
   ·grind
   simp_all
  ·rcases qW r n _ h with h|h
   ·exact .inl h
   simp_all
theorem qX{M:Model}{A:KI}{E:Vs}:∀(n:List (Str×Ku)) (cs:List (Str×JP)) (s:JN) (Q:List (Str×JP)->JN->Prop),Q (cellsFrom s.heap.objs.size n cs) {s with heap:=pushCells s.heap n}->
  wpAny M A (forIn n cs λx r=>match x with
   | (name,kind)=>if(kind==JZ)=JK then do
     let c <-alloc {cls:=J3 "cell",data:=Data.cell none}
     pure (J_ ((name,c)::r))
    else pure (J_ r)) Q E s
 | [],cs,s,Q,h=>by rw[Nv];exact Zd h
 | (x,k)::r,cs,s,Q,h=>by
  rw[LS];have h:Q (if(k==JZ)=JK then cellsFrom (s.heap.objs.size+1) r ((x,s.heap.objs.size)::cs)else cellsFrom s.heap.objs.size r cs) {s with heap:=if(k==JZ)=JK then pushCells (s.heap.push {cls:=.type "cell",data:=.cell none}) r else pushCells s.heap r}:=h;cases a:(k==JZ)with
  |true=>rw[a,if_pos rfl,if_pos rfl]at h;refine Za ?_;show wpAny M A (if(k==JZ)=JK then _ else _) _ _ _;rw[a,if_pos rfl];refine Za (wpAny_alloc (Zd ?_));refine qX r _ {s with heap:=s.heap.push {cls:=.type "cell",data:=.cell none}} Q ?_;show Q (cellsFrom (s.heap.push {cls:=.type "cell",data:=.cell none}).objs.size r _) _;rw[Ka];exact h
  |false=>rw[a,if_neg (by decide),if_neg (by decide)]at h;refine Za ?_;show wpAny M A (if(k==JZ)=JK then _ else _) _ _ _;rw[a,if_neg (by decide)];exact Zd (qX r _ s Q h)
theorem DH{M:Model}{A:KI}{E:Vs}{g:JP}{c:List (Str×JP)}{q:Str}{out:Env}{bl:JP}{Q:Env->JN->Prop}
  (h:Q ⟨scope,s.heap.objs.size,g,cellsFrom (s.heap.objs.size+1) scope.names c,q,none,out.code,out.frame,out.builtins⟩ {s with heap:=pushCells (s.heap.push {cls:=.type "dict",data:=.dict #[]}) scope.names}):
  wpAny M A (newFunctionEnv scope g c [] q none .none (some out) bl) Q E s:=by
 refine Za (wpAny_alloc (Za (qX _ _ _ _ ?_)));refine Za (Zd (Zd ?_));simp_all
noncomputable def fD(X:Cx)(scope:Scope)(N:Ls)(C:JP)(s0:JN)(a:Hp)(f:La):Cx:=
 {X with N:=N,s₀:=s0,H₀:=a,env:=compEnvC scope (cellsFrom (C+1) scope.names (b7 X.env scope.names [])) C X.env,outer:=X.stack,stack:=X.stack,ex:=f,fn:=λx=>scope.names.lookup x==some .cell,pn:=[],xe:=λ_ _=>False}
structure dR (X:Cx)(scope:Scope):Prop where
 kind:scope.kind=.function
 cel:∀y∈scope.names,y.2=.cell->scope.names.lookup y.1=some .cell
 loc:∀y∈scope.names,y.2=.local->scope.names.lookup y.1=some .local
 free:∀y∈scope.names,y.2=.free->X.env.kindOf y.1=some .cell\/X.env.kindOf y.1=some .free
theorem i'(I:Inv X pq σ H s){b:JP}(h1:b≠X.env.locals)(h:b∉X.fs):b∉dM X.stack:=λz=>(Zk.mp (I.stkSub b z)).elim h1 h
theorem gA{x:Str}{c:JP}(h:(cellsFrom n scope.names (b7 X.env scope.names [])).lookup x=some c):(cellsFrom n scope.names []).lookup x=some c\/((cellsFrom n scope.names []).lookup x=none/\(b7 X.env scope.names []).lookup x=some c):=by have e:=i_ scope.names n [] (b7 X.env scope.names []);rw[K0]at e;rw[e,List.lookup_append]at h;simp_all
theorem DI{x:Str}{c:JP}(h:(cellsFrom n scope.names []).lookup x=some c):(cellsFrom n scope.names (b7 X.env scope.names [])).lookup x=some c:=by
 have e:=i_ scope.names n [] (b7 X.env scope.names [])
 grind
theorem wE{x:Str}{c:JP}(h:(cellsFrom n scope.names []).lookup x=none)(H:(b7 X.env scope.names []).lookup x=some c):(cellsFrom n scope.names (b7 X.env scope.names [])).lookup x=some c:=by
 have e:=i_ scope.names n [] (b7 X.env scope.names [])
 grind
theorem DJ{m:Mg}{tk:Nat}(hc:X.calm=JK)(I:Inv X pq σ H s)(S:dR X scope)(T:∀b∈fp,dn X pq H b)(U:∀b∈fp,∃o,s.heap.get? b=some o)
  (hn:h1.Ns s.heap.objs.size m) (old:∀b o,s.heap.get? b=some o->h1.get? b=some o) (f:CellsOk h1 (s.heap.objs.size+1) (cellsFrom (s.heap.objs.size+1) scope.names [])) (hl:σ'.length=N.length)
  (W:∀(i:Nat) (v:V) (x:Str),N[i]?=some x->σ'[i]?=some (some v)->scope.names.lookup x=some .free/\∃j:Nat,X.N[j]?=some x/\σ[j]?=some (some v)):
  Inv (fD X scope N s.heap.objs.size s H fp) (X.pn++pq) σ' H {s with heap:=h1,toks:=tk}:=by
 have lt:∀{b:JP} {o:Obj},s.heap.get? b=some o->b≠s.heap.objs.size:=λe=>Zu (Zj e);have C:∀x c,(b7 X.env scope.names []).lookup x=some c->X.env.cells.lookup x=some c:=λx c h=>qV scope.names [] (λ_ z=>nomatch z) (x,c) (ZC h);have a:∀x c,X.env.cells.lookup x=some c->c<s.heap.objs.size:=λx c h=>by obtain⟨v,q⟩:=I.cell x c h;exact q.lt
 have O:∀x c,(cellsFrom (s.heap.objs.size+1) scope.names []).lookup x=some c->h1.IsCell c none/\s.heap.objs.size+1<=c:=λx c h=>f.empty x c (ZC h)
 have G:∀x c,(cellsFrom (s.heap.objs.size+1) scope.names []).lookup x=some c->scope.names.lookup x=some .cell:=λx c h=>by
  rcases qW scope.names _ _ (ZC h)with z|z
  ·cases z
  ·exact S.cel _ z rfl
 have E:∀x,scope.names.lookup x=some .free->(cellsFrom (s.heap.objs.size+1) scope.names []).lookup x=none/\∃c,(b7 X.env scope.names []).lookup x=some c:=λx h=>by
  refine⟨?_,?_⟩
  ·cases z:(cellsFrom (s.heap.objs.size+1) scope.names []).lookup x with
   |none=>rfl
   |some c=>have:=G x c z;rw[h]at this;cases this
  ·have hm:=ZC h;obtain⟨c,Q⟩:=I.ok.has x (S.free _ hm rfl);exact wz (wy Q scope.names [] hm)
 have K:∀x,((fD X scope N s.heap.objs.size s H fp).env.kindOf x=some .cell\/(fD X scope N s.heap.objs.size s H fp).env.kindOf x=some .free)->scope.names.lookup x=some .free\/scope.names.lookup x=some .cell:=λx h=>by
  have go:∀k,(k=JZ\/k=.free)->(relabel scope X.env).names.lookup x=some k->scope.names.lookup x=some .free\/scope.names.lookup x=some .cell:=λk hk h=>by
   obtain⟨k',h1,g⟩:=wC h;rcases g with rfl| ⟨rfl,_⟩
   ·rcases hk with rfl|rfl
    ·exact .inr h1
    ·exact .inl h1
   ·exact .inl h1
  rcases h with h|h
  ·exact go _ (.inl rfl) h
  ·exact go _ (.inr rfl) h
 have A:∀x y c,(cellsFrom (s.heap.objs.size+1) scope.names []).lookup x=some c->(cellsFrom (s.heap.objs.size+1) scope.names []).lookup y=some c->x=y:=λx y c h1 g=>by
  have m1:=ZC h1;have m2:=ZC g;have Z:=f.apart;generalize cellsFrom (s.heap.objs.size+1) scope.names []=l at m1 m2 Z
  induction l with
  |nil=>cases m1
  |cons p l ih=>
   obtain⟨a1,a2⟩:=ZG.mp Z
   grind
 refine⟨⟨I.ok.mod,?_,I.ok.glob,I.ok.blt,Zl _,λx y c h1 g=>?_,λx h=>?_,λx c h g=>?_,I.ok.hd,I.ok.frames,.inl rfl,λb B=>?_,I.bs,ZD I.ok.bsz I.sz,λb o e B=>?_,λb B=>?_,I.stack,I.stkFree⟩,
  rfl,I.bare,Un.kept old,⟨m,hn,λi x v e1 e2 e3=>?_⟩,λx c h=>?_,I.hok.fresh (Zl _),λx c h=>?_,λp hp=>?_,I.hok.kept old,hl⟩
 ·show(relabel scope X.env).kind=.function;unfold relabel;exact S.kind
 ·rcases gA h1 with z| ⟨_,z⟩<;>rcases gA g with Y| ⟨_,Y⟩
  ·exact A x y c z Y
  ·exact absurd (a _ _ (C _ _ Y)) (L3.mpr (KD (O _ _ z).2))
  ·exact absurd (a _ _ (C _ _ z)) (L3.mpr (KD (O _ _ Y).2))
  ·exact I.ok.inj x y c (C x c z) (C y c Y)
 ·rcases K x h with h|h
  ·obtain⟨z,c,t⟩:=E x h;exact⟨c,wE z t⟩
  ·have:=PySem.W.cellsFrom_some (x:=x) scope.names (s.heap.objs.size+1) [] (.inl h);obtain⟨c,t⟩:=Lc.mp this;exact⟨c,DI t⟩
 ·rcases gA g with z| ⟨z,_⟩
  ·exact KD (O _ _ z).2
  ·have:=PySem.W.cellsFrom_some (x:=x) scope.names (s.heap.objs.size+1) [] (.inl (by simpa[fD]using h));rw[z]at this;cases this
 ·obtain⟨f0,L,M,F,P,f5⟩:=T b B;obtain⟨o,D⟩:=U b B;refine⟨lt D,λx c h=>?_⟩;rcases gA h with z| ⟨_,z⟩
  ·exact λq=>absurd (Zj D) (L3.mpr (q▸KD (O _ _ z).2))
  ·exact P x c (C x c z)
 ·obtain⟨f0,L,M,F,P,f5⟩:=T b B;rcases F with F|F
  ·exact I.ok.noex b o e F
  ·exact absurd (Zj (I.ok.bs b o e).1) (L3.mpr F)
 ·obtain⟨f0,L,M,F,P,f5⟩:=T b B;exact i' I L M
 ·obtain⟨J,j,g2,g3⟩:=W i v x e1 e2;obtain⟨m0,_,l0⟩:=I.loc
  have hv:u3 X.env.scope x:=by
   rcases S.free _ (ZC J) rfl with q|q
   ·exact .inr (.inl q)
   ·exact .inr (.inr q)
  obtain⟨u,r,q⟩:=l0 j x v g2 g3 hv;refine⟨u,r,.inr ⟨wD J,?_⟩⟩;obtain⟨z,c,f⟩:=E x J;refine⟨c,wE z f,?_⟩;have w:=S.free _ (ZC J) rfl;rcases q with⟨q,_⟩| ⟨_,c',q1,q2⟩
  ·rcases w with w|w
   ·rw[q]at w;cases w
   ·rw[q]at w;cases w
  ·rw[C x c f]at q1;cases q1;obtain⟨o,D,R⟩:=q2;exact⟨o,old _ _ D,R⟩
 ·rcases gA h with z| ⟨_,z⟩
  ·exact⟨none,(O _ _ z).1⟩
  ·obtain⟨v,o,D,R⟩:=I.cell x c (C x c z);exact⟨v,o,old _ _ D,R⟩
 ·rcases gA h with z| ⟨_,z⟩
  ·exact I.hok.fresh (KD (O _ _ z).2)
  ·exact I.freeC x c (C x c z)
 ·obtain⟨e,n,ne,nf,d⟩:=I.pin p (by simpa[fD]using hp);exact⟨old _ _ e,n,lt e,i' I ne nf,d⟩
theorem DK(I:Inv X pq σ H s)(k:∀b∈fp,dn X pq H b)(j:C=s.heap.objs.size)(J:Inv (fD X scope N C s H fp) pins' σ' H' s')(d:JT C s'.heap h'):
  Inv X pq σ H' {s' with heap:=h'}:=by
 have ne:∀{b:JP} {o:Obj},s.heap.get? b=some o->b≠C:=λe=>by rw[j];exact Zu (Zj e)
 have B:=J.base
 have u:Un _ _ H _ _ _:=
  ⟨λb o e n h a=>(d.2 b (ne e)).trans (B.keep b o e n h a),λb o e n h a=>by obtain⟨sl,q⟩:=B.slot b o e n h a;exact⟨_,(d.2 b (ne e)).trans q⟩,B.free,
   λb o e a=>by obtain⟨v,q⟩:=B.there b o e a;exact⟨_,(d.2 b (ne e)).trans q⟩,B.tups,B.frzs,B.tbls⟩
 have f:H' C=none:=J.free
 have g:=λb O e=>by
  refine(J.hok b O e).stay (λc w t q=>(d.2 c ?_).trans q) (λ_ q=>q) λ_ _ q=>q
  grind
 exact I.call' J.os u g J.bare λb h=>by obtain⟨f0,F,l,m,p,r⟩:=k b h;lia
def PB(X:Cx)(body:Sem Unit)(t:L2.St->Hp->(L2.St->Hp->Prop)->Prop):Prop:=
 ∀(pq:Lp) (s:JN) (σ:L2.St) (H:Hp) (Q:L2.St->Hp->Prop),Inv X pq σ H s->t σ H Q->wpAny (model X.prog X.w) X.A body (λ_ s'=>∃σ' H',Inv X pq σ' H' s'/\Q σ' H') X.xe s
theorem fW{m:Sem α}{Q:α->JN->Prop}(H:X.xe=λ_ _=>False)(h:wpAny M A m Q X.xe s):wpAny M A m Q E s:=by rw[H]at h;exact Kr h (λ_ _ q=>q) λ_ _ z=>z.elim
noncomputable def h9:Expr->Bool
 | .ListComp .. =>JK
 | .SetComp .. =>JK
 |_=>JL
theorem lF(h:h9 ce=JK){d:Nat}{it a:JO}:(model prog w).den (.compLoop ce d it a env)=(compTurn ce d it a env).onRaise (λx=>do noteFrame x env;theTreesLotGoes x)/\A.under (.compLoop ce d it a env)=A/\(model prog w).den (.compStart ce d it a env)=(compStart ce d it a env).onRaise (λx=>do noteFrame x env;standAt theWindowsPlace)/\A.under (.compStart ce d it a env)=A:=by cases ce<;>first|exact⟨rfl,rfl,rfl,rfl⟩|cases h
theorem wF{d:Nat}{c:JO}{p:Pos}{body:Sem Unit}{R:Ng->JN->Prop}{Fin:L2.St->Hp->Prop}
  (k:h9 ce=JK) (l:X.xe=λ_ _=>False) (O:X.calm=JK)
  (C:compTurn ce d (.ref it) c X.env=(standAt p>>=λ_=>pyNext (.ref it)>>=λr=>match r with
   |none=>pure (.done .next)
   |some v=>letOwnedTupleGo tg (.ref it) v>>=λ_=>assign tg X.env v>>=λ_=>body>>=λ_=>again (.compLoop ce d (.ref it) c X.env)))
  (T:Turn X.prog X.w X.K tg J fp it tn) (hg:PG X tg g) (h:PB X body tb) (I:Inv X pq σ H s) (st:tn 0 s.heap) (P:∀b∈fp,dn X pq H b)
  (W:∃W:Nat->Nat->L2.St->Hp->Prop,(∃m,W 0 m σ H)/\∀i m σ H,W i m σ H->
   (J.stop i H/\Fin σ H)\/(J.go i H/\∃Nx:L2.St->Hp->Prop,(∀σ' H',Nx σ' H'->∃M,M<m/\W (i+1) M σ' H')/\∀x H',J.yld i H x H'->g x σ H' λE H2=>tb E H2 Nx))
  (hR:∀s' σ' H',Inv X pq σ' H' s'->(∀b∈fp,H' b=none)->Fin σ' H'->R (.ok .next) s'):codeAny (model X.prog X.w) X.A (.compLoop ce d (.ref it) c X.env) R s:=by
 obtain⟨W,⟨m0,w0⟩,turn⟩:=W;have S:∀{H':Hp},(∀b∈fp,H' b=none)->∀b∈fp,dn X pq H' b:=λhn b h=>⟨hn b h,(P b h).2⟩;refine codeAny_loop rfl (λn s'=>∃i σ' H',Inv X pq σ' H' s'/\tn i s'.heap/\(∀b∈fp,H' b=none)/\W i n σ' H') ?_ m0 ⟨0,σ,H,I,st,λb h=>(P b h).1,w0⟩;rintro n U ⟨i,a,y,N,q,f,w3⟩;rw[(lF (A:=X.A) k).1,(lF (prog:=X.prog) (w:=X.w) k).2.1];refine wpAny_noted ?_;rw[C];refine Za (Mi ?_);rcases turn i n a y w3 with⟨stop,qn⟩| ⟨go,Nx,hN,step⟩
 ·refine Za (fW l (aX (T.done X rfl rfl rfl O i pq U a y X.xe N (S f) q stop) λr V ⟨D,Z⟩=>?_));subst D;exact Zd (hR V a y Z f qn)
 ·refine Za (fW l (aX (T.item X rfl rfl rfl O i pq U a y X.xe N (S f) q go) λr V ⟨u,D,h4⟩=>?_));subst D;refine Za (fW l (aX h4 λ_ s5 ⟨x,K,I5,r5,y5,j,F⟩=>?_));have z:=I5.pinned (S F) (T.obj _ _ j);refine Za (fW l (aX (hg _ s5 a K x u _ z r5 (step x K y5)) λ_ s6 ⟨G,Y,I6,q6⟩=>?_));refine Za (fW l (aX (h _ s6 G Y _ I6 q6) λ_ s7 ⟨t,L,B,n7⟩=>?_));refine Zd ?_;obtain⟨M,hm,w7⟩:=hN t L n7;refine⟨rfl,M,hm,i+1,t,L,B.unpinned,T.keep _ _ _ j λb h o e=>(B.pin (b,o) (Zt _ (Zt _ (kW h e)))).1,λb h=>?_,w7⟩;obtain⟨o,e,d⟩:=T.obj _ _ j b h;exact(B.pin (b,o) (Zt _ (Zt _ (kW h e)))).2.1
theorem wG{R:Ng->JN->Prop}{d:Nat}{it a:JO}{t i:Expr}{fs:Lx}(H:h9 ce=JK)(e:(clausesOf ce)[d]?=some ⟨t,i,fs,0⟩)
  (c:codeAny (model prog w) A (.compLoop ce d it a env) R s)
  (h:wpAny (model prog w) A (pyIter it) (λI s'=>codeAny (model prog w) A (.compLoop ce d I a env) R s') (notedBy (model prog w) A env λx s'=>R (.error x) s') s):
  codeAny (model prog w) A (.compStart ce d it a env) R s:=by
 refine MA ?_;rw[(lF (A:=A) H).2.2.1,(lF (prog:=prog) (w:=w) H).2.2.2];refine wpAny_notedAt ?_;unfold compStart;rw[e];refine Za (J' (KJ ?_));split
 ·first
   |grind
   |exact Zd (And.intro rfl c)
 ·first
   |exact Za (K1 (Za (Mi (Za (Kr h (λI s' b=>Zd (And.intro rfl b)) λ_ _ x=>x)))))
   |simp_all
abbrev TU:=L2.St->Hp->(L2.St->Hp->Prop)->Prop
noncomputable def lG:List TT->(L2.St->Hp->(Bool->Hp->Prop)->Prop)
 | []=>λ_ H Q=>Q JK H
 |t::r=>λσ H Q=>t σ H λb H1=>if b=JK then lG r σ H1 Q else Q JL H1
noncomputable def wH(X:Cx):Lx->List TT->Prop
 | [],[]=>True
 |e::es,t::ts=>PT X e t/\wH X es ts
 |_,_=>False
theorem wI{M:Model}{A:KI}{E:Vs}{env:Env}{Q:Bool->JN->Prop}{s:JN}:∀(ifs:Lx),Q JL s->
  wpAny M A (forIn ifs JL λc r=>if r=JK then do let ok <-isTrue c env (eval c env);pure (J_ ok)else pure (J_ r)) Q E s
 | [],h=>Zd h
 |c::r,h=>by rw[LS];exact Za (Zd (wI r h))
theorem wJ:∀(ifs:Lx) (ts:List TT),wH X ifs ts->∀(pq:Lp) (s:JN) (σ:L2.St) (H:Hp) (Q:Bool->Hp->Prop),Inv X pq σ H s->lG ts σ H Q->
  wpAny (model X.prog X.w) X.A (forIn ifs JK λc r=>if r=JK then do let ok <-isTrue c X.env (eval c X.env);pure (J_ ok)else pure (J_ r)) (TP X pq σ Q) X.xe s
 | [],[],_,pq,s,σ,H,Q,I,h=>Zd ⟨H,I,h⟩
 |e::E,t::ts,p,pq,s,σ,H,Q,I,h=>by
  rw[LS];refine Za (Za (aX (p.1 _ s _ H _ I h) λb S ⟨_,a,q⟩=>Zd ?_));cases b with
  |true=>exact wJ _ _ p.2 _ _ _ _ Q a q
  |false=>exact wI _ ⟨_,a,q⟩
 | [],_::_,p,_,_,_,_,_,_,_=>p.elim
 |_::_,[],p,_,_,_,_,_,_,_=>p.elim
noncomputable def wK(a:JP)(t:TE):TU:=λσ H Q=>t σ H λv H1=>∃ys,H1 a=some (.lst ys)/\ys.length<sizeLine/\Q σ (a' H1 a (.lst (ys++[v])))
noncomputable def wL(ts:List TT)(t:TU):TU:=λσ H Q=>lG ts σ H λb H1=>if b=JK then t σ H1 Q else Q σ H1
noncomputable def qY(w:TI)(g:TG)(tb:TU):TU:=λσ H Q=>w σ H λJ H1=>∃W:Nat->Nat->L2.St->Hp->Prop,(∃m,W 0 m σ H1)/\∀i m σ H,W i m σ H->
   (J.stop i H/\Q σ H)\/(J.go i H/\∃N:L2.St->Hp->Prop,(∀σ' H',N σ' H'->∃M,M<m/\W (i+1) M σ' H')/\∀x H',J.yld i H x H'->g x σ H' λa H2=>tb a H2 N)
noncomputable def ja(o0:JP->HO)(cs:L2.St->L2.St)(w:TI)(g:TG)(tb:JP->TU):TE:=λσ H Q=>w σ H λJ H1=>∀acc,H1 acc=none->
 ∃W:Nat->Nat->L2.St->Hp->Prop,(∃m,W 0 m (cs σ) (a' H1 acc (o0 acc)))/\∀i m σ H,W i m σ H->
   (J.stop i H/\Q (.ref acc) H)\/(J.go i H/\∃N:L2.St->Hp->Prop,(∀σ' H',N σ' H'->∃M,M<m/\W (i+1) M σ' H')/\∀x H',J.yld i H x H'->g x σ H' λa H2=>tb acc a H2 N)
def lH(X:Cx)(scope:Scope)(N:Ls)(cs:L2.St->L2.St):Prop:=∀σ:L2.St,σ.length=X.N.length->(cs σ).length=N.length/\
 ∀(i:Nat) (v:V) (x:Str),N[i]?=some x->(cs σ)[i]?=some (some v)->scope.names.lookup x=some .free/\∃j:Nat,X.N[j]?=some x/\σ[j]?=some (some v)
theorem wM(I:Inv X pq σ H s)(S:dR X scope):closureFor scope X.env=pure (b7 X.env scope.names []):=
 DG λx a h=>I.ok.has _ (S.free x a h)
theorem DL(H:JU)(d:Obj)(n:List (Str×Ku)):CellsOk (pushCells (H.push d) n) (H.objs.size+1) (cellsFrom (H.objs.size+1) n []):=by have:=cellsFrom_ok n (H.push d) (H.objs.size+1) _ ⟨(λ_ _ h=>by cases h),.nil⟩ (by simp_all);simp_all
theorem wN{G:List J6}{O:Obj}{o0:JP->HO}{mk:Sem JO}{scope:Scope}{N:Ls}{cs:L2.St->L2.St}{J:It}{g:TG}{tb:JP->TU}{R:JO->JP->Ng->JN->Prop}{Fin:V->Hp->Prop}
  {P:Lp} {σ:L2.St} {H:Hp}  {it:JP} {f:La} {tn:Nat->JU->Prop} {E:Vs} (D:h9 ce=JK) (hce:clausesOf ce=⟨tg,iter,ifs,0⟩::G) (hmk:∀{s:JN} {Q:Vs},Q (.ref s.heap.objs.size) {s with heap:=s.heap.push O}->wpAny (model X.prog X.w) X.A mk Q E s) (hob:bv X.prog X.w (a' H s.heap.objs.size (o0 s.heap.objs.size)) (s.heap.push O) s.heap.objs.size (o0 s.heap.objs.size)) (hc:X.calm=JK) (sc:dR X scope) (hcs:lH X scope N cs) (I:Inv X P σ H s) (T:Turn X.prog X.w X.K tg J f it tn) (st:tn 0 s.heap) (hf:∀b∈f,dn X P H b)
  (body:JP->Env->Sem Unit)
  (heq:∀(acc:JP) (env:Env),compTurn ce 0 (.ref it) (.ref acc) env=(standAt iter.pos>>=λ_=>pyNext (.ref it)>>=λr=>match r with
   |none=>pure (.done .next)
   |some v=>letOwnedTupleGo tg (.ref it) v>>=λ_=>assign tg env v>>=λ_=>body acc env>>=λ_=>again (.compLoop ce 0 (.ref it) (.ref acc) env)))
  (hin:∀(C:JP) (s0:JN) (H0:Hp) (f:La) (acc:JP),PG (fD X scope N C s0 H0 f) tg g/\PB (fD X scope N C s0 H0 f) (body acc (fD X scope N C s0 H0 f).env) (tb acc))
  (W:∀acc,H acc=none->∃W:Nat->Nat->L2.St->Hp->Prop,(∃m,W 0 m (cs σ) (a' H acc (o0 acc)))/\∀i m σ H,W i m σ H->
   (J.stop i H/\Fin (.ref acc) H)\/(J.go i H/\∃Nx:L2.St->Hp->Prop,(∀σ' H',Nx σ' H'->∃m',m'<m/\W (i+1) m' σ' H')/\∀x H',J.yld i H x H'->g x σ H' λσ2 H2=>tb acc σ2 H2 Nx))
  (hR:∀(acc C:JP) (s':JN) (H':Hp) (m:Mg),s'.heap.Ns C m->C≠X.env.locals->(∀x c,X.env.cells.lookup x=some c->c≠C)->H' C=none->X.s₀.heap.objs.size<=C->(∀p∈X.pn++P,p.1≠C)->(∀h',JT C s'.heap h'->Inv X P σ H' {s' with heap:=h'})->Fin (.ref acc) H'->R (.ref acc) C (.ok .next) s'):
  wpAny (model X.prog X.w) X.A mk (λacc K=>wpAny (model X.prog X.w) X.A (newFunctionEnv scope X.env.globals (b7 X.env scope.names []) [] X.env.qual none .none (some X.env)) (λl M=>
   codeAny (model X.prog X.w) X.A (.compStart ce 0 (.ref it) acc {l with scope:=relabel scope X.env}) (R acc l.locals) M) E K) E s:=by
 refine hmk (DH ?_);have hfr:H s.heap.objs.size=none:=I.hok.fresh (Zl _);have u:Inv X P σ (a' H s.heap.objs.size (o0 s.heap.objs.size)) {s with heap:=s.heap.push O,toks:=s.toks}:=I.laid (t':=s.toks) (λb o e=>Zb _ e) (Zl _) hob;have A:∀b∈f,∃o,s.heap.get? b=some o:=λb j=>by obtain⟨o,e,_⟩:=T.obj _ _ st b j;exact⟨o,e⟩
 have w:∀b∈f,dn X P (a' H s.heap.objs.size (o0 s.heap.objs.size)) b:=λb j=>by obtain⟨f0,Z⟩:=hf b j;obtain⟨o,y⟩:=A b j;exact⟨by rw[aW (Zu (Zj y))];exact f0,Z⟩
 have F:∀b∈f,∃o,(s.heap.push O).get? b=some o:=λb j=>by obtain⟨o,y⟩:=A b j;exact⟨o,Zb _ y⟩
 obtain⟨k1,k2⟩:=hcs σ I.len;obtain⟨a,U⟩:∃a,a=pushCells ((s.heap.push O).push {cls:=.type "dict",data:=.dict #[]}) scope.names:=⟨_,rfl⟩;have n:∀b o,(s.heap.push O).get? b=some o->a.get? b=some o:=λb o e=>by rw[U];exact pushCells_keeps _ _ _ _ (Zb _ e)
 have k:a.Ns (s.heap.push O).objs.size λ_=>none:=by rw[U];exact⟨_,_,_,pushCells_keeps _ _ _ _ (Zh _ rfl),rfl,(λx h=>by simp at h),λ_=>rfl⟩
 have B:CellsOk a ((s.heap.push O).objs.size+1) (cellsFrom ((s.heap.push O).objs.size+1) scope.names []):=by rw[U];exact DL _ _ _
 rw[<-U];have J0:=DJ (tk:=s.toks) (N:=N) (scope:=scope) (σ':=cs σ) hc u sc w F k n B k1 k2;have old:∀b o,s.heap.get? b=some o->a.get? b=some o:=λb o e=>n b o (Zb _ e);have S:tn 0 a:=T.keep _ _ _ st λb _ o e=>old b o e;have hlt:X.env.locals<(s.heap.push O).objs.size:=u.lt
 have L:codeAny (model X.prog X.w) X.A (.compLoop ce 0 (.ref it) (.ref s.heap.objs.size) (fD X scope N (s.heap.push O).objs.size {s with heap:=s.heap.push O,toks:=s.toks} (a' H s.heap.objs.size (o0 s.heap.objs.size)) f).env)
   (R (.ref s.heap.objs.size) (s.heap.push O).objs.size) {s with heap:=a,toks:=s.toks}:=by
  obtain⟨p1,p2⟩:=hin (s.heap.push O).objs.size {s with heap:=s.heap.push O,toks:=s.toks} (a' H s.heap.objs.size (o0 s.heap.objs.size)) f s.heap.objs.size;refine wF (X:=fD X scope N _ _ _ f) (Fin:=λ_ H'=>Fin (.ref s.heap.objs.size) H') D rfl hc (heq _ _) T p1 p2 J0 S (λb j=>?_) ?_ ?_
  ·obtain⟨f0,Z,f2,f3,f4,f5⟩:=w b j;obtain⟨o,y⟩:=F b j;refine⟨f0,Zu (Zj y),i' u Z f2,.inl j,λx c h=>?_,λp hp=>f5 p (by simpa[fD]using hp)⟩;rcases gA h with z| ⟨_,z⟩
   ·exact λq=>absurd (Zj y) (L3.mpr (q▸KD (B.empty x c (ZC z)).2))
   ·exact f4 x c (qV scope.names [] (λ_ z=>nomatch z) (x,c) (ZC z))
  ·exact W _ hfr
  ·intro s' σ' H' Y _ fin;obtain⟨m,hm,_⟩:=id Y.loc;refine hR _ _ s' H' m hm (Kk hlt) (λx c h z=>?_) Y.free u.sz (λp hp z=>?_) (λh' hs'=>?_) fin
   ·obtain⟨v,q⟩:=u.cell x c h;exact absurd q.lt (by rw[z];exact Z6 _)
   ·exact absurd (Zj (u.pin p hp).1) (by rw[z];exact Z6 _)
   ·exact DK u w rfl Y hs'
 exact wG D (by rw[hce];rfl) L (T.self _ 0 _ _ _ S L)
theorem lI{R:List J6}{pos:Pos}{cs:L2.St->L2.St}{tb:JP->TU}(n:X.calm=JK)(S:dR X scope)(a:lH X scope N cs)(o:PI X tg iter wi)(body:JP->Env->Sem Unit)
  (b:∀(it acc:JP) (env:Env),compTurn (.ListComp elt (⟨tg,iter,ifs,0⟩::R) scope pos) 0 (.ref it) (.ref acc) env=(standAt iter.pos>>=λ_=>pyNext (.ref it)>>=λr=>match r with
   |none=>pure (.done .next)
   |some v=>letOwnedTupleGo tg (.ref it) v>>=λ_=>assign tg env v>>=λ_=>body acc env>>=λ_=>again (.compLoop (.ListComp elt (⟨tg,iter,ifs,0⟩::R) scope pos) 0 (.ref it) (.ref acc) env)))
  (c:∀(C:JP) (s0:JN) (H0:Hp) (fp:La) (acc:JP),PG (fD X scope N C s0 H0 fp) tg g/\PB (fD X scope N C s0 H0 fp) (body acc (fD X scope N C s0 H0 fp).env) (tb acc))
  (t:∀x,foldedSetIterable iter X.env x=pure x:=by intro _;rfl):PE X (.ListComp elt (⟨tg,iter,ifs,0⟩::R) scope pos) (ja (λ_=>.lst []) cs wi g tb):=by
 intro P s G H Q I h;refine Oh rfl t (wM I S) S.kind S.loc (Kr (o _ s _ H _ I h) (λv B j=>Kr j (λu D k=>?_) λ_ _ e=>e) λ_ _ e=>e);obtain⟨it,fp,E,J,y,e,i,T,f,F,W⟩:=k;subst e;refine wN (o0:=λ_=>.lst _) rfl rfl (λq=>Yf q) ⟨Ks _,_,0,.nil,Zh _ rfl⟩ n S a i T f F _ (b _) c W ?_;intro acc C A w m p _ _ _ _ _ l fin;exact⟨m,p,λz d=>⟨.ref _,_,l _ d,rfl,fin⟩⟩
theorem lJ{R:List J6}{pos S P:Pos}{cs:L2.St->L2.St}{tb:JP->TU}{x:Str}{j:Nat}(hc:X.calm=JK)(Z:X.N.Nodup)(hj:X.N[j]?=some x)(F:X.env.scope.names.lookup x=some .local)
  (B:swapsWith (.ListComp elt (⟨tg,iter,ifs,0⟩::R) scope pos) (some (.Name x P)) S.line X.env=pure JK)
  (c:dR X scope) (u:lH X scope N cs) (hi:PI X tg iter wi) (body:JP->Env->Sem Unit)
  (w:∀(it acc:JP) (env:Env),compTurn (.ListComp elt (⟨tg,iter,ifs,0⟩::R) scope pos) 0 (.ref it) (.ref acc) env=(standAt iter.pos>>=λ_=>pyNext (.ref it)>>=λr=>match r with
   |none=>pure (.done .next)
   |some v=>letOwnedTupleGo tg (.ref it) v>>=λ_=>assign tg env v>>=λ_=>body acc env>>=λ_=>again (.compLoop (.ListComp elt (⟨tg,iter,ifs,0⟩::R) scope pos) 0 (.ref it) (.ref acc) env)))
  (y:∀(C:JP) (s0:JN) (H0:Hp) (fp:La) (acc:JP),PG (fD X scope N C s0 H0 fp) tg g/\PB (fD X scope N C s0 H0 fp) (body acc (fD X scope N C s0 H0 fp).env) (tb acc))
  (hs:∀x,foldedSetIterable iter X.env x=pure x:=by intro _;rfl):PS X (.Assign [.Name x P] (.ListComp elt (⟨tg,iter,ifs,0⟩::R) scope pos) S) (qb (ja (λ_=>.lst []) cs wi g tb) (eC j)):=by
 intro pq s K H D I h;rw[exec_Assign_Name_used _ _ _ _ B];refine Za (Mi (Za ?_))
 refine Za (Kr (Oh rfl hs (wM I c) c.kind c.loc
  (Kr (hi pq s K H _ I h) (λv s1 U=>Kr U (λitv s2 V=>?_) λ_ _ e=>e) λ_ _ e=>e)) (λ_ G hq=>Zd (Zd hq)) λ_ _ e=>e)
 obtain⟨it,fp,tn,J,H2,e,L,T,E,Q,W⟩:=V;subst e;refine wN (o0:=λ_=>.lst []) rfl rfl (λq=>Yf q) ⟨Ks _,[],0,.nil,Zh _ rfl⟩ (Fin:=λv d=>eC j v K d D.nx) hc c u L T E Q body (w it) y W ?_;intro acc C G d m hm l p f i k Y fin;have M:=by have:=Y G.heap (.refl ..);simpa using this
 refine wpAny_assign_Name (u5 M Z hj (.inl F) (v:=.ref acc) rfl (λs'' O t=>?_) (.inr F));obtain⟨a,A,ha⟩:=t
 have n:C≠a:=by
  grind
 exact⟨m,hm.sameBut A n,λh' z=>⟨_,d,O.turned (λb o hb e=>(z.2 b hb).trans e) f l (.inr i) p k,fin⟩⟩
theorem ag.eraseIdx{m:GS}:∀{ds:List D} {vs:List V} (i:Nat),ag K m μ H ds vs->ag K m μ H (ds.eraseIdx i) (vs.eraseIdx i)
 | [],vs,i,h=>by subst h;rfl
 |d::ds,vs,0,h=>by obtain⟨v,u,rfl,r,q⟩:=h.uncons;exact q
 |d::ds,vs,i+1,h=>by obtain⟨v,u,rfl,r,q⟩:=h.uncons;exact .cons r (ag.eraseIdx i q)
noncomputable def qZ(d:D)(ds:List D)(S:aa):Res D:=match d,ds with
 | .ref n,[.int i]=>match S[n]? with
  |some xs=>match fk xs.length i with
   |some k=>match xs[k]? with
    |some y=>if xs.length<=bB then .ok y (S.set n (xs.eraseIdx k))else .fail
    |none=>.fail
   |none=>.fail
  |none=>.fail
 |_,_=>.fail
theorem lK:qC X "list.pop" (rM X.K X.mg qZ):=by
 intro P s J H x C v U Q I t p h;obtain⟨F,G,S,d,D,c,m,R,w⟩:=h;unfold qZ at w;split at w
 ·split at w
  ·rename_i n i _ Y e;split at w
   ·rename_i k f;split at w
    ·rename_i y E;split at w
     ·obtain⟨a,vs,rfl,l,b,r⟩:=i8 c m e;obtain⟨V,rfl,o⟩:=R.one;cases aG o;obtain⟨z,g,j⟩:=r.get E;obtain⟨q,u,A,B⟩:=qB f;rw[r.length]at q;exact Dd _ s _ H _ _ v _ Q I t p ⟨a,_,i,k,z,rfl,rfl,b,by lia,by lia,q,g,w.wrote c l b (r.eraseIdx k) j⟩
     ·exact w.elim
    ·exact w.elim
   ·exact w.elim
  ·exact w.elim
 ·exact w.elim
noncomputable def h_(ds:List D)(S:aa):Res D:=i3 ds S
theorem lL(h:X.calm=JK):a7 X (.builtin "max") (rC X.K X.mg h_):=wn h
section
variable {R:Ng->JN->Prop}{P:Nat->JO->Prop}{St:Nat->JU->Prop}
def jb(prog:J8)(w:Ke)(A:KI)(P:Nat->JO->Prop)(b:Nat->Nat->Bool)(g:Array NW)(d:Drawn)(o:OsState)(K:JU->Prop):Prop:=
 ∀(i j:Nat) (v V:JO) (h:JU) (tk:Nat) (Q E:Vs),K h->P i v->P j V->Q (.bool (b i j)) ⟨h,g,d,tk,o⟩->wpAny (model prog w) A (richCompare .Lt v V) Q E ⟨h,g,d,tk,o⟩
theorem DM(W:Walks prog w A.in1 I fp wr n P St)(B:Nat->Nat->Bool){g:Array NW}{O:OsState}{K:JU->Prop}(X:jb prog w A.in1 P B g dr O K)(S:JP)(C:S∉fp)
  (N:∀h h',K h->(∀b o,b∉wr->b≠S->h.get? b=some o->h'.get? b=some o)->K h'):∀(k j:Nat) (h0:JU) (L:Nat) (V:JO) (c:Nat),n-(j+1)=k->j+1<=n->St (j+1) h0->P (argBest B j) V->K h0->
   h0.get? S=some {cls:=.type "list",data:=.seq #[V,V] c}->
   (∀(v:JO) (h':JU) (tk:Nat),P (argBest B (n-1)) v->(∀b o,b∉wr->b≠S->h0.get? b=some o->h'.get? b=some o)->R (.ok (.ret v)) ⟨h',g,dr,tk,O⟩)->
   codeAny (model prog w) A (.builtin "min.loop" ⟨[.ref I,.none,.ref S],[]⟩) R ⟨h0,g,dr,L,O⟩:=by
 have D:S∉wr:=λh=>C (W.sub S h);intro k
 induction k with
 |zero=>
  intro j h0 L V c Z Y t i x y hR;have E:n=j+1:=by omega
  refine Ki Nq ?_;rw[J5 Lf];refine Za (Kf y rfl ?_);refine Za (MR (W.done _ _ _ (E▸t) λh' tk d=>?_));refine Za (L4 (d S _ D y) rfl (Za (LB (Zd ?_))));refine hR V _ tk ?_ λb o u H e=>?_
  ·rw[E];exact i
  ·exact(ZO _ _ (Ne.symm H)).trans (d b o u e)
 |succ k U=>
  intro j h0 L V c Z Y t i x y hR;refine Ki Nq ?_;rw[J5 Lf];refine Za (Kf y rfl ?_);refine Za (MR (W.item (j+1) _ _ _ (by omega) t λv h' tk J l d=>?_));have r:=d S _ D y;have m:K h':=N _ _ x λb o u _ e=>d b o u e;refine Za (Zd ?_);refine Za (MR (ZU (Za (X (j+1) (argBest B j) v V _ _ _ _ m J i (Za (ZU (Yd (Za (LB (Zd ?_))))))))));have f:(toString "min"++toString ".loop")="min.loop":=by decide
  have q:(Code.builtin "min.loop" ⟨[.ref I,.none,.ref S],[]⟩).quiet=JK:=Lu Lf _;cases u:B (j+1) (argBest B j)with
  |true=>
   have Q:argBest B (j+1)=j+1:=by rw[argBest,u,if_pos rfl]
   refine Za (L4 r rfl (Za (LB ?_)));rw[f];refine Zd ⟨q,?_⟩;refine U (j+1) (h'.update S (JY λ_=> #[v,v])) tk v c (by omega) (by omega) ?_ (by grind) ?_ ?_ λM G T p s=>?_
   ·refine W.frame _ _ _ l λb a o e=>?_;exact(ZO _ _ λz=>C (by rw[z];exact a)).trans e
   ·exact N _ _ m λb o _ H e=>(ZO _ _ (Ne.symm H)).trans e
   ·exact Z8 (JY λ_=> #[v,v]) r rfl
   ·exact hR M G T p λb o a H e=>s b o a H ((ZO _ _ (Ne.symm H)).trans (d b o a e))
  |false=>
   have Q:argBest B (j+1)=argBest B j:=by rw[argBest,u,if_neg (by decide)]
   refine Za (LB ?_);rw[f];refine Zd ⟨q,?_⟩;exact U (j+1) h' tk V c (by omega) (by omega) l (by rw[Q];exact i) m r λM G T p s=>hR M G T p λb o a H e=>s b o a H (d b o a e)
theorem DN(W:Walks prog w A.in1 I fp wr n P St)(B:Nat->Nat->Bool){g:Array NW}{O:OsState}{K:JU->Prop}(E:jb prog w A.in1 P B g dr O K)(S:JP)(d:S∉fp)
  (l:∀h h',K h->(∀b o,b∉wr->b≠S->h.get? b=some o->h'.get? b=some o)->K h') (G:0<n)  {J:Nat} {c:Nat} (u:St 0 h0) (m:K h0)
  (x:h0.get? S=some {cls:=.type "list",data:=.seq #[] c})
  (hR:∀(v:JO) (h':JU) (tk:Nat),P (argBest B (n-1)) v->(∀b o,b∉wr->b≠S->h0.get? b=some o->h'.get? b=some o)->R (.ok (.ret v)) ⟨h',g,dr,tk,O⟩):
  codeAny (model prog w) A (.builtin "min.loop" ⟨[.ref I,.none,.ref S],[]⟩) R ⟨h0,g,dr,J,O⟩:=by
 refine Ki Nq ?_;rw[J5 Lf];refine Za (Kf x rfl ?_);refine Za (MR (W.item 0 _ _ _ G u λv h' tk r k f=>?_));have j:=f S _ (λh=>d (W.sub S h)) x;refine Za (Zd ?_);have i:(toString "min"++toString ".loop")="min.loop":=by decide
 have q:(Code.builtin "min.loop" ⟨[.ref I,.none,.ref S],[]⟩).quiet=JK:=Lu Lf _;refine Za (L4 j rfl ?_);rw[i];refine Zd ⟨q,?_⟩;obtain⟨C,s⟩:∃C,(h'.update S (JY λ_=> #[v,v])).get? S=some {cls:=.type "list",data:=.seq #[v,v] C}:=⟨_,Z8 (JY λ_=> #[v,v]) j rfl⟩;refine DM W B E S d l (n-1) 0 (h'.update S (JY λ_=> #[v,v])) tk v C (by omega) (by omega) ?_ r ?_ ?_ λV y T p t=>?_
 ·refine W.frame _ _ _ k λb H o e=>?_;exact(ZO _ _ λz=>d (by rw[z];exact H)).trans e
 ·exact l _ _ (l _ _ m λb o D _ e=>f b o D e) λb o _ a e=>(ZO _ _ (Ne.symm a)).trans e
 ·exact s
 ·exact hR V y T p λb o H a e=>t b o H a ((ZO _ _ (Ne.symm a)).trans (f b o H e))
theorem DO{E:Vs}{s:JN}{x:JO}{K:JU->Prop}
  (h:wpAny (model prog w) A.in1 (pyIter x) (λit s2=>∃I fp wr n P St B,it=.ref I/\Walks prog w A.in1 I fp wr n P St/\St 0 s2.heap/\(∀b∈fp,b<s2.heap.objs.size)/\0<n/\jb prog w A.in1 P B s2.gens s2.drawn s2.os K/\K s2.heap/\
   (∀(S:JP) h h',s2.heap.objs.size<=S->K h->(∀b o,b∉wr->b≠S->h.get? b=some o->h'.get? b=some o)->K h')/\
   ∀(v:JO) (h':JU) (tk:Nat),P (argBest B (n-1)) v->(∀b o,b∉wr->s2.heap.get? b=some o->h'.get? b=some o)->Q v {s2 with heap:=h',toks:=tk}) E s):
  wpAny (model prog w) A (call (.builtin "min") [x]) Q E s:=by
 refine call_function_tree F.kind_min F.plain_min F.entry_min (F.args_min1 x) ?_;refine Za (NH rfl (Za (Zd (Za (Kr h (λit s2 i=>?_) λ_ _ e=>e)))));obtain⟨I,fp,wr,n,P,St,B,rfl,W,d,c,r,m,H,f,l⟩:=i;refine Za (Yf ?_);refine Zd ⟨Lu Lf _,?_⟩;refine DN W _ m _ (λq=>Z6 _ (c _ q)) (λh h' k e=>f _ h _ (Zl _) k e) r (W.frame 0 _ _ d λb _ o e=>Zb _ e) ?_ (Zh _ rfl) λv h' tk j p=>?_
 ·exact f _ _ _ (Zl _) H λb o _ _ e=>Zb _ e
 ·exact l v _ _ j λb o a e=>p b o a (Zu (Zj e)) (Zb _ e)
end
noncomputable def gB(ds:List D)(S:aa):Res D:=match ds with
 | [d]=>match dP S d with
  |some (x::xs)=>if((x::xs).all λa=>(x::xs).all λb=>(cY S aM a b).isSome)=JK then .ok (xs.foldl (λb y=>if cY S aM y b=some JK then y else b) x) S else .fail
  |_=>.fail
 |ds=>i0 ds S
theorem lM(g:D->D->Bool)(x:D)(xs:List D):∀k,k<=xs.length->(x::xs).getD (argBest (λi j=>g ((x::xs).getD i .non) ((x::xs).getD j .non)) k) .non=(xs.take k).foldl (λb y=>if g y b=JK then y else b) x/\argBest (λi j=>g ((x::xs).getD i .non) ((x::xs).getD j .non)) k<=k:=by
 intro k
 induction k with
 |zero=>intro _;exact⟨rfl,Zl _⟩
 |succ k I=>
  intro h;have e:xs.take (k+1)=xs.take k++[xs[k]]:=by simp_all
  rw[e,List.foldl_append,argBest]
  grind
theorem DP(hc:X.calm=JK)(hu:X.A.units+64<cLine):a7 X (.builtin "min") (rC X.K X.mg gB):=by
 intro pq s σ H xs us Q I r h;obtain⟨F,μ,S,ds,O,rl,w⟩:=h;unfold gB at w;split at w
 ·rename_i d;obtain⟨v,rfl,rd⟩:=rl.one;obtain⟨u,rfl,ru⟩:=vals1 r;split at w
  ·rename_i y Y e;split at w
   ·rename_i t;obtain⟨a,vs,rfl,hq,rr⟩:=dq O rd e;cases ru;have hh:X.A.in1.handled=none:=I.ok.hd hc;obtain⟨c,rv,p,hz⟩:=I.list (.of hq);have l1:=rr.length;have l2:=rv.length;have hl:c.toArray.size=Y.length+1:=by rw[ZS,<-l2,<-l1];rfl
    have E:a<s.heap.objs.size:=by obtain⟨o,g,_⟩:=p.isList;exact Zj g
    have W:a≠s.heap.objs.size:=Zu E
    have A:∀(i:Nat) (v:JO),c.toArray[i]?=some v->∃x z,(y::Y)[i]?=some x/\Rep X.K ⟨X.mg,F⟩ μ H x z/\RelV z v:=λi v hv=>by
     have G:c[i]?=some v:=by simpa using hv
     have hi:i<c.length:=(Zp.mp G).1;have e1:(y::Y)[i]?=some ((y::Y)[i]'(by omega)):=Zm _;obtain⟨z,e2,Z⟩:=rr.get e1;obtain⟨v2,e3,r3⟩:=rv.get e2;rw[G]at e3;cases e3;exact⟨_,z,e1,Z,r3⟩
    refine DO (K:=λh=>∀b o,s.heap.get? b=some o->h.get? b=some o) (Ye p.isList ?_);refine⟨_,_,_,_,_,_,λi j=>decide (cY S aM ((y::Y).getD i .non) ((y::Y).getD j .non)=some JK),rfl,Walks.list hh s.heap.objs.size a W c.toArray,⟨⟨_,Zh _ rfl,rfl,rfl⟩,NN p.isList _⟩,?_,by omega,?_,λb o g=>Zb _ g,?_,λv l T hP kp=>?_⟩
    ·intro b B;have n:∀o,(s.heap.push o).objs.size=s.heap.objs.size+1:=λo=>by simp[Heap.push]
     have U:b=s.heap.objs.size\/b=a:=by simpa using B
     refine Nat.lt_of_lt_of_eq ?_ (n _).symm;rcases U with h|h
     ·rw[h];exact KP _
     ·rw[h];exact L_ E
    ·intro i j vi vj l T Q' E' hk hi hj f;obtain⟨L,zi,ei,ri,qi⟩:=A i vi hi;obtain⟨M,zj,ej,rj,qj⟩:=A j vj hj;have gi:(y::Y).getD i .non=L:=by simp[Na,ei]
     have gj:(y::Y).getD j .non=M:=by simp[Na,ej]
     replace f:Q' (.bool (decide (cY S aM ((y::Y).getD i .non) ((y::Y).getD j .non)=some JK))) {s with heap:=l,toks:=T}:=f;rw[gi,gj]at f;have hs:(cY S aM L M).isSome=JK:=Zv.mp (Zv.mp t L (Zz ei)) M (Zz ej);obtain⟨k,D⟩:=Lc.mp hs;have V:decide (cY S aM L M=some JK)=k:=by rw[D];cases k<;>rfl
     rw[V]at f;have I':Inv X pq σ H {s with heap:=l,toks:=T}:=I.kept (h':=l) (t':=T) hk;exact qR I' O aM X.A.in1 (by show X.A.units+1+40<cLine;omega) L M zi zj vi vj k ri qi rj qj D X.prog X.w E' Q' f
    ·intro S' h l hS k e b o g;refine e b o ?_ ?_ (k b o g)
     ·intro z;have z':b=s.heap.objs.size:=by simpa using z
      exact absurd (Zj g) (by rw[z'];exact Z6 _)
     ·intro z;have n:∀o,(s.heap.push o).objs.size=s.heap.objs.size+1:=λo=>by simp[Heap.push]
      have R:s.heap.objs.size+1<=S':=ZD (N0 (n _).symm) hS;exact absurd (Zj g) (by rw[z];exact L3.mpr (KD R))
    ·have B:=lM (λa b=>decide (cY S aM a b=some JK)) y Y Y.length (Zl _);rw[Nb]at B;have P:c.toArray[argBest (λi j=>decide (cY S aM ((y::Y).getD i .non) ((y::Y).getD j .non)=some JK)) Y.length]?=some v:=by have:=hP;rw[hl]at this;exact this
     obtain⟨x,z,ex,Z,qz⟩:=A _ v P;have gx:(y::Y).getD (argBest (λi j=>decide (cY S aM ((y::Y).getD i .non) ((y::Y).getD j .non)=some JK)) Y.length) .non=x:=by generalize argBest (λi j=>decide (cY S aM ((y::Y).getD i .non) ((y::Y).getD j .non)=some JK)) Y.length=q at ex;simp only[Na,ex,L']
     rw[gx]at B
     have m:Y.foldl (λb y=>if cY S aM y b=some JK then y else b) y=x:=by
      rw[B.1];congr 1;funext b y;by_cases N:cY S aM y b=some JK
      ·rw[if_pos N,if_pos (by simpa using N)]
      ·rw[if_neg N,if_neg (by simpa using N)]
     rw[m]at w;refine⟨z,H,I.kept (h':=l) (t':=T) λb o g=>kp b o ?_ (Zb _ g),qz,w μ H _ .refl O Z⟩;intro q;have z':b=s.heap.objs.size:=by simpa using q
     exact absurd (Zj g) (by rw[z'];exact Z6 _)
   ·exact w.elim
  ·exact w.elim
 ·exact wm hc pq s σ H xs us Q I r ⟨F,μ,S,_,O,rl,w⟩
mutual
noncomputable def wO:D->Option PyData
 | .non=>some .none
 | .bl b=>some (.bool b)
 | .int i=>some (.int i)
 | .str x=>some (.str x)
 | .tup ds=>(du ds).map .tuple
 | .lst ds=>(du ds).map .list
 |_=>none
noncomputable def du:List D->Option (List PyData)
 | []=>some []
 |d::ds=>match wO d,du ds with
  |some p,some ps=>some (p::ps)
  |_,_=>none
end
mutual
theorem DQ(I:Inv X pq σ H s):∀(d:D) (v:V) (u:JO) (p:PyData),Rep X.K ⟨X.mg,F⟩ μ H d v->RelV v u->wO d=some p->p.hasDict=JL/\∃as,Reads s.heap u p as
 | .non,v,u,p,r,q,h=>by cases gy r;subst(q);cases h;exact⟨rfl,_,.none⟩
 | .bl b,v,u,p,r,q,h=>by cases fT r;subst(q);cases h;exact⟨rfl,_,.bool b⟩
 | .int i,v,u,p,r,q,h=>by cases aG r;obtain⟨t,rfl⟩:=q;cases h;exact⟨rfl,_,.int i t⟩
 | .str x,v,u,p,r,q,h=>by cases fU r;obtain⟨t,rfl⟩:=q;cases h;exact⟨rfl,_,.str x t⟩
 | .tup c,v,u,p,r,q,h=>by
  obtain⟨a,vs,rfl,l,R⟩:=cm r;subst(q);obtain⟨f,m,⟨o,g,j,n,k⟩,_⟩:=I.tuple l;have h:(du c).map PyData.tuple=some p:=h;cases e:du c with
  |none=>rw[e]at h;cases h
  |some P=>rw[e]at h;cases h;obtain⟨K,as,w⟩:=q0 I c vs f P R m e;exact⟨K,as,.tuple g j k (by grind)⟩
 | .lst c,v,u,p,r,q,h=>by
  unfold Rep at r;obtain⟨a,vs,rfl,l,_,R⟩:=r;subst(q);obtain⟨f,m,y,_⟩:=I.list (.of l);obtain⟨o,g,j,n,k⟩:=y.isList;have h:(du c).map PyData.list=some p:=h;cases e:du c with
  |none=>rw[e]at h;cases h
  |some P=>rw[e]at h;cases h;obtain⟨K,as,w⟩:=q0 I c vs f P R m e;exact⟨K,_,.list g j k (by simpa using w)⟩
 | .ref _,v,u,p,r,q,h=>by cases h
 | .scr _,v,u,p,r,q,h=>by cases h
 | .fn _,v,u,p,r,q,h=>by cases h
 | .dct,v,u,p,r,q,h=>by cases h
 | .dks _,v,u,p,r,q,h=>by cases h
 | .ty _,v,u,p,r,q,h=>by cases h
theorem q0(I:Inv X pq σ H s):∀(ds:List D) (vs:List V) (us:Lv) (ps:List PyData),ag X.K ⟨X.mg,F⟩ μ H ds vs->Vals vs us->du ds=some ps->PyData.hasDictAll ps=JL/\∃as,ReadsAll s.heap us ps as
 | [],vs,us,ps,r,q,h=>by unfold ag at r;subst r;cases q.zero;cases h;exact⟨rfl,_,.nil⟩
 |d::ds,vs,us,ps,r,q,h=>by
  obtain⟨w,W,rfl,R,f⟩:=r.uncons;obtain⟨u,U,rfl,Q,c⟩:=q.un;unfold du at h;split at h
  ·rename_i p P e E;cases h;obtain⟨k,as,K⟩:=DQ I d w u p R Q e;obtain⟨a,bs,b⟩:=q0 I ds W U P f c E;exact⟨by show(PyData.hasDict p||PyData.hasDictAll P)=JL;rw[k,a];rfl,_,.cons K b⟩
  ·cases h
end
open PySem.SeqAt PySem.MeetsSeq PySem.MeetsSeq2 PySem.MeetsSeq3
open PySem.AutoSeq1 (wpAny_loadPart')
end Py
namespace Py
section
variable {E:XK}{Φ:FT}
end
section
open PySem.AutoSeq1 (wpAny_loadPart')
open PySem.MeetsSeq PySem.MeetsSeq2 PySem.MeetsSeq3
open PySem.AutoSeq1
end
set_option genInjectivity false in
inductive eA where
 |int|seq (t:eA)
 deriving DecidableEq
set_option genInjectivity false in
inductive jc where
 |len|tuple|list (box:Bool)|int|min|max|isinst|all|any|sum|repr|abs|str|sorted (box:Bool) (t:eA)
 deriving DecidableEq
inductive pc where
 |append|extend|pop|count|insert|index
 deriving DecidableEq
set_option genInjectivity false in
inductive CT where
 |var (i:Nat)
 |tup (ts:List CT)
set_option genInjectivity false in
inductive CE where
 |var (i:Nat)
 |lit (d:D)
 |glob (x:Str)
 |ty (n:String)
 |bin (op:Np) (a b:CE)
 |binB (a b:CE)
 |neg (a:CE)
 |cmp (op:Me) (a b:CE)
 |chain (op op':Me) (a b c:CE)
 |chain3 (op op' op'':Me) (a b c d:CE)
 |band (a b:CE)
 |bor (a b:CE)
 |bnot (a:CE)
 |ite (c a b:CE)
 |tup (es:List CE)
 |lst (box:Bool) (es:List CE)
 |idx (a b:CE)
 |sl (a:CE) (lo hi:List CE)
 |call (f:Str) (es:List CE)
 |blt (b:jc) (es:List CE)
 |meth (m:pc) (o:CE) (es:List CE)
 |tix (o:CE) (es:List CE)
 |lenset (a:CE)
 |ssU (a b:CE)
 |comp (box:Bool) (N:Ls) (fr:List (Option Nat)) (tg:CT) (it:CE) (ifs:List CE) (body:CE)
 |emit (e:CE)
 |inner (tg:CT) (it:CE) (ifs:List CE) (body:CE)
 |seq (e:CE)
 |range (es:List CE)
 |zip (es:List CE)
 |dct
 |enum (es:List CE)
set_option genInjectivity false in
inductive CS where
 |asg (i:Nat) (e:CE)
 |asgT (t:CT) (e:CE)
 |set (o i v:CE)
 |expr (e:CE)
 |ret (e:CE)
 |retN
 |pass
 |brk
 |cont
 |ite (c:CE) (a b:List CS)
 |for_ (t:CT) (it:CE) (body:List CS)
 |while_ (n:Nat) (c:CE) (body:List CS)
 |never
 |raise_ (x:Str) (es:List CE)
abbrev bt:=List (Option D)
abbrev FT:=Str->Option (List D->aa->Res D)
noncomputable def Res.bind{b c:Type}(r:Res b)(f:b->aa->Res c):Res c:=match r with
 | .ok a S=>f a S
 | .err x S=>.err x S
 | .fail=>.fail
noncomputable def Res.noErr{b:Type}:Res b->Res b
 | .ok a S=>.ok a S
 |_=>.fail
noncomputable def bp{a:Type}(d:D)(f:Bool->Res a):Res a:=match d with
 | .bl k=>f k
 |_=>.fail
noncomputable def cv:List CT->List D->bt->Option bt
 | [],ds,ρ=>if ds.isEmpty=JK then some ρ else none
 |t::ts,ds,ρ=>match t,ds with
  | .var i,d::ds=>cv ts ds (ρ.set i (some d))
  |_,_=>none
noncomputable def aE:CT->D->bt->Option bt
 | .var i,d,ρ=>some (ρ.set i (some d))
 | .tup ts,d,ρ=>match d with
  | .tup ds=>cv ts ds ρ
  |_=>none
noncomputable def eX:List CT->List Nat
 | []=>[]
 |t::ts=>match t with
  | .var i=>i::eX ts
  | .tup _=>eX ts
noncomputable def slots:CT->List Nat
 | .var i=>[i]
 | .tup ts=>eX ts
noncomputable def cO:bt->List Nat->Bool
 |ρ,is=>is.all λi=>match ρ[i]? with
  |some none=>JK
  |_=>JL
noncomputable def bb(t:CT)(d:D)(ρ:bt):Option bt:=if cO ρ (slots t)=JK then aE t d ρ else none
set_option genInjectivity false in
inductive ia where
 |items (xs:List D)|live (f:Nat) (get:aa->Nat->Option (Option D))
noncomputable def bK(step:D->List D->aa->Res (List D)):List D->List D->aa->Res (List D)
 | [],acc,S=>.ok acc S
 |x::xs,acc,S=>(step x acc S).bind λa S'=>bK step xs a S'
noncomputable def bh(step:D->List D->aa->Res (List D))(get:aa->Nat->Option (Option D)):Nat->Nat->List D->aa->Res (List D)
 |0,_,_,_=>.fail
 |f+1,i,acc,S=>match get S i with
  |none=>.fail
  |some none=>.ok acc S
  |some (some x)=>(step x acc S).bind λa S'=>bh step get f (i+1) a S'
noncomputable def cP(step:D->List D->aa->Res (List D))(its:ia)(a:List D)(S:aa):Res (List D):=match its with
 | .items xs=>bK step xs a S
 | .live f get=>bh step get f 0 a S
noncomputable def b0(n:Nat):aa->Nat->Option (Option D):=λS i=>(S[n]?).map λxs=>xs[i]?
noncomputable def eE(S:aa):D->Option ia
 | .tup xs=>some (.items xs)
 | .lst xs=>some (.items xs)
 | .scr xs=>some (.items xs)
 | .ref n=>some (.live (((S[n]?).getD []).length+1) (b0 n))
 |_=>none
noncomputable def fX:D->Option (List D)
 | .tup xs=>some xs
 | .lst xs=>some xs
 | .scr xs=>some xs
 |_=>none
noncomputable def lN(d e:D):aa->Nat->Option (Option D):=λS i=>match au S d,au S e with
 |some xs,some ys=>some (match xs[i]?,ys[i]? with
  |some x,some y=>some (.tup [x,y])
  |_,_=>none)
 |_,_=>none
noncomputable def cQ:D->Bool
 | .tup _=>JL
 |_=>JK
noncomputable def d6(S:aa)(d e:D):Option ia:=match fX d,fX e with
  |some xs,some ys=>some (.items (JR (λx y=>.tup [x,y]) xs ys))
  |_,_=>match au S d,au S e with
   |some xs,some ys=>some (.live (min xs.length ys.length+1) (lN d e))
   |_,_=>none
noncomputable def ec(l:Int):Nat->List D
 |0=>[]
 |n+1=>.int l::ec (l+1) n
noncomputable def dv:Nat->List D->List D
 |_,[]=>[]
 |k,x::xs=>.tup [.int (k:Nat),x]::dv (k+1) xs
noncomputable def eF:List D->Option (Option Int)
 | []=>some none
 | [.int i]=>some (some i)
 |_=>none
noncomputable def eY(ds:List D)(S:aa):Res (Option Int):=match eF ds with
 |some o=>.ok o S
 |none=>.fail
noncomputable def az:eA->D->Bool
 | .int,.int _=>JK
 | .seq t,.tup xs=>xs.all (az t)
 |_,_=>JL
noncomputable def bO(f:D->D->Bool):List D->List D->Bool
 | [],[]=>JL
 | [],_::_=>JK
 |_::_,[]=>JL
 |x::xs,y::ys=>if f x y=JK then JK else if f y x=JK then JL else bO f xs ys
noncomputable def bQ:eA->D->D->Bool
 | .int,.int i,.int j=>decide (i<j)
 | .seq t,.tup xs,.tup ys=>bO (bQ t) xs ys
 |_,_,_=>JL
noncomputable def cR(f:D->D->Bool)(x:D):List D->List D
 | []=>[x]
 |y::ys=>if f x y=JK then x::y::ys else y::cR f x ys
noncomputable def eZ(f:D->D->Bool)(xs:List D):List D:=xs.foldl (λacc x=>cR f x acc) []
noncomputable def bY:eA->Bool
 | .int=>JK
 | .seq t=>bY t
noncomputable def jd:D->Bool
 | .tup []=>JK
 |_=>JL
noncomputable def gC:eA->List D->Bool
 | .int,_=>JK
 | .seq t,xs=>bY t&&(xs.all λd=> !jd d)
noncomputable def gD(box:Bool)(t:eA)(ds:List D)(S:aa):Res D:=match ds with
 | [d]=>match au S d with
  |some xs=>if xs.all (az t)=JK/\xs.length<64/\gC t xs=JK then(if box=JK then .ok (.ref S.length) (S++[eZ (bQ t) xs])else .ok (.lst (eZ (bQ t) xs)) S)else .fail
  |none=>.fail
 |_=>.fail
noncomputable def b8:D->Option Int
 | .int i=>some i
 |_=>none
noncomputable def b4(ns:Li):Li:=ns.foldl KQ []
noncomputable def lO(d:D)(S:aa):Res D:=match au S d with
  |some xs=>if xs.all (az .int)=JK/\xs.length<1000 then .ok (.int ((b4 (xs.filterMap b8)).length:Nat)) S else .fail
  |none=>.fail
noncomputable def ib:D->Bool
 | .int n=>decide (0<=n)&&decide (n<8)
 |_=>JL
noncomputable def pd(S:aa)(d:D):Option (List Nat):=match au S d with
 |some xs=>if xs.all ib=JK/\xs.isEmpty=JL then some ((JM 8).filter λk:Nat=>(xs.filterMap b8).contains (k:Int))else none
 |none=>none
noncomputable def cS:eA->Nat
 | .int=>1
 | .seq t=>cS t+1
noncomputable def q4:jc->Bool
 | .sorted _ t=>decide (cS t<=40)
 | .sum=>JL
 | .list _=>JL
 | .repr=>JL
 | .abs=>JL
 | .str=>JL
 |_=>JK
noncomputable def ba:jc->List D->aa->Res D
 | .len=>hZ| .tuple=>lC| .list _=>λ_ _=>.fail | .int=>intD| .min=>gB| .max=>h_| .isinst=>de| .all=>h6| .any=>i6| .sum=>λ_ _=>.fail | .repr=>λ_ _=>.fail | .abs=>λ_ _=>.fail | .str=>λ_ _=>.fail
 | .sorted b t=>gD b t
noncomputable def wP(d:D)(ds:List D)(S:aa):Res D:=match ds with
 | []=>i9 d [] S
 |ds=>qZ d ds S
noncomputable def db:pc->D->List D->aa->Res D
 | .append=>fV| .extend=>fC| .pop=>wP| .count=>λ_ _ _=>.fail | .insert=>λ_ _ _=>.fail | .index=>λ_ _ _=>.fail
section
variable (Φ:FT)(Γ:Str->Option D)
mutual
noncomputable def aj:CE->bt->aa->Res D
 | .var i,ρ,S=>match ρ[i]? with
  |some (some d)=>.ok d S
  |_=>.fail
 | .dct,ρ,S=>.ok .dct S
 | .lit d,ρ,S=>.ok d S
 | .glob x,ρ,S=>match Γ x with
  |some d=>.ok d S
  |none=>.fail
 | .ty n,ρ,S=>.ok (.ty n) S
 | .bin op a b,ρ,S=>(aj a ρ S).bind λd S1=>(aj b ρ S1).bind λe S2=>(dj op d e S2).noErr
 | .binB a b,ρ,S=>(aj a ρ S).bind λd S1=>(aj b ρ S1).bind λe S2=>(g5 d e S2).noErr
 | .neg a,ρ,S=>(aj a ρ S).bind λd S1=>match d with
  | .int i=>.ok (.int (-i)) S1
  |_=>.fail
 | .cmp op a b,ρ,S=>(aj a ρ S).bind λd S1=>(aj b ρ S1).bind λe S2=>(aF op d e S2).noErr
 | .chain3 _ _ _ _ _ _ _,_,_=>.fail
 | .chain op op' a b c,ρ,S=>(aj a ρ S).bind λd S1=>(aj b ρ S1).bind λe S2=>(aF op d e S2).noErr.bind λk S3=>bp k λk=>if k=JK then(aj c ρ S3).bind λf p=>(aF op' e f p).noErr else .ok (.bl JL) S3
 | .band a b,ρ,S=>(aj a ρ S).bind λd S1=>bp d λk=>if k=JK then aj b ρ S1 else .ok (.bl JL) S1
 | .bor a b,ρ,S=>(aj a ρ S).bind λd S1=>bp d λk=>if k=JK then .ok (.bl JK) S1 else aj b ρ S1
 | .bnot a,ρ,S=>(aj a ρ S).bind λd S1=>match bG S1 d with
  |some k=>.ok (.bl (!k)) S1
  |none=>.fail
 | .ite c a b,ρ,S=>(ao c ρ S).bind λk S1=>if k=JK then aj a ρ S1 else aj b ρ S1
 | .tup es,ρ,S=>(ak es ρ S).bind λds S1=>.ok (.tup ds) S1
 | .lst box es,ρ,S=>(ak es ρ S).bind λds S1=>if box=JK then .ok (.ref S1.length) (S1++[ds])else .ok (.lst ds) S1
 | .idx a b,ρ,S=>(aj a ρ S).bind λd S1=>(aj b ρ S1).bind λe S2=>(bg d e S2).noErr
 | .sl a lo hi,ρ,S=>(aj a ρ S).bind λd S1=>((ak lo ρ S1).bind eY).bind λl S2=>((ak hi ρ S2).bind eY).bind λh S3=>(qT d l h S3).noErr
 | .call f es,ρ,S=>match Φ f with
  |some φ=>(ak es ρ S).bind λds S1=>φ ds S1
  |none=>.fail
 | .blt b es,ρ,S=>(ak es ρ S).bind λds S1=>(ba b ds S1).noErr
 | .meth m o es,ρ,S=>(aj o ρ S).bind λd S1=>match d with
  | .ref n=>(ak es ρ S1).bind λds S2=>(db m (.ref n) ds S2).noErr
  |_=>.fail
 | .tix _ _,_,_=>.fail
 | .lenset a,ρ,S=>(aj a ρ S).bind λd S1=>(lO d S1).noErr
 | .ssU a b,ρ,S=>(aj a ρ S).bind λd S1=>match pd S1 d with
  |some ks=>(aj b ρ S1).bind λe S2=>(match pd S2 e with
   |some K=>if ks.length+K.length<=15 then .ok (.lst (((JM 8).filter λk=>ks.contains k||K.contains k).map λk:Nat=>D.int k)) S2 else .fail
   |none=>.fail)
  |none=>.fail
 | .comp box N fr tg it ifs body,ρ,S=>(aL it ρ S).bind λits S1=>
   (cP (λx acc S2=>match bb tg x (fr.map λj=>j.bind λj=>(ρ[j]?).join)with
    |some ρ'=>(aI ifs ρ' S2).bind λk S3=>if k=JK then bn body ρ' acc S3 else .ok acc S3
    |none=>.fail) its [] S1).noErr.bind λys g=>if box=JK then .ok (.ref g.length) (g++[ys])else .ok (.lst ys) g
 | .emit _,_,_=>.fail
 | .inner _ _ _ _,_,_=>.fail
 | .seq _,_,_=>.fail
 | .range _,_,_=>.fail
 | .zip _,_,_=>.fail
 | .enum _,_,_=>.fail
noncomputable def ao:CE->bt->aa->Res Bool
 | .band a b,ρ,S=>(ao a ρ S).bind λk S1=>if k=JK then ao b ρ S1 else .ok JL S1
 | .bor a b,ρ,S=>(ao a ρ S).bind λk S1=>if k=JK then .ok JK S1 else ao b ρ S1
 | .bnot a,ρ,S=>(ao a ρ S).bind λk S1=>.ok (!k) S1
 | .cmp op a b,ρ,S=>(aj a ρ S).bind λd S1=>(aj b ρ S1).bind λe S2=>(aF op d e S2).noErr.bind λk S3=>bp k λk=>.ok k S3
 | .chain3 _ _ _ _ _ _ _,_,_=>.fail
 | .chain op op' a b c,ρ,S=>(aj a ρ S).bind λd S1=>(aj b ρ S1).bind λe S2=>(aF op d e S2).noErr.bind λk S3=>bp k λk=>if k=JK then(aj c ρ S3).bind λf g=>(aF op' e f g).noErr.bind λk h=>bp k λk=>.ok k h else .ok JL S3
 | .var i,ρ,S=>match ρ[i]? with
  |some (some d)=>match bG S d with
   |some k=>.ok k S
   |none=>.fail
  |_=>.fail
 | .call f es,ρ,S=>match Φ f with
  |some φ=>(ak es ρ S).bind λds S1=>(φ ds S1).bind λd S2=>match bG S2 d with
   |some k=>.ok k S2
   |none=>.fail
  |none=>.fail
 | .blt b es,ρ,S=>(ak es ρ S).bind λds S1=>(ba b ds S1).noErr.bind λd S2=>match bG S2 d with
   |some k=>.ok k S2
   |none=>.fail
 | .lit d,ρ,S=>match bG S d with
   |some k=>.ok k S
   |none=>.fail
 |_,_,_=>.fail
noncomputable def ak:List CE->bt->aa->Res (List D)
 | [],_,S=>.ok [] S
 |e::es,ρ,S=>(aj e ρ S).bind λd S1=>(ak es ρ S1).bind λds S2=>.ok (d::ds) S2
noncomputable def aI:List CE->bt->aa->Res Bool
 | [],_,S=>.ok JK S
 |e::es,ρ,S=>(ao e ρ S).bind λk S1=>if k=JK then aI es ρ S1 else .ok JL S1
noncomputable def aL:CE->bt->aa->Res ia
 | .seq e,ρ,S=>(aj e ρ S).bind λd S1=>match eE S1 d with
  |some xs=>.ok xs S1
  |none=>.fail
 | .range es,ρ,S=>(ak es ρ S).bind λds S1=>match ds with
  | [.int j]=>if-(2^62)<=j/\j<2^62 then .ok (.items (ec 0 j.toNat)) S1 else .fail
  | [.int i,.int j]=>if-(2^62)<=i/\i<2^62/\ -(2^62)<=j/\j<2^62 then .ok (.items (ec i (j-i).toNat)) S1 else .fail
  |_=>.fail
 | .enum es,ρ,S=>(ak es ρ S).bind λds S1=>match ds with
  | [d]=>(match fX d with
   |some xs=>.ok (.items (dv 0 xs)) S1
   |none=>.fail)
  |_=>.fail
 | .zip es,ρ,S=>(ak es ρ S).bind λds S2=>match ds with
  | [d,e]=>(match d6 S2 d e with
   |some its=>.ok its S2
   |none=>.fail)
  |_=>.fail
 |_,_,_=>.fail
noncomputable def bn:CE->bt->List D->aa->Res (List D)
 | .emit e,ρ,acc,S=>(aj e ρ S).bind λy S1=>if acc.length<bB then .ok (acc++[y]) S1 else .fail
 | .inner tg it ifs body,ρ,acc,S=>(aL it ρ S).bind λits S1=>
   cP (λx acc S2=>match bb tg x ρ with
    |some ρ'=>(aI ifs ρ' S2).bind λk S3=>if k=JK then bn body ρ' acc S3 else .ok acc S3
    |none=>.fail) its acc S1
 |_,_,_,_=>.fail
end
set_option genInjectivity false in
inductive Fl where
 |next(ρ:bt)|ret (d:D)|brk (ρ:bt)|cont (ρ:bt)
noncomputable def cC(step:D->bt->aa->Res Fl):List D->bt->aa->Res Fl
 | [],ρ,S=>.ok (.next ρ) S
 |x::xs,ρ,S=>(step x ρ S).bind λf S'=>match f with
  | .next ρ'=>cC step xs ρ' S'
  | .cont ρ'=>cC step xs ρ' S'
  | .brk ρ'=>.ok (.next ρ') S'
  | .ret d=>.ok (.ret d) S'
noncomputable def cU(step:D->bt->aa->Res Fl)(get:aa->Nat->Option (Option D)):Nat->Nat->bt->aa->Res Fl
 |0,_,_,_=>.fail
 |f+1,i,ρ,S=>match get S i with
  |none=>.fail
  |some none=>.ok (.next ρ) S
  |some (some x)=>(step x ρ S).bind λF S'=>match F with
    | .next ρ'=>cU step get f (i+1) ρ' S'
    | .cont ρ'=>cU step get f (i+1) ρ' S'
    | .brk ρ'=>.ok (.next ρ') S'
    | .ret d=>.ok (.ret d) S'
noncomputable def lP(step:D->bt->aa->Res Fl)(its:ia)(ρ:bt)(S:aa):Res Fl:=match its with
 | .items xs=>cC step xs ρ S
 | .live f get=>cU step get f 0 ρ S
noncomputable def bC(c:bt->aa->Res Bool)(step:bt->aa->Res Fl):Nat->bt->aa->Res Fl
 |0,_,_=>.fail
 |n+1,ρ,S=>(c ρ S).bind λk S1=>if k=JK then(step ρ S1).bind λf S'=>match f with
   | .next ρ'=>bC c step n ρ' S'
   | .cont ρ'=>bC c step n ρ' S'
   | .brk ρ'=>.ok (.next ρ') S'
   | .ret d=>.ok (.ret d) S'
  else .ok (.next ρ) S1
mutual
noncomputable def aC:CS->bt->aa->Res Fl
 | .asg i e,ρ,S=>(aj Φ Γ e ρ S).bind λd S1=>.ok (.next (ρ.set i (some d))) S1
 | .asgT t e,ρ,S=>(aj Φ Γ e ρ S).bind λd S1=>match aE t d ρ with
  |some ρ'=>.ok (.next ρ') S1
  |none=>.fail
 | .set o i v,ρ,S=>(aj Φ Γ v ρ S).bind λf S1=>(aj Φ Γ o ρ S1).bind λd S2=>(aj Φ Γ i ρ S2).bind λe S3=>match h7 d e f S3 with
  |some g=>.ok (.next ρ) g
  |none=>.fail
 | .expr e,ρ,S=>(aj Φ Γ e ρ S).bind λ_ S1=>.ok (.next ρ) S1
 | .ret e,ρ,S=>(aj Φ Γ e ρ S).bind λd S1=>.ok (.ret d) S1
 | .retN,_,S=>.ok (.ret .non) S
 | .pass,ρ,S=>.ok (.next ρ) S
 | .brk,ρ,S=>.ok (.brk ρ) S
 | .cont,ρ,S=>.ok (.cont ρ) S
 | .ite c a b,ρ,S=>(ao Φ Γ c ρ S).bind λk S1=>if k=JK then af a ρ S1 else af b ρ S1
 | .for_ t it body,ρ,S=>(aL Φ Γ it ρ S).bind λxs S1=>lP (λx ρ S=>match aE t x ρ with
   |some ρ'=>af body ρ' S
   |none=>.fail) xs ρ S1
 | .while_ n c body,ρ,S=>bC (ao Φ Γ c) (af body) n ρ S
 | .never,_,_=>.fail
 | .raise_ _ _,_,_=>.fail
noncomputable def af:List CS->bt->aa->Res Fl
 | [],ρ,S=>.ok (.next ρ) S
 |c::cs,ρ,S=>(aC c ρ S).bind λf S1=>match f with
  | .next ρ'=>af cs ρ' S1
  |f=>.ok f S1
end
end
end Py
variable {body cs:List Py.CS}{Φ:Py.FT}{ρ ρ' r0:Py.bt}
namespace Py
def wQ(m:Mg)(x:Exc)(cls:JO)(d:Option JP)(H:Hp):Prop:=m x.cls=some cls/\x.fs=[]
def wR(m:Mg)(E:XK)(x:Exc)(H:Hp):Prop:=∀cls d,wQ m x cls d H->E cls d H
noncomputable def ai{c d:Type}(K:Fg)(m:GS)(E:XK)(Rel:La->Hp->c->d->Prop)(μ:La)(H:Hp)(Q:d->Hp->Prop):Res c->Prop
 | .ok a S'=>∀μ' H' b,Ext μ H μ' H'->aK K m μ' S' H'->Rel μ' H' a b->Q b H'
 | .err x S'=>∀μ' H',Ext μ H μ' H'->aK K m μ' S' H'->wR m.mg E x H'
 | .fail=>False
section
variable {mg:GS}{E:XK}
theorem dU{Q:VK}{r:Res D}(w:ai K mg E (Rep K mg) μ H Q r.noErr):aU K mg μ H Q r:=by cases r<;>first|exact w|exact w.elim
theorem ai.ext{Rel:La->Hp->α->β->Prop}{Q:β->Hp->Prop}{r:Res α}(x:Ext μ H μ' H')(w:ai K mg E Rel μ H Q r):ai K mg E Rel μ' H' Q r:=by
 cases r with
 |ok d S=>exact λa b v X s R=>w _ _ v (x.trans X) s R
 |err y S=>exact λa b X s=>w _ _ (x.trans X) s
 |fail=>exact w
theorem ai.bind{c d:Type}{Rel:La->Hp->α->β->Prop}{R:La->Hp->c->d->Prop}{Q:d->Hp->Prop}{r:Res α}{f:α->aa->Res c}(w:ai K mg E R μ H Q (r.bind f)):
  ai K mg E Rel μ H (λb H'=>∃μ' S' a,Ext μ H μ' H'/\aK K mg μ' S' H'/\Rel μ' H' a b/\ai K mg E R μ' H' Q (f a S')) r:=by
 cases r with
 |ok a S'=>exact λe g b x s r=>⟨_,_,a,x,s,r,ai.ext x (show ai K _ E _ _ H Q _ from w)⟩
 |err y S'=>exact w
 |fail=>exact w
theorem ai.mono{Rel:La->Hp->α->β->Prop}{Q c:β->Hp->Prop}{r:Res α}(w:ai K mg E Rel μ H Q r)(h:∀b H',Q b H'->c b H'):ai K mg E Rel μ H c r:=by
 cases r with
 |ok a S=>exact λd e b x s r=>h b _ (w _ _ b x s r)
 |err y S=>exact w
 |fail=>exact w
def a8(K:Fg)(m:GS)(μ:La)(H:Hp)(ρ:bt)(σ:L2.St):Prop:=
 ρ.length=σ.length/\∀(i:Nat) (d:D),ρ[i]?=some (some d)->∃v,σ[i]?=some (some v)/\Rep K m μ H d v
theorem a8.mono(x:Ext μ H μ' H')(h:a8 K mg μ H ρ σ):a8 K mg μ' H' ρ σ:=
 ⟨h.1,λi d e=>let⟨v,a,b⟩:=h.2 i d e;⟨v,a,Rep.mono x _ _ b⟩⟩
theorem a8.set{i:Nat}(h:a8 K mg μ H ρ σ)(r:Rep K mg μ H d v):a8 K mg μ H (ρ.set i (some d)) (σ.set i (some v)):=by
 refine⟨by simp[h.1],λj e a=>?_⟩;by_cases b:j=i
 ·subst b;have c:j<ρ.length:=by grind
  rw[KR c]at a;cases a;exact⟨v,KR (by rw[<-h.1];exact c),r⟩
 ·rw[KA (Ne.symm b)]at a⊢;exact h.2 j e a
end
section
variable (K:Fg)(mg:Mg)(E:XK)(Φ:FT)(Γ:Str->Option D)
noncomputable def tE(c:CE):TE:=λσ H Q=>∃F μ ρ S,aK K ⟨mg,F⟩ μ S H/\a8 K ⟨mg,F⟩ μ H ρ σ/\ai K ⟨mg,F⟩ E (Rep K ⟨mg,F⟩) μ H Q (aj Φ Γ c ρ S)
noncomputable def tT(c:CE):TT:=λσ H Q=>∃F μ ρ S,aK K ⟨mg,F⟩ μ S H/\a8 K ⟨mg,F⟩ μ H ρ σ/\ai K ⟨mg,F⟩ E (λ_ _ a b=>a=b) μ H Q (ao Φ Γ c ρ S)
noncomputable def tL(cs:List CE):TA:=λσ H Q=>∃F μ ρ S,aK K ⟨mg,F⟩ μ S H/\a8 K ⟨mg,F⟩ μ H ρ σ/\ai K ⟨mg,F⟩ E (ag K ⟨mg,F⟩) μ H Q (ak Φ Γ cs ρ S)
end
theorem aS{t t':TE}(h:PE X e t)(w:∀σ H Q,t' σ H Q->t σ H Q):PE X e t':=λp s σ H Q I q=>h _ s _ H Q I (w _ H Q q)
theorem d7{t t':TT}(h:PT X e t)(w:∀σ H Q,t' σ H Q->t σ H Q):PT X e t':=λp s σ H Q I q=>h _ s _ H Q I (w _ H Q q)
theorem pf{e:Lx}{t t':TA}(h:PA X e t)(w:∀σ H Q,t' σ H Q->t σ H Q):PA X e t':=λp P s σ H Q I q=>h _ _ s _ H Q I (w _ H Q q)
noncomputable def lQ(s:List (Str×Ku))(x:Str):Bool:=match s.lookup x with
 |some .local=>JK|some .cell=>JK|some .free=>JK
 |_=>JL
noncomputable def bH(s:List (Str×Ku))(x:Str):Bool:=s.lookup x==some .globalImplicit&& !(x==("__debug__":Str))&& !(x==("__name__":Str))
noncomputable def lR(x:Str):Bool:= !(x==("__debug__":Str))&& !(x==("__classdict__":Str))
noncomputable def bP:Expr->Bool
 | .Starred _ _=>JL
 |_=>JK
noncomputable def je:D->Const->Bool
 | .non,.none=>JK
 | .bl b,.bool c=>b==c
 | .int i,.int j=>i==j
 | .str x,.str y=>x==y
 |_,_=>JL
noncomputable def gE:jc->Str
 | .len=>"len"| .tuple=>"tuple"| .list _=>"list"| .int=>"int"| .min=>"min"| .max=>"max"| .isinst=>"isinstance"| .all=>"all"| .any=>"any"| .sum=>"sum"| .repr=>"repr"| .abs=>"abs"| .str=>"str"| .sorted _ _=>"sorted"
noncomputable def jf:jc->JO
 | .len=>.builtin "len"| .tuple=>.type "tuple"| .list _=>.type "list"| .int=>.type "int"| .min=>.builtin "min"| .max=>.builtin "max"| .isinst=>.builtin "isinstance"| .all=>.builtin "all"| .any=>.builtin "any"| .sum=>.builtin "sum"| .repr=>.builtin "repr"| .abs=>.builtin "abs"| .str=>.type "str"| .sorted _ _=>.builtin "sorted"
theorem DR(b:jc):bootBuiltins (gE b)=some (jf b):=by
 cases b with
 |list box=>show bootBuiltins (KG _)=some (.type _);decide+kernel
 |sorted box t=>rfl
 |_=>decide+kernel
noncomputable def ic:List String:=["int","bool","str","tuple","list","dict"]
theorem lS{n:String}(h:ic.contains n=JK):bootBuiltins (KG n)=some (.type n):=by simp[ic]at h;rcases h with rfl|rfl|rfl|rfl|rfl|rfl<;>decide+kernel
abbrev Sc:=List (Str×Ku)
noncomputable def jg(N s:Sc):Sc:=N.map λ(n,k)=>if(k== .free&&s.lookup n==some .cell)then(n,.cell)else(n,k)
noncomputable def q5(n:Sc):Str->Bool:=λx=>n.lookup x==some .cell
noncomputable def DS(scope:Scope)(s:Sc):Bool:=scope.kind== .function&&scope.names.all λ(n,k)=>(k !=.cell||scope.names.lookup n==some .cell)&&(k !=.local||scope.names.lookup n==some .local)&&(k !=.free||(s.lookup n==some .cell||s.lookup n==some .free))
noncomputable def DT(n:Sc)(a N:Ls)(fr:List (Option Nat)):Bool:=fr.length==a.length&&(JM a.length).all λi=>match fr[i]? with
 |some (some j)=>(match a[i]? with
  |some x=>n.lookup x==some .free&&N[j]?==some x
  |none=>JL)
 |_=>JK
noncomputable def ie:Ls->Bool
 | []=>JK
 |x::r=> !r.contains x&&ie r
noncomputable def ig:Expr->Bool
 | .Slice _ _ _ _=>JL
 |_=>JK
theorem DU{b:Expr}(h:ig b=JK):vS b:=by intro o i;cases b<;>first|rfl|cases h
noncomputable def lT:pc->Str
 | .append=>"append"| .extend=>"extend"| .pop=>"pop"| .count=>"count"| .insert=>"insert"| .index=>"index"
noncomputable def wS:Expr->Bool
 | .Name _ _=>JK
 |_=>JL
noncomputable def eG:Expr->Bool
 | .Tuple _ _ _=>JK
 |_=>JL
noncomputable def lU:Expr->Bool
 | .Set _ _ _=>JL
 |_=>JK
noncomputable def dE:Expr:=.Name "" ⟨0,0,0,0⟩
noncomputable def dG:J6:=⟨dE,dE,[],0⟩
set_option genInjectivity false in
structure Nd where
 e0:Expr:=dE
 e1:Expr:=dE
 e2:Expr:=dE
 es:Lx:=[]
 lo:Option Expr:=none
 hi:Option Expr:=none
 gs:List J6:=[]
 sc:Scope:=default
 k:Nat:=0
 pos:Pos:=⟨0,0,0,0⟩
noncomputable def vw:Expr->Nd
 | .BoolOp _ vs p=>{es:=vs,pos:=p}
 | .BinOp l _ r p=>{e0:=l,e1:=r,pos:=p}
 | .UnaryOp _ x p=>{e0:=x,pos:=p}
 | .IfExp t x y p=>{e0:=t,e1:=x,e2:=y,pos:=p}
 | .ListComp a g sc p=>{e0:=a,gs:=g,sc:=sc,pos:=p}
 | .SetComp a g sc p=>{e0:=a,gs:=g,sc:=sc,pos:=p}
 | .Compare l _ R p=>{e0:=l,es:=R,pos:=p}
 | .Call f xs ks p=>{e0:=f,es:=xs,e1:=(ks.headD ⟨none,dE,⟨0,0,0,0⟩⟩).value,e2:=.Name "" (ks.headD ⟨none,dE,⟨0,0,0,0⟩⟩).pos,pos:=p}
 | .Constant _ k p=>{k:=k,pos:=p}
 | .Attribute v _ p=>{e0:=v,pos:=p}
 | .Subscript v s p=>{e0:=v,e1:=s,pos:=p}
 | .Name _ p=>{pos:=p}
 | .List es p=>{es:=es,pos:=p}
 | .Tuple es k p=>{es:=es,k:=k,pos:=p}
 | .Slice l u s p=>{lo:=l,hi:=u,e2:=s.getD dE,pos:=p}
 | .Dict _ _ p=>{pos:=p}
 | .JoinedStr vs p=>{es:=vs,pos:=p}
 | .FormattedValue v _ _ p=>{e0:=v,pos:=p}
 |_=>{}
noncomputable def wT:D->Const
 | .bl b=>.bool b
 | .int i=>.int i
 | .str x=>.str x
 |_=>.none
noncomputable def jh:CT->Bool
 | .tup _=>JK
 |_=>JL
noncomputable def q7:CE->Bool
 | .band _ _=>JK
 |_=>JL
noncomputable def ji:CE->Bool
 | .bor _ _=>JK
 |_=>JL
noncomputable def wU:CE->Bool
 | .comp .. =>JK
 |_=>JL
mutual
noncomputable def ii:CT->Ls->Expr->Expr
 | .var i,N,e=>.Name (N.getD i "") (vw e).pos
 | .tup ts,N,e=>.Tuple (gF ts N (vw e).es) (vw e).k (vw e).pos
noncomputable def gF:List CT->Ls->Lx->Lx
 | [],_,_=>[]
 |t::ts,N,es=>ii t N (es.headD dE)::gF ts N es.tail
end
mutual
noncomputable def sdT(c:Str->Bool)(N:Ls)(s:Sc):CT->Bool
 | .var i=>N[i]?==some (N.getD i "")&&(s.lookup (N.getD i "")==some .local||(c (N.getD i "")&&s.lookup (N.getD i "")==some .cell))
 | .tup ts=>q8 c N s ts
noncomputable def q8(c:Str->Bool)(N:Ls)(s:Sc):List CT->Bool
 | []=>JK
 |t::ts=>sdT c N s t&&q8 c N s ts
end
mutual
noncomputable def bq:CE->Ls->Expr->Expr
 | .var i,N,e=>.Name (N.getD i "") (vw e).pos
 | .dct,_,e=>.Dict [] [] (vw e).pos
 | .lit d,_,e=>.Constant (wT d) (vw e).k (vw e).pos
 | .glob y,_,e=>.Name y (vw e).pos
 | .ty n,_,e=>.Name (KG n) (vw e).pos
 | .bin op a b,N,e=>.BinOp (bq a N (vw e).e0) op (bq b N (vw e).e1) (vw e).pos
 | .binB a b,N,e=>.BinOp (bq a N (vw e).e0) .Mult (bq b N (vw e).e1) (vw e).pos
 | .neg a,N,e=>.UnaryOp .USub (bq a N (vw e).e0) (vw e).pos
 | .cmp op a b,N,e=>.Compare (bq a N (vw e).e0) [op] [bq b N ((vw e).es.headD dE)] (vw e).pos
 | .chain3 _ _ _ _ _ _ _,_,e=>e
 | .chain op op' a b c,N,e=>.Compare (bq a N (vw e).e0) [op,op'] [bq b N ((vw e).es.headD dE),bq c N ((vw e).es.tail.headD dE)] (vw e).pos
 | .band a b,N,e=>.BoolOp .And (bq a N ((vw e).es.headD dE)::cond ((vw e).es.length==2) [bq b N ((vw e).es.tail.headD dE)] (vw (bq b N (.BoolOp .And (vw e).es.tail (vw e).pos))).es) (vw e).pos
 | .bor a b,N,e=>.BoolOp .Or (bq a N ((vw e).es.headD dE)::cond ((vw e).es.length==2) [bq b N ((vw e).es.tail.headD dE)] (vw (bq b N (.BoolOp .Or (vw e).es.tail (vw e).pos))).es) (vw e).pos
 | .bnot a,N,e=>.UnaryOp .Not (bq a N (vw e).e0) (vw e).pos
 | .ite c a b,N,e=>.IfExp (bq c N (vw e).e0) (bq a N (vw e).e1) (bq b N (vw e).e2) (vw e).pos
 | .tup es,N,e=>.Tuple (fQ es N (vw e).es) (vw e).k (vw e).pos
 | .lst _ es,N,e=>.List (fQ es N (vw e).es) (vw e).pos
 | .idx a b,N,e=>.Subscript (bq a N (vw e).e0) (bq b N (vw e).e1) (vw e).pos
 | .sl a lo hi,N,e=>.Subscript (bq a N (vw e).e0) (.Slice (fQ lo N (vw (vw e).e1).lo.toList).head? (fQ hi N (vw (vw e).e1).hi.toList).head? none (vw (vw e).e1).pos) (vw e).pos
 | .call f es,N,e=>.Call (.Name f (vw (vw e).e0).pos) (fQ es N (vw e).es) [] (vw e).pos
 | .blt b es,N,e=>.Call (.Name (gE b) (vw (vw e).e0).pos) (fQ es N (vw e).es) [] (vw e).pos
 | .tix _ _,_,e=>e
 | .meth m o es,N,e=>.Call (.Attribute (bq o N (vw (vw e).e0).e0) (lT m) (vw (vw e).e0).pos) (fQ es N (vw e).es) [] (vw e).pos
 | .lenset a,N,e=>.Call (.Name "len" (vw (vw e).e0).pos) [.Call (.Name "set" (vw (vw ((vw e).es.headD dE)).e0).pos) [bq a N ((vw ((vw e).es.headD dE)).es.headD dE)] [] (vw ((vw e).es.headD dE)).pos] [] (vw e).pos
 | .ssU a b,N,e=>.Call (.Name "sorted" (vw (vw e).e0).pos) [.BinOp (.Call (.Name "set" (vw (vw (vw ((vw e).es.headD dE)).e0).e0).pos) [bq a N ((vw (vw ((vw e).es.headD dE)).e0).es.headD dE)] [] (vw (vw ((vw e).es.headD dE)).e0).pos) .BitOr (.Call (.Name "set" (vw (vw (vw ((vw e).es.headD dE)).e1).e0).pos) [bq b N ((vw (vw ((vw e).es.headD dE)).e1).es.headD dE)] [] (vw (vw ((vw e).es.headD dE)).e1).pos) (vw ((vw e).es.headD dE)).pos] [] (vw e).pos
 | .comp _ N' _ tg it ifs body,N,e=>.ListComp (lV body N' (vw e).e0) (⟨ii tg N' ((vw e).gs.headD dG).target,q_ it N ((vw e).gs.headD dG).iter,fQ ifs N' ((vw e).gs.headD dG).ifs,0⟩::q9 body N' (vw e).gs.tail) (vw e).sc (vw e).pos
 | .emit _,_,e=>e
 | .inner _ _ _ _,_,e=>e
 | .seq _,_,e=>e
 | .range _,_,e=>e
 | .zip _,_,e=>e
 | .enum _,_,e=>e
noncomputable def lV:CE->Ls->Expr->Expr
 | .emit a,N,e=>bq a N e
 | .inner _ _ _ body,N,e=>lV body N e
 |_,_,e=>e
noncomputable def q9:CE->Ls->List J6->List J6
 | .inner tg it ifs body,N,g=>⟨ii tg N (g.headD dG).target,q_ it N (g.headD dG).iter,fQ ifs N (g.headD dG).ifs,0⟩::q9 body N g.tail
 |_,_,_=>[]
noncomputable def fQ:List CE->Ls->Lx->Lx
 | [],_,_=>[]
 |c::cs,N,es=>bq c N (es.headD dE)::fQ cs N es.tail
noncomputable def q_:CE->Ls->Expr->Expr
 | .seq c,N,e=>bq c N e
 | .range es,N,e=>.Call (.Name "range" (vw (vw e).e0).pos) (fQ es N (vw e).es) [] (vw e).pos
 | .enum es,N,e=>.Call (.Name "enumerate" (vw (vw e).e0).pos) (fQ es N (vw e).es) [] (vw e).pos
 | .zip es,N,e=>.Call (.Name "zip" (vw (vw e).e0).pos) (fQ es N (vw e).es) [] (vw e).pos
 |_,_,e=>e
end
mutual
noncomputable def b6:CE->Ls->Sc->Expr->Bool
 | .var i,N,sc,_=>N[i]?==some (N.getD i "")&&(lQ sc (N.getD i "")&&lR (N.getD i ""))
 | .dct,_,_,_=>JK
 | .lit d,_,_,_=>je d (wT d)
 | .glob y,_,sc,_=>bH sc y
 | .ty n,_,sc,_=>bH sc (KG n)&&ic.contains n
 | .bin _ a b,N,sc,e=>b6 a N sc (vw e).e0&&b6 b N sc (vw e).e1
 | .binB a b,N,sc,e=>b6 a N sc (vw e).e0&&b6 b N sc (vw e).e1
 | .neg a,N,sc,e=>b6 a N sc (vw e).e0
 | .cmp op a b,N,sc,e=>b6 a N sc (vw e).e0&&(b6 b N sc ((vw e).es.headD dE)&& !behindInMarks op (bq b N ((vw e).es.headD dE)))
 | .chain3 _ _ _ _ _ _ _,_,_,_=>JL
 | .chain _ op' a b c,N,sc,e=>b6 a N sc (vw e).e0&&(b6 b N sc ((vw e).es.headD dE)&&(b6 c N sc ((vw e).es.tail.headD dE)&& !behindInMarks op' (bq c N ((vw e).es.tail.headD dE))))
 | .band a b,N,sc,e=>b6 a N sc ((vw e).es.headD dE)&&cond ((vw e).es.length==2) (b6 b N sc ((vw e).es.tail.headD dE)) (q7 b&&b6 b N sc (.BoolOp .And (vw e).es.tail (vw e).pos))
 | .bor a b,N,sc,e=>b6 a N sc ((vw e).es.headD dE)&&cond ((vw e).es.length==2) (b6 b N sc ((vw e).es.tail.headD dE)) (ji b&&b6 b N sc (.BoolOp .Or (vw e).es.tail (vw e).pos))
 | .bnot a,N,sc,e=>b6 a N sc (vw e).e0
 | .ite c a b,N,sc,e=>b6 c N sc (vw e).e0&&(b6 a N sc (vw e).e1&&b6 b N sc (vw e).e2)
 | .tup es,N,sc,e=>fY es N sc (vw e).es&&decide (es.length<1000)
 | .lst _ es,N,sc,e=>fY es N sc (vw e).es&&decide (es.length<1000)
 | .idx a b,N,sc,e=>b6 a N sc (vw e).e0&&(b6 b N sc (vw e).e1&&ig (bq b N (vw e).e1))
 | .sl a lo hi,N,sc,e=>b6 a N sc (vw e).e0&&(fY lo N sc (vw (vw e).e1).lo.toList&&(fY hi N sc (vw (vw e).e1).hi.toList&&(decide (lo.length<2)&&decide (hi.length<2))))
 | .call f es,N,sc,e=>bH sc f&&(fY es N sc (vw e).es&& !es.isEmpty)
 | .blt b es,N,sc,e=>bH sc (gE b)&&(fY es N sc (vw e).es&&(!es.isEmpty&&q4 b))
 | .tix _ _,_,_,_=>JL
 | .meth m o es,N,sc,e=>wS (bq o N (vw (vw e).e0).e0)&&((vw (vw e).e0).pos.endLine==(vw e).pos.line&&(b6 o N sc (vw (vw e).e0).e0&&(fY es N sc (vw e).es&&decide (es.length<20))))
 | .lenset a,N,sc,e=>bH sc "len"&&(bH sc "set"&&(b6 a N sc ((vw ((vw e).es.headD dE)).es.headD dE)&&bP (bq a N ((vw ((vw e).es.headD dE)).es.headD dE))))
 | .ssU a b,N,sc,e=>bH sc "sorted"&&(bH sc "set"&&((b6 a N sc ((vw (vw ((vw e).es.headD dE)).e0).es.headD dE)&&bP (bq a N ((vw (vw ((vw e).es.headD dE)).e0).es.headD dE)))&&(b6 b N sc ((vw (vw ((vw e).es.headD dE)).e1).es.headD dE)&&bP (bq b N ((vw (vw ((vw e).es.headD dE)).e1).es.headD dE)))))
 | .comp _ N' fr tg it ifs body,N,sc,e=>DS (vw e).sc sc&&(DT (vw e).sc.names N' N fr&&(ie N'&&(sdT (q5 (vw e).sc.names) N' (jg (vw e).sc.names sc) tg&&(BQ it N sc tg ((vw e).gs.headD dG).iter&&(lU (q_ it N ((vw e).gs.headD dG).iter)&&(fY ifs N' (jg (vw e).sc.names sc) ((vw e).gs.headD dG).ifs&&sdB body JL (q5 (vw e).sc.names) N' (jg (vw e).sc.names sc) (vw e).gs.tail (vw e).e0))))))
 | .emit _,_,_,_=>JL
 | .inner _ _ _ _,_,_,_=>JL
 | .seq _,_,_,_=>JL
 | .range _,_,_,_=>JL
 | .zip _,_,_,_=>JL
 | .enum _,_,_,_=>JL
noncomputable def sdB:CE->Bool->(Str->Bool)->Ls->Sc->List J6->Expr->Bool
 | .emit a,k,_,N,sc,_,e=> !k&&b6 a N sc e
 | .inner tg it ifs body,k,cell,N,sc,g,e=>sdT cell N sc tg&&(BQ it N sc tg (g.headD dG).iter&&(lU (q_ it N (g.headD dG).iter)&&(fY ifs N sc (g.headD dG).ifs&&sdB body k cell N sc g.tail e)))
 |_,_,_,_,_,_,_=>JL
noncomputable def fY:List CE->Ls->Sc->Lx->Bool
 | [],_,_,_=>JK
 |c::cs,N,sc,es=>b6 c N sc (es.headD dE)&&(bP (bq c N (es.headD dE))&&fY cs N sc es.tail)
noncomputable def BQ:CE->Ls->Sc->CT->Expr->Bool
 | .seq c,N,sc,_,e=>b6 c N sc e
 | .range es,N,sc,_,e=>bH sc "range"&&(fY es N sc (vw e).es&&(es.length==1||es.length==2))
 | .enum es,N,sc,t,e=>bH sc "enumerate"&&(fY es N sc (vw e).es&&(es.length==1&&jh t))
 | .zip es,N,sc,t,e=>bH sc "zip"&&(fY es N sc (vw e).es&&(es.length==2&&jh t))
 |_,_,_,_,_=>JL
end
theorem ab{a b:Bool}(h:(a&&b)=JK):a=JK/\b=JK:=LN.mp h
theorem jj{p:Prop} [Decidable p] (h:decide p=JK):p:=ZF h
theorem gG{a:Bool}(h:(!a)=JK):a=JL:=by lia
end Py
variable {sc:Py.Sc}
namespace Py
noncomputable def rc(K:Fg)(m:Mg)(n:Nat)(φ:List D->aa->Res D):Sp:=λvs H Q E=>vs.length=n/\∃F μ S ds,aK K ⟨m,F⟩ μ S H/\ag K ⟨m,F⟩ μ H ds vs/\ai K ⟨m,F⟩ E (Rep K ⟨m,F⟩) μ H Q (φ ds S)
structure bF (P:J8)(w:Ke)(K:Fg)(mg:Mg)(base:JU)(CX:dN)(k:Nat)(f:Str)(φ:List D->aa->Res D):Prop where
 ex:∃fa fd ps,mg f=some (.ref fa)/\PySem.W.keepIn K (.ref fa)=JK/\Binds K fd ps []/\c0 P w K mg base CX k fa fd ps (rc K mg ps.length φ)/\∀ds S,φ ds S≠.fail->ds.length=ps.length
noncomputable def fZ:Ls:=["len","tuple","list","int","min","max","isinstance","all","any","sorted","bool","str","dict","range","zip","set","sum","reversed","repr","abs","enumerate"]
structure BR (P:J8)(w:Ke)(K:Fg)(mg:Mg)(base:JU)(CX:dN)(Φ:FT)(Γ:Str->Option D)(k:Nat):Prop where
 fns:∀f φ,Φ f=some φ->bF P w K mg base CX k f φ
 gl:∀x d,Γ x=some d->∃v u,mg x=some u/\RelV v u/\∀F μ H,Rep K ⟨mg,F⟩ μ H d v
 bl:∀x∈fZ,mg x=none
structure cD (X:Cx)(cell:Str->Bool)(N:Ls)(sc:Sc)(CX:dN)(E:XK)(Φ:FT)(Γ:Str->Option D)(k:Nat):Prop where
 n:X.N=N
 nd:N.Nodup
 sc:X.env.scope.names=sc
 kd:X.env.scope.kind=.function
 calm:X.calm=JK
 room:cL k X.A
 fn:∀x,cell x=JK->X.fn x=JK
 mod:BR X.prog X.w X.K X.mg X.base CX Φ Γ k
 pass:lb CX X E
 cx0:∀outer H s e s',CX outer H s E0 e s'->False
section
variable {E:XK}{l r:Expr}{pos:Pos}{a b c:CE}
theorem wV{o:Np}(h:PE X l (tE X.K X.mg E Φ Γ a))(c:PE X r (tE X.K X.mg E Φ Γ b)):PE X (.BinOp l o r pos) (tE X.K X.mg E Φ Γ (.bin o a b)):=
 aS (o6 (Ds _) h c) λA H Q z=>aB z λF u y S g e w=>
  ⟨F,_,_,S,g,e,(ai.bind w).mono λv H1 z=>aD z λk p D x s R W=>⟨F,_,_,_,s,e.mono x,(ai.bind W).mono λV n z=>aD z λm q t j f d i=>⟨F,_,_,_,_,f,Rep.mono j _ _ R,d,dU i⟩⟩⟩
theorem rf(h:PE X l (tE X.K X.mg E Φ Γ a))(c:PE X r (tE X.K X.mg E Φ Γ b)):PE X (.BinOp l .Mult r pos) (tE X.K X.mg E Φ Γ (.binB a b)):=
 aS (o6 v_ h c) λy H Q z=>aB z λF t u S g e w=>
  ⟨F,_,_,S,g,e,(ai.bind w).mono λv H1 z=>aD z λk o D x s R W=>⟨F,_,_,_,s,e.mono x,(ai.bind W).mono λV n z=>aD z λm p q j f d i=>⟨F,_,_,_,_,f,Rep.mono j _ _ R,d,dU i⟩⟩⟩
theorem wX{o:Me}(f:X.A.units+64<cLine)(h:PE X l (tE X.K X.mg E Φ Γ a))(c:PE X r (tE X.K X.mg E Φ Γ b))(d:behindInMarks o r=JL):PE X (.Compare l [o] [r] pos) (tE X.K X.mg E Φ Γ (.cmp o a b)):=
 aS (k7 (fo _ f) h c d) λC H Q z=>aB z λF A B S j e w=>
  ⟨F,_,_,S,j,e,(ai.bind w).mono λV H1 z=>aD z λn t D x s R W=>⟨F,_,_,_,s,e.mono x,(ai.bind W).mono λy q z=>aD z λp u v m i g k=>⟨F,_,_,_,_,i,Rep.mono m _ _ R,g,dU k⟩⟩⟩
theorem ij{m:GS}{E:XK}{Rel:La->Hp->α->β->Prop}{Q:β->Hp->Prop}{f:Bool->Res α}
  (w:ai K m E Rel μ H Q (bp d f)) (r:Rep K m μ H d v):∃k,v=.bl k/\d=.bl k/\ai K m E Rel μ H Q (f k):=by
 cases d with
 |bl k=>exact⟨k,fT r,rfl,w⟩
 |_=>exact w.elim
theorem wY{o:Me}(f:X.A.units+64<cLine)(h:PE X l (tE X.K X.mg E Φ Γ a))(c:PE X r (tE X.K X.mg E Φ Γ b))(d:behindInMarks o r=JL):PT X (.Compare l [o] [r] pos) (tT X.K X.mg E Φ Γ (.cmp o a b)):=
 d7 (k8 (fo _ f) h c d) λU H Q z=>aB z λF P T S n e w=>
  ⟨F,_,_,S,n,e,(ai.bind w).mono λV H1 z=>aD z λv D J x s R W=>⟨F,_,_,_,s,e.mono x,(ai.bind W).mono λM B z=>aD z λy G K u j g p=>
   ⟨F,_,_,_,_,j,Rep.mono u _ _ R,g,dU ((ai.bind p).mono λN C z=>aD z λA I L O m i q=>by obtain⟨k,rfl,rfl,t⟩:=ij q i;exact⟨k,rfl,t _ _ k .refl m rfl⟩)⟩⟩⟩
theorem lW{o:Me}(h:X.A.units+64<cLine)(g:PE X l (tE X.K X.mg E Φ Γ a))(i:PE X r (tE X.K X.mg E Φ Γ b))(j:PE X r' (tE X.K X.mg E Φ Γ c))(m:behindInMarks op' r'=JL):PE X (.Compare l [o,op'] [r,r'] pos) (tE X.K X.mg E Φ Γ (.chain o op' a b c)):=
 aS (CF (fo _ h) (fo _ h) g i j m) λσ H Q z=>aB z λF μ ρ S y e w=>
  ⟨F,_,_,S,y,e,(ai.bind w).mono λv1 H1 z=>aD z λI P Y x t n A=>⟨F,_,_,_,t,e.mono x,(ai.bind A).mono λv2 M z=>aD z λJ T Z d u R B=>
   ⟨F,_,_,_,_,u,Rep.mono d _ _ n,R,dU ((ai.bind B).mono λv3 N z=>aD z λK U d3 f s p C=>by
    obtain⟨k,rfl,rfl,W⟩:=ij C p;refine⟨k,rfl,?_⟩;cases k with
    |true=>exact⟨F,_,_,_,s,(e.mono x).mono (d.trans f),(ai.bind W).mono λv4 O z=>aD z λL V d4 G v q D=>⟨F,_,_,_,_,v,Rep.mono (f.trans G) _ _ R,q,dU D⟩⟩
    |false=>exact W _ _ _ .refl s cN)⟩⟩⟩
theorem lX{o:Me}(h:X.A.units+64<cLine)(g:PE X l (tE X.K X.mg E Φ Γ a))(i:PE X r (tE X.K X.mg E Φ Γ b))(j:PE X r' (tE X.K X.mg E Φ Γ c))(m:behindInMarks op' r'=JL):PT X (.Compare l [o,op'] [r,r'] pos) (tT X.K X.mg E Φ Γ (.chain o op' a b c)):=
 d7 (CG (fo _ h) (fo _ h) g i j m) λσ H Q z=>aB z λF μ ρ S B e w=>
  ⟨F,_,_,S,B,e,(ai.bind w).mono λv1 H1 z=>aD z λM S1 d1 x u n C=>⟨F,_,_,_,u,e.mono x,(ai.bind C).mono λv2 U z=>aD z λN S2 d2 d v R D=>
   ⟨F,_,_,_,_,v,Rep.mono d _ _ n,R,dU ((ai.bind D).mono λv3 V z=>aD z λO S3 d3 f s p G=>by
    obtain⟨k,rfl,rfl,W⟩:=ij G p;refine⟨k,rfl,?_⟩;cases k with
    |true=>exact⟨F,_,_,_,s,(e.mono x).mono (d.trans f),(ai.bind W).mono λv4 Y z=>aD z λP S4 d4 L y q I=>⟨F,_,_,_,_,y,Rep.mono (f.trans L) _ _ R,q,dU ((ai.bind I).mono λv5 Z z=>aD z λT S5 d5 x5 A t J=>by obtain⟨k,rfl,rfl,K⟩:=ij J t;exact⟨k,rfl,K _ _ k .refl A rfl⟩)⟩⟩
    |false=>exact⟨_,rfl,W _ _ _ .refl s rfl⟩)⟩⟩⟩
theorem pg(h:PE X l (tE X.K X.mg E Φ Γ a))(c:PE X (.BoolOp .And (r::rest) pos) (tE X.K X.mg E Φ Γ b)):PE X (.BoolOp .And (l::r::rest) pos) (tE X.K X.mg E Φ Γ (.band a b)):=
 aS (pZ h c) λn H Q z=>aB z λF j m S d e w=>
  ⟨F,_,_,S,d,e,(ai.bind w).mono λv H1 z=>aD z λg i D x s R f=>by
   obtain⟨k,rfl,rfl,W⟩:=ij f R;refine⟨k,rfl,?_⟩;cases k with
   |true=>exact⟨F,_,_,_,s,e.mono x,W⟩
   |false=>exact W _ _ _ .refl s cN⟩
theorem wZ(h:PE X l (tE X.K X.mg E Φ Γ a))(c:PE X (.BoolOp .Or (r::rest) pos) (tE X.K X.mg E Φ Γ b)):PE X (.BoolOp .Or (l::r::rest) pos) (tE X.K X.mg E Φ Γ (.bor a b)):=
 aS (vc h c) λn H Q z=>aB z λF j m S d e w=>
  ⟨F,_,_,S,d,e,(ai.bind w).mono λv H1 z=>aD z λg i D x s R f=>by
   obtain⟨k,rfl,rfl,W⟩:=ij f R;refine⟨k,rfl,?_⟩;cases k with
   |true=>exact W _ _ _ .refl s cN
   |false=>exact⟨F,_,_,_,s,e.mono x,W⟩⟩
theorem lY(c:PE X l ta):PE X (.UnaryOp .Not l pos) (λσ H Q=>ta σ H λx H'=>∃k,hV X.K x H' k/\Q (.bl (!k)) H'):=by intro p s σ H Q I h;exact UnaryOp_ (aX (c _ s _ H _ I h) λv S ⟨x,_,a,r,k,t,q⟩=>not_of (aX (iR _ _ _ _ x v (λk H'=>Q (.bl !k) H') a r ⟨k,t,q⟩) λK e ⟨_,b,d⟩=>⟨.bl _,_,b,rfl,d⟩))
theorem w4{m:GS}{E:XK}{Rel:La->Hp->α->β->Prop}{Q:β->Hp->Prop}{f:Bool->Res α}
  (w:ai K m E Rel μ H Q (match bG S d with|some k=>f k|none=>.fail)):∃k,bG S d=some k/\ai K m E Rel μ H Q (f k):=by
 cases e:bG S d with
 |none=>rw[e]at w;exact w.elim
 |some k=>rw[e]at w;exact⟨k,rfl,w⟩
theorem w5(h:PE X l (tE X.K X.mg E Φ Γ a)):PE X (.UnaryOp .Not l pos) (tE X.K X.mg E Φ Γ (.bnot a)):=
 aS (lY h) λm H Q z=>aB z λF i j S c b w=>⟨F,_,_,S,c,b,(ai.bind w).mono λv H1 z=>aD z λf g D x s r W=>by obtain⟨k,e,d⟩:=w4 W;exact⟨k,o_ s r e,d _ _ _ .refl s cN⟩⟩
theorem w6(h:PE X l (tE X.K X.mg E Φ Γ a)):PE X (.UnaryOp .USub l pos) (tE X.K X.mg E Φ Γ (.neg a)):=
 aS (vx qr h) λk H Q z=>aB z λF g j S b e w=>⟨F,_,_,S,b,e,(ai.bind w).mono λv H1 z=>aD z λc f d x s r W=>by
  cases d with
  |int i=>exact⟨i,aG r,W _ _ _ .refl s bN⟩
  |_=>exact W.elim⟩
theorem ph(h:PT X l (tT X.K X.mg E Φ Γ a))(f:PW X (.BoolOp .And (r::rest) pos) (tT X.K X.mg E Φ Γ b)):PW X (.BoolOp .And (l::r::rest) pos) (tT X.K X.mg E Φ Γ (.band a b)):=λm p s q H Q I z=>aB z λF n o S g e w=>
 pX h f _ _ s _ H Q I ⟨F,_,_,S,g,e,(ai.bind w).mono λk H1 z=>aD z λi j K x c d W=>by
  subst d;cases K with
  |true=>exact⟨F,_,_,_,c,e.mono x,W⟩
  |false=>exact W _ _ _ .refl c rfl⟩
theorem w8(h:PT X l (tT X.K X.mg E Φ Γ a))(f:PW X (.BoolOp .Or (r::rest) pos) (tT X.K X.mg E Φ Γ b)):PW X (.BoolOp .Or (l::r::rest) pos) (tT X.K X.mg E Φ Γ (.bor a b)):=λm p s q H Q I z=>aB z λF n o S g e w=>
 u9 h f _ _ s _ H Q I ⟨F,_,_,S,g,e,(ai.bind w).mono λk H1 z=>aD z λi j K x c d W=>by
  subst d;cases K with
  |true=>exact W _ _ _ .refl c rfl
  |false=>exact⟨F,_,_,_,c,e.mono x,W⟩⟩
theorem w9(h:PT X l (tT X.K X.mg E Φ Γ a)):PT X (.UnaryOp .Not l pos) (tT X.K X.mg E Φ Γ (.bnot a)):=
 d7 (pY h) λj H Q z=>aB z λF g i S c b w=>⟨F,_,_,S,c,b,(ai.bind w).mono λk H1 z=>aD z λd f K x s e W=>by subst e;exact W _ _ _ .refl s rfl⟩
theorem w_{t x y:Expr}(i:PT X t (tT X.K X.mg E Φ Γ c))(h:PE X x (tE X.K X.mg E Φ Γ a))(g:PE X y (tE X.K X.mg E Φ Γ b)):PE X (.IfExp t x y pos) (tE X.K X.mg E Φ Γ (.ite c a b)):=
 aS (Cg i h g) λp H Q z=>aB z λF n o S j e w=>⟨F,_,_,S,j,e,(ai.bind w).mono λk H1 z=>aD z λl m K d s f W=>by
  subst f;cases K with
  |true=>exact⟨F,_,_,_,s,e.mono d,W⟩
  |false=>exact⟨F,_,_,_,s,e.mono d,W⟩⟩
theorem xb:PA X [] (tL X.K X.mg E Φ Γ []):=pf k_ λc H Q z=>aB z λF a b S s e w=>w _ H _ .refl s .nil
theorem c3{es:Lx}(h:bP e=JK):starEach (e::es) env=(JL,eval e env)::starEach es env:=by cases e<;>first|rfl|cases h
theorem rg{es:Lx}{cs:List CE}(j:bP e=JK)(i:PE X e (tE X.K X.mg E Φ Γ a))(k:PA X es (tL X.K X.mg E Φ Γ cs)):PA X (e::es) (tL X.K X.mg E Φ Γ (a::cs)):=
 pf (la i k (c3 j)) λu H Q z=>aB z λF p f S m d w=>⟨F,p,f,S,m,d,(ai.bind w).mono λv H1 z=>aD z λb h D x s r W=>
  ⟨F,b,f,h,s,d.mono x,(ai.bind W).mono λvs g z=>aD z λc q t o l R n=>n c g _ .refl l (.cons (Rep.mono o _ _ r) R)⟩⟩
end
theorem rh:∀{cs:List CE} {N:Ls} {es:Lx},(fQ cs N es).length=cs.length
 | [],N,es=>rfl
 |c::cs,N,es=>Z5 _ rh
theorem fE:∀{cs:List CE} {N:Ls} {sc:Sc} {es:Lx},fY cs N sc es=JK->∀e∈fQ cs N es,bP e=JK
 | [],N,sc,es,h,e,H=>absurd H ZH
 |c::cs,N,sc,es,h,e,H=>by
  rcases Zk.mp H with rfl|H
  ·exact(ab (ab h).2).1
  ·exact fE (ab (ab h).2).2 e H
theorem lZ:∀{es:Lx} {env:Env} {pos:Pos},(∀e∈es,bP e=JK)->(backTo pos (starEach es env)).any (·.1)=JL
 | [],env,pos,h=>rfl
 |e::es,env,pos,h=>by rw[c3 (h e Ze)];show(JL||(backTo _ _).any _)=JL;rw[lZ λe H=>h e (Zc _ H)];rfl
theorem xf:∀{es:Lx} {env:Env} {pos:Pos},(∀e∈es,bP e=JK)->(backTo pos (starEach es env)).all (λx=> !x.1)=JK
 | [],env,pos,h=>rfl
 |e::es,env,pos,h=>by rw[c3 (h e Ze)];show(!JL&&(backTo _ _).all _)=JK;rw[xf λe H=>h e (Zc _ H)];rfl
theorem rk:∀{cs:List CE} {ρ:bt} {S S':aa} {ds:List D},ak Φ Γ cs ρ S=.ok ds S'->ds.length=cs.length
 | [],ρ,S,S',ds,h=>by cases h;rfl
 |c::cs,ρ,S,S',ds,h=>by
  unfold ak at h;cases e:aj _ _ c _ S with
  |ok d a=>
   rw[e]at h;cases E:ak Φ Γ cs ρ a with
   |ok f b=>simp only[Res.bind,E]at h;cases h;simp[rk E]
   |err x b=>simp only[Res.bind,E]at h;cases h
   |fail=>simp only[Res.bind,E]at h;cases h
  |err x a=>rw[e]at h;cases h
  |fail=>rw[e]at h;cases h
theorem DV{x:Str}{s:Scope}(H:s.names=sc)(h:lQ sc x=JK):u3 s x:=by unfold u3;unfold lQ at h;lia
theorem xg{x:Str}(h:lR x=JK):(x==("__debug__":Str))=JL/\(x==("__classdict__":Str))=JL:=by
 unfold lR at h
 grind
theorem ee{x:Str}(h:bH sc x=JK):sc.lookup x=some .globalImplicit/\(x==("__debug__":Str))=JL/\x≠"__name__":=by unfold bH at h;simp_all
section
variable {E:XK}{l r:Expr}{es:Lx}{pos:Pos}{a b c:CE}{cs:List CE}{x:Str}
theorem cD.gl(O:cD X cell N sc CX E Φ Γ k)(h:sc.lookup x=some .globalImplicit):Gl X x:=by show X.env.scope.names.lookup x=_;rw[O.sc];exact h
theorem pi(O:cD X cell N sc CX E Φ Γ k){i:Nat}(h1:(N[i]?==some x)=JK)(c:lQ sc x=JK)(h:lR x=JK):PE X (.Name x pos) (tE X.K X.mg E Φ Γ (.var i)):=by
 refine aS (pS (by rw[O.n];simpa using h1) (DV O.sc c) (xg h).1 (xg h).2) λj H Q z=>aB z λF f g S s b w=>?_;simp[aj]at w;split at w
 ·rename_i d e;obtain⟨v,a,r⟩:=b.2 i d e;exact⟨v,a,w _ H v .refl s r⟩
 ·exact w.elim
theorem pj{cn:Const}{j}(h:je d cn=JK):PE X (.Constant cn j pos) (tE X.K X.mg E Φ Γ (.lit d)):=by
 unfold je at h;split at h
 ·exact aS pU λf H Q z=>aB z λF b c S s a w=>w _ H _ .refl s iV
 ·have e:=beq_iff_eq.mp h;subst e;exact aS u7 λf H Q z=>aB z λF b c S s a w=>w _ H _ .refl s cN
 ·have e:=beq_iff_eq.mp h;subst e;exact aS pT λf H Q z=>aB z λF b c S s a w=>w _ H _ .refl s bN
 ·have e:=beq_iff_eq.mp h;subst e;exact aS pV λf H Q z=>aB z λF b c S s a w=>w _ H _ .refl s iU
 ·cases h
theorem rm(O:cD X cell N sc CX E Φ Γ k)(h:bH sc x=JK):PE X (.Name x pos) (tE X.K X.mg E Φ Γ (.glob x)):=by
 obtain⟨a,b,j⟩:=ee h;cases e:Γ x with
 |none=>intro p s g H Q I ⟨F,_,_,S,_,_,w⟩;simp[aj]at w;rw[e]at w;exact w.elim
 |some d=>obtain⟨v,u,m,M,c⟩:=O.mod.gl x d e;refine aS (kK (O.gl a) m M b) λg H Q z=>aB z λF l n S f i w=>?_;simp[aj]at w;rw[e]at w;exact w _ H v .refl f (c F _ H)
theorem l4{n:String}(h:ic.contains n=JK):(KG n)∈fZ:=by simp[ic]at h;rcases h with rfl|rfl|rfl|rfl|rfl|rfl<;>decide+kernel
theorem DW(O:cD X cell N sc CX E Φ Γ k){n:String}(h:bH sc (KG n)=JK)(a:ic.contains n=JK):PE X (.Name (KG n) pos) (tE X.K X.mg E Φ Γ (.ty n)):=by obtain⟨b,c,d⟩:=ee h;exact aS (kL (v:=.ty n) (O.gl b) (O.mod.bl _ (l4 a)) (lS a) rfl d c) λi H Q z=>aB z λF f g S s e w=>w _ H _ .refl s rfl
theorem jk{m:GS}{Q:List V->Hp->Prop}(h:cs.length<1000)(w:ai K m E (ag K m) μ H Q (ak Φ Γ cs ρ S)):ai K m E (ag K m) μ H (λvs H'=>vs.length<=sizeLine/\Q vs H') (ak Φ Γ cs ρ S):=by
 cases e:ak _ _ _ _ S with
 |ok d a=>rw[e]at w;intro b H' vs x s r;refine⟨?_,w _ _ _ x s r⟩;rw[<-r.length,rk e];exact Lz (ZB h (by decide))
 |err y a=>rw[e]at w;exact w
 |fail=>rw[e]at w;exact w
theorem xh{x1}(a:cs.length<1000)(h:PA X es (tL X.K X.mg E Φ Γ cs)):PE X (.Tuple es x1 pos) (tE X.K X.mg E Φ Γ (.tup cs)):=
 aS (qu h) λi H Q z=>aB z λF f g S d e w=>⟨F,_,_,S,d,e,(jk a (ai.bind w)).mono λvs H1 ⟨c,_,_,_,_,s,r,W⟩=>⟨c,λp b=>by exact aU.tup (show aU _ _ _ _ Q _ from W) s r p b⟩⟩
theorem xi{box:Bool}(b:cs.length<1000)(h:PA X es (tL X.K X.mg E Φ Γ cs)):PE X (.List es pos) (tE X.K X.mg E Φ Γ (.lst box cs)):=
 aS (qv h) λi H Q z=>aB z λF f g S d e w=>⟨F,_,_,S,d,e,(jk b (ai.bind w)).mono λvs H1 ⟨c,_,_,_,_,s,r,W⟩=>⟨c,λp a=>by
  cases box with
  |true=>exact aU.box (show aU _ _ _ _ Q _ from W) s r p a
  |false=>exact aU.lst (show aU _ _ _ _ Q _ from W) s r p a⟩⟩
theorem xj:PE X (.Dict [] [] pos) (tE X.K X.mg E Φ Γ .dct):=λp s l H Q I z=>aB z λF j k S c d w=>by
 have a:=ZB I.mod.glob.lt (ZD I.ok.bsz I.sz);have h:=I.hok.fresh (Zl _);refine wpAny_Dict_empty ⟨.ref _,_,I.laid (o:=.dK []) (λb O q=>Zb _ q) (Zl _) ?_,rfl,?_⟩
 ·refine⟨Ks _,?_,_,.nil,_,_,_,Zh _ rfl,⟨rfl,rfl,rfl⟩,rfl,λe i=>by simp_all,.nil,.nil⟩;have g:mainGlobals=3:=rfl;have f:sysModules=1:=rfl
  grind
 ·exact w _ _ _ (.laid h) (c.laid h) (by exact⟨_,rfl,dd⟩)
theorem xk(d:ig r=JK)(h:PE X l (tE X.K X.mg E Φ Γ a))(c:PE X r (tE X.K X.mg E Φ Γ b)):PE X (.Subscript l r pos) (tE X.K X.mg E Φ Γ (.idx a b)):=
 aS (vT Dz h c (DU d)) λA H Q z=>aB z λF u y S i e w=>
  ⟨F,_,_,S,i,e,(ai.bind w).mono λv H1 z=>aD z λm p D x s R W=>⟨F,_,_,_,s,e.mono x,(ai.bind W).mono λV o z=>aD z λn q t k g f j=>⟨F,_,_,_,_,g,Rep.mono k _ _ R,f,dU j⟩⟩⟩
noncomputable def xl(K:Fg)(m:Mg)(E:XK)(Φ:FT)(Γ:Str->Option D)(cs:List CE):TO:=λσ H Q=>∃F μ ρ S,aK K ⟨m,F⟩ μ S H/\a8 K ⟨m,F⟩ μ H ρ σ/\
 ai K ⟨m,F⟩ E (λ_ _ o o'=>o=o') μ H Q ((ak Φ Γ cs ρ S).bind eY)
theorem l5:PO X none (xl X.K X.mg E Φ Γ []):=by intro p s b H Q I ⟨F,_,_,S,a,_,w⟩;exact li _ s _ H Q I (w _ H _ .refl a rfl)
theorem l6(h:PE X e (tE X.K X.mg E Φ Γ a)):PO X (some e) (xl X.K X.mg E Φ Γ [a]):=by
 intro p s q H Q I ⟨F,l,c,S,j,f,w⟩;refine lj h _ s _ H Q I ⟨F,_,_,S,j,f,?_⟩
 have k:ai X.K ⟨X.mg,F⟩ E (λ_ _ o O=>o=O) l H Q ((aj Φ Γ a c S).bind λd b=>eY [d] b):=by
  have n:(ak Φ Γ [a] c S).bind eY=(aj Φ Γ a c S).bind λd b=>eY [d] b:=by rw[ak];cases aj _ _ a _ S<;>rfl
  simp_all
 refine(ai.bind k).mono λv H1 z=>aD z λm b d x g r W=>?_;cases d with
 |int i=>exact⟨i,aG r,W _ _ _ .refl g rfl⟩
 |_=>exact W.elim
theorem DX{L h:Option Expr}{c ch:List CE}(g:PE X l (tE X.K X.mg E Φ Γ a))(j:PO X L (xl X.K X.mg E Φ Γ c))(i:PO X h (xl X.K X.mg E Φ Γ ch)):PE X (.Subscript l (.Slice L h none p2) pos) (tE X.K X.mg E Φ Γ (.sl a c ch)):=
 aS (CZ DB g j i) λP H Q z=>aB z λF M N S n e w=>⟨F,_,_,S,n,e,(ai.bind w).mono λV H1 z=>aD z λu C I x s r W=>⟨F,_,_,_,s,e.mono x,
  (ai.bind W).mono λo A z=>aD z λv D J b k d p=>⟨F,_,_,_,k,(e.mono x).mono b,(ai.bind p).mono λK B z=>aD z λy G O t m f q=>by subst d;subst f;exact⟨F,_,_,_,m,Rep.mono (b.trans t) _ _ r,dU q⟩⟩⟩⟩
theorem jl(O:cD X cell N sc CX E Φ Γ k){f:Str}(h:bH sc f=JK)(a:∀x∈e::es,bP x=JK)(i:PA X (e::es) (tL X.K X.mg E Φ Γ cs)):PE X (.Call (.Name f p2) (e::es) [] pos) (tE X.K X.mg E Φ Γ (.call f cs)):=by
 obtain⟨d,g,B⟩:=ee h;cases b:Φ f with
 |none=>intro P s u H Q I ⟨F,_,_,S,_,_,w⟩;simp[aj]at w;rw[b]at w;exact w.elim
 |some L=>obtain⟨y,A,C,m,M,l,n,o⟩:=(O.mod.fns f _ b).ex;refine aS (lc n O.room (O.gl d) m M l .nil O.pass i g (c3 (a e Ze)) (lZ λx j=>a x (Zc _ j))) λu H Q Z=>aB Z λF J K S q c w=>?_;simp[aj]at w;rw[b]at w;refine⟨F,_,_,S,q,c,(ai.bind w).mono λvs H1 Z=>aD Z λt v D G p r W=>?_⟩;rw[Z4];refine⟨?_,F,_,_,_,p,r,W⟩;rw[<-r.length];exact o _ _ λz=>by rw[z]at W;exact W
theorem pk(O:cD X cell N sc CX E Φ Γ k){b:jc}(g:a7 X (jf b) (rC X.K X.mg (ba b)))(h:bH sc (gE b)=JK)(j:∀x∈e::es,bP x=JK)(f:PA X (e::es) (tL X.K X.mg E Φ Γ cs)):PE X (.Call (.Name (gE b) p2) (e::es) [] pos) (tE X.K X.mg E Φ Γ (.blt b cs)):=by
 obtain⟨a,c,d⟩:=ee h
 have i:X.mg (gE b)=none:=O.mod.bl _ (by
  cases b with
  |list box=>show(KG _)∈fZ;decide+kernel
  |sorted box t=>show(KG _)∈fZ;decide+kernel
  |_=>decide+kernel)
 have K:PE X (.Call (.Name (gE b) p2) (e::es) [] pos) (CP (rC X.K X.mg (ba b)) (tL X.K X.mg E Φ Γ cs)):=by
  have s:=c3 (env:=X.env) (es:=es) (j e Ze);have m:=lZ (env:=X.env) (pos:=pos) λx q=>j x (Zc _ q);have l:=DR b;cases b with
  |tuple=>exact lf g (O.gl a) i l f d c s m
  |list box=>exact lf g (O.gl a) i l f d c s m
  |int=>exact lf g (O.gl a) i l f d c s m
  |str=>exact lf g (O.gl a) i l f d c s m
  |_=>exact CQ g (O.gl a) i l f d c s m
 refine aS K λC H Q z=>aB z λF v A S u p w=>⟨F,v,A,S,u,p,(ai.bind w).mono λvs H1 z=>aD z λy o D B s r W=>⟨F,_,o,D,s,r,dU W⟩⟩
theorem DY{m:GS}(s:aK K m μ S H)(r:Rep K m μ H (.ref n) v):vW K "list" v H:=by
 obtain⟨a,rfl,h⟩:=r;have c:n<S.length:=by rw[<-s.len];exact(Zp.mp h).1
 obtain⟨vs,b,q⟩:=s.at_ n a _ h (Zm c);exact .inl ⟨rfl,_,.of b⟩
noncomputable def jm:pc->String
 | .append=>"list.append"| .extend=>"list.extend"| .pop=>"list.pop"| .count=>"list.count"| .insert=>"list.insert"| .index=>"list.index"
theorem jn(m:pc):qC X (jm m) (rM X.K X.mg (db m)):=by
 cases m with
 |append=>exact DD
 |count=>exact λ_ _ _ _ _ _ _ _ _ _ _ _ ⟨_,_,_,_,_,_,_,_,w⟩=>w.elim
 |insert=>exact λ_ _ _ _ _ _ _ _ _ _ _ _ ⟨_,_,_,_,_,_,_,_,w⟩=>w.elim
 |index=>exact λ_ _ _ _ _ _ _ _ _ _ _ _ ⟨_,_,_,_,_,_,_,_,w⟩=>w.elim
 |extend=>exact DE
 |pop=>
  intro p s i H x f v u Q I b a h;obtain⟨F,g,S,d,D,c,R,r,w⟩:=h;cases D with
  |nil=>exact wv p s i H x f v u Q I b a ⟨F,g,S,d,[],c,R,r,w⟩
  |cons e E=>exact lK p s i H x f v u Q I b a ⟨F,g,S,d,e::E,c,R,r,w⟩
theorem xm(m:pc):Slot "list" (lT m) (jm m):=by
 cases m with
 |append=>exact PySem.F.slot_list_append
 |count=>exact PySem.F.slot_list_count
 |insert=>exact PySem.F.slot_list_insert
 |index=>exact PySem.F.slot_list_index
 |extend=>exact PySem.F.slot_list_extend
 |pop=>exact PySem.F.slot_list_pop
theorem xn(m:pc):typeOf (.builtin (jm m))=pure (.type "method_descriptor"):=by
 cases m with
 |append=>exact PySem.F.type_list_append
 |count=>exact PySem.F.type_list_count
 |insert=>exact PySem.F.type_list_insert
 |index=>exact PySem.F.type_list_index
 |extend=>exact PySem.F.type_list_extend
 |pop=>exact PySem.F.type_list_pop
theorem rn{m:pc}{o:Expr}(I:wS o=JK)(A:(apos.endLine==pos.line)=JK)(f:∀x∈es,bP x=JK)(T:es.length<20)(l:cs.length=es.length)(B:PE X o (tE X.K X.mg E Φ Γ a))(G:PA X es (tL X.K X.mg E Φ Γ cs)):
  PE X (.Call (.Attribute o (lT m) apos) es [] pos) (tE X.K X.mg E Φ Γ (.meth m a cs)):=by
 have h:attributeBase o (lT m) X.env (eval o X.env)=eval o X.env:=by cases o<;>first|rfl|cases I
 have k:∀{F b d H1 c D Q v},aK X.K ⟨X.mg,F⟩ b d H1->Rep X.K ⟨X.mg,F⟩ b H1 D v->ai X.K ⟨X.mg,F⟩ E (Rep X.K ⟨X.mg,F⟩) b H1 Q (match D with
   | .ref n=>(ak Φ Γ cs c d).bind λj i=>(db m (.ref n) j i).noErr
   |_=>.fail)->vW X.K "list" v H1/\ai X.K ⟨X.mg,F⟩ E (ag X.K ⟨X.mg,F⟩) b H1 (λvs y=>rM X.K X.mg (db m) v vs y Q) (ak Φ Γ cs c d):=by
  intro F b d H1 c D Q v s r W;cases D with
  |ref n=>exact⟨DY s r,(ai.bind W).mono λvs y z=>aD z λu i j N L R M=>⟨F,u,i,_,j,L,Rep.mono N _ _ r,R,dU M⟩⟩
  |_=>exact W.elim
 cases es with
 |nil=>have e:=ZW l;subst e;refine aS (qE PySem.F.plainAttrs_list (xm m) (xn m) (jn m) B h A) λO H Q z=>aB z λF t c S q g w=>⟨F,t,c,S,q,g,(ai.bind w).mono λv H1 z=>aD z λb d D C s r W=>?_⟩;obtain⟨K,p⟩:=k s r W;exact⟨K,p b H1 [] .refl s .nil⟩
 |cons e es=>
  refine aS (vX PySem.F.plainAttrs_list (xm m) (xn m) (jn m) B G h ?_ A (c3 (f e Ze)) (lZ λx J=>f x (Zc _ J))) λO H Q z=>aB z λF t c S q g w=>⟨F,t,c,S,q,g,(ai.bind w).mono λv H1 z=>aD z λb d D C s r W=>?_⟩
  ·rw[xf f];have P:(backToKw pos (keywordEach [] X.env)).all (λx=>x.1.isSome)=JK:=rfl
   grind
  ·obtain⟨K,p⟩:=k s r W;exact⟨K,F,b,c,d,s,g.mono C,p⟩
end
theorem xo{t:JP}{i:Nat}{x:JO}(h:s.heap.IsTupleIter it t i)(g:s.heap.IsTuple t items)(j:items[i]?=some x)
  (e:∀h',h'.IsTupleIter it t (i+1)->JT it s.heap h'->Q x {s with heap:=h'}):wpAny (model prog w) A (JW (.ref it)) Q E s:=by
 obtain⟨o,a,f,H⟩:=id h;obtain⟨O,c,_,nl,b⟩:=g;refine Za (ZV h.typeIs K' (ZQ K' h.typeIs NI ?_ (NC _)));show wpAny _ _ (field _ 0>>=_) _ _ s;refine Za (ZY a H rfl ?_);refine Za (ZY a H rfl ?_);refine Za (Kf c b ?_);simp[j];exact Za (Mb a H (by simp) (Zd ⟨x,rfl,Zd (e _ ⟨_,Z8 _ a (Mp (KW H _)),(M6 ..).trans f,by rw[KW H];simp[rawInt]⟩ (ZM ..))⟩))
theorem xp{t:JP}{i:Nat}{Q:Vs}(g:A.handled=none)(h:s.heap.IsTupleIter it t i)(j:s.heap.IsTuple t items)(k:items[i]?=none)
  (f:∀h' e,Nh it s.heap h'->(∃o,h'.get? e=some o/\o.cls=.type "StopIteration")->E (.ref e) {s with heap:=h'}):wpAny (model prog w) A (JW (.ref it)) Q E s:=by
 obtain⟨o,b,l,H⟩:=id h;obtain⟨O,c,_,nl,a⟩:=j;refine Za (ZV h.typeIs K' (ZQ K' h.typeIs NI ?_ (NC _)));show wpAny _ _ (field (.ref it) 0>>=_) _ _ s;refine Za (ZY b H (x:=.ref t) rfl ?_);refine Za (ZY b H rfl ?_);refine Za (Kf c a ?_);simp only[KH,k];refine Za (K1 (Za (Mb b H (by simp) ?_)));refine Za ?_;refine Za (m:=firstArgMember _ _) (NH (rfl) ?_);refine Yf ?_ (by size_fits);refine Za (wpAny_handled ?_)
 first|lia|rw[g]
 exact Za (Zd (wpAny_throw (f _ _ (((ZM ..).extBut.push _).push _) ⟨_,Zh _ rfl,rfl⟩)))
def bw(b:Bool)(h:JU)(l:JP)(xs:Av):Prop:=match b with
 |true=>h.IsList l xs
 |false=>h.IsTuple l xs
def a9(b:Bool)(h:JU)(it l:JP)(i:Nat):Prop:=match b with
 |true=>h.IsListIter it l i
 |false=>h.IsTupleIter it l i
theorem bw.at{b:Bool}{l:JP}{xs:Av}(q:bw b h l xs)(k:∀o,h.get? l=some o->h'.get? l=some o):bw b h' l xs:=by
 cases b with
 |true=>exact Heap.IsList.at q k
 |false=>obtain⟨o,e,r⟩:=q;exact⟨o,k o e,r⟩
theorem a9.at{b:Bool}{l:JP}{i:Nat}(q:a9 b h it l i)(k:∀o,h.get? it=some o->h'.get? it=some o):a9 b h' it l i:=by
 cases b with
 |true=>exact Heap.IsListIter.at q k
 |false=>exact Heap.IsTupleIter.at q k
theorem a9.obj{b:Bool}{l:JP}{i:Nat}(q:a9 b h it l i):∃o,h.get? it=some o/\∀v,o.data≠.cell v:=by
 cases b with
 |true=>obtain⟨o,e,c,d⟩:=q;simp_all
 |false=>obtain⟨o,e,c,d⟩:=q;simp_all
theorem g6(d:A.handled=none)(b:Bool)(it l:JP)(a:l≠it)(items:Av):
  Draws prog w A it [it,l] items.size (λi v=>items[i]?=some v) (λi h=>a9 b h it l i/\bw b h l items):=by
 cases b with
 |true=>exact Draws.list d _ l a _
 |false=>exact{
   live:=λ_ _ S=>let⟨o,k,_⟩:=S.1;⟨o,k⟩
   frame:=λ_ _ _ S f=>⟨S.1.at λo e=>f _ (by simp) o e,S.2.at λo e=>f l (by simp) o e⟩
   item:=λi s Q E n S j=>by exact xo S.1 S.2 (x:=items[i]) (by simp_all) λm H c=>j _ _ _ (by simp_all) ⟨H,S.2.at λo e=>c.extBut _ _ a e⟩ c
   done:=λs Q E S g=>xp d S.1 S.2 (by simp) g}
structure dV (z TI TO i1 i2 l1 l2:JP):Prop where
 TIz:TI≠z
 TOz:TO≠z
 i1z:i1≠z
 i2z:i2≠z
 TITO:TI≠TO
 TIi1:TI≠i1
 TIi2:TI≠i2
 TOi1:TO≠i1
 TOi2:TO≠i2
 i12:i1≠i2
 l1:l1≠z/\l1≠TO/\l1≠i1/\l1≠i2
 l2:l2≠z/\l2≠TO/\l2≠i1/\l2≠i2
theorem ro{prog:J8}{w:Ke}{b:Bool}{t:JP}{i:Nat}{Q:Vs}(c:A.handled=none)(h:a9 b s.heap it t i)(d:bw b s.heap t items)(f:items[i]?=none)
  (H:∀h' e,Nh it s.heap h'->(∃o,h'.get? e=some o/\o.cls=.type "StopIteration")->E (.ref e) {s with heap:=h'}):wpAny (model prog w) A (JW (.ref it)) Q E s:=by
 cases b with
 |true=>exact wpAny_nextOf_list_end c h d f H
 |false=>exact xp c h d f H
section
variable {z TI TO i1 i2 l1 l2:JP}{k1 k2:Nat}{xs ys:Av}{a b:JO}
theorem rx(D:dV z TI TO i1 i2 l1 l2)(hh:A.handled=none){x y:JO}
  (O:Mh s.heap z TI TO .none) (hTI:KY s.heap TI (.ref i1) (.ref i2)) (hTO:KY s.heap TO a b)
  (h1:a9 b1 s.heap i1 l1 k1) (h2:a9 b2 s.heap i2 l2 k2) (hl1:bw b1 s.heap l1 xs) (hl2:bw b2 s.heap l2 ys) (hx:xs[k1]?=some x) (hy:ys[k2]?=some y)
  (hQ:∀h',Mh h' z TI TO (rawInt s.heap.objs.size)->KY h' TO x y->a9 b1 h' i1 l1 (k1+1)->a9 b2 h' i2 l2 (k2+1)->KY h' s.heap.objs.size x y->h'.objs.size=s.heap.objs.size+1->
   (∀c o,c≠z->c≠TO->c≠i1->c≠i2->s.heap.get? c=some o->h'.get? c=some o)->∀tk,Q (.ref s.heap.objs.size) {s with heap:=h',toks:=tk}):
  wpAny (model prog w) A (KN.«zip.__next__» ⟨[.ref z],[]⟩) (λfin s'=>∃v,fin=.done (.ret v)/\Q v s') E s:=by
 have D1:=g6 (prog:=prog) (w:=w) (A:=A) hh b1 i1 l1 D.l1.2.2.1 xs;have D2:=g6 (prog:=prog) (w:=w) (A:=A) hh b2 i2 l2 D.l2.2.2.2 ys;have n1:k1<xs.size:=(Nr.mp hx).1;have n2:k2<ys.size:=(Nr.mp hy).1;show wpAny _ _ (field (.ref z) 2>>=_) _ _ _;refine Za (ZY O rfl (x:=.bool JL) rfl ?_);show wpAny _ _ (field (.ref z) 3>>=_) _ _ _;refine Za (ZY O rfl (x:=.ref TI) rfl ?_);refine Za (Kf hTI rfl ?_);show wpAny _ _ (JV (.ref z)>>=_) _ _ _;refine Za ?_;unfold JV;refine Za (ZY O rfl (x:=.none) rfl (Zd ?_));simp only[if_true];refine Za (K1 ?_);refine Za (ZY O rfl (x:=.ref TO) rfl ?_);refine Za (Z2 O (by simp) λR q H=>?_);replace q:Mh R z TI TO .ellipsis:=q;refine Za ?_;simp only[OU,List.zipIdx_nil,LS,Nv];refine Za (Za (Nc ?_));show wpAny _ _ (JW (.ref i1)>>=_) _ _ _;refine Za (D1.item k1 _ _ _ n1 ⟨h1.at λo e=>H.extBut _ _ D.i1z e,hl1.at λo e=>H.extBut _ _ D.l1.1 e⟩ λx' T tk M S d=>Zd ?_);rw[hx]at M;cases M;have t:KY T TO a b:=d.extBut _ _ D.TOi1 (H.extBut _ _ D.TOz hTO);refine Za (Kf t rfl ?_);refine Za (MS t λU k f=>?_);replace k:KY U TO x b:=k;refine Za (LB (Zd ?_));refine Za (Za (Nc ?_));show wpAny _ _ (JW (.ref i2)>>=_) _ _ _;refine Za (D2.item k2 _ _ _ n2 ⟨h2.at λo e=>f.extBut _ _ D.TOi2.symm (d.extBut _ _ D.i12.symm (H.extBut _ _ D.i2z e)),hl2.at λo e=>f.extBut _ _ D.l2.2.1 (d.extBut _ _ D.l2.2.2.1 (H.extBut _ _ D.l2.1 e))⟩ λy' V tk2 N K i=>Zd ?_);rw[hy]at N;cases N;have u:KY V TO x b:=i.extBut _ _ D.TOi2 k;refine Za (Kf u rfl ?_);refine Za (MS u λh g j=>?_);replace g:KY h TO x y:=g;refine Za (LB (Zd (Zd ?_)));refine Za (Kf g rfl ?_);refine Za (N3 ?_);have L:h.objs.size=s.heap.objs.size:=by rw[j.1,i.1,f.1,d.1,H.1]
 have C:Mh h z TI TO .ellipsis:=j.extBut _ _ D.TOz.symm (i.extBut _ _ D.i2z.symm (f.extBut _ _ D.TOz.symm (d.extBut _ _ D.i1z.symm q)));have I:∀c o,c≠z->c≠TO->c≠i1->c≠i2->s.heap.get? c=some o->h.get? c=some o:=λc o G X Z c4 e=>j.extBut _ _ X (i.extBut _ _ c4 (f.extBut _ _ X (d.extBut _ _ Z (H.extBut _ _ G e))));have g1:a9 b1 h i1 l1 (k1+1):=S.1.at λo e=>j.extBut _ _ D.TOi1.symm (i.extBut _ _ D.i12 (f.extBut _ _ D.TOi1.symm e));have g2:a9 b2 h i2 l2 (k2+1):=K.1.at λo e=>j.extBut _ _ D.TOi2.symm e;have F:z<h.objs.size:=Zj C;show wpAny _ _ (Kc (.ref z) (.ref h.objs.size)>>=_) _ _ _;refine Za ?_;unfold Kc;have J:Mh (h.push {cls:=.type "tuple",data:=.seq #[x,y]}) z TI TO .ellipsis:=Zb _ C;refine Za (Z2 J (by simp) λW r n=>?_);replace r:Mh W z TI TO (rawInt h.objs.size):=r;refine Z2 r (by simp) λm l p=>?_;replace l:Mh m z TI TO (rawInt h.objs.size):=l;have Y:∀c o,c≠z->h.get? c=some o->m.get? c=some o:=λc o G e=>p.extBut _ _ G (n.extBut _ _ G (Zb _ e));have B:KY m h.objs.size x y:=p.extBut _ _ (Kk F) (n.extBut _ _ (Kk F) (Zh _ rfl));have P:m.objs.size=h.objs.size+1:=by rw[p.1,n.1,Ka]
 rw[L]at l B P;refine Zd ⟨_,rfl,?_⟩;show Q (.ref h.objs.size) _;rw[L];exact hQ m l (Y _ _ D.TOz g) (g1.at λo e=>Y _ o D.i1z e) (g2.at λo e=>Y _ o D.i2z e) B P (λc o G X Z c4 e=>Y c o G (I c o G X Z c4 e)) _
theorem DZ(D:dV z TI TO i1 i2 l1 l2)(I:A.handled=none){Q:Fin->JN->Prop}
  (v:Mh s.heap z TI TO .none) (K:KY s.heap TI (.ref i1) (.ref i2)) (L:KY s.heap TO a b)
  (h1:a9 b1 s.heap i1 l1 k1) (Z:a9 b2 s.heap i2 l2 k2) (u:bw b1 s.heap l1 xs) (N:bw b2 s.heap l2 ys) (t:xs[k1]?=none\/ys[k2]?=none)
  (P:∀h' e tk,(∀c o,c≠z->c≠TO->c≠i1->c≠i2->s.heap.get? c=some o->h'.get? c=some o)->(∃o,h'.get? e=some o/\o.cls=.type "StopIteration")->E (.ref e) {s with heap:=h',toks:=tk}):
  wpAny (model prog w) A (KN.«zip.__next__» ⟨[.ref z],[]⟩) Q E s:=by
 have W:=g6 (prog:=prog) (w:=w) (A:=A) I b1 i1 l1 D.l1.2.2.1 xs;have D2:=g6 (prog:=prog) (w:=w) (A:=A) I b2 i2 l2 D.l2.2.2.2 ys;show wpAny _ _ (field (.ref z) 2>>=_) _ _ _;refine Za (ZY v rfl (x:=.bool JL) rfl ?_);show wpAny _ _ (field (.ref z) 3>>=_) _ _ _;refine Za (ZY v rfl (x:=.ref TI) rfl ?_);refine Za (Kf K rfl ?_);show wpAny _ _ (JV (.ref z)>>=_) _ _ _;refine Za ?_;unfold JV;refine Za (ZY v rfl (x:=.none) rfl (Zd ?_));simp only[if_true];refine Za (K1 ?_);refine Za (ZY v rfl (x:=.ref TO) rfl ?_);refine Za (Z2 v (by simp) λy f h=>?_);replace f:Mh y z TI TO .ellipsis:=f;refine Za ?_;simp only[OU,List.zipIdx_nil,LS,Nv];refine Za (Za (Nc ?_));show wpAny _ _ (JW (.ref i1)>>=_) _ _ _;by_cases U:k1<xs.size
 ·have hy:ys[k2]?=none:=t.resolve_left (by simp[U]);refine Za (W.item k1 _ _ _ U ⟨h1.at λo e=>h.extBut _ _ D.i1z e,u.at λo e=>h.extBut _ _ D.l1.1 e⟩ λx p tk T S H=>Zd ?_);have i:KY p TO a b:=H.extBut _ _ D.TOi1 (h.extBut _ _ D.TOz L);refine Za (Kf i rfl ?_);refine Za (MS i λq G d=>?_);refine Za (LB (Zd ?_));refine Za (Za (Nc ?_));show wpAny _ _ (JW (.ref i2)>>=_) _ _ _;refine Za (ro I (Z.at λo e=>d.extBut _ _ D.TOi2.symm (H.extBut _ _ D.i12.symm (h.extBut _ _ D.i2z e))) (N.at λo e=>d.extBut _ _ D.l2.2.1 (H.extBut _ _ D.l2.2.2.1 (h.extBut _ _ D.l2.1 e))) hy λB e k M=>?_);obtain⟨O,g,j⟩:=M;have n:Mh B z TI TO .ellipsis:=k _ _ D.i2z.symm (d.extBut _ _ D.TOz.symm (H.extBut _ _ D.i1z.symm f));have r:e≠z:=λx=>by subst x;rw[n]at g;cases g;simp at j
  exact Z2 n (by simp) λF _ l=>P F e _ (λc o C X J Y x=>l.extBut _ _ C (k _ _ Y (d.extBut _ _ X (H.extBut _ _ J (h.extBut _ _ C x))))) ⟨O,l.extBut _ _ r g,j⟩
 ·have T:xs[k1]?=none:=by simp;omega
  refine Za (ro I (h1.at λo e=>h.extBut _ _ D.i1z e) (u.at λo e=>h.extBut _ _ D.l1.1 e) T λp e H M=>?_);obtain⟨O,g,j⟩:=M;have m:Mh p z TI TO .ellipsis:=H _ _ D.i1z.symm f;have r:e≠z:=λx=>by subst x;rw[m]at g;cases g;simp at j
  exact Z2 m (by simp) λq _ d=>P q e _ (λc o C _ J _ x=>d.extBut _ _ C (H _ _ J (h.extBut _ _ C x))) ⟨O,d.extBut _ _ r g,j⟩
theorem D0(D:dV z TI TO i1 i2 l1 l2)(v:A.handled=none){x y:JO}{Q:Ov->JN->Prop}
  (i:Mh s.heap z TI TO .none) (h:KY s.heap TI (.ref i1) (.ref i2)) (H:KY s.heap TO a b)
  (h1:a9 b1 s.heap i1 l1 k1) (r:a9 b2 s.heap i2 l2 k2) (d:bw b1 s.heap l1 xs) (e:bw b2 s.heap l2 ys) (B:xs[k1]?=some x) (C:ys[k2]?=some y)
  (u:∀h',Mh h' z TI TO (rawInt s.heap.objs.size)->KY h' TO x y->a9 b1 h' i1 l1 (k1+1)->a9 b2 h' i2 l2 (k2+1)->KY h' s.heap.objs.size x y->h'.objs.size=s.heap.objs.size+1->
   (∀c o,c≠z->c≠TO->c≠i1->c≠i2->s.heap.get? c=some o->h'.get? c=some o)->∀tk,Q (some (.ref s.heap.objs.size)) {s with heap:=h',toks:=tk}):
  wpAny (model prog w) A (pyNext (.ref z)) Q E s:=by
 have f:s.TypeIs (.ref z) _:=⟨_,i,rfl⟩
 exact Za (LX (ZV f Mr
  (ZQ Mr f F.entry_zip_next (rx D (show A.in1.handled=none from v) i h H h1 r d e B C λh' j k l m n p q tk=>Zd (u _ j k l m n p q _)) (F.args_zip_next_1 _))))
theorem D3(D:dV z TI TO i1 i2 l1 l2)(q:A.handled=none){Q:Ov->JN->Prop}
  (k:Mh s.heap z TI TO .none) (H:KY s.heap TI (.ref i1) (.ref i2)) (d:KY s.heap TO a b)
  (h1:a9 b1 s.heap i1 l1 k1) (l:a9 b2 s.heap i2 l2 k2) (f:bw b1 s.heap l1 xs) (g:bw b2 s.heap l2 ys) (h:xs[k1]?=none\/ys[k2]?=none)
  (m:∀h' tk,(∀c o,c≠z->c≠TO->c≠i1->c≠i2->s.heap.get? c=some o->h'.get? c=some o)->Q none {s with heap:=h',toks:=tk}):wpAny (model prog w) A (pyNext (.ref z)) Q E s:=by
 have i:s.TypeIs (.ref z) _:=⟨_,k,rfl⟩
 refine Za (LX (ZV i Mr
  (ZQ Mr i F.entry_zip_next (DZ D (show A.in1.handled=none from q) k H d h1 l f g h λh' e tk r p=>?_) (F.args_zip_next_1 _))))
 obtain⟨o,u,n⟩:=p;exact Za (Lj ⟨o,u,n⟩ N4 (Zd (m _ _ r)))
end
noncomputable def dw(b:Bool)(l:JP):Obj:={cls:=.type (match b with|true=>"list_iterator"|false=>"tuple_iterator"),data:=.fields #[.ref l,.int 0 0]}
noncomputable def xq(h:JU)(b:Bool)(l:JP):JU:=h.push (dw b l)
noncomputable def xt(h:JU)(b B:Bool)(l L:JP):JU:=(xq h b l).push (dw B L)
noncomputable def xu(h:JU)(b B:Bool)(l L:JP):JU:=(xt h b B l L).push {cls:=.type "tuple",data:=.seq #[.ref h.objs.size,.ref (xq h b l).objs.size]}
noncomputable def xv(h:JU)(b B:Bool)(l L:JP):JU:=(xu h b B l L).push {cls:=.type "tuple",data:=.seq #[.none,.none]}
noncomputable def po(h:JU)(b B:Bool)(l L:JP):JU:=(xv h b B l L).push {cls:=.type "zip",data:=.fields #[.none,.bool JL,.bool JL,.ref (xt h b B l L).objs.size,.ref (xu h b B l L).objs.size]}
theorem l7(c B:Bool)(l L:JP)(xs y:Av):
  Meets (KN.«zip.__new__» ⟨[.type "zip",.ref l,.ref L],[]⟩) (λ_ R s=>bw c s.heap l xs/\bw B s.heap L y/\R (.ok (.ret (.ref (xv s.heap c B l L).objs.size))) {s with heap:=po s.heap c B l L}):=
 .of_wp λp w A R s h=>by
  obtain⟨b,g,d,t,O⟩:=s;obtain⟨f,i,h⟩:=h;have k:=sub_zip;have H:bw B (xq b c l) L y:=i.at λo e=>Zb _ e;cases c with
  |true=>
   have a:Ni (Lk ⟨b,g,d,t,O⟩) l xs:=f;cases B with
   |true=>
    have H:Ni (Lk ⟨b.push {cls:=.type "list_iterator",data:=.fields #[.ref l,.int 0 0]},g,d,t,O⟩) L y:=H
    wp_walk using Ye a,Ye H
    exact⟨_,rfl,h⟩
   |false=>
    have H:M3 (Lk ⟨b.push {cls:=.type "list_iterator",data:=.fields #[.ref l,.int 0 0]},g,d,t,O⟩) L y:=H
    wp_walk using Ye a,Ya H
    exact⟨_,rfl,h⟩
  |false=>
   have a:M3 (Lk ⟨b,g,d,t,O⟩) l xs:=f;cases B with
   |true=>
    have H:Ni (Lk ⟨b.push {cls:=.type "tuple_iterator",data:=.fields #[.ref l,.int 0 0]},g,d,t,O⟩) L y:=H
    wp_walk using Ya a,Ye H
    exact⟨_,rfl,h⟩
   |false=>
    have H:M3 (Lk ⟨b.push {cls:=.type "tuple_iterator",data:=.fields #[.ref l,.int 0 0]},g,d,t,O⟩) L y:=H
    wp_walk using Ya a,Ya H
    exact⟨_,rfl,h⟩
theorem ry{b:Bool}{l:JP}(e:h.get? it=some (dw b l)):a9 b h it l 0:=by
 cases b with
 |true=>exact⟨_,e,rfl,rfl⟩
 |false=>exact⟨_,e,rfl,rfl⟩
theorem D4{l L:JP}{xs y:Av}(H:bw b1 s.heap l xs)(a:bw b2 s.heap L y)
  (h:∀h',Mh h' (s.heap.objs.size+4) (s.heap.objs.size+2) (s.heap.objs.size+3) .none->KY h' (s.heap.objs.size+2) (.ref s.heap.objs.size) (.ref (s.heap.objs.size+1))->
   KY h' (s.heap.objs.size+3) .none .none->a9 b1 h' s.heap.objs.size l 0->a9 b2 h' (s.heap.objs.size+1) L 0->h'.objs.size=s.heap.objs.size+5->
   (∀c o,s.heap.get? c=some o->h'.get? c=some o)->Q (.ref (s.heap.objs.size+4)) {s with heap:=h'}):
  wpAny (model prog w) A (call (.type "zip") [.ref l,.ref L]) Q E s:=by
 refine callType_new F.called_zip (by decide) (F.typeCall_zip_2 _ _) (F.newCall_zip_2 _ _) (λobj=>F.args_object_init_3 obj _ _) F.entry_zip_new (l7 b1 b2 l L xs y) ⟨H,a,?_⟩;have z:(xq s.heap b1 l).objs.size=s.heap.objs.size+1:=Ka ..;have Z:(xt s.heap b1 b2 l L).objs.size=s.heap.objs.size+2:=by unfold xt;rw[Ka,z]
 have b:(xu s.heap b1 b2 l L).objs.size=s.heap.objs.size+3:=by unfold xu;rw[Ka,Z]
 have d:(xv s.heap b1 b2 l L).objs.size=s.heap.objs.size+4:=by unfold xv;rw[Ka,b]
 have k:(po s.heap b1 b2 l L).objs.size=s.heap.objs.size+5:=by unfold po;rw[Ka,d]
 have g:(po s.heap b1 b2 l L).get? (xv s.heap b1 b2 l L).objs.size=some _:=Zh _ rfl;have f:(po s.heap b1 b2 l L).get? (xu s.heap b1 b2 l L).objs.size=some _:=Zb _ (Zh _ rfl);have e:(po s.heap b1 b2 l L).get? (xt s.heap b1 b2 l L).objs.size=some _:=Zb _ (Zb _ (Zh _ rfl));have G:(po s.heap b1 b2 l L).get? (xq s.heap b1 l).objs.size=some (dw b2 L):=Zb _ (Zb _ (Zb _ (Zh _ (by cases b2<;>rfl))));have j:(po s.heap b1 b2 l L).get? s.heap.objs.size=some (dw b1 l):=Zb _ (Zb _ (Zb _ (Zb _ (Zh _ (by cases b1<;>rfl)))));show _/\_;rw[Z,b,d]at g;rw[z,Z]at e;rw[b]at f;rw[z]at G;rw[d]
 exact⟨⟨_,g,rfl⟩,h _ g e f (ry j) (ry G) k λc o x=>
  Zb _ (Zb _ (Zb _ (Zb _ (Zb _ x))))⟩
def f6(b:Bool)(K:Fg)(H:Hp)(l:JP)(xs:List V):Prop:=match b with
 |true=>c9 K H l xs
 |false=>cB K H l xs
noncomputable def I9(K:Fg)(b B:Bool)(l L:JP):It:=
 ⟨λi H=>∃xs ys x y,f6 b K H l xs/\f6 B K H L ys/\xs[i]?=some x/\ys[i]?=some y,
  λi H v H'=>∃T x y,v=.ref T/\H T=none/\H'=a' H T (.tup [x,y])/\(∀xs,f6 b K H l xs->xs[i]?=some x)/\(∀ys,f6 B K H L ys->ys[i]?=some y),
  λi H=>∃xs ys,f6 b K H l xs/\f6 B K H L ys/\(xs.length<=i\/ys.length<=i)⟩
theorem fF{b:Bool}{l:JP}{xs:List V}(I:Inv X pq σ H s)(h:f6 b X.K H l xs):∃its,Vals xs its/\bw b s.heap l its.toArray:=by
 cases b with
 |true=>obtain⟨its,r,p,_⟩:=I.list h;exact⟨_,r,p.isList⟩
 |false=>obtain⟨its,r,p,_⟩:=I.tuple h;exact⟨_,r,p⟩
theorem rA{b:Bool}{l:JP}{xs y:List V}(I:Inv X pq σ H s)(h:f6 b X.K H l xs)(h':f6 b X.K H l y):xs=y:=by
 cases b with
 |true=>exact I.list_inj h h'
 |false=>exact I.tuple_inj h h'
theorem c5{b:Bool}{l c:JP}{xs:List V}(I:Inv X pq σ H s)(h:f6 b X.K H l xs)(d:dn X pq H c):l≠c:=by
 have k:∀{o:Obj},X.K.lookup l=some o->l≠c:=λ{o} e=>by
  have E:=I.mod.kin l o e;rintro rfl;rcases d.2.2.2.1 with z|z
  ·exact I.ok.noex l o E z
  ·exact absurd (ZB (Zj E) (ZD I.ok.bsz z)) (Z6 _)
 have a:∀{o:HO},H l=some o->l≠c:=λ{o} e=>by rintro rfl;rw[d.1]at e;cases e
 cases b with
 |true=>
  rcases h with(h| ⟨o,h⟩)| ⟨o,i,n,h,_⟩
  ·exact a h
  ·exact a h
  ·exact k h
 |false=>
  rcases h with(h| ⟨o,h⟩)| ⟨o,i,n,h,_⟩
  ·exact a h
  ·exact a h
  ·exact k h
theorem l8{t':Nat}(I:Inv X pq σ H s)(k:∀b o,b∉ch->s.heap.get? b=some o->h'.get? b=some o)(a:∀b∈ch,dn X pq H b):Inv X pq σ H {s with heap:=h',toks:=t'}:=by
 have N:∀b u,H b=some u->b∉ch:=λb u e z=>by rw[(a b z).1]at e;cases e
 refine I.step (λb f=>?_) (λb o _ _ h e _=>k b o h e) (λb o _ _ h e _=>⟨_,k b o h e⟩) (λ_ _ _ _ n=>n)
  (λb o h e=>⟨o,k b o h e⟩) (λ_ _ e=>e) (λ_ _ _ e=>e) (λb P e=>⟨#[],by simp_all⟩) (λm g=>?_) (λb u e=>?_) I.bare
 ·obtain⟨_,F,_,l,p,w⟩:=a b f;lia
 ·obtain⟨o,j,E,i,r⟩:=g;exact⟨o,_,_,k _ o (λz=>(a _ z).2.1 rfl) i,r⟩
 ·refine(I.hok b u e).stay (λc v h q=>k c v ?_ q) (λ_ q=>q) λ_ _ q=>q
  grind
def JE(b B:Bool)(z TI TO I c l L:JP)(i:Nat)(h:JU):Prop:=Mh h z TI TO .none/\KY h TI (.ref I) (.ref c)/\(∃a b,KY h TO a b)/\a9 b h I l i/\a9 B h c L i
theorem D5{es:Lx}{x1}{pos:Pos}(b b':Bool)(z TI TO i1 i2 l1 l2:JP)(n1:TI≠z)(n2:TO≠z)(n3:i1≠z)(n4:i2≠z)(n5:TI≠TO)(n6:TI≠i1)(n7:TI≠i2)(n8:TO≠i1)(n9:TO≠i2)(n10:i1≠i2):
  Turn P w K (.Tuple es x1 pos) (I9 K b b' l1 l2) [z,TI,TO,i1,i2] z (JE b b' z TI TO i1 i2 l1 l2) where
 mem:=by simp
 obj:=λi h ⟨hz,hTI,⟨a,c,hTO⟩,h1,h2⟩ d hd=>by
  simp only[Zk,ZH,or_false]at hd;rcases hd with rfl|rfl|rfl|rfl|rfl
  ·exact⟨_,hz,λv q=>by have q':Data.fields _=Data.cell v:=q;cases q'⟩
  ·exact⟨_,hTI,λv q=>by grind⟩
  ·exact⟨_,hTO,λv q=>by grind⟩
  ·exact h1.obj
  ·exact h2.obj
 keep:=λi h h' ⟨hz,hTI,⟨a,c,hTO⟩,h1,h2⟩ k=>⟨k z (by simp) _ hz,k TI (by simp) _ hTI,⟨a,c,k TO (by simp) _ hTO⟩,h1.at λo e=>k i1 (by simp) o e,h2.at λo e=>k i2 (by simp) o e⟩
 item:=by
  intro X hP hw hK hc i pq s σ H E I hf st hg;subst hP hw hK;obtain⟨hz,hTI,⟨a,c,hTO⟩,h1,h2⟩:=st;obtain⟨xs,ys,x,y,q1,q2,ex,ey⟩:=hg;obtain⟨us,r1,s1⟩:=fF I q1;obtain⟨ws,r2,s2⟩:=fF I q2;obtain⟨u,eu,ru⟩:=r1.get ex;obtain⟨v,ev,rv⟩:=r2.get ey
  have Dp:dV z TI TO i1 i2 l1 l2:=⟨n1,n2,n3,n4,n5,n6,n7,n8,n9,n10,⟨c5 I q1 (hf z (by simp)),c5 I q1 (hf TO (by simp)),c5 I q1 (hf i1 (by simp)),c5 I q1 (hf i2 (by simp))⟩,
   ⟨c5 I q2 (hf z (by simp)),c5 I q2 (hf TO (by simp)),c5 I q2 (hf i1 (by simp)),c5 I q2 (hf i2 (by simp))⟩⟩
  refine D0 Dp (I.ok.hd hc) hz hTI hTO h1 h2 s1 s2 (x:=u) (y:=v) (by simpa using eu) (by simpa using ev) λh' a1 a2 a3 a4 a5 a6 kk tk=>?_;refine⟨_,rfl,?_⟩;refine wpAny_letOwnedTupleGo_zip (s:={s with heap:=h',toks:=tk}) a1 λh2' b1 sb=>?_;have hTn:H s.heap.objs.size=none:=I.hok.fresh (Zl _)
  have kk2:∀c o,c∉[z,TI,TO,i1,i2]->s.heap.get? c=some o->h2'.get? c=some o:=λc o hc e=>by simp only[Zk,ZH,or_false,not_or]at hc;exact(sb.2 c hc.1).trans (kk c o hc.1 hc.2.2.1 hc.2.2.2.1 hc.2.2.2.2 e)
  have hTz:∀c∈[z,TI,TO,i1,i2],s.heap.objs.size≠c:=λc hc e=>by
   obtain⟨o,q,_⟩:∃o,s.heap.get? c=some o/\True:=by
    simp only[Zk,ZH,or_false]at hc;rcases hc with rfl|rfl|rfl|rfl|rfl
    ·exact⟨_,hz,trivial⟩
    ·exact⟨_,hTI,trivial⟩
    ·exact⟨_,hTO,trivial⟩
    ·exact⟨_,h1.obj.choose_spec.1,trivial⟩
    ·exact⟨_,h2.obj.choose_spec.1,trivial⟩
   exact absurd (Zj q) (by rw[e];exact Z6 _)
  have I2:Inv X pq σ (a' H s.heap.objs.size (.tup [x,y])) {s with heap:=h2',toks:=tk}:=by
   have Im:Inv X pq σ (a' H s.heap.objs.size (.tup [x,y])) {s with heap:=s.heap.push {cls:=.type "tuple",data:=.seq #[u,v]},toks:=s.toks}:=
    I.laid (λb o e=>Zb _ e) (Zl _) ⟨by show 2<=sizeLine;decide,[u,v],.cons ru (.cons rv .nil),⟨_,Zh _ rfl,rfl,_,rfl⟩,_,Zh _ rfl,rfl⟩
   refine l8 (s:={s with heap:=s.heap.push {cls:=.type "tuple",data:=.seq #[u,v]},toks:=s.toks}) Im (ch:=[z,TI,TO,i1,i2]) (λb o hb e=>?_) λb hb=>?_
   ·rcases Oa e with⟨rfl,rfl⟩|e'
    ·exact(sb.2 _ (hTz z (by simp))).trans a5
    ·exact kk2 b o hb e'
   ·obtain⟨f0,f1⟩:=hf b hb;exact⟨by rw[aW (λe=>hTz b hb e.symm)];exact f0,f1⟩
  refine⟨.ref s.heap.objs.size,a' H s.heap.objs.size (.tup [x,y]),I2,rfl,⟨s.heap.objs.size,x,y,rfl,hTn,rfl,λzs hq=>by rw[rA I hq q1];exact ex,λzs hq=>by rw[rA I hq q2];exact ey⟩,
   ⟨b1,(sb.2 TI n1).trans (kk TI _ n1 n5 n6 n7 hTI),⟨u,v,(sb.2 TO n2).trans a2⟩,a3.at λo e=>(sb.2 i1 n3).trans e,a4.at λo e=>(sb.2 i2 n4).trans e⟩,λc hc=>?_⟩
  rw[aW (λe=>hTz c hc e.symm)];exact(hf c hc).1
 done:=by
  intro X hP hw hK hc i pq s σ H E I hf st hg;subst hP hw hK;obtain⟨hz,hTI,⟨a,c,hTO⟩,h1,h2⟩:=st;obtain⟨xs,ys,q1,q2,en⟩:=hg;obtain⟨us,r1,s1⟩:=fF I q1;obtain⟨ws,r2,s2⟩:=fF I q2;have hl1:=r1.length;have hl2:=r2.length
  have Dp:dV z TI TO i1 i2 l1 l2:=⟨n1,n2,n3,n4,n5,n6,n7,n8,n9,n10,⟨c5 I q1 (hf z (by simp)),c5 I q1 (hf TO (by simp)),c5 I q1 (hf i1 (by simp)),c5 I q1 (hf i2 (by simp))⟩,
   ⟨c5 I q2 (hf z (by simp)),c5 I q2 (hf TO (by simp)),c5 I q2 (hf i1 (by simp)),c5 I q2 (hf i2 (by simp))⟩⟩
  refine D3 Dp (I.ok.hd hc) hz hTI hTO h1 h2 s1 s2 (en.elim (λen=>.inl (by simp;omega)) λen=>.inr (by simp;omega)) λh' tk kk=>?_;refine⟨rfl,l8 I (ch:=[z,TI,TO,i1,i2]) (λc o hc e=>?_) hf⟩;simp only[Zk,ZH,or_false,not_or]at hc;exact kk c o hc.1 hc.2.2.1 hc.2.2.2.1 hc.2.2.2.2 e
 self:=λ_ _ _ _ _ st h=>wpAny_pyIter_zip st.1 h
noncomputable def I_(it:JP):Obj:={cls:=.type "enumerate",data:=.fields #[.none,.bool JL,.ref it,rawInt 0,.none,.none]}
theorem D6(b:Bool)(l:JP)(vs:Av)(o:Obj):
  Meets (KN.«enumerate.__new__» ⟨[.type "enumerate",.ref l],[]⟩) (λ_ R s=>s.heap.get? l=some o/\bw b s.heap l vs/\R (.ok (.ret (.ref (s.heap.push (dw b l)).objs.size))) {s with heap:=(s.heap.push (dw b l)).push (I_ s.heap.objs.size)}):=
 .of_wp λp w A R s h=>by
  obtain⟨f,g,d,t,O⟩:=s;obtain⟨a,H,h⟩:=h;have q:=sub_enumerate;cases b with
  |true=>
   have H:Ni (Lk ⟨f,g,d,t,O⟩) l vs:=H
   wp_walk using Kg a
   refine wpAny_stack_any λS=>Zd ?_;split
   ·rename_i c _ _ _ _ _;cases(c==J3 "enumerate")<;>(wp_walk using Kg a,Ye H)<;>exact⟨_,rfl,h⟩
   ·wp_walk using Kg a,Ye H
    exact⟨_,rfl,h⟩
  |false=>
   have H:M3 (Lk ⟨f,g,d,t,O⟩) l vs:=H
   wp_walk using Kg a
   refine wpAny_stack_any λS=>Zd ?_;split
   ·rename_i c _ _ _ _ _;cases(c==J3 "enumerate")<;>(wp_walk using Kg a,Ya H)<;>exact⟨_,rfl,h⟩
   ·wp_walk using Kg a,Ya H
    exact⟨_,rfl,h⟩
theorem D7{b:Bool}{l:JP}{vs:Av}(H:bw b s.heap l vs)
  (h:∀h',MT h' (s.heap.objs.size+1) s.heap.objs.size 0 .none->a9 b h' s.heap.objs.size l 0->h'.objs.size=s.heap.objs.size+2->(∀b o,s.heap.get? b=some o->h'.get? b=some o)->Q (.ref (s.heap.objs.size+1)) {s with heap:=h'}):
  wpAny (model prog w) A (call (.type "enumerate") [.ref l]) Q E s:=by
 obtain⟨o,f⟩:∃o,s.heap.get? l=some o:=by
  cases b with
  |true=>obtain⟨o,e,_⟩:=H;simp_all
  |false=>obtain⟨o,e,_⟩:=H;simp_all
 refine callType_new F.called_enumerate (by lia) (F.typeCall_enumerate_1 _) (F.newCall_enumerate_1 _) (λobj=>F.args_object_init_2 _ _) F.entry_enumerate_new (D6 b l vs o) ⟨f,H,?_⟩;have d:(s.heap.push (dw b l)).objs.size=s.heap.objs.size+1:=Ka ..;rw[d]
 have a:=by have:=Zh (s.heap.push (dw b l)) (o:=I_ s.heap.objs.size) rfl;rw[d]at this;exact this
 exact⟨⟨_,a,rfl⟩,h _ a (ry (Zb _ (Zh _ rfl))) (by simp_all) λb o x=>Zb _ (Zb _ x)⟩
theorem rE{b:Bool}{t:JP}{i:Nat}{x:JO}(h:a9 b s.heap it t i)(c:bw b s.heap t items)(d:items[i]?=some x)
  (H:∀h',a9 b h' it t (i+1)->JT it s.heap h'->Q x {s with heap:=h'}):wpAny (model prog w) A (JW (.ref it)) Q E s:=by
 cases b with
 |true=>exact wpAny_nextOf_list_item h c d H
 |false=>exact xo h c d H
theorem l9{b:Bool}{e l:JP}{i:Nat}{vs:Av}{x old:JO}{Q:Vs}(P:MT s.heap e it i old)(R:a9 b s.heap it l i)(Z:bw b s.heap l vs)(hx:vs[i]?=some x)(H:e≠it)
  (Y:∀h',Oy h' e it ((i:Int)+1) x s.heap.objs.size->a9 b h' it l (i+1)->h'.get? s.heap.objs.size=some {cls:=.type "tuple",data:=.seq #[.int i s.toks,x]}->h'.objs.size=s.heap.objs.size+1->
   (∀b o,b≠e->b≠it->s.heap.get? b=some o->h'.get? b=some o)->Q (.ref s.heap.objs.size) {s with heap:=h',toks:=s.toks+1}):
  wpAny (model prog w) A (KN.«enumerate.__next__» ⟨[.ref e],[]⟩) (λfin s'=>∃v,fin=.done (.ret v)/\Q v s') E s:=by
 obtain⟨c,g,d,t,O⟩:=s;show wpAny _ _ (field (.ref e) 2>>=_) _ _ _;refine Za (ZY P rfl (x:=.ref it) rfl (Za (rE R Z hx λk W S=>?_)));replace S:JT it c k:=S;have y:MT k e it i old:=(S.2 e H).trans P;show wpAny _ _ (field (.ref e) 3>>=_) _ _ ⟨k,g,d,t,O⟩;refine Za (ZY y rfl (x:=rawInt i) rfl ?_);show wpAny _ _ (field (.ref e) 4>>=_) _ _ ⟨k,g,d,t,O⟩;refine Za (ZY y rfl (x:=.none) rfl ?_);show wpAny _ _ (mkInt i>>=_) _ _ ⟨k,g,d,t,O⟩;refine Za (wpAny_mkInt ?_);show wpAny _ _ (setField (.ref e) 3 (rawInt ((i:Int)+1))>>=_) _ _ ⟨k,g,d,t+1,O⟩;refine Za (Z2 y (by simp) λr z n=>?_);replace n:JT e k r:=n;replace z:MT r e it ((i:Int)+1) old:=z;show wpAny _ _ (setField (.ref e) 4 .none>>=_) _ _ ⟨r,g,d,t+1,O⟩;refine Za (Z2 z (by simp) λK B p=>?_);replace p:JT e r K:=p;replace B:MT K e it ((i:Int)+1) old:=B;show wpAny _ _ (newTuple [.int i t,x]>>=_) _ _ ⟨K,g,d,t+1,O⟩;refine Za (N3 ?_);have C:MT (K.push {cls:=.type "tuple",data:=.seq #[.int i t,x]}) e it ((i:Int)+1) old:=Zb _ B;generalize u:K.push {cls:=.type "tuple",data:=.seq #[.int i t,x]}=m at C;have a:K.objs.size=c.objs.size:=by rw[p.1,n.1,S.1]
 have t4:m.get? c.objs.size=some {cls:=.type "tuple",data:=.seq #[.int i t,x]}:=by rw[<-u,<-a];exact Zh _ rfl
 have z4:m.objs.size=c.objs.size+1:=by rw[<-u,Ka,a]
 have kp:∀b o,b≠e->b≠it->c.get? b=some o->m.get? b=some o:=λb o h j f=>by rw[<-u];exact Zb _ (p.extBut b o h (n.extBut b o h (S.extBut b o j f)))
 have i4:a9 b m it l (i+1):=by rw[<-u];exact W.at λo q=>Zb _ (p.extBut _ o (Ne.symm H) (n.extBut _ o (Ne.symm H) q))
 show wpAny _ _ (JV (.ref e)>>=_) _ _ ⟨m,g,d,t+1,O⟩;rw[a];clear u B p z n y S W a K r k;refine Za ?_;unfold JV;refine Za (ZY C rfl (x:=.none) rfl (Zd ?_));simp only[if_true];refine Za (K1 (Za (ZY C rfl (x:=old) rfl (Za (Z2 C (by simp) λD L G=>?_)))));replace G:JT e m D:=G;replace L:MT D e it ((i:Int)+1) x:=L;show wpAny _ _ (Kc (.ref e) (.ref c.objs.size)>>=_) _ _ ⟨D,g,d,t+1,O⟩;refine Za ?_;unfold Kc;refine Za (Z2 L (by simp) λT M I=>?_);replace I:JT e D T:=I;replace M:Oy T e it ((i:Int)+1) x c.objs.size:=M;refine Z2 M (by simp) λF N J=>?_;replace J:JT e T F:=J;replace N:Oy F e it ((i:Int)+1) x c.objs.size:=N;have U:∀b o,b≠e->m.get? b=some o->F.get? b=some o:=λb o f q=>J.extBut b o f (I.extBut b o f (G.extBut b o f q));exact Za (LB (Zd ⟨_,rfl,Y F N (i4.at λo q=>U _ o (Ne.symm H) q) (U _ _ (Kk (Zj P)) t4) (by rw[J.1,I.1,G.1,z4]) λb o h j f=>U b o h (kp b o h j f)⟩))
theorem D8{b:Bool}{e l:JP}{i:Nat}{vs:Av}{x old:JO}{Q:Ov->JN->Prop}(g:MT s.heap e it i old)(h:a9 b s.heap it l i)(n:bw b s.heap l vs)(p:vs[i]?=some x)(H:e≠it)
  (m:∀h',Oy h' e it ((i:Int)+1) x s.heap.objs.size->a9 b h' it l (i+1)->h'.get? s.heap.objs.size=some {cls:=.type "tuple",data:=.seq #[.int i s.toks,x]}->h'.objs.size=s.heap.objs.size+1->
   (∀b o,b≠e->b≠it->s.heap.get? b=some o->h'.get? b=some o)->Q (some (.ref s.heap.objs.size)) {s with heap:=h',toks:=s.toks+1}):wpAny (model prog w) A (pyNext (.ref e)) Q E s:=by
 have f:s.TypeIs (.ref e) _:=⟨_,g,rfl⟩
 exact Za (LX (ZV f LO (ZQ LO f Oi
   (l9 g h n p H λh' a b c d k=>Zd (m _ a b c d k)) (Ob _))))
theorem D_{b:Bool}{e l:JP}{i:Nat}{vs:Av}{old:JO}{Q:Ov->JN->Prop}(k:A.handled=none)(d:MT s.heap e it i old)(H:a9 b s.heap it l i)(m:bw b s.heap l vs)(p:vs[i]?=none)
  (g:∀h',Nh it s.heap h'->Q none {s with heap:=h'}):wpAny (model prog w) A (pyNext (.ref e)) Q E s:=by
 have c:s.TypeIs (.ref e) _:=⟨_,d,rfl⟩;refine Za (LX (ZV c LO (ZQ LO c Oi ?_ (Ob _))));show wpAny _ _ (field _ 2>>=_) _ _ _;refine Za (ZY d rfl rfl (Za (ro k H m p λh' y h a=>?_)));obtain⟨o,n,j⟩:=a;exact Za (Lj ⟨o,n,j⟩ N4 (Zd (g _ h)))
noncomputable def Ja(K:Fg)(b:Bool)(l:JP):It:=
 ⟨λi H=>∃xs x,f6 b K H l xs/\xs[i]?=some x,
  λi H v H'=>∃T x,v=.ref T/\H T=none/\H'=a' H T (.tup [.int (i:Nat),x])/\∀xs,f6 b K H l xs->xs[i]?=some x,
  λi H=>∃xs,f6 b K H l xs/\xs.length<=i⟩
theorem xw{es:Lx}{x1}{pos:Pos}(b:Bool)(e it l:JP)(hne:e≠it):
  Turn P w K (.Tuple es x1 pos) (Ja K b l) [e,it] e (λi h=>(∃old,MT h e it i old)/\a9 b h it l i) where
 mem:=by simp
 obj:=λi h ⟨⟨old,he⟩,hi⟩ d hd=>by
  simp only[Zk,ZH,or_false]at hd;rcases hd with rfl|rfl
  ·exact⟨_,he,λv q=>by grind⟩
  ·exact a9.obj hi
 keep:=λi h h' ⟨⟨old,he⟩,hi⟩ k=>⟨⟨old,k e (by simp) _ he⟩,hi.at λo q=>k it (by simp) o q⟩
 item:=by
  intro X hP hw hK hc i pq s σ H E I hf st hg;subst hP hw hK;obtain⟨⟨old,he⟩,hi⟩:=st;obtain⟨xs,x,q1,ex⟩:=hg;obtain⟨us,r1,s1⟩:=fF (b:=b) I q1;obtain⟨u,eu,ru⟩:=r1.get ex;refine D8 he hi s1 (x:=u) (by simpa using eu) hne λh' a1 a2 a3 a4 kk=>?_;refine⟨_,rfl,?_⟩;refine wpAny_letOwnedTupleGo_enum (s:={s with heap:=h',toks:=s.toks+1}) a1 λh2' b1 sb=>?_;have hTn:H s.heap.objs.size=none:=I.hok.fresh (Zl _)
  have kk2:∀c o,c∉[e,it]->s.heap.get? c=some o->h2'.get? c=some o:=λc o hc q=>by simp only[Zk,ZH,or_false,not_or]at hc;exact(sb.2 c hc.1).trans (kk c o hc.1 hc.2 q)
  have hTz:∀c∈[e,it],s.heap.objs.size≠c:=λc hc q=>by
   obtain⟨o,z⟩:∃o,s.heap.get? c=some o:=by
    simp only[Zk,ZH,or_false]at hc;rcases hc with rfl|rfl
    ·exact⟨_,he⟩
    ·obtain⟨o,z,_⟩:=a9.obj hi;exact⟨o,z⟩
   exact absurd (Zj z) (by grind)
  have hT2:h2'.get? s.heap.objs.size=some {cls:=.type "tuple",data:=.seq #[.int i s.toks,u]}:=(sb.2 _ (hTz e (by simp))).trans a3
  have I2:Inv X pq σ (a' H s.heap.objs.size (.tup [.int (i:Nat),x])) {s with heap:=h2',toks:=s.toks+1}:=by
   have Im:Inv X pq σ (a' H s.heap.objs.size (.tup [.int (i:Nat),x])) {s with heap:=s.heap.push {cls:=.type "tuple",data:=.seq #[.int i s.toks,u]},toks:=s.toks}:=
    I.laid (λb o q=>Zb _ q) (Zl _) ⟨by show 2<=sizeLine;decide,[.int i s.toks,u],.cons ⟨_,rfl⟩ (.cons ru .nil),⟨_,Zh _ rfl,rfl,_,rfl⟩,_,Zh _ rfl,rfl⟩
   refine l8 (s:={s with heap:=s.heap.push {cls:=.type "tuple",data:=.seq #[.int i s.toks,u]},toks:=s.toks}) Im (ch:=[e,it]) (λb o hb q=>?_) λb hb=>?_
   ·rcases Oa q with⟨rfl,rfl⟩|q'
    ·exact hT2
    ·exact kk2 b o hb q'
   ·obtain⟨f0,f1⟩:=hf b hb;exact⟨by rw[aW (λz=>hTz b hb z.symm)];exact f0,f1⟩
  refine⟨.ref s.heap.objs.size,a' H s.heap.objs.size (.tup [.int (i:Nat),x]),I2,rfl,⟨s.heap.objs.size,x,rfl,hTn,rfl,λzs hq=>by rw[rA (b:=b) I hq q1];exact ex⟩,
   ⟨⟨u,b1⟩,a2.at λo q=>(sb.2 it (Ne.symm hne)).trans q⟩,λc hc=>?_⟩
  rw[aW (λz=>hTz c hc z.symm)];exact(hf c hc).1
 done:=by intro X hP hw hK hc i pq s σ H E I hf st hg;subst hP hw hK;obtain⟨⟨old,he⟩,hi⟩:=st;obtain⟨xs,q1,en⟩:=hg;obtain⟨us,r1,s1⟩:=fF (b:=b) I q1;have hl1:=r1.length;refine D_ (I.ok.hd hc) he hi s1 (by grind) λh' kk=>?_;refine⟨rfl,l8 (t':=s.toks) I (ch:=[e,it]) (λc o hc q=>?_) hf⟩;simp only[Zk,ZH,or_false,not_or]at hc;exact kk c o hc.2 q
 self:=λ_ _ _ _ _ st h=>by obtain⟨⟨old,he⟩,_⟩:=st;exact Nt ⟨_,he,rfl⟩ Oz (ZQ Oz ⟨_,he,rfl⟩ F.entry_enumerate_iter (Zd ⟨_,rfl,"enumerate",_,⟨_,he,rfl⟩,F.slot_enumerate_next.lookup,h⟩) (F.args_enumerate_iter_1 _))
structure cK (K:Fg)(F:La)(μ:La)(H:Hp)(F':La)(μ':La)(H':Hp):Prop where
 tup:∀a vs,cB K H a vs->cB K H' a vs
 lst:∀a vs,H a=some (.lst vs)->a∉μ->a∉F->H' a=some (.lst vs)/\a∉μ'/\a∉F'
 frz:∀a vs,qL K H a vs->qL K H' a vs
 box:∀(n:Nat) a,μ[n]?=some a->μ'[n]?=some a
 dct:∀a,H a=some (.dK [])->H' a=some (.dK [])
 ext:∀a φ,H a=some (.ext φ)->a∉F->H' a=some (.ext φ)/\a∉F'
section
variable {F':La}
mutual
theorem Rep.chg(x:cK K F μ H F' μ' H'):∀(d:D) (v:V),Rep K ⟨mg,F⟩ μ H d v->Rep K ⟨mg,F'⟩ μ' H' d v
 | .non,_,h=>h
 | .bl _,_,h=>h
 | .int _,_,h=>h
 | .str _,_,h=>h
 | .tup _,v,h=>by obtain⟨a,vs,e,q,r⟩:=h;exact⟨a,_,e,x.tup a _ q,ag.chg x _ _ r⟩
 | .lst _,v,h=>by obtain⟨a,vs,e,q,n,r⟩:=h;obtain⟨b,f,g⟩:=x.lst a _ q n.1 n.2;exact⟨a,_,e,b,⟨f,g⟩,ag.chg x _ _ r⟩
 | .scr _,v,h=>by obtain⟨a,vs,e,q,r⟩:=h;exact⟨a,_,e,x.frz a _ q,ag.chg x _ _ r⟩
 | .ref n,v,h=>by obtain⟨a,e,q⟩:=h;exact⟨a,e,x.box n a q⟩
 | .fn y,v,h=>h
 | .ty y,v,h=>h
 | .dct,v,h=>by obtain⟨a,e,q⟩:=h;exact⟨a,e,x.dct a q⟩
 | .dks _,v,h=>by obtain⟨a,C,e,q,n,r,k⟩:=h;obtain⟨b,f⟩:=x.ext a _ q n;exact⟨a,_,e,b,f,r,λc i=>x.tup _ _ (k c i)⟩
theorem ag.chg(x:cK K F μ H F' μ' H'):∀(ds:List D) (vs:List V),ag K ⟨mg,F⟩ μ H ds vs->ag K ⟨mg,F'⟩ μ' H' ds vs
 | [],vs,h=>h
 |d::ds,vs,h=>by obtain⟨w,W,e,r,q⟩:=h;exact⟨w,_,e,Rep.chg x d w r,ag.chg x _ _ q⟩
end
theorem a8.chg(x:cK K F μ H F' μ' H')(h:a8 K ⟨mg,F⟩ μ H ρ σ):a8 K ⟨mg,F'⟩ μ' H' ρ σ:=
 ⟨h.1,λi d e=>let⟨v,a,b⟩:=h.2 i d e;⟨v,a,Rep.chg x _ _ b⟩⟩
theorem cK.start{o:HO}(h:H acc=none):cK K F μ H (acc::F) μ (a' H acc o):=by
 have x:Ext _ H μ (a' H _ o):=.laid h;refine⟨λa vs q=>x.sqT q,λa vs q b c=>⟨(x.lst q b).1,b,λz=>?_⟩,λa vs q=>x.frz q,λn a q=>q,λa q=>x.keep _ _ q (.inl λ_ z=>by lia),λa d q c=>⟨x.keep _ _ q (.inl λ_ z=>by lia),λz=>?_⟩⟩
 ·simp_all
 simp_all
noncomputable def g7:HO->Bool
 | .lst _=>JK
 | .ext _=>JK
 |_=>JL
theorem cK.more{u:HO}(d:acc∈F)(h:H acc=some u)(f:g7 u=JK):cK K F μ H F μ (a' H acc u'):=by
 have ne:∀{a:JP} {o:HO},H a=some o->g7 o=JL->a≠acc:=λe n z=>by lia
 refine⟨λa vs q=>?_,λa vs q c b=>⟨?_,c,b⟩,λa vs q=>?_,λn a q=>q,λa q=>?_,λa g q b=>⟨by rw[aW (show a≠acc from λz=>b (by lia))];exact q,b⟩⟩
 ·rcases q with(q| ⟨o,q⟩)|q
  ·exact .inl (.inl (by rw[aW (ne q rfl)];exact q))
  ·exact .inl (.inr ⟨o,by rw[aW (ne q rfl)];exact q⟩)
  ·exact .inr q
 ·have:a≠acc:=λz=>by lia
  rw[aW this];exact q
 ·rcases q with⟨o,q⟩|q
  ·exact .inl ⟨o,by rw[aW (ne q rfl)];exact q⟩
  ·exact .inr q
 ·rw[aW (ne q rfl)];exact q
theorem cK.out:cK K (acc::F) μ H F μ H:=
 ⟨λ_ _ q=>q,λa vs q b c=>⟨q,b,λz=>c (Zc _ z)⟩,λ_ _ q=>q,λ_ _ q=>q,λ_ q=>q,λ_ _ q h=>⟨q,λz=>h (Zc _ z)⟩⟩
theorem cK.outBox:cK K (acc::F) μ H F (μ++[acc]) H:=by
 refine⟨λ_ _ q=>q,λa vs q c b=>⟨q,λz=>?_,λz=>b (Zc _ z)⟩,λ_ _ q=>q,λn a q=>?_,λ_ q=>q,λ_ _ q h=>⟨q,λz=>h (Zc _ z)⟩⟩
 ·simp_all
 grind
theorem aK.start{o:HO}(s:aK K ⟨mg,F⟩ μ S H)(h:H acc=none):aK K ⟨mg,acc::F⟩ μ S (a' H acc o):=by
 have x:Ext μ H _ (a' H _ o):=.laid h;refine⟨λa b=>?_,s.len,s.nd,λn a D c d=>?_⟩
 ·rcases Zk.mp b with rfl|b
  ·exact⟨o,dd⟩
  ·obtain⟨O,q⟩:=s.live a b;exact x.there a _ q
 ·obtain⟨vs,q,r⟩:=s.at_ n a _ c d;exact⟨_,by rw[aW (dk q h)];exact q,ag.chg (.start h) _ _ r⟩
theorem aK.more{u:HO}(s:aK K ⟨mg,F⟩ μ S H)(d:acc∈F)(i:acc∉μ)(h:H acc=some u)(g:g7 u=JK):aK K ⟨mg,F⟩ μ S (a' H acc u'):=by
 refine⟨λa f=>?_,s.len,s.nd,λn a D b c=>?_⟩
 ·by_cases e:a=acc
  ·subst e;exact⟨_,dd⟩
  ·obtain⟨o,q⟩:=s.live a f;exact⟨_,by rw[aW e];exact q⟩
 ·obtain⟨vs,q,r⟩:=s.at_ n a _ b c;have:a≠acc:=λz=>by grind
  exact⟨_,by rw[aW this];exact q,ag.chg (.more d h g) _ _ r⟩
theorem aK.out(s:aK K ⟨mg,acc::F⟩ μ S H):aK K ⟨mg,F⟩ μ S H:=
 ⟨λa c=>s.live a (Zc _ c),s.len,s.nd,λn a d h b=>by obtain⟨vs,q,r⟩:=s.at_ n a _ h b;exact⟨_,q,ag.chg .out _ _ r⟩⟩
theorem aK.outBox{vs:List V}(s:aK K ⟨mg,acc::F⟩ μ S H)(k:acc∉μ)(h:H acc=some (.lst vs))(r:ag K ⟨mg,acc::F⟩ μ H ys vs):aK K ⟨mg,F⟩ (μ++[acc]) (S++[ys]) H:=by
 refine⟨λa e=>s.live a (Zc _ e),by simp[s.len],?_,λn a i c d=>?_⟩
 ·rw[ZT];exact⟨s.nd,by simp,λa e b j=>by grind⟩
 ·have f:=s.len;by_cases g:n<μ.length
  ·rw[ZL g]at c;rw[ZL (by omega)]at d;obtain⟨w,q,R⟩:=s.at_ n a _ c d;exact⟨_,q,ag.chg .outBox _ _ R⟩
  ·have E:n=μ.length:=by grind
   subst E;simp[f]at c d;subst c;subst d;exact⟨_,h,ag.chg .outBox _ _ r⟩
theorem Ext.more{o:HO}(x:Ext μ H μ1 H1)(h:H acc=none):Ext μ H μ1 (a' H1 acc o):=
 ⟨x.pre,λa u e c=>by rw[aW (dk e h)];exact x.keep a u e c,λa u e=>by rw[aW (dk e h)];exact x.there a u e,x.fresh⟩
theorem Ext.outBox(x:Ext μ H μ1 H1)(h:H acc=none):Ext μ H (μ1++[acc]) H1:=by
 obtain⟨r,e⟩:=x.pre;refine⟨⟨r++[acc],by simp_all⟩,x.keep,x.there,λa b=>?_⟩;rcases ZE.mp b with b|b
 ·exact x.fresh a b
 simp_all
end
noncomputable def aT:ia->aa->Nat->Option (Option D)
 | .items xs=>λ_ i=>some xs[i]?
 | .live _ get=>get
def e5(K:Fg)(m:GS)(J:It)(get:aa->Nat->Option (Option D))(μ:La)(H:Hp):Prop:=
 ∀(i:Nat) μ' S' H' F',cK K m.F μ H F' μ' H'->aK K ⟨m.mg,F'⟩ μ' S' H'->
  (∀x,get S' i=some (some x)->J.go i H'/\∀y H'',J.yld i H' y H''->Ext μ' H' μ' H''/\aK K ⟨m.mg,F'⟩ μ' S' H''/\Rep K ⟨m.mg,F'⟩ μ' H'' x y)/\(get S' i=some none->J.stop i H')
noncomputable def tI(K:Fg)(m:Mg)(E:XK)(Φ:FT)(Γ:Str->Option D)(c:CE):TI:=λσ H R=>∃F μ ρ S,aK K ⟨m,F⟩ μ S H/\a8 K ⟨m,F⟩ μ H ρ σ/\ai K ⟨m,F⟩ E (λμ' H' its J=>e5 K ⟨m,F⟩ J (aT its) μ' H') μ H R (aL Φ Γ c ρ S)
theorem cK.refl:cK K F μ H F μ H:=⟨λ_ _ q=>q,λ_ _ q a b=>⟨q,a,b⟩,λ_ _ q=>q,λ_ _ q=>q,λ_ q=>q,λ_ _ q h=>⟨q,h⟩⟩
theorem cK.trans{d e c:La}{f:Hp}(a:cK K F μ H d μ1 H1)(b:cK K d μ1 H1 e c f):cK K F μ H e c f:=
 ⟨λx vs q=>b.tup x _ (a.tup x _ q),λx vs q g i=>by obtain⟨p,P,j⟩:=a.lst x _ q g i;exact b.lst x _ p P j,λx vs q=>b.frz x _ (a.frz x _ q),λn x q=>b.box n x (a.box n x q),λx q=>b.dct x (a.dct x q),λx k q h=>by obtain⟨p,P⟩:=a.ext x _ q h;exact b.ext x _ p P⟩
theorem cK.of_ext{b:La}(x:Ext μ H μ' H')(d:∀a∈b,a∈F\/H a=none):cK K F μ H b μ' H':=by
 refine⟨λa vs q=>x.sqT q,λa vs q c h=>⟨(x.lst q c).1,(x.lst q c).2,λz=>?_⟩,λa vs q=>x.frz q,λn a q=>x.get q,λa q=>x.keep _ _ q (.inl λ_ z=>by lia),λa e q h=>⟨x.keep _ _ q (.inl λ_ z=>by lia),λz=>?_⟩⟩<;>rcases d a z with z|z
 ·exact h z
 ·simp_all
 ·exact h z
 simp_all
section
variable {E:XK}{l:Expr}{pos:Pos}{c:CE}
theorem rG{R:It->Hp->Prop}{xs:List V}(I:Inv X pq σ H s)(c:c9 X.K H a xs)(q:R (BK X.K a) H):wpAny (model X.prog X.w) X.A (pyIter (.ref a)) (BJ X pq σ tg R) E' s:=by
 obtain⟨i,r,p,d⟩:=I.list c;refine Ye p.isList ?_;refine⟨_,_,_,_,H,rfl,I.kept λb o e=>Zb _ e,Cu a _,⟨_,Zh _ rfl,rfl,rfl⟩,λb h=>?_,q⟩;have e:=by simpa using h
 subst e;exact I.fpOk (Zl _) (I.hok.fresh (Zl _))
theorem Ea{R:It->Hp->Prop}{xs:List V}(I:Inv X pq σ H s)(c:cB X.K H a xs)(q:R (Ct X.K a) H):wpAny (model X.prog X.w) X.A (pyIter (.ref a)) (BJ X pq σ tg R) E' s:=by
 obtain⟨i,r,p,d⟩:=I.tuple c;refine Ya (show s.heap.IsTuple a _ from p) ?_;refine⟨_,_,_,_,H,rfl,I.kept λb o e=>Zb _ e,Cv a _,⟨_,Zh _ rfl,rfl,rfl⟩,λb h=>?_,q⟩;have e:=by simpa using h
 subst e;exact I.fpOk (Zl _) (I.hok.fresh (Zl _))
theorem xx{m:GS}{vs:List V}{i:Nat}(r:ag K m μ H ds vs)(h:aT (.items ds) S i=some none):vs.length<=i:=by have a:=Ky.mp (by simpa[aT]using h);have b:=r.length;omega
theorem xy{m:GS}{vs:List V}(h:∀F' μ' H',cK K m.F μ H F' μ' H'->c9 K H' a vs)(r:ag K m μ H ds vs):e5 K m (BK K a) (aT (.items ds)) μ H:=by
 intro i μ' S H' F' c s;have l:=r.length;refine⟨λy b=>?_,λk=>⟨vs,h _ _ _ c,xx r k⟩⟩;have b:ds[i]?=some y:=by simpa[aT]using b
 obtain⟨v,f,j⟩:=r.get b;refine⟨⟨vs,v,h _ _ _ c,f⟩,λz g d=>?_⟩;obtain⟨rfl,d⟩:=d;have e:=d vs (h _ _ _ c);rw[f]at e;cases e;exact⟨.refl,s,Rep.chg c _ _ j⟩
theorem Eb{m:GS}{vs:List V}(h:cB K H a vs)(r:ag K m μ H ds vs):e5 K m (Ct K a) (aT (.items ds)) μ H:=by intro i l S n F c s;refine⟨λy k=>?_,λj=>⟨_,c.tup _ _ h,xx r j⟩⟩;obtain⟨v,d,g⟩:=r.get (by simpa[aT]using k);refine⟨⟨_,v,c.tup _ _ h,d⟩,λz f b=>?_⟩;obtain⟨rfl,b⟩:=b;have e:=b _ (c.tup _ _ h);rw[d]at e;cases e;exact⟨.refl,s,Rep.chg c _ _ g⟩
theorem Ec{M:GS}(g:μ[n]?=some a):e5 K M (BK K a) (b0 n) μ H:=by
 intro i o S p F C s;have f:n<S.length:=by rw[<-s.len];exact(Zp.mp (C.box _ _ g)).1
 have j:=Zm f;obtain⟨vs,b,r⟩:=s.at_ n a _ (C.box _ _ g) j;have f:=r.length;refine⟨λy h=>?_,λm=>⟨_,.of b,?_⟩⟩
 ·unfold b0 at h;rw[j]at h;simp at h;obtain⟨v,d,l⟩:=r.get h;refine⟨⟨_,v,.of b,d⟩,λz k c=>?_⟩;obtain⟨rfl,c⟩:=c;have e:=c _ (.of b);rw[d]at e;cases e;exact⟨.refl,s,l⟩
 ·unfold b0 at m;simp_all
theorem xz(x:PE X l (tE X.K X.mg E Φ Γ c)):PI X tg l (tI X.K X.mg E Φ Γ (.seq c)):=by
 intro P s J H R I h;obtain⟨F,B,G,S,z,q,w⟩:=h;refine aX (x _ s _ H _ I ⟨F,_,_,S,z,q,ai.bind w⟩) λu A ⟨v,_,g,j,_,p,d,_,b,i,W⟩=>?_;cases d with
 |tup D=>obtain⟨a,vs,rfl,e,r⟩:=cm i;cases j;exact Ea g e (W _ _ _ .refl b (Eb e r))
 |lst D=>obtain⟨a,vs,rfl,e,f,r⟩:=i;cases j;exact rG g (.of e) (W _ _ _ .refl b (xy (λm k o C=>.of (C.lst a _ e f.1 f.2).1) r))
 |scr D=>obtain⟨a,vs,rfl,e,r⟩:=i;cases j;exact rG g e.sq (W _ _ _ .refl b (xy (λm k o C=>(C.frz a _ e).sq) r))
 |ref n=>
  obtain⟨a,rfl,f⟩:=i;cases j;have y:n<p.length:=by rw[<-b.len];exact(Zp.mp f).1
  obtain⟨vs,t,r⟩:=b.at_ n a _ f (Zm y);exact rG g (.of t) (W _ _ _ .refl b (Ec f))
 |_=>exact W.elim
theorem xA(l:Int)(n:Nat):(ec l n).length=n:=by
 induction n generalizing l with
 |zero=>rfl
 |succ n i=>unfold ec;simp_all
theorem Ed(l:Int)(n i:Nat)(h:i<n):(ec l n)[i]?=some (.int (l+i)):=by
 induction n generalizing l i with
 |zero=>omega
 |succ n I=>
  unfold ec
  grind
theorem xB{m:GS}(l:Int)(n:Nat):e5 K m (vn l n) (aT (.items (ec l n))) μ H:=by
 intro i d S e F C s;refine⟨λy h=>?_,λa=>?_⟩
 ·have h:=by simpa[aT]using h
  have a:=by have:=(Zp.mp h).1;rwa [xA]at this
  rw[Ed _ n i a]at h;cases h;refine⟨a,λz b c=>?_⟩;obtain⟨rfl,rfl⟩:=c;exact⟨.refl,s,bN⟩
 ·have:(ec l n)[i]?=none:=by simpa[aT]using a
  have:=Ky.mp this;rw[xA]at this;exact this
variable {es:Lx}{cs:List CE}{a b:CE}{r:Expr}
theorem jo{m:GS}{Q:List V->Hp->Prop}(w:ai K m E (ag K m) μ H Q (ak Φ Γ cs ρ S)):ai K m E (ag K m) μ H (λvs H'=>vs.length=cs.length/\Q vs H') (ak Φ Γ cs ρ S):=by
 cases e:ak _ _ _ _ S with
 |ok d a=>rw[e]at w;intro b H' vs x s r;refine⟨?_,w _ _ _ x s r⟩;rw[<-r.length,rk e]
 |err y a=>rw[e]at w;exact w
 |fail=>rw[e]at w;exact w
theorem Ee(O:cD X cell N sc CX E Φ Γ k)(h:bH sc "range"=JK)(i:bP l=JK)(g:cs.length=1)(f:PA X [l] (tL X.K X.mg E Φ Γ cs)):PI X tg (.Call (.Name "range" p2) [l] [] pos) (tI X.K X.mg E Φ Γ (.range cs)):=by
 obtain⟨d,_,_⟩:=ee h;intro p s u H R I ⟨F,q,t,S,o,e,w⟩;refine Cy (O.gl d) (O.mod.bl _ (by decide+kernel)) f (by rw[c3 i];rfl) p s u H R I ⟨F,q,t,S,o,e,(jo (ai.bind w)).mono λvs H1 ⟨y,b,x,D,z,n,r,W⟩=>?_⟩;have a:=r.length;split at W
 ·rename_i j;split at W
  ·rename_i c;obtain⟨v,rfl,m⟩:=r.one;cases aG m;exact⟨j,rfl,c.1,c.2,W b H1 _ .refl n (xB 0 j.toNat)⟩
  ·exact W.elim
 ·simp only[Zn,Yb]at a;omega
 ·exact W.elim
theorem Ef(O:cD X cell N sc CX E Φ Γ k)(h:bH sc "range"=JK)(p:bP l=JK)(a:bP r=JK)(n:cs.length=2)(m:PA X [l,r] (tL X.K X.mg E Φ Γ cs)):PI X tg (.Call (.Name "range" p2) [l,r] [] pos) (tI X.K X.mg E Φ Γ (.range cs)):=by
 obtain⟨g,_,_⟩:=ee h;intro P s z H R I ⟨F,x,y,S,u,f,w⟩;refine Cz (O.gl g) (O.mod.bl _ (by decide+kernel)) m (by rw[c3 p,c3 a];rfl) (by rw[c3 a];rfl) P s z H R I ⟨F,x,y,S,u,f,(jo (ai.bind w)).mono λvs H1 ⟨B,d,A,D,C,t,e,W⟩=>?_⟩;have b:=e.length;split at W
 ·simp only[Zn,Yb]at b;omega
 ·rename_i i j;split at W
  ·rename_i o;obtain⟨v,V,rfl,q,c⟩:=e.two;cases aG q;cases aG c;exact⟨i,j,rfl,o,W d H1 _ .refl t (xB i (j-i).toNat)⟩
  ·exact W.elim
 ·exact W.elim
theorem rH{m:GS}(s:aK K m μ S H)(r:Rep K m μ H d v)(e:au S d=some xs):∃a,v=.ref a/\
  ∀μ' S' H' F',cK K m.F μ H F' μ' H'->aK K ⟨m.mg,F'⟩ μ' S' H'->∃ys vs,au S' d=some ys/\f6 (cQ d) K H' a vs/\ag K ⟨m.mg,F'⟩ μ' H' ys vs:=by
 cases d with
 |tup D=>obtain⟨a,vs,rfl,b,q⟩:=cm r;exact⟨a,rfl,λμ' S' H' F' c f=>⟨_,_,rfl,c.tup _ _ b,ag.chg c _ _ q⟩⟩
 |lst D=>obtain⟨a,vs,rfl,b,h,q⟩:=r;exact⟨a,rfl,λμ' S' H' F' c f=>⟨_,_,rfl,c9.of (c.lst a _ b h.1 h.2).1,ag.chg c _ _ q⟩⟩
 |scr D=>obtain⟨a,vs,rfl,b,q⟩:=r;exact⟨a,rfl,λμ' S' H' F' c f=>⟨_,_,rfl,(c.frz a _ b).sq,ag.chg c _ _ q⟩⟩
 |ref n=>
  obtain⟨a,rfl,h⟩:=r;refine⟨a,rfl,λμ' S' H' F' c f=>?_⟩;have i:n<S'.length:=by rw[<-f.len];exact(Zp.mp (c.box _ _ h)).1
  obtain⟨vs,g,q⟩:=f.at_ n a _ (c.box _ _ h) (Zm _);exact⟨_,_,Zm i,c9.of g,q⟩
 |_=>cases e
theorem ik(h:fX d=some xs)(S:aa):au S d=some xs:=by unfold fX at h;split at h<;>first|exact h|cases h
theorem Eg{e:D}{its:ia}(h:d6 S d e=some its):(∃xs ys,au S d=some xs/\au S e=some ys)/\∀S' i,(∃xs ys,au S' d=some xs/\au S' e=some ys)->aT its S' i=lN d e S' i:=by
 unfold d6 at h;split at h
 ·rename_i xs ys E a;cases h;refine⟨⟨_,_,ik E S,ik a S⟩,λS' i _=>?_⟩;show some _=_;unfold lN;rw[ik E _,ik a _]
  grind
 ·split at h
  ·rename_i xs ys E a;cases h;exact⟨⟨_,_,E,a⟩,λS' i _=>rfl⟩
  ·cases h
theorem Eh{m:GS}{e:D}{u:V}{its:ia}(j:aK K m μ S H)(rd:Rep K m μ H d v)(re:Rep K m μ H e u)(h:d6 S d e=some its):
  ∃a b,v=.ref a/\u=.ref b/\(∃vs,f6 (cQ d) K H a vs)/\(∃vs,f6 (cQ e) K H b vs)/\e5 K m (I9 K (cQ d) (cQ e) a b) (aT its) μ H:=by
 obtain⟨⟨xs,ys,O,P⟩,U⟩:=Eg h;obtain⟨a,rfl,G⟩:=rH j rd O;obtain⟨b,rfl,I⟩:=rH j re P;obtain⟨_,va,_,X,_⟩:=G μ S H m.F .refl j;obtain⟨_,vb,_,Z,_⟩:=I μ S H m.F .refl j;refine⟨a,b,rfl,rfl,⟨va,X⟩,⟨vb,Z⟩,λi f k n F C s=>?_⟩;obtain⟨x,vs,r,Q,R⟩:=G f k n F C s;obtain⟨Y,w,t,l,J⟩:=I f k n F C s;rw[U k i ⟨x,Y,r,t⟩];unfold lN;rw[r,t];have l1:=R.length;have l2:=J.length;refine⟨λy c=>?_,λc=>⟨vs,w,Q,l,?_⟩⟩
 ·have c:=K4 c;cases g1:x[i]? with
  |none=>rw[g1]at c;cases c
  |some p=>
   cases g2:Y[i]? with
   |none=>rw[g1,g2]at c;cases c
   |some q=>rw[g1,g2]at c;cases c;obtain⟨L,A,rp⟩:=R.get g1;obtain⟨M,B,rq⟩:=J.get g2;refine⟨⟨vs,w,L,M,Q,l,A,B⟩,λz N W=>?_⟩;obtain⟨T,x',y',rfl,g,rfl,z1,z2⟩:=W;have E:=z1 vs Q;rw[A]at E;cases E;have o:=z2 w l;rw[B]at o;cases o;refine⟨.laid g,s.laid g,?_⟩;unfold Rep;exact⟨T,[L,M],rfl,cB.of dd,.cons (Rep.mono (.laid g) _ _ rp) (.cons (Rep.mono (.laid g) _ _ rq) .nil)⟩
 grind
theorem uR{i j:Nat}(h:i≠j):n+i≠n+j:=λe=>h (OA e)
theorem rJ{j:Nat}(h:0≠j):n≠n+j:=λe=>h (OA (n:=n) (by lia))
theorem g8{j:Nat}(h:0≠j):n+j≠n:=λe=>rJ h e.symm
theorem Ei:bootBuiltins "zip"=some (.type "zip"):=by decide+kernel
theorem xC(O:cD X cell N sc CX E Φ Γ k)(h:bH sc "zip"=JK)(L:eG tg=JK)(K:bP l=JK)(n:bP r=JK)(J:PA X [l,r] (tL X.K X.mg E Φ Γ cs)):PI X tg (.Call (.Name "zip" p2) [l,r] [] pos) (tI X.K X.mg E Φ Γ (.zip cs)):=by
 obtain⟨G,_,_⟩:=ee h;intro P s y H R I ⟨F,μ,ρ,S,sk,C,w⟩;refine Call_ (ea I (O.gl G) (O.mod.bl _ (by decide+kernel)) Ei (Z1 (aX (J pos P s y H _ I ⟨F,μ,ρ,S,sk,C,ai.bind w⟩) λus f ⟨vs,H1,g,rv,o,B,ds,x1,j,Z,W⟩=>?_) (c3 K) (by rw[c3 n];rfl)));split at W
 ·rename_i d e;obtain⟨v,u,rfl,rd,re⟩:=Z.two;cases m:d6 B d e with
  |none=>rw[m]at W;exact W.elim
  |some M=>
   rw[m]at W;obtain⟨a,b,rfl,rfl,⟨va,V⟩,⟨vb,Y⟩,ok⟩:=Eh j rd re m;cases rv with
   |cons p q=>
    cases q with
    |cons T U=>
     cases U;cases p;cases T;obtain⟨as,ra,sa⟩:=fF g V;obtain⟨bs,rb,sb⟩:=fF g Y;refine D4 sa sb λD z z2 z3 z4 z5 z6 Q=>?_;refine wpAny_pyIter_zip z ?_;have A:Inv X P y H1 {f with heap:=D}:=g.kept (t':=f.toks) Q;cases tg with
     |Tuple ts x1 tp=>
      refine⟨f.heap.objs.size+4,[f.heap.objs.size+4,f.heap.objs.size+2,f.heap.objs.size+3,f.heap.objs.size,f.heap.objs.size+1],_,_,H1,rfl,A,
       D5 (cQ d) (cQ e) (f.heap.objs.size+4) (f.heap.objs.size+2) (f.heap.objs.size+3) f.heap.objs.size (f.heap.objs.size+1) a b (uR (by decide)) (uR (by decide)) (rJ (by decide)) (uR (by decide)) (uR (by decide)) (g8 (by decide)) (uR (by decide)) (g8 (by decide)) (uR (by decide)) (rJ (by decide)),⟨z,z2,⟨_,_,z3⟩,z4,z5⟩,λc t=>?_,W o H1 _ .refl j ok⟩
      have i:f.heap.objs.size<=c:=by
       simp only[Zk,ZH,or_false]at t;rcases t with rfl|rfl|rfl|rfl|rfl
       ·exact LJ _ _
       ·exact LJ _ _
       ·exact LJ _ _
       ·exact Zl _
       ·exact LJ _ _
      exact g.fpOk i (g.hok.fresh i)
     |_=>cases L
 ·exact W.elim
theorem l_:∀(xs:List D) (k i:Nat),(dv k xs)[i]?=(xs[i]?).map λx=>D.tup [.int ((k+i:Nat):Int),x]
 | [],k,i=>rfl
 |x::xs,k,0=>rfl
 |x::xs,k,i+1=>by
  have:=l_ xs (k+1) i;have e:(dv k (x::xs))[i+1]?=(dv _ _)[i]? :=rfl
  grind
theorem Ej{m:GS}(l:aK K m μ S H)(R:Rep K m μ H d v)(g:fX d=some xs):∃a,v=.ref a/\(∃vs,f6 (cQ d) K H a vs)/\e5 K m (Ja K (cQ d) a) (aT (.items (dv 0 xs))) μ H:=by
 obtain⟨a,rfl,j⟩:=rH l R (ik g S);obtain⟨_,w,_,Q,_⟩:=j μ S H m.F .refl l;refine⟨a,rfl,⟨w,Q⟩,λi c e n F C s=>?_⟩;obtain⟨x,vs,f,q,r⟩:=j c e n F C s;rw[ik g e]at f;cases f;have L:=r.length;refine⟨λy h=>?_,λh=>⟨vs,q,?_⟩⟩
 ·have h:(dv 0 xs)[i]?=some y:=by simpa[aT]using h
  rw[l_]at h;cases g1:xs[i]? with
  |none=>rw[g1]at h;cases h
  |some p=>rw[g1]at h;cases h;obtain⟨V,k,u⟩:=r.get g1;refine⟨⟨vs,V,q,k⟩,λz o t=>?_⟩;obtain⟨T,X,rfl,b,rfl,Z⟩:=t;have E:=Z vs q;rw[k]at E;cases E;refine⟨.laid b,s.laid b,?_⟩;unfold Rep;refine⟨T,[.int ((i:Nat):Int),V],rfl,cB.of dd,.cons ?_ (.cons (Rep.mono (.laid b) _ _ u) .nil)⟩;rw[LY];exact bN
 ·have h:(dv 0 xs)[i]?=none:=by simpa[aT]using h
  rw[l_,Option.map_eq_none_iff,Ky]at h;omega
theorem Ek:bootBuiltins "enumerate"=some (.type "enumerate"):=by decide+kernel
theorem rK(O:cD X cell N sc CX E Φ Γ k)(h:bH sc "enumerate"=JK)(B:eG tg=JK)(A:bP l=JK)(y:PA X [l] (tL X.K X.mg E Φ Γ cs)):PI X tg (.Call (.Name "enumerate" p2) [l] [] pos) (tI X.K X.mg E Φ Γ (.enum cs)):=by
 obtain⟨x,_,_⟩:=ee h;intro n s o H R I ⟨F,U,V,S,M,t,w⟩;refine Call_ (ea I (O.gl x) (O.mod.bl _ (by decide+kernel)) Ek (Z1 (aX (y pos n s o H _ I ⟨F,U,V,S,M,t,ai.bind w⟩) λus b ⟨vs,H1,g,J,i,Y,ds,T,f,D,W⟩=>?_) (c3 A) rfl));split at W
 ·rename_i d;cases hd:fX d with
  |none=>rw[hd]at W;exact W.elim
  |some xs=>
  rw[hd]at W;obtain⟨v,rfl,G⟩:=D.one;obtain⟨a,rfl,⟨va,Q⟩,ok⟩:=Ej f G hd;cases J with
  |cons p q=>
   cases q;cases p;obtain⟨as,ra,L⟩:=fF g Q;refine D7 L λu z Z z3 C=>?_;have r:Inv X n o H1 {b with heap:=u}:=g.kept (t':=b.toks) C;refine(xw (es:=[]) (x1:=0) (pos:=⟨0,0,0,0⟩) (P:=X.prog) (w:=X.w) (K:=X.K) (cQ d) (b.heap.objs.size+1) b.heap.objs.size a (g8 (by decide))).self _ _ _ _ _ ⟨⟨.none,z⟩,Z⟩ ?_;cases tg with
   |Tuple ts y1 tp=>
    refine⟨b.heap.objs.size+1,[b.heap.objs.size+1,b.heap.objs.size],_,_,H1,rfl,r,xw (cQ d) (b.heap.objs.size+1) b.heap.objs.size a (g8 (by decide)),⟨⟨.none,z⟩,Z⟩,λc j=>?_,W i H1 _ .refl f ok⟩
    have e:b.heap.objs.size<=c:=by
     simp only[Zk,ZH,or_false]at j;rcases j with rfl|rfl
     ·exact LJ _ _
     ·exact Zl _
    exact g.fpOk e (g.hok.fresh e)
   |_=>cases B
 ·exact W.elim
end
noncomputable def e6(i:Lx)(env:Env):Sem Bool:=forIn i JK (λc r=>if r=JK then do let ok <-isTrue c env (eval c env);pure (J_ ok)else pure (J_ r))
noncomputable def br(c:Expr)(e:Sem Unit)(g:List J6)(d:Nat)(a:JO)(env:Env):Sem Unit:=match g[d+1]? with
 |some g'=>do
   let x <-eval g'.iter env
   standAt g'.iter.pos
   let x <-if g'.is_async !=0 then foldedIterable g'.iter x else foldedSetIterable g'.iter env x
   let _ <-runOwn (.compStart c (d+1) (<-holding [x] (if g'.is_async !=0 then asyncIter x else pyIter x)) a env) env
 |none=>e
noncomputable def rL(e:Expr)(a:JO)(env:Env):Sem Unit:=do let _ <-call (.builtin "list.append") [a,<-eval e env]
theorem Em{C:Expr}{e:Sem Unit}{d:Nat}{it a:JO}{env:Env}{t i:Expr}{fs:Lx}(h:gens[d]?=some ⟨t,i,fs,0⟩):
  (do
    let some g:=gens[d]? |unsupported "internal:comprehension-depth"
    standAt (if g.is_async !=0 then C.pos else g.iter.pos)
    match <-if g.is_async !=0 then asyncNext it else pyNext it with
    |none=>pure (.done .next)
    |some v=>
     letOwnedTupleGo g.target it v
     assign g.target env v
     let mut ok:=JK
     for c in g.ifs do
      if ok then ok <-isTrue c env (eval c env)
     if ok then
      match gens[d+1]? with
      |some g'=>
       let x <-eval g'.iter env
       standAt g'.iter.pos
       let x <-if g'.is_async !=0 then foldedIterable g'.iter x else foldedSetIterable g'.iter env x
       let _ <-runOwn (.compStart C (d+1) (<-holding [x] (if g'.is_async !=0 then asyncIter x else pyIter x)) a env) env
      |none=>e
     again (.compLoop C d it a env):Sem Fin)=(standAt i.pos>>=λ_=>pyNext it>>=λr=>match r with
   |none=>pure (.done .next)
   |some v=>letOwnedTupleGo t it v>>=λ_=>assign t env v>>=λ_=>(e6 fs env>>=λok=>if ok=JK then br C e gens d a env else pure ())>>=λ_=>
    again (.compLoop C d it a env)):=by
 simp only[h];show(standAt i.pos>>=λ_=>pyNext it>>=_)=_;congr 1;funext _;congr 1;funext r;cases r with
 |none=>rfl
 |some v=>
  show(letOwnedTupleGo t it v>>=λ_=>assign t env v>>=λ_=>_>>=λok=>_)=_;congr 1;funext _;congr 1;funext _
  conv=>rhs;rw[bind_assoc]
  unfold e6;refine Z5 (λk=>_>>=k) (funext λok=>?_);cases ok with
  |true=>
   unfold br;cases gens[d+1]? with
   |none=>rfl
   |some g'=>
    by_cases H:(g'.is_async !=0)=JK
    ·simp_all
    simp_all
  |false=>simp_all
section
variable {em:Sem Unit}{d:Nat}
theorem l'{fs:Lx}{ts:List TT}{t:TU}(e:wH X fs ts)(c:PB X (br ce em gens d (.ref acc) X.env) t):
  PB X (e6 fs X.env>>=λok=>if ok=JK then br ce em gens d (.ref acc) X.env else pure ()) (wL ts t):=by
 intro p s f H Q I h;refine Za (aX (wJ _ _ e _ s _ H _ I h) λb S ⟨_,a,q⟩=>?_);cases b with
 |false=>exact Zd ⟨_,_,a,q⟩
 |true=>exact c _ _ _ _ Q a q
theorem ma(g:gens[d+1]?=none)(f:PE X elt te):PB X (br ce (rL elt (.ref acc) X.env) gens d (.ref acc) X.env) (wK acc te):=by intro p s l H Q I h;unfold br;rw[g];exact Za (aX (f _ s _ H _ I h) λu S ⟨v,_,b,r,_,e,i,q⟩=>Za (aX (v7 _ _ _ _ (.ref _) _ _ _ (λ_ a=>Q _ a) b rfl (.cons r .nil) ⟨_,_,v,rfl,rfl,e,i,q⟩) λ_ k ⟨_,_,c,_,j⟩=>Zd ⟨_,_,c,j⟩))
theorem Eo{t i:Expr}{fs:Lx}{tb:TU}(c:h9 ce=JK)(k:clausesOf ce=gens)(m:∀it:JP,compTurn ce (d+1) (.ref it) (.ref acc) X.env=(standAt i.pos>>=λ_=>pyNext (.ref it)>>=λr=>match r with
   |none=>pure (.done .next)
   |some v=>letOwnedTupleGo t (.ref it) v>>=λ_=>assign t X.env v>>=λ_=>(e6 fs X.env>>=λok=>if ok=JK then br ce em gens (d+1) (.ref acc) X.env else pure ())>>=λ_=>again (.compLoop ce (d+1) (.ref it) (.ref acc) X.env))) (E:X.xe=λ_ _=>False) (B:X.calm=JK) (o:gens[d+1]?=some ⟨t,i,fs,0⟩) (C:PI X t i wi) (D:∀x,foldedSetIterable i X.env x=pure x) (n:PG X t g)
  (A:PB X (e6 fs X.env>>=λok=>if ok=JK then br ce em gens (d+1) (.ref acc) X.env else pure ()) tb):PB X (br ce em gens d (.ref acc) X.env) (qY wi g tb):=by
 intro p s L H Q I h;unfold br;rw[o];show wpAny _ _ (eval i X.env>>=λx=>standAt i.pos>>=λ_=>foldedSetIterable i X.env x>>=λx=>holding [x] (pyIter x)>>=λit=>runOwn (.compStart ce (d+1) it (.ref acc) X.env) X.env>>=λ_=>pure ()) _ _ s;refine Za (aX (C p s L H _ I h) λv O y=>Za (Mi (Za ?_)));rw[D];refine Zd (Za (ZU (aX y λG K z=>Za ?_)));obtain⟨it,N,P,J,M,e,w,T,j,F,W⟩:=z;subst e
 have l:codeAny (model X.prog X.w) X.A (.compLoop ce (d+1) (.ref it) (.ref acc) X.env) (λr S=>match r with
   | .ok f=>∃a b,Inv X p a b S/\Q a b
   | .error e=>cameBackBy (model X.prog X.w) X.A X.env X.xe e S) K:=
  wF (Fin:=Q) c E B (m it) T n A w j F W λS a b u _ q=>⟨a,b,u,q⟩
 refine wpAny_runOwn (h:=none) ?_
 refine Lg (R:=λr S=>match r with
   | .ok f=>∃a b,Inv X p a b S/\Q a b
   | .error e=>cameBackBy (model X.prog X.w) X.A X.env X.xe e S) (wG c (by rw[k];exact o) l (T.self _ 0 _ _ _ j l)) λr S q=>?_
 cases r with
 |ok f=>exact Zd q
 |error e=>exact q
end
noncomputable def BS:List CT->o4
 | []=>vk
 |t::ts=>match t with
  | .var i=>o5 (eC i) (BS ts)
  | .tup _=>λ_ _ _ _=>False
noncomputable def pp(K:Fg):CT->TG
 | .var i=>eC i
 | .tup ts=>vm K ts.length (BS ts)
section
variable {E:XK}
theorem pr(O:cD X cell N sc CX E Φ Γ k){i:Nat}{p:Pos}(h:sdT cell N sc (.var i)=JK):PG X (.Name (N.getD i "") p) (eC i):=by
 have H:=(ab h).1;have a:=(ab h).2;generalize N.getD i _=x at H a;simp at H a
 have b:L2.Loc X.env.scope x:=by
  unfold L2.Loc;rw[O.sc]
  grind
 refine kS (by rw[O.n];exact O.nd) (by rw[O.n];exact H) b ?_;rcases a with z|z
 ·exact .inr (by rw[O.sc];exact z)
 ·exact .inl (O.fn x z.1)
theorem rN{env:Env}:∀{ts:List CT} {es:Lx},((assignEach (gF ts N es) env).length=ts.length/\(assignEach (gF ts N es) env).findIdx? (·.1)=none)
 | [],_=>⟨rfl,rfl⟩
 |t::ts,es=>by
  have i:=rN (env:=env) (ts:=ts) (es:=es.tail);have e:assignEach (gF (t::ts) N es) env=(JL,assign (ii t N (es.headD dE)) env)::assignEach (gF ts N es.tail) env:=by cases t<;>rfl
  rw[e];exact⟨by rw[Zn,i.1,Zn],by rw[List.findIdx?_cons,i.2];rfl⟩
theorem pu(O:cD X cell N sc CX E Φ Γ k):∀{ts:List CT} {es:Lx},q8 cell N sc ts=JK->vh X (gF ts N es) (BS ts)
 | [],es,h=>kT
 |t::ts,es,h=>by
  cases t with
  |tup _=>exact λ_ _ _ _ _ _ _ _ _ z=>z.elim
  |var i=>exact Cq (pr O (ab h).1) (pu O (ab h).2)
theorem jp(O:cD X cell N sc CX E Φ Γ k){t:CT}(h:sdT cell N sc t=JK):PG X (ii t N e) (pp X.K t):=by
 cases t with
 |var i=>exact pr O h
 |tup T=>exact p' O.calm (pu O h) rN.1 rN.2
theorem pv{F μ:La}{H:Hp}{K:Fg}{m:Mg}{ρ':bt}{Q:L2.St->Hp->Prop}:∀{ts:List CT} {ds:List D} {vs:List V} {ρ:bt} {σ:L2.St},cv ts ds ρ=some ρ'->ag K ⟨m,F⟩ μ H ds vs->a8 K ⟨m,F⟩ μ H ρ σ->(∀σ',a8 K ⟨m,F⟩ μ H ρ' σ'->Q σ' H)->BS ts vs σ H Q
 | [],ds,vs,ρ,σ,h,r,e,q=>by
  cases ds with
  |nil=>cases h;exact⟨r,q _ e⟩
  |cons _ _=>cases h
 |t::ts,ds,vs,ρ,σ,h,r,e,q=>by
  cases t with
  |tup _=>cases h
  |var i=>
   cases ds with
   |nil=>cases h
   |cons d ds=>obtain⟨v,w,rfl,R,a⟩:=r.uncons;exact⟨v,w,rfl,pv h a (e.set R) q⟩
theorem rO{ρ':bt}:∀{ts:List CT} {ds:List D} {ρ:bt},cv ts ds ρ=some ρ'->ts.length=ds.length/\ρ'.length=ρ.length
 | [],ds,ρ,h=>by
  cases ds with
  |nil=>cases h;exact⟨rfl,rfl⟩
  |cons _ _=>cases h
 |t::ts,ds,ρ,h=>by
  cases t with
  |tup _=>cases h
  |var i=>
   cases ds with
   |nil=>cases h
   |cons d ds=>have:=rO (ts:=ts) h;exact⟨Z5 Nat.succ this.1,by rw[this.2,Ll]⟩
theorem xD{ρ':bt}{j:Nat}:∀{ts:List CT} {ds:List D} {ρ:bt},cv ts ds ρ=some ρ'->(∀i∈eX ts,i≠j)->ρ'[j]?=ρ[j]?
 | [],ds,ρ,h,H=>by
  cases ds with
  |nil=>cases h;rfl
  |cons _ _=>cases h
 |t::ts,ds,ρ,h,H=>by
  cases t with
  |tup _=>cases h
  |var i=>
   cases ds with
   |nil=>cases h
   |cons d ds=>rw[xD (ts:=ts) h λk a=>H k (Zc _ a),KA (H i Ze)]
theorem rP{Q:L2.St->Hp->Prop}{t:CT}(h:aE t d ρ=some ρ')(r:Rep K ⟨mg,F⟩ μ H d v)(e:a8 K ⟨mg,F⟩ μ H ρ σ)
  (q:∀σ',a8 K ⟨mg,F⟩ μ H ρ' σ'->Q σ' H):pp K t v σ H Q:=by
 cases t with
 |var i=>cases h;exact q _ (e.set r)
 |tup T=>
  cases d with
  |tup D=>obtain⟨a,vs,rfl,b,R⟩:=cm r;exact⟨a,_,rfl,b,by rw[<-R.length];exact(rO h).1.symm,pv h R e q⟩
  |_=>cases h
end
theorem Ep{l:List Nat}{i:Nat}(h:cO ρ l=JK)(H:i∈l):ρ[i]?=some none:=by
 unfold cO at h
 grind
theorem me{t:CT}(h:aE t d ρ=some ρ'):ρ'.length=ρ.length/\∀j,(∀i∈slots t,i≠j)->ρ'[j]?=ρ[j]? :=by
 cases t with
 |var i=>cases h;exact⟨Ll,λj H=>KA (H i Ze)⟩
 |tup T=>
  cases d with
  |tup D=>exact⟨(rO h).2,λj H=>xD h H⟩
  |_=>cases h
theorem Er{m:GS}{t:CT}(h:bb t d ρ=some ρ')(E:a8 K m μ H ρ' σ):a8 K m μ H ρ σ:=by
 unfold bb at h;by_cases a:cO ρ (slots t)=JK
 ·rw[if_pos a]at h;have g:=me h;refine⟨by rw[<-E.1,g.1],λj D e=>E.2 j _ ?_⟩;rw[g.2 j λi b z=>by subst z;rw[Ep a b]at e;cases e];exact e
 simp_all
theorem Es{t:CT}(h:bb t d ρ=some ρ'):aE t d ρ=some ρ':=by unfold bb at h;simp_all
structure f7 (K:Fg)(mg:Mg)(F:La)(acc:JP)(O:List D->List V->HO->Prop)(B:La->Hp->Prop)(μ0:La)(H0:Hp)(μ:La)(S:aa)(H:Hp)(ρ:bt)(σ:L2.St)(ds:List D)(vs:List V):Prop where
 n0:H0 acc=none
 ext:Ext μ0 H0 μ H
 sok:aK K ⟨mg,acc::F⟩ μ S H
 nin:acc∉μ
 env:a8 K ⟨mg,acc::F⟩ μ H ρ σ
 at_:∃o,H acc=some o/\O ds vs o
 rep:ag K ⟨mg,acc::F⟩ μ H ds vs
 b:B μ H
def il(K:Fg)(F:La)(B:La->Hp->Prop):Prop:=∀μ H μ1 H1,B μ H->cK K F μ H F μ1 H1->B μ1 H1
noncomputable def dy(K:Fg)(m:Mg)(F:La)(a:JP)(O:List D->List V->HO->Prop)(B:La->Hp->Prop)(b:La)(H:Hp)(ρ:bt)(Q:L2.St->Hp->Prop):Res (List D)->Prop
 | .ok d S'=>∀μ' H' σ' v,f7 K m F a O B b H μ' S' H' ρ σ' d v->Q σ' H'
 |_=>False
noncomputable def tB(K:Fg)(m:Mg)(O:JP->List D->List V->HO->Prop)(Φ:FT)(Γ:Str->Option D)(c:CE)(a:JP):TU:=λσ H Q=>∃F B μ0 H0 μ ρ S ds vs,il K (a::F) B/\f7 K m F a (O a) B μ0 H0 μ S H ρ σ ds vs/\dy K m F a (O a) B μ0 H0 ρ Q (bn Φ Γ c ρ ds S)
noncomputable def fq(Φ:FT)(Γ:Str->Option D)(i:List CE)(body:CE)(ρ:bt)(ds:List D)(S:aa):Res (List D):=(aI Φ Γ i ρ S).bind λk S3=>if k=JK then bn Φ Γ body ρ ds S3 else .ok ds S3
noncomputable def tC(K:Fg)(m:Mg)(O:JP->List D->List V->HO->Prop)(Φ:FT)(Γ:Str->Option D)(i:List CE)(c:CE)(a:JP):TU:=λσ H Q=>∃F B μ0 H0 μ ρ S ds vs,il K (a::F) B/\f7 K m F a (O a) B μ0 H0 μ S H ρ σ ds vs/\dy K m F a (O a) B μ0 H0 ρ Q (fq Φ Γ i c ρ ds S)
section
variable {O:List D->List V->HO->Prop}{vs:List V}
theorem f7.next(hB:il K (acc::F) B)(c:f7 K mg F acc O B μ0 H0 μ S H ρ σ ds vs)(x:Ext μ H μ1 H1)(s:aK K ⟨mg,acc::F⟩ μ1 S1 H1):f7 K mg F acc O B μ0 H0 μ1 S1 H1 ρ σ ds vs where
 n0:=c.n0
 ext:=c.ext.trans x
 sok:=s
 nin:=λz=>by
  rcases x.fresh _ z with z|z
  ·exact c.nin z
  ·obtain⟨o,e,_⟩:=c.at_;simp_all
 env:=c.env.mono x
 at_:=let⟨o,e,h⟩:=c.at_;⟨o,x.keep _ _ e (.inr c.nin),h⟩
 rep:=ag.mono x _ _ c.rep
 b:=hB _ H _ _ c.b (.of_ext x λ_ z=>.inl z)
theorem f7.put{u:HO}(f:il K (acc::F) B)(c:f7 K mg F acc O B μ0 H0 μ S H ρ σ ds vs)(h:H acc=some u)(a:g7 u=JK)(r:Rep K ⟨mg,acc::F⟩ μ H d v)(g:O (ds++[d]) (vs++[v]) u'):f7 K mg F acc O B μ0 H0 μ S (a' H acc u') ρ σ (ds++[d]) (vs++[v]):=by
 have C:cK K _ _ H (acc::F) μ (a' H _ u'):=.more Ze h a
 exact{
  n0:=c.n0
  ext:=c.ext.more c.n0
  sok:=c.sok.more Ze c.nin h a
  nin:=c.nin
  env:=c.env.chg C
  at_:=⟨_,dd,g⟩
  rep:=ag.append (ag.chg C _ _ c.rep) (.cons (Rep.chg C _ _ r) .nil)
  b:=f _ _ _ _ c.b C}
theorem Et{E:XK}:∀{cs:List CE} {σ:L2.St} {Q:Bool->Hp->Prop},aK X.K ⟨X.mg,F⟩ μ S H->a8 X.K ⟨X.mg,F⟩ μ H ρ σ->ai X.K ⟨X.mg,F⟩ E (λ_ _ a b=>a=b) μ H Q (aI Φ Γ cs ρ S)->lG (cs.map (tT X.K X.mg E Φ Γ)) σ H Q:=by
 intro cs
 induction cs generalizing μ H S with
 |nil=>exact λs e w=>w _ H _ .refl s rfl
 |cons c cs i=>
  intro σ Q s e w;refine⟨F,_,_,S,s,e,(ai.bind w).mono λk H1 z=>aD z λg h K x d f W=>?_⟩;subst f;cases K with
  |true=>exact i d (e.mono x) W
  |false=>exact W _ _ _ .refl d rfl
end
section
variable {E:XK}
theorem PB.weak{body:Sem Unit}{t t':TU}(h:PB X body t)(w:∀σ H Q,t' σ H Q->t σ H Q):PB X body t':=λp s σ H Q I q=>h _ s _ H Q I (w _ H Q q)
theorem Eu{vs:List V}{i:List CE}{c:CE}{Q:L2.St->Hp->Prop}
  (h:il K (acc::F) B) (st:f7 K mg F acc (O acc) B μ0 H0 μ S H ρ σ ds vs) (w:dy K mg F acc (O acc) B μ0 H0 ρ Q (fq Φ Γ i c ρ ds S)):
  ai K ⟨mg,acc::F⟩ E (λ_ _ a b=>a=b) μ H (λb H1=>if b=JK then tB K mg O Φ Γ c acc σ H1 Q else Q σ H1) (aI Φ Γ i ρ S):=by
 unfold fq at w;cases e:aI _ _ _ _ S with
 |ok k f=>
  rw[e]at w;intro j H1 b x s g;subst g;have d:=st.next h x s;cases k with
  |true=>exact⟨F,B,_,_,_,_,_,_,_,h,d,w⟩
  |false=>exact w _ _ _ _ d
 |err y f=>rw[e]at w;exact w.elim
 |fail=>rw[e]at w;exact w.elim
theorem rQ{e:Sem Unit}{d:Nat}{fs:Lx}{i:List CE}{c:CE}(b:wH X fs (i.map (tT X.K X.mg E Φ Γ)))(a:PB X (br ce e gens d (.ref acc) X.env) (tB X.K X.mg O Φ Γ c acc)):
  PB X (e6 fs X.env>>=λok=>if ok=JK then br ce e gens d (.ref acc) X.env else pure ()) (tC X.K X.mg O Φ Γ i c acc):=
 PB.weak (l' b a) λl H Q z=>qK z λF B f g j k S D vs h s w=>Et s.sok s.env (Eu h s w)
def oL(_:JP)(_:List D)(vs:List V)(o:HO):Prop:=o=.lst vs
theorem rR{d:Nat}{c:CE}(k:gens[d+1]?=none)(j:PE X elt (tE X.K X.mg E Φ Γ c)):PB X (br ce (rL elt (.ref acc) X.env) gens d (.ref acc) X.env) (tB X.K X.mg oL Φ Γ (.emit c) acc):=
 PB.weak (ma k j) λq H Q z=>qK z λF B l n o p S D vs g b w=>by
  refine⟨_,_,_,S,b.sok,b.env,?_⟩;simp[bn]at w;cases e:aj _ _ c _ S with
  |ok y i=>
   rw[e]at w;intro m H1 v x s r;have a:=b.next g x s;have W:dy _ _ F _ _ B _ _ _ Q (if D.length<bB then .ok _ _ else .fail):=w;by_cases h:D.length<bB
   ·rw[if_pos h]at W;obtain⟨_,f,rfl⟩:=a.at_;exact⟨_,f,by rw[<-a.rep.length];exact h,W _ _ _ _ (a.put g f rfl r rfl)⟩
   ·rw[if_neg h]at W;exact W.elim
  |err y i=>rw[e]at w;exact w.elim
  |fail=>rw[e]at w;exact w.elim
end
noncomputable def jq:ia->Nat
 | .items xs=>xs.length+1
 | .live f _=>f
theorem xE(step:D->List D->aa->Res (List D))(xs:List D):∀(n i:Nat) (acc:List D) (S:aa),i+n=xs.length->bh step (λ_ i=>some xs[i]?) (n+1) i acc S=bK step (xs.drop i) acc S
 |0,i,acc,S,h=>by rw[KU (by omega)];unfold bh;have:xs[i]?=none:=Ky.mpr (by omega);rw[this];rfl
 |n+1,i,acc,S,h=>by
  have H:i<xs.length:=by omega
  rw[J2 H];unfold bh;rw[Zm H];show(step _ _ S).bind _=(step _ _ S).bind _;congr 1;funext a b;exact xE _ _ n _ _ _ (by omega)
theorem xF(step:D->List D->aa->Res (List D))(its:ia)(a:List D)(S:aa):cP step its a S=bh step (aT its) (jq its) 0 a S:=by
 cases its with
 |items x=>exact(xE _ _ _ 0 _ S (by omega)).symm
 |live f get=>rfl
noncomputable def cV(Φ:FT)(Γ:Str->Option D)(tg:CT)(i:List CE)(body:CE)(ρ:bt):D->List D->aa->Res (List D):=λx acc S2=>match bb tg x ρ with
 |some ρ'=>fq Φ Γ i body ρ' acc S2
 |none=>.fail
theorem f7.back{B':La->Hp->Prop}{vs:List V}(c:f7 K mg F acc (O acc) B μ0 H0 μ S H ρ σ ds vs)(b:B' μ H)(e:a8 K ⟨mg,acc::F⟩ μ H ρ' σ'):f7 K mg F acc (O acc) B' μ0 H0 μ S H ρ' σ' ds vs:=
 ⟨c.n0,c.ext,c.sok,c.nin,e,c.at_,c.rep,b⟩
theorem Ew{tg:CT}{i:List CE}{body:CE}{x:D}(h:bb tg x ρ=some ρ'):cV Φ Γ tg i body ρ x ds S=fq Φ Γ i body ρ' ds S:=by unfold cV;rw[h]
theorem Ex{tg:CT}{i:List CE}{body:CE}{x:D}(h:bb tg x ρ=none):cV Φ Γ tg i body ρ x ds S=.fail:=by unfold cV;rw[h]
theorem xG{d:La}{a:La}{f:Hp}{get:aa->Nat->Option (Option D)}{tg:CT}{I:List CE}{body:CE}{Q:L2.St->Hp->Prop}(u:il K (acc::F) B)(ok:e5 K ⟨mg,d⟩ J get a f)
        {vs:List V} (ch:cK K d a f (acc::F) μ H) (st:f7 K mg F acc (O acc) B μ0 H0 μ S H ρ σ ds vs) (w:dy K mg F acc (O acc) B μ0 H0 ρ Q (bh (cV Φ Γ tg I body ρ) get n 0 ds S)):
  ∃W:Nat->Nat->L2.St->Hp->Prop,(∃m,W 0 m σ H)/\∀i m σ H,W i m σ H->
   (J.stop i H/\Q σ H)\/(J.go i H/\∃Nx:L2.St->Hp->Prop,(∀σ' H',Nx σ' H'->∃M,M<m/\W (i+1) M σ' H')/\∀x H',J.yld i H x H'->pp K tg x σ H' λj H2=>tC K mg O Φ Γ I body acc j H2 Nx):=by
 refine⟨λi m σ H=>∃μ S ds vs,cK K d a f (acc::F) μ H/\f7 K mg F acc (O acc) B μ0 H0 μ S H ρ σ ds vs/\dy K mg F acc (O acc) B μ0 H0 ρ Q (bh (cV Φ Γ tg I body ρ) get m i ds S),⟨n,μ,S,ds,vs,ch,st,w⟩,?_⟩;rintro i m σ H ⟨μ,S,ds,vs,ch,st,w⟩;cases m with
 |zero=>exact w.elim
 |succ m=>
  unfold bh at w;obtain⟨N,P⟩:=ok i μ S H (acc::F) ch st.sok;cases e:get S i with
  |none=>rw[e]at w;exact w.elim
  |some o=>
   cases o with
   |none=>rw[e]at w;exact .inl ⟨P e,w μ H σ vs st⟩
   |some x=>
    rw[e]at w;obtain⟨G,Y⟩:=N x e;refine .inr ⟨G,λσ' H'=>∃μ S ds vs,cK K d a f (acc::F) μ H'/\f7 K mg F acc (O acc) B μ0 H0 μ S H' ρ σ' ds vs/\dy K mg F acc (O acc) B μ0 H0 ρ Q (bh (cV Φ Γ tg I body ρ) get m (i+1) ds S),λσ' H' q=>⟨m,KP m,q⟩,λy H' L=>?_⟩;obtain⟨X,T,R⟩:=Y y H' L;have g:=st.next u X T;have C:cK K d a f (acc::F) μ H':=ch.trans (.of_ext X λ_ z=>.inl z);have b:dy K mg F acc (O acc) B μ0 H0 ρ Q ((cV Φ Γ tg I body ρ x ds S).bind λA k=>bh (cV Φ Γ tg I body ρ) get m (i+1) A k):=w;cases E:bb tg x ρ with
    |none=>rw[Ex E]at b;exact b.elim
    |some h=>
     rw[Ew E]at b;refine rP (Es E) R g.env λj p=>?_;refine⟨F,λμ H=>B μ H/\cK K d a f (acc::F) μ H,μ0,H0,μ,h,S,ds,vs,λU Ha Z Hb q c=>⟨u _ _ _ _ q.1 c,q.2.trans c⟩,g.back (B':=λμ H=>B μ H/\cK K d a f (acc::F) μ H) ⟨g.b,C⟩ p,?_⟩;cases r:fq Φ Γ I body h ds S with
     |ok l k=>rw[r]at b;intro t H2 σ' v s;exact⟨t,k,l,v,s.b.2,s.back s.b.1 (Er E s.env),b⟩
     |err z k=>rw[r]at b;exact b.elim
     |fail=>rw[r]at b;exact b.elim
section
variable {E:XK}
theorem mf{a:Sem Unit}{d:Nat}{t i:Expr}{fs:Lx}{tg:CT}{it:CE}{I:List CE}{body:CE}(f:h9 ce=JK)(h:clausesOf ce=gens)(b:∀it:JP,compTurn ce (d+1) (.ref it) (.ref acc) X.env=(standAt i.pos>>=λ_=>pyNext (.ref it)>>=λr=>match r with
   |none=>pure (.done .next)
   |some v=>letOwnedTupleGo t (.ref it) v>>=λ_=>assign t X.env v>>=λ_=>(e6 fs X.env>>=λok=>if ok=JK then br ce a gens (d+1) (.ref acc) X.env else pure ())>>=λ_=>again (.compLoop ce (d+1) (.ref it) (.ref acc) X.env))) (q:X.xe=λ_ _=>False) (m:X.calm=JK) (n:gens[d+1]?=some ⟨t,i,fs,0⟩)
  (o:PI X t i (tI X.K X.mg E Φ Γ it)) (p:∀x,foldedSetIterable i X.env x=pure x) (c:PG X t (pp X.K tg))
  (l:PB X (e6 fs X.env>>=λok=>if ok=JK then br ce a gens (d+1) (.ref acc) X.env else pure ()) (tC X.K X.mg O Φ Γ I body acc)):PB X (br ce a gens d (.ref acc) X.env) (tB X.K X.mg O Φ Γ (.inner tg it I body) acc):=
 PB.weak (Eo f h b q m n o p c l) λM H Q z=>qK z λF B A D K L S G vs j g w=>by
  refine⟨_,_,_,S,g.sok,g.env,?_⟩;simp[bn]at w;cases e:aL _ _ _ _ S with
  |ok u k=>rw[e]at w;intro C H1 J x s ok;have W:dy _ _ F _ _ B _ _ _ Q (cP _ _ _ _):=w;rw[xF]at W;exact xG j ok .refl (g.next j x s) W
  |err y k=>rw[e]at w;exact w.elim
  |fail=>rw[e]at w;exact w.elim
noncomputable def f8(fr:List (Option Nat)):L2.St->L2.St:=λσ=>fr.map λj=>j.bind λj=>(σ[j]?).join
theorem rT{m:GS}{fr:List (Option Nat)}(c:a8 K m μ H ρ σ):a8 K m μ H (fr.map λj=>j.bind λj=>(ρ[j]?).join) (f8 fr σ):=by
 refine⟨by simp[f8],λi d e=>?_⟩;rw[Km]at e;cases b:fr[i]? with
 |none=>simp_all
 |some o=>
  rw[b]at e;have e:=K4 e;cases o with
  |none=>cases e
  |some j=>
   have E:ρ[j]?.join=some d:=e;cases a:ρ[j]? with
   |none=>simp_all
   |some o=>rw[a]at E;subst(E);obtain⟨v,f,k⟩:=c.2 j d a;exact⟨v,by unfold f8;simp_all,k⟩
theorem jr{tg0:Expr}{box:Bool}{fr:List (Option Nat)}{tg:CT}{it:CE}{I:List CE}{body:CE}{Q:VK}(h:tE X.K X.mg E Φ Γ (.comp box N' fr tg it I body) σ H Q):
  ja (λ_=>.lst []) (f8 fr) (tI X.K X.mg E Φ Γ it) (pp X.K tg) (tC X.K X.mg oL Φ Γ I body) σ H Q:=by
 obtain⟨F,k,m,S,D,t,w⟩:=h;refine⟨F,k,m,S,D,t,?_⟩;simp only[aj]at w;refine ai.mono (Rel:=λf l i J=>e5 X.K ⟨X.mg,F⟩ J (aT i) f l) (ai.bind w) λJ H1 h A a=>?_;obtain⟨d,o,i,M,p,ok,L⟩:=h
 have K:f7 X.K X.mg F A (oL A) (λk H=>cK X.K F d H1 (A::F) k H) d H1 d o (a' H1 A (.lst [])) (fr.map λj=>j.bind λj=>(m[j]?).join) (f8 fr σ) [] []:={
  n0:=a
  ext:=.laid a
  sok:=p.start a
  nin:=p.notin a
  env:=(rT (t.mono M)).chg (.start a)
  at_:=⟨_,dd,rfl⟩
  rep:=.nil
  b:=.start a}
 refine xG (Q:=λ_ H=>Q (.ref A) H) (B:=λk H=>cK X.K F d H1 (A::F) k H) (n:=jq i) (λO T P U q c=>q.trans c) ok (.start a) K ?_;have W:ai X.K ⟨X.mg,F⟩ E (Rep X.K ⟨X.mg,F⟩) d H1 Q ((cP (cV Φ Γ tg I body (fr.map λj=>j.bind λj=>(m[j]?).join)) i [] o).noErr.bind λY g=>if box=JK then .ok (.ref g.length) (g++[Y])else .ok (.lst Y) g):=L;rw[xF]at W;cases e:bh (cV Φ Γ tg I body (fr.map λj=>j.bind λj=>(m[j]?).join)) (aT i) (jq i) 0 [] o with
 |ok Y g=>
  rw[e]at W;intro f l R v s;have z:A∉F:=p.notF a;obtain⟨_,r,rfl⟩:=s.at_;cases box with
  |false=>refine W f l (.ref A) s.ext s.sok.out ?_;unfold Rep;exact⟨A,v,rfl,r,⟨s.nin,z⟩,ag.chg .out _ _ s.rep⟩
  |true=>refine W (f++[A]) l (.ref A) (s.ext.outBox a) (s.sok.outBox s.nin r s.rep) ?_;unfold Rep;refine⟨A,rfl,?_⟩;have C:=s.sok.len;rw[Kw (by omega)];simp[C]
 |err y g=>rw[e]at W;exact W.elim
 |fail=>rw[e]at W;exact W.elim
end
noncomputable def bu(l:Bool):Obj:={cls:=.type "set",dict:=none,data:=.set #[] 0 (.fresh 0 0 l)}
theorem Ey{t:JP}{vs:Av}(hh:A.handled=none)(ht:s.heap.IsTuple t vs)(hi:M0 vs.toList ns)(z:vs.size+1<scanBound)
  (h:∀(h':JU) (tk:Nat),h'.SetOf (intKind prog w) s.heap.objs.size (λM=>(firstMet (λi=>ns.getD i 0) vs.size).any (· ==M)) (firstMet (λi=>ns.getD i 0) vs.size).length->
   (∀b o,b<s.heap.objs.size->s.heap.get? b=some o->h'.get? b=some o)->Q (.ref s.heap.objs.size) {s with heap:=h',toks:=tk}):wpAny (model prog w) A (call (.type "set") [.ref t]) Q E s:=by
 obtain⟨c,tl,X⟩:=F.called_set.mro;have J:=F.called_set.made;have Y:=F.called_set.sub;refine NZ (MA ?_);show wpAny _ _ (callAny (.type "set") _) _ _ _;refine Zd ⟨OB _ (by decide+kernel),Ki F.entry_type_call ?_⟩;rw[Oc (OV "set" [.ref t] []) rfl];have g1:=F.called_set.notType;have g2:=F.called_set.canCreate;have g3:=F.typeCall_set_1 (.ref t)
 repeat(any_goals (first|assumption|wp_step))
 refine Lg (code_set_new_1 (.ref t) (E:=E) (Q₁:=λobj S=>∃l:Bool,obj=.ref s.heap.objs.size/\S={s with heap:=s.heap.push (bu l)}) λl=>⟨l,rfl,rfl⟩) λr S K=>?_;cases r with
 |error e=>exact K
 |ok fl=>
  cases fl with
  |ret obj=>
   obtain⟨l,rfl,rfl⟩:=K;have W:(s.heap.push (bu l)).get? s.heap.objs.size=some (bu l):=Zh _ rfl;have hT:Mv {s with heap:=s.heap.push (bu l)} (.ref s.heap.objs.size) "set":=⟨_,W,rfl⟩;have hli:=F.called_set.init.lookup;have hbi:=F.called_set.init.bind (.ref s.heap.objs.size)
   repeat(any_goals (first|assumption|wp_step))
   refine Lg (MU (R:=wants (λr d=>r=.none/\∃h' tk,d={s with heap:=h',toks:=tk}/\h'.SetOf (intKind prog w) s.heap.objs.size (λM=>(firstMet (λi=>ns.getD i 0) vs.size).any (· ==M)) (firstMet (λi=>ns.getD i 0) vs.size).length/\
     (∀b o,b<s.heap.objs.size->s.heap.get? b=some o->h'.get? b=some o)) E) F.called_set.init.plain F.entry_set_init (check_set_init_1 hT ?_)) λy d H=>?_
   ·obtain⟨⟨Z,j,N,O⟩,u,k,nl,m⟩:=ht;simp only at k m;subst k;subst m;have x:(s.heap.push (bu l)).get? t=some {cls:=.type "tuple",dict:=j,data:=.seq vs nl,slots:=O}:=Zb _ u;have q1:=F.sub_tuple_set;have q2:=OC;have q3:(J3 "tuple"==J3 "dict")=JL:=by decide
    have n:(s.heap.push (bu l)).IsTuple t vs:=⟨_,x,rfl,nl,rfl⟩;unfold KN.«set.__init__» noKeywords Kz;generalize C:pyIter=PI
    wp_walk
    subst C;refine Ya n (Za (MV ?_));have p:t<s.heap.objs.size:=Zj u;have G:A.in1.in1.in1.handled=none:=by simp[hh]
    have L:(s.heap.push (bu l)).objs.size=s.heap.objs.size+1:=Ka ..;have q:t≠(s.heap.push (bu l)).objs.size:=by rw[L];exact Zu (L_ p)
    have D:s.heap.objs.size∉[(s.heap.push (bu l)).objs.size,t]:=by rw[L];simp only[Zk,ZH,or_false,not_or];exact⟨Zu (KP _),Kk p⟩
    refine codeAny_set_update_loopS ((Walks.tuple G _ t q vs).toS) s.heap.objs.size D (λi=>ns.getD i 0) (λi v hv=>hi.int_at i v (by rw[LC];exact hv)) z (vs.size-0) 0 _ (by omega) (Ks _) ⟨⟨_,Zh _ rfl,rfl,rfl⟩,(n.push _)⟩ ?hS0 ?hR
    case hS0=>exact SetOf_congr ((setObjOf_fresh (knd:=intKind prog w) l).setOf (Zb _ W) (by unfold scanBound;omega)) (λ_=>rfl) rfl
    case hR=>intro s' B g;obtain⟨h',g',d',U,P⟩:=s';have eg:g'=s.gens:=B.gens;have ed:d'=s.drawn:=B.drawn;have eo:P=s.os:=B.os;subst eg ed eo;show wpAny _ _ _ _ _ _;refine Zd ?_;show wpAny _ _ (ret JS) _ _ _;refine Zd ⟨rfl,h',U,rfl,g,λb o z e=>B.heap b o ?_ (Zb _ (Zb _ e))⟩;simp only[Zk,ZH,or_false,not_or];rw[L];exact⟨Zu z,Zu (L_ z)⟩
   ·cases y with
    |error e=>exact H
    |ok f=>
     cases f with
     |ret r=>
      obtain⟨rfl,h',tk,rfl,g,I⟩:=H
      repeat(any_goals (first|assumption|wp_step))
      exact h _ _ g I
     |_=>exact H.elim
  |_=>exact K.elim
def uT(xs:Array Nat):Prop:=∀i j (hi:i<xs.size) (h:j<xs.size),i<j->xs[i]<xs[j]
theorem Ez{xs:Array Nat}(h:uT xs)(j:Nat):∀(f lo hi:Nat),hi-lo<=f->lo<=hi->hi<=xs.size->(∀i (g:i<xs.size),i<lo->xs[i]<j)->(∀i (g:i<xs.size),hi<=i->j<=xs[i])->
  lo<=K7 xs j f lo hi/\K7 xs j f lo hi<=hi/\(∀i (g:i<xs.size),i<K7 xs j f lo hi->xs[i]<j)/\(∀i (g:i<xs.size),K7 xs j f lo hi<=i->j<=xs[i]):=by
 intro f
 induction f with
 |zero=>
  intro lo hi p r o k l;have:lo=hi:=by omega
  subst this;exact⟨Zl _,Zl _,k,l⟩
 |succ f I=>
  intro lo hi p r o k l;unfold K7;split
  ·rename_i t;have m:(lo+hi)/2<xs.size:=by omega
   have q:xs.getD ((lo+hi)/2) j=xs[(lo+hi)/2]:=by simp[Oj,m]
   dsimp only;rw[q];split
   ·rename_i g
    obtain⟨a,b,c,d⟩:=I ((lo+hi)/2+1) hi (by omega) (by omega) o (λi H n=>by
     by_cases e:i=(lo+hi)/2
     ·subst e;exact g
     ·exact Nat.lt_trans (h i _ H m (by omega)) g) l
    exact⟨by omega,b,c,d⟩
   ·rename_i g
    obtain⟨a,b,c,d⟩:=I lo ((lo+hi)/2) (by omega) (by omega) (by omega) k (λi H s=>by
     by_cases e:i=(lo+hi)/2
     ·subst e;omega
     ·exact ZD (by omega) (Lz (h _ i m H (by omega))))
    exact⟨a,by omega,c,d⟩
  grind
theorem xH{xs:Array Nat}(h:uT xs)(j:Nat):J9 xs j<=xs.size/\(∀i (H:i<xs.size),i<J9 xs j->xs[i]<j)/\(∀i (H:i<xs.size),J9 xs j<=i->j<=xs[i]):=by
 obtain⟨_,b,c,d⟩:=Ez h j xs.size 0 _ (by omega) (by omega) (Zl _) λi _ h=>by omega λi H h=>by omega
 exact⟨b,c,d⟩
theorem EA{xs:Array Nat}(h:uT xs){i:Nat}(d:i<xs.size):J9 xs (xs[i]+1)=i+1:=by
 obtain⟨a,b,c⟩:=xH h (xs[i]+1)
 have f:i<J9 xs (xs[i]+1):=by
  grind
 by_cases e:i+1<J9 xs (xs[i]+1)
 ·have H:i+1<xs.size:=by omega
  have:=b _ H e;have:=h i _ d H (by omega);omega
 ·omega
theorem EB(xs:Array Nat)(h:uT xs):J9 xs 0=0:=by
 obtain⟨a,b,c⟩:=xH h 0;by_cases e:0<J9 xs 0
 ·have:=b 0 (by omega) e;omega
 ·omega
theorem EC{l:List Nat}(h:l.Pairwise (· < ·)):uT l.toArray:=λi j a b H=>by have:=Lb.mp h i j (by grind) (by grind) H;simpa using this
open SetTable (Probe runEnd leap bits turns)
theorem ED{t:Kv}(h:t.dummies= #[]){j:Nat}(H:j∉t.place.toList):t.slot j=.empty:=by
 unfold SetTable.slot;rw[if_neg,h]
 ·rfl
 grind
end Py
namespace Py
noncomputable def cE(w:Ke):Bool:=w.params.followText "set-order"
theorem EE(v:JO){R:Vs}(fin:R (.ref s.heap.objs.size) {s with heap:=s.heap.push (bu (!cE w))}):codeAny (model prog w) A (.call (.builtin "set.__new__") ⟨[.type "set",v],[]⟩) (wants R E) s:=by
 refine MA (Za (m:=checkBuiltinCall "set.__new__" ⟨[.type "set",v],[]⟩) (NH (F.newCall_set_1 v) (Zd ⟨Lu F.plain_set_new _,Ki F.entry_set_new ?_⟩)));rw[J5 F.plain_set_new _];have S:=sub_set_self;unfold KN.«set.__new__» Builtin.Frozenset.newClass;cases s;dsimp only
 wp_walk
 exact J' (Zd (Za (wpAny_alloc (Zd (Zd fin)))))
open SetTable (Probe turns)
end Py
namespace Py
open SetTable (Probe turns)
end Py
namespace Py
open SetTable (Probe turns)
end Py
namespace Py
noncomputable def fG(e:Int×JO):Int:=match e.2 with
 | .int k _=>k
 |_=>0
section
theorem rV{l:List (Int×JO)}(h:Mw (intKind prog w) l):∀e∈l,∃t,e.2=.int (fG e) t:=λe H=>by obtain⟨⟨k,a,_⟩,_⟩:=h e H;obtain⟨t,b⟩:=MO a;refine⟨t,?_⟩;unfold fG;rw[b]
theorem js{l:List (Int×JO)}(h:Mw (intKind prog w) l)(k:Int):(∃e∈l,(intKind prog w).is k e.2=JK)↔k∈l.map fG:=by
 rw[Zs];constructor
 ·rintro⟨e,H,b⟩;obtain⟨t,a⟩:=MO b;exact⟨e,H,by unfold fG;rw[a]⟩
 ·rintro⟨e,H,rfl⟩;obtain⟨t,a⟩:=rV h e H;exact⟨e,H,by rw[a];exact N5 _ _ _ _⟩
variable {R:Ng->JN->Prop}{P:Nat->JO->Prop}{St:Nat->JU->Prop}
end
noncomputable def cT(l:Bool)(ks:List Nat):Kv:={mask:=if ks.length<=4 then 7 else 31,place:=ks.toArray,dummies:= #[],finger:=0,led:=l,moves:=if ks.length<=4 then 0 else 1,plain:=JK}
noncomputable def mi:List Nat->List (List Nat)
 | []=>[[]]
 |a::l=>mi l++(mi l).map (a:: ·)
noncomputable def bR(v:Nat)(ks:List Nat):List Nat:=ks.takeWhile (· <v)++v::ks.dropWhile (· <v)
noncomputable def tP(l:Bool)(v:Nat)(ks:List Nat):Kv:=((cT l ks).put v).1
theorem rY:∀led:Bool,∀ks∈mi [0,1,2,3,4,5,6,7],∀v∈[0,1,2,3,4,5,6,7],v∉ks->
  (cT led ks).freeSlot (v:Int)=some (v,JL)/\((cT led ks).put v).2=(ks.takeWhile (· <v)).length/\(tP led v ks).fits (ks.length+1)=JK/\(tP led v ks).plain=JK/\
  ((tP led v ks).tooFull=JL->tP led v ks=cT led (bR v ks))/\
  ((tP led v ks).tooFull=JK->(tP led v ks).relaid ((bR v ks).map λk:Nat=>(k:Int)).toArray (OD (ks.length+1))=some (cT led (bR v ks),Mq (ks.length+1))/\(cT led (bR v ks)).fits (ks.length+1)=JK/\coversAll (Mq (ks.length+1)) (ks.length+1)=JK):=by
 decide+kernel
abbrev p8:List (List Nat):=mi [0,1,2,3,4,5,6,7]
theorem e7:∀ks∈p8,ks.Pairwise (· < ·)/\(∀k∈ks,k<8)/\ks.length<=8/\(∀led:Bool,(cT led ks).fits ks.length=JK)/\∀v∈[0,1,2,3,4,5,6,7],v∉ks->bR v ks∈p8:=by decide+kernel
theorem jt:∀v∈[0,1,2,3,4,5,6,7],hashInt (v:Nat)=((v:Nat):Int):=by decide+kernel
theorem fH{v:Nat}(h:v<8):v∈[0,1,2,3,4,5,6,7]:=by
 have:v=0\/v=1\/v=2\/v=3\/v=4\/v=5\/v=6\/v=7:=by omega
 simp_all
theorem ju(v:Nat)(ks:List Nat):ks.take (ks.takeWhile (· <v)).length=ks.takeWhile (· <v)/\ks.drop (ks.takeWhile (· <v)).length=ks.dropWhile (· <v):=by
 have h:ks.takeWhile _++ks.dropWhile (· <v)=ks:=Yg
 grind
noncomputable def ef(k:Nat):Int×Int:=((k:Int),(k:Int))
noncomputable def cw(e:Int×JO):Int×Int:=(e.1,fG e)
theorem xI{v:Nat}{tok:Tok}(h:es.toList.map cw=ks.map ef):(J1 es (ks.takeWhile (· <v)).length ((v:Int),.int v tok)).toList.map cw=(bR v ks).map ef:=by rw[SetTable.toList_insertAt,Ko,Kj,NJ,NK,h,<-NJ,<-NK,(ju v _).1,(ju v _).2];unfold bR;rw[Ko];rfl
theorem rZ(es:Array α):(Mq es.size).filterMap (es[·]?)=es:=by apply MF;rw[Array.toList_filterMap,MG];exact filterMap_getElem?_range _
theorem xJ{v:Nat}{x:JO}(b:ks∈p8)(e:v<8)(c:v∉ks)(d:es.size=ks.length):layNew (cT led ks) es (v:Int) x=(J1 es (ks.takeWhile (· <v)).length ((v:Int),x),tP led v ks,JL,JL):=by
 obtain⟨h,H,a,_⟩:=rY _ _ b v (fH e) c;unfold layNew;rw[h];dsimp;have f:(J1 es ((cT led ks).put v).2 (v,x)).size=ks.length+1:=by rw[<-ZN,(Lo _ _ _).length_eq,ZN,OW,d]
 rw[f,<-H];unfold NS;rw[show((cT _ _).put v).1.fits _=JK from a];rfl
theorem mj{v:Nat}(g:ks∈p8)(j:v<8)(i:v∉ks)(h:es1.toList.map cw=(bR v ks).map ef)(f:(tP led v ks).tooFull=JK):relayAll (tP led v ks) es1 (OD es1.size)=(es1,cT led (bR v ks),JL):=by
 obtain⟨_,_,_,_,_,a⟩:=rY _ _ g v (fH j) i;obtain⟨b,c,d⟩:=a f
 have H:es1.size=ks.length+1:=by
  have:=Z5 K5 h;rw[Zi,Zi,ZN]at this;have l:(bR v ks).length=ks.length+1:=by unfold bR;rw[Zq,Zn,<-NO,<-Zq,Yg]
  omega
 have e:es1.map (·.1)=((bR v ks).map λk:Nat=>(k:Int)).toArray:=by apply MF;rw[M7];have:=Z5 (M4 (·.1)) h;rw[ZA,ZA]at this;exact this
 unfold relayAll;rw[e,H,b];dsimp;rw[<-H,rZ,H,c,d];rfl
structure bD (prog:J8)(w:Ke)(h:JU)(a:JP)(ks:List Nat)(es:Array (Int×JO)):Prop where
 obj:∃o ep,h.get? a=some o/\o.ExactSet/\o.data=.set es ep (cT (!cE w) ks)
 ent:es.toList.map cw=ks.map ef
 els:Mw (intKind prog w) es.toList
 pow:ks∈p8
theorem bD.size(x:bD prog w h a ks es):es.size=ks.length:=by have:=Z5 K5 x.ent;simp_all
theorem bD.kept(x:bD prog w h a ks es)(k:∀o,h.get? a=some o->h'.get? a=some o):bD prog w h' a ks es:=by obtain⟨⟨o,e,q,r⟩,z,Z,b⟩:=x;exact⟨⟨o,_,k o q,r⟩,z,Z,b⟩
theorem bD.born(h:JU):bD prog w (h.push (bu (!cE w))) h.objs.size [] #[]:=⟨⟨_,0,Zh _ rfl,⟨rfl,rfl,rfl⟩,rfl⟩,rfl,λe H=>by simp_all,by decide+kernel⟩
theorem im{es':Array (Int×JO)}{t t':Kv}(g:h.get? a=some o)(E:o.ExactSet)(d:o.data=.set es ep t):
  ∃o',(h.update a (ND es' t')).get? a=some o'/\o'.ExactSet/\o'.data=.set es' (ep+1) t':=by
 have e:(h.update a (ND _ t')).get? a=some _:=Z8 _ g (by rw[putSet_of es' _ d];rfl);rw[putSet_of _ _ d]at e;exact⟨_,e,E,rfl⟩
theorem xK{v:Nat}{tok:Tok}{Q:Bool->JN->Prop}(x:bD prog w s.heap a ks es)(y:v<8)
  (fin:∀h' K es' b,JT a s.heap h'->bD prog w h' a K es'->(∀k,k∈K↔k∈ks\/k=v)->Q b {s with heap:=h'}):
  wpAny (model prog w) A (setAddHashed a (.int v tok) ((intKind prog w).hash v)) Q E s:=by
 obtain⟨⟨o,ep,g,Z,d⟩,n,B,I⟩:=id x;have U:=x.size;obtain⟨_,low,len,u,more⟩:=e7 ks I;have t:(cT (!cE w) ks).fits es.size=JK:=by rw[U];exact u _
 have M:es.size<scanBound:=by rw[U];unfold scanBound;omega
 have C:(intKind prog w).is (v:Int) (.int v tok)=JK:=N5 _ _ _ _
 have G:∀(b:Bool) (z:JN) (J:Unit->JN->Prop),J () z->wpAny (model prog w) A (match b with|true=>rule "set.scan.the-table-gave-way"|false=>pure ()) J E z:=λb z J q=>by
  cases b
  ·exact Zd q
  ·exact K1 q
 have l:(∃e∈es.toList,(intKind prog w).is (v:Int) e.2=JK)↔v∈ks:=by
  rw[js B];have:=Z5 (M4 (·.2)) n;rw[ZA,ZA]at this;rw[show es.toList.map fG=ks.map λk:Nat=>(k:Int)from this,Zs];constructor
  ·rintro⟨k,C,e⟩;have:k=v:=by omega
   exact this▸C
  ·exact λh=>⟨v,h,rfl⟩
 have H:(intKind prog w).hash (v:Int)=(v:Int):=jt v (fH y);unfold setAddHashed setAddHashedIn;refine ZU (Za (ZJ g d t ?_));dsimp only;rw[byScan_of (knd:=intKind prog w) rfl M B,if_pos rfl];unfold setAddByScan;refine Za (Za (K1 (Za (wpAny_setScan_of C g d t B ?_))));cases X:List.findIdx? (λe=>(intKind prog w).is (v:Int) e.2) es.toList with
 |some j=>obtain⟨hj,hp,_⟩:=MW.mp X;have T:=l.mp ⟨_,Kt hj,hp⟩;exact Zd (Zd (fin s.heap ks es JL (Mm a s.heap) x λk=>⟨.inl,λz=>z.elim id λe=>e▸T⟩))
 |none=>
  have N:v∉ks:=λz=>by obtain⟨e,he,q⟩:=l.mpr z;have:=NE.mp X e he;rw[q]at this;cases this
  obtain⟨_,_,ft,pl,nf,fu⟩:=rY (!cE w) ks I v (fH y) N;have R:hashByValue 8 (.int v tok)=pure JK:=OX 8 rfl
  have i:∀k,k∈bR v ks↔k∈ks\/k=v:=λk=>by
   unfold bR;rw[ZE,Zk];have:ks.takeWhile (· <v)++ks.dropWhile (· <v)=ks:=Yg;rw[<-Z5 (k∈ ·) this];rw[ZE];constructor
   ·rintro(h|h|h)
    ·exact .inl (.inl h)
    ·exact .inr h
    ·exact .inl (.inr h)
   ·rintro((h|h)|h)
    ·exact .inl h
    ·exact .inr (.inr h)
    ·exact .inr (.inl h)
  have c:=xI (v:=v) (tok:=tok) n;have m:Mw (intKind prog w) (J1 es (ks.takeWhile (· <v)).length ((v:Int),.int v tok)).toList:=by have p:=Lo es (ks.takeWhile (· <v)).length ((v:Int),LW v tok);rw[MX]at p;have q:=B.push C (x:=.int v tok) rfl;rw[H]at q;exact q.perm p
  have P:=more v (fH y) N;dsimp only;rw[H,xJ I y N U];generalize J1 es (ks.takeWhile (· <v)).length ((v:Int),LW v tok)=f at c m⊢
  have F:f.size<scanBound:=by
   have:=Z5 K5 c;rw[Zi,Zi,ZN]at this;have h2:(bR v ks).length=ks.length+1:=by unfold bR;rw[Zq,Zn,<-NO,<-Zq,Yg]
   unfold scanBound;omega
  dsimp only;refine Za (G JL s _ ?_);rw[if_pos pl];refine Za ?_;rw[R];refine Zd ?_;simp only[if_true];refine Za (K8 g d ?_ (K9 F));obtain⟨o1,O,r,D⟩:=im (es':=f) (t':=tP (!cE w) v ks) g Z d;have S:=ZM s.heap a (ND f (tP (!cE w) v ks));cases W:(tP (!cE w) v ks).tooFull with
  |true=>simp only[LZ,Ma,if_true];rw[mj I y N c W];refine Za (G JL _ _ (Za (K8 O D (Zd (Zd ?_)) (K9 F))));obtain⟨o2,g2,L,Y⟩:=im (es':=f) (t':=cT (!cE w) (bR v ks)) O r D;exact fin _ _ f JK (S.trans (ZM _ a _)) ⟨⟨o2,_,g2,L,Y⟩,c,m,P⟩ i
  |false=>simp only[LZ,Nw,Zx,if_false];rw[nf W]at D;exact Zd (Zd (fin _ _ f JK S ⟨⟨o1,_,O,r,D⟩,c,m,P⟩ i))
section
variable {R:Ng->JN->Prop}{P:Nat->JO->Prop}{St:Nat->JU->Prop}
theorem r4(W:Walks prog w A.in1 I fp wr n P St)(S:JP)(out:S∉fp)(val:Nat->Int)(H:∀i v,P i v->∃t,v=.int (val i) t)(low:∀i,i<n->0<=val i/\val i<8):
  ∀(k i:Nat) (s:JN) (ks:List Nat) (es:Array (Int×JO)),n-i=k->i<=n->St i s.heap->bD prog w s.heap S ks es->(∀k:Nat,k∈ks↔∃j,j<i/\val j=k)->
  (∀h' tk d es',(∀b o,b∉wr->b≠S->s.heap.get? b=some o->h'.get? b=some o)->bD prog w h' S d es'->(∀k:Nat,k∈d↔∃j,j<n/\val j=k)->R (.ok (.ret .none)) {s with heap:=h',toks:=tk})->
  codeAny (model prog w) A (.builtin "set.update.loop" ⟨[.ref S,.ref I],[]⟩) R s:=by
 have L:S∉wr:=λz=>out (W.sub S z);intro k
 induction k with
 |zero=>
  intro i s ks es O Q a x y fin;obtain rfl:i=n:=by omega
  exact Ki Od (by rw[J5 Mj];exact Za (W.done s _ _ a λh' tk K=>Zd (fin h' tk ks es (λb o N _ e=>K b o N e) (x.kept λo e=>K S o L e) y)))
 |succ k Y=>
  intro i s ks es O Q a x y fin;have lt:i<n:=by omega
  refine Ki Od ?_;rw[J5 Mj];refine Za (W.item i s _ _ lt a λv h' tk Z c K=>?_);obtain⟨t,rfl⟩:=H i v Z;have x1:bD prog w h' S ks es:=x.kept λo e=>K S o L e;obtain⟨u,J⟩:∃u:Nat,val i=(u:Int):=⟨(val i).toNat,by have:=low i lt;omega⟩;have p:u<8:=by have:=low i lt;omega
  refine Za (m:=holding [LW (val i) t] (setAdd S (.int (val i) t))) (ZU ?_);unfold setAdd;refine ZU (Za ((intKind prog w).pyHash (k:=val i) (N5 _ _ _ _) ?_));rw[J];refine xK (s:={s with heap:=h',toks:=tk+1}) x1 p λh2 f E b M x2 l=>?_
  have B:∀k:Nat,k∈f↔∃j,j<i+1/\val j=k:=λk=>by
   rw[l k,y k];constructor
   ·rintro(⟨j,X,e⟩|rfl)
    ·exact⟨j,by omega,e⟩
    ·exact⟨i,by omega,J⟩
   ·rintro⟨j,X,e⟩;by_cases z:j=i
    ·subst z;exact .inr (by omega)
    ·exact .inl ⟨j,by omega,e⟩
  refine Zd ⟨Lu Mj _,Y (i+1) _ f E (by omega) lt (W.frame _ _ _ c λb U o e=>?_) x2 B λV D r g q x3 C=>?_⟩
  ·rw[M.2 b λz=>out (z▸U)];exact e
  ·refine fin V D r g (λb o N G e=>q b o N G ?_) x3 C;rw[M.2 b G];exact K b o N e
end
structure xL (prog:J8)(w:Ke)(A:KI)(s:JN)(vs:Av)(led:Bool)(Post:JU->Prop):Prop where
 go:∀{I:JP} {fp wr:La} {St:Nat->JU->Prop} {R:Ng->JN->Prop} (s':JN),Walks prog w A.in1.in1.in1 I fp wr vs.size (λi v=>vs[i]?=some v) St->s.heap.objs.size∉fp->St 0 s'.heap->(∀b o,(s.heap.push (bu led)).get? b=some o->s'.heap.get? b=some o)->(∀b∈wr,s.heap.objs.size<b)->
   (∀h' tk,(∀b o,b∉wr->b≠s.heap.objs.size->s'.heap.get? b=some o->h'.get? b=some o)->Post h'->R (.ok (.ret .none)) {s' with heap:=h',toks:=tk})->codeAny (model prog w) A.in1.in1 (.builtin "set.update.loop" ⟨[.ref s.heap.objs.size,.ref I],[]⟩) R s'
theorem EF{t:JP}{vs:Av}{P:JU->Prop}(hh:A.handled=none)(B:s.heap.IsList t vs\/s.heap.IsTuple t vs)
  (L:xL prog w A s vs (!cE w) P)
  (h:∀(h':JU) (tk:Nat),P h'->(∀b o,b<s.heap.objs.size->s.heap.get? b=some o->h'.get? b=some o)->Q (.ref s.heap.objs.size) {s with heap:=h',toks:=tk}):wpAny (model prog w) A (call (.type "set") [.ref t]) Q E s:=by
 obtain⟨c,tl,Z⟩:=F.called_set.mro;have U:=F.called_set.made;have hsub:=F.called_set.sub;refine NZ (MA ?_);show wpAny _ _ (callAny (.type "set") _) _ _ _;refine Zd ⟨OB _ (by decide+kernel),Ki F.entry_type_call ?_⟩;rw[Oc (OV "set" [.ref t] []) rfl];have g1:=F.called_set.notType;have g2:=F.called_set.canCreate;have g3:=F.typeCall_set_1 (.ref t)
 repeat(any_goals (first|assumption|wp_step))
 refine Lg (EE (.ref t) (E:=E) (R:=λobj S=>obj=.ref s.heap.objs.size/\S={s with heap:=s.heap.push (bu (!cE w))}) ⟨rfl,rfl⟩) λr S V=>?_;cases r with
 |error e=>exact V
 |ok fl=>
  cases fl with
  |ret obj=>
   obtain⟨rfl,rfl⟩:=V;generalize(!cE w)=l at L⊢;have hS:(s.heap.push (bu l)).get? s.heap.objs.size=some (bu l):=Zh _ rfl;have hT:Mv {s with heap:=s.heap.push (bu l)} (.ref s.heap.objs.size) "set":=⟨_,hS,rfl⟩;have hli:=F.called_set.init.lookup;have hbi:=F.called_set.init.bind (.ref s.heap.objs.size)
   repeat(any_goals (first|assumption|wp_step))
   refine Lg (MU (R:=wants (λr q=>r=.none/\∃h' tk,q={s with heap:=h',toks:=tk}/\P h'/\
     (∀b o,b<s.heap.objs.size->s.heap.get? b=some o->h'.get? b=some o)) E) F.called_set.init.plain F.entry_set_init (check_set_init_1 hT ?_)) λJ q H=>?_
   ·have D:A.in1.in1.in1.handled=none:=by simp[hh]
    have W:(s.heap.push (bu l)).objs.size=s.heap.objs.size+1:=Ka ..;have G:t<s.heap.objs.size:=by rcases B with⟨_,d,_⟩| ⟨_,d,_⟩<;>exact Zj d
    have n:t≠(s.heap.push (bu l)).objs.size:=by rw[W];exact Zu (L_ G)
    have C:s.heap.objs.size∉[(s.heap.push (bu l)).objs.size,t]:=by rw[W];simp only[Zk,ZH,or_false,not_or];exact⟨Zu (KP _),Kk G⟩
    have x:∀b∈[(s.heap.push (bu l)).objs.size],s.heap.objs.size<b:=λb m=>by rw[W,L0]at m;rw[m];exact KP _
    have p:∀b,b<s.heap.objs.size->b∉[(s.heap.push (bu l)).objs.size]:=λb m z=>by have:=x b z;omega
    rcases B with B|B
    ·obtain⟨⟨I,a,y,O⟩,d,f,nl,g⟩:=B;simp only at f g;subst f;subst g;have k:(s.heap.push (bu l)).get? t=some {cls:=.type "list",dict:=a,data:=.seq vs nl,slots:=O}:=Zb _ d;have q1:=F.sub_list_set;have q2:=F.sub_list_frozenset;have q3:(J3 "list"==J3 "dict")=JL:=by decide
     have j:(s.heap.push (bu l)).IsList t vs:=⟨_,k,rfl,nl,rfl⟩;unfold KN.«set.__init__» noKeywords Kz;generalize v:pyIter=PI
     wp_walk
     subst v;refine Ye j (Za (MV ?_));exact L.go _ (Walks.list D _ t n vs) C ⟨⟨_,Zh _ rfl,rfl,rfl⟩,(j.push _)⟩ (λb o e=>Zb _ e) x λh' T X Y=>Zd (Zd ⟨rfl,h',T,rfl,Y,λb o m e=>X b o (p b m) (Zu m) (Zb _ (Zb _ e))⟩)
    ·obtain⟨⟨I,a,y,O⟩,d,f,nl,g⟩:=B;simp only at f g;subst f;subst g;have k:(s.heap.push (bu l)).get? t=some {cls:=.type "tuple",dict:=a,data:=.seq vs nl,slots:=O}:=Zb _ d;have q1:=F.sub_tuple_set;have q2:=OC;have q3:(J3 "tuple"==J3 "dict")=JL:=by decide
     have j:(s.heap.push (bu l)).IsTuple t vs:=⟨_,k,rfl,nl,rfl⟩;unfold KN.«set.__init__» noKeywords Kz;generalize v:pyIter=PI
     wp_walk
     subst v;refine Ya j (Za (MV ?_));exact L.go _ (Walks.tuple D _ t n vs) C ⟨⟨_,Zh _ rfl,rfl,rfl⟩,(j.push _)⟩ (λb o e=>Zb _ e) x λh' T X Y=>Zd (Zd ⟨rfl,h',T,rfl,Y,λb o m e=>X b o (p b m) (Zu m) (Zb _ (Zb _ e))⟩)
   ·cases J with
    |error e=>exact H
    |ok u=>
     cases u with
     |ret r=>
      obtain⟨rfl,h',tk,rfl,M,N⟩:=H
      repeat(any_goals (first|assumption|wp_step))
      exact h _ _ M N
     |_=>exact H.elim
  |_=>exact V.elim
theorem EG{t:JP}{vs:Av}(f:A.handled=none)(l:s.heap.IsList t vs\/s.heap.IsTuple t vs)(a:M0 vs.toList ns)(low:∀n∈ns,0<=n/\n<8)
  (h:∀(h':JU) (tk:Nat),(∃ks es,bD prog w h' s.heap.objs.size ks es/\∀k:Nat,k∈ks↔(k:Int)∈ns)->
   (∀b o,b<s.heap.objs.size->s.heap.get? b=some o->h'.get? b=some o)->Q (.ref s.heap.objs.size) {s with heap:=h',toks:=tk}):wpAny (model prog w) A (call (.type "set") [.ref t]) Q E s:=by
 have c:vs.size=ns.length:=by exact a.length
 refine EF f l ⟨λB W out S q m fin=>?_⟩ h;refine r4 W _ out _ (λi v y=>a.int_at i v (by simp_all)) (λi j=>low _ (by simp_all)) _ 0 _ _ _ (by omega) (Ks _) S ((bD.born _).kept λo e=>q _ o e) (λk=>⟨λz=>(by cases z),λ⟨i,z,_⟩=>by omega⟩) λh' u r d K x p=>fin _ _ K ⟨_,_,x,λk=>(p k).trans ⟨λ⟨i,z,e⟩=>by grind,λz=>by obtain⟨i,g,e⟩:=KC.mp z;exact⟨i,by omega,by simp_all⟩⟩⟩
theorem xM(ns:Li):firstMet (λi=>ns.getD i 0) ns.length=b4 ns:=by unfold firstMet b4;congr 1;refine Mc (by simp) λi H h=>?_;simp[h]
theorem EH(c:X.calm=JK):a7 X (.type "set") (λxs H Q=>∃p ns,xs=[.ref p]/\c9 X.K H p (ns.map V.int)/\ns.length+1<scanBound/\∀l S,H l=none->Q (.ref l) (a' H l (.set S (b4 ns).length))):=by
 intro n s v H xs U Q I r h;obtain⟨p,ns,rfl,f,k,q⟩:=h;obtain⟨u,rfl,g⟩:=vals1 r;cases g;obtain⟨i,R,P,_⟩:=I.list f;have m:=R.length;refine call_set_list (I.ok.hd c) P.isList (by simpa using qy R) (by simp_all) λj t a d=>?_;have E:i.toArray.size=ns.length:=by simp_all
 rw[E,xM]at a;exact⟨.ref _,_,I.laid (λb o e=>d b o (Zj e) e) (Zl _) (show bv _ _ _ _ _ (.set _ _)from a),rfl,q _ _ (I.hok.fresh (Zl _))⟩
theorem EI(c:X.calm=JK):a7 X (.type "set") (λxs H Q=>∃p ns,xs=[.ref p]/\cB X.K H p (ns.map V.int)/\ns.length+1<scanBound/\∀l S,H l=none->Q (.ref l) (a' H l (.set S (b4 ns).length))):=by
 intro n s v H xs U Q I r h;obtain⟨p,ns,rfl,f,k,q⟩:=h;obtain⟨u,rfl,g⟩:=vals1 r;cases g;obtain⟨i,R,P,_⟩:=I.tuple f;have m:=R.length;refine Ey (I.ok.hd c) P (by simpa using qy R) (by simp_all) λj t a d=>?_;have E:i.toArray.size=ns.length:=by simp_all
 rw[E,xM]at a;exact⟨.ref _,_,I.laid (λb o e=>d b o (Zj e) e) (Zl _) (show bv _ _ _ _ _ (.set _ _)from a),rfl,q _ _ (I.hok.fresh (Zl _))⟩
theorem EJ(c:X.calm=JK):a7 X (.type "set") (λxs H Q=>∃p ns,xs=[.ref p]/\(c9 X.K H p (ns.map V.int)\/cB X.K H p (ns.map V.int))/\ns.length+1<scanBound/\∀l S,H l=none->Q (.ref l) (a' H l (.set S (b4 ns).length))):=by
 intro P s d H xs u Q I r h;obtain⟨p,ns,e,a,b,q⟩:=h;rcases a with a|a
 ·exact EH c _ s _ H _ _ Q I r ⟨p,_,e,a,b,q⟩
 ·exact EI c _ s _ H _ _ Q I r ⟨p,_,e,a,b,q⟩
theorem EK:a7 X (.builtin "len") (λxs H Q=>∃p S n,xs=[.ref p]/\H p=some (.set S n)/\n<100000/\Q (.int n) H):=by intro P s i H xs U Q I r h;obtain⟨p,S,n,rfl,e,g,q⟩:=h;obtain⟨u,rfl,R⟩:=vals1 r;cases R;obtain⟨o,f,E,t,d,a,b,_,_,_,c,rfl⟩:=I.hok p _ e;exact call_len_set d a b c (by omega) ⟨.int _,H,I.tok _,⟨_,rfl⟩,q⟩
theorem r6:bootBuiltins "set"=some (.type "set"):=by decide+kernel
theorem ml(ns:Li):(b4 ns).length<=ns.length:=by
 have k:∀(ns a:Li),(ns.foldl KQ a).length<=a.length+ns.length:=by
  intro ns
  induction ns with
  |nil=>simp_all
  |cons n ns i=>intro a;refine ZD (i _) ?_;unfold KQ;split<;>simp<;>omega
 simpa[b4]using k _ []
theorem r8:∀{xs:List D},xs.all (az .int)=JK->xs=(xs.filterMap b8).map D.int
 | [],_=>rfl
 |x::xs,h=>by
  simp only[NG,ZR]at h;cases x with
  |int i=>simp only[My,b8,Kj];rw[<-r8 h.2]
  |_=>simp[az]at h
theorem r9{K:Fg}{m:GS}{μ:La}{H:Hp}:∀{ns:Li} {vs:List V},ag K m μ H (ns.map D.int) vs->vs=ns.map V.int
 | [],vs,r=>by subst r;rfl
 |n::ns,vs,r=>by obtain⟨v,w,rfl,R,a⟩:=r.uncons;cases aG R;rw[r9 a];rfl
def r_(K:Fg):List V->Hp->VK->Prop:=λxs H Q=>∃p ns,xs=[.ref p]/\(c9 K H p (ns.map V.int)\/cB K H p (ns.map V.int))/\ns.length+1<scanBound/\∀l S,H l=none->Q (.ref l) (a' H l (.set S (b4 ns).length))
def px:List V->Hp->VK->Prop:=λxs H Q=>∃p S n,xs=[.ref p]/\H p=some (.set S n)/\n<100000/\Q (.int n) H
noncomputable def EL(K:Fg)(v:V)(H:Hp)(Q:VK):Prop:=(r_ K [v] H λy H2=>px [y] H2 Q)
theorem EM{z:Expr}(l:X.calm=JK)(w:X.A.units+64<cLine)(b:Gl X "len")(c:Gl X "set")(d:X.mg "len"=none)(e:X.mg "set"=none)(m:bP z=JK)(k:PE X z ta):
  PE X (.Call (.Name "len" p1) [.Call (.Name "set" p2) [z] [] p3] [] p4) (λσ H Q=>ta σ H λx H1=>EL X.K x H1 Q):=by
 intro p s σ H Q I h;have f:=c3 (env:=X.env) (es:=[]) m;refine Kl (ea I b d PySem.boot_len ?_ (by decide) (by decide));refine Ln ?_ rfl rfl;refine MD ?_;refine Kl (ea I c e r6 ?_ (by decide) (by decide));have j:PA X [z] (g0 ta k9):=la k k_ f
 refine Z1 (aX (j p3 p s σ H (λvs H1=>match vs with
  | [x]=>EL X.K x H1 Q
  |_=>False) I h) λU S ⟨vs,H1,g,r,q⟩=>?_) f rfl
 match vs,q with
 | [v],q=>refine aX (EJ l p S σ H1 [v] U (λy a=>px [y] a Q) g r q) λu o ⟨V,a,i,R,n⟩=>?_;refine MP ?_;exact EK p o σ a [V] [u] Q i (.cons R .nil) n
theorem EN{Q:VK}(s:aK K ⟨mg,F⟩ μ S H)(r:Rep K ⟨mg,F⟩ μ H d v)(w:aU K ⟨mg,F⟩ μ H Q (lO d S)):EL K v H Q:=by
 unfold lO at w;split at w
 ·rename_i x e;split at w
  ·rename_i g;obtain⟨a,vs,rfl,i,R⟩:=fS s r e;have h:=r8 g.1
   have c:(x.filterMap b8).length<1000:=by have:=Z5 K5 h;simp only[Zi]at this;omega
   rw[h]at R;have j:=r9 R;subst j;refine⟨a,x.filterMap b8,rfl,i,by unfold scanBound;omega,λl f b=>⟨l,f,_,rfl,dd,by have:=ml (x.filterMap b8);omega,?_⟩⟩;exact w μ _ _ (.laid b) (s.laid b) bN
  ·exact w.elim
 ·exact w.elim
section
variable {R:Ng->JN->Prop}{P:Nat->JO->Prop}{St:Nat->JU->Prop}
end
theorem xN{a:Type}(f:Nat->Nat):∀(n k:Nat) (left:List a) (out:Array a),left.length=n->(pickOrder.go f n k left out).toList.Perm (out.toList++left)
 |0,k,left,out,h=>by have:left=[]:=ZW h;subst this;unfold pickOrder.go;simp
 |n+1,k,left,out,h=>by
  have H:f k%left.length<left.length:=Nat.mod_lt _ (by omega);unfold pickOrder.go;rw[Zm H];dsimp only;refine(xN f n (k+1) _ _ (by rw[List.length_eraseIdx_of_lt H];omega)).trans ?_;rw[MX,Kn];refine List.Perm.append_left _ ?_;have:left=left.take (f k%left.length)++left[f k%left.length]::left.drop (f k%left.length+1):=by rw[<-J2 H,List.take_append_drop]
  rw[List.eraseIdx_eq_take_drop_succ];refine List.Perm.trans ?_ (List.Perm.of_eq this.symm);rw[List.singleton_append];exact(K_).symm
theorem xO(f:Nat->Nat)(xs:Array α):(pickOrder f xs).toList.Perm xs.toList:=by have:=xN f xs.size 0 xs.toList #[] (by simp);simpa[pickOrder]using this
noncomputable def cy(w:Ke)(a:JP)(ep:Nat)(es:Array (Int×JO)):List (Int×JO):=if cE w=JK then(pickOrder (w.params.setOrder a ep) es).toList else es.toList
noncomputable def bL(w:Ke)(ks:List Nat):Nat->Nat
 |0=>0
 |i+1=>if cE w=JK then 0 else ks.getD i 0+1
theorem jv(w:Ke)(a:JP)(ep:Nat)(es:Array (Int×JO)):(cy w a ep es).Perm es.toList:=by
 unfold cy;split
 ·exact xO _ _
 simp_all
structure TB (w:Ke)(t:Kv)(n:Nat):Prop where
 fit:t.fits n=JK
 led:t.led=(!cE w)
 pl:t.plain=JK
 ris:uT t.place
theorem TB.size{t:Kv}(x:TB w t n):n=t.place.toList.length:=by have:=x.fit;unfold OL at this;simp_all
theorem jw{t:Kv}{i:Nat}{Q:Option (JO×Nat)->JN->Prop}(T:TB w t es.size)(g:s.heap.get? a=some o)(d:o.data=.set es ep t)(p:i<=es.size)
  (fin:Q (((cy w a ep es)[i]?).map λe=>(e.2,bL w t.place.toList (i+1))) s):wpAny (model prog w) A (setNext a (bL w t.place.toList i) i ep) Q E s:=by
 have q:=T.size;have f:=T.fit;unfold setNext;refine Za (ZJ g d f ?_);dsimp only;refine Za (m:=setsByText) (Za (J' (Zd ?_)));cases h:cE w with
 |true=>
  have H:w.params.followText "set-order"=JK:=h;show wpAny _ _ (if(w.params.followText "set-order")=JK then _ else _) _ _ _;rw[if_pos H];simp only[bne_self_eq_false,Zx,if_false];refine Za ?_;unfold setWalk;refine Za (ZJ g d f ?_);dsimp only;refine Za (m:=setsByText) (Za (J' (Zd ?_)));show wpAny _ _ (if(w.params.followText "set-order")=JK then _ else _) _ _ _;rw[if_pos H];refine Za (J' (Zd (Zd ?_)));have j:cy w a ep es=(pickOrder (w.params.setOrder a ep) es).toList:=by unfold cy;rw[if_pos h]
  have k:bL w t.place.toList (i+1)=bL w t.place.toList i:=by
   cases i with
   |zero=>simp[bL,h]
   |succ i=>simp[bL,h]
  rw[j,k,LC]at fin;exact fin
 |false=>
  have H:w.params.followText "set-order"=JL:=h;show wpAny _ _ (if(w.params.followText "set-order")=JK then _ else _) _ _ _;rw[if_neg (by grind)];refine KJ ?_
  rw[if_neg (λz=>by have z:(!t.plain&&decide (es.size>1))=JK:=z;rw[T.pl]at z;simp at z)];refine Za ?_;show wpAny _ _ (if(!t.led&& !es.isEmpty)=JK then _ else pure ()) _ _ _;rw[if_neg (by rw[T.led,h];simp)];refine Zd (Zd ?_);have n:=T.ris;have j:cy w a ep es=es.toList:=by unfold cy;rw[if_neg (by grind)]
  have l:J9 t.place (bL w t.place.toList i)=i:=by
   cases i with
   |zero=>exact EB _ n
   |succ i=>
    have b:i<t.place.size:=by grind
    have e:bL w t.place.toList (i+1)=t.place[i]+1:=by show(if cE w=JK then 0 else t.place.toList.getD i 0+1)=_;rw[h];simp[b]
    rw[e];exact EA n _
  rw[j,LC]at fin;rw[l];by_cases b:i<es.size
  ·have c:i<t.place.size:=by grind
   have k:bL w t.place.toList (i+1)=t.place[i]+1:=by show(if cE w=JK then 0 else t.place.toList.getD i 0+1)=_;rw[h];simp[c]
   rw[L5 b]at fin⊢;rw[k]at fin;simpa[c]using fin
  ·rw[NP (by omega)]at fin⊢;exact fin
theorem io:Slot "set_iterator" "__next__" "set_iterator.__next__":=.of (owner:="set_iterator") (n:="__next__") (by rw[typeLookup_type,OY];kernel_rfl) (by decide+kernel) (by decide+kernel) (by decide+kernel) (by first|exact .inl (by decide+kernel)|exact .inr (by decide+kernel)) (by rw[N6];kernel_rfl)
theorem xP:Slot "set_iterator" "__iter__" "set_iterator.__iter__":=.of (owner:="set_iterator") (n:="__iter__") (by rw[typeLookup_type,OY];kernel_rfl) (by decide+kernel) (by decide+kernel) (by decide+kernel) (by first|exact .inl (by decide+kernel)|exact .inr (by decide+kernel)) (by rw[N6];kernel_rfl)
theorem EO:entryFor table "set_iterator.__iter__"=some KN.«dict_keyiterator.__iter__»:=N7 (id':="dict_keyiterator.__iter__") (rfl) rfl (by decide+kernel) (rfl)
theorem EQ(v:JO):argsOk "set_iterator.__iter__" ⟨[v],[]⟩:=by kernel_rfl
theorem xQ:entryFor table "set_iterator.__next__"=some KN.«set_iterator.__next__»:=entryFor_of_tree rfl
theorem xR(v:JO):argsOk "set_iterator.__next__" ⟨[v],[]⟩:=by kernel_rfl
theorem ER:entryFor table "set.__iter__"=some KN.«frozenset.__iter__»:=N7 (id':="frozenset.__iter__") (rfl) rfl (by decide+kernel) (rfl)
def jx(h:JU)(it a:JP)(sl i n ep:Nat):Prop:=∃o,h.get? it=some o/\o.cls=.type "set_iterator"/\o.data=.fields #[.int sl 0,.int i 0,.ref a,.int n 0,.int ep 0]
theorem sd{t:Kv}(T:TB w t es.size)(g:s.heap.get? a=some o)(e:o.ExactSet)(d:o.data=.set es ep (t))
  (fin:Q (.ref s.heap.objs.size) {s with heap:=s.heap.push {cls:=.type "set_iterator",data:=.fields #[.int 0 0,.int 0 0,.ref a,.int es.size 0,.int ep 0]}}):wpAny (model prog w) A (pyIter (.ref a)) Q E s:=by
 have f:=T.fit;have ty:s.TypeIs (.ref a) _:=⟨o,g,e.1⟩;refine Nt ty F.slot_set_iter (ZQ F.slot_set_iter ty ER ?_ (F.args_set_iter_1 _));refine Za (Za (Zd (Zd ?_)));refine Za (Za (M8 g d f (Zd ?_)));refine Za ?_;refine Za (ZJ g d f ?_);refine Za (Za (J' (Zd (Zd ?_))))
 rw[if_neg (show ¬_ from λz=>by have z:(!(w.params.followText _)&&(!t.plain&&decide _))=JK:=z;rw[T.pl]at z;simp at z)];exact Za (Zd (Za (wpAny_setEpoch_of g d f (Za (Yf (Zd ⟨_,rfl,_,_,⟨_,Zh _ rfl,rfl⟩,io.lookup,fin⟩))))))
theorem mm{t:Kv}{i:Nat}{e:Int×JO}{Q:Ov->JN->Prop}(h:jx s.heap it a (bL w t.place.toList i) i es.size ep)(T:TB w t es.size)(g:s.heap.get? a=some o)(d:o.data=.set es ep (t))
  (j:(cy w a ep es)[i]?=some e) (fin:∀h',jx h' it a (bL w t.place.toList (i+1)) (i+1) es.size ep->JT it s.heap h'->Q (some e.2) {s with heap:=h'}):wpAny (model prog w) A (pyNext (.ref it)) Q E s:=by
 obtain⟨O,G,c,D⟩:=id h;have ty:s.TypeIs (.ref it) "set_iterator":=⟨O,G,c⟩
 have l:i<=es.size:=by have k:=(Zp.mp j).1;rw[(jv w a ep es).length_eq,ZN]at k;omega
 unfold pyNext;refine Za (LX (ZV ty io (ZQ io ty xQ ?_ (xR _))));refine Za (Zd ?_);refine Za (wpAny_fieldsOf G D ?_);dsimp only;refine Za (M8 g d T.fit ?_);rw[if_neg (by simp)];refine Za ?_;rw[KH,KH,KH];refine jw T g d l ?_;rw[j];refine Za (Mb G D (by simp) ?_);have f:=Z8 (Obj.mapFields (·.setIfInBounds 0 (rawInt (bL w t.place.toList (i+1):Nat)))) G (Mp (KW D _));have b:=KW D (·.setIfInBounds 0 (rawInt (bL w t.place.toList (i+1):Nat)));refine Za (Mb f b (by simp) ?_);refine Zd ⟨_,rfl,Zd (fin _ ⟨_,Z8 (Obj.mapFields (·.setIfInBounds 1 (rawInt ((i:Int)+1)))) f (Mp (KW b _)),?_,?_⟩ ((ZM _ it _).trans (ZM _ it _)))⟩
 ·rw[M6,M6];exact c
 ·rw[KW b (·.setIfInBounds 1 (rawInt ((i:Int)+1)))];simp[rawInt]
theorem se{t:Kv}{Q:Ov->JN->Prop}(c:A.handled=none)(h:jx s.heap it a (bL w t.place.toList es.size) es.size es.size ep)(T:TB w t es.size)(g:s.heap.get? a=some o)(d:o.data=.set es ep (t))
  (fin:∀h',Nh it s.heap h'->Q none {s with heap:=h'}):wpAny (model prog w) A (pyNext (.ref it)) Q E s:=by
 obtain⟨O,G,C,D⟩:=id h;have ty:s.TypeIs (.ref it) "set_iterator":=⟨O,G,C⟩;unfold pyNext;refine Za (LX (ZV (name:=KG "__next__") ty io (ZQ io ty xQ ?_ (xR _))));unfold KN.«set_iterator.__next__»;refine Za (Zd ?_);refine Za (wpAny_fieldsOf G D ?_);dsimp only;refine Za (M8 g d T.fit ?_);rw[if_neg (by simp)];refine Za ?_;rw[KH,KH,KH];refine jw T g d (Zl _) ?_;rw[Kh (by rw[(jv w a ep es).length_eq,ZN];exact Zl _)];dsimp only[Option.map_none];refine Za (Mb G D (by simp) (Za ?_));simp only[newExc,newTuple];refine Za (Yf (Za (m:=firstArgMember _ _) (NH (a:=JS) (by first|rfl| (simp only[firstArgMember];rfl)) (Yf ?_ (by size_fits)))) (by size_fits));simp only[raiseNew];refine Za (wpAny_handled ?_);rw[show A.in1.handled=none from c];refine Za (Zd (wpAny_throw ?_));exact Za (Lj (T:="StopIteration") (b:=JK) ⟨_,Zh _ rfl,rfl⟩ N4 (Zd (fin _ (((ZM ..).extBut.push _).push _))))
theorem Walks.setC(calm:A.handled=none)(hne:a≠it){t:Kv}(T:TB w t es.size)(d:o.data=.set es ep (t)):
  Walks prog w A it [it,a] [it] es.size (λi v=>∃e,(cy w a ep es)[i]?=some e/\v=e.2) (λi h=>jx h it a (bL w t.place.toList i) i es.size ep/\h.get? a=some o) where
 sub:=λb hb=>by simp_all
 frame:=λi h h' st k=>by obtain⟨⟨oi,gi,ri⟩,g⟩:=st;exact⟨⟨_,k _ (by simp) _ gi,ri⟩,k a (by simp) o g⟩
 item:=λi s Q E hi st hQ=>by
  have hl:i<(cy w a ep es).length:=by rw[(jv w a _ _).length_eq];exact hi
  refine mm st.1 T st.2 d (Zm hl) λh' hit' sb=>?_;refine hQ _ _ _ ⟨_,Zm _,rfl⟩ ⟨hit',sb.extBut a o hne st.2⟩ λb o hb e=>sb.extBut b o (λh=>hb (by simp[h])) e
 done:=λs Q E st hQ=>se calm st.1 T st.2 d λh' he=>hQ _ _ λb o hb e=>he b o (λh=>hb (by simp[h])) e
 self:=λi s Q E st hQ=>by obtain⟨⟨oi,gi,ci,di⟩,_⟩:=st;have ty:s.TypeIs (.ref _) _:=⟨_,gi,ci⟩;exact Nt ty xP (ZQ xP ty EO (Zd ⟨_,rfl,_,_,ty,io.lookup,hQ⟩) (EQ _))
theorem ES{t:Kv}{Q:Lv->JN->Prop}(C:A.handled=none)(T:TB w t es.size)(g:s.heap.get? a=some o)(q:o.ExactSet)(d:o.data=.set es ep t)(few:es.size<1000)
  (fin:∀(h':JU) (tk:Nat) (vs:Lv),(∀b o,s.heap.get? b=some o->h'.get? b=some o)->vs.Perm (es.toList.map (·.2))->Q vs {s with heap:=h',toks:=tk}):wpAny (model prog w) A (collect (.ref a)) Q E s:=by
 have N:=Zj g;unfold collect;refine Za (MV (Ki F.entry_proto_collect ?_));rw[J5 F.plain_proto_collect];refine Za (m:=newList []) (Yf (Zd ⟨Lu F.plain_list_iadd _,Ki F.entry_list_iadd ?_⟩));rw[J5 F.plain_list_iadd];generalize p:s.heap.objs.size=S;have z:(s.heap.push {cls:=.type "list",data:=.seq ([]:Lv).toArray}).get? S=some {cls:=.type "list",data:=.seq #[]}:=by rw[<-p];exact Zh _ rfl
 have G:(s.heap.push {cls:=.type "list",data:=.seq ([]:Lv).toArray}).get? a=some o:=Zb _ g;have D:∀b o,s.heap.get? b=some o->(s.heap.push {cls:=.type "list",data:=.seq ([]:Lv).toArray}).get? b=some o:=λ_ _ e=>Zb _ e;generalize s.heap.push {cls:=.type "list",data:=.seq ([]:Lv).toArray}=h at z G D⊢;have ty:Mv {s with heap:=h} (.ref a) "set":=⟨o,G,q.1⟩;show wpAny _ A.in1 (MH (.ref S) (.ref a) (.ref S)) _ _ _;unfold MH;refine Za (Mt ty ?_)
 rw[if_neg (by
  have:S≠a:=by rw[<-p];exact Kk N
  simp[Builtin.List.listSameRef,this])]
 refine Za (sd T G q d ?_);have x:a<h.objs.size:=Zj G;have K:∀b o,h.get? b=some o->(h.push {cls:=.type "set_iterator",data:=.fields #[.int 0 0,.int 0 0,.ref a,.int es.size 0,.int ep 0]}).get? b=some o:=λ_ _ e=>Zb _ e;have k:jx (h.push {cls:=.type "set_iterator",data:=.fields #[.int 0 0,.int 0 0,.ref a,.int es.size 0,.int ep 0]}) h.objs.size a (bL w t.place.toList 0) 0 es.size ep:=⟨_,Zh _ rfl,rfl,rfl⟩;show wpAny _ A.in1 _ _ _ {s with heap:=h.push {cls:=.type "set_iterator",data:=.fields #[.int 0 0,.int 0 0,.ref a,.int es.size 0,.int ep 0]}};generalize h.push {cls:=.type "set_iterator",data:=.fields #[.int 0 0,.int 0 0,.ref a,.int es.size 0,.int ep 0]}=i at K k⊢;have f:Mv {s with heap:=i} (.ref a) "set":=⟨o,K a o G,q.1⟩;refine Za (ZU ?_);unfold Builtin.List.listLengthHint;refine Za (wpAny_specialOf f F.slot_set_len.lookup ?_);have sp:splitId "set.__len__"=some ("set","__len__"):=by decide+kernel
 dsimp only;rw[sp];dsimp only;refine Za (Lj (b:=JK) f (by rw[N6];kernel_rfl) ?_);rw[if_neg (show ¬((!JK)=JK)by decide)];refine KJ ?_;rw[if_pos]
 rotate_left
 ·decide+kernel
 refine Za (Mt f (Zd ?_));refine KJ ?_;rw[if_pos]
 rotate_left
 ·decide+kernel
 refine Za (K1 ?_);have l:=K S _ z;refine Za (m:=Builtin.List.listTouch (.ref S)) (Za (m:=updateSeq S (·.push .none)) (L4 l rfl ?_));have n:=Z8 (JY (·.push JS)) l rfl;refine L4 n rfl ?_;have B:=Z8 (JY (·.pop)) n rfl;have J:∀b o,b≠S->i.get? b=some o->((i.update S (JY (·.push JS))).update S (JY (·.pop))).get? b=some o:=λb o U e=>(ZO _ _ (Ne.symm U)).trans ((ZO _ _ (Ne.symm U)).trans e);have u:a≠S:=by rw[<-p];exact Zu N
 have v:h.objs.size≠S:=Kk (Zj z);have out:S∉[h.objs.size,a]:=by grind
 have W:=(Walks.setC (A:=A.in1) (prog:=prog) (w:=w) (by simpa using C) (Zu x) (it:=h.objs.size) (o:=o) (ep:=ep) T d).toS;refine Zd ⟨Lu F.plain_extend_loop _,codeAny_extend_loopS W (by rw[Le];omega) S out _ es.size 0 _ _ _ rfl (Ks _) ⟨?_,J a o u (K a o G)⟩ B ?_ λs' c c' mv r I=>?_⟩
 ·obtain⟨V,gi,ri⟩:=k;exact⟨V,J _ V v gi,ri⟩
 ·exact ItemsOf.nil _
 ·refine Za (wpAny_load r (Zd ?_));obtain⟨h',g',d',M,L⟩:=s';obtain⟨mh,mg,md,mo,_⟩:=mv;have Y:g'=s.gens:=mg;have eo:L=s.os:=mo;subst Y md eo;refine fin h' M _ (λb O e=>?_) ?_
  ·have hb:=Zj (D b O e);have y:=Zj e;have R:b≠S:=by rw[<-p];exact Zu y
   refine mh b O ?_ (J b O R (K b O (D b O e)));simp only[Zk,ZH,or_false,not_or];exact⟨R,Zu hb⟩
  ·have Z:c.toList=(cy w a ep es).map (·.2):=by
    refine M5 λj=>?_;rw[LC,Km];have hz:(cy w a ep es).length=es.size:=by rw[(jv w a ep es).length_eq,ZN]
    by_cases P:j<c.size
    ·obtain⟨e,h,i⟩:=I.2 j _ (L5 P);rw[L5 P,h,i];rfl
    ·have h0:=I.1;rw[NP (by omega),Kh (by omega)];rfl
   rw[Z];exact(jv w a ep es).map _
open PySem PySem.W PyProof.Rows
noncomputable def aw{b:Type}(c:Nat->Nat->Bool):KasT b->b
 | .ret a=>a
 | .ask i j k=>aw c (k (c i j))
noncomputable def eV{a:Type}(n:Nat)(c:Nat->Nat->Bool):KasT a->Prop
 | .ret _=>True
 | .ask i j k=>i<n/\j<n/\eV n c (k (c i j))
theorem ip{a b:Type}(c:Nat->Nat->Bool)(f:a->KasT b):∀t:KasT a,aw c (t.bind f)=aw c (f (aw c t))
 | .ret _=>rfl
 | .ask i j k=>ip c f (k (c i j))
theorem f9{a d:Type}{n:Nat}{c:Nat->Nat->Bool}{f:a->KasT d}:∀{t:KasT a},eV n c t->eV n c (f (aw c t))->eV n c (t.bind f)
 | .ret _,_,h=>h
 | .ask i j k,H,b=>⟨H.1,H.2.1,f9 H.2.2 b⟩
theorem Jb{a:Type}{n:Nat}{c:Nat->Nat->Bool}{cmp:Nat->Nat->(Bool->JN->Prop)->JN->Prop}{s:JN}(h:∀i j C,i<n->j<n->C (c i j) s->cmp i j C s){G:a->JN->Prop}:∀{t:KasT a},eV n c t->G (aw c t) s->t.kasWp cmp G s
 | .ret _,_,g=>g
 | .ask i j k,H,g=>h i j _ H.1 H.2.1 (Jb h H.2.2 g)
structure c6 (n:Nat)(c:Nat->Nat->Bool):Prop where
 irr:∀i,i<n->c i i=JL
 asym:∀i j,i<n->j<n->c i j=JK->c j i=JL
 ntr:∀i j k,i<n->j<n->k<n->c i j=JL->c j k=JL->c i k=JL
structure eB (n:Nat)(p:Array Nat):Prop where
 size:p.size=n
 perm:p.Perm (JM n).toArray
theorem eB.lt{p:Array Nat}(h:eB n p)(c:0<n)(k:Nat):p.getD k 0<n:=by
 unfold Oj;split
 ·rename_i a;have b:p[k]∈p:=Array.getElem_mem a;have H:p[k]∈(JM n).toArray:=h.perm.mem_iff.mp b;simpa using H
 ·exact c
theorem xS{p q:Array Nat}{i j:Nat}(h:p[i]?=q[j]?):p.getD i 0=q.getD j 0:=by rw[J7,J7,h]
def Up(c:Nat->Nat->Bool)(p:Array Nat)(k:Nat):Prop:=∀i,i+1<k->c (p.getD (i+1) 0) (p.getD i 0)=JL
def Dn(c:Nat->Nat->Bool)(p:Array Nat)(k:Nat):Prop:=∀i,i+1<k->c (p.getD i 0) (p.getD (i+1) 0)=JL
theorem Up.all(o:c6 n c)(H:0<n){p:Array Nat}(P:eB n p)(h:Up c p k):∀d i,i+d<k->c (p.getD (i+d) 0) (p.getD i 0)=JL:=by
 intro d
 induction d with
 |zero=>intro i a;exact o.irr _ (P.lt H _)
 |succ d I=>intro i a;exact o.ntr _ (p.getD (i+d) 0) _ (P.lt H _) (P.lt H _) (P.lt H _) (h (i+d) (by omega)) (I i (by omega))
theorem Up.le(o:c6 n c)(a:0<n){p:Array Nat}(P:eB n p)(h:Up c p k){i j:Nat}(H:i<=j)(b:j<k):c (p.getD j 0) (p.getD i 0)=JL:=by
 have:=h.all o a P (j-i) i (by omega)
 rwa [show i+(j-i)=j by omega]at this
theorem mn{p:Array Nat}(P:eB n p)(i j:Nat):eB n (kas_rev p i j):=⟨by unfold kas_rev;rw[mirror_size];exact P.size,(mirror_perm _ _ _ _).trans P.perm⟩
theorem f_{p:Array Nat}(P:eB n p){i j:Nat}(h:j<=n)(H:i<=k/\k<j):(kas_rev p i j).getD k 0=p.getD (i+j-1-k) 0:=xS (by unfold kas_rev;rw[getElem?_mirror_all (by rw[P.size];exact h),if_pos H])
theorem iq{p:Array Nat}(P:eB n p){i j:Nat}(h:j<=n)(H:¬(i<=k/\k<j)):(kas_rev p i j).getD k 0=p.getD k 0:=xS (by unfold kas_rev;rw[getElem?_mirror_all (by rw[P.size];exact h),if_neg H])
theorem sf(H:0<n){p:Array Nat}(P:eB n p):∀(f m:Nat),Up c p m->1<=m->eV n c (kas_asc p f m)/\m<=aw c (kas_asc p f m)/\aw c (kas_asc p f m)<=m+f/\Up c p (aw c (kas_asc p f m))/\
  (aw c (kas_asc p f m)<m+f->c (p.getD (aw c (kas_asc p f m)) 0) (p.getD (aw c (kas_asc p f m)-1) 0)=JK)
 |0,m,h,g=>⟨trivial,Zl _,Zl _,h,λz=>absurd z (Z6 _)⟩
 |f+1,m,h,g=>by
  unfold kas_asc;simp only[eV,aw];cases e:c (p.getD m 0) (p.getD (m-1) 0)with
  |true=>simp only[if_true,aw,eV,and_true];exact⟨⟨P.lt H _,P.lt H _⟩,Zl _,by omega,h,λ_=>e⟩
  |false=>
   simp only[Zx,if_false]
   have d:Up c p (m+1):=λi l=>by
    by_cases z:i+1<m
    ·exact h i z
    ·have:i=m-1:=by omega
     subst this;rw[show m-1+1=m by omega];exact e
   obtain⟨a,j,k,A,b⟩:=sf H P f (m+1) d (by omega);exact⟨⟨P.lt H _,P.lt H _,a⟩,by omega,by omega,A,λz=>b (by omega)⟩
def py(c:Nat->Nat->Bool)(p:Array Nat)(i j:Nat):Prop:=∀a b,i<=a->a<j->i<=b->b<j->c (p.getD a 0) (p.getD b 0)=JL
theorem xT{p:Array Nat}(P:eB n p){i j:Nat}(H:j<=n)(h:py c p i j):py c (kas_rev p i j) i j:=λa b d e f g=>by rw[f_ P H ⟨d,e⟩,f_ P H ⟨f,g⟩];exact h _ _ (by omega) (by omega) (by omega) (by omega)
theorem jy(o:c6 n c)(b:0<n){p:Array Nat}(P:eB n p){i j:Nat}(H:j<=n)(f:k<=n)(h:Dn c p k)(e:py c p i j):Dn c (kas_rev p i j) k:=λa d=>by
 by_cases Z:i<=a/\a<j
 ·by_cases z:i<=a+1/\a+1<j
  ·exact xT P H e a (a+1) Z.1 Z.2 z.1 z.2
  ·rw[f_ P H Z,iq P H z];have q:=e (i+j-1-a) a (by omega) (by omega) Z.1 Z.2;exact o.ntr _ _ _ (P.lt b _) (P.lt b _) (P.lt b _) q (h a d)
 ·by_cases z:i<=a+1/\a+1<j
  ·rw[iq P H Z,f_ P H z];have q:=e (a+1) (i+j-1-(a+1)) z.1 z.2 (by omega) (by omega);exact o.ntr _ _ _ (P.lt b _) (P.lt b _) (P.lt b _) (h a d) q
  ·rw[iq P H Z,iq P H z];exact h a d
theorem mq(o:c6 n c)(H:0<n):∀(f:Nat) (p:Array Nat) (m q:Nat),eB n p->Dn c p m->py c p (m-(q+1)) m->q+1<=m->m+f<=n->
  eV n c (kas_desc f p m q)/\eB n (aw c (kas_desc f p m q)).1/\Dn c (aw c (kas_desc f p m q)).1 (aw c (kas_desc f p m q)).2.1/\
   py c (aw c (kas_desc f p m q)).1 ((aw c (kas_desc f p m q)).2.1-((aw c (kas_desc f p m q)).2.2+1)) (aw c (kas_desc f p m q)).2.1/\(aw c (kas_desc f p m q)).2.2+1<=(aw c (kas_desc f p m q)).2.1/\m<=(aw c (kas_desc f p m q)).2.1/\(aw c (kas_desc f p m q)).2.1<=m+f
 |0,p,m,q,P,h,e,u,L=>⟨trivial,P,h,e,u,Zl _,Zl _⟩
 |f+1,p,m,q,P,h,e,u,L=>by
  unfold kas_desc;simp only[eV,aw];cases E:c (p.getD m 0) (p.getD (m-1) 0)with
  |true=>
   simp only[if_true];have as:=o.asym _ _ (P.lt H _) (P.lt H _) E
   have one:∀(d:Array Nat),eB n d->Dn c d m->c (d.getD (m-1) 0) (d.getD m 0)=JL->Dn c d (m+1)/\py c d (m+1-(0+1)) (m+1):=λd r D z=>⟨λi J=>by
    by_cases y:i+1<m
    ·exact D i y
    ·have:i=m-1:=by omega
     subst this;rw[show m-1+1=m by omega];exact z,λa b s t C F=>by
    have:a=m:=by omega
    have:b=m:=by omega
    subst a;subst b;exact o.irr _ (r.lt H _)⟩
   by_cases G:q>0
   ·rw[if_pos G];have r:=mn P (m-(q+1)) m;have D:=jy o H P (by omega:m<=n) (by omega:m<=n) h e
    have z:c ((kas_rev p (m-(q+1)) m).getD (m-1) 0) ((kas_rev p (m-(q+1)) m).getD m 0)=JL:=by rw[f_ P (by omega) (by omega),iq P (by omega) (by omega)];exact o.ntr _ (p.getD (m-1) 0) _ (P.lt H _) (P.lt H _) (P.lt H _) (e _ (m-1) (by omega) (by omega) (by omega) (by omega)) as
    obtain⟨K,v⟩:=one _ r D z;obtain⟨A,g,j,k,l,w,x⟩:=mq o H f _ (m+1) 0 r K v (by omega) (by omega);exact⟨⟨P.lt H _,P.lt H _,A⟩,g,j,k,l,by omega,by omega⟩
   ·rw[if_neg G];obtain⟨K,v⟩:=one p P h as;obtain⟨A,g,j,k,l,w,x⟩:=mq o H f p (m+1) 0 P K v (by omega) (by omega);exact⟨⟨P.lt H _,P.lt H _,A⟩,g,j,k,l,by omega,by omega⟩
  |false=>
   simp only[Zx,if_false,eV,aw];cases B:c (p.getD (m-1) 0) (p.getD m 0)with
   |true=>simp only[if_true,aw,eV,and_true];exact⟨⟨P.lt H _,P.lt H _,P.lt H _,P.lt H _⟩,P,h,e,u,Zl _,by omega⟩
   |false=>
    simp only[Zx,if_false]
    have D:Dn c p (m+1):=λi J=>by
     by_cases y:i+1<m
     ·exact h i y
     ·have:i=m-1:=by omega
      subst this;rw[show m-1+1=m by omega];exact B
    have I:py c p (m+1-(q+1+1)) (m+1):=λa b s t C F=>by
     have R:∀a,m+1-(q+1+1)<=a->a<m+1->c (p.getD a 0) (p.getD (m-1) 0)=JL:=λa s t=>by
      by_cases y:a=m
      ·subst y;exact E
      ·exact e a (m-1) (by omega) (by omega) (by omega) (by omega)
     have M:∀a,m+1-(q+1+1)<=a->a<m+1->c (p.getD (m-1) 0) (p.getD a 0)=JL:=λa s t=>by
      by_cases y:a=m
      ·subst y;exact B
      ·exact e (m-1) a (by omega) (by omega) (by omega) (by omega)
     exact o.ntr _ _ _ (P.lt H _) (P.lt H _) (P.lt H _) (R a s t) (M b C F)
    obtain⟨A,g,j,k,l,w,x⟩:=mq o H f p (m+1) (q+1) P D I (by omega) (by omega);exact⟨⟨P.lt H _,P.lt H _,P.lt H _,P.lt H _,A⟩,g,j,k,l,by omega,by omega⟩
structure BU (n:Nat)(c:Nat->Nat->Bool)(r:Nat×Array Nat):Prop where
 pa:eB n r.2
 up:Up c r.2 r.1
 pos:1<=r.1
 le:r.1<=n
theorem xU(e:0<n){p:Array Nat}(P:eB n p){m:Nat}(h:Dn c p m)(h1:1<=m)(H:m<=n):eV n c (kas_tail3 m n p)/\BU n c (aw c (kas_tail3 m n p)):=by
 have a:=mn P 0 m
 have u:Up c (kas_rev p 0 m) m:=λi j=>by
  rw[f_ P H (by omega),f_ P H (by omega)];have:=h (0+m-1-(i+1)) (by omega)
  rwa [show 0+m-1-(i+1)+1=0+m-1-i by omega]at this
 obtain⟨A,b,f,d,g⟩:=sf (c:=c) e a (n-m) m u h1;unfold kas_tail3;rw[ip];exact⟨f9 A trivial,a,d,ZD h1 b,by show aw c (kas_asc (kas_rev p 0 m) (n-m) m)<=n;omega⟩
theorem xV(o:c6 n c)(H:0<n){p:Array Nat}(P:eB n p){m:Nat}(h:Dn c p (m+1))(u:m+1<=n):eV n c (kas_descPart m n p)/\BU n c (aw c (kas_descPart m n p)):=by
 obtain⟨d,A,e,g,i,j,k⟩:=mq o H (n-(m+1)) p (m+1) 0 P h (λa b l q r s=>by
  have:a=b:=by omega
  subst this;exact o.irr _ (P.lt H _)) (by omega) (by omega)
 unfold kas_descPart;rw[ip];by_cases z:(aw c (kas_desc (n-(m+1)) p (m+1) 0)).2.2>0
 ·have f:=mn A ((aw c (kas_desc (n-(m+1)) p (m+1) 0)).2.1-((aw c (kas_desc (n-(m+1)) p (m+1) 0)).2.2+1)) (aw c (kas_desc (n-(m+1)) p (m+1) 0)).2.1;have D:=jy o H A (by omega) (by omega:(aw c (kas_desc (n-(m+1)) p (m+1) 0)).2.1<=n) e g;have t:=xU (c:=c) H f D (by omega) (by omega);rw[if_pos z];exact⟨f9 d (by rw[if_pos z];exact t.1),t.2⟩
 ·have t:=xU (c:=c) H A e (by omega) (by omega);rw[if_neg z];exact⟨f9 d (by rw[if_neg z];exact t.1),t.2⟩
theorem ET(o:c6 n c)(H:2<=n){p:Array Nat}(P:eB n p):eV n c (kas_count n p)/\BU n c (aw c (kas_count n p)):=by
 have h:0<n:=by omega
 obtain⟨j,d,w,A,l⟩:=sf (c:=c) h P (n-1) 1 (λi f=>by omega) (Zl 1);unfold kas_count;rw[ip];generalize s:aw c (kas_asc p (n-1) 1)=m at*
 have k:eV n c (if(m==n)=JK then KasT.ret (m,p)else if m>1 then .ask (p.getD 0 0) (p.getD (m-1) 0) λc=>if c=JK then .ret (m,p)else kas_descPart m n (kas_rev p 0 m)else kas_descPart m n p)/\
   BU n c (aw c (if(m==n)=JK then KasT.ret (m,p)else if m>1 then .ask (p.getD 0 0) (p.getD (m-1) 0) λc=>if c=JK then .ret (m,p)else kas_descPart m n (kas_rev p 0 m)else kas_descPart m n p)):=by
  by_cases e:(m==n)=JK
  ·rw[if_pos e];exact⟨trivial,P,A,d,by show m<=n;omega⟩
  ·rw[if_neg e];have t:m≠n:=by simpa using e
   have G:=l (by omega);have as:=o.asym _ _ (P.lt h _) (P.lt h _) G;by_cases z:m>1
   ·rw[if_pos z];simp only[eV,aw];cases r:c (p.getD 0 0) (p.getD (m-1) 0)with
    |true=>simp only[if_true,eV,aw,and_true];exact⟨⟨P.lt h _,P.lt h _⟩,P,A,d,by show m<=n;omega⟩
    |false=>
     simp only[Zx,if_false];have eq:py c p 0 m:=λa b _ H _ x=>by have R:=A.le o h P (Ks a) H;have u:=A.le o h P (show b<=m-1 by omega) (by omega);exact o.ntr _ (p.getD (m-1) 0) _ (P.lt h _) (P.lt h _) (P.lt h _) (o.ntr _ (p.getD 0 0) _ (P.lt h _) (P.lt h _) (P.lt h _) R r) u
     have g:=mn P 0 m;have E:=xT P (by omega:m<=n) eq
     have D:Dn c (kas_rev p 0 m) (m+1):=λi f=>by
      by_cases y:i+1<m
      ·exact E i (i+1) (by omega) (by omega) (by omega) y
      ·have:i=m-1:=by omega
       subst this;rw[f_ P (by omega) (by omega),iq P (by omega) (by omega),show m-1+1=m by omega];exact o.ntr _ (p.getD (m-1) 0) _ (P.lt h _) (P.lt h _) (P.lt h _) (eq _ (m-1) (by omega) (by omega) (by omega) (by omega)) as
     obtain⟨T,v⟩:=xV o h g D (by omega);exact⟨⟨P.lt h _,P.lt h _,T⟩,v⟩
   ·rw[if_neg z];have q:m=1:=by omega
    subst q;refine xV o h P (λi f=>?_) (by omega);have:i=0:=by omega
    subst this;exact as
 exact⟨f9 j (by rw[s];exact k.1),k.2⟩
theorem sg(o:c6 n c)(h:0<n){p:Array Nat}(P:eB n p){k:Nat}(u:Up c p k):∀(f l r:Nat),r<=k->l<=r->r-l<=f->(∀i,i<l->c (p.getD k 0) (p.getD i 0)=JL)->(∀i,r<=i->i<k->c (p.getD k 0) (p.getD i 0)=JK)->
  eV n c (kas_place p k f l r)/\aw c (kas_place p k f l r)<=k/\(∀i,i<aw c (kas_place p k f l r)->c (p.getD k 0) (p.getD i 0)=JL)/\(∀i,aw c (kas_place p k f l r)<=i->i<k->c (p.getD k 0) (p.getD i 0)=JK)
 |0,l,r,b,t,q,H,a=>by
  have:l=r:=by omega
  subst this;exact⟨trivial,b,H,a⟩
 |f+1,l,r,b,t,q,H,a=>by
  unfold kas_place;by_cases z:l>=r
  ·rw[if_pos z];have:l=r:=by omega
   subst this;exact⟨trivial,b,H,a⟩
  ·rw[if_neg z];simp only[eV,aw];cases E:c (p.getD k 0) (p.getD ((l+r)/2) 0)with
   |true=>
    simp only[if_true]
    have j:∀i,(l+r)/2<=i->i<k->c (p.getD k 0) (p.getD i 0)=JK:=λi m s=>by
     cases e:c (p.getD k 0) (p.getD i 0)with
     |true=>rfl
     |false=>have:=o.ntr _ (p.getD i 0) _ (P.lt h _) (P.lt h _) (P.lt h _) e (u.le o h P m s);rw[E]at this;cases this
    obtain⟨B,d⟩:=sg o h P u f l ((l+r)/2) (by omega) (by omega) (by omega) H j;exact⟨⟨P.lt h _,P.lt h _,B⟩,d⟩
   |false=>
    simp only[Zx,if_false]
    have g:∀i,i<(l+r)/2+1->c (p.getD k 0) (p.getD i 0)=JL:=λi m=>
     o.ntr _ (p.getD ((l+r)/2) 0) _ (P.lt h _) (P.lt h _) (P.lt h _) E (u.le o h P (by omega) (by omega))
    obtain⟨B,d⟩:=sg o h P u f ((l+r)/2+1) r b (by omega) (by omega) g a;exact⟨⟨P.lt h _,P.lt h _,B⟩,d⟩
theorem jz(o:c6 n c)(H:0<n):∀(f:Nat) (p:Array Nat) (k:Nat),eB n p->Up c p k->k+f=n->eV n c (kas_bin f p k)/\eB n (aw c (kas_bin f p k))/\Up c (aw c (kas_bin f p k)) n
 |0,p,k,P,u,h=>by
  have:k=n:=by omega
  subst this;exact⟨trivial,P,u⟩
 |f+1,p,k,P,u,h=>by
  unfold kas_bin;rw[ip];obtain⟨A,t,j,m⟩:=sg o H P u k 0 k (Zl _) (Ks _) (by omega) (λi b=>absurd b (Nat.not_lt_zero _)) (λi v w=>by omega);generalize E:aw c (kas_place p k k 0 k)=l at*;have g:eB n (bubble p k (k-l)):=⟨by rw[bubble_size];exact P.size,(bubble_perm _ _ _).trans P.perm⟩
  have a:∀i,(bubble p k (k-l)).getD i 0=if i=l then p.getD k 0 else if l<i/\i<=k then p.getD (i-1) 0 else p.getD i 0:=λi=>by
   have e:=getElem?_bubble (xs:=p) (src:=k) (by rw[P.size];omega) (k-l) (by omega) i;rw[show k-(k-l)=l by omega]at e;rw[J7,e];by_cases z:i=l
   ·rw[if_pos z,if_pos z,J7]
   ·rw[if_neg z,if_neg z];by_cases Z:l<i/\i<=k
    ·rw[if_pos Z,if_pos Z,J7]
    ·rw[if_neg Z,if_neg Z,J7]
  have U:Up c (bubble p k (k-l)) (k+1):=λi b=>by
   rw[a,a];by_cases z:i+1=l
   ·rw[if_pos z,if_neg (by omega),if_neg (by omega)];exact j i (by omega)
   ·rw[if_neg z];by_cases Z:l<i+1/\i+1<=k
    ·rw[if_pos Z];by_cases d:i=l
     ·rw[if_pos d];have:=m i (by omega) (by omega);rw[show i+1-1=i by omega];exact o.asym _ _ (P.lt H _) (P.lt H _) this
     ·rw[if_neg d,if_pos (by omega)];have:=u (i-1) (by omega)
      rwa [show i-1+1=i+1-1 by omega]at this
    ·rw[if_neg Z,if_neg (by omega),if_neg (by omega)];exact u i (by omega)
  obtain⟨B,q,r⟩:=jz o H f (bubble p k (k-l)) (k+1) g U (by omega);exact⟨f9 A (by rw[E];exact B),q,r⟩
theorem mr(o:c6 n c)(h:2<=n):eV n c (kas_sort n)/\eB n (aw c (kas_sort n))/\Up c (aw c (kas_sort n)) n:=by
 have P:eB n (JX (JM n)):=⟨by simp,.refl _⟩;obtain⟨A,a⟩:=ET o h P;unfold kas_sort;rw[ip];by_cases z:(aw c (kas_count n (JX (JM n)))).1<n
 ·have e:max (aw c (kas_count n (JX (JM n)))).1 1=(aw c (kas_count n (JX (JM n)))).1:=Nat.max_eq_left a.pos;obtain⟨b,B,d⟩:=jz o (by omega) (n-max (aw c (kas_count n (JX (JM n)))).1 1) _ (max (aw c (kas_count n (JX (JM n)))).1 1) a.pa (by rw[e];exact a.up) (by omega);rw[if_pos z];exact⟨f9 A (by rw[if_pos z];exact b),B,d⟩
 ·rw[if_neg z];have e:(aw c (kas_count n (JX (JM n)))).1=n:=by have:=a.le;omega
  refine⟨f9 A (by rw[if_neg z];trivial),a.pa,?_⟩;have:=a.up
  rwa [e]at this
end Py
section
set_option autoImplicit false
namespace Py
open PySem PySem.W PySem.Spec PyProof.Rows
noncomputable def bM(n:Nat)(c:Nat->Nat->Bool)(i:Nat):Nat:=((JM n).filter λj=>c j i).length
section
variable {κ:LK}
theorem ms(o:c6 its.length c)(l:∀i j,i<its.length->j<its.length->its.getD i JS=its.getD j JS->bM its.length c i=bM its.length c j)(k:2<=its.length)(H:its.length<64)
  (b:∀i j C,i<its.length->j<its.length->C (c i j) s->kas_ask prog w A κ its i j C s) {Q:SortSt->JN->Prop}
  (h:∀(S:SortSt) (p:List Nat),failedOf S=none->(arrOf S).map (·.2)=JX (p.map λi=>its.getD i JS)->p.Perm (JM its.length)->p.Pairwise (λi j=>c j i=JL)->Q S s):
  wpAny (model prog w) A ((sortRuns').run (Oe κ (its.toArray.zip its.toArray) #[] 7 none)) (λr s'=>Q r.2 s') E s:=by
 obtain⟨x,q,y⟩:=mr o k;have P:(aw c (kas_sort its.length)).toList.Perm (JM its.length):=Array.perm_iff_toList_perm.mp q.perm
 have v:(aw c (kas_sort its.length)).toList.Pairwise (λi j=>c j i=JL):=by
  rw[Lb];intro i j m n f;have u:(aw c (kas_sort its.length)).size=its.length:=q.size;have d:i<(aw c (kas_sort its.length)).size:=by simpa using m
  have g:j<(aw c (kas_sort its.length)).size:=by simpa using n
  have:=y.le o (by omega) q (Lz f) (by omega:j<its.length);simpa[Oj,d,g]using this
 have a:(kas_sort its.length).kasWp (kas_ask prog w A κ its) (λp s'=>p=aw c (kas_sort its.length)/\s'=s) s:=Jb b x ⟨rfl,rfl⟩
 have R:=kat_run (E:=E) (ks:=its) rfl k H (Q:=Q)
  (λp S s' D z Z B=>by obtain⟨rfl,rfl⟩:=B;exact h S _ Z (kat_snds rfl z) P v) a
 exact Kr R (λr s' t=>t) λ_ _ e=>e
end
end Py
end
namespace Py
structure gH (P:D->Prop)(f:D->D->Bool):Prop where
 irr:∀x,P x->f x x=JL
 asym:∀x y,P x->P y->f x y=JK->f y x=JL
 ntr:∀x y z,P x->P y->P z->f x y=JL->f y z=JL->f x z=JL
 tot:∀x y,P x->P y->f x y=JL->f y x=JL->x=y
section
variable {P:D->Prop}{f:D->D->Bool}
theorem xW(o:gH P f):∀(xs:List D),(∀x∈xs,P x)->bO f xs xs=JL
 | [],_=>rfl
 |x::xs,h=>by unfold bO;rw[o.irr x (h x Ze)];simpa using xW o _ λy H=>h y (Zc _ H)
theorem xX(o:gH P f):∀(xs ys:List D),(∀x∈xs,P x)->(∀x∈ys,P x)->bO f xs ys=JK->bO f ys xs=JL
 | [],[],_,_,h=>rfl
 | [],_::_,_,_,_=>rfl
 |_::_,[],_,_,h=>by cases h
 |x::xs,y::ys,a,b,h=>by
  unfold bO at h⊢;cases e:f x y with
  |true=>rw[o.asym x y (a x Ze) (b y Ze) e];simp
  |false=>
   rw[e]at h;cases E:f y x with
   |true=>simp_all
   |false=>rw[E]at h;exact xX o _ _ (λz H=>a z (Zc _ H)) (λz H=>b z (Zc _ H)) h
theorem lex_tot(o:gH P f):∀(xs ys:List D),(∀x∈xs,P x)->(∀x∈ys,P x)->bO f xs ys=JL->bO f ys xs=JL->xs=ys
 | [],[],_,_,_,_=>rfl
 | [],_::_,_,_,h,_=>by cases h
 |_::_,[],_,_,_,h=>by cases h
 |x::xs,y::ys,b,c,h,H=>by
  unfold bO at h H;cases e:f x y with
  |true=>simp_all
  |false=>
   cases E:f y x with
   |true=>simp_all
   |false=>rw[e,E]at h H;rw[o.tot x y (b x Ze) (c y Ze) e E,lex_tot o _ _ (λz a=>b z (Zc _ a)) (λz a=>c z (Zc _ a)) h H]
theorem xY(o:gH P f):∀(xs ys zs:List D),(∀x∈xs,P x)->(∀x∈ys,P x)->(∀x∈zs,P x)->bO f xs ys=JL->bO f ys zs=JL->bO f xs zs=JL
 | [],[],zs,_,_,_,_,h=>h
 | [],_::_,_,_,_,_,h,_=>by cases h
 |_::_,_,[],_,_,_,_,_=>rfl
 |x::xs,[],z::zs,_,_,_,_,h=>by cases h
 |x::xs,y::ys,z::zs,g,i,j,H,a=>by
  have p:=g x Ze;have b:=i y Ze;have c:=j z Ze;unfold bO at H a⊢;cases e:f x y with
  |true=>simp_all
  |false=>
   cases E:f y z with
   |true=>simp_all
   |false=>
    rw[e]at H;rw[E]at a;rw[o.ntr x y z p b c e E];cases d:f z x with
    |true=>rfl
    |false=>rw[o.ntr y z x b c p E d]at H;rw[o.ntr z x y c p b d e]at a;exact xY o _ _ _ (λw hw=>g w (Zc _ hw)) (λw hw=>i w (Zc _ hw)) (λw hw=>j w (Zc _ hw)) H a
end
theorem df(h:az .int d=JK):∃i,d=.int i:=by cases d<;>first|lia| (simp[az]at h)
theorem dz{t:eA}(h:az (.seq t) d=JK):∃xs,d=.tup xs/\∀x∈xs,az t x=JK:=by
 cases d with
 |tup xs=>exact⟨_,rfl,λx H=>Zv.mp h x H⟩
 |_=>simp[az]at h
theorem g9:∀(t:eA),bY t=JK->gH (λd=>az t d=JK) (bQ t)
 | .int,_=>by
  refine⟨λx h=>?_,λx y H a h=>?_,λx y z H a f b c=>?_,λx y H a b c=>?_⟩
  ·obtain⟨i,rfl⟩:=df h;simp[bQ]
  ·obtain⟨i,rfl⟩:=df H;obtain⟨j,rfl⟩:=df a;simp[bQ]at h⊢;omega
  ·obtain⟨i,rfl⟩:=df H;obtain⟨j,rfl⟩:=df a;obtain⟨k,rfl⟩:=df f;simp[bQ]at b c⊢;omega
  ·obtain⟨i,rfl⟩:=df H;obtain⟨j,rfl⟩:=df a;simp[bQ]at b c;congr 1;omega
 | .seq t,h=>by
  have o:=g9 t h;refine⟨λx h=>?_,λx y H a h=>?_,λx y z H a f b c=>?_,λx y H a b c=>?_⟩
  ·obtain⟨X,rfl,k⟩:=dz h;exact xW o X k
  ·obtain⟨X,rfl,K⟩:=dz H;obtain⟨Y,rfl,e⟩:=dz a;exact xX o X Y K e h
  ·obtain⟨X,rfl,K⟩:=dz H;obtain⟨Y,rfl,e⟩:=dz a;obtain⟨Z,rfl,g⟩:=dz f;exact xY o X Y Z K e g b c
  ·obtain⟨X,rfl,K⟩:=dz H;obtain⟨Y,rfl,e⟩:=dz a;exact Z5 D.tup (lex_tot o X Y K e b c)
noncomputable def dO(t:eA)(d e:D):Bool:= !bQ t d e&& !bQ t e d
theorem EU{t:eA}(a:bY t=JK){e:D}(h1:az t d=JK)(H:az t e=JK)(h:dO t d e=JK):d=e:=by unfold dO at h;simp at h;exact(g9 t a).tot d e h1 H h.1 h.2
theorem mu{f:D->D->Bool}{x:D}:bO f (x::xs) (y::ys)=if f x y=JK then JK else if f y x=JK then JL else bO f xs ys:=rfl
theorem xZ{t:eA}(a:bY t=JK):∀(xs ys:List D),(∀x∈xs,az t x=JK)->(∀x∈ys,az t x=JK)->dO (.seq t) (.tup xs) (.tup ys)=((JR (dO t) xs ys).all id&&xs.length==ys.length)
 | [],[],_,_=>rfl
 | [],y::ys,_,_=>rfl
 |x::xs,[],_,_=>rfl
 |x::xs,y::ys,h,H=>by
  have i:=xZ a _ _ (λw hw=>h w (Zc _ hw)) λw hw=>H w (Zc _ hw);cases e:bQ t x y with
  |true=>simp[dO,bQ,bO,e]
  |false=>
   cases E:bQ t y x with
   |true=>simp[dO,bQ,bO,E]
   |false=>
    have b:dO t x y=JK:=by simp[dO,e,E]
    have c:dO (.seq t) (.tup (x::xs)) (.tup (y::ys))=dO (.seq t) (.tup xs) (.tup ys):=by show(!bO _ _ _&& !bO _ _ _)=(!bO _ _ _&& !bO _ _ _);rw[mu,mu,e,E];simp
    simp_all
theorem allO_map(f:D->D->Bool):∀(xs ys:List D) (g:D->D->Option Bool),(∀x∈xs,∀y∈ys,g x y=some (f x y))->bm (JR g xs ys)=some ((JR f xs ys).all id)
 | [],_,_,_=>rfl
 |_::_,[],_,_=>rfl
 |x::xs,y::ys,g,h=>by
  have i:=allO_map f xs ys g λa H b d=>h a (Zc _ H) b (Zc _ d)
  show(match g x y,bm (JR g xs ys)with
   |some b,some c=>some (b&&c)
   |_,_=>none)=_
  rw[h x Ze y Ze,i];rfl
theorem x_{t:eA}(i:bY t=JK){eq lt:D->D->Option Bool}:∀(xs ys:List D),(∀x∈xs,az t x=JK)->(∀x∈ys,az t x=JK)->(∀x∈xs,∀y∈ys,eq x y=some (dO t x y)/\lt x y=some (bQ t x y))->lA eq lt xs ys=some (bO (bQ t) xs ys)
 | [],[],_,_,_=>rfl
 | [],_::_,_,_,_=>rfl
 |_::_,[],_,_,_=>rfl
 |x::xs,y::ys,H,d,h=>by
  have I:=x_ i xs ys (λw hw=>H w (Zc _ hw)) (λw hw=>d w (Zc _ hw)) λa f b g=>h a (Zc _ f) b (Zc _ g);obtain⟨K,k⟩:=h x Ze y Ze;have p:=H x Ze;have P:=d y Ze;unfold lA;rw[K,mu];cases e:bQ t x y with
  |true=>
   have E:dO t x y=JL:=by simp[dO,e]
   rw[E];show lt x y=_;rw[k,e];rfl
  |false=>
   cases c:bQ t y x with
   |true=>
    have E:dO t x y=JL:=by simp[dO,e,c]
    rw[E];show lt x y=_;rw[k,e];rfl
   |false=>
    have E:dO t x y=JK:=by simp[dO,e,c]
    rw[E];exact I
theorem EV(S:aa):∀(t:eA),bY t=JK->∀n,cS t<=n->∀d e,az t d=JK->az t e=JK->cJ S n d e=some (dO t d e)/\cY S n d e=some (bQ t d e)
 | .int,_,0,h,_,_,_,_=>by simp[cS]at h
 | .int,_,n+1,_,d,e,a,b=>by
  obtain⟨i,rfl⟩:=df a;obtain⟨j,rfl⟩:=df b;refine⟨?_,rfl⟩;show some (i==j)=some (!decide (i<j)&& !decide (j<i));congr 1;by_cases z:i=j
  ·subst z;simp
  ·rcases Int.lt_or_gt_of_ne z with y|y
   ·simp[z,y]
   ·have:¬i<j:=by omega
    simp[z,y]
 | .seq t,H,0,h,_,_,_,_=>by simp[cS]at h
 | .seq t,H,n+1,h,d,e,a,b=>by obtain⟨X,rfl,k⟩:=dz a;obtain⟨Y,rfl,K⟩:=dz b;have I:=EV S t H n (by simpa[cS]using h);refine⟨?_,x_ (t:=t) H X Y k K λx c y f=>I x y (k x c) (K y f)⟩;show(bm (JR (cJ S n) X Y)).map (· &&X.length==Y.length)=_;rw[allO_map (dO t) X Y _ λx c y f=>(I x y (k x c) (K y f)).1,xZ (t:=t) H X Y k K];rfl
theorem mw(f:D->D->Bool)(x:D):∀l,(cR f x l).Perm (x::l)
 | []=>.refl _
 |y::Y=>by
  unfold cR;split
  ·exact .refl _
  ·exact((mw f x _).cons y).trans (.swap _ _ _)
theorem ya(f:D->D->Bool)(xs:List D):(eZ f xs).Perm xs:=by
 have k:∀(xs a:List D),(xs.foldl (λa x=>cR f x a) a).Perm (a++xs):=by
  intro xs
  induction xs with
  |nil=>simp_all
  |cons x xs i=>intro a;exact(i _).trans (((mw f x _).append_right _).trans K_.symm)
 simpa[eZ]using k _ []
theorem yb{P:D->Prop}{f:D->D->Bool}(o:gH P f)(x:D)(p:P x):∀l,(∀y∈l,P y)->l.Pairwise (λa b=>f b a=JL)->(cR f x l).Pairwise (λa b=>f b a=JL)
 | [],_,_=>by simp[cR]
 |y::j,d,h=>by
  unfold cR;have e:=d y Ze;obtain⟨g,i⟩:=ZG.mp h;split
  ·rename_i c;refine ZG.mpr ⟨λz H=>?_,h⟩;have Y:=o.asym x y p e c;rcases Zk.mp H with rfl|H
   ·exact Y
   ·exact o.ntr z y x (d z (Zc _ H)) e p (g z H) Y
  ·refine ZG.mpr ⟨λz H=>?_,yb o x p _ (λw hw=>d w (Zc _ hw)) i⟩;rcases Zk.mp ((mw f x _).mem_iff.mp H)with rfl|H
   ·simp_all
   simp_all
theorem EW{P:D->Prop}{f:D->D->Bool}(o:gH P f)(xs:List D)(e:∀x∈xs,P x):(eZ f xs).Pairwise (λa b=>f b a=JL):=by
 have k:∀(xs A:List D),(∀x∈xs,P x)->(∀x∈A,P x)->A.Pairwise (λa b=>f b a=JL)->(xs.foldl (λA x=>cR f x A) A).Pairwise λa b=>f b a=JL:=by
  intro xs
  induction xs with
  |nil=>intro A _ _ h;exact h
  |cons x xs i=>
   intro A c d h;have p:=c x Ze;refine i _ (λy H=>c y (Zc _ H)) (λy H=>?_) (yb o x p _ d h);rcases Zk.mp ((mw f x _).mem_iff.mp H)with rfl|H
   ·exact p
   simp_all
 exact k _ _ e (by simp) .nil
theorem EX{t:eA}(f:bY t=JK)(h:∀x∈xs,az t x=JK)(p:ys.Perm xs)(s:ys.Pairwise (λa b=>bQ t b a=JL)):ys=eZ (bQ t) xs:=by have o:=g9 t f;exact Nj (λa b d e H c=>o.tot a b (h a (p.mem_iff.mp d)) (h b ((ya _ _).mem_iff.mp e)) c H) s (EW o _ h) (p.trans (ya _ _).symm)
open PySem PySem.W PySem.Spec PyProof.Rows
def gJ(its:Lv)(c:Nat->Nat->Bool)(out:Lv):Prop:=∃p:List Nat,out=p.map (λi=>its.getD i JS)/\p.Perm (JM its.length)/\p.Pairwise (λi j=>c j i=JL)
theorem yc{V:Nat}{P:PySem.Fin->JN->Prop}(B:s.heap.get? a=some (seqObj "list" its.toArray V))(D:its.length<64)
  (I:2<=its.length->∃κ:LK,c6 its.length c/\(∀i j,i<its.length->j<its.length->its.getD i JS=its.getD j JS->bM its.length c i=bM its.length c j)/\∀h':JU,(∀b o,b≠a->s.heap.get? b=some o->h'.get? b=some o)->
   (∀(J:LK->JN->Prop),J κ {s with heap:=h'}->wpAny (model prog w) A (keyKind' its.toArray) J E {s with heap:=h'})/\
   ∀i j C,i<its.length->j<its.length->C (c i j) {s with heap:=h'}->kas_ask prog w A κ its i j C {s with heap:=h'})
  (M:∀h' q out,(∀b o,b≠a->s.heap.get? b=some o->h'.get? b=some o)->h'.get? a=some (seqObj "list" (JX out) q)->gJ its c out->P (.done (.ret .none)) {s with heap:=h'}):
  wpAny (model prog w) A (KN.«list.sort» ⟨[.ref a],[]⟩) P E s:=by
 have l:its.length<=sizeLine:=by rw[Le];omega
 have Y:a<s.heap.objs.size:=Zj B;have W:=ZM s.heap a (JY λ_=>(#[]:Av));obtain⟨u,x⟩:∃u,(s.heap.update a (JY λ_=>(#[]:Av))).get? a=some (seqObj "list" #[] u):=⟨_,get?_update_seq B λ_=> #[]⟩
 have k:∀b o,b≠a->s.heap.get? b=some o->(((s.heap.update a (JY λ_=>(#[]:Av))).push (seqObj "tuple" its.toArray 0)).push (seqObj "list" #[] 0)).get? b=some o:=λb o z e=>
  Zb _ (Zb _ ((W.2 b z).trans e))
 have m:(((s.heap.update a (JY λ_=>(#[]:Av))).push (seqObj "tuple" its.toArray 0)).push (seqObj "list" #[] 0)).get? a=some (seqObj "list" #[] u):=Zb _ (Zb _ x);rw[list_sort_plain];refine Za (listItems_at B rfl ?_);refine Za (listUpdate_at B rfl ?_ (by rw[ZS];exact l) (Ks _));refine Za (seqEpoch_at x rfl ?_);refine Za (N3 ?_ (by show its.length<=_;exact l));refine Za (Ol ?_ (Ks _));refine ZU ?_;show wpAny (model prog w) A _ P E {s with heap:=((s.heap.update a (JY λ_=>(#[]:Av))).push (seqObj "tuple" its.toArray 0)).push (seqObj "list" #[] 0)};generalize((s.heap.update a (JY λ_=>(#[]:Av))).push (seqObj "tuple" its.toArray 0)).push (seqObj "list" #[] 0)=g at*
 have fin:∀(S:SortSt) (out:Lv),(arrOf S).map (·.2)=JX out->failedOf S=none->out.length=its.length->gJ its c out->
   wpAny (model prog w) A (do
    let t:=(<-seqEpoch a) !=u
    M9 (.ref a) λ_=>(arrOf S).map (·.2)
    if let some e:=failedOf S then rule "list.sort.comparison-raised";throw e
    if t then rule "list.sort.modified";raiseError "ValueError" "list modified during sort"
    ret .none) P E {s with heap:=g}:=by
  intro S out H v d F;have X:=ZM g a (JY λ_=>JX out);obtain⟨q,G⟩:∃q,(g.update a (JY λ_=>JX out)).get? a=some (seqObj "list" (JX out) q):=⟨_,get?_update_seq m λ_=>JX out⟩;rw[H];refine Za (seqEpoch_at m rfl ?_);refine Za (listUpdate_at m rfl ?_ (Ks _) (by rw[ZS,d];exact Nat.le_succ_of_le l));rw[v];simp only[bne_self_eq_false,Zx,if_false];exact Zd (M _ q out (λb o z e=>(X.2 b z).trans (k b o z e)) G F)
 by_cases n:2<=its.length
 ·have f:¬its.toArray.size<2:=by rw[ZS];omega
  rw[if_neg f,if_neg f];obtain⟨κ,o,y,I⟩:=I n;obtain⟨T,U⟩:=I g k;refine Za (T _ ?_)
  have R:=ms (E:=E) o y n D U (Q:=λS L=>L={s with heap:=g}/\failedOf S=none/\∃out:Lv,(arrOf S).map (·.2)=JX out/\out.length=its.length/\gJ its c out)
   (λS p v H K O=>⟨rfl,v,_,H,by rw[Zi,K.length_eq,K2],p,rfl,K,O⟩)
  refine Za (Kr R (λr L N=>?_) λ_ _ e=>e);obtain⟨⟨⟩,S⟩:=r;obtain⟨rfl,v,out,H,d,F⟩:=N;exact fin S _ H v d F
 ·have f:its.toArray.size<2:=by rw[ZS];omega
  rw[if_pos f,if_pos f];refine Za (Zd ?_)
  show wpAny (model prog w) A (do
    let t:=(<-seqEpoch a) !=u
    M9 (.ref a) λ_=>(arrOf (Oe general' (its.toArray.zip its.toArray) #[] 7 none)).map (·.2)
    if let some e:=failedOf (Oe general' (its.toArray.zip its.toArray) #[] 7 none)then rule "list.sort.comparison-raised";throw e
    if t then rule "list.sort.modified";raiseError "ValueError" "list modified during sort"
    ret .none) P E {s with heap:=g}
  refine fin _ its ?_ rfl rfl ⟨JM its.length,?_,.refl _,?_⟩
  ·show(its.toArray.zip its.toArray).map (·.2)=its.toArray;apply Array.toList_inj.mp;rw[M7,Array.toList_zip];exact OZ (Zl _)
  ·refine Mc (by simp) λi g n=>?_;simp[g]
  ·match its,n with
   | [],_=>simp
   | [_],_=>simp
   |_::_::_,n=>simp at n
end Py
namespace Py
open PySem PySem.W PySem.Spec PyProof.Rows L2
theorem EY{b:Bool}{l:JP}{Q:Vs}(x:bw b s.heap l its.toArray)(g:its.length<64)
  (r:2<=its.length->∃κ:LK,c6 its.length c/\(∀i j,i<its.length->j<its.length->its.getD i JS=its.getD j JS->bM its.length c i=bM its.length c j)/\∀h':JU,(∀b o,s.heap.get? b=some o->h'.get? b=some o)->
   (∀(E':Vs) (u:LK->JN->Prop),u κ {s with heap:=h'}->wpAny (model prog w) A.in1.in1 (keyKind' its.toArray) u E' {s with heap:=h'})/\
   ∀i j C,i<its.length->j<its.length->C (c i j) {s with heap:=h'}->kas_ask prog w A.in1.in1 κ its i j C {s with heap:=h'})
  (z:∀(h1 h':JU) f out,(∀b o,s.heap.get? b=some o->h1.get? b=some o)->(∀b o,h1.get? b=some o->h'.get? b=some o)->h'.get? h1.objs.size=some (seqObj "list" (JX out) f)->gJ its c out->Q (.ref h1.objs.size) {s with heap:=h'}):
  wpAny (model prog w) A (call (.builtin "sorted") [.ref l]) Q E s:=by
 refine Ny kind_sorted plain_sorted entry_sorted (args_sorted1 _) ?_;unfold KN.«sorted»;refine Za (m:=checkCount "sorted" 1 1 _) (Zd ?_);have H:its.length<=sizeLine:=by rw[Le];omega
 have d:its.toArray.size<=sizeLine:=by rw[ZS];exact H
 have G:∀h1:JU,(∀b o,s.heap.get? b=some o->h1.get? b=some o)->wpAny (model prog w) A.in1 (do
   let l <-newList its
   let _ <-holding [l] (call (.builtin "list.sort") [l])
   ret l) (λfin F=>∃v,fin=.done (.ret v)/\Q v F) E {s with heap:=h1}:=by
  intro h1 k;refine Za (Ol ?_ H);have a:(h1.push (seqObj "list" its.toArray 0)).get? h1.objs.size=some (seqObj "list" its.toArray 0):=Zh _ rfl;refine Za (ZU (ZQ slot_list_sort ⟨_,a,rfl⟩ entry_list_sort ?body (args_list_sort _)))
  case body=>
   refine yc (c:=c) (s:={s with heap:=h1.push (seqObj "list" its.toArray 0)}) a g (λy=>?_) λh' f out K e O=>?_
   ·obtain⟨κ,o,S,r⟩:=r y;refine⟨κ,o,S,λh' K=>?_⟩;obtain⟨B,D⟩:=r h' λb o e=>K b o (Zu (Zj (k b o e))) (Zb _ (k b o e));exact⟨B _,D⟩
   ·exact⟨_,rfl,Zd ⟨_,rfl,z h1 h' f out k (λb o e=>K b o (Zu (Zj e)) (Zb _ e)) e O⟩⟩
 cases b with
 |true=>obtain⟨o,t,p,n,q⟩:=x;exact Za (wpAny_collect_seq l (.inl rfl) t p q (λh1 k=>by simpa using G h1 k) d)
 |false=>obtain⟨o,t,p,n,q⟩:=x;exact Za (wpAny_collect_seq l (.inr rfl) t p q (λh1 k=>by simpa using G h1 k) d)
theorem EZ(I:Inv X pq σ H s)(a:aK X.K ⟨X.mg,F⟩ μ S H){t:eA}(j:bY t=JK)(i:cS t<=40)(h:A.units+40<cLine){e:D}{b:V}(h1:az t d=JK)(g:az t e=JK)
  (r:Rep X.K ⟨X.mg,F⟩ μ H d v) (q:RelV v u) (R:Rep X.K ⟨X.mg,F⟩ μ H e b) (Q:RelV b z):PySem.SeqAt.EqAt A s u z (dO t d e)/\gz A s u z (bQ t d e):=by
 obtain⟨c,f⟩:=EV S t j _ i d e h1 g;exact⟨(uQ I a _ A h d e v _ u z _ r q R Q c).2.2,qR I a _ A h d e v _ u z _ r q R Q f⟩
theorem yd{prog:J8}{w:Ke}{A:KI}{Q:Bool->JN->Prop}{t:eA}{b:Bool}(g:b=JK->t=.int):∀(ds es:List D) (us zs:Lv) (i:Nat),(∀d∈ds,az t d=JK)->(∀e∈es,az t e=JK)->ds.length=us.length->es.length=zs.length->
  (∀(j:Nat) d e u z,ds[j]?=some d->es[j]?=some e->us[j]?=some u->zs[j]?=some z->PySem.SeqAt.EqAt A s u z (dO t d e)/\gz A s u z (bQ t d e)/\(t=.int->∃a b ta tb,d=.int a/\e=.int b/\u=.int a ta/\z=.int b tb))->
  Q (bO (bQ t) ds es) s->KatLex prog w A b (decide (us.length<zs.length)) Q (us.zip zs) i s
 | [],[],us,zs,i,_,_,L,l,_,q=>by have E:us=[]:=ZW L.symm;have f:zs=[]:=ZW l.symm;subst E;subst f;exact kat_nil q
 | [],e::es,us,zs,i,_,_,L,l,_,q=>by
  have E:us=[]:=ZW L.symm;subst E;have:decide (([]:Lv).length<zs.length)=JK:=by grind
  rw[this,L7];exact kat_nil q
 |d::ds,[],us,zs,i,_,_,L,l,_,q=>by
  have E:zs=[]:=ZW l.symm;subst E;have:decide (us.length<([]:Lv).length)=JL:=by simp
  rw[this,ML];exact kat_nil q
 |d::ds,e::es,[],zs,i,_,_,L,_,_,_=>by simp at L
 |d::ds,e::es,_::_,[],i,_,_,_,l,_,_=>by simp at l
 |d::ds,e::es,u::us,z::zs,i,I,J,L,l,h,q=>by
  obtain⟨M,O,P⟩:=h 0 d e u z rfl rfl rfl rfl;have G:decide ((u::us).length<(z::zs).length)=decide (us.length<zs.length):=by simp
  rw[G,J4];refine kat_cons (M prog w _ _ ?_);rw[mu]at q
  have N:∀{k:Bool},bQ t d e=k->dO t d e=JL->Q k s->KatGo prog w A b (decide (us.length<zs.length)) Q u z (us.zip zs) i JL s:=λ{k} n _ o=>by
   clear q;refine kat_no ?_;cases H:(b&&i==0)with
   |false=>exact kat_one u z (O prog w _ _ (by rw[n];exact o))
   |true=>simp only[ZR]at H;obtain⟨a,B,ta,tb,rfl,rfl,rfl,rfl⟩:=P (g H.1);have K:=g H.1;subst K;exact oneLt_int (by rw[show decide (a<B)=k from n];exact o)
  cases E:bQ t d e with
  |true=>
   have c:dO t d e=JL:=by simp[dO,E]
   rw[E]at q;rw[c];exact N E c (by simpa using q)
  |false=>
   cases f:bQ t e d with
   |true=>
    have c:dO t d e=JL:=by simp[dO,E,f]
    rw[E,f]at q;rw[c];exact N E c (by simpa using q)
   |false=>
    have c:dO t d e=JK:=by simp[dO,E,f]
    rw[E,f]at q;rw[c];refine kat_yes (yd g ds es us zs (i+1) (λx m=>I x (Zc _ m)) (λx m=>J x (Zc _ m)) (by grind) (by simpa using l) (λj C F U Z p r v y=>h (j+1) C F U Z p r v y) (by simpa using q))
end Py
namespace Py
open PySem PySem.W PySem.Spec PyProof.Rows L2
end Py
namespace Py
open PySem PySem.W PySem.Spec PyProof.Rows L2
noncomputable def ir:eA->String
 | .int=>"int"
 |_=>"tuple"
theorem jA(I:Inv X pq σ H s){t:eA}(g:bY t=JK)(h:az t d=JK)(r:Rep X.K ⟨X.mg,F⟩ μ H d v)(q:RelV v u):Looks (model X.prog X.w) s.heap (typeOf u) (.type (ir t)):=by
 have tup:∀x,d=.tup x->Looks (model X.prog X.w) s.heap (typeOf u) (.type "tuple"):=by
  rintro x rfl;obtain⟨a,vs,rfl,c,_⟩:=cm r;cases q;obtain⟨e,_,p,_⟩:=I.tuple c;obtain⟨o,b,f,_⟩:=p;have:=show Looks (model X.prog X.w) _ (typeOf (.ref a)) _ from(Looks.ld b).andThen .now
  simp_all
 cases t with
 |int=>obtain⟨i,rfl⟩:=df h;cases aG r;obtain⟨T,rfl⟩:=q;exact(show Looks _ _ _ _ from .now)
 |seq t=>obtain⟨x,rfl,_⟩:=dz h;exact tup _ rfl
theorem ye(I:Inv X pq σ H s){t:eA}(c:bY t=JK):∀(ys:List D) (vs:List V) (its:Lv),(∀d∈ys,az (.seq t) d=JK/\d≠.tup [])->ag X.K ⟨X.mg,F⟩ μ H ys vs->Vals vs its->
  ∃fs,KatTups s.heap its fs/\fs.length=its.length/\∀f∈fs,Looks (model X.prog X.w) s.heap (typeOf f) (.type (ir t))
 | [],vs,its,_,r,q=>by unfold ag at r;subst r;cases q;exact⟨[],KatTups.nil,rfl,λ_ h=>nomatch h⟩
 |d::ys,vs,its,h,r,q=>by
  obtain⟨v,W,rfl,L,M⟩:=r.uncons;cases q with
  |cons Q J=>
   rename_i u i;obtain⟨fs,K,E,G⟩:=ye I c ys W i (λe z=>h e (Zc _ z)) M J;obtain⟨k,l⟩:=h d Ze;obtain⟨j,rfl,C⟩:=dz k;cases j with
   |nil=>exact absurd rfl l
   |cons x j=>
    obtain⟨a,as,rfl,B,R⟩:=cm L;cases Q;obtain⟨Y,N,p,_⟩:=I.tuple B;obtain⟨w,S,rfl,O,_⟩:=R.uncons;cases N with
    |cons P T=>
     rename_i f U;obtain⟨o,A,m,n,y⟩:=p;refine⟨f::fs,KatTups.cons A m y (by simp) K,by simp[E],λg b=>?_⟩;rcases Zk.mp b with rfl|b
     ·exact jA I c (C x Ze) O P
     ·exact G g b
theorem E1(I:Inv X pq σ H s)(sk:aK X.K ⟨X.mg,F⟩ μ S H){t:eA}(hs:bY t=JK)(hd:cS t<=40)(hu:A.units+42<cLine){e:D}{y:V}(h1:az (.seq t) d=JK)(h2:az (.seq t) e=JK)
  (r1:Rep X.K ⟨X.mg,F⟩ μ H d v) (q1:RelV v u) (r2:Rep X.K ⟨X.mg,F⟩ μ H e y) (q2:RelV y z) {C:Bool->JN->Prop}  (hC:C (bQ (.seq t) d e) s):wpAny (model X.prog X.w) A (keyLt' (tuples' (J3 (ir t) !=J3 "tuple")) u z) C E s:=by
 obtain⟨B,rfl,c⟩:=dz h1;obtain⟨Y,rfl,f⟩:=dz h2;obtain⟨a,as,rfl,ha,r⟩:=cm r1;obtain⟨b,bs,rfl,h,R⟩:=cm r2;cases q1;cases q2;obtain⟨U,q,pa,_⟩:=I.tuple ha;obtain⟨Z,x,pb,_⟩:=I.tuple h;obtain⟨oa,T,_,na,M⟩:=pa;obtain⟨ob,W,_,nb,N⟩:=pb;refine kat_lt T M W N ?_;have l1:B.length=U.length:=by rw[r.length,q.length]
 have l2:Y.length=Z.length:=by rw[R.length,x.length]
 have:=yd (prog:=X.prog) (w:=X.w) (A:=A) (s:=s) (Q:=C) (t:=t) (b:=(J3 (ir t) !=J3 "tuple")) (λh=>?_) B Y U Z 0 c f l1 l2 (λj d e u z g G g3 g4=>?_) hC
 ·simpa using this
 ·cases t with
  |int=>rfl
  |seq t=>exact absurd h (by show ¬((J3 "tuple" !=J3 "tuple")=JK);decide)
 ·obtain⟨w1,O,K⟩:=r.get g;obtain⟨w2,P,m⟩:=R.get G;obtain⟨u',k,n⟩:=q.get O;obtain⟨z',l,o⟩:=x.get P;rw[g3]at k;cases k;rw[g4]at l;cases l;obtain⟨J,L⟩:=EZ I sk hs hd (A:=A) (by omega) (c d (Zz g)) (f e (Zz G)) K n m o;refine⟨J,L,λht=>?_⟩;subst ht;obtain⟨i,rfl⟩:=df (c d (Zz g));obtain⟨j,rfl⟩:=df (f e (Zz G));cases aG K;cases aG m;obtain⟨ta,rfl⟩:=n;obtain⟨tb,rfl⟩:=o;exact⟨i,j,ta,tb,rfl,rfl,rfl,rfl⟩
section
variable {t:eA}{vs:List V}
theorem jB(h:gC t ys=JK):bY t=JK:=by
 cases t with
 |int=>rfl
 |seq t=>unfold gC at h;simp only[ZR]at h;exact h.1
theorem Jc(h:∀y∈ys,az t y=JK)(r:ag X.K ⟨X.mg,F⟩ μ H ys vs)(a:Vals vs its):∀i,i<its.length->∃d v u,ys[i]?=some d/\vs[i]?=some v/\its[i]?=some u/\az t d=JK/\Rep X.K ⟨X.mg,F⟩ μ H d v/\RelV v u/\ys.getD i .non=d/\its.getD i JS=u:=λi c=>by
 have l:=r.length;have L:=a.length;have e:ys[i]?=some ys[i]:=Zm _;obtain⟨v,E,k⟩:=r.get e;obtain⟨u,b,K⟩:=a.get E
 grind
theorem E2(I:Inv X pq σ H s)(sk:aK X.K ⟨X.mg,F⟩ μ S H)(hu:X.A.units+64<cLine)(P:cS t<=40)(p:∀y∈ys,az t y=JK)(B:gC t ys=JK)(rr:ag X.K ⟨X.mg,F⟩ μ H ys vs)(hv:Vals vs its)(h2:2<=its.length):
  ∃κ:LK,c6 its.length (λi j=>bQ t (ys.getD i .non) (ys.getD j .non))/\(∀i j,i<its.length->j<its.length->its.getD i JS=its.getD j JS->bM its.length (λi j=>bQ t (ys.getD i .non) (ys.getD j .non)) i=bM its.length (λi j=>bQ t (ys.getD i .non) (ys.getD j .non)) j)/\∀h':JU,(∀b o,s.heap.get? b=some o->h'.get? b=some o)->
   (∀(E':Vs) (Y:LK->JN->Prop),Y κ {s with heap:=h'}->wpAny (model X.prog X.w) X.A.in1.in1 (keyKind' its.toArray) Y E' {s with heap:=h'})/\
   ∀i j C,i<its.length->j<its.length->C (bQ t (ys.getD i .non) (ys.getD j .non)) {s with heap:=h'}->kas_ask X.prog X.w X.A.in1.in1 κ its i j C {s with heap:=h'}:=by
 have R:bY t=JK:=jB B;have lo:=g9 t R;have a:=Jc p rr hv
 have W:c6 its.length (λi j=>bQ t (ys.getD i .non) (ys.getD j .non)):=by
  have ty:∀i,i<its.length->az t (ys.getD i .non)=JK:=λi c=>by obtain⟨d,v,u,e1,e2,E,k1,k2,k3,k4,k5⟩:=a i c;rw[k4];exact k1
  exact⟨λi c=>lo.irr _ (ty i c),λi j c m=>lo.asym _ _ (ty i c) (ty j m),λi j k c m hk=>lo.ntr _ _ _ (ty i c) (ty j m) (ty k hk)⟩
 have r:∀i j,i<its.length->j<its.length->its.getD i JS=its.getD j JS->bM its.length (λi j=>bQ t (ys.getD i .non) (ys.getD j .non)) i=bM its.length (λi j=>bQ t (ys.getD i .non) (ys.getD j .non)) j:=λi j c m Q=>by obtain⟨d,v,u,e1,e2,E,n,w,A,D,J⟩:=a i c;obtain⟨Z,v',u',L,M,N,g,G,e,f,l⟩:=a j m;rw[J,l]at Q;subst Q;have ev:v=v':=A.inj e;subst ev;have:=wd I sk 40 d Z v _ w G (EV S t R 40 P d Z n g).1;have hde:=EU R n g this;subst hde;unfold bM;simp only[D,f]
 have hu2:(X.A.in1.in1).units+42<cLine:=by show X.A.units+1+1+42<cLine;omega
 cases t with
 |int=>
  refine⟨oneType',W,r,λh' kp=>⟨λE' Y q=>?_,λi j C c m O=>?_⟩⟩
  ·have K:Inv X pq σ H {s with heap:=h'}:=I.kept (t':=s.toks) kp;refine kas_kind (T:=.type "int") h2 (λu hu=>?_) (by decide) (by decide) q;obtain⟨i,c,rfl⟩:=KC.mp hu;obtain⟨d,v,u,e1,e2,E,n,w,A,D,J⟩:=a i c;rw[Zm c]at E;cases E;exact jA (t:=.int) K rfl n w A
  ·obtain⟨d,v,u,e1,e2,E,n,w,A,D,J⟩:=a i c;obtain⟨Z,v',u',L,M,N,g,G,e,f,l⟩:=a j m;unfold kas_ask;rw[J,l];rw[D,f]at O;obtain⟨x,rfl⟩:=df n;obtain⟨y,rfl⟩:=df g;cases aG w;cases aG G;obtain⟨ta,rfl⟩:=A;obtain⟨tb,rfl⟩:=e;exact kat_lt_int O
 |seq t=>
  unfold gC at B;have U:=(LN.mp B).2;have V:=U
  have hne:∀y∈ys,az (.seq t) y=JK/\y≠.tup []:=λy hy=>⟨p y hy,λz=>by have:=Zv.mp V y hy;rw[z]at this;cases this⟩;refine⟨tuples' (J3 (ir t) !=J3 "tuple"),W,r,λh' kp=>⟨λE' Y q=>?_,λi j C c m O=>?_⟩⟩
  ·have K:Inv X pq σ H {s with heap:=h'}:=I.kept (t':=s.toks) kp;obtain⟨fs,f1,f2,f3⟩:=ye (t:=t) K R ys vs its hne rr hv;exact kat_kind (T:=.type (ir t)) f1 (by omega) f3 (by simp) q
  ·have K:Inv X pq σ H {s with heap:=h'}:=I.kept (t':=s.toks) kp;obtain⟨d,v,u,e1,e2,E,n,w,A,D,J⟩:=a i c;obtain⟨Z,v',u',L,M,N,g,G,e,f,l⟩:=a j m;unfold kas_ask;rw[J,l];rw[D,f]at O;exact E1 (t:=t) K sk R (by simp[cS]at P;omega) hu2 n g w A G e O
theorem E3(b:gC t ys=JK)(a:∀y∈ys,az t y=JK)(r:ag X.K ⟨X.mg,F⟩ μ H ys vs)(f:Vals vs its){out:Lv}(O:gJ its (λi j=>bQ t (ys.getD i .non) (ys.getD j .non)) out):∃w,w.length=its.length/\ag X.K ⟨X.mg,F⟩ μ H (eZ (bQ t) ys) w/\Vals w out:=by
 have A:=Jc a r f;have L:ys.length=vs.length:=r.length;have q:vs.length=its.length:=f.length;obtain⟨p,rfl,P,n⟩:=O;have m:∀i∈p,i<its.length:=λi o=>by grind
 have e:p.length=its.length:=by rw[P.length_eq];simp
 have fin:ag X.K ⟨X.mg,F⟩ μ H (p.map λi=>ys.getD i .non) (p.map λi=>vs.getD i .non):=ag.of (by simp) λj d v g c=>by
  grind
 have fin2:=by
  have:∀(l:List Nat),(∀i∈l,i<its.length)->Vals (l.map λi=>vs.getD i .non) (l.map λi=>its.getD i JS):=by
   intro l
   induction l with
   |nil=>exact λ_=>.nil
   |cons i l I=>intro h;refine .cons ?_ (I λj k=>h j (Zc _ k));simp_all
  exact this p m
 have s:(p.map λi=>ys.getD i .non)=eZ (bQ t) ys:=by
  refine EX (jB b) a ?_ ?_
  ·have:=P.map λi=>ys.getD i .non;refine this.trans (.of_eq ?_);refine Mc (by grind) λi g c=>?_;simp[c]
  ·rw[Kb];exact n
 grind
end
theorem E4(V:X.A.units+64<cLine)(box:Bool)(t:eA)(A:cS t<=40):a7 X (.builtin "sorted") (rC X.K X.mg (gD box t)):=by
 intro P s E H xs us Q I r h;obtain⟨F,μ,S,ds,z,rl,w⟩:=h;unfold gD at w;split at w
 ·rename_i d;obtain⟨v,rfl,rd⟩:=rl.one;obtain⟨u,rfl,ru⟩:=vals1 r;split at w
  ·rename_i Y e;split at w
   ·rename_i T;obtain⟨B,N,o⟩:=T;have g:∀y∈Y,az t y=JK:=λy W=>Zv.mp B y W;obtain⟨a,vs,rfl,n,R⟩:=fS z rd e;cases ru
    obtain⟨b,f,U,x⟩:∃b f,bw b s.heap a (JX f)/\Vals vs f:=by
     rcases n with n|n
     ·obtain⟨f,C,p,_⟩:=I.list n;exact⟨JK,f,p.isList,C⟩
     ·obtain⟨f,C,p,_⟩:=I.tuple n;exact⟨JL,f,p,C⟩
    refine EY (c:=λi j=>bQ t (Y.getD i .non) (Y.getD j .non)) U (by have:f.length=Y.length:=(R.length.trans x.length).symm;omega) (λM=>E2 I z V A g o R x M) λq L J out Z k2 K O=>?_;obtain⟨ws,m,fin,fin2⟩:=E3 (X:=X) o g R x O;have D:Inv X P E H {s with heap:=q}:=I.kept (t':=s.toks) Z;have G:Inv X P E (a' H q.objs.size (.lst ws)) {s with heap:=L}:=D.laid (t':=s.toks) k2 (Zl _) ⟨by have:f.length=Y.length:=(R.length.trans x.length).symm;rw[m,Le];omega,_,J,fin2,K⟩;have l:H q.objs.size=none:=D.hok.fresh (Zl _);refine⟨.ref q.objs.size,_,G,rfl,?_⟩;cases box with
    |true=>exact aU.box w z fin _ l
    |false=>exact aU.lst w z fin _ l
   ·exact w.elim
  ·exact w.elim
 ·exact w.elim
end Py
namespace Py
open PySem PySem.W PySem.Spec PyProof.Rows L2
noncomputable def kV(v:JO):Int:=match v with
 | .int k _=>k
 |_=>0
theorem E5{a:JP}{L:Lv}(H:∀{Q:Lv->JN->Prop} {E':Vs},(∀(h':JU) (tk:Nat) (vs:Lv),(∀b o,s.heap.get? b=some o->h'.get? b=some o)->vs.Perm L->Q vs {s with heap:=h',toks:=tk})->wpAny (model prog w) A.in1 (collect (.ref a)) Q E' s)(F:L.length<64)
  (d:∀(h1:JU) (tk:Nat) (vs:Lv),(∀b o,s.heap.get? b=some o->h1.get? b=some o)->vs.Perm L->∃c,(2<=vs.length->∃κ:LK,c6 vs.length c/\(∀i j,i<vs.length->j<vs.length->vs.getD i JS=vs.getD j JS->bM vs.length c i=bM vs.length c j)/\∀h':JU,(∀b o,h1.get? b=some o->h'.get? b=some o)->
   (∀(E':Vs) (l:LK->JN->Prop),l κ {s with heap:=h',toks:=tk}->wpAny (model prog w) A.in1.in1 (keyKind' vs.toArray) l E' {s with heap:=h',toks:=tk})/\
   ∀i j C,i<vs.length->j<vs.length->C (c i j) {s with heap:=h',toks:=tk}->kas_ask prog w A.in1.in1 κ vs i j C {s with heap:=h',toks:=tk})/\
   ∀(h':JU) (g:Nat) (out:Lv),(∀b o,h1.get? b=some o->h'.get? b=some o)->h'.get? h1.objs.size=some (seqObj "list" out.toArray g)->gJ vs c out->Q (.ref h1.objs.size) {s with heap:=h',toks:=tk}):
  wpAny (model prog w) A (call (.builtin "sorted") [.ref a]) Q E s:=by
 refine Ny kind_sorted plain_sorted entry_sorted (args_sorted1 _) ?_;unfold KN.«sorted»;refine Za (m:=checkCount "sorted" 1 1 _) (Zd (Za (H λh1 tk vs r p=>?_)));obtain⟨c,d,fin⟩:=d h1 tk vs r p;have k:vs.length<64:=by rw[p.length_eq];exact F
 have q:vs.length<=sizeLine:=by rw[Le];omega
 refine Za (Ol ?_ q);have f:(h1.push (seqObj "list" vs.toArray 0)).get? h1.objs.size=some (seqObj "list" vs.toArray 0):=Zh _ rfl;refine Za (ZU (ZQ slot_list_sort ⟨_,f,rfl⟩ entry_list_sort ?body (args_list_sort _)))
 case body=>
  refine yc (c:=c) (s:={s with heap:=h1.push (seqObj "list" vs.toArray 0),toks:=tk}) f k (λn=>?_) λh' g out K e O=>?_
  ·obtain⟨κ,o,S,d⟩:=d n;refine⟨κ,o,S,λh' K=>?_⟩;obtain⟨u,v⟩:=d h' λb o e=>K b o (Zu (Zj e)) (Zb _ e);exact⟨u _,v⟩
  ·exact⟨_,rfl,Zd ⟨_,rfl,fin h' g out (λb o e=>K b o (Zu (Zj e)) (Zb _ e)) e O⟩⟩
theorem E6{t:Kv}{Q:Vs}(l:A.handled=none)(T:TB w t es.size)(g:s.heap.get? a=some o)(n:o.ExactSet)(d:o.data=.set es ep t)(f:es.size<64)
  (H:∀(h1:JU) (tk:Nat) (vs:Lv),(∀b o,s.heap.get? b=some o->h1.get? b=some o)->vs.Perm (es.toList.map (·.2))->∃c,(2<=vs.length->∃κ:LK,c6 vs.length c/\(∀i j,i<vs.length->j<vs.length->vs.getD i JS=vs.getD j JS->bM vs.length c i=bM vs.length c j)/\∀h':JU,(∀b o,h1.get? b=some o->h'.get? b=some o)->
   (∀(E':Vs) (k:LK->JN->Prop),k κ {s with heap:=h',toks:=tk}->wpAny (model prog w) A.in1.in1 (keyKind' vs.toArray) k E' {s with heap:=h',toks:=tk})/\
   ∀i j C,i<vs.length->j<vs.length->C (c i j) {s with heap:=h',toks:=tk}->kas_ask prog w A.in1.in1 κ vs i j C {s with heap:=h',toks:=tk})/\
   ∀(h':JU) (m:Nat) (out:Lv),(∀b o,h1.get? b=some o->h'.get? b=some o)->h'.get? h1.objs.size=some (seqObj "list" out.toArray m)->gJ vs c out->Q (.ref h1.objs.size) {s with heap:=h',toks:=tk}):
  wpAny (model prog w) A (call (.builtin "sorted") [.ref a]) Q E s:=
 E5 (λfin=>ES (by lia) T g n d (by omega) fin) (by rw[Zi];exact f) H
theorem E7{t:Kv}(f:A.handled=none)(T:TB w t es.size)(g:s.heap.get? a=some o)(J:o.ExactSet)(d:o.data=.set es ep t)(l:es.toList.map cw=ks.map ef)(r:Mw (intKind prog w) es.toList)(B:ks∈p8)
  (fin:∀(h1 h':JU) (tk n:Nat) (out:Lv),(∀b o,s.heap.get? b=some o->h1.get? b=some o)->(∀b o,h1.get? b=some o->h'.get? b=some o)->h'.get? h1.objs.size=some (seqObj "list" out.toArray n)->(∀v∈out,∃t,v=.int (kV v) t)->out.map kV=ks.map (λk:Nat=>(k:Int))->Q (.ref h1.objs.size) {s with heap:=h',toks:=tk}):
  wpAny (model prog w) A (call (.builtin "sorted") [.ref a]) Q E s:=by
 obtain⟨R,low,len,_,_⟩:=e7 ks B;have hs:es.size=ks.length:=by have:=Z5 K5 l;rw[Zi,Zi,ZN]at this;exact this
 refine E6 f T g J d (by omega) λh1 tk vs V G=>?_;have K:es.toList.map fG=ks.map λk:Nat=>(k:Int):=by have:=Z5 (M4 (·.2)) l;rw[ZA,ZA]at this;exact this
 have pG:∀v∈vs,∃t,v=.int (kV v) t:=λv z=>by obtain⟨e,N,rfl⟩:=Zs.mp (G.mem_iff.mp z);obtain⟨t,y⟩:=rV r e N;exact⟨t,by rw[y];rfl⟩
 have F:(vs.map kV).Perm (ks.map λk:Nat=>(k:Int)):=by refine(G.map kV).trans (.of_eq ?_);rw[<-K,ZA];exact Om λe _=>rfl
 have hl:vs.length<=8:=by have:=F.length_eq;rw[Zi,Zi]at this;omega
 have c:∀i,i<vs.length->∃t,vs.getD i JS=.int (kV (vs.getD i JS)) t:=λi H=>pG _ (by rw[K6,Zm H];exact Kt H);refine⟨λi j=>decide (kV (vs.getD i JS)<kV (vs.getD j JS)),λm=>?_,λh' n out W e O=>fin h1 h' tk n out V W e ?_ ?_⟩
 ·refine⟨oneType',⟨λi _=>by simp,λi j _ _ h=>?_,λi j k _ _ _ h g=>?_⟩,λi j _ _ h=>?_,λh' kp=>⟨λY Z q=>?_,λi j C H S x=>?_⟩⟩
  ·simp only[ZK,decide_eq_false_iff_not]at h⊢;omega
  ·simp only[decide_eq_false_iff_not]at h g⊢;omega
  ·unfold bM;dsimp only;rw[h]
  ·refine kas_kind (T:=.type "int") m (λu U=>?_) (by decide) (by decide) q;obtain⟨t,y⟩:=pG u U;rw[y];exact(show Looks (model prog w) h' (typeOf (.int (kV u) t)) (.type "int")from .now)
  ·unfold kas_ask;dsimp only at x;obtain⟨ta,L⟩:=c i H;obtain⟨tb,M⟩:=c j S;rw[L,M]at x⊢;exact kat_lt_int x
 ·obtain⟨p,rfl,P,_⟩:=O;intro v z;obtain⟨i,H,rfl⟩:=Zs.mp z;exact pG _ (by have:=Z9.mp (P.mem_iff.mp H);rw[K6,Zm this];exact Kt this)
 ·obtain⟨p,rfl,P,B⟩:=O;have X:((p.map λi=>vs.getD i JS).map kV).Perm (ks.map λk:Nat=>(k:Int)):=by refine List.Perm.trans ?_ F;refine((P.map λi=>vs.getD i JS).map kV).trans (.of_eq (Z5 (M4 kV) ?_));refine Mc (by simp) λi h1 m=>?_;simp[m]
  refine X.eq_of_pairwise (le:=(· <= ·)) (λa b _ _ h1 m=>Int.le_antisymm h1 m) ?_ ?_
  ·rw[Kb,Kb];refine B.imp λ{i j} h=>?_;simp only[decide_eq_false_iff_not]at h;omega
  ·rw[Kb];exact R.imp λh=>by omega
theorem yf:∀{out:Lv} {ks:List Nat},(∀v∈out,∃t,v=.int (kV v) t)->out.map kV=ks.map (λk:Nat=>(k:Int))->Vals (ks.map λk:Nat=>V.int k) out
 | [],[],_,_=>.nil
 | [],_::_,_,h=>by cases h
 |_::_,[],_,h=>by cases h
 |v::out,k::ks,H,h=>by
  injection h with a b
  obtain⟨t,c⟩:=H v Ze;refine .cons ⟨t,?_⟩ (yf (λv d=>H v (Zc _ d)) b);rw[c,a]
theorem yg:∀{a b:List Nat},a.Pairwise (· < ·)->b.Pairwise (· < ·)->(∀k,k∈a↔k∈b)->a=b:=λ{a b} H c h=>by
 refine Nj λx y _ _ H c=>by omega H c ?_
 exact(List.perm_ext_iff_of_nodup (H.imp λh=>Zu h) (c.imp λh=>Zu h)).mpr h
end Py
namespace Py
open PySem PySem.Spec PySem.W PyProof.Rows L2
theorem E8:∀mask∈[15,31],∀ks∈p8,(N8 mask ((ks.map λk:Nat=>(k:Int)).toArray)).map (λo=>(JM (mask+1)).filterMap λj=>(o.getD j none).map (j, ·))=some (ks.zip (JM ks.length)):=by decide+kernel
theorem jC(a:mask=15\/mask=31)(H:ks∈p8)(f M:Nat)(l p:Bool):OM mask f M l p ((ks.map λk:Nat=>(k:Int)).toArray)=some ({mask,place:=ks.toArray,dummies:= #[],finger:=f,led:=l,moves:=M,plain:=p},(JM ks.length).toArray):=by
 have h:=E8 mask (by rcases a with rfl|rfl<;>decide) ks H;unfold OM;cases e:N8 mask ((ks.map λk:Nat=>(k:Int)).toArray)with
 |none=>rw[e]at h;cases h
 |some o=>rw[e]at h;have h:(JM (mask+1)).filterMap (λj=>(o.getD j none).map (j, ·))=ks.zip (JM ks.length):=K4 h;show some (SetTable.mk mask (((JM (mask+1)).filterMap λj=>(o.getD j none).map (j, ·)).map (·.1)).toArray #[] f l M p,(((JM (mask+1)).filterMap λj=>(o.getD j none).map (j, ·)).map (·.2)).toArray)=_;rw[h,show(ks.zip (JM ks.length)).map (·.1)=ks from List.map_fst_zip (by simp),show(ks.zip (JM ks.length)).map (·.2)=JM ks.length from OZ (by simp)]
theorem E_:∀ks∈p8,∀v∈[0,1,2,3,4,5,6,7],v∉ks->J1 ks.toArray (J9 ks.toArray v) v=(bR v ks).toArray/\J9 ks.toArray v=(ks.takeWhile (· <v)).length:=by decide+kernel
structure gK (w:Ke)(t:Kv)(ks:List Nat)(mask:Nat):Prop where
 msk:t.mask=mask
 pl:t.place=ks.toArray
 dm:t.dummies= #[]
 led:t.led=(!cE w)
 plain:t.plain=JK
section
variable {t:Kv}{v:Nat}
theorem gK.fits(x:gK w t ks mask)(h:ks.length<=mask):t.fits ks.length=JK:=by unfold OL L1;rw[x.pl,x.dm,x.msk];simp[h]
theorem si(x:gK w t ks mask)(c:ks∈p8)(d:7<=mask)(e:v<8)(a:v∉ks):t.freeSlot (v:Int)=some (v,JL):=by
 have h:ON (v:Int)%(t.mask+1)=v:=by
  unfold ON;rw[x.msk];have:((v:Int)%(2^64:Int)).toNat=v:=by omega
  rw[this];exact Nat.mod_eq_of_lt (by omega)
 have b:t.slot v=.empty:=ED x.dm (by rw[x.pl];simpa using a);unfold SetTable.freeSlot SetTable.probe;obtain⟨n,H⟩:∃n,10*Nf t.mask=n+1:=⟨10*Nf t.mask-1,by unfold Nf;omega⟩;rw[H];unfold SetTable.probeStart;dsimp only;rw[h];unfold SetTable.probe.go;dsimp only;rw[b];rfl
theorem yh(x:gK w t ks mask)(a:ks∈p8)(c:v<8)(b:v∉ks):(t.put v).2=(ks.takeWhile (· <v)).length/\gK w (t.put v).1 (bR v ks) mask:=by obtain⟨h,H⟩:=E_ ks a v (fH c) b;unfold SetTable.put;dsimp only;rw[x.pl,h,H,x.dm];exact⟨rfl,x.msk,rfl,rfl,x.led,x.plain⟩
end
end Py
namespace Py
open PySem PySem.Spec PySem.W PyProof.Rows L2
structure cF (prog:J8)(w:Ke)(h:JU)(a:JP)(ks:List Nat)(es:Array (Int×JO))(mask:Nat):Prop where
 obj:∃o ep t,h.get? a=some o/\o.ExactSet/\o.data=.set es ep t/\gK w t ks mask
 ent:es.toList.map cw=ks.map ef
 els:Mw (intKind prog w) es.toList
 pow:ks∈p8
theorem cF.size(x:cF prog w h a ks es mask):es.size=ks.length:=by have:=Z5 K5 x.ent;rw[Zi,Zi,ZN]at this;exact this
theorem bD.dir(x:bD prog w h a ks es):cF prog w h a ks es (if ks.length<=4 then 7 else 31):=by obtain⟨⟨o,e,g,E,d⟩,z,Z,b⟩:=x;exact⟨⟨o,e,_,g,E,d,⟨rfl,rfl,rfl,rfl,rfl⟩⟩,z,Z,b⟩
theorem mx{v:Nat}(k:Nat):k∈bR v ks↔k∈ks\/k=v:=by
 unfold bR;rw[ZE,Zk];have:ks.takeWhile (· <v)++ks.dropWhile (· <v)=ks:=Yg;rw[<-Z5 (k∈ ·) this];rw[ZE];constructor
 ·rintro(h|h|h)
  ·exact .inl (.inl h)
  ·exact .inr h
  ·exact .inl (.inr h)
 ·rintro((h|h)|h)
  ·exact .inl h
  ·exact .inr (.inr h)
  ·exact .inr (.inl h)
theorem my{v:Nat}:(bR v ks).length=ks.length+1:=by unfold bR;rw[Zq,Zn,<-NO,<-Zq,Yg]
theorem yi{v:Nat}{tok:Tok}{Q:Bool->JN->Prop}(x:cF prog w s.heap a ks es mask)(hm:7<=mask)(room:(ks.length+1)*5<mask*3)(I:v<8)
  (fin:∀h' K es' b,JT a s.heap h'->cF prog w h' a K es' mask->K.length<=ks.length+1->(∀k,k∈K↔k∈ks\/k=v)->Q b {s with heap:=h'}):
  wpAny (model prog w) A (setAddHashed a (.int v tok) ((intKind prog w).hash v)) Q E s:=by
 obtain⟨⟨o,ep,t,g,ex,d,T⟩,u,C,U⟩:=id x;have R:=x.size;obtain⟨_,low,len,_,more⟩:=e7 ks U;have y:t.fits es.size=JK:=by rw[R];exact T.fits (by omega)
 have N:es.size<scanBound:=by rw[R];unfold scanBound;omega
 have D:(intKind prog w).is (v:Int) (.int v tok)=JK:=N5 _ _ _ _
 have G:∀(b:Bool) (z:JN) (L:Unit->JN->Prop),L () z->wpAny (model prog w) A (match b with|true=>rule "set.scan.the-table-gave-way"|false=>pure ()) L E z:=λb z L q=>by
  cases b
  ·exact Zd q
  ·exact K1 q
 have l:(∃e∈es.toList,(intKind prog w).is (v:Int) e.2=JK)↔v∈ks:=by
  rw[js C];have:=Z5 (M4 (·.2)) u;rw[ZA,ZA]at this;rw[show es.toList.map fG=ks.map λk:Nat=>(k:Int)from this,Zs];constructor
  ·rintro⟨k,D,e⟩;have:k=v:=by omega
   exact this▸D
  ·exact λh=>⟨v,h,rfl⟩
 have H:(intKind prog w).hash (v:Int)=(v:Int):=jt v (fH I);unfold setAddHashed setAddHashedIn;refine ZU (Za (ZJ g d y ?_));dsimp only;rw[byScan_of (knd:=intKind prog w) rfl N C,if_pos rfl];unfold setAddByScan;refine Za (Za (K1 (Za (wpAny_setScan_of D g d y C ?_))));cases Y:List.findIdx? (λe=>(intKind prog w).is (v:Int) e.2) es.toList with
 |some j=>obtain⟨hj,hp,_⟩:=MW.mp Y;have P:=l.mp ⟨_,Kt hj,hp⟩;exact Zd (Zd (fin s.heap ks es JL (Mm a s.heap) x (by omega) λk=>⟨.inl,λz=>z.elim id λe=>e▸P⟩))
 |none=>
  have S:v∉ks:=λz=>by obtain⟨e,he,q⟩:=l.mpr z;have:=NE.mp Y e he;rw[q]at this;cases this
  have O:hashByValue 8 (.int v tok)=pure JK:=OX 8 rfl;have i:=xI (v:=v) (tok:=tok) u
  have r:Mw (intKind prog w) (J1 es (ks.takeWhile (· <v)).length ((v:Int),.int v tok)).toList:=by have p:=Lo es (ks.takeWhile (· <v)).length ((v:Int),LW v tok);rw[MX]at p;have q:=C.push D (x:=.int v tok) rfl;rw[H]at q;exact q.perm p
  have V:=more v (fH I) S;obtain⟨p2,n⟩:=yh T U I S;have m:(J1 es (ks.takeWhile (· <v)).length ((v:Int),LW v tok)).size=ks.length+1:=by rw[<-ZN,(Lo es _ _).length_eq,ZN,OW,R]
  have f:(t.put v).1.fits (ks.length+1)=JK:=by
   have:=n.fits (by rw[my];omega)
   rwa [my]at this
  have B:layNew t es (v:Int) (.int v tok)=(J1 es (ks.takeWhile (· <v)).length ((v:Int),.int v tok),(t.put v).1,JL,JL):=by unfold layNew;rw[si T U hm I S];dsimp only;rw[p2,m];unfold NS;rw[if_pos f,f];rfl
  dsimp only;rw[H,B];generalize(t.put v).1=J at n f⊢;generalize J1 es (ks.takeWhile (· <v)).length ((v:Int),LW v tok)=c at i r m⊢;have F:c.size<scanBound:=by unfold scanBound;omega
  dsimp only;refine Za (G JL s _ ?_);rw[if_pos n.plain];refine Za ?_;rw[O];refine Zd ?_;simp only[if_true];refine Za (K8 g d ?_ (K9 F));obtain⟨o1,g1,M,Z⟩:=im (es':=c) (t':=J) g ex d;have W:=ZM s.heap a (ND c J)
  have hf:J.tooFull=JL:=by unfold SetTable.tooFull L1;rw[n.pl,n.dm,n.msk,ZS,my];simp;omega
  rw[hf];simp only[LZ,Nw,Zx,if_false];exact Zd (Zd (fin _ _ c JK W ⟨⟨o1,_,J,g1,M,Z,n⟩,i,r,V⟩ (by rw[my];exact Zl _) mx))
end Py
namespace Py
open PySem PySem.Spec PySem.W PyProof.Rows L2
theorem sj{t:Kv}{Q:Array (Int×JO)->JN->Prop}(g:s.heap.get? a=some o)(d:o.data=.set es ep t)(F:t.fits es.size=JK)(l:t.led=(!cE w))(p:t.plain=JK)(O:La)(f:Option JP)
  (fin:∀xs:Array (Int×JO),xs.toList.Perm es.toList->Q xs s):wpAny (model prog w) A (setWalkUnseen a O f) Q E s:=by
 unfold setWalkUnseen;refine Za (ZJ g d F ?_);dsimp only;refine Za (m:=setsByText) (Za (J' (Zd ?_)));have H:((w.params.followText "set-order")||(t.led&&t.plain)||decide (es.size<=1))=JK:=by rw[l,p];unfold cE;cases w.params.followText "set-order"<;>rfl
 show wpAny _ _ (if((w.params.followText "set-order")||(t.led&&t.plain)||decide (es.size<=1))=JK then _ else _) _ _ _;rw[if_pos H];unfold setWalk;refine Za (ZJ g d F ?_);dsimp only;refine Za (m:=setsByText) (Za (J' (Zd ?_)));show wpAny _ _ (if(w.params.followText "set-order")=JK then _ else _) _ _ _;cases h:w.params.followText "set-order" with
 |true=>rw[if_pos rfl];exact Za (J' (Zd (fin _ (xO _ _))))
 |false=>
  rw[if_neg (by decide)];refine KJ ?_;rw[if_neg (λz=>by have z:(!t.plain&&decide (es.size>1))=JK:=z;rw[p]at z;simp at z)];refine Za ?_;show wpAny _ _ (if(!t.led&&decide (es.size>1))=JK then _ else pure ()) _ _ _;have b:t.led=JK:=by rw[l];unfold cE;rw[h];rfl
  rw[if_neg (by rw[b];simp)];exact Zd (Zd (fin _ (.refl _)))
theorem yj(e:es.toList.map cw=ks.map ef):es.map (·.1)=(ks.map λk:Nat=>(k:Int)).toArray:=by apply MF;rw[M7];have:=Z5 (M4 (·.1)) e;rw[ZA,ZA]at this;exact this
theorem mz{t:Kv}{W:Nat}{Q:Unit->JN->Prop}(g:s.heap.get? a=some o)(k:o.ExactSet)(d:o.data=.set es ep t)(T:gK w t ks mask)(e:es.toList.map cw=ks.map ef)(b:Mw (intKind prog w) es.toList)(p:ks∈p8)(l:ks.length<=mask)
  (hw:Kd W=16\/Kd W=32)
  (fin:∀h',JT a s.heap h'->cF prog w h' a ks es (Kd W-1)->Q () {s with heap:=h'}):wpAny (model prog w) A (setRelay a W) Q E s:=by
 have h:es.size=ks.length:=by have:=Z5 K5 e;rw[Zi,Zi,ZN]at this;exact this
 have F:t.fits es.size=JK:=by rw[h];exact T.fits l
 unfold setRelay;refine Za (ZJ g d F ?_);dsimp only;refine KJ ?_;rw[if_neg (by rw[Le];omega),yj e];unfold SetTable.relaid;rw[jC (by omega) p];refine Za ?_;show wpAny _ _ (if(((JM ks.length).toArray.filterMap (es[·]?)).size !=es.size)=JK then _ else _) _ _ _
 have n:(JM ks.length).toArray.filterMap (es[·]?)=es:=by
  rw[<-h];have:=rZ es
  rwa [show Mq es.size=(JM es.size).toArray from by apply MF;rw[MG]]at this
 rw[n,bne_self_eq_false,if_neg (by decide)];refine Zd (K8 g d ?_ (K9 (by rw[h];have:=(e7 ks p).2.2.1;unfold scanBound;omega)));obtain⟨O,G,c,i⟩:=im (es':=es) (t':={mask:=Kd W-1,place:=ks.toArray,dummies:= #[],finger:=t.finger,led:=t.led,moves:=t.movedTo (Kd W-1),plain:=t.plain}) g k d;exact fin _ (ZM ..) ⟨⟨O,_,_,G,c,i,⟨rfl,rfl,rfl,T.led,T.plain⟩⟩,e,b,p⟩
end Py
namespace Py
open PySem PySem.Spec PySem.W PyProof.Rows L2
theorem yk(fin:Q (.ref s.heap.objs.size) {s with heap:=s.heap.push (bu (!cE w))}):wpAny (model prog w) A (newSet (.type "set")) Q E s:=by unfold newSet;refine Za (m:=setsByText) (Za (J' (Zd ?_)));exact Yf fin
theorem mB:∀n∈[5,6,7,8,9,10,11,12,13,14,15,16],Kd (n*2)=if n<8 then 16 else if n<16 then 32 else 64:=by decide+kernel
theorem yl(h1:5<=n)(a:n<=15):Kd (n*2)=16/\n<8\/Kd (n*2)=32/\8<=n:=by
 have h:=mB n (by
  have:n=5\/n=6\/n=7\/n=8\/n=9\/n=10\/n=11\/n=12\/n=13\/n=14\/n=15:=by omega
  rcases this with rfl|rfl|rfl|rfl|rfl|rfl|rfl|rfl|rfl|rfl|rfl<;>decide)
 by_cases H:n<8
 ·rw[if_pos H]at h;exact .inl ⟨h,H⟩
 ·rw[if_neg H,if_pos (by omega)]at h;exact .inr ⟨h,by omega⟩
theorem jD{m:Nat}{Q:Unit->JN->Prop}(x:cF prog w s.heap a ks es mask)(j:ks.length<=mask)(k:ks.length+m<=15)
  (S:(ks.length+m)*5>=mask*3->5<=ks.length+m)
  (fin:∀h' M,JT a s.heap h'->cF prog w h' a ks es M->((ks.length+m)*5<M*3)->(M=mask\/M=15/\ks.length+m<8\/M=31/\8<=ks.length+m)->Q () {s with heap:=h'}):wpAny (model prog w) A (setRoomFor a m) Q E s:=by
 obtain⟨⟨o,u,t,g,p,d,T⟩,e,n,P⟩:=id x;have r:=x.size;have f:t.fits es.size=JK:=by rw[r];exact T.fits j
 have q:t.fill=ks.length:=by unfold L1;rw[T.pl,T.dm];simp
 unfold setRoomFor;refine Za (ZJ g d f ?_);dsimp only;unfold SetTable.roomFor;rw[q,T.msk,show t.place.size=ks.length by rw[T.pl];simp];by_cases b:(ks.length+m)*5>=mask*3
 ·rw[if_pos b];have c:=S b;dsimp only;refine mz g p d T e n P j ?_ λh' l y=>?_
  ·rcases yl c k with⟨h,_⟩| ⟨h,_⟩
   ·exact .inl h
   ·exact .inr h
  ·rcases yl c k with⟨h,H⟩| ⟨h,H⟩<;>rw[h]at y
   ·exact fin h' 15 l y (by omega) (.inr (.inl ⟨rfl,H⟩))
   ·exact fin h' 31 l y (by omega) (.inr (.inr ⟨rfl,H⟩))
 ·rw[if_neg b];exact Zd (fin s.heap mask (Mm a s.heap) x (by omega) (.inl rfl))
end Py
namespace Py
open PySem PySem.Spec PySem.W PyProof.Rows L2
theorem cF.born(h:JU):cF prog w (h.push (bu (!cE w))) h.objs.size [] #[] 7:=(bD.born h).dir
theorem Fa{r:JP}{Q:Unit->JN->Prop}(X:cF prog w s.heap r [] #[] 7)(x:bD prog w s.heap a ks es)(B:r≠a)(P:ks≠[])
  (fin:∀h' mask,JT r s.heap h'->cF prog w h' r ks es mask->ks.length*5<mask*3->(mask=7\/mask=15\/mask=31)->Q () {s with heap:=h'}):wpAny (model prog w) A (setMerge r a) Q E s:=by
 obtain⟨⟨o,Y,g,Z,d⟩,e,I,p⟩:=id x;have l:=x.size;obtain⟨_,_,len,k,_⟩:=e7 ks p;have K:0<ks.length:=Kq.mpr P;have v:(cT (!cE w) ks).fits es.size=JK:=by rw[l];exact k _
 unfold setMerge;refine KJ ?_;rw[if_neg (by simpa using B)];refine Za (ZJ g d v ?_);dsimp only;refine KJ ?_;rw[if_neg (by rw[M_,l];omega)];rw[l];refine Za (jD X (by simp) (by simpa using by omega) (by simp;omega) λh1 m S y room C=>?_);simp only[Yb,LY]at room C;obtain⟨⟨o1,N,t,G,i,D,T⟩,_,_,_⟩:=id y;have j:t.fits (#[]:Array (Int×JO)).size=JK:=T.fits (Ks _);refine Za (ZJ G D j ?_);dsimp only;have F:es.size<scanBound:=by rw[l];unfold scanBound;omega
 have h:t.fill=0:=by unfold L1;rw[T.pl,T.dm];rfl
 have H:(cT (!cE w) ks).mask=if ks.length<=4 then 7 else 31:=rfl;unfold OO;rw[h,T.msk,H];have U:(cT (!cE w) ks).dummies.isEmpty=JK:=rfl;rw[U];by_cases n:m=if ks.length<=4 then 7 else 31
 ·simp only[bne_self_eq_false,Zx,if_false,n,beq_self_eq_true,Ma,if_true];refine K8 G D ?_ (K9 F);obtain⟨O,z,b,q⟩:=im (es':=es) (t':={cT (!cE w) ks with finger:=t.finger,led:=t.led&&(cT (!cE w) ks).led,moves:=t.moves,plain:=t.plain&&(cT (!cE w) ks).plain}) G i D;refine fin _ m (S.trans (ZM ..)) ⟨⟨O,_,_,z,b,q,⟨n▸rfl,rfl,rfl,?_,?_⟩⟩,e,I,p⟩ room (by omega)
  ·show(t.led&& !cE w)=_;rw[T.led,Ma]
  ·show(t.plain&&JK)=JK;rw[T.plain];rfl
 ·have R:(m==if ks.length<=4 then 7 else 31)=JL:=by simpa using n
  simp only[bne_self_eq_false,Zx,if_false,R,Ms];rw[yj e,jC (by split at n<;>omega) p];refine Za ?_;show wpAny _ _ (if(((JM ks.length).toArray.filterMap (es[·]?)).size !=es.size)=JK then _ else _) _ _ _
  have V:(JM ks.length).toArray.filterMap (es[·]?)=es:=by
   rw[<-l];have:=rZ es
   rwa [show Mq es.size=(JM es.size).toArray from by apply MF;rw[MG]]at this
  rw[V,bne_self_eq_false,if_neg (by decide)];refine Zd (K8 G D ?_ (K9 F));obtain⟨O,z,b,q⟩:=im (es':=es) (t':={mask:=m,place:=ks.toArray,dummies:= #[],finger:=t.finger,led:=t.led&&(cT (!cE w) ks).led,moves:=t.moves,plain:=t.plain&&(cT (!cE w) ks).plain}) G i D;refine fin _ m (S.trans (ZM ..)) ⟨⟨O,_,_,z,b,q,⟨rfl,rfl,rfl,?_,?_⟩⟩,e,I,p⟩ room (by omega)
  ·show(t.led&& !cE w)=_;rw[T.led,Ma]
  ·show(t.plain&&JK)=JK;rw[T.plain];rfl
end Py
namespace Py
open PySem PySem.Spec PySem.W PyProof.Rows L2
theorem jE(E:es.toList.map cw=ks.map ef)(b:Mw (intKind prog w) es.toList){e:Int×JO}(a:e∈es.toList):∃v∈ks,∃t,e=((v:Int),.int (v:Int) t):=by
 have:cw e∈ks.map ef:=by rw[<-E];exact Oo a
 obtain⟨v,c,q⟩:=Zs.mp this;obtain⟨t,H⟩:=rV b e a;obtain⟨h,x⟩:=e;have Q:(v:Int)=h:=Z5 Prod.fst q;have d:(v:Int)=fG (h,x):=Z5 Prod.snd q;refine⟨v,c,t,?_⟩;rw[<-d]at H;dsimp only at H;rw[Q,H,Q]
theorem mC(E:es.toList.map cw=ks.map ef){v:Nat}(H:v∈ks):∃e∈es.toList,e.1=(v:Int):=by
 have:ef v∈es.toList.map cw:=by rw[E];exact Oo H
 obtain⟨e,h,q⟩:=Zs.mp this;exact⟨e,h,Z5 Prod.fst q⟩
theorem Fb{r:JP}{c:List Nat}{m:Nat}{j:Sem Unit}{Q:Unit->JN->Prop}(xr:cF prog w s.heap r c es1 m)(x:bD prog w s.heap a ks es)(N:r≠a)(h0:ks≠[])(h1:c≠[])(hm:m=7\/m=15\/m=31)(hl:c.length<=m)(hn:c.length+ks.length<=15)
  (J:∀(z:JN) (C:Unit->JN->Prop),(∀o,s.heap.get? a=some o->z.heap.get? a=some o)->C () z->wpAny (model prog w) A j C E z)
  (fin:∀h' K es' i,JT r s.heap h'->cF prog w h' r K es' i->K.length<=i->(∀k,k∈K↔k∈c\/k∈ks)->Q () {s with heap:=h'}):wpAny (model prog w) A (setMerge r a j) Q E s:=by
 obtain⟨⟨o,ep,g,ex,d⟩,n,el,pw⟩:=id x;have hs:=x.size;obtain⟨_,low,len,G,_⟩:=e7 ks pw;have hpos:0<ks.length:=Kq.mpr h0;have Z:0<c.length:=Kq.mpr h1;have F:(cT (!cE w) ks).fits es.size=JK:=by rw[hs];exact G _
 unfold setMerge;refine KJ ?_;rw[if_neg (by simpa using N)];refine Za (ZJ g d F ?_);dsimp only;refine KJ ?_;rw[if_neg (by rw[M_,hs];omega)];rw[hs];refine Za (jD xr hl hn (by omega) λW M R y room how=>?_);obtain⟨⟨o1,ep1,t1,g1,ex1,d1,T⟩,_,_,_⟩:=id y;have hs1:=y.size;have Y:7<=M:=by omega
 have D:t1.fits es1.size=JK:=by rw[hs1];exact T.fits (by omega)
 refine Za (ZJ g1 d1 D ?_);dsimp only;have p:t1.fill=c.length:=by unfold L1;rw[T.pl,T.dm];simp
 unfold OO;rw[p,if_pos (by simp;omega)];dsimp only;have V:∀h:JU,JT r s.heap h->∀o,s.heap.get? a=some o->h.get? a=some o:=λh R o q=>by rw[R.2 a (Ne.symm N)];exact q
 refine Za (sj (s:={s with heap:=W}) (V W R o g) d F rfl rfl [r] (some r) λxs P=>?_);rw[<-Array.forIn_toList];refine Za (NB _ (λl _ z=>∃h' K es',z={s with heap:=h'}/\JT r s.heap h'/\cF prog w h' r K es' M/\K.length+l.length<=c.length+ks.length/\(∀e∈l,e∈es.toList)/\∀k:Nat,(k∈K\/∃e∈l,e.1=(k:Int))↔k∈c\/k∈ks) _ ?_ ?_ _ _ ?_)
 ·rintro⟨hh,v0⟩ rest b z ⟨h',K,es',rfl,S,y',f,L,X⟩;obtain⟨v,hv,t,e⟩:=jE n el (L _ Ze);cases e;have O:=low v hv;have u:(intKind prog w).hash (v:Int)=(v:Int):=jt v (fH O);rw[Zn]at f;refine Za (ZU ?_)
  have key:∀(C:Bool->JN->Prop) (z:JN),wpAny (model prog w) A (setAddHashed r (.int (v:Int) t) ((intKind prog w).hash v)) C E z->wpAny (model prog w) A (setAddHashed r (.int (v:Int) t) (v:Int)) C E z:=λC z q=>by rw[u]at q;exact q
  refine key _ _ ?_;refine yi (s:={s with heap:=h'}) y' Y (by omega) O λI ks3 U b3 sb3 y3 l3 k3=>?_;have B:JT r s.heap I:=S.trans sb3;refine Za (J _ _ (V I B) ?_);refine Za (ZJ (s:={s with heap:=I}) (V I B o g) d F ?_);dsimp only;rw[bne_self_eq_false,if_neg (by decide)];refine Zd ⟨I,ks3,U,rfl,B,y3,by omega,λe h=>L e (Zc _ h),λk=>?_⟩;rw[<-X k,k3 k];constructor
  ·rintro((h|h)| ⟨e,h,q⟩)
   ·exact .inl h
   ·exact .inr ⟨_,Ze,by rw[h]⟩
   ·exact .inr ⟨e,Zc _ h,q⟩
  ·rintro(h| ⟨e,h,q⟩)
   ·exact .inl (.inl h)
   ·rcases Zk.mp h with rfl|h
    ·have q:(v:Int)=k:=q;exact .inl (.inr (by omega))
    ·exact .inr ⟨e,h,q⟩
 ·rintro b z ⟨h',K,es',rfl,S,y',f,_,X⟩;exact Zd (fin h' K es' M S y' (by rw[Yb]at f;omega) λk=>by rw[<-X k];simp)
 ·refine⟨W,c,es1,rfl,R,y,?_,λe h=>P.mem_iff.mp h,λk=>?_⟩
  ·have q:=P.length_eq;have q2:es.toList.length=es.size:=ZN;omega
  ·constructor
   ·rintro(h| ⟨e,J,q⟩)
    ·exact .inl h
    ·obtain⟨v,hv,t,rfl⟩:=jE n el (P.mem_iff.mp J);have:v=k:=by have q:(v:Int)=k:=q;omega
     exact .inr (this▸hv)
   ·rintro(h|h)
    ·exact .inl h
    ·obtain⟨e,J,q⟩:=mC n h;exact .inr ⟨e,P.mem_iff.mpr J,q⟩
end Py
namespace Py
open PySem PySem.Spec PySem.W PyProof.Rows L2
theorem Fc:entryFor table "set.__or__"=some KN.«frozenset.__or__»:=N7 (id':="frozenset.__or__") (by kernel_rfl) rfl (by decide+kernel) (by kernel_rfl)
theorem bD.ty(x:bD prog w h a ks es)(z:JN)(e:z.heap=h):z.TypeIs (.ref a) "set":=by obtain⟨⟨o,b,g,E,d⟩,_⟩:=x;exact⟨o,by rw[e];exact g,E.1⟩
theorem sm{v:JO}{Q:Bool->JN->Prop}(t:s.TypeIs v "set")(h:Q JK s):wpAny (model prog w) A (KO v) Q E s:=by unfold KO;refine Za (Lj t PySem.F.sub_set_set ?_);exact Zd h
theorem Fd(t:s.TypeIs (.ref a) "set")(h:Q (.type "set") s):wpAny (model prog w) A (Mx a) Q E s:=by unfold Mx;refine Za (Lj t PySem.F.sub_set_set ?_);exact Zd h
theorem sn(x:bD prog w s.heap a ks es)(b:ks≠[])
  (fin:∀h' mask,(∀c o,s.heap.get? c=some o->h'.get? c=some o)->cF prog w h' s.heap.objs.size ks es mask->ks.length*5<mask*3->(mask=7\/mask=15\/mask=31)->Q (.ref s.heap.objs.size) {s with heap:=h'}):wpAny (model prog w) A (LD a) Q E s:=by
 unfold LD;refine Za (Fd (x.ty s rfl) (Za (yk ?_)));have H:a<s.heap.objs.size:=by obtain⟨⟨o,f,g,_⟩,_⟩:=x;exact Zj g
 refine Za (m:=KZ (.ref s.heap.objs.size)) (Zd ?_);refine Za (Fa (s:={s with heap:=s.heap.push (bu (!cE w))}) (cF.born s.heap) (x.kept λo e=>Zb _ e) (Kk H) b λh' mask S y room d=>?_);refine Zd (fin h' mask (λc o e=>?_) y room d);rw[S.2 c (Zu (Zj e))];exact Zb _ e
theorem Fe{b:JP}{d K:List Nat}{l g:Array (Int×JO)}(X:bD prog w s.heap a d l)(x:bD prog w s.heap b K g)(n:a≠b)(B:d≠[])(N:K≠[])(U:d.length+K.length<=15)
  (fin:∀h' r ks es mask,(∀c o,s.heap.get? c=some o->h'.get? c=some o)->cF prog w h' r ks es mask->ks.length<=mask->(∀k,k∈ks↔k∈d\/k∈K)->Q (.ref r) {s with heap:=h'}):wpAny (model prog w) A (binaryOp .BitOr (.ref a) (.ref b)) Q E s:=by
 have T:=X.ty s rfl;have C:=x.ty s rfl;refine wpAny_binaryOp_same T C PySem.F.fills_set_or PySem.F.slot_set_or (NZ (MU PySem.F.slot_set_or.plain Fc (PySem.F.slot_set_or.check _ _ _ _ _ _ _ _ T (PySem.F.args_set_or_2 _ _) ?_)));refine Za (m:=MB "__or__" ⟨[.ref a,.ref b],[]⟩) ?_;unfold MB;refine Za (m:=slotArgs "__or__" 1 ⟨[.ref a,.ref b],[]⟩) (Zd (Zd ?_));dsimp only;rw[if_neg (by decide)];dsimp only;refine Za (m:=KO (.ref a)<&&>KO (.ref b)) (Za (sm T ?_));refine sm C ?_;refine KJ ?_;rw[if_neg (by decide)];refine Za (m:=KZ (.ref a)) (Zd ?_);refine Za ?_;refine Za (m:=LD a) ?_;refine sn X B λH mask i y room S=>?_;obtain⟨⟨O,I,G,J,D⟩,v,F,P⟩:=id x;have f:(cT (!cE w) K).fits g.size=JK:=by rw[x.size];exact(e7 K P).2.2.2.1 _
 have t:s.heap.objs.size≠b:=Kk (Zj G);refine KJ ?_;rw[if_pos (by simpa using Ne.symm n)];refine Za (m:=KZ (.ref s.heap.objs.size)) (Zd ?_);refine Za (ZU ?_);unfold Kz;refine Za (sm ((x.kept λo e=>i b o e).ty {s with heap:=H} rfl) ?_);refine KJ ?_;rw[if_pos rfl];refine Za (m:=KZ (.ref b)) (Zd ?_);unfold Builtin.Frozenset.merge;refine Za (m:=setEpoch b) (Za (ZJ (s:={s with heap:=H}) (i b O G) D f (Zd ?_)));refine Fb (s:={s with heap:=H}) y (x.kept λo e=>i b o e) t N B S (by omega) U (λz Z V q=>?_) λL u j M W Y p R=>?_
 ·unfold Builtin.Frozenset.unchanged;refine Za (m:=setEpoch b) (Za (ZJ (V O (i b O G)) D f (Zd ?_)));refine KJ ?_;rw[if_neg (by simp)];exact Zd q
 ·refine Zd (Zd ⟨by simp,fin L _ u j M (λc o e=>?_) Y p R⟩);rw[W.2 c (Zu (Zj e))];exact i c o e
end Py
namespace Py
open PySem PySem.Spec PySem.W PyProof.Rows L2
def uU(K:Fg)(v:V)(H:Hp)(ns:Li)(ks:List Nat):Prop:=∃p:JP,v=.ref p/\(c9 K H p (ns.map V.int)\/cB K H p (ns.map V.int))/\(∀n∈ns,0<=n/\n<8)/\(∀k:Nat,k∈ks↔(k:Int)∈ns)/\ks.Pairwise (· < ·)/\ks≠[]
def UnR(K:Fg)(ks:List Nat)(y:V)(H:Hp)(Q:VK):Prop:=∃(n:Li) (a us:List Nat),uU K y H n a/\ks.length+a.length<=15/\us.Pairwise (· < ·)/\(∀k:Nat,k∈us↔k∈ks\/k∈a)/\∀l,H l=none->Q (.ref l) (a' H l (.lst (us.map λk:Nat=>V.int k)))
theorem jF{Q:Vs}{E:Vs}(f:X.calm=JK)(I:L2.Inv X pq σ H s1)(l:RelV v u)(q:uU X.K v H ns ks)
  (fin:∀h' tk es,bD X.prog X.w h' s1.heap.objs.size ks es->L2.Inv X pq σ H {s1 with heap:=h',toks:=tk}->Q (.ref s1.heap.objs.size) {s1 with heap:=h',toks:=tk}):wpAny (model X.prog X.w) X.A (call (.type "set") [u]) Q E s1:=by
 obtain⟨p,rfl,a,low,g,R,_⟩:=q;cases l
 obtain⟨i,r,P⟩:∃i,Vals (ns.map V.int) i/\(s1.heap.IsList p i.toArray\/s1.heap.IsTuple p i.toArray):=by
  rcases a with a|a
  ·obtain⟨i,r,P,_⟩:=I.list a;exact⟨i,r,.inl P.isList⟩
  ·obtain⟨i,r,P,_⟩:=I.tuple a;exact⟨i,r,.inr P⟩
 refine EG (vs:=i.toArray) (ns:=ns) (I.ok.hd f) P (by simpa using qy r) low λh' tk ⟨K,es,x,d⟩ j=>?_;have c:K=ks:=yg (e7 K x.pow).1 R λk=>(d k).trans (g k).symm;subst c;exact fin h' tk es x (I.kept (t':=tk) λb o e=>j b o (Zj e) e)
theorem Ff{p5 p6 p7:Pos}{tb:TE}(U:X.calm=JK)(W:Gl X "sorted")(l:Gl X "set")(Y:X.mg "sorted"=none)(n:X.mg "set"=none)(hb:bootBuiltins "sorted"=some (.builtin "sorted"))(Z:bP z1=JK)(hn2:bP z2=JK)(h1:PE X z1 ta)(h2:PE X z2 tb):
  PE X (.Call (.Name "sorted" p1) [.BinOp (.Call (.Name "set" p2) [z1] [] p3) .BitOr (.Call (.Name "set" p4) [z2] [] p5) p6] [] p7)
   (λσ H Q=>ta σ H λx H1=>∃ns ks,uU X.K x H1 ns ks/\tb σ H1 λy H2=>UnR X.K ks y H2 Q):=by
 intro B s σ H Q I h;have w:=c3 (env:=X.env) (es:=[]) Z;have A:=c3 (env:=X.env) (es:=[]) hn2;have hA:PA X [z1] (g0 ta k9):=la h1 k_ w;have hB:PA X [z2] (g0 tb k9):=la h2 k_ A;refine Kl (ea I W Y hb ?_ (by decide) (by decide));refine Ln ?_ rfl rfl;refine MD ?_;refine wpAny_BinOp ?_;refine Kl (ea I l n r6 ?_ (by decide) (by decide))
 refine Z1 (aX (hA p3 B s σ H (λvs H1=>match vs with
  | [x]=>∃ns ks,uU X.K x H1 ns ks/\tb σ H1 λy H2=>UnR X.K ks y H2 Q
  |_=>False) I h) λus S ⟨vs,H1,D,r,q⟩=>?_) w rfl
 match vs,q with
 | [v],⟨ns,ks,pl,q⟩=>
  obtain⟨u,rfl,ru⟩:=r.one;refine jF U D ru pl λh' tk J x f=>?_;obtain⟨⟨O,epa,ga,L,da⟩,_⟩:=id x;have hH:H1 S.heap.objs.size=none:=D.hok.fresh (Zl _)
  have I3:L2.Inv X ((S.heap.objs.size,O)::B) σ H1 {S with heap:=h',toks:=tk}:=⟨f.ok,f.os,f.bare,f.base,f.loc,f.cell,f.free,f.freeC,λp c=>by
   rcases ZE.mp c with c|c
   ·exact f.pin p (ZP _ c)
   ·rcases Zk.mp c with rfl|c
    ·exact⟨ga,hH,Kk D.lt,D.nofs (Zl _),λv z=>by rw[da]at z;cases z⟩
    ·exact f.pin p (Zt _ c),f.hok,f.len⟩
  refine Kl (ea I3 l n r6 ?_ (by decide) (by decide))
  refine Z1 (aX (hB p5 _ _ σ H1 (λvs H2=>match vs with
   | [y]=>UnR X.K ks y H2 Q
   |_=>False) I3 q) λus2 C ⟨vs2,H2,I4,r2,q2⟩=>?_) A rfl
  match vs2,q2 with
  | [y],⟨ns',ks',us,P,m,R,hus,q3⟩=>
   obtain⟨u2,rfl,ru2⟩:=r2.one;have gp:=(I4.pin (S.heap.objs.size,O) (Zt _ Ze)).1;refine jF U I4 ru2 P λj e es2 x2 I5=>?_;have M:j.get? S.heap.objs.size=some O:=(I5.pin (S.heap.objs.size,O) (Zt _ Ze)).1
   have xa:bD X.prog X.w j S.heap.objs.size ks J:=by obtain⟨⟨o,ep,g,r⟩,z1,z2,z3⟩:=x;rw[ga]at g;cases g;exact⟨⟨_,_,M,L,da⟩,z1,z2,z3⟩
   have hne:S.heap.objs.size≠C.heap.objs.size:=Zu (Zj gp);obtain⟨_,_,_,_,_,_,k0⟩:=id pl;obtain⟨_,_,_,_,_,_,k0'⟩:=id P;refine Fe (s:={C with heap:=j,toks:=e}) xa x2 hne k0 k0' m λh3 r' K esu mask k3 y3 hm hu=>?_;have E:K=us:=yg (e7 K y3.pow).1 R λk=>(hu k).trans (hus k).symm;subst E;have hs3:=y3.size;obtain⟨⟨o,ep,t,g,ex,d,T⟩,F,el,pw⟩:=y3;have i:L2.Inv X ((S.heap.objs.size,O)::B) σ H2 {C with heap:=h3,toks:=e}:=I5.kept (t':=e) k3
   have I7:L2.Inv X B σ H2 {C with heap:=h3,toks:=e}:=⟨i.ok,i.os,i.bare,i.base,i.loc,i.cell,i.free,i.freeC,λp c=>i.pin p (by
    rcases ZE.mp c with c|c
    ·exact ZP _ c
    ·exact Zt _ (Zc _ c)),i.hok,i.len⟩
   refine MP ?_;refine E7 (I7.ok.hd U) ⟨by rw[hs3];exact T.fits hm,T.led,T.plain,by rw[T.pl];exact EC R⟩ g ex d F el pw λN h5 tk5 c2 out k4 k5 gg pG ek=>?_;have I8:L2.Inv X B σ H2 {C with heap:=N,toks:=e}:=I7.kept (t':=e) k4
   have hz:(K.map λk:Nat=>V.int k).length<=sizeLine:=by have:=(e7 K pw).2.2.1;rw[Zi,Le];omega
   exact⟨.ref N.objs.size,a' H2 N.objs.size (.lst (K.map λk:Nat=>V.int k)),I8.laid (t':=tk5) k5 (Zl _) ⟨hz,out,c2,yf pG ek,gg⟩,rfl,q3 _ (I8.hok.fresh (Zl _))⟩
end Py
namespace Py
noncomputable def ym(kd:Bool)(e:Expr)(g:List J6)(s:Scope)(p:Pos):Expr:=.ListComp e g s p
noncomputable def Fh(kd:Bool)(e:Expr)(a:JO)(env:Env):Sem Unit:=rL e a env
def oK(X:Cx)(kd:Bool):JP->List D->List V->HO->Prop:=oL
theorem sr{kd:Bool}{pos:Pos}{d:Nat}{it a:JO}{t i:Expr}{fs:Lx}(h:gens[d]?=some ⟨t,i,fs,0⟩):
  compTurn (ym kd elt gens scope pos) d it a env=(standAt i.pos>>=λ_=>pyNext it>>=λr=>match r with
   |none=>pure (.done .next)
   |some v=>letOwnedTupleGo t it v>>=λ_=>assign t env v>>=λ_=>(e6 fs env>>=λok=>if ok=JK then br (ym kd elt gens scope pos) (Fh kd elt a env) gens d a env else pure ())>>=λ_=>
    again (.compLoop (ym kd elt gens scope pos) d it a env)):=by cases kd<;>exact Em h
section
variable {E:XK}
end
section
variable {E:XK}
end
section
variable {E:XK}
theorem jG(O:cD X cell N sc CX E Φ Γ k)(b:jc)(h:q4 b=JK):a7 X (jf b) (rC X.K X.mg (ba b)):=by
 cases b with
 |len=>exact wj
 |tuple=>exact lD
 |list=>cases h
 |int=>exact wl
 |min=>exact DP O.calm (by have:=O.room.un;omega)
 |max=>exact lL O.calm
 |isinst=>exact DC
 |all=>exact wt O.calm
 |any=>exact wu O.calm
 |sum=>cases h
 |repr=>cases h
 |abs=>cases h
 |str=>cases h
 |sorted box t=>exact E4 O.room.units box t (by unfold q4 at h;simpa using h)
theorem ss:∀{l:Ls},ie l=JK->l.Nodup
 | [],_=>Nz
 |x::r,h=>by unfold ie at h;simp at h;exact Z3.mpr ⟨h.1,ss h.2⟩
theorem yn(O:cD X cell N sc CX E Φ Γ k)(h:DS scope sc=JK):dR X scope:=by
 unfold DS at h;simp only[ZR,beq_iff_eq]at h;obtain⟨a,b⟩:=h;refine⟨a,λy H z=>?_,λy H z=>?_,λy H z=>?_⟩
 ·grind
 ·grind
 ·have:=(λy H=>Zv.mp b y H) y H;rw[z]at this;simp at this;show X.env.scope.names.lookup _=_\/X.env.scope.names.lookup _=_;rw[O.sc];exact this
theorem yo(O:cD X cell N sc CX E Φ Γ k){fr:List (Option Nat)}(h:DT scope.names N' N fr=JK):lH X scope N' (f8 fr):=by
 unfold DT at h;simp only[ZR,beq_iff_eq]at h;obtain⟨b,c⟩:=h;intro f d;refine⟨by simp[f8,b],λi v x a H=>?_⟩;have:=Zv.mp c i (Z9.mpr (Zp.mp a).1);unfold f8 at H;rw[Km]at H;cases e:fr[i]? with
 |none=>simp_all
 |some o=>
  rw[e]at H;cases o with
  |none=>cases H
  |some j=>
   rw[e]at this;simp[a,beq_iff_eq]at this;refine⟨this.1,j,by rw[O.n];exact this.2,?_⟩
   grind
theorem mD(O:cD X cell N sc CX E Φ Γ k):(relabel scope X.env).names=jg scope.names sc:=by
 show scope.names.map _=scope.names.map _;congr 1;funext p;obtain⟨n,K⟩:=p;have e:X.env.kindOf n=sc.lookup n:=by show X.env.scope.names.lookup n=_;rw[O.sc]
 simp[e,O.kd,Bool.and_true]
theorem yp(O:cD X cell N sc CX E Φ Γ k)(hs:scope.kind=.function)(hn:ie N'=JK)(C:JP)(s0:JN)(H0:Hp)(fp:La):cD (fD X scope N' C s0 H0 fp) (q5 scope.names) N' (jg scope.names sc) CX E0 Φ Γ k where
 n:=rfl
 nd:=ss hn
 sc:=mD O
 kd:=hs
 calm:=O.calm
 room:=O.room
 fn:=λx z=>z
 mod:=O.mod
 pass:=λ_ _ _ _ _ _ _ z=>O.cx0 _ _ _ _ _ z
 cx0:=O.cx0
theorem mE{i:Expr}(h:lU i=JK):∀x,foldedSetIterable i env x=pure x:=by intro x;cases i<;>first|rfl|cases h
theorem g_{e:Expr}{c:CE}(h:PE X e (tE X.K X.mg E Φ Γ c))(g:∀W,isTrue e X.env W=(do let v <-W;standAt e.pos;holding [v] (truthy v))){σ:L2.St}:
  PT X e (λσ H Q=>∃F μ ρ S,aK X.K ⟨X.mg,F⟩ μ S H/\a8 X.K ⟨X.mg,F⟩ μ H ρ σ/\ai X.K ⟨X.mg,F⟩ E (λ_ _ a b=>a=b) μ H Q ((aj Φ Γ c ρ S).bind λd S1=>match bG S1 d with|some k=>.ok k S1|none=>.fail)):=
 d7 (CI h g) λσ H Q z=>aB z λF μ ρ S i f w=>⟨F,_,_,S,i,f,(ai.bind w).mono λv H1 z=>aD z λm S1 d x s r j=>by obtain⟨k,e,l⟩:=w4 j;exact⟨k,o_ s r e,l _ _ k .refl s rfl⟩⟩
theorem Fi(O:cD X cell N sc CX E Φ Γ k){z:Expr}{a:CE}(h1:bH sc "len"=JK)(h:bH sc "set"=JK)(c:bP z=JK)(b:PE X z (tE X.K X.mg E Φ Γ a)):PE X (.Call (.Name "len" p1) [.Call (.Name "set" p2) [z] [] p3] [] p4) (tE X.K X.mg E Φ Γ (.lenset a)):=
 aS (EM O.calm O.room.units (O.gl (ee h1).1) (O.gl (ee h).1) (O.mod.bl _ (by decide+kernel)) (O.mod.bl _ (by decide+kernel)) c b) λm H Q Z=>aB Z λF g j S f e w=>
  ⟨F,g,j,S,f,e,(ai.bind w).mono λv H1 Z=>aD Z λi l d x s r W=>EN s r (dU W)⟩
theorem yq:∀{xs:List D},xs.all ib=JK->xs.all (az .int)=JK/\∀n∈xs.filterMap b8,0<=n/\n<8
 | [],_=>⟨rfl,λn h=>by cases h⟩
 |x::xs,h=>by
  simp only[NG,ZR]at h;obtain⟨b,c⟩:=yq h.2;cases x with
  |int i=>
   have a:=h.1;simp[ib,ZR]at a;refine⟨by simp[az,b],λn H=>?_⟩;rcases Zk.mp H with rfl|H
   ·exact a
   ·exact c n H
  |_=>cases h.1
theorem pz(s:aK K ⟨mg,F⟩ μ S H)(r:Rep K ⟨mg,F⟩ μ H d v)(e:pd S d=some ks):∃ns,uU K v H ns ks:=by
 unfold pd at e;split at e
 ·rename_i x E;split at e
  ·rename_i f;obtain⟨a,vs,rfl,j,R⟩:=fS s r E;obtain⟨i,low⟩:=yq f.1;have b:=r8 i;have c:x.filterMap b8≠[]:=λz=>by rw[b,z]at f;cases f.2
   generalize x.filterMap b8=ns at low b e c;subst b;have l:=r9 R;subst l;cases e
   have g:∀k:Nat,k∈(JM 8).filter (λk:Nat=>ns.contains (k:Int))↔(k:Int)∈ns:=λk=>by rw[Zo,Z9,LF];exact⟨λh=>h.2,λh=>⟨by have:=low _ h;omega,h⟩⟩
   refine⟨ns,a,rfl,j,low,g,List.pairwise_lt_range.sublist ZI,λz=>?_⟩;cases ns with
   |nil=>exact c rfl
   |cons n ns=>have m:=low n Ze;have:=(g n.toNat).mpr (by rw[show((n.toNat:Nat):Int)=n by omega];exact Ze);rw[z]at this;cases this
  ·cases e
 ·cases e
theorem yr(O:cD X cell N sc CX E Φ Γ k){a b:CE}{T U Y:Pos}(h1:bH sc "sorted"=JK)(G:bH sc "set"=JK)(m:bP z1=JK)(n:bP z2=JK)(I:PE X z1 (tE X.K X.mg E Φ Γ a))(J:PE X z2 (tE X.K X.mg E Φ Γ b)):PE X (.Call (.Name "sorted" p1) [.BinOp (.Call (.Name "set" p2) [z1] [] p3) .BitOr (.Call (.Name "set" p4) [z2] [] T) U] [] Y) (tE X.K X.mg E Φ Γ (.ssU a b)):=
 aS (Ff O.calm (O.gl (ee h1).1) (O.gl (ee G).1) (O.mod.bl _ (by decide+kernel)) (O.mod.bl _ (by decide+kernel)) (by decide+kernel) m n I J) λσ H Q z=>aB z λF μ C S sk x w=>
  ⟨F,μ,C,S,sk,x,(ai.bind w).mono λv H1 z=>aD z λr t d x1 A Z g=>by
   cases i:pd t d with
   |none=>rw[i]at g;exact g.elim
   |some K=>
    rw[i]at g;obtain⟨o,P⟩:=pz A Z i;refine⟨o,K,P,F,r,C,t,A,x.mono x1,(ai.bind g).mono λy s z=>aD z λf u e x2 B r2 W=>?_⟩;cases j:pd u e with
    |none=>rw[j]at W;exact W.elim
    |some c=>
     rw[j]at W;dsimp only at W;obtain⟨q,p⟩:=pz B r2 j;split at W
     ·rename_i M;have low:∀{v:V} {H:Hp} {o:Li} {K:List Nat},uU X.K v H o K->∀k∈K,k<8:=λ⟨_,_,_,l,h,_⟩ k L=>by have:=l _ ((h k).mp L);omega
      refine⟨q,c,(JM 8).filter λk=>K.contains k||c.contains k,p,M,List.pairwise_lt_range.sublist ZI,λk=>?_,λl h=>?_⟩
      ·rw[Zo,Z9,Lm,LF,LF];exact⟨λh=>h.2,λh=>⟨h.elim (low P k) (low p k),h⟩⟩
      ·have rr:∀K:List Nat,ag X.K ⟨X.mg,F⟩ f s (K.map λk:Nat=>D.int k) (K.map λk:Nat=>V.int k):=λK=>by
        induction K with
        |nil=>exact .nil
        |cons k K R=>exact .cons bN R
       exact aU.lst (show aU X.K ⟨X.mg,F⟩ f s Q (.ok (.lst _) u)from W) B (rr _) l h
     ·exact W.elim⟩
end
section
variable {E:XK}
end
section
variable {a b c d:Expr}{tb tc td:TE}{pos:Pos}
end
section
variable {E:XK}{l r r2:Expr}{pos:Pos}{a b c d:CE}
end
theorem mF{E:XK}{c:CE}(h:∀ρ S,ao Φ Γ c ρ S=.fail):PW X e (tT X.K X.mg E Φ Γ c):=λW p s f H Q I z=>aB z λF d ρ S b a w=>by rw[h]at w;exact w.elim
theorem yt{l:List α}{d:Nat}{x:α}{r:List α}(h:l.drop d=x::r):l[d]?=some x:=by have:=Z5 (λl=>l[0]?) h;simpa using this
theorem Fj{l:List α}{d:Nat}(h:l.drop d=[]):l[d]?=none:=by simp_all
theorem Fm{l:List α}{d:Nat}{x:α}{r:List α}(h:l.drop d=x::r):l.drop (d+1)=r:=by
 have:(l.drop d).drop 1=r:=by simp_all
 rwa [List.drop_drop]at this
section
variable {E:XK}{a b:CE}{l x y:Expr}{pos:Pos}{n:Bool}
theorem su(h:PE X l (tE X.K X.mg E Φ Γ a))(h1:n=JK->PE X x (tE X.K X.mg E Φ Γ b))(H:n=JL->∃r rest,y=.BoolOp .And (r::rest) pos/\PE X y (tE X.K X.mg E Φ Γ b)):PE X (.BoolOp .And (l::cond n [x] (vw y).es) pos) (tE X.K X.mg E Φ Γ (.band a b)):=by
 cases n with
 |true=>exact pg h (iM (h1 rfl))
 |false=>obtain⟨r,rest,rfl,q⟩:=H rfl;exact pg h q
theorem yu(h:PE X l (tE X.K X.mg E Φ Γ a))(h1:n=JK->PE X x (tE X.K X.mg E Φ Γ b))(H:n=JL->∃r rest,y=.BoolOp .Or (r::rest) pos/\PE X y (tE X.K X.mg E Φ Γ b)):PE X (.BoolOp .Or (l::cond n [x] (vw y).es) pos) (tE X.K X.mg E Φ Γ (.bor a b)):=by
 cases n with
 |true=>exact wZ h (iM (h1 rfl))
 |false=>obtain⟨r,rest,rfl,q⟩:=H rfl;exact wZ h q
theorem yv(h:PT X l (tT X.K X.mg E Φ Γ a))(h1:n=JK->PT X x (tT X.K X.mg E Φ Γ b))(H:n=JL->∃r rest,y=.BoolOp .And (r::rest) pos/\PW X y (tT X.K X.mg E Φ Γ b)):PW X (.BoolOp .And (l::cond n [x] (vw y).es) pos) (tT X.K X.mg E Φ Γ (.band a b)):=by
 cases n with
 |true=>exact ph h (kM (h1 rfl))
 |false=>obtain⟨r,rest,rfl,q⟩:=H rfl;exact ph h q
theorem jH(h:PT X l (tT X.K X.mg E Φ Γ a))(h1:n=JK->PT X x (tT X.K X.mg E Φ Γ b))(H:n=JL->∃r rest,y=.BoolOp .Or (r::rest) pos/\PW X y (tT X.K X.mg E Φ Γ b)):PW X (.BoolOp .Or (l::cond n [x] (vw y).es) pos) (tT X.K X.mg E Φ Γ (.bor a b)):=by
 cases n with
 |true=>exact w8 h (pW (h1 rfl))
 |false=>obtain⟨r,rest,rfl,q⟩:=H rfl;exact w8 h q
theorem sv{es:Lx}(h:q7 b=JK):∃r rest,bq b N (.BoolOp .And es pos)=.BoolOp .And (r::rest) pos:=by cases b<;>first|exact⟨_,_,rfl⟩|cases h
theorem sw{es:Lx}(h:ji b=JK):∃r rest,bq b N (.BoolOp .Or es pos)=.BoolOp .Or (r::rest) pos:=by cases b<;>first|exact⟨_,_,rfl⟩|cases h
theorem jI{tg:CT}(h:jh tg=JK):eG (ii tg N e)=JK:=by
 cases tg with
 |var i=>cases h
 |tup t=>rfl
theorem fv{a b:Bool}(h:cond n a b=JK)(z:n=JK):a=JK:=by lia
theorem cz{a b:Bool}(h:cond n a b=JK)(z:n=JL):b=JK:=by lia
end
mutual
theorem aP(c:CE):∀{X:Cx} {cell:Str->Bool} {N:Ls} {sc:Sc} {CX:dN} {E:XK} {Φ:FT} {Γ:Str->Option D} {k:Nat} {e:Expr},cD X cell N sc CX E Φ Γ k->b6 c N sc e=JK->PE X (bq c N e) (tE X.K X.mg E Φ Γ c):=by
 intro X cell N sc CX E Φ Γ k e O h;cases c with
 |var i=>exact pi O (ab h).1 (ab (ab h).2).1 (ab (ab h).2).2
 |dct=>exact xj
 |lit d=>exact pj h
 |glob y=>exact rm O h
 |ty n=>exact DW O (ab h).1 (ab h).2
 |bin op a b=>exact wV (aP a O (ab h).1) (aP b O (ab h).2)
 |binB a b=>exact rf (aP a O (ab h).1) (aP b O (ab h).2)
 |neg a=>exact w6 (aP a O h)
 |cmp op a b=>exact wX O.room.units (aP a O (ab h).1) (aP b O (ab (ab h).2).1) (gG (ab (ab h).2).2)
 |chain op G a b c=>exact lW O.room.units (aP a O (ab h).1) (aP b O (ab (ab h).2).1) (aP c O (ab (ab (ab h).2).2).1) (gG (ab (ab (ab h).2).2).2)
 |band a b=>exact su (aP a O (ab h).1) (λz=>aP b O (fv (ab h).2 z)) λz=>by obtain⟨r,R,q⟩:=sv (pos:=(vw e).pos) (N:=N) (es:=(vw e).es.tail) (ab (cz (ab h).2 z)).1;exact⟨r,R,q,aP b O (ab (cz (ab h).2 z)).2⟩
 |bor a b=>exact yu (aP a O (ab h).1) (λz=>aP b O (fv (ab h).2 z)) λz=>by obtain⟨r,R,q⟩:=sw (pos:=(vw e).pos) (N:=N) (es:=(vw e).es.tail) (ab (cz (ab h).2 z)).1;exact⟨r,R,q,aP b O (ab (cz (ab h).2 z)).2⟩
 |bnot a=>exact w5 (aP a O h)
 |ite c a b=>exact w_ (dW c O (ab h).1) (aP a O (ab (ab h).2).1) (aP b O (ab (ab h).2).2)
 |tup j=>exact xh (jj (ab h).2) (eH j O (ab h).1)
 |lst box j=>exact xi (jj (ab h).2) (eH j O (ab h).1)
 |idx a b=>exact xk (ab (ab h).2).2 (aP a O (ab h).1) (aP b O (ab (ab h).2).1)
 |sl a lo hi=>exact DX (aP a O (ab h).1) (jJ lo O (ab (ab h).2).1 (jj (ab (ab (ab (ab h).2).2).2).1)) (jJ hi O (ab (ab (ab h).2).2).1 (jj (ab (ab (ab (ab h).2).2).2).2))
 |call f j=>
  have B:=eH j O (ab (ab h).2).1;cases j with
  |nil=>cases(ab (ab h).2).2
  |cons c p=>exact jl O (ab h).1 (fE (cs:=c::p) (ab (ab h).2).1) B
 |blt b j=>
  have B:=eH j O (ab (ab h).2).1;cases j with
  |nil=>cases(ab (ab (ab h).2).2).1
  |cons c p=>exact pk O (jG O b (ab (ab (ab h).2).2).2) (ab h).1 (fE (cs:=c::p) (ab (ab h).2).1) B
 |chain3 op G K a b c d=>exact λpq s σ H Q I zz=>aB zz λF μ ρ S sk en w=>w.elim
 |tix o j=>cases h
 |meth m o j=>have v:=(ab (ab (ab (ab h).2).2).2).1;exact rn (ab h).1 (ab (ab h).2).1 (fE v) (by rw[rh];exact jj (ab (ab (ab (ab h).2).2).2).2) rh.symm (aP o O (ab (ab (ab h).2).2).1) (eH j O v)
 |lenset a=>exact Fi O (ab h).1 (ab (ab h).2).1 (ab (ab (ab h).2).2).2 (aP a O (ab (ab (ab h).2).2).1)
 |ssU a b=>exact yr O (ab h).1 (ab (ab h).2).1 (ab (ab (ab (ab h).2).2).1).2 (ab (ab (ab (ab h).2).2).2).2 (aP a O (ab (ab (ab (ab h).2).2).1).1) (aP b O (ab (ab (ab (ab h).2).2).2).1)
 |comp box J fr T it t body=>
  obtain⟨P,h⟩:=ab h;obtain⟨U,h⟩:=ab h;obtain⟨V,h⟩:=ab h;obtain⟨v,h⟩:=ab h;obtain⟨W,h⟩:=ab h;obtain⟨Y,h⟩:=ab h;obtain⟨Z,h8⟩:=ab h;have u:=yn O P
  refine aS (lI (N:=J) (g:=pp X.K T) (tb:=tC X.K X.mg oL Φ Γ t body) O.calm u (yo O U) (mI it O W jI) (λA l=>e6 _ l>>=λok=>if ok=JK then br (ym JL _ _ _ _) (Fh JL _ _ l) (_::_) 0 (.ref A) l else pure ())
   (λit A l=>sr (kd:=JL) rfl) (λC s0 L M A=>?_) (mE Y)) λσ H Q q=>jr (tg0:=ii T J ((vw e).gs.headD dG).target) q
  have x:=yp O u.kind V C s0 L M;exact⟨jp x v,rQ (mH t x Z) (sx body (kd:=JL) x rfl rfl h8)⟩
 |emit e=>cases h
 |inner a b c d=>cases h
 |seq a=>cases h
 |range a=>cases h
 |zip a=>cases h
 |enum a=>cases h
theorem dW(c:CE):∀{X:Cx} {cell:Str->Bool} {N:Ls} {sc:Sc} {CX:dN} {E:XK} {Φ:FT} {Γ:Str->Option D} {k:Nat} {e:Expr},cD X cell N sc CX E Φ Γ k->b6 c N sc e=JK->PT X (bq c N e) (tT X.K X.mg E Φ Γ c):=by
 intro X cell N sc CX E Φ Γ k e O h;cases c with
 |var i=>
  refine d7 (g_ (σ:=[]) (pi O (ab h).1 (ab (ab h).2).1 (ab (ab h).2).2) λ_=>rfl) λu H Q Z=>aB Z λF t j S s n w=>⟨F,t,j,S,s,n,?_⟩;cases l:j[i]? with
  |none=>simp only[ao,l]at w;exact w.elim
  |some o=>
   cases o with
   |none=>simp only[ao,l]at w;exact w.elim
   |some d=>simp only[ao,l]at w;simp only[aj,l];exact w
 |lit d=>exact d7 (g_ (Φ:=Φ) (Γ:=Γ) (σ:=[]) (pj h) λ_=>rfl) λu H Q Z=>aB Z λF t j S s n w=>⟨F,t,j,S,s,n,w⟩
 |call f p=>
  have A:=eH p O (ab (ab h).2).1;cases p with
  |nil=>cases(ab (ab h).2).2
  |cons c C=>
   refine d7 (g_ (σ:=[]) (jl O (ab h).1 (fE (cs:=c::C) (ab (ab h).2).1) A) λ_=>rfl) λu H Q Z=>aB Z λF t j S s n w=>⟨F,t,j,S,s,n,?_⟩;simp only[ao]at w;simp only[aj];cases l:Φ f with
   |none=>rw[l]at w;exact w
   |some I=>
    rw[l]at w;show ai _ _ _ _ _ _ _ (((ak Φ Γ (c::C) j S).bind λx v=>I x v).bind _);cases m:ak Φ Γ (c::C) j S with
    |ok x v=>rw[m]at w;exact w
    |err y v=>rw[m]at w;exact w
    |fail=>rw[m]at w;exact w
 |blt b p=>
  have A:=eH p O (ab (ab h).2).1;cases p with
  |nil=>cases(ab (ab (ab h).2).2).1
  |cons c C=>
   refine d7 (g_ (σ:=[]) (pk O (jG O b (ab (ab (ab h).2).2).2) (ab h).1 (fE (cs:=c::C) (ab (ab h).2).1) A) λ_=>rfl) λu H Q Z=>aB Z λF t j S s n w=>⟨F,t,j,S,s,n,?_⟩;simp only[ao]at w;simp only[aj];cases m:ak Φ Γ (c::C) j S with
   |ok x v=>rw[m]at w;exact w
   |err y v=>rw[m]at w;exact w
   |fail=>rw[m]at w;exact w
 |cmp op a b=>exact wY O.room.units (aP a O (ab h).1) (aP b O (ab (ab h).2).1) (gG (ab (ab h).2).2)
 |chain3 op B G a b c d=>cases h
 |chain op B a b c=>exact lX O.room.units (aP a O (ab h).1) (aP b O (ab (ab h).2).1) (aP c O (ab (ab (ab h).2).2).1) (gG (ab (ab (ab h).2).2).2)
 |band a b=>exact(yv (dW a O (ab h).1) (λz=>dW b O (fv (ab h).2 z)) λz=>by have g:=(ab (cz (ab h).2 z)).1;obtain⟨r,R,q⟩:=sv (pos:=(vw e).pos) (N:=N) (es:=(vw e).es.tail) g;exact⟨r,R,q,mG b O (ab (cz (ab h).2 z)).2 (by rw[g];rfl)⟩).pt
 |bor a b=>exact(jH (dW a O (ab h).1) (λz=>dW b O (fv (ab h).2 z)) λz=>by have g:=(ab (cz (ab h).2 z)).1;obtain⟨r,R,q⟩:=sw (pos:=(vw e).pos) (N:=N) (es:=(vw e).es.tail) g;exact⟨r,R,q,mG b O (ab (cz (ab h).2 z)).2 (by rw[g,NU])⟩).pt
 |bnot a=>exact w9 (dW a O h)
 |_=>exact(mF λ_ _=>by simp only[ao]).pt
theorem mG(c:CE):∀{X:Cx} {cell:Str->Bool} {N:Ls} {sc:Sc} {CX:dN} {E:XK} {Φ:FT} {Γ:Str->Option D} {k:Nat} {e:Expr},cD X cell N sc CX E Φ Γ k->b6 c N sc e=JK->(q7 c||ji c)=JK->PW X (bq c N e) (tT X.K X.mg E Φ Γ c):=by
 intro X cell N sc CX E Φ Γ k e O h H;cases c with
 |band a b=>exact yv (dW a O (ab h).1) (λz=>dW b O (fv (ab h).2 z)) λz=>by have g:=(ab (cz (ab h).2 z)).1;obtain⟨r,R,q⟩:=sv (pos:=(vw e).pos) (N:=N) (es:=(vw e).es.tail) g;exact⟨r,R,q,mG b O (ab (cz (ab h).2 z)).2 (by rw[g];rfl)⟩
 |bor a b=>exact jH (dW a O (ab h).1) (λz=>dW b O (fv (ab h).2 z)) λz=>by have g:=(ab (cz (ab h).2 z)).1;obtain⟨r,R,q⟩:=sw (pos:=(vw e).pos) (N:=N) (es:=(vw e).es.tail) g;exact⟨r,R,q,mG b O (ab (cz (ab h).2 z)).2 (by rw[g,NU])⟩
 |_=>cases H
theorem eH(cs:List CE):∀{X:Cx} {cell:Str->Bool} {N:Ls} {sc:Sc} {CX:dN} {E:XK} {Φ:FT} {Γ:Str->Option D} {k:Nat} {es:Lx},cD X cell N sc CX E Φ Γ k->fY cs N sc es=JK->PA X (fQ cs N es) (tL X.K X.mg E Φ Γ cs):=by
 intro X cell N sc CX E Φ Γ k es O h;cases cs with
 |nil=>exact xb
 |cons c cs=>exact rg (ab (ab h).2).1 (aP c O (ab h).1) (eH cs O (ab (ab h).2).2)
theorem jJ(cs:List CE):∀{X:Cx} {cell:Str->Bool} {N:Ls} {sc:Sc} {CX:dN} {E:XK} {Φ:FT} {Γ:Str->Option D} {k:Nat} {es:Lx},cD X cell N sc CX E Φ Γ k->fY cs N sc es=JK->cs.length<2->PO X (fQ cs N es).head? (xl X.K X.mg E Φ Γ cs):=by
 intro X cell N sc CX E Φ Γ k es O h H;cases cs with
 |nil=>exact l5
 |cons c cs=>cases cs with
  |nil=>exact l6 (aP c O (ab h).1)
  |cons _ _=>exact absurd H (by simp)
theorem mH(cs:List CE):∀{X:Cx} {cell:Str->Bool} {N:Ls} {sc:Sc} {CX:dN} {E:XK} {Φ:FT} {Γ:Str->Option D} {k:Nat} {es:Lx},cD X cell N sc CX E Φ Γ k->fY cs N sc es=JK->wH X (fQ cs N es) (cs.map (tT X.K X.mg E Φ Γ)):=by
 intro X cell N sc CX E Φ Γ k es O h;cases cs with
 |nil=>trivial
 |cons c cs=>exact⟨dW c O (ab h).1,mH cs O (ab (ab h).2).2⟩
theorem mI(c:CE):∀{X:Cx} {cell:Str->Bool} {N:Ls} {sc:Sc} {CX:dN} {E:XK} {Φ:FT} {Γ:Str->Option D} {k:Nat} {tg:CT} {t e:Expr},cD X cell N sc CX E Φ Γ k->BQ c N sc tg e=JK->(jh tg=JK->eG t=JK)->PI X t (q_ c N e) (tI X.K X.mg E Φ Γ c):=by
 intro X cell N sc CX E Φ Γ k tg t e O h l;cases c with
 |seq a=>exact xz (aP a O h)
 |range f=>
  have g:=(ab (ab h).2).1;have H:=(ab (ab h).2).2;have i:=fE g;have j:=eH f O g;cases f with
  |nil=>cases H
  |cons a f=>cases f with
   |nil=>exact Ee O (ab h).1 (i _ Ze) rfl j
   |cons b f=>cases f with
    |nil=>exact Ef O (ab h).1 (i _ Ze) (i _ (Zc _ Ze)) rfl j
    |cons d f=>cases H
 |enum f=>
  have g:=(ab (ab h).2).1;have H:=(ab (ab h).2).2;have i:=fE g;have j:=eH f O g;cases f with
  |nil=>cases(ab H).1
  |cons a f=>cases f with
   |nil=>exact rK O (ab h).1 (l (ab H).2) (i _ Ze) j
   |cons b f=>cases(ab H).1
 |zip f=>
  have g:=(ab (ab h).2).1;have H:=(ab (ab h).2).2;have i:=fE g;have j:=eH f O g;cases f with
  |nil=>cases(ab H).1
  |cons a f=>cases f with
   |nil=>cases(ab H).1
   |cons b f=>cases f with
    |nil=>exact xC O (ab h).1 (l (ab H).2) (i _ Ze) (i _ (Zc _ Ze)) j
    |cons d f=>cases(ab H).1
 |_=>cases h
theorem sx(c:CE):∀{X:Cx} {cell:Str->Bool} {N:Ls} {sc:Sc} {CX:dN} {E:XK} {Φ:FT} {Γ:Str->Option D} {k:Nat} {kd:Bool} {e:Expr} {gens g:List J6} {scope:Scope} {pos:Pos} {d:Nat} {acc:JP},cD X cell N sc CX E Φ Γ k->X.xe=(λ_ _=>False)->gens.drop (d+1)=q9 c N g->sdB c kd cell N sc g e=JK->
  PB X (br (ym kd (lV c N e) gens scope pos) (Fh kd (lV c N e) (.ref acc) X.env) gens d (.ref acc) X.env) (tB X.K X.mg (oK X kd) Φ Γ c acc):=by
 intro X cell N sc CX E Φ Γ k kd e gens g scope pos d acc O b H h;cases c with
 |emit a=>
  cases kd with
  |true=>cases h
  |false=>exact rR (Fj H) (aP a O h)
 |inner t it i body=>obtain⟨f,h⟩:=ab h;obtain⟨j,h⟩:=ab h;obtain⟨l,h⟩:=ab h;obtain⟨m,n⟩:=ab h;exact mf (by cases kd<;>rfl) (by cases kd<;>rfl) (λit=>sr (yt H)) b O.calm (yt H) (mI it O j jI) (mE l) (jp O f) (rQ (mH i O m) (sx body O b (Fm H) n))
 |_=>cases h
end
noncomputable def ax(K:Fg)(m:GS)(E:XK)(D:Ends)(μ:La)(H:Hp):Res Fl->Prop
 | .ok (.next ρ') S'=>∀μ' H' σ',Ext μ H μ' H'->aK K m μ' S' H'->a8 K m μ' H' ρ' σ'->D.nx σ' H'
 | .ok (.ret d) S'=>∀μ' H' v,Ext μ H μ' H'->aK K m μ' S' H'->Rep K m μ' H' d v->D.rt v H'
 | .ok (.brk ρ') S'=>∀μ' H' σ',Ext μ H μ' H'->aK K m μ' S' H'->a8 K m μ' H' ρ' σ'->D.bk σ' H'
 | .ok (.cont ρ') S'=>∀μ' H' σ',Ext μ H μ' H'->aK K m μ' S' H'->a8 K m μ' H' ρ' σ'->D.ct σ' H'
 | .err x S'=>∀μ' H',Ext μ H μ' H'->aK K m μ' S' H'->wR m.mg E x H'
 | .fail=>False
noncomputable def tS(K:Fg)(m:Mg)(E:XK)(Φ:FT)(Γ:Str->Option D)(c:CS):TS:=λD σ H=>∃F μ ρ S,aK K ⟨m,F⟩ μ S H/\a8 K ⟨m,F⟩ μ H ρ σ/\ax K ⟨m,F⟩ E D μ H (aC Φ Γ c ρ S)
noncomputable def pA(K:Fg)(m:Mg)(E:XK)(Φ:FT)(Γ:Str->Option D)(cs:List CS):TS:=λD σ H=>∃F μ ρ S,aK K ⟨m,F⟩ μ S H/\a8 K ⟨m,F⟩ μ H ρ σ/\ax K ⟨m,F⟩ E D μ H (af Φ Γ cs ρ S)
section
variable {mg:GS}{E:XK}{D D':Ends}
theorem ax.ext{r:Res Fl}(x:Ext μ H μ' H')(w:ax K mg E D μ H r):ax K mg E D μ' H' r:=by
 cases r with
 |ok f S=>
  cases f with
  |next a=>exact λm h s y=>w m h s (x.trans y)
  |ret d=>exact λm h s y=>w m h s (x.trans y)
  |brk a=>exact λm h s y=>w m h s (x.trans y)
  |cont a=>exact λm h s y=>w m h s (x.trans y)
 |err z S=>exact λm h y=>w m h (x.trans y)
 |fail=>exact w
theorem ax.bind{Rel:La->Hp->α->β->Prop}{r:Res α}{f:α->aa->Res Fl}(w:ax K mg E D μ H (r.bind f)):
  ai K mg E Rel μ H (λb H'=>∃μ' S' a,Ext μ H μ' H'/\aK K mg μ' S' H'/\Rel μ' H' a b/\ax K mg E D μ' H' (f a S')) r:=by
 cases r with
 |ok a S'=>exact λc d b x s r=>⟨_,_,a,x,s,r,ax.ext x (show ax K _ E D _ H _ from w)⟩
 |err y S'=>exact w
 |fail=>exact w
theorem ax.seq{r:Res Fl}{f:bt->aa->Res Fl}{N:L2.St->Hp->Prop}(w:ax K mg E D μ H (r.bind λF S1=>match F with
   | .next ρ'=>f ρ' S1
   |F=>.ok F S1)) (b:∀μ' H' σ' ρ' S',Ext μ H μ' H'->aK K mg μ' S' H'->a8 K mg μ' H' ρ' σ'->ax K mg E D μ' H' (f ρ' S')->N σ' H'):ax K mg E {D with nx:=N} μ H r:=by
 cases r with
 |ok F S=>
  cases F with
  |next a=>exact λm h s x k e=>b m h s _ S x k e (ax.ext x (show ax K _ E D _ H _ from w))
  |ret d=>exact w
  |brk a=>exact w
  |cont a=>exact w
 |err z S=>exact w
 |fail=>exact w
end
theorem b9{t t':TS}(h:PS X st t)(w:∀D σ H,t' D σ H->t D σ H):PS X st t':=λp s σ H D I q=>h _ s _ H D I (w D _ H q)
theorem jK{st:List Ly}{t t':TS}(h:fP X st t)(w:∀D σ H,t' D σ H->t D σ H):fP X st t':=λp s σ H D I q=>h _ s _ H D I (w D _ H q)
noncomputable def f':Expr->Bool
 | .ListComp .. =>JL
 | .SetComp .. =>JL
 | .DictComp .. =>JL
 |_=>JK
noncomputable def sy:Expr->Bool
 | .ListComp .. =>JK
 |_=>JL
noncomputable def sA(s:Sc)(x:Str):Bool:=s.lookup x==some .local||s.lookup x==some .cell
noncomputable def Jd(s:Sc)(x:Str)(p:Pos)(v:Expr):Bool:=s.lookup x==some .local&&(p.line==(vw v).pos.line&& !((vw v).sc.names.any λ(n,k)=>n==x&&(k== .local||k== .cell)))
noncomputable def dS:Ly:=.Pass ⟨0,0,0,0⟩
set_option genInjectivity false in
structure JF where
 e0:Expr:=dE
 e1:Expr:=dE
 a:List Ly:=[]
 b:List Ly:=[]
 pos:Pos:=⟨0,0,0,0⟩
 hp:Pos:=⟨0,0,0,0⟩
noncomputable def vs:Ly->JF
 | .Assign ts v p=>{e0:=ts.headD dE,e1:=v,pos:=p}
 | .AugAssign t _ v p=>{e0:=t,e1:=v,pos:=p}
 | .Expr v p=>{e0:=v,pos:=p}
 | .Return v p=>{e0:=v.getD dE,pos:=p}
 | .Pass p=>{pos:=p}
 | .Break p=>{pos:=p}
 | .Continue p=>{pos:=p}
 | .If t x y p=>{e0:=t,a:=x,b:=y,pos:=p}
 | .For t i x _ p=>{e0:=t,e1:=i,a:=x,pos:=p}
 | .While t x _ p=>{e0:=t,a:=x,pos:=p}
 | .Raise v _ p=>{e0:=v.getD dE,pos:=p}
 | .Try x [.ExceptHandler t _ y hp] _ _ p=>{e0:=t.getD dE,a:=x,b:=y,pos:=p,hp:=hp}
 |_=>{}
noncomputable def yw(o i:CE)(N:Ls)(e:Expr):Expr:=.Subscript (bq o N (vw e).e0) (bq i N (vw e).e1) (vw e).pos
noncomputable def yx(o i:CE)(N:Ls)(s:Sc)(e:Expr):Bool:=ig (bq i N (vw e).e1)&&(b6 o N s (vw e).e0&&b6 i N s (vw e).e1)
mutual
noncomputable def BV:CS->Ls->Ly->Ly
 | .asg i e,N,st=>.Assign [.Name (N.getD i "") (vw (vs st).e0).pos] (bq e N (vs st).e1) (vs st).pos
 | .asgT t e,N,st=>.Assign [ii t N (vs st).e0] (bq e N (vs st).e1) (vs st).pos
 | .set o i v,N,st=>.Assign [yw o i N (vs st).e0] (bq v N (vs st).e1) (vs st).pos
 | .expr e,N,st=>.Expr (bq e N (vs st).e0) (vs st).pos
 | .ret e,N,st=>.Return (some (bq e N (vs st).e0)) (vs st).pos
 | .retN,_,st=>.Return none (vs st).pos
 | .pass,_,st=>.Pass (vs st).pos
 | .brk,_,st=>.Break (vs st).pos
 | .cont,_,st=>.Continue (vs st).pos
 | .ite c a b,N,st=>.If (bq c N (vs st).e0) (fI a N (vs st).a) (fI b N (vs st).b) (vs st).pos
 | .for_ t it body,N,st=>.For (ii t N (vs st).e0) (q_ it N (vs st).e1) (fI body N (vs st).a) [] (vs st).pos
 | .while_ _ c body,N,st=>.While (bq c N (vs st).e0) (fI body N (vs st).a) [] (vs st).pos
 | .never,_,st=>st
 | .raise_ _ _,_,st=>st
noncomputable def fI:List CS->Ls->List Ly->List Ly
 | [],_,_=>[]
 |c::cs,N,st=>BV c N (st.headD dS)::fI cs N st.tail
end
noncomputable def jL:Expr->Bool
 | .Tuple xs _ _=>xs.all (foldedForSure 8)
 |_=>JK
noncomputable def jM(s:Sc):Expr->Bool
 | .Tuple ts _ _=>ts.any fun
  | .Name id _=>s.lookup id==some .cell
  |_=>JL
 |_=>JL
mutual
noncomputable def sdS:CS->Ls->Sc->Ly->Bool
 | .asg i e,N,sc,st=>N[i]?==some (N.getD i "")&&(sA sc (N.getD i "")&&(b6 e N sc (vs st).e1&&(f' (bq e N (vs st).e1)||(wU e&&(sc.lookup (N.getD i "")==some .cell||Jd sc (N.getD i "") (vw (vs st).e0).pos (bq e N (vs st).e1))))))
 | .asgT t e,N,sc,st=>jh t&&((jL (bq e N (vs st).e1)||jM sc (ii t N (vs st).e0))&&(f' (bq e N (vs st).e1)&&(sdT (λ_=>JK) N sc t&&b6 e N sc (vs st).e1)))
 | .set o i v,N,sc,st=>yx o i N sc (vs st).e0&&(f' (bq v N (vs st).e1)&&b6 v N sc (vs st).e1)
 | .expr e,N,sc,st=>f' (bq e N (vs st).e0)&&b6 e N sc (vs st).e0
 | .ret e,N,sc,st=>b6 e N sc (vs st).e0
 | .retN,_,_,_=>JK
 | .pass,_,_,_=>JK
 | .brk,_,_,_=>JK
 | .cont,_,_,_=>JK
 | .ite c a b,N,sc,st=>b6 c N sc (vs st).e0&&(fJ a N sc (vs st).a&&fJ b N sc (vs st).b)
 | .for_ t it body,N,sc,st=>sdT (λ_=>JK) N sc t&&(BQ it N sc t (vs st).e1&&(lU (q_ it N (vs st).e1)&&fJ body N sc (vs st).a))
 | .while_ _ c body,N,sc,st=>b6 c N sc (vs st).e0&&fJ body N sc (vs st).a
 | .never,_,_,_=>JK
 | .raise_ _ _,_,_,_=>JK
noncomputable def fJ:List CS->Ls->Sc->List Ly->Bool
 | [],_,_,_=>JK
 |c::cs,N,sc,st=>sdS c N sc (st.headD dS)&&fJ cs N sc st.tail
end
section
variable {E:XK}{pos:Pos}
theorem mJ{v:Expr}{o:Option Expr}(h:f' v=JK):swapsWith v o line env=pure JL:=by cases v<;>first|rfl|cases h
theorem yy(O:cD X cell N sc CX E Φ Γ k):X.env.blockKind=.function:=by unfold Env.blockKind;rw[O.kd];rfl
theorem mK(O:cD X cell N sc CX E Φ Γ k){v:Expr}{x:Str}{p:Pos}(h:sy v=JK)(H:sc.lookup x=some .cell):swapsWith v (some (.Name x p)) line X.env=pure JL:=by
 have e:X.env.kindOf x=some .cell:=by show X.env.scope.names.lookup x=_;rw[O.sc];exact H
 cases v<;>first| (cases h)|skip
 show(pure _)=pure _;have a:(some JZ==some NameKind.local)=JL:=by lia
 lia
theorem sB(O:cD X cell N sc CX E Φ Γ k){e:Expr}{g:List J6}{v p:Pos}{x:Str}(h:Jd sc x p (.ListComp e g scope v)=JK):swapsWith (.ListComp e g scope v) (some (.Name x p)) line X.env=pure JK:=by
 obtain⟨d,h⟩:=ab h;obtain⟨H,a⟩:=ab h;have c:X.env.kindOf x=some .local:=by show X.env.scope.names.lookup x=_;rw[O.sc];simp_all
 show pure (X.env.blockKind== .function&&X.env.kindOf x==some _&&p.line==v.line&& !_)=pure _;rw[yy O,show(p.line==v.line)=JK from H];have b:(!scope.names.any _)=JK:=a;lia
theorem sC(O:cD X (λ_=>JK) N sc CX E Φ Γ k){x:Str}(h:sA sc x=JK):L2.Loc X.env.scope x:=by unfold L2.Loc;rw[O.sc];unfold sA at h;simpa using h
theorem yz{D:Ends}{i:Nat}{e:CE}(h:tS X.K X.mg E Φ Γ (.asg i e) D σ H):tE X.K X.mg E Φ Γ e σ H λv H1=>D.nx (σ.set i (some v)) H1:=by obtain⟨F,g,j,S,b,a,w⟩:=h;exact⟨F,_,_,S,b,a,(ax.bind w).mono λv H1 z=>aD z λc f d x s r W=>W _ _ _ .refl s ((a.mono x).set r)⟩
theorem yA(O:cD X (λ_=>JK) N sc CX E Φ Γ k){i:Nat}{e:CE}(h:sdS (.asg i e) N sc st=JK):PS X (BV (.asg i e) N st) (tS X.K X.mg E Φ Γ (.asg i e)):=by
 obtain⟨c,h⟩:=ab h;obtain⟨r,h⟩:=ab h;obtain⟨l,a⟩:=ab h;have c:=beq_iff_eq.mp c
 have p:swapsWith (bq e N (vs st).e1) (some (.Name (N.getD i "") (vw (vs st).e0).pos)) (vs st).pos.line X.env=pure JL->PS X (BV (.asg i e) N st) (tS X.K X.mg E Φ Γ (.asg i e)):=λt=>
  b9 (qc (i:=i) (by rw[O.n];exact O.nd) (by rw[O.n];exact c) (sC O r) (aP e O l) t (.inl (O.fn _ rfl))) λD M H q=>yz q
 rcases MC.mp a with a|a
 ·exact p (mJ a)
 ·obtain⟨a,b⟩:=ab a;cases e with
  |comp box n fr T it I body=>
   rcases MC.mp b with b|b
   ·exact p (mK O rfl (beq_iff_eq.mp b))
   ·have f:=sB O (line:=(vs st).pos.line) b;have u:X.env.scope.names.lookup (N.getD i "")=some .local:=by rw[O.sc];exact beq_iff_eq.mp (ab b).1
    obtain⟨K,h⟩:=ab l;obtain⟨v,h⟩:=ab h;obtain⟨w,h⟩:=ab h;obtain⟨x,h⟩:=ab h;obtain⟨y,h⟩:=ab h;obtain⟨z,h⟩:=ab h;obtain⟨B,G⟩:=ab h;have s:=yn O K
    refine b9 (lJ (N:=n) (j:=i) (g:=pp X.K T) (tb:=tC X.K X.mg oL Φ Γ I body) O.calm (by rw[O.n];exact O.nd) (by rw[O.n];exact c) u f s (yo O v) (mI it O y jI) _
     (λit A o=>sr (kd:=JL) rfl) (λC S m F A=>?_) (mE z)) λD M H q=>jr (tg0:=.Name (N.getD i "") (vw (vs st).e0).pos) (yz q)
    have d:=yp O s.kind w C S m F;exact⟨jp d x,rQ (mH I d B) (sx body (kd:=JL) d rfl rfl G)⟩
  |_=>cases a
end
def uV(h:JU)(H:Hp)(h':JU)(e:JP)(cls:JO):Prop:=
 ∃o vs a0 T O ts,h'.get? e=some o/\(o.cls=cls/\vs[0]?=some a0)/\o.data=.fields vs/\vs[1]?=some (.ref T)/\T≠e/\h'.get? T=some O/\O.data=.fields ts/\ts[3]?=some .none/\(h.get? e=none/\h.get? T=none)/\H e=none/\H T=none
noncomputable def bo(P:J8)(w:Ke):dN:=λouter H s E v s'=>∃e cls H',v=.ref e/\s'.os=s.os/\Mf s'.gens/\Un (dM outer) [] H H' s.heap s'.heap/\d_ P w H' s'.heap/\E cls none H'/\uV s.heap H' s'.heap e cls
theorem pB(o:List Env)(H:Hp)(s:JN)(e:JO)(S:JN)(z:bo P w o H s E0 e S):False:=by obtain⟨_,_,_,_,_,_,_,_,q,_⟩:=z;exact q
theorem jN{o:HO}(x:bv P w H h a o):∃u,h.get? a=some u:=by
 cases o with
 |lst X=>obtain⟨_,_,_,_,e⟩:=x;exact⟨_,e⟩
 |tup X=>obtain⟨_,_,_,_,u,e,_⟩:=x;exact⟨_,e⟩
 |dK k=>obtain⟨_,_,_,_,o,_,_,e,_⟩:=x;exact⟨_,e⟩
 |dT k=>obtain⟨_,_,_,_,o,_,_,e,_⟩:=x;exact⟨_,e⟩
 |set S n=>obtain⟨o,_,_,_,e,_⟩:=x;exact⟨_,e⟩
 |ins C d fs=>obtain⟨_,_,_,e,_⟩:=x;exact⟨_,e⟩
 |own y=>obtain⟨_,e⟩:=x;exact⟨_,e⟩
 |xd fs=>obtain⟨_,⟨_,_,_,e,_⟩,_⟩:=x;exact⟨_,e⟩
 |rng lo b=>obtain⟨_,_,_,e⟩:=x;exact⟨_,e⟩
 |frz O u=>obtain⟨e,_⟩:=x;exact⟨_,e⟩
 |tbl p=>exact⟨_,show h.get? a=some _ from x⟩
 |met f y=>exact⟨_,show h.get? a=some _ from x⟩
 |ext c=>obtain⟨_,e,_⟩:=x;exact e
section
variable {s3:JN}{e T:JP}{cls a0:JO}{B:JU}{E:XK}
theorem yB(I:Inv X pq σ H' s2)(y:X.ex=[])(C:X.stack=X.env::X.outer)(K:∀b o,s2.heap.get? b=some o->b∉dM X.stack->b≠e->b≠T->B.get? b=some o)
  (L:X.s₀.heap.get? e=none/\X.s₀.heap.get? T=none) (G:H' e=none/\H' T=none) (J:Heap.FlyingW B X.outer e cls a0 h') (F:s2.heap.UpToSlots h') (q:E cls none H')
  (M:s3.os=s2.os) (N:s3.gens=s2.gens) (P:s3.heap=h'):bo X.prog X.w X.outer X.H₀ X.s₀ E (.ref e) s3:=by
 have U:=I.base;rw[y]at U;have m:∀b,b∈dM X.stack->∃o,s2.heap.get? b=some o/\∀vs,o.data≠.fields vs:=λb f=>(I.stack.mem f).2;have k:∀b o,s2.heap.get? b=some o->b∉dM X.stack->b≠e->b≠T->h'.get? b=some o:=λb o h H c g=>J.1 b o (K b o h H c g);have old:∀b o,X.s₀.heap.get? b=some o->b≠e/\b≠T:=λb o h=>⟨λz=>(by grind),λz=>(by grind)⟩
 have nl:∀b o,X.s₀.heap.get? b=some o->b∉dM X.outer->b∉dM X.stack:=λb o h H c=>by
  rcases Zk.mp (I.stkSub b c)with z|z
  ·have:=Zj h;rw[z]at this;exact absurd this (L3.mpr I.ok.above)
  ·exact H z
 have D:∀b∈dM X.outer,b∈dM X.stack:=λb f=>by rw[C];obtain⟨R,h,H⟩:=KS.mp f;exact KS.mpr ⟨R,Zc _ h,H⟩
 have t:∀b o,s2.heap.get? b=some o->b≠e->b≠T->∃O,h'.get? b=some O:=λb o h H c=>by
  by_cases f:b∈dM X.stack
  ·obtain⟨x,g,i⟩:=m b f;obtain⟨sl,l⟩:=F b x g i;exact⟨_,l⟩
  ·exact⟨o,k b o h f H c⟩
 have U':Un (dM X.outer) [] X.H₀ H' X.s₀.heap h':=by
  refine⟨λb o h H c g=>k b o (U.keep b o h H c g) (nl b o h c) (old b o h).1 (old b o h).2,λb o h H c g=>?_,U.free,λb o h H=>?_,U.tups,U.frzs,U.tbls⟩
  ·obtain⟨sl,i⟩:=U.slot b o h H c g;obtain⟨x,l,v⟩:=m b (D b c);rw[i]at l;cases l;obtain⟨S,w⟩:=F b _ i v;exact⟨S,w⟩
  ·obtain⟨O,i⟩:=U.there b o h H;exact t b O i (old b o h).1 (old b o h).2
 have s:∀b u,H' b=some u->b∉dM X.stack/\b≠e/\b≠T:=λb u h=>
  ⟨λz=>(by rw[I.stkFree b z]at h;cases h),λz=>(by grind),λz=>(by grind)⟩
 have Y:d_ X.prog X.w H' h':=λa o Q=>(I.hok a o Q).stay (λb u f h=>by grind) (λ_ q=>q) λ_ _ q=>q;obtain⟨k1,k2,k3,oe,vs,d,Z,ts,h,H,c,g,i,l,v,w,V⟩:=J
 have gG:∀o,s2.heap.get? d=some o->d=T:=λo A=>by
  refine ZX λW=>?_;by_cases f:d∈dM X.stack
  ·obtain⟨x,j,p⟩:=m d f;obtain⟨sl,r⟩:=F d x j p;rw[v]at r;cases r;exact p _ w
  ·rw[K d o A f l W]at i;cases i
 refine⟨e,cls,H',rfl,by rw[M];exact I.os,by rw[N];exact I.bare,by grind,by grind,q,?_⟩;rw[P];refine⟨oe,vs,a0,d,Z,ts,h,H,c,g,l,v,w,V,⟨L.1,?_⟩,G.1,?_⟩
 ·cases n:X.s₀.heap.get? d with
  |none=>rfl
  |some o=>obtain⟨O,j⟩:=U.there d o n (by simp);rw[gG O j,L.2]at n;cases n
 ·cases n:H' d with
  |none=>rfl
  |some u=>obtain⟨o,A⟩:=jN (I.hok d u n);rw[gG o A,G.2]at n;cases n
theorem Fn{l:List Env}(f:uV h0 Hx h e cls)(t:h.FunFrames base l):∃T a0,(h0.get? e=none/\h0.get? T=none)/\(Hx e=none/\Hx T=none)/\Heap.FlyingW (PySem.W.hideAll h (e::T::dM l)) l e cls a0 h:=by obtain⟨u,vs,a0,T,O,v,d,g,i,j,k,m,n,p,H,c⟩:=f;exact⟨T,a0,H,c,λb o q=>PySem.W.of_hideAll _ q,PySem.W.hideAll_none _ (by simp),PySem.W.funFrames_hide t (λE s a r=>Zc _ (Zc _ (KS.mpr ⟨E,s,r⟩))),u,vs,T,O,v,d,g,i,j,PySem.W.hideAll_none _ (by simp),k,m,n,p⟩
theorem mL{l:List Env}:∀b o,h.get? b=some o->b∉dM l->b≠e->b≠T->(PySem.W.hideAll h (e::T::dM l)).get? b=some o:=λb o H a c d=>
 PySem.W.hideAll_get _ H λf=>by grind
theorem mM{v:JO}(I:Inv X pq σ H s)(c:bo X.prog X.w X.stack H s E v s2)(a:X.ex=[]):∃e cls H',v=.ref e/\Inv X pq σ H' s2/\E cls none H'/\uV s.heap H' s2.heap e cls:=by obtain⟨e,cls,H',rfl,o,B,un,h,q,f⟩:=c;exact⟨e,cls,H',rfl,I.call' o un h B (λb z=>absurd z (by simp)),q,f⟩
theorem uV.old(f:uV h0 Hx h e cls)(t:∀b o,h1.get? b=some o->∃o',h0.get? b=some o'):uV h1 Hx h e cls:=by
 obtain⟨r,vs,a,T,O,s,c,d,i,j,k,l,m,p,g,G⟩:=f
 have n:∀b,h0.get? b=none->h1.get? b=none:=λb H=>by
  cases q:h1.get? b with
  |none=>rfl
  |some o=>obtain⟨o',E⟩:=t b o q;rw[H]at E;cases E
 exact⟨r,vs,a,T,O,s,c,d,i,j,k,l,m,p,⟨n _ g.1,n _ g.2⟩,G⟩
end
section
variable {E:XK}
def kG(X:Cx)(E:XK):Prop:=X.ex=[]/\X.stack=X.env::X.outer/\X.env.frame=some X.env.locals/\X.xe=λe s'=>wpAny (model X.prog X.w) X.A (leaving X.env e) (λ_ s=>bo X.prog X.w X.outer X.H₀ X.s₀ E e s) (λa s=>bo X.prog X.w X.outer X.H₀ X.s₀ E a s) s'
theorem kG.of{E:XK}:kG (gv (bo P w) P w K mg base N qual scope f cd A outer s H E) E:=
 ⟨rfl,rfl,rfl,rfl⟩
theorem kG.own(L:kG X E):MZ (model X.prog X.w) X.A X.env X.xe:=by rw[L.2.2.2];exact PassesOwn.leaving
theorem kG.pass(L:kG X E):lb (bo X.prog X.w) X E:=by intro P r H s v S I c;obtain⟨a,h,k,d⟩:=L;obtain⟨e,cls,l,rfl,g,q,f⟩:=mM I c a;obtain⟨T,A,n,N,i⟩:=Fn (f.old (h1:=X.s₀.heap) λb o j=>I.base.there b o j (by grind)) (h▸g.stack);rw[d];exact wpAny_leaves_onW (by rw[I.ok.frames,h]) k i λm F u=>yB (T:=T) g a h (by rw[h];exact mL) n N F u q rfl rfl rfl
theorem kG.made{e:JP}{A:Lv}(L:kG X E)(I:Inv X pq σ H s)(m:Heap.MadeExcOf s.heap h2 e (.ref C) A)(q:E (.ref C) none H):X.xe (.ref e) {s with heap:=h2}:=by
 obtain⟨g,c,w,j⟩:=L;rw[j];refine wpAny_leaves_madeW (base:=PySem.W.hideAll s.heap (dM X.stack)) (h:=s.heap) (by rw[I.ok.frames,c]) w (λb o z=>PySem.W.of_hideAll _ z) (PySem.W.funFrames_hide (c▸I.stack) (by rw[c];exact λf v a r=>KS.mpr ⟨f,v,r⟩)) m λx t F y B U=>?_
 have ne:X.s₀.heap.get? e=none:=by
  cases i:X.s₀.heap.get? e with
  |none=>rfl
  |some o=>obtain⟨O,d⟩:=I.base.there e o i (by grind);rw[m.new]at d;cases d
 have n:H e=none:=by
  cases i:H e with
  |none=>rfl
  |some u=>obtain⟨o,l⟩:=jN (I.hok e u i);rw[m.new]at l;cases l
 exact yB (T:=e) I g c (λb o p h2 _ _=>PySem.W.hideAll_get _ p h2) ⟨ne,ne⟩ ⟨n,n⟩ F ((Heap.UpToSlots.of_keeps m.keeps).trans U) q rfl rfl rfl
end
noncomputable def yC:Lv:=[.type "ValueError",.type "Exception",.type "BaseException",.type "object"]
section
variable {E:XK}{x:Str}
end
open PySem PySem.Spec PySem.Calls PyProof.Rows PySem.W
section
variable {x:JP}
end
section
variable {x:JP}
end
end Py
namespace Py
open PySem PySem.Spec PySem.SeqAt PyProof.Rows L2
section
variable {x:JP}{bf:Str->Bool}{ys:Ls}
end
end Py
namespace Py
section
variable {e T:JP}{B h3:JU}
end
section
variable {y n:Str}{i:Nat}
end
section
variable {D:Ends}{h:ExceptHandler}
variable {pa:JP}{pe n y:Str}{i:Nat}{tp np vp cp rp hp:Pos}
end
set_option genInjectivity false in
inductive Rz where
 |cls (x:Str)|kind (f:Str) (ys ws:Ls)
 deriving DecidableEq
mutual
noncomputable def Je:CS->List Rz
 | .raise_ _ _=>[]
 | .ite _ a b=>e8 a++e8 b
 | .for_ _ _ body=>e8 body
 | .while_ _ _ body=>e8 body
 |_=>[]
noncomputable def e8:List CS->List Rz
 | []=>[]
 |c::cs=>Je c++e8 cs
end
noncomputable def XC(P:J8)(w:Ke)(K:Fg)(m:Mg):Rz->Prop
 | .cls x=>∃C,m x=some (.ref C)/\PySem.W.excIn K C yC "ValueError.__new__"=JK
 | .kind _ _ _=>False
theorem mN{o i:Expr}{p:Pos}(h:ig i=JK):∀v,assign (.Subscript o i p) env v=(do
   let O <-holding [v] (eval o env)
   let I <-holding [v,O] (eval i env)
   standAt p
   holding [v,O,I] (setItem O I v)
   release [v,O,I] []):=by
 intro v;cases i<;>first|rfl|cases h
section
variable {E:XK}{pos:Pos}
end
structure Jf (X:Cx)(N:Ls)(sc:Sc)(CX:dN)(E:XK)(Φ:FT)(Γ:Str->Option D)(k:Nat):Prop where
 x:cD X (λ_=>JK) N sc CX E Φ Γ k
 own:MZ (model X.prog X.w) X.A X.env X.xe
 cx:CX=bo X.prog X.w
 fr:X.ex=[]/\X.stack=X.env::X.outer/\X.env.frame=some X.env.locals
 made:∀(pq:Lp) (σ:L2.St) (H:Hp) (s:JN) (h2:JU) (e C:JP) (args:Lv),L2.Inv X pq σ H s->Heap.MadeExcOf s.heap h2 e (.ref C) args->E (.ref C) none H->X.xe (.ref e) {s with heap:=h2}
section
variable {E:XK}{pos:Pos}
theorem pC{a b:Type}{f:a->Option b}{x:a}(h:f x=none):∀{l:List a},x∈l->(l.filterMap f).length<l.length
 | [],H=>by cases H
 |y::l,H=>by
  rcases Zk.mp H with rfl|H
  ·grind
  ·have:=pC h H
   grind
theorem mO{v:Expr}(d:env.scope.names=sc)(h1:eG tg=JK)(a:(jL v||jM sc tg)=JK):swappedStores [tg] v env=pure none:=by
 cases tg<;>first| (cases h1;done)|skip
 cases v<;>first|rfl|skip
 rename_i t _ _ u _ _;unfold swappedStores;simp only[];split
 ·rfl
 ·split
  ·rfl
  ·split
   ·rfl
   ·rename_i c;rcases MC.mp a with h|h
    ·have h:(List.all u (foldedForSure 8))=JK:=h
     first|rfl|rw[if_pos h]
    ·exfalso
     have h:(t.any λx=>match x with
      | .Name id _=>sc.lookup id==some .cell
      |_=>JL)=JK:=h
     obtain⟨x,g,H⟩:=Z7.mp h;refine c ?_
     have b:=pC (f:=λx=>match x with
      |Expr.Name id p=>if env.kindOf id==some .local&&p.line==(t.head?.map (·.pos.line)).getD 0 then some id else none
      |_=>none) (x:=x) (by
       cases x<;>first|rfl|skip
       rename_i id p;have H:(sc.lookup id==some .cell)=JK:=H
       have e:env.kindOf id=some .cell:=by show env.scope.names.lookup id=_;rw[d];exact eq_of_beq H
       show(if(env.kindOf id==some .local&&_)=JK then _ else _)=none;rw[e];rfl) g
     rw[Lm];exact .inl (bne_iff_ne.mpr (Zu b))
theorem Fo(h1:eG tg=JK):(assignEach [tg] env).map (·.2)=[assign tg env]:=by cases tg<;>first|rfl|cases h1
theorem Fp{t v:Expr}(h:swapsWith v (some t) line env=pure JL):swapsWithSole [t] v line env=pure JL:=h
theorem sD(O:cD X (λ_=>JK) N sc CX E Φ Γ k){t:CT}{e:CE}{v:Expr}(h1:eG (ii t N tg)=JK)(i:(jL v||jM sc (ii t N tg))=JK)(j:f' v=JK)(l:sdT (λ_=>JK) N sc t=JK)(m:PE X v (tE X.K X.mg E Φ Γ e)):PS X (.Assign [ii t N tg] v pos) (tS X.K X.mg E Φ Γ (.asgT t e)):=
 b9 (iN m (jp O l) (mJ j) (mO O.sc h1 i) (Fo h1)) λD u H z=>aB z λF o h S n g w=>by
  simp only[aC]at w;refine⟨F,o,h,S,n,g,(ax.bind w).mono λv H1 z=>aD z λc q d x s r W=>?_⟩;cases a:aE t d h with
  |none=>rw[a]at W;exact W.elim
  |some p=>rw[a]at W;exact rP a r (g.mono x) λf b=>W c H1 f .refl s b
theorem yD{o i v:CE}{k b g:Expr}{p:Pos}(q:ig b=JK)(m:f' g=JK)(r:PE X k (tE X.K X.mg E Φ Γ o))(n:PE X b (tE X.K X.mg E Φ Γ i))(s:PE X g (tE X.K X.mg E Φ Γ v)):PS X (.Assign [.Subscript k b p] g pos) (tS X.K X.mg E Φ Γ (.set o i v)):=
 b9 (iN s (qa r n ww (mN q)) (Fp (mJ m)) rfl) λD σ H z=>aB z λF μ ρ S G a w=>by
  refine⟨F,_,_,S,G,a,(ax.bind w).mono λvv H1 z=>aD z λK T f x y R I=>?_⟩;refine⟨F,_,_,_,y,a.mono x,(ax.bind I).mono λvo O z=>aD z λL U d h A t J=>?_⟩;refine⟨F,_,_,_,A,(a.mono x).mono h,(ax.bind J).mono λZ P z=>aD z λM V e j B u W=>?_⟩;cases c:h7 d e f _ with
  |none=>rw[c]at W;exact W.elim
  |some Y=>rw[c]at W;exact⟨F,_,_,d,e,f,B,Rep.mono j _ _ t,u,Rep.mono (h.trans j) _ _ R,_,c,λN Q l C=>W _ _ _ l C ((((a.mono x).mono h).mono j).mono l)⟩
theorem sE{e:CE}{v:Expr}(h:f' v=JK)(b:PE X v (tE X.K X.mg E Φ Γ e)):PS X (.Expr v pos) (tS X.K X.mg E Φ Γ (.expr e)):=
 b9 (kP b (mJ h)) λD k H z=>aB z λF i j S c a w=>by exact⟨F,_,_,S,c,a,(ax.bind w).mono λv H1 z=>aD z λf g d x s r W=>W _ _ _ .refl s (a.mono x)⟩
theorem yE{e:CE}{v:Expr}(h:PE X v (tE X.K X.mg E Φ Γ e)):PS X (.Return (some v) pos) (tS X.K X.mg E Φ Γ (.ret e)):=
 b9 (p9 h) λD j H z=>aB z λF f g S c b w=>by simp only[aC]at w;exact⟨F,f,g,S,c,b,(ax.bind w).mono λv H1 z=>aD z λa i d x s r W=>W a H1 v .refl s r⟩
theorem sF:PS X (.Return none pos) (tS X.K X.mg E Φ Γ .retN):=b9 kQ λD c H z=>aB z λF a b S s e w=>w _ H _ .refl s iV
theorem sG:PS X (.Pass pos) (tS X.K X.mg E Φ Γ .pass):=b9 kO λD c H z=>aB z λF a b S s e w=>w _ H _ .refl s e
theorem yF:PS X (.Break pos) (tS X.K X.mg E Φ Γ .brk):=b9 Cm λD c H z=>aB z λF a b S s e w=>w _ H _ .refl s e
theorem sH:PS X (.Continue pos) (tS X.K X.mg E Φ Γ .cont):=b9 Cn λD c H z=>aB z λF a b S s e w=>w _ H _ .refl s e
theorem Fq{c:CE}{a b:List CS}{t:Expr}{x y:List Ly}(i:PT X t (tT X.K X.mg E Φ Γ c))(h:fP X x (pA X.K X.mg E Φ Γ a))(g:fP X y (pA X.K X.mg E Φ Γ b)):PS X (.If t x y pos) (tS X.K X.mg E Φ Γ (.ite c a b)):=
 b9 (vg i h g) λD p H z=>aB z λF n o S j e w=>by
  refine⟨F,_,_,S,j,e,(ax.bind w).mono λk H1 z=>aD z λl m K d s f W=>?_⟩;subst f;cases K with
  |true=>exact⟨F,_,_,_,s,e.mono d,W⟩
  |false=>exact⟨F,_,_,_,s,e.mono d,W⟩
theorem sK:fP X [] (pA X.K X.mg E Φ Γ []):=jK kN λD c H z=>aB z λF a b S s e w=>w _ H _ .refl s e
theorem mP{c:CS}{s:Ly}{st:List Ly}(h1:PS X s (tS X.K X.mg E Φ Γ c))(h:fP X st (pA X.K X.mg E Φ Γ cs)):fP X (s::st) (pA X.K X.mg E Φ Γ (c::cs)):=
 jK (Ck h1 h) λD n H z=>aB z λF l m S b a w=>by exact⟨F,_,_,S,b,a,ax.seq w λd i g f j x k e W=>⟨F,_,_,_,k,e,W⟩⟩
theorem yG{M:GS}{D:Ends}{r:Res Fl}{f:bt->aa->Res Fl}{Nx:L2.St->Hp->Prop}(w:ax K M E D μ H (r.bind λF S'=>match F with
   | .next ρ'=>f ρ' S'
   | .cont ρ'=>f ρ' S'
   | .brk ρ'=>.ok (.next ρ') S'
   | .ret d=>.ok (.ret d) S')) (a:∀μ' H' σ' ρ' S',Ext μ H μ' H'->aK K M μ' S' H'->a8 K M μ' H' ρ' σ'->ax K M E D μ' H' (f ρ' S')->Nx σ' H'):ax K M E {D with nx:=Nx,ct:=Nx,bk:=D.nx} μ H r:=by
 cases r with
 |ok F S=>
  cases F with
  |next b=>exact λm h s x k e=>a m h s _ S x k e (ax.ext x (show ax K _ E D _ H _ from w))
  |ret d=>exact w
  |brk b=>exact w
  |cont b=>exact λm h s x k e=>a m h s _ S x k e (ax.ext x (show ax K _ E D _ H _ from w))
 |err z S=>exact w
 |fail=>exact w
theorem mQ{c:CE}{t:Expr}{x:List Ly}(r:MZ (model X.prog X.w) X.A X.env X.xe)(p:PT X t (tT X.K X.mg E Φ Γ c))(o:fP X x (pA X.K X.mg E Φ Γ body)):PS X (.While t x [] pos) (tS X.K X.mg E Φ Γ (.while_ n c body)):=
 b9 (Cs r p o) λD f H z=>aB z λF a b S s e w=>by
  refine⟨λm f H=>∃a b S,aK _ _ a S H/\a8 _ _ a H b f/\ax _ _ E D a H (bC _ _ m b S),⟨n,_,_,S,s,e,w⟩,?_⟩;rintro m f H ⟨a,b,S,s,e,w⟩;cases m with
  |zero=>exact w.elim
  |succ m=>
   refine⟨F,_,_,S,s,e,(ax.bind w).mono λk H1 z=>aD z λy C K i h l W=>?_⟩;subst l;cases K with
   |true=>exact⟨_,λg j q=>⟨m,KP m,q⟩,F,_,_,_,h,e.mono i,yG W λv j g A B x k d u=>⟨_,_,_,k,d,u⟩⟩
   |false=>exact W _ _ _ .refl h (e.mono i)
end
theorem sL(step:D->bt->aa->Res Fl)(xs:List D):∀(n i:Nat) (ρ:bt) (S:aa),i+n=xs.length->cU step (λ_ i=>some xs[i]?) (n+1) i ρ S=cC step (xs.drop i) ρ S
 |0,i,ρ,S,h=>by rw[KU (by omega)];unfold cU;have:xs[i]?=none:=Ky.mpr (by omega);rw[this];rfl
 |n+1,i,ρ,S,h=>by
  have H:i<xs.length:=by omega
  rw[J2 H];unfold cU;rw[Zm H];show(step xs[i] ρ S).bind _=(step xs[i] ρ S).bind _;congr 1;funext f b;cases f with
  |next a=>exact sL step xs n (i+1) a b (by omega)
  |cont a=>exact sL step xs n (i+1) a b (by omega)
  |brk a=>rfl
  |ret d=>rfl
theorem mR(step:D->bt->aa->Res Fl)(its:ia)(ρ:bt)(S:aa):lP step its ρ S=cU step (aT its) (jq its) 0 ρ S:=by
 cases its with
 |items x=>exact(sL step x x.length 0 ρ S (by omega)).symm
 |live f get=>rfl
noncomputable def dA(Φ:FT)(Γ:Str->Option D)(t:CT)(body:List CS):D->bt->aa->Res Fl:=λx ρ S=>match aE t x ρ with
 |some ρ'=>af Φ Γ body ρ' S
 |none=>.fail
section
variable {E:XK}{pos:Pos}
theorem yH{t:CT}{it:CE}{i:Expr}{x:List Ly}(hp:MZ (model X.prog X.w) X.A X.env X.xe)(U:X.calm=JK)(Z:PI X tg i (tI X.K X.mg E Φ Γ it))(V:PG X tg (pp X.K t))(hs:∀x,foldedSetIterable i X.env x=pure x)(T:fP X x (pA X.K X.mg E Φ Γ body)):
  PS X (.For tg i x [] pos) (tS X.K X.mg E Φ Γ (.for_ t it body)):=
 b9 (qe hp U Z V T hs) λD u H zz=>aB zz λF b g S s r w=>by
  simp only[aC]at w;refine⟨F,b,g,S,s,r,ai.mono (Rel:=λp c I J=>e5 X.K ⟨X.mg,F⟩ J (aT I) p c) (ax.bind w) λJ H1 h=>?_⟩;obtain⟨j,M,I,x1,s1,ok,w1⟩:=h;have O:ax X.K ⟨X.mg,F⟩ E D j H1 (lP (dA Φ Γ t body) I g M):=w1;rw[mR]at O;refine⟨λi m u H=>∃b g S,cK X.K F j H1 F b H/\aK X.K ⟨X.mg,F⟩ b S H/\a8 X.K ⟨X.mg,F⟩ b H g u/\ax X.K ⟨X.mg,F⟩ E D b H (cU (dA Φ Γ t body) (aT I) m i g S),⟨jq I,j,g,M,.refl,s1,r.mono x1,O⟩,?_⟩;rintro i m u H ⟨b,g,S,N,s,r,w⟩;cases m with
  |zero=>exact w.elim
  |succ m=>
   unfold cU at w;obtain⟨k1,k2⟩:=ok i b S H F N s;cases e:aT I S i with
   |none=>rw[e]at w;exact w.elim
   |some o=>
    cases o with
    |none=>rw[e]at w;exact .inl ⟨k2 e,w b H u .refl s r⟩
    |some y=>
     rw[e]at w;obtain⟨R,Y⟩:=k1 y e;refine .inr ⟨R,λl c=>∃b g S,cK X.K F j H1 F b c/\aK X.K ⟨X.mg,F⟩ b S c/\a8 X.K ⟨X.mg,F⟩ b c g l/\ax X.K ⟨X.mg,F⟩ E D b c (cU (dA Φ Γ t body) (aT I) m (i+1) g S),λl c q=>⟨m,KP m,q⟩,λv c hv=>?_⟩;obtain⟨L,s2,r2⟩:=Y v c hv;have C:cK X.K F j H1 F b c:=N.trans (.of_ext L λ_ z=>.inl z);have w':=ax.ext L w
     have w3:ax X.K ⟨X.mg,F⟩ E D b c ((dA Φ Γ t body y g S).bind λQ n=>match Q with
      | .next a=>cU (dA Φ Γ t body) (aT I) m (i+1) a n
      | .cont a=>cU (dA Φ Γ t body) (aT I) m (i+1) a n
      | .brk a=>.ok (.next a) n
      | .ret d=>.ok (.ret d) n):=w'
     have W:=yG (f:=λa n=>cU (dA Φ Γ t body) (aT I) m (i+1) a n) (Nx:=λl c=>∃b g S,cK X.K F j H1 F b c/\aK X.K ⟨X.mg,F⟩ b S c/\a8 X.K ⟨X.mg,F⟩ b c g l/\ax X.K ⟨X.mg,F⟩ E D b c (cU (dA Φ Γ t body) (aT I) m (i+1) g S)) w3
      λp P l a n x3 k B K=>⟨p,a,n,C.trans (.of_ext x3 λ_ z=>.inl z),k,B,K⟩
     unfold dA at W;cases A:aE t y g with
     |none=>simp only[A]at W;exact W.elim
     |some a=>simp only[A]at W;exact rP A r2 (r.mono L) λσ2 G=>⟨F,b,a,S,s2,G,W⟩
end
section
variable {E:XK}
end
mutual
theorem sM(c:CS):∀{X:Cx} {N:Ls} {sc:Sc} {CX:dN} {E:XK} {Φ:FT} {Γ:Str->Option D} {k:Nat} {st:Ly},Jf X N sc CX E Φ Γ k->sdS c N sc st=JK->(∀z∈Je c,XC X.prog X.w X.K X.mg z)->PS X (BV c N st) (tS X.K X.mg E Φ Γ c):=by
 intro X N sc CX E Φ Γ k st O h d;cases c with
 |asg i e=>exact yA O.x h
 |asgT t e=>exact sD O.x (jI (ab h).1) ((ab (ab h).2).1) (ab (ab (ab h).2).2).1 (ab (ab (ab (ab h).2).2).2).1 (aP e O.x (ab (ab (ab (ab h).2).2).2).2)
 |set o i v=>exact yD (ab (ab h).1).1 (ab (ab h).2).1 (aP o O.x (ab (ab (ab h).1).2).1) (aP i O.x (ab (ab (ab h).1).2).2) (aP v O.x (ab (ab h).2).2)
 |expr e=>exact sE (ab h).1 (aP e O.x (ab h).2)
 |ret e=>exact yE (aP e O.x h)
 |retN=>exact sF
 |pass=>exact sG
 |brk=>exact yF
 |cont=>exact sH
 |ite c a b=>exact Fq (dW c O.x (ab h).1) (iu a O (ab (ab h).2).1 λz f=>d z (ZP _ f)) (iu b O (ab (ab h).2).2 λz f=>d z (Zt _ f))
 |for_ t it body=>exact yH O.own O.x.calm (mI it O.x (ab (ab h).2).1 jI) (jp O.x (ab h).1) (mE (ab (ab (ab h).2).2).1) (iu body O (ab (ab (ab h).2).2).2 d)
 |while_ n c body=>exact mQ O.own (dW c O.x (ab h).1) (iu body O (ab h).2 d)
 |never=>exact λp s q H D I Z=>aB Z λF l m S j g w=>w.elim
 |raise_ x r=>exact λp s q H D I Z=>aB Z λF l m S j g w=>w.elim
theorem iu(cs:List CS):∀{X:Cx} {N:Ls} {sc:Sc} {CX:dN} {E:XK} {Φ:FT} {Γ:Str->Option D} {k:Nat} {st:List Ly},Jf X N sc CX E Φ Γ k->fJ cs N sc st=JK->(∀z∈e8 cs,XC X.prog X.w X.K X.mg z)->fP X (fI cs N st) (pA X.K X.mg E Φ Γ cs):=by
 intro X N sc CX E Φ Γ k st O h a;cases cs with
 |nil=>exact sK
 |cons c cs=>exact mP (sM c O (ab h).1 λz H=>a z (ZP _ H)) (iu cs O (ab h).2 λz H=>a z (Zt _ H))
end
mutual
noncomputable def bE(k:Nat):D->Bool
 | .tup xs=>a_ k xs
 | .lst xs=>a_ k xs
 | .scr xs=>a_ k xs
 | .ref n=>decide (n<k)
 |_=>JK
noncomputable def a_(k:Nat):List D->Bool
 | []=>JK
 |x::xs=>bE k x&&a_ k xs
end
noncomputable def dB(k:Nat)(d:D)(S':aa):Res D:=
 if(S'.take k).all (a_ k)=JK then
  (if bE k d=JK then .ok d (S'.take k)else match d with
   | .ref n=>(match S'[n]? with
    |some xs=>if a_ k xs=JK/\k<=n then .ok (.ref k) (S'.take k++[xs])else .fail
    |none=>.fail)
   |_=>.fail)
 else .fail
noncomputable def av(Φ:FT)(Γ:Str->Option D)(body:List CS)(n N:Nat)(ds:List D)(S:aa):Res D:=
 if ds.length=N then
  (match af Φ Γ body (ds.map some++JQ (n-N) none) S with
  | .ok (.ret d) S'=>dB S.length d S'
  | .ok (.next _) S'=>dB S.length .non S'
  | .err x S'=>if(S'.take S.length).all (a_ S.length)=JK then .err x (S'.take S.length)else .fail
  |_=>.fail)
 else .fail
section
variable {mg:GS}{μ'':La}
mutual
theorem Rep.low(c:∀n,n<k->μ''[n]?=μ'[n]?)(b:∀a∈μ'',a∈μ'):∀(d:D) (v:V),bE k d=JK->Rep K mg μ' H d v->Rep K mg μ'' H d v
 | .non,_,_,h=>h
 | .bl _,_,_,h=>h
 | .int _,_,_,h=>h
 | .str _,_,_,h=>h
 | .tup _,v,l,h=>by obtain⟨a,vs,e,q,r⟩:=h;exact⟨a,_,e,q,ag.low c b _ _ l r⟩
 | .lst _,v,l,h=>by obtain⟨a,vs,e,q,n,r⟩:=h;exact⟨a,_,e,q,⟨λz=>n.1 (b a z),n.2⟩,ag.low c b _ _ l r⟩
 | .scr _,v,l,h=>by obtain⟨a,vs,e,q,r⟩:=h;exact⟨a,_,e,q,ag.low c b _ _ l r⟩
 | .ref n,v,l,h=>by unfold Rep at h⊢;unfold bE at l;simp_all
 | .fn y,v,_,h=>h
 | .ty y,v,_,h=>h
 | .dct,v,_,h=>h
 | .dks _,v,_,h=>h
theorem ag.low(b:∀n,n<k->μ''[n]?=μ'[n]?)(c:∀a∈μ'',a∈μ'):∀(ds:List D) (vs:List V),a_ k ds=JK->ag K mg μ' H ds vs->ag K mg μ'' H ds vs
 | [],vs,_,h=>h
 |d::ds,vs,l,h=>by unfold a_ at l;simp at l;obtain⟨w,W,e,r,q⟩:=h;exact⟨w,_,e,Rep.low b c d w l.1 r,ag.low b c _ _ l.2 q⟩
end
theorem Ext.cut(x:Ext μ H μ' H'):Ext μ H μ H':=⟨⟨[],by simp⟩,x.keep,x.there,λ_ h=>.inl h⟩
theorem aK.cut(x:Ext μ H μ' H')(g:μ.length=k)(s:aK K mg μ' S' H')(l:(S'.take k).all (a_ k)=JK):aK K mg μ (S'.take k) H':=by obtain⟨r,rfl⟩:=x.pre;have e:=s.len;simp at e;refine⟨s.live,by grind,(ZT.mp s.nd).1,λn a D f h=>?_⟩;have c:=h;rw[L9 (by grind)]at h;obtain⟨vs,q,R⟩:=s.at_ n a _ (by grind) h;exact⟨_,q,ag.low λm i=>by grind (λb d=>ZP _ d) _ _ (Zv.mp l _ (Zz c)) R⟩
theorem yI{E:XK}{Q:VK}(x:Ext μ H μ' H')(J:μ.length=k)(s:aK K mg μ' S' H')(r:Rep K mg μ' H' d v)(w:ai K mg E (Rep K mg) μ H Q (dB k d S')):Q v H':=by
 unfold dB at w;split at w
 ·rename_i B;split at w
  ·rename_i I;refine w μ H' v x.cut (aK.cut x J s B) ?_;obtain⟨R,rfl⟩:=x.pre;exact Rep.low (k:=k) (λm t=>by grind) (λb f=>ZP _ f) _ _ I r
  ·split at w
   ·rename_i n L;split at w
    ·rename_i X M;split at w
     ·rename_i y;unfold Rep at r;obtain⟨a,rfl,G⟩:=r;obtain⟨vs,q,O⟩:=s.at_ n a X G M;obtain⟨R,rfl⟩:=x.pre;have g:=ZT.mp s.nd;have T:μ.length<=n:=by omega
      have e:a∈R:=by grind
      have u:a∉μ:=λz=>g.2.2 a z a e rfl
      have o:H a=none:=by
       rcases x.fresh a (Zt _ e)with z|z
       ·exact absurd z u
       ·exact z
      have i:∀b∈μ++[a],b∈μ++R:=λb f=>by grind
      have S:∀m,m<k->(μ++[a])[m]?=(μ++R)[m]? :=λm t=>by grind
      have p:=s.len;simp at p;refine w (μ++[a]) H' (.ref a) ⟨⟨[a],rfl⟩,x.keep,x.there,λb f=>?_⟩ ⟨s.live,?_,?_,λm b D j h=>?_⟩ ?_
      ·rcases ZE.mp f with z|z
       ·exact .inl z
       ·have:b=a:=by grind
        subst this;exact .inr o
      ·rw[Zq,Zq,LH];simp;omega
      ·rw[ZT];exact⟨g.1,by simp,λb f c P=>by grind⟩
      ·by_cases t:m<μ.length
       ·rw[ZL t]at j;rw[ZL (by grind)]at h;have l:=h;rw[L9 (by omega)]at h;obtain⟨W,N,A⟩:=s.at_ m b D (by grind) h;exact⟨W,N,ag.low (k:=k) S i _ _ (Zv.mp B D (Zz l)) A⟩
       ·have C:m=μ.length:=by grind
        subst C;rw[Kw (Zl _)]at j;rw[Kw (by grind)]at h;have F:μ.length-(S'.take k).length=0:=by grind
        rw[F]at h;simp at j h;subst j;subst h;exact⟨vs,q,ag.low (k:=k) S i _ _ y.1 O⟩
      ·unfold Rep;exact⟨a,rfl,by grind⟩
     ·exact w.elim
    ·exact w.elim
   ·exact w.elim
 ·exact w.elim
end
theorem Fs{m:GS}{vs:List V}(r:ag K m μ H ds vs):a8 K m μ H (ds.map some++JQ (N.length-ds.length) none) (L2.start N vs):=by
 unfold L2.start;have c:=r.length;refine⟨by simp_all,λi d e=>?_⟩;by_cases b:i<ds.length
 ·rw[ZL (by simp_all)]at e;cases E:ds[i]? with
  |none=>simp_all
  |some D=>
   obtain⟨v,h,a⟩:=r.get E
   grind
 grind
theorem bF.mono{j:Nat}{f:Str}(F:bF P w K mg base CX j f φ)(h:j<=k):bF P w K mg base CX k f φ:=by obtain⟨d,e,p,m,M,a,b,c⟩:=F.ex;exact⟨_,_,_,m,M,a,b.mono h,c⟩
theorem yJ{x:Str}{B:KL}(F:qI K x qual st f B)(S:cl N ps (cM st))(M:BR P w K mg base (bo P w) Φ Γ k)(U:fI body N (c1 st)=c1 st)(T:fJ body N (cM st).names (c1 st)=JK)(Y:∀z∈e8 body,XC P w K mg z):
  c0 P w K mg base (bo P w) (k+1) f B ps (rc K mg ps.length (av Φ Γ body N.length ps.length)):=by
 obtain⟨oc,od,kV,J,pm,an,i,ct,Z,rfl,lk,j⟩:=F.ex;refine vK lk j S (λvs H Q E h=>h.1) λA o s H vs Q E X h=>?_
 ·obtain⟨V,F',μ,t,O,D,r,W⟩:=h;have L:kG (gv _ P w K mg base N qual (cM st) f i A o s H E) E:=kG.of;refine⟨_,U▸iu _ ⟨⟨rfl,S.nd,rfl,S.kind,rfl,X,λ_ _=>rfl,M,L.pass,pB⟩,L.own,rfl,⟨rfl,rfl,rfl⟩,λpq σ H1 s1 h2 e C u I m q=>L.made I m q⟩ T Y,_,_,_,_,D,Fs r,?_⟩;have b:O.length=ps.length:=by rw[r.length];exact V
  unfold av at W;rw[if_pos b,<-b]at W;have a:=D.len;cases e:af _ _ _ _ _ with
  |ok R p=>
   rw[e]at W;cases R with
   |next G=>exact λg n σ' x c _=>yI x a c iV W
   |ret d=>exact λg n v x c r'=>yI x a c r' W
   |brk G=>exact W.elim
   |cont G=>exact W.elim
  |err y p=>
   rw[e]at W;intro g n x c;by_cases l:(p.take t.length).all (a_ t.length)=JK
   ·simp[l]at W;exact W _ _ x.cut (aK.cut x a c l)
   ·simp[l]at W;exact W.elim
  |fail=>rw[e]at W;exact W.elim
theorem JG{x:Str}{a:KL}(F:qI K x qual st f a)(S:cl N ps (cM st))(d:mg x=some (.ref f))(H:Binds K a ps [])(M:BR P w K mg base (bo P w) Φ Γ k)(c:fI body N (c1 st)=c1 st)(b:fJ body N (cM st).names (c1 st)=JK)(e:∀z∈e8 body,XC P w K mg z):
  bF P w K mg base (bo P w) (k+1) x (av Φ Γ body N.length ps.length):=by
 refine⟨f,_,_,d,F.kp,H,yJ F S M c b e,λD g h=>?_⟩;unfold av at h
 grind
theorem Ft{x:Str}{b:KL}(F:qI K x qual st f b)(S:cl N ps (cM st))(d:mg x=some (.ref f))(c:Binds K b ps []):bF P w K mg base (bo P w) k x (λ_ _=>.fail):=
 ⟨f,_,_,d,F.kp,c,⟨λvs H Q E h=>h.1,λA o s H a u vs Q E _ _ _ _ h=>by obtain⟨_,_,_,_,_,_,_,z⟩:=h;exact z.elim⟩,λ_ _ h=>absurd rfl h⟩
theorem c7{P:Lv->Prop}(h:∀a,P [a]):∀us:Lv,us.length=1->P us:=λus H=>by obtain⟨a,rfl⟩:=List.length_eq_one_iff.mp H;exact h a
theorem b_{P:Lv->Prop}(h:∀a b,P [a,b]):∀us:Lv,us.length=2->P us:=λus H=>by
 cases us with
 |nil=>cases H
 |cons a us=>exact c7 (P:=λus=>P _) (h a) _ (O0 H)
theorem mS{P:Lv->Prop}(h:∀a b c,P [a,b,c]):∀us:Lv,us.length=3->P us:=λus H=>by
 cases us with
 |nil=>cases H
 |cons a us=>exact b_ (P:=λus=>P _) (h a) _ (O0 H)
noncomputable def tbl(l:List (Str×(List D->aa->Res D))):FT:=λf=>l.lookup f
theorem Jg(h:∀p∈l,bF P w K mg base (bo P w) k p.1 p.2)(b:∀x d,Γ x=some d->∃v u,mg x=some u/\RelV v u/\∀F μ H,Rep K ⟨mg,F⟩ μ H d v)(a:∀x∈fZ,mg x=none):BR P w K mg base (bo P w) (tbl l) Γ k:=
 ⟨λf c e=>h _ (ZC e),b,a⟩
end Py
namespace K70
noncomputable def G0:Str->Option D:=λx=>[(("MOST_PLACES":Str),D.int 8)].lookup x
noncomputable def Fu:Ls:=["thing"]
noncomputable def Fv:List CS:=[.ret (.band (.blt .isinst [.var 0,.ty "int"]) (.bnot (.blt .isinst [.var 0,.ty "bool"])))]
noncomputable def Fw:FT:=tbl []
noncomputable def gb:List D->aa->Res D:=av Fw G0 Fv Fu.length 1
noncomputable def Fx:Ls:=["thing","low","high"]
noncomputable def sN:List CS:=[.ret (.band (.call "is_number" [.var 0]) (.chain .LtE .LtE (.var 1) (.var 0) (.var 2)))]
noncomputable def yK:FT:=tbl [("is_number",gb)]
theorem yL:yK "is_number"=some gb:=rfl
noncomputable def gL:List D->aa->Res D:=av yK G0 sN Fx.length 3
noncomputable def Fy:Ls:=["many","thing"]
noncomputable def sO:List CS:=[.ret (.call "is_number_from" [.var 1,.lit (.int 0),.bin .Sub (.var 0) (.lit (.int 1))])]
noncomputable def yM:FT:=tbl [("is_number_from",gL)]
theorem yN:yM "is_number_from"=some gL:=rfl
noncomputable def gM:List D->aa->Res D:=av yM G0 sO Fy.length 2
noncomputable def yO:Ls:=["things"]
noncomputable def yP:List CS:=[.ret (.blt .all [.comp JL ["one","other"] [none,none] (.tup [.var 0,.var 1]) (.zip [.var 0,.sl (.var 0) [.lit (.int 1)] []]) [] (.emit (.cmp .Lt (.var 0) (.var 1)))])]
noncomputable def Fz:FT:=tbl []
noncomputable def eI:List D->aa->Res D:=av Fz G0 yP yO.length 1
noncomputable def yQ:Ls:=["many","thing"]
noncomputable def yR:List CS:=[.ret (.band (.blt .isinst [.var 1,.ty "tuple"]) (.blt .all [.comp JL ["place","many"] [none,some 0] (.var 0) (.seq (.var 1)) [] (.emit (.call "is_place" [.var 1,.var 0]))]))]
noncomputable def sP:FT:=tbl [("is_place",gM)]
theorem yS:sP "is_place"=some gM:=rfl
noncomputable def eK:List D->aa->Res D:=av sP G0 yR yQ.length 2
noncomputable def FA:Ls:=["things"]
noncomputable def sQ:List CS:=[.ret (.cmp .Eq (.lenset (.var 0)) (.blt .len [.var 0]))]
noncomputable def yT:FT:=tbl []
noncomputable def mT:List D->aa->Res D:=av yT G0 sQ FA.length 1
noncomputable def FC:Ls:=["many","thing"]
noncomputable def yU:List CS:=[.ret (.band (.call "are_places" [.var 0,.var 1]) (.band (.cmp .Eq (.blt .len [.var 1]) (.lit (.int 2))) (.call "is_rising" [.var 1])))]
noncomputable def sR:FT:=tbl [("are_places",eK),("is_rising",eI)]
theorem FD:sR "are_places"=some eK:=rfl
theorem FE:sR "is_rising"=some eI:=rfl
noncomputable def mU:List D->aa->Res D:=av sR G0 yU FC.length 2
noncomputable def yV:Ls:=["thing","many","ties"]
noncomputable def yW:List CS:=[.ite (.bor (.bnot (.blt .isinst [.var 0,.ty "tuple"])) (.cmp .NotEq (.blt .len [.var 0]) (.lit (.int 2)))) [.ret (.lit (.bl JL))] [],.asgT (.tup [.var 1,.var 2]) (.var 0),.ite (.bor (.bnot (.call "is_number_from" [.var 1,.lit (.int 1),.glob "MOST_PLACES"])) (.bnot (.blt .isinst [.var 2,.ty "tuple"]))) [.ret (.lit (.bl JL))] [],.ret (.band (.blt .all [.comp JL ["tie","many"] [none,some 1] (.var 0) (.seq (.var 2)) [] (.emit (.call "is_tie" [.var 1,.var 0]))]) (.call "is_rising" [.var 2]))]
noncomputable def mV:FT:=tbl [("is_rising",eI),("is_number_from",gL),("is_tie",mU)]
theorem FF:mV "is_rising"=some eI:=rfl
theorem FG:mV "is_number_from"=some gL:=rfl
theorem yX:mV "is_tie"=some mU:=rfl
noncomputable def mW:List D->aa->Res D:=av mV G0 yW yV.length 1
noncomputable def yY:Ls:=["web","thing"]
noncomputable def yZ:List CS:=[.ret (.band (.call "are_places" [.idx (.var 0) (.lit (.int 0)),.var 1]) (.call "is_rising" [.var 1]))]
noncomputable def sS:FT:=tbl [("are_places",eK),("is_rising",eI)]
theorem FH:sS "are_places"=some eK:=rfl
theorem FI:sS "is_rising"=some eI:=rfl
noncomputable def mX:List D->aa->Res D:=av sS G0 yZ yY.length 2
noncomputable def y0:Ls:=["thing"]
noncomputable def y2:List CS:=[.ite (.bnot (.call "is_web" [.var 0])) [.raise_ "NoWeb" [.lit (.str "this is no web")]] []]
noncomputable def y4:FT:=tbl [("is_web",mW)]
theorem FJ:y4 "is_web"=some mW:=rfl
noncomputable def cq:List D->aa->Res D:=av y4 G0 y2 y0.length 1
noncomputable def y6:Ls:=["web","thing"]
noncomputable def y7:List CS:=[.ite (.bnot (.call "is_place" [.idx (.var 0) (.lit (.int 0)),.var 1])) [.raise_ "NoPlace" [.lit (.str "this is no place of the web")]] []]
noncomputable def y8:FT:=tbl [("is_place",gM)]
theorem FK:y8 "is_place"=some gM:=rfl
noncomputable def jO:List D->aa->Res D:=av y8 G0 y7 y6.length 2
noncomputable def y9:Ls:=["web","thing"]
noncomputable def y_:List CS:=[.ite (.bnot (.call "is_some" [.var 0,.var 1])) [.raise_ "NoPlaces" [.lit (.str "this is no rising tuple of places of the web")]] []]
noncomputable def za:FT:=tbl [("is_some",mX)]
theorem FL:za "is_some"=some mX:=rfl
noncomputable def fK:List D->aa->Res D:=av za G0 y_ y9.length 2
noncomputable def zb:Ls:=["one","other"]
noncomputable def zc:List CS:=[.ret (.tup [.blt .min [.var 0,.var 1],.blt .max [.var 0,.var 1]])]
noncomputable def FN:FT:=tbl []
noncomputable def gN:List D->aa->Res D:=av FN G0 zc zb.length 2
noncomputable def FO:Ls:=["web","one","other"]
noncomputable def zd:List CS:=[.ret (.cmp .In (.call "tie_of" [.var 1,.var 2]) (.idx (.var 0) (.lit (.int 1))))]
noncomputable def ze:FT:=tbl [("tie_of",gN)]
theorem FP:ze "tie_of"=some gN:=rfl
noncomputable def eL:List D->aa->Res D:=av ze G0 zd FO.length 3
noncomputable def jP:Ls:=["web","place"]
noncomputable def jQ:List CS:=[.expr (.call "must_be_web" [.var 0]),.expr (.call "must_be_place" [.var 0,.var 1]),.ret (.blt .tuple [.comp JL ["other","web","place"] [none,some 0,some 1] (.var 0) (.range [.idx (.var 0) (.lit (.int 0))]) [.call "have_tie" [.var 1,.var 2,.var 0]] (.emit (.var 0))])]
noncomputable def mY:FT:=tbl [("must_be_web",cq),("must_be_place",jO),("have_tie",eL)]
theorem FQ:mY "must_be_web"=some cq:=rfl
theorem FR:mY "must_be_place"=some jO:=rfl
theorem FU:mY "have_tie"=some eL:=rfl
noncomputable def gO:List D->aa->Res D:=av mY G0 jQ jP.length 2
noncomputable def sT:Ls:=["web","left","start","reached","waiting","here","fresh"]
noncomputable def jR:List CS:=[.asg 3 (.lst JK [.var 2]),.asg 4 (.lst JK [.var 2]),.while_ 100 (.var 4) [.asg 5 (.meth .pop (.var 4) []),.asg 6 (.comp JL ["place","reached","web","here"] [none,some 3,some 0,some 5] (.var 0) (.seq (.var 1)) [.band (.cmp .NotIn (.var 0) (.var 1)) (.call "have_tie" [.var 2,.var 3,.var 0])] (.emit (.var 0))),.expr (.meth .extend (.var 3) [.var 6]),.expr (.meth .extend (.var 4) [.var 6])],.ret (.blt .tuple [.blt (.sorted JL (.int)) [.var 3]])]
noncomputable def eM:FT:=tbl [("have_tie",eL)]
theorem FV:eM "have_tie"=some eL:=rfl
noncomputable def jS:List D->aa->Res D:=av eM G0 jR sT.length 3
noncomputable def zf:Ls:=["web","some","left","found","place"]
noncomputable def zg:List CS:=[.expr (.call "must_be_web" [.var 0]),.expr (.call "must_be_some" [.var 0,.var 1]),.asg 2 (.comp JL ["place","some"] [none,some 1] (.var 0) (.range [.idx (.var 0) (.lit (.int 0))]) [.cmp .NotIn (.var 0) (.var 1)] (.emit (.var 0))),.asg 3 (.lst JK []),.for_ (.var 4) (.seq (.var 2)) [.ite (.bnot (.blt .any [.comp JL ["piece","place"] [none,some 4] (.var 0) (.seq (.var 3)) [] (.emit (.cmp .In (.var 1) (.var 0)))])) [.expr (.meth .append (.var 3) [.call "piece_of" [.var 0,.var 2,.var 4]])] []],.ret (.var 3)]
noncomputable def e9:FT:=tbl [("must_be_web",cq),("must_be_some",fK),("piece_of",jS)]
theorem FW:e9 "must_be_web"=some cq:=rfl
theorem FX:e9 "must_be_some"=some fK:=rfl
theorem FY:e9 "piece_of"=some jS:=rfl
noncomputable def mZ:List D->aa->Res D:=av e9 G0 zg zf.length 2
noncomputable def zh:Ls:=["web"]
noncomputable def zk:List CS:=[.ret (.call "pieces_without" [.var 0,.tup []])]
noncomputable def zl:FT:=tbl [("pieces_without",mZ)]
theorem FZ:zl "pieces_without"=some mZ:=rfl
noncomputable def gc:List D->aa->Res D:=av zl G0 zk zh.length 1
noncomputable def F0:Ls:=["places"]
noncomputable def zm:List CS:=[.ret (.comp JL ["one","other"] [none,none] (.tup [.var 0,.var 1]) (.zip [.var 0,.sl (.var 0) [.lit (.int 1)] []]) [] (.emit (.call "tie_of" [.var 0,.var 1])))]
noncomputable def jT:FT:=tbl [("tie_of",gN)]
theorem F1:jT "tie_of"=some gN:=rfl
noncomputable def m3:List D->aa->Res D:=av jT G0 zm F0.length 1
noncomputable def F2:Ls:=["ring"]
noncomputable def zn:List CS:=[.ret (.call "ties_along" [.bin .Add (.var 0) (.sl (.var 0) [] [.lit (.int 1)])])]
noncomputable def sU:FT:=tbl [("ties_along",m3)]
theorem F3:sU "ties_along"=some m3:=rfl
noncomputable def m4:List D->aa->Res D:=av sU G0 zn F2.length 1
noncomputable def F4:Ls:=["web","thing"]
noncomputable def sV:CE:=.bor (.bnot (.call "are_places" [.idx (.var 0) (.lit (.int 0)),.var 1])) (.bnot (.call "are_unlike" [.var 1]))
noncomputable def sW:CE:=.bor (.cmp .Lt (.blt .len [.var 1]) (.lit (.int 3))) (.cmp .Eq (.bin .BitAnd (.blt .len [.var 1]) (.lit (.int 1))) (.lit (.int 0)))
noncomputable def Jh:CE:=.comp JL ["tie","web"] [none,some 0] (.var 0) (.seq (.call "ties_round" [.var 1])) [] (.emit (.cmp .In (.var 0) (.idx (.var 1) (.lit (.int 1)))))
noncomputable def sX:List CS:=[.expr (.call "must_be_web" [.var 0]),.ite sV [.ret (.lit (.bl JL))] [],.ite sW [.ret (.lit (.bl JL))] [],.ret (.blt .all [Jh])]
noncomputable def eh:FT:=tbl [("must_be_web",cq),("are_places",eK),("are_unlike",mT),("ties_round",m4)]
theorem F5:eh "must_be_web"=some cq:=rfl
theorem F6:eh "are_places"=some eK:=rfl
theorem F7:eh "are_unlike"=some mT:=rfl
theorem F8:eh "ties_round"=some m4:=rfl
noncomputable def iv:List D->aa->Res D:=av eh G0 sX F4.length 2
noncomputable def F9:Ls:=["web","some"]
noncomputable def F_:CE:=.comp JL ["other","web","place"] [none,some 2,some 0] (.var 0) (.seq (.var 1)) [] (.emit (.call "have_tie" [.var 1,.var 2,.var 0]))
noncomputable def Ji:CE:=.comp JL ["place","some","web"] [none,some 1,some 0] (.var 0) (.range [.idx (.var 0) (.lit (.int 0))]) [.blt .any [F_]] (.emit (.var 0))
noncomputable def zo:List CS:=[.expr (.call "must_be_web" [.var 0]),.expr (.call "must_be_some" [.var 0,.var 1]),.ret (.blt .tuple [Ji])]
noncomputable def gf:FT:=tbl [("must_be_web",cq),("must_be_some",fK),("have_tie",eL)]
theorem Ga:gf "must_be_web"=some cq:=rfl
theorem Gb:gf "must_be_some"=some fK:=rfl
theorem Ge:gf "have_tie"=some eL:=rfl
noncomputable def m5:List D->aa->Res D:=av gf G0 zo F9.length 2
noncomputable def sY:Ls:=["web","left","right","back"]
noncomputable def BW(i:Nat):CE:=.comp JL ["place","left"] [none,some 1] (.var 0) (.seq (.var i)) [] (.emit (.cmp .In (.var 0) (.var 1)))
noncomputable def uW:CE:=.bnot (.blt .all [BW 3])
noncomputable def sdB:List CS:=[.asg 1 (.blt .tuple [.ssU (.var 1) (.var 3)]),.asg 2 (.call "near_some" [.var 0,.var 1]),.asg 3 (.call "near_some" [.var 0,.var 2])]
noncomputable def Gf:CE:=.ite (.blt .any [BW 2]) (.lit (.non)) (.tup [.var 1,.var 2])
noncomputable def jU:List CS:=[.asg 1 (.blt .tuple [.comp JL ["piece"] [none] (.var 0) (.seq (.call "pieces" [.var 0])) [] (.emit (.idx (.var 0) (.lit (.int 0))))]),.asg 2 (.call "near_some" [.var 0,.var 1]),.asg 3 (.call "near_some" [.var 0,.var 2]),.while_ 100 uW sdB,.ret Gf]
noncomputable def bd:FT:=tbl [("near_some",m5),("pieces",gc)]
theorem m6:bd "near_some"=some m5:=rfl
theorem zp:bd "pieces"=some gc:=rfl
noncomputable def jV:List D->aa->Res D:=av bd G0 jU sY.length 1
noncomputable def Gg:Ls:=["web","rows","rings"]
noncomputable def Gh:CE:=.comp JL ["place"] [none] (.var 0) (.range [.idx (.var 0) (.lit (.int 0))]) [] (.emit (.tup [.var 0]))
noncomputable def Jj:CE:=.comp JL ["places","web"] [none,some 0] (.var 0) (.seq (.var 1)) [.call "is_ring" [.var 1,.var 0]] (.emit (.var 0))
noncomputable def BX:CE:=.call "near" [.var 2,.idx (.var 0) (.neg (.lit (.int 1)))]
noncomputable def uX:CE:=.band (.cmp .Gt (.var 1) (.idx (.var 0) (.lit (.int 0)))) (.cmp .NotIn (.var 1) (.var 0))
noncomputable def uY:CE:=.bin .Add (.var 0) (.tup [.var 1])
noncomputable def Jk:CE:=.comp JL ["places","place","web"] [none,none,some 0] (.var 0) (.seq (.var 1)) [] (.inner (.var 1) (.seq BX) [uX] (.emit uY))
noncomputable def iI:List CS:=[.asg 2 Jj,.ite (.var 2) [.ret (.idx (.var 2) (.lit (.int 0)))] [],.asg 1 Jk]
noncomputable def zq:List CS:=[.expr (.call "must_be_web" [.var 0]),.asg 1 Gh,.while_ 100 (.var 1) iI,.ret (.lit (.non))]
noncomputable def aN:FT:=tbl [("must_be_web",cq),("is_ring",iv),("near",gO)]
theorem Gi:aN "must_be_web"=some cq:=rfl
theorem Gj:aN "is_ring"=some iv:=rfl
theorem Gk:aN "near"=some gO:=rfl
noncomputable def jW:List D->aa->Res D:=av aN G0 zq Gg.length 1
noncomputable def zr:Ls:=["_law_script","_law_k"]
noncomputable def zt:List CS:=[.ite (.cmp .Lt (.var 1) (.blt .len [.var 0])) [.ret (.idx (.var 0) (.var 1))] [],.ret (.lit (.int 0))]
noncomputable def Gm:FT:=tbl []
noncomputable def iw:List D->aa->Res D:=av Gm G0 zt zr.length 2
noncomputable def Gn:Ls:=["_law_cell","_law_k","_law_number"]
noncomputable def sZ:List CS:=[.asg 2 (.bin .Mod (.bin .Mult (.bin .Add (.bin .Add (.bin .Mod (.var 0) (.lit (.int 2147483647))) (.bin .Mult (.lit (.int 977)) (.var 1))) (.lit (.int 1))) (.lit (.int 48271))) (.lit (.int 2147483647))),.asg 2 (.bin .Mod (.bin .Mult (.var 2) (.var 2)) (.lit (.int 2147483629))),.asg 2 (.bin .Mod (.bin .Mult (.bin .Add (.var 2) (.bin .Mult (.lit (.int 40692)) (.bin .Add (.var 1) (.lit (.int 3))))) (.lit (.int 69621))) (.lit (.int 2147483647))),.ret (.bin .FloorDiv (.var 2) (.lit (.int 8)))]
noncomputable def zu:FT:=tbl []
noncomputable def e_:List D->aa->Res D:=av zu G0 sZ Gn.length 2
noncomputable def Gp:Ls:=["_law_thing"]
noncomputable def Gq:List CS:=[.ret (.band (.blt .isinst [.var 0,.ty "int"]) (.bnot (.blt .isinst [.var 0,.ty "bool"])))]
noncomputable def Gr:FT:=tbl []
noncomputable def jX:List D->aa->Res D:=av Gr G0 Gq Gp.length 1
noncomputable def s8:Ls:=["_law_cell","_law_top","_law_many","_law_left","_law_way","_law_ties","_law_b","_law_a","_law_chance","_law_rows"]
noncomputable def Gs:CE:=.bin .BitAnd (.bin .RShift (.bin .FloorDiv (.var 3) (.lit (.int 6))) (.bin .Add (.bin .FloorDiv (.bin .Mult (.var 6) (.bin .Sub (.var 6) (.lit (.int 1)))) (.lit (.int 2))) (.var 7))) (.lit (.int 1))
noncomputable def wW(k:Int)(b:List CS):CS:=.ite (.cmp .Eq (.var 4) (.lit (.int k))) b []
noncomputable def BY:CE:=.call "_law_stir" [.var 0,.bin .Add (.bin .Mult (.lit (.int 8)) (.var 7)) (.var 6)]
noncomputable def Gu:CE:=.bin .FloorDiv (.bin .Mod BY (.lit (.int 3))) (.lit (.int 2))
noncomputable def Gv:CE:=.bin .FloorDiv (.bin .Add (.bin .Mod BY (.lit (.int 4))) (.lit (.int 2))) (.lit (.int 3))
noncomputable def Jl:CE:=.cmp .Eq (.var 6) (.bin .Add (.var 7) (.lit (.int 1)))
noncomputable def Gw:CE:=.bor (.cmp .Eq (.var 6) (.bin .Add (.var 7) (.lit (.int 1)))) (.cmp .Eq (.bin .Sub (.var 6) (.var 7)) (.bin .Sub (.var 2) (.lit (.int 1))))
noncomputable def Gx:CE:=.band (.cmp .Eq (.var 6) (.bin .Add (.var 7) (.lit (.int 1)))) (.cmp .Lt (.bin .Mod (.var 7) (.lit (.int 3))) (.lit (.int 2)))
noncomputable def BZ:CE:=.lst JL [Jl,Gw,.cmp .Eq (.var 7) (.lit (.int 0)),.lit (.bl JK),Gx]
noncomputable def B0:CE:=.blt .int [.idx (.var 9) (.bin .Mod (.bin .FloorDiv (.var 3) (.lit (.int 6))) (.lit (.int 5)))]
noncomputable def wB:List CS:=[.asg 8 Gs,wW 3 [.asg 8 Gu],wW 4 [.asg 8 Gv],wW 5 [.asg 9 BZ,.asg 8 B0],.ite (.cmp .Eq (.var 8) (.lit (.int 1))) [.expr (.meth .append (.var 5) [.tup [.var 7,.var 6]])] []]
noncomputable def wA:List CS:=[.for_ (.var 7) (.range [.var 6]) wB]
noncomputable def jY:List CS:=[.asg 2 (.bin .Add (.lit (.int 1)) (.bin .Mod (.var 0) (.var 1))),.asg 3 (.bin .FloorDiv (.var 0) (.var 1)),.asg 4 (.bin .Mod (.var 3) (.lit (.int 6))),.asg 5 (.lst JK []),.for_ (.var 6) (.range [.lit (.int 1),.var 2]) wA,.ret (.tup [.var 2,.blt .tuple [.blt (.sorted JL (.seq .int)) [.var 5]]])]
noncomputable def ca:FT:=tbl [("_law_stir",e_)]
theorem Gy:ca "_law_stir"=some e_:=rfl
noncomputable def ix:List D->aa->Res D:=av ca G0 jY s8.length 2
noncomputable def iy:Ls:=["_law_found","_law_due"]
noncomputable def fL:List CS:=[.ite (.bor (.blt .isinst [.var 1,.ty "tuple"]) (.blt .isinst [.var 1,.ty "list"])) [.ite (.bor (.cmp .NotEq (.blt .isinst [.var 0,.ty "tuple"]) (.blt .isinst [.var 1,.ty "tuple"])) (.cmp .NotEq (.blt .isinst [.var 0,.ty "list"]) (.blt .isinst [.var 1,.ty "list"]))) [.ret (.lit (.bl JL))] [],.ret (.band (.cmp .Eq (.blt .len [.var 0]) (.blt .len [.var 1])) (.blt .all [.comp JL ["_law_one","_law_other"] [none,none] (.tup [.var 0,.var 1]) (.zip [.var 0,.var 1]) [] (.emit (.call "_law_same" [.var 0,.var 1]))]))] [],.ite (.cmp .Is (.var 1) (.lit (.non))) [.ret (.cmp .Is (.var 0) (.lit (.non)))] [],.ret (.band (.cmp .Eq (.blt .isinst [.var 0,.ty "bool"]) (.blt .isinst [.var 1,.ty "bool"])) (.band (.blt .isinst [.var 0,.ty "int"]) (.cmp .Eq (.var 0) (.var 1))))]
noncomputable def dg:Nat->List D->aa->Res D
 |0=>λ_ _=>.fail
 |n+1=>av (tbl [("_law_same",dg n)]) G0 fL iy.length 2
noncomputable def gP:List D->aa->Res D:=dg 6
noncomputable def Gz:Ls:=["_law_web_here","_law_one","_law_other"]
noncomputable def s9:List CS:=[.ret (.cmp .In (.tup [.blt .min [.var 1,.var 2],.blt .max [.var 1,.var 2]]) (.idx (.var 0) (.lit (.int 1))))]
noncomputable def zv:FT:=tbl []
noncomputable def m7:List D->aa->Res D:=av zv G0 s9 Gz.length 3
noncomputable def GA:Ls:=["_law_web_here","_law_place"]
noncomputable def zw:List CS:=[.ret (.comp JL ["_law_one","_law_other","_law_place"] [none,none,some 1] (.tup [.var 0,.var 1]) (.seq (.idx (.var 0) (.lit (.int 1)))) [.cmp .In (.var 2) (.tup [.var 0,.var 1])] (.emit (.bin .Sub (.bin .Add (.var 0) (.var 1)) (.var 2))))]
noncomputable def s_:FT:=tbl []
noncomputable def fM:List D->aa->Res D:=av s_ G0 zw GA.length 2
noncomputable def GB:Ls:=["_law_web_here","_law_thing"]
noncomputable def tf:CE:=.bor (.bnot (.blt .isinst [.var 1,.ty "tuple"])) (.bor (.cmp .Lt (.blt .len [.var 1]) (.lit (.int 3))) (.cmp .Eq (.bin .Mod (.blt .len [.var 1]) (.lit (.int 2))) (.lit (.int 0))))
noncomputable def zx:CE:=.band (.call "_law_whole" [.var 0]) (.chain .LtE .Lt (.lit (.int 0)) (.var 0) (.idx (.var 1) (.lit (.int 0))))
noncomputable def zy:CE:=.comp JL ["_law_place","_law_web_here"] [none,some 0] (.var 0) (.seq (.var 1)) [] (.emit zx)
noncomputable def zA:CE:=.bor (.bnot (.blt .all [zy])) (.cmp .Lt (.lenset (.var 1)) (.blt .len [.var 1]))
noncomputable def zB:CE:=.comp JL ["_law_at","_law_place","_law_web_here","_law_thing"] [none,none,some 0,some 1] (.tup [.var 0,.var 1]) (.enum [.var 1]) [] (.emit (.call "_law_tied" [.var 2,.idx (.var 3) (.bin .Sub (.var 0) (.lit (.int 1))),.var 1]))
noncomputable def ti:List CS:=[.ite tf [.ret (.lit (.bl JL))] [],.ite zA [.ret (.lit (.bl JL))] [],.ret (.blt .all [zB])]
noncomputable def er:FT:=tbl [("_law_tied",m7),("_law_whole",jX)]
theorem GC:er "_law_tied"=some m7:=rfl
theorem zC:er "_law_whole"=some jX:=rfl
noncomputable def jZ:List D->aa->Res D:=av er G0 ti GB.length 2
noncomputable def tj:Ls:=["_law_web_here","_law_found","_law_rows","_law_more","_law_line","_law_some"]
noncomputable def uZ:CE:=.cmp .NotEq (.var 2) (.lst JL [])
noncomputable def rF:CE:=.comp JL ["_law_line","_law_web_here"] [none,some 0] (.var 0) (.seq (.var 2)) [.call "_law_ring_good" [.var 1,.var 0]] (.emit (.var 0))
noncomputable def rS:CE:=.comp JL ["_law_place","_law_line"] [none,some 4] (.var 0) (.seq (.call "_law_near" [.var 0,.idx (.var 4) (.neg (.lit (.int 1)))])) [.band (.cmp .Gt (.var 0) (.idx (.var 1) (.lit (.int 0)))) (.cmp .NotIn (.var 0) (.var 1))] (.emit (.var 0))
noncomputable def rX:CE:=.comp JL ["_law_place","_law_line"] [none,some 4] (.var 0) (.seq (.var 5)) [] (.emit (.bin .Add (.var 1) (.tup [.var 0])))
noncomputable def rB:List CS:=[.asg 5 rS,.expr (.meth .extend (.var 3) [rX])]
noncomputable def pD:List CS:=[.asg 1 (.bin .Add (.var 1) rF),.asg 3 (.lst JK []),.for_ (.var 4) (.seq (.var 2)) rB,.asg 2 (.var 3)]
noncomputable def j0:List CS:=[.asg 1 (.lst JL []),.asg 2 (.comp JL ["_law_place"] [none] (.var 0) (.range [.idx (.var 0) (.lit (.int 0))]) [] (.emit (.tup [.var 0]))),.while_ 100 uZ pD,.ret (.var 1)]
noncomputable def aY:FT:=tbl [("_law_ring_good",jZ),("_law_near",fM)]
theorem GD:aY "_law_ring_good"=some jZ:=rfl
theorem GF:aY "_law_near"=some fM:=rfl
noncomputable def gQ:List D->aa->Res D:=av aY G0 j0 tj.length 1
noncomputable def GG:Ls:=["_law_web_here","_law_cell","_law_side"]
noncomputable def sdT:CE:=.cmp .Eq (.bin .Mod (.call "_law_stir" [.var 1,.lit (.int 50)]) (.lit (.int 2))) (.lit (.int 0))
noncomputable def zD(i:Nat):CE:=.bin .BitAnd (.bin .RShift (.var 1) (.idx (.var 0) (.lit (.int i)))) (.lit (.int 1))
noncomputable def GH:CE:=.comp JL ["_law_tie","_law_side"] [none,some 2] (.var 0) (.seq (.idx (.var 0) (.lit (.int 1)))) [.cmp .NotEq (zD 0) (zD 1)] (.emit (.var 0))
noncomputable def zE:List CS:=[.ite sdT [.ret (.var 0)] [],.asg 2 (.call "_law_stir" [.var 1,.lit (.int 51)]),.ret (.tup [.idx (.var 0) (.lit (.int 0)),.blt .tuple [GH]])]
noncomputable def fc:FT:=tbl [("_law_stir",e_)]
theorem zF:fc "_law_stir"=some e_:=rfl
noncomputable def m8:List D->aa->Res D:=av fc G0 zE GG.length 2
noncomputable def tm:Ls:=["_law_web_here","_law_side","_law_place","_law_turn","_law_one","_law_other","_law_left"]
noncomputable def B1:CE:=.binB (.lst JL [.neg (.lit (.int 1))]) (.idx (.var 0) (.lit (.int 0)))
noncomputable def Jm:CE:=.band (.cmp .GtE (.idx (.var 1) (.var 4)) (.lit (.int 0))) (.cmp .Lt (.idx (.var 1) (.var 5)) (.lit (.int 0)))
noncomputable def Jn:CE:=.bin .Sub (.lit (.int 1)) (.idx (.var 1) (.var 4))
noncomputable def zG:List CS:=[.ite Jm [.set (.var 1) (.var 5) Jn] []]
noncomputable def zH:List CS:=[.for_ (.var 5) (.seq (.call "_law_near" [.var 0,.var 4])) zG]
noncomputable def zI:List CS:=[.for_ (.var 4) (.range [.idx (.var 0) (.lit (.int 0))]) zH]
noncomputable def GI:List CS:=[.set (.var 1) (.var 2) (.lit (.int 0)),.for_ (.var 3) (.range [.idx (.var 0) (.lit (.int 0))]) zI]
noncomputable def tq:List CS:=[.ite (.cmp .Lt (.idx (.var 1) (.var 2)) (.lit (.int 0))) GI []]
noncomputable def B2:CE:=.comp JL ["_law_one","_law_other","_law_side"] [none,none,some 1] (.tup [.var 0,.var 1]) (.seq (.idx (.var 0) (.lit (.int 1)))) [] (.emit (.cmp .Eq (.idx (.var 2) (.var 0)) (.idx (.var 2) (.var 1))))
noncomputable def zJ(c:Int):CE:=.comp JL ["_law_place","_law_side"] [none,some 1] (.var 0) (.range [.idx (.var 0) (.lit (.int 0))]) [.cmp .Eq (.idx (.var 1) (.var 0)) (.lit (.int c))] (.emit (.var 0))
noncomputable def j1:List CS:=[.asg 1 B1,.for_ (.var 2) (.range [.idx (.var 0) (.lit (.int 0))]) tq,.ite (.blt .any [B2]) [.ret (.lit (.non))] [],.asg 6 (.blt .tuple [zJ 0]),.ret (.tup [.var 6,.blt .tuple [zJ 1]])]
noncomputable def tr:FT:=tbl [("_law_near",fM)]
theorem GJ:tr "_law_near"=some fM:=rfl
noncomputable def j2:List D->aa->Res D:=av tr G0 j1 tm.length 1
noncomputable def GK:Ls:=["_law_web_here","_law_due","_law_rings_here","_law_loop","_law_few","_law_turn"]
noncomputable def B3:CE:=.cmp .NotEq (.var 2) (.lst JL [])
noncomputable def Jo:CE:=.comp JL ["_law_line"] [none] (.var 0) (.seq (.var 2)) [] (.emit (.blt .len [.var 0]))
noncomputable def Jp:CE:=.comp JL ["_law_line","_law_few"] [none,some 4] (.var 0) (.seq (.var 2)) [.cmp .Eq (.blt .len [.var 0]) (.var 1)] (.emit (.var 0))
noncomputable def zK:List CS:=[.asg 4 (.blt .min [Jo]),.asg 3 (.blt .min [Jp])]
noncomputable def GL:CE:=.cmp .NotEq (.cmp .Is (.var 1) (.lit (.non))) (.cmp .IsNot (.var 3) (.lit (.non)))
noncomputable def JH:CE:=.bor (.bnot (.call "_law_same" [.call "sides" [.var 0],.var 1])) (.bnot (.call "_law_same" [.call "odd_ring" [.var 0],.var 3]))
noncomputable def u0:List CS:=[.ite JH [.ret (.lit (.bl JL))] []]
noncomputable def zL:List CS:=[.asg 1 (.call "_law_sides" [.var 0]),.asg 2 (.call "_law_rings" [.var 0]),.asg 3 (.lit (.non)),.ite B3 zK [],.ite GL [.ret (.lit (.bl JL))] [],.for_ (.var 5) (.range [.lit (.int 2)]) u0,.ret (.lit (.bl JK))]
noncomputable def bU:FT:=tbl [("_law_sides",j2),("_law_rings",gQ),("_law_same",gP),("sides",jV),("odd_ring",jW)]
theorem GN:bU "_law_sides"=some j2:=rfl
theorem GO:bU "_law_rings"=some gQ:=rfl
theorem zM:bU "_law_same"=some gP:=rfl
theorem GP:bU "sides"=some jV:=rfl
theorem GQ:bU "odd_ring"=some jW:=rfl
noncomputable def m9:List D->aa->Res D:=av bU G0 zL GK.length 1
noncomputable def ho:Ls:=["_law_script","_law_web_here","_law_cell"]
noncomputable def m_:CE:=.lst JL [.tup [.lit (.int 1),.tup []],.tup [.lit (.int 2),.tup []],.tup [.lit (.int 3),.tup [.tup [.lit (.int 0),.lit (.int 1)],.tup [.lit (.int 0),.lit (.int 2)],.tup [.lit (.int 1),.lit (.int 2)]]],.tup [.lit (.int 4),.tup [.tup [.lit (.int 0),.lit (.int 3)],.tup [.lit (.int 1),.lit (.int 2)],.tup [.lit (.int 1),.lit (.int 3)]]]]
noncomputable def j3:List CS:=[.ite (.bnot (.call "_law_right" [.var 1])) [.ret (.lit (.bl JL))] []]
noncomputable def ng:CE:=.bin .Add (.lst JL [.call "_law_cell_at" [.var 0,.lit (.int 0)]]) (.sl (.var 0) [.lit (.int 1)] [.lit (.int 4)])
noncomputable def zN:List CS:=[.asg 1 (.call "_law_web" [.var 2,.lit (.int 8)]),.ite (.bor (.bnot (.call "_law_right" [.var 1])) (.bnot (.call "_law_right" [.call "_law_sided" [.var 1,.var 2]]))) [.ret (.lit (.bl JL))] []]
noncomputable def fw:List CS:=[.for_ (.var 1) (.seq m_) j3,.for_ (.var 2) (.seq ng) zN,.ret (.lit (.bl JK))]
noncomputable def bS:FT:=tbl [("_law_web",ix),("_law_right",m9),("_law_cell_at",iw),("_law_sided",m8)]
theorem GR:bS "_law_web"=some ix:=rfl
theorem tt:bS "_law_right"=some m9:=rfl
theorem GU:bS "_law_cell_at"=some iw:=rfl
theorem GV:bS "_law_sided"=some m8:=rfl
noncomputable def j4:List D->aa->Res D:=av bS G0 fw ho.length 1
end K70
namespace Py
noncomputable def B4(K:Fg)(y:Str):JP:=match PySem.W.nsIn K mainGlobals y with
 |some (some (.ref C))=>C
 |_=>0
noncomputable def j5(K:Fg)(y:Str):Bool:=match PySem.W.nsIn K mainGlobals y with
 |some (some (.ref _))=>JK
 |_=>JL
theorem GW{y:Str}(h:j5 K y=JK):PySem.W.nsIn K mainGlobals y=some (some (.ref (B4 K y))):=by
 unfold j5 at h;unfold B4;split at h
 ·rename_i C e;rw[e]
 ·cases h
noncomputable def Jq(K:Fg):Rz->Bool
 | .cls x=>j5 K x&&PySem.W.excIn K (B4 K x) yC "ValueError.__new__"
 | .kind _ _ _=>JL
theorem tu(X:K.In h)(G:h.Ns mainGlobals mg){x:Str}(H:Jq K (.cls x)=JK):XC P w K mg (.cls x):=
 ⟨B4 K x,PySem.W.mg_of X G (GW (ab H).1),(ab H).2⟩
end Py
namespace K70
noncomputable def cA(i:Nat):Ly:=PySem.Challenge.pw_pairwebs_k70_sides_and_odd_rings.main.body.getD i (.Pass ⟨0,0,0,0⟩)
def aA(K:Fg)(x:Str)(st:Ly):Prop:=∃f fd,PySem.W.nsIn K mainGlobals x=some (some (.ref f))/\qI K x x st f fd
theorem dm{x:Str}{an:Option JP}{kV:JO}(a:PySem.W.nsIn K mainGlobals x=some (some (.ref f)))(l:K.lookup f=some ⟨oc,od,.func (PySem.W.fnOf x x (gw st) (c1 st) (cM st) .none kV doc pm an cdv ct),osl⟩)
  (c:PySem.W.codeIn K cdv x=JK) (k:PySem.W.keepIn K (.ref f)=JK):aA K x st:=⟨f,_,a,qJ l c k⟩
noncomputable def nh(N P:Ls)(s:Scope):Bool:=(s.kind== .function)&& !s.isCoroutine&& !s.isGenerator&&ie N&&(N.take P.length==P)&&P.all (λx=>s.names.lookup x==some .local||s.names.lookup x==some .cell)&&s.names.all (λy=>y.2 !=.free)
theorem tw{P:Ls}{s:Scope}(h:nh N P s=JK):cl N P s:=by unfold nh at h;simp only[ZR,beq_iff_eq,Zv,Lm,bne_iff_ne,Lw]at h;obtain⟨⟨⟨⟨⟨⟨H,a⟩,b⟩,c⟩,d⟩,e⟩,f⟩:=h;exact⟨H,a,b,ss c,d,e,f⟩
noncomputable def RZ:List Rz:=[.cls "NoPlace",.cls "NoPlaces",.cls "NoWeb"]
structure En (P:J8)(w:Ke)(K:Fg)(mg:Mg)(h:JU):Prop where
 X:K.In h
 G:h.Ns mainGlobals mg
 hg:∀x d,G0 x=some d->∃v u,mg x=some u/\RelV v u/\∀F μ H,Rep K ⟨mg,F⟩ μ H d v
 hb:∀x∈fZ,mg x=none
 xc:∀z∈RZ,XC P w K mg z
section
variable {j:Nat}
theorem fe{x:Str}(E:En P w K mg h)(d:aA K x st)
  (c:∀(kV doc pm:JO) (an:Option JP) (cdv ct:JO) (us:Lv),us.length=ps.length->bindArgs (PySem.W.fnOf x x (gw st) (c1 st) (cM st) .none kV doc pm an cdv ct) ⟨us,[]⟩=pure (ps.zip us))
  (H:∀p∈l,bF P w K mg base (bo P w) k p.1 p.2) (e:fI body N (c1 st)=c1 st) (S:(nh N ps (cM st)&&(fJ body N (cM st).names (c1 st)&&(e8 body).all λz=>decide (z∈RZ)))=JK):bF P w K mg base (bo P w) (k+1) x (av (tbl l) G0 body N.length ps.length):=by
 obtain⟨f,i,a,F⟩:=d;have S:=LN.mp S;have b:=LN.mp S.2;exact JG F (tw S.1) (PySem.W.mg_of E.X E.G a) (F.binds c) (Jg H E.hg E.hb) e b.1 λz g=>E.xc z (ZF (Zv.mp b.2 z g))
theorem f0{x:Str}(E:En P w K mg h)(d:aA K x st)(S:nh N ps (cM st)=JK)
  (H:∀(kV doc pm:JO) (an:Option JP) (cdv ct:JO) (us:Lv),us.length=ps.length->bindArgs (PySem.W.fnOf x x (gw st) (c1 st) (cM st) .none kV doc pm an cdv ct) ⟨us,[]⟩=pure (ps.zip us)):bF P w K mg base (bo P w) k x (λ_ _=>.fail):=by
 obtain⟨f,b,a,F⟩:=d;exact Ft F (tw S) (PySem.W.mg_of E.X E.G a) (F.binds H)
theorem an:∀p∈([]:List (Str×(List D->aa->Res D))),bF P w K mg base (bo P w) k p.1 p.2:=λp h=>(ZH h).elim
theorem ac{x:Str}(F:bF P w K mg base (bo P w) j x φ)(H:j<=k)(r:∀p∈l,bF P w K mg base (bo P w) k p.1 p.2):∀p∈(x,φ)::l,bF P w K mg base (bo P w) k p.1 p.2:=λp a=>by
 rcases Zk.mp a with rfl|h
 ·exact F.mono H
 ·exact r p h
end
structure Df (K:Fg):Prop where
 d_is_number:aA K "is_number" (cA 7)
 d_is_number_from:aA K "is_number_from" (cA 8)
 d_is_place:aA K "is_place" (cA 9)
 d_is_rising:aA K "is_rising" (cA 10)
 d_are_places:aA K "are_places" (cA 11)
 d_are_unlike:aA K "are_unlike" (cA 12)
 d_is_tie:aA K "is_tie" (cA 13)
 d_is_web:aA K "is_web" (cA 14)
 d_is_some:aA K "is_some" (cA 15)
 d_must_be_web:aA K "must_be_web" (cA 16)
 d_must_be_place:aA K "must_be_place" (cA 17)
 d_must_be_some:aA K "must_be_some" (cA 18)
 d_tie_of:aA K "tie_of" (cA 19)
 d_have_tie:aA K "have_tie" (cA 20)
 d_near:aA K "near" (cA 21)
 d_piece_of:aA K "piece_of" (cA 22)
 d_pieces_without:aA K "pieces_without" (cA 23)
 d_pieces:aA K "pieces" (cA 24)
 d_ties_along:aA K "ties_along" (cA 26)
 d_ties_round:aA K "ties_round" (cA 28)
 d_is_ring:aA K "is_ring" (cA 29)
 d_near_some:aA K "near_some" (cA 31)
 d_sides:aA K "sides" (cA 32)
 d_odd_ring:aA K "odd_ring" (cA 33)
 d_law_cell_at:aA K "_law_cell_at" (cA 35)
 d_law_stir:aA K "_law_stir" (cA 36)
 d_law_whole:aA K "_law_whole" (cA 37)
 d_law_web:aA K "_law_web" (cA 38)
 d_law_same:aA K "_law_same" (cA 39)
 d_law_tied:aA K "_law_tied" (cA 40)
 d_law_near:aA K "_law_near" (cA 41)
 d_law_ring_good:aA K "_law_ring_good" (cA 42)
 d_law_rings:aA K "_law_rings" (cA 43)
 d_law_sided:aA K "_law_sided" (cA 44)
 d_law_sides:aA K "_law_sides" (cA 45)
 d_law_right:aA K "_law_right" (cA 46)
 d_law:aA K "law" (cA 47)
section
variable (E9:En P w K mg h)(D9:Df K)
include E9 D9
theorem GX:bF P w K mg base (bo P w) 1 "is_number" gb:=fe (ps:=["thing"]) E9 D9.d_is_number (λ_ _ _ _ _ _=>c7 λ_=>rfl) an rfl (by decide+kernel)
theorem zO:bF P w K mg base (bo P w) 2 "is_number_from" gL:=fe (ps:=["thing","low","high"]) E9 D9.d_is_number_from (λ_ _ _ _ _ _=>mS λ_ _ _=>rfl) (ac (GX E9 D9) (by decide) an) rfl (by decide+kernel)
theorem zP:bF P w K mg base (bo P w) 3 "is_place" gM:=fe (ps:=["many","thing"]) E9 D9.d_is_place (λ_ _ _ _ _ _=>b_ λ_ _=>rfl) (ac (zO E9 D9) (by decide) an) rfl (by decide+kernel)
theorem tx:bF P w K mg base (bo P w) 1 "is_rising" eI:=fe (ps:=["things"]) E9 D9.d_is_rising (λ_ _ _ _ _ _=>c7 λ_=>rfl) an rfl (by decide+kernel)
theorem tz:bF P w K mg base (bo P w) 4 "are_places" eK:=fe (ps:=["many","thing"]) E9 D9.d_are_places (λ_ _ _ _ _ _=>b_ λ_ _=>rfl) (ac (zP E9 D9) (by decide) an) rfl (by decide+kernel)
theorem GY:bF P w K mg base (bo P w) 1 "are_unlike" mT:=fe (ps:=["things"]) E9 D9.d_are_unlike (λ_ _ _ _ _ _=>c7 λ_=>rfl) an rfl (by decide+kernel)
theorem GZ:bF P w K mg base (bo P w) 5 "is_tie" mU:=fe (ps:=["many","thing"]) E9 D9.d_is_tie (λ_ _ _ _ _ _=>b_ λ_ _=>rfl) (ac (tz E9 D9) (by decide) (ac (tx E9 D9) (by decide) an)) rfl (by decide+kernel)
theorem G1:bF P w K mg base (bo P w) 6 "is_web" mW:=fe (ps:=["thing"]) E9 D9.d_is_web (λ_ _ _ _ _ _=>c7 λ_=>rfl) (ac (tx E9 D9) (by decide) (ac (zO E9 D9) (by decide) (ac (GZ E9 D9) (by decide) an))) rfl (by decide+kernel)
theorem G2:bF P w K mg base (bo P w) 5 "is_some" mX:=fe (ps:=["web","thing"]) E9 D9.d_is_some (λ_ _ _ _ _ _=>b_ λ_ _=>rfl) (ac (tz E9 D9) (by decide) (ac (tx E9 D9) (by decide) an)) rfl (by decide+kernel)
theorem j6:bF P w K mg base (bo P w) 7 "must_be_web" cq:=fe (ps:=["thing"]) E9 D9.d_must_be_web (λ_ _ _ _ _ _=>c7 λ_=>rfl) (ac (G1 E9 D9) (by decide) an) rfl (by decide+kernel)
theorem G3:bF P w K mg base (bo P w) 4 "must_be_place" jO:=fe (ps:=["web","thing"]) E9 D9.d_must_be_place (λ_ _ _ _ _ _=>b_ λ_ _=>rfl) (ac (zP E9 D9) (by decide) an) rfl (by decide+kernel)
theorem zQ:bF P w K mg base (bo P w) 6 "must_be_some" fK:=fe (ps:=["web","thing"]) E9 D9.d_must_be_some (λ_ _ _ _ _ _=>b_ λ_ _=>rfl) (ac (G2 E9 D9) (by decide) an) rfl (by decide+kernel)
theorem zR:bF P w K mg base (bo P w) 1 "tie_of" gN:=fe (ps:=["one","other"]) E9 D9.d_tie_of (λ_ _ _ _ _ _=>b_ λ_ _=>rfl) an rfl (by decide+kernel)
theorem tD:bF P w K mg base (bo P w) 2 "have_tie" eL:=fe (ps:=["web","one","other"]) E9 D9.d_have_tie (λ_ _ _ _ _ _=>mS λ_ _ _=>rfl) (ac (zR E9 D9) (by decide) an) rfl (by decide+kernel)
theorem ni:bF P w K mg base (bo P w) 8 "near" gO:=fe (ps:=["web","place"]) E9 D9.d_near (λ_ _ _ _ _ _=>b_ λ_ _=>rfl) (ac (j6 E9 D9) (by decide) (ac (G3 E9 D9) (by decide) (ac (tD E9 D9) (by decide) an))) rfl (by decide+kernel)
theorem G4:bF P w K mg base (bo P w) 3 "piece_of" jS:=fe (ps:=["web","left","start"]) E9 D9.d_piece_of (λ_ _ _ _ _ _=>mS λ_ _ _=>rfl) (ac (tD E9 D9) (by decide) an) rfl (by decide+kernel)
theorem G5:bF P w K mg base (bo P w) 8 "pieces_without" mZ:=fe (ps:=["web","some"]) E9 D9.d_pieces_without (λ_ _ _ _ _ _=>b_ λ_ _=>rfl) (ac (j6 E9 D9) (by decide) (ac (zQ E9 D9) (by decide) (ac (G4 E9 D9) (by decide) an))) rfl (by decide+kernel)
theorem G6:bF P w K mg base (bo P w) 9 "pieces" gc:=fe (ps:=["web"]) E9 D9.d_pieces (λ_ _ _ _ _ _=>c7 λ_=>rfl) (ac (G5 E9 D9) (by decide) an) rfl (by decide+kernel)
theorem G7:bF P w K mg base (bo P w) 2 "ties_along" m3:=fe (ps:=["places"]) E9 D9.d_ties_along (λ_ _ _ _ _ _=>c7 λ_=>rfl) (ac (zR E9 D9) (by decide) an) rfl (by decide+kernel)
theorem G8:bF P w K mg base (bo P w) 3 "ties_round" m4:=fe (ps:=["ring"]) E9 D9.d_ties_round (λ_ _ _ _ _ _=>c7 λ_=>rfl) (ac (G7 E9 D9) (by decide) an) rfl (by decide+kernel)
theorem G9:bF P w K mg base (bo P w) 8 "is_ring" iv:=fe (ps:=["web","thing"]) E9 D9.d_is_ring (λ_ _ _ _ _ _=>b_ λ_ _=>rfl) (ac (j6 E9 D9) (by decide) (ac (tz E9 D9) (by decide) (ac (GY E9 D9) (by decide) (ac (G8 E9 D9) (by decide) an)))) rfl (by decide+kernel)
theorem G_:bF P w K mg base (bo P w) 8 "near_some" m5:=fe (ps:=["web","some"]) E9 D9.d_near_some (λ_ _ _ _ _ _=>b_ λ_ _=>rfl) (ac (j6 E9 D9) (by decide) (ac (zQ E9 D9) (by decide) (ac (tD E9 D9) (by decide) an))) rfl (by decide+kernel)
theorem G':bF P w K mg base (bo P w) 10 "sides" jV:=fe (ps:=["web"]) E9 D9.d_sides (λ_ _ _ _ _ _=>c7 λ_=>rfl) (ac (G_ E9 D9) (by decide) (ac (G6 E9 D9) (by decide) an)) rfl (by decide+kernel)
theorem Hc:bF P w K mg base (bo P w) 9 "odd_ring" jW:=fe (ps:=["web"]) E9 D9.d_odd_ring (λ_ _ _ _ _ _=>c7 λ_=>rfl) (ac (j6 E9 D9) (by decide) (ac (G9 E9 D9) (by decide) (ac (ni E9 D9) (by decide) an))) rfl (by decide+kernel)
theorem zS:bF P w K mg base (bo P w) 1 "_law_cell_at" iw:=fe (ps:=["_law_script","_law_k"]) E9 D9.d_law_cell_at (λ_ _ _ _ _ _=>b_ λ_ _=>rfl) an rfl (by decide+kernel)
theorem zT:bF P w K mg base (bo P w) 1 "_law_stir" e_:=fe (ps:=["_law_cell","_law_k"]) E9 D9.d_law_stir (λ_ _ _ _ _ _=>b_ λ_ _=>rfl) an rfl (by decide+kernel)
theorem Hd:bF P w K mg base (bo P w) 1 "_law_whole" jX:=fe (ps:=["_law_thing"]) E9 D9.d_law_whole (λ_ _ _ _ _ _=>c7 λ_=>rfl) an rfl (by decide+kernel)
theorem zU:bF P w K mg base (bo P w) 2 "_law_web" ix:=fe (ps:=["_law_cell","_law_top"]) E9 D9.d_law_web (λ_ _ _ _ _ _=>b_ λ_ _=>rfl) (ac (zT E9 D9) (by decide) an) rfl (by decide+kernel)
theorem zV:∀n,bF P w K mg base (bo P w) (0+n) "_law_same" (dg n)
 |0=>f0 (N:=iy) (ps:=["_law_found","_law_due"]) E9 D9.d_law_same (by decide+kernel) (λ_ _ _ _ _ _=>b_ λ_ _=>rfl)
 |n+1=>fe (ps:=["_law_found","_law_due"]) (k:=0+n) E9 D9.d_law_same (λ_ _ _ _ _ _=>b_ λ_ _=>rfl) (ac (zV n) (Zl _) an) rfl (by decide+kernel)
theorem He:bF P w K mg base (bo P w) 6 "_law_same" gP:=zV E9 D9 6
theorem Hf:bF P w K mg base (bo P w) 1 "_law_tied" m7:=fe (ps:=["_law_web_here","_law_one","_law_other"]) E9 D9.d_law_tied (λ_ _ _ _ _ _=>mS λ_ _ _=>rfl) an rfl (by decide+kernel)
theorem zW:bF P w K mg base (bo P w) 1 "_law_near" fM:=fe (ps:=["_law_web_here","_law_place"]) E9 D9.d_law_near (λ_ _ _ _ _ _=>b_ λ_ _=>rfl) an rfl (by decide+kernel)
theorem Hg:bF P w K mg base (bo P w) 2 "_law_ring_good" jZ:=fe (ps:=["_law_web_here","_law_thing"]) E9 D9.d_law_ring_good (λ_ _ _ _ _ _=>b_ λ_ _=>rfl) (ac (Hf E9 D9) (by decide) (ac (Hd E9 D9) (by decide) an)) rfl (by decide+kernel)
theorem Hh:bF P w K mg base (bo P w) 3 "_law_rings" gQ:=fe (ps:=["_law_web_here"]) E9 D9.d_law_rings (λ_ _ _ _ _ _=>c7 λ_=>rfl) (ac (Hg E9 D9) (by decide) (ac (zW E9 D9) (by decide) an)) rfl (by decide+kernel)
theorem zX:bF P w K mg base (bo P w) 2 "_law_sided" m8:=fe (ps:=["_law_web_here","_law_cell"]) E9 D9.d_law_sided (λ_ _ _ _ _ _=>b_ λ_ _=>rfl) (ac (zT E9 D9) (by decide) an) rfl (by decide+kernel)
theorem Hi:bF P w K mg base (bo P w) 2 "_law_sides" j2:=fe (ps:=["_law_web_here"]) E9 D9.d_law_sides (λ_ _ _ _ _ _=>c7 λ_=>rfl) (ac (zW E9 D9) (by decide) an) rfl (by decide+kernel)
theorem zY:bF P w K mg base (bo P w) 11 "_law_right" m9:=fe (ps:=["_law_web_here"]) E9 D9.d_law_right (λ_ _ _ _ _ _=>c7 λ_=>rfl) (ac (Hi E9 D9) (by decide) (ac (Hh E9 D9) (by decide) (ac (He E9 D9) (by decide) (ac (G' E9 D9) (by decide) (ac (Hc E9 D9) (by decide) an))))) rfl (by decide+kernel)
theorem Hj:bF P w K mg base (bo P w) 12 "law" j4:=fe (ps:=["_law_script"]) E9 D9.d_law (λ_ _ _ _ _ _=>c7 λ_=>rfl) (ac (zU E9 D9) (by decide) (ac (zY E9 D9) (by decide) (ac (zS E9 D9) (by decide) (ac (zX E9 D9) (by decide) an)))) rfl (by decide+kernel)
end
noncomputable def hE(K:Fg):Sp:=λvs H Q _=>∃(a:JP) (ns:Li),vs=[.ref a]/\ls H/\c9 K H a (ns.map V.int)/\ns.length<=63/\∀H',Q (.bl JK) H'
def Good(f:List D->aa->Res D):Prop:=∀ns:Li,ns.length<=63->∃S',f [.scr (ns.map D.int)] []=.ok (.bl JK) S'
theorem zZ{K:Fg}{m:GS}{μ:La}{H:Hp}:∀ns:Li,ag K m μ H (ns.map D.int) (ns.map V.int)
 | []=>.nil
 |n::ns=>.cons bN (zZ ns)
theorem z0{f:List D->aa->Res D}(g:Good f):∀vs H Q E,hE K vs H Q E->rc K mg 1 f vs H Q E:=by
 rintro vs H Q E ⟨a,N,rfl,i,j,d,q⟩;refine⟨rfl,[],[],[],[.scr (N.map D.int)],⟨λa h=>(by cases h),rfl,Nz,λn a l h=>(by cases h)⟩,.cons ?_ .nil,?_⟩
 ·unfold Rep;refine⟨a,N.map V.int,rfl,?_,zZ N⟩;rcases j with(h| ⟨o,h⟩)|h
  ·rcases i a with z| ⟨o,X,z⟩<;>rw[z]at h<;>cases h
  ·exact .inl ⟨o,h⟩
  ·exact .inr h
 ·obtain⟨S,e⟩:=g N d;rw[e];intro k c b x s r;unfold Rep at r;rw[r];exact q c
theorem tF{l:PySem.W.OpenLaw}(X:K.In h)(G:h.Ns mainGlobals mg)(i:mg "law"=some (.ref fa))(good:Good j4)(D:Df K)(Z:∀x∈fZ,PySem.W.nsIn K mainGlobals x=some none)
  {g:Tok} (M:PySem.W.nsIn K mainGlobals "MOST_PLACES"=some (some (.int 8 g))) (r:RZ.all (Jq K)=JK):
  ∃fd:KL,(∀(s:JN) (v:JO),NR s fd ⟨[v],[]⟩ [("_law_script",v)])/\∀base:JU,K.In base->base.Ns mainGlobals mg->c0 l.prog w K mg base (bo l.prog w) 12 fa fd ["_law_script"] (hE K):=by
 have n:∀x d,G0 x=some d->∃v u,mg x=some u/\RelV v u/\∀F y H,Rep K ⟨mg,F⟩ y H d v:=λx d e=>by
  unfold G0 at e;rw[OT]at e;split at e
  ·rename_i j;cases e;have m:x="MOST_PLACES":=by simpa using j
   subst m;exact⟨.int 8,_,PySem.W.mg_of X G M,⟨_,rfl⟩,λ_ _ _=>bN⟩
  cases e
 have p:=Zv.mp r
 have t:∀z∈RZ,XC l.prog w K mg z:=λz b=>by
  have c:=p z b;simp only[RZ,Zk,O1,or_false]at b;rcases b with rfl|rfl|rfl
  ·exact tu X G c
  ·exact tu X G c
  ·exact tu X G c
 have E:En l.prog w K mg h:=⟨X,G,n,λx j=>PySem.W.mg_none_of X G (Z x j),t⟩;obtain⟨f,fd,a,F⟩:=D.d_law;have e:=i.symm.trans (PySem.W.mg_of X G a);cases e;have S:cl ho ["_law_script"] (cM (cA 47)):=tw (by decide+kernel);refine⟨fd,λs v=>?_,λbase _ _=>?_⟩
 ·obtain⟨B,I,kV,o,P,an,C,A,O,rfl,lk,q⟩:=F.ex;exact .of_eq rfl
 ·exact c0.imp (yJ (k:=11) F S (Jg (ac (zU E D) (by decide) (ac (zY E D) (by decide) (ac (zS E D) (by decide) (ac (zX E D) (by decide) an)))) n E.hb) rfl (by decide+kernel) λz b=>E.xc z (ZF (Zv.mp (by decide+kernel:((e8 fw).all λz=>decide (z∈RZ))=JK) z b))) (z0 good)
end K70
namespace Py
abbrev Ti:=Int×Int
end Py
namespace K70
mutual
theorem z7{k:Nat}:∀(d:D),bE 0 d=JK->bE k d=JK
 | .non,_=>rfl
 | .bl _,_=>rfl
 | .int _,_=>rfl
 | .str _,_=>rfl
 | .tup _,h=>by exact iz _ h
 | .lst _,h=>by exact iz _ h
 | .scr _,h=>by exact iz _ h
 | .ref n,h=>by unfold bE at h;simp at h
 | .fn y,_=>rfl
 | .ty y,_=>rfl
 | .dct,_=>rfl
 | .dks _,_=>rfl
theorem iz{k:Nat}:∀(ds:List D),a_ 0 ds=JK->a_ k ds=JK
 | [],_=>rfl
 |d::ds,h=>by unfold a_ at h⊢;simp at h⊢;exact⟨z7 d h.1,iz _ h.2⟩
end
def Flat(S:aa):Prop:=∀xs∈S,a_ 0 xs=JK
theorem Flat.all(h:Flat S):S.all (a_ k)=JK:=Zv.mpr λx H=>iz _ (h _ H)
theorem Flat.nil:Flat []:=λ_ h=>by cases h
theorem Flat.snoc(h:Flat S)(a:a_ 0 xs=JK):Flat (S++[xs]):=λy H=>by
 rcases ZE.mp H with z|z
 ·exact h _ z
 simp_all
theorem iA(h:Flat (S'.take k))(H:bE 0 d=JK):dB k d S'=.ok d (S'.take k):=by unfold dB;rw[if_pos h.all,if_pos (z7 d H)]
theorem Hk(h:Flat S)(H:bE 0 d=JK):dB S.length d S=.ok d S:=by rw[iA (by simp_all) H,Nb]
theorem z8(a:S.length=k)(h:Flat S)(H:bE 0 d=JK):dB k d S=.ok d S:=by subst a;exact Hk h H
theorem z9{step:D->List D->aa->Res (List D)}{S:aa}(g:D->Option D):∀(xs acc:List D),(∀x∈xs,∀acc,acc.length<bB->step x acc S=.ok (acc++(g x).toList) S)->acc.length+xs.length<=bB->bK step xs acc S=.ok (acc++xs.filterMap g) S
 | [],acc,_,_=>by simp[bK]
 |x::xs,acc,h,H=>by simp at H;unfold bK;rw[h x Ze _ (by omega)];unfold Res.bind;dsimp;rw[z9 g _ _ (λy a=>h y (Zc _ a)) (by grind)];cases e:g x<;>simp[e]
theorem z_{l:List α}{f:α->Option Bool}(h:∀x∈l,f x=some JK):bm (l.map f)=some JK:=by
 induction l with
 |nil=>rfl
 |cons x l i=>
  unfold bm
  grind
theorem allO_map{l:List α}{f:α->Bool}:bm (l.map λx=>some (f x))=some (l.all f):=by
 induction l with
 |nil=>rfl
 |cons x l i=>unfold bm;simp_all
theorem nj{l:List α}{f:α->Bool}:eW (l.map λx=>some (f x))=some (l.any f):=by unfold eW;rw[ZA];have e:(λo=>o.map not)∘(λx=>some _)=λx=>some !f x:=rfl;rw[e,allO_map];simp[List.not_all_eq_any_not]
noncomputable def ay(t:Int×Int):D:=.tup [.int t.1,.int t.2]
noncomputable def al(ts:Lq):List D:=ts.map ay
noncomputable def ae(m:Int)(ts:Lq):D:=.tup [.int m,.tup (al ts)]
theorem B5(t:Int×Int):bE 0 (ay t)=JK:=rfl
theorem j7:∀(ts:Lq),a_ 0 (al ts)=JK
 | []=>rfl
 |t::ts=>by show(bE 0 _&&a_ 0 (al _))=JK;rw[j7 _];rfl
theorem dh:∀(ns:Li),a_ 0 (ns.map D.int)=JK
 | []=>rfl
 |t::T=>by show(bE 0 _&&a_ 0 _)=JK;rw[dh _];rfl
theorem nk(m:Int)(ts:Lq):bE 0 (ae m ts)=JK:=by show(JK&&(a_ 0 _&&JK))=JK;rw[j7];rfl
def aJ(a b:Int×Int):Prop:=a.1<b.1\/(a.1=b.1/\a.2<b.2)
instance (a b:Int×Int):Decidable (aJ a b):=by unfold aJ;exact inferInstance
theorem Aa(S:aa)(n:Nat)(a b:Int):cJ S (n+1) (.int a) (.int b)=some (a==b):=rfl
theorem nq(S:aa)(n:Nat)(a b:Int×Int):cJ S (n+2) (ay a) (ay b)=some (decide (a=b)):=by
 have e:cJ S (n+2) (ay a) (ay b)=some _:=rfl;simp[Prod.ext_iff]
 grind
theorem nr(S:aa)(n:Nat)(a b:Int×Int):cY S (n+2) (ay a) (ay b)=some (decide (aJ a b)):=by
 have e:cY S (n+2) (ay a) (ay b)=match cJ S _ _ _ with
  |some JK=>(match cJ S _ _ _ with
   |some JK=>some _
   |some JL=>some _
   |none=>none)
  |some JL=>some _
  |none=>none:=rfl
 rw[e,Aa,Aa];unfold aJ
 grind
theorem tG(S:aa)(t:Int×Int)(ts:Lq):fm (ay t) (.tup (al ts)) S=some (decide (t∈ts)):=by
 have e:fm (ay t) (.tup (al ts)) S=eW _:=rfl;rw[e];unfold al;rw[ZA];have E:(λy=>cJ S aM y (ay t))∘ay=λu=>some (decide (u=t)):=by funext u;exact nq S 38 u t
 rw[E,nj]
 grind
theorem tH(S:aa)(p:Int)(t:Int×Int):fm (.int p) (ay t) S=some (decide (p=t.1\/p=t.2)):=by
 have e:fm (.int p) (ay t) S=some _:=rfl;rw[e];congr 1
 grind
structure aH (m:Int)(ts:Lq):Prop where
 lo:1<=m
 hi:m<=8
 ris:ts.Pairwise aJ
 tie:∀t∈ts,0<=t.1/\t.1<t.2/\t.2<m
 few:ts.length<=28
theorem be(c:ds.length=np)(h:af Φ Γ body (ds.map some++JQ (n-np) none) S=.ok (.ret d) S')(b:S'.length=S.length)(a:Flat S')(H:bE 0 d=JK):av Φ Γ body n np ds S=.ok d S':=by unfold av;rw[if_pos c,h];exact z8 b a H
theorem tJ(b:ds.length=np)(h:af Φ Γ body (ds.map some++JQ (n-np) none) S=.ok (.next ρ) S')(a:S'.length=S.length)(H:Flat S'):av Φ Γ body n np ds S=.ok .non S':=by unfold av;rw[if_pos b,h];exact z8 a H rfl
theorem Hl(h:Flat S)(i:Int):gb [.int i] S=.ok (.bl JK) S:=be rfl rfl rfl h rfl
theorem Ab(h:Flat S)(i l H:Int):gL [.int i,.int l,.int H] S=.ok (.bl (decide (l<=i/\i<=H))) S:=by refine be rfl ?_ rfl h rfl;simp[sN,af,aC,aj,ak,Res.bind,Res.noErr,bp,yL,Hl h,aF,BP];lia
theorem tK(h:Flat S)(m i:Int):gM [.int m,.int i] S=.ok (.bl (decide (0<=i/\i<m))) S:=by refine be rfl ?_ rfl h rfl;have e:(i<=m-1)=(i<m):=propext (by omega);simp[sO,af,aC,aj,ak,Res.bind,Res.noErr,yN,Ab h,dj,lw,e]
theorem tM{step:D->List D->aa->Res (List D)}(h:∀x∈xs,∀acc,acc.length<bB->step x acc S=.ok (acc++[.bl JK]) S)(b:xs.length<=bB):bK step xs [] S=.ok (xs.map λ_=>D.bl JK) S:=by rw[z9 (λ_=>some _) _ _ (λx a acc H=>h x a _ H) (by simp_all)];simp
theorem tN:h6 [.lst (xs.map λ_=>D.bl JK)] S=.ok (.bl JK) S:=by unfold h6;simp only[au,ZA,show bm (xs.map (ez∘λx=>D.bl _))=some _ from z_ λx h=>rfl];rfl
theorem Ac(xs:List D):dQ xs (some 1) none=xs.drop 1:=by
 unfold dQ;have e:HT.bZ xs.length 0 (some 1)=min 1 _:=rfl;have E:HT.bZ xs.length _ none=xs.length:=rfl;rw[e,E];cases xs with
 |nil=>rfl
 |cons x r=>simp
theorem tO(b:Flat S)(d:xs.length<=1000)(h:∀(i:Nat) x y,xs[i]?=some x->xs[i+1]?=some y->cY S aM x y=some JK):eI [.tup xs] S=.ok (.bl JK) S:=by
 refine be rfl ?_ rfl b rfl;have a:d6 S (.tup xs) (.tup (xs.drop 1))=some (.items (JR (λx y=>.tup [x,y]) xs (xs.drop 1))):=rfl;simp[yP,yO,af,aC,ao,aj,ak,aL,Res.bind,Res.noErr,bp,qT,eY,eF,ba];simp only[Ac xs,a,cP];rw[tM]
 ·simp only[Res.noErr,tN]
 ·intro z a A c;obtain⟨i,H⟩:=List.mem_iff_getElem?.mp a;rw[N9]at H;cases e:xs[i]? with
  |none=>rw[e]at H;cases H
  |some x=>
   cases E:(xs.drop 1)[i]? with
   |none=>rw[e,E]at H;cases H
   |some y=>rw[e,E]at H;cases H;rw[OE,Nat.add_comm]at E;simp[bb,cO,slots,eX,aE,cv,aI,bn,aj,Res.bind,aF,h i x y e E,aR,Res.noErr];unfold bB at c;omega
 ·simp;unfold bB;omega
theorem Ad(H:Flat S)(g:ns.length<=1000)(h:∀n∈ns,0<=n/\n<m):eK [.int m,.tup (ns.map D.int)] S=.ok (.bl JK) S:=by
 refine be rfl ?_ rfl H rfl;have d:de [.tup (ns.map D.int),.ty "tuple"] S=.ok (.bl JK) S:=rfl;simp[yR,yQ,af,aC,ao,aj,ak,aL,Res.bind,Res.noErr,bp,ba,d,eE];simp only[cP];rw[tM]
 ·simp only[Res.noErr];rw[tN]
 ·intro z f A b;obtain⟨n,e,rfl⟩:=Zs.mp f;have a:=tK H m n;have c:decide (0<=n/\n<m)=JK:=Zr (h n e);rw[c]at a;simp[bb,cO,slots,eX,aE,cv,aI,bn,aj,ak,Res.bind,yS,a,Res.noErr];unfold bB at b;omega
 ·simp;unfold bB;omega
theorem Hm(H:Flat S){t:Int×Int}(h:0<=t.1/\t.1<t.2/\t.2<m):mU [.int m,ay t] S=.ok (.bl JK) S:=by
 refine be rfl ?_ rfl H rfl;have a:eK [.int m,ay t] S=.ok _ S:=Ad H (ns:=[t.1,t.2]) (by simp) (by grind)
 have b:eI [ay t] S=.ok _ S:=tO H (by simp) (by
  intro i x y e E;have f:i=0:=by grind
  subst f;simp at e E;subst e;subst E;show some _=some _;simp[h.2.1])
 have c:ba .len [ay t] S=.ok _ S:=rfl;have d:aF .Eq (.int 2) (.int 2) S=.ok _ S:=rfl;simp[yU,af,aC,aj,ak,Res.bind,Res.noErr,bp,FD,FE,a,b,c,d]
theorem Ae{i:Nat}{x:D}(h:(al ts)[i]?=some x):∃t,ts[i]?=some t/\x=ay t:=by
 unfold al at h
 grind
theorem Hn(H:Flat S)(a:ts.length<=1000)(h:ts.Pairwise aJ):eI [.tup (al ts)] S=.ok (.bl JK) S:=
 tO H (by unfold al;simpa using a) λi x y e E=>by obtain⟨t,f,rfl⟩:=Ae e;obtain⟨u,F,rfl⟩:=Ae E;rw[show cY S aM (ay t) (ay u)=some (decide (aJ t u))from nr S 38 t u];obtain⟨g,rfl⟩:=Zp.mp f;obtain⟨G,rfl⟩:=Zp.mp F;rw[Zr (Lb.mp h i (i+1) g G (by omega))]
theorem Ho(h:Flat S)(W:aH m ts):mW [ae m ts] S=.ok (.bl JK) S:=by
 have l:=W.few;refine be rfl ?_ rfl h rfl;have b:de [ae m ts,.ty "tuple"] S=.ok (.bl JK) S:=rfl;have c:hZ [ae m ts] S=.ok (.int 2) S:=rfl;have d:aF .NotEq (.int 2) (.int 2) S=.ok (.bl JL) S:=rfl;have H:=Ab h m 1 8;rw[Zr (⟨W.lo,W.hi⟩:1<=m/\m<=8)]at H;have e:de [.tup (al ts),.ty "tuple"] S=.ok (.bl JK) S:=rfl;have a:=Hn h (show ts.length<=1000 by omega) W.ris;have f:G0 "MOST_PLACES"=some (.int 8):=rfl;have g:aE (.tup [.var 1,.var 2]) (ae m ts) [some (ae m ts),none,none]=some _:=rfl;simp[yW,yV,af,aC,ao,aj,ak,aL,Res.bind,Res.noErr,bp,ba,b,c,d,FF,FG,yX,H,e,bG,a,f,g,eE];simp only[cP];rw[tM]
 ·simp only[Res.noErr,tN];simp[a]
 ·intro z k A i;obtain⟨t,j,rfl⟩:=Zs.mp k;simp[bb,cO,slots,eX,aE,cv,aI,bn,aj,ak,Res.bind,yX,Hm h (W.tie t j),Res.noErr];unfold bB at i;omega
 ·unfold al bB;simp;omega
theorem j8(h:Flat S)(W:aH m ts):cq [ae m ts] S=.ok .non S:=by refine tJ (ρ:=[some (ae m ts)]) rfl ?_ rfl h;simp[y2,y0,af,aC,ao,aj,ak,Res.bind,FJ,Ho h W,bG]
theorem Hq(a:Flat S){p:Int}(h:0<=p/\p<m):jO [ae m ts,.int p] S=.ok .non S:=by refine tJ (ρ:=[some (ae m ts),some (.int p)]) rfl ?_ rfl a;have H:=tK a m p;rw[Zr h]at H;have b:bg (ae m ts) (.int 0) S=.ok (.int m) S:=rfl;simp[y7,y6,af,aC,ao,aj,ak,Res.bind,Res.noErr,FK,H,b,bG]
theorem tQ{b:Type}{f e:b->D}{p:b->Bool}{step:D->List D->aa->Res (List D)}{S:aa}:∀(xs:List b) (acc:List D),(∀x∈xs,∀acc,acc.length<bB->step (f x) acc S=.ok (if p x=JK then acc++[e x]else acc) S)->acc.length+xs.length<=bB->bK step (xs.map f) acc S=.ok (acc++(xs.filter p).map e) S
 | [],acc,_,_=>by simp[bK]
 |x::xs,acc,h,c=>by
  unfold bK;unfold Res.bind;have i:=λa=>tQ _ a λy H=>h y (Zc _ H)
  grind
theorem gh{f e:α->D}{p:α->Bool}{step:D->List D->aa->Res (List D)}{xs:List α}(h:∀x∈xs,∀acc,acc.length<bB->step (f x) acc S=.ok (if p x=JK then acc++[e x]else acc) S)(H:xs.length<=bB):bK step (xs.map f) [] S=.ok ((xs.filter p).map e) S:=by rw[tQ xs [] h (by simpa using H)];simp
theorem aV{c:CS}(h:aC Φ Γ c ρ S=.ok (.next ρ') S'):af Φ Γ (c::cs) ρ S=af Φ Γ cs ρ' S':=by rw[af,h];rfl
theorem bJ{c:CS}(h:aC Φ Γ c ρ S=.ok (.ret d) S'):af Φ Γ (c::cs) ρ S=.ok (.ret d) S':=by rw[af,h];rfl
theorem eN{t:CT}{it:CE}{its:ia}(h:aL Φ Γ it ρ S=.ok its S1):aC Φ Γ (.for_ t it body) ρ S=lP (λx ρ S=>match aE t x ρ with
   |some ρ'=>af Φ Γ body ρ' S
   |none=>.fail) its ρ S1:=by
 rw[aC,h];rfl
theorem aQ{i:Nat}{e:CE}(h:aj Φ Γ e ρ S=.ok d S'):af Φ Γ (.asg i e::cs) ρ S=af Φ Γ cs (ρ.set i (some d)) S':=
 aV (by rw[aC,h];rfl)
noncomputable def ar(l:Int):Nat->Li
 |0=>[]
 |n+1=>l::ar (l+1) n
theorem iB(l:Int)(n:Nat):ec l n=(ar l n).map D.int:=by
 induction n generalizing l with
 |zero=>rfl
 |succ n i=>unfold ec ar;rw[i];rfl
theorem iC{x:Int}:x∈ar lo n->lo<=x/\x<lo+n:=by
 induction n generalizing lo with
 |zero=>intro h;cases h
 |succ n i=>
  intro h;unfold ar at h;rcases Zk.mp h with rfl|h
  ·omega
  ·have:=i h;omega
theorem cG:(ar lo n).length=n:=by
 induction n generalizing lo with
 |zero=>rfl
 |succ n i=>unfold ar;simp[i]
theorem Af{a:Type}{f:a->D}{g:a->List D}{c:Nat}{step:D->List D->aa->Res (List D)}{S:aa}(H:∀x,(g x).length<=c):∀(xs:List a) (acc:List D),(∀x∈xs,∀acc,acc.length+c<=bB->step (f x) acc S=.ok (acc++g x) S)->acc.length+c*xs.length<=bB->bK step (xs.map f) acc S=.ok (acc++xs.flatMap g) S
 | [],acc,_,_=>by simp[bK]
 |x::xs,acc,h,b=>by simp only[Zn,Nat.mul_add,Nat.mul_one]at b;simp only[Kj];unfold bK;rw[h x Ze acc (by omega)];unfold Res.bind;dsimp only;rw[Af H xs _ (λy d=>h y (Zc _ d)) (by have:=H x;simp only[Zq];omega)];simp
noncomputable def insI(x:Int×Int):Lq->Lq
 | []=>[x]
 |y::ys=>if aJ x y then x::y::ys else y::insI x ys
noncomputable def sortI(l:Lq):Lq:=l.foldl (λacc x=>insI x acc) []
theorem nt(a b:Int×Int):bQ (.seq .int) (ay a) (ay b)=decide (aJ a b):=by
 have e:bQ (.seq .int) (ay a) (ay b)=(if decide (a.1<b.1)=JK then JK else if decide (b.1<a.1)=JK then JL else if decide (a.2<b.2)=JK then JK else if decide (b.2<a.2)=JK then JL else JL):=rfl;rw[e];simp only[ZK];by_cases h:aJ a b
 ·rw[Zr h];unfold aJ at h
  repeat' split
  all_goals first|rfl|omega
 ·rw[Zy h];unfold aJ at h
  repeat' split
  all_goals first|rfl|omega
theorem Ag(x:Int×Int):∀l:Lq,cR (bQ (.seq .int)) (ay x) (al l)=al (insI x l)
 | []=>rfl
 |y::Y=>by
  show(if bQ _ _ _=JK then ay x::ay y::al _ else ay y::cR _ _ (al _))=al _;have e:insI x (y::Y)=if aJ x y then x::y::Y else y::insI x _:=rfl;rw[nt,Ag x _,e];by_cases h:aJ x y
  ·rw[Zr h,if_pos h];rfl
  ·rw[Zy h,if_neg h];rfl
theorem Ah:∀(l acc:Lq),(al l).foldl (λacc x=>cR (bQ (.seq .int)) x acc) (al acc)=al (l.foldl (λacc x=>insI x acc) acc)
 | [],acc=>rfl
 |x::l,acc=>by show(al l).foldl _ (cR _ _ _)=_;rw[Ag,Ah l];rfl
theorem Hr(l:Lq):eZ (bQ (.seq .int)) (al l)=al (sortI l):=Ah l []
theorem nu(x:Int×Int):∀l,(insI x l).Perm (x::l)
 | []=>.refl _
 |y::Y=>by
  unfold insI;split
  ·exact .refl _
  ·exact((nu x _).cons y).trans (.swap x y _)
theorem Ai:∀(l acc:Lq),(l.foldl (λacc x=>insI x acc) acc).Perm (l++acc)
 | [],acc=>.refl _
 |x::l,acc=>by exact(Ai l _).trans (((nu x _).append_left l).trans K_)
theorem Aj(l:Lq):(sortI l).Perm l:=by have:=Ai l [];rw[Z4]at this;exact this
theorem lex_tot{x y:Int×Int}(h:¬aJ x y)(n:x≠y):aJ y x:=by
 unfold aJ at h⊢
 grind
theorem Hs{x y z:Int×Int}(a:aJ x y)(b:aJ y z):aJ x z:=by unfold aJ at*;omega
theorem Ak(x:Int×Int):∀l,l.Pairwise aJ->x∉l->(insI x l).Pairwise aJ
 | [],_,_=>NQ _ _
 |y::Y,h,n=>by
  obtain⟨a,b⟩:=ZG.mp h;unfold insI;by_cases e:aJ x y
  ·rw[if_pos e];refine ZG.mpr ⟨λz H=>?_,h⟩;rcases Zk.mp H with rfl|H
   ·exact e
   ·exact Hs e (a z H)
  ·rw[if_neg e];refine ZG.mpr ⟨λz H=>?_,Ak x Y b λz=>n (Zc _ z)⟩;rcases Zk.mp ((nu x Y).mem_iff.mp H)with rfl|H
   ·exact lex_tot e λz=>n (by subst z;exact Ze)
   ·exact a z H
theorem Al:∀(l acc:Lq),acc.Pairwise aJ->(l++acc).Nodup->(l.foldl (λacc x=>insI x acc) acc).Pairwise aJ
 | [],acc,h,_=>h
 |x::l,acc,h,n=>by have N:=n;obtain⟨a,b⟩:=Z3.mp N;exact Al l _ (Ak x _ h λz=>a (Zt _ z)) ((((nu x _).append_left l).trans K_).nodup_iff.mpr N)
theorem Ht{l:Lq}(h:l.Nodup):(sortI l).Pairwise aJ:=Al l _ .nil (by simp_all)
theorem Hu{l:Lq}(H:au S d=some (al l))(b:l.length<64):gD JL (.seq .int) [d] S=.ok (.lst (al (sortI l))) S:=by
 have e:(al l).all (az (.seq .int))=JK:=by rw[Zv];intro x h;obtain⟨t,_,rfl⟩:=Zs.mp h;rfl
 have E:gC (.seq .int) (al l)=JK:=by
  have:((al l).all λd=> !jd d)=JK:=by rw[Zv];intro x h;obtain⟨t,_,rfl⟩:=Zs.mp h;rfl
  show(JK&&((al l).all λd=> !jd d))=JK;rw[this];rfl
 have a:(al l).length<64:=by unfold al;rw[Zi];omega
 unfold gD;simp only[H];rw[if_pos ⟨e,a,E⟩,Hr];rfl
theorem Hv{l:Lq}(h1:1<=m)(h:m<=8)(a:l.Nodup)(c:∀t∈l,0<=t.1/\t.1<t.2/\t.2<m)(H:l.length<=28):aH m (sortI l):=
 ⟨h1,h,Ht a,λt b=>c t ((Aj l).mem_iff.mp b),by rw[(Aj l).length_eq];exact H⟩
theorem Am(h1:1<=m)(h:m<=8):m=1\/m=2\/m=3\/m=4\/m=5\/m=6\/m=7\/m=8:=by omega
theorem Hw:(ar lo n).Nodup:=by
 induction n generalizing lo with
 |zero=>exact Nz
 |succ n i=>refine Z3.mpr ⟨λh=>?_,i⟩;have:=iC h;omega
theorem cr{c:CE}{a b:List CS}{k:Bool}(h:ao Φ Γ c ρ S=.ok k S1):aC Φ Γ (.ite c a b) ρ S=if k=JK then af Φ Γ a ρ S1 else af Φ Γ b ρ S1:=by rw[aC,h];rfl
theorem ff{fr:List (Option Nat)}{tg:CT}{it:CE}{i:List CE}{body:CE}{a:aa}{its:ia}(h:aL Φ Γ it ρ S=.ok its S1)
  (H:cP (λx acc S2=>match bb tg x (fr.map λj=>j.bind λj=>(ρ[j]?).join)with
    |some ρ'=>(aI Φ Γ i ρ' S2).bind λk S3=>if k=JK then bn Φ Γ body ρ' acc S3 else .ok acc S3
    |none=>.fail) its [] S1=.ok ys a):aj Φ Γ (.comp JL N fr tg it i body) ρ S=.ok (.lst ys) a:=by
 rw[aj,h];exact Eq.trans (Z5 (λr=>Res.bind (Res.noErr r) (λys a=>if JL=JK then Res.ok (D.ref a.length) (a++[ys])else Res.ok (.lst ys) a)) H) rfl
section
variable {S3:aa}{d2 r x:D}{e a b:CE}
theorem An{i:Nat}(h:ρ[i]?=some (some d)):aj Φ Γ (.var i) ρ S=.ok d S:=by rw[aj,h]
theorem Ao{k:jc}(h:aj Φ Γ e ρ S=.ok d S1)(H:ba k [d] S1=.ok r S2):aj Φ Γ (.blt k [e]) ρ S=.ok r S2:=by simp[aj,ak,h,Res.bind,H,Res.noErr]
theorem tR(h1:aj Φ Γ a ρ S=.ok x S1)(h:aj Φ Γ b ρ S1=.ok y S2):aj Φ Γ (.tup [a,b]) ρ S=.ok (.tup [x,y]) S2:=by simp[aj,ak,h1,h,Res.bind]
theorem cW(h:aj Φ Γ e ρ S=.ok d S1):aC Φ Γ (.ret e) ρ S=.ok (.ret d) S1:=by rw[aC,h];rfl
end
section
variable {A B:List D}
theorem tU:(S++[A,B])[S.length]?=some A:=by rw[Kw (Zl _)];simp
theorem tV:(S++[A,B])[S.length+1]?=some B:=by simp_all
theorem Hy{X:List D}:(S++[A,B]).set S.length X=S++[X,B]:=by simp_all
theorem Ap{X:List D}:(S++[A,B]).set (S.length+1) X=S++[A,X]:=by simp_all
theorem Aq(h:Flat S)(H:a_ 0 A=JK)(a:a_ 0 B=JK):Flat (S++[A,B]):=by have:=(h.snoc H).snoc a;simp_all
end
theorem Ar{step:D->List D->aa->Res (List D)}{S:aa}{k:Nat}{xs:List D}(a:S[k]?=some xs)(b:∀x∈xs,∀acc,acc.length<bB->step x acc S=.ok (acc++[.bl JK]) S\/step x acc S=.ok (acc++[.bl JL]) S):
  ∀(f i:Nat) (acc:List D),xs.length<f+i->i<=xs.length->bh step (b0 k) f i acc S=bK step (xs.drop i) acc S\/bB<=acc.length+(xs.length-i)
 |0,i,acc,H,c=>absurd H (by omega)
 |f+1,i,acc,H,c=>by
  unfold bh;have g:b0 k S i=some xs[i]? :=by unfold b0;rw[a];rfl
  rw[g];by_cases h:i<xs.length
  ·rw[Zm h,J2 h];by_cases d:acc.length<bB
   ·dsimp only;unfold bK;rcases b xs[i] (Kt h) acc d with e|e<;>rw[e]<;>dsimp only[Res.bind]
    all_goals
     rcases Ar a b f (i+1) (acc++[_]) (by omega) (by omega)with z|z
     ·exact .inl z
     ·right;simp at z;omega
   ·right;omega
  ·rw[Kh (by omega),KU (by omega)];exact .inl rfl
end K70
namespace Pc
inductive bV (R:Int->Int->Prop):Int->Int->Prop
 |refl (a:Int):bV R a a
 |step {a b c:Int} (h:bV R a b) (r:R b c):bV R a c
theorem bV.trans{R:Int->Int->Prop}{a b c:Int}(h:bV R a b)(k:bV R b c):bV R a c:=by
 induction k with
 |refl=>exact h
 |step _ r i=>exact i.step r
theorem bV.symm{R:Int->Int->Prop}(hR:∀a b,R a b->R b a){a b:Int}(h:bV R a b):bV R b a:=by
 induction h with
 |refl=>exact .refl _
 |step _ r i=>exact(bV.step (.refl _) (hR _ _ r)).trans i
noncomputable def ck(ts:Lq)(so:Li)(a b:Int):Prop:=((a,b)∈ts\/(b,a)∈ts)/\a∉so/\b∉so
theorem ck.symm(a b:Int)(h:ck ts so a b):ck ts so b a:=⟨h.1.symm,h.2.2,h.2.1⟩
noncomputable def nm(ns:Li)(p:Int):Int:=ns.getD p.toNat 0
noncomputable def dC(so:Li)(ns:Li)(t:Int×Int):Li:=
 if t.1∉so/\t.2∉so then(ns.set t.1.toNat (min (nm ns t.1) (nm ns t.2))).set t.2.toNat (min (nm ns t.1) (nm ns t.2))else ns
noncomputable def pass(so:Li)(ts:Lq)(ns:Li):Li:=ts.foldl (dC so) ns
theorem nv{i p x:Int}(h:0<=i)(H:i<ns.length)(a:0<=p):nm (ns.set i.toNat x) p=if p=i then x else nm ns p:=by
 unfold nm
 grind
theorem nw{t:Int×Int}:(dC so ns t).length=ns.length:=by unfold dC;split<;>simp
theorem As:∀{ts:Lq},(pass so ts ns).length=ns.length:=by
 intro ts;unfold pass
 induction ts generalizing ns with
 |nil=>rfl
 |cons t ts i=>rw[LQ,i,nw]
theorem ny{t:Int×Int}(h1:0<=t.1)(a:t.1<ns.length)(b:0<=t.2)(c:t.2<ns.length){p:Int}(H:0<=p):
  nm (dC so ns t) p=if(t.1∉so/\t.2∉so)/\(p=t.1\/p=t.2)then min (nm ns t.1) (nm ns t.2)else nm ns p:=by
 unfold dC;by_cases h:t.1∉so/\t.2∉so
 ·rw[if_pos h,nv b (by simp_all) H,nv h1 a H]
  grind
 lia
def dD(m:Nat)(ts:Lq):Prop:=∀t∈ts,0<=t.1/\t.1<m/\0<=t.2/\t.2<m
theorem tW{m:Nat}{t:Int×Int}(a:ns.length=m)(h:0<=t.1/\t.1<m/\0<=t.2/\t.2<m){p:Int}(H:0<=p):nm (dC so ns t) p<=nm ns p:=by
 rw[ny h.1 (by omega) h.2.2.1 (by omega) H]
 grind
theorem j9{m:Nat}{so:Li}{p:Int}(a:0<=p):∀{ts:Lq} {ns:Li},dD m ts->ns.length=m->nm (pass so ts ns) p<=nm ns p
 | [],ns,_,_=>by unfold pass;simp
 |t::ts,ns,h,H=>by have c:=tW (so:=so) H (h t Ze) a;have d:=j9 (so:=so) a (ns:=dC so _ t) (λu b=>h u (Zc _ b)) (by rw[nw,H]);show nm (pass _ ts _) p<=_;omega
theorem tX{m:Nat}{so:Li}:∀{ts:Lq} {ns:Li},dD m ts->ns.length=m->∀t∈ts,t.1∉so->t.2∉so->nm (pass so ts ns) t.1<=nm ns t.2/\nm (pass so ts ns) t.2<=nm ns t.1
 | [],ns,_,_,t,h,_,_=>by cases h
 |u::ts,ns,g,i,t,h,d,f=>by
  have c:=g u Ze;have a:=λv k=>g v (Zc _ k);have b:(dC so ns u).length=m:=by rw[nw,i]
  have H:=g t h;show nm (pass _ ts _) _<=_/\nm (pass _ ts _) _<=_;rcases Zk.mp h with e|e
  ·subst e;have A:=j9 (so:=so) H.1 a b;have j:=j9 (so:=so) H.2.2.1 a b;rw[ny c.1 (by omega) c.2.2.1 (by omega) H.1,if_pos ⟨⟨d,f⟩,.inl rfl⟩]at A;rw[ny c.1 (by omega) c.2.2.1 (by omega) H.2.2.1,if_pos ⟨⟨d,f⟩,.inr rfl⟩]at j;omega
  ·obtain⟨B,l⟩:=tX a b t e d f;have C:=tW (so:=so) i c H.1;have n:=tW (so:=so) i c H.2.2.1;omega
theorem Hz{m:Nat}{TS:Lq}{t:Int×Int}(j:ns.length=m)(H:0<=t.1/\t.1<m/\0<=t.2/\t.2<m)(f:t∈TS)(h:∀p:Int,0<=p->p<m->bV (ck TS so) p (nm ns p)):∀p:Int,0<=p->p<m->bV (ck TS so) p (nm (dC so ns t) p):=by
 intro p P k;rw[ny H.1 (by omega) H.2.2.1 (by omega) P];split
 ·rename_i d;obtain⟨⟨b,c⟩,i⟩:=d;have a:ck _ _ _ _:=⟨.inl f,b,c⟩;have e:=h _ H.1 H.2.1;have E:=h _ H.2.2.1 H.2.2.2;have F:=(bV.step (.refl _) a).trans E;have g:=(bV.step (.refl _) a.symm).trans e
  grind
 simp_all
theorem Au{m:Nat}{TS:Lq}{so:Li}:∀{ts:Lq} {ns:Li},dD m ts->ns.length=m->(∀t∈ts,t∈TS)->(∀p:Int,0<=p->p<m->bV (ck TS so) p (nm ns p))->∀p:Int,0<=p->p<m->bV (ck TS so) p (nm (pass so ts ns) p)
 | [],ns,_,_,_,h=>h
 |t::ts,ns,a,b,c,h=>by show ∀p:Int,0<=p->p<m->bV _ p (nm (pass _ ts _) p);exact Au (λu H=>a u (Zc _ H)) (by rw[nw,b]) (λu H=>c u (Zc _ H)) (Hz b (a t Ze) (c t Ze) h)
noncomputable def bz(so:Li)(ts:Lq):Nat->Li->Li
 |0,ns=>ns
 |k+1,ns=>bz so ts k (pass so ts ns)
theorem tY:∀{k:Nat},bz so ts (k+1) ns=pass so ts (bz so ts k ns):=by
 intro k
 induction k generalizing ns with
 |zero=>rfl
 |succ k i=>exact i
theorem HA:∀{k:Nat},(bz so ts k ns).length=ns.length:=by
 intro k
 induction k generalizing ns with
 |zero=>rfl
 |succ k i=>show(bz _ _ k _).length=_;rw[i,As]
theorem HB{m:Nat}(a:dD m ts)(H:ns.length=m)(h:∀p:Int,0<=p->p<m->bV (ck ts so) p (nm ns p)):∀{k:Nat} (p:Int),0<=p->p<m->bV (ck ts so) p (nm (bz so ts k ns) p):=by
 intro k
 induction k generalizing ns with
 |zero=>exact h
 |succ k i=>exact i (by rw[As,H]) (Au a H (λt b=>b) h)
noncomputable def cnt(m:Nat)(f:Nat->Bool):Nat:=((JM m).filter f).length
theorem tZ{m:Nat}{f:Nat->Bool}:cnt m f<=m:=by exact ZD (Zw _ _) (by simp)
theorem Aw{a:Type}{f g:a->Bool}:∀(l:List a),(∀x∈l,f x=JK->g x=JK)->(l.filter f).length<=(l.filter g).length
 | [],_=>Zl _
 |x::l,h=>by
  have i:=Aw l λy H=>h y (Zc _ H)
  grind
theorem Ax{c:Type}{f g:c->Bool}:∀(l:List c),(∀x∈l,f x=JK->g x=JK)->(∃x∈l,f x=JL/\g x=JK)->(l.filter f).length<(l.filter g).length
 | [],_,h=>by simp_all
 |x::l,h,d=>by
  have I:=Aw l λy H=>h y (Zc _ H);obtain⟨y,H,a,b⟩:=d;rcases Zk.mp H with e|e
  ·subst e;simp[a,b];omega
  ·have i:=Ax l (λy H=>h y (Zc _ H)) ⟨y,e,a,b⟩
   grind
theorem HC{m:Nat}(j:dD m ts)(D:ns.length=m)(B:∀p:Int,0<=p->p<m->nm ns p=p){c:Int}(o:0<=c)(x:c<m)(M:∀q,bV (ck ts so) c q->c<=q):
  ∀p,bV (ck ts so) c p->nm (bz so ts m ns) p=c:=by
 have inR:∀{q:Int},bV (ck ts so) c q->0<=q/\q<m:=by
  intro q h;cases h with
  |refl=>exact⟨o,x⟩
  |step _ r=>
   rcases r.1 with r|r
   ·have:=j _ r;dsimp only at this;omega
   ·have:=j _ r;dsimp only at this;omega
 have g:∀{k:Nat} (p:Int),0<=p->p<m->bV (ck ts so) p (nm (bz so ts k ns) p):=HB j D λp Q R=>by rw[B p Q R];exact .refl _
 have l:∀{k:Nat} (p:Int),bV (ck ts so) c p->c<=nm (bz so ts k ns) p:=λp d=>M _ (d.trans (g p (inR d).1 (inR d).2));have H:∀{k:Nat},(bz so ts k ns).length=m:=by intro k;rw[HA,D]
 let A:Nat->Nat->Bool:=λk i=>decide (nm (bz so ts k ns) i=c)
 have n:∀k,nm (bz so ts k ns) c=c:=by
  intro k
  induction k with
  |zero=>exact B c o x
  |succ k F=>have:=j9 (so:=so) o j (H (k:=k));rw[<-tY]at this;have:=l (k:=k+1) c (.refl _);omega
 have b:∀(k:Nat) (p:Int),bV (ck ts so) c p->nm (bz so ts k ns) p=c->nm (bz so ts (k+1) ns) p=c:=by intro k p d e;have K:=j9 (so:=so) (inR d).1 j (H (k:=k));rw[<-tY]at K;have L:=l (k:=k+1) p d;omega
 have C:∀k,(∀p,bV (ck ts so) c p->nm (bz so ts k ns) p=c)\/k+1<=cnt m (A k):=by
  intro k
  induction k with
  |zero=>right;unfold cnt;refine Kq.mpr λz=>?_;have:c.toNat∈(JM m).filter (A 0):=Zo.mpr ⟨Z9.mpr (by omega),by show decide (nm (bz so ts 0 ns) (c.toNat:Int)=c)=JK;rw[MI o,n 0];simp⟩;rw[z]at this;cases this
  |succ k F=>
   by_cases w:∀p,bV (ck ts so) c p->nm (bz so ts k ns) p=c
   ·left;intro p d;exact b k p d (w p d)
   ·right
    have P:k+1<=cnt m (A k):=by
     rcases F with z|z
     ·exact absurd z w
     ·exact z
    have E:∃q r,bV (ck ts so) c q/\nm (bz so ts k ns) q=c/\ck ts so q r/\nm (bz so ts k ns) r≠c:=by
     refine ZX λu=>w λp d=>?_
     induction d with
     |refl=>exact n k
     |step v r I=>exact ZX λz=>u ⟨_,_,v,I,r,z⟩
    obtain⟨q,r,v,S,a,G⟩:=E;have s:bV (ck ts so) c r:=v.step a
    have J:nm (bz so ts (k+1) ns) r=c:=by
     have L:=l (k:=k+1) r s
     have T:nm (bz so ts (k+1) ns) r<=nm (bz so ts k ns) q:=by
      rw[tY];rcases a.1 with z|z
      ·exact(tX j (H (k:=k)) _ z a.2.1 a.2.2).2
      ·exact(tX j (H (k:=k)) _ z a.2.2 a.2.1).1
     omega
    have lt:cnt m (A k)<cnt m (A (k+1)):=by
     refine Ax _ (λi N e=>?_) ⟨r.toNat,Z9.mpr (by have:=inR s;omega),?_,?_⟩
     ·have y:nm (bz so ts k ns) (i:Int)=c:=by simpa[A]using e
      have O:=Z9.mp N;have t:bV (ck ts so) c i:=by have:=g (k:=k) (i:Int) (by omega) (by omega);rw[y]at this;exact this.symm ck.symm
      show decide (nm (bz so ts (k+1) ns) (i:Int)=c)=JK;rw[b k i t y];simp
     ·show decide (nm (bz so ts k ns) (r.toNat:Int)=c)=JL;rw[MI (inR s).1];simpa using G
     ·show decide (nm (bz so ts (k+1) ns) (r.toNat:Int)=c)=JK;rw[MI (inR s).1,J];simp
    omega
 rcases C m with z|z
 ·exact z
 ·have:=tZ (m:=m) (f:=A m);omega
noncomputable def fg(t:Int->Int->Bool)(left:Li):Nat->Li->Li->Li
 |0,r,_=>r
 |f+1,r,w=>match w.getLast? with
  |none=>r
  |some h=>fg t left f (r++left.filter λp=> !r.contains p&&t h p) (w.dropLast++left.filter λp=> !r.contains p&&t h p)
theorem HD{w:Li}{h p:Int}(e:w.getLast? =some h):p∈w↔p∈w.dropLast\/p=h:=by
 have hw:w≠[]:=λz=>by simp_all
 have E:w.getLast hw=h:=by grind
 rw[<-E]
 conv=>lhs;rw[<-List.dropLast_concat_getLast hw]
 simp
theorem Ay{R:Int->Int->Prop}{t:Int->Int->Bool}{left:Li}(l:left.Nodup)(hR:∀a b,a∈left->(R a b↔b∈left/\t a b=JK)){st:Int}:
  ∀(f:Nat) (r w:Li),r.Nodup->w.Nodup->(∀p∈r,p∈left/\bV R st p)->(∀p∈w,p∈r)->(∀p∈r,p∉w->∀q,R p q->q∈r)->st∈r->w.length+left.length<f+r.length->
  (fg t left f r w).Nodup/\∀p,p∈fg t left f r w↔bV R st p
 |0,r,w,n,_,c,_,_,_,u=>by have:r.length<=left.length:=n.length_le_of_subset λp H=>(c p H).1;omega
 |f+1,r,w,n,x,c,j,s,o,u=>by
  unfold fg;cases e:w.getLast? with
  |none=>
   have hw:w=[]:=NF.mp e;subst hw;refine⟨n,λp=>⟨λH=>(c p H).2,λH=>?_⟩⟩
   induction H with
   |refl=>exact o
   |step _ y I=>exact s _ I (by simp) _ y
  |some h=>
   have M:=λp=>HD (p:=p) e;have k:h∈r:=j h ((M h).mpr (.inr rfl));have i:=(c h k).1;have hw:w≠[]:=λz=>by rw[z]at e;cases e
   have v:0<w.length:=Kq.mpr hw
   let fr:=left.filter λp=> !r.contains p&&t h p
   have m:∀p,p∈fr↔p∈left/\p∉r/\t h p=JK:=λp=>by simp[fr]
   have N:fr.Nodup:=l.sublist ZI;refine Ay l hR f (r++fr) (w.dropLast++fr) ?_ ?_ ?_ ?_ ?_ ?_ ?_
   ·exact ZT.mpr ⟨n,N,λa d b g z=>by subst z;exact((m a).mp g).2.1 d⟩
   ·refine ZT.mpr ⟨x.sublist (LG _),N,λa d b g z=>?_⟩;subst z;exact((m a).mp g).2.1 (j a ((M a).mpr (.inl d)))
   ·intro p H;rcases ZE.mp H with z|z
    ·exact c p z
    ·obtain⟨Z,B,A⟩:=(m p).mp z;exact⟨Z,(c h k).2.step ((hR h p i).mpr ⟨Z,A⟩)⟩
   ·grind
   ·grind
   ·exact ZP _ o
   ·simp only[Zq,LM];omega
theorem nz{R:Int->Int->Prop}(H:left.Nodup)(hR:∀a b,a∈left->(R a b↔b∈left/\tie a b=JK)){st:Int}(c:st∈left){f:Nat}(d:left.length<f):
  (fg tie left f [st] [st]).Nodup/\∀p,p∈fg tie left f [st] [st]↔bV R st p:=
 Ay H hR f _ _ (by simp) (by simp) (λp h=>have e:p=st:=(by simp_all);⟨e▸c,e▸.refl _⟩) (λp h=>h) (λp h hw=>absurd h hw) (by simp) (by lia)
theorem gk:∀{l k:Li},l.Pairwise (· < ·)->k.Pairwise (· < ·)->(∀p,p∈l↔p∈k)->l=k
 | [],[],_,_,_=>rfl
 | [],y::k,_,_,h=>absurd ((h y).mpr Ze) (by simp)
 |x::l,[],_,_,h=>absurd ((h x).mp Ze) (by simp)
 |x::l,y::k,b,a,h=>by
  obtain⟨L,d⟩:=ZG.mp b;obtain⟨K,c⟩:=ZG.mp a
  have e:x=y:=by
   rcases Zk.mp ((h x).mp Ze)with z|z
   ·exact z
   ·rcases Zk.mp ((h y).mpr Ze)with w|w
    ·exact w.symm
    ·have:=K x z;have:=L y w;omega
  subst e;rw[gk d c λp=>⟨λH=>?_,λH=>?_⟩]
  ·rcases Zk.mp ((h p).mp (Zc _ H))with z|z
   ·have:=L p H;omega
   ·exact z
  ·rcases Zk.mp ((h p).mpr (Zc _ H))with z|z
   ·have:=K p H;omega
   ·exact z
open K70
theorem Az{P:Int->Prop}(d:∀p,P p->0<=p):∀(n:Nat) (p:Int),P p->p.toNat<=n->∃c,P c/\c<=p/\∀q,P q->c<=q
 |0,p,H,f=>⟨p,H,by omega,λq a=>by have:=d q a;omega⟩
 |n+1,p,H,f=>by
  by_cases h:∀q,P q->p<=q
  ·exact⟨p,H,by omega,h⟩
  ·obtain⟨q,a⟩:=Classical.not_forall.mp h;obtain⟨b,g⟩:=Classical.not_imp.mp a;obtain⟨c,C,i,e⟩:=Az d n q b (by omega);exact⟨c,C,by omega,e⟩
theorem dX:(ar lo n).Pairwise (· < ·):=by
 induction n generalizing lo with
 |zero=>exact .nil
 |succ n i=>unfold ar;exact ZG.mpr ⟨λx h=>by have:=iC h;omega,i⟩
theorem cb{x:Int}:x∈ar lo n↔lo<=x/\x<lo+n:=by
 refine⟨iC,λh=>?_⟩
 induction n generalizing lo with
 |zero=>omega
 |succ n i=>
  unfold ar
  grind
theorem HE{m:Nat}{p:Int}(h:0<=p)(h1:p<m):nm (ar 0 m) p=p:=by
 have k:∀(n:Nat) (lo:Int) (i:Nat),i<n->(ar lo n)[i]?=some (lo+i):=by
  intro n
  induction n with
  |zero=>simp_all
  |succ n I=>
   unfold ar
   grind
 unfold nm
 grind
section
variable {m:Nat}
noncomputable def fin(so:Li)(ts:Lq)(m:Nat):Li:=bz so ts m (ar 0 m)
theorem gS(H:dD m ts){p q:Int}(a:0<=p)(h1:p<m)(h:bV (ck ts so) p q):0<=q/\q<m:=by
 cases h with
 |refl=>simp_all
 |step _ r=>
  rcases r.1 with r|r
  ·have:=H _ r;simp_all
  ·have:=H _ r;simp_all
theorem j_{p q:Int}(H:p∉so)(h:bV (ck ts so) p q):q∉so:=by
 cases h with
 |refl=>exact H
 |step _ r=>exact r.2.2
theorem fN(h:dD m ts){p:Int}(a:0<=p)(h1:p<m):bV (ck ts so) p (nm (fin so ts m) p)/\∀q,bV (ck ts so) p q->nm (fin so ts m) p<=q:=by obtain⟨c,C,g,d⟩:=Az (λq H=>(gS h a h1 H).1) _ p (.refl _) (Zl _);have b:=gS h a h1 C;have e:nm (fin so _ m) p=c:=HC h cG (λq Q f=>HE Q f) b.1 b.2 (λq H=>d q (C.trans H)) p (C.symm ck.symm);rw[e];lia
theorem j'(H:dD m ts){p q:Int}(c:0<=p)(h1:p<m)(g:0<=q)(G:q<m):nm (fin so ts m) p=nm (fin so ts m) q↔bV (ck ts so) p q:=by
 obtain⟨a,A⟩:=fN H c h1;obtain⟨b,B⟩:=fN H g G;refine⟨λe=>?_,λh=>?_⟩
 ·rw[e]at a;exact a.trans (b.symm ck.symm)
 ·have:=A _ (h.trans b);have:=B _ ((h.symm ck.symm).trans a);omega
theorem t0(H:dD m ts){p:Int}(h:0<=p)(h1:p<m):nm (fin so ts m) (nm (fin so ts m) p)=nm (fin so ts m) p:=by obtain⟨a,A⟩:=fN H h h1;have b:=gS H h h1 a;exact((j' H h h1 b.1 b.2).mpr a).symm
theorem nA(H:dD m ts){p:Int}(h:0<=p)(h1:p<m):nm (fin so ts m) p<=p:=(fN H h h1).2 p (.refl _)
noncomputable def chain(so:Li)(ts:Lq)(m:Nat)(c:Int):Li:=(ar 0 m).filter λp=>decide (nm (fin so ts m) p=c)&& !so.contains p
theorem gm{c p:Int}:p∈chain so ts m c↔(0<=p/\p<m)/\nm (fin so ts m) p=c/\p∉so:=by unfold chain;rw[Zo,cb];simp
theorem HF(H:dD m ts){c:Int}(f:0<=c)(h1:c<m):chain so ts m c≠[]↔c∉so/\nm (fin so ts m) c=c:=by
 refine⟨λh=>?_,λ⟨g,i⟩ z=>?_⟩
 ·obtain⟨p,j⟩:=List.exists_mem_of_ne_nil _ h;obtain⟨⟨P,d⟩,e,k⟩:=gm.mp j;have a:=(fN (so:=so) H P d).1;have b:=t0 (so:=so) H P d;rw[e]at a b;exact⟨j_ k a,b⟩
 ·have:=gm.mpr ⟨⟨f,h1⟩,i,g⟩;simp_all
theorem AA{c:Int}:(chain so ts m c).Pairwise (· < ·):=dX.sublist ZI
theorem HG(a:dD m ts){c:Int}(H:0<=c)(h1:c<m)(i:c∉so)(d:nm (fin so ts m) c=c){l:Li}(f:l.Pairwise (· < ·))(g:∀p,p∈l↔bV (ck ts so) c p):l=chain so ts m c:=by
 refine gk f AA λp=>?_;rw[g,gm];refine⟨λh=>?_,λ⟨⟨P,j⟩,e,_⟩=>?_⟩
 ·have b:=gS a H h1 h;refine⟨b,?_,j_ i h⟩;rw[<-(j' a H h1 b.1 b.2).mpr h,d]
 ·refine(j' a H h1 P j).mp ?_;rw[e,d]
theorem HH(b:dD m ts){p:Int}(H:0<=p)(h1:p<m)(f:p∉so):(∃c,(0<=c/\c<p)/\p∈chain so ts m c)↔nm (fin so ts m) p≠p:=by
 refine⟨λ⟨c,_,d⟩=>?_,λh=>?_⟩
 ·obtain⟨_,e,_⟩:=gm.mp d;omega
 ·have:=nA (so:=so) b H h1;have a:=gS b H h1 (fN (so:=so) b H h1).1;exact⟨_,by omega,gm.mpr ⟨⟨H,h1⟩,rfl,f⟩⟩
end
end Pc
namespace K70
theorem AB(c:Flat S)(a b:Int):gN [.int a,.int b] S=.ok (ay (min a b,max a b)) S:=by
 refine be rfl ?_ rfl c rfl;have h:gB [.int a,.int b] S=.ok (.int (min a b)) S:=by simp[gB,i0];split<;>omega
 have H:h_ [.int a,.int b] S=.ok (.int (max a b)) S:=by simp[h_,i3];split<;>omega
 simp[zc,zb,af,aC,aj,ak,Res.bind,Res.noErr,ba,h,H,ay]
noncomputable def ap(ts:Lq)(a b:Int):Bool:=decide ((min a b,max a b)∈ts)
theorem t2(h:Flat S)(m:Int)(ts:Lq)(a b:Int):eL [ae m ts,.int a,.int b] S=.ok (.bl (ap ts a b)) S:=by refine be rfl ?_ rfl h rfl;have H:bg (ae m ts) (.int 1) S=.ok _ S:=rfl;simp[zd,af,aC,aj,ak,Res.bind,Res.noErr,FP,AB h a b,H,aF,K70.tG S (min a b,max a b) ts,aR,ap]
noncomputable def hG(m:Int)(ts:Lq)(p:Int):Li:=(K70.ar 0 m.toNat).filter λq=>ap ts p q
theorem HI(h:Flat S)(W:aH m ts){p:Int}(j:0<=p/\p<m):gO [ae m ts,.int p] S=.ok (.tup ((hG m ts p).map D.int)) S:=by
 refine be rfl ?_ rfl h (K70.dh _);have i:bg (ae m ts) (.int 0) S=.ok (.int m) S:=rfl;have w:=W.lo;have n:=W.hi;have k:(-4611686018427387904:Int)<=m/\m<4611686018427387904:=by omega
 have c:cq [ae m ts] S=.ok .non S:=K70.j8 h W;have d:jO [ae m ts,.int p] S=.ok .non S:=K70.Hq h j;simp[jQ,jP,af,aC,ao,aj,ak,aL,Res.bind,Res.noErr,bp,ba,cP,i,k,K70.iB,FQ,FR,c,d];rw[K70.gh (f:=D.int) (p:=λq=>ap ts p q) (e:=D.int)]
 ·simp[Res.noErr,lC,au,hG]
 ·intro q l a g;have H:a.length<16777216:=g;have b:=t2 h m ts p q;cases e:ap ts p q<;>rw[e]at b<;>simp[bb,cO,slots,eX,aE,cv,aI,ao,bn,aj,ak,Res.bind,Res.noErr,FU,b,bG,H]
 ·rw[K70.cG];unfold bB;omega
theorem HJ(h:Flat S)(f:so.length<=100)(h1:∀p∈so,0<=p/\p<m)(H:so.Pairwise (· < ·)):mX [ae m ts,.tup (so.map D.int)] S=.ok (.bl JK) S:=by
 refine be rfl ?_ rfl h rfl;have d:bg (ae m ts) (.int 0) S=.ok (.int m) S:=rfl;have A:eK [.int m,.tup (so.map D.int)] S=.ok (.bl JK) S:=K70.Ad h (by omega) h1
 have c:eI [.tup (so.map D.int)] S=.ok (.bl JK) S:=K70.tO h (by simp;omega) λi x y e E=>by
  rw[Km]at e E;cases f1:so[i]? with
  |none=>rw[f1]at e;cases e
  |some a=>
   cases f2:so[i+1]? with
   |none=>rw[f2]at E;cases E
   |some b=>rw[f1]at e;rw[f2]at E;cases e;cases E;obtain⟨g,rfl⟩:=Zp.mp f1;obtain⟨G,rfl⟩:=Zp.mp f2;show some (decide (so[i]<so[i+1]))=some JK;rw[Zr (Lb.mp H i (i+1) g G (by omega))]
 simp[yZ,yY,af,aC,aj,ak,Res.bind,Res.noErr,bp,FH,FI,d,A,c]
theorem AD(h:Flat S)(a:so.length<=100)(h1:∀p∈so,0<=p/\p<m)(H:so.Pairwise (· < ·)):fK [ae m ts,.tup (so.map D.int)] S=.ok .non S:=by refine tJ (ρ:=[some (ae m ts),some (.tup (so.map D.int))]) rfl ?_ rfl h;simp[y_,y9,af,aC,ao,aj,ak,Res.bind,FL,HJ h a h1 H,bG]
noncomputable def et(x:Int):Li->Li
 | []=>[x]
 |y::ys=>if x<y then x::y::ys else y::et x ys
noncomputable def eO(l:Li):Li:=l.foldl (λacc x=>et x acc) []
theorem AE(x:Int):∀l:Li,cR (bQ .int) (.int x) (l.map D.int)=(et x l).map D.int
 | []=>rfl
 |y::Y=>by
  have e:et x (y::Y)=if x<y then x::y::Y else y::et x _:=rfl;show(if decide _=JK then D.int x::D.int y::Y.map _ else D.int y::cR _ _ _)=_;rw[AE x _]
  grind
theorem AF:∀(l acc:Li),(l.map D.int).foldl (λacc x=>cR (bQ .int) x acc) (acc.map D.int)=(l.foldl (λacc x=>et x acc) acc).map D.int
 | [],acc=>rfl
 |x::l,acc=>by show(l.map _).foldl _ (cR _ _ _)=_;rw[AE,AF l];rfl
theorem nB(x:Int):∀l,(et x l).Perm (x::l)
 | []=>.refl _
 |y::Y=>by
  unfold et;split
  ·exact .refl _
  ·exact((nB x _).cons y).trans (.swap x y _)
theorem AG:∀(l acc:Li),(l.foldl (λacc x=>et x acc) acc).Perm (l++acc)
 | [],acc=>.refl _
 |x::l,acc=>(AG l _).trans (((nB x _).append_left l).trans K_)
theorem HK(l:Li):(eO l).Perm l:=by have:=AG l [];rw[Z4]at this;exact this
theorem AH(x:Int):∀l,l.Pairwise (· < ·)->x∉l->(et x l).Pairwise (· < ·)
 | [],_,_=>NQ _ _
 |y::Y,h,n=>by
  obtain⟨a,b⟩:=ZG.mp h;unfold et;by_cases e:x<y
  ·rw[if_pos e];refine ZG.mpr ⟨λz H=>?_,h⟩;rcases Zk.mp H with rfl|H
   ·exact e
   ·have:=a z H;omega
  ·rw[if_neg e];refine ZG.mpr ⟨λz H=>?_,AH x Y b λz=>n (Zc _ z)⟩;rcases Zk.mp ((nB x Y).mem_iff.mp H)with rfl|H
   ·have:z≠y:=λq=>n (by subst q;exact Ze);omega
   ·exact a z H
theorem AI:∀(l acc:Li),acc.Pairwise (· < ·)->(l++acc).Nodup->(l.foldl (λacc x=>et x acc) acc).Pairwise (· < ·)
 | [],acc,h,_=>h
 |x::l,acc,h,n=>by have N:=n;obtain⟨a,b⟩:=Z3.mp N;exact AI l _ (AH x _ h λz=>a (Zt _ z)) ((((nB x _).append_left l).trans K_).nodup_iff.mpr N)
theorem HL{l:Li}(h:l.Nodup):(eO l).Pairwise (· < ·):=AI l _ .nil (by simp_all)
theorem HM{l:Li}(h:au S d=some (l.map D.int))(a:l.length<64):gD JL .int [d] S=.ok (.lst ((eO l).map D.int)) S:=by
 have e:(l.map D.int).all (az .int)=JK:=by rw[Zv];intro x H;obtain⟨t,_,rfl⟩:=Zs.mp H;rfl
 unfold gD;simp only[h];rw[if_pos ⟨e,by simp;omega,rfl⟩,show eZ (bQ .int) (l.map D.int)=(eO l).map D.int from AF l []];rfl
theorem iD{l:Li}(h:au S d=some (l.map D.int))(q:Int):fm (.int q) d S=some (decide (q∈l)):=by
 unfold fm;simp only[h,ZA];have e:(λy=>cJ S aM y (.int q))∘D.int=λu=>some _:=rfl;rw[e,K70.nj]
 grind
noncomputable def nC:List CS:=[.asg 5 (.meth .pop (.var 4) []),.asg 6 (.comp JL ["place","reached","web","here"] [none,some 3,some 0,some 5] (.var 0) (.seq (.var 1)) [.band (.cmp .NotIn (.var 0) (.var 1)) (.call "have_tie" [.var 2,.var 3,.var 0])] (.emit (.var 0))),.expr (.meth .extend (.var 3) [.var 6]),.expr (.meth .extend (.var 4) [.var 6])]
theorem nD(q:Flat S){r w:Li}{h:Int}{st:D}(u:left.length<=100)(B:r.length<=1000)(v:w.length<=1000)(hw:w.getLast? =some h):
  af eM G0 nC [some (ae m ts),some (.lst (left.map D.int)),some st,some (.ref S.length),some (.ref (S.length+1)),x5,x6] (S++[r.map D.int,w.map D.int])=
   .ok (.next [some (ae m ts),some (.lst (left.map D.int)),some st,some (.ref S.length),some (.ref (S.length+1)),some (.int h),some (.lst ((left.filter λp=> !r.contains p&&ap ts h p).map D.int))])
    (S++[(r++left.filter λp=> !r.contains p&&ap ts h p).map D.int,(w.dropLast++left.filter λp=> !r.contains p&&ap ts h p).map D.int]):=by
 have a:wP (.ref (S.length+1)) [] (S++[r.map D.int,w.map D.int])=.ok (.int h) (S++[r.map D.int,w.dropLast.map D.int]):=by
  show i9 (.ref (S.length+1)) [] (S++[r.map D.int,w.map D.int])=_;unfold i9;simp only[tV];have e:(w.map D.int)[(w.map D.int).length-1]?=some (.int h):=by rw[Km,Zi];rw[List.getLast?_eq_getElem?]at hw;rw[hw];rfl
  rw[e];simp only[Ap,List.map_dropLast]
 unfold nC;rw[aQ (d:=.int h) (S':=S++[r.map D.int,w.dropLast.map D.int]) (by simp[aj,ak,Res.bind,Res.noErr,db,a])];simp only[Z0,ZZ];have o:Flat (S++[r.map D.int,w.dropLast.map D.int]):=Aq q (K70.dh _) (K70.dh _)
 have H:aj eM G0 (.comp JL ["place","reached","web","here"] [none,some 3,some 0,some 5] (.var 0) (.seq (.var 1)) [.band (.cmp .NotIn (.var 0) (.var 1)) (.call "have_tie" [.var 2,.var 3,.var 0])] (.emit (.var 0))) [some (ae m ts),some (.lst (left.map D.int)),some st,some (.ref S.length),some (.ref (S.length+1)),some (.int h),x6] (S++[r.map D.int,w.dropLast.map D.int])=
   .ok (.lst ((left.filter λp=> !r.contains p&&ap ts h p).map D.int)) (S++[r.map D.int,w.dropLast.map D.int]):=by
  refine ff (its:=.items (left.map D.int)) (S1:=S++[r.map D.int,w.dropLast.map D.int]) (by simp[aL,aj,Res.bind,eE]) ?_;refine gh (f:=D.int) (e:=D.int) (p:=λp=> !r.contains p&&ap ts h p) (λp z A s=>?_) (by unfold bB;omega);have g:A.length<16777216:=s;have b:=t2 o m ts h p
  have c:fm (.int p) (.ref S.length) (S++[r.map D.int,w.dropLast.map D.int])=some (r.contains p):=by rw[iD (l:=r) (by show(S++[r.map D.int,w.dropLast.map D.int])[S.length]?=_;exact tU)];simp
  generalize S++[r.map D.int,w.dropLast.map D.int]=T at b c;cases E:r.contains p<;>cases n:ap ts h p<;>rw[E]at c<;>rw[n]at b<;>simp[bb,cO,slots,eX,aE,cv,aI,ao,bn,aj,ak,Res.bind,Res.noErr,bp,aF,c,aR,FV,b,bG,g]
 rw[aQ H];simp only[Z0,ZZ];generalize i:(left.filter λp=> !r.contains p&&ap ts h p)=fr;have t:fr.length<=100:=by rw[<-i];exact ZD (Zw _ _) u
 have x:fC (.ref S.length) [.lst (fr.map D.int)] (S++[r.map D.int,w.dropLast.map D.int])=.ok .non (S++[(r++fr).map D.int,w.dropLast.map D.int]):=by unfold fC;simp only[tU,Py.dP,Zi];rw[if_pos (by unfold bB;omega),Hy,Ko]
 have X:fC (.ref (S.length+1)) [.lst (fr.map D.int)] (S++[(r++fr).map D.int,w.dropLast.map D.int])=.ok .non (S++[(r++fr).map D.int,(w.dropLast++fr).map D.int]):=by unfold fC;simp only[tV,Py.dP,Zi,LM];rw[if_pos (by unfold bB;omega),Ap,<-Ko]
 rw[aV (ρ':=[some (ae m ts),some (.lst (left.map D.int)),some st,some (.ref S.length),some (.ref (S.length+1)),some (.int h),some (.lst (fr.map D.int))]) (S':=S++[(r++fr).map D.int,w.dropLast.map D.int]) (by simp only[aC,aj,ak,Res.bind,Res.noErr,db,Zg,Zf,x])];rw[aV (ρ':=[some (ae m ts),some (.lst (left.map D.int)),some st,some (.ref S.length),some (.ref (S.length+1)),some (.int h),some (.lst (fr.map D.int))]) (S':=S++[(r++fr).map D.int,(w.dropLast++fr).map D.int]) (by simp only[aC,aj,ak,Res.bind,Res.noErr,db,Zg,Zf,X])];rw[af]
theorem AJ{S:aa}(i:Flat S){m:Int}{ts:Lq}{left:Li}{st:D}(j:left.length<=100)(k:left.Nodup):∀(f:Nat) (r w:Li) (x5 x6:Option D),r.Nodup->(∀p∈r,p∈left)->w.Nodup->(∀p∈w,p∈r)->w.length+left.length<f+r.length->
  ∃y Y,bC (ao eM G0 (.var 4)) (af eM G0 nC) f [some (ae m ts),some (.lst (left.map D.int)),some st,some (.ref S.length),some (.ref (S.length+1)),x5,x6] (S++[r.map D.int,w.map D.int])=
   .ok (.next [some (ae m ts),some (.lst (left.map D.int)),some st,some (.ref S.length),some (.ref (S.length+1)),y,Y]) (S++[(Pc.fg (ap ts) left f r w).map D.int,[]])
 |0,r,w,x5,x6,n,s,_,_,v=>by have:r.length<=left.length:=n.length_le_of_subset s;omega
 |f+1,r,w,x5,x6,n,s,N,g,v=>by
  have A:r.length<=left.length:=n.length_le_of_subset s;have B:w.length<=r.length:=N.length_le_of_subset g
  have t:ao eM G0 (.var 4) [some (ae m ts),some (.lst (left.map D.int)),some st,some (.ref S.length),some (.ref (S.length+1)),x5,x6] (S++[r.map D.int,w.map D.int])=.ok (!w.isEmpty) (S++[r.map D.int,w.map D.int]):=by
   have e:bG (S++[r.map D.int,w.map D.int]) (.ref (S.length+1))=some (!w.isEmpty):=by show((S++[r.map D.int,w.map D.int])[S.length+1]?).map (λX=> !X.isEmpty)=_;rw[tV];cases w<;>rfl
   simp only[ao,Zg,Zf,e]
  unfold bC;rw[t];cases e:w.getLast? with
  |none=>have hw:w=[]:=NF.mp e;subst hw;refine⟨x5,x6,?_⟩;unfold Pc.fg;rfl
  |some h=>
   have hw:w≠[]:=λz=>by rw[z]at e;cases e
   have u:(!w.isEmpty)=JK:=by cases w with
    |nil=>exact absurd rfl hw
    |cons a b=>rfl
   have x:=nD (m:=m) (ts:=ts) (x5:=x5) (x6:=x6) (st:=st) (left:=left) (r:=r) (w:=w) i j (by omega) (by omega) e;have M:∀p,p∈(left.filter λp=> !r.contains p&&ap ts h p)↔p∈left/\p∉r/\ap ts h p=JK:=λp=>by simp
   have o:(left.filter λp=> !r.contains p&&ap ts h p).Nodup:=k.sublist ZI;have l:0<w.length:=Kq.mpr hw
   obtain⟨y,Y,E⟩:=AJ (m:=m) (ts:=ts) (st:=st) i j k f (r++left.filter λp=> !r.contains p&&ap ts h p) (w.dropLast++left.filter λp=> !r.contains p&&ap ts h p) (some (.int h)) (some (.lst ((left.filter λp=> !r.contains p&&ap ts h p).map D.int)))
    (ZT.mpr ⟨n,o,λa H b c z=>by subst z;exact((M a).mp c).2.1 H⟩)
    (λp d=>by
     rcases ZE.mp d with z|z
     ·exact s p z
     ·exact((M p).mp z).1)
    (ZT.mpr ⟨N.sublist (LG _),o,λa H b c z=>by subst z;exact((M a).mp c).2.1 (g a ((LG _).subset H))⟩)
    (λp d=>by
     rcases ZE.mp d with z|z
     ·exact ZP _ (g p ((LG _).subset z))
     ·exact Zt _ z)
    (by simp only[Zq,LM];omega)
   refine⟨y,Y,?_⟩;rw[u];show(Res.bind (af eM G0 nC [some (ae m ts),some (.lst (left.map D.int)),some st,some (.ref S.length),some (.ref (S.length+1)),x5,x6] (S++[r.map D.int,w.map D.int])) _)=_;rw[x]
   have q:Pc.fg (ap ts) left (f+1) r w=Pc.fg (ap ts) left f (r++left.filter λp=> !r.contains p&&ap ts h p) (w.dropLast++left.filter λp=> !r.contains p&&ap ts h p):=by
    show(match w.getLast? with
     |none=>r
     |some h=>Pc.fg (ap ts) left f (r++left.filter λp=> !r.contains p&&ap ts h p) (w.dropLast++left.filter λp=> !r.contains p&&ap ts h p))=_
    rw[e]
   rw[q];exact E
theorem HN(H:Flat S){p:Int}(n:left.length<=60)(g:left.Nodup)(i:p∈left)(c:(Pc.fg (ap ts) left 100 [p] [p]).length<64):jS [ae m ts,.lst (left.map D.int),.int p] S=.ok (.tup ((eO (Pc.fg (ap ts) left 100 [p] [p])).map D.int)) S:=by
 obtain⟨y,Y,e⟩:=AJ (m:=m) (ts:=ts) (st:=.int p) H (show left.length<=100 by omega) g 100 [p] [p] none none (by simp) (λq h=>(show q=p by simpa using h)▸i) (by simp) (λq h=>h) (by simp;omega)
 have f:af eM G0 jR [some (ae m ts),some (.lst (left.map D.int)),some (.int p),none,none,none,none] S=.ok (.ret (.tup ((eO (Pc.fg (ap ts) left 100 [p] [p])).map D.int))) (S++[(Pc.fg (ap ts) left 100 [p] [p]).map D.int,[]]):=by
  unfold jR;rw[aQ (d:=.ref S.length) (S':=S++[[.int p]]) (by simp[aj,ak,Res.bind])];rw[aQ (d:=.ref (S.length+1)) (S':=S++[[.int p],[.int p]]) (by simp[aj,ak,Res.bind])];simp only[Z0,ZZ];refine(aV (ρ':=[some (ae m ts),some (.lst (left.map D.int)),some (.int p),some (.ref S.length),some (.ref (S.length+1)),y,Y]) (S':=S++[(Pc.fg (ap ts) left 100 [p] [p]).map D.int,[]]) ?_).trans ?_
  ·rw[aC];exact e
  ·refine bJ (cW (Ao (Ao (An rfl) (HM (l:=Pc.fg (ap ts) left 100 [p] [p]) ?_ c)) rfl));exact tU
 show av eM G0 jR sT.length 3 [ae m ts,.lst (left.map D.int),.int p] S=_;unfold av;rw[if_pos (show [ae m ts,D.lst (left.map D.int),D.int p].length=3 from rfl)];rw[show af eM G0 jR ([ae m ts,D.lst (left.map D.int),D.int p].map some++JQ (sT.length-3) none) S=_ from f];have b:(S++[(Pc.fg (ap ts) left 100 [p] [p]).map D.int,[]]).take S.length=S:=by simp
 have:=K70.iA (k:=S.length) (d:=.tup ((eO (Pc.fg (ap ts) left 100 [p] [p])).map D.int)) (S':=S++[(Pc.fg (ap ts) left 100 [p] [p]).map D.int,[]]) (by rw[b];exact H) (K70.dh _);rw[b]at this;exact this
open Pc
theorem HP{f:α->D}{g:α->Bool}{step:D->List D->aa->Res (List D)}{cs:List α}(a:S[k]?=some (cs.map f))(e:cs.length<=1000)(b:∀c∈cs,∀acc,acc.length<bB->step (f c) acc S=.ok (acc++[.bl (g c)]) S):
  bh step (b0 k) ((cs.map f).length+1) 0 [] S=.ok (cs.map λc=>D.bl (g c)) S:=by
 rcases K70.Ar a (step:=step) (λx h acc H=>by obtain⟨c,d,rfl⟩:=Zs.mp h;simp_all) ((cs.map f).length+1) 0 _ (by omega) (by omega)with z|z
 ·refine Eq.trans z ?_;refine Eq.trans (gh (p:=λ_=>JK) (λx h acc H=>Eq.trans (b x h _ H) rfl) (by lia)) ?_;rw[Ld.mpr λ_ _=>rfl]
 ·unfold bB at z;simp at z;omega
theorem nE{cs:List α}{g:α->Bool}:i6 [.lst (cs.map λo=>D.bl (g o))] S=.ok (.bl (cs.any g)) S:=by unfold i6;simp only[au];rw[ZA];rw[show eW (cs.map (ez∘λo=>D.bl _))=some _ from K70.nj];rfl
noncomputable def aq(so:Li)(m:Nat):Li:=(ar 0 m).filter λp=> !so.contains p
noncomputable def own(so:Li)(ts:Lq)(m:Nat)(c:Int):Bool:=decide (nm (fin so ts m) c=c)
noncomputable def iJ(so:Li)(ts:Lq)(m:Nat)(c:Int):D:=.tup ((chain so ts m c).map D.int)
noncomputable def bW(so:Li)(ts:Lq)(m:Nat)(l:Li):List D:=(l.filter (own so ts m)).map (iJ so ts m)
theorem nF(so:Li)(ts:Lq)(m:Nat)(l:Li):a_ 0 (bW so ts m l)=JK:=by
 unfold bW
 induction l.filter _ with
 |nil=>rfl
 |cons c C i=>show(bE 0 _&&a_ 0 _)=JK;rw[i,Bool.and_true];exact K70.dh _
theorem fh(W:aH m ts):dD m.toNat ts:=λt h=>by have:=W.tie t h;lia
theorem ka{m:Nat}{p:Int}:p∈aq so m↔(0<=p/\p<m)/\p∉so:=by unfold aq;rw[Zo,cb];simp
theorem nG(W:aH m ts)(a b:Int)(H:a∈aq so m.toNat):ck ts so a b↔b∈aq so m.toNat/\ap ts a b=JK:=by
 unfold ck ap;rw[ka]at H⊢;refine⟨λ⟨h,_,_⟩=>?_,λ⟨⟨_,c⟩,h⟩=>⟨?_,H.2,c⟩⟩
 ·rcases h with h|h
  ·have t:=W.tie _ h
   grind
  ·have t:=W.tie _ h
   grind
 grind
theorem HQ(W:aH m ts){p:Int}(c:p∈aq so m.toNat)(l:own so ts m.toNat p=JK)(i:Flat S):jS [ae m ts,.lst ((aq so m.toNat).map D.int),.int p] S=.ok (iJ so ts m.toNat p) S:=by
 have g:(aq so m.toNat).Nodup:=K70.Hw.sublist ZI;have k:(aq so m.toNat).length<=8:=by have:=Zw (λp=> !so.contains p) (ar 0 m.toNat);rw[K70.cG]at this;have:=W.hi;unfold aq;omega
 obtain⟨B,d⟩:=nz g (λa b j=>nG W a b j) c (f:=100) (by omega);have h:=ka.mp c
 have H:(fg _ _ _ _ _).length<=(ar 0 m.toNat).length:=B.length_le_of_subset λq n=>by rw[cb];have:=gS (fh W) h.1.1 h.1.2 ((d q).mp n);omega
 rw[K70.cG]at H;have o:=W.hi;rw[HN i (by omega) g c (by omega)];have e:=HG (fh W) h.1.1 h.1.2 h.2 (by simpa[own]using l) (HL B) λq=>by rw[(HK _).mem_iff];exact d q
 rw[e];rfl
theorem eP{A:List D}:(S++[A])[S.length]?=some A:=by grind
theorem nH{A B:List D}:(S++[A]).set S.length B=S++[B]:=by simp_all
theorem AK{A:List D}(b:ds.length=np)(h:af Φ Γ body (ds.map some++JQ (n-np) none) S=.ok (.ret (.ref S.length)) (S++[A]))(a:Flat S)(H:a_ 0 A=JK):av Φ Γ body n np ds S=.ok (.ref S.length) (S++[A]):=by unfold av;rw[if_pos b,h];show dB _ _ _=_;unfold dB;rw[Mk rfl,if_pos a.all,if_neg (by unfold bE;simp)];simp only[eP];rw[if_pos ⟨K70.iz A H,Zl _⟩]
noncomputable def hI:CE:=.comp JL ["piece","place"] [none,some 4] (.var 0) (.seq (.var 3)) [] (.emit (.cmp .In (.var 1) (.var 0)))
noncomputable def t3:List CS:=[.ite (.bnot (.blt .any [hI])) [.expr (.meth .append (.var 3) [.call "piece_of" [.var 0,.var 2,.var 4]])] []]
theorem t5{m:Int}{l:Li}{d0 d1 d2:D}{p:Int}(g:l.length<=100):aj e9 G0 hI [some d0,some d1,some d2,some (.ref S.length),some (.int p)] (S++[bW so ts k l])=
  .ok (.lst ((l.filter (own so ts k)).map λc=>D.bl (decide (p∈chain so ts k c)))) (S++[bW so ts k l]):=by
 refine ff (its:=.live ((bW so ts k l).length+1) (b0 S.length)) (S1:=S++[bW so ts k l]) ?_ ?_
 ·simp only[aL,aj,Res.bind,Zg,Zf,eE,eP];rfl
 ·have e:=Zw (own so ts k) l;simp[cP];unfold bW;refine HP eP (by omega) λc f a b=>?_;generalize S++[(l.filter _).map _]=T;have h:=b;have H:fm _ (iJ so ts k c) T=some _:=iD rfl p;simp[bb,cO,slots,aE,aI,bn,aj,Res.bind,Res.noErr,aF,H,aR,h]
theorem AL{S:aa}(B:Flat S){m:Int}{ts:Lq}(W:aH m ts){so:Li}{d1:D}:∀(rest d:Li),aq so m.toNat=d++rest->∀x4:Option D,∃y,
  cC (λx ρ S=>match aE (.var 4) x ρ with
   |some ρ'=>af e9 G0 t3 ρ' S
   |none=>.fail) (rest.map D.int) [some (ae m ts),some d1,some (.lst ((aq so m.toNat).map D.int)),some (.ref S.length),x4] (S++[bW so ts m.toNat d])=
  .ok (.next [some (ae m ts),some d1,some (.lst ((aq so m.toNat).map D.int)),some (.ref S.length),y]) (S++[bW so ts m.toNat (d++rest)])
 | [],d,_,x4=>⟨x4,by rw[Z4];rfl⟩
 |p::rest,d,b,x4=>by
  have h:(aq so m.toNat).Pairwise (· < ·):=dX.sublist ZI;have j:p∈aq so m.toNat:=by rw[b];simp
  obtain⟨⟨P,N⟩,O⟩:=ka.mp j;have F:=fh W
  have G:(aq so m.toNat).length<=8:=by have:=Zw (λp=> !so.contains p) (ar 0 m.toNat);rw[K70.cG]at this;have:=W.hi;unfold aq;omega
  have t:d.length<=100:=by have:=Z5 K5 b;simp at this;omega
  have g:((d.filter (own so ts m.toNat)).any λc=>decide (p∈chain so ts m.toNat c))= !own so ts m.toNat p:=by
   rw[Lh];rw[Z7];have K:=HH (so:=so) F P N O;have J:(!own so ts m.toNat p)=JK↔nm (fin so ts m.toNat) p≠p:=by simp[own]
   rw[J,<-K];refine⟨λ⟨c,r,n⟩=>?_,λ⟨c,⟨C,Q⟩,n⟩=>?_⟩
   ·obtain⟨i,M⟩:=Zo.mp r;have H:c∈aq so m.toNat:=by rw[b];exact ZP _ i
    refine⟨c,⟨(ka.mp H).1.1,?_⟩,by simpa using n⟩;rw[b]at h;exact(Of.mp h).2.2 c i p Ze
   ·have u:chain so ts m.toNat c≠[]:=λz=>by rw[z]at n;cases n
    obtain⟨I,cn⟩:=(HF F C (by omega)).mp u;have H:c∈aq so m.toNat:=ka.mpr ⟨⟨C,by omega⟩,I⟩;rw[b]at H h
    have s:c∈d:=by
     rcases ZE.mp H with z|z
     ·exact z
     ·rcases Zk.mp z with z|z
      ·omega
      ·have:=(ZG.mp (Of.mp h).2.1).1 c z;omega
    exact⟨c,Zo.mpr ⟨s,by simp[own,cn]⟩,by simpa using n⟩
  have L:Flat (S++[bW so ts m.toNat d]):=B.snoc (nF _ _ _ _);have o:=t5 (S:=S) (m:=m) (ts:=ts) (so:=so) (l:=d) (k:=m.toNat) (d0:=ae m ts) (d1:=d1) (d2:=.lst ((aq so m.toNat).map D.int)) (p:=p) t
  have r:ao e9 G0 (.bnot (.blt .any [hI])) [some (ae m ts),some d1,some (.lst ((aq so m.toNat).map D.int)),some (.ref S.length),some (.int p)] (S++[bW so ts m.toNat d])=.ok (own so ts m.toNat p) (S++[bW so ts m.toNat d]):=by
   have f:ba .any [.lst ((d.filter (own so ts m.toNat)).map λc=>D.bl (decide (p∈chain so ts m.toNat c)))] (S++[bW so ts m.toNat d])=.ok (.bl (!own so ts m.toNat p)) (S++[bW so ts m.toNat d]):=by rw[<-g];exact nE
   revert o;generalize hI=E;intro o;simp[ao,ak,o,Res.bind,Res.noErr,f,bG]
  have a:af e9 G0 t3 [some (ae m ts),some d1,some (.lst ((aq so m.toNat).map D.int)),some (.ref S.length),some (.int p)] (S++[bW so ts m.toNat d])=.ok (.next [some (ae m ts),some d1,some (.lst ((aq so m.toNat).map D.int)),some (.ref S.length),some (.int p)]) (S++[bW so ts m.toNat (d++[p])]):=by
   unfold t3;refine(aV ?_).trans rfl;rw[cr r];cases v:own so ts m.toNat p with
   |true=>
    rw[if_pos rfl];have w:=HQ W j v L
    have q:fV (.ref S.length) [iJ so ts m.toNat p] (S++[bW so ts m.toNat d])=.ok .non (S++[bW so ts m.toNat (d++[p])]):=by have U:=Zw (own so ts m.toNat) d;unfold fV;simp only[eP];rw[if_pos (by unfold bB bW;simp;omega),nH];unfold bW;simp[MM,v]
    simp[af,aC,aj,ak,Res.bind,Res.noErr,db,FY,w,q]
   |false=>
    rw[if_neg Bool.false_ne_true];have e:bW so ts m.toNat (d++[p])=bW so ts m.toNat d:=by unfold bW;simp[MM,v]
    rw[e,af]
  obtain⟨y,A⟩:=AL B W (d1:=d1) rest (d++[p]) (by rw[b];simp) (some (.int p));refine⟨y,?_⟩;simp only[Kj];unfold cC;simp only[aE,cv,Z0,ZZ];rw[a];rw[Kn]at A;exact A
theorem HR(H:Flat S)(W:aH m ts)(o:so.length<=100)(h1:∀p∈so,0<=p/\p<m)(k:so.Pairwise (· < ·)):
  mZ [ae m ts,.tup (so.map D.int)] S=.ok (.ref S.length) (S++[bW so ts m.toNat (aq so m.toNat)]):=by
 refine AK rfl ?_ H (nF _ _ _ _);have i:cq [ae m ts] S=.ok .non S:=K70.j8 H W;have j:=AD (ts:=ts) H o h1 k;have w:=W.lo;have t:=W.hi;unfold zg;refine(aV (ρ':=[some (ae m ts),some (.tup (so.map D.int)),none,none,none]) (S':=S) (by simp[zf,aC,aj,ak,Res.bind,FW,i])).trans ?_;refine(aV (ρ':=[some (ae m ts),some (.tup (so.map D.int)),none,none,none]) (S':=S) (by simp[aC,aj,ak,Res.bind,FX,j])).trans ?_;have n:bg (ae m ts) (.int 0) S=.ok (.int m) S:=rfl
 have q:aL e9 G0 (.range [.idx (.var 0) (.lit (.int 0))]) [some (ae m ts),some (.tup (so.map D.int)),none,none,none] S=.ok (.items ((ar 0 m.toNat).map D.int)) S:=by simp[aL,ak,aj,Res.bind,Res.noErr,n,K70.iB];omega
 have h:aj e9 G0 (.comp JL ["place","some"] [none,some 1] (.var 0) (.range [.idx (.var 0) (.lit (.int 0))]) [.cmp .NotIn (.var 0) (.var 1)] (.emit (.var 0))) [some (ae m ts),some (.tup (so.map D.int)),none,none,none] S=.ok (.lst ((aq so m.toNat).map D.int)) S:=by refine ff q ?_;refine gh (f:=D.int) (e:=D.int) (p:=λp=> !so.contains p) (λp s A l=>?_) (by rw[K70.cG];unfold bB;omega);have c:A.length<16777216:=l;have g:fm (.int p) (.tup (so.map D.int)) S=some (decide (p∈so)):=iD rfl p;by_cases e:p∈so<;>simp[bb,cO,slots,eX,aE,cv,aI,ao,bn,aj,Res.bind,Res.noErr,bp,aF,g,aR,e,c]
 rw[aQ h];rw[aQ (d:=.ref S.length) (S':=S++[[]]) (by simp[aj,ak,Res.bind])];simp only[Z0,ZZ];obtain⟨y,e⟩:=AL H W (so:=so) (d1:=.tup (so.map D.int)) (aq so m.toNat) [] rfl none;refine(aV (ρ':=[some (ae m ts),some (.tup (so.map D.int)),some (.lst ((aq so m.toNat).map D.int)),some (.ref S.length),y]) (S':=S++[bW so ts m.toNat (aq so m.toNat)]) ?_).trans rfl;exact e
theorem HS(H:au S d=some (ns.map D.int)){p:Int}(h:0<=p)(h1:p<ns.length):bg d (.int p) S=.ok (.int (nm ns p)) S:=by
 unfold bg;have e:eD (ns.map D.int) p=some (.int (nm ns p)):=by unfold eD fk nm;rw[Zi,if_pos h,if_pos h1];simp only[Option.bind_some];rw[Km,K6,Zm (show p.toNat<ns.length by omega)];rfl
 simp only[H,e]
theorem HU{p x:Int}(h:0<=p)(h1:p<ns.length):h7 (.ref S.length) (.int p) (.int x) (S++[ns.map D.int])=some (S++[(ns.set p.toNat x).map D.int]):=by
 unfold h7;simp only[eP];have:fk (ns.map D.int).length p=some p.toNat:=by unfold fk;rw[Zi,if_pos h,if_pos h1]
 rw[this];simp only[nH,List.map_set]
theorem HV(H:Flat S)(W:aH m ts):gc [ae m ts] S=.ok (.ref S.length) (S++[bW [] ts m.toNat (aq [] m.toNat)]):=by refine AK rfl ?_ H (nF _ _ _ _);have h:=HR H W (so:=[]) (by simp) (λp a=>by cases a) .nil;simp at h;simp[zk,zh,af,aC,aj,ak,Res.bind,FZ,h]
theorem nI{step:D->bt->aa->Res Fl}(J:bt->aa->Prop):∀(xs:List D),(∀x∈xs,∀ρ S,J ρ S->∃ρ' S',J ρ' S'/\step x ρ S=.ok (.next ρ') S')->∀ρ S,J ρ S->∃ρ' S',J ρ' S'/\cC step xs ρ S=.ok (.next ρ') S'
 | [],_,ρ,S,j=>⟨ρ,S,j,rfl⟩
 |x::xs,h,ρ,S,j=>by obtain⟨a,c,f,e⟩:=h x Ze ρ S j;obtain⟨b,d,g,E⟩:=nI J xs (λy H=>h y (Zc _ H)) a c f;refine⟨b,d,g,?_⟩;unfold cC;rw[e];exact E
theorem HW{A:List D}(h:A.length<bB):fV (.ref T.length) [d] (T++[A])=.ok .non (T++[A++[d]]):=by unfold fV;simp only[eP];rw[if_pos h,nH]
end K70
namespace K70
theorem t6:∀{l:List D},a_ 0 l=JK↔∀x∈l,bE 0 x=JK
 | []=>by simp[a_]
 |x::l=>by unfold a_;rw[ZR,t6];simp
section
variable {T A:List (List D)}{a u b:Int}{ts c:List Ti}
end
theorem nJ{step:D->bt->aa->Res Fl}(a:T[k]?=some xs)(J:Nat->bt->aa->Prop)(c:∀i ρ S,J i ρ S->∃A,S=T++[A])(d:∀i x,xs[i]?=some x->∀ρ S,J i ρ S->∃ρ' S',J (i+1) ρ' S'/\step x ρ S=.ok (.next ρ') S'):
  ∀n i ρ S,i+n=xs.length->J i ρ S->cU step (b0 k) (n+1) i ρ S=cC step (xs.drop i) ρ S:=by
 have H:∀i ρ S,J i ρ S->b0 k S i=some xs[i]? :=λi ρ S j=>by obtain⟨A,rfl⟩:=c i _ S j;unfold b0;rw[ZL (Zp.mp a).1,a];rfl
 intro n
 induction n with
 |zero=>intro i ρ S h j;unfold cU;rw[H i _ S j,Kh (by omega),KU (by omega)];rfl
 |succ n I=>intro i ρ S h j;have b:xs[i]?=some xs[i]:=Zm _;unfold cU;rw[H i _ S j,b,J2 (by omega)];obtain⟨ρ',S',f,e⟩:=d i _ b _ S j;unfold cC;dsimp;rw[e];exact I _ _ _ (by omega) f
theorem HX{step:D->List D->aa->Res (List D)}(a:S[k]?=some xs){e:D->D}(b:∀x∈xs,∀acc,acc.length<bB->step x acc S=.ok (acc++[e x]) S):∀n i acc,i+n=xs.length->acc.length+n<=bB->bh step (b0 k) (n+1) i acc S=.ok (acc++(xs.drop i).map e) S:=by
 have H:∀i,b0 k S i=some xs[i]? :=λi=>by unfold b0;rw[a];rfl
 intro n
 induction n with
 |zero=>intro i acc h _;unfold bh;rw[H,Kh (by omega),KU (by omega)];simp
 |succ n I=>intro i acc h d;have c:xs[i]?=some xs[i]:=Zm (by omega);unfold bh;rw[H,c,J2 (by omega)];dsimp only;rw[b _ (Kt _) acc (by omega)];refine(I (i+1) (acc++[e xs[i]]) (by omega) (by simp;omega)).trans ?_;rw[Kn,Kj];rfl
section
variable {u a r:Int}{ts:List Ti}
end
section
variable {u:Int}{ts:List Ti}
end
theorem HY{f e:α->D}{p:α->Bool}{step:D->List D->aa->Res (List D)}{xs:List α}(a:S[k]?=some (xs.map f))(b:∀x∈xs,∀acc,acc.length<bB->step (f x) acc S=.ok (if p x=JK then acc++[e x]else acc) S):∀n i acc,i+n=xs.length->acc.length+n<=bB->bh step (b0 k) (n+1) i acc S=.ok (acc++((xs.drop i).filter p).map e) S:=by
 have H:∀i,b0 k S i=some (xs.map f)[i]? :=λi=>by unfold b0;rw[a];rfl
 intro n
 induction n with
 |zero=>unfold bh;simp_all
 |succ n I=>
  intro i acc h d;have c:(xs.map f)[i]?=some (f xs[i]):=by grind
  unfold bh;rw[H,c,J2 (by omega)];dsimp;rw[b _ (Kt _) acc (by omega)];refine(I _ _ (by omega) (by grind)).trans ?_
  grind
section
variable {A B C:List D}{P:List (List Ti)}
end
abbrev tS(n:Nat):FT:=tbl [("_law_same",dg n)]
theorem uS(n:Nat):tS n "_law_same"=some (dg n):=rfl
theorem HZ(f:Flat S)(n:Nat)(i:Int):dg (n+1) [.int i,.int i] S=.ok (.bl JK) S:=by
 refine be rfl ?_ rfl f rfl;show af (tS n) G0 fL [some (.int i),some (.int i)] S=_;have h:de [.int i,.ty "tuple"] S=.ok (.bl JL) S:=rfl;have H:de [.int i,.ty "list"] S=.ok (.bl JL) S:=rfl;have a:de [.int i,.ty "bool"] S=.ok (.bl JL) S:=rfl;have b:de [.int i,.ty "int"] S=.ok (.bl JK) S:=rfl;have c:aF .Is (.int i) .non S=.ok (.bl JL) S:=rfl
 have d:aF .Eq (.int i) (.int i) S=.ok (.bl JK) S:=by have:aF .Eq (.int i) (.int i) S=.ok (.bl (i==i)) S:=rfl;rw[this];simp
 have e:aF .Eq (.bl JL) (.bl JL) S=.ok (.bl JK) S:=rfl;simp[fL,af,aC,ao,aj,ak,Res.bind,Res.noErr,bp,ba,bG,h,H,a,b,c,d,e]
noncomputable def Jr:CE:=.comp JL ["_law_one","_law_other"] [none,none] (.tup [.var 0,.var 1]) (.zip [.var 0,.var 1]) [] (.emit (.call "_law_same" [.var 0,.var 1]))
theorem AM(s:Flat S)(w:xs.length<=1000)(u:∀z∈xs,dg n [z,z] S=.ok (.bl JK) S):dg (n+1) [.tup xs,.tup xs] S=.ok (.bl JK) S:=by
 refine be rfl ?_ rfl s rfl;show af (tS n) G0 fL [some (.tup xs),some (.tup xs)] S=_;have i:de [.tup xs,.ty "tuple"] S=.ok (.bl JK) S:=rfl;have l:de [.tup xs,.ty "list"] S=.ok (.bl JL) S:=rfl;have m:aF .NotEq (.bl JK) (.bl JK) S=.ok (.bl JL) S:=rfl;have o:aF .NotEq (.bl JL) (.bl JL) S=.ok (.bl JL) S:=rfl;have q:hZ [.tup xs] S=.ok (.int (xs.length:Nat)) S:=rfl
 have r:aF .Eq (.int (xs.length:Nat)) (.int (xs.length:Nat)) S=.ok (.bl JK) S:=by have:aF .Eq (.int (xs.length:Nat)) (.int (xs.length:Nat)) S=.ok (.bl (((xs.length:Nat):Int)==((xs.length:Nat):Int))) S:=rfl;rw[this];simp
 have c:JR (λx y=>D.tup [x,y]) xs xs=xs.map λz=>D.tup [z,z]:=by simp_all
 have t:aj (tS n) G0 Jr [some (.tup xs),some (.tup xs)] S=.ok (.lst (xs.map λ_=>.bl JK)) S:=by
  refine ff (its:=.items (xs.map λz=>D.tup [z,z])) (S1:=S) (by simp[aL,aj,ak,Res.bind,d6,fX,c]) ?_
  have:=gh (f:=λz=>D.tup [z,z]) (p:=λ_=>JK) (e:=λ_=>D.bl JK) (xs:=xs) (S:=S) (step:=λx a j=>match bb (.tup [.var 0,.var 1]) x [none,none]with
    |some b=>(aI (tS n) G0 [] b j).bind λk g=>if k=JK then bn (tS n) G0 (.emit (.call "_law_same" [.var 0,.var 1])) b a g else .ok a g
    |none=>.fail) (λz c a h=>by have H:bb (.tup [.var 0,.var 1]) (.tup [z,z]) [none,none]=some [some z,some z]:=rfl;rw[H];simp only[aI,bn,aj,ak,Res.bind,Zg,Zf,uS,u z c,if_true];simp[h]) (show xs.length<=16777216 by omega)
  refine Eq.trans this ?_;rw[Ld.mpr (λ_ _=>rfl)]
 have h:h6 [.lst (xs.map λ_=>.bl JK)] S=.ok (.bl JK) S:=by show aR (bm ((xs.map λ_=>D.bl JK).map ez)) S=_;rw[ZA];have:bm (xs.map (ez∘λ_=>D.bl JK))=some JK:=K70.z_ λx _=>rfl;rw[this];rfl
 have e:fL=[.ite (.bor (.blt .isinst [.var 1,.ty "tuple"]) (.blt .isinst [.var 1,.ty "list"])) [.ite (.bor (.cmp .NotEq (.blt .isinst [.var 0,.ty "tuple"]) (.blt .isinst [.var 1,.ty "tuple"])) (.cmp .NotEq (.blt .isinst [.var 0,.ty "list"]) (.blt .isinst [.var 1,.ty "list"]))) [.ret (.lit (.bl JL))] [],.ret (.band (.cmp .Eq (.blt .len [.var 0]) (.blt .len [.var 1])) (.blt .all [Jr]))] [],.ite (.cmp .Is (.var 1) (.lit (.non))) [.ret (.cmp .Is (.var 0) (.lit (.non)))] [],.ret (.band (.cmp .Eq (.blt .isinst [.var 0,.ty "bool"]) (.blt .isinst [.var 1,.ty "bool"])) (.band (.blt .isinst [.var 0,.ty "int"]) (.cmp .Eq (.var 0) (.var 1))))]:=rfl;rw[e];refine bJ ?_;rw[cr (k:=JK) (S1:=S) (by simp[ao,aj,ak,Res.bind,Res.noErr,ba,i,bG]),if_pos rfl,aV (ρ':=[some (.tup xs),some (.tup xs)]) (S':=S) (by rw[cr (k:=JL) (S1:=S) (by simp[ao,aj,ak,Res.bind,Res.noErr,bp,ba,i,l,m,o]),if_neg (by decide)];rfl)];refine bJ ?_;rw[aC,aj,aj];simp only[aj,ak,Res.bind,Res.noErr,ba,Zg,Zf,q,r,bp,if_true,t,h]
section
variable {ts:List Ti}{P:List (List Ti)}
end
theorem dF(x y:Int):dj .Add (.int x) (.int y) S=.ok (.int (x+y)) S:=rfl
theorem hJ(x y:Int):dj .Sub (.int x) (.int y) S=.ok (.int (x-y)) S:=rfl
theorem eQ{x y:Int}(h:(-(2^64)<x/\x<2^64)\/(-(2^64)<y/\y<2^64)):dj .Mult (.int x) (.int y) S=.ok (.int (x*y)) S:=by show(if-2^64<x/\x<2^64\/ -2^64<y/\y<2^64 then Res.ok _ S else _)=_;rw[if_pos h]
theorem dH{x y:Int}(h:0<y):dj .Mod (.int x) (.int y) S=.ok (.int (x%y)) S:=by show(if 0<y then Res.ok _ S else .fail)=_;rw[if_pos h]
theorem fx{x y:Int}(h:0<y/\y<1073741824):dj .FloorDiv (.int x) (.int y) S=.ok (.int (x/y)) S:=by show(if 0<y/\y<1073741824 then Res.ok _ S else if 0<y/\y<2^100 then Res.ok _ S else .fail)=_;rw[if_pos h]
theorem pE{x y:Int}(h:0<=y):dj .RShift (.int x) (.int y) S=.ok (.int (x/2^y.toNat)) S:=by show(if 0<=y then Res.ok _ S else .fail)=_;rw[if_pos h]
theorem pF(x y:Int):dj .BitAnd (.int x) (.int y) S=.ok (.int (Lr x y)) S:=rfl
theorem nK(x y:Int):aF .Eq (.int x) (.int y) S=.ok (.bl (x==y)) S:=rfl
theorem H3(x y:Int):aF .Lt (.int x) (.int y) S=.ok (.bl (decide (x<y))) S:=rfl
noncomputable def hL(c k:Int):Int:=(c%2147483647+977*k+1)*48271
noncomputable def hO(X:Int):Int:=X%2147483647*(X%2147483647)%2147483629
noncomputable def eR(c k:Int):Int:=(hO (hL c k)+40692*(k+3))*69621%2147483647/8
theorem t7(h:Flat S)(c k:Int):e_ [.int c,.int k] S=.ok (.int (eR c k)) S:=by have m:∀x:Int,dj .Mult (.int x) (.int 48271) S=.ok _ S:=λx=>eQ (.inr (by decide));have M:∀x:Int,dj .Mult (.int 977) (.int x) S=.ok _ S:=λx=>eQ (.inl (by decide));have e:∀x:Int,dj .Mult (.int 40692) (.int x) S=.ok _ S:=λx=>eQ (.inl (by decide));have f:∀x:Int,dj .Mult (.int x) (.int 69621) S=.ok _ S:=λx=>eQ (.inr (by decide));have D:∀x:Int,dj .Mod (.int x) (.int 2147483647) S=.ok _ S:=λx=>dH (by decide);have b:∀x:Int,dj .Mod (.int x) (.int 2147483629) S=.ok _ S:=λx=>dH (by decide);refine be rfl ?_ rfl h rfl;show af zu G0 sZ [some (.int c),some (.int k),none] S=_;have g:∀x:Int,dj .Mult (.int (x%2147483647)) (.int (x%2147483647)) S=.ok _ S:=λx=>eQ (.inl (by omega));unfold sZ;rw[aQ (S':=S) (d:=.int (hL c k%2147483647)) (by unfold hL;simp only[aj,Res.bind,Res.noErr,Zg,Zf,D,M,dF,m])];simp;unfold eR;generalize hL c k=X;rw[aQ (S':=S) (d:=.int (hO X)) (by unfold hO;simp only[aj,Res.bind,Res.noErr,Zg,Zf,g,b])];simp;generalize hO X=Y;rw[aQ (S':=S) (d:=.int ((Y+40692*(k+3))*69621%2147483647)) (by simp only[aj,Res.bind,Res.noErr,Zg,Zf,dF,e,f,D])];rfl
theorem H4:jY=[.asg 2 (.bin .Add (.lit (.int 1)) (.bin .Mod (.var 0) (.var 1))),.asg 3 (.bin .FloorDiv (.var 0) (.var 1)),.asg 4 (.bin .Mod (.var 3) (.lit (.int 6))),.asg 5 (.lst JK []),.for_ (.var 6) (.range [.lit (.int 1),.var 2]) wA,.ret (.tup [.var 2,.blt .tuple [.blt (.sorted JL (.seq .int)) [.var 5]]])]:=rfl
section
variable {c t l w a b:Int}{x8 x9:Option D}
abbrev rW(c t m l w:Int)(n:Nat)(x6 x7 x8 x9:Option D):bt:=[some (.int c),some (.int t),some (.int m),some (.int l),some (.int w),some (.ref n),x6,x7,x8,x9]
theorem H5(f:0<=a)(g:1<=b)(e:b<=8):∃ch:Int,aj ca G0 Gs (rW c t m l w n (some (.int b)) (some (.int a)) x8 x9) T=.ok (.int ch) T:=by
 have H:=fx (S:=T) (x:=b*(b-1)) (y:=2) (by lia)
 have h:0<=b*(b-1)/2+a:=by
  have:0<=b*(b-1):=Int.mul_nonneg (by omega) (by omega)
  grind
 have d:=pE (S:=T) (x:=l/6) h;exact⟨Lr (l/6/2^(b*(b-1)/2+a).toNat) 1,by simp only[Gs,aj,Res.bind,Res.noErr,Zg,Zf,fx (S:=T) (x:=l) (y:=6) (by lia),hJ,eQ (S:=T) (x:=b) (y:=b-1) (.inl (by omega)),H,dF,d,pF]⟩
theorem AN(h:Flat T):∃r:Int,aj ca G0 BY (rW c t m l w n (some (.int b)) (some (.int a)) x8 x9) T=.ok (.int r) T:=by exact⟨eR c (8*a+b),by simp only[BY,aj,ak,Res.bind,Res.noErr,Zg,Zf,eQ (S:=T) (x:=8) (y:=a) (.inl (by lia)),dF,Gy,t7 h c (8*a+b)]⟩
theorem kb{k:Int}{e:CE}(h:∃ch:Int,aj ca G0 e (rW c t m l w n (some (.int b)) (some (.int a)) (some v8) x9) T=.ok (.int ch) T)(H:∃i:Int,v8=.int i):
  ∃ch:Int,aC ca G0 (wW k [.asg 8 e]) (rW c t m l w n (some (.int b)) (some (.int a)) (some v8) x9) T=.ok (.next (rW c t m l w n (some (.int b)) (some (.int a)) (some (.int ch)) x9)) T:=by
 obtain⟨i,rfl⟩:=H;obtain⟨ch,h⟩:=h;unfold wW;rw[cr rfl];cases w==k
 ·exact⟨i,rfl⟩
 ·refine⟨ch,?_⟩;rw[aQ h];rfl
theorem H7:∃q:List Bool,q.length=5/\aj ca G0 BZ (rW c t m l w n (some (.int b)) (some (.int a)) x8 x9) T=.ok (.lst (q.map D.bl)) T:=by
 have e:aj ca G0 Jl (rW c t m l w n (some (.int b)) (some (.int a)) x8 x9) T=.ok _ T:=rfl;have E:aj ca G0 Gw (rW c t m l w n (some (.int b)) (some (.int a)) x8 x9) T=.ok (.bl (b==a+1||b-a==m-1)) T:=by simp only[Gw,aj,Res.bind,Res.noErr,Zg,Zf,dF,hJ,nK,bp];lia
 have d:aj ca G0 Gx (rW c t m l w n (some (.int b)) (some (.int a)) x8 x9) T=.ok (.bl (b==a+1&&decide (a%3<2))) T:=by simp only[Gx,aj,Res.bind,Res.noErr,Zg,Zf,dF,dH (S:=T) (x:=a) (y:=3) (by lia),nK,H3,bp];lia
 refine⟨[b==a+1,b==a+1||b-a==m-1,a==0,JK,b==a+1&&decide (a%3<2)],rfl,?_⟩;simp only[BZ,aj,ak,Res.bind,Res.noErr,Zg,Zf,e,E,d,nK];rfl
theorem H8{q:List Bool}(g:q.length=5):∃ch:Int,aj ca G0 B0 (rW c t m l w n (some (.int b)) (some (.int a)) x8 (some (.lst (q.map D.bl)))) T=.ok (.int ch) T:=by
 have h:=dH (S:=T) (x:=l/6) (y:=5) (by lia);have H:0<=l/6%5/\l/6%5<5:=by omega
 generalize l/6%5=i at h H;obtain⟨v,j⟩:∃v,q[i.toNat]?=some v:=⟨_,Zm (by omega)⟩
 have d:bg (.lst (q.map D.bl)) (.int i) T=.ok (.bl v) T:=by
  have e:eD (q.map D.bl) i=some (.bl v):=by
   have k:fk (q.map D.bl).length i=some i.toNat:=by unfold fk;simp_all
   unfold eD;simp_all
  unfold bg;simp[au,e]
 have f:intD [.bl v] T=.ok _ T:=rfl;exact⟨if v=JK then 1 else 0,by simp only[B0,aj,ak,Res.bind,Res.noErr,Zg,Zf,fx (S:=T) (x:=l) (y:=6) (by lia),h,d,ba,f]⟩
theorem t8(h:∃i:Int,v8=.int i):∃(ch:Int) (y:Option D),aC ca G0 (wW 5 [.asg 9 BZ,.asg 8 B0]) (rW c t m l w n (some (.int b)) (some (.int a)) (some v8) x9) T=.ok (.next (rW c t m l w n (some (.int b)) (some (.int a)) (some (.int ch)) y)) T:=by
 obtain⟨i,rfl⟩:=h;obtain⟨q,H,e⟩:=H7;obtain⟨ch,E⟩:=H8 H;unfold wW;rw[cr rfl];cases w==5
 ·exact⟨i,_,rfl⟩
 ·refine⟨ch,some (.lst (q.map D.bl)),?_⟩;rw[aQ e];simp;rw[aQ E];rfl
theorem t9{us:List Ti}(z:Flat T)(J:us.length<1000)(A:0<=a)(B:1<=b)(d:b<=8):∃(k:Bool) (G Y:Option D),
  af ca G0 wB (rW c t m l w T.length (some (.int b)) (some (.int a)) x8 x9) (T++[al us])=.ok (.next (rW c t m l w T.length (some (.int b)) (some (.int a)) G Y)) (T++[al (if k=JK then us++[(a,b)]else us)]):=by
 have h:Flat (T++[al us]):=z.snoc (K70.j7 us);obtain⟨i,E⟩:=H5 (T:=T++[al us]) (c:=c) (t:=t) (m:=m) (l:=l) (w:=w) (n:=T.length) (x8:=x8) (x9:=x9) A B d;obtain⟨j,p⟩:=kb (T:=T++[al us]) (c:=c) (t:=t) (m:=m) (l:=l) (w:=w) (n:=T.length) (a:=a) (b:=b) (x9:=x9) (k:=3) (e:=Gu) (v8:=.int i) (by obtain⟨r,f⟩:=AN (T:=T++[al us]) (c:=c) (t:=t) (m:=m) (l:=l) (w:=w) (n:=T.length) (a:=a) (b:=b) (x8:=some (.int i)) (x9:=x9) h;exact⟨r%3/2,by unfold Gu;rw[aj,aj,f];simp only[aj,Res.bind,Res.noErr,dH (S:=T++[al us]) (x:=r) (y:=3) (by decide),fx (S:=T++[al us]) (x:=r%3) (y:=2) (by decide)]⟩) ⟨_,rfl⟩;obtain⟨o,q⟩:=kb (T:=T++[al us]) (c:=c) (t:=t) (m:=m) (l:=l) (w:=w) (n:=T.length) (a:=a) (b:=b) (x9:=x9) (k:=4) (e:=Gv) (v8:=.int j) (by obtain⟨r,f⟩:=AN (T:=T++[al us]) (c:=c) (t:=t) (m:=m) (l:=l) (w:=w) (n:=T.length) (a:=a) (b:=b) (x8:=some (.int j)) (x9:=x9) h;exact⟨(r%4+2)/3,by unfold Gv;rw[aj,aj,aj,f];simp only[aj,Res.bind,Res.noErr,dH (S:=T++[al us]) (x:=r) (y:=4) (by decide),dF,fx (S:=T++[al us]) (x:=r%4+2) (y:=3) (by decide)]⟩) ⟨_,rfl⟩;obtain⟨C,Y,s⟩:=t8 (T:=T++[al us]) (c:=c) (t:=t) (m:=m) (l:=l) (w:=w) (n:=T.length) (a:=a) (b:=b) (x9:=x9) (v8:=.int o) ⟨_,rfl⟩;refine⟨C==1,some (.int C),Y,?_⟩;unfold wB;rw[aQ E];simp only[Z0,ZZ,aV p,aV q,aV s];have F:ao ca G0 (.cmp .Eq (.var 8) (.lit (.int 1))) (rW c t m l w T.length (some (.int b)) (some (.int a)) (some (.int C)) Y) (T++[al us])=.ok (C==1) (T++[al us]):=by simp only[ao,aj,Res.bind,Zg,Zf,nK,Res.noErr,bp]
 refine(aV (ρ':=rW c t m l w T.length (some (.int b)) (some (.int a)) (some (.int C)) Y) ?_).trans rfl;rw[cr F];cases C==1
 ·rfl
 ·rw[if_pos rfl,if_pos rfl];have H:fV (.ref T.length) [.tup [.int a,.int b]] (T++[al us])=.ok .non (T++[al us++[.tup [.int a,.int b]]]):=HW (by unfold al;rw[Zi];show _<16777216;omega);have u:al us++[.tup [.int a,.int b]]=al (us++[(a,b)]):=by unfold al;simp[ay]
  rw[u]at H;refine(aV (ρ':=rW c t m l w T.length (some (.int b)) (some (.int a)) (some (.int C)) Y) (S':=T++[al (us++[(a,b)])]) ?_).trans rfl;simp only[aC,aj,ak,Res.bind,Res.noErr,db,Zg,Zf,H]
theorem AO(H:Flat T)(f:1<=b)(h:b<=8):∀(as:Li) (us:List Ti) (X x8 x9:Option D),(∀a∈as,0<=a)->us.length+as.length<1000->∃(vs:List Ti) (y Y d:Option D),vs.Sublist (as.map λa=>(a,b))/\
  cC (λx ρ S=>match aE (.var 7) x ρ with
   |some ρ'=>af ca G0 wB ρ' S
   |none=>.fail) (as.map D.int) (rW c t m l w T.length (some (.int b)) X x8 x9) (T++[al us])=.ok (.next (rW c t m l w T.length (some (.int b)) y Y d)) (T++[al (us++vs)])
 | [],us,X,x8,x9,_,_=>⟨[],X,x8,x9,.slnil,by rw[Z4];rfl⟩
 |a::as,us,X,x8,x9,g,j=>by
  rw[Zn]at j;obtain⟨k,z,Z,e⟩:=t9 (c:=c) (t:=t) (m:=m) (l:=l) (w:=w) (x8:=x8) (x9:=x9) (us:=us) H (by omega) (g a Ze) f h;obtain⟨vs,y,Y,d,i,I⟩:=AO H f h as (if k=JK then us++[(a,b)]else us) (some (.int a)) z Z (λx n=>g x (Zc _ n)) (by split<;>(try simp only[Zq,Zn,Yb])<;>omega);refine⟨(if k=JK then [(a,b)]else [])++vs,y,Y,d,?_,?_⟩
  ·rw[Kj];cases k
   ·exact i.cons _
   ·exact i.cons_cons _
  ·rw[Kj];unfold cC;simp only[aE,Z0,ZZ];rw[e];refine I.trans ?_;cases k<;>simp
noncomputable def kc(bs:Li):List Ti:=bs.flatMap λb=>(ar 0 b.toNat).map λa=>(a,b)
theorem AQ(k:Flat T):∀(bs:Li) (us:List Ti) (x6 X x8 x9:Option D),(∀b∈bs,1<=b/\b<=8)->us.length+8*bs.length<1000->∃(vs:List Ti) (y Y g i:Option D),vs.Sublist (kc bs)/\
  cC (λx ρ S=>match aE (.var 6) x ρ with
   |some ρ'=>af ca G0 wA ρ' S
   |none=>.fail) (bs.map D.int) (rW c t m l w T.length x6 X x8 x9) (T++[al us])=.ok (.next (rW c t m l w T.length y Y g i)) (T++[al (us++vs)])
 | [],us,x6,X,x8,x9,_,_=>⟨[],x6,X,x8,x9,.slnil,by rw[Z4];rfl⟩
 |b::bs,us,x6,X,x8,x9,n,r=>by
  rw[Zn]at r;obtain⟨q,H⟩:=n b Ze;have h:(ar 0 b.toNat).length=b.toNat:=K70.cG;obtain⟨vs,z,Z,j,o,e⟩:=AO (c:=c) (t:=t) (m:=m) (l:=l) (w:=w) k q H (ar 0 b.toNat) us X x8 x9 (λa p=>(K70.iC p).1) (by rw[h];omega)
  have s:vs.length<=8:=by have:=o.length_le;rw[Zi,h]at this;omega
  obtain⟨W,y,Y,g,i,f,I⟩:=AQ k bs (us++vs) (some (.int b)) z Z j (λx u=>n x (Zc _ u)) (by rw[Zq];omega);refine⟨vs++W,y,Y,g,i,?_,?_⟩
  ·unfold kc;rw[OP];exact o.append f
  ·rw[Kj];unfold cC;simp only[aE,Z0,ZZ]
   have E:af ca G0 wA (rW c t m l w T.length (some (.int b)) X x8 x9) (T++[al us])=.ok (.next (rW c t m l w T.length (some (.int b)) z Z j)) (T++[al (us++vs)]):=by
    unfold wA;refine(aV (ρ':=rW c t m l w T.length (some (.int b)) z Z j) (S':=T++[al (us++vs)]) ?_).trans rfl;have d:(-4611686018427387904:Int)<=b/\b<4611686018427387904:=by omega
    rw[eN (its:=.items ((ar 0 b.toNat).map D.int)) (S1:=T++[al us]) (by simp[aL,ak,aj,Res.bind,Res.noErr,d,K70.iB])];exact e
   rw[E,<-Kn];exact I
end
theorem H9(h1:1<=m)(h:m<=8):(kc (ar 1 (m-1).toNat)).Nodup/\(∀t∈kc (ar 1 (m-1).toNat),0<=t.1/\t.1<t.2/\t.2<m)/\(kc (ar 1 (m-1).toNat)).length<=28:=by rcases K70.Am h1 h with rfl|rfl|rfl|rfl|rfl|rfl|rfl|rfl<;>exact⟨by decide+kernel,by decide+kernel,by decide+kernel⟩
theorem t_(n:Flat S)(c:Int):∃m ts,aH m ts/\ix [.int c,.int 8] S=.ok (ae m ts) S:=by
 have h:1<=1+c%8/\1+c%8<=8:=by omega
 obtain⟨P,s,u⟩:=H9 h.1 h.2;obtain⟨vs,Y,v,z,A,f,g⟩:=AQ (T:=S) (c:=c) (t:=8) (m:=1+c%8) (l:=c/8) (w:=c/8%6) n (ar 1 (1+c%8-1).toNat) [] none none none none (λb o=>by have:=K70.iC o;omega) (by rw[K70.cG];simp;omega);rw[K0]at g;have q:vs.length<=28:=ZD f.length_le u;refine⟨1+c%8,sortI vs,Hv h.1 h.2 (f.nodup P) (λt r=>s t (f.subset r)) q,?_⟩;have i:=dH (S:=S) (x:=c) (y:=8) (by decide);have j:=fx (S:=S) (x:=c) (y:=8) (by decide);have k:=dH (S:=S) (x:=c/8) (y:=6) (by decide)
 have p:af ca G0 jY [some (.int c),some (.int 8),none,none,none,none,none,none,none,none] S=.ok (.ret (ae (1+c%8) (sortI vs))) (S++[al vs]):=by
  have e:(-4611686018427387904:Int)<=1+c%8/\1+c%8<4611686018427387904:=by omega
  rw[H4];rw[aQ (d:=.int (1+c%8)) (S':=S) (by simp only[aj,Res.bind,Res.noErr,Zg,Zf,i,dF])];simp only[Z0,ZZ];rw[aQ (d:=.int (c/8)) (S':=S) (by simp only[aj,Res.bind,Res.noErr,Zg,Zf,j])];simp only[Z0,ZZ];rw[aQ (d:=.int (c/8%6)) (S':=S) (by simp only[aj,Res.bind,Res.noErr,Zg,Zf,k])];simp only[Z0,ZZ];rw[aQ (d:=.ref S.length) (S':=S++[al []]) (by simp[aj,ak,Res.bind,al])];simp only[Z0,ZZ];rw[aV (ρ':=rW c 8 (1+c%8) (c/8) (c/8%6) S.length Y v z A) (S':=S++[al vs]) (by rw[eN (its:=.items ((ar 1 (1+c%8-1).toNat).map D.int)) (S1:=S++[al []]) (by simp[aL,ak,aj,Res.bind,Res.noErr,e,K70.iB])];exact g)];refine bJ ?_;simp only[aC,aj,ak,Res.bind,Res.noErr,Zg,Zf,ba,Hu (S:=S++[al vs]) (d:=.ref S.length) (l:=vs) eP (by omega),(rfl)];rfl
 show av ca G0 jY s8.length 2 [.int c,.int 8] S=_;have H:af ca G0 jY (([.int c,.int 8]:List D).map some++JQ (s8.length-2) none) S=_:=p;unfold av;rw[if_pos (show [D.int c,D.int 8].length=2 from rfl),H];show dB S.length (ae (1+c%8) (sortI vs)) (S++[al vs])=_;rw[K70.iA (by grind) (K70.nk _ _),Mk rfl]
noncomputable def El(d:D):Prop:=(∃i,d=.int i)\/(∃b,d=.bl b)\/(∃x,d=.str x)\/d=.non\/∃xs,d=.tup xs
noncomputable def pG:D->Bool
 | .int _=>JK
 |_=>JL
theorem AR(H:Flat S)(h:El d):gb [d] S=.ok (.bl (pG d)) S:=by
 refine be rfl ?_ rfl H rfl;rcases h with⟨i,rfl⟩| ⟨b,rfl⟩| ⟨x,rfl⟩|rfl| ⟨X,rfl⟩
 ·rfl
 ·rfl
 ·rfl
 ·rfl
 rfl
section
variable {ts:List Ti}
end
theorem nL(b:Flat S)(ns:Li):∃c:Int,iw [.scr (ns.map D.int),.int 0] S=.ok (.int c) S:=by
 cases ns with
 |nil=>exact⟨0,be rfl rfl rfl b rfl⟩
 |cons n ns=>
  refine⟨n,be rfl ?_ rfl b rfl⟩;have h:hZ [.scr ((n::ns).map D.int)] S=.ok (.int ((n::ns).map D.int).length) S:=rfl
  have H:aF .Lt (.int 0) (.int ((n::ns).map D.int).length) S=.ok (.bl JK) S:=by have:aF .Lt (.int 0) (.int ((n::ns).map D.int).length) S=.ok (.bl (decide ((0:Int)<((n::ns).map D.int).length))) S:=rfl;rw[this,Zr (by simp)]
  have a:bg (.scr ((n::ns).map D.int)) (.int 0) S=.ok (.int n) S:=by
   unfold bg
   have:eD ((n::ns).map D.int) 0=some (.int n):=by
    unfold eD fk;simp
    try omega
   simp only[au,this]
  generalize(n::ns).map D.int=x at h H a;simp[zt,zr,af,aC,ao,aj,ak,Res.bind,Res.noErr,bp,ba,h,H,a]
theorem AS:gb=K70.gb:=rfl
theorem H_:jX=gb:=rfl
noncomputable def ah(ns:Li):D:=.tup (ns.map D.int)
theorem ua(ns:Li):bE 0 (ah ns)=JK:=K70.dh _
theorem ew{e:CE}{fr:List (Option Nat)}{tg:CT}{rs:α->bt}{it:CE}{ds:List α}{h:α->D}{f:α->D}(n:aL Φ G0 it ρ S=.ok (.items (ds.map h)) S)(o:fr.map (λj=>j.bind λj=>(ρ[j]?).join)=r0)
  (l:∀d∈ds,bb tg (h d) r0=some (rs d)) (q:ds.length<=100000) (m:∀d∈ds,aj Φ G0 e (rs d) S=.ok (f d) S):aj Φ G0 (.comp JL N fr tg it [] (.emit e)) ρ S=.ok (.lst (ds.map f)) S:=by
 refine ff n ?_;rw[o]
 have:=gh (p:=λ_=>JK) (e:=f) (S:=S) (step:=λy a i=>match bb _ y _ with
    |some b=>(aI Φ G0 [] b i).bind λk c=>if k=JK then bn Φ G0 (.emit e) b a c else .ok a c
    |none=>.fail) λd g a H=>by rw[l d g];simp[aI,bn,Res.bind,m d g,H] (show ds.length<=16777216 by omega)
 rw[Ld.mpr λ_ _=>rfl]at this;exact this
theorem cu{b:jc}{e:CE}{r:D}(h:aj Φ G0 e ρ S=.ok d S)(H:ba b [d] S=.ok r S):aj Φ G0 (.blt b [e]) ρ S=.ok r S:=by simp[aj,ak,h,Res.bind,H,Res.noErr]
theorem allAt{ds:List α}{f:α->Bool}:ba .all [.lst (ds.map λd=>.bl (f d))] S=.ok (.bl (ds.all f)) S:=by show aR (bm ((ds.map λd=>D.bl (f d)).map ez)) S=_;rw[ZA];have:bm (ds.map (ez∘λd=>D.bl (f d)))=some (ds.all f):=allO_map;rw[this];rfl
theorem ke{ds:List α}{f:α->Bool}:ba .any [.lst (ds.map λd=>.bl (f d))] S=.ok (.bl (ds.any f)) S:=by show aR (eW ((ds.map λd=>D.bl (f d)).map ez)) S=_;rw[ZA];have:eW (ds.map (ez∘λd=>D.bl (f d)))=some (ds.any f):=nj;rw[this];rfl
theorem fy{b:jc}{es:List CE}{k:Bool}(h:aj Φ G0 (.blt b es) ρ S=.ok (.bl k) S):ao Φ G0 (.blt b es) ρ S=.ok k S:=by
 rw[aj]at h;rw[ao];cases e:ak _ _ _ _ S with
 |ok D a=>
  rw[e]at h;simp[Res.bind]at h⊢;cases E:ba b _ _ with
  |ok d c=>rw[E]at h;cases h;rfl
  |err x c=>rw[E]at h;cases h
  |fail=>rw[E]at h;cases h
 |err x a=>rw[e]at h;cases h
 |fail=>rw[e]at h;cases h
theorem cH{e:CE}(h:aj Φ G0 e ρ S=.ok d S)(H:eE S d=some (.items ds)):aL Φ G0 (.seq e) ρ S=.ok (.items ds) S:=by rw[aL,h];simp[Res.bind,H]
theorem am{i:Nat}(h:ρ[i]?=some (some d)):aj Φ G0 (.var i) ρ S=.ok d S:=by simp[aj,h]
theorem aZ:aj Φ G0 (.lit d) ρ S=.ok d S:=rfl
theorem dI{a b:CE}{x e:D}(h1:aj Φ G0 a ρ S=.ok d S1)(h:aj Φ G0 b ρ S1=.ok e S2)(H:bg d e S2=.ok x S2):aj Φ G0 (.idx a b) ρ S=.ok x S2:=by simp[aj,h1,h,Res.bind,H,Res.noErr]
theorem eS{o:Np}{a b:CE}{x e:D}(h1:aj Φ G0 a ρ S=.ok d S1)(h:aj Φ G0 b ρ S1=.ok e S2)(H:dj o d e S2=.ok x S2):aj Φ G0 (.bin o a b) ρ S=.ok x S2:=by simp[aj,h1,h,Res.bind,H,Res.noErr]
theorem gT{o:Me}{a b:CE}{x e:D}(h1:aj Φ G0 a ρ S=.ok d S1)(h:aj Φ G0 b ρ S1=.ok e S2)(H:aF o d e S2=.ok x S2):aj Φ G0 (.cmp o a b) ρ S=.ok x S2:=by simp[aj,h1,h,Res.bind,H,Res.noErr]
theorem ub{p q:List D}(h:p.length+q.length<=1000):dj .Add (.tup p) (.tup q) S=.ok (.tup (p++q)) S:=by have e:dj .Add (.tup p) (.tup q) S=if p.length+q.length<=bB then .ok _ S else .fail:=rfl;lia
theorem nM{f:Str}{a b:CE}{x:D}{k:Bool}(c:Φ f=some φ)(h1:aj Φ G0 a ρ S=.ok x S)(H:aj Φ G0 b ρ S=.ok y S)(h:φ [x,y] S=.ok (.bl k) S):ao Φ G0 (.call f [a,b]) ρ S=.ok k S:=by simp[ao,ak,c,h1,H,Res.bind,h,bG]
theorem dc{e:CE}{k:Bool}(h:ao Φ G0 e ρ S=.ok k S):ao Φ G0 (.bnot e) ρ S=.ok (!k) S:=by simp[ao,h,Res.bind]
theorem gn{x:List (Option D)}:aj Φ G0 (.idx (.var 0) (.lit (.int 0))) (some (ae m ts)::x) S=.ok (.int m) S:=dI (am rfl) aZ rfl
def NT(d:D):Prop:=∀S,de [d,.ty "tuple"] S=.ok (.bl JL) S
def Ask(d:D):Prop:=NT d\/∃ds,d=.tup ds/\ds.length<=900/\∀e∈ds,El e
noncomputable def kH(m:Int):D->Bool
 | .int i=>decide (0<=i/\i<m)
 |_=>JL
theorem kf(h:El d):(∃i,d=.int i)\/(pG d=JL/\∀m,kH m d=JL):=by
 rcases h with h| ⟨b,rfl⟩| ⟨x,rfl⟩|rfl| ⟨X,rfl⟩
 ·exact .inl h
 all_goals exact .inr ⟨rfl,λ_=>rfl⟩
theorem Ia(H:Flat S)(m:Int)(h:El d):gM [.int m,d] S=.ok (.bl (kH m d)) S:=by
 rcases kf h with⟨i,rfl⟩| ⟨a,e⟩
 ·exact K70.tK H m i
 ·rw[e m];have b:=K70.AR H h;rw[<-AS,a]at b
  have c:∀l a,gL [d,.int l,.int a] S=.ok (.bl JL) S:=λl a=>by refine be rfl ?_ rfl H rfl;simp[sN,af,aC,aj,ak,Res.bind,bp,yL,b]
  refine be rfl ?_ rfl H rfl;show af _ _ _ [some _,some d] S=_;have f:dj .Sub (.int m) (.int 1) S=.ok _ S:=rfl;simp only[sO,af,aC,aj,ak,Res.bind,Res.noErr,yN,c,f,Zf,Zg]
noncomputable def B6(m:Int):D->Bool
 | .tup ds=>ds.all (kH m)
 |_=>JL
theorem Ib(a:Flat S)(h:Ask d):eK [.int m,d] S=.ok (.bl (B6 m d)) S:=by
 refine be rfl ?_ rfl a rfl;show af _ G0 _ [some (.int m),some d] S=_;refine bJ (K70.cW ?_);rcases h with c| ⟨D,rfl,k,j⟩
 ·have H:ba .isinst [d,.ty "tuple"] S=.ok (.bl JL) S:=c S
  have e:B6 m d=JL:=by
   cases d with
   |tup D=>have:=c [];cases this
   |_=>rfl
  rw[e];simp only[aj,ak,Res.bind,Res.noErr,H,bp,Zf,Zg,Zx,if_false]
 ·have H:ba .isinst [.tup D,.ty "tuple"] S=.ok (.bl JK) S:=rfl;have b:=cu (S:=S) (ew (S:=S) (Φ:=sP) (N:=["place","many"]) (fr:=[none,some 0]) (tg:=.var 0) (e:=.call "is_place" [.var 1,.var 0]) (h:=id) (rs:=λe=>[some e,some (.int m)]) (f:=λe=>.bl (kH m e)) (ρ:=[some (.int m),some (.tup D)]) (cH (am (i:=1) rfl) (by rw[List.map_id];rfl)) rfl (λ_ _=>rfl) (by omega) (λe g=>by simp only[aj,ak,Res.bind,yS,Ia a m (j e g),Zf,Zg])) allAt;have e:B6 m (.tup D)=D.all (kH m):=rfl;rw[e];generalize(CE.blt .all _)=q at b⊢;simp only[aj,ak,Res.bind,Res.noErr,H,bp,b,Zf,Zg,if_true]
theorem uc:∀(ns acc:Li),(ns.foldl KQ acc).length<=acc.length+ns.length
 | [],acc=>by simp
 |n::ns,acc=>by
  have h:=uc ns (KQ acc n);have:(KQ acc n).length<=acc.length+1:=by unfold KQ;split<;>simp
  simp only[LQ,Zn];omega
theorem AU:∀(ns acc:Li),acc.Nodup->((ns.foldl KQ acc).length=acc.length+ns.length↔(acc++ns).Nodup)
 | [],acc,h=>by simp[h]
 |n::ns,acc,h=>by
  simp only[LQ,Zn];by_cases H:n∈acc
  ·have e:KQ acc n=acc:=by
    unfold KQ;rw[if_pos (by rw[Z7];exact⟨n,H,by simp⟩)]
   rw[e];have:=uc ns acc;constructor
   ·intro q;omega
   ·intro q;exact absurd rfl ((ZT.mp q).2.2 n H n Ze)
  ·have e:KQ acc n=acc++[n]:=by
    unfold KQ
    rw[if_neg (by
     rw[Z7];intro⟨x,g,z⟩;have:x=n:=by simpa using z
     exact H (this▸g))]
   have c:(acc++[n]).Nodup:=by
    rw[ZT];refine⟨h,by simp,λa d b f=>?_⟩;have:b=n:=by simpa using f
    subst this;intro q;exact H (q▸d)
   have i:=AU ns (acc++[n]) c;rw[e];rw[Kn]at i;simp only[Zq,Zn,Yb,List.cons_append,K0]at i;rw[<-i];constructor<;>intro q<;>omega
theorem AV(H:ns.length<1000):lO (ah ns) S=.ok (.int ((b4 ns).length:Nat)) S:=by
 have e:(ns.map D.int).all (az .int)=JK:=by rw[Zv];intro x h;obtain⟨n,_,rfl⟩:=Zs.mp h;rfl
 have E:(ns.map D.int).filterMap b8=ns:=by rw[OF];exact Oq
 show(if(ns.map _).all _=JK/\(ns.map _).length<1000 then Res.ok _ S else _)=_;rw[if_pos ⟨e,by simp_all⟩,E]
theorem AW(ns:Li):(b4 ns).length<=ns.length/\((b4 ns).length=ns.length↔ns.Nodup):=by have h:=AU ns [] (by simp);have H:=uc ns [];simp at h H;exact⟨H,h⟩
theorem nN(ns:Li):ba .len [ah ns] S=.ok (.int (ns.length:Nat)) S:=by show Res.ok _ S=_;simp_all
theorem Ic(b:Flat S)(c:ns.length<1000):mT [ah ns] S=.ok (.bl (decide ns.Nodup)) S:=by
 refine be rfl ?_ rfl b rfl;show af yT G0 sQ [some (ah ns)] S=_;have h:=AV (S:=S) c;have H:=nN (S:=S) ns
 have a:aF .Eq (.int ((b4 ns).length:Nat)) (.int (ns.length:Nat)) S=.ok (.bl (decide ns.Nodup)) S:=by
  have e:aF .Eq (.int ((b4 ns).length:Nat)) (.int (ns.length:Nat)) S=.ok (.bl (((b4 ns).length:Int)==(ns.length:Int))) S:=rfl;rw[e];have:(((b4 ns).length:Int)==(ns.length:Int))=decide ns.Nodup:=by rw[Lh,ZK,<-(AW ns).2,beq_iff_eq];omega
  rw[this]
 generalize ah ns=d at*;simp[sQ,af,aC,aj,ak,Res.bind,Res.noErr,h,H,a]
noncomputable def gI(ns:Li)(i:Nat):Int:=ns.getD i 0
noncomputable def fi(a b:Int):Int×Int:=(min a b,max a b)
theorem gU{i:Nat}(h:i<ns.length):(ns.map D.int)[i]?=some (.int (gI ns i)):=by simp[gI,h]
theorem Ie(h:Flat S)(a b:Int):gN [.int a,.int b] S=.ok (ay (fi a b)) S:=by exact K70.AB h a b
theorem Ig(qs:Li):JR (λx y=>D.tup [x,y]) (qs.map D.int) ((qs.map D.int).drop 1)=(JM (qs.length-1)).map λi=>ay (gI qs i,gI qs (i+1)):=by
 apply M5;intro i;rw[N9,OE,Nat.add_comm 1 i,Km (f:=λi=>ay (gI qs i,gI qs (i+1)))];by_cases h:i+1<qs.length
 ·rw[gU (show i<qs.length by omega),gU h,Ot (by omega)];rfl
 ·have H:(qs.map D.int)[i+1]?=none:=Kh (by rw[Zi];omega);have a:(JM (qs.length-1))[i]?=none:=Kh (by rw[K2];omega);rw[H,a];cases(qs.map D.int)[i]? <;>rfl
theorem Ih(a:Flat S){qs:Li}(g:qs.length<=1000):m3 [ah qs] S=.ok (.lst ((JM (qs.length-1)).map λi=>ay (fi (gI qs i) (gI qs (i+1))))) S:=by
 have H:∀l:List Nat,bE 0 (.lst (l.map λi=>ay (fi (gI qs i) (gI qs (i+1)))))=JK:=λl=>by have:=K70.j7 (l.map λi=>fi (gI qs i) (gI qs (i+1)));unfold al at this;rw[ZA]at this;exact this
 refine be rfl ?_ rfl a (H _);show af jT G0 zm [some (ah qs)] S=_
 have c:aL jT G0 (.zip [.var 0,.sl (.var 0) [.lit (.int 1)] []]) [some (ah qs)] S=.ok (.items ((JM (qs.length-1)).map λi=>ay (gI qs i,gI qs (i+1)))) S:=by
  have b:d6 S (ah qs) (.tup ((qs.map D.int).drop 1))=some (.items (JR (λx y=>.tup [x,y]) (qs.map D.int) ((qs.map D.int).drop 1))):=rfl;have d:qT (ah qs) (some 1) none S=.ok (.tup ((qs.map D.int).drop 1)) S:=by show Res.ok (D.tup (dQ (qs.map D.int) (some 1) none)) S=_;rw[K70.Ac]
  have T:eF [.int 1]=some (some 1):=rfl;have t:eF []=some none:=rfl;rw[Ig]at b;simp only[aL,ak,aj,Res.bind,Res.noErr,Zf,eY,T,t,d,b]
 refine bJ (K70.cW ?_);exact ew (S:=S) (Φ:=jT) (ds:=JM (qs.length-1)) (h:=λi=>ay (gI qs i,gI qs (i+1))) (r0:=[none,none]) (rs:=λi=>[some (.int (gI qs i)),some (.int (gI qs (i+1)))]) (f:=λi=>ay (fi (gI qs i) (gI qs (i+1)))) c rfl (λ_ _=>rfl) (by rw[K2];omega) (λi _=>by have:=Ie a (gI qs i) (gI qs (i+1));simp only[aj,ak,Res.bind,F1,this,Zf,Zg])
theorem nO(ns:Li):dQ (ns.map D.int) none (some 1)=(ns.take 1).map D.int:=by
 cases ns with
 |nil=>rfl
 |cons a ns=>rfl
theorem Ii(c:Flat S)(e:ns.length<=900)(h1:1<=ns.length):m4 [ah ns] S=.ok (.lst ((JM ns.length).map λi=>ay (fi (gI (ns++ns.take 1) i) (gI (ns++ns.take 1) (i+1))))) S:=by
 have a:(ns++ns.take 1).length=ns.length+1:=by rw[Zq,LH];omega
 have h:=Ih (S:=S) c (qs:=ns++ns.take 1) (by omega);rw[a,MY]at h;have b:∀l:List Nat,bE 0 (.lst (l.map λi=>ay (fi (gI (ns++ns.take 1) i) (gI (ns++ns.take 1) (i+1)))))=JK:=λl=>by have:=K70.j7 (l.map λi=>fi (gI (ns++ns.take 1) i) (gI (ns++ns.take 1) (i+1)));unfold al at this;rw[ZA]at this;exact this
 refine be rfl ?_ rfl c (b _);show af sU G0 zn [some (ah ns)] S=_
 have d:qT (ah ns) none (some 1) S=.ok (ah (ns.take 1)) S:=by show Res.ok (D.tup (dQ (ns.map D.int) none (some 1))) S=_;rw[nO];rfl
 have H:dj .Add (ah ns) (ah (ns.take 1)) S=.ok (ah (ns++ns.take 1)) S:=by have:=ub (S:=S) (p:=ns.map D.int) (q:=(ns.take 1).map D.int) (by rw[Zi,Zi,LH];omega);unfold ah;rw[this,Ko]
 have T:eF [.int 1]=some (some 1):=rfl;have t:eF []=some none:=rfl;refine bJ (K70.cW ?_);simp only[aj,ak,Res.bind,Res.noErr,Zf,eY,T,t,d,H,F3,h]
noncomputable def eT(ts:Lq)(ns:Li):Bool:=(JM ns.length).all λi=>decide (fi (gI (ns++ns.take 1) i) (gI (ns++ns.take 1) (i+1))∈ts)
theorem AX{i:Nat}(h:i<ns.length):gI (ns++ns.take 1) i=gI ns i:=by unfold gI;simp[ZL h]
theorem Js(h:1<=ns.length):gI (ns++ns.take 1) ns.length=gI ns 0:=by
 unfold gI
 grind
noncomputable def dJ(ns:Li)(i:Nat):Int:=if i=0 then gI ns (ns.length-1)else gI ns (i-1)
theorem Ij(h:1<=ns.length):((JM ns.length).all λi=>decide (fi (dJ ns i) (gI ns i)∈ts))=eT ts ns:=by
 unfold eT;rw[Lh,Zv,Zv];simp only[Z9,ZK];constructor
 ·intro q i H;rw[AX H];by_cases b:i+1<ns.length
  ·have:=q (i+1) b;unfold dJ at this;rw[if_neg (by omega),MY]at this;rw[AX b];exact this
  ·have e:i+1=ns.length:=by omega
   have:=q 0 (by omega);unfold dJ at this;rw[if_pos rfl,<-e,MY]at this;rw[e,Js h];exact this
 ·intro q i H;unfold dJ;by_cases a:i=0
  ·subst a;rw[if_pos rfl];have:=q (ns.length-1) (by omega);rw[AX (by omega),show ns.length-1+1=ns.length by omega,Js h]at this;exact this
  ·rw[if_neg a];have:=q (i-1) (by omega);rw[AX (by omega),show i-1+1=i by omega,AX H]at this;exact this
noncomputable def cf(k:Nat):Bool:=decide (k<3)||decide (k%2=0)
theorem nP:sX=[.expr (.call "must_be_web" [.var 0]),.ite sV [.ret (.lit (.bl JL))] [],.ite sW [.ret (.lit (.bl JL))] [],.ret (.blt .all [Jh])]:=rfl
theorem Ik(H:Flat S)(W:aH m ts):af eh G0 (.expr (.call "must_be_web" [.var 0])::cs) [some (ae m ts),some d] S=af eh G0 cs [some (ae m ts),some d] S:=by have h:cq _ S=.ok _ S:=K70.j8 H W;refine aV ?_;simp[aC,aj,ak,Res.bind,F5,h]
theorem nQ{c:CE}(h:ao Φ G0 c ρ S=.ok JK S):af Φ G0 (.ite c [.ret (.lit (.bl JL))] []::cs) ρ S=.ok (.ret (.bl JL)) S:=by refine bJ ?_;rw[cr h];rfl
theorem fO{c:CE}(h:ao Φ G0 c ρ S=.ok JL S):af Φ G0 (.ite c [.ret (.lit (.bl JL))] []::cs) ρ S=af Φ G0 cs ρ S:=by refine aV ?_;rw[cr h];rfl
theorem gW{a b:CE}{x y:Bool}(h1:ao Φ G0 a ρ S=.ok x S)(h:ao Φ G0 b ρ S=.ok y S):ao Φ G0 (.bor a b) ρ S=.ok (x||y) S:=by simp[ao,Res.bind];lia
theorem b5{o:Me}{a b:CE}{e:D}{k:Bool}(h1:aj Φ G0 a ρ S=.ok d S)(h:aj Φ G0 b ρ S=.ok e S)(H:aF o d e S=.ok (.bl k) S):ao Φ G0 (.cmp o a b) ρ S=.ok k S:=by simp[ao,h1,h,Res.bind,H,Res.noErr,bp]
theorem AY{f:Str}{a:CE}{x:D}{k:Bool}(H:Φ f=some φ)(h1:aj Φ G0 a ρ S=.ok x S)(h:φ [x] S=.ok (.bl k) S):ao Φ G0 (.call f [a]) ρ S=.ok k S:=by simp[ao,ak,H,h1,Res.bind,h,bG]
theorem Jt(k:Nat):aF .Lt (.int (k:Nat)) (.int 3) S=.ok (.bl (decide (k<3))) S:=by have:aF .Lt (.int (k:Nat)) (.int 3) S=.ok (.bl (decide ((k:Int)<3))) S:=rfl;rw[this];congr 2;apply decide_eq_decide.mpr;omega
theorem Ju(k:Nat):aF .Eq (.int ((k%2:Nat):Int)) (.int 0) S=.ok (.bl (decide (k%2=0))) S:=by
 have:aF .Eq (.int (k%2:Nat)) (.int 0) S=.ok _ S:=rfl;rw[this];have e:(((k%2:Nat):Int)==0)=decide (k%2=0):=by lia
 rw[e]
theorem Il(k:Nat):dj .BitAnd (.int (k:Nat)) (.int 1) S=.ok (.int ((k%2:Nat):Int)) S:=by have h:dj .BitAnd (.int k) (.int 1) S=.ok _ S:=rfl;have e:Lr k 1=(((k):Int).toNat&&& 1:Nat):=rfl;simp_all
theorem Io{w:D}{x:List (Option D)}:ao Φ G0 sW (some w::some (ah ns)::x) S=.ok (cf ns.length) S:=by have h:aj Φ _ _ (some w::some _::x) S=.ok _ S:=cu (am (i:=1) rfl) (nN ns);exact gW (b5 h aZ (Jt _)) (b5 (eS h aZ (Il _)) aZ (Ju _))
theorem Ip(H:Flat S)(g:ns.length<=900)(d:∀n∈ns,0<=n/\n<m):ao eh G0 sV [some (ae m ts),some (ah ns)] S=.ok (!decide ns.Nodup) S:=by
 have h:Ask (ah ns):=.inr ⟨_,rfl,by simp_all,λe b=>by obtain⟨n,_,rfl⟩:=Zs.mp b;exact .inl ⟨n,rfl⟩⟩;have a:B6 m (ah ns)=JK:=by show(ns.map _).all _=JK;rw[Zv];intro x f;obtain⟨n,c,rfl⟩:=Zs.mp f;exact Zr (d n c)
 have e:=Ib (m:=m) H h;rw[a]at e;exact gW (dc (nM F6 gn (am (i:=1) rfl) e)) (dc (AY F7 (am (ρ:=[some (ae m ts),some _]) (i:=1) rfl) (Ic H (by omega))))
theorem Iq(b:Flat S)(W:aH m ts)(j:ns.length<=900)(p:∀n∈ns,0<=n/\n<m):iv [ae m ts,ah ns] S=.ok (.bl (decide ns.Nodup&&(!cf ns.length&&eT ts ns))) S:=by
 refine be rfl ?_ rfl b rfl;show af eh G0 sX [some (ae m ts),some (ah ns)] S=_;rw[nP,Ik b W];have H:=Ip (m:=m) (ts:=ts) b j p;by_cases k:ns.Nodup
 ·rw[Zr k]at H⊢;rw[fO H,MJ];have a:=Io (S:=S) (Φ:=eh) (w:=ae m ts) (ns:=ns) (x:=[]);cases c:cf ns.length with
  |true=>rw[c]at a;exact nQ a
  |false=>
   rw[c]at a;rw[fO a,LZ,MJ];have s:3<=ns.length:=by unfold cf at c;rw[LP,decide_eq_false_iff_not]at c;omega
   have g:=Ii b j (by omega);have l:aL eh G0 (.seq (.call "ties_round" [.var 1])) [some (ae m ts),some (ah ns)] S=.ok (.items ((JM ns.length).map λi=>ay (fi (gI (ns++ns.take 1) i) (gI (ns++ns.take 1) (i+1))))) S:=by refine cH (d:=.lst _) ?_ rfl;generalize ae m ts=w at*;simp only[aj,ak,Res.bind,F8,g,Zf,Zg]
   have q:bg (ae m ts) (.int 1) S=.ok (.tup (al ts)) S:=rfl;have o:=cu (S:=S) (ew (S:=S) (Φ:=eh) (N:=["tie","web"]) (fr:=[none,some 0]) (tg:=.var 0) (e:=.cmp .In (.var 0) (.idx (.var 1) (.lit (.int 1)))) (ds:=JM ns.length) (h:=λi=>ay (fi (gI (ns++ns.take 1) i) (gI (ns++ns.take 1) (i+1)))) (r0:=[none,some (ae m ts)]) (rs:=λi=>[some (ay (fi (gI (ns++ns.take 1) i) (gI (ns++ns.take 1) (i+1)))),some (ae m ts)]) (f:=λi=>.bl (decide (fi (gI (ns++ns.take 1) i) (gI (ns++ns.take 1) (i+1))∈ts))) l rfl (λ_ _=>rfl) (by rw[K2];omega) (λi _=>by refine gT (am rfl) (dI (am (i:=1) rfl) aZ q) ?_;have:=tG S (fi (gI (ns++ns.take 1) i) (gI (ns++ns.take 1) (i+1))) ts;show aR (fm _ _ S) S=_;rw[this];rfl)) allAt;exact bJ (K70.cW o)
 ·rw[Zy k]at H⊢;rw[Ms];exact nQ H
theorem nR(d:Flat S)(a b:Int):m7 [ae m ts,.int a,.int b] S=.ok (.bl (decide (fi a b∈ts))) S:=by
 refine be rfl ?_ rfl d rfl;show af zv G0 s9 [some (ae m ts),some (.int a),some (.int b)] S=_
 have h:ba .min [.int a,.int b] S=.ok (.int (min a b)) S:=by show gB [.int a,.int b] S=_;simp[gB,i0];split<;>omega
 have H:ba .max [.int a,.int b] S=.ok (.int (max a b)) S:=by show h_ [.int a,.int b] S=_;simp[h_,i3];split<;>omega
 have e:bg (ae m ts) (.int 1) S=.ok (.tup (al ts)) S:=rfl;have c:aF .In (.tup [.int (min a b),.int (max a b)]) (.tup (al ts)) S=.ok (.bl (decide (fi a b∈ts))) S:=by have:=tG S (fi a b) ts;show aR (fm (ay (fi a b)) (.tup (al ts)) S) S=_;rw[this];rfl
 generalize ae m ts=w at*;generalize D.tup (al ts)=T at*;simp only[s9,af,aC,aj,ak,Res.bind,Res.noErr,h,H,c,e,Zf,Zg]
theorem nS:ti=[.ite tf [.ret (.lit (.bl JL))] [],.ite zA [.ret (.lit (.bl JL))] [],.ret (.blt .all [zB])]:=rfl
theorem ud(f:Flat S)(h:El d):aj er G0 zx [some d,some (ae m ts)] S=.ok (.bl (kH m d)) S:=by
 have H:=K70.AR f h;rw[<-AS,<-H_]at H;have j:bg (ae m ts) (.int 0) S=.ok (.int m) S:=rfl;rcases kf h with⟨i,rfl⟩| ⟨g,e⟩
 ·have q:∀a b:Int,aF .LtE (.int a) (.int b) S=.ok (.bl (decide (a<=b))) S:=λa b=>rfl;have Q:∀a b:Int,aF .Lt (.int a) (.int b) S=.ok (.bl (decide (a<b))) S:=λa b=>rfl;have c:jX [.int i] S=.ok (.bl JK) S:=H
  have e:kH m (.int i)=(decide (0<=i)&&decide (i<m)):=by show decide (0<=i/\i<m)=_;rw[Bool.decide_and]
  rw[e];generalize ae m ts=w at*;simp only[zx,aj,ak,Res.bind,Res.noErr,bp,zC,c,q,Q,j,Zf,Zg,if_true];cases decide (0<=i)<;>simp
 ·rw[g]at H;rw[e];generalize ae m ts=w at*;simp only[zx,aj,ak,Res.bind,Res.noErr,bp,zC,H,Zf,Zx,if_false]
theorem Ir{w:D}:ao er G0 tf [some w,some (.tup ds)] S=.ok (cf ds.length) S:=by have H:aj er _ (.blt .len [.var 1]) [some w,some (.tup ds)] S=.ok _ S:=cu (am rfl) rfl;have a:dj .Mod (.int ds.length) (.int 2) S=.ok _ S:=rfl;have h:=gW (dc (fy (b:=.isinst) (es:=[.var 1,.ty "tuple"]) rfl)) (gW (b5 H aZ (Jt _)) (b5 (eS H aZ a) aZ (Ju _)));exact h
theorem JI(H:Flat S)(c:ds.length<=900)(b:∀e∈ds,El e):aj er G0 (.blt .all [zy]) [some (ae m ts),some (.tup ds)] S=.ok (.bl (ds.all (kH m))) S:=
 cu (S:=S) (ew (S:=S) (Φ:=er) (N:=["_law_place","_law_web_here"]) (fr:=[none,some 0]) (tg:=.var 0) (e:=zx) (ds:=ds) (h:=id) (r0:=[none,some (ae m ts)]) (rs:=λe=>[some e,some (ae m ts)]) (f:=λe=>.bl (kH m e)) (cH (am (i:=1) rfl) (by rw[List.map_id];rfl)) rfl (λ_ _=>rfl) (by omega) (λe a=>ud H (b e a))) allAt
theorem Iu(ns:Li):dv 0 (ns.map D.int)=(JM ns.length).map λi:Nat=>ay ((i:Int),gI ns i):=by
 apply M5;intro i;rw[l_,Km (f:=λi=>ay _)];by_cases h:i<ns.length
 ·rw[gU h,Ot h,LY];rfl
 simp_all
theorem Iv{i:Nat}(h:i<ns.length):bg (ah ns) (.int ((i:Int)-1)) S=.ok (.int (dJ ns i)) S:=by
 have e:eD (ns.map D.int) ((i)-1)=some (.int (dJ ns i)):=by
  unfold eD fk dJ;rw[Zi];by_cases H:i=0
  ·subst H;rw[if_neg (by omega),if_pos (by omega),show((((0:Nat)))-1+(ns.length:Int)).toNat=ns.length-1 by omega];exact gU (by omega)
  ·rw[if_pos (by omega),if_pos (by omega),if_neg H,show((i:Int)-1).toNat=i-1 by omega];exact gU (by omega)
 unfold bg ah;simp[au,e]
theorem Iw(g:Flat S)(u:ns.length<=900)(y:∀n∈ns,0<=n/\n<m):jZ [ae m ts,ah ns] S=.ok (.bl (decide ns.Nodup&&(!cf ns.length&&eT ts ns))) S:=by
 refine be rfl ?_ rfl g rfl;show af er G0 ti [some (ae m ts),some (ah ns)] S=_;rw[nS];have a:=Ir (S:=S) (w:=ae m ts) (ds:=ns.map D.int);rw[Zi]at a;cases d:cf ns.length with
 |true=>rw[d]at a;rw[Bool.not_true,Ms,Nw];exact nQ a
 |false=>
  rw[d]at a;rw[LZ,MJ];have F:3<=ns.length:=by unfold cf at d;rw[LP,decide_eq_false_iff_not]at d;omega
  refine(fO a).trans ?_;have p:=JI (S:=S) (m:=m) (ts:=ts) g (ds:=ns.map D.int) (by rw[Zi];exact u) (λe s=>by obtain⟨n,_,rfl⟩:=Zs.mp s;exact .inl ⟨n,rfl⟩);have c:(ns.map D.int).all (kH m)=JK:=by rw[Zv];intro x C;obtain⟨n,H,rfl⟩:=Zs.mp C;exact Zr (y n H)
  rw[c]at p;have j:aj er G0 (.lenset (.var 1)) [some (ae m ts),some (ah ns)] S=.ok (.int ((b4 ns).length:Nat)) S:=by have:=AV (S:=S) (ns:=ns) (by omega);simp only[aj,Zg,Zf,Res.bind,this,Res.noErr]
  have k:aF .Lt (.int ((b4 ns).length:Nat)) (.int (ns.length:Nat)) S=.ok (.bl (!decide ns.Nodup)) S:=by
   have e:aF .Lt (.int ((b4 ns).length:Nat)) (.int (ns.length:Nat)) S=.ok (.bl (decide (((b4 ns).length:Int)<(ns.length:Int)))) S:=rfl;rw[e];obtain⟨E,l⟩:=AW ns;congr 2;by_cases H:ns.Nodup
   ·rw[Zr H,Zy (by have:=l.mpr H;omega)];rfl
   ·rw[Zy H,Zr (by have:(b4 ns).length≠ns.length:=λz=>H (l.mp z);omega)];rfl
  have b:=gW (dc (fy p)) (b5 j (cu (am (i:=1) rfl) (nN ns)) k);rw[Bool.not_true,Bool.false_or]at b;by_cases H:ns.Nodup
  ·rw[Zr H]at b⊢;rw[MJ];refine(fO b).trans ?_;have r:aL er G0 (.enum [.var 1]) [some (ae m ts),some (ah ns)] S=.ok (.items ((JM ns.length).map λi:Nat=>ay ((i:Int),gI ns i))) S:=by rw[<-Iu];simp only[aL,ak,aj,Res.bind,Zg,Zf];rfl
   have q:=cu (S:=S) (ew (S:=S) (Φ:=er) (N:=["_law_at","_law_place","_law_web_here","_law_thing"]) (fr:=[none,none,some 0,some 1]) (tg:=.tup [.var 0,.var 1]) (e:=.call "_law_tied" [.var 2,.idx (.var 3) (.bin .Sub (.var 0) (.lit (.int 1))),.var 1]) (ds:=JM ns.length) (h:=λi:Nat=>ay ((i:Int),gI ns i)) (r0:=[none,none,some (ae m ts),some (ah ns)]) (rs:=λi=>[some (.int (i:Nat)),some (.int (gI ns i)),some (ae m ts),some (ah ns)]) (f:=λi=>.bl (decide (fi (dJ ns i) (gI ns i)∈ts))) r rfl (λ_ _=>rfl) (by rw[K2];omega) (λi t=>by have v:=Iv (S:=S) (Z9.mp t);have B:=nR (m:=m) (ts:=ts) g (dJ ns i) (gI ns i);have A:dj .Sub (.int (i:Nat)) (.int 1) S=.ok (.int ((i:Int)-1)) S:=rfl;generalize ae m ts=w at*;simp only[aj,ak,Res.bind,Res.noErr,GC,A,v,B,Zg,Zf])) allAt;rw[Ij (by omega)]at q;exact bJ (K70.cW q)
  ·rw[Zy H]at b⊢;rw[Ms];exact nQ b
def AZ(m:Int)(ns:Li):Prop:=∀n∈ns,0<=n/\n<m
theorem nT{l:Li}(d:m<=8)(b:l.Nodup)(a:AZ m l):l.length<=8:=by
 have h:l.length<=(ar 0 8).length:=b.length_le_of_subset λx c=>by
  have:=a x c;have H:x=0\/x=1\/x=2\/x=3\/x=4\/x=5\/x=6\/x=7:=by omega
  rcases H with rfl|rfl|rfl|rfl|rfl|rfl|rfl|rfl<;>decide
 exact h
noncomputable def c8:Nat->Nat
 |1=>8|2=>56|3=>336|4=>1680|5=>6720|6=>20160|7=>40320|8=>40320|_=>0
theorem nU:∀k:Nat,1<=k->k<=8->c8 k*(8-k)=c8 (k+1)/\c8 k<=40320/\c8 (k+1)<=40320:=by
 intro k h H;have:k=1\/k=2\/k=3\/k=4\/k=5\/k=6\/k=7\/k=8:=by omega
 rcases this with rfl|rfl|rfl|rfl|rfl|rfl|rfl|rfl<;>decide
theorem ue(R:List (Li)):a_ 0 (R.map ah)=JK:=t6.mpr λx h=>by obtain⟨p,_,rfl⟩:=Zs.mp h;exact ua p
theorem A0{f:Li->List (Li)}{c:Nat}:∀{R:List (Li)},(∀p∈R,(f p).length<=c)->(R.flatMap f).length<=R.length*c
 | [],_=>by simp
 |p::R,h=>by rw[OP,Zq,Zn,Nat.succ_mul];have:=A0 λq H=>h q (Zc _ H);have:=h p Ze;omega
theorem gX{e c:CE}{fr:List (Option Nat)}{tg:CT}{rs:α->bt}{it:CE}{ds:List α}{h f:α->D}{p:α->Bool}(i:aL Φ G0 it ρ S=.ok (.items (ds.map h)) S)(l:fr.map (λj=>j.bind λj=>(ρ[j]?).join)=r0)
  (b:∀d∈ds,bb tg (h d) r0=some (rs d)) (m:ds.length<=1000000) (k:∀d∈ds,ao Φ G0 c (rs d) S=.ok (p d) S) (g:∀d∈ds,aj Φ G0 e (rs d) S=.ok (f d) S):aj Φ G0 (.comp JL N fr tg it [c] (.emit e)) ρ S=.ok (.lst ((ds.filter p).map f)) S:=by
 refine ff i ?_;rw[l]
 exact gh λd a A H=>by
     rw[b d a];simp[aI,k d a,Res.bind];cases p d with
     |true=>simp[bn,Res.bind,g d a,H]
     |false=>simp (show ds.length<=16777216 by omega)
theorem uf(H:au S d=some (ns.map D.int))(h:1<=ns.length):bg d (.int (-1)) S=.ok (.int (gI ns (ns.length-1))) S:=by
 have e:eD (ns.map D.int) (-1)=some (.int (gI ns (ns.length-1))):=by unfold eD fk;rw[Zi,if_neg (by omega),if_pos (by omega),show((-1:Int)+ns.length).toNat=ns.length-1 by omega];exact gU (by omega)
 unfold bg;simp_all
theorem ug(xs:List D):aF .NotEq (.lst xs) (.lst []) T=.ok (.bl (!xs.isEmpty)) T:=by
 have e:aF .NotEq (.lst xs) (.lst []) T=aR ((if xs.length=0 then bm (JR (cJ T 39) xs [])else some JL).map not) T:=rfl;rw[e];cases xs with
 |nil=>rfl
 |cons x xs=>rfl
def Row(T:aa)(v:D)(R:List (Li)):Prop:=v=.lst (R.map ah)\/∃n,v=.ref n/\T[n]?=some (R.map ah)
theorem nV{p q:List D}(h:p.length+q.length<=1000000):dj .Add (.lst p) (.lst q) S=.ok (.lst (p++q)) S:=by
 have e:dj .Add (.lst p) (.lst q) S=if p.length+q.length<=bB then .ok (.lst (p++q)) S else .fail:=by simp only[dj,iW,Py.dP]
 rw[e,if_pos (by show _<=16777216;omega)]
theorem uh{v:D}(H:Row T v R):aF .NotEq v (.lst []) T=.ok (.bl (!R.isEmpty)) T:=by
 have k:∀R:List _,aR ((if(R.map ah).length=0 then bm (JR (cJ T 39) (R.map ah) [])else some JL).map _) T=.ok (.bl !R.isEmpty) T:=λR=>by
  cases R with
  |nil=>rfl
  |cons p R=>rfl
 rcases H with rfl| ⟨n,rfl,h⟩
 ·exact k R
 ·have e:aF .NotEq (.ref n) (.lst []) T=aR ((match T[n]?.map _,some _ with
   |some x,some y=>wa _ x y
   |_,_=>none).map _) T:=rfl
  rw[e,h];exact k R
noncomputable def bc(ts:Lq)(p:Int):Li:=(ts.filter λt=>decide (p=t.1\/p=t.2)).map λt=>t.1+t.2-p
theorem nW(W:aH m ts)(p:Int):AZ m (bc ts p):=λn a=>by obtain⟨t,b,rfl⟩:=Zs.mp a;obtain⟨H,h⟩:=Zo.mp b;have h:=ZF h;have:=W.tie t H;omega
theorem ui(ts:Lq)(p:Int):(bc ts p).length<=ts.length:=by unfold bc;rw[Zi];exact Zw _ _
theorem Iy(W:aH m ts)(p:Int):(bc ts p).Nodup:=by unfold bc List.Nodup;rw[Kb];refine(W.ris.filter _).imp_of_mem λ{a b} e g c=>?_;obtain⟨f,h⟩:=Zo.mp e;obtain⟨d,H⟩:=Zo.mp g;have h:=ZF h;have H:=ZF H;have:=W.tie b d;unfold K70.aJ at c;omega
theorem A1(a:Flat S)(W:aH m ts)(p:Int):fM [ae m ts,.int p] S=.ok (.lst ((bc ts p).map D.int)) S:=by
 have H:∀l:Li,bE 0 (.lst (l.map D.int))=JK:=λl=>K70.dh l;refine be rfl ?_ rfl a (H _);show af s_ G0 zw [some (ae m ts),some (.int p)] S=_;have b:bg (ae m ts) (.int 1) S=.ok (.tup (al ts)) S:=rfl;have g:=W.few;refine bJ (K70.cW ?_)
 have h:=gX (S:=S) (Φ:=s_) (N:=["_law_one","_law_other","_law_place"]) (fr:=[none,none,some 1]) (tg:=.tup [.var 0,.var 1]) (it:=.seq (.idx (.var 0) (.lit (.int 1)))) (c:=.cmp .In (.var 2) (.tup [.var 0,.var 1])) (e:=.bin .Sub (.bin .Add (.var 0) (.var 1)) (.var 2)) (ρ:=[some (ae m ts),some (.int p)]) (ds:=ts) (h:=ay) (r0:=[none,none,some (.int p)]) (rs:=λt=>[some (.int t.1),some (.int t.2),some (.int p)]) (p:=λt=>decide (p=t.1\/p=t.2)) (f:=λt=>.int (t.1+t.2-p)) (cH (dI (am (i:=0) rfl) aZ b) rfl) rfl (λ_ _=>rfl) (by omega) (λt _=>by refine b5 (e:=ay t) (am (i:=2) rfl) (by simp only[aj,ak,Res.bind,Zf,Zg];rfl) ?_;have:=K70.tH S p t;show aR (fm (.int p) (ay t) S) S=_;rw[this];rfl) (λt _=>eS (eS (am rfl) (am rfl) (dF _ _)) (am rfl) (hJ _ _));unfold bc;rw[ZA];exact h
structure Rw (m:Int)(k:Nat)(p:Li):Prop where
 len:p.length=k
 inn:AZ m p
 nod:p.Nodup
noncomputable def dY(ts:Lq)(p:Li):Li:=(bc ts (gI p (p.length-1))).filter λn=>decide (gI p 0<n)&& !decide (n∈p)
noncomputable def bi(ts:Lq)(p:Li):List (Li):=(dY ts p).map λn=>p++[n]
theorem kg(W:aH m ts){p:Li}(h:Rw m k p):(dY ts p).length<=8-k/\∀q∈bi ts p,Rw m (k+1) q:=by
 have o:=nW W (gI p (p.length-1));have r:(dY ts p).Nodup:=(Iy W _).filter _
 have H:∀n∈dY ts p,(0<=n/\n<m)/\n∉p:=λn c=>by obtain⟨g,f⟩:=Zo.mp c;rw[ZR]at f;exact⟨o n g,by simpa using f.2⟩
 constructor
 ·have:=nT W.hi (l:=p++dY ts p) (ZT.mpr ⟨h.nod,r,λa i b j e=>(H b j).2 (e▸i)⟩) (λn c=>by
   rcases ZE.mp c with c|c
   ·exact h.inn n c
   ·exact(H n c).1)
  rw[Zq,h.len]at this;omega
 ·intro q s;obtain⟨n,c,rfl⟩:=Zs.mp s;obtain⟨g,f⟩:=H n c;refine⟨by rw[Zq,h.len];rfl,λx d=>?_,ZT.mpr ⟨h.nod,by simp,λa i b j e=>?_⟩⟩
  ·rcases ZE.mp d with d|d
   ·exact h.inn x d
   ·rw[L0.mp d];exact g
  ·have:=L0.mp j;subst this;exact f (e▸i)
theorem nX:j0=[.asg 1 (.lst JL []),.asg 2 (.comp JL ["_law_place"] [none] (.var 0) (.range [.idx (.var 0) (.lit (.int 0))]) [] (.emit (.tup [.var 0]))),.while_ 100 uZ pD,.ret (.var 1)]:=rfl
noncomputable def aO(ts:Lq)(p:Li):Bool:=decide p.Nodup&&(!cf p.length&&eT ts p)
theorem uj(r:Flat T)(W:aH m ts){v:D}(t:Row T v R)(hR:∀p∈R,p.length<=8/\AZ m p)(u:R.length<=100000){x1:Option D}{x:List (Option D)}:aj aY G0 rF (some (ae m ts)::x1::some v::x) T=.ok (.lst ((R.filter (aO ts)).map ah)) T:=by
 have s:∀p∈R,jZ [ae m ts,ah p] T=.ok (.bl (aO ts p)) T:=λp h=>Iw r (by have:=(hR p h).1;omega) (hR p h).2
 have step:∀p∈R,∀a:List D,a.length<bB->(λ(y:D) (a:List D) (d:aa)=>match bb (.var 0) y [none,some (ae m ts)]with
   |some b=>(aI aY G0 [.call "_law_ring_good" [.var 1,.var 0]] b d).bind λk c=>if k=JK then bn aY G0 (.emit (.var 0)) b a c else .ok a c
   |none=>.fail) (ah p) a T=.ok (if aO ts p=JK then a++[ah p]else a) T:=λp h a j=>by
  have g:=j;have q:bb (.var 0) (ah p) [none,some (ae m ts)]=some [some (ah p),some (ae m ts)]:=rfl;have H:ao aY G0 _ [some (ah p),some (ae m ts)] T=.ok (aO ts p) T:=nM (S:=T) GD (am (i:=1) rfl) (am (i:=0) rfl) (s p h);simp only[q,aI,H,Res.bind];cases aO ts p with
  |true=>simp[bn,aj,Res.bind,g]
  |false=>simp
 rcases t with rfl| ⟨n,rfl,l⟩
 ·refine ff (S1:=T) (cH (am (i:=2) rfl) rfl) ?_;exact gh (f:=ah) (p:=aO ts) (e:=ah) (xs:=R) (S:=T) step (show R.length<=16777216 by omega)
 ·refine ff (its:=.live (R.length+1) (b0 n)) (S1:=T) ?_ ?_
  ·rw[aL,am (i:=2) rfl];simp only[Res.bind,eE,l,L',Zi]
  ·have:=K70.HY (f:=ah) (p:=aO ts) (e:=ah) (xs:=R) (S:=T) (k:=n) (step:=λ(y:D) (a:List D) (d:aa)=>match bb (.var 0) y [none,some (ae m ts)]with
   |some b=>(aI aY G0 _ b d).bind λk c=>if k=JK then bn aY G0 (.emit (.var 0)) b a c else .ok a c
   |none=>.fail) l step R.length 0 [] (by simp) (by show 0+R.length<=16777216;omega)
   exact this
theorem uk(c:Flat T)(W:aH m ts){p:Li}(g:Rw m k p)(o:1<=k){x1:Option D}:aj aY G0 rS [some (ae m ts),x1,x2,x3,some (ah p),x5] T=.ok (.lst ((dY ts p).map D.int)) T:=by
 have h:=g.len;have j:=W.few;have f:=ui ts (gI p (p.length-1))
 have b:aL aY G0 (.seq (.call "_law_near" [.var 0,.idx (.var 4) (.neg (.lit (.int 1)))])) [some (ae m ts),x1,x2,x3,some (ah p),x5] T=.ok (.items ((bc ts (gI p (p.length-1))).map D.int)) T:=by refine cH (d:=.lst _) ?_ rfl;simp only[aj,ak,Res.bind,Res.noErr,uf (S:=T) (d:=ah p) (ns:=p) rfl (by omega),GF,A1 c W (gI p (p.length-1)),Zf,Zg]
 have H:bg (ah p) (.int 0) T=.ok (.int (gI p 0)) T:=by
  have e:eD (p.map D.int) 0=some (.int (gI p 0)):=by unfold eD fk;rw[Zi,if_pos (by omega),if_pos (by omega)];exact gU (by omega)
  unfold bg ah;simp only[au,e]
 exact gX (S:=T) (rs:=λn=>[some (.int n),some (ah p)]) b rfl (λ_ _=>rfl) (by omega) (λn _=>by
  have t:ao aY G0 (.cmp .Gt (.var 0) _) [some (.int n),some (ah p)] T=.ok _ T:=b5 (am (i:=0) rfl) (dI (am (i:=1) rfl) aZ H) rfl;have a:ao aY G0 (.cmp .NotIn (.var 0) (.var 1)) [some (.int n),some (ah p)] T=.ok (!decide (n∈p)) T:=by refine b5 (am (i:=0) rfl) (am (i:=1) rfl) ?_;have:=iD (S:=T) (d:=ah p) (l:=p) rfl n;show aR _ _=_;rw[this];rfl
  generalize(CE.cmp .Gt (.var 0) _)=q at t⊢;generalize(CE.cmp .NotIn (.var 0) (.var 1))=Q at a⊢;simp only[ao,t,a,Res.bind];lia) (λn _=>am (i:=0) rfl)
theorem ul{p ks:Li}(a:p.length<=100)(H:ks.length<=100){x1:Option D}:aj aY G0 rX [x0,x1,x2,x3,some (ah p),some (.lst (ks.map D.int))] T=.ok (.lst ((ks.map λn=>p++[n]).map ah)) T:=by have h:=ew (S:=T) (Φ:=aY) (N:=["_law_place","_law_line"]) (fr:=[none,some 4]) (tg:=.var 0) (e:=.bin .Add (.var 1) (.tup [.var 0])) (ds:=ks) (h:=D.int) (r0:=[none,some (ah p)]) (rs:=λn=>[some (.int n),some (ah p)]) (f:=λn=>ah (p++[n])) (ρ:=[x0,x1,x2,x3,some (ah p),some (.lst (ks.map D.int))]) (cH (am (i:=5) rfl) rfl) rfl (λ_ _=>rfl) (by omega) (λn _=>by refine eS (e:=.tup [.int n]) (am (i:=1) rfl) (by simp only[aj,ak,Res.bind,Zf]) ?_;have:=ub (S:=T) (p:=p.map D.int) (q:=[.int n]) (by rw[Zi];simp;omega);unfold ah;rw[this,Ko];rfl);rw[ZA];exact h
theorem kh(c:Flat T)(W:aH m ts){p:Li}(a:Rw m k p)(d:1<=k)(f:k<=8){A:List (Li)}(j:A.length<=1000000){x1:Option D}:∃y,af aY G0 rB [some (ae m ts),x1,x2,some (.ref T.length),some (ah p),x5] (T++[A.map ah])=.ok (.next [some (ae m ts),x1,x2,some (.ref T.length),some (ah p),y]) (T++[(A++bi ts p).map ah]):=by
 have h:Flat (T++[A.map ah]):=c.snoc (ue A);have E:=uk (T:=T++[A.map ah]) h W a d (x1:=x1) (x2:=x2) (x3:=some (.ref T.length)) (x5:=x5);have l:=(kg W a).1;have b:=ul (T:=T++[A.map ah]) (p:=p) (ks:=dY ts p) (by rw[a.len];omega) (by omega) (x0:=some (ae m ts)) (x1:=x1) (x2:=x2) (x3:=some (.ref T.length));refine⟨some (.lst ((dY ts p).map D.int)),?_⟩;unfold rB;rw[aQ E];show af _ _ _ [some (ae m ts),x1,x2,some (.ref T.length),some (ah p),some (.lst ((dY ts p).map D.int))] _=_
 have H:fC (.ref T.length) [.lst ((bi ts p).map ah)] (T++[A.map ah])=.ok .non (T++[(A++bi ts p).map ah]):=by
  have g:(A.map ah).length+((bi ts p).map ah).length<=bB:=by rw[Zi,Zi];unfold bi;rw[Zi];show _<=16777216;omega
  unfold fC;simp only[eP,Py.dP];rw[if_pos g,K70.nH,Ko]
 refine(aV (ρ':=[some (ae m ts),x1,x2,some (.ref T.length),some (ah p),some (.lst ((dY ts p).map D.int))]) (S':=T++[(A++bi ts p).map ah]) ?_).trans rfl;have e:aj aY G0 rX [some (ae m ts),x1,x2,some (.ref T.length),some (ah p),some (.lst ((dY ts p).map D.int))] (T++[A.map ah])=.ok (.lst ((bi ts p).map ah)) (T++[A.map ah]):=b;generalize rX=q at e⊢;generalize ae m ts=w at*;simp only[aC,aj,ak,Res.bind,e,db,H,Res.noErr,Zf,Zg]
theorem ki(H:Flat T)(W:aH m ts){k:Nat}(a:1<=k)(h:k<=8){x1 x2:Option D}{step:D->bt->aa->Res Fl}(c:∀e ρ S',ρ.length=6->step e ρ S'=af aY G0 rB (ρ.set 4 (some e)) S'):∀(R A:List (Li)) (x4 x5:Option D),(∀p∈R,Rw m k p)->A.length+(8-k)*R.length<=100000->∃Y y,
  cC step (R.map ah) [some (ae m ts),x1,x2,some (.ref T.length),x4,x5] (T++[A.map ah])=.ok (.next [some (ae m ts),x1,x2,some (.ref T.length),Y,y]) (T++[(A++R.flatMap (bi ts)).map ah])
 | [],A,x4,x5,_,_=>⟨x4,x5,by rw[List.flatMap_nil,Z4];rfl⟩
 |p::R,A,x4,x5,hR,d=>by
  rw[Zn,Nat.mul_add,Nat.mul_one]at d;have b:=hR p Ze;obtain⟨y,e⟩:=kh H W b a h (A:=A) (by omega) (x1:=x1) (x2:=x2) (x5:=x5);have g:(bi ts p).length<=8-k:=by unfold bi;rw[Zi];exact(kg W b).1
  obtain⟨z,Z,i⟩:=ki H W a h c R (A++bi ts p) (some (ah p)) y (λq f=>hR q (Zc _ f)) (by rw[Zq];omega);refine⟨z,Z,?_⟩;rw[Kj];unfold cC;rw[c _ _ _ rfl];have E:af aY G0 rB ([some (ae m ts),x1,x2,some (.ref T.length),x4,x5].set 4 (some (ah p))) (T++[A.map ah])=_:=e;rw[E];rw[Kn]at i;exact i
theorem kj{v:D}(h:Row T v R){x1:Option D}{x:List (Option D)}:ao aY G0 uZ (x0::x1::some v::x) T=.ok (!R.isEmpty) T:=
 b5 (am rfl) rfl (uh h)
theorem um(d:Flat T)(W:aH m ts)(f:1<=k)(h:k<=8){F:List (Li)}{v:D}(t:Row T v R)(hR:∀p∈R,Rw m k p)(J:R.length<=c8 k)(hF:F.length<=400000):∃Y y,af aY G0 pD [some (ae m ts),some (.lst (F.map ah)),some v,x3,x4,x5] T=.ok (.next [some (ae m ts),some (.lst ((F++R.filter (aO ts)).map ah)),some (.ref T.length),some (.ref T.length),Y,y]) (T++[(R.flatMap (bi ts)).map ah]):=by
 obtain⟨C,Q,U⟩:=nU k f h;have G:=uj d W t (λp H=>⟨by have:=(hR p H).len;omega,(hR p H).inn⟩) (by omega) (x1:=some (.lst (F.map ah))) (x:=[x3,x4,x5]);have I:(R.filter (aO ts)).length<=R.length:=Zw _ _;have E:=eS (Φ:=aY) (o:=.Add) (am (ρ:=[some (ae m ts),some (.lst (F.map ah)),some v,x3,x4,x5]) (S:=T) (i:=1) rfl) G (nV (by rw[Zi,Zi];omega));rw[<-Ko]at E
 have w:aj aY G0 (.lst JK []) [some (ae m ts),some (.lst ((F++R.filter (aO ts)).map ah)),some v,x3,x4,x5] T=.ok (.ref T.length) (T++[([]:List (Li)).map ah]):=by simp only[aj,ak,Res.bind,if_true];rfl
 have s:(8-k)*R.length<=40320:=by have:=Nat.mul_le_mul_left (8-k) J;rw[Nat.mul_comm (8-k) (c8 k),C]at this;omega
 obtain⟨Y,y,c⟩:=ki d W f h (x1:=some (.lst ((F++R.filter (aO ts)).map ah))) (x2:=some v) (step:=λx a S=>match aE (.var 4) x a with
   |some b=>af aY G0 rB b S
   |none=>.fail) (λe a O K=>by
    have:aE (.var 4) e a=some (a.set 4 (some e)):=by simp[aE,K]
    simp only[this]) R [] x4 x5 hR (by simp;omega)
 rw[K0]at c;refine⟨Y,y,?_⟩;unfold pD;rw[aQ E];show af _ _ _ [some (ae m ts),some (.lst ((F++R.filter (aO ts)).map ah)),some v,x3,x4,x5] T=_;rw[aQ w];show af _ _ _ [some (ae m ts),some (.lst ((F++R.filter (aO ts)).map ah)),some v,some (.ref T.length),x4,x5] (T++[([]:List (Li)).map ah])=_
 have B:aC aY G0 (.for_ (.var 4) (.seq (.var 2)) rB) [some (ae m ts),some (.lst ((F++R.filter (aO ts)).map ah)),some v,some (.ref T.length),x4,x5] (T++[([]:List (Li)).map ah])=.ok (.next [some (ae m ts),some (.lst ((F++R.filter (aO ts)).map ah)),some v,some (.ref T.length),Y,y]) (T++[(R.flatMap (bi ts)).map ah]):=by
  rcases t with rfl| ⟨n,rfl,j⟩
  ·rw[eN (cH (am (i:=2) rfl) rfl)];exact c
  ·have g:=(Zp.mp j).1;have l:(T++[([]:List (Li)).map ah])[n]?=some (R.map ah):=by rw[ZL g];exact j
   rw[eN (its:=.live (R.length+1) (b0 n)) (S1:=T++[([]:List (Li)).map ah]) (by rw[aL,am (i:=2) rfl];simp only[Res.bind,eE,l,L',Zi])]
   have q:=K70.nJ (T:=T) (k:=n) (xs:=R.map ah) (step:=λx a S=>match aE (.var 4) x a with
    |some b=>af aY G0 rB b S
    |none=>.fail) j (λi a S=>∃(A:List (Li)) (Z z:Option D),a=[some (ae m ts),some (.lst ((F++R.filter (aO ts)).map ah)),some (.ref n),some (.ref T.length),Z,z]/\S=T++[A.map ah]/\A.length<=8*i) (λi a S ⟨A,_,_,_,e,_⟩=>⟨A.map ah,e⟩) (λi x L a S ⟨A,Z,z,E,u,V⟩=>by subst E u;obtain⟨r,rfl⟩:=Zp.mp L;rw[Zi]at r;rw[List.getElem_map];have H:=hR _ (Kt r);obtain⟨y,e⟩:=kh d W H f h (A:=A) (by omega) (x1:=some (.lst ((F++R.filter (aO ts)).map ah))) (x2:=some (.ref n)) (x5:=z);refine⟨_,_,⟨A++bi ts R[i],_,y,rfl,rfl,?_⟩,e⟩;have:=(kg W H).1;rw[Zq];unfold bi;rw[Zi];omega) R.length 0 [some (ae m ts),some (.lst ((F++R.filter (aO ts)).map ah)),some (.ref n),some (.ref T.length),x4,x5] (T++[([]:List (Li)).map ah]) (by rw[Zi];omega) ⟨[],x4,x5,rfl,rfl,by simp⟩
   rw[List.drop_zero]at q;exact q.trans c
 rw[aV B,aQ (am (i:=3) rfl)];rfl
open Pc (bV ck nm fin fN t0 nA j')
theorem uo{a b:Int}:ap ts a b=ap ts b a:=by unfold ap;rw[Int.min_comm,Int.max_comm]
theorem cg(W:aH m ts){a b:Int}(h:ap ts a b=JK):(0<=a/\a<m)/\(0<=b/\b<m)/\a≠b:=by have t:=W.tie _ (ZF h);dsimp only at t;omega
theorem uq(W:aH m ts){a b:Int}:ck ts [] a b↔ap ts a b=JK:=by
 constructor
 ·rintro⟨h,_,_⟩;unfold ap;rw[ZK];rcases h with h|h
  ·have t:=W.tie _ h;dsimp only at t;rw[LV (by omega),LL (by omega)];exact h
  ·have t:=W.tie _ h;dsimp only at t;rw[Md (by omega),Mn (by omega)];exact h
 ·intro h;have H:=ZF h;refine⟨?_,by simp,by simp⟩;rcases N_ a b with z|z
  ·rw[LV z,LL z]at H;exact .inl H
  ·rw[Md z,Mn z]at H;exact .inr H
noncomputable def rt(m:Int)(ts:Lq)(p:Int):Int:=nm (fin [] ts m.toNat) p
theorem bT(W:aH m ts){p:Int}(h:0<=p/\p<m):0<=p/\p<(m.toNat:Int):=by have:=W.lo;omega
theorem nY(W:aH m ts){p:Int}(h:0<=p/\p<m):bV (ck ts []) (rt m ts p) p:=
 bV.symm (λa b=>ck.symm a b) (fN (K70.fh W) (bT W h).1 (bT W h).2).1
theorem hU(W:aH m ts){p:Int}(h:0<=p/\p<m):0<=rt m ts p/\rt m ts p<m:=by have:=Pc.gS (K70.fh W) (bT W h).1 (bT W h).2 (fN (so:=[]) (K70.fh W) (bT W h).1 (bT W h).2).1;have:=W.lo;unfold rt;omega
theorem ur(W:aH m ts){p:Int}(h:0<=p/\p<m):rt m ts (rt m ts p)=rt m ts p:=t0 (K70.fh W) (bT W h).1 (bT W h).2
theorem A2(W:aH m ts){p:Int}(h:0<=p/\p<m):rt m ts p<=p:=nA (K70.fh W) (bT W h).1 (bT W h).2
theorem A3(W:aH m ts){a b:Int}(h:ap ts a b=JK):rt m ts a=rt m ts b:=by obtain⟨H,c,_⟩:=cg W h;exact(j' (K70.fh W) (bT W H).1 (bT W H).2 (bT W c).1 (bT W c).2).mpr (.step (.refl _) ((uq W).mpr h))
theorem ut{X:Int->Prop}(W:aH m ts)(H:∀a b,X a->ap ts a b=JK->X b){a b:Int}(h:bV (ck ts []) a b)(c:X a):X b:=by
 induction h with
 |refl=>exact c
 |step _ r i=>exact H _ _ i ((uq W).mp r)
def iK(ts:Lq)(f:Int->Bool):Prop:=∀a b,ap ts a b=JK->f a≠f b
theorem Iz(W:aH m ts){f:Int->Bool}(h:iK ts f):∃g,iK ts g/\∀p,0<=p->p<m->rt m ts p=p->g p=JL:=by
 refine⟨λx=>xor (f x) (f (rt m ts x)),λa b t=>?_,λp _ _ e=>?_⟩
 ·have H:=h a b t;have c:=A3 W t;dsimp only;rw[c];generalize f a=u at H;generalize f b=v at H;generalize f (rt m ts b)=w;revert H;cases u<;>cases v<;>cases w<;>decide
 ·dsimp only;rw[e];cases f p<;>rfl
noncomputable def Wk(ts:Lq):Int->Li->Int->Prop
 |a,[],b=>ap ts a b=JK
 |a,x::l,b=>ap ts a x=JK/\Wk ts x l b
theorem iE{b c:Int}{k:Li}(H:Wk ts b k c):∀(l:Li) (a:Int),Wk ts a l b->Wk ts a (l++b::k) c
 | [],a,h=>⟨h,H⟩
 |x::l,a,h=>⟨h.1,iE H l x h.2⟩
theorem kl{b c:Int}{k:Li}:∀(l:Li) (a:Int),Wk ts a (l++b::k) c->Wk ts a l b/\Wk ts b k c
 | [],a,h=>h
 |x::l,a,h=>let⟨p,q⟩:=kl l x h.2;⟨⟨h.1,p⟩,q⟩
theorem km:∀(l:Li) (a b:Int),Wk ts a l b->Wk ts b l.reverse a
 | [],a,b,h=>uo.trans h
 |x::l,a,b,h=>by rw[List.reverse_cons];exact iE (k:=[]) (show ap ts x a=JK from uo.trans h.1) _ _ (km l x b h.2)
theorem kn{f:Int->Bool}(h:iK ts f):∀(l:Li) (a b:Int),Wk ts a l b->(f b=xor (f a) (decide (l.length%2=0)))
 | [],a,b,w=>by have:=h a b w;show f b=xor (f a) JK;cases H:f a<;>cases c:f b<;>simp_all
 |x::l,a,b,w=>by
  have d:=h a x w.1;rw[kn h l x b w.2,Zn];have e:decide ((l.length+1)%2=0)= !decide (l.length%2=0):=by rw[<-decide_not,decide_eq_decide];omega
  rw[e];cases H:f a<;>cases c:f x<;>cases decide (l.length%2=0)<;>simp_all
noncomputable def Wz(ts:Lq)(a:Int)(n:Nat)(b:Int):Prop:=(n=0/\a=b)\/∃l,l.length+1=n/\Wk ts a l b
theorem uu{a b c:Int}(h:Wz ts a n b)(t:ap ts b c=JK):Wz ts a (n+1) c:=by
 rcases h with⟨rfl,rfl⟩| ⟨l,e,w⟩
 ·exact .inr ⟨[],rfl,t⟩
 ·exact .inr ⟨l++[b],by simp;omega,iE (k:=[]) t l a w⟩
theorem uv(W:aH m ts){a b:Int}(h:bV (ck ts []) a b):∃n,Wz ts a n b:=by
 induction h with
 |refl=>exact⟨0,.inl ⟨rfl,rfl⟩⟩
 |step _ r i=>obtain⟨n,H⟩:=i;exact⟨n+1,uu H ((uq W).mp r)⟩
theorem nZ{a b:Int}(h:Wz ts a n b)(H:Wz ts a k b):Wz ts a (n+k) a:=by
 rcases h with⟨rfl,rfl⟩| ⟨l,e,w⟩
 ·rw[LY];exact H
 ·rcases H with⟨rfl,rfl⟩| ⟨L,E,W⟩
  ·exact .inr ⟨l,e,w⟩
  ·exact .inr ⟨l++b::L.reverse,by simp;omega,iE (km L a b W) l a w⟩
theorem IA(W:aH m ts)(h:¬∃f,iK ts f):∃a l,Wk ts a l a/\l.length%2=0:=by
 classical
 refine ZX λg=>h ⟨λx=>decide (∃n,n%2=1/\Wz ts (rt m ts x) n x),λa b t=>?_⟩;obtain⟨d,j,_⟩:=cg W t;have E:=A3 W t;dsimp only;rw[E]
 have N:∀n,n%2=1->¬Wz ts (rt m ts b) n (rt m ts b):=λn H i=>by
  rcases i with⟨rfl,_⟩| ⟨l,e,w⟩
  ·omega
  ·exact g ⟨_,l,w,by omega⟩
 intro z;rw[decide_eq_decide]at z;by_cases c:∃n,n%2=1/\Wz ts (rt m ts b) n a
 ·obtain⟨n,H,w⟩:=c;obtain⟨k,o,v⟩:=z.mp ⟨n,H,w⟩;exact N (n+1+k) (by omega) (nZ (uu w t) v)
 ·obtain⟨n,w⟩:=uv W (nY W d);rw[E]at w
  have H:n%2=0:=by
   rcases L6 n with q|q
   ·exact q
   ·exact absurd ⟨n,q,w⟩ c
  exact c (z.mpr ⟨n+1,by omega,uu w t⟩)
theorem A4:∀{l:Li},¬l.Nodup->∃s x t u,l=s++x::(t++x::u)
 | [],h=>absurd .nil h
 |y::l,h=>by
  by_cases H:y∈l
  ·obtain⟨t,u,rfl⟩:=MN H;exact⟨[],y,t,u,rfl⟩
  ·obtain⟨s,x,t,u,rfl⟩:=A4 (l:=l) λa=>h (Z3.mpr ⟨H,a⟩);exact⟨y::s,x,t,u,rfl⟩
theorem ko:∀(N:Nat) (a:Int) (l:Li),l.length<=N->Wk ts a l a->l.length%2=0->∃b k,Wk ts b k b/\(b::k).Nodup/\k.length%2=0
 |N,a,l,e,w,h=>by
  by_cases c:(a::l).Nodup
  ·exact⟨a,l,w,c,h⟩
  ·have H:l≠[]:=λz=>c (by rw[z];simp);have g:0<l.length:=Kq.mpr H;obtain⟨N,rfl⟩:∃M,N=M+1:=⟨N-1,by omega⟩;by_cases f:a∈l
   ·obtain⟨s,t,rfl⟩:=MN f;obtain⟨W,d⟩:=kl s a w;rw[Zq,Zn]at h e;rcases L6 s.length with q|q
    ·exact ko N a s (by omega) W q
    ·exact ko N a t (by omega) d (by omega)
   ·obtain⟨s,x,t,u,rfl⟩:=A4 (l:=l) λz=>c (Z3.mpr ⟨f,z⟩);obtain⟨W,d⟩:=kl s a w;obtain⟨i,j⟩:=kl t x d;simp only[Zq,Zn]at h e;rcases L6 t.length with q|q
    ·exact ko N x t (by omega) i q
    ·exact ko N a (s++x::u) (by simp only[Zq,Zn];omega) (iE j s a W) (by simp only[Zq,Zn];omega)
theorem A5:∀(l:Li),l≠[]->∃x∈l,∀y∈l,x<=y
 | [],h=>absurd rfl h
 | [a],_=>⟨a,by simp,by simp⟩
 |a::b::l,_=>by
  obtain⟨x,d,c⟩:=A5 (b::l) (by simp);rcases N_ a x with z|z
  ·refine⟨a,by simp,λy H=>?_⟩;rcases Zk.mp H with rfl|H
   ·exact Ou _
   ·exact Int.le_trans z (c y H)
  ·refine⟨x,Zc _ d,λy H=>?_⟩;rcases Zk.mp H with rfl|H
   ·exact z
   ·exact c y H
theorem pH(W:aH m ts):∀(l:Li) (a b:Int),Wk ts a l b->(0<=a/\a<m)/\∀y∈l,0<=y/\y<m
 | [],a,b,h=>⟨(cg W h).1,by simp⟩
 |x::l,a,b,h=>by
  obtain⟨p,q⟩:=pH W l x b h.2;refine⟨(cg W h.1).1,λy H=>?_⟩;rcases Zk.mp H with rfl|H
  ·exact p
  ·exact q y H
theorem IB(W:aH m ts)(h:¬∃f,iK ts f):∃x l,Wk ts x l x/\(x::l).Nodup/\l.length%2=0/\∀y∈l,x<y:=by
 obtain⟨a,l,w,e⟩:=IA W h;obtain⟨b,k,w,c,e⟩:=ko l.length a l (Zl _) w e;obtain⟨x,i,g⟩:=A5 (b::k) (by simp)
 have lt:∀{x:Int} {l:Li},(x::l).Nodup->(∀y∈l,x<=y)->∀y∈l,x<y:=λc g y H=>by
  rcases OQ (g y H)with z|z
  ·exact z
  ·exact absurd (z▸H) (Z3.mp c).1
 rcases Zk.mp i with rfl|i
 ·exact⟨x,k,w,c,e,lt c λy H=>g y (Zc _ H)⟩
 ·obtain⟨s,t,rfl⟩:=MN i;obtain⟨j,n⟩:=kl s b w;have p:(x::(t++b::s)).Perm (b::(s++x::t)):=by have:(x::t++b::s).Perm (b::s++x::t):=List.perm_append_comm;exact this
  have d:(x::(t++b::s)).Nodup:=p.nodup_iff.mpr c;refine⟨x,t++b::s,iE j t x n,d,by simp only[Zq,Zn]at e⊢;omega,lt d λy H=>g y (p.mem_iff.mp (Zc _ H))⟩
end K70
namespace K70
theorem kq(W:aH m ts){p x:Int}:x∈bc ts p↔ap ts p x=JK:=by
 unfold bc ap;rw[Zs,ZK];constructor
 ·rintro⟨t,b,rfl⟩;obtain⟨a,H⟩:=Zo.mp b;have H:=ZF H;have q:=W.tie t a
  have:(min p (t.1+t.2-p),max p (t.1+t.2-p))=t:=by
   rcases H with rfl|rfl
   ·rw[LV (by omega),LL (by omega)];exact Prod.ext rfl (by dsimp only;omega)
   ·rw[Md (by omega),Mn (by omega)];exact Prod.ext (by dsimp only;omega) rfl
  rw[this];exact a
 ·intro h;refine⟨_,Zo.mpr ⟨h,?_⟩,?_⟩
  ·refine Zr ?_;dsimp only;omega
  ·dsimp only;omega
theorem A6(W:aH m ts)(p:Int):(bc ts p).Pairwise (· < ·):=by unfold bc;rw[Kb];have h:(ts.filter λt=>decide (p=t.1\/p=t.2)).Pairwise K70.aJ:=W.ris.filter _;refine h.imp_of_mem λ{a b} g i e=>?_;obtain⟨d,H⟩:=Zo.mp g;obtain⟨f,c⟩:=Zo.mp i;have H:=ZF H;have c:=ZF c;have:=W.tie a d;have:=W.tie b f;unfold K70.aJ at e;omega
theorem n_(W:aH m ts)(p:Int):hG m ts p=bc ts p:=by
 refine Pc.gk ?_ (A6 W p) λx=>?_
 ·exact Pc.dX.sublist ZI
 ·rw[kq W];unfold hG;rw[Zo,Pc.cb];refine⟨λh=>h.2,λh=>⟨?_,h⟩⟩;have:=cg W h;have:=W.lo;omega
theorem pI:∀(l:Li) (x b:Int),Wk ts x l b↔∀i<l.length+1,fi (gI (x::l++[b]) i) (gI (x::l++[b]) (i+1))∈ts
 | [],x,b=>by
  constructor
  ·intro h i H;have:i=0:=by simpa using H
   subst this;exact ZF h
  ·intro h;exact Zr (h 0 (by simp))
 |y::l,x,b=>by
  have I:=pI l y b;constructor
  ·intro h i H;cases i with
   |zero=>exact ZF h.1
   |succ i=>exact I.mp h.2 i (by simpa using H)
  ·intro h;exact⟨Zr (h 0 (by simp)),I.mpr λi H=>h (i+1) (by simpa using H)⟩
theorem A7{x:Int}{l:Li}:eT ts (x::l)=JK↔Wk ts x l x:=by rw[pI];unfold eT;rw[Zv];simp only[Z9,ZK];exact Iff.rfl
noncomputable def lv(m:Int)(ts:Lq):Nat->List (Li)
 |0=>(ar 0 m.toNat).map λi=>[i]
 |k+1=>(lv m ts k).flatMap (bi ts)
theorem cX(W:aH m ts):∀k,∀p∈lv m ts k,Rw m (k+1) p
 |0,p,h=>by obtain⟨i,H,rfl⟩:=Zs.mp h;have:=K70.iC H;have:=W.lo;exact⟨rfl,λn a=>by rw[L0.mp a];omega,by simp⟩
 |k+1,p,h=>by obtain⟨q,b,h⟩:=O2.mp h;exact(kg W (cX W k q b)).2 p h
noncomputable def gq:Li->Li->Bool
 | [],[]=>JL
 | [],_::_=>JK
 |_::_,[]=>JL
 |a::p,b::q=>if a=b then gq p q else decide (a<b)
theorem kr:∀{p q:Li} (s t:Li),p.length=q.length->gq p q=JK->gq (p++s) (q++t)=JK
 | [],[],s,t,_,h=>by cases h
 |a::p,b::q,s,t,H,h=>by
  show(if a=b then gq (p++s) (q++t)else decide (a<b))=JK;have h:(if a=b then gq p q else decide (a<b))=JK:=h;by_cases e:a=b
  ·rw[if_pos e]at h⊢;exact kr s t (by simpa using H) h
  ·rw[if_neg e]at h⊢;exact h
theorem uw{n k:Int}(h:n<k):∀p:Li,gq (p++[n]) (p++[k])=JK
 | []=>by show(if n=k then JL else decide (n<k))=JK;rw[if_neg (by omega)];exact Zr h
 |a::p=>by show(if a=a then gq (p++[n]) (p++[k])else decide (a<a))=JK;rw[if_pos rfl];exact uw h p
theorem A8:∀{p q:Li},gq p q=JK->gq q p=JL
 | [],[],h=>by cases h
 | [],_::_,_=>rfl
 |_::_,[],h=>by cases h
 |a::p,b::q,h=>by
  show(if b=a then gq q p else decide (b<a))=JL;have h:(if a=b then gq p q else decide (a<b))=JK:=h;by_cases e:a=b
  ·rw[if_pos e]at h;rw[if_pos e.symm];exact A8 h
  ·rw[if_neg e]at h;rw[if_neg (λz=>e z.symm)];have:=ZF h;exact Zy (by omega)
theorem A9(W:aH m ts):∀k,(lv m ts k).Pairwise λp q=>gq p q=JK
 |0=>by show((ar 0 m.toNat).map λi=>[i]).Pairwise _;rw[Kb];exact Pc.dX.imp λh=>uw h []
 |k+1=>by
  show((lv m ts k).flatMap (bi ts)).Pairwise _;rw[List.pairwise_flatMap];refine⟨λp H=>?_,?_⟩
  ·unfold bi;rw[Kb];exact((A6 W _).filter _).imp λh=>uw h p
  ·refine(A9 W k).imp_of_mem λ{p q} H e h a c b d=>?_;obtain⟨n,_,rfl⟩:=Zs.mp c;obtain⟨j,_,rfl⟩:=Zs.mp d;exact kr _ _ ((cX W k p H).len.trans (cX W k q e).len.symm) h
noncomputable def Ch(ts:Lq):Int->Li->Prop
 |_,[]=>True
 |a,x::l=>ap ts a x=JK/\Ch ts x l
theorem pJ:∀(l:Li) (a b:Int),Wk ts a l b->Ch ts a l
 | [],_,_,_=>trivial
 |x::l,a,b,h=>⟨h.1,pJ l x b h.2⟩
theorem og(q:Li)(n:Int):gI (q++[n]) ((q++[n]).length-1)=n:=by unfold gI;simp[Na]
theorem oh{q:Li}(n:Int)(h:1<=q.length):gI (q++[n]) 0=gI q 0:=by
 cases q with
 |nil=>simp at h
 |cons a q=>rfl
theorem kt(W:aH m ts):∀(l q:Li) (k:Nat) (a:Int),q∈lv m ts k->gI q (q.length-1)=a->Ch ts a l->(q++l).Nodup->(∀y∈l,gI q 0<y)->q++l∈lv m ts (k+l.length)
 | [],q,k,a,h,_,_,_,_=>by rw[Z4];exact h
 |n::l,q,k,a,h,e,H,c,b=>by
  have g:=(cX W k q h).len
  have d:q++[n]∈lv m ts (k+1):=by
   refine O2.mpr ⟨q,h,Zs.mpr ⟨n,Zo.mpr ⟨?_,?_⟩,rfl⟩⟩
   ·rw[e];exact(kq W).mpr H.1
   ·rw[ZR,Lw];refine⟨Zr (b n (by simp)),Zy λz=>?_⟩;exact(ZT.mp c).2.2 n z n (by simp) rfl
  have:=kt W l (q++[n]) (k+1) n d (og q n) H.2 (by simpa using c) λy f=>by rw[oh n (by omega)];exact b y (Zc _ f)
  rw[Kn]at this;rw[Zn,show k+(l.length+1)=k+1+l.length by omega];exact this
noncomputable def gR(m:Int)(ts:Lq)(k:Nat):List (Li):=(lv m ts k).filter (aO ts)
noncomputable def cc(m:Int)(ts:Lq):Nat->Nat->List (Li)
 |0,_=>[]
 |f+1,k=>gR m ts k++cc m ts f (k+1)
noncomputable def fr(m:Int)(ts:Lq):Nat->Nat->Option (Li)
 |0,_=>none
 |f+1,k=>match gR m ts k with
  |x::_=>some x
  | []=>fr m ts f (k+1)
theorem ux(W:aH m ts):∀f k,∀p∈cc m ts f k,k<p.length/\aO ts p=JK
 |0,k,p,h=>by cases h
 |f+1,k,p,h=>by
  rcases ZE.mp h with h|h
  ·obtain⟨a,H⟩:=Zo.mp h;have:=(cX W k p a).len;exact⟨by omega,H⟩
  ·obtain⟨a,H⟩:=ux W f (k+1) p h;exact⟨by omega,H⟩
theorem oj(W:aH m ts){x:Li}:∀f k,fr m ts f k=some x->∃xs ys,cc m ts f k=x::xs++ys/\(∀p∈x::xs,p.length=x.length)/\(∀p∈ys,x.length<p.length)/\(x::xs).Pairwise λp q=>gq p q=JK
 |0,k,h=>by cases h
 |f+1,k,h=>by
  unfold fr at h;unfold cc;split at h
  ·rename_i x xs e;cases h;have a:∀p∈x::xs,p.length=k+1:=λp H=>(cX W k p (Zo.mp (e▸H:p∈gR m ts k)).1).len;refine⟨xs,cc m ts f (k+1),by rw[e],λp H=>?_,λp H=>?_,?_⟩
   ·rw[a p H,a x (by simp)]
   ·rw[a x (by simp)];exact(ux W f (k+1) p H).1
   ·rw[<-e];exact(A9 W k).filter _
  ·rename_i e;rw[e];exact oj W f (k+1) h
theorem uy(W:aH m ts):∀f k,fr m ts f k=none->cc m ts f k=[]
 |0,k,_=>rfl
 |f+1,k,h=>by
  unfold fr at h;unfold cc;split at h
  ·cases h
  ·rename_i e;rw[e];exact uy W f (k+1) h
theorem ku{p:Li}:∀f k j,j<f->p∈gR m ts (k+j)->p∈cc m ts f k
 |0,k,j,h,_=>by omega
 |f+1,k,0,_,H=>ZP _ H
 |f+1,k,j+1,h,H=>Zt _ (ku f (k+1) j (by omega) (by rw[show k+1+j=k+(j+1)by omega];exact H))
theorem A_(W:aH m ts):fr m ts 8 0=none↔∃f,iK ts f:=by
 constructor
 ·intro h;refine ZX λp=>?_;obtain⟨x,l,w,H,c,i⟩:=IB W p;obtain⟨s,r⟩:=pH W l x x w
  have g:AZ m (x::l):=λn H=>by
   rcases Zk.mp H with rfl|H
   ·exact s
   ·exact r n H
  have k:=nT W.hi H g;rw[Zn]at k;have M:[x]∈lv m ts 0:=Zs.mpr ⟨x,Pc.cb.mpr (by have:=W.lo;omega),rfl⟩;have:=kt W l [x] 0 x M rfl (pJ l x x w) H i;rw[LY]at this
  have L:1<=l.length:=by
   cases l with
   |nil=>exact absurd rfl (cg W w).2.2
   |cons=>simp
  have b:x::l∈gR m ts (0+l.length):=by
   rw[LY];refine Zo.mpr ⟨this,?_⟩;unfold aO cf;rw[ZR,ZR,Lw,LP];refine⟨Zr H,⟨Zy ?_,Zy ?_⟩,A7.mpr w⟩
   ·rw[Zn];omega
   ·rw[Zn];omega
  have:=ku 8 0 l.length (by omega) b;rw[uy W 8 0 h]at this;cases this
 ·rintro⟨f,q⟩;cases e:fr m ts 8 0 with
  |none=>rfl
  |some x=>
   obtain⟨X,y,E,_⟩:=oj W 8 0 e;obtain⟨i,b⟩:=ux W 8 0 x (by rw[E];simp);unfold aO cf at b;rw[ZR,ZR,Lw,LP]at b;obtain⟨_,⟨j,c⟩,o⟩:=b;have j:=of_decide_eq_false j;have c:=of_decide_eq_false c;cases x with
   |nil=>simp at i
   |cons a l=>have:=kn q l a a (A7.mp o);rw[Zn]at c;rw[Zr (show l.length%2=0 by omega)]at this;cases d:f a<;>rw[d]at this<;>cases this
section
variable {ps:Lq}
end
section
variable {ps:Lq}
end
section
variable {ps:Lq}
end
section
variable {ts ps:List Ti}
end
section
variable {ps:Lq}
theorem A'{j:Int}{es:List CE}(a:0<=j)(h1:j<=1000)(h:ak Φ Γ es ρ S=.ok [.int j] T):aL Φ Γ (.range es) ρ S=.ok (.items (ec 0 j.toNat)) T:=by
 have H:(-4611686018427387904:Int)<=j/\j<4611686018427387904:=by omega
 simp[aL,Res.bind,h,H]
end
section
variable {ts ps:List Ti}
theorem pK{a b:CE}{x y:Bool}(h1:ao Φ G0 a ρ S=.ok x S)(h:ao Φ G0 b ρ S=.ok y S):ao Φ G0 (.band a b) ρ S=.ok (x&&y) S:=by simp[ao,Res.bind];lia
theorem IC{p:Li}{x:Int}:aF .NotIn (.int x) (ah p) T=.ok (.bl (!decide (x∈p))) T:=by have:=iD (S:=T) (d:=ah p) (l:=p) rfl x;show aR ((fm (.int x) (ah p) T).map not) _=_;rw[this];rfl
theorem eU{j:Int}{e:CE}(H:0<=j)(h1:j<=1000)(h:aj Φ G0 e ρ T=.ok (.int j) T):aL Φ G0 (.range [e]) ρ T=.ok (.items ((ar 0 j.toNat).map D.int)) T:=by rw[<-iB];refine K70.A' H h1 ?_;simp only[ak,h,Res.bind]
theorem B7(xs:List D):bG T (.lst xs)=some (!xs.isEmpty):=rfl
end
theorem ID:gO=K70.gO:=rfl
theorem ol:eL=K70.eL:=rfl
theorem Ba:cq=K70.cq:=rfl
theorem IE:fK=K70.fK:=rfl
theorem IF:iv=K70.iv:=rfl
theorem om:gc=K70.gc:=rfl
theorem uz{f:Str}{es:List CE}(a:Φ f=some φ)(H:ak Φ G0 es ρ S=.ok ds S)(h:φ ds S=.ok d S):af Φ G0 (.expr (.call f es)::cs) ρ S=af Φ G0 cs ρ S:=by refine aV ?_;simp only[aC,aj,a,H,Res.bind,h]
theorem B8{a:CE}{x:D}(h:aj Φ G0 a ρ S=.ok x S):ak Φ G0 [a] ρ S=.ok [x] S:=by simp only[ak,h,Res.bind]
theorem kv{a b:CE}{x:D}(h:aj Φ G0 a ρ S=.ok x S)(H:aj Φ G0 b ρ S=.ok y S):ak Φ G0 [a,b] ρ S=.ok [x,y] S:=by simp only[ak,h,H,Res.bind]
theorem JJ{a b c:CE}{x z:D}(h:aj Φ G0 a ρ S=.ok x S)(H:aj Φ G0 b ρ S=.ok y S)(d:aj Φ G0 c ρ S=.ok z S):ak Φ G0 [a,b,c] ρ S=.ok [x,y,z] S:=by simp only[ak,h,H,d,Res.bind]
theorem dZ{f:Str}{es:List CE}(a:Φ f=some φ)(H:ak Φ G0 es ρ S=.ok ds S)(h:φ ds S=.ok d S):aj Φ G0 (.call f es) ρ S=.ok d S:=by simp only[aj,a,H,Res.bind,h]
theorem oo:ba .tuple [.lst xs] S=.ok (.tup xs) S:=rfl
noncomputable def bj(m:Int)(ts:Lq)(so:Li):Li:=(ar 0 m.toNat).filter λp=>so.any λq=>ap ts q p
theorem oq:zo=[.expr (.call "must_be_web" [.var 0]),.expr (.call "must_be_some" [.var 0,.var 1]),.ret (.blt .tuple [Ji])]:=rfl
theorem uA(h:Flat T)(m:Int)(ts:Lq)(a b:Int):eL [ae m ts,.int a,.int b] T=.ok (.bl (ap ts a b)) T:=by rw[ol];exact K70.t2 h m ts a b
theorem ot(H:Flat T)(a:so.length<=100){p:Int}:aj gf G0 F_ [some (.int p),some (ah so),some (ae m ts)] T=.ok (.lst (so.map λq=>.bl (ap ts q p))) T:=by
 refine ew (S:=T) (Φ:=gf) (N:=["other","web","place"]) (fr:=[none,some 2,some 0]) (tg:=.var 0) (e:=.call "have_tie" [.var 1,.var 2,.var 0]) (ds:=so) (h:=D.int) (r0:=[none,some (ae m ts),some (.int p)]) (rs:=λq=>[some (.int q),some (ae m ts),some (.int p)]) (f:=λq=>.bl (ap ts q p)) (cH (am (i:=1) rfl) rfl) rfl (λ_ _=>rfl) (by omega) λq _=>?_;refine dZ (ds:=[ae m ts,.int p,.int q]) Ge ?_ ?_
 ·exact JJ (am (i:=1) rfl) (am (i:=2) rfl) (am (i:=0) rfl)
 ·rw[uA H,uo]
theorem ou(H:Flat S)(W:aH m ts)(a:so.length<=100)(h1:∀p∈so,0<=p/\p<m)(d:so.Pairwise (· < ·)):m5 [ae m ts,ah so] S=.ok (ah (bj m ts so)) S:=by
 have w:=W.lo;have k:=W.hi;have A:cq [ae m ts] S=.ok .non S:=by rw[Ba];exact K70.j8 H W
 have b:fK [ae m ts,ah so] S=.ok .non S:=by rw[IE];exact K70.AD H a h1 d
 have g:=gX (S:=S) (Φ:=gf) (N:=["place","some","web"]) (fr:=[none,some 1,some 0]) (tg:=.var 0) (it:=.range [.idx (.var 0) (.lit (.int 0))]) (c:=.blt .any [F_]) (e:=.var 0) (ρ:=[some (ae m ts),some (ah so)]) (ds:=ar 0 m.toNat) (h:=D.int) (r0:=[none,some (ah so),some (ae m ts)]) (rs:=λp=>[some (.int p),some (ah so),some (ae m ts)]) (p:=λp=>so.any λq=>ap ts q p) (f:=D.int)
  (eU (by omega) (by omega) gn) rfl (λ_ _=>rfl) (by rw[K70.cG];omega) (λp _=>fy (cu (ot H a) ke)) (λp _=>am (i:=0) rfl)
 refine be rfl ?_ rfl H (K70.dh _);rw[oq];show af gf G0 _ [some (ae m ts),some (ah so)] S=_;rw[uz Ga (B8 (am (i:=0) rfl)) A,uz Gb (kv (am (i:=0) rfl) (am (i:=1) rfl)) b];exact bJ (K70.cW (cu g oo))
theorem ov:zq=[.expr (.call "must_be_web" [.var 0]),.asg 1 Gh,.while_ 100 (.var 1) iI,.ret (.lit (.non))]:=rfl
theorem uB(a b:Int):aF .Gt (.int a) (.int b) T=.ok (.bl (decide (a>b))) T:=rfl
theorem IG(h:1<=ns.length):bg (ah ns) (.int 0) T=.ok (.int (gI ns 0)) T:=by
 cases ns with
 |nil=>simp at h
 |cons a ns=>have:=K70.uf (S:=T) (d:=ah [a]) (ns:=[a]) rfl (by simp);simp[bg,ah,au,eD,gI,fk]
theorem IH(x:D)(xs:List D):bg (.lst (x::xs)) (.int 0) T=.ok x T:=by simp[bg,au,eD,fk]
theorem ow(F:Flat T)(W:aH m ts)(hR:∀p∈R,Rw m (k+1) p)(O:k<=8)(P:R.length<=100000):aj aN G0 Jk [some (ae m ts),some (.lst (R.map ah)),x2] T=.ok (.lst ((R.flatMap (bi ts)).map ah)) T:=by
 have V:=W.lo;have X:=W.hi;have M:=W.few;refine ff (its:=.items (R.map ah)) (S1:=T) (cH (S:=T) (am (i:=1) rfl) rfl) ?_
 have I:∀s:Li,((bi ts s).map ah).length<=28:=λs=>by rw[Zi];unfold bi dY;rw[Zi];exact ZD (Zw _ _) (ZD (ui _ _) M)
 have K:=Af (f:=ah) (g:=λs=>(bi ts s).map ah) (c:=28) (S:=T) (step:=λx a l=>match bb (.var 0) x [none,none,some (ae m ts)]with
    |some b=>(aI aN G0 [] b l).bind λk h=>if k=JK then bn aN G0 (.inner (.var 1) (.seq BX) [uX] (.emit uY)) b a h else .ok a h
    |none=>.fail) I R [] (λs J a j=>by
   have j:a.length+28<=16777216:=j;have v:=hR s J;have y:1<=s.length:=by rw[v.len];omega
   have U:s.length<=9:=by rw[v.len];omega
   have A:bb (.var 0) (ah s) [none,none,some (ae m ts)]=some [some (ah s),none,some (ae m ts)]:=rfl
   have r:gI s (s.length-1)∈s:=by
    unfold gI;have:s.length-1<s.length:=by omega
    simp[Na,Zm this]
   have u:gO [ae m ts,.int (gI s (s.length-1))] T=.ok (.tup ((bc ts (gI s (s.length-1))).map D.int)) T:=by rw[ID,K70.HI F W (v.inn _ r),n_ W]
   have H:aj aN G0 (.idx (.var 0) (.neg (.lit (.int 1)))) [some (ah s),none,some (ae m ts)] T=.ok (.int (gI s (s.length-1))) T:=by refine dI (e:=.int (-1)) (am (i:=0) rfl) ?_ (uf (S:=T) (d:=ah s) (ns:=s) rfl y);simp only[aj,Res.bind]
   have C:aL aN G0 (.seq BX) [some (ah s),none,some (ae m ts)] T=.ok (.items ((bc ts (gI s (s.length-1))).map D.int)) T:=
    cH (dZ Gk (kv (am (i:=2) rfl) H) u) rfl
   have o:=tQ (f:=D.int) (p:=λp=>decide (p>gI s 0)&& !decide (p∈s)) (e:=λp=>ah (s++[p])) (S:=T) (step:=λx a l=>match bb (.var 1) x [some (ah s),none,some (ae m ts)]with
    |some b=>(aI aN G0 [uX] b l).bind λk h=>if k=JK then bn aN G0 (.emit uY) b a h else .ok a h
    |none=>.fail) (bc ts (gI s (s.length-1))) a (λp _ a G=>by
     have n:a.length<16777216:=G;have B:bb (.var 1) (.int p) [some (ah s),none,some (ae m ts)]=some [some (ah s),some (.int p),some (ae m ts)]:=rfl
     have t:ao aN G0 uX [some (ah s),some (.int p),some (ae m ts)] T=.ok (decide (p>gI s 0)&& !decide (p∈s)) T:=
      pK (b5 (S:=T) (am (i:=1) rfl) (dI (am (i:=0) rfl) aZ (IG y)) (uB _ _)) (b5 (S:=T) (am (i:=1) rfl) (am (i:=0) rfl) IC)
     show(match bb (.var 1) (.int p) [some (ah s),none,some (ae m ts)]with
      |some b=>(aI aN G0 [uX] b T).bind λk h=>if k=JK then bn aN G0 (.emit uY) b a h else .ok a h
      |none=>.fail)=_
     rw[B]
     have e:aj aN G0 uY [some (ah s),some (.int p),some (ae m ts)] T=.ok (ah (s++[p])) T:=by
      refine eS (e:=.tup [.int p]) (am (i:=0) rfl) ?_ ?_
      ·simp only[aj,ak,Zg,Zf,Res.bind]
      ·have:=ub (S:=T) (p:=s.map D.int) (q:=[.int p]) (by rw[Zi];simp;omega);have z:ah (s++[p])=.tup (s.map D.int++[.int p]):=by unfold ah;rw[Ko];rfl
       rw[z];exact this
     cases w:(decide (p>gI s 0)&& !decide (p∈s))with
     |false=>rw[w]at t;simp only[aI,t,Res.bind,Zx,if_false]
     |true=>rw[w]at t;simp only[aI,t,Res.bind,if_true,bn,e,n]) (by have:=ui ts (gI s (s.length-1));show _<=16777216;omega)
   have E:(bi ts s).map ah=((bc ts (gI s (s.length-1))).filter λp=>decide (p>gI s 0)&& !decide (p∈s)).map λp=>ah (s++[p]):=by unfold bi dY;rw[ZA];rfl
   show(match bb (.var 0) (ah s) [none,none,some (ae m ts)]with
    |some b=>(aI aN G0 [] b T).bind λk h=>if k=JK then bn aN G0 (.inner (.var 1) (.seq BX) [uX] (.emit uY)) b a h else .ok a h
    |none=>.fail)=_
   rw[A,E];simp only[aI,Res.bind,if_true,bn,C];exact o) (by show 0+28*R.length<=16777216;omega)
 rw[List.map_flatMap];exact K
theorem ox(a:Flat T)(W:aH m ts)(hR:∀p∈R,Rw m (k+1) p)(g:k<=8)(j:R.length<=100000):aj aN G0 Jj [some (ae m ts),some (.lst (R.map ah)),x2] T=.ok (.lst ((R.filter (aO ts)).map ah)) T:=by
 refine gX (S:=T) (Φ:=aN) (N:=["places","web"]) (fr:=[none,some 0]) (tg:=.var 0) (it:=.seq (.var 1)) (c:=.call "is_ring" [.var 1,.var 0]) (e:=.var 0) (ρ:=[some (ae m ts),some (.lst (R.map ah)),x2]) (ds:=R) (h:=ah) (r0:=[none,some (ae m ts)]) (rs:=λp=>[some (ah p),some (ae m ts)]) (p:=aO ts) (f:=ah)
  (cH (am (i:=1) rfl) rfl) rfl (λ_ _=>rfl) (by omega) (λp b=>?_) (λp _=>am (i:=0) rfl)
 have H:=hR p b;refine K70.nM Gj (am (i:=1) rfl) (am (i:=0) rfl) ?_;rw[IF];exact K70.Iq a W (by rw[H.len];omega) H.inn
theorem kw{k:Nat}(h:lv m ts k=[]):∀f j,fr m ts f (k+j)=none/\lv m ts (k+j)=[]
 |0,0=>⟨rfl,h⟩
 |0,j+1=>by refine⟨rfl,?_⟩;show(lv m ts (k+j)).flatMap (bi ts)=[];rw[(kw h 0 j).2];rfl
 |f+1,j=>by have e:=(kw h 0 j).2;refine⟨?_,e⟩;unfold fr gR;rw[e];exact(kw h f (j+1)).1
theorem kx(W:aH m ts):∀k,(lv m ts k).length<=c8 (k+1)
 |0=>by have:=W.hi;show((ar 0 m.toNat).map λi=>[i]).length<=8;rw[Zi,K70.cG];omega
 |k+1=>by
  have I:=kx W k;have h:=A0 (f:=bi ts) (c:=8-(k+1)) (R:=lv m ts k) λp a=>by unfold bi;rw[Zi];exact(kg W (cX W k p a)).1
  have b:=Nat.mul_le_mul_right (8-(k+1)) I;by_cases H:k+1<=8
  ·obtain⟨C,_⟩:=nU (k+1) (by omega) H;show((lv m ts k).flatMap (bi ts)).length<=_;omega
  ·have:8-(k+1)=0:=by omega
   rw[this,Nat.mul_zero]at h;show((lv m ts k).flatMap (bi ts)).length<=_;omega
theorem Bb(W:aH m ts):lv m ts 8=[]:=by have:=kx W 8;exact List.length_eq_zero_iff.mp (Nat.le_zero.mp this)
theorem ky{i:Nat}(h:ρ[i]?=some (some (.lst (R.map ah)))):ao Φ G0 (.var i) ρ T=.ok (!R.isEmpty) T:=by cases R<;>simp[ao,h,bG,au]
theorem Bc(n:Flat T)(W:aH m ts):∀(j k f:Nat) (x2:Option D),k+j=8->j+1<=f->∃ρ',bC (ao aN G0 (.var 1)) (af aN G0 iI) f [some (ae m ts),some (.lst ((lv m ts k).map ah)),x2] T=(match fr m ts j k with
  |some x=>.ok (.ret (ah x)) T
  |none=>.ok (.next ρ') T)
 |j,k,0,_,_,h=>by omega
 |0,k,f+1,x2,s,_=>by
  have:k=8:=by omega
  subst this;refine⟨[some (ae m ts),some (.lst ((lv m ts 8).map ah)),x2],?_⟩;have a:=ky (T:=T) (Φ:=aN) (ρ:=[some (ae m ts),some (.lst ((lv m ts 8).map ah)),x2]) (i:=1) rfl;unfold bC;rw[a,Bb W];rfl
 |j+1,k,f+1,x2,s,u=>by
  have a:=ky (T:=T) (Φ:=aN) (ρ:=[some (ae m ts),some (.lst ((lv m ts k).map ah)),x2]) (i:=1) rfl;cases hR:(lv m ts k).isEmpty with
  |true=>have e:=O3.mp hR;have l:=(kw e (j+1) 0).1;replace l:fr m ts (j+1) k=none:=l;refine⟨[some (ae m ts),some (.lst ((lv m ts k).map ah)),x2],?_⟩;rw[hR]at a;unfold bC;rw[a,l];rfl
  |false=>
   rw[hR]at a;have c:=cX W k
   have b:(lv m ts k).length<=100000:=by have t:=kx W k;have:=(nU (k+1) (by omega) (by omega)).2.1;omega
   have o:=ox n W c (by omega) b (x2:=x2);have r:=ow n W c (by omega) b (x2:=some (.lst ((gR m ts k).map ah)));have E:=ky (T:=T) (Φ:=aN) (ρ:=[some (ae m ts),some (.lst ((lv m ts k).map ah)),some (.lst ((gR m ts k).map ah))]) (i:=2) (R:=gR m ts k) rfl
   have step:∀(g:Fl),af aN G0 iI [some (ae m ts),some (.lst ((lv m ts k).map ah)),x2] T=.ok g T->bC (ao aN G0 (.var 1)) (af aN G0 iI) (f+1) [some (ae m ts),some (.lst ((lv m ts k).map ah)),x2] T=(match g with
    | .next ρ'=>bC (ao aN G0 (.var 1)) (af aN G0 iI) f ρ' T
    | .cont ρ'=>bC (ao aN G0 (.var 1)) (af aN G0 iI) f ρ' T
    | .brk ρ'=>.ok (.next ρ') T
    | .ret d=>.ok (.ret d) T):=λg H=>by
    rw[bC];rw[a]
    show(Res.bind (af aN G0 iI [some (ae m ts),some (.lst ((lv m ts k).map ah)),x2] T) λF S=>match F with
     | .next ρ'=>bC (ao aN G0 (.var 1)) (af aN G0 iI) f ρ' S
     | .cont ρ'=>bC (ao aN G0 (.var 1)) (af aN G0 iI) f ρ' S
     | .brk ρ'=>.ok (.next ρ') S
     | .ret d=>.ok (.ret d) S)=_
    rw[H];rfl
   cases H:gR m ts k with
   |nil=>
    obtain⟨ρ',I⟩:=Bc n W j (k+1) f (some (.lst ((gR m ts k).map ah))) (by omega) (by omega);refine⟨ρ',?_⟩;rw[step (.next [some (ae m ts),some (.lst ((lv m ts (k+1)).map ah)),some (.lst ((gR m ts k).map ah))]) ?_]
    ·unfold fr;rw[H];rw[H]at I;exact I
    ·unfold iI;rw[aQ o];show af aN G0 _ [some (ae m ts),some (.lst ((lv m ts k).map ah)),some (.lst ((gR m ts k).map ah))] T=_;rw[H]at E;rw[aV (ρ':=[some (ae m ts),some (.lst ((lv m ts k).map ah)),some (.lst ((gR m ts k).map ah))]) (S':=T) (by rw[cr (by rw[H];exact E)];simp[af])];rw[aQ r];rfl
   |cons x X=>
    refine⟨[],?_⟩;rw[step (.ret (ah x)) ?_]
    ·unfold fr;rw[H]
    ·unfold iI;rw[aQ o];show af aN G0 _ [some (ae m ts),some (.lst ((lv m ts k).map ah)),some (.lst ((gR m ts k).map ah))] T=_;rw[H]at E⊢;refine bJ ?_;rw[cr E];show af aN G0 [.ret (.idx (.var 2) (.lit (.int 0)))] [some (ae m ts),some (.lst ((lv m ts k).map ah)),some (.lst ((x::X).map ah))] T=_;exact bJ (K70.cW (dI (am (i:=2) rfl) aZ (IH _ _)))
noncomputable def orD:Option (Li)->D
 |some x=>ah x
 |none=>.non
theorem II(H:Flat S)(W:aH m ts):jW [ae m ts] S=.ok (orD (fr m ts 8 0)) S:=by
 have w:=W.lo;have l:=W.hi;have A:cq [ae m ts] S=.ok .non S:=by rw[Ba];exact K70.j8 H W
 refine be rfl ?_ rfl H (by cases fr m ts 8 0<;>first|rfl|exact K70.dh _);rw[ov];show af aN G0 _ [some (ae m ts),none,none] S=_;rw[uz Gi (B8 (am (i:=0) rfl)) A];have d:=ew (S:=S) (Φ:=aN) (N:=["place"]) (fr:=[none]) (tg:=.var 0) (e:=.tup [.var 0]) (ds:=ar 0 m.toNat) (h:=D.int) (r0:=[none]) (rs:=λi=>[some (.int i)]) (f:=λi=>ah [i]) (it:=.range [.idx (.var 0) (.lit (.int 0))]) (ρ:=[some (ae m ts),none,none]) (eU (by omega) (by omega) gn) rfl (λ_ _=>rfl) (by rw[K70.cG];omega) (λi _=>by simp only[aj,ak,Zf,Res.bind];rfl);have g:aj aN G0 Gh [some (ae m ts),none,none] S=.ok (.lst ((ar 0 m.toNat).map λi=>ah [i])) S:=d;rw[aQ g];obtain⟨a,E⟩:=Bc H W 8 0 100 none rfl (by omega)
 have c:(lv m ts 0).map ah=(ar 0 m.toNat).map λi=>ah [i]:=by show((ar 0 m.toNat).map λi=>[i]).map ah=_;rw[ZA];rfl
 rw[c]at E;show af aN G0 _ [some (ae m ts),some (.lst ((ar 0 m.toNat).map λi=>ah [i])),none] S=_;cases b:fr m ts 8 0 with
 |some x=>rw[b]at E;exact bJ (by rw[aC];exact E)
 |none=>rw[b]at E;rw[aV (ρ':=a) (S':=S) (by rw[aC];exact E)];exact bJ (K70.cW aZ)
open Pc (cb dX gk chain gm)
theorem fj(W:aH m ts){p:Int}:p∈bj m ts so↔∃q∈so,ap ts q p=JK:=by unfold bj;rw[Zo,Z7,cb];refine⟨λh=>h.2,λh=>⟨?_,h⟩⟩;obtain⟨q,_,h⟩:=h;have:=(cg W h).2.1;have:=W.lo;omega
theorem fz(W:aH m ts):∀p∈bj m ts so,0<=p/\p<m:=λp H=>by obtain⟨q,_,h⟩:=(fj W).mp H;exact(cg W h).2.1
theorem oy:(bj m ts so).Pairwise (· < ·):=dX.sublist ZI
noncomputable def bX(m:Int)(ts:Lq):Li:=(aq [] m.toNat).filter (own [] ts m.toNat)
theorem uC:aq [] m.toNat=ar 0 m.toNat:=by unfold aq;exact Ld.mpr λ_ _=>rfl
theorem iF(W:aH m ts){p:Int}:p∈bX m ts↔(0<=p/\p<m)/\rt m ts p=p:=by unfold bX own rt;rw[Zo,uC,cb,ZK];have:=W.lo;omega
theorem Bd(W:aH m ts){c:Int}(h:c∈bX m ts):∃r,chain [] ts m.toNat c=c::r:=by
 obtain⟨b,d⟩:=(iF W).mp h;have H:c∈chain [] ts m.toNat c:=gm.mpr ⟨bT W b,d,by simp⟩;cases e:chain [] ts m.toNat c with
 |nil=>rw[e]at H;cases H
 |cons y r=>
  refine⟨r,?_⟩;have i:y∈chain [] ts m.toNat c:=by rw[e];exact Ze
  obtain⟨⟨Y,j⟩,k,_⟩:=gm.mp i;have a:(chain [] ts m.toNat c).Pairwise (· < ·):=Pc.AA;rw[e]at a H
  have f:c<=y:=by have:=Pc.nA (so:=[]) (K70.fh W) Y j;omega
  have g:y<=c:=by
   rcases Zk.mp H with z|z
   ·omega
   ·exact Int.le_of_lt ((ZG.mp a).1 c z)
  rw[Int.le_antisymm f g]
noncomputable def Be:D->D
 | .tup (x::_)=>x
 |_=>.non
theorem IJ(W:aH m ts):(bX m ts).length<=8:=by unfold bX;refine ZD (Zw _ _) ?_;rw[uC,K70.cG];have:=W.hi;omega
theorem IK(w:Flat S)(W:aH m ts){x1:Option D}:aj bd G0 (.blt .tuple [.comp JL ["piece"] [none] (.var 0) (.seq (.call "pieces" [.var 0])) [] (.emit (.idx (.var 0) (.lit (.int 0))))]) [some (ae m ts),x1,x2,x3] S=.ok (ah (bX m ts)) (S++[bW [] ts m.toNat (aq [] m.toNat)]):=by
 have q:gc [ae m ts] S=.ok (.ref S.length) (S++[bW [] ts m.toNat (aq [] m.toNat)]):=by rw[om];exact K70.HV w W
 have n:(S++[bW [] ts m.toNat (aq [] m.toNat)])[S.length]?=some (bW [] ts m.toNat (aq [] m.toNat)):=K70.eP;generalize G:S++[bW [] ts m.toNat (aq [] m.toNat)]=T at q n;have p:(bW [] ts m.toNat (aq [] m.toNat)).length<=8:=by have:=IJ W;unfold bW;rw[Zi];exact this
 have v:aL bd G0 (.seq (.call "pieces" [.var 0])) [some (ae m ts),x1,x2,x3] S=.ok (.live ((bW [] ts m.toNat (aq [] m.toNat)).length+1) (b0 S.length)) T:=by
  have H:=dZ (S:=S) (Φ:=bd) (es:=[.var 0]) (ρ:=[some (ae m ts),x1,x2,x3]) (f:="pieces") (φ:=gc) (d:=.ref S.length) zp (B8 (am (i:=0) rfl));have l:aj bd G0 (.call "pieces" [.var 0]) [some (ae m ts),x1,x2,x3] S=.ok (.ref S.length) T:=by have:=am (S:=S) (Φ:=bd) (ρ:=[some (ae m ts),x1,x2,x3]) (i:=0) (d:=ae m ts) rfl;simp only[aj,zp,ak,Zf,Res.bind,q]
  rw[aL,l];simp only[Res.bind,eE,n,L']
 have h:aj bd G0 (.comp JL ["piece"] [none] (.var 0) (.seq (.call "pieces" [.var 0])) [] (.emit (.idx (.var 0) (.lit (.int 0))))) [some (ae m ts),x1,x2,x3] S=.ok (.lst ((bX m ts).map D.int)) T:=by
  refine ff v ?_;have e:((bX m ts).map D.int)=(bW [] ts m.toNat (aq [] m.toNat)).map Be:=by unfold bW bX;rw[ZA];refine Om λc H=>?_;obtain⟨r,o⟩:=Bd W H;show D.int c=Be (iJ [] ts m.toNat c);unfold iJ;rw[o];rfl
  rw[e]
  have K:=K70.HX (S:=T) (k:=S.length) (xs:=bW [] ts m.toNat (aq [] m.toNat)) (e:=Be) (step:=λy a s=>match bb (.var 0) y [none]with
    |some b=>(aI bd G0 [] b s).bind λk g=>if k=JK then bn bd G0 (.emit (.idx (.var 0) (.lit (.int 0)))) b a g else .ok a g
    |none=>.fail) n (λx B a z=>by
     have j:a.length<16777216:=z;obtain⟨c,H,rfl⟩:=Zs.mp B;obtain⟨r,o⟩:=Bd W H;have t:bb (.var 0) (iJ [] ts m.toNat c) [none]=some [some (iJ [] ts m.toNat c)]:=rfl
     have u:aj bd G0 (.idx (.var 0) (.lit (.int 0))) [some (iJ [] ts m.toNat c)] T=.ok (Be (iJ [] ts m.toNat c)) T:=by refine dI (am (i:=0) rfl) aZ ?_;unfold iJ;rw[o];simp[bg,au,eD,fk,Be]
     show(match bb (.var 0) (iJ [] ts m.toNat c) [none]with
      |some b=>(aI bd G0 [] b T).bind λk g=>if k=JK then bn bd G0 (.emit (.idx (.var 0) (.lit (.int 0)))) b a g else .ok a g
      |none=>.fail)=_
     rw[t];simp[aI,bn,Res.bind,u,j]) (bW [] ts m.toNat (aq [] m.toNat)).length 0 [] (by omega) (by show 0+_<=16777216;omega)
  rw[List.drop_zero,K0]at K;exact K
 have A:ba .tuple [.lst ((bX m ts).map D.int)] T=.ok (ah (bX m ts)) T:=rfl;simp only[aj,ak]at h⊢;rw[h];simp only[Res.bind,A,Res.noErr]
noncomputable def unI(m:Int)(L B:Li):Li:=(ar 0 m.toNat).filter λp=>decide (p∈L)||decide (p∈B)
theorem Bf(d:m<=8)(h:∀p∈L,0<=p/\p<m)(H:L≠[]):pd S (ah L)=some ((JM 8).filter λk:Nat=>decide ((k:Int)∈L)):=by
 have e:(L.map D.int).all ib=JK:=by rw[Zv];intro x c;obtain⟨p,b,rfl⟩:=Zs.mp c;have:=h p b;simp[ib];omega
 have E:(L.map D.int).isEmpty=JL:=by
  cases L with
  |nil=>exact absurd rfl H
  |cons=>rfl
 have a:(L.map D.int).filterMap b8=L:=by rw[OF];exact Oq
 unfold pd;show(if(L.map D.int).all ib=JK/\(L.map D.int).isEmpty=JL then some ((JM 8).filter λk:Nat=>((L.map D.int).filterMap b8).contains (k:Int))else none)=_;rw[if_pos ⟨e,E⟩,a];congr 1;refine L8 λk _=>?_;rw[List.contains_eq_mem]
theorem uD{i j:Nat}{B:Li}(f:m<=8)(g:∀p∈L,0<=p/\p<m)(b:∀p∈B,0<=p/\p<m)(n:L≠[]){q:Int}(c:q∈B)(d:q∉L)(o:ρ[i]?=some (some (ah L)))(r:ρ[j]?=some (some (ah B))):aj Φ G0 (.blt .tuple [.ssU (.var i) (.var j)]) ρ S=.ok (ah (unI m L B)) S:=by
 have P:=Bf (S:=S) f g n;have s:=Bf (S:=S) f b (λz=>by rw[z]at c;cases c)
 have v:((JM 8).filter λk:Nat=>decide ((k:Int)∈L)).length<=7:=by
  have u:=b q c;have:((JM 8).filter λk:Nat=>decide ((k:Int)∈L)).length<(JM 8).length:=by rw[List.length_filter_lt_length_iff_exists];refine⟨q.toNat,Z9.mpr (by omega),?_⟩;rw[show((q.toNat:Nat):Int)=q by omega];simpa using d
  rw[K2]at this;omega
 have w:((JM 8).filter λk:Nat=>decide ((k:Int)∈B)).length<=8:=ZD (Zw _ _) (by simp)
 have e:aj Φ G0 (.ssU (.var i) (.var j)) ρ S=.ok (.lst ((unI m L B).map D.int)) S:=by
  simp only[aj,o,r,Res.bind,P,s];rw[if_pos (by omega)];congr 2
  have E:unI m L B=((JM 8).filter λk:Nat=>decide ((k:Int)∈L)||decide ((k:Int)∈B)).map λk:Nat=>(k:Int):=by
   refine gk (dX.sublist ZI) ?_ λp=>?_
   ·rw[Kb];exact(List.pairwise_lt_range.filter _).imp λh=>by omega
   ·unfold unI;rw[Zo,cb,Zs];constructor
    ·rintro⟨t,H⟩;refine⟨p.toNat,Zo.mpr ⟨Z9.mpr (by omega),?_⟩,by omega⟩;rw[show((p.toNat:Nat):Int)=p by omega];exact H
    ·rintro⟨k,a,rfl⟩;obtain⟨_,H⟩:=Zo.mp a;refine⟨?_,H⟩;rw[Lm,ZK,ZK]at H;rcases H with H|H
     ·have:=g _ H;omega
     ·have:=b _ H;omega
  rw[E,ZA]
  have l:((JM 8).filter λk=>((JM 8).filter λk:Nat=>decide ((k:Int)∈L)).contains k||((JM 8).filter λk:Nat=>decide ((k:Int)∈B)).contains k)=(JM 8).filter λk:Nat=>decide ((k:Int)∈L)||decide ((k:Int)∈B):=by
   refine L8 λk a=>?_;rw[Lh];simp only[Lm,LF,Zo,ZK];constructor
   ·rintro(h|h)
    ·exact .inl h.2
    ·exact .inr h.2
   ·rintro(h|h)
    ·exact .inl ⟨a,h⟩
    ·exact .inr ⟨a,h⟩
  rw[l];rfl
 exact cu e oo
structure Sd (m:Int)(ts:Lq)(L:Li):Prop where
 inn:∀p∈L,0<=p/\p<m
 ris:L.Pairwise (· < ·)
 rts:∀p∈bX m ts,p∈L
 fls:∀f,iK ts f->(∀p,0<=p->p<m->rt m ts p=p->f p=JL)->∀p∈L,f p=JL
theorem oz(W:aH m ts):Sd m ts (bX m ts):=
 ⟨λp H=>((iF W).mp H).1,by unfold bX;rw[uC];exact dX.sublist ZI,λ_ h=>h,λf _ h p H=>let⟨a,b⟩:=(iF W).mp H;h p a.1 a.2 b⟩
theorem Bg(W:aH m ts)(h:Sd m ts L):L≠[]:=λz=>by
 have H:0<=(0:Int)/\(0:Int)<m:=by have:=W.lo;omega
 have:=h.rts _ ((iF W).mpr ⟨hU W H,ur W H⟩);rw[z]at this;cases this
theorem oA(W:aH m ts)(h:Sd m ts L):L.length<=8:=K70.nT W.hi (h.ris.imp λh=>M' h) h.inn
theorem oB(W:aH m ts)(h:Sd m ts L):Sd m ts (unI m L (bj m ts (bj m ts L))):=by
 have w:=W.lo;refine⟨λp d=>?_,dX.sublist ZI,λp d=>?_,λf e k p d=>?_⟩
 ·have:=cb.mp (Zo.mp d).1;omega
 ·have i:=h.rts p d;have H:=h.inn p i;refine Zo.mpr ⟨cb.mpr (by omega),?_⟩;rw[Zr i,Bool.true_or]
 ·have H:=(Zo.mp d).2;rw[Lm,ZK,ZK]at H;rcases H with H|H
  ·exact h.fls f e k p H
  ·obtain⟨q,j,t⟩:=(fj W).mp H;obtain⟨r,g,T⟩:=(fj W).mp j;have a:=h.fls f e k r g;have b:=e r q T;have c:=e q p t;cases j:f q<;>cases d:f p<;>simp_all
theorem oC{B:Li}(d:∀p∈L,0<=p/\p<m)(f:L.Pairwise (· < ·))(c:∀p∈B,0<=p/\p<m){q:Int}(b:q∈B)(a:q∉L):L.length<(unI m L B).length:=by
 have e:(q::L).Nodup:=Z3.mpr ⟨a,f.imp λh=>M' h⟩
 have:=e.length_le_of_subset (l₂:=unI m L B) λp H=>by
  rcases Zk.mp H with rfl|H
  ·have:=c p b;refine Zo.mpr ⟨cb.mpr (by omega),?_⟩;rw[Zr b,NU]
  ·have:=d p H;refine Zo.mpr ⟨cb.mpr (by omega),?_⟩;rw[Zr H,Bool.true_or]
 rw[Zn]at this;omega
theorem oD:jU=[.asg 1 (.blt .tuple [.comp JL ["piece"] [none] (.var 0) (.seq (.call "pieces" [.var 0])) [] (.emit (.idx (.var 0) (.lit (.int 0))))]),.asg 2 (.call "near_some" [.var 0,.var 1]),.asg 3 (.call "near_some" [.var 0,.var 2]),.while_ 100 uW sdB,.ret Gf]:=rfl
theorem Bh{p:Li}{x:Int}:aF .In (.int x) (ah p) T=.ok (.bl (decide (x∈p))) T:=by have:=iD (S:=T) (d:=ah p) (l:=p) rfl x;show aR (fm (.int x) (ah p) T) _=_;rw[this];rfl
theorem Bi{i:Nat}{B:Li}(a:B.length<=100)(h1:ρ[1]?=some (some (ah L)))(H:ρ[i]?=some (some (ah B))):aj Φ G0 (BW i) ρ T=.ok (.lst (B.map λp=>.bl (decide (p∈L)))) T:=by refine ew (S:=T) (Φ:=Φ) (N:=["place","left"]) (fr:=[none,some 1]) (tg:=.var 0) (e:=.cmp .In (.var 0) (.var 1)) (ds:=B) (h:=D.int) (r0:=[none,some (ah L)]) (rs:=λq=>[some (.int q),some (ah L)]) (f:=λq=>.bl (decide (q∈L))) (cH (am H) rfl) ?_ (λ_ _=>rfl) (by omega) λq _=>K70.gT (am (i:=0) rfl) (am (i:=1) rfl) Bh;simp[h1]
theorem kz(W:aH m ts):(bj m ts so).length<=8:=K70.nT W.hi (oy.imp λh=>M' h) (fz W)
noncomputable def sdS(m:Int)(ts:Lq)(L:Li):bt:=[some (ae m ts),some (ah L),some (ah (bj m ts L)),some (ah (bj m ts (bj m ts L)))]
theorem Bj(l:Flat T)(W:aH m ts):∀(j f:Nat) (L:Li),Sd m ts L->9<=L.length+j->j<=f->∃b,Sd m ts b/\(∀p∈bj m ts (bj m ts b),p∈b)/\bC (ao bd G0 uW) (af bd G0 sdB) f (sdS m ts L) T=.ok (.next (sdS m ts b)) T
 |0,f,L,h,n,_=>by have:=oA W h;omega
 |j+1,0,L,h,n,x=>by omega
 |j+1,f+1,L,h,n,x=>by
  have e:ao bd G0 uW (sdS m ts L) T=.ok (!((bj m ts (bj m ts L)).all λp=>decide (p∈L))) T:=dc (fy (cu (Bi (by have:=kz W (so:=bj m ts L);omega) rfl rfl) allAt));cases g:(bj m ts (bj m ts L)).all λp=>decide (p∈L)with
  |true=>rw[g]at e;refine⟨L,h,λp y=>ZF (Zv.mp g p y),?_⟩;rw[bC,e];rfl
  |false=>
   rw[g]at e;obtain⟨q,o,H⟩:=List.all_eq_false.mp g;have H:q∉L:=by simpa using H
   have k:=oB W h;obtain⟨b,A,r,t⟩:=Bj l W j f (unI m L (bj m ts (bj m ts L))) k (by have:=oC h.inn h.ris (fz W) o H;omega) (by omega);refine⟨b,A,r,?_⟩;have B:=uD (S:=T) (Φ:=bd) (ρ:=sdS m ts L) (i:=1) (j:=3) W.hi h.inn (fz W) (Bg W h) o H rfl rfl;have u:=ou l W (so:=unI m L (bj m ts (bj m ts L))) (by have:=oA W k;omega) k.inn k.ris;have v:=ou l W (so:=bj m ts (unI m L (bj m ts (bj m ts L)))) (by have:=kz W (so:=unI m L (bj m ts (bj m ts L)));omega) (fz W) oy
   have w:af bd G0 sdB (sdS m ts L) T=.ok (.next (sdS m ts (unI m L (bj m ts (bj m ts L))))) T:=by unfold sdB;rw[aQ B];unfold sdS;show af bd G0 _ [some (ae m ts),some (ah (unI m L (bj m ts (bj m ts L)))),some (ah (bj m ts L)),some (ah (bj m ts (bj m ts L)))] T=_;rw[aQ (dZ m6 (kv (am (i:=0) rfl) (am (i:=1) rfl)) u)];show af bd G0 _ [some (ae m ts),some (ah (unI m L (bj m ts (bj m ts L)))),some (ah (bj m ts (unI m L (bj m ts (bj m ts L))))),some (ah (bj m ts (bj m ts L)))] T=_;rw[aQ (dZ m6 (kv (am (i:=0) rfl) (am (i:=2) rfl)) v)];rfl
   rw[bC,e]
   show(Res.bind (af bd G0 sdB (sdS m ts L) T) λF c=>match F with
     | .next a=>bC (ao bd G0 uW) (af bd G0 sdB) f a c
     | .cont a=>bC (ao bd G0 uW) (af bd G0 sdB) f a c
     | .brk a=>.ok (.next a) c
     | .ret d=>.ok (.ret d) c)=_
   rw[w];exact t
noncomputable def kI(L R:Li):D:=if R.any (λp=>decide (p∈L))=JK then .non else .tup [ah L,ah R]
noncomputable def sI(m:Int)(f:Int->Bool):Li:=(ar 0 m.toNat).filter λp=> !f p
noncomputable def sJ(m:Int)(f:Int->Bool):Li:=(ar 0 m.toNat).filter λp=>f p
theorem Bk(W:aH m ts)(h:Sd m ts L)(n:∀p∈bj m ts (bj m ts L),p∈L){f:Int->Bool}(j:iK ts f)(o:∀p,0<=p->p<m->rt m ts p=p->f p=JL):kI L (bj m ts L)=.tup [ah (sI m f),ah (sJ m f)]:=by
 have w:=W.lo;have e:=h.fls f j o
 have g:∀p∈bj m ts L,f p=JK:=λp H=>by obtain⟨q,i,t⟩:=(fj W).mp H;have a:=e q i;have b:=j q p t;cases H:f p<;>simp_all
 have all:∀p,0<=p/\p<m->p∈L\/p∈bj m ts L:=λp H=>
  ut (X:=λp=>p∈L\/p∈bj m ts L) W (λa b d t=>by
   rcases d with d|d
   ·exact .inr ((fj W).mpr ⟨a,d,t⟩)
   ·exact .inl (n b ((fj W).mpr ⟨a,d,t⟩))) (nY W H) (.inl (h.rts _ ((iF W).mpr ⟨hU W H,ur W H⟩)))
 have E:L=sI m f:=by
  refine gk h.ris (dX.sublist ZI) λp=>?_;unfold sI;rw[Zo,cb,Lw];constructor
  ·intro H;have:=h.inn p H;exact⟨by omega,e p H⟩
  ·rintro⟨l,c⟩;rcases all p (by omega)with z|z
   ·exact z
   ·rw[g p z]at c;cases c
 have k:bj m ts L=sJ m f:=by
  refine gk oy (dX.sublist ZI) λp=>?_;unfold sJ;rw[Zo,cb];constructor
  ·intro H;have:=fz W p H;exact⟨by omega,g p H⟩
  ·rintro⟨l,c⟩;rcases all p (by omega)with z|z
   ·rw[e p z]at c;cases c
   ·exact z
 unfold kI;rw[if_neg,<-E,<-k];intro z;obtain⟨p,H,i⟩:=Z7.mp z;have a:=g p H;rw[e p (ZF i)]at a;cases a
theorem Bl(W:aH m ts)(h:Sd m ts L)(d:∀p∈bj m ts (bj m ts L),p∈L)(g:¬∃f,iK ts f):kI L (bj m ts L)=.non:=by
 unfold kI;rw[if_pos];refine ZX λz=>g ⟨λp=>decide (p∉L),λa b t=>?_⟩;have z:∀p∈bj m ts L,p∉L:=λp c i=>z (Z7.mpr ⟨p,c,Zr i⟩)
 have all:∀p,0<=p/\p<m->p∈L\/p∈bj m ts L:=λp c=>
  ut (X:=λp=>p∈L\/p∈bj m ts L) W (λa b H t=>by
   rcases H with H|H
   ·exact .inr ((fj W).mpr ⟨a,H,t⟩)
   ·exact .inl (d b ((fj W).mpr ⟨a,H,t⟩))) (nY W c) (.inl (h.rts _ ((iF W).mpr ⟨hU W c,ur W c⟩)))
 dsimp only;rw[Ne,decide_eq_decide];intro e;rcases all a (cg W t).1 with q|q
 ·exact(e.mpr (z b ((fj W).mpr ⟨a,q,t⟩))) q
 ·exact(e.mp (z a q)) (d b ((fj W).mpr ⟨a,q,t⟩))
theorem IL(a:Flat S)(W:aH m ts):∃L,Sd m ts L/\(∀p∈bj m ts (bj m ts L),p∈L)/\jV [ae m ts] S=.ok (kI L (bj m ts L)) S:=by
 have z:=oz W;have b:Flat (S++[bW [] ts m.toNat (aq [] m.toNat)]):=a.snoc (K70.nF _ _ _ _);obtain⟨L,A,d,e⟩:=Bj b W 9 100 (bX m ts) z (by omega) (by omega);refine⟨L,A,d,?_⟩;have B:=ou b W (so:=bX m ts) (by have:=oA W z;omega) z.inn z.ris;have f:=ou b W (so:=bj m ts (bX m ts)) (by have:=kz W (so:=bX m ts);omega) (fz W) oy
 have h:bE 0 (kI L (bj m ts L))=JK:=by
  unfold kI;split
  ·rfl
  ·show(a_ 0 (L.map D.int)&&(a_ 0 ((bj m ts L).map D.int)&&JK))=JK;rw[K70.dh,K70.dh];rfl
 have j:af bd G0 jU [some (ae m ts),none,none,none] S=.ok (.ret (kI L (bj m ts L))) (S++[bW [] ts m.toNat (aq [] m.toNat)]):=by
  rw[oD,aQ (IK a W)];show af bd G0 _ [some (ae m ts),some (ah (bX m ts)),none,none] _=_;rw[aQ (dZ m6 (kv (am (i:=0) rfl) (am (i:=1) rfl)) B)];show af bd G0 _ [some (ae m ts),some (ah (bX m ts)),some (ah (bj m ts (bX m ts))),none] _=_;rw[aQ (dZ m6 (kv (am (i:=0) rfl) (am (i:=2) rfl)) f)];show af bd G0 _ (sdS m ts (bX m ts)) _=_;rw[aV (by rw[aC];exact e)];refine bJ (K70.cW ?_);have g:ao bd G0 (.blt .any [BW 2]) (sdS m ts L) (S++[bW [] ts m.toNat (aq [] m.toNat)])=.ok ((bj m ts L).any λp=>decide (p∈L)) (S++[bW [] ts m.toNat (aq [] m.toNat)]):=fy (cu (Bi (T:=S++[bW [] ts m.toNat (aq [] m.toNat)]) (Φ:=bd) (ρ:=sdS m ts L) (i:=2) (by have:=kz W (so:=L);omega) rfl rfl) ke);unfold Gf;rw[aj,g];unfold kI;cases(bj m ts L).any λp=>decide (p∈L)with
  |true=>simp only[Res.bind,if_true,aj]
  |false=>simp only[Res.bind,Zx,if_false];exact K70.tR (am (i:=1) rfl) (am (i:=2) rfl)
 show av bd G0 jU sY.length 1 [ae m ts] S=_;have c:af bd G0 jU (([ae m ts]:List D).map some++JQ (sY.length-1) none) S=_:=j;unfold av;rw[if_pos (show [ae m ts].length=1 from rfl),c];show dB S.length (kI L (bj m ts L)) (S++[bW [] ts m.toNat (aq [] m.toNat)])=_;have H:(S++[bW [] ts m.toNat (aq [] m.toNat)]).take S.length=S:=Mk rfl;rw[K70.iA (by rw[H];exact a) h,H]
end K70
namespace K70
theorem kA{k:Nat}(h:lv m ts k=[]):∀j i,cc m ts j (k+i)=[]
 |0,_=>rfl
 |j+1,i=>by show gR m ts (k+i)++cc m ts j (k+i+1)=[];have:=kA h j (i+1);rw[show k+i+1=k+(i+1)by omega,this];unfold gR;rw[(kw h 0 i).2];rfl
theorem Bm(W:aH m ts)(S:aa):∀(j k f:Nat) (F:List (Li)) (v:D) (T:aa) (x3 x4 x5:Option D),k+j=8->j+1<=f->Flat T->S.length<=T.length->T.take S.length=S->Row T v (lv m ts k)->F.length<=40320*k->
  ∃(V B y Y:Option D) (l:aa),l.take S.length=S/\
   bC (ao aY G0 uZ) (af aY G0 pD) f [some (ae m ts),some (.lst (F.map ah)),some v,x3,x4,x5] T=.ok (.next [some (ae m ts),some (.lst ((F++cc m ts j k).map ah)),V,B,y,Y]) l
 |_,_,0,_,_,_,_,_,_,_,h,_,_,_,_,_=>by omega
 |0,k,f+1,F,v,T,x3,x4,x5,u,s,p,g,H,n,o=>by
  have:k=8:=by omega
  subst this;have c:=kj n (x0:=some (ae m ts)) (x1:=some (.lst (F.map ah))) (x:=[x3,x4,x5]);rw[Bb W]at c;refine⟨some v,x3,x4,x5,T,H,?_⟩;have e:F++cc m ts 0 8=F:=Z4 F;rw[e,bC,c];rfl
 |j+1,k,f+1,F,v,T,x3,x4,x5,u,s,p,g,H,n,o=>by
  have c:=kj n (x0:=some (ae m ts)) (x1:=some (.lst (F.map ah))) (x:=[x3,x4,x5]);cases b:(lv m ts k).isEmpty with
  |true=>rw[b]at c;refine⟨some v,x3,x4,x5,T,H,?_⟩;have e:cc m ts (j+1) k=[]:=kA (O3.mp b) (j+1) 0;rw[e,Z4,bC,c];rfl
  |false=>
   rw[b]at c;have hR:=cX W k;have w:=kx W k;obtain⟨J,K,L⟩:=nU (k+1) (by omega) (by omega);obtain⟨y,Y,E⟩:=um p W (by omega) (by omega) n hR w (F:=F) (by omega) (x3:=x3) (x4:=x4) (x5:=x5);have q:Flat (T++[((lv m ts k).flatMap (bi ts)).map ah]):=p.snoc (ue _);have t:((lv m ts k).filter (aO ts)).length<=(lv m ts k).length:=Zw _ _;obtain⟨V,Z,C,G,l,A,I⟩:=Bm W S j (k+1) f (F++(lv m ts k).filter (aO ts)) (.ref T.length) (T++[((lv m ts k).flatMap (bi ts)).map ah]) (some (.ref T.length)) y Y (by omega) (by omega) q (by rw[Zq];omega) (by rw[List.take_append_of_le_length g];exact H) (.inr ⟨T.length,rfl,eP⟩) (by rw[Zq];omega);refine⟨V,Z,C,G,l,A,?_⟩;have e:F++cc m ts (j+1) k=F++(lv m ts k).filter (aO ts)++cc m ts j (k+1):=(Kn _ _ _).symm;rw[e,bC,c]
   show(Res.bind (af aY G0 pD [some (ae m ts),some (.lst (F.map ah)),some v,x3,x4,x5] T) λr i=>match r with
    | .next a=>bC (ao aY G0 uZ) (af aY G0 pD) f a i
    | .cont a=>bC (ao aY G0 uZ) (af aY G0 pD) f a i
    | .brk a=>.ok (.next a) i
    | .ret d=>.ok (.ret d) i)=_
   rw[E];exact I
theorem IM(g:Flat S)(W:aH m ts):gQ [ae m ts] S=.ok (.lst ((cc m ts 8 0).map ah)) S:=by
 have t:=W.lo;have u:=W.hi;have o:bg (ae m ts) (.int 0) S=.ok (.int m) S:=rfl;obtain⟨v,y,Y,p,T,b,E⟩:=Bm W S 8 0 100 [] (.lst ((lv m ts 0).map ah)) S none none none rfl (by omega) g (Zl _) (Nb) (.inl rfl) (by simp);rw[K0,show lv m ts 0=(ar 0 m.toNat).map λi=>[i]from rfl]at E;have H:aj aY G0 (.idx (.var 0) (.lit (.int 0))) [some (ae m ts),some (.lst []),none,none,none,none] S=.ok (.int m) S:=dI (am (i:=0) rfl) aZ o
 have l:aL aY G0 (.range [.idx (.var 0) (.lit (.int 0))]) [some (ae m ts),some (.lst []),none,none,none,none] S=.ok (.items ((ar 0 m.toNat).map D.int)) S:=by generalize(CE.idx (.var 0) (.lit (.int 0)))=q at H⊢;simp only[aL,ak,H,Res.bind];rw[if_pos (by omega),iB]
 have k:=ew (S:=S) (Φ:=aY) (N:=["_law_place"]) (fr:=[none]) (tg:=.var 0) (e:=.tup [.var 0]) (ds:=ar 0 m.toNat) (h:=D.int) (r0:=[none]) (rs:=λi=>[some (.int i)]) (f:=λi=>ah [i]) l rfl (λ_ _=>rfl) (by rw[K70.cG];omega) (λi _=>by simp only[aj,ak,Res.bind,Zf];rfl)
 have n:af aY G0 j0 [some (ae m ts),none,none,none,none,none] S=.ok (.ret (.lst ((cc m ts 8 0).map ah))) T:=by
  rw[nX];rw[aQ (d:=.lst []) (S':=S) (by simp only[aj,ak,Res.bind,Zx,if_false])];show af _ _ _ [some (ae m ts),some (.lst []),none,none,none,none] S=_;rw[aQ k];show af _ _ _ [some (ae m ts),some (.lst []),some (.lst ((ar 0 m.toNat).map λi=>ah [i])),none,none,none] S=_;refine(aV (ρ':=[some (ae m ts),some (.lst ((cc m ts 8 0).map ah)),v,y,Y,p]) (S':=T) ?_).trans ?_
  ·rw[aC];rw[ZA]at E;exact E
  ·exact bJ (K70.cW (am (i:=1) rfl))
 show av aY G0 j0 tj.length 1 [ae m ts] S=_;have c:af aY G0 j0 (([ae m ts]:List D).map some++JQ (tj.length-1) none) S=_:=n;unfold av;rw[if_pos (show [ae m ts].length=1 from rfl),c];show dB S.length (.lst ((cc m ts 8 0).map ah)) T=_;have a:bE 0 (.lst ((cc m ts 8 0).map ah))=JK:=ue _;rw[K70.iA (by rw[b];exact g) a,b]
open Pc (cb dX gk nm nv)
noncomputable def gu(a:Int)(ns:Li)(b:Int):Li:=if 0<=nm ns a/\nm ns b<0 then ns.set b.toNat (1-nm ns a)else ns
noncomputable def gr(ts:Lq)(ns:Li)(a:Int):Li:=(bc ts a).foldl (gu a) ns
noncomputable def cj(m:Int)(ts:Lq)(ns:Li):Li:=(ar 0 m.toNat).foldl (gr ts) ns
noncomputable def oE(m:Int)(ts:Lq)(ns:Li):Li:=(ar 0 m.toNat).foldl (λr _=>cj m ts r) ns
noncomputable def iL(m:Int)(ts:Lq)(ns:Li)(p:Int):Li:=if nm ns p<0 then oE m ts (ns.set p.toNat 0)else ns
noncomputable def bA(m:Int)(ts:Lq):Li:=(ar 0 m.toNat).foldl (iL m ts) (JQ m.toNat (-1))
def IP(m:Int)(ts:Lq)(f:Int->Bool):Prop:=iK ts f/\∀p,0<=p->p<m->rt m ts p=p->f p=JL
noncomputable def bI:Bool->Int
 |true=>1
 |false=>0
structure Gd (m:Int)(ts:Lq)(ns:Li):Prop where
 len:ns.length=m.toNat
 val:∀p,0<=p/\p<m->nm ns p= -1\/nm ns p=0\/nm ns p=1
 col:∀f,IP m ts f->∀p,0<=p/\p<m->0<=nm ns p->nm ns p=bI (f p)
theorem Bn{x y:Bool}(h:x≠y):bI y=1-bI x:=by cases x<;>cases y<;>first|rfl|exact absurd rfl h
theorem d8(W:aH m ts)(h:ns.length=m.toNat){b x:Int}(H:0<=b/\b<m){p:Int}(a:0<=p/\p<m):nm (ns.set b.toNat x) p=if p=b then x else nm ns p:=
 nv H.1 (by have:=W.lo;omega) a.1
theorem uE(W:aH m ts){a b:Int}(G:Gd m ts ns)(t:ap ts a b=JK):Gd m ts (gu a ns b):=by
 unfold gu;obtain⟨g,i,_⟩:=cg W t;split
 ·rename_i h;have v:=G.val a g;refine⟨by rw[Ll];exact G.len,λp H=>?_,λf d p H c=>?_⟩
  ·rw[d8 W G.len i H];split
   ·omega
   ·exact G.val p H
  ·rw[d8 W G.len i H]at c⊢;by_cases e:p=b
   ·rw[if_pos e,e,G.col f d a g h.1];exact(Bn (d.1 a b t)).symm
   ·rw[if_neg e]at c⊢;exact G.col f d p H c
 ·exact G
structure Kp (m:Int)(X:Int->Prop)(ns r:Li):Prop where
 stay:∀p,0<=p/\p<m->0<=nm ns p->0<=nm r p
 inX:(∀p,0<=p/\p<m->0<=nm ns p->X p)->∀p,0<=p/\p<m->0<=nm r p->X p
theorem oF{X:Int->Prop}:Kp m X ns ns:=⟨λ_ _ h=>h,λh=>h⟩
theorem Kp.trans{X:Int->Prop}{a b c:Li}(h:Kp m X a b)(k:Kp m X b c):Kp m X a c:=⟨λp H q=>k.stay p H (h.stay p H q),λq=>k.inX (h.inX q)⟩
theorem uF(W:aH m ts){X:Int->Prop}(g:∀a b,X a->ap ts a b=JK->X b){a b:Int}(G:Gd m ts ns)(t:ap ts a b=JK):Kp m X ns (gu a ns b)/\(0<=nm ns a->0<=nm (gu a ns b) b):=by
 obtain⟨f,c,_⟩:=cg W t;have v:=G.val a f;unfold gu;split
 ·rename_i h;refine⟨⟨λp d q=>?_,λq p d H=>?_⟩,λ_=>?_⟩
  ·rw[d8 W G.len c d];split<;>omega
  ·rw[d8 W G.len c d]at H;by_cases e:p=b
   ·rw[e];exact g a b (q a f h.1) t
   ·rw[if_neg e]at H;exact q p d H
  ·rw[d8 W G.len c c,if_pos rfl];omega
 ·rename_i h;exact⟨oF,λH=>by omega⟩
theorem Bo(W:aH m ts){X:Int->Prop}(f:∀a b,X a->ap ts a b=JK->X b){a:Int}(i:0<=a/\a<m):∀(bs:Li) (ns:Li),Gd m ts ns->(∀b∈bs,ap ts a b=JK)->Gd m ts (bs.foldl (gu a) ns)/\Kp m X ns (bs.foldl (gu a) ns)/\(0<=nm ns a->∀b∈bs,0<=nm (bs.foldl (gu a) ns) b)
 | [],ns,G,_=>⟨G,oF,λ_ b H=>by cases H⟩
 |b::bs,ns,G,h=>by
  have t:=h b Ze;obtain⟨K,j⟩:=uF W f G t;obtain⟨g,k,c⟩:=Bo W f i bs (gu a ns b) (uE W G t) λb H=>h b (Zc _ H);refine⟨g,K.trans k,λe C d=>?_⟩;rcases Zk.mp d with rfl|d
  ·exact k.stay C (cg W t).2.1 (j e)
  ·exact c (K.stay a i e) C d
theorem kB(W:aH m ts){X:Int->Prop}(i:∀a b,X a->ap ts a b=JK->X b):∀(as:Li) (ns:Li),Gd m ts ns->(∀a∈as,0<=a/\a<m)->Gd m ts (as.foldl (gr ts) ns)/\Kp m X ns (as.foldl (gr ts) ns)/\∀a∈as,0<=nm ns a->∀b,ap ts a b=JK->0<=nm (as.foldl (gr ts) ns) b
 | [],ns,G,_=>⟨G,oF,λa d=>by cases d⟩
 |a::as,ns,G,h=>by
  have d:=h a Ze;obtain⟨j,K,C⟩:=Bo W i d (bc ts a) ns G λb e=>(kq W).mp e;obtain⟨g,k,c⟩:=kB W i as (gr ts ns a) j λb e=>h b (Zc _ e);refine⟨g,K.trans k,λA H f b t=>?_⟩;rcases Zk.mp H with rfl|H
  ·exact k.stay b (cg W t).2.1 (C f b ((kq W).mpr t))
  ·exact c A H (K.stay A (cg W t).1 f) b t
theorem iG(W:aH m ts):∀a∈ar 0 m.toNat,0<=a/\a<m:=λa h=>by have:=cb.mp h;have:=W.lo;omega
theorem Bp(W:aH m ts){X:Int->Prop}(H:∀a b,X a->ap ts a b=JK->X b)(G:Gd m ts ns):Gd m ts (cj m ts ns)/\Kp m X ns (cj m ts ns)/\∀a b,0<=nm ns a->ap ts a b=JK->0<=nm (cj m ts ns) b:=by obtain⟨g,k,c⟩:=kB W H (ar 0 m.toNat) ns G (iG W);refine⟨g,k,λa b h t=>c a ?_ h b t⟩;have:=(cg W t).1;exact cb.mpr (by omega)
noncomputable def dL(m:Int)(ts:Lq):Nat->Li->Li
 |0,ns=>ns
 |k+1,ns=>dL m ts k (cj m ts ns)
theorem Bq:∀(l:Li) (ns:Li),l.foldl (λr _=>cj m ts r) ns=dL m ts l.length ns
 | [],_=>rfl
 |_::l,ns=>Bq l (cj m ts ns)
def Cl(m:Int)(ts:Lq)(ns:Li):Prop:=∀a b,0<=nm ns a->ap ts a b=JK->0<=nm ns b
theorem uG(W:aH m ts){X:Int->Prop}(h:∀a b,X a->ap ts a b=JK->X b):∀(k:Nat) (ns:Li),Gd m ts ns->Gd m ts (dL m ts k ns)/\Kp m X ns (dL m ts k ns)
 |0,ns,G=>⟨G,oF⟩
 |k+1,ns,G=>by obtain⟨g,K,_⟩:=Bp W h G;obtain⟨c,d⟩:=uG W h k (cj m ts ns) g;exact⟨c,K.trans d⟩
noncomputable def gY(m:Int)(ns:Li):Li:=(ar 0 m.toNat).filter λp=>decide (0<=nm ns p)
theorem kC(W:aH m ts){p:Int}:p∈gY m ns↔(0<=p/\p<m)/\0<=nm ns p:=by unfold gY;have:=W.lo;rw[Zo,cb,ZK];omega
theorem Br(W:aH m ts):∀(k:Nat) (ns:Li),Gd m ts ns->m.toNat<(gY m ns).length+k->Cl m ts (dL m ts k ns)
 |k,ns,G,h=>by
  by_cases f:Cl m ts ns
  ·obtain⟨g,K⟩:=uG W (X:=λp=>0<=nm ns p) f k ns G;intro a b H t;obtain⟨n,d,_⟩:=cg W t;exact K.stay b d (f a b (K.inX (λ_ _ q=>q) a n H) t)
  ·cases k with
   |zero=>
    exfalso;have:(gY m ns).length<=m.toNat:=by refine ZD (Zw _ _) ?_;rw[K70.cG];exact Zl _
    omega
   |succ k=>
    obtain⟨g,K,c⟩:=Bp W (X:=λ_=>True) (λ_ _ _ _=>trivial) G;refine Br W k (cj m ts ns) g ?_;have i:∃a b,0<=nm ns a/\ap ts a b=JK/\¬0<=nm ns b:=by refine ZX λz=>f λa b H t=>ZX λq=>z ⟨a,b,H,t,q⟩
    obtain⟨a,b,H,t,d⟩:=i;obtain⟨n,e,_⟩:=cg W t;have r:(b::gY m ns).Nodup:=Z3.mpr ⟨λz=>d ((kC W).mp z).2,(dX.sublist ZI).imp λh=>M' h⟩
    have:=r.length_le_of_subset (l₂:=gY m (cj m ts ns)) λp j=>by
     rcases Zk.mp j with rfl|j
     ·exact(kC W).mpr ⟨e,c a p H t⟩
     ·obtain⟨l,o⟩:=(kC W).mp j;exact(kC W).mpr ⟨l,K.stay p l o⟩
    rw[Zn]at this;omega
theorem Bs(W:aH m ts){p:Int}(H:0<=p/\p<m)(G:Gd m ts ns)(C:Cl m ts ns)(B:∀q,0<=q->q<p->0<=nm ns q):Gd m ts (iL m ts ns p)/\Cl m ts (iL m ts ns p)/\∀q,0<=q->q<p+1->0<=nm (iL m ts ns p) q:=by
 unfold iL;split
 ·rename_i h
  have n:rt m ts p=p:=by
   have c:=A2 W H;have k:=hU W H;rcases OQ c with z|z
   ·have:=ut (X:=λq=>0<=nm ns q) W C (nY W H) (B _ k.1 z);omega
   ·exact z
  have d:Gd m ts (ns.set p.toNat 0):=by
   refine⟨by rw[Ll];exact G.len,λq a=>?_,λf i q a b=>?_⟩
   ·rw[d8 W G.len H a];split
    ·omega
    ·exact G.val q a
   ·rw[d8 W G.len H a]at b⊢;by_cases e:q=p
    ·rw[if_pos e,e,i.2 p H.1 H.2 n];rfl
    ·rw[if_neg e]at b⊢;exact G.col f i q a b
  unfold oE;rw[Bq,K70.cG];obtain⟨g,K⟩:=uG W (X:=λ_=>True) (λ_ _ _ _=>trivial) m.toNat _ d
  have j:∀q,0<=q/\q<m->q<=p->0<=nm (ns.set p.toNat 0) q:=λq a l=>by
   rw[d8 W G.len H a];split
   ·omega
   ·exact B q a.1 (by omega)
  refine⟨g,Br W m.toNat _ d ?_,λq b c=>K.stay q (by omega) (j q (by omega) (by omega))⟩;have:p∈gY m (ns.set p.toNat 0):=(kC W).mpr ⟨H,j p H (Ou _)⟩;have:=List.length_pos_of_mem this;omega
 ·rename_i h;refine⟨G,C,λq b c=>?_⟩;by_cases e:q=p
  ·rw[e];omega
  ·exact B q b (by omega)
theorem IQ(l:Int)(n:Nat):ar l (n+1)=l::ar (l+1) n:=rfl
theorem Bt(W:aH m ts):∀(n:Nat) (p:Int) (ns:Li),0<=p->p+n=m->Gd m ts ns->Cl m ts ns->(∀q,0<=q->q<p->0<=nm ns q)->Gd m ts ((ar p n).foldl (iL m ts) ns)/\∀q,0<=q->q<m->0<=nm ((ar p n).foldl (iL m ts) ns) q
 |0,p,ns,H,h,G,C,B=>⟨G,λq a b=>B q a (by omega)⟩
 |n+1,p,ns,H,h,G,C,B=>by obtain⟨g,c,b⟩:=Bs W ⟨H,by omega⟩ G C B;rw[IQ];exact Bt W n (p+1) (iL m ts ns p) (by omega) (by omega) g c b
theorem kD(W:aH m ts):Gd m ts (bA m ts)/\∀q,0<=q->q<m->0<=nm (bA m ts) q:=by
 have w:=W.lo;have c:∀p,0<=p/\p<m->nm (JQ m.toNat (-1)) p= -1:=λp H=>by unfold nm;rw[K6,List.getElem?_replicate,if_pos (by omega)];rfl
 refine Bt W m.toNat 0 _ (Ou _) (by omega) ⟨by simp,λp H=>.inl (c p H),λf e p H h=>?_⟩ (λa b h t=>?_) λq h d=>by omega
 ·rw[c p H]at h;omega
 ·rw[c a (cg W t).1]at h;omega
noncomputable def cI(m:Int)(ns:Li)(c:Int):Li:=(ar 0 m.toNat).filter λp=>decide (nm ns p=c)
noncomputable def anyB(ts:Lq)(ns:Li):Bool:=ts.any λt=>decide (nm ns t.1=nm ns t.2)
theorem IS(W:aH m ts){t:Int×Int}(h:t∈ts):ap ts t.1 t.2=JK:=by have:=W.tie t h;unfold ap;rw[LV (by omega),LL (by omega)];exact Zr h
theorem oG(W:aH m ts){f:Int->Bool}(a:IP m ts f):anyB ts (bA m ts)=JL/\cI m (bA m ts) 0=sI m f/\cI m (bA m ts) 1=sJ m f:=by
 obtain⟨G,B⟩:=kD W;have e:∀p,0<=p/\p<m->nm (bA m ts) p=bI (f p):=λp H=>G.col f a p H (B p H.1 H.2);refine⟨?_,?_,?_⟩
 ·unfold anyB;rw[List.any_eq_false];intro t b;have h:=W.tie t b;rw[ZK,e t.1 (by omega),e t.2 (by omega)];have:=a.1 _ _ (IS W b);cases c:f t.1<;>cases d:f t.2<;>simp_all[bI]
 ·unfold cI sI;refine L8 λp H=>?_;rw[e p (iG W p H)];cases f p<;>rfl
 ·unfold cI sJ;refine L8 λp H=>?_;rw[e p (iG W p H)];cases f p<;>rfl
theorem uH(W:aH m ts)(h:¬∃f,iK ts f):anyB ts (bA m ts)=JK:=by
 obtain⟨G,B⟩:=kD W;refine ZX λz=>h ⟨λp=>decide (nm (bA m ts) p=0),λa b t=>?_⟩;obtain⟨H,c,_⟩:=cg W t;have v:=G.val a H;have V:=G.val b c;have e:=B a H.1 H.2;have g:=B b c.1 c.2
 have d:nm (bA m ts) a≠nm (bA m ts) b:=λq=>z (by
  unfold anyB;rw[Z7];refine⟨_,ZF t,Zr ?_⟩;dsimp only;rcases N_ a b with y|y
  ·rw[LV y,LL y];exact q
  ·rw[Md y,Mn y];exact q.symm)
 dsimp only;rw[Ne,decide_eq_decide];omega
end K70
namespace K70
open Pc (nm cb)
theorem IT:fM=K70.fM:=rfl
theorem IU:gQ=K70.gQ:=rfl
theorem kE{a c:Type}{h:a->D}{step:D->bt->aa->Res Fl}{f:c->a->c}(J:c->bt->aa->Prop):∀(xs:List a),(∀x∈xs,∀b ρ S,J b ρ S->∃ρ' S',J (f b x) ρ' S'/\step (h x) ρ S=.ok (.next ρ') S')->∀b ρ S,J b ρ S->∃ρ' S',J (xs.foldl f b) ρ' S'/\cC step (xs.map h) ρ S=.ok (.next ρ') S'
 | [],_,b,ρ,S,j=>⟨ρ,S,j,rfl⟩
 |x::xs,H,b,ρ,S,j=>by obtain⟨d,g,m,E⟩:=H x Ze b ρ S j;obtain⟨e,i,n,k⟩:=kE J xs (λy l=>H y (Zc _ l)) (f b x) d g m;refine⟨e,i,n,?_⟩;rw[Kj];unfold cC;rw[E];exact k
theorem oH:j1=[.asg 1 B1,.for_ (.var 2) (.range [.idx (.var 0) (.lit (.int 0))]) tq,.ite (.blt .any [B2]) [.ret (.lit (.non))] [],.asg 6 (.blt .tuple [zJ 0]),.ret (.tup [.var 6,.blt .tuple [zJ 1]])]:=rfl
noncomputable def bx(S:aa)(ns:Li):aa:=S++[ns.map D.int]
theorem Bu(ns:Li):au (bx S ns) (.ref S.length)=some (ns.map D.int):=by show(bx S ns)[S.length]?=_;exact K70.eP
theorem oI(h:Flat S)(ns:Li):Flat (bx S ns):=h.snoc (K70.dh ns)
theorem iH{i j:Nat}{p:Int}(h:0<=p)(h1:p<ns.length)(H:ρ[i]?=some (some (.ref S.length)))(a:ρ[j]?=some (some (.int p))):aj Φ G0 (.idx (.var i) (.var j)) ρ (bx S ns)=.ok (.int (nm ns p)) (bx S ns):=
 dI (am H) (am a) (HS (Bu ns) h h1)
theorem kF(a b:Int):aF .Lt (.int a) (.int b) T=.ok (.bl (decide (a<b))) T:=rfl
theorem uI(a b:Int):aF .GtE (.int a) (.int b) T=.ok (.bl (decide (a>=b))) T:=rfl
theorem oJ(a b:Int):aF .Eq (.int a) (.int b) T=.ok (.bl (decide (a=b))) T:=by show Res.ok (D.bl (a==b)) T=_;congr 2
theorem Bv{i j:Nat}{e:CE}{p x:Int}(h:0<=p)(h1:p<ns.length)(a:ρ[i]?=some (some (.ref S.length)))(b:ρ[j]?=some (some (.int p)))(H:aj Φ G0 e ρ (bx S ns)=.ok (.int x) (bx S ns)):af Φ G0 (.set (.var i) (.var j) e::cs) ρ (bx S ns)=af Φ G0 cs ρ (bx S (ns.set p.toNat x)):=by refine aV ?_;have:=HU (S:=S) (x:=x) h h1;simp only[aC,H,Res.bind,aj,a,b];unfold bx;rw[this]
abbrev Φs:=tr
theorem oM{a b:Int}(n:ns.length=m.toNat)(f:0<=a/\a<m)(c:0<=b/\b<m):af Φs G0 zG [x0,some (.ref S.length),x2,x3,some (.int a),some (.int b),x6] (bx S ns)=.ok (.next [x0,some (.ref S.length),x2,x3,some (.int a),some (.int b),x6]) (bx S (gu a ns b)):=by
 have e:=iH (S:=S) (Φ:=Φs) (ρ:=[x0,some (.ref S.length),x2,x3,some (.int a),some (.int b),x6]) (i:=1) (j:=4) (ns:=ns) f.1 (by omega) rfl rfl;have E:=iH (S:=S) (Φ:=Φs) (ρ:=[x0,some (.ref S.length),x2,x3,some (.int a),some (.int b),x6]) (i:=1) (j:=5) (ns:=ns) c.1 (by omega) rfl rfl;have t:ao Φs G0 Jm [x0,some (.ref S.length),x2,x3,some (.int a),some (.int b),x6] (bx S ns)=.ok (decide (nm ns a>=0)&&decide (nm ns b<0)) (bx S ns):=pK (b5 e aZ (uI _ _)) (b5 E aZ (kF _ _));have d:aj Φs G0 Jn [x0,some (.ref S.length),x2,x3,some (.int a),some (.int b),x6] (bx S ns)=.ok (.int (1-nm ns a)) (bx S ns):=eS aZ e (hJ _ _);unfold zG;refine(aV ?_).trans rfl;rw[cr t];by_cases h:0<=nm ns a/\nm ns b<0
 ·rw[Zr (show nm ns a>=0 from h.1),Zr h.2,Ma,if_pos rfl,Bv c.1 (by omega) rfl rfl d];unfold gu;rw[if_pos h];rfl
 ·have g:(decide (nm ns a>=0)&&decide (nm ns b<0))=JL:=by
   rw[Bool.and_eq_false_iff];by_cases H:nm ns a>=0
   ·exact .inr (Zy λz=>h ⟨H,z⟩)
   ·exact .inl (Zy H)
  rw[g];unfold gu;rw[if_neg h];simp[af]
theorem oN{a b:Int}:(gu a ns b).length=ns.length:=by
 unfold gu;split
 ·rw[Ll]
 ·rfl
theorem oO(n:Flat S)(W:aH m ts){a:Int}(p:ns.length=m.toNat)(o:0<=a/\a<m):(gr ts ns a).length=m.toNat/\∃y,af Φs G0 zH [some (ae m ts),some (.ref S.length),x2,x3,some (.int a),x5,x6] (bx S ns)=.ok (.next [some (ae m ts),some (.ref S.length),x2,x3,some (.int a),y,x6]) (bx S (gr ts ns a)):=by
 have q:fM [ae m ts,.int a] (bx S ns)=.ok (.lst ((bc ts a).map D.int)) (bx S ns):=by rw[IT];exact K70.A1 (oI n ns) W a
 have l:aL Φs G0 (.seq (.call "_law_near" [.var 0,.var 4])) [some (ae m ts),some (.ref S.length),x2,x3,some (.int a),x5,x6] (bx S ns)=.ok (.items ((bc ts a).map D.int)) (bx S ns):=cH (dZ GJ (kv (am (i:=0) rfl) (am (i:=4) rfl)) q) rfl
 obtain⟨c,u,⟨J,r,y,s⟩,e⟩:=kE (h:=D.int) (f:=gu a) (step:=λx d S=>match aE (.var 5) x d with
   |some c=>af Φs G0 zG c S
   |none=>.fail) (λns d T=>ns.length=m.toNat/\T=bx S ns/\∃y,d=[some (ae m ts),some (.ref S.length),x2,x3,some (.int a),y,x6]) (bc ts a) (λb H ns d T ⟨g,j,y,k⟩=>by subst j k;have H:=(cg W ((kq W).mp H)).2.1;exact⟨_,_,⟨oN.trans g,rfl,_,rfl⟩,oM g o H⟩) ns [some (ae m ts),some (.ref S.length),x2,x3,some (.int a),x5,x6] (bx S ns) ⟨p,rfl,_,rfl⟩
 subst r s;refine⟨J,y,?_⟩;unfold zH;exact(aV ((eN (Γ:=G0) (t:=.var 5) (body:=zG) l).trans e)).trans rfl
theorem oP(k:Flat S)(W:aH m ts)(o:ns.length=m.toNat):(cj m ts ns).length=m.toNat/\∃b Y,af Φs G0 zI [some (ae m ts),some (.ref S.length),x2,x3,x4,x5,x6] (bx S ns)=.ok (.next [some (ae m ts),some (.ref S.length),x2,x3,b,Y,x6]) (bx S (cj m ts ns)):=by
 have w:=W.lo;have u:=W.hi;have j:aL Φs G0 (.range [.idx (.var 0) (.lit (.int 0))]) [some (ae m ts),some (.ref S.length),x2,x3,x4,x5,x6] (bx S ns)=.ok (.items ((ar 0 m.toNat).map D.int)) (bx S ns):=eU (by omega) (by omega) gn
 obtain⟨c,s,⟨J,p,b,Y,r⟩,e⟩:=kE (h:=D.int) (f:=gr ts) (step:=λx d S=>match aE (.var 4) x d with
   |some c=>af Φs G0 zH c S
   |none=>.fail) (λns d T=>ns.length=m.toNat/\T=bx S ns/\∃b Y,d=[some (ae m ts),some (.ref S.length),x2,x3,b,Y,x6]) (ar 0 m.toNat) (λa n ns d T ⟨H,g,b,Y,i⟩=>by subst g i;obtain⟨l,y,q⟩:=oO k W H (iG W a n) (x2:=x2) (x3:=x3) (x5:=Y) (x6:=x6);exact⟨_,_,⟨l,rfl,_,_,rfl⟩,q⟩) ns [some (ae m ts),some (.ref S.length),x2,x3,x4,x5,x6] (bx S ns) ⟨o,rfl,_,_,rfl⟩
 subst p r;refine⟨J,b,Y,?_⟩;unfold zI;exact(aV ((eN (Γ:=G0) (t:=.var 4) (body:=zH) j).trans e)).trans rfl
theorem oQ(n:Flat S)(W:aH m ts){p:Int}(o:ns.length=m.toNat)(s:0<=p/\p<m):(oE m ts (ns.set p.toNat 0)).length=m.toNat/\∃c Y b,af Φs G0 GI [some (ae m ts),some (.ref S.length),some (.int p),x3,x4,x5,x6] (bx S ns)=.ok (.next [some (ae m ts),some (.ref S.length),some (.int p),c,Y,b,x6]) (bx S (oE m ts (ns.set p.toNat 0))):=by
 have B:=W.lo;have C:=W.hi;have k:aL Φs G0 (.range [.idx (.var 0) (.lit (.int 0))]) [some (ae m ts),some (.ref S.length),some (.int p),x3,x4,x5,x6] (bx S (ns.set p.toNat 0))=.ok (.items ((ar 0 m.toNat).map D.int)) (bx S (ns.set p.toNat 0)):=eU (by omega) (by omega) gn
 obtain⟨d,w,⟨J,u,c,Y,b,v⟩,e⟩:=kE (h:=D.int) (f:=λr (_:Int)=>cj m ts r) (step:=λx g S=>match aE (.var 3) x g with
   |some d=>af Φs G0 zI d S
   |none=>.fail) (λns g T=>ns.length=m.toNat/\T=bx S ns/\∃c Y b,g=[some (ae m ts),some (.ref S.length),some (.int p),c,Y,b,x6]) (ar 0 m.toNat) (λa A ns g T ⟨H,i,c,Y,b,j⟩=>by subst i j;obtain⟨l,y,z,q⟩:=oP n W H (x2:=some (.int p)) (x3:=some (.int a)) (x4:=Y) (x5:=b) (x6:=x6);exact⟨_,_,⟨l,rfl,_,_,_,rfl⟩,q⟩) (ns.set p.toNat 0) [some (ae m ts),some (.ref S.length),some (.int p),x3,x4,x5,x6] (bx S (ns.set p.toNat 0)) ⟨by rw[Ll];exact o,rfl,_,_,_,rfl⟩
 subst u v;refine⟨J,c,Y,b,?_⟩;unfold GI;rw[Bv s.1 (by omega) rfl rfl aZ];exact(aV ((eN (Γ:=G0) (t:=.var 3) (body:=zI) k).trans e)).trans rfl
theorem oR(d:Flat S)(W:aH m ts){p:Int}(H:ns.length=m.toNat)(c:0<=p/\p<m):(iL m ts ns p).length=m.toNat/\∃y Y a,af Φs G0 tq [some (ae m ts),some (.ref S.length),some (.int p),x3,x4,x5,x6] (bx S ns)=.ok (.next [some (ae m ts),some (.ref S.length),some (.int p),y,Y,a,x6]) (bx S (iL m ts ns p)):=by
 have e:=iH (S:=S) (Φ:=Φs) (ρ:=[some (ae m ts),some (.ref S.length),some (.int p),x3,x4,x5,x6]) (i:=1) (j:=2) (ns:=ns) c.1 (by omega) rfl rfl;have t:ao Φs G0 (.cmp .Lt (.idx (.var 1) (.var 2)) (.lit (.int 0))) [some (ae m ts),some (.ref S.length),some (.int p),x3,x4,x5,x6] (bx S ns)=.ok (decide (nm ns p<0)) (bx S ns):=b5 e aZ (kF _ _);obtain⟨l,y,Y,a,q⟩:=oQ d W H c (x3:=x3) (x4:=x4) (x5:=x5) (x6:=x6);unfold iL;by_cases h:nm ns p<0
 ·rw[if_pos h];refine⟨l,y,Y,a,?_⟩;unfold tq;refine(aV (ρ':=[some (ae m ts),some (.ref S.length),some (.int p),y,Y,a,x6]) ?_).trans rfl;rw[cr t,Zr h,if_pos rfl];exact q
 ·rw[if_neg h];refine⟨H,x3,x4,x5,?_⟩;unfold tq;refine(aV (ρ':=[some (ae m ts),some (.ref S.length),some (.int p),x3,x4,x5,x6]) ?_).trans rfl;rw[cr t,Zy h];simp[af]
theorem oS(W:aH m ts){x1:Option D}:aj Φs G0 B1 [some (ae m ts),x1,x2,x3,x4,x5,x6] S=.ok (.ref S.length) (bx S (JQ m.toNat (-1))):=by
 have w:=W.lo;have a:=W.hi;have hw:aj Φs G0 (.idx (.var 0) (.lit (.int 0))) [some (ae m ts),x1,x2,x3,x4,x5,x6] S=.ok (.int m) S:=dI (am (i:=0) rfl) aZ rfl;have H:aj Φs G0 (.lst JL [.neg (.lit (.int 1))]) [some (ae m ts),x1,x2,x3,x4,x5,x6] S=.ok (.lst [.int (-1)]) S:=by simp only[aj,ak,Res.bind,Zx,if_false]
 have rep:∀n:Nat,(JQ n [D.int (-1)]).flatten=(JQ n (-1:Int)).map D.int:=λn=>by
  induction n with
  |zero=>rfl
  |succ n I=>rw[LU,M1,I];rfl
 have h:g5 (.lst [.int (-1)]) (.int m) S=.ok (.ref S.length) (bx S (JQ m.toNat (-1))):=by show(if-(2^63)<=m/\m<2^63/\1*m.toNat<=bB then Res.ok (D.ref S.length) (S++[(JQ m.toNat [D.int (-1)]).flatten])else .fail)=_;rw[if_pos ⟨by omega,by omega,by show _<=16777216;omega⟩,rep];rfl
 unfold B1;rw[aj,H];simp only[Res.bind,hw,h,Res.noErr]
theorem oT(W:aH m ts)(b:ns.length=m.toNat):aj Φs G0 B2 [some (ae m ts),some (.ref S.length),x2,x3,x4,x5,x6] (bx S ns)=.ok (.lst (ts.map λt=>.bl (decide (nm ns t.1=nm ns t.2)))) (bx S ns):=by have w:=W.few;have H:aj Φs G0 (.idx (.var 0) (.lit (.int 1))) [some (ae m ts),some (.ref S.length),x2,x3,x4,x5,x6] (bx S ns)=.ok (.tup (al ts)) (bx S ns):=dI (am (i:=0) rfl) aZ rfl;refine ew (S:=bx S ns) (Φ:=Φs) (N:=["_law_one","_law_other","_law_side"]) (fr:=[none,none,some 1]) (tg:=.tup [.var 0,.var 1]) (e:=.cmp .Eq (.idx (.var 2) (.var 0)) (.idx (.var 2) (.var 1))) (ds:=ts) (h:=ay) (r0:=[none,none,some (.ref S.length)]) (rs:=λt=>[some (.int t.1),some (.int t.2),some (.ref S.length)]) (f:=λt=>.bl (decide (nm ns t.1=nm ns t.2))) (cH H rfl) rfl (λ_ _=>rfl) (by omega) λt a=>?_;have:=W.tie t a;exact gT (iH (S:=S) (ns:=ns) (i:=2) (j:=0) (p:=t.1) (by omega) (by omega) rfl rfl) (iH (S:=S) (ns:=ns) (i:=2) (j:=1) (p:=t.2) (by omega) (by omega) rfl rfl) (oJ _ _)
theorem Bw(W:aH m ts)(b:ns.length=m.toNat)(c:Int):aj Φs G0 (.blt .tuple [zJ c]) [some (ae m ts),some (.ref S.length),x2,x3,x4,x5,x6] (bx S ns)=.ok (ah (cI m ns c)) (bx S ns):=by
 have w:=W.lo;have g:=W.hi
 have H:=gX (S:=bx S ns) (Φ:=Φs) (N:=["_law_place","_law_side"]) (fr:=[none,some 1]) (tg:=.var 0) (it:=.range [.idx (.var 0) (.lit (.int 0))]) (c:=.cmp .Eq (.idx (.var 1) (.var 0)) (.lit (.int c))) (e:=.var 0) (ρ:=[some (ae m ts),some (.ref S.length),x2,x3,x4,x5,x6]) (ds:=ar 0 m.toNat) (h:=D.int) (r0:=[none,some (.ref S.length)]) (rs:=λp=>[some (.int p),some (.ref S.length)]) (p:=λp=>decide (nm ns p=c)) (f:=D.int)
  (eU (by omega) (by omega) gn) rfl (λ_ _=>rfl) (by rw[K70.cG];omega) (λp a=>by have:=iG W p a;exact b5 (iH (S:=S) (ns:=ns) (i:=1) (j:=0) (p:=p) (by omega) (by omega) rfl rfl) aZ (oJ _ _)) (λp _=>am (i:=0) rfl)
 exact cu H oo
noncomputable def pL(m:Int)(ts:Lq):D:=if anyB ts (bA m ts)=JK then .non else .tup [ah (cI m (bA m ts) 0),ah (cI m (bA m ts) 1)]
theorem IV(r:Flat S)(W:aH m ts):j2 [ae m ts] S=.ok (pL m ts) S:=by
 have G:=W.lo;have I:=W.hi;have A:aL Φs G0 (.range [.idx (.var 0) (.lit (.int 0))]) [some (ae m ts),some (.ref S.length),none,none,none,none,none] (bx S (JQ m.toNat (-1)))=.ok (.items ((ar 0 m.toNat).map D.int)) (bx S (JQ m.toNat (-1))):=eU (by omega) (by omega) gn
 obtain⟨j,u,⟨J,E,g,y,Y,d,F⟩,e⟩:=kE (h:=D.int) (f:=iL m ts) (step:=λx n S=>match aE (.var 2) x n with
   |some j=>af Φs G0 tq j S
   |none=>.fail) (λN n T=>N.length=m.toNat/\T=bx S N/\∃g y Y d,n=[some (ae m ts),some (.ref S.length),g,y,Y,d,none]) (ar 0 m.toNat) (λp C N n T ⟨v,w,g,y,Y,d,z⟩=>by subst w z;obtain⟨l,a,b,c,q⟩:=oR r W v (iG W p C) (x3:=y) (x4:=Y) (x5:=d) (x6:=none);exact⟨_,_,⟨l,rfl,_,_,_,_,rfl⟩,q⟩) (JQ m.toNat (-1)) [some (ae m ts),some (.ref S.length),none,none,none,none,none] (bx S (JQ m.toNat (-1))) ⟨by simp,rfl,_,_,_,_,rfl⟩
 subst E F
 have H:bE 0 (pL m ts)=JK:=by
  unfold pL;split
  ·rfl
  ·show(a_ 0 ((cI m (bA m ts) 0).map D.int)&&(a_ 0 ((cI m (bA m ts) 1).map D.int)&&JK))=JK;rw[K70.dh,K70.dh];rfl
 have J:(bA m ts).length=m.toNat:=J
 have B:af Φs G0 j1 [some (ae m ts),none,none,none,none,none,none] S=.ok (.ret (pL m ts)) (bx S (bA m ts)):=by
  rw[oH,aQ (oS W)];show af Φs G0 _ [some (ae m ts),some (.ref S.length),none,none,none,none,none] _=_;rw[aV ((eN (Γ:=G0) (t:=.var 2) (body:=tq) A).trans e)];have t:ao Φs G0 (.blt .any [B2]) [some (ae m ts),some (.ref S.length),g,y,Y,d,none] (bx S (bA m ts))=.ok (anyB ts (bA m ts)) (bx S (bA m ts)):=fy (cu (oT W J) ke);show af Φs G0 _ [some (ae m ts),some (.ref S.length),g,y,Y,d,none] (bx S (bA m ts))=_;unfold pL;cases s:anyB ts (bA m ts)with
  |true=>rw[s]at t;refine bJ ?_;rw[cr t,if_pos rfl,if_pos rfl];exact bJ (K70.cW aZ)
  |false=>rw[s]at t;rw[aV (ρ':=[some (ae m ts),some (.ref S.length),g,y,Y,d,none]) (S':=bx S (bA m ts)) (by rw[cr t];simp[af])];rw[aQ (Bw W J 0)];show af Φs G0 _ [some (ae m ts),some (.ref S.length),g,y,Y,d,some (ah (cI m (bA m ts) 0))] (bx S (bA m ts))=_;rw[if_neg (by simp)];exact bJ (K70.cW (K70.tR (am (i:=6) rfl) (Bw W J 1)))
 show av Φs G0 j1 tm.length 1 [ae m ts] S=_;have o:af Φs G0 j1 (([ae m ts]:List D).map some++JQ (tm.length-1) none) S=_:=B;unfold av;rw[if_pos (show [ae m ts].length=1 from rfl),o];show dB S.length (pL m ts) (bx S (bA m ts))=_;have k:(bx S (bA m ts)).take S.length=S:=Mk rfl;rw[K70.iA (by rw[k];exact r) H,k]
end K70
namespace K70
theorem Bx:∀n,dg n=K70.dg n
 |0=>rfl
 |n+1=>by show av (tbl [("_law_same",dg n)]) G0 fL iy.length 2=av (tbl [("_law_same",K70.dg n)]) K70.G0 K70.fL K70.iy.length 2;rw[Bx n]<;>rfl
theorem By:gP=K70.dg 6:=Bx 6
theorem uJ(h:Flat S)(n:Nat)(l:Li)(H:l.length<=1000):K70.dg (n+2) [ah l,ah l] S=.ok (.bl JK) S:=AM h (by rw[Zi];exact H) λz a=>by obtain⟨i,_,rfl⟩:=Zs.mp a;exact HZ h n i
theorem Bz(b:Flat S):gP [.non,.non] S=.ok (.bl JK) S:=by show av (tbl [("_law_same",dg 5)]) G0 fL iy.length 2 [.non,.non] S=_;refine be rfl ?_ rfl b rfl;have h:de [.non,.ty "tuple"] S=.ok (.bl JL) S:=rfl;have H:de [.non,.ty "list"] S=.ok (.bl JL) S:=rfl;have a:aF .Is .non .non S=.ok (.bl JK) S:=rfl;simp[fL,iy,af,aC,ao,aj,ak,Res.bind,Res.noErr,bp,ba,h,H,a,bG]
theorem BA(n:Nat):∀p q:Li,lA (cJ S (n+1)) (cY S (n+1)) (p.map D.int) (q.map D.int)=some (gq p q)
 | [],[]=>rfl
 | [],_::_=>rfl
 |_::_,[]=>rfl
 |a::p,b::q=>by
  have i:=BA n p q
  have e:lA (cJ S (n+1)) (cY S (n+1)) ((a::p).map D.int) ((b::q).map D.int)=(match(some (a==b):Option Bool)with
   |some JK=>lA (cJ S (n+1)) (cY S (n+1)) (p.map D.int) (q.map D.int)
   |some JL=>some (decide (a<b))
   |none=>none):=rfl
  rw[e,i];have E:gq (a::p) (b::q)=if a=b then gq p q else decide (a<b):=rfl;rw[E];by_cases h:a=b
  ·subst h;simp
  ·have:(a==b)=JL:=by simpa using h
   rw[this,if_neg h]
theorem pM(p q:Li):cY S aM (ah p) (ah q)=some (gq p q):=BA 38 p q
theorem BB{x:D}(h1:∀a∈x::xs,∀b∈x::xs,(cY S aM a b).isSome=JK)(c:∀y∈xs,cY S aM y x=some JL):ba .min [.lst (x::xs)] S=.ok x S:=by
 have H:((x::xs).all λa=>(x::xs).all λb=>(cY S aM a b).isSome)=JK:=by rw[Zv];intro a d;rw[Zv];exact λb e=>h1 a d b e
 have f:∀Y:List D,(∀y∈Y,cY S aM y x=some JL)->Y.foldl (λb y=>if cY S aM y b=some JK then y else b) x=x:=λY=>by
  induction Y with
  |nil=>intro _;rfl
  |cons y Y i=>intro h;rw[LQ,h y Ze,if_neg (by simp)];exact i λz g=>h z (Zc _ g)
 show(if((x::xs).all λa=>(x::xs).all λb=>(cY S aM a b).isSome)=JK then Res.ok (xs.foldl (λb y=>if cY S aM y b=some JK then y else b) x) S else .fail)=_;rw[if_pos H,f xs c]
theorem oU:zL=[.asg 1 (.call "_law_sides" [.var 0]),.asg 2 (.call "_law_rings" [.var 0]),.asg 3 (.lit (.non)),.ite B3 zK [],.ite GL [.ret (.lit (.bl JL))] [],.for_ (.var 5) (.range [.lit (.int 2)]) u0,.ret (.lit (.bl JK))]:=rfl
theorem BC(p:Li):ba .len [ah p] S=.ok (.int (p.length:Nat)) S:=K70.nN p
theorem d9(W:aH m ts)(k:Nat):(gR m ts k).length<=if cf (k+1)=JK then 0 else c8 (k+1):=by
 have a:=kx W k;have b:(gR m ts k).length<=(lv m ts k).length:=Zw _ _;split
 ·rename_i h;have:gR m ts k=[]:=NV.mpr λp H=>by unfold aO;rw[(cX W k p H).len,h];simp
  rw[this];exact Zl _
 ·omega
theorem uK(W:aH m ts):(cc m ts 8 0).length<=47376:=by
 have H:=d9 W 0;have i:=d9 W 1;have j:=d9 W 2;have k:=d9 W 3;have l:=d9 W 4;have n:=d9 W 5;have o:=d9 W 6;have p:=d9 W 7;have e:cc m ts 8 0=gR m ts 0++(gR m ts 1++(gR m ts 2++(gR m ts 3++(gR m ts 4++(gR m ts 5++(gR m ts 6++(gR m ts 7++[]))))))):=rfl;rw[e];simp only[Zq,Yb];have b:(if cf (0+1)=JK then 0 else c8 (0+1))=0:=by decide
 have B:(if cf (1+1)=JK then 0 else c8 (1+1))=0:=by decide
 have a:(if cf (2+1)=JK then 0 else c8 (2+1))=336:=by decide
 have c:(if cf (3+1)=JK then 0 else c8 (3+1))=0:=by decide
 have d:(if cf (4+1)=JK then 0 else c8 (4+1))=6720:=by decide
 have f:(if cf (5+1)=JK then 0 else c8 (5+1))=0:=by decide
 have g:(if cf (6+1)=JK then 0 else c8 (6+1))=40320:=by decide
 have h:(if cf (7+1)=JK then 0 else c8 (7+1))=0:=by decide
 omega
theorem oV(W:aH m ts){x:Li}(h:fr m ts 8 0=some x){x1:Option D}:∃C,af bU G0 zK [x0,x1,some (.lst ((cc m ts 8 0).map ah)),x3,x4,x5] S=.ok (.next [x0,x1,some (.lst ((cc m ts 8 0).map ah)),some (ah x),C,x5]) S:=by
 obtain⟨X,Y,t,n,o,z⟩:=oj W 8 0 h;have w:=uK W;rw[t]at w⊢;have v:=ew (S:=S) (Φ:=bU) (N:=["_law_line"]) (fr:=[none]) (tg:=.var 0) (e:=.blt .len [.var 0]) (ds:=x::X++Y) (h:=ah) (r0:=[none]) (rs:=λp=>[some (ah p)]) (f:=λp=>.int (p.length:Nat)) (it:=.seq (.var 2)) (ρ:=[x0,x1,some (.lst ((x::X++Y).map ah)),x3,x4,x5]) (cH (am (i:=2) rfl) rfl) rfl (λ_ _=>rfl) (by omega) (λp _=>cu (am (i:=0) rfl) (BC p))
 have k:∀p∈x::X++Y,x.length<=p.length:=λp H=>by
  rcases ZE.mp H with H|H
  ·exact N0 (n p H).symm
  ·exact Lz (o p H)
 have M:ba .min [.lst ((x::X++Y).map λp=>D.int (p.length:Nat))] S=.ok (.int (x.length:Nat)) S:=by
  refine BB (x:=.int (x.length:Nat)) (xs:=(X++Y).map λp=>D.int (p.length:Nat)) (λa g b j=>?_) λy d=>?_
  ·obtain⟨p,_,rfl⟩:=Zs.mp (show a∈(x::(X++Y)).map λp=>D.int (p.length:Nat)from g);obtain⟨q,_,rfl⟩:=Zs.mp (show b∈(x::(X++Y)).map λp=>D.int (p.length:Nat)from j);rfl
  ·obtain⟨p,H,rfl⟩:=Zs.mp d;have:=k p (Zc _ H);show some (decide ((p.length:Int)<(x.length:Int)))=some JL;rw[Zy (by omega)]
 have E:aj bU G0 (.blt .min [Jo]) [x0,x1,some (.lst ((x::X++Y).map ah)),x3,x4,x5] S=.ok (.int (x.length:Nat)) S:=cu v M
 have l:=gX (S:=S) (Φ:=bU) (N:=["_law_line","_law_few"]) (fr:=[none,some 4]) (tg:=.var 0) (it:=.seq (.var 2)) (c:=.cmp .Eq (.blt .len [.var 0]) (.var 1)) (e:=.var 0) (ρ:=[x0,x1,some (.lst ((x::X++Y).map ah)),x3,some (.int (x.length:Nat)),x5]) (ds:=x::X++Y) (h:=ah) (r0:=[none,some (.int (x.length:Nat))]) (rs:=λp=>[some (ah p),some (.int (x.length:Nat))]) (p:=λp=>decide ((p.length:Int)=(x.length:Int))) (f:=ah)
  (cH (am (i:=2) rfl) rfl) rfl (λ_ _=>rfl) (by omega) (λp _=>b5 (cu (am (i:=0) rfl) (BC p)) (am (i:=1) rfl) (oJ _ _)) (λp _=>am (i:=0) rfl)
 have u:((x::X++Y).filter λp=>decide ((p.length:Int)=(x.length:Int)))=x::X:=by rw[MM,Ld.mpr λp H=>Zr (by have:=n p H;omega),NV.mpr λp H=>by have:=o p H;simp;omega,Z4]
 rw[u]at l
 have A:ba .min [.lst ((x::X).map ah)] S=.ok (ah x) S:=by
  refine BB (x:=ah x) (xs:=X.map ah) (λa g b j=>?_) λy d=>?_
  ·obtain⟨p,_,rfl⟩:=Zs.mp (show a∈(x::X).map ah from g);obtain⟨q,_,rfl⟩:=Zs.mp (show b∈(x::X).map ah from j);rw[pM];rfl
  ·obtain⟨p,H,rfl⟩:=Zs.mp d;rw[pM,A8 ((ZG.mp z).1 p H)]
 have s:aj bU G0 (.blt .min [Jp]) [x0,x1,some (.lst ((x::X++Y).map ah)),x3,some (.int (x.length:Nat)),x5] S=.ok (ah x) S:=cu l A;refine⟨some (.int (x.length:Nat)),?_⟩;unfold zK;rw[aQ E];show af bU G0 _ [x0,x1,some (.lst ((x::X++Y).map ah)),x3,some (.int (x.length:Nat)),x5] S=_;rw[aQ s];rfl
theorem IW(a:Flat S)(W:aH m ts):∃(d o:D),j2 [ae m ts] S=.ok d S/\jV [ae m ts] S=.ok d S/\jW [ae m ts] S=.ok o S/\gP [d,d] S=.ok (.bl JK) S/\gP [o,o] S=.ok (.bl JK) S/\
  ((∃L R,d=.tup [ah L,ah R])/\o=.non/\cc m ts 8 0=[]\/d=.non/\∃x,o=ah x/\fr m ts 8 0=some x/\cc m ts 8 0≠[]):=by
 obtain⟨L,s,u,c⟩:=IL a W;have e:=IV a W;have E:=II a W;have G:=oA W s;have N:=kz W (so:=L);by_cases b:∃f,iK ts f
 ·have q:=(A_ W).mpr b;obtain⟨f,H,r⟩:∃g,IP m ts g:=let⟨f,h⟩:=b;Iz W h
  obtain⟨A,v,w⟩:=oG W ⟨H,r⟩;rw[Bk W s u H r]at c;unfold pL at e;rw[A,if_neg (by simp),v,w]at e;rw[q]at E;have y:(sI m f).length<=1000:=by refine ZD (Zw _ _) ?_;rw[K70.cG];have:=W.hi;omega
  have B:(sJ m f).length<=1000:=by refine ZD (Zw _ _) ?_;rw[K70.cG];have:=W.hi;omega
  refine⟨_,_,e,c,E,?_,Bz a,.inl ⟨⟨_,_,rfl⟩,rfl,uy W 8 0 q⟩⟩;rw[By];refine AM (n:=5) a (by simp) λz t=>?_;simp only[Zk,ZH,or_false]at t;rcases t with rfl|rfl
  ·exact uJ a 3 _ y
  ·exact uJ a 3 _ B
 ·rw[Bl W s u b]at c;unfold pL at e;rw[uH W b,if_pos rfl]at e;cases i:fr m ts 8 0 with
  |none=>exact absurd ((A_ W).mp i) b
  |some x=>
   rw[i]at E;obtain⟨X,Y,l,_⟩:=oj W 8 0 i
   have j:x.length<=1000:=by
    have:∀f k,k+f<=8->∀p∈cc m ts f k,p.length<=8:=λf=>by
     induction f with
     |zero=>intro k _ p H;cases H
     |succ f I=>
      intro k C p H;rcases ZE.mp H with H|H
      ·have:=(cX W k p (Zo.mp H).1).len;omega
      ·exact I (k+1) (by omega) p H
    have:=this 8 0 (by omega) x (by rw[l];simp);omega
   refine⟨_,_,e,c,E,Bz a,?_,.inr ⟨rfl,x,rfl,rfl,by rw[l];simp⟩⟩;rw[By];exact uJ a 4 x j
theorem oW{f:Str}{a:CE}{x:D}(H:Φ f=some φ)(h1:aj Φ G0 a ρ S=.ok x S)(h:φ [x] S=.ok d S):aj Φ G0 (.call f [a]) ρ S=.ok d S:=dZ H (B8 h1) h
theorem BD{f:Str}{a b:CE}{x:D}{k:Bool}(c:Φ f=some φ)(h1:aj Φ G0 a ρ S=.ok x S)(H:aj Φ G0 b ρ S=.ok y S)(h:φ [x,y] S=.ok (.bl k) S):ao Φ G0 (.call f [a,b]) ρ S=.ok k S:=K70.nM c h1 H h
theorem uL(h:Flat S)(W:aH m ts):m9 [ae m ts] S=.ok (.bl JK) S:=by
 obtain⟨d,o,B,k,l,n,p,w⟩:=IW h W;have q:gQ [ae m ts] S=.ok (.lst ((cc m ts 8 0).map ah)) S:=by rw[IU];exact K70.IM h W
 refine be rfl ?_ rfl h rfl;rw[oU];show af bU G0 _ [some (ae m ts),none,none,none,none,none] S=_;rw[aQ (oW GN (am (i:=0) rfl) B)];show af bU G0 _ [some (ae m ts),some d,none,none,none,none] S=_;rw[aQ (oW GO (am (i:=0) rfl) q)];show af bU G0 _ [some (ae m ts),some d,some (.lst ((cc m ts 8 0).map ah)),none,none,none] S=_;have r:aj bU G0 (.lit .non) [some (ae m ts),some d,some (.lst ((cc m ts 8 0).map ah)),none,none,none] S=.ok .non S:=aZ;rw[aQ r];show af bU G0 _ [some (ae m ts),some d,some (.lst ((cc m ts 8 0).map ah)),some .non,none,none] S=_;have b:ao bU G0 B3 [some (ae m ts),some d,some (.lst ((cc m ts 8 0).map ah)),some .non,none,none] S=.ok (!((cc m ts 8 0).map ah).isEmpty) S:=b5 (am (i:=2) rfl) (by simp only[aj,ak,Res.bind,Zx,if_false]) (ug _)
 have A:∃y,af bU G0 (.ite B3 zK []:: .ite GL [.ret (.lit (.bl JL))] []:: .for_ (.var 5) (.range [.lit (.int 2)]) u0::[.ret (.lit (.bl JK))]) [some (ae m ts),some d,some (.lst ((cc m ts 8 0).map ah)),some .non,none,none] S=af bU G0 (.for_ (.var 5) (.range [.lit (.int 2)]) u0::[.ret (.lit (.bl JK))]) [some (ae m ts),some d,some (.lst ((cc m ts 8 0).map ah)),some o,y,none] S:=by
  rcases w with⟨⟨L,R,rfl⟩,rfl,H⟩| ⟨rfl,x,rfl,g,H⟩
  ·refine⟨none,?_⟩;have e:(((cc m ts 8 0).map ah).isEmpty)=JK:=by rw[H];rfl
   rw[e]at b;rw[aV (ρ':=[some (ae m ts),some (.tup [ah L,ah R]),some (.lst ((cc m ts 8 0).map ah)),some .non,none,none]) (S':=S) (by rw[cr b];simp[af])];exact fO (b5 (gT (d:=.tup [ah L,ah R]) (x:=.bl JL) (am (i:=1) rfl) aZ rfl) (gT (d:=.non) (x:=.bl JL) (am (i:=3) rfl) aZ rfl) rfl)
  ·obtain⟨y,E⟩:=oV (S:=S) W g (x0:=some (ae m ts)) (x1:=some .non) (x3:=some .non) (x4:=none) (x5:=none);refine⟨y,?_⟩
   have e:(((cc m ts 8 0).map ah).isEmpty)=JL:=by
    cases z:cc m ts 8 0 with
    |nil=>exact absurd z H
    |cons=>rfl
   rw[e]at b;rw[aV (ρ':=[some (ae m ts),some .non,some (.lst ((cc m ts 8 0).map ah)),some (ah x),y,none]) (S':=S) (by rw[cr b];exact E)];exact fO (b5 (gT (d:=.non) (x:=.bl JK) (am (i:=1) rfl) aZ rfl) (gT (d:=ah x) (x:=.bl JK) (am (i:=3) rfl) aZ rfl) rfl)
 obtain⟨y,E⟩:=A;rw[E];have v:aL bU G0 (.range [.lit (.int 2)]) [some (ae m ts),some d,some (.lst ((cc m ts 8 0).map ah)),some o,y,none] S=.ok (.items [.int 0,.int 1]) S:=K70.eU (j:=2) (by omega) (by omega) aZ
 obtain⟨a,f,⟨J,Y,C⟩,e⟩:=K70.nI (step:=λx c S=>match aE (.var 5) x c with
   |some a=>af bU G0 u0 a S
   |none=>.fail) (λc T=>T=S/\∃Y,c=[some (ae m ts),some d,some (.lst ((cc m ts 8 0).map ah)),some o,y,Y]) [.int 0,.int 1] (λx g c T ⟨s,Y,u⟩=>by subst s u;refine⟨_,_,⟨rfl,some x,rfl⟩,?_⟩;exact(fO (gW (dc (BD zM (oW GP (am (i:=0) rfl) k) (am (i:=1) rfl) n)) (dc (BD zM (oW GQ (am (i:=0) rfl) l) (am (i:=3) rfl) p)))).trans rfl) [some (ae m ts),some d,some (.lst ((cc m ts 8 0).map ah)),some o,y,none] S ⟨rfl,none,rfl⟩
 subst J C;rw[aV ((eN (Γ:=G0) (t:=.var 5) (body:=u0) v).trans e)];exact bJ (K70.cW aZ)
theorem IX:ix=K70.ix:=rfl
theorem BE:e_=K70.e_:=rfl
theorem IY:iw=K70.iw:=rfl
theorem BF:zE=[.ite sdT [.ret (.var 0)] [],.asg 2 (.call "_law_stir" [.var 1,.lit (.int 51)]),.ret (.tup [.idx (.var 0) (.lit (.int 0)),.blt .tuple [GH]])]:=rfl
noncomputable def gZ(s k:Int):Int:=Lr (s/2^k.toNat) 1
theorem uM(a b:Int):aF .NotEq (.int a) (.int b) T=.ok (.bl (!decide (a=b))) T:=by show Res.ok (D.bl (!(a==b))) T=_;congr 2
theorem IZ(a:Flat S)(W:aH m ts)(c:Int):∃T,aH m T/\m8 [ae m ts,.int c] S=.ok (ae m T) S:=by
 have w:=W.few;have g:e_ [.int c,.int 50] S=.ok (.int (eR c 50)) S:=by rw[BE];exact K70.t7 a c 50
 have j:e_ [.int c,.int 51] S=.ok (.int (eR c 51)) S:=by rw[BE];exact K70.t7 a c 51
 generalize eR c 50=v at g;generalize eR c 51=s at j
 have t:ao fc G0 sdT [some (ae m ts),some (.int c),none] S=.ok (decide (v%2=0)) S:=
  b5 (eS (dZ zF (kv (am (i:=1) rfl) aZ) g) aZ (dH (by omega))) aZ (oJ _ _)
 have H:∀q:Lq,bE 0 (ae m q)=JK:=λq=>by
  show(JK&&(a_ 0 (al q)&&JK))=JK;have:a_ 0 (al q)=JK:=K70.t6.mpr λx d=>by obtain⟨t,_,rfl⟩:=Zs.mp d;rfl
  rw[this];rfl
 by_cases h:v%2=0
 ·refine⟨ts,W,be rfl ?_ rfl a (H ts)⟩;rw[BF];show af fc G0 _ [some (ae m ts),some (.int c),none] S=_;refine bJ ?_;rw[cr t,Zr h,if_pos rfl];exact bJ (K70.cW (am (i:=0) rfl))
 ·refine⟨ts.filter λt=> !decide (gZ s t.1=gZ s t.2),⟨W.lo,W.hi,W.ris.filter _,λt b=>W.tie t (Zo.mp b).1,ZD (Zw _ _) w⟩,be rfl ?_ rfl a (H _)⟩;rw[BF];show af fc G0 _ [some (ae m ts),some (.int c),none] S=_;rw[aV (ρ':=[some (ae m ts),some (.int c),none]) (S':=S) (by rw[cr t,Zy h];simp[af])];rw[aQ (dZ zF (kv (am (i:=1) rfl) aZ) j)];show af fc G0 _ [some (ae m ts),some (.int c),some (.int s)] S=_;have r:aj fc G0 (.idx (.var 0) (.lit (.int 1))) [some (ae m ts),some (.int c),some (.int s)] S=.ok (.tup (al ts)) S:=dI (am (i:=0) rfl) aZ rfl
  have l:=gX (S:=S) (Φ:=fc) (N:=["_law_tie","_law_side"]) (fr:=[none,some 2]) (tg:=.var 0) (it:=.seq (.idx (.var 0) (.lit (.int 1)))) (c:=.cmp .NotEq (zD 0) (zD 1)) (e:=.var 0) (ρ:=[some (ae m ts),some (.int c),some (.int s)]) (ds:=ts) (h:=ay) (r0:=[none,some (.int s)]) (rs:=λt=>[some (ay t),some (.int s)]) (p:=λt=> !decide (gZ s t.1=gZ s t.2)) (f:=ay)
   (cH r rfl) rfl (λ_ _=>rfl) (by omega) (λt b=>by have:=W.tie t b;have k:∀(i:Nat) (x:Int),0<=x->bg (ay t) (.int i) S=.ok (.int x) S->aj fc G0 (zD i) [some (ay t),some (.int s)] S=.ok (.int (gZ s x)) S:=λi x d o=>eS (eS (am (i:=1) rfl) (dI (am (i:=0) rfl) aZ o) (pE d)) aZ (pF _ _);exact b5 (k 0 t.1 (by omega) rfl) (k 1 t.2 (by omega) rfl) (uM _ _)) (λt _=>am (i:=0) rfl)
  have n:aj fc G0 (.blt .tuple [GH]) [some (ae m ts),some (.int c),some (.int s)] S=.ok (.tup (al (ts.filter λt=> !decide (gZ s t.1=gZ s t.2)))) S:=cu l oo;exact bJ (K70.cW (K70.tR gn n))
theorem I0:fw=[.for_ (.var 1) (.seq m_) j3,.for_ (.var 2) (.seq ng) zN,.ret (.lit (.bl JK))]:=rfl
theorem uN{f:Str}{a:CE}{x:D}{k:Bool}(H:Φ f=some φ)(h1:aj Φ G0 a ρ S=.ok x S)(h:φ [x] S=.ok (.bl k) S):ao Φ G0 (.call f [a]) ρ S=.ok k S:=K70.AY H h1 h
theorem BG(h:Flat S)(W:aH m ts){s0:Option D}:af bS G0 j3 [s0,some (ae m ts),x2] S=.ok (.next [s0,some (ae m ts),x2]) S:=
 (fO (dc (uN tt (am (i:=1) rfl) (uL h W)))).trans rfl
theorem oX(h:Flat S){s0 x1:Option D}(c:Int):∃y,af bS G0 zN [s0,x1,some (.int c)] S=.ok (.next [s0,y,some (.int c)]) S:=by obtain⟨m,t,W,e⟩:=K70.t_ h c;rw[<-IX]at e;obtain⟨T,a,E⟩:=IZ h W c;refine⟨some (ae m t),?_⟩;unfold zN;rw[aQ (dZ GR (kv (am (i:=2) rfl) aZ) e)];show af bS G0 _ [s0,some (ae m t),some (.int c)] S=_;exact(fO (gW (dc (uN tt (am (i:=1) rfl) (uL h W))) (dc (uN tt (dZ GV (kv (am (i:=1) rfl) (am (i:=2) rfl)) E) (uL h a))))).trans rfl
theorem BH(a:Flat S)(f:ns.length<=63){x1:Option D}:∃cs:Li,aL bS G0 (.seq ng) [some (.scr (ns.map D.int)),x1,x2] S=.ok (.items (cs.map D.int)) S:=by
 obtain⟨c,e⟩:=K70.nL a ns;rw[<-IY]at e;obtain⟨cs,b,d⟩:∃cs:Li,dQ (ns.map D.int) (some 1) (some 4)=cs.map D.int/\cs.length<=63:=by refine⟨(ns.drop _).take _,by unfold dQ;rw[<-NK,<-NJ],?_⟩;simp;omega
 refine⟨c::cs,?_⟩;have h:qT (.scr (ns.map D.int)) (some 1) (some 4) S=.ok (.lst (cs.map D.int)) S:=by rw[<-b];rfl
 have H:iW (.lst [.int c]) (.lst (cs.map D.int)) S=.ok (.lst ([.int c]++cs.map D.int)) S:=by show(if 1+(cs.map D.int).length<=bB then Res.ok (D.lst ([.int c]++cs.map D.int)) S else .fail)=_;rw[if_pos (by unfold bB;simp;omega)]
 simp[ng,aL,aj,ak,Res.bind,Res.noErr,GU,e,eY,eF,h,dj,H,eE]
noncomputable def B9:List D:=[ae 1 [],ae 2 [],ae 3 [(0,1),(0,2),(1,2)],ae 4 [(0,3),(1,2),(1,3)]]
theorem oY:∀d∈B9,∃m ts,d=ae m ts/\aH m ts:=λd h=>by
 simp only[B9,Zk,ZH,or_false]at h;rcases h with rfl|rfl|rfl|rfl
 ·exact⟨1,[],rfl,⟨by decide,by decide,.nil,by decide,by decide⟩⟩
 ·exact⟨2,[],rfl,⟨by decide,by decide,.nil,by decide,by decide⟩⟩
 ·exact⟨3,_,rfl,⟨by decide,by decide,by unfold K70.aJ;decide,by decide,by decide⟩⟩
 ·exact⟨4,_,rfl,⟨by decide,by decide,by unfold K70.aJ;decide,by decide,by decide⟩⟩
theorem good:Good j4:=by
 intro n k
 obtain⟨p,q,⟨Y,J,l⟩,E⟩:=K70.nI (step:=λx b S=>match aE (.var 1) x b with
   |some a=>af bS G0 j3 a S
   |none=>.fail) (λb S=>∃X,b=[some (.scr (n.map D.int)),X,none]/\S=[]) B9 (by rintro x H b S ⟨X,rfl,rfl⟩;obtain⟨m,T,rfl,W⟩:=oY x H;exact⟨_,[],⟨some (ae m T),rfl,rfl⟩,BG Flat.nil W⟩) [some (.scr (n.map D.int)),none,none] [] ⟨none,rfl,rfl⟩
 subst J l;obtain⟨C,h⟩:=BH (S:=[]) Flat.nil k (x1:=Y) (x2:=none)
 obtain⟨a,d,⟨_,_,_,o⟩,i⟩:=K70.nI (step:=λx b S=>match aE (.var 2) x b with
   |some a=>af bS G0 zN a S
   |none=>.fail) (λb S=>∃X f,b=[some (.scr (n.map D.int)),X,f]/\S=[]) (C.map D.int) (by rintro x H b S ⟨X,f,rfl,rfl⟩;obtain⟨c,_,rfl⟩:=Zs.mp H;obtain⟨y,e⟩:=oX (S:=[]) Flat.nil (s0:=some (.scr (n.map D.int))) (x1:=X) c;exact⟨_,[],⟨y,some (.int c),rfl,rfl⟩,e⟩) [some (.scr (n.map D.int)),Y,none] [] ⟨Y,none,rfl,rfl⟩
 have j:aL bS G0 (.seq m_) [some (.scr (n.map D.int)),none,none] []=.ok (.items B9) []:=by simp only[m_,aL,aj,ak,Res.bind,Zx,if_false,eE];rfl
 have g:af bS G0 fw [some (.scr (n.map D.int)),none,none] []=.ok (.ret (.bl JK)) d:=by rw[I0];rw[aV ((eN (Γ:=G0) (t:=.var 1) (body:=j3) j).trans E)];refine(aV (ρ':=a) (S':=d) ?_).trans rfl;rw[eN h];exact i
 refine⟨[],?_⟩;show av bS G0 fw ho.length 1 [.scr (n.map D.int)] []=_;unfold av;rw[if_pos (show [D.scr (n.map D.int)].length=1 from rfl)];rw[show af bS G0 fw ([D.scr (n.map D.int)].map some++JQ (ho.length-1) none) []=_ from g];subst o;rfl
end K70
section
namespace K70
theorem walk{l:PySem.W.OpenLaw}{q:J8}{d:DefRec}{K:Params->Fg}(i:l.most=some 63)(H:d.params.defaults=[])
  (e:∀(w:Ke) (h:JU),YP w h->(K w.params).In h)
  (F:∀(w:Ke) (mg:Mg) (fa:JP) (h:JU),(K w.params).In h->h.Ns mainGlobals mg->mg d.name=some (.ref fa)->
   ∃fd:KL,(∀(s:JN) (u:JO),NR s fd ⟨[u],[]⟩ [("_law_script",u)])/\∀base:JU,(K w.params).In base->base.Ns mainGlobals mg->c0 l.prog w (K w.params) mg base (bo l.prog w) 12 fa fd ["_law_script"] (hE (K w.params))):
  PySem.W.WalkO q loose XP YP l.row.toRowW d [] (λf vs=>PySem.call f vs):=
 L2.lu (n:=63) (k:=12) (x:="_law_script") (CX:=λw=>bo l.prog w) (sp:=λw=>hE (K w.params)) i (by decide) H ⟨rfl,by decide,by decide,rfl⟩ e F (λ_ _ a N g b c=>⟨a,N,rfl,b,c,g,λ_=>rfl⟩) λ_ _ _ _ _ z=>pB _ _ _ _ _ z
end K70
namespace PySem.W.Fast
def tw17245258552235464205:=Nat
def tw15784511900395778571:=Nat
def tw2882727907932662220:=Nat
def tw15441081637554638143:=Nat
def tw7830891171619886564:=Nat
def tw2085806115232663641:=Nat
def tw482703783156165642:=Nat
def tw4732077350439576261:=Nat
def tw10726130643922804484:=Nat
def tw15948110902415403429:=Nat
def tw17656563589403192636:=Nat
def tw1384166679666305718:=Nat
def tw3237082627735811150:=Nat
def tw17389621505849344218:=Nat
def tw9243720102358530264:=Nat
def tw3059567674934729001:=Nat
def tw4892811621767136653:=Nat
def tw17630205867451618342:=Nat
def tw369158756740755555:=Nat
def tw8444074169918305228:=Nat
def tw4426566543805754816:=Nat
def tw3540542806566093432:=Nat
def tw1538392084324959392:=Nat
def tw14057039650648619876:=Nat
def tw10063515973915584964:=Nat
def tw8768015354011532709:=Nat
def tw7881215163165423594:=Nat
def tw1117322619378859477:=Nat
def tw11374266963726089361:=Nat
def tw17952636389714698401:=Nat
def tw10106448926513610451:=Nat
def tw4520017205898650892:=Nat
def tw14087175388564377875:=Nat
def tw16295367379758937358:=Nat
def tw3107763526822554797:=Nat
def tw17859516235667474119:=Nat
def tw5158093888844807592:=Nat
def tw17363305777660431788:=Nat
def tw3199562339500742871:=Nat
def tw14143896618174415005:=Nat
def tw1649212278103182023:=Nat
def tw15876769379712142490:=Nat
def tw16200731137033442425:=Nat
def tw5827881822854230212:=Nat
def tw2803317914449327608:=Nat
def tw14284167187060074117:=Nat
def tw12451752958283751419:=Nat
def tw3464623017621764662:=Nat
def tw6573530310214989654:=Nat
def tw9598746046399800589:=Nat
def tw920530699686582770:=Nat
def tw6210360068009877724:=Nat
def tw4265451769093288946:=Nat
def tw3851129248700737986:=Nat
def tw3198914121063357938:=Nat
def tw2991963779407206752:=Nat
def tw17378111653874268464:=Nat
def tw13947820831251748583:=Nat
def tw12249456931483423365:=Nat
def tw11091219782584756573:=Nat
def tw10764784569113981615:=Nat
def tw9070655708371101690:=Nat
def tw8945990782720618025:=Nat
def tw7461151342970609077:=Nat
def tw7077395362756934698:=Nat
def tw6662127461424140229:=Nat
def tw6583154791386493290:=Nat
def tw5841649309755721341:=Nat
def tw5634116079060549428:=Nat
def tw5018120689019868168:=Nat
def tw400507693084252851:=Nat
def tw3968482752208037843:=Nat
def tw2629634868822231014:=Nat
def tw2009879966261055769:=Nat
def tw1872588225785461298:=Nat
def tw18132907774620266491:=Nat
def tw18130522562770632182:=Nat
def tw1568924126163442725:=Nat
def tw15409594739110670518:=Nat
def tw13711540019264283312:=Nat
def tw12411358836296723671:=Nat
def tw1240346468897894713:=Nat
def tw11694598484804343774:=Nat
def tw11586579774357369904:=Nat
def tw10911496111952440096:=Nat
def tw1080513535760047394:=Nat
def tw10374571135214740070:=Nat
def tw13494836377644076944:=Nat
def tw14053086815037656133:=Nat
def tw15980295524627024894:=Nat
def tw13793291860340511184:=Nat
def tw2241106077633007989:=Nat
def tw11104257920526794592:=Nat
def tw4621965342945625593:=Nat
def tw15496568021743466760:=Nat
def tw13415747652980820174:=Nat
def tw18102469736561849061:=Nat
def tw14392832349685367435:=Nat
def tw8873181468460688160:=Nat
def tw6446877647450584746:=Nat
def tw14251678243247115042:=Nat
def tw8256613595079596539:=Nat
def tw11964764813041375165:=Nat
def tw7684260506993282576:=Nat
def tw5326719352700364310:=Nat
def tw15359480783182215749:=Nat
def tw11718741924622667588:=Nat
def tw6834312439008570540:=Nat
def tw3228088728900937575:=Nat
def tw18064096864947661063:=Nat
def tw13578452453159028914:=Nat
def tw12978086720105120302:=Nat
def tw1147768809985376984:=Nat
def tw12043695916402462702:=Nat
def tw1784419878804724316:=Nat
def tw15141355070771612456:=Nat
def tw9122114177170045854:=Nat
def tw2703005111448302569:=Nat
def tw12925871652737834384:=Nat
def tw15708525253125292930:=Nat
def tw1796040198504580071:=Nat
def tw13000675616364549493:=Nat
def tw1980184328902861031:=Nat
def tw15285230093114560827:=Nat
def tw17636350842950668877:=Nat
def tw1022031024661216979:=Nat
def tw13594319997962667946:=Nat
def tw4273275986261033491:=Nat
def tw13012025860081794262:=Nat
def tw14700188012818311642:=Nat
def tw8197077968649624337:=Nat
def tw9306493914012597457:=Nat
def tw13929213733747304877:=Nat
def tw11679700668693053555:=Nat
def tw14688983542659546615:=Nat
def tw1397295247289973844:=Nat
def tw16475552935476311151:=Nat
def tw2935396463889220901:=Nat
def tw922061681741359616:=Nat
def tw598537955927385885:=Nat
def tw270538579034560436:=Nat
def tw17006086088810310161:=Nat
def tw13668046030706366030:=Nat
def tw6421154355630588272:=Nat
def tw8654424083743375452:=Nat
def tw15694360441996507429:=Nat
def tw634793587597862737:=Nat
def tw3823520583852590989:=Nat
def tw2854339788088163147:=Nat
def tw8036676884173258029:=Nat
def tw3013385592648916091:=Nat
def tw6840576458287374680:=Nat
def tw11067257328780249406:=Nat
def tw4872519596844111762:=Nat
def tw1815556897847208505:=Nat
def tw11719601227326086693:=Nat
def tw9592539690248324429:=Nat
def tw8638558838342131564:=Nat
def tw10536309348104868147:=Nat
def tw16396971910811188343:=Nat
def tw6021014836658945116:=Nat
def tw3762344466678316846:=Nat
def tw16906401280133556590:=Nat
def tw9595561956161156612:=Nat
def tw14516157990894226114:=Nat
def tw7845926634805656238:=Nat
def tw15129465627276447345:=Nat
def tw932761482150239694:=Nat
def tw15369013889030717459:=Nat
def tw8543856796205835065:=Nat
def tw2979288611680399251:=Nat
def tw15498280042904377677:=Nat
def tw1829846434605776783:=Nat
def tw13837695138197373972:=Nat
def tw18256265552322162542:=Nat
def tw158066275378489401:=Nat
def tw5715732511370870080:=Nat
def tw7321350381542271583:=Nat
def tw10982890003857723648:=Nat
def tw11011398281918932110:=Nat
def tw16911705843868548123:=Nat
def tw14283216988010247468:=Nat
def tw3446591497078279546:=Nat
def tw15927059386261849613:=Nat
def tw379197776853475702:=Nat
def tw14206889907405965599:=Nat
def tw8060389166426345401:=Nat
def tw6888968318457391453:=Nat
def tw8292542055229797728:=Nat
def tw9117502535286906713:=Nat
def tw15569456408128530699:=Nat
def tw2647763565892252083:=Nat
def tw16431600124316350233:=Nat
def tw10097958549997883002:=Nat
def tw8616031504655638778:=Nat
end PySem.W.Fast
open PySem PySem.W PyProof.Rows
set_option maxRecDepth 100000 in
set_option maxHeartbeats 0 in
theorem PySem.Challenge.cw_pairwebs_k70_sides_and_odd_rings_holds : PySem.Challenge.rw_pairwebs_k70_sides_and_odd_rings.Holds := by
 w_on;o_law;k_head;(case hw=>w_witness2)
 k_fill
 refine K70.walk (l:=PySem.Challenge.rw_pairwebs_k70_sides_and_odd_rings) rfl rfl (λw h Y=>PySem.W.kIn_of Y) ?F
 case F=>
  intro w mg fa h KX G hmg
  refine' K70.tF KX G hmg K70.good ⟨K70.dm ?_ ?_ ?_ ?_,K70.dm ?_ ?_ ?_ ?_,K70.dm ?_ ?_ ?_ ?_,K70.dm ?_ ?_ ?_ ?_,K70.dm ?_ ?_ ?_ ?_,K70.dm ?_ ?_ ?_ ?_,K70.dm ?_ ?_ ?_ ?_,K70.dm ?_ ?_ ?_ ?_,K70.dm ?_ ?_ ?_ ?_,K70.dm ?_ ?_ ?_ ?_,K70.dm ?_ ?_ ?_ ?_,K70.dm ?_ ?_ ?_ ?_,K70.dm ?_ ?_ ?_ ?_,K70.dm ?_ ?_ ?_ ?_,K70.dm ?_ ?_ ?_ ?_,K70.dm ?_ ?_ ?_ ?_,K70.dm ?_ ?_ ?_ ?_,K70.dm ?_ ?_ ?_ ?_,K70.dm ?_ ?_ ?_ ?_,K70.dm ?_ ?_ ?_ ?_,K70.dm ?_ ?_ ?_ ?_,K70.dm ?_ ?_ ?_ ?_,K70.dm ?_ ?_ ?_ ?_,K70.dm ?_ ?_ ?_ ?_,K70.dm ?_ ?_ ?_ ?_,K70.dm ?_ ?_ ?_ ?_,K70.dm ?_ ?_ ?_ ?_,K70.dm ?_ ?_ ?_ ?_,K70.dm ?_ ?_ ?_ ?_,K70.dm ?_ ?_ ?_ ?_,K70.dm ?_ ?_ ?_ ?_,K70.dm ?_ ?_ ?_ ?_,K70.dm ?_ ?_ ?_ ?_,K70.dm ?_ ?_ ?_ ?_,K70.dm ?_ ?_ ?_ ?_,K70.dm ?_ ?_ ?_ ?_,K70.dm ?_ ?_ ?_ ?_⟩ ?Z ?_ ?R
  case R=>kernel_rfl
  case Z=>intro x hx;simp only[Py.fZ,Zk,O1,or_false]at hx;rcases hx with rfl|rfl|rfl|rfl|rfl|rfl|rfl|rfl|rfl|rfl|rfl|rfl|rfl|rfl|rfl|rfl|rfl|rfl|rfl|rfl|rfl<;>k_is
  all_goals first|k_is|skip
end
