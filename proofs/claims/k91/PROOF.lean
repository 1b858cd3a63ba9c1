import PyProof.Rows.All
import Wide.All
import OpenK.AllK
import Wide.FinOn
import Lean
import PyProof.EqAt
import PyProof.EqKinds
import PyProof.TupleCall
import PyProof.ListMulAny
import PyProof.FactsAll.tuple
import KE.IntBitsLaws
import PyProof.NeKinds
import KE.KIntText
import PyProof.SliceStr2
import PyProof.StrCalls2
import PyProof.StrCalls3
import PyProof.FactsAll.tuple_2
import PyProof.SumWalkG
import PyProof.WalksMore
import PyProof.MinMaxWalk
import PyProof.Rows.SeqMore
import PyProof.FactsAll.tuple_3
import KE.KRevIter
import PyProof.FactsAll.range_2
import PyProof.EnumFor
import PyProof.TupleOfGen
import PyProof.ListRange
import PyProof.Rows.SetFrom
import PyProof.FactsAll.subtypes_4
import PyProof.TupleKey
import PyProof.IsRules
import PyProof.RangeFor
import PyProof.FactsAll.set_1
import PyProof.CollectIter
import PyProof.FactsAll.set_2
import KE.KSortAsk
import KE.KSortTup
import PyProof.DictWalks
import PyProof.DictRoadsH
import PyProof.CallStr
import PyProof.Rows.FStr
import PyProof.ExcBaseAll.ValueError
import PyProof.Rows.TopTwo
import PyProof.ExcAttrAll.ValueError
import KE.KIsAll
import KE.KTryMore
import PyProof.StrLawsTight
import PyProof.Rows.StrRev
import PySem.Challenge.RW_pairwebs_k91_webs_read
noncomputable section
set_option genSizeOfSpec false
set_option compiler.extract_closed false
set_option Elab.async false
set_option linter.all false
set_option maxRecDepth 100000
set_option maxHeartbeats 16000000
namespace L2
end L2
namespace Py
end Py
open PySem renaming wpAny_bind->Za,wpAny_pure->Zd,mem_of_lookup->Zw,wpAny_holding->ZE,wpAny_field->ZF,wpAny_callSpecial?_slot->ZG,wpAny_call_entry->ZJ,wpAny_truthy_bool->ZM,wpAny_newObj_type->ZN,Shared->HZ,Addr->H7,Value->H8,Program->Ia,Heap->Ig,World->Io,Comprehension->Ir,wpAny_mono->Iy,SetTable->IA,Around->IH,wpAny_seqItems->IK,wpAny_setState_of->IM,FuncData->IP,NameKind->IQ,wpAny_pyIter_tuple->IY,Builtin->I_,wpAny_pyIter_list->I',IsPair->Jf,wpAny_Call_Name_kw->Jk,wpAny_setField_rec->Jn,codeAny_builtin->Jr,sizeLine_eq->JA,wpAny_typeOf->JB,wpAny_forIn_list->JC,wpAny_askSetting->JD,Stmt->JE,typeIs_str->JK,call_meets->JL,codeAny_mono->JU,wpAny_Call_method_late->JV,wpAny_ite->J1,wpAny_attempt->J2,wpAny_passesOwn->J8,wpAny_loadPart'->J9,CmpOp->Ka,IsPart->Km,wpAny_setField->Kp,wpAny_sequenceKey->Kw,IsZip->Ky,wpAny_standAt->Kz,Result->KS,Keyword->KU,wpAny_rule->KW,wpAny_updateSeq_pair->K5,codeAny_call_builtin->K7,wpAny_setEntries_of->Lf,wpAny_onRaise->Ll,plainId_quiet->Lm,ExceptHandler->Lo,Operator->LC,PassesOwn->LP,noFill_tuple_add->LQ,wpAny_isInstance->LS,wpAny_execs_nil->L3,codeAny_of_tree->L4,BindsTo->L_,wpAny_call->Mh,wpAny_newFunctionEnv_cells->Mi,wpAny_runValue->Mo,isSubtype_type->Mp,seq_tuple_add->My,wpAny_getItem_list_slice->Mz,wpAny_comprehension_free->MA,evalPart_some->MB,filterMap_getElem?_range->MD,wpAny_newList->MF,wpAny_getItem_str_slice->MK,concat_meets->MS,seqIndex_neg->MT,richCompare_meets_room->MW,codeAny_call_function->M4,wpAny_eqIsQuiet_tuple->M7,builtinLookup_eq_fast->M8
open PySem.Heap renaming get?_push_of_some->Zb,get?_push_size->Zg,lt_size->Zi,get?_update_self->IB,SameBut->IZ,size_push->Js,get?_update_other->JF,MadeExcOf->LO,IsTuple->Mb,FlyingW->Md,ExtBut->Ms,IsList->Mt
open List renaming mem_cons_of_mem->Zc,mem_cons_self->Ze,getElem?_eq_getElem->Zh,mem_cons->Zj,length_map->Zk,all_eq_true->Zl,getElem?_eq_some_iff->Zm,getElem?_cons_zero->Zn,mem_map->Zo,length_cons->Zp,mem_of_getElem?->Zq,length_append->Zr,size_toArray->Zs,not_mem_nil->Zy,mem_append_right->Zz,getElem?_cons_succ->ZB,exists_cons_of_length_eq_add_one->ZC,map_cons->ZH,mem_append->ZK,eq_nil_of_length_eq_zero->ZL,mem_iff_getElem->ZP,mem_filterMap->ZS,zip_cons_cons->ZU,pairwise_cons->ZV,length_nil->ZW,getElem?_set_self->ZZ,zipWith->H9,range->H_,replicate->Ic,toArray->Ih,getElem?_append_left->Iz,mem_append_left->IE,getElem?_set_ne->IF,mem_range->IS,getElem?_append_right->IU,nodup_cons->IX,map_map->I7,mem_singleton->Jd,map_append->Jh,all_cons->Ji,length_singleton->Jj,nodup_append->Jl,getElem?_eq_none_iff->Jw,pairwise_iff_getElem->Jy,length_reverse->Jz,take_of_length_le->JG,pairwise_map->JH,length_take->JR,perm_middle->JS,take_length->JT,of_mem_zip->JX,forIn_cons->JY,filterMap_cons->JZ,perm_ext_iff_of_nodup->J7,drop_eq_getElem_cons->Kc,take_sublist->Ke,reverse_cons->Kf,zip_nil_left->Kg,getElem?_map->Kh,getElem?_take_of_lt->Kj,map_drop->Kk,sum_cons->Kl,any_eq_true->Kr,zipWith_cons_cons->Kx,append_nil->KA,take_append_drop->KH,length->KN,nodup_nil->KQ,map_eq_cons_iff->KR,replicate_succ->KY,mem_map_of_mem->KZ,map_take->K1,zip_nil_right->K3,filterMap_map->K4,drop_sublist->K',lookup_cons->Lj,length_tail->Lk,ext_getElem->Ln,idxOf_lt_length_of_mem->LF,getD_eq_getElem?_getD->LK,filterMap_cons_some->LZ,not_of_lt_findIdx->Ma,drop_eq_nil_of_le->Mc,getElem?_eq_none->Mq,getElem_toArray->Mr,zip_eq_zipWith->MC,map_congr_left->MG,set_cons_succ->MO,set_cons_zero->MP,getElem?_drop->MQ,flatten_cons->MV,all_eq_false->MZ,tail_sublist->M0,getElem_inj->M1,length_drop->M5,zipIdx_cons->M6,mem_nil_iff->M',map_reverse->Na
open Nat renaming le_refl->Zf,lt_of_lt_of_le->Zt,ne_of_lt->Zu,le_trans->Zv,zero_le->ZT,lt_irrefl->Iq,le_of_succ_le->Jo,lt_succ_self->Jx,ne_of_gt->JJ,le_of_lt->J3,not_lt->J_,le_add_right->Kt,mod_lt->K6,lt_trans->Lc,zero_add->Ld,le_add_left->LH,add_left_cancel->MM
open Nat.succ renaming inj->ZA
open PyProof.Rows renaming slot_tuple_getitem->ZD,callWith_type1->IG,entry_tuple_getitem->Kb,args_tuple_getitem->Ko,SortKind->Kq,AllBare->Kv,callWith_builtin1->KO,tupleItemsOf_->Lh,tail_any->LD,IsTup->LW,IntsAre->L',Subscript_->Mj,subscriptTail_builtinR->MU
open Array renaming length_toList->ZI,getElem?_eq_getElem->Il,getD_eq_getD_getElem?->Iu,getElem?_toList->JO,getElem?_eq_some_iff->J4,getD->LG,getElem?_eq_none->L5,forIn_toList->ME,getElem_mem->ML
open Bool renaming false_eq_true->ZQ,and_eq_true->ZR,true->HX,false->HY,false_ne_true->IT,eq_iff_iff->Jg,and_eq_true_iff->JW,eq_false_iff->Ki,or_eq_true_iff->K0,or_eq_true->Ly,true_and->LX,not_eq_true'->MY
open LawfulBEq renaming eq_of_beq->ZX
open Option renaming map_eq_some_iff->ZY,isSome_iff_exists->I3,getD_none->MJ
open PySem.Heap.SameBut renaming update->Z1
open PySem.SetTable renaming below->Ib,insertAt->IV,sizeAbove->Ja,fill->J6,tooFull->Kd,fits->Lz,toList_insertAt->LA,layClean->Mn,slot->MX
open PySem.Builtin.Slice renaming slicePlaces->Ie,sliceAdjust->Iv,sliceApplied->JQ
open PySem.Value renaming none->Ii,type->II,ref->I9,bool->JP,int->LV,notImplemented->Ml,isInt_shape->MH
open PySem.Builtin.SmallTypes renaming nextOf->Ij,ownedTupleIsFree->IC,ownedTupleHandOut->J5
open PySem.NameKind renaming cell->Ik,free->KI
open PySem.Builtin.Str renaming occurrences->Ip,strKind->LL,glued->L1
open ForInStep renaming yield->Iw
open PySem.Obj renaming mapSeq->ID,data_mapFields->Je,isFreed_of_fields->KJ,cls_mapFields->Le,putSet->LU
open Int renaming toNat_natCast->IJ,emod_lt_of_pos->K9,emod_nonneg->LI,ediv_one->Mm
open PySem.SetTable.probe renaming go->IL
open PySem.SetTable.layClean renaming free->IW
open PySem.Str renaming ofString->I8,join->Ku
open PySem.Builtin.Tuple renaming tupleItemsOf->Jb,tupleExact->Jm,tupleCompareSizes->KG
open PySem.Calls renaming callWith_builtin->Jc,evalArgs_plain->Jq,Name_function_global->LB,call_function_entry->LN,Constant_str->Mw,spliced_cons->Mx,spliced_nil->MI
open PySem.Around renaming under_plainId->Jp
open PySem.Txt renaming join->Jt,split->Ks
open PySem.SetTable.below renaming go->Ju
open PySem.F renaming slot_tuple_iterator_next->Jv,slot_zip_next->KP,args_tuple_iterator_next_1->LR,entry_tuple_iterator_next->LY
open Option.some renaming inj->JI
open PySem.Heap.IsSliceOf renaming new->JM
open PySem.Builtin.Int renaming intBits->JN
open PySem.Shared renaming heap->J',TypeIs->LM
open PySem.Builtin.Frozenset renaming updateFrom->KC
open PyProof.Rows.F renaming plain_set_update_loop->KD,entry_set_update_loop->Mu
open PySem.Builtin.ObjectAttr renaming bindTo->KL,find->M9,dataDescriptor?->M_
open PySem.Builtin.List renaming listExtendWith->K2,listTooLong->K_,listUpdate->Lg
open PySem.Heap.UpToSlots renaming of_keeps->K8
open PyProof.Rows.IsTup renaming new->Lb
open Classical renaming byContradiction->Lr
open List.Perm renaming eq_of_pairwise->Lu
open PySem.AutoSeq1 renaming sub_tuple_tuple->Lw
open True renaming intro->LJ
open PySem.StrLaws renaming glued_eq_join->L0
open PySem.Builtin.Getset_descriptor renaming descrGet->L6,descrGetter->L7,descrCheckInstance->L8,descrNameAndClass->L9
open Sum renaming inl->Me,inr->Mf
open PyProof.Rows.SortSt renaming mk'->Mv
open PySem.Code renaming quiet_builtin->MN
open PySem.Builtin renaming bitAnd->MR,bitOr->M3
open PySem PySem.Spec PyProof.Rows L2 Py
abbrev Mg:=Str->Option H8
abbrev Vs:=H8->HZ->Prop
abbrev Fg:=PySem.W.Frag
abbrev Lp:=List (H7×Obj)
abbrev Lq:=List (Int×Int)
abbrev Li:=List Int
abbrev La:=List H7
abbrev Lv:=List H8
abbrev Ls:=List Str
abbrev Lx:=List Expr
abbrev Ov:=Option H8
abbrev Av:=Array H8
def Zx:=@decide_eq_false
def ZO:=@decide_eq_true
def Z0:=@of_decide_eq_true
variable {us its its' args:Lv}{u cd doc pm cdv ct oc vl vu cls a0:H8}{a it C dx f sl fa acc I pa:H7}{o ob:Obj}{w:Io}{h h' h1 h2 base h0 h3:Ig}{α β:Type}{e tg iter r' ce elt:Expr}{pq pins':Lp}{s s' s2:HZ}{g':Array GenState}{t' k n tk mask wanted ep line:Nat}{d':PySem.Drawn}{ch fp μ μ' F wr μ1 μ0:La}{N ys ps loose N' W:Ls}{M:Model}{A:IH}{E Q E':Vs}{rest es ifs:Lx}{y name qual pe:Str}{K:Fg}{st:JE}{pos' apos p2 cpos vp tp np cp rp hp:Pos}{lo hi:Option Int}{op' op'':Ka}{prog:Ia}{mg:Mg}{m:Int}{ks:List (Li×H7)}{scope:Scope}{outer:List Env}{od:Option H7}{osl:Array (Ov)}{items:Av}{XP:(Mg)->Ig->Prop}{YP:Io->Ig->Prop}{ns hs:Li}{env:Env}{tn:Nat->Ig->Prop}{ts:Lq}{cell bf:Str->Bool}{b1 b2:Bool}{gens:List Ir}{fr:List (Option Nat)}{nb:Option (Str×Nat×Pos×Pos)}
namespace L2
abbrev Key:=Sum Int Str
noncomputable def oH:Key->H8->Bool
 | .inl k,v=>Value.isInt k v
 | .inr x,v=>Value.isStrOf x v
noncomputable def Bm(w:Io):Key->Int
 | .inl k=>hashInt k
 | .inr x=>hashStr w x
theorem eM:∀{k:Key} {v:H8},oH k v=HX->(∃i t,k=Me i/\v=LV i t)\/(∃x t,k=Mf x/\v=Value.str x t)
 | .inl i,v,h=>by obtain⟨t,e⟩:=MH h;exact .inl ⟨i,t,rfl,e⟩
 | .inr x,v,h=>by obtain⟨t,e⟩:=Value.isStrOf_shape h;exact .inr ⟨x,t,rfl,e⟩
theorem pw(a b:Int):decide ((Me a:Key)=Me b)=(a==b):=by lia
theorem px(a b:Str):decide ((Mf a:Key)=Mf b)=decide (a=b):=by lia
theorem py(a:Int)(b:Str):decide ((Me a:Key)=Mf b)=HY:=Zx λq=>nomatch q
theorem pz(a:Str)(b:Int):decide ((Mf a:Key)=Me b)=HY:=Zx λq=>nomatch q
noncomputable def pA(prog:Ia)(w:Io):PySem.KeyKind prog w Key where
 is:=oH
 hash:=Bm w
 inj:=λv a b ha hb=>by
  rcases eM ha with⟨i,t,rfl,rfl⟩| ⟨x,t,rfl,rfl⟩
  ·rcases eM hb with⟨j,u,rfl,e⟩| ⟨y,u,rfl,e⟩
   ·injection e with e1 _;rw[e1]
   ·exact nomatch e
  ·rcases eM hb with⟨j,u,rfl,e⟩| ⟨y,u,rfl,e⟩
   ·exact nomatch e
   ·injection e with e1 _;rw[e1]
 byValue:=λk v h=>by rcases eM h with⟨i,t,rfl,rfl⟩| ⟨x,t,rfl,rfl⟩<;>rfl
 pyHash:=λhv h=>by
  rcases eM hv with⟨i,t,rfl,rfl⟩| ⟨x,t,rfl,rfl⟩
  ·exact wpAny_pyHash_int h
  ·exact wpAny_pyHash_str h
 eqBool:=λhu hv h=>by
  rcases eM hu with⟨i,t,rfl,rfl⟩| ⟨x,t,rfl,rfl⟩
  ·rcases eM hv with⟨j,u,rfl,rfl⟩| ⟨y,u,rfl,rfl⟩
   ·rw[pw]at h;exact wpAny_eqBool_int h
   ·rw[py]at h;exact SeqAt.EqAt.int_str i t y u _ _ _ _ h
  ·rcases eM hv with⟨j,u,rfl,rfl⟩| ⟨y,u,rfl,rfl⟩
   ·rw[pz]at h;exact SeqAt.EqAt.str_int x t j u _ _ _ _ h
   ·rw[px]at h;exact wpAny_eqBool_str h
 «strs»:=λk x t v h=>by
  rcases eM h with⟨i,u,rfl,e⟩| ⟨y,u,rfl,e⟩
  ·exact nomatch e
  ·injection e with e1 _
   subst e1;cases v<;>rfl
inductive V where
 |non|bl (b:Bool)|int (i:Int)|str (x:Str)|byt (b:Array UInt8)|flt (b:UInt64)|ref (a:H7)|ty (n:String)
 deriving DecidableEq
noncomputable def RelV:V->H8->Prop
 | .non,u=>u=Ii
 | .bl b,u=>u=JP b
 | .int i,u=>∃t,u=LV i t
 | .str x,u=>∃t,u=Value.str x t
 | .byt b,u=>∃t,u=Value.bytes b t
 | .flt b,u=>∃t,u=Value.float b t
 | .ref a,u=>u=I9 a
 | .ty n,u=>u=II n
abbrev Vals:List V->Lv->Prop:=Paired RelV
theorem Vals.length{xs:List V}(r:Vals xs us):xs.length=us.length:=Paired.length r
theorem Vals.get:∀{xs:List V} {us:Lv} {i:Nat} {x:V},Vals xs us->xs[i]?=some x->∃u,us[i]?=some u/\RelV x u
 |_,_,_,_,.nil,e=>by simp_all
 |_,_,0,_,.cons r _,e=>by simp_all
 |_,_,i+1,x,.cons _ t,e=>by obtain⟨u,h,H⟩:=Vals.get t (by simpa using e);simp_all
theorem Vals.set{x:V}(r:RelV x u):∀{xs:List V} {us:Lv} (i:Nat),Vals xs us->Vals (xs.set i x) (us.set i u)
 |_,_,_,.nil=>.nil
 |_,_,0,.cons _ t=>.cons r t
 |_,_,i+1,.cons q t=>.cons q (Vals.set r i t)
theorem Vals.append:∀{xs ys:List V} {us ws:Lv},Vals xs us->Vals ys ws->Vals (xs++ys) (us++ws)
 |_,_,_,_,.nil,s=>s
 |_,_,_,_,.cons r t,s=>.cons r (Vals.append t s)
theorem Vals.take:∀{xs:List V} {us:Lv} (n:Nat),Vals xs us->Vals (xs.take n) (us.take n)
 |_,_,0,_=>.nil
 |_,_,_+1,.nil=>.nil
 |_,_,n+1,.cons r t=>.cons r (Vals.take n t)
theorem Vals.drop:∀{xs:List V} {us:Lv} (n:Nat),Vals xs us->Vals (xs.drop n) (us.drop n)
 |_,_,0,r=>r
 |_,_,_+1,.nil=>.nil
 |_,_,n+1,.cons _ t=>Vals.drop n t
noncomputable def uA:Option V->Ov->Prop
 |some v,some u=>RelV v u
 |none,none=>True
 |_,_=>False
def KV{a:Type}:List (a×V)->List (a×H8)->Prop:=Paired λ(p:a×V) (q:a×H8)=>p.1=q.1/\RelV p.2 q.2
noncomputable def kV:Key->V
 | .inl i=>.int i
 | .inr x=>.str x
inductive HO where
 |lst (xs:List V)
 |tup (xs:List V)
 |dK (kvs:List (Key×V))|dT (kvs:List (List Key×V))
 |set (S:Int->Bool) (n:Nat)
 |ins (C dx:H7) (fs:List (Str×V))
 |own (x:H7)
 |xd (fs:List (Str×V))
 |met (f x:H7)
 |rng (lo hi:Int)
 |frz (o:Obj) (u:HO)
 |tbl (ps:Av)
 |ext (φ:Ig->Prop)
abbrev Hp:=H7->Option HO
noncomputable def aT(H:Hp)(a:H7)(o:HO):Hp:=λb=>if b=a then some o else H b
theorem bI{H:Hp}{o:HO}:aT H a o a=some o:=by unfold aT;simp_all
theorem aw{H:Hp}{b:H7}{o:HO}(h:b≠a):aT H a o b=H b:=by unfold aT;rw[if_neg h]
theorem bD{H:Hp}{b:H7}{o:HO}(h:H a=some o)(h':H b=none):a≠b:=by lia
def j3(h:Ig)(a:H7):Prop:=∃o,h.get? a=some o/\o.dict=none
theorem j3.new(h:Ig)(items:Av):j3 (h.push {cls:=.type "tuple",data:=.seq items}) h.objs.size:=⟨_,Zg _ rfl,rfl⟩
section
variable (P:Ia)(w:Io)
noncomputable def aW(H:Hp)(h:Ig)(a:H7):HO->Prop
 | .lst xs=>xs.length<=sizeLine/\∃(its:Lv) (n:Nat),Vals xs its/\h.get? a=some {cls:=.type "list",data:=.seq its.toArray n}
 | .tup xs=>xs.length<=sizeLine/\∃its:Lv,Vals xs its/\LW h a its.toArray/\j3 h a
 | .dK k=>k.length<=sizeLine/\(a==sysModules)=HY/\∃vs,KV k vs/\h.DictOf (pA P w) a vs
 | .dT k=>k.length<=sizeLine/\(a==sysModules)=HY/\∃xs:List (List Key×H7×H8),
   Paired (λ(p:List Key×V) (q:List Key×H7×H8)=>p.1=q.1/\H q.2.1=some (.tup (p.1.map kV))/\RelV p.2 q.2.2) k xs/\
   ∃o es ep,h.get? a=some o/\o.ExactDict/\o.data=.dict es ep/\es.toList=xs.map (entryOfKey (tupleKind (pA P w)))/\(xs.map (·.1)).Nodup
 | .set S n=>h.SetOf (intKind P w) a S n
 | .ins C dx fs=>H dx=some (.own a)/\fs.length<=1000/\dx≠a/\h.get? a=some (PySem.W.instObj C dx)/\
   ∃mA,h.Ns1 dx mA/\(∀f,uA (fs.lookup f) (mA f))/\PySem.Within mA (fs.map (·.1))
 | .own _=>∃o,h.get? a=some o
 | .xd fs=>∃mA,h.Ns1 a mA/\∀f,uA (fs.lookup f) (mA f)
 | .rng lo hi=>∃t u v,h.get? a=some {cls:=.type "range",data:=.fields #[.int lo t,.int hi u,.int 1 v]}
 | .frz o u=>h.get? a=some o/\aW H h a u
 | .tbl ps=>h.get? a=some {cls:=.none,data:=.fields ps}
 | .met f x=>h.get? a=some (PySem.W.methodObj (.ref f) (.ref x))
 | .ext φ=>φ h/\(∃o,h.get? a=some o)/\∀h1 h2:Ig,φ h1->(∀o,h1.get? a=some o->h2.get? a=some o)->φ h2
def dt(H:Hp)(h:Ig):Prop:=∀a o,H a=some o->aW P w H h a o
end
section
variable {P:Ia}{H H':Hp}{o:HO}
theorem aW.lt(x:aW P w H h a o):a<h.objs.size:=by
 cases o with
 |lst X=>obtain⟨_,_,_,_,e⟩:=x;exact Zi e
 |tup X=>obtain⟨_,_,_,p,_⟩:=x;exact p.lt
 |dK k=>obtain⟨_,_,_,_,o,_,_,e,_⟩:=x;exact Zi e
 |dT k=>obtain⟨_,_,_,_,o,_,_,e,_⟩:=x;exact Zi e
 |set S n=>obtain⟨o,_,_,_,e,_⟩:=x;exact Zi e
 |ins C d fs=>obtain⟨_,_,_,e,_⟩:=x;exact Zi e
 |own y=>obtain⟨_,e⟩:=x;exact Zi e
 |xd fs=>obtain⟨_,⟨_,_,_,e,_⟩,_⟩:=x;exact Zi e
 |rng lo b=>obtain⟨_,_,_,e⟩:=x;exact Zi e
 |frz O u=>obtain⟨e,_⟩:=x;exact Zi e
 |tbl c=>exact Zi (show h.get? a=some _ from x)
 |met f y=>exact Zi (show h.get? a=some _ from x)
 |ext g=>obtain⟨_,⟨_,e⟩,_⟩:=x;exact Zi e
theorem Paired.mapP{F G:α->β->Prop}:∀{l:List α} {L:List β},Paired F l L->(∀a b,F a b->G a b)->Paired G l L
 |_,_,.nil,_=>.nil
 |_,_,.cons r t,f=>.cons (f _ _ r) (Paired.mapP t f)
theorem aW.stay(x:aW P w H h a o)(k:∀b u,(b=a\/H b=some (.own a))->h.get? b=some u->h'.get? b=some u)
  (A:∀b,H b=some (.own a)->H' b=some (.own a)) (B:∀b xs,H b=some (.tup xs)->H' b=some (.tup xs)):aW P w H' h' a o:=by
 induction o with
 |lst xs=>obtain⟨z,i,n,r,e⟩:=x;exact⟨z,_,n,r,k _ _ (.inl rfl) e⟩
 |tup xs=>obtain⟨z,i,r,⟨O,e,c⟩,D,l,j⟩:=x;exact⟨z,_,r,⟨_,k _ _ (.inl rfl) e,c⟩,_,k _ _ (.inl rfl) l,j⟩
 |dK K=>obtain⟨z,y,vs,r,O,g,E,e,c⟩:=x;exact⟨z,y,_,r,_,_,_,k _ _ (.inl rfl) e,c⟩
 |dT K=>obtain⟨z,y,xs,r,O,g,E,e,c⟩:=x;exact⟨z,y,_,Paired.mapP r λp q z=>⟨z.1,B _ _ z.2.1,z.2.2⟩,_,_,_,k _ _ (.inl rfl) e,c⟩
 |set S n=>obtain⟨O,g,E,t,e,c⟩:=x;exact⟨_,_,_,t,k _ _ (.inl rfl) e,c⟩
 |ins C G fs=>obtain⟨d,z,ne,e,M,⟨F,g,E,m,c⟩,r⟩:=x;exact⟨A _ d,z,ne,k _ _ (.inl rfl) e,_,⟨_,_,_,k _ _ (.inr d) m,c⟩,r⟩
 |own y=>obtain⟨O,e⟩:=x;exact⟨_,k _ _ (.inl rfl) e⟩
 |xd fs=>obtain⟨M,⟨F,g,E,e,c⟩,r⟩:=x;exact⟨_,⟨_,_,_,k _ _ (.inl rfl) e,c⟩,r⟩
 |rng lo J=>obtain⟨t,u,v,e⟩:=x;exact⟨t,u,v,k _ _ (.inl rfl) e⟩
 |frz O u I=>obtain⟨e,q⟩:=x;exact⟨k _ _ (.inl rfl) e,I q⟩
 |tbl L=>exact k a _ (.inl rfl) x
 |met f y=>exact k a _ (.inl rfl) x
 |ext N=>obtain⟨p,⟨o,e⟩,s⟩:=x;exact⟨s _ _ p λo q=>k _ _ (.inl rfl) q,⟨o,k _ _ (.inl rfl) e⟩,s⟩
theorem dt.lt(x:dt P w H h)(e:H a=some o):a<h.objs.size:=(x a o e).lt
theorem dt.fresh(x:dt P w H h)(e:h.objs.size<=a):H a=none:=by
 cases q:H a with
 |none=>rfl
 |some u=>exact absurd (Zt (x.lt q) e) (Iq _)
theorem dt.kept(x:dt P w H h)(k:∀b u,h.get? b=some u->h'.get? b=some u):dt P w H h':=λa o e=>
 (x a o e).stay (λb u _ q=>k b u q) (λ_ q=>q) λ_ _ q=>q
theorem dt.laid(x:dt P w H h)(k:∀b u,h.get? b=some u->h'.get? b=some u)(g:h.objs.size<=a)(new:aW P w (aT H a o) h' a o):dt P w (aT H a o) h':=λb u e=>by
 have f:=x.fresh g;by_cases d:b=a
 ·subst d;rw[bI]at e;simp_all
 ·rw[aw d]at e;exact(x b u e).stay (λc v _ q=>k c v q) (λc q=>by rw[aw (bD q f)];exact q) λc X q=>by rw[aw (bD q f)];exact q
end
def Rd(H:Hp)(a:H7)(u:HO):Prop:=H a=some u\/∃o,H a=some (.frz o u)
theorem Rd.ok{P:Ia}{H:Hp}{u:HO}(r:Rd H a u)(x:dt P w H h):aW P w H h a u:=by
 rcases r with r| ⟨o,r⟩
 ·exact x a u r
 ·obtain⟨_,q⟩:=x a _ r;exact q
noncomputable def A5:Option HO->Prop
 |some (.lst _)=>True
 |some (.dK _)=>True
 |some (.dT _)=>True
 |some (.set _ _)=>True
 |some (.ins _ _ _)=>True
 |some (.ext _)=>True
 |_=>False
section
variable {P:Ia}{H:Hp}{x e:H7}{o':HO}
theorem dt.write(ok:dt P w H h)(m:A5 (H x))(i:e=x\/H e=some (.own x))(k:∀b u,b≠e->h.get? b=some u->h'.get? b=some u)(a:∃u,h'.get? e=some u)
  (new:aW P w (aT H x o') h' x o'):dt P w (aT H x o') h':=λb u q=>by
 have n:∀c y,H c=some (.own y)->c≠x:=λc y r z=>by subst z;rw[r]at m;exact m
 have N:∀c X,H c=some (.tup X)->c≠x:=λc X r z=>by subst z;rw[r]at m;exact m
 by_cases d:b=x
 ·subst d;rw[bI]at q;simp_all
 ·rw[aw d]at q;by_cases f:b=e
  ·have Q:H b=some (.own x):=by lia
   rw[q]at Q;cases Q;obtain⟨v,j⟩:=a;exact⟨v,by lia⟩
  ·refine(ok b u q).stay (λc v g r=>k c v ?_ r) (λc r=>by rw[aw (n c b r)];exact r) λc X r=>by rw[aw (N c _ r)];exact r
   grind
end
structure Un (fs ex:La)(H H':Hp)(h h':Ig):Prop where
 keep:∀b o,h.get? b=some o->H b=none->b∉fs->b∉ex->h'.get? b=some o
 slot:∀b o,h.get? b=some o->H b=none->b∈fs->b∉ex->∃sl,h'.get? b=some {o with slots:=sl}
 free:∀b o,h.get? b=some o->H b=none->b∉ex->H' b=none
 there:∀b o,h.get? b=some o->b∉ex->∃o',h'.get? b=some o'
 tups:∀b xs,H b=some (.tup xs)->H' b=some (.tup xs)
 frzs:∀b o u,H b=some (.frz o u)->H' b=some (.frz o u)
 tbls:∀b ps,H b=some (.tbl ps)->∃more,H' b=some (.tbl (ps++more))
section
variable {fs fs' ex ex':La}{H H1 H2:Hp}{x e:H7}{o:HO}
theorem Un.any(u:Un fs ex H H1 h h1){b:H7}(q:h.get? b=some ob)(n:H b=none)(c:b∉ex):∃sl,h1.get? b=some {ob with slots:=sl}:=by
 by_cases a:b∈fs
 ·exact u.slot b _ q n a c
 ·exact⟨_,u.keep b _ q n a c⟩
theorem Un.kept(k:∀b u,h.get? b=some u->h'.get? b=some u):Un fs ex H H h h':=
 ⟨λb o q _ _ _=>k b _ q,λb o q _ _ _=>⟨_,k b _ q⟩,λ_ _ _ n _=>n,λb o q _=>⟨_,k b _ q⟩,λ_ _ q=>q,λ_ _ _ q=>q,λ_ p q=>⟨#[],by simp_all⟩⟩
theorem Un.refl:Un fs ex H H h h:=Un.kept λ_ _ q=>q
theorem Un.laid(k:∀b u,h.get? b=some u->h'.get? b=some u)(hp:h.objs.size<=a)(hn:H a=none):Un fs ex H (aT H a o) h h' where
 keep:=λb u q _ _ _=>k b u q
 slot:=λb u q _ _ _=>⟨_,k b u q⟩
 free:=λb u q n _=>by rw[aw (Zu (Zt (Zi q) hp))];exact n
 there:=λb u q _=>⟨u,k b u q⟩
 tups:=λb xs q=>by rw[aw (bD q hn)];exact q
 frzs:=λb u xs q=>by rw[aw (bD q hn)];exact q
 tbls:=λb ps q=>⟨#[],by rw[aw (bD q hn),q];simp⟩
theorem Un.write(m:A5 (H x))(g:e=x\/H e=some (.own x))(k:∀b u,b≠e->h.get? b=some u->h'.get? b=some u)(d:∃u,h'.get? e=some u):Un fs ex H (aT H x o) h h':=by
 have f:∀b,H b=none->b≠x:=λb n z=>by subst z;rw[n]at m;exact m
 have c:∀b,H b=none->b≠e:=λb n z=>by lia
 have a:∀b u,H b=some u->¬A5 (some u)->b≠x:=λb u q N z=>by lia
 refine⟨λb u q n _ _=>k b u (c b n) q,λb u q n _ _=>⟨_,k b u (c b n) q⟩,λb u q n _=>by rw[aw (f b n)];exact n,λb u q _=>?_,
  λb X q=>by rw[aw (a b _ q λz=>z)];exact q,λb u X q=>by rw[aw (a b _ q λz=>z)];exact q,λb p q=>⟨#[],by rw[aw (a b _ q λz=>z),q];simp⟩⟩
 grind
end
noncomputable def HA(h:Ig)(H:Hp):La:=(H_ h.objs.size).filter λa=>(H a).isSome
noncomputable def e7(h:Ig)(H:Hp):Ig:=PySem.W.hideAll h (HA h H)
theorem Bn(h:Ig)(H:Hp):(e7 h H).objs.size=h.objs.size:=PySem.W.hideAll_size _ _
theorem Bo{H:Hp}{b:H7}(e:h.get? b=some o)(n:H b=none):(e7 h H).get? b=some o:=
 PySem.W.hideAll_get _ e λa=>by have q:=(List.mem_filter.mp a).2;simp_all
theorem j4{H:Hp}{b:H7}(e:(e7 h H).get? b=some o):h.get? b=some o/\H b=none:=by
 have E:=PySem.W.of_hideAll _ e;refine⟨E,?_⟩;cases q:H b with
 |none=>rfl
 |some x=>have z:(e7 h H).get? b=none:=PySem.W.hideAll_none _ (List.mem_filter.mpr ⟨IS.mpr (Zi E),by simp[q]⟩);simp_all
structure Mod (K:Fg)(mg:Mg)(base:Ig):Prop where
 kin:K.In base
 glob:base.Ns mainGlobals mg
 blt:∃mb,base.Ns builtinsNs mb/\∀x:Str,x≠"__name__"->mb x=bootBuiltins x
 nolimit:base.NoLimit
structure Cx where
 prog:Ia
 w:Io
 K:Fg
 mg:Mg
 base:Ig
 A:IH
 N:Ls
 s₀:HZ
 H₀:Hp
 env:Env
 outer:List Env
 stack:List Env
 ex:La
 fn:Str->Bool
 calm:Bool
 pn:Lp
 xe:Vs
noncomputable def bE(l:List Env):La:=l.filterMap (·.frame)
abbrev Cx.fs(X:Cx):La:=bE X.outer
def uB(s:Scope)(x:Str):Prop:=s.names.lookup x=some .local\/s.names.lookup x=some .cell\/s.names.lookup x=some .free
def Loc(s:Scope)(x:Str):Prop:=s.names.lookup x=some .local\/s.names.lookup x=some .cell
def Look(env:Env)(h:Ig)(m:Mg)(x:Str)(u:H8):Prop:=
 (env.kindOf x=some .local/\m x=some u)\/((env.kindOf x=some .cell\/env.kindOf x=some .free)/\∃c,env.cells.lookup x=some c/\h.IsCell c (some u))
structure Cx.Ok (X:Cx):Prop where
 mod:Mod X.K X.mg X.base
 kind:X.env.scope.kind=.function
 glob:X.env.globals=mainGlobals
 blt:X.env.builtins=builtinsNs
 above:X.s₀.heap.objs.size<=X.env.locals
 inj:∀x y c,X.env.cells.lookup x=some c->X.env.cells.lookup y=some c->x=y
 has:∀x,(X.env.kindOf x=some .cell\/X.env.kindOf x=some .free)->∃c,X.env.cells.lookup x=some c
 cab:∀x c,X.fn x=HX->X.env.cells.lookup x=some c->X.s₀.heap.objs.size<=c
 hd:X.calm=HX->X.A.handled=none
 frames:X.A.frames=some X.stack
 stk:X.stack=X.outer\/(X.stack=X.env::X.outer/\X.env.frame=some X.env.locals)
 exf:∀b∈X.ex,b≠X.env.locals/\∀x c,X.env.cells.lookup x=some c->c≠b
 bs:∀b o,X.base.get? b=some o->X.s₀.heap.get? b=some o/\X.H₀ b=none
 bsz:X.base.objs.size<=X.s₀.heap.objs.size
 noex:∀b o,X.base.get? b=some o->b∉X.ex
 exfs:∀b∈X.ex,b∉X.fs
 funs:X.s₀.heap.FunFrames X.base X.outer
 frf:∀b∈X.fs,X.H₀ b=none
structure Inv (X:Cx)(pq:Lp)(σ:List (Option V))(H:Hp)(s:HZ):Prop where
 ok:X.Ok
 os:s.os=X.s₀.os
 bare:Kv s.gens
 base:Un X.fs X.ex X.H₀ H X.s₀.heap s.heap
 loc:∃m,s.heap.Ns X.env.locals m/\∀(i:Nat) (x:Str) (v:V),X.N[i]?=some x->σ[i]?=some (some v)->uB X.env.scope x->∃u,RelV v u/\Look X.env s.heap m x u
 cell:∀x c,X.env.cells.lookup x=some c->∃v,s.heap.IsCell c v
 free:H X.env.locals=none
 freeC:∀x c,X.env.cells.lookup x=some c->H c=none
 pin:∀p∈X.pn++pq,s.heap.get? p.1=some p.2/\H p.1=none/\p.1≠X.env.locals/\p.1∉X.fs/\∀v,p.2.data≠.cell v
 hok:dt X.prog X.w H s.heap
 len:σ.length=X.N.length
section
variable {X:Cx}{σ:List (Option V)}{H H':Hp}
theorem Cx.Ok.nofr(ok:X.Ok){b:H7}(e:X.base.get? b=some o):b∉X.fs:=λh=>by have:=(ok.funs.mem h).1;simp_all
theorem Inv.bs(I:Inv X pq σ H s):∀b o,X.base.get? b=some o->s.heap.get? b=some o/\H b=none:=λb o e=>
 ⟨I.base.keep b o (I.ok.bs b o e).1 (I.ok.bs b o e).2 (I.ok.nofr e) (I.ok.noex b o e),I.base.free b o (I.ok.bs b o e).1 (I.ok.bs b o e).2 (I.ok.noex b o e)⟩
theorem Inv.bk(I:Inv X pq σ H s):∀b o,X.base.get? b=some o->s.heap.get? b=some o:=λb o e=>(I.bs b o e).1
theorem Inv.mod(I:Inv X pq σ H s):Mod X.K X.mg X.base:=I.ok.mod
theorem Inv.kIn(I:Inv X pq σ H s):X.K.In s.heap:=I.ok.mod.kin.keeps I.bk
theorem Inv.lt(I:Inv X pq σ H s):X.env.locals<s.heap.objs.size:=let⟨_,h,_⟩:=I.loc;h.lt
theorem Inv.sz(I:Inv X pq σ H s):X.s₀.heap.objs.size<=s.heap.objs.size:=Zv I.ok.above (J3 I.lt)
theorem Inv.nofs(I:Inv X pq σ H s)(h:s.heap.objs.size<=a):a∉X.fs:=λb=>by obtain⟨_,o,c,_⟩:=I.ok.funs.mem b;exact absurd (Zt (Zi c) (Zv I.sz h)) (Iq _)
theorem Inv.cne(I:Inv X pq σ H s):∀x c,X.env.cells.lookup x=some c->c≠X.env.locals:=λx c e z=>by obtain⟨v,o,f,d⟩:=I.cell x c e;obtain⟨m,⟨O,b,E,a,h,_⟩,_⟩:=I.loc;simp_all
theorem Inv.funs(I:Inv X pq σ H s):s.heap.FunFrames X.base X.outer:=by
 have all:∀(l:List _),(∀b∈bE l,b∈X.fs)->X.s₀.heap.FunFrames X.base l->s.heap.FunFrames X.base l:=by
  intro l
  induction l with
  |nil=>intro _ _;trivial
  |cons E r n=>intro d i;obtain⟨g,⟨L,o,c,j,k,f⟩,m⟩:=i;have h:=d L (by unfold bE;simp_all);obtain⟨sl,e⟩:=I.base.slot L o k (I.ok.frf L h) h λz=>I.ok.exfs L z h;exact⟨g,⟨L,_,c,j,e,f⟩,n (λb a=>d b (by unfold bE;simp only[JZ,c];exact Zc _ a)) m⟩
 exact all _ (λ_ a=>a) I.ok.funs
theorem Inv.stack(I:Inv X pq σ H s):s.heap.FunFrames X.base X.stack:=by
 rcases I.ok.stk with e| ⟨e,h⟩
 ·rw[e];exact I.funs
 ·rw[e];obtain⟨m,a,_⟩:=I.loc;exact .cons (by rw[I.ok.kind];decide) h a (Heap.get?_none_of_le (Zv I.ok.bsz I.ok.above)) I.funs
theorem Inv.stkSub(I:Inv X pq σ H s):∀b∈bE X.stack,b∈X.env.locals::X.fs:=λb h=>by
 rcases I.ok.stk with e| ⟨e,a⟩
 ·simp_all
 ·rw[e]at h;unfold bE at h;rw[JZ,a]at h;exact h
theorem Inv.stkFree(I:Inv X pq σ H s):∀b∈bE X.stack,H b=none:=λb h=>by
 rcases Zj.mp (I.stkSub b h)with e|h
 ·rw[e];exact I.free
 ·obtain⟨_,o,a,_⟩:=I.ok.funs.mem h;exact I.base.free b o a (I.ok.frf b h) λz=>I.ok.exfs b z h
theorem Inv.step{J:Array GenState}{t':Nat}{Q:PySem.Drawn}(I:Inv X pq σ H s)
  (a:∀b∈ch,(b∈X.ex\/X.s₀.heap.objs.size<=b)/\b≠X.env.locals/\(∀x c,X.env.cells.lookup x=some c->c≠b)/\∀p∈X.pn++pq,p.1≠b)
  (K:∀b o,b≠X.env.locals->b∉X.fs->b∉ch->s.heap.get? b=some o->H b=none->h'.get? b=some o)
  (S:∀b o,b≠X.env.locals->b∈X.fs->b∉ch->s.heap.get? b=some o->H b=none->∃sl,h'.get? b=some {o with slots:=sl}) (f:∀b o,b∉ch->s.heap.get? b=some o->H b=none->H' b=none)
  (t:∀b o,b∉ch->s.heap.get? b=some o->∃o',h'.get? b=some o')
  (T:∀b xs,H b=some (.tup xs)->H' b=some (.tup xs)) (F:∀b o u,H b=some (.frz o u)->H' b=some (.frz o u)) (O:∀b ps,H b=some (.tbl ps)->∃more,H' b=some (.tbl (ps++more)))
  (Z:∀m,s.heap.Ns X.env.locals m->h'.Ns X.env.locals m) (D:dt X.prog X.w H' h') (U:Kv J):
  Inv X pq σ H' {s with heap:=h',gens:=J,drawn:=Q,toks:=t'}:=by
 have y:∀b o,X.s₀.heap.get? b=some o->b≠X.env.locals:=λb o e=>Zu (Zt (Zi e) I.ok.above)
 have N:∀b o,X.s₀.heap.get? b=some o->b∉X.ex->b∉ch:=λb o e h g=>by
  rcases(a b g).1 with z|z
  ·exact h z
  ·exact absurd (Zt (Zi e) z) (Iq _)
 have C:∀x c,X.env.cells.lookup x=some c->∀v,s.heap.IsCell c v->h'.IsCell c v:=λx c e v ⟨o,j,B⟩=>by
  have w:c∉ch:=λz=>(a c z).2.2.1 x c e rfl;by_cases L:c∈X.fs
  ·obtain⟨sl,q⟩:=S c o (I.cne x c e) L w j (I.freeC x c e);exact⟨_,q,B⟩
  ·exact⟨o,K c o (I.cne x c e) L w j (I.freeC x c e),B⟩
 refine⟨I.ok,I.os,U,⟨λb o e n g h=>?_,λb o e n g h=>?_,λb o e n h=>?_,λb o e h=>?_,λb xs e=>T b xs (I.base.tups b xs e),λb o xs e=>F b o xs (I.base.frzs b o xs e),λb ps e=>?_⟩,?_,λx c e=>?_,?_,λx c e=>?_,λp Y=>?_,D,I.len⟩
 ·exact K b o (y b o e) g (N b o e h) (I.base.keep b o e n g h) (I.base.free b o e n h)
 ·obtain⟨sl,E⟩:=I.base.slot b o e n g h;obtain⟨G,A⟩:=S b _ (y b o e) g (N b o e h) E (I.base.free b o e n h);exact⟨G,A⟩
 ·obtain⟨o',E⟩:=I.base.there b o e h;exact f b o' (N b o e h) E (I.base.free b o e n h)
 ·obtain⟨o',E⟩:=I.base.there b o e h;exact t b o' (N b o e h) E
 ·obtain⟨m1,E⟩:=I.base.tbls b ps e
  grind
 ·obtain⟨m,W,V⟩:=I.loc;refine⟨m,Z m W,λi x v E A R=>?_⟩;obtain⟨u,r,l⟩:=V i x v E A R;refine⟨u,r,?_⟩;rcases l with l| ⟨k,c,e,z⟩
  ·exact .inl l
  ·exact .inr ⟨k,c,e,C x c e _ z⟩
 ·obtain⟨v,z⟩:=I.cell x c e;exact⟨v,C x c e v z⟩
 ·obtain⟨m,⟨o,_,_,j,_⟩,_⟩:=I.loc;exact f _ o (λz=>(a _ z).2.1 rfl) j I.free
 ·obtain⟨v,o,j,B⟩:=I.cell x c e;exact f c o (λz=>(a c z).2.2.1 x c e rfl) j (I.freeC x c e)
 ·obtain⟨e,n,ne,nf,d⟩:=I.pin p Y
  grind
theorem Inv.un{t':Nat}(I:Inv X pq σ H s)(u:Un X.fs [] H H' s.heap h')(c:dt X.prog X.w H' h'):Inv X pq σ H' {s with heap:=h',toks:=t'}:=by obtain⟨m,⟨o,l,k,f,r⟩,_⟩:=id I.loc;obtain⟨sl,i⟩:=u.any f I.free (by simp);exact I.step (ch:=[]) (λ_ z=>nomatch z) (λb o _ a _ e n=>u.keep b o e n a (by simp)) (λb o _ a _ e n=>u.slot b o e n a (by simp)) (λb o _ e n=>u.free b o e n (by simp)) (λb o _ e=>u.there b o e (by simp)) u.tups u.frzs u.tbls (λM j=>by obtain⟨O,g,E,h,R⟩:=j;rw[f]at h;cases h;exact⟨_,_,_,i,R⟩) c I.bare
theorem Inv.call{t':Nat}{D:PySem.Drawn}(I:Inv X pq σ H s)(u:Un (bE X.stack) ch H H' s.heap h')(g:dt X.prog X.w H' h')(q:Kv g')
  (a:∀b∈ch,(b∈X.ex\/X.s₀.heap.objs.size<=b)/\b≠X.env.locals/\(∀x c,X.env.cells.lookup x=some c->c≠b)/\∀p∈X.pn++pq,p.1≠b):
  Inv X pq σ H' {s with heap:=h',gens:=g',drawn:=D,toks:=t'}:=by
 obtain⟨m,⟨o,y,w,j,r⟩,_⟩:=id I.loc;obtain⟨sl,f⟩:=u.any j I.free λz=>(a _ z).2.1 rfl;exact I.step a (λb o f l h e n=>u.keep b o e n (λz=>(Zj.mp (I.stkSub b z)).elim f l) h) (λb o _ _ h e n=>u.any e n h) (λb o h e n=>u.free b o e n h) (λb o h e=>u.there b o e h) u.tups u.frzs u.tbls (λM v=>by obtain⟨O,k,E,d,R⟩:=v;rw[j]at d;cases d;exact⟨_,_,_,f,R⟩) g q
theorem Inv.turned{t':Nat}(I:Inv X pq σ H s)(k:∀b o,b≠it->s.heap.get? b=some o->h'.get? b=some o)(y:H it=none)(d:it≠X.env.locals)
  (h1:it∈X.ex\/X.s₀.heap.objs.size<=it) (j:∀x c,X.env.cells.lookup x=some c->c≠it) (l:∀p∈X.pn++pq,p.1≠it):Inv X pq σ H {s with heap:=h',toks:=t'}:=by
 refine I.step (ch:=[it]) (λb w=>?_) (λb o _ _ h e _=>k b o (λz=>h (by simp[z])) e) (λb o _ _ h e _=>⟨_,k b o (λz=>h (by simp[z])) e⟩) (λ_ _ _ _ n=>n)
  (λb o h e=>⟨o,k b o (λz=>h (by simp[z])) e⟩) (λ_ _ e=>e) (λ_ _ _ e=>e) (λb P e=>⟨#[],by simp_all⟩) (λm f=>?_) (λb u e=>?_) I.bare
 ·grind
 ·obtain⟨o,i,E,g,r⟩:=f;exact⟨o,_,_,k _ o (Ne.symm d) g,r⟩
 ·refine(I.hok b u e).stay (λc v h q=>k c v ?_ q) (λ_ q=>q) λ_ _ q=>q
  grind
theorem Inv.tok(I:Inv X pq σ H s)(t:Nat):Inv X pq σ H {s with toks:=t}:=I.un Un.refl I.hok
theorem Inv.kept{t':Nat}(I:Inv X pq σ H s)(k:∀b u,s.heap.get? b=some u->h'.get? b=some u):Inv X pq σ H {s with heap:=h',toks:=t'}:=I.un (Un.kept k) (I.hok.kept k)
theorem Inv.laid{o:HO}{t':Nat}(I:Inv X pq σ H s)(k:∀b u,s.heap.get? b=some u->h'.get? b=some u)(h:s.heap.objs.size<=a)(new:aW X.prog X.w (aT H a o) h' a o):
  Inv X pq σ (aT H a o) {s with heap:=h',toks:=t'}:=I.un (Un.laid k h (I.hok.fresh h)) (I.hok.laid k h new)
theorem Inv.write{x e:H7}{o:HO}{t':Nat}(I:Inv X pq σ H s)(m:A5 (H x))(a:e=x\/H e=some (.own x))(k:∀b u,b≠e->s.heap.get? b=some u->h'.get? b=some u)(h:∃u,h'.get? e=some u)
  (new:aW X.prog X.w (aT H x o) h' x o):Inv X pq σ (aT H x o) {s with heap:=h',toks:=t'}:=I.un (Un.write m a k h) (I.hok.write m a k h new)
theorem Inv.pins_of(I:Inv X pq σ H s)(h:∀p∈pins',s.heap.get? p.1=some p.2/\H p.1=none/\p.1≠X.env.locals/\p.1∉X.fs/\∀v,p.2.data≠.cell v):Inv X pins' σ H s:=
 ⟨I.ok,I.os,I.bare,I.base,I.loc,I.cell,I.free,I.freeC,λp a=>(ZK.mp a).elim (λz=>I.pin p (IE _ z)) (h p),I.hok,I.len⟩
theorem uC(h:N.Nodup){i j:Nat}{x:Str}(a:N[i]?=some x)(b:N[j]?=some x):i=j:=by obtain⟨H,e⟩:=Zm.mp a;obtain⟨c,E⟩:=Zm.mp b;exact(M1 h).mp (e.trans E.symm)
theorem uD{M:Model}{A:IH}{E:Vs}{i:Nat}{x:Str}{v:V}{Q:Unit->HZ->Prop}(I:Inv X pq σ H s)(hN:X.N.Nodup)(P:X.N[i]?=some x)(w:Loc X.env.scope x)(r:RelV v u)
  (h:∀s',Inv X pq (σ.set i (some v)) H s'->(∃a,IZ a s.heap s'.heap/\(a=X.env.locals\/X.env.cells.lookup x=some a))->Q () s') (hf:X.fn x=HX\/X.env.scope.names.lookup x=some .local:=by first|exact .inl rfl|exact .inr rfl|assumption):wpAny M A (storeName X.env x u) Q E s:=by
 obtain⟨m,U,hl⟩:=id I.loc;have D:i<σ.length:=by rw[I.len];exact(Zm.mp P).1
 have cne:=I.cne
 have t:∀{a:H7} {K:Ig},(∃o,s.heap.get? a=some o/\H a=none)->IZ a s.heap K->dt X.prog X.w H K:=λ{a K} ha f b ob e=>by
  obtain⟨_,_,B⟩:=ha;refine(I.hok b ob e).stay (λc W l q=>(f.2 c ?_).trans q) (λ_ q=>q) λ_ _ q=>q;rintro rfl;rcases l with rfl|l
  ·rw[B]at e;cases e
  ·rw[B]at l;cases l
 rcases w with L|L
 ·refine wpAny_storeName_local L U (λK Y f=>?_) (by rw[I.ok.kind];rfl);obtain⟨oL,_,_,Z,_⟩:=id U;refine h _ ⟨I.ok,I.os,I.bare,⟨λb o e n F w=>?_,λb o e n F w=>?_,I.base.free,λb o e w=>?_,I.base.tups,I.base.frzs,I.base.tbls⟩,⟨_,Y,λj y v' g C T=>?_⟩,λy c e=>?_,I.free,I.freeC,λp hp=>?_,t ⟨oL,Z,I.free⟩ f,by simpa using I.len⟩ ⟨_,f,.inl rfl⟩
  ·exact(f.2 b (Zu (Zt (Zi e) I.ok.above))).trans (I.base.keep b o e n F w)
  ·obtain⟨sl,g⟩:=I.base.slot b o e n F w;exact⟨sl,(f.2 b (Zu (Zt (Zi e) I.ok.above))).trans g⟩
  ·obtain⟨o',g⟩:=I.base.there b o e w;exact⟨o',(f.2 b (Zu (Zt (Zi e) I.ok.above))).trans g⟩
  ·by_cases J:j=i
   ·subst J;rw[P]at g;cases g;rw[ZZ D]at C;cases C;exact⟨u,r,.inl ⟨L,by simp⟩⟩
   ·rw[IF (Ne.symm J)]at C;obtain⟨u',r',q⟩:=hl j y v' g C T;refine⟨u',r',?_⟩;rcases q with⟨k,e⟩| ⟨k,c,e,z⟩
    ·refine .inl ⟨k,?_⟩;have:y≠x:=λe=>J (uC hN g (e▸P));simp[this,e]
    ·exact .inr ⟨k,c,e,z.sameBut f (cne y c e)⟩
  ·obtain⟨W,z⟩:=I.cell y c e;exact⟨W,z.sameBut f (cne y c e)⟩
  ·obtain⟨e,n,ne,nf,d⟩:=I.pin p hp;exact⟨(f.2 p.1 ne).trans e,n,ne,nf,d⟩
 ·have G:X.fn x=HX:=by grind
  obtain⟨c,l⟩:=I.ok.has x (.inl L);obtain⟨W,z⟩:=I.cell x c l;refine wpAny_storeName_cell I.ok.kind L l z (λK N f=>?_);obtain⟨oc,R,hocd⟩:=id z;refine h {s with heap:=K} ⟨I.ok,I.os,I.bare,⟨λb o e n F w=>?_,λb o e n F w=>?_,I.base.free,λb o e w=>?_,I.base.tups,I.base.frzs,I.base.tbls⟩,⟨m,U.sameBut f (Ne.symm (cne x c l)),λj y v' g C T=>?_⟩,λy S e=>?_,I.free,I.freeC,λp hp=>?_,t ⟨oc,R,I.freeC x c l⟩ f,by simpa using I.len⟩ ⟨c,f,.inr l⟩
  ·exact(f.2 b (Zu (Zt (Zi e) (I.ok.cab x c G l)))).trans (I.base.keep b o e n F w)
  ·obtain⟨sl,g⟩:=I.base.slot b o e n F w;exact⟨sl,(f.2 b (Zu (Zt (Zi e) (I.ok.cab x c G l)))).trans g⟩
  ·obtain⟨o',g⟩:=I.base.there b o e w;exact⟨o',(f.2 b (Zu (Zt (Zi e) (I.ok.cab x c G l)))).trans g⟩
  ·by_cases J:j=i
   ·subst J;rw[P]at g;cases g;rw[ZZ D]at C;cases C;exact⟨u,r,.inr ⟨.inl L,c,l,N⟩⟩
   ·rw[IF (Ne.symm J)]at C;obtain⟨u',r',q⟩:=hl j y v' g C T;refine⟨u',r',?_⟩;rcases q with q| ⟨k,S,e,z'⟩
    ·exact .inl q
    ·refine .inr ⟨k,S,e,z'.sameBut f ?_⟩;rintro rfl;exact J (uC hN g (I.ok.inj _ _ _ e l▸P))
  ·by_cases O:S=c
   ·subst O;exact⟨_,N⟩
   ·obtain⟨w2,z2⟩:=I.cell y S e;exact⟨w2,z2.sameBut f O⟩
  ·obtain⟨e,n,ne,nf,d⟩:=I.pin p hp;refine⟨(f.2 p.1 ?_).trans e,n,ne,nf,d⟩;intro q;rw[q,R]at e;exact d W (by grind)
theorem pB{M:Model}{A:IH}{E:Vs}{i:Nat}{x:Str}{v:V}{Q:Unit->HZ->Prop}(I:Inv X pq σ H s)(b:X.N.Nodup)(d:X.N[i]?=some x)(e:Loc X.env.scope x)(r:RelV v u)
  (h:∀s',Inv X pq (σ.set i (some v)) H s'->Q () s') (c:X.fn x=HX\/X.env.scope.names.lookup x=some .local:=by first|exact .inl rfl|exact .inr rfl|assumption):wpAny M A (storeName X.env x u) Q E s:=
 uD I b d e r (λs' a _=>h _ a) c
theorem Inv.call'(I:Inv X pq σ H s)(e:s'.os=s.os)(u:Un (bE X.stack) ch H H' s.heap s'.heap)(a:dt X.prog X.w H' s'.heap)(d:Kv s'.gens)
  (h:∀b∈ch,(b∈X.ex\/X.s₀.heap.objs.size<=b)/\b≠X.env.locals/\(∀x c,X.env.cells.lookup x=some c->c≠b)/\∀p∈X.pn++pq,p.1≠b):Inv X pq σ H' s':=by
 obtain⟨f,g,D,t,o⟩:=s';subst(e);exact I.call u a d h
end
abbrev XK:=H8->Option H7->Hp->Prop
abbrev St:=List (Option V)
abbrev VK:=V->Hp->Prop
abbrev TE:=St->Hp->VK->Prop
abbrev TT:=St->Hp->(Bool->Hp->Prop)->Prop
abbrev TA:=St->Hp->(List V->Hp->Prop)->Prop
set_option genInjectivity false in
structure Ends where
 nx:St->Hp->Prop
 rt:VK
 bk:St->Hp->Prop:=λ_ _=>False
 ct:St->Hp->Prop:=λ_ _=>False
abbrev TS:=Ends->St->Hp->Prop
def EP(X:Cx)(p:Lp)(σ:St)(Q:VK)(u:H8)(s:HZ):Prop:=∃v H',Inv X p σ H' s/\RelV v u/\Q v H'
def TP(X:Cx)(p:Lp)(σ:St)(Q:Bool->Hp->Prop)(b:Bool)(s:HZ):Prop:=∃H',Inv X p σ H' s/\Q b H'
def AP(X:Cx)(p:Lp)(σ:St)(Q:List V->Hp->Prop)(u:Lv)(s:HZ):Prop:=∃vs H',Inv X p σ H' s/\Vals vs u/\Q vs H'
def SP(X:Cx)(p:Lp)(D:Ends)(f:Flow)(s:HZ):Prop:=
 match f with
 | .next=>∃σ' H',Inv X p σ' H' s/\D.nx σ' H'
 | .brk=>∃σ' H',Inv X p σ' H' s/\D.bk σ' H'
 | .cont=>∃σ' H',Inv X p σ' H' s/\D.ct σ' H'
 | .ret u=>∃v σ' H',Inv X p σ' H' s/\RelV v u/\D.rt v H'
def PE(X:Cx)(e:Expr)(t:TE):Prop:=
 ∀(pq:Lp) (s:HZ) (σ:St) (H:Hp) (Q:VK),Inv X pq σ H s->t σ H Q->wpAny (model X.prog X.w) X.A (eval e X.env) (EP X pq σ Q) X.xe s
def PT(X:Cx)(e:Expr)(t:TT):Prop:=
 ∀(pq:Lp) (s:HZ) (σ:St) (H:Hp) (Q:Bool->Hp->Prop),Inv X pq σ H s->t σ H Q->wpAny (model X.prog X.w) X.A (isTrue e X.env (eval e X.env)) (TP X pq σ Q) X.xe s
def PW(X:Cx)(e:Expr)(t:TT):Prop:=
 ∀(whole:Sem H8) (pq:Lp) (s:HZ) (σ:St) (H:Hp) (Q:Bool->Hp->Prop),Inv X pq σ H s->t σ H Q->wpAny (model X.prog X.w) X.A (isTrue e X.env whole) (TP X pq σ Q) X.xe s
theorem PW.pt{X:Cx}{t:TT}(h:PW X e t):PT X e t:=h _
def PA(X:Cx)(es:Lx)(t:TA):Prop:=
 ∀(pos:Pos) (pq:Lp) (s:HZ) (σ:St) (H:Hp) (Q:List V->Hp->Prop),Inv X pq σ H s->t σ H Q->wpAny (model X.prog X.w) X.A (spliced (backTo pos (starEach es X.env))) (AP X pq σ Q) X.xe s
def PS(X:Cx)(st:JE)(t:TS):Prop:=
 ∀(pq:Lp) (s:HZ) (σ:St) (H:Hp) (D:Ends),Inv X pq σ H s->t D σ H->wpAny (model X.prog X.w) X.A (exec st X.env) (SP X pq D) X.xe s
def dR(X:Cx)(st:List JE)(t:TS):Prop:=
 ∀(pq:Lp) (s:HZ) (σ:St) (H:Hp) (D:Ends),Inv X pq σ H s->t D σ H->wpAny (model X.prog X.w) X.A (execs st X.env) (SP X pq D) X.xe s
theorem aK{t:Sem α}{Q b:α->HZ->Prop}(h:wpAny M A t Q E s)(H:∀a s,Q a s->b a s):wpAny M A t b E s:=Iy h H λ_ _ x=>x
section
variable {X:Cx}
noncomputable def pC(i:Nat):TE:=λσ H Q=>∃v,σ[i]?=some (some v)/\Q v H
noncomputable def tC(v:V):TE:=λ_ H Q=>Q v H
theorem pD{i:Nat}{x:Str}{pos:Pos}(j:X.N[i]?=some x)(p:uB X.env.scope x)(f:(x==("__debug__":Str))=HY:=by decide)(d:(x==("__classdict__":Str))=HY:=by decide):PE X (.Name x pos) (pC i):=by
 intro P s q H Q I h;obtain⟨v,e,h⟩:=h;obtain⟨m,o,k⟩:=I.loc;obtain⟨u,r,l⟩:=k i x v j e p;have fin:EP X _ _ Q u s:=⟨v,H,I,r,h⟩;rcases l with⟨b,n⟩| ⟨b,c,g,a⟩
 ·exact wpAny_Name (wpAny_loadName_local I.ok.kind b o n fin) f
 ·rcases b with b|b
  ·exact wpAny_Name (wpAny_loadName_cell I.ok.kind b g a fin) f
  ·exact wpAny_Name (wpAny_loadName_free I.ok.kind b g a fin d) f
theorem ie{i j pos}:PE X (.Constant (.int i) j pos) (tC (.int i)):=λ_ _ _ H _ I h=>wpAny_Constant_int ⟨.int i,H,I.tok _,⟨_,rfl⟩,h⟩
theorem oI{b j pos}:PE X (.Constant (.bool b) j pos) (tC (.bl b)):=λ_ _ _ H _ I h=>Constant_bool ⟨.bl b,H,I,rfl,h⟩
theorem pE{j pos}:PE X (.Constant .none j pos) (tC .non):=λ_ _ _ H _ I h=>Constant_none ⟨.non,H,I,rfl,h⟩
theorem pF{x j pos}:PE X (.Constant (.str x) j pos) (tC (.str x)):=λ_ _ _ H _ I h=>Mw ⟨.str x,H,I.tok _,⟨_,rfl⟩,h⟩
def Gl(X:Cx)(x:Str):Prop:=X.env.kindOf x=some .globalImplicit
theorem ig{E:Vs}{σ:St}{H:Hp}{x:Str}{pos:Pos}(I:Inv X pq σ H s)(b:Gl X x)(c:X.mg x=some u)(h:Q u s)
  (a:(x==("__debug__":Str))=HY:=by decide):wpAny (model X.prog X.w) X.A (eval (.Name x pos) X.env) Q E s:=
 LB I.ok.kind b (Calls.loadGlobal_global (by rw[I.ok.glob];exact I.mod.glob.keeps I.bk) c h) a
theorem e8{E:Vs}{σ:St}{H:Hp}{x:Str}{pos:Pos}(I:Inv X pq σ H s)(d:Gl X x)(e:X.mg x=none)(g:bootBuiltins x=some u)(h:Q u s)
  (f:x≠"__name__":=by decide) (c:(x==("__debug__":Str))=HY:=by decide):wpAny (model X.prog X.w) X.A (eval (.Name x pos) X.env) Q E s:=by
 obtain⟨m,a,b⟩:=I.mod.blt;exact LB I.ok.kind d (Calls.loadGlobal_builtin (by rw[I.ok.glob];exact I.mod.glob.keeps I.bk) e (by rw[I.ok.blt];exact a.keeps I.bk) ((b x f).trans g) h) c
theorem uE{x:Str}{v:V}{pos:Pos}(b:Gl X x)(c:X.mg x=some u)(r:RelV v u)(a:(x==("__debug__":Str))=HY:=by decide):PE X (.Name x pos) (tC v):=
 λ_ _ _ H _ I h=>ig I b c ⟨v,H,I,r,h⟩ a
theorem uF{x:Str}{v:V}{pos:Pos}(b:Gl X x)(c:X.mg x=none)(e:bootBuiltins x=some u)(r:RelV v u)(d:x≠"__name__":=by decide)(a:(x==("__debug__":Str))=HY:=by decide):PE X (.Name x pos) (tC v):=
 λ_ _ _ H _ I h=>e8 I b c e ⟨v,H,I,r,h⟩ d a
variable {a b:Expr}{ta tb:TE}{pos:Pos}
noncomputable def tB(t:TE):TT:=λσ H Q=>t σ H λx H1=>∃c,x=.bl c/\Q c H1
theorem pG{t:TE}(h:PE X e t)(b:∀w,isTrue e X.env w=(do let v <-w;standAt e.pos;holding [v] (truthy v)):=by intro _;rfl):PT X e (tB t):=by intro p s f H Q I hw;refine isTrue_plain (aK (h p s f H _ I hw) λv S ⟨x,H1,a,r,c⟩=>?_) (b _);obtain⟨d,rfl,q⟩:=c;cases r;exact ZM ⟨H1,a,q⟩
variable {tA tB':TT}
noncomputable def Bp(t u:TT):TT:=λσ H Q=>t σ H λc H1=>if c=HX then u σ H1 Q else Q HY H1
noncomputable def HB(t u:TT):TT:=λσ H Q=>t σ H λc H1=>if c=HX then Q HX H1 else u σ H1 Q
noncomputable def Bq(t:TT):TT:=λσ H Q=>t σ H λc H1=>Q (!c) H1
theorem j5(b:PT X a tA):PW X (.BoolOp .And [a] pos) tA:=by
 intro w p s d H Q I h;refine isTrue_and (aK (b _ s _ H Q I h) λc S e=>?_);cases c with
 |true=>exact isTrue_and_nil e
 |false=>exact e
theorem ii(b:PT X a tA):PW X (.BoolOp .Or [a] pos) tA:=by
 intro w p s d H Q I h;refine isTrue_or (aK (b _ s _ H Q I h) λc S e=>?_);cases c with
 |false=>exact isTrue_or_nil e
 |true=>exact e
theorem pH(e:PT X a tA)(f:PW X (.BoolOp .And (b::rest) pos) tB'):PW X (.BoolOp .And (a::b::rest) pos) (Bp tA tB'):=by
 intro w p s g H Q I h;refine isTrue_and (aK (e _ s _ H _ I h) λc S ⟨_,d,q⟩=>?_);cases c with
 |true=>exact f _ _ _ _ _ Q d q
 |false=>exact⟨_,d,q⟩
theorem oJ(e:PT X a tA)(f:PW X (.BoolOp .Or (b::rest) pos) tB'):PW X (.BoolOp .Or (a::b::rest) pos) (HB tA tB'):=by
 intro w p s g H Q I h;refine isTrue_or (aK (e _ s _ H _ I h) λc S ⟨_,d,q⟩=>?_);cases c with
 |true=>exact⟨_,d,q⟩
 |false=>exact f _ _ _ _ _ Q d q
theorem ij(b:PT X a tA):PT X (.UnaryOp .Not a pos) (Bq tA):=by intro p s c H Q I h;exact isTrue_not (b _ s _ H _ I h)
noncomputable def uG(t tb:TE):TE:=λσ H Q=>t σ H λx H1=>∃c,x=.bl c/\if c=HX then tb σ H1 Q else Q (.bl HY) H1
noncomputable def Br(t tb:TE):TE:=λσ H Q=>t σ H λx H1=>∃c,x=.bl c/\if c=HX then Q (.bl HX) H1 else tb σ H1 Q
theorem ik{op}{t:TE}(h:PE X a t):PE X (.BoolOp op [a] pos) t:=λp s b H Q I hw=>BoolOp_one (h _ s _ H Q I hw)
theorem pI(e:PE X a ta)(f:PE X (.BoolOp .And (b::rest) pos) tb):PE X (.BoolOp .And (a::b::rest) pos) (uG ta tb):=by
 intro p s g H Q I h;refine BoolOp_and (aK (e _ s _ H _ I h) λv S ⟨x,_,d,r,q⟩=>?_);obtain⟨c,rfl,q⟩:=q;subst r;refine ZM ?_;cases c with
 |true=>exact f _ _ _ _ Q d q
 |false=>exact⟨.bl _,_,d,rfl,q⟩
theorem uH(e:PE X a ta)(f:PE X (.BoolOp .Or (b::rest) pos) tb):PE X (.BoolOp .Or (a::b::rest) pos) (Br ta tb):=by
 intro p s g H Q I h;refine BoolOp_or (aK (e _ s _ H _ I h) λv S ⟨x,_,d,r,q⟩=>?_);obtain⟨c,rfl,q⟩:=q;subst r;refine ZM ?_;cases c with
 |false=>exact f _ _ _ _ Q d q
 |true=>exact⟨.bl _,_,d,rfl,q⟩
noncomputable def HC(t:TT)(T tb:TE):TE:=λσ H Q=>t σ H λc H1=>if c=HX then T σ H1 Q else tb σ H1 Q
theorem Bs{c:Expr}(i:PT X c tA)(f:PE X a ta)(g:PE X b tb):PE X (.IfExp c a b pos) (HC tA ta tb):=by
 intro p s j H Q I h;refine wpAny_IfExp (aK (i _ s _ H _ I h) λd S ⟨_,e,q⟩=>?_);cases d with
 |true=>exact f _ _ _ _ Q e q
 |false=>exact g _ _ _ _ Q e q
end
def cP(K:Fg)(H:Hp)(a:H7)(xs:List V):Prop:=
 Rd H a (.lst xs)\/
  ∃(o:Obj) (its:Av) (n:Nat),K.lookup a=some o/\o.cls=.type "list"/\o.dict=none/\o.data=.seq its n/\its.size<=sizeLine/\Vals xs its.toList
def bQ(K:Fg)(H:Hp)(a:H7)(xs:List V):Prop:=
 Rd H a (.tup xs)\/
  ∃(o:Obj) (its:Av) (n:Nat),K.lookup a=some o/\o.cls=.type "tuple"/\o.dict=none/\o.data=.seq its n/\its.size<=sizeLine/\Vals xs its.toList
noncomputable def Bt:H8->Option V
 | .none=>some .non
 | .bool b=>some (.bl b)
 | .int i _=>some (.int i)
 | .str x _=>some (.str x)
 | .bytes b _=>some (.byt b)
 | .float b _=>some (.flt b)
 | .ref a=>some (.ref a)
 | .type n=>some (.ty n)
 |_=>none
theorem RelV.abs{x:V}(r:RelV x u):Bt u=some x:=by
 cases x with
 |non=>cases r;rfl
 |bl _=>cases r;rfl
 |int _=>obtain⟨t,rfl⟩:=r;rfl
 |str _=>obtain⟨t,rfl⟩:=r;rfl
 |byt _=>obtain⟨t,rfl⟩:=r;rfl
 |flt _=>obtain⟨t,rfl⟩:=r;rfl
 |ref _=>cases r;rfl
 |ty _=>cases r;rfl
theorem RelV.inj{x y:V}(r:RelV x u)(q:RelV y u):x=y:=JI (r.abs.symm.trans q.abs)
theorem Vals.inj:∀{xs ys:List V} {us:Lv},Vals xs us->Vals ys us->xs=ys
 |_,_,_,.nil,.nil=>rfl
 |_,_,_,.cons r t,.cons R T=>by rw[r.inj R,Vals.inj t T]
section
variable {X:Cx}{σ:St}{H:Hp}{xs ys:List V}
theorem cP.of(h:H a=some (.lst xs)):cP K H a xs:=.inl (.inl h)
theorem bQ.of(h:H a=some (.tup xs)):bQ K H a xs:=.inl (.inl h)
theorem Inv.list(I:Inv X pq σ H s)(h:cP X.K H a xs):∃its:Lv,Vals xs its/\PlainL s.heap a its.toArray/\xs.length<=sizeLine:=by
 rcases h with h| ⟨o,its,n,c,b,hd,d,f,r⟩
 ·obtain⟨z,its,n,r,e⟩:=h.ok I.hok;exact⟨_,r,⟨_,n,e,rfl,rfl,rfl⟩,z⟩
 ·refine⟨_,r,⟨o,n,I.kIn a o c,b,hd,by simp_all⟩,?_⟩;have e:=r.length;simp_all
theorem Inv.tuple(I:Inv X pq σ H s)(h:bQ X.K H a xs):∃its:Lv,Vals xs its/\LW s.heap a its.toArray/\xs.length<=sizeLine:=by
 rcases h with h| ⟨o,its,n,c,b,_,d,f,r⟩
 ·obtain⟨z,its,r,p,_⟩:=h.ok I.hok;exact⟨_,r,p,z⟩
 ·refine⟨_,r,⟨o,I.kIn a o c,b,n,by simp_all⟩,?_⟩;have e:=r.length;simp_all
theorem Inv.noD(I:Inv X pq σ H s)(h:bQ X.K H a xs):j3 s.heap a:=by
 rcases h with h| ⟨o,i,n,c,d,b,e,f,r⟩
 ·obtain⟨z,i,r,p,q⟩:=h.ok I.hok;exact q
 ·exact⟨o,I.kIn a o c,b⟩
theorem Inv.list_inj(I:Inv X pq σ H s)(h:cP X.K H a xs)(h':cP X.K H a ys):xs=ys:=by
 obtain⟨b,r,⟨o,n,e,_,_,d⟩,_⟩:=I.list h;obtain⟨i,R,⟨O,N,E,_,_,D⟩,_⟩:=I.list h';have:b=i:=by simp_all
 subst this;exact r.inj R
theorem Inv.tuple_inj(I:Inv X pq σ H s)(h:bQ X.K H a xs)(h':bQ X.K H a ys):xs=ys:=by
 obtain⟨b,r,⟨o,e,_,n,d⟩,_⟩:=I.tuple h;obtain⟨i,R,⟨O,E,_,N,D⟩,_⟩:=I.tuple h';have:b=i:=by simp_all
 subst this;exact r.inj R
end
section
variable {X:Cx}{σ:St}{H:Hp}
end
section
variable {X:Cx}{rest:List JE}{t u:TS}{te:TE}{pos:Pos}
noncomputable def oM:TS:=λD σ H=>D.nx σ H
noncomputable def Bu(t u:TS):TS:=λD σ H=>t {D with nx:=u D} σ H
theorem j6:dR X [] oM:=λ_ _ a H _ I h=>L3 ⟨_,H,I,h⟩
theorem eN(h1:PS X st t)(b:dR X rest u):dR X (st::rest) (Bu t u):=by
 intro p s e H D I h;refine wpAny_execs_cons (aK (h1 _ s _ H _ I h) λf S q=>?_);cases f with
 |next=>obtain⟨c,d,a,q⟩:=q;exact b _ _ _ _ D a q
 |ret v=>exact q
 |brk=>exact q
 |cont=>exact q
noncomputable def pJ:TS:=λD σ H=>D.bk σ H
noncomputable def uI:TS:=λD σ H=>D.ct σ H
theorem j7:PS X (.Pass pos) oM:=λ_ _ a H _ I h=>wpAny_Pass ⟨_,H,I,h⟩
theorem Bv:PS X (.Break pos) pJ:=λ_ _ a H _ I h=>wpAny_Break ⟨_,H,I,h⟩
theorem Bw:PS X (.Continue pos) uI:=λ_ _ a H _ I h=>wpAny_Continue ⟨_,H,I,h⟩
theorem Inv.quiet{σ:St}{H:Hp}(I:Inv X pq σ H s):interactive X.env=HY:=by simp[interactive,I.ok.kind]
noncomputable def uJ(t:TE):TS:=λD σ H=>t σ H λ_ H1=>D.nx σ H1
theorem j8(b:PE X e te)(hs:swapsWith e none pos.line X.env=pure HY:=by rfl):PS X (.Expr e pos) (uJ te):=by intro p s c H D I h;exact wpAny_Expr_any (aK (b _ s _ H _ I h) λv S ⟨x,_,a,_,q⟩=>⟨_,_,a,q⟩) I.quiet hs
noncomputable def Bx(t:TE):TS:=λD σ H=>t σ H D.rt
theorem pK(b:PE X e te):PS X (.Return (some e) pos) (Bx te):=by intro p s c H D I h;exact wpAny_Return_some (aK (b _ s _ H _ I h) λv S ⟨x,_,a,r,q⟩=>⟨x,_,_,a,r,q⟩)
noncomputable def uK:TS:=λD _ H=>D.rt .non H
theorem j9:PS X (.Return none pos) uK:=λ_ _ a H _ I h=>wpAny_Return_none ⟨.non,_,H,I,rfl,h⟩
noncomputable def By(c:TT)(t u:TS):TS:=λD σ H=>c σ H λb H1=>if b=HX then t D σ H1 else u D σ H1
theorem oN{c:Expr}{a b:List JE}{T:TT}(i:PT X c T)(f:dR X a t)(g:dR X b u):PS X (.If c a b pos) (By T t u):=by
 intro p s j H D I h;refine wpAny_If (aK (i _ s _ H _ I h) λd S ⟨_,e,q⟩=>?_);cases d with
 |true=>exact f _ _ _ _ D e q
 |false=>exact g _ _ _ _ D e q
noncomputable def pL:TS:=λ_ _ _=>False
theorem Bz{s:List JE}:dR X s pL:=λ_ _ _ _ _ _ h=>h.elim
end
abbrev TG:=V->St->Hp->(St->Hp->Prop)->Prop
abbrev oO:=List V->St->Hp->(St->Hp->Prop)->Prop
def PG(X:Cx)(target:Expr)(t:TG):Prop:=
 ∀(pq:Lp) (s:HZ) (σ:St) (H:Hp) (v:V) (u:H8) (Q:St->Hp->Prop),Inv X pq σ H s->RelV v u->t v σ H Q->
  wpAny (model X.prog X.w) X.A (assign target X.env u) (λ_ s'=>∃σ' H',Inv X pq σ' H' s'/\Q σ' H') X.xe s
def uL(X:Cx)(ts:Lx)(t:oO):Prop:=
 ∀(pq:Lp) (s:HZ) (σ:St) (H:Hp) (vs:List V) (us:Lv) (Q:St->Hp->Prop),Inv X pq σ H s->Vals vs us->t vs σ H Q->
  wpAny (model X.prog X.w) X.A (assignInOrder ((assignEach ts X.env).map (·.2)) us) (λ_ s'=>∃σ' H',Inv X pq σ' H' s'/\Q σ' H') X.xe s
abbrev j_:=V->V->V->Hp->(Hp->Prop)->Prop
def pM(X:Cx)(t:j_):Prop:=
 ∀(pq:Lp) (s:HZ) (σ:St) (H:Hp) (o i v:V) (O I u:H8) (Q:Hp->Prop),Inv X pq σ H s->RelV o O->RelV i I->RelV v u->t o i v H Q->
  wpAny (model X.prog X.w) X.A (setItem O I u) (λ_ s'=>∃H',Inv X pq σ H' s'/\Q H') X.xe s
section
variable {X:Cx}{pos:Pos}
noncomputable def du(i:Nat):TG:=λv σ H Q=>Q (σ.set i (some v)) H
theorem ka{i:Nat}{x:Str}(b:X.N.Nodup)(d:X.N[i]?=some x)(e:Loc X.env.scope x)(c:X.fn x=HX\/X.env.scope.names.lookup x=some .local:=by first|exact .inl rfl|exact .inr rfl|assumption):PG X (.Name x pos) (du i):=by intro p s f H v u Q I r h;exact wpAny_assign_Name (pB I b d e r (λS a=>⟨_,H,a,h⟩) c)
noncomputable def uM:oO:=λvs σ H Q=>vs=[]/\Q σ H
noncomputable def oP(t:TG)(u:oO):oO:=λvs σ H Q=>∃v r,vs=v::r/\t v σ H λσ' H'=>u r σ' H' Q
theorem kb:uL X [] uM:=by intro p s a H vs u Q I r h;obtain⟨e,h⟩:=h;exact assignInOrder_nil ⟨_,H,I,h⟩
theorem BA{t:TG}{u:oO}(h1:PG X e t)(b:uL X es u)
  (hs:(assignEach (e::es) X.env).map (·.2)=assign e X.env::(assignEach es X.env).map (·.2):=by rfl):uL X (e::es) (oP t u):=by
 intro p s c H vs U Q I r h;obtain⟨v,V,E,h⟩:=h;subst E;cases r with
 |cons r R=>rw[hs];exact assignInOrder_cons (aK (h1 _ s _ H _ _ _ I r h) λ_ S ⟨_,_,a,q⟩=>b _ _ _ _ _ _ Q a R q)
noncomputable def uN(K:Fg)(n:Nat)(t:oO):TG:=λv σ H Q=>∃a xs,v=.ref a/\bQ K H a xs/\xs.length=n/\t xs σ H Q
theorem pN{k:Nat}{t:oO}(d:X.calm=HX)(h:uL X es t)
  (g:(assignEach es X.env).length=n:=by rfl) (c:(assignEach es X.env).findIdx? (·.1)=none:=by rfl):PG X (.Tuple es k pos) (uN X.K n t):=by
 intro P s w H v u Q I r hw;obtain⟨a,x,E,i,f,hw⟩:=hw;subst E;subst r;obtain⟨m,R,j,q⟩:=I.tuple i;exact assign_Tuple_tuple (I.ok.hd d) j (by simp[g,<-f,R.length]) c λp l=>h _ _ _ H _ _ Q (I.kept (t':=s.toks) λb o e=>l b o (Zu (Zi e)) e) (by omega) hw
noncomputable def BB(to T:TE)(t:j_):TG:=λv σ H Q=>to σ H λo H1=>T σ H1 λi H2=>t o i v H2 λa=>Q σ a
theorem pO{o i:Expr}{to T:TE}{t:j_}(f:PE X o to)(e:PE X i T)(hs:pM X t)
  (l:∀v,assign (.Subscript o i pos) X.env v=(do
   let O <-holding [v] (eval o X.env)
   let a <-holding [v,O] (eval i X.env)
   standAt pos
   holding [v,O,a] (setItem O a v)
   release [v,O,a] []):=by intro _;rfl):PG X (.Subscript o i pos) (BB to T t):=by
 intro p s w H v u Q I r h;refine Za (ZE (aK (f _ s _ H _ I h) λO S ⟨x,_,b,R,q⟩=>?_));exact Za (ZE (aK (e _ _ _ _ _ b q) λa m ⟨y,_,c,k,g⟩=>Za (Kz (Za (ZE (aK (hs _ _ _ _ x y v _ _ u _ c R k r g) λ_ n ⟨_,d,j⟩=>wpAny_release ⟨_,_,d,j⟩))))))
noncomputable def kc(t:TE)(g:TG):TS:=λD σ H=>t σ H λx H1=>g x σ H1 D.nx
theorem il{t:TE}{g:TG}(b:PE X e t)(c:PG X tg g)(hs:swapsWithSole [tg] e pos.line X.env=pure HY:=by rfl)(hw:swappedStores [tg] e X.env=pure none:=by rfl)
  (h1:(assignEach [tg] X.env).map (·.2)=[assign tg X.env]:=by rfl):PS X (.Assign [tg] e pos) (kc t g):=by
 intro p s f H D I h;refine wpAny_Assign_stores (aK (b _ s _ H _ I h) λv S ⟨x,_,a,r,Q⟩=>?_) hs hw;rw[h1];exact aK (c _ _ _ _ x v _ a r Q) λ_ d q=>q
theorem im{i:Nat}{x:Str}{t:TE}(c:X.N.Nodup)(g:X.N[i]?=some x)(j:Loc X.env.scope x)(d:PE X e t)(hs:swapsWith e (some (.Name x pos')) pos.line X.env=pure HY:=by rfl)(f:X.fn x=HX\/X.env.scope.names.lookup x=some .local:=by first|exact .inl rfl|exact .inr rfl|assumption):
  PS X (.Assign [.Name x pos'] e pos) (kc t (du i)):=by
 intro p s l H D I h;exact wpAny_Assign_Name (aK (d _ s _ H _ I h) λv S ⟨y,_,a,r,q⟩=>pB a c g j r (λk b=>⟨_,_,b,q⟩) f) hs
end
section
variable {X:Cx}{pos:Pos}
end
set_option genInjectivity false in
structure It where
 go:Nat->Hp->Prop
 yld:Nat->Hp->V->Hp->Prop
 stop:Nat->Hp->Prop
def cQ(X:Cx)(P:Lp)(H:Hp)(b:H7):Prop:=
 H b=none/\b≠X.env.locals/\b∉X.fs/\(b∈X.ex\/X.s₀.heap.objs.size<=b)/\(∀x c,X.env.cells.lookup x=some c->c≠b)/\∀p∈X.pn++P,p.1≠b
theorem Inv.fpOk{X:Cx}{σ:St}{H a:Hp}{b:H7}(I:Inv X pq σ H s)(h:s.heap.objs.size<=b)(d:a b=none):cQ X pq a b:=by
 refine⟨d,JJ (Zt I.lt h),I.nofs h,.inr (Zv I.sz h),λx c e z=>?_,λp f z=>?_⟩
 ·obtain⟨v,q⟩:=I.cell x c e;exact absurd (Zt q.lt (by simp_all)) (Iq _)
 ·exact absurd (Zt (Zi (I.pin p f).1) (by simp_all)) (Iq _)
structure Turn (P:Ia)(w:Io)(K:Fg)(tg:Expr)(J:It)(fp:La)(it:H7)(tn:Nat->Ig->Prop):Prop where
 mem:it∈fp
 obj:∀i h,tn i h->∀b∈fp,∃o,h.get? b=some o/\∀v,o.data≠.cell v
 keep:∀i h h',tn i h->(∀b∈fp,∀o,h.get? b=some o->h'.get? b=some o)->tn i h'
 item:∀(X:Cx),X.prog=P->X.w=w->X.K=K->X.calm=HX->∀(i:Nat) (pq:Lp) (s:HZ) (σ:St) (H:Hp) (E:Vs),Inv X pq σ H s->(∀b∈fp,cQ X pq H b)->tn i s.heap->J.go i H->
  wpAny (model P w) X.A (pyNext (.ref it)) (λr s1=>∃u,r=some u/\
   wpAny (model P w) X.A (letOwnedTupleGo tg (.ref it) u) (λ_ s2=>∃x H',Inv X pq σ H' s2/\RelV x u/\J.yld i H x H'/\tn (i+1) s2.heap/\∀b∈fp,H' b=none) E s1) E s
 done:∀(X:Cx),X.prog=P->X.w=w->X.K=K->X.calm=HX->∀(i:Nat) (pq:Lp) (s:HZ) (σ:St) (H:Hp) (E:Vs),Inv X pq σ H s->(∀b∈fp,cQ X pq H b)->tn i s.heap->J.stop i H->
  wpAny (model P w) X.A (pyNext (.ref it)) (λr s1=>r=none/\Inv X pq σ H s1) E s
 self:∀(A:IH) (i:Nat) (s:HZ) (Q:Vs) (E:Vs),tn i s.heap->Q (.ref it) s->wpAny (model P w) A (pyIter (.ref it)) Q E s
abbrev TI:=St->Hp->(It->Hp->Prop)->Prop
def A6(X:Cx)(p:Lp)(σ:St)(t:Expr)(R:It->Hp->Prop)(i:H8)(s2:HZ):Prop:=
 ∃(it:H7) (fp:La) (tn:Nat->Ig->Prop) (J:It) (H':Hp),i=.ref it/\Inv X p σ H' s2/\Turn X.prog X.w X.K t J fp it tn/\tn 0 s2.heap/\(∀b∈fp,cQ X p H' b)/\R J H'
def PI(X:Cx)(t i:Expr)(w:TI):Prop:=
 ∀(pq:Lp) (s:HZ) (σ:St) (H:Hp) (R:It->Hp->Prop),Inv X pq σ H s->w σ H R->
  wpAny (model X.prog X.w) X.A (eval i X.env) (λv S=>wpAny (model X.prog X.w) X.A (pyIter v) (A6 X pq σ t R) X.xe S) X.xe s
theorem io{n:String}{vs:Av}{Q:Unit->HZ->Prop}(b:s.heap.get? it=some o)(H:o.cls=.type n)(a:o.data=.fields vs)
  (c:["enumerate","zip","dict_itemiterator","dict_reverseitemiterator","odict_iterator","itertools.zip_longest","itertools.pairwise"].contains n=HY) (h:Q () s):wpAny M A (letOwnedTupleGo tg (.ref it) u) Q E s:=by
 cases tg<;>first
  |exact Zd h
  | (cases u<;>first
    |exact Zd h
    | (refine Za (wpAny_load b ?_)
       rw[H,a];show wpAny M A (if(["enumerate","zip","dict_itemiterator","dict_reverseitemiterator","odict_iterator","itertools.zip_longest","itertools.pairwise"].contains n&&vs[0]?==some _)=HX then _ else _) Q E s;rw[if_neg (by lia)];exact Zd h))
noncomputable def A7(K:Fg)(a:H7):It:=
 ⟨λi H=>∃xs x,cP K H a xs/\xs[i]?=some x,λi H x H'=>H'=H/\∀xs,cP K H a xs->xs[i]?=some x,λi H=>∃xs,cP K H a xs/\xs.length<=i⟩
noncomputable def BC(K:Fg)(a:H7):It:=
 ⟨λi H=>∃xs x,bQ K H a xs/\xs[i]?=some x,λi H x H'=>H'=H/\∀xs,bQ K H a xs->xs[i]?=some x,λi H=>∃xs,bQ K H a xs/\xs.length<=i⟩
noncomputable def uO(l:Int)(n:Nat):It:=⟨λi _=>i<n,λi H x H'=>H'=H/\x=.int (l+i),λi _=>n<=i⟩
theorem BD{P:Ia}(a it:H7):Turn P w K tg (A7 K a) [it] it (λi h=>h.IsListIter it a i) where
 mem:=by simp
 obj:=λi h st b hb=>by
  have e:=by simpa using hb
  obtain⟨o,e,c,d⟩:=st;simp_all
 keep:=λi h h' st k=>st.at λo e=>k _ (by simp) o e
 item:=by intro X hP hw hK hc i pq s σ H E I hf st hg;subst hP hw hK;obtain⟨xs,x,hq,hx⟩:=hg;obtain⟨its,rv,p,hz⟩:=I.list hq;obtain⟨u,hu,ru⟩:=rv.get hx;obtain⟨f0,f1,f2,f3,f4,f5⟩:=hf it (by simp);refine wpAny_pyNext_list_item st p.isList (by simpa using hu) λh' st' sb=>?_;obtain⟨o,e,c,d⟩:=id st';exact⟨u,rfl,io e c d (rfl) ⟨x,H,I.turned (t':=s.toks) (λb o hb e=>(sb.2 b hb).trans e) f0 f1 f3 f4 f5,ru,⟨rfl,λys hy=>by rw[I.list_inj hy hq];exact hx⟩,st',λb hb=>(hf b hb).1⟩⟩
 done:=by intro X hP hw hK hc i pq s σ H E I hf st hg;subst hP hw hK;obtain⟨xs,hq,hx⟩:=hg;obtain⟨its,rv,p,hz⟩:=I.list hq;obtain⟨f0,f1,f2,f3,f4,f5⟩:=hf it (by simp);have hl:=rv.length;exact wpAny_pyNext_list_end (I.ok.hd hc) st p.isList (by simp_all) λh' eb=>⟨rfl,I.turned (λb o hb e=>eb b o hb e) f0 f1 f3 f4 f5⟩
 self:=λ_ _ _ _ _ st h=>wpAny_pyIter_listiter st h
theorem BE{P:Ia}(a it:H7):Turn P w K tg (BC K a) [it] it (λi h=>h.IsTupleIter it a i) where
 mem:=by simp
 obj:=λi h st b hb=>by
  have e:=by simpa using hb
  obtain⟨o,e,c,d⟩:=st;simp_all
 keep:=λi h h' st k=>st.at λo e=>k _ (by simp) o e
 item:=by intro X hP hw hK hc i pq s σ H E I hf st hg;subst hP hw hK;obtain⟨xs,x,hq,hx⟩:=hg;obtain⟨its,rv,p,hz⟩:=I.tuple hq;obtain⟨u,hu,ru⟩:=rv.get hx;obtain⟨f0,f1,f2,f3,f4,f5⟩:=hf it (by simp);refine wpAny_pyNext_tuple_item st (show s.heap.IsTuple a _ from p) (by simpa using hu) λh' st' sb=>?_;obtain⟨o,e,c,d⟩:=id st';exact⟨u,rfl,io e c d (rfl) ⟨x,H,I.turned (t':=s.toks) (λb o hb e=>(sb.2 b hb).trans e) f0 f1 f3 f4 f5,ru,⟨rfl,λys hy=>by rw[I.tuple_inj hy hq];exact hx⟩,st',λb hb=>(hf b hb).1⟩⟩
 done:=by intro X hP hw hK hc i pq s σ H E I hf st hg;subst hP hw hK;obtain⟨xs,hq,hx⟩:=hg;obtain⟨its,rv,p,hz⟩:=I.tuple hq;obtain⟨f0,f1,f2,f3,f4,f5⟩:=hf it (by simp);have hl:=rv.length;exact wpAny_pyNext_tuple_end (I.ok.hd hc) st (show s.heap.IsTuple a _ from p) (by simp_all) λh' eb=>⟨rfl,I.turned (λb o hb e=>eb b o hb e) f0 f1 f3 f4 f5⟩
 self:=λ_ _ _ _ _ st h=>wpAny_pyIter_tupleiter st h
theorem BF{P:Ia}(it:H7)(lo:Int)(n:Nat):Turn P w K tg (uO lo n) [it] it (λi h=>IsRangeIter h it (lo+(i:Nat)*1) ((n:Int)-(i:Nat)) 1) where
 mem:=by simp
 obj:=λi h st b hb=>by simp_all
 keep:=λi h h' st k=>k _ (by simp) _ st
 item:=by intro X hP hw hK hc i pq s σ H E I hf st hg;subst hP hw hK;obtain⟨f0,f1,f2,f3,f4,f5⟩:=hf it (by simp);refine(Walks.range (prog:=X.prog) (w:=X.w) (I.ok.hd hc) it lo 1 n).item i s _ _ hg st λv h' tk hv st' kk=>?_;obtain⟨t,rfl⟩:=hv;have I1:Inv X _ _ H {s with heap:=h',toks:=tk}:=I.turned (λb o hb e=>kk b o (by simp_all) e) f0 f1 f3 f4 f5;refine⟨_,rfl,io st' rfl rfl (rfl) ⟨.int _,H,I1,⟨t,?_⟩,⟨rfl,rfl⟩,st',λb hb=>(hf b hb).1⟩⟩;simp_all
 done:=by intro X hP hw hK hc i pq s σ H E I hf st hg;obtain⟨f0,f1,f2,f3,f4,f5⟩:=hf it (by simp);exact wpAny_pyNext_range_end (I.ok.hd hc) st (by have:n<=i:=hg;omega) λh' eb=>⟨rfl,I.turned (λb o hb e=>eb b o hb e) f0 f1 f3 f4 f5⟩
 self:=λ_ _ _ _ _ st h=>wpAny_pyIter_rangeiter st h
section
variable {X:Cx}
theorem uP{σ:St}{H:Hp}{R:It->Hp->Prop}{l h:Int}{t u v:Tok}{tk:Nat}(I:Inv X pq σ H s)(h1: -(2^62)<=l)(g:l<2^62)(i: -(2^62)<=h)(j:h<2^62)
  (q:R (uO l (h-l).toNat) H):wpAny (model X.prog X.w) X.A (pyIter (.ref s.heap.objs.size)) (A6 X pq σ tg R) E {s with heap:=s.heap.push {cls:=.type "range",data:=.fields #[.int l t,.int h u,.int 1 v]},toks:=tk}:=by
 refine wpAny_pyIter_range (IsRange.new ..) (small_one h1 g i j) ?_;have c:Inv X _ _ H {s with heap:=s.heap.push {cls:=.type "range",data:=.fields #[.int l t,.int h u,.int 1 v]},toks:=tk}:=I.kept λb o e=>Zb _ e
 refine⟨_,_,_,_,H,rfl,
  c.kept λb o e=>Zb _ e,BF _ _ _,?_,λb k=>?_,q⟩
 ·have d:l+(0:Nat)*1=l:=by simp
  have f:(h-l).toNat-(0:Nat)=Builtin.Range.rangeSize l h 1:=by rw[rangeSize_one];grind
  rw[d,f];exact Zg _ rfl
 ·have e:b=(s.heap.push {cls:=.type "range",data:=.fields #[.int l t,.int h u,.int 1 v]}).objs.size:=by simp_all
  subst e;exact c.fpOk (Zf _) (c.hok.fresh (Zf _))
noncomputable def uQ(t:TA):TI:=λσ H R=>t σ H λvs H1=>∃j:Int,vs=[.int j]/\ -(2^62)<=j/\j<2^62/\R (uO 0 j.toNat) H1
noncomputable def uR(t:TA):TI:=λσ H R=>t σ H λvs H1=>∃i j:Int,vs=[.int i,.int j]/\(-(2^62)<=i/\i<2^62/\ -(2^62)<=j/\j<2^62)/\R (uO i (j-i).toNat) H1
theorem BG{a:Expr}{T:TA}{p pos:Pos}(d:Gl X "range")(f:X.mg "range"=none)(c:PA X [a] T)(hs:starEach [a] X.env=[(HY,eval a X.env)]:=by rfl):PI X tg (.Call (.Name "range" p) [a] [] pos) (uQ T):=by
 intro P s l H R I h;refine Call_ (e8 I d f boot_range (IG (aK (c _ _ s _ H _ I h) λu S ⟨_,_,b,i,Q⟩=>?_) hs rfl));obtain⟨j,e,Q,g,q⟩:=Q;subst e;cases i with
 |cons r k=>cases k;obtain⟨t,rfl⟩:=r;exact call_range_1 (uP b (by simp) (by simp) Q g (by simp_all))
theorem BH{a b:Expr}{T:TA}{p pos:Pos}(k:Gl X "range")(l:X.mg "range"=none)(g:PA X [a,b] T)(hs:starEach [a,b] X.env=[(HY,eval a X.env),(HY,eval b X.env)]:=by rfl)(c:starEach [b] X.env=[(HY,eval b X.env)]:=by rfl):
  PI X tg (.Call (.Name "range" p) [a,b] [] pos) (uR T):=by
 intro P s x H R I h;refine Call_ (e8 I k l boot_range (IG (aK (g _ _ s _ H _ I h) λU S ⟨_,_,f,v,Q⟩=>?_) (by simp_all) (by rw[c];rfl)));obtain⟨i,j,e,⟨Q,m,n,o⟩,q⟩:=Q;subst e;cases v with
 |cons r d=>
  cases d with
  |cons u d=>cases d;obtain⟨t,rfl⟩:=r;obtain⟨w,rfl⟩:=u;exact call_range_2 (uP f Q m n o q)
noncomputable def BI(w:TI)(g:TG)(tb:TS):TS:=λD σ H=>w σ H λJ H1=>∃W:Nat->Nat->St->Hp->Prop,(∃m,W 0 m σ H1)/\∀i m σ H,W i m σ H->
 (J.stop i H/\D.nx σ H)\/(J.go i H/\∃N:St->Hp->Prop,(∀σ' H',N σ' H'->∃M,M<m/\W (i+1) M σ' H')/\∀x H',J.yld i H x H'->g x σ H' λa H2=>tb {D with nx:=N,ct:=N,bk:=D.nx} a H2)
noncomputable def ke(f:La)(h:Ig):Lp:=f.filterMap λb=>(h.get? b).map λo=>(b,o)
theorem kf{b:H7}(H:b∈fp)(e:h.get? b=some o):(b,o)∈ke fp h:=ZS.mpr ⟨b,H,by simp_all⟩
theorem BJ{p:H7×Obj}(H:p∈ke fp h):p.1∈fp/\h.get? p.1=some p.2:=by
 obtain⟨b,a,e⟩:=ZS.mp H;cases q:h.get? b with
 |none=>simp_all
 |some o=>
  grind
theorem Inv.pinned{σ:St}{H:Hp}(I:Inv X pq σ H s)(a:∀b∈fp,cQ X pq H b)(d:∀b∈fp,∃o,s.heap.get? b=some o/\∀v,o.data≠.cell v):Inv X (pq++ke fp s.heap) σ H s:=
 I.pins_of λp c=>(ZK.mp c).elim (λz=>I.pin p (Zz _ z)) λz=>by
  obtain⟨h,e⟩:=BJ z;obtain⟨f0,f,F,_⟩:=a _ h
  grind
theorem Inv.unpinned{pl:Lp}{σ:St}{H:Hp}(I:Inv X (pq++pl) σ H s):Inv X pq σ H s:=I.pins_of λp h=>I.pin p (Zz _ (IE _ h))
theorem pP{body:List JE}{wi:TI}{g:TG}{tb:TS}{pos:Pos}(y:LP (model X.prog X.w) X.A X.env X.xe)(Y:X.calm=HX)(hi:PI X tg iter wi)(hg:PG X tg g)(k:dR X body tb)
  (hs:∀x,foldedSetIterable iter X.env x=pure x:=by intro _;rfl):PS X (.For tg iter body [] pos) (BI wi g tb):=by
 intro P s σ H D I h;refine wpAny_For (aK (hi P s σ H _ I h) λv s1 h1=>aK h1 λitv s2 h2=>?_) hs;obtain⟨it,F,tn,J,H2,e,I2,T,M,V,W,⟨m0,w0⟩,turn⟩:=h2;subst e;have S:∀{q:Hp},(∀b∈F,q b=none)->∀b∈F,cQ X P q b:=λhn b k=>⟨hn b k,(V b k).2⟩;refine codeAny_forLoop_any (λn Z=>∃i l q,Inv X P l q Z/\tn i Z.heap/\(∀b∈F,q b=none)/\W i n l q) ?_ m0 ⟨0,σ,H2,I2,M,λb k=>(V b k).1,w0⟩;rintro n s3 ⟨i,p,C,U,B,w,w3⟩;rcases turn i n p C w3 with⟨stop,qn⟩| ⟨go,N,hN,step⟩
 ·refine J8 y (aK (T.done X rfl rfl rfl Y i P s3 p C X.xe U (S w) B stop) λr s4 ⟨K,I4⟩=>?_);subst K;exact L3 ⟨p,C,I4,qn⟩
 ·refine J8 y (aK (T.item X rfl rfl rfl Y i P s3 p C X.xe U (S w) B go) λr s4 ⟨u,K,h4⟩=>?_);subst K;refine J8 y (aK h4 λ_ s5 ⟨x,R,I5,r5,y5,t,G⟩=>?_);have E:=I5.pinned (S G) (T.obj _ _ t);refine J8 y (aK (hg _ s5 p R x u _ E r5 (step x R y5)) λ_ s6 ⟨O,H6,I6,q6⟩=>?_);refine J8 y (aK (k _ s6 O H6 _ I6 q6) λf L Q=>?_)
  have A:∀{a:St} {c:Hp},Inv X (P++ke F s5.heap) a c L->N a c->∃m,m<n/\∃i l q,Inv X P l q L/\tn i L.heap/\(∀b∈F,q b=none)/\W i m l q:=λ{a c} j z=>by obtain⟨m',hm,w7⟩:=hN a c z;refine⟨m',hm,i+1,a,c,j.unpinned,T.keep _ _ _ t λb k o e=>(j.pin (b,o) (Zz _ (Zz _ (kf k e)))).1,λb k=>?_,w7⟩;obtain⟨o,e,d⟩:=T.obj _ _ t b k;exact(j.pin (b,o) (Zz _ (Zz _ (kf k e)))).2.1
  cases f with
  |next=>obtain⟨a,c,j,z⟩:=Q;exact A j z
  |cont=>obtain⟨a,c,j,z⟩:=Q;exact A j z
  |brk=>obtain⟨a,c,j,Q⟩:=Q;exact⟨a,c,j.unpinned,Q⟩
  |ret v=>obtain⟨x7,a,c,j,r7,Q⟩:=Q;exact⟨x7,a,c,j.unpinned,r7,Q⟩
end
abbrev R2:=V->V->Hp->VK->Prop
def bZ(X:Cx)(f:H8->H8->Sem H8)(r:R2):Prop:=
 ∀(pq:Lp) (s:HZ) (σ:St) (H:Hp) (x y:V) (v u:H8) (Q:VK),Inv X pq σ H s->RelV x v->RelV y u->r x y H Q->
  wpAny (model X.prog X.w) X.A (f v u) (EP X pq σ Q) X.xe s
def BK(X:Cx)(f:H8->Sem H8)(r:V->Hp->VK->Prop):Prop:=
 ∀(pq:Lp) (s:HZ) (σ:St) (H:Hp) (x:V) (v:H8) (Q:VK),Inv X pq σ H s->RelV x v->r x H Q->
  wpAny (model X.prog X.w) X.A (f v) (EP X pq σ Q) X.xe s
def bh(X:Cx)(f:H8)(r:List V->Hp->VK->Prop):Prop:=
 ∀(pq:Lp) (s:HZ) (σ:St) (H:Hp) (xs:List V) (us:Lv) (Q:VK),Inv X pq σ H s->Vals xs us->r xs H Q->
  wpAny (model X.prog X.w) X.A (call f us) (EP X pq σ Q) X.xe s
def BL(X:Cx)(r:V->Hp->(Bool->Hp->Prop)->Prop):Prop:=
 ∀(pq:Lp) (s:HZ) (σ:St) (H:Hp) (x:V) (v:H8) (Q:Bool->Hp->Prop),Inv X pq σ H s->RelV x v->r x H Q->
  wpAny (model X.prog X.w) X.A (truthy v) (TP X pq σ Q) X.xe s
noncomputable def A8(r:R2)(t tb:TE):TE:=λσ H Q=>t σ H λx H1=>tb σ H1 λy H2=>r x y H2 Q
noncomputable def HD(r:V->Hp->VK->Prop)(t:TE):TE:=λσ H Q=>t σ H λx H1=>r x H1 Q
noncomputable def rI(C:Int->Int->Prop)(g:Int->Int->V):R2:=λx y H Q=>∃i j,x=.int i/\y=.int j/\C i j/\Q (g i j) H
noncomputable def kg(g:Int->Int->V):R2:=λx y H Q=>∃i j,x=.int i/\y=.int j/\Q (g i j) H
def rU(g:Int->V):V->Hp->VK->Prop:=λx H Q=>∃i,x=.int i/\Q (g i) H
section
variable {X:Cx}{a b c:Expr}{ta tb tc:TE}{pos:Pos}
theorem pQ(g:PE X a ta)(i:PE X b tb){σ:St}{H:Hp}{R:V->V->Hp->Prop}(I:Inv X pq σ H s)
  (h:ta σ H λx H1=>tb σ H1 λy H2=>R x y H2)  {f:H8->H8->Sem H8}
  (j:∀v u s2 x y H2,Inv X pq σ H2 s2->RelV x v->RelV y u->R x y H2->wpAny (model X.prog X.w) X.A (f v u) Q X.xe s2):
  wpAny (model X.prog X.w) X.A (eval a X.env) (λv S=>wpAny (model X.prog X.w) X.A (eval b X.env) (λu c=>wpAny (model X.prog X.w) X.A (f v u) Q X.xe c) X.xe S) X.xe s:=by
 exact aK (g _ s _ H _ I h) λv m ⟨x,_,d,r,q⟩=>aK (i _ _ _ _ _ d q) λu s2 ⟨y,_,e,l,k⟩=>j v u _ x y _ e r l k
theorem ip{o:LC}{r:R2}(f:bZ X (binaryOp o) r)(d:PE X a ta)(e:PE X b tb):PE X (.BinOp a o b pos) (A8 r ta tb):=by intro p s j H Q I h;exact wpAny_BinOp (pQ d e I h λv u S x y i c R g q=>f _ _ _ _ x y v u Q c R g q)
theorem uS{o:UnaryOp}{r:V->Hp->VK->Prop}(d:BK X (unaryOp o) r)(c:PE X a ta):PE X (.UnaryOp o a pos) (HD r ta):=by intro p s e H Q I h;exact UnaryOp_ (aK (c _ s _ H _ I h) λv S ⟨x,_,b,R,q⟩=>d _ _ _ _ x v Q b R q)
theorem pR{f:H8->H8->Sem H8}{C:Int->Int->Prop}{g:Int->Int->Int}
  (r:∀(i j:Int) (t u:Tok) (s:HZ) (Q:Vs) (E:Vs),C i j->Q (.int (g i j) s.toks) {s with toks:=s.toks+1}->wpAny (model X.prog X.w) X.A (f (.int i t) (.int j u)) Q E s):
  bZ X f (rI C λi j=>.int (g i j)):=by
 intro p s d H x y v u Q I R b h;obtain⟨i,j,rfl,rfl,a,q⟩:=h;obtain⟨t,rfl⟩:=R;obtain⟨c,rfl⟩:=b;exact r i j t _ s _ _ a ⟨.int _,H,I.tok _,⟨_,rfl⟩,q⟩
theorem kh{f:H8->H8->Sem H8}{g:Int->Int->Int}
  (r:∀(i j:Int) (t u:Tok) (s:HZ) (Q:Vs) (E:Vs),Q (.int (g i j) s.toks) {s with toks:=s.toks+1}->wpAny (model X.prog X.w) X.A (f (.int i t) (.int j u)) Q E s):
  bZ X f (kg λi j=>.int (g i j)):=by
 intro p s c H x y v u Q I R a h;obtain⟨i,j,rfl,rfl,q⟩:=h;obtain⟨t,rfl⟩:=R;obtain⟨b,rfl⟩:=a;exact r i j t _ s _ _ ⟨.int _,H,I.tok _,⟨_,rfl⟩,q⟩
theorem pS{f:H8->H8->Sem H8}{g:Int->Int->Bool}
  (r:∀(i j:Int) (t u:Tok) (s:HZ) (Q:Vs) (E:Vs),Q (.bool (g i j)) s->wpAny (model X.prog X.w) X.A (f (.int i t) (.int j u)) Q E s):
  bZ X f (kg λi j=>.bl (g i j)):=by
 intro p s b H x y v u Q I R a h;obtain⟨i,j,rfl,rfl,q⟩:=h;obtain⟨t,rfl⟩:=R;obtain⟨T,rfl⟩:=a;exact r i j t _ s _ _ ⟨.bl _,H,I,rfl,q⟩
def BM(i j:Int):Prop:=0<j/\j<1073741824
def BN(i j:Int):Prop:=0<=j/\j<=1000000/\i.natAbs<2^64
noncomputable def pT(i j:Int):Prop:=(-(2^64)<i/\i<2^64)\/(-(2^64)<j/\j<2^64)
theorem pT.ok{i j:Int}(h:pT i j):IntMulOk i j:=by
 rcases h with⟨H,a⟩| ⟨H,a⟩
 ·exact .of_left (intBits_le_64 H a)
 ·exact .of_right (intBits_le_64 H a)
theorem pU:bZ X (binaryOp .Add) (kg λi j=>.int (i+j)):=kh λ_ _ _ _ _ _ _ q=>add_int q
theorem pV:bZ X (binaryOp .Sub) (kg λi j=>.int (i-j)):=kh λ_ _ _ _ _ _ _ q=>sub_int q
theorem pW:bZ X (binaryOp .Mult) (rI pT λi j=>.int (i*j)):=pR λ_ _ _ _ _ _ _ h q=>mul_int q h.ok
theorem ki:bZ X (binaryOp .FloorDiv) (rI BM λi j=>.int (i/j)):=pR λi j _ _ _ _ _ h q=>by have H:=h.1;have a:=h.2;exact floordiv_int (by omega) (by grind) (.inl (PyProof.noPylong_small (by omega)))
theorem pX:bZ X (binaryOp .Mod) (rI (λ_ j=>0<j) λi j=>.int (i%j)):=pR λi j _ _ _ _ _ h q=>by exact mod_int' (by lia) (by grind)
theorem pY:bZ X (binaryOp .Pow) (rI BN λi j=>.int (i^j.toNat)):=pR λ_ _ _ _ _ _ _ h q=>pow_int_small h.1 h.2.1 h.2.2 q
theorem pZ:bZ X (binaryOp .RShift) (rI (λ_ j=>0<=j) λi j=>.int (i/2^j.toNat)):=pR λi j _ _ _ _ _ h q=>
 rshift_int h (by grind)
theorem p3:bZ X (binaryOp .BitAnd) (kg λi j=>.int (MR i j)):=kh λ_ _ _ _ _ _ _ q=>and_int q
theorem uT:bZ X (binaryOp .BitOr) (kg λi j=>.int (M3 i j)):=kh λ_ _ _ _ _ _ _ q=>or_int q
theorem HE{f:H8->Sem H8}{g:Int->Int}
  (r:∀(i:Int) (t:Tok) (s:HZ) (Q:Vs) (E:Vs),Q (.int (g i) s.toks) {s with toks:=s.toks+1}->wpAny (model X.prog X.w) X.A (f (.int i t)) Q E s):
  BK X f (rU λi=>.int (g i)):=by
 intro p s a H x v Q I R h;obtain⟨i,rfl,q⟩:=h;obtain⟨t,rfl⟩:=R;exact r i t s _ _ ⟨.int _,H,I.tok _,⟨_,rfl⟩,q⟩
theorem p4:BK X (unaryOp .USub) (rU λi=>.int (-i)):=HE λ_ _ _ _ _ q=>neg_int q
end
noncomputable def BO:V->V->Bool
 | .non,.non=>HX| .non,.int _=>HX| .int _,.non=>HX| .non,.bl _=>HX| .bl _,.non=>HX| .non,.str _=>HX| .str _,.non=>HX
 | .int _,.int _=>HX| .bl _,.bl _=>HX| .str _,.str _=>HX| .byt _,.byt _=>HX
 | .int _,.str _=>HX| .str _,.int _=>HX| .bl _,.str _=>HX| .str _,.bl _=>HX
 |_,_=>HY
noncomputable def HF:R2:=λx y H Q=>BO x y=HX/\Q (.bl (!decide (x=y))) H
theorem kj{i j:Int}:decide (V.int i=V.int j)=(i==j):=by rw[Jg];simp
theorem p6{i j:Bool}:decide (V.bl i=V.bl j)=(i==j):=by rw[Jg];simp
theorem kl{i j:Str}:decide (V.str i=V.str j)=(i==j):=by rw[Jg];simp
theorem km{i j:Array UInt8}:decide (V.byt i=V.byt j)=(i.toList==j.toList):=by rw[Jg];cases i;cases j;simp
section
variable {X:Cx}{a b c:Expr}{ta tb tc:TE}{pos:Pos}
theorem b0{σ:St}{H:Hp}{Q:VK}{k K:Bool}(I:Inv X pq σ H s)(q:Q (.bl k) H)(e:k=K):EP X pq σ Q (.bool K) s:=by subst e;exact⟨.bl k,H,I,rfl,q⟩
theorem uU:bZ X (compareOp .NotEq) HF:=by
 intro p s b H x y v u Q I R r h;obtain⟨a,q⟩:=h;cases x with
 |non=>
  cases R;cases y with
  |non=>cases r;exact PySem.EqNone.ne_none_none (b0 I q (by simp))
  |bl j=>cases r;exact PySem.EqNone.ne_none_bool (b0 I q (by simp))
  |int j=>obtain⟨T,rfl⟩:=r;exact PySem.EqNone.ne_none_int (b0 I q (by simp))
  |str j=>obtain⟨T,rfl⟩:=r;exact PySem.EqNone.ne_none_str (b0 I q (by simp))
  |_=>exact absurd (show HY=HX from a) IT
 |bl i=>
  cases R;cases y with
  |non=>cases r;exact PySem.EqNone.ne_bool_none (b0 I q (by simp))
  |bl j=>cases r;exact ne_bool (b0 I q (congrArg not p6))
  |str j=>obtain⟨T,rfl⟩:=r;exact PySem.EqMixed.ne_bool_str (b0 I q (by simp))
  |_=>exact absurd (show HY=HX from a) IT
 |int i=>
  obtain⟨t,rfl⟩:=R;cases y with
  |non=>cases r;exact PySem.EqNone.ne_int_none (b0 I q (by simp))
  |int j=>obtain⟨T,rfl⟩:=r;exact ne_int (b0 I q (congrArg not kj))
  |str j=>obtain⟨T,rfl⟩:=r;exact PySem.EqMixed.ne_int_str (b0 I q (by simp))
  |_=>exact absurd (show HY=HX from a) IT
 |str i=>
  obtain⟨t,rfl⟩:=R;cases y with
  |non=>cases r;exact PySem.EqNone.ne_str_none (b0 I q (by simp))
  |bl j=>cases r;exact PySem.EqMixed.ne_str_bool (b0 I q (by simp))
  |int j=>obtain⟨T,rfl⟩:=r;exact PySem.EqMixed.ne_str_int (b0 I q (by simp))
  |str j=>obtain⟨T,rfl⟩:=r;exact ne_str (b0 I q (congrArg not kl))
  |_=>exact absurd (show HY=HX from a) IT
 |byt i=>
  obtain⟨t,rfl⟩:=R;cases y with
  |byt j=>obtain⟨T,rfl⟩:=r;exact PySem.W.ne_bytes (b0 I q (congrArg not km))
  |_=>exact absurd (show HY=HX from a) IT
 |_=>cases y<;>exact absurd (show HY=HX from a) IT
theorem uV:bZ X (compareOp .LtE) (kg λi j=>.bl (decide (i<=j))):=pS λ_ _ _ _ _ _ _ q=>le_int q
theorem uW:bZ X (compareOp .Gt) (kg λi j=>.bl (decide (j<i))):=pS λ_ _ _ _ _ _ _ q=>gt_int q
theorem uX:bZ X (compareOp .GtE) (kg λi j=>.bl (decide (j<=i))):=pS λ_ _ _ _ _ _ _ q=>ge_int q
theorem BP:bZ X (compareOp .In) (λx y H Q=>∃i j,x=.str i/\y=.str j/\Q (.bl (!(Ip j i 0 j.length 1).isEmpty)) H):=by intro p s a H x y v u Q I r R h;obtain⟨i,j,rfl,rfl,q⟩:=h;obtain⟨t,rfl⟩:=r;obtain⟨T,rfl⟩:=R;exact in_str (b0 I q rfl)
theorem p8:bZ X (compareOp .Is) (λx y H Q=>y=.non/\Q (.bl (decide (x=.non))) H):=by
 intro p s a H x y v u Q I r R h;obtain⟨rfl,q⟩:=h;subst R;refine is_none_gen (b0 I q ?_)
 cases x<;>first
  |lia
  | (obtain⟨t,rfl⟩:=r;rfl)
theorem ko:bZ X (compareOp .IsNot) (λx y H Q=>y=.non/\Q (.bl (!decide (x=.non))) H):=by
 intro p s a H x y v u Q I r R h;obtain⟨rfl,q⟩:=h;subst R;refine isnot_none_gen (b0 I q ?_)
 cases x<;>first
  |lia
  | (obtain⟨t,rfl⟩:=r;rfl)
theorem BQ:bZ X (compareOp .NotIn) (λx y H Q=>∃i j,x=.str i/\y=.str j/\Q (.bl (!(!(Ip j i 0 j.length 1).isEmpty))) H):=by intro p s a H x y v u Q I r R h;obtain⟨i,j,rfl,rfl,q⟩:=h;obtain⟨t,rfl⟩:=r;obtain⟨T,rfl⟩:=R;exact notIn_str (b0 I q rfl)
theorem kq{o:Ka}{r:R2}(g:bZ X (compareOp o) r)(d:PE X a ta)(e:PE X b tb)(f:behindInMarks o b=HY):PE X (.Compare a [o] [b] pos) (A8 r ta tb):=by intro p s k H Q I h;exact wpAny_Compare1 (pQ d e I h λv u S x y j c R i q=>g _ _ _ _ x y v u Q c R i q) f
noncomputable def oQ(t:TE):TT:=λσ H Q=>t σ H λx H'=>∃k,x=.bl k/\Q k H'
theorem uY{o:Ka}{r:R2}(m:bZ X (compareOp o) r)(i:PE X a ta)(j:PE X b tb)(l:behindInMarks o b=HY):PT X (.Compare a [o] [b] pos) (oQ (A8 r ta tb)):=by
 intro P s C H Q I h
 refine wpAny_isTrue_Compare1 (aK (i _ s _ H _ I h) λv S ⟨x,_,d,R,q⟩=>aK (j _ _ _ _ _ d q) λu A ⟨y,_,f,t,n⟩=>
  aK (m _ _ _ _ x y v u _ f R t n) λc B ⟨z,_,g,w,k,e,p⟩=>?_) l
 subst e;subst w;exact ZM ⟨_,g,p⟩
noncomputable def iq(r R:R2)(t tb T:TE):TE:=λσ H Q=>t σ H λx H1=>tb σ H1 λy H2=>r x y H2 λz a=>∃k,z=.bl k/\
 (if k=HX then T σ a λw b=>R y w b Q else Q (.bl HY) a)
theorem BR{o:Ka}{r R:R2}(A:bZ X (compareOp o) r)(f:bZ X (compareOp op') R)(n:PE X a ta)(p:PE X b tb)(t:PE X c tc)
  (w:lastMarks [o,op'] [b,c]=HY:=by with_unfolding_all rfl):PE X (.Compare a [o,op'] [b,c] pos) (iq r R ta tb tc):=by
 intro P s L H Q I h
 refine Compare_chain (aK (n _ s _ H _ I h) λv S ⟨x,_,j,E,B⟩=>chain_link (aK (p _ _ _ _ _ j B) λu G ⟨y,_,l,i,C⟩=>
  aK (A _ _ _ _ x y v u _ l E i C) λd J ⟨z,_,g,F,k,e,q⟩=>?_)) w
 subst e;subst F;refine ZM ?_;cases k with
 |false=>exact ite_ff ⟨.bl _,_,g,rfl,q⟩
 |true=>exact ite_tt (chain_last (aK (t _ _ _ _ _ g q) λW K ⟨_,_,m,r4,D⟩=>f _ _ _ _ y _ u _ Q m i r4 D))
theorem BS{o:Ka}{r R:R2}(C:bZ X (compareOp o) r)(f:bZ X (compareOp op') R)(t:PE X a ta)(w:PE X b tb)(A:PE X c tc)
  (B:lastMarks [o,op'] [b,c]=HY:=by with_unfolding_all rfl):PT X (.Compare a [o,op'] [b,c] pos) (oQ (iq r R ta tb tc)):=by
 intro S s σ H Q I h
 refine isTrue_chain (aK (t _ s _ H _ I h) λv T ⟨x,_,j,L,F⟩=>test_link (aK (w _ _ _ _ _ j F) λu U ⟨y,_,l,i,G⟩=>
  aK (C _ _ _ _ x y v u _ l L i G) λd V ⟨z,_,g,M,k,e,q⟩=>?_)) B
 subst e;subst M;refine ZM ?_;cases k with
 |false=>obtain⟨P,E,D⟩:=q;cases E;exact ite_ff ⟨_,g,D⟩
 |true=>refine ite_tt (test_last (aK (A _ _ _ _ _ g q) λZ W ⟨_,_,m,r4,J⟩=>aK (f _ _ _ _ y _ u _ _ m i r4 J) λO Y ⟨_,_,n,N,_,p,K⟩=>?_));subst p;subst N;exact ZM ⟨_,n,K⟩
def gA(K:Fg)(x:V)(H:Hp)(k:Bool):Prop:=
 match x with
 | .non=>k=HY
 | .bl b=>k=b
 | .int i=>k=(i !=0)
 | .str y=>y.length<=sizeLine/\k=((y.length:Int) !=0)
 | .byt y=>y.size<=sizeLine/\k=((y.size:Int) !=0)
 | .ref p=>(∃xs,cP K H p xs/\k= !xs.isEmpty)\/(∃xs,bQ K H p xs/\k= !xs.isEmpty)\/∃a,H p=some (.dK a)/\k= !a.isEmpty
 |_=>False
theorem BU{a:Type}{k:List (a×V)}{vs:List (a×H8)}(r:KV k vs):(!vs.isEmpty)= !k.isEmpty:=by cases r<;>rfl
theorem uZ{xs:List V}(r:Vals xs its):(!its.toArray.isEmpty)= !xs.isEmpty:=by cases r<;>simp
theorem fK:(sizeLine:Nat)<2^63:=by decide
theorem ir:BL X (λx H Q=>∃k,gA X.K x H k/\Q k H):=by
 intro u s w H x v Q I R h;obtain⟨k,e,q⟩:=h;have n:=fK;have o:sizeLine=16777216:=JA;cases x with
 |non=>cases R;subst(e);exact truthy_none ⟨H,I,q⟩
 |bl b=>cases R;have E:k=b:=e;subst E;exact ZM ⟨H,I,q⟩
 |int i=>obtain⟨t,rfl⟩:=R;subst(e);exact PySem.P.truthy_int ⟨H,I,q⟩
 |str y=>obtain⟨t,rfl⟩:=R;obtain⟨l,E⟩:y.length<=sizeLine/\k=((y.length:Int) !=0):=e;subst E;exact PySem.P.truthy_str (by omega) ⟨H,I.tok _,q⟩
 |byt y=>obtain⟨t,rfl⟩:=R;obtain⟨l,E⟩:y.size<=sizeLine/\k=((y.size:Int) !=0):=e;subst E;exact PySem.W.truthy_bytes (by omega) ⟨H,I.tok _,q⟩
 |ref p=>
  cases R;have E:(∃c,cP X.K H p c/\k= !c.isEmpty)\/(∃c,bQ X.K H p c/\k= !c.isEmpty)\/∃K,H p=some (.dK K)/\k= !K.isEmpty:=e;rcases E with⟨c,d,E⟩| ⟨c,d,E⟩| ⟨K,d,E⟩
  ·subst E;obtain⟨f,r,P,g⟩:=I.list d;have a:=r.length;exact wpAny_truthy_list P.isList (by grind) ⟨H,I.tok _,by rw[uZ r];exact q⟩
  ·subst E;obtain⟨f,r,P,g⟩:=I.tuple d;have a:=r.length;exact truthy_tuple P (by grind) ⟨H,I.tok _,by rw[uZ r];exact q⟩
  ·subst E;obtain⟨g,j,vs,r,m⟩:K.length<=sizeLine/\(p==sysModules)=HY/\∃vs,KV K vs/\s.heap.DictOf (pA X.prog X.w) p vs:=I.hok p _ d;have a:K.length=vs.length:=Paired.length r;exact wpAny_truthy_dict j m (by omega) ⟨H,I.tok _,by rw[BU r];exact q⟩
 |_=>exact(show False from e).elim
theorem BV(c:PE X a ta)(d:∀w,isTrue a X.env w=(do let v <-w;standAt a.pos;holding [v] (truthy v))):
  PT X a (λσ H Q=>ta σ H λx H'=>∃k,gA X.K x H' k/\Q k H'):=by
 intro p s σ H Q I h;exact isTrue_plain (aK (c _ s _ H _ I h) λv S ⟨x,_,b,r,q⟩=>ir _ _ _ _ x v Q b r q) (d _)
theorem BW:bZ X (binaryOp .Add) (λx y H Q=>∃i j,x=.str i/\y=.str j/\i.length+j.length<=sizeLine/\Q (.str (i++j)) H):=by intro p s c H x y v u Q I r R h;obtain⟨i,j,rfl,rfl,a,q⟩:=h;obtain⟨t,rfl⟩:=r;obtain⟨T,rfl⟩:=R;exact PyProof.Rows.add_str (λT b=>⟨.str _,H,I.tok _,⟨_,rfl⟩,q⟩) a
theorem vals1{x:V}(r:Vals [x] us):∃u,us=[u]/\RelV x u:=by
 cases r with
 |cons a R=>cases R;simp_all
theorem u0:bh X (.type "int") (λxs H Q=>(∃i,xs=[.int i]/\Q (.int i) H)\/∃k,xs=[.bl k]/\Q (.int (if k then 1 else 0)) H):=by
 intro p s a H xs U Q I r h;rcases h with⟨i,rfl,q⟩| ⟨k,rfl,q⟩
 ·obtain⟨u,rfl,t,rfl⟩:=vals1 r;exact call_int_int ⟨.int i,H,I,⟨_,rfl⟩,q⟩
 ·obtain⟨u,rfl,R⟩:=vals1 r;subst R;exact call_int_bool ⟨.int _,H,I.tok _,⟨_,rfl⟩,q⟩
end
section
variable {x:H7}{mA:Mg}{v:H8}
end
section
variable {P:Ia}{H H':Hp}{fs fs':List (Str×V)}
end
section
variable {X:Cx}{σ:St}{H:Hp}{fs:List (Str×V)}{f:Str}{v:V}
end
section
variable {X:Cx}{o value:Expr}{f:Str}{pos tpos:Pos}{ta tv:TE}
end
section
variable {X:Cx}{σ:St}{H:Hp}{c:H8}{b:Bool}
end
structure cf (k:Nat)(A:IH):Prop where
 hd:A.handled=none
 dp:A.depth+3*k+5<recursionLimit
 un:A.units+16*k+200<cLine
 gd:A.guards=some []
theorem cf.mono{j:Nat}(r:cf k A)(h:j<=k):cf j A:=⟨r.hd,by have:=r.dp;lia,by have:=r.un;lia,r.gd⟩
theorem cf.deeper(r:cf (k+1) A)(env:Env):cf k (A.deeper env):=
 ⟨r.hd,by have:=r.dp;show A.depth+1+3*k+5<_;lia,by have:=r.un;show A.units+3+16*k+200<_;lia,r.gd⟩
theorem cf.depth(r:cf k A):A.depth<recursionLimit:=by have:=r.dp;lia
theorem cf.units(r:cf k A):A.units+64<cLine:=by have:=r.un;lia
noncomputable def p9:TA:=λ_ H Q=>Q [] H
noncomputable def iu(t:TE)(T:TA):TA:=λσ H Q=>t σ H λx H1=>T σ H1 λxs H2=>Q (x::xs) H2
section
variable {X:Cx}{te:TE}{t:TA}{pos:Pos}
theorem eO:PA X [] p9:=λ_ _ _ _ H Q I h=>MI ⟨_,H,I,.nil,h⟩
theorem dC(c:PE X e te)(d:PA X es t)(hs:starEach (e::es) X.env=(HY,eval e X.env)::starEach es X.env:=by rfl):PA X (e::es) (iu te t):=by intro pos p s i H Q I h;rw[hs];show wpAny _ _ (spliced ((HY,eval e _)::backTo _ _)) _ _ s;exact Mx (aK (c _ s _ H _ I h) λu S ⟨x,_,a,r,q⟩=>aK (d _ _ _ _ _ _ a q) λU g ⟨_,_,b,R,f⟩=>⟨_,_,b,.cons r R,f⟩)
noncomputable def BX(t:TA):TE:=λσ H Q=>t σ H λxs H1=>xs.length<=sizeLine/\∀p,H1 p=none->Q (.ref p) (aT H1 p (.tup xs))
noncomputable def BY(t:TA):TE:=λσ H Q=>t σ H λxs H1=>xs.length<=sizeLine/\∀p,H1 p=none->Q (.ref p) (aT H1 p (.lst xs))
theorem p_{x1}(h:PA X es t):PE X (.Tuple es x1 pos) (BX t):=by intro p s f H Q I d;refine wpAny_Tuple_spliced (aK (h _ _ s _ H _ I d) λU S ⟨_,_,a,r,z,q⟩=>⟨by rw[<-r.length];exact z,?_⟩);have c:=a.hok.fresh (Zf _);refine⟨.ref _,_,a.laid (λb u e=>Zb _ e) (Zf _) ?_,rfl,q _ c⟩;exact⟨z,_,r,⟨_,Zg _ rfl,rfl,_,rfl⟩,_,Zg _ rfl,rfl⟩
theorem gB(h:PA X es t):PE X (.List es pos) (BY t):=by intro p s f H Q I d;refine wpAny_List_spliced (aK (h _ _ s _ H _ I d) λU S ⟨_,_,a,r,z,q⟩=>⟨by rw[<-r.length];exact z,?_⟩);have c:=a.hok.fresh (Zf _);refine⟨.ref _,_,a.laid (λb u e=>Zb _ e) (Zf _) ?_,rfl,q _ c⟩;exact⟨z,_,0,r,Zg _ rfl⟩
end
abbrev Sp:=List V->Hp->VK->XK->Prop
abbrev cR:=List Env->Hp->HZ->XK->Vs
structure kr (P:Ia)(w:Io)(K:Fg)(mg:Mg)(base:Ig)(A:IH)(outer:List Env)(s:HZ)(H:Hp):Prop where
 frames:A.frames=some outer
 mod:Mod K mg base
 bs:∀b o,base.get? b=some o->s.heap.get? b=some o/\H b=none
 bsz:base.objs.size<=s.heap.objs.size
 funs:s.heap.FunFrames base outer
 frf:∀b∈bE outer,H b=none
 hok:dt P w H s.heap
 bare:Kv s.gens
def CE(o:List Env)(P:Ia)(w:Io)(H:Hp)(s:HZ)(Q:VK)(u:H8)(S:HZ):Prop:=
 ∃v H',S.os=s.os/\Kv S.gens/\Un (bE o) [] H H' s.heap S.heap/\dt P w H' S.heap/\RelV v u/\Q v H'
def CR(CX:cR)(o:List Env)(P:Ia)(w:Io)(H:Hp)(s:HZ)(Q:VK)(E:XK)(r:KS)(S:HZ):Prop:=
 match r with
 | .ok (.ret u)=>CE o P w H s Q u S
 | .ok _=>False
 | .error e=>CX o H s E e S
structure cz (P:Ia)(w:Io)(K:Fg)(mg:Mg)(base:Ig)(CX:cR)(k:Nat)(f:H7)(fd:IP)(ps:Ls)(sp:Sp):Prop where
 len:∀vs H Q E,sp vs H Q E->vs.length=ps.length
 run:∀(A:IH) (outer:List Env) (s:HZ) (H:Hp) (args:Args) (us:Lv) (vs:List V) (Q:VK) (E:XK),cf k A->kr P w K mg base A outer s H->L_ s fd args (ps.zip us)->Vals vs us->sp vs H Q E->
  codeAny (model P w) A (.call (.ref f) args) (CR CX outer P w H s Q E) s
theorem cz.mono{P:Ia}{CX:cR}{j:Nat}{b:IP}{sp:Sp}(F:cz P w K mg base CX j f b ps sp)(h:j<=k):
  cz P w K mg base CX k f b ps sp:=⟨F.len,λA o s H a u vs Q E c=>F.run A _ s H _ _ _ Q E (c.mono h)⟩
theorem cz.imp{P:Ia}{CX:cR}{b:IP}{sp S:Sp}(F:cz P w K mg base CX k f b ps sp)
  (h:∀vs H Q E,S vs H Q E->sp vs H Q E):cz P w K mg base CX k f b ps S:=
 ⟨λvs H Q E q=>F.len _ H Q E (h _ _ _ _ q),λA o s H a u vs Q E e d c i g=>F.run A _ s H _ _ _ Q E e d c i (h _ _ _ _ g)⟩
section
variable {X:Cx}{σ:St}{H:Hp}
theorem Inv.env0(I:Inv X pq σ H s):kr X.prog X.w X.K X.mg X.base X.A X.stack s H:=
 ⟨I.ok.frames,I.ok.mod,I.bs,Zv I.ok.bsz I.sz,I.stack,I.stkFree,I.hok,I.bare⟩
theorem Inv.after{Q:VK}(I:Inv X pq σ H s)(h:CE X.stack X.prog X.w H s Q u s'):EP X pq σ Q u s':=by obtain⟨v,c,O,B,un,a,r,q⟩:=h;obtain⟨e,g,d,t,o⟩:=s';obtain rfl:o=s.os:=O;exact⟨v,_,I.call un a B λb z=>absurd z (by nofun),r,q⟩
end
noncomputable def u1(sp:Sp)(d:List V)(E:XK)(t:TA):TE:=λσ H Q=>t σ H λvs H1=>sp (vs++d) H1 Q E
def Binds(K:Fg)(f:IP)(ps:Ls)(ds:Lv):Prop:=
 ∀(s:HZ) (us:Lv),K.In s.heap->(us++ds).length=ps.length->L_ s f ⟨us,[]⟩ (ps.zip (us++ds))
theorem Binds.all{f:IP}(h:∀us:Lv,us.length=ps.length->bindArgs f ⟨us,[]⟩=pure (ps.zip us)):Binds K f ps []:=λs us _ H=>by rw[KA]at H⊢;exact .of_eq (h _ H)
def iv(CX:cR)(X:Cx)(E:XK):Prop:=∀(pq:Lp) (σ:St) (H:Hp) (s:HZ) (e:H8) (s':HZ),Inv X pq σ H s->CX X.stack H s E e s'->X.xe e s'
section
variable {X:Cx}{CX:cR}{fd:IP}{sp:Sp}{dvs:List V}{ds:Lv}{E:XK}{x m:Str}{p pos:Pos}{o:Expr}{ta:TE}{t:TA}
theorem p'{σ:St}{H:Hp}{Q:VK}{vs:List V}(F:cz X.prog X.w X.K X.mg X.base CX k f fd ps sp)(g:cf k X.A)(c:Binds X.K fd ps ds)(d:Vals dvs ds)(i:iv CX X E)
  (I:Inv X pq σ H s) (r:Vals vs us) (h:sp (vs++dvs) H Q E):wpAny (model X.prog X.w) X.A (call (.ref f) us) (EP X pq σ Q) X.xe s:=by
 have R:=r.append d;refine Mh (JU (F.run _ _ s H _ _ _ Q E g I.env0 (c s _ I.kIn (by rw[<-R.length];exact F.len _ _ _ _ h)) R h) λr S a=>?_);cases r with
 |error e=>exact i _ _ H s e _ I a
 |ok b=>
  cases b with
  |ret u=>exact I.after a
  |next=>exact False.elim a
  |brk=>exact False.elim a
  |cont=>exact False.elim a
theorem kt(F:cz X.prog X.w X.K X.mg X.base CX k f fd ps sp)(o:cf k X.A)(l:Gl X x)(n:X.mg x=some (.ref f))(m:PySem.W.keepIn X.K (.ref f)=HX)(g:Binds X.K fd ps ds)(i:Vals dvs ds)(u:iv CX X E)
  (d:PA X (e::es) t) (a:(x==("__debug__":Str))=HY:=by decide) (j:starEach (e::es) X.env=(HY,eval e X.env)::starEach es X.env:=by rfl) (b:(backTo pos (starEach es X.env)).any (·.1)=HY:=by rfl):
  PE X (.Call (.Name x p) (e::es) [] pos) (u1 sp dvs E t):=by
 intro P s v H Q I h;exact Jk (ig I l n (PySem.W.callWith_K I.ok.mod.kin m (aK (d _ _ s _ H _ I h) λU S ⟨_,_,c,r,q⟩=>⟨c.kIn,p' F o g i u c r q⟩) j b) a)
end
section
variable {X:Cx}{CX:cR}{fd:IP}{ks:Ls}{sp:Sp}{E:XK}{x m:Str}{p pos kpos:Pos}{o:Expr}{y_:List KU}{te ta:TE}{t tk:TA}{nm:Option Str}
variable {g:Lv->Lv->Lv}{gV:List V->List V->List V}
end
structure bx (N P:Ls)(sc:Scope):Prop where
 kind:sc.kind=.function
 co:sc.isCoroutine=HY
 gen:sc.isGenerator=HY
 nd:N.Nodup
 pre:N.take P.length=P
 par:∀x∈P,sc.names.lookup x=some .local\/sc.names.lookup x=some .cell
 nofree:∀y∈sc.names,y.2≠.free
theorem u2{kindOf:Str->Option IQ}{x:Str}:∀{binds:List (Str×H8)} {m:Mg},(∀v,(x,v)∉binds)->bindL kindOf binds m x=m x
 | [],_,_=>rfl
 | (n,v)::r,m,h=>by
  dsimp only[bindL];rw[u2 λw hw=>h w (Zc _ hw)];split
  ·grind
  ·rfl
theorem u3{kindOf:Str->Option IQ}{x:Str}:∀{binds:List (Str×H8)} {m:Mg},(∀v,(x,v)∉binds)->bindC kindOf binds m x=m x
 | [],_,_=>rfl
 | (n,v)::r,m,h=>by
  unfold bindC;rw[u3 λw hw=>h w (Zc _ hw)];split
  ·rfl
  grind
theorem u4{kindOf:Str->Option IQ}{x:Str}{v:H8}:∀{P:Ls} {vs:Lv} {i:Nat} {m:Mg},P.Nodup->P[i]?=some x->vs[i]?=some v->kindOf x=some .local->
  bindL kindOf (P.zip vs) m x=some v
 | [],_,_,_,_,h,_,_=>by trivial
 |_::_,[],_,_,_,_,h,_=>by trivial
 |p::P,w::vs,0,m,n,H,a,b=>by simp at H a;subst H;subst a;show bindL _ ((p,w)::P.zip _) m p=_;dsimp only[bindL];rw[u2 λv c=>(IX.mp n).1 (JX c).1,if_pos b];simp
 |p::P,w::vs,i+1,m,n,H,a,b=>by unfold bindL;exact u4 (IX.mp n).2 (by exact H) (by trivial) b
theorem u5{kindOf:Str->Option IQ}{x:Str}{v:H8}:∀{P:Ls} {vs:Lv} {i:Nat} {m:Mg},P.Nodup->P[i]?=some x->vs[i]?=some v->kindOf x≠some .local->
  bindC kindOf (P.zip vs) m x=some v
 | [],_,_,_,_,h,_,_=>by simp_all
 |_::_,[],_,_,_,_,h,_=>by simp_all
 |p::P,w::vs,0,m,n,H,a,b=>by simp at H a;subst H;subst a;show bindC _ ((p,w)::P.zip _) m p=_;unfold bindC;rw[u3 λv c=>(IX.mp n).1 (JX c).1,if_neg b];simp
 |p::P,w::vs,i+1,m,n,H,a,b=>by unfold bindC;exact u5 (IX.mp n).2 (by simpa using H) (by simp_all) b
noncomputable def start(N:Ls)(vs:List V):St:=vs.map some++Ic (N.length-vs.length) none
noncomputable def eP(CX:cR)(P:Ia)(w:Io)(K:Fg)(mg:Mg)(base:Ig)(N:Ls)(qual:Str)(scope:Scope)(f:H7)(cd:H8)(A:IH)(outer:List Env)(s:HZ)(H:Hp)(E:XK):Cx where
 prog:=P
 w:=w
 K:=K
 mg:=mg
 base:=base
 A:=A.deeper (envOfC qual scope s.heap.objs.size f cd)
 N:=N
 s₀:=s
 H₀:=H
 env:=envOfC qual scope s.heap.objs.size f cd
 outer:=outer
 stack:=envOfC qual scope s.heap.objs.size f cd::outer
 ex:=[]
 calm:=HX
 fn:=λ_=>HX
 pn:=[]
 xe:=λe s'=>wpAny (model P w) (A.deeper (envOfC qual scope s.heap.objs.size f cd)) (leaving (envOfC qual scope s.heap.objs.size f cd) e) (λ_ s''=>CX outer H s E e s'') (λe' s''=>CX outer H s E e' s'') s'
theorem u6{s:Scope}{x:Str}(h:s.names.lookup x=some .cell):∃c,(cellsFrom n s.names []).lookup x=some c:=by exact I3.mp (PySem.W.cellsFrom_some _ n [] (.inl h))
theorem u8{CX:cR}{P:Ia}{t:HZ}{H:Hp}{E:XK}{vs:List V}
  (S:bx N ps scope) (C:A.handled=none) (e0:kr P w K mg base A outer s H) (I:vs.length=ps.length) (r:Vals vs us)
  (x:InCallC s s.heap.objs.size (bindL (envOfC qual scope s.heap.objs.size f cd).kindOf (ps.zip us) λ_=>none) (cellsFrom (s.heap.objs.size+1) scope.names []) (bindC (envOfC qual scope s.heap.objs.size f cd).kindOf (ps.zip us) λ_=>none) t):
  Inv (eP CX P w K mg base N qual scope f cd A outer s H E) [] (start N vs) H t:=by
 have D:ps.length<=N.length:=by have:=congrArg KN S.pre;rw[JR]at this;omega
 obtain⟨j,T,rfl,m⟩:=x.done;have n:∀b:H7,b∉(eP CX P w K mg base N qual scope f cd A outer s H E).ex:=λb z=>absurd (show b∈[]from z) (by simp)
 refine⟨⟨e0.mod,S.kind,rfl,rfl,Zf _,λy z c j l=>?_,λy d=>?_,λy c _ h=>?_,λ_=>C,Around.frames_deeper e0.frames,.inr ⟨rfl,rfl⟩,λb z=>absurd z (n b),e0.bs,e0.bsz,λb _ _=>n b,λb z=>absurd z (n b),e0.funs,e0.frf⟩,
  rfl,e0.bare,Un.kept m,⟨_,x.toInCall.ns,λi y v j l F=>?_⟩,λy c h=>⟨_,x.cell y c h⟩,e0.hok.fresh (Zf _),λy c h=>?_,λp a=>absurd (show p∈([])from a) (by simp),e0.hok.kept m,?_⟩
 ·exact name_of_addr x.apart (Zw j) (Zw l)
 ·rcases d with d|d
  ·exact u6 d
  ·exact absurd rfl (S.nofree _ (Zw d))
 ·exact J3 (x.above y c (Zw h))
 ·have G:i<vs.length:=by
   unfold start at l
   grind
  have B:vs[i]?=some v:=by
   unfold start at l
   grind
  obtain⟨u,o,R⟩:=r.get B;have a:ps[i]?=some y:=by rw[<-S.pre,Kj (by omega)];exact j
  have g:ps.Nodup:=by rw[<-S.pre];exact S.nd.sublist (Ke _ _)
  refine⟨u,R,?_⟩;rcases S.par y (Zq a)with k|k
  ·exact .inl ⟨k,u4 g a o k⟩
  ·obtain⟨c,e⟩:=u6 k;refine .inr ⟨.inl k,c,e,?_⟩;have q:=x.cell y c e;rw[u5 g a o (by show scope.names.lookup y≠_;rw[k];decide)]at q;exact q
 ·exact e0.hok.fresh (J3 (x.above y c (Zw h)))
 ·unfold start;show _=N.length;simp_all
theorem u9{CX:cR}{P:Ia}{p:Arguments}{body:List JE}{D kV:H8}{an:Option H7}
    {sp:Sp} (lk:K.lookup f=some ⟨oc,od,.func (PySem.W.fnOf name qual p body scope D kV doc pm an cdv ct),osl⟩) (j:PySem.W.codeIn K cdv qual=HX) (S:bx N ps scope)
  (len:∀vs H Q E,sp vs H Q E->vs.length=ps.length)
  (h:∀(A:IH) (outer:List Env) (s:HZ) (H:Hp) (vs:List V) (Q:VK) (E:XK),cf k (A.deeper (envOfC qual scope s.heap.objs.size f cdv))->sp vs H Q E->
   ∃t,dR (eP CX P w K mg base N qual scope f cdv A outer s H E) body t/\t {nx:=λ_ H'=>Q .non H',rt:=Q} (start N vs) H):
  cz P w K mg base CX (k+1) f (PySem.W.fnOf name qual p body scope D kV doc pm an cdv ct) ps sp:=by
 refine⟨len,λA outer s H m W vs Q E l g C r i=>?_⟩;have M:=len _ _ _ _ i;have KX:=g.mod.kin.keeps λb o e=>(g.bs b o e).1;have L:=g.mod.nolimit.keeps λb o e=>(g.bs b o e).1
 have c:∀y∈ps.zip W,scope.names.lookup y.1=some _\/(scope.names.lookup y.1=some _/\((cellsFrom (s.heap.objs.size+1) _ []).lookup y.1).isSome=HX):=λ⟨n,v⟩ U=>by
  rcases S.par n (JX U).1 with q|q
  ·exact .inl q
  ·exact .inr ⟨q,PySem.W.cellsFrom_some _ _ _ (.inl q)⟩
 refine M4 l.depth (KX _ _ lk) rfl S.co S.gen rfl (PySem.W.codeRec_of KX j) (C _ _ _ _ ?_);refine Mi S.kind c λB G Z x=>?_;subst G;refine⟨L.keeps x.toInCall.keep,codeAny_func ?_⟩;obtain⟨t,T,O⟩:=h A _ s H _ Q E (l.deeper _) i;have I:Inv (eP CX P w K _ _ N _ _ f _ A _ s H E) _ _ H _:=u8 S l.hd g M r x;refine Iy (T _ _ _ H _ I O) (λF z d=>?_) λe z d=>d
 have fin:∀{a:St} {H':Hp} {v:V} {u:H8},Inv (eP CX P w K mg base N qual scope f cdv A _ s H E) [] a _ _->RelV v u->Q v H'->CE outer P w H s Q u z:=
  λ{a H' v u} J R q=>⟨v,_,J.os,J.bare,J.base,J.hok,R,q⟩
 cases F with
 |ret u=>obtain⟨v,a,H',J,R,q⟩:=d;exact fin J R q
 |next=>obtain⟨a,H',J,q⟩:=d;exact fin (v:=V.non) J rfl q
 |brk=>obtain⟨_,_,_,q⟩:=d;simp_all
 |cont=>obtain⟨_,_,_,q⟩:=d;simp_all
section
variable {X:Cx}{x:Str}{p pos:Pos}{t:TA}{id T:String}{r:List V->Hp->VK->Prop}
noncomputable def BZ(r:List V->Hp->VK->Prop)(t:TA):TE:=λσ H Q=>t σ H λvs H1=>r vs H1 Q
theorem qa(f:bh X (.builtin id) r)(i:Gl X x)(j:X.mg x=none)(l:bootBuiltins x=some (.builtin id))(d:PA X (e::es) t)(k:x≠"__name__":=by decide)(a:(x==("__debug__":Str))=HY:=by decide)
  (g:starEach (e::es) X.env=(HY,eval e X.env)::starEach es X.env:=by rfl) (b:(backTo pos (starEach es X.env)).any (·.1)=HY:=by rfl):PE X (.Call (.Name x p) (e::es) [] pos) (BZ r t):=by
 intro P s m H Q I h;exact Jk (e8 I i j l (KO (aK (d _ _ s _ H _ I h) λu S ⟨_,_,c,R,q⟩=>f _ _ _ _ _ _ Q c R q) g b) k a)
theorem ku(f:bh X (.type T) r)(i:Gl X x)(j:X.mg x=none)(l:bootBuiltins x=some (.type T))(d:PA X (e::es) t)(k:x≠"__name__":=by decide)(a:(x==("__debug__":Str))=HY:=by decide)
  (g:starEach (e::es) X.env=(HY,eval e X.env)::starEach es X.env:=by rfl) (b:(backTo pos (starEach es X.env)).any (·.1)=HY:=by rfl):PE X (.Call (.Name x p) (e::es) [] pos) (BZ r t):=by
 intro P s m H Q I h;exact Jk (e8 I i j l (IG (aK (d _ _ s _ H _ I h) λu S ⟨_,_,c,R,q⟩=>f _ _ _ _ _ _ Q c R q) g b) k a)
end
end L2
namespace HT
section
open PySem.SeqAt
open PySem.AutoSeq1 (wpAny_loadPart')
open PySem.MeetsSeq PySem.MeetsSeq2 PySem.MeetsSeq3
end
theorem kw{t b:H7}{vs ws:Lv}(l:LW s.heap t vs.toArray)(g:LW s.heap b ws.toArray)(p:vs≠[])
  (h1:ws=[]->Q (.ref t) s) (o:ws≠[]->Q (.ref s.heap.objs.size) {s with heap:=s.heap.push {cls:=.type "tuple",data:=.seq (vs++ws).toArray}})
  (k:vs.length+ws.length<=sizeLine):wpAny (model prog w) A (binaryOp .Add (.ref t) (.ref b)) Q E s:=by
 obtain⟨⟨cls,m,d,sl⟩,H,i,n,j⟩:=id l;obtain⟨⟨C,f,D,S⟩,h,a,N,c⟩:=id g;subst i j a c;by_cases hw:ws=[]
 ·exact MS ⟨_,H,rfl⟩ ⟨_,h,rfl⟩ LQ My PySem.F.slot_tuple_add PySem.F.entry_tuple_add (PySem.F.args_tuple_add_2 _ _)
   (tuple_addW1 t b _ _ n _ _ _ _ _ (by simp_all) (by simp_all)) ⟨H,h,h1 hw⟩
 ·refine MS ⟨_,H,rfl⟩ ⟨_,h,rfl⟩ LQ My PySem.F.slot_tuple_add PySem.F.entry_tuple_add (PySem.F.args_tuple_add_2 _ _)
   (tuple_addW2 t b _ _ n _ _ _ _ _ (by simp_all) (by simp_all) (by simp_all)) ⟨H,h,?_⟩
  simp_all
noncomputable def bn(n d:Nat):Option Int->Nat
 |none=>d
 |some v=>if v<0 then(v+(n:Int)).toNat else min v.toNat n
theorem u_(v:Int)(n d:Nat):(if v<0 then max (v+(n:Int)) 0 else min v (n:Int))=((bn n d (some v):Nat):Int):=by
 show(if v<0 then max _ 0 else min v _)=((if v<0 then(v+(n)).toNat else min _ n):Nat)
 grind
theorem B0(l h:Option Int)(n:Nat):Iv l h 1 (n:Int)=(((bn n 0 l:Nat):Int),((bn n n h:Nat):Int)):=by
 refine Prod.ext ?_ ?_
 ·cases l with
  |none=>rfl
  |some v=>exact u_ v n 0
 ·cases h with
  |none=>rfl
  |some v=>exact u_ v n n
theorem B1(i j:Nat):Ie (i:Int) (j:Int) 1=j-i:=by unfold Ie;lia
theorem kx{v:H8}{o:Option Int}{Q:Option Int->HZ->Prop}(p:Km v o)(h:Q o s):wpAny (model prog w) A (Builtin.Slice.slicePartIndex v) Q E s:=by
 cases p with
 |none=>exact slicePart_none h
 |int i t=>exact slicePart_int h
theorem vc{Q:Int×Int×Nat->HZ->Prop}(hs:s.heap.IsSliceOf sl vl vu .none)(pl:Km vl lo)(p:Km vu hi)
  (h:Q (((bn n 0 lo:Nat):Int),1,bn n n hi-bn n 0 lo) s):wpAny (model prog w) A (JQ (.ref sl) (pure (n:Int))) Q E s:=by
 obtain⟨o,a,b,H⟩:=id hs;refine Za (Za (ZF a H rfl (Za (ZF a H rfl (Za (ZF a H rfl (Zd ?_)))))));refine Za (slicePart_none ?_);refine Za (kx pl (Za (kx p (Za (Zd ?_)))));show wpAny _ _ (match Iv _ _ 1 n with| (lo,hi)=>pure (lo,(1:Int),Ie lo hi 1)) _ _ s;rw[B0 _ _ n];show wpAny _ _ (pure _) _ _ s;rw[B1];exact Zd h
theorem B2(xs:Av)(i k:Nat):((H_ k).filterMap λ(m:Nat)=>xs[((i:Int)+(m:Int)*1).toNat]?).toArray=((xs.toList.drop i).take k).toArray:=by
 have e:(λ(m:Nat)=>xs[((i:Int)+m*1).toNat]?)=λm=>xs[i+m]? :=by grind
 have:=pick_run xs i k;have E:((λx=>xs[x]?)∘λx=>i+x)=λm=>xs[i+m]? :=rfl;simp_all
theorem B3{t:H7}(a:LW s.heap t items)(hs:s.heap.IsSliceOf sl vl vu .none)(pl:Km vl lo)(p:Km vu hi)
  (hw:¬(bn items.size 0 lo=0/\bn items.size items.size hi=items.size))
  (h:Q (.ref s.heap.objs.size) {s with heap:=s.heap.push {cls:=.type "tuple",data:=.seq ((items.toList.drop (bn items.size 0 lo)).take (bn items.size items.size hi-bn items.size 0 lo)).toArray}})
  (f:items.size<=sizeLine):wpAny (model prog w) A (getItem (.ref t) (.ref sl)) Q E s:=by
 have H:=by
  show((items.toList.drop (bn items.size 0 lo)).take (bn items.size items.size hi-bn items.size 0 lo)).toArray.size<=sizeLine
  grind
 obtain⟨o,c,b,e⟩:=id hs;unfold getItem
 try with_reducible refine ZE ?_
 refine Za (Kw a.typeIs (by decide) ?_)
 refine Za (ZG a.typeIs ZD
  (ZJ ZD a.typeIs Kb ?_ (Ko _ _)))
 show wpAny _ _ (Jb (.ref t)>>=_) _ _ s;refine Za (Lh a ?_);refine Za (JB ⟨o,c,b⟩ ?_);refine Za (vc hs pl p ?_);show wpAny _ _ (if(((bn _ 0 lo:Nat):Int)==0&&(1:Int)==1&&(bn _ items.size hi-bn items.size 0 lo)==items.size)=HX then _ else _) _ _ s;rw[if_neg (by simp_all),B2]
 first
  |exact Za (ZN (Zd ⟨_,rfl,Zd h⟩) H)
  |simp_all
  |simp_all
  |simp_all
end HT
namespace L2
abbrev TO:=St->Hp->(Option Int->Hp->Prop)->Prop
def PO(X:Cx)(e:Option Expr)(t:TO):Prop:=
 ∀(pq:Lp) (s:HZ) (σ:St) (H:Hp) (Q:Option Int->Hp->Prop),Inv X pq σ H s->t σ H Q->
  wpAny (model X.prog X.w) X.A (evalPart e X.env) (λu s'=>∃o H',Inv X pq σ H' s'/\Km u o/\Q o H') X.xe s
noncomputable def ky:TO:=λ_ H Q=>Q none H
noncomputable def vd(t:TE):TO:=λσ H Q=>t σ H λx H1=>∃i,x=.int i/\Q (some i) H1
section
variable {X:Cx}{te:TE}{lo hi:Option Expr}{tl th:TO}{pos:Pos}
theorem kz:PO X none ky:=by intro p s a H Q I h;exact Zd ⟨_,H,I,.none,h⟩
theorem kE(h:PE X e te):PO X (some e) (vd te):=by intro p s c H Q I hw;refine aK (h _ s _ H _ I hw) λu S ⟨x,_,a,r,b⟩=>?_;obtain⟨i,rfl,q⟩:=b;obtain⟨t,rfl⟩:=r;exact⟨_,_,a,.int i t,q⟩
def A9(X:Cx)(r:V->Option Int->Option Int->Hp->VK->Prop):Prop:=
 ∀(pq:Lp) (s:HZ) (σ:St) (H:Hp) (x:V) (v vl vu:H8) (lo hi:Option Int) (sl:H7) (Q:VK),Inv X pq σ H s->RelV x v->s.heap.IsSliceOf sl vl vu .none->Km vl lo->Km vu hi->r x lo hi H Q->
  ∃T id,typeLookup (.type T) "__getitem__"=pure (some (.builtin id))/\s.TypeIs v T/\wpAny (model X.prog X.w) X.A (getItem v (.ref sl)) (EP X pq σ Q) X.xe s
noncomputable def HG(r:V->Option Int->Option Int->Hp->VK->Prop)(t:TE)(tl T:TO):TE:=λσ H Q=>t σ H λx H1=>tl σ H1 λl H2=>T σ H2 λu a=>r x l u a Q
theorem B4{r:V->Option Int->Option Int->Hp->VK->Prop}(n:A9 X r)(j:PE X e te)(m:PO X lo tl)(p:PO X hi th):PE X (.Subscript e (.Slice lo hi none p2) pos) (HG r te tl th):=by intro B s E H Q I h;refine Mj (aK (j _ s _ H _ I h) λv C ⟨x,_,c,R,w⟩=>?_);refine wpAny_Slice (aK (m _ _ _ _ _ c w) λA D ⟨l,_,d,P,y⟩=>aK (p _ _ _ _ _ d y) λvu S ⟨u,_,f,t,z⟩=>?_);refine Zd ?_;have g:Inv X _ _ _ {S with heap:=S.heap.push {cls:=.type "slice",data:=.fields #[A,vu,.none]}}:=f.kept λb O q=>Zb _ q;obtain⟨T,id,i,o,k⟩:=n _ _ _ _ x v _ _ l u _ Q g R (JM ..) P t z;exact LD o i k rfl
noncomputable def gC(xs:List V)(l h:Option Int):List V:=(xs.drop (HT.bn xs.length 0 l)).take (HT.bn xs.length xs.length h-HT.bn xs.length 0 l)
theorem vf(xs:List V)(l h:Option Int):(gC xs l h).length<=xs.length:=by unfold gC;rw[JR,M5];omega
def B5(K:Fg):V->Option Int->Option Int->Hp->VK->Prop:=λx lo hi H Q=>∃a xs,x=.ref a/\bQ K H a xs/\
 ¬(HT.bn xs.length 0 lo=0/\HT.bn xs.length xs.length hi=xs.length)/\∀p,H p=none->Q (.ref p) (aT H p (.tup (gC xs lo hi)))
theorem sl_tup:A9 X (B5 X.K):=by
 intro m s t H x v V n l k sl Q I R e p P h;obtain⟨a,j,rfl,f,hw,q⟩:=h;cases R;obtain⟨i,r,d,g⟩:=I.tuple f;have c:i.toArray.size=j.length:=by exact r.length.symm
 refine⟨_,_,PyProof.Rows.slot_tuple_getitem.lookup,d.typeIs,?_⟩;refine HT.B3 d e p P (by lia) ?_ (by lia);rw[c];refine⟨.ref _,_,I.laid (λb o q=>Zb _ q) (Zf _) ?_,rfl,q _ (I.hok.fresh (Zf _))⟩;exact⟨Zv (vf _ _ _) g,_,(r.drop _).take _,Lb _ _,j3.new _ _⟩
noncomputable def vg(K:Fg):R2:=λx y H Q=>∃a b xs ys,x=.ref a/\y=.ref b/\bQ K H a xs/\bQ K H b ys/\xs≠[]/\xs.length+ys.length<=sizeLine/\
 (ys=[]->Q (.ref a) H)/\(ys≠[]->∀p,H p=none->Q (.ref p) (aT H p (.tup (xs++ys))))
theorem Vals.nil_iff{xs:List V}(r:Vals xs us):us=[]↔xs=[]:=by
 cases r with
 |nil=>simp
 |cons _ _=>simp
theorem kG:bZ X (binaryOp .Add) (vg X.K):=by intro n s A H x y v u Q I l m h;obtain⟨a,b,t,Y,rfl,rfl,c,d,e,f,j,k⟩:=h;subst l;subst m;obtain⟨g,R,p,_⟩:=I.tuple c;obtain⟨i,r,P,_⟩:=I.tuple d;refine HT.kw p P (λz=>e (R.nil_iff.mp z)) (λz=>⟨.ref a,H,I,rfl,j (r.nil_iff.mp z)⟩) (λz=>?_) (by rw[<-R.length,<-r.length];exact f);refine⟨.ref _,_,I.laid (λb o q=>Zb _ q) (Zf _) ?_,rfl,k (λw=>z (r.nil_iff.mpr w)) _ (I.hok.fresh (Zf _))⟩;exact⟨by simp_all,_,R.append r,Lb _ _,j3.new _ _⟩
end
noncomputable def gD(n:Nat)(i:Int):Option Nat:=if 0<=i then(if i<n then some i.toNat else none)else if-(n:Int)<=i then some (i+n).toNat else none
noncomputable def dU{a:Type}(xs:List a)(i:Int):Option a:=(gD xs.length i).bind λj=>xs[j]?
theorem vh{i:Int}{j:Nat}(h:gD n i=some j):seqIndex? i n=some j/\j<n/\ -(n:Int)<=i/\i<n:=by
 unfold gD at h;by_cases a:0<=i
 ·rw[if_pos a]at h;by_cases H:i<n
  ·rw[if_pos H]at h;have e:=JI h;exact⟨by rw[seqIndex_of a H,e],by lia,by lia,H⟩
  simp_all
 ·rw[if_neg a]at h;by_cases H: -n<=i
  ·rw[if_pos H]at h;have e:=JI h;exact⟨by rw[MT (by simp_all) H,e],by lia,H,by lia⟩
  simp_all
theorem qc{xs:List α}{i:Int}{v:α}(h:dU xs i=some v):∃j,seqIndex? i xs.length=some j/\xs[j]?=some v/\j<xs.length/\ -(xs.length:Int)<=i/\i<xs.length:=by
 unfold dU at h;cases e:gD xs.length i with
 |none=>simp_all
 |some j=>rw[e]at h;obtain⟨H,a,b,c⟩:=vh e;exact⟨j,H,h,a,b,c⟩
def vi(b:Expr):Prop:=∀o i,subscripted b HY o i=operate [o,i] (getItem o i)
def um(X:Cx)(r:R2):Prop:=
 ∀(value S:Expr) (pq:Lp) (s:HZ) (σ:St) (H:Hp) (x y:V) (v u:H8) (Q:VK),Inv X pq σ H s->RelV x v->RelV y u->r x y H Q->
  subscripted S HY v u=operate [v,u] (getItem v u)->wpAny (model X.prog X.w) X.A (subscriptTail value S v u) (EP X pq σ Q) X.xe s
def kH(X:Cx)(id:String)(r:V->List V->Hp->VK->Prop):Prop:=
 ∀(pq:Lp) (s:HZ) (σ:St) (H:Hp) (x:V) (xs:List V) (v:H8) (us:Lv) (Q:VK),Inv X pq σ H s->RelV x v->Vals xs us->r x xs H Q->
  wpAny (model X.prog X.w) X.A (call (.builtin id) (v::us)) (EP X pq σ Q) X.xe s
section
variable {X:Cx}{a b:Expr}{ta tb:TE}{pos:Pos}
theorem oR{r:R2}(f:um X r)(d:PE X a ta)(e:PE X b tb)(hs:vi b):PE X (.Subscript a b pos) (A8 r ta tb):=by intro p s j H Q I h;exact Mj (pQ d e I h λv u S x y i c R g q=>f a b _ _ _ _ x y v u Q c R g q (hs _ _))
noncomputable def B6(K:Fg):R2:=λx y H Q=>∃p xs i v,x=.ref p/\y=.int i/\cP K H p xs/\dU xs i=some v/\Q v H
noncomputable def B7(K:Fg):R2:=λx y H Q=>∃p xs i v,x=.ref p/\y=.int i/\bQ K H p xs/\dU xs i=some v/\Q v H
noncomputable def B8:R2:=λx y H Q=>∃z i c,x=.str z/\y=.int i/\z.length<=sizeLine/\dU z.cps.toList i=some c/\Q (.str ⟨#[c]⟩) H
theorem vj:um X (B6 X.K):=by
 intro V S F s J H x y v u Q I n o h d;obtain⟨p,G,i,z,rfl,rfl,m,k,q⟩:=h;cases n;obtain⟨t,rfl⟩:=o;obtain⟨a,r,P,D⟩:=I.list m;obtain⟨j,c,e,A,f,g⟩:=qc k;obtain⟨w,E,R⟩:=r.get e;have B:=r.length;have C:=fK;have fin:EP X _ _ Q w s:=⟨z,H,I,R,q⟩;by_cases b:0<=i
 ·have l:i.toNat=j:=by
   rw[seqIndex_of b g]at c;simp_all
  exact item_listR P.isList b (by omega) (by simp_all) fin d
 ·have l:(i+a.toArray.size).toNat=j:=by
   rw[MT (by omega) f]at c;simp_all
  exact MU P.isList.typeIs slot_list_getitem.lookup
   (wpAny_getItem_list_neg P.isList (by omega) (by simp_all) (by omega) (by simp_all) ⟨rfl,fin⟩) d
theorem qd:um X (B7 X.K):=by
 intro V S C s F H x y v u Q I f g h d;obtain⟨p,D,i,z,rfl,rfl,c,b,q⟩:=h;cases f;obtain⟨t,rfl⟩:=g;obtain⟨e,r,P,B⟩:=I.tuple c;obtain⟨j,k,a,l,m,n⟩:=qc b;obtain⟨w,E,R⟩:=r.get a;have o:=r.length;have A:=fK;have fin:EP X _ _ Q w s:=⟨z,H,I,R,q⟩
 exact MU P.typeIs slot_tuple_getitem.lookup
  (getItem_tuple (j:=j) P (by omega) (by omega) (by simp_all) (by simp_all) ⟨rfl,fin⟩) d
theorem qe:um X B8:=by
 intro V S p s w H x y v u Q I r R h l;obtain⟨z,i,c,rfl,rfl,o,g,q⟩:=h;obtain⟨t,rfl⟩:=r;obtain⟨T,rfl⟩:=R;obtain⟨j,a,b,m,d,f⟩:=qc g;have k:z.cps.toList.length=z.length:=by simp[Str.length]
 rw[k]at a d f;have n:=fK
 exact LD (JK s z t) slot_str_getitem.lookup (getItem_str (c:=c) (by have e:decide (i< -(2^63:Int))=HY:=Zx (by omega);have E:decide (i>=2^63)=HY:=Zx (by omega);rw[e,E,Bool.or_false]) (by rw[a];simpa using b) ⟨.str ⟨#[c]⟩,H,I.tok _,⟨_,rfl⟩,q⟩) l
theorem B9(i:Lv)(n j:Nat)(u:H8):ID (·.setIfInBounds j u) {cls:=.type "list",data:=.seq i.toArray n}={cls:=.type "list",data:=.seq (i.set j u).toArray n}:=by simp[ID]
theorem Inv.lst{σ:St}{H:Hp}{p:H7}{xs:List V}(I:Inv X pq σ H s)(h:H p=some (.lst xs)):
  ∃(its:Lv) (n:Nat),Vals xs its/\s.heap.get? p=some {cls:=.type "list",data:=.seq its.toArray n}/\xs.length<=sizeLine:=by
 obtain⟨z,its,n,r,e⟩:=I.hok p _ h;exact⟨_,n,r,e,z⟩
theorem Inv.lstUpd{σ:St}{H:Hp}{p:H7}{xs ys:List V}{a i:Lv}{n N:Nat}{f:Obj->Obj}(I:Inv X pq σ H s)(h:H p=some (.lst xs))
  (j:s.heap.get? p=some {cls:=.type "list",data:=.seq a.toArray n}) (d:f {cls:=.type "list",data:=.seq a.toArray n}={cls:=.type "list",data:=.seq i.toArray N}) (r:Vals ys i) (k:ys.length<=sizeLine) (t:Nat):
  Inv X pq σ (aT H p (.lst ys)) {s with heap:=s.heap.update p f,toks:=t}:=by
 have e:(s.heap.update p f).get? p=some {cls:=.type "list",data:=.seq i.toArray N}:=by rw[IB f j (by rw[d]<;>rfl),d]
 refine I.write (by rw[h];trivial) (.inl rfl) (λb u g q=>(JF _ _ (Ne.symm g)).trans q) ⟨_,e⟩ ?_;exact⟨k,_,_,r,e⟩
def vk:V->V->V->Hp->(Hp->Prop)->Prop:=λo i v H Q=>∃p xs k j,o=.ref p/\i=.int k/\H p=some (.lst xs)/\gD xs.length k=some j/\Q (aT H p (.lst (xs.set j v)))
theorem B_:pM X vk:=by
 intro P s F H o i v O D u Q I x R y h;obtain⟨p,E,k,j,rfl,rfl,g,w,q⟩:=h;cases x;obtain⟨t,rfl⟩:=R;obtain⟨c,n,r,b,C⟩:=I.lst g;obtain⟨f,z,l,m⟩:=vh w;have A:=r.length;have B:=fK
 have d:=
  I.lstUpd g b (B9 _ n j u) (r.set y j) (by simp_all) s.toks
 by_cases e:0<=k
 ·have a:k.toNat=j:=by
   rw[seqIndex_of e m]at f;simp_all
  exact PySem.W.ki_setAt b e (by omega) (by simp_all) (by rw[a];exact⟨_,d,q⟩)
 ·have a:(k+c.toArray.size).toNat=j:=by
   rw[MT (by omega) l]at f;simp_all
  exact PySem.W.ki_setBack b (by omega) (by simp_all) (by omega) (by rw[a];exact⟨_,d,q⟩)
theorem Ca(l H:Option Int)(n:Nat):(sliceBounds l H none n).1=((HT.bn n 0 l:Nat):Int)/\(sliceBounds l H none n).2.1=((HT.bn n n H:Nat):Int)/\(sliceBounds l H none n).2.2=1:=by
 refine⟨?_,?_,rfl⟩
 ·cases l with
  |none=>rfl
  |some i=>
   simp only[sliceBounds,HT.bn,MJ,show(1:Int)>0 by decide,if_true];by_cases h:i<0
   ·simp only[h,if_true]<;>omega
   ·simp only[h,if_false]<;>omega
 ·cases H with
  |none=>rfl
  |some i=>
   simp only[sliceBounds,HT.bn,MJ,show(1:Int)>0 by decide,if_true];by_cases h:i<0
   ·simp only[h,if_true]<;>omega
   ·simp only[h,if_false]<;>omega
theorem Cb(i:Lv)(l h:Option Int):slicePick i.toArray l h none=((i.drop (HT.bn i.length 0 l)).take (HT.bn i.length i.length h-HT.bn i.length 0 l)).toArray:=by obtain⟨H,a,b⟩:=Ca _ _ _;unfold slicePick;rw[H,a,b];simp only[sliceRange_one,pick_run]<;>rfl
def Cc(K:Fg):V->Option Int->Option Int->Hp->VK->Prop:=λx lo hi H Q=>∃a xs,x=.ref a/\cP K H a xs/\∀p,H p=none->Q (.ref p) (aT H p (.lst (gC xs lo hi)))
theorem kI:A9 X (Cc X.K):=by intro k s t H x v V m l j sl Q I R e p P h;obtain⟨a,n,rfl,f,q⟩:=h;subst R;obtain⟨i,r,d,g⟩:=I.list f;have c:=r.length;refine⟨_,_,slot_list_getitem.lookup,d.isList.typeIs,?_⟩;refine Mz d.isList e p P .none (by decide) ?_ (by simp_all);rw[Cb,<-c];refine⟨.ref _,_,I.laid (λb o q=>Zb _ q) (Zf _) ?_,rfl,q _ (I.hok.fresh (Zf _))⟩;exact⟨Zv (vf _ _ _) g,_,0,(r.drop _).take _,Zg _ rfl⟩
theorem Cd:bh X (.builtin "len") (λxs H Q=>∃p ys,xs=[.ref p]/\(cP X.K H p ys\/bQ X.K H p ys)/\Q (.int ys.length) H):=by
 intro f s g H xs U Q I r h;obtain⟨p,ys,rfl,b,q⟩:=h;obtain⟨u,rfl,d⟩:=vals1 r;cases d;have e:=fK;rcases b with b|b
 ·obtain⟨i,R,P,c⟩:=I.list b;have a:=R.length;exact Calls.call_len_list P.isList (by grind) ⟨.int _,H,I.tok _,⟨s.toks+1,by simp_all⟩,q⟩
 ·obtain⟨i,R,P,c⟩:=I.tuple b;have a:=R.length;exact len_tuple P (by grind) ⟨.int _,H,I.tok _,⟨s.toks+1,by simp_all⟩,q⟩
theorem Ce:bh X (.builtin "len") (λxs H Q=>∃z,xs=[.str z]/\z.length<=sizeLine/\Q (.int z.length) H):=by intro p s c H xs U Q I r h;obtain⟨z,rfl,b,q⟩:=h;obtain⟨u,rfl,t,rfl⟩:=vals1 r;have a:=fK;exact len_str (by lia) ⟨.int _,H,I.tok _,⟨_,rfl⟩,q⟩
theorem Cf:bh X (.type "list") (λxs H Q=>∃p ys,xs=[.ref p]/\(cP X.K H p ys\/bQ X.K H p ys)/\∀l,H l=none->Q (.ref l) (aT H l (.lst ys))):=by
 intro v s w H xs U Q I r h;obtain⟨p,ys,rfl,d,q⟩:=h;obtain⟨u,rfl,t⟩:=vals1 r;subst t
 have fin:∀(i:List _),Vals _ i->ys.length<=sizeLine->∀(a:Ig) (C:Nat),(∀b O,s.heap.get? b=some _->a.get? b=some _)->
   a.get? _=some _->EP X _ _ Q _ _:=λi R f a C k e=>
  ⟨.ref _,_,I.laid (t':=s.toks) k (Zf _) (show aW _ _ _ _ _ (.lst _)from⟨f,_,C,R,e⟩),rfl,q _ (I.hok.fresh (Zf _))⟩
 rcases d with d|d
 ·obtain⟨i,R,P,f⟩:=I.list d;have c:=R.length;obtain⟨o,m,g,n,j⟩:=P.isList;exact call_list_seq p (.inl rfl) m g j (λa C k e=>fin _ R f _ _ k e) (by simp_all)
 ·obtain⟨i,R,P,f⟩:=I.tuple d;have c:=R.length;obtain⟨o,m,g,n,j⟩:=P;exact call_list_seq p (.inr rfl) m g j (λa C k e=>fin _ R f _ _ k e) (by simp_all)
theorem vm:bh X (.type "tuple") (λxs H Q=>∃p ys,xs=[.ref p]/\((cP X.K H p ys/\∀l,H l=none->Q (.ref l) (aT H l (.tup ys)))\/(bQ X.K H p ys/\Q (.ref p) H))):=by
 intro n s v H xs U Q I r h;obtain⟨p,ys,rfl,h⟩:=h;obtain⟨u,rfl,j⟩:=vals1 r;subst j;rcases h with⟨a,q⟩| ⟨a,q⟩
 ·obtain⟨i,R,P,f⟩:=I.list a;have d:=R.length;refine call_tuple_list P.isList (λm k=>?_) (by simp_all);have c:=I.kept (t':=s.toks) k
  have g:=
   c.laid (t':=s.toks) (λb o e=>Zb _ e) (Zf _) (show aW _ _ _ _ _ (.tup _)from⟨f,_,R,Lb _ _,j3.new _ _⟩)
  exact⟨.ref _,_,g,rfl,q _ (c.hok.fresh (Zf _))⟩
 ·obtain⟨i,R,P,f⟩:=I.tuple a;exact call_tuple_same P ⟨.ref p,H,I,rfl,q⟩
def vn(K:Fg)(T:String)(x:V)(H:Hp):Prop:=match x with
 | .str _=>T="str"
 | .int _=>T="int"
 | .ref p=>(T="list"/\∃xs,cP K H p xs)\/(T="tuple"/\∃o,K.lookup p=some o/\o.cls=.type "tuple"/\o.dict=none)\/
   (T="dict"/\((∃k,H p=some (.dK k))\/∃k,H p=some (.dT k)))\/(T="set"/\∃S n,H p=some (.set S n))
 |_=>False
theorem iw{σ:St}{H:Hp}{T:String}{x:V}{v:H8}(I:Inv X pq σ H s)(r:RelV x v)(ty:vn X.K T x H):
  s.TypeIs v T/\∀a,v=.ref a->∃ob,s.heap.get? a=some ob/\ob.dict=none:=by
 cases x with
 |str z=>
  obtain⟨t,rfl⟩:=r;cases show T="str" from ty
  exact⟨JK s z t,λ_ e=>nomatch e⟩
 |int i=>
  obtain⟨t,rfl⟩:=r;cases show T="int" from ty
  exact⟨typeIs_int s i t,λ_ e=>nomatch e⟩
 |ref p=>
  cases r;rcases ty with⟨rfl,l,g⟩| ⟨rfl,o,h,f,d⟩| ⟨rfl,h⟩| ⟨rfl,S,n,h⟩
  ·obtain⟨j,_,P,_⟩:=I.list g;refine⟨P.isList.typeIs,λa e=>?_⟩;obtain⟨o,n,e,c,d,_⟩:=P;simp_all
  ·refine⟨⟨o,I.kIn p o h,f⟩,λa e=>?_⟩;cases e;exact⟨o,I.kIn _ o h,d⟩
  ·have z:∃o,s.heap.get? p=some o/\o.ExactDict:=by
    rcases h with⟨k,h⟩| ⟨k,h⟩
    ·obtain⟨_,_,_,_,o,_,_,e,E,_⟩:=I.hok p _ h;simp_all
    ·obtain⟨_,_,_,_,o,_,_,e,E,_⟩:=I.hok p _ h;simp_all
   obtain⟨o,e,E⟩:=z;refine⟨⟨o,e,E.1⟩,λa b=>?_⟩;cases b;exact⟨o,e,E.2.1⟩
  ·obtain⟨o,_,_,_,e,E,_⟩:=I.hok p _ h;refine⟨⟨o,e,E.1⟩,λa b=>?_⟩;cases b;exact⟨o,e,E.2.1⟩
 |_=>exact False.elim ty
noncomputable def Cg(K:Fg)(T:String)(r:V->List V->Hp->VK->Prop)(to:TE):TE:=λσ H Q=>to σ H λx H1=>vn K T x H1/\r x [] H1 Q
noncomputable def G'(K:Fg)(T:String)(r:V->List V->Hp->VK->Prop)(to:TE)(t:TA):TE:=λσ H Q=>to σ H λx H1=>vn K T x H1/\t σ H1 λxs H2=>r x xs H2 Q
variable {o:Expr}{to:TE}{t:TA}{T id:String}{r:V->List V->Hp->VK->Prop}
theorem qf(p:PlainAttrs T)(S:Slot T name id)(c:typeOf (.builtin id)=pure (.type "method_descriptor"))(g:kH X id r)(i:PE X o to)
  (a:attributeBase o name X.env (eval o X.env)=eval o X.env:=by rfl) (b:(apos.endLine==cpos.line)=HX:=by rfl):PE X (.Call (.Attribute o name apos) [] [] cpos) (Cg X.K T r to):=by
 intro P s k H Q I h;refine wpAny_Call_method0_late a b (aK (i _ s _ H _ I h) λv j ⟨x,_,d,R,ty,q⟩=>?_);obtain⟨e,f⟩:=iw d R ty;exact⟨T,_,p,S,c,e,f,Jc rfl (PySem.evalArgs_none (g _ _ _ _ x _ v _ Q d R .nil q))⟩
theorem oS(P:PlainAttrs T)(S:Slot T name id)(f:typeOf (.builtin id)=pure (.type "method_descriptor"))(n:kH X id r)(p:PE X o to)(m:PA X (e::es) t)
  (a:attributeBase o name X.env (eval o X.env)=eval o X.env:=by rfl)
  (c:((backTo cpos (starEach (e::es) X.env)).all (λx=> !x.1)&&(backToKw cpos (keywordEach [] X.env)).all (λx=>x.1.isSome)
   &&decide ((e::es).length+([]:List KU).length+(if([]:List KU).isEmpty then 0 else 1)<30))=HX:=by rfl)
  (b:(apos.endLine==cpos.line)=HX:=by rfl) (hs:starEach (e::es) X.env=(HY,eval e X.env)::starEach es X.env:=by rfl) (d:(backTo cpos (starEach es X.env)).any (·.1)=HY:=by rfl):
  PE X (.Call (.Attribute o name apos) (e::es) [] cpos) (G' X.K T r to t):=by
 intro y s B H Q I h;refine JV a c b rfl (aK (p _ s _ H _ I h) λv z ⟨x,_,g,R,ty,q⟩=>?_);obtain⟨k,l⟩:=iw g R ty;refine⟨T,_,P,S,f,k,l,?_⟩;have i:=m cpos _ _ _ _ _ g q;rw[hs]at i⊢;exact Jc (by assumption) (Jq (aK i λU A ⟨_,_,j,w,u⟩=>n _ _ _ _ x _ v _ Q j R w u))
end
def HH(X:Cx)(id:String)(r:V->List V->Hp->VK->Prop):Prop:=
 ∀(pq:Lp) (s:HZ) (σ:St) (H:Hp) (x:V) (xs:List V) (v:H8) (us:Lv) (Q:VK),Inv X pq σ H s->RelV x v->Vals xs us->r x xs H Q->
  wpAny (model X.prog X.w) X.A (call (.builtin id) (v::us)) (EP X pq σ Q) X.xe s
theorem Vals.un{x:V}{xs:List V}(h:Vals (x::xs) us):∃u r,us=u::r/\RelV x u/\Vals xs r:=by
 cases h with
 |cons r t=>lia
theorem Vals.nul(h:Vals [] us):us=[]:=by cases h;rfl
theorem Vals.one{x:V}(h:Vals [x] us):∃u,us=[u]/\RelV x u:=by obtain⟨u,r,rfl,a,H⟩:=h.un;cases H.nul;lia
theorem Vals.two{x y:V}(h:Vals [x,y] us):∃u v,us=[u,v]/\RelV x u/\RelV y v:=by obtain⟨u,r,rfl,a,H⟩:=h.un;obtain⟨v,rfl,b⟩:=H.one;lia
theorem Vals.zero:∀{us:Lv},Vals [] us->us=[]
 |_,.nil=>rfl
theorem Vals.reverse{xs:List V}(h:Vals xs us):Vals xs.reverse us.reverse:=by
 induction h with
 |nil=>exact .nil
 |cons r t i=>rw[Kf,Kf];exact Vals.append i (.cons r .nil)
theorem Vals.rep{xs:List V}(h:Vals xs us):∀k:Nat,Vals (Ic k xs).flatten (Ic k us).flatten
 |0=>.nil
 |k+1=>by exact Vals.append h (Vals.rep h k)
theorem vq(i:Lv):∀(k:Nat) (acc:Lv),
  List.foldl (λx1 x2=>x1++x2) acc.toArray (Ic k i.toArray)=(acc++(Ic k i).flatten).toArray
 |0,acc=>by simp
 |k+1,acc=>by
  have e:acc.toArray++i.toArray=(acc++i).toArray:=by simp
  have E:acc++i++(Ic k i).flatten=acc++(Ic (k+1) i).flatten:=by grind
  rw[<-E,<-vq _ k _,<-e,KY,List.foldl_cons]
section
variable {X:Cx}{σ:St}{H:Hp}{l b:H7}{xs ys zs:List V}
theorem Inv.lset{a i:Lv}{n:Nat}{f:Av->Av}{t':Nat}(I:Inv X pq σ H s)(b:H l=some (.lst xs))
  (e:s.heap.get? l=some {cls:=.type "list",data:=.seq a.toArray n}) (d:f a.toArray=i.toArray) (j:Vals ys i) (k:ys.length<=sizeLine):
  Inv X pq σ (aT H l (.lst ys)) {s with heap:=s.heap.update l (ID f),toks:=t'}:=by
 have q:=PySem.IsL.update e f;rw[d]at q;refine I.write (by rw[b];exact trivial) (.inl rfl) (λB u c g=>(JF _ _ (Ne.symm c)).trans g) ⟨_,q⟩ ?_;exact⟨k,_,_,j,q⟩
theorem Inv.lnew{t':Nat}(I:Inv X pq σ H s)(a:Vals ys its)(b:ys.length<=sizeLine):
  Inv X pq σ (aT H s.heap.objs.size (.lst ys)) {s with heap:=s.heap.push {cls:=.type "list",data:=.seq its.toArray},toks:=t'}:=
 I.laid (λ_ _ q=>Zb _ q) (Zf _) ⟨b,_,0,a,Zg _ rfl⟩
theorem Inv.fresh(I:Inv X pq σ H s):H s.heap.objs.size=none:=I.hok.fresh (Zf _)
theorem Inv.lstM(I:Inv X pq σ H s)(h:H l=some (.lst xs)):xs.length<=sizeLine/\∃(its:Lv) (n:Nat),Vals xs its/\xs.length=its.length/\s.heap.get? l=some {cls:=.type "list",data:=.seq its.toArray n}:=by obtain⟨z,its,n,r,e⟩:=I.hok l _ h;exact⟨z,_,n,r,r.length,e⟩
theorem Ch(h:n<=sizeLine):K_ n=HY:=by exact Zx (by omega)
end
section
variable {X:Cx}
def kJ:V->List V->Hp->VK->Prop:=λx vs H Q=>∃l xs y,x=.ref l/\vs=[y]/\H l=some (.lst xs)/\xs.length<sizeLine/\Q .non (aT H l (.lst (xs++[y])))
theorem vr:HH X "list.append" kJ:=by intro p s j H x vs v U Q I c b h;obtain⟨l,g,y,rfl,rfl,a,f,q⟩:=h;cases c;obtain⟨u,rfl,R⟩:=b.one;obtain⟨z,i,n,r,d,e⟩:=I.lstM a;refine JL F.slot_list_append ⟨_,e,rfl⟩ F.entry_list_append (F.args_list_append_2 _ _) (PySem.list_append l _ n u (by simp_all)) ⟨e,?_⟩;refine⟨.non,_,I.lset a e (by simp) (r.append (.cons R .nil)) ?_,rfl,q⟩;rw[Zr,Jj];omega
noncomputable def Ci:R2:=λx y H Q=>∃l b xs zs,x=.ref l/\y=.ref b/\H l=some (.lst xs)/\H b=some (.lst zs)/\xs.length+zs.length<=sizeLine/\∀p,H p=none->Q (.ref p) (aT H p (.lst (xs++zs)))
theorem qg:bZ X (binaryOp .Add) Ci:=by
 intro p s A H x y v u Q I j k h;obtain⟨l,b,t,w,rfl,rfl,f,d,o,q⟩:=h;subst j;subst k;obtain⟨z,a,n,r,m,e⟩:=I.lstM f;obtain⟨Z,i,N,R,g,E⟩:=I.lstM d;refine PySem.P.add_list e E ?_ (by simp_all);have c:a.toArray++i.toArray=(a++i).toArray:=by simp
 rw[c];exact⟨.ref _,_,I.lnew (r.append R) (by simp_all),rfl,q _ I.fresh⟩
noncomputable def Cj:R2:=λx y H Q=>∃l k xs,x=.ref l/\y=.int k/\H l=some (.lst xs)/\ -(2^63)<=k/\k<2^63/\xs.length*k.toNat<=sizeLine/\
 ∀p,H p=none->Q (.ref p) (aT H p (.lst (Ic k.toNat xs).flatten))
theorem kK(xs:List α)(k:Nat):(Ic k xs).flatten.length=k*xs.length:=by simp_all
theorem qh:bZ X (binaryOp .Mult) Cj:=by
 intro P s J H x y v u Q I R A h;obtain⟨l,k,G,rfl,rfl,p,j,o,w,q⟩:=h;cases R;obtain⟨t,rfl⟩:=A;obtain⟨z,i,n,r,D,e⟩:=I.lstM p;have f:i.toArray.size*k.toNat<=sizeLine:=by simp_all
 have c:¬i.toArray.size*k.toNat>(2^63-1)/8:=by
  have:(sizeLine)<=(2^63-1)/8:=by decide
  omega
 have d:¬(!Builtin.List.listFitsIndex k)=HX:=by rw[fitsIndex_both j o];simp_all
 have b:¬K_ (i.toArray.size*k.toNat)=HX:=by rw[Ch f];simp_all
 have g:List.foldl (λB C=>B++C) #[] (Ic (if i.toArray.isEmpty=HX then 0 else k.toNat) i.toArray)=(Ic k.toNat i).flatten.toArray:=by
  have f0:=λm=>by have:=vq i m [];omega
  cases i with
  |nil=>simp
  |cons a E=>simp_all
 refine wpAny_binaryOp_repeat_ref (by lia) ⟨_,e,rfl⟩ (λS=>typeIs_int _ k t) noFill_list_mul F.fills_int_mul F.slot_int_rmul repeat_list F.slot_int_index.lookup
  (JL F.slot_int_rmul (typeIs_int s k t) F.entry_int_rmul (F.args_int_rmul_2 _ _) (int___rmul___int_list k t l _ n)
   ⟨e,rfl,⟨_,e,rfl⟩,JL F.slot_list_mul ⟨_,e,rfl⟩ F.entry_list_mul (F.args_list_mul_2 _ _) (AutoListH.list___mul___list_int_3 l _ n k t d c b) ⟨e,?_⟩⟩)
 rw[g];exact⟨.ref _,_,I.lnew (r.rep _) (by rw[kK,Nat.mul_comm];exact w),rfl,q _ I.fresh⟩
end
set_option maxRecDepth 100000 in
section
variable {X:Cx}
end
end L2
namespace Att
open PySem PySem.W PySem.Calls PyProof.Rows
theorem Ck{P:Params}:∀(ns:Li) (vs:Lv),WellAll P h vs (ns.map WData.int)->L' vs ns:=by
 intro ns
 induction ns with
 |nil=>intro vs w;cases w;exact .nil
 |cons n ns i=>
  intro vs w;cases w with
  |cons a b=>cases a;exact .cons _ _ (i _ b)
theorem Cm{l:OpenLaw}(k:l.most=some n){P:Params}{A:List WData}{v:Lv}
  (H:l.row.toRowW.claim.pre A=HX) (f:WellAll P h v A):
  ∃a vs ns,v=[I9 a]/\A=[WData.list (ns.map WData.int)]/\h.get? a=some {cls:=.type "list",data:=.seq vs.toArray}/\L' vs ns/\ns.length<=n:=by
 obtain⟨d,r,rfl,g,i⟩:=hasAllW_cons (pre_splitW H).1;obtain rfl:=hasAllW_nil i;obtain⟨x,rfl,j⟩:=hasW_list g;obtain⟨ns,rfl⟩:=items_int j
 have c:ns.length<=n:=by
  have e:=by have e:=(holds_andW (pre_splitW H).2).1;rw[k]at e;exact e
  have o:=condW_of e (w_not (w_lt w_lit (w_len_list (w_arg rfl))));simp_all
 cases f with
 |cons w W=>
  cases W;cases w with
  |list m b=>exact⟨_,_,_,rfl,rfl,m,Ck _ _ b,c⟩
theorem Cn(l:OpenLaw)(a:List WData):l.row.toRowW.claim.post a (.bool HX) a=HX:=
 postW_of
  (show WShape.has _ _ _=HX by rfl)
  (show(WTm.eq _ _).value _ _=some _ from w_eq_bool (w_res rfl) w_lit) rfl
theorem Co{l:OpenLaw}{q:Ia}{d:DefRec}
  (C:l.most=some n) (g:d.params.defaults=[])
  (call:∀(w:Io) (S s:HZ) (mg m:Mg) (fa:H7) (o:Obj) (pm cd doc:H8) (a:H7) (vs:Lv) (ns:Li),
   Ground q loose [] XP w S mg m s.heap->YP w s.heap->
   s.heap.get? fa=some o->o.data=.func (docDef d.name d.params d.body d.scope pm cd doc)->s.heap.CodeRec cd d.name->mg d.name=some (.ref fa)->
   s.heap.get? a=some {cls:=.type "list",data:=.seq vs.toArray}->L' vs ns->ns.length<=n->s.gens= #[]->
   codeAny (model l.prog w) callerA (.call (.ref fa) ⟨[.ref a],[]⟩) (λr s'=>r=.ok (.ret (.bool HX))/\OldK s.heap s'.heap/\s'.os=s.os/\Kv s'.gens) s):
  WalkO q loose XP YP l.row.toRowW d [] (λf vs=>PySem.call f vs):=by
 intro w S s mg m G Y fa o pm cd doc D kV E x e hD i y A v as c k I j z;obtain rfl:D=.none:=Dflts.none hD g;obtain rfl:kV=.none:=Dflts.noKw hD;obtain⟨a,vs,ns,rfl,rfl,b,h,H⟩:=Cm C c j;refine enter_call (JU (call w _ _ _ _ _ o _ _ _ a _ _ G Y E (fd_plain x) e i b h H y) λr s' F=>?_);obtain⟨rfl,p,t,u⟩:=F;exact⟨.inl ⟨_,_,_,rfl,λ_=>rfl,.bool _,Cn l _,λ_=>⟨List.Pairwise.nil,λ_ B=>nomatch B⟩⟩,p,t,u⟩
section
variable {K:Frag}
end
end Att
namespace L2
theorem vt:∀{vs:Lv} {ns:Li},L' vs ns->Vals (ns.map V.int) vs
 |_,_,.nil=>.nil
 |_,_,.cons n t h=>.cons ⟨t,rfl⟩ (vt h)
def kL(H:Hp):Prop:=∀b,H b=none\/∃o xs,H b=some (.frz o (.lst xs))
theorem Cp{P:Ia}{w:Io}{O:Mg}{CX:cR}{k:Nat}{D:H7}{T:IP}{x:Str}{sp:Sp}{S:HZ}{vs:Lv}{C:Li}
  (KX:K.In S.heap) (p:S.heap.Ns mainGlobals mg) (f:S.heap.Ns builtinsNs O) (J:∀x:Str,x≠"__name__"->O x=bootBuiltins x) (l:S.heap.NoLimit) (hg:S.gens= #[])
  (I:S.heap.get? a=some {cls:=.type "list",data:=.seq vs.toArray}) (W:L' vs C) (hl:C.length<=sizeLine) (hr:cf k callerA)
  (F:∀base:Ig,K.In base->base.Ns mainGlobals mg->cz P w K mg base CX k D T [x] sp) (g:∀(s:HZ) (u:H8),L_ s T ⟨[u],[]⟩ [(x,u)])
  (M:∀H:Hp,kL H->cP K H a (C.map V.int)->sp [.ref a] H (λv _=>v=.bl HX) λ_ _ _=>False)
  (G:∀H e s',CX [] H S (λ_ _ _=>False) e s'->False):
  codeAny (model P w) callerA (.call (.ref D) ⟨[.ref a],[]⟩) (λr s'=>r=.ok (.ret (.bool HX))/\OldK S.heap s'.heap/\s'.os=S.os/\Kv s'.gens) S:=by
 have rv:=vt W
 have c:∀H:Hp,kL H->cP K H a (C.map V.int)->dt P w H S.heap->(∀b,H b≠none->b=a)->(H a≠none->K.lookup a=none)->
   codeAny (model P w) callerA (.call (.ref D) ⟨[.ref a],[]⟩) (λr s'=>r=.ok (.ret (.bool HX))/\OldK S.heap s'.heap/\s'.os=S.os/\Kv s'.gens) S:=by
  intro H U hS t hA hK;have B:∀{b:H7} {o:Obj},S.heap.get? b=some o->H b=none->(e7 S.heap H).get? b=some o:=λe n=>Bo e n;have Q:∀{b:H7} {o:Obj} {A:Array DictEntry} {E:Nat},S.heap.get? b=some o->o.data=.dict A E->H b=none:=λ{b o A E} e d=>by grind
  have N:∀{b:H7} {m:Mg},S.heap.Ns b m->(e7 S.heap H).Ns b m:=λ{b m} ⟨o,A,E,e,d,r⟩=>⟨o,A,E,B e (Q e d),d,r⟩;have j:K.In (e7 S.heap H):=λb o e=>B (KX b o e) (by grind);have hM:Mod K mg (e7 S.heap H):=⟨j,N p,⟨O,N f,J⟩,let⟨mc,Z,h2⟩:=l;⟨mc,N Z,h2⟩⟩;refine JU ((F _ j (N p)).run callerA [] S H ⟨[.ref a],[]⟩ [.ref a] [.ref a] _ _ hr ⟨rfl,hM,λb o e=>j4 e,Nat.le_of_eq (Bn _ _),trivial,λb f=>absurd (show b∈([]:La)from f) (by simp),t,.of_eq hg⟩ (g S (.ref a)) (.cons rfl .nil) (M H U hS)) λr s' h=>?_;cases r with
  |error e=>exact(G H e s' h).elim
  |ok Y=>
   cases Y with
   |next=>exact False.elim h
   |brk=>exact False.elim h
   |cont=>exact False.elim h
   |ret u=>
    obtain⟨v,H',os,i,un,y,r',q⟩:=h;subst(q);obtain rfl:u=JP HX:=r';refine⟨rfl,OldK.of_keep λb o e=>?_,os,i⟩;cases q:H b with
    |none=>exact un.keep b o e q (by intro z;exact absurd (show b∈([]:La)from z) (by simp)) (by simp)
    |some u=>
     rcases U b with z| ⟨ob,xs,z⟩
     ·rw[q]at z;cases z
     ·obtain⟨R,_⟩:=t b _ z;obtain⟨X,_⟩:=y b _ (un.frzs b ob _ z);rw[e]at R;cases R;exact X
 cases L:K.lookup a with
 |some o=>have e:=KX a o L;rw[I]at e;cases e;refine c (λ_=>none) (λ_=>.inl rfl) (.inr ⟨_,vs.toArray,_,L,rfl,rfl,rfl,by rw[Zs,W.length];exact hl,by grind⟩) (λb u z=>by grind) (λb z=>absurd rfl z) λz=>absurd rfl z
 |none=>
  refine c (λb=>if b=a then some _ else none) (λb=>?_) (.inl (.inr ⟨{cls:=.type "list",data:=.seq vs.toArray},if_pos rfl⟩)) (λb u z=>?_) (λb z=>?_) λ_=>L
  ·grind
  ·by_cases f:b=a
   ·cases(if_pos f).symm.trans z;subst f;exact⟨I,by grind,vs,_,rv,I⟩
   ·cases(if_neg f).symm.trans z
  simp_all
theorem kM{l:PySem.W.OpenLaw}{q:Ia}{d:DefRec}{K:Params->Fg}{CX:Io->cR}{sp:Io->Sp}{x:Str}
  (J:l.most=some n) (p:n<=sizeLine) (j:d.params.defaults=[]) (L:cf k callerA)
  (B:∀(w:Io) (h:Ig),YP w h->(K w.params).In h)
  (F:∀(w:Io) (mg:Mg) (fa:H7) (h:Ig),(K w.params).In h->h.Ns mainGlobals mg->mg d.name=some (.ref fa)->
   ∃fd:IP,(∀(s:HZ) (u:H8),L_ s fd ⟨[u],[]⟩ [(x,u)])/\
    ∀base:Ig,(K w.params).In base->base.Ns mainGlobals mg->cz l.prog w (K w.params) mg base (CX w) k fa fd [x] (sp w))
  (r:∀(w:Io) (H:Hp) (a:H7) (ns:Li),ns.length<=n->kL H->cP (K w.params) H a (ns.map V.int)->sp w [.ref a] H (λv _=>v=.bl HX) λ_ _ _=>False)
  (i:∀(w:Io) (H:Hp) (s:HZ) (e:H8) (s':HZ),CX w [] H s (λ_ _ _=>False) e s'->False):
  PySem.W.WalkO q loose XP YP l.row.toRowW d [] (λf vs=>PySem.call f vs):=by
 refine Att.Co J j λw S t mg P fa o Q M D a vs ns G Y O N E m g c b I=>?_;have KX:=B w _ Y;obtain⟨fd,C,y⟩:=F w _ _ _ KX G.T.g m;exact Cp KX G.T.g G.T.b G.T.builtins G.T.nolimit I g c (Zv b p) L y C (λH z A=>r w H a _ b z A) λH e s'=>i w H _ e _
noncomputable def fL(s:JE):Arguments:=match s with
 | .FunctionDef _ a _ _ _ _ _ _ _ _=>a
 |_=>{posonlyargs:=[],args:=[],vararg:=none,kwonlyargs:=[],kw_defaults:=[],kwarg:=none,defaults:=[]}
noncomputable def bF(s:JE):List JE:=match s with
 | .FunctionDef _ _ b _ _ _ _ _ _ _=>b
 |_=>[]
noncomputable def a9(s:JE):Scope:=match s with
 | .FunctionDef _ _ _ _ _ _ sc _ _ _=>sc
 |_=>{kind:=.function,names:=[],isGenerator:=HY,isCoroutine:=HY}
abbrev Cq:cR:=λ_ _ _ _ _ _=>False
abbrev E0:XK:=λ_ _ _=>False
structure kN (K:Fg)(x qual:Str)(st:JE)(f:H7)(fd:IP):Prop where
 ex:∃(oc:H8) (od:Option H7) (kV doc pm:H8) (an:Option H7) (cdv ct:H8) (osl:Array (Ov)),
  fd=PySem.W.fnOf x qual (fL st) (bF st) (a9 st) .none kV doc pm an cdv ct/\K.lookup f=some ⟨oc,od,.func fd,osl⟩/\PySem.W.codeIn K cdv qual=HX
 kp:PySem.W.keepIn K (.ref f)=HX
section
variable {P:Ia}
theorem kN.binds{x:Str}{a:IP}(F:kN K x qual st f a)
  (h:∀(kV doc pm:H8) (an:Option H7) (cdv ct:H8) (us:Lv),us.length=ps.length->bindArgs (PySem.W.fnOf x qual (fL st) (bF st) (a9 st) .none kV doc pm an cdv ct) ⟨us,[]⟩=pure (ps.zip us)):Binds K a ps []:=by
 obtain⟨O,b,kV,doc,pm,an,cdv,ct,o,rfl,lk,H⟩:=F.ex;exact .all (h _ _ _ _ _ _)
theorem qi{x:Str}{an:Option H7}{kV:H8}(l:K.lookup f=some ⟨oc,od,.func (PySem.W.fnOf x qual (fL st) (bF st) (a9 st) .none kV doc pm an cdv ct),osl⟩)
  (c:PySem.W.codeIn K cdv qual=HX) (k:PySem.W.keepIn K (.ref f)=HX):kN K x qual st f (PySem.W.fnOf x qual (fL st) (bF st) (a9 st) .none kV doc pm an cdv ct):=⟨⟨_,_,_,_,_,_,_,_,_,rfl,l,c⟩,k⟩
end
section
variable {X:Cx}
end
end L2
variable {H H' H1 H0 Hx:L2.Hp}{X:L2.Cx}{σ σ':L2.St}{v:L2.V}{ta te tc to:L2.TE}{tb:L2.St->L2.Hp->(L2.St->L2.Hp->Prop)->Prop}{g:L2.TG}{R:L2.It->L2.Hp->Prop}{wi:L2.TI}{r:L2.V->List L2.V->L2.Hp->L2.VK->Prop}{CX:L2.cR}{sp:L2.Sp}{J:L2.It}{u':L2.HO}{B:La->L2.Hp->Prop}
namespace Py
theorem az{C:Prop}{a b c d:Sort _}{p q r:a->b->c->d->Prop}(h:∃x y z w,p x y z w/\q x y z w/\r x y z w)(k:∀x y z w,p x y z w->q x y z w->r x y z w->C):C:=by
 grind
theorem qj{C:Prop}{a b c d e f g h i:Sort _}{p q r:a->b->c->d->e->f->g->h->i->Prop}(z:∃x1 x2 x3 x4 x5 x6 x x8 x9,p x1 x2 x3 x4 x5 x6 x x8 x9/\q x1 x2 x3 x4 x5 x6 x x8 x9/\r x1 x2 x3 x4 x5 x6 x x8 x9)(k:∀x1 x2 x3 x4 x5 x6 x x8 x9,p x1 x2 x3 x4 x5 x6 x x8 x9->q x1 x2 x3 x4 x5 x6 x x8 x9->r x1 x2 x3 x4 x5 x6 x x8 x9->C):C:=by grind
theorem aq{C:Prop}{a b c:Sort _}{p q r t:a->b->c->Prop}(h:∃x y z,p x y z/\q x y z/\r x y z/\t x y z)(k:∀x y z,p x y z->q x y z->r x y z->t x y z->C):C:=by
 grind
inductive D where
 |non|bl (b:Bool)|int (i:Int)|str (x:Str)
 |tup (xs:List D)|lst (xs:List D)|ref (n:Nat)|scr (xs:List D)
 |fn (x:Str)|dct|ty (n:String)|dks (ks:List (Li))
 deriving Inhabited
abbrev ae:=List (List D)
set_option genInjectivity false in
structure GS where
 mg:Mg
 F:La
noncomputable def qk(K:Fg)(H:Hp)(a:H7)(vs:List V):Prop:=(∃o,H a=some (.frz o (.lst vs)))\/
 ∃(o:Obj) (its:Av) (n:Nat),K.lookup a=some o/\o.cls=.type "list"/\o.dict=none/\o.data=.seq its n/\its.size<=sizeLine/\Vals vs its.toList
theorem qk.sq{vs:List V}(h:qk K H a vs):cP K H a vs:=by
 rcases h with⟨o,h⟩|h
 ·exact .inl (.inr ⟨o,h⟩)
 ·exact .inr h
noncomputable def hD(k:Li):Int:=reduceHash (Builtin.Tuple.tupleHashOf (k.map hashInt))
noncomputable def HI(h:Ig)(a:H7)(cs:List (Li×H7)):Prop:=(a==sysModules)=HY/\∃o es ep,h.get? a=some o/\o.ExactDict/\o.data=.dict es ep/\es.toList=cs.map λc=>⟨hD c.1,.ref c.2,.bool HX⟩
section
variable (K:Fg)(mg:GS)(μ:La)(H:Hp)
mutual
def Rep:D->V->Prop
 | .non,v=>v=.non
 | .bl b,v=>v=.bl b
 | .int i,v=>v=.int i
 | .str x,v=>v=.str x
 | .tup ds,v=>∃a vs,v=.ref a/\bQ K H a vs/\ag ds vs
 | .lst ds,v=>∃a vs,v=.ref a/\H a=some (.lst vs)/\(a∉μ/\a∉mg.F)/\ag ds vs
 | .scr ds,v=>∃a vs,v=.ref a/\qk K H a vs/\ag ds vs
 | .ref n,v=>∃a,v=.ref a/\μ[n]?=some a
 | .fn x,v=>∃a,v=.ref a/\mg.mg x=some (.ref a)
 | .dct,v=>∃a,v=.ref a/\H a=some (.dK [])
 | .ty n,v=>v=.ty n
 | .dks ks,v=>∃a cs,v=.ref a/\H a=some (.ext λh=>HI h a cs)/\a∉mg.F/\(cs.map (·.1)=ks/\ks.Nodup)/\∀c∈cs,bQ K H c.2 (c.1.map V.int)
def ag:List D->List V->Prop
 | [],vs=>vs=[]
 |d::ds,vs=>∃w W,vs=w::W/\Rep d w/\ag ds W
end
end
structure aC (K:Fg)(mg:GS)(μ:La)(S:ae)(H:Hp):Prop where
 live:∀a∈mg.F,∃o,H a=some o
 len:μ.length=S.length
 nd:μ.Nodup
 at_:∀(n:Nat) (a:H7) (ds:List D),μ[n]?=some a->S[n]?=some ds->∃vs,H a=some (.lst vs)/\ag K mg μ H ds vs
structure Ext (μ:La)(H:Hp)(μ':La)(H':Hp):Prop where
 pre:∃r,μ'=μ++r
 keep:∀a o,H a=some o->((∀xs,o≠.lst xs)\/a∉μ)->H' a=some o
 there:∀a o,H a=some o->∃o',H' a=some o'
 fresh:∀a∈μ',a∈μ\/H a=none
section
variable {mg:GS}{μ'':La}{H'':Hp}
theorem Ext.refl:Ext μ H μ H:=⟨⟨[],by simp⟩,λ_ _ h _=>h,λ_ o h=>⟨o,h⟩,λ_ h=>.inl h⟩
theorem Ext.trans(a:Ext μ H μ' H')(b:Ext μ' H' μ'' H''):Ext μ H μ'' H'':=by
 obtain⟨r,e⟩:=a.pre;obtain⟨R,E⟩:=b.pre;refine⟨⟨r++R,by simp_all⟩,λx o h c=>?_,λx o h=>?_,λx h=>?_⟩
 ·refine b.keep x o (a.keep x o h c) ?_;rcases c with c|c
  ·exact .inl c
  ·refine .inr λz=>?_;rcases a.fresh x z with z|z
   ·exact c z
   simp_all
 ·obtain⟨O,d⟩:=a.there x o h;exact b.there x _ d
 ·rcases b.fresh x h with h|h
  ·exact a.fresh x h
  ·refine .inr ?_;cases e:H x with
   |none=>rfl
   |some o=>obtain⟨O,d⟩:=a.there x o e;simp_all
theorem Ext.sqT{vs:List V}(x:Ext μ H μ' H')(h:bQ K H a vs):bQ K H' a vs:=by
 rcases h with(h| ⟨o,h⟩)|h
 ·exact .inl (.inl (x.keep _ _ h (.inl λ_ z=>by lia)))
 ·exact .inl (.inr ⟨o,x.keep _ _ h (.inl λ_ z=>by lia)⟩)
 ·exact .inr h
theorem Ext.frz{vs:List V}(x:Ext μ H μ' H')(h:qk K H a vs):qk K H' a vs:=by
 rcases h with⟨o,h⟩|h
 ·exact .inl ⟨o,x.keep _ _ h (.inl λ_ z=>by lia)⟩
 ·exact .inr h
theorem Ext.lst{vs:List V}(x:Ext μ H μ' H')(h:H a=some (.lst vs))(b:a∉μ):H' a=some (.lst vs)/\a∉μ':=by
 refine⟨x.keep _ _ h (.inr b),λz=>?_⟩;rcases x.fresh a z with z|z
 ·exact b z
 simp_all
theorem Ext.get(x:Ext μ H μ' H')(h:μ[n]?=some a):μ'[n]?=some a:=by
 obtain⟨r,rfl⟩:=x.pre
 grind
mutual
theorem Rep.mono(x:Ext μ H μ' H'):∀(d:D) (v:V),Rep K mg μ H d v->Rep K mg μ' H' d v
 | .non,_,h=>h
 | .bl _,_,h=>h
 | .int _,_,h=>h
 | .str _,_,h=>h
 | .tup _,v,h=>by obtain⟨a,vs,e,q,r⟩:=h;exact⟨a,_,e,x.sqT q,ag.mono x _ _ r⟩
 | .lst _,v,h=>by obtain⟨a,vs,e,q,n,r⟩:=h;exact⟨a,_,e,(x.lst q n.1).1,⟨(x.lst q n.1).2,n.2⟩,ag.mono x _ _ r⟩
 | .scr _,v,h=>by obtain⟨a,vs,e,q,r⟩:=h;exact⟨a,_,e,x.frz q,ag.mono x _ _ r⟩
 | .ref n,v,h=>by obtain⟨a,e,q⟩:=h;exact⟨a,e,x.get q⟩
 | .fn y,v,h=>h
 | .ty y,v,h=>h
 | .dct,v,h=>by obtain⟨a,e,q⟩:=h;exact⟨a,e,x.keep _ _ q (.inl λ_ z=>by trivial)⟩
 | .dks _,v,h=>by obtain⟨a,C,e,q,n,r,k⟩:=h;exact⟨a,_,e,x.keep _ _ q (.inl λ_ z=>by trivial),n,r,λc b=>x.sqT (k c b)⟩
theorem ag.mono(x:Ext μ H μ' H'):∀(ds:List D) (vs:List V),ag K mg μ H ds vs->ag K mg μ' H' ds vs
 | [],vs,h=>h
 |d::ds,vs,h=>by obtain⟨w,W,e,r,q⟩:=h;exact⟨w,_,e,Rep.mono x d w r,ag.mono x _ _ q⟩
end
theorem ag.length:∀{ds:List D} {vs:List V},ag K mg μ H ds vs->ds.length=vs.length
 | [],vs,h=>by subst h;rfl
 |d::ds,vs,h=>by obtain⟨w,W,rfl,r,q⟩:=h;simp[ag.length q]
theorem ag.get:∀{ds:List D} {vs:List V} {i:Nat} {d:D},ag K mg μ H ds vs->ds[i]?=some d->∃v,vs[i]?=some v/\Rep K mg μ H d v
 | [],vs,i,d,h,e=>by simp at e
 |c::ds,vs,i,d,h,e=>by
  unfold ag at h;obtain⟨w,W,rfl,r,q⟩:=h;cases i with
  |zero=>simp at e;subst e;exact⟨w,rfl,r⟩
  |succ i=>simpa using ag.get q (by simpa using e)
theorem ag.of:∀{ds:List D} {vs:List V},ds.length=vs.length->(∀(i:Nat) d v,ds[i]?=some d->vs[i]?=some v->Rep K mg μ H d v)->ag K mg μ H ds vs
 | [],[],_,_=>rfl
 | [],_::_,h,_=>by trivial
 |_::_,[],h,_=>by trivial
 |d::ds,v::vs,h,k=>by exact⟨v,_,rfl,k 0 d v rfl rfl,ag.of (by simp_all) λi a e b c=>k (i+1) _ _ (by trivial) (by trivial)⟩
theorem ag.nil:ag K mg μ H [] []:=rfl
theorem ag.cons{d:D}{ds:List D}{vs:List V}(h:Rep K mg μ H d v)(t:ag K mg μ H ds vs):ag K mg μ H (d::ds) (v::vs):=by dsimp only[ag];lia
theorem ag.uncons{d:D}{ds:List D}{vs:List V}(h:ag K mg μ H (d::ds) vs):∃v ws,vs=v::ws/\Rep K mg μ H d v/\ag K mg μ H ds ws:=by exact h
theorem ag.append:∀{ds es:List D} {vs ws:List V},ag K mg μ H ds vs->ag K mg μ H es ws->ag K mg μ H (ds++es) (vs++ws)
 | [],es,vs,ws,h,k=>by subst h;exact k
 |d::ds,es,vs,ws,h,k=>by obtain⟨v,u,rfl,r,q⟩:=h.uncons;exact .cons r (ag.append q k)
theorem ag.take:∀{ds:List D} {vs:List V} (n:Nat),ag K mg μ H ds vs->ag K mg μ H (ds.take n) (vs.take n)
 | [],vs,n,h=>by subst h;simpa using ag.nil
 |d::ds,vs,0,h=>rfl
 |d::ds,vs,n+1,h=>by obtain⟨v,u,rfl,r,q⟩:=h.uncons;exact .cons r (ag.take n q)
theorem ag.drop:∀{ds:List D} {vs:List V} (n:Nat),ag K mg μ H ds vs->ag K mg μ H (ds.drop n) (vs.drop n)
 | [],vs,n,h=>by subst h;simpa using ag.nil
 |d::ds,vs,0,h=>h
 |d::ds,vs,n+1,h=>by obtain⟨v,u,rfl,r,q⟩:=h.uncons;exact ag.drop n q
theorem ag.reverse:∀{ds:List D} {vs:List V},ag K mg μ H ds vs->ag K mg μ H ds.reverse vs.reverse
 | [],vs,h=>by subst h;rfl
 |d::ds,vs,h=>by obtain⟨v,u,rfl,r,q⟩:=h.uncons;rw[Kf,Kf];exact ag.append (ag.reverse q) (.cons r .nil)
theorem ag.set:∀{ds:List D} {vs:List V} (i:Nat) {d:D} {v:V},ag K mg μ H ds vs->Rep K mg μ H d v->ag K mg μ H (ds.set i d) (vs.set i v)
 | [],vs,i,_,_,h,_=>by subst h;rfl
 |d::ds,vs,0,_,_,h,k=>by obtain⟨v,u,rfl,r,q⟩:=h.uncons;exact .cons k q
 |d::ds,vs,i+1,_,_,h,k=>by obtain⟨v,u,rfl,r,q⟩:=h.uncons;exact .cons r (ag.set i q k)
theorem Ext.laid{p:H7}{o:HO}(b:H p=none):Ext μ H μ (aT H p o):=
 ⟨⟨[],by simp⟩,λa u h _=>by rw[aw (bD h b)];exact h,λa u h=>⟨u,by rw[aw (bD h b)];exact h⟩,λ_ h=>.inl h⟩
theorem aC.notin{S:ae}{p:H7}(s:aC K mg μ S H)(b:H p=none):p∉μ:=λz=>by obtain⟨n,a,e⟩:=ZP.mp z;have E:S[n]?=some (S[n]'(by rw[<-s.len];exact a)):=Zh _;obtain⟨vs,h,_⟩:=s.at_ n p _ (by simp_all) E;simp_all
theorem aC.notF{S:ae}{p:H7}(s:aC K mg μ S H)(a:H p=none):p∉mg.F:=λz=>by obtain⟨o,h⟩:=s.live p z;simp_all
theorem aC.laid{S:ae}{p:H7}{o:HO}(s:aC K mg μ S H)(b:H p=none):aC K mg μ S (aT H p o):=by refine⟨λa h=>(Ext.laid (μ:=μ) b).there a _ (s.live a h).choose_spec,s.len,s.nd,λn a D c d=>?_⟩;obtain⟨vs,h,r⟩:=s.at_ n a _ c d;exact⟨_,by rw[aw (bD h b)];exact h,ag.mono (Ext.laid b) _ _ r⟩
theorem Ext.boxed{p:H7}{o:HO}(b:H p=none):Ext μ H (μ++[p]) (aT H p o):=
 ⟨⟨_,rfl⟩,λa u h _=>by rw[aw (bD h b)];exact h,λa u h=>⟨u,by rw[aw (bD h b)];exact h⟩,λa h=>by
  grind⟩
theorem aC.boxed{S:ae}{p:H7}{ds:List D}{vs:List V}(s:aC K mg μ S H)(c:H p=none)(r:ag K mg μ H ds vs):
  aC K mg (μ++[p]) (S++[ds]) (aT H p (.lst vs)):=by
 have N:=s.notin c;refine⟨λa h=>(Ext.laid (μ:=μ) c).there a _ (s.live a h).choose_spec,by simp[s.len],?_,λn a g d e=>?_⟩
 ·rw[Jl];exact⟨s.nd,by simp,λa i b j=>by grind⟩
 ·by_cases f:n<μ.length
  ·rw[Iz f]at d;rw[Iz (by rw[<-s.len];exact f)]at e;obtain⟨w,h,q⟩:=s.at_ n a _ d e;exact⟨_,by rw[aw (bD h c)];exact h,ag.mono (Ext.boxed c) _ _ q⟩
  ·have E:n=μ.length:=by grind
   subst E;simp[s.len]at d e;subst d;subst e;exact⟨_,bI,ag.mono (Ext.boxed c) _ _ r⟩
theorem Ext.wrote{xs:List V}{ys:List V}(d:a∈μ)(h:H a=some (.lst xs)):Ext μ H μ (aT H a (.lst ys)):=by
 refine⟨⟨[],by simp⟩,λb o e c=>?_,λb o e=>?_,λ_ h=>.inl h⟩
 ·have:b≠a:=by grind
  rw[aw this];exact e
 ·by_cases z:b=a
  ·subst z;exact⟨_,bI⟩
  ·exact⟨o,by rw[aw z];exact e⟩
theorem aC.wrote{S:ae}{ds:List D}{xs vs:List V}(s:aC K mg μ S H)(hn:μ[n]?=some a)(h:H a=some (.lst xs))(r:ag K mg μ H ds vs):
  aC K mg μ (S.set n ds) (aT H a (.lst vs)):=by
 have ha:=Zq hn;have hl:=s.len;refine⟨λb hb=>(Ext.wrote ha h).there b _ (s.live b hb).choose_spec,by simp_all,s.nd,λm b es h1 h2=>?_⟩;by_cases e:m=n
 ·subst e;rw[hn]at h1;cases h1;rw[ZZ (by grind)]at h2;cases h2;exact⟨_,bI,ag.mono (Ext.wrote ha h) _ _ r⟩
 ·rw[IF (Ne.symm e)]at h2;obtain⟨ws,q,r'⟩:=s.at_ m b _ h1 h2;have:b≠a:=by rintro rfl;exact e (L2_nodup s.nd h1 hn)
  exact⟨_,by rw[aw this];exact q,ag.mono (Ext.wrote ha h) _ _ r'⟩
where
 L2_nodup {l:List _} (nd:l.Nodup) {i j:Nat} {x:H7} (a:l[i]?=some x) (b:l[j]?=some x):i=j:=by obtain⟨h1,e1⟩:=Zm.mp a;obtain⟨h2,e2⟩:=Zm.mp b;exact(M1 nd).mp (e1.trans e2.symm)
end
end Py
variable {xs ds:List Py.D}{T S S1 S' S2:Py.ae}{d:Py.D}{z x2 x3 x4 x5:Option Py.D}{Γ:Str->Option Py.D}{O:H7->List Py.D->List L2.V->L2.HO->Prop}
namespace Py
open PySem.Sem (wp)
open PySem.Builtin
end Py
namespace Py
set_option genInjectivity false in
structure Exc where
 cls:Str
 fs:List D
inductive Res (α:Type) where
 |ok (a:α) (S:ae)
 |err (x:Exc) (S:ae)
 |fail
abbrev a':Nat:=16777216
theorem gE:sizeLine=a':=JA
noncomputable def aF(K:Fg)(m:GS)(μ:La)(H:Hp)(Q:VK):Res D->Prop
 | .ok d S'=>∀μ' H' v,Ext μ H μ' H'->aC K m μ' S' H'->Rep K m μ' H' d v->Q v H'
 |_=>False
section
variable {mg:GS}{Q:VK}
theorem aF.now(w:aF K mg μ H Q (.ok d S))(s:aC K mg μ S H)(r:Rep K mg μ H d v):Q v H:=w _ H v .refl s r
theorem aF.tup{vs:List V}(w:aF K mg μ H Q (.ok (.tup ds) S))(s:aC K mg μ S H)(r:ag K mg μ H ds vs)(p:H7)(h:H p=none):Q (.ref p) (aT H p (.tup vs)):=
 w _ _ _ (.laid h) (s.laid h) (by exact⟨p,_,rfl,bQ.of bI,ag.mono (.laid h) _ _ r⟩)
theorem aF.lst{vs:List V}(w:aF K mg μ H Q (.ok (.lst ds) S))(s:aC K mg μ S H)(r:ag K mg μ H ds vs)(p:H7)(h:H p=none):Q (.ref p) (aT H p (.lst vs)):=
 w _ _ _ (.laid h) (s.laid h) (by exact⟨p,_,rfl,bI,⟨s.notin h,s.notF h⟩,ag.mono (.laid h) _ _ r⟩)
theorem aF.box{vs:List V}(w:aF K mg μ H Q (.ok (.ref S.length) (S++[ds])))(s:aC K mg μ S H)(r:ag K mg μ H ds vs)(p:H7)(h:H p=none):Q (.ref p) (aT H p (.lst vs)):=
 w _ _ _ (.boxed h) (s.boxed h r) (by exact⟨p,rfl,by rw[IU (by rw[s.len];simp_all),s.len];simp⟩)
theorem aF.wrote{xs vs:List V}(w:aF K mg μ H Q (.ok d (S.set n ds)))(s:aC K mg μ S H)(b:μ[n]?=some a)(h:H a=some (.lst xs))(r:ag K mg μ H ds vs)
  (R:Rep K mg μ H d v):Q v (aT H a (.lst vs)):=
 w _ _ _ (.wrote (Zq b) h) (s.wrote b h r) (Rep.mono (.wrote (Zq b) h) _ _ R)
noncomputable def dV(S:ae):D->Option (List D)
 | .lst xs=>some xs
 | .ref n=>S[n]?
 |_=>none
noncomputable def aA(S:ae):D->Option (List D)
 | .lst xs=>some xs
 | .ref n=>S[n]?
 | .tup xs=>some xs
 | .scr xs=>some xs
 |_=>none
theorem dh(s:aC K mg μ S H)(r:Rep K mg μ H d v)(e:dV S d=some xs):∃a vs,v=.ref a/\H a=some (.lst vs)/\ag K mg μ H xs vs:=by
 cases d with
 |lst y=>
  cases e;dsimp only[Rep]at r
  grind
 |ref n=>obtain⟨a,E,h⟩:=r;obtain⟨vs,b,q⟩:=s.at_ n a _ h e;simp_all
 |_=>cases e
theorem e9(s:aC K mg μ S H)(r:Rep K mg μ H d v)(e:aA S d=some xs):∃a vs,v=.ref a/\(cP K H a vs\/bQ K H a vs)/\ag K mg μ H xs vs:=by
 cases d with
 |lst y=>obtain⟨a,vs,E,h,q⟩:=dh s r (show dV S (.lst y)=some xs from e);exact⟨a,vs,E,.inl (.of h),q⟩
 |ref n=>obtain⟨a,vs,E,h,q⟩:=dh s r (show dV S (.ref n)=some xs from e);exact⟨a,vs,E,.inl (.of h),q⟩
 |tup y=>cases e;obtain⟨a,vs,e,h,q⟩:=r;exact⟨a,vs,e,.inr h,q⟩
 |scr y=>cases e;obtain⟨a,vs,e,h,q⟩:=r;exact⟨a,vs,e,.inl h.sq,q⟩
 |_=>cases e
theorem ax{i:Int}(r:Rep K mg μ H (.int i) v):v=.int i:=by exact r
theorem e_{i:Bool}(r:Rep K mg μ H (.bl i) v):v=.bl i:=by exact r
theorem bR{i:Str}(r:Rep K mg μ H (.str i) v):v=.str i:=by exact r
theorem fM(r:Rep K mg μ H .non v):v=.non:=by exact r
theorem bz(r:Rep K mg μ H (.tup ds) v):∃a vs,v=.ref a/\bQ K H a vs/\ag K mg μ H ds vs:=by exact r
theorem bA{i:Int}:Rep K mg μ H (.int i) (.int i):=rfl
theorem cg{i:Bool}:Rep K mg μ H (.bl i) (.bl i):=rfl
theorem dj{i:Str}:Rep K mg μ H (.str i) (.str i):=rfl
theorem kO:Rep K mg μ H .non .non:=rfl
end
noncomputable def rD(K:Fg)(m:Mg)(g:D->D->ae->Res D):R2:=λx y H Q=>∃F μ S d e,aC K ⟨m,F⟩ μ S H/\Rep K ⟨m,F⟩ μ H d x/\Rep K ⟨m,F⟩ μ H e y/\aF K ⟨m,F⟩ μ H Q (g d e S)
noncomputable def fN(d e:D)(S:ae):Res D:=match d,e with
 | .int i,.int j=>.ok (.int (i+j)) S
 | .str x,.str y=>if x.length+y.length<=a' then .ok (.str (x++y)) S else .fail
 | .tup a,.tup b=>if a.length+b.length<=a' then .ok (.tup (a++b)) S else .fail
 |d,e=>match dV S d,dV S e with
  |some a,some b=>if a.length+b.length<=a' then .ok (.lst (a++b)) S else .fail
  |_,_=>.fail
noncomputable def ix(d e:D)(S:ae):Res D:=match d,e with
 | .int i,.int j=>.ok (.int (i-j)) S
 |_,_=>.fail
noncomputable def kP(d e:D)(S:ae):Res D:=match d,e with
 | .int i,.int j=>if(-(2^64)<i/\i<2^64)\/(-(2^64)<j/\j<2^64)then .ok (.int (i*j)) S else if JN i<=100000/\JN j<=100000 then .ok (.int (i*j)) S else .fail
 | .lst a,.int k=>if-(2^63)<=k/\k<2^63/\a.length*k.toNat<=a' then .ok (.lst (Ic k.toNat a).flatten) S else .fail
 |_,_=>.fail
theorem Cr:bZ X (binaryOp .FloorDiv) (rI (λ_ j=>0<j/\j<2^100) λi j=>.int (i/j)):=pR λi j _ _ _ _ _ h q=>by
 have a:(0:Int)<j:=h.1;have b:j<2^100:=h.2;refine floordiv_int (by omega) (by rw[Int.fdiv_eq_ediv_of_nonneg i (by omega)];exact q) (.inl (PyProof.noPylong_of_log2 ?_));have H:j.natAbs<2^100:=by omega
 exact Lc ((Nat.log2_lt (by omega)).mpr H) (by decide)
noncomputable def fc(d e:D)(S:ae):Res D:=match d,e with
 | .int i,.int j=>if 0<j/\j<1073741824 then .ok (.int (i/j)) S else if 0<j/\j<2^100 then .ok (.int (i/j)) S else .fail
 |_,_=>.fail
noncomputable def gF(d e:D)(S:ae):Res D:=match d,e with
 | .int i,.int j=>if 0<j then .ok (.int (i%j)) S else .fail
 |_,_=>.fail
noncomputable def ql(d e:D)(S:ae):Res D:=match d,e with
 | .int i,.int j=>if 0<=j/\j<=1000000/\i.natAbs<2^64 then .ok (.int (i^j.toNat)) S else .fail
 |_,_=>.fail
noncomputable def qm(d e:D)(S:ae):Res D:=match d,e with
 | .int i,.int j=>if 0<=j then .ok (.int (i/2^j.toNat)) S else .fail
 |_,_=>.fail
noncomputable def qo(d e:D)(S:ae):Res D:=match d,e with
 | .int i,.int j=>.ok (.int (MR i j)) S
 |_,_=>.fail
noncomputable def Cs(d e:D)(S:ae):Res D:=match d,e with
 | .int i,.int j=>.ok (.int (M3 i j)) S
 |_,_=>.fail
noncomputable def gb:LC->D->D->ae->Res D
 | .Add=>fN| .Sub=>ix| .Mult=>kP| .FloorDiv=>fc| .Mod=>gF| .Pow=>ql| .RShift=>qm| .LShift=>λ_ _ _=>.fail | .BitAnd=>qo| .BitOr=>Cs
 |_=>λ_ _ _=>.fail
theorem Ct{t b:H7}{ws:Lv}(k:LW s.heap t #[])(g:LW s.heap b ws.toArray)
  (h1:Q (.ref b) s):wpAny (model prog w) A (binaryOp .Add (.ref t) (.ref b)) Q E s:=by
 obtain⟨⟨cls,l,D,sl⟩,e,i,n,j⟩:=id k;obtain⟨⟨c,f,d,S⟩,h,H,N,a⟩:=id g;subst i j H a
 exact MS ⟨_,e,rfl⟩ ⟨_,h,rfl⟩ LQ My PySem.F.slot_tuple_add PySem.F.entry_tuple_add (PySem.F.args_tuple_add_2 _ _)
   (tuple_addW0 t b _ _ n _ _ _ _ _ rfl) ⟨e,h,h1⟩
theorem Cu:bZ X (binaryOp .Add) (λx y H Q=>∃a b ys,x=.ref a/\y=.ref b/\bQ X.K H a []/\bQ X.K H b ys/\Q (.ref b) H):=by intro j s l H x y v u Q I R g h;obtain⟨a,b,ys,rfl,rfl,c,d,q⟩:=h;subst R;subst g;obtain⟨f,r,p,_⟩:=I.tuple c;obtain⟨i,k,P,_⟩:=I.tuple d;have e:=r.zero;subst e;exact Ct p P ⟨.ref b,H,I,rfl,q⟩
theorem kQ:bZ X (binaryOp .Mult) (rI (λi j=>JN i<=100000/\JN j<=100000) λi j=>.int (i*j)):=pR λ_ _ _ _ _ _ _ h q=>PyProof.Rows.mul_int q (PySem.IntMulOk.of_le h.1 h.2 (by lia))
theorem Cv(O:LC):bZ X (binaryOp O) (rD X.K X.mg (gb O)):=by
 intro P s g H x y v u Q I r R h;obtain⟨F,n,S,d,e,c,i,j,w⟩:=h;have C:=gE;cases O with
 |Add=>
  replace w:aF X.K ⟨X.mg,F⟩ n H Q (fN d e S):=w;unfold fN at w;split at w
  ·have:=ax i;have:=ax j;subst x y
   exact pU P s g H _ _ v u Q I r R ⟨_,_,rfl,rfl,w.now c bA⟩
  ·have:=bR i;have:=bR j;subst x y
   split at w
   ·exact BW P s g H _ _ v u Q I r R ⟨_,_,rfl,rfl,by omega,w.now c dj⟩
   ·exact w.elim
  ·split at w
   ·obtain⟨a,vs,rfl,o,q⟩:=bz i;obtain⟨b,W,rfl,l,z⟩:=bz j;have l1:=q.length;have l2:=z.length;cases vs with
    |nil=>refine Cu P s g H _ _ v u Q I r R ⟨a,b,W,rfl,rfl,o,l,?_⟩;rename_i as bs _;have:as=[]:=ZL (by simpa using l1);subst this;exact w.now c j
    |cons v0 vs=>
     refine kG P s g H _ _ v u Q I r R ⟨a,b,v0::vs,W,rfl,rfl,o,l,by simp,by omega,?_,?_⟩
     ·intro hw;subst hw;rename_i as bs _;have:bs=[]:=ZL (by simpa using l2);subst this;rw[KA]at w;exact w.now c i
     ·intro _ p t;exact w.tup c (q.append z) p t
   ·exact w.elim
  ·split at w
   ·rename_i as bs E A;split at w
    ·obtain⟨a,vs,rfl,o,q⟩:=dh c i E;obtain⟨b,W,rfl,l,z⟩:=dh c j A;have l1:=q.length;have l2:=z.length;exact qg P s g H _ _ v u Q I r R ⟨a,b,vs,W,rfl,rfl,o,l,by omega,λp t=>w.lst c (q.append z) p t⟩
    ·exact w.elim
   ·exact w.elim
 |Sub=>
  replace w:aF X.K ⟨X.mg,F⟩ n H Q (ix d e S):=w;unfold ix at w;split at w
  ·have:=ax i;have:=ax j;subst x y
   exact pV P s g H _ _ v u Q I r R ⟨_,_,rfl,rfl,w.now c bA⟩
  ·exact w.elim
 |Mult=>
  replace w:aF X.K ⟨X.mg,F⟩ n H Q (kP d e S):=w;unfold kP at w;split at w
  ·have:=ax i;have:=ax j;subst x y
   split at w
   ·rename_i f;exact pW P s g H _ _ v u Q I r R ⟨_,_,rfl,rfl,f,w.now c bA⟩
   ·split at w
    ·rename_i f;exact kQ P s g H _ _ v u Q I r R ⟨_,_,rfl,rfl,f,w.now c bA⟩
    ·exact w.elim
  ·split at w
   ·rename_i as k f;obtain⟨a,vs,rfl,o,q⟩:=dh c i rfl;have:=ax j;subst y;have l1:=q.length;refine qh P s g H _ _ v u Q I r R ⟨a,k,vs,rfl,rfl,o,f.1,f.2.1,by rw[<-l1];omega,λp t=>w.lst c ?_ p t⟩;generalize k.toNat=m;clear f w
    induction m with
    |zero=>simpa using ag.nil
    |succ m B=>rw[KY,KY,MV,MV];exact q.append B
   ·exact w.elim
  ·exact w.elim
 |FloorDiv=>
  replace w:aF X.K ⟨X.mg,F⟩ n H Q (fc d e S):=w;unfold fc at w;split at w
  ·have:=ax i;have:=ax j;subst x y
   split at w
   ·rename_i f;exact ki P s g H _ _ v u Q I r R ⟨_,_,rfl,rfl,f,w.now c bA⟩
   ·split at w
    ·rename_i f;exact Cr P s g H _ _ v u Q I r R ⟨_,_,rfl,rfl,f,w.now c bA⟩
    ·exact w.elim
  ·exact w.elim
 |Mod=>
  replace w:aF X.K ⟨X.mg,F⟩ n H Q (gF d e S):=w;unfold gF at w;split at w
  ·have:=ax i;have:=ax j;subst x y
   split at w
   ·rename_i f;exact pX P s g H _ _ v u Q I r R ⟨_,_,rfl,rfl,f,w.now c bA⟩
   ·exact w.elim
  ·exact w.elim
 |Pow=>
  replace w:aF X.K ⟨X.mg,F⟩ n H Q (ql d e S):=w;unfold ql at w;split at w
  ·have:=ax i;have:=ax j;subst x y
   split at w
   ·rename_i f;exact pY P s g H _ _ v u Q I r R ⟨_,_,rfl,rfl,f,w.now c bA⟩
   ·exact w.elim
  ·exact w.elim
 |RShift=>
  replace w:aF X.K ⟨X.mg,F⟩ n H Q (qm d e S):=w;unfold qm at w;split at w
  ·have:=ax i;have:=ax j;subst x y
   split at w
   ·rename_i f;exact pZ P s g H _ _ v u Q I r R ⟨_,_,rfl,rfl,f,w.now c bA⟩
   ·exact w.elim
  ·exact w.elim
 |LShift=>exact w.elim
 |BitAnd=>
  replace w:aF X.K ⟨X.mg,F⟩ n H Q (qo d e S):=w;unfold qo at w;split at w
  ·have:=ax i;have:=ax j;subst x y
   exact p3 P s g H _ _ v u Q I r R ⟨_,_,rfl,rfl,w.now c bA⟩
  ·exact w.elim
 |BitOr=>
  replace w:aF X.K ⟨X.mg,F⟩ n H Q (Cs d e S):=w;unfold Cs at w;split at w
  ·have:=ax i;have:=ax j;subst x y
   exact uT P s g H _ _ v u Q I r R ⟨_,_,rfl,rfl,w.now c bA⟩
  ·exact w.elim
 |_=>exact w.elim
end Py
variable {l:List (Str×(List Py.D->Py.ae->Py.Res Py.D))}{φ:List Py.D->Py.ae->Py.Res Py.D}
namespace Py
set_option genInjectivity false in
inductive Sh where
 |non|bl (b:Bool)|int (i:Int)|str (x:Str)|tup (xs:List D)|lst (xs:List D)
noncomputable def sh(S:ae):D->Option Sh
 | .non=>some .non
 | .bl b=>some (.bl b)
 | .int i=>some (.int i)
 | .str x=>some (.str x)
 | .tup xs=>some (.tup xs)
 | .lst xs=>some (.lst xs)
 | .ref n=>(S[n]?).map .lst
 |_=>none
noncomputable def ba:List (Option Bool)->Option Bool
 | []=>some HX
 |o::r=>match o,ba r with
  |some b,some c=>some (b&&c)
  |_,_=>none
noncomputable def uo(f:D->D->Option Bool):Sh->Sh->Option Bool
 | .non,.non=>some HX
 | .bl a,.bl b=>some (a==b)
 | .int a,.int b=>some (a==b)
 | .str a,.str b=>some (a==b)
 | .bl a,.int b=>some ((if a then 1 else 0)==b)
 | .int a,.bl b=>some (a==(if b then 1 else 0))
 | .tup a,.tup b=>(ba (H9 f a b)).map (· &&a.length==b.length)
 | .lst a,.lst b=>if a.length=b.length then ba (H9 f a b)else some HY
 |_,_=>some HY
noncomputable def bJ(S:ae):Nat->D->D->Option Bool
 |0,_,_=>none
 |n+1,d,e=>match sh S d,sh S e with
  |some x,some y=>uo (bJ S n) x y
  |_,_=>none
noncomputable def eJ(l:List (Option Bool))(j:Nat):Bool:=match l[j]? with
 |some (some b)=>b
 |_=>HX
theorem kR:∀(l:List (Option Bool)) (k:Bool),ba l=some k->(∀(j:Nat) o,l[j]?=some o->o=some (eJ l j))/\k=(H_ l.length).all (eJ l)
 | [],k,h=>by dsimp only[ba]at h;simp_all
 |o::r,k,h=>by
  dsimp only[ba]at h;split at h
  ·rename_i b c E;cases h;obtain⟨H,a⟩:=kR r c E;refine⟨λj o e=>?_,?_⟩
   ·cases j with
    |zero=>simp at e;subst e;rfl
    |succ j=>rw[H j o (by trivial)];rfl
   ·simp only[Zp,List.range_succ_eq_map,Ji,List.all_map,a];rfl
  ·cases h
section
noncomputable def qp(K:Fg)(m:GS)(μ:La)(H:Hp)(s:HZ)(u:H8):Sh->Prop
 | .non=>u=.none
 | .bl b=>u=.bool b
 | .int i=>∃t,u=.int i t
 | .str x=>∃t,u=.str x t
 | .tup ds=>∃a its vs,u=.ref a/\s.heap.IsTuple a its.toArray/\Vals vs its/\ag K m μ H ds vs
 | .lst ds=>∃a its vs,u=.ref a/\s.heap.IsList a its.toArray/\Vals vs its/\ag K m μ H ds vs
theorem kS(I:Inv X pq σ H s)(c:aC X.K ⟨X.mg,F⟩ μ S H){x:Sh}(r:Rep X.K ⟨X.mg,F⟩ μ H d v)(q:RelV v u)(e:sh S d=some x):qp X.K ⟨X.mg,F⟩ μ H s u x:=by
 cases d with
 |non=>cases e;cases fM r;exact q
 |bl b=>cases e;cases e_ r;exact q
 |int b=>cases e;cases ax r;exact q
 |str b=>cases e;cases bR r;exact q
 |tup f=>cases e;obtain⟨a,vs,rfl,h,k⟩:=bz r;cases q;obtain⟨i,R,p,_⟩:=I.tuple h;exact⟨a,_,_,rfl,p,R,k⟩
 |lst f=>cases e;obtain⟨a,vs,rfl,h,k⟩:=dh c r rfl;cases q;obtain⟨i,R,p,_⟩:=I.list (.of h);exact⟨a,_,_,rfl,p.isList,R,k⟩
 |ref n=>
  replace e:S[n]?.map _=some x:=e;cases E:S[n]? with
  |none=>simp_all
  |some f=>rw[E]at e;cases e;obtain⟨a,vs,rfl,h,k⟩:=dh c r E;subst q;obtain⟨i,R,p,_⟩:=I.list (.of h);exact⟨a,_,_,rfl,p.isList,R,k⟩
 |_=>cases e
def oT(A:IH)(s:HZ)(f:D->D->Option Bool)(K:Fg)(m:GS)(μ:La)(H:Hp):Prop:=
 ∀d e v w u z k,Rep K m μ H d v->RelV v u->Rep K m μ H e w->RelV w z->f d e=some k->SeqAt.EqAt A s u z k
theorem vx{f:D->D->Option Bool}{m:GS}(F:oT A s f K m μ H){es:List D}{vs ws:List V}{zs:Lv}(r:ag K m μ H ds vs)(q:Vals vs us)(R:ag K m μ H es ws)(Q:Vals ws zs){k:Bool}
  (h:ba (H9 f ds es)=some k):∀j (h1:j<us.toArray.size) (h2:j<zs.toArray.size),SeqAt.EqAt A s us.toArray[j] zs.toArray[j] (eJ (H9 f ds es) j):=by
 intro j h1 h2;have l1:=r.length;have l2:=R.length;have l3:=q.length;have L:=Q.length
 have l:=by simpa using h1
 have n:=by simpa using h2
 have a:ds[j]?=some (ds[j]'(by omega)):=Zh _;have b:es[j]?=some (es[j]'(by omega)):=Zh _;obtain⟨v,B,C⟩:=r.get a;obtain⟨w,c,d⟩:=R.get b;obtain⟨u,o,e⟩:=q.get B;obtain⟨z,p,g⟩:=Q.get c;have E:us.toArray[j]=u:=by simp_all
 have i:zs.toArray[j]=z:=by simp_all
 rw[E,i];exact F _ _ v w u z _ C e d g ((kR _ _ h).1 j _ (by grind))
theorem vy{f:D->D->Option Bool}{es:List D}{k:Bool}(h:ba (H9 f ds es)=some k)(m:Nat)(H:m=min ds.length es.length):(H_ m).all (eJ (H9 f ds es))=k:=by have:=(kR _ _ h).2;simp_all
open PySem.SeqAt
theorem HJ{M:GS}{f:D->D->Option Bool}(F:oT A.in1 s f K M μ H)(c:A.units<cLine){z:H8}:∀{x y:Sh} {k:Bool},qp K M μ H s u x->qp K M μ H s z y->uo f x y=some k->
  RcAt A s u z k/\RcNeAt A s u z (!k):=by
 intro x y k j d h;cases x with
 |non=>
  cases j;cases y with
  |non=>cases d;cases h;exact⟨RcAt.none_none,RcNeAt.none_none⟩
  |bl b=>cases d;cases h;exact⟨RcAt.none_bool b,RcNeAt.none_bool b⟩
  |int b=>obtain⟨t,rfl⟩:=d;cases h;exact⟨RcAt.none_int b t,RcNeAt.none_int b t⟩
  |str b=>obtain⟨t,rfl⟩:=d;cases h;exact⟨RcAt.none_str b t,RcNeAt.none_str b t⟩
  |tup b=>obtain⟨a,e,vs,rfl,p,_⟩:=d;cases h;exact⟨RcAt.none_tuple p c,RcNeAt.none_tuple p c⟩
  |lst b=>obtain⟨a,e,vs,rfl,p,_⟩:=d;cases h;exact⟨RcAt.none_list p c,RcNeAt.none_list p c⟩
 |bl a=>
  cases j;cases y with
  |non=>cases d;cases h;exact⟨RcAt.bool_none a,RcNeAt.bool_none a⟩
  |bl b=>cases d;cases h;exact⟨RcAt.bool_bool a b,RcNeAt.bool_bool a b⟩
  |int b=>obtain⟨t,rfl⟩:=d;cases h;exact⟨RcAt.bool_int a b t,RcNeAt.bool_int a b t⟩
  |str b=>obtain⟨t,rfl⟩:=d;cases h;exact⟨RcAt.bool_str a b t,RcNeAt.bool_str a b t⟩
  |tup b=>obtain⟨_,e,vs,rfl,p,_⟩:=d;cases h;exact⟨RcAt.bool_tuple a p c,RcNeAt.bool_tuple a p c⟩
  |lst b=>obtain⟨_,e,vs,rfl,p,_⟩:=d;cases h;exact⟨RcAt.bool_list a p c,RcNeAt.bool_list a p c⟩
 |int a=>
  obtain⟨T,rfl⟩:=j;cases y with
  |non=>cases d;cases h;exact⟨RcAt.int_none a T,RcNeAt.int_none a T⟩
  |bl b=>cases d;cases h;exact⟨RcAt.int_bool a T b,RcNeAt.int_bool a T b⟩
  |int b=>obtain⟨t,rfl⟩:=d;cases h;exact⟨RcAt.int_int a T b t,RcNeAt.int_int a T b t⟩
  |str b=>obtain⟨t,rfl⟩:=d;cases h;exact⟨RcAt.int_str a T b t,RcNeAt.int_str a T b t⟩
  |tup b=>obtain⟨_,e,vs,rfl,p,_⟩:=d;cases h;exact⟨RcAt.int_tuple a T p c,RcNeAt.int_tuple a T p c⟩
  |lst b=>obtain⟨_,e,vs,rfl,p,_⟩:=d;cases h;exact⟨RcAt.int_list a T p c,RcNeAt.int_list a T p c⟩
 |str a=>
  obtain⟨T,rfl⟩:=j;cases y with
  |non=>cases d;cases h;exact⟨RcAt.str_none a T,RcNeAt.str_none a T⟩
  |bl b=>cases d;cases h;exact⟨RcAt.str_bool a T b,RcNeAt.str_bool a T b⟩
  |int b=>obtain⟨t,rfl⟩:=d;cases h;exact⟨RcAt.str_int a T b t,RcNeAt.str_int a T b t⟩
  |str b=>obtain⟨t,rfl⟩:=d;cases h;exact⟨RcAt.str_str a T b t,RcNeAt.str_str a T b t⟩
  |tup b=>obtain⟨_,e,vs,rfl,p,_⟩:=d;cases h;exact⟨RcAt.str_tuple a T p c,RcNeAt.str_tuple a T p c⟩
  |lst b=>obtain⟨_,e,vs,rfl,p,_⟩:=d;cases h;exact⟨RcAt.str_list a T p c,RcNeAt.str_list a T p c⟩
 |tup a=>
  obtain⟨w,I,V,rfl,P,q,r⟩:=j;cases y with
  |non=>cases d;cases h;exact⟨RcAt.tuple_none P c,RcNeAt.tuple_none P c⟩
  |bl b=>cases d;cases h;exact⟨RcAt.tuple_bool b P c,RcNeAt.tuple_bool b P c⟩
  |int b=>obtain⟨t,rfl⟩:=d;cases h;exact⟨RcAt.tuple_int b t P c,RcNeAt.tuple_int b t P c⟩
  |str b=>obtain⟨t,rfl⟩:=d;cases h;exact⟨RcAt.tuple_str b t P c,RcNeAt.tuple_str b t P c⟩
  |tup b=>
   obtain⟨n,i,v,rfl,g,Q,R⟩:=d;replace h:(ba (H9 f a b)).map (· &&a.length==b.length)=some k:=h;obtain⟨G,o,B⟩:=ZY.mp h;have m:=vx F r q R Q o;have l1:=r.length;have l2:=R.length;have l3:=q.length;have L:=Q.length
   have E:k=((H_ (min I.toArray.size i.toArray.size)).all (eJ (H9 f a b))&&I.toArray.size==i.toArray.size):=by rw[<-B,vy o _ (by grind),Zs,Zs,<-l3,<-L,<-l1,<-l2]
   rw[E];exact⟨RcAt.tuples P g c m,RcNeAt.tuples P g c m⟩
  |lst b=>obtain⟨n,i,v,rfl,g,_⟩:=d;cases h;exact⟨RcAt.tuple_list P g c,RcNeAt.tuple_list P g c⟩
 |lst a=>
  obtain⟨w,I,V,rfl,P,q,r⟩:=j;cases y with
  |non=>cases d;cases h;exact⟨RcAt.list_none P c,RcNeAt.list_none P c⟩
  |bl b=>cases d;cases h;exact⟨RcAt.list_bool b P c,RcNeAt.list_bool b P c⟩
  |int b=>obtain⟨t,rfl⟩:=d;cases h;exact⟨RcAt.list_int b t P c,RcNeAt.list_int b t P c⟩
  |str b=>obtain⟨t,rfl⟩:=d;cases h;exact⟨RcAt.list_str b t P c,RcNeAt.list_str b t P c⟩
  |tup b=>obtain⟨n,i,v,rfl,g,_⟩:=d;cases h;exact⟨RcAt.list_tuple P g c,RcNeAt.list_tuple P g c⟩
  |lst b=>
   obtain⟨n,i,v,rfl,g,Q,R⟩:=d;have l1:=r.length;have l2:=R.length;have l3:=q.length;have L:=Q.length
   replace h:(if a.length=b.length then ba (H9 f a b)else some HY)=some k:=h;split at h
   ·rename_i C;have m:=vx F r q R Q h
    have E:k=(H_ I.toArray.size).all (eJ (H9 f a b)):=by rw[vy h _ (by rw[Zs,<-l3,<-l1];omega)]
    rw[E];have l:I.toArray.size=i.toArray.size:=by grind
    exact⟨RcAt.lists P g l c m,RcNeAt.lists P g l c m⟩
   ·rename_i C;cases h;have l:(I.toArray.size !=i.toArray.size)=HX:=by grind
    exact⟨RcAt.lists_lengths P g l c,RcNeAt.lists_lengths P g l c⟩
theorem vA(I:Inv X pq σ H s)(sk:aC X.K ⟨X.mg,F⟩ μ S H):∀(n:Nat) (d e:D) (v:V) (k:Bool),Rep X.K ⟨X.mg,F⟩ μ H d v->Rep X.K ⟨X.mg,F⟩ μ H e v->bJ S n d e=some k->k=HX:=by
 intro n
 induction n with
 |zero=>intro d e v k _ _ h;cases h
 |succ n ih=>
  intro d e v k rd re h
  have L:∀(p E:List D) (vs:List V) (k:Bool),ag X.K ⟨X.mg,F⟩ μ H p vs->ag X.K ⟨X.mg,F⟩ μ H E vs->ba (H9 (bJ S n) p E)=some k->k=HX:=by
   intro p
   induction p with
   |nil=>intro E vs k _ _ h;cases h;rfl
   |cons d p Z=>
    intro E vs k R r h;obtain⟨v,W,rfl,T,b1⟩:=R.uncons;cases E with
    |nil=>cases h;rfl
    |cons e E=>
     obtain⟨v',ws',q,G,b2⟩:=r.uncons;cases q;rw[Kx]at h;unfold ba at h;split at h
     ·rename_i x y q K;cases h;rw[ih d e v x T G q,Z E W y b1 b2 K];rfl
     ·cases h
  unfold bJ at h;cases q:sh S d with
  |none=>rw[q]at h;cases h
  |some x=>
   cases K:sh S e with
   |none=>rw[q,K]at h;cases h
   |some y=>
    rw[q,K]at h;replace h:uo (bJ S n) x y=some k:=h
    obtain⟨u,ru⟩:∃u,RelV v u:=by
     cases v with
     |non=>exact⟨_,rfl⟩
     |bl b=>exact⟨_,rfl⟩
     |int i=>exact⟨.int i 0,0,rfl⟩
     |str x=>exact⟨.str x 0,0,rfl⟩
     |byt x=>exact⟨.bytes x 0,0,rfl⟩
     |flt x=>exact⟨.float x 0,0,rfl⟩
     |ref a=>exact⟨_,rfl⟩
     |ty n=>exact⟨_,rfl⟩
    have C:=kS I sk rd ru q;have f:=kS I sk re ru K
    have len:∀{p E:List D} {vs W:List V} {us:Lv},ag X.K ⟨X.mg,F⟩ μ H p vs->Vals vs us->ag X.K ⟨X.mg,F⟩ μ H E W->Vals W us->vs=W/\p.length=E.length:=λR O r Q=>by have:=O.inj Q;subst this;exact⟨rfl,R.length.trans r.length.symm⟩
    cases x with
    |non=>
     cases C;cases y with
     |non=>cases h;rfl
     |bl b=>cases f
     |int b=>obtain⟨t,z⟩:=f;cases z
     |str b=>obtain⟨t,z⟩:=f;cases z
     |tup b=>obtain⟨_,_,_,z,_⟩:=f;cases z
     |lst b=>obtain⟨_,_,_,z,_⟩:=f;cases z
    |bl a=>
     cases C;cases y with
     |non=>cases f
     |bl b=>cases f;cases h;simp
     |int b=>obtain⟨t,z⟩:=f;cases z
     |str b=>obtain⟨t,z⟩:=f;cases z
     |tup b=>obtain⟨_,_,_,z,_⟩:=f;cases z
     |lst b=>obtain⟨_,_,_,z,_⟩:=f;cases z
    |int a=>
     obtain⟨t',rfl⟩:=C;cases y with
     |non=>cases f
     |bl b=>cases f
     |int b=>obtain⟨t,z⟩:=f;cases z;cases h;simp
     |str b=>obtain⟨t,z⟩:=f;cases z
     |tup b=>obtain⟨_,_,_,z,_⟩:=f;cases z
     |lst b=>obtain⟨_,_,_,z,_⟩:=f;cases z
    |str a=>
     obtain⟨t',rfl⟩:=C;cases y with
     |non=>cases f
     |bl b=>cases f
     |int b=>obtain⟨t,z⟩:=f;cases z
     |str b=>obtain⟨t,z⟩:=f;cases z;cases h;simp
     |tup b=>obtain⟨_,_,_,z,_⟩:=f;cases z
     |lst b=>obtain⟨_,_,_,z,_⟩:=f;cases z
    |tup a=>
     obtain⟨T,m,A,rfl,N,O,R⟩:=C;cases y with
     |non=>cases f
     |bl b=>cases f
     |int b=>obtain⟨t,z⟩:=f;cases z
     |str b=>obtain⟨t,z⟩:=f;cases z
     |tup b=>
      obtain⟨G,j,B,z,P,Q,r⟩:=f;cases z
      have U:m=j:=by
       obtain⟨o,w,_,n,M⟩:=N;obtain⟨o',g,_,n',l⟩:=P;rw[w]at g;cases g;rw[M]at l;injection l with z _
       simpa using congrArg Array.toList z
      subst U;obtain⟨rfl,Y⟩:=len R O r Q;replace h:(ba (H9 (bJ S n) a b)).map (· &&a.length==b.length)=some k:=h;obtain⟨k1,e3,e4⟩:=ZY.mp h;rw[<-e4,L a b A k1 R r e3,Y];simp
     |lst b=>obtain⟨G,j,B,z,P,Q,r⟩:=f;cases z;obtain⟨o,w,c,n,M⟩:=N;obtain⟨o',g,J,n',l⟩:=P;rw[w]at g;cases g;rw[c]at J;exact absurd J (by decide)
    |lst a=>
     obtain⟨T,m,A,rfl,N,O,R⟩:=C;cases y with
     |non=>cases f
     |bl b=>cases f
     |int b=>obtain⟨t,z⟩:=f;cases z
     |str b=>obtain⟨t,z⟩:=f;cases z
     |tup b=>obtain⟨G,j,B,z,P,Q,r⟩:=f;cases z;obtain⟨o,w,c,n,M⟩:=N;obtain⟨o',g,J,n',l⟩:=P;rw[w]at g;cases g;rw[c]at J;exact absurd J (by decide)
     |lst b=>
      obtain⟨G,j,B,z,P,Q,r⟩:=f;cases z
      have U:m=j:=by
       obtain⟨o,w,_,n,M⟩:=N;obtain⟨o',g,_,n',l⟩:=P;rw[w]at g;cases g;rw[M]at l;injection l with z _
       simpa using congrArg Array.toList z
      subst U;obtain⟨rfl,Y⟩:=len R O r Q;replace h:(if a.length=b.length then ba (H9 (bJ S n) a b)else some HY)=some k:=h;rw[if_pos Y]at h;exact L a b A k R r h
theorem uq(I:Inv X pq σ H s)(G:aC X.K ⟨X.mg,F⟩ μ S H):∀(n:Nat) (A:IH),A.units+n<cLine->∀d e v w u z k,Rep X.K ⟨X.mg,F⟩ μ H d v->RelV v u->Rep X.K ⟨X.mg,F⟩ μ H e w->RelV w z->bJ S n d e=some k->
  RcAt A s u z k/\RcNeAt A s u z (!k)/\EqAt A s u z k:=by
 intro n
 induction n with
 |zero=>intro A _ d e v w u z k _ _ _ _ h;cases h
 |succ n Z=>
  intro A hA d e v w u z k L R M B h;have o:=λ(D:v=w)=>vA I G (n+1) d e v k L (D▸M) h;unfold bJ at h;cases E:sh S d with
  |none=>rw[E]at h;cases h
  |some x=>
   cases C:sh S e with
   |none=>rw[E,C]at h;cases h
   |some y=>
    rw[E,C]at h;replace h:uo (bJ S n) x y=some k:=h;have j:=kS I G L R E;have f:=kS I G M B C;have Y:A.in1.units=A.units+1:=rfl;obtain⟨J,O⟩:=HJ (λd e v w u z k a b c Q h=>(Z A.in1 (by omega) d e v w u z k a b c Q h).2.2) (by omega) j f h;refine⟨J,O,?_⟩
    have r:∀{l b:H7},u=.ref l->z=.ref b->EqAt A s u z k:=λ{l b} U W=>by
     subst U;subst W;by_cases K:l=b
     ·subst K
      have D:v=w:=by
       cases v<;>first| (cases R;done)|skip
       all_goals first| (obtain⟨_,q⟩:=R;cases q;done)|skip
       cases w<;>first| (cases B;done)|skip
       all_goals first| (obtain⟨_,q⟩:=B;cases q;done)|skip
       cases R;cases B;rfl
      rw[o D];exact EqAt.same _
     ·exact .of_refs K J
    have g:A.units<cLine:=by omega
    cases x with
    |non=>
     cases j;cases y with
     |non=>cases f;cases h;exact EqAt.same _
     |bl b=>cases f;cases h;exact EqAt.none_bool b
     |int b=>obtain⟨t,rfl⟩:=f;cases h;exact EqAt.none_int b t
     |str b=>obtain⟨t,rfl⟩:=f;cases h;exact EqAt.none_str b t
     |tup b=>obtain⟨a,i,vs,rfl,p,_⟩:=f;cases h;exact EqAt.none_tuple p g
     |lst b=>obtain⟨a,i,vs,rfl,p,_⟩:=f;cases h;exact EqAt.none_list p g
    |bl a=>
     cases j;cases y with
     |non=>cases f;cases h;exact EqAt.bool_none a
     |bl b=>cases f;cases h;exact EqAt.bool_bool a b
     |int b=>obtain⟨t,rfl⟩:=f;cases h;exact EqAt.bool_int a b t
     |str b=>obtain⟨t,rfl⟩:=f;cases h;exact EqAt.bool_str a b t
     |tup b=>obtain⟨_,i,vs,rfl,p,_⟩:=f;cases h;exact EqAt.bool_tuple a p g
     |lst b=>obtain⟨_,i,vs,rfl,p,_⟩:=f;cases h;exact EqAt.bool_list a p g
    |int a=>
     obtain⟨T,rfl⟩:=j;cases y with
     |non=>cases f;cases h;exact EqAt.int_none a T
     |bl b=>cases f;cases h;exact EqAt.int_bool a T b
     |int b=>obtain⟨t,rfl⟩:=f;cases h;exact EqAt.int_int a T b t
     |str b=>obtain⟨t,rfl⟩:=f;cases h;exact EqAt.int_str a T b t
     |tup b=>obtain⟨_,i,vs,rfl,p,_⟩:=f;cases h;exact EqAt.int_tuple a T p g
     |lst b=>obtain⟨_,i,vs,rfl,p,_⟩:=f;cases h;exact EqAt.int_list a T p g
    |str a=>
     obtain⟨T,rfl⟩:=j;cases y with
     |non=>cases f;cases h;exact EqAt.str_none a T
     |bl b=>cases f;cases h;exact EqAt.str_bool a T b
     |int b=>obtain⟨t,rfl⟩:=f;cases h;exact EqAt.str_int a T b t
     |str b=>obtain⟨t,rfl⟩:=f;cases h;exact EqAt.str_str a T b t
     |tup b=>obtain⟨_,i,vs,rfl,p,_⟩:=f;cases h;exact EqAt.str_tuple a T p g
     |lst b=>obtain⟨_,i,vs,rfl,p,_⟩:=f;cases h;exact EqAt.str_list a T p g
    |tup a=>
     obtain⟨N,m,V,rfl,P,_⟩:=j;cases y with
     |non=>cases f;cases h;exact EqAt.tuple_none P g
     |bl b=>cases f;cases h;exact EqAt.tuple_bool b P g
     |int b=>obtain⟨t,rfl⟩:=f;cases h;exact EqAt.tuple_int b t P g
     |str b=>obtain⟨t,rfl⟩:=f;cases h;exact EqAt.tuple_str b t P g
     |tup b=>obtain⟨_,i,vs,rfl,p,_⟩:=f;exact r rfl rfl
     |lst b=>obtain⟨_,i,vs,rfl,p,_⟩:=f;exact r rfl rfl
    |lst a=>
     obtain⟨N,m,V,rfl,P,_⟩:=j;cases y with
     |non=>cases f;cases h;exact EqAt.list_none P g
     |bl b=>cases f;cases h;exact EqAt.list_bool b P g
     |int b=>obtain⟨t,rfl⟩:=f;cases h;exact EqAt.list_int b t P g
     |str b=>obtain⟨t,rfl⟩:=f;cases h;exact EqAt.list_str b t P g
     |tup b=>obtain⟨_,i,vs,rfl,p,_⟩:=f;exact r rfl rfl
     |lst b=>obtain⟨_,i,vs,rfl,p,_⟩:=f;exact r rfl rfl
end
open Builtin.Str (strSliceIndices)
noncomputable def qq(d e:D)(S:ae):Res D:=match d,e with
 | .str z,.int i=>if z.length<=a' then(match dU z.cps.toList i with
  |some c=>.ok (.str ⟨#[c]⟩) S
  |none=>.fail)else .fail
 |_,_=>.fail
noncomputable def Cw(d e:D):Option Bool:=match d,e with
 | .str x,.str y=>some (!(Ip y x 0 y.length 1).isEmpty)
 |_,_=>none
noncomputable def cS(x:Str)(l h:Option Int)(st:Int):Str:=⟨((strSliceIndices l h st x.length).filterMap (x.cps[·]?)).toArray⟩
noncomputable def vB(d:D)(l h:Option Int)(S:ae):Res D:=match d with
 | .str x=>if(strSliceIndices l h 1 x.length).length=x.length then .ok (.str x) S else if(cS x l h 1).length<=a' then .ok (.str (cS x l h 1)) S else .fail
 |_=>.fail
noncomputable def kT(d k:D)(S:ae):Res D:=match d,k with
 | .str x,.int i=>if i= -1/\(cS x none none (-1)).length<=a' then .ok (.str (cS x none none (-1))) S else .fail
 |_,_=>.fail
noncomputable def qr(ds:List D)(S:ae):Res D:=match ds with
 | [.str x]=>if x.length<=640 then(match intText? x with
  |some n=>.ok (.int n) S
  |none=>.fail)else .fail
 |_=>.fail
theorem iy{e:D}{k:Bool}(h:Cw d e=some k):∃x y,d=.str x/\e=.str y/\(!(Ip y x 0 y.length 1).isEmpty)=k:=by
 unfold Cw at h;split at h
 ·cases h;exact⟨_,_,rfl,rfl,rfl⟩
 ·cases h
theorem Cy:um X (rD X.K X.mg qq):=by
 intro V a p s j H x y v u Q I f g h b;obtain⟨F,m,S,d,e,i,r,R,w⟩:=h;have k:=gE;unfold qq at w;split at w
 ·split at w
  ·rename_i l;split at w
   ·rename_i c E;cases bR r;cases ax R;exact qe V a p s j H _ _ v u Q I f g ⟨_,_,c,rfl,rfl,by omega,E,w.now i dj⟩ b
   ·exact w.elim
  ·exact w.elim
 ·exact w.elim
theorem vC{xs:List V}{Q:VK}(I:L2.Inv X pq σ H s)(r:Vals xs us)(d:aC X.K ⟨X.mg,F⟩ μ S H)(R:ag X.K ⟨X.mg,F⟩ μ H ds xs)(w:aF X.K ⟨X.mg,F⟩ μ H Q (qr ds S)):wpAny (model X.prog X.w) X.A (call (.type "int") us) (EP X pq σ Q) X.xe s:=by
 unfold qr at w;split at w
 ·split at w
  ·rename_i a;split at w
   ·rename_i n b;obtain⟨v,W,rfl,c,h⟩:=ag.uncons R;unfold ag at h;subst h;cases bR c;obtain⟨u,rfl,t,rfl⟩:=vals1 r;exact PySem.W.KIN.call_text b a ⟨.int n,H,I.tok _,⟨_,rfl⟩,w.now d bA⟩
   ·exact w.elim
  ·exact w.elim
 ·exact w.elim
theorem iz{v:H8}{o:Option Int}(p:Km v o):∃l:Option (Int×Tok),v=partValue l/\l.map (·.1)=o:=by
 cases p with
 |none=>exact⟨none,rfl,rfl⟩
 |int i u=>exact⟨some (i,u),rfl,rfl⟩
theorem Cz{x:V}{v:H8}{Q:VK}(I:L2.Inv X pq σ H s)(R:RelV x v)(hs:s.heap.IsSliceOf sl vl vu .none)(pl:Km vl lo)(p:Km vu hi)(b:aC X.K ⟨X.mg,F⟩ μ S H)(r:Rep X.K ⟨X.mg,F⟩ μ H d x)(w:aF X.K ⟨X.mg,F⟩ μ H Q (vB d lo hi S)):
  ∃T id,typeLookup (.type T) "__getitem__"=pure (some (.builtin id))/\s.TypeIs v T/\wpAny (model X.prog X.w) X.A (getItem v (.ref sl)) (EP X pq σ Q) X.xe s:=by
 unfold vB at w;split at w
 ·rename_i x;cases bR r;obtain⟨t,rfl⟩:=R;obtain⟨l,rfl,c⟩:=iz pl;obtain⟨u,rfl,e⟩:=iz p;refine⟨"str",_,PySem.F.slot_str_getitem.lookup,JK s x t,MK (l:=l) (u:=u) (st:=none) hs rfl ?_⟩;unfold sliceMade slicePicked;rw[c,e];show Made.post (if((1:Int)==1&&(strSliceIndices lo hi 1 x.length).length==x.length)=HX then _ else _) _ _;by_cases a:(strSliceIndices lo hi 1 x.length).length=x.length
  ·rw[if_pos (by rw[a];simp)];rw[if_pos a]at w;exact⟨.str x,H,I,⟨_,rfl⟩,w.now b dj⟩
  ·rw[if_neg (by simp[a])];rw[if_neg a]at w;have f:=gE;split at w
   ·rename_i h;have h:(cS x lo hi 1).length<=sizeLine:=by omega
    exact⟨h,.str _,H,I.tok _,⟨_,rfl⟩,w.now b dj⟩
   ·exact w.elim
 ·exact w.elim
theorem vD{x:V}{v:H8}{u:Tok}{Q:VK}{F μ:La}{S:ae}{d:D}(I:L2.Inv X pq σ H s)(R:RelV x v)(hs:s.heap.get? sl=some {cls:=.type "slice",data:=.fields #[.none,.none,.int (-1) u]})(c:aC X.K ⟨X.mg,F⟩ μ S H)(r:Rep X.K ⟨X.mg,F⟩ μ H d x)(w:aF X.K ⟨X.mg,F⟩ μ H Q (kT d (.int (-1)) S)):
  ∃z t,v=.str z t/\wpAny (model X.prog X.w) X.A (getItem v (.ref sl)) (EP X pq σ Q) X.xe s:=by
 unfold kT at w;split at w
 ·rename_i z i b;cases b;cases bR r;obtain⟨t,rfl⟩:=R;refine⟨z,t,rfl,MK (l:=none) (u:=none) (st:=some (-1,u)) ⟨_,hs,rfl,rfl⟩ rfl ?_⟩;have e:=gE;split at w
  ·rename_i a;have h:(cS z none none (-1)).length<=sizeLine:=by have:=a.2;omega
   exact⟨h,.str _,H,I.tok _,⟨_,rfl⟩,w.now c dj⟩
  ·exact w.elim
 ·exact w.elim
end Py
namespace Py
noncomputable def ur(eq lt:D->D->Option Bool):List D->List D->Option Bool
 | [],[]=>some HY
 | [],_::_=>some HX
 |_::_,[]=>some HY
 |a::as,b::bs=>match eq a b with
  |some HX=>ur eq lt as bs
  |some HY=>lt a b
  |none=>none
noncomputable def j0(S:ae):Nat->D->D->Option Bool
 |0,_,_=>none
 |n+1,.int a,.int b=>some (decide (a<b))
 |n+1,.tup a,.tup b=>ur (bJ S n) (j0 S n) a b
 |_,_,_=>none
open PySem.SeqAt
def fO(A:IH)(s:HZ)(y x:H8)(b:Bool):Prop:=
 ∀(prog:Ia) (w:Io) (E:Vs) (Q:Vs),Q (.bool b) s->wpAny (model prog w) A (richCompare .Lt y x) Q E s
inductive cK (A:IH)(s:HZ):Lv->Lv->Bool->Prop where
 |nn:cK A s [] [] HY
 |nc {w ws}:cK A s [] (w::ws) HX
 |cn {v vs}:cK A s (v::vs) [] HY
 |eq {v w vs ws k}:EqAt A s v w HX->cK A s vs ws k->cK A s (v::vs) (w::ws) k
 |lt {v w vs ws k}:EqAt A s v w HY->fO A s v w k->cK A s (v::vs) (w::ws) k
section
open PySem.AutoSeq1 (wpAny_loadPart')
open PySem.MeetsSeq PySem.MeetsSeq2 PySem.MeetsSeq3
theorem CA(l b:H7)(items i:Av)(n N:Nat)(dd D:Option H7)(sl B:Array (Ov))(k:Bool):
  Meets (I_.«tuple.__lt__» ⟨[.ref l,.ref b],[]⟩)
   (λA R s=>s.heap.get? l=some {cls:=.type "tuple",dict:=dd,data:=.seq items n,slots:=sl}/\s.heap.get? b=some {cls:=.type "tuple",dict:=D,data:=.seq i N,slots:=B}/\
    cK A.in1 s items.toList i.toList k/\R (.ok (.ret (.bool k))) s):=
 .of_wp λp w A R s h=>by
  obtain⟨u,g,d,T,O⟩:=s;obtain⟨F,C,t,h⟩:=h;have K:=Lw
  wp_walk using J9 F,J9 C,JC _ (λr b S=>b.1=none/\S=⟨u,g,d,T,O⟩/\∃(vs W:Lv),r=vs.zip W/\
   cK A.in1 ⟨u,g,d,T,O⟩ vs W k/\vs.length+i.size=W.length+items.size/\R (.ok (.ret (.bool k))) ⟨u,g,d,T,O⟩) _
  case turn=>
   rintro⟨y,x⟩ r b S ⟨e,rfl,vs,W,a,f,H,m⟩;cases f with
   |nn=>rw[Kg]at a;cases a
   |nc=>rw[Kg]at a;cases a
   |cn=>rw[K3]at a;cases a
   |eq o q=>
    rw[ZU]at a;injection a with j c
    injection j with z t
    subst z t;simp only[Zp]at H;refine Za (o p w _ _ ?_)
    wp_walk
    exact⟨rfl,rfl,_,_,c,q,by omega,m⟩
   |lt o q=>
    rw[ZU]at a;injection a with j c
    injection j with z t
    subst z t;refine Za (o p w _ _ ?_);have v:=λ(E:Vs) (Q:Vs)=>q p w E Q
    wp_walk using v
    exact⟨_,rfl,by simpa using m⟩
  case fin=>
   rintro⟨I,J⟩ S ⟨e,rfl,vs,W,a,f,H,m⟩;simp only at e;subst e
   have G:k=decide (items.size<i.size):=by
    cases f with
    |nn=>simp only[ZW]at H;exact(Zx (by omega)).symm
    |nc=>simp only[ZW,Zp]at H;exact(ZO (by omega)).symm
    |cn=>simp only[ZW,Zp]at H;exact(Zx (by omega)).symm
    |eq o q=>rw[ZU]at a;cases a
    |lt o q=>rw[ZU]at a;cases a
   rw[G]at m
   wp_walk
   exact⟨_,rfl,by simpa[KG]using m⟩
  case h=>exact⟨rfl,rfl,items.toList,i.toList,rfl,t,by simp;omega,h⟩
end
theorem fO.tuples{l b:H7}{vs ws:Lv}{k:Bool}(m:s.heap.IsTuple l vs.toArray)(g:s.heap.IsTuple b ws.toArray)(o:A.units<cLine)(r:cK A.in1 s vs ws k):fO A s (.ref l) (.ref b) k:=λp w E Q h=>by
 obtain⟨⟨cls,q,D,sl⟩,e,i,n,j⟩:=id m;obtain⟨⟨C,f,d,S⟩,H,a,N,c⟩:=id g;subst i j a c
 exact MW ⟨_,e,rfl⟩ ⟨_,H,rfl⟩ PySem.F.slot_tuple_lt PySem.F.entry_tuple_lt (PySem.F.args_tuple_lt_2 _ _) (CA l b _ _ n _ _ _ _ _ k)
  ⟨e,H,by omega,show JP k≠Ml/\Q _ s from⟨(λx=>nomatch x),h⟩⟩ o
def vE(A:IH)(s:HZ)(y x:H8)(b:Bool):Prop:=
 ∀(prog:Ia) (w:Io) (E:Vs) (Q:Vs),Q (.bool b) s->wpAny (model prog w) A (richCompare .LtE y x) Q E s
inductive cT (A:IH)(s:HZ):Lv->Lv->Bool->Prop where
 |nl {ws}:cT A s [] ws HX
 |cn {v vs}:cT A s (v::vs) [] HY
 |eq {v w vs ws k}:EqAt A s v w HX->cT A s vs ws k->cT A s (v::vs) (w::ws) k
 |le {v w vs ws k}:EqAt A s v w HY->vE A s v w k->cT A s (v::vs) (w::ws) k
section
open PySem.AutoSeq1 (wpAny_loadPart')
open PySem.MeetsSeq PySem.MeetsSeq2 PySem.MeetsSeq3
theorem CB(l b:H7)(xs ys:Av)(n N:Nat)(dd D:Option H7)(sl z:Array (Ov))(k:Bool):
  Meets (I_.«tuple.__le__» ⟨[.ref l,.ref b],[]⟩)
   (λA R s=>s.heap.get? l=some {cls:=.type "tuple",dict:=dd,data:=.seq xs n,slots:=sl}/\s.heap.get? b=some {cls:=.type "tuple",dict:=D,data:=.seq ys N,slots:=z}/\
    cT A.in1 s xs.toList ys.toList k/\R (.ok (.ret (.bool k))) s):=
 .of_wp λp w A R s h=>by
  obtain⟨t,g,d,T,O⟩:=s;obtain⟨C,B,q,h⟩:=h;have J:=Lw
  wp_walk using J9 C,J9 B,JC _ (λr b S=>b.1=none/\S=⟨t,g,d,T,O⟩/\∃(vs W:Lv),r=vs.zip W/\
   cT A.in1 ⟨t,g,d,T,O⟩ vs W k/\vs.length+ys.size=W.length+xs.size/\R (.ok (.ret (.bool k))) ⟨t,g,d,T,O⟩) _
  case turn=>
   rintro⟨y,x⟩ r b S ⟨e,rfl,vs,W,a,f,H,j⟩;cases f with
   |nl=>rw[Kg]at a;cases a
   |cn=>rw[K3]at a;cases a
   |eq m o=>
    rw[ZU]at a;injection a with i c
    injection i with v q
    subst v q;simp only[Zp]at H;refine Za (m p w _ _ ?_)
    wp_walk
    exact⟨rfl,rfl,_,_,c,o,by omega,j⟩
   |le m o=>
    rw[ZU]at a;injection a with i c
    injection i with v q
    subst v q;refine Za (m p w _ _ ?_);have u:=λ(E:Vs) (Q:Vs)=>o p w E Q
    wp_walk using u
    exact⟨_,rfl,by simpa using j⟩
  case fin=>
   rintro⟨G,I⟩ S ⟨e,rfl,vs,W,a,f,H,j⟩;simp only at e;subst e
   have F:k=decide (xs.size<=ys.size):=by
    cases f with
    |nl=>simp only[ZW]at H;exact(ZO (by omega)).symm
    |cn=>simp only[ZW,Zp]at H;exact(Zx (by omega)).symm
    |eq m o=>rw[ZU]at a;cases a
    |le m o=>rw[ZU]at a;cases a
   rw[F]at j
   wp_walk
   exact⟨_,rfl,by simpa[KG]using j⟩
  case h=>exact⟨rfl,rfl,xs.toList,ys.toList,rfl,q,by simp;omega,h⟩
end
theorem CC{l b:H7}{vs ws:Lv}{k:Bool}(m:s.heap.IsTuple l vs.toArray)(g:s.heap.IsTuple b ws.toArray)(o:A.units<cLine)(r:cT A.in1 s vs ws k):vE A s (.ref l) (.ref b) k:=λp w E Q h=>by
 obtain⟨⟨cls,q,D,sl⟩,e,i,n,j⟩:=id m;obtain⟨⟨C,f,d,S⟩,H,a,N,c⟩:=id g;subst i j a c
 exact MW ⟨_,e,rfl⟩ ⟨_,H,rfl⟩ PySem.F.slot_tuple_le PySem.F.entry_tuple_le (PySem.F.args_tuple_le_2 _ _) (CB l b _ _ n _ _ _ _ _ k)
  ⟨e,H,by omega,show JP k≠Ml/\Q _ s from⟨(λx=>nomatch x),h⟩⟩ o
noncomputable def vF:List D->List D->Option Bool
 | [],_=>some HX
 |_::_,[]=>some HY
 | .int a::as,.int b::bs=>if a=b then vF as bs else some (decide (a<=b))
 |_::_,_::_=>none
theorem iA{K:Fg}{m:GS}{μ:La}{H:Hp}{A:IH}{s:HZ}:∀(ds es:List D) (vs ws:List V) (us zs:Lv) (k:Bool),ag K m μ H ds vs->Vals vs us->ag K m μ H es ws->Vals ws zs->vF ds es=some k->cT A s us zs k
 | [],es,vs,ws,us,zs,k,r,q,R,i,h=>by
  unfold ag at r;subst r;have:=q.zero;subst this
  cases h;exact .nl
 |d::ds,[],vs,ws,us,zs,k,r,q,R,i,h=>by
  obtain⟨v,vs,rfl,l,B⟩:=r.uncons;unfold ag at R;subst R;have:=i.zero;subst this
  cases q;have f:some HY=some k:=by cases d<;>exact h
  cases f;exact .cn
 |d::ds,e::es,vs,ws,us,zs,k,r,q,R,i,h=>by
  obtain⟨v,vs,rfl,l,B⟩:=r.uncons;obtain⟨w,ws,rfl,n,o⟩:=R.uncons;cases d with
  |int a=>cases e with
   |int b=>
    have:=ax l;have:=ax n;subst v w
    cases q with
    |cons C d1=>cases i with
     |cons u x=>
      obtain⟨t,rfl⟩:=C;obtain⟨T,rfl⟩:=u;have f:(if a=b then vF ds es else some (decide (a<=b)))=some k:=h;have g:=EqAt.int_int (A:=A) (s:=s) a t b T;by_cases c:a=b
      ·rw[if_pos c]at f;have j:(a==b)=HX:=by simpa using c
       rw[j]at g;exact .eq g (iA ds es vs ws _ _ k B d1 o x f)
      ·rw[if_neg c]at f;have j:(a==b)=HY:=by simpa using c
       rw[j]at g;cases f;exact .le g λp w E Q y=>(PyProof.Rows.le_int y:wpAny (model p w) A (compareOp .LtE (.int _ t) (.int _ T)) Q E s)
   |_=>cases h
  |_=>
   have f:(none:Option Bool)=some k:=by cases e<;>exact h
   cases f
theorem iB(I:Inv X pq σ H s)(K:aC X.K ⟨X.mg,F⟩ μ S H):∀(n:Nat) (A:IH),A.units+n<cLine->∀d e v w u z k,Rep X.K ⟨X.mg,F⟩ μ H d v->RelV v u->Rep X.K ⟨X.mg,F⟩ μ H e w->RelV w z->j0 S n d e=some k->fO A s u z k:=by
 intro n
 induction n with
 |zero=>intro A _ d e v w u z k _ _ _ _ h;cases h
 |succ n ih=>
  intro A hA d e v w u z k y G B J h;have hin:A.in1.units=A.units+1:=rfl
  have L:∀(f c:List D) (vs W:List V) (U Z:Lv),ag X.K ⟨X.mg,F⟩ μ H f vs->Vals vs U->ag X.K ⟨X.mg,F⟩ μ H c W->Vals W Z->ur (bJ S n) (j0 S n) f c=some k->cK A.in1 s U Z k:=by
   intro f
   induction f with
   |nil=>
    intro c vs W U Z R g r q h;unfold ag at R;subst R;have:=g.zero;subst this
    cases c with
    |nil=>unfold ag at r;subst r;have:=q.zero;subst this;cases h;exact .nn
    |cons e c=>obtain⟨w,W,rfl,_,_⟩:=r.uncons;cases q;cases h;exact .nc
   |cons d f x=>
    intro c vs W U Z R g r q h;obtain⟨v,vs,rfl,i,M⟩:=R.uncons;cases g with
    |cons C d1=>
     cases c with
     |nil=>unfold ag at r;subst r;have:=q.zero;subst this;cases h;exact .cn
     |cons e c=>
      obtain⟨w,W,rfl,j,N⟩:=r.uncons;cases q with
      |cons l O=>
       unfold ur at h;split at h
       ·rename_i m;exact .eq (uq I K n A.in1 (by omega) d e v w _ _ HX i C j l m).2.2 (x c vs W _ _ M d1 N O h)
       ·rename_i m;exact .lt (uq I K n A.in1 (by omega) d e v w _ _ HY i C j l m).2.2 (ih A.in1 (by omega) d e v w _ _ k i C j l h)
       ·cases h
  unfold j0 at h;split at h
  ·rename_i P;cases P
  ·have:=ax y;have:=ax B;subst v w
   obtain⟨t,rfl⟩:=G;obtain⟨t',rfl⟩:=J;cases h;exact λp w E Q hq=>(PyProof.Rows.lt_int hq:wpAny (model p w) A (compareOp .Lt (.int _ t) (.int _ t')) Q E s)
  ·rename_i n' f c o;cases o;obtain⟨a,vs,rfl,T,R⟩:=bz y;obtain⟨b,W,rfl,Y,r⟩:=bz B;cases G;cases J;obtain⟨U,g,p1,_⟩:=I.tuple T;obtain⟨Z,q,p2,_⟩:=I.tuple Y;exact fO.tuples p1 p2 (by omega) (L f c vs W U Z R g r q h)
  ·cases h
noncomputable def bg:Nat:=40
noncomputable def iC:D->Bool
 | .non=>HX
 |_=>HY
noncomputable def a7(o:Option Bool)(S:ae):Res D:=match o with
 |some k=>.ok (.bl k) S
 |none=>.fail
noncomputable def ff(l:List (Option Bool)):Option Bool:=(ba (l.map λo=>o.map not)).map not
noncomputable def fP(d e:D)(S:ae):Option Bool:=match aA S e with
 |some xs=>ff (xs.map λy=>bJ S bg y d)
 |none=>Cw d e
noncomputable def A_(d e:D)(S:ae):Res D:=match d,e with
 | .int i,.int j=>.ok (.bl (decide (i<=j))) S
 | .tup a,.tup b=>a7 (vF a b) S
 |_,_=>.fail
noncomputable def CD(d e:D)(S:ae):Res D:=match d,e with
 | .int i,.int j=>.ok (.bl (decide (j<i))) S
 |_,_=>.fail
noncomputable def CF(d e:D)(S:ae):Res D:=match d,e with
 | .int i,.int j=>.ok (.bl (decide (j<=i))) S
 |_,_=>.fail
noncomputable def CG(d e:D)(S:ae):Res D:=match e with
 | .non=>.ok (.bl (iC d)) S
 |_=>.fail
noncomputable def qs(d e:D)(S:ae):Res D:=match e with
 | .non=>.ok (.bl (!iC d)) S
 |_=>.fail
noncomputable def ao(o:Ka)(d e:D)(S:ae):Res D:=match o with
 | .Eq=>a7 (bJ S bg d e) S
 | .NotEq=>a7 ((bJ S bg d e).map not) S
 | .Lt=>a7 (j0 S bg d e) S
 | .LtE=>A_ d e S
 | .Gt=>CD d e S
 | .GtE=>CF d e S
 | .In=>a7 (fP d e S) S
 | .NotIn=>a7 ((fP d e S).map not) S
 | .Is=>CG d e S
 | .IsNot=>qs d e S
theorem vG{m:GS}(r:Rep K m μ H d v):decide (v=.non)=iC d:=by
 cases d with
 |non=>cases fM r;rfl
 |bl b=>cases e_ r;rfl
 |int b=>cases ax r;rfl
 |str b=>cases bR r;rfl
 |tup b=>obtain⟨a,vs,rfl,_⟩:=bz r;rfl
 |lst b=>obtain⟨a,vs,rfl,_⟩:=r;rfl
 |ref b=>obtain⟨a,rfl,_⟩:=r;rfl
 |scr b=>obtain⟨a,vs,rfl,_⟩:=r;rfl
 |fn b=>obtain⟨a,rfl,_⟩:=r;rfl
 |dct=>obtain⟨a,rfl,_⟩:=r;rfl
 |dks b=>obtain⟨a,_,rfl,_⟩:=r;rfl
 |ty n=>subst r;rfl
theorem fg{m:GS}{Q:VK}{o:Option Bool}(w:aF K m μ H Q (a7 o S))(s:aC K m μ S H):∃k,o=some k/\Q (.bl k) H:=by
 cases o with
 |none=>exact w.elim
 |some k=>exact⟨k,rfl,w.now s cg⟩
theorem CH{l:List (Option Bool)}{k:Bool}(h:ff l=some k):(∀o∈l,o.isSome=HX)/\k=l.any (λo=>o==some HX):=by
 unfold ff at h;obtain⟨K,e,E⟩:=ZY.mp h;subst E;clear h
 induction l generalizing K with
 |nil=>cases e;exact⟨by simp,rfl⟩
 |cons o r I=>
  rw[ZH]at e;unfold ba at e;split at e
  ·rename_i b c a d;cases e;obtain⟨g,i⟩:=I c d;obtain⟨B,rfl,f⟩:=ZY.mp a;subst f;refine⟨λo H=>?_,?_⟩
   ·rcases Zj.mp H with rfl|H
    ·rfl
    ·exact g o H
   ·rw[List.any_cons,<-i];cases B<;>cases c<;>rfl
  ·cases e
theorem oU(I:Inv X pq σ H s)(P:aC X.K ⟨X.mg,F⟩ μ S H)(hu:A.units+64<cLine){e:D}{w:V}{z:H8}{k:Bool}(rd:Rep X.K ⟨X.mg,F⟩ μ H d v)(ru:RelV v u)(re:Rep X.K ⟨X.mg,F⟩ μ H e w)(rz:RelV w z)
  (l:(aA S e).isSome=HX) (h:fP d e S=some k):∃(a:H7) (its:Lv) (f:H8->Bool),z=.ref a/\(s.heap.IsList a its.toArray\/s.heap.IsTuple a its.toArray)/\(∀y∈its.toArray,EqAt A.in1 s y u (f y))/\its.toArray.any f=k:=by
 unfold fP at h;split at h
 ·rename_i i J;obtain⟨a,vs,rfl,l,r⟩:=e9 P re J;cases rz
  obtain⟨its,q,hp⟩:∃its,Vals vs its/\(s.heap.IsList a its.toArray\/s.heap.IsTuple a its.toArray):=by
   rcases l with l|l
   ·obtain⟨its,q,p,_⟩:=I.list l;exact⟨its,q,.inl p.isList⟩
   ·obtain⟨its,q,p,_⟩:=I.tuple l;exact⟨its,q,.inr p⟩
  have Y:A.in1.units=A.units+1:=rfl;have B:bg=40:=rfl;obtain⟨Q,R⟩:=CH h
  classical
  have m:∀(j:Nat) (x:D) (y:H8),i[j]?=some x->its[j]?=some y->∀b,bJ S bg x d=some b->EqAt A.in1 s y u b:=λj x y M C b n=>by obtain⟨v',T,U⟩:=r.get M;obtain⟨y',O,W⟩:=q.get T;rw[C]at O;cases O;exact(uq I P bg A.in1 (by omega) x d v' v _ u b U W rd ru n).2.2
  have len:i.length=its.length:=r.length.trans q.length;refine⟨a,its,λy=>decide (∃(j:Nat) (x:D),its[j]?=some y/\i[j]?=some x/\bJ S bg x d=some HX),rfl,hp,λy C=>?_,?_⟩
  ·obtain⟨j,L,K⟩:=ZP.mp (show y∈its by simpa using C);have g:its[j]?=some y:=by rw[Zh L,K]
   have c:i[j]?=some (i[j]'(by omega)):=Zh _;by_cases t:∃(j:Nat) (x:D),its[j]?=some y/\i[j]?=some x/\bJ S bg x d=some HX
   ·obtain⟨j',x',N,E,G⟩:=id t;show EqAt A.in1 s y u (decide (∃(j:Nat) (x:D),its[j]?=some y/\i[j]?=some x/\bJ S bg x d=some HX));rw[ZO t];exact m j' x' y E N HX G
   ·show EqAt A.in1 s y u (decide (∃(j:Nat) (x:D),its[j]?=some y/\i[j]?=some x/\bJ S bg x d=some HX));rw[Zx t];obtain⟨b,n⟩:=I3.mp (Q (bJ S bg (i[j]'(by omega)) d) (Zo.mpr ⟨_,Zq c,rfl⟩));cases b with
    |false=>exact m j _ y c g HY n
    |true=>exact absurd ⟨j,_,g,c,n⟩ t
  ·rw[R];apply Jg.mpr;rw[List.any_toArray,Kr,Kr];constructor
   ·rintro⟨y,C,B⟩;obtain⟨j,x,N,E,G⟩:=Z0 B;exact⟨some HX,Zo.mpr ⟨x,Zq E,G⟩,rfl⟩
   ·rintro⟨o,Z,B⟩;obtain⟨x,M,rfl⟩:=Zo.mp Z;obtain⟨j,L,K⟩:=ZP.mp M;have c:i[j]?=some x:=by rw[Zh L,K]
    have g:its[j]?=some (its[j]'(by omega)):=Zh _;exact⟨_,Zq g,ZO ⟨j,x,g,c,by simpa using B⟩⟩
 ·rename_i J;rw[J]at l;cases l
theorem cU(O:Ka)(D:X.A.units+64<cLine):bZ X (compareOp O) (rD X.K X.mg (ao O)):=by
 intro p s l H x y v u Q I g i h;obtain⟨F,z,S,d,e,c,r,R,w⟩:=h;have hd:bg=40:=rfl;have fin:∀{k:Bool},Q (.bl k) H->EP X p l Q (.bool k) s:=λ{k} q=>⟨.bl k,H,I,rfl,q⟩;cases O with
 |Eq=>obtain⟨k,E,q⟩:=fg (o:=bJ S bg d e) w c;exact(uq I c bg X.A (by omega) d e x y v u k r g R i E).1 X.prog X.w _ _ (fin q)
 |NotEq=>obtain⟨k,E,q⟩:=fg (o:=(bJ S bg d e).map not) w c;obtain⟨K,m,rfl⟩:=ZY.mp E;exact(uq I c bg X.A (by omega) d e x y v u K r g R i m).2.1 X.prog X.w _ _ (fin q)
 |Lt=>obtain⟨k,E,q⟩:=fg (o:=j0 S bg d e) w c;exact iB I c bg X.A (by omega) d e x y v u k r g R i E X.prog X.w _ _ (fin q)
 |LtE=>
  replace w:aF X.K ⟨X.mg,F⟩ z H Q (A_ d e S):=w;unfold A_ at w;split at w
  ·have:=ax r;have:=ax R;subst x y
   exact uV p s l H _ _ v u Q I g i ⟨_,_,rfl,rfl,w.now c cg⟩
  ·rename_i as bs;obtain⟨k,E,q⟩:=fg (o:=vF as bs) w c;obtain⟨a,vs,rfl,G,T⟩:=bz r;obtain⟨b,W,rfl,J,U⟩:=bz R;cases g;cases i;obtain⟨V,M,P,_⟩:=I.tuple G;obtain⟨zs,N,L,_⟩:=I.tuple J;exact CC P L (by omega) (iA as bs vs W V zs k T M U N E) X.prog X.w _ _ (fin q)
  ·exact w.elim
 |Gt=>
  replace w:aF X.K ⟨X.mg,F⟩ z H Q (CD d e S):=w;unfold CD at w;split at w
  ·have:=ax r;have:=ax R;subst x y
   exact uW p s l H _ _ v u Q I g i ⟨_,_,rfl,rfl,w.now c cg⟩
  ·exact w.elim
 |GtE=>
  replace w:aF X.K ⟨X.mg,F⟩ z H Q (CF d e S):=w;unfold CF at w;split at w
  ·have:=ax r;have:=ax R;subst x y
   exact uX p s l H _ _ v u Q I g i ⟨_,_,rfl,rfl,w.now c cg⟩
  ·exact w.elim
 |In=>
  obtain⟨k,E,q⟩:=fg (o:=fP d e S) w c;cases t:aA S e with
  |some Z=>
   obtain⟨a,C,f,rfl,j,n,rfl⟩:=oU I c (A:=X.A) D r g R i (by rw[t];rfl) E;rcases j with j|j
   ·exact in_listAt f j n (fin q)
   ·exact in_tupleAt f j n (fin q)
  |none=>obtain⟨Y,y',rfl,rfl,B⟩:=iy (by unfold fP at E;rw[t]at E;exact E);cases bR r;cases bR R;exact BP p s l H _ _ v u Q I g i ⟨_,_,rfl,rfl,by rw[B];exact q⟩
 |NotIn=>
  obtain⟨k,E,q⟩:=fg (o:=(fP d e S).map not) w c;obtain⟨K,m,rfl⟩:=ZY.mp E;cases t:aA S e with
  |some Z=>
   obtain⟨a,C,f,rfl,j,n,rfl⟩:=oU I c (A:=X.A) D r g R i (by rw[t];rfl) m;rcases j with j|j
   ·exact notIn_listAt f j n (fin q)
   ·exact notIn_tupleAt f j n (fin q)
  |none=>obtain⟨Y,y',rfl,rfl,B⟩:=iy (by unfold fP at m;rw[t]at m;exact m);cases bR r;cases bR R;exact BQ p s l H _ _ v u Q I g i ⟨_,_,rfl,rfl,by rw[B];exact q⟩
 |Is=>
  replace w:aF X.K ⟨X.mg,F⟩ z H Q (CG d e S):=w;unfold CG at w;split at w
  ·cases fM R;exact p8 p s l H _ _ v u Q I g i ⟨rfl,by rw[vG r];exact w.now c cg⟩
  ·exact w.elim
 |IsNot=>
  replace w:aF X.K ⟨X.mg,F⟩ z H Q (qs d e S):=w;unfold qs at w;split at w
  ·cases fM R;exact ko p s l H _ _ v u Q I g i ⟨rfl,by rw[vG r];exact w.now c cg⟩
  ·exact w.elim
end Py
namespace Py
def rC(K:Fg)(m:Mg)(g:List D->ae->Res D):List V->Hp->VK->Prop:=λxs H Q=>∃F μ S ds,aC K ⟨m,F⟩ μ S H/\ag K ⟨m,F⟩ μ H ds xs/\aF K ⟨m,F⟩ μ H Q (g ds S)
theorem ag.one{m:GS}{vs:List V}(r:ag K m μ H [d] vs):∃v,vs=[v]/\Rep K m μ H d v:=by obtain⟨v,w,rfl,h,t⟩:=r.uncons;unfold ag at t;simp_all
theorem ag.two{m:GS}{e:D}{vs:List V}(r:ag K m μ H [d,e] vs):∃v w,vs=[v,w]/\Rep K m μ H d v/\Rep K m μ H e w:=by obtain⟨v,W,rfl,h,t⟩:=r.uncons;obtain⟨w,rfl,a⟩:=t.one;lia
theorem kU{m:GS}{vs:List V}{i:Int}(r:ag K m μ H ds vs)(h:dU ds i=some d):∃v,dU vs i=some v/\Rep K m μ H d v:=by
 unfold dU at h⊢;rw[<-r.length];cases e:gD _ i with
 |none=>simp_all
 |some j=>rw[e]at h;exact r.get h
noncomputable def bb(d e:D)(S:ae):Res D:=match aA S d,e with
 |some xs,.int i=>match dU xs i with
  |some y=>.ok y S
  |none=>.fail
 |_,_=>qq d e S
theorem CI:um X (rD X.K X.mg bb):=by
 intro V b p s k H x y v u Q I R j h c;obtain⟨F,t,S,d,e,g,n,o,w⟩:=h;unfold bb at w;split at w
 ·rename_i A i E;split at w
  ·rename_i Y q;obtain⟨a,vs,rfl,f,r⟩:=e9 g n E;cases ax o;obtain⟨z,l,m⟩:=kU r q;rcases f with f|f
   ·exact vj V b p s k H _ _ v u Q I R j ⟨a,vs,i,z,rfl,rfl,f,l,w.now g m⟩ c
   ·exact qd V b p s k H _ _ v u Q I R j ⟨a,vs,i,z,rfl,rfl,f,l,w.now g m⟩ c
  ·exact w.elim
 ·exact Cy V b p s k H _ _ v u Q I R j ⟨F,t,S,_,_,g,n,o,w⟩ c
noncomputable def eQ(ds:List D)(S:ae):Res D:=match ds with
 | [.str x]=>if x.length<=a' then .ok (.int x.length) S else .fail
 | [d]=>match aA S d with
  |some xs=>.ok (.int xs.length) S
  |none=>.fail
 |_=>.fail
theorem vH:bh X (.builtin "len") (rC X.K X.mg eQ):=by
 intro p s j H g u Q I r h;obtain⟨F,i,S,D,c,R,w⟩:=h;unfold eQ at w;split at w
 ·split at w
  ·obtain⟨v,rfl,b⟩:=R.one;cases bR b;exact Ce _ s _ H _ _ Q I r ⟨_,rfl,by trivial,w.now c bA⟩
  ·exact w.elim
 ·split at w
  ·rename_i x e;obtain⟨v,rfl,b⟩:=R.one;obtain⟨a,vs,rfl,d,f⟩:=e9 c b e;refine Cd _ s _ H _ _ Q I r ⟨a,_,rfl,d,?_⟩;rw[<-f.length];exact w.now c bA
  ·exact w.elim
 ·exact w.elim
noncomputable def kW(ds:List D)(S:ae):Res D:=match ds with
 | [.tup xs]=>.ok (.tup xs) S
 | [d]=>match aA S d with
  |some xs=>.ok (.tup xs) S
  |none=>.fail
 |_=>.fail
theorem vI{m:GS}(s:aC K m μ S H)(r:Rep K m μ H d v)(e:aA S d=some xs)(b:∀ys,d≠.tup ys):∃a vs,v=.ref a/\cP K H a vs/\ag K m μ H xs vs:=by
 cases d with
 |lst ys=>obtain⟨a,vs,E,h,q⟩:=dh s r (show dV S _=some _ from e);exact⟨a,_,E,.of h,q⟩
 |ref n=>obtain⟨a,vs,E,h,q⟩:=dh s r (show dV S _=some _ from e);exact⟨a,_,E,.of h,q⟩
 |tup ys=>simp_all
 |scr ys=>cases e;obtain⟨a,vs,e,h,q⟩:=r;exact⟨a,_,e,h.sq,q⟩
 |_=>cases e
theorem kX:bh X (.type "tuple") (rC X.K X.mg kW):=by
 intro P s m H k u Q I r h;obtain⟨F,l,S,D,f,g,w⟩:=h;unfold kW at w;split at w
 ·obtain⟨v,rfl,b⟩:=g.one;obtain⟨a,vs,rfl,c,R⟩:=bz b;exact vm _ s _ H _ _ Q I r ⟨a,_,rfl,.inr ⟨c,w.now f b⟩⟩
 ·rename_i d i;split at w
  ·rename_i x e;obtain⟨v,rfl,b⟩:=g.one;obtain⟨a,vs,rfl,c,R⟩:=vI f b e λy z=>i y (by omega);exact vm _ s _ H _ _ Q I r ⟨a,_,rfl,.inl ⟨c,λp j=>w.tup f R p j⟩⟩
  ·exact w.elim
 ·exact w.elim
noncomputable def iD(box:Bool)(ds:List D)(S:ae):Res D:=match ds with
 | [d]=>match aA S d with
  |some xs=>if box then .ok (.ref S.length) (S++[xs])else .ok (.lst xs) S
  |none=>.fail
 |_=>.fail
theorem qt(box:Bool):bh X (.type "list") (rC X.K X.mg (iD box)):=by
 intro P s k H i u Q I r h;obtain⟨F,j,S,D,b,g,w⟩:=h;unfold iD at w;split at w
 ·split at w
  ·rename_i x e;obtain⟨v,rfl,f⟩:=g.one;obtain⟨a,vs,rfl,d,R⟩:=e9 b f e;refine Cf _ s _ H _ _ Q I r ⟨a,_,rfl,d,λp c=>?_⟩;split at w
   ·exact w.box b R p c
   ·exact w.lst b R p c
  ·exact w.elim
 ·exact w.elim
noncomputable def intD(ds:List D)(S:ae):Res D:=match ds with
 | [.int i]=>.ok (.int i) S
 | [.bl b]=>.ok (.int (if b then 1 else 0)) S
 |_=>qr ds S
theorem vJ:bh X (.type "int") (rC X.K X.mg intD):=by
 intro p s c H x u Q I r h;obtain⟨F,e,S,d,b,R,w⟩:=h;unfold intD at w;split at w
 ·obtain⟨v,rfl,a⟩:=R.one;cases ax a;exact u0 p s c H _ u Q I r (.inl ⟨_,rfl,w.now b bA⟩)
 ·obtain⟨v,rfl,a⟩:=R.one;cases e_ a;exact u0 p s c H _ u Q I r (.inr ⟨_,rfl,w.now b bA⟩)
 ·exact vC I r b R w
noncomputable def aY(S:ae):D->Option Bool
 | .non=>some HY
 | .bl b=>some b
 | .int i=>some (i !=0)
 | .str x=>if x.length<=a' then some ((x.length:Int) !=0)else none
 |d=>(aA S d).map λxs=> !xs.isEmpty
theorem oV{m:GS}{k:Bool}(j:aC K m μ S H)(r:Rep K m μ H d v)(e:aY S d=some k):gA K v H k:=by
 have seq:∀(x:List D),aA S d=some x->k= !x.isEmpty->gA K v H k:=λx f E=>by
  obtain⟨a,vs,rfl,c,q⟩:=e9 j r f;have i:=q.length;have g:x.isEmpty=vs.isEmpty:=by cases x<;>cases vs<;>simp at i⊢
  rw[g]at E;rcases c with c|c
  ·exact .inl ⟨_,c,E⟩
  ·exact .inr (.inl ⟨_,c,E⟩)
 have s:(aA S d).map _=some k->gA K v H k:=λh=>by obtain⟨x,f,E⟩:=ZY.mp h;exact seq _ f E.symm
 cases d with
 |non=>cases fM r;cases e;rfl
 |bl b=>cases e_ r;cases e;rfl
 |int b=>cases ax r;cases e;rfl
 |str b=>
  cases bR r;replace e:(if b.length<=a' then some _ else none)=some k:=e;split at e
  ·cases e;exact⟨by trivial,rfl⟩
  ·cases e
 |tup b=>exact s e
 |lst b=>exact s e
 |ref b=>exact s e
 |scr b=>exact s e
 |fn b=>exact s e
 |dct=>exact s e
 |dks b=>exact s e
 |ty b=>exact s e
noncomputable def cM(xs:List D)(l h:Option Int):List D:=(xs.drop (HT.bn xs.length 0 l)).take (HT.bn xs.length xs.length h-HT.bn xs.length 0 l)
theorem vK{m:GS}{vs:List V}(r:ag K m μ H ds vs):ag K m μ H (cM ds lo hi) (gC vs lo hi):=by unfold cM gC;rw[r.length];exact(r.drop _).take _
noncomputable def gG(d:D)(l h:Option Int)(S:ae):Res D:=match d with
 | .tup xs=>.ok (.tup (cM xs l h)) S
 |d=>match aA S d with
  |some xs=>.ok (.lst (cM xs l h)) S
  |none=>vB d l h S
def HK(K:Fg)(m:Mg):V->Option Int->Option Int->Hp->VK->Prop:=λx lo hi H Q=>∃F μ S d,aC K ⟨m,F⟩ μ S H/\Rep K ⟨m,F⟩ μ H d x/\aF K ⟨m,F⟩ μ H Q (gG d lo hi S)
theorem CJ{t:H7}(H:LW s.heap t items)(hs:s.heap.IsSliceOf sl vl vu .none)(pl:Km vl lo)(p:Km vu hi)
  (hw:HT.bn items.size 0 lo=0/\HT.bn items.size items.size hi=items.size) (h:Q (.ref t) s):wpAny (model prog w) A (getItem (.ref t) (.ref sl)) Q E s:=by
 obtain⟨o,b,a,c⟩:=id hs;unfold getItem
 try with_reducible refine ZE ?_
 refine Za (Kw H.typeIs (rfl) ?_)
 refine Za (ZG H.typeIs ZD
  (ZJ ZD H.typeIs Kb ?_ (Ko _ _)))
 show wpAny _ _ (Jb _>>=_) _ _ s;refine Za (Lh H ?_);refine Za (JB ⟨_,b,a⟩ ?_);refine Za (HT.vc hs pl p ?_);show wpAny _ _ (if(((HT.bn _ 0 _:Nat):Int)==0&&(1)==1&&(HT.bn _ _ _-HT.bn _ 0 _)==items.size)=HX then _ else _) _ _ s;rw[if_pos (by simp_all)];exact Za (Za (JB H.typeIs (Zd (Za (KW (Zd ⟨_,rfl,Zd h⟩))))))
theorem CK:A9 X (HK X.K X.mg):=by
 intro y s B H x v V A l g sl Q I m j P k h;obtain⟨F,G,S,d,c,R,w⟩:=h;unfold gG at w;split at w
 ·rename_i q;obtain⟨a,vs,rfl,i,r⟩:=bz R;have t:=r.length;by_cases f:HT.bn vs.length 0 l=0/\HT.bn vs.length vs.length g=vs.length
  ·cases m;obtain⟨o,D,u,E⟩:=I.tuple i;have b:o.toArray.size=vs.length:=by rw[Zs];exact D.length.symm
   refine⟨"tuple",_,PyProof.Rows.slot_tuple_getitem.lookup,u.typeIs,?_⟩;refine CJ u j P k (by rw[b];exact f) ⟨.ref a,H,I,rfl,?_⟩;have e:cM q l g=q:=by unfold cM;rw[t,f.1,f.2];simp[<-t]
   rw[e]at w;exact w.now c R
  ·exact sl_tup y s B H _ v V A l g sl Q I m j P k ⟨a,vs,rfl,i,f,λp n=>w.tup c (vK r) p n⟩
 ·rename_i d C;split at w
  ·rename_i q e;obtain⟨a,vs,rfl,i,r⟩:=vI c R e (λY z=>C Y z);exact kI y s B H _ v V A l g sl Q I m j P k ⟨a,vs,rfl,i,λp n=>w.lst c (vK r) p n⟩
  ·exact Cz I m j P k c R w
noncomputable def qu(S:ae):D->Option String
 | .non=>some "NoneType"
 | .bl _=>some "bool"
 | .int _=>some "int"
 | .str _=>some "str"
 | .tup _=>some "tuple"
 | .lst _=>some "list"
 | .ref n=>(S[n]?).map λ_=>"list"
 | .scr _=>some "list"
 | .dct=>some "dict"
 |_=>none
noncomputable def iE(t c:String):Option Bool:=
 if ["NoneType","bool","int","str","tuple","list","dict"].contains t&&["bool","int","str","tuple","list","dict"].contains c then some (t==c||(t=="bool"&&c=="int"))else none
theorem kY{t c:String}{b:Bool}(h:iE t c=some b):PySem.W.kitOne K (.type t) (.type c)=some b:=by
 unfold iE at h;split at h
 ·rename_i H;simp at H;cases h;obtain⟨a,d⟩:=H;rcases a with rfl|rfl|rfl|rfl|rfl|rfl|rfl<;>rcases d with rfl|rfl|rfl|rfl|rfl|rfl<;>first|rfl|decide+kernel
 ·cases h
noncomputable def bS(ds:List D)(S:ae):Res D:=match ds with
 | [d,.ty c]=>match qu S d with
  |some t=>a7 (iE t c) S
  |none=>.fail
 |_=>.fail
theorem CL:bh X (.builtin "isinstance") (rC X.K X.mg bS):=by
 intro P s B H V us Q I r h;obtain⟨F,μ,S,W,m,N,w⟩:=h;unfold bS at w;split at w
 ·rename_i d c;split at w
  ·rename_i t E;obtain⟨b,J,q⟩:=fg w m;obtain⟨v,z,rfl,g,x⟩:=N.two;have k:z=.ty c:=by unfold Rep at x;exact x
   subst k;obtain⟨u,y,rfl,R,U⟩:=r.two;cases U;have e:=kY (K:=X.K) J;have fin:∀T,EP X P B Q (.bool b) {s with toks:=T}:=λT=>⟨.bl b,H,I.tok _,rfl,q⟩
   have lst:∀a vs,v=.ref a->cP X.K H a vs->t="list"->wpAny (model X.prog X.w) X.A (call _ [u,.type c]) (EP X P B Q) X.xe s:=λa vs L f E=>by subst L;subst E;cases R;obtain⟨l,O,M,_⟩:=I.list f;obtain⟨o,i,j,_⟩:=M.isList;exact PySem.W.kia_one PySem.W.kitx_list I.kIn ⟨o,i,j⟩ e (λz=>nomatch z) fin
   cases d with
   |non=>cases fM g;cases R;cases E;exact PySem.W.kia_one PySem.W.kitx_none I.kIn LJ e (λz=>nomatch z) fin
   |bl b=>cases e_ g;cases R;cases E;exact PySem.W.kia_one PySem.W.kitx_bool I.kIn LJ e (λz=>nomatch z) fin
   |int b=>cases ax g;obtain⟨t,rfl⟩:=R;cases E;exact PySem.W.kia_one PySem.W.kitx_int I.kIn LJ e (λz=>nomatch z) fin
   |str b=>cases bR g;obtain⟨t,rfl⟩:=R;cases E;exact PySem.W.kia_one PySem.W.kitx_str I.kIn LJ e (λz=>nomatch z) fin
   |tup b=>obtain⟨a,vs,rfl,f,_⟩:=bz g;cases R;cases E;obtain⟨l,O,p,_⟩:=I.tuple f;obtain⟨o,i,j,_⟩:=p;exact PySem.W.kia_one PySem.W.kitx_tuple I.kIn ⟨o,i,j⟩ e (λz=>nomatch z) fin
   |lst b=>obtain⟨a,vs,rfl,f,_⟩:=dh m g rfl;cases E;exact lst a vs rfl (.of f) rfl
   |ref n=>obtain⟨V,C,D⟩:=ZY.mp E;obtain⟨a,vs,rfl,f,_⟩:=dh m g C;exact lst a vs rfl (.of f) D.symm
   |scr b=>obtain⟨a,vs,rfl,f,_⟩:=g;cases E;exact lst a vs rfl f.sq rfl
   |dct=>obtain⟨a,rfl,G⟩:=g;cases R;cases E;obtain⟨_,_,vs,_,p⟩:=(show aW X.prog X.w H s.heap a (.dK [])from I.hok a _ G);obtain⟨o,Z,Y,i,j,_⟩:=p;exact PySem.W.kia_one PySem.W.kitx_dict I.kIn ⟨o,i,j.1⟩ e (λz=>nomatch z) fin
   |fn b=>cases E
   |ty b=>cases E
   |dks b=>cases E
  ·exact w.elim
 ·exact w.elim
noncomputable def h_:D->Option Bool
 | .bl b=>some b
 |_=>none
noncomputable def kZ(ds:List D)(S:ae):Res D:=match ds with
 | [d]=>match aA S d with
  |some xs=>a7 (ba (xs.map h_)) S
  |none=>.fail
 |_=>.fail
theorem vL{M:GS}{vs:List V}(r:ag K M μ H xs vs)(q:Vals vs its)(h:∀(j:Nat) o,(xs.map h_)[j]?=some o->o=some (eJ (xs.map h_) j)):
  ∀(i:Nat) v,its.toArray[i]?=some v->v=.bool (eJ (xs.map h_) i):=λi v l=>by
 have l1:=r.length;have l2:=q.length
 have a:=by simpa using l
 have n:=(Zm.mp a).1;have m:xs[i]?=some (xs[i]'(by omega)):=Zh _;obtain⟨w,g,e⟩:=r.get m;obtain⟨u,f,k⟩:=q.get g;rw[a]at f;cases f;have c:=h i (h_ (xs[i]'(by omega))) (by simp_all);revert e c;generalize xs[i]'(by omega)=d;intro e c;cases d with
 |bl b=>
  cases e_ e;have:=by simpa[h_]using c
  rw[<-this];exact k
 |_=>cases c
theorem qv(C:X.calm=HX)(I:Inv X pq σ H s)(M:aC X.K ⟨X.mg,F⟩ μ S H)(G:Rep X.K ⟨X.mg,F⟩ μ H d v)(J:RelV v u)(e:aA S d=some xs)
  (h:∀(j:Nat) o,(xs.map h_)[j]?=some o->o=some (eJ (xs.map h_) j)) (b:Bool->Bool) {Q:VK} {fb:Nat->Bool} (q:Q (.bl (fb xs.length)) H):
  wpAny (model X.prog X.w) X.A.in1 (pyIter u) (λit g=>∃I fp wr n P St,it=.ref I/\Walks X.prog X.w X.A.in1 I fp wr n P St/\St 0 g.heap/\TruthOf X.prog X.w X.A.in1 P (eJ (xs.map h_))/\
   ∀h' tk,(∀b o,b∉wr->g.heap.get? b=some o->h'.get? b=some o)->EP X pq σ Q (.bool (fb n)) {g with heap:=h',toks:=tk}) X.xe s:=by
 obtain⟨a,vs,rfl,m,r⟩:=e9 M G e;cases J;have y:X.A.in1.handled=none:=I.ok.hd C;rcases m with m|m
 ·obtain⟨c,R,p,D⟩:=I.list m;have B:=vL r R h;refine I' p.isList ?_;have k:a≠s.heap.objs.size:=by obtain⟨o,f,_⟩:=p.isList;exact Zu (Zi f)
  refine⟨_,_,_,_,_,_,rfl,Walks.list y s.heap.objs.size a k c.toArray,⟨⟨_,Zg _ rfl,rfl,rfl⟩,Heap.IsList.push p.isList _⟩,?_,λh' tk K=>?_⟩
  ·intro i v L A E w l;rw[B i v w];exact ZM l
  ·have t:c.toArray.size=xs.length:=by rw[Zs,<-R.length,<-r.length]
   rw[t];refine⟨.bl _,H,I.kept (h':=h') (t':=tk) λb o f=>K b o ?_ (Zb _ f),rfl,q⟩;intro z;have Z:b=s.heap.objs.size:=by simpa using z
   exact absurd (Zi f) (by rw[Z];exact Iq _)
 ·obtain⟨c,R,p,D⟩:=I.tuple m;have B:=vL r R h;refine IY (show s.heap.IsTuple a c.toArray from p) ?_;have k:a≠s.heap.objs.size:=by obtain⟨o,f,_⟩:=p;exact Zu (Zi f)
  refine⟨_,_,_,_,_,_,rfl,Walks.tuple y s.heap.objs.size a k c.toArray,⟨⟨_,Zg _ rfl,rfl,rfl⟩,by obtain⟨o,f,r⟩:=p;exact⟨o,Zb _ f,r⟩⟩,?_,λh' tk K=>?_⟩
  ·intro i v L A E w l;rw[B i v w];exact ZM l
  ·have t:c.toArray.size=xs.length:=by rw[Zs,<-R.length,<-r.length]
   rw[t];refine⟨.bl _,H,I.kept (h':=h') (t':=tk) λb o f=>K b o ?_ (Zb _ f),rfl,q⟩;intro z;have Z:b=s.heap.objs.size:=by simpa using z
   exact absurd (Zi f) (by rw[Z];exact Iq _)
theorem vM(t:X.calm=HX):bh X (.builtin "all") (rC X.K X.mg kZ):=by
 intro C s K H G U Q I r h;obtain⟨F,J,S,D,b,R,w⟩:=h;unfold kZ at w;split at w
 ·split at w
  ·rename_i d Y e;obtain⟨k,E,q⟩:=fg w b;obtain⟨v,rfl,x⟩:=R.one;obtain⟨u,rfl,y⟩:=r.one;obtain⟨p,a⟩:=kR _ _ E;have hw:=qv t I b x y e p id (Q:=Q) (fb:=λn=>(H_ n).all (eJ (Y.map h_))) (by rw[Zk]at a;rw[<-a];exact q);exact call_all_walk (Iy hw (λit c ⟨f,o,W,n,P,g,A,i,j,l,m⟩=>⟨f,o,W,n,P,g,_,A,i,j,l,m⟩) λ_ _ z=>z)
  ·exact w.elim
 ·exact w.elim
def rM(K:Fg)(m:Mg)(g:D->List D->ae->Res D):V->List V->Hp->VK->Prop:=λx xs H Q=>∃F μ S d ds,aC K ⟨m,F⟩ μ S H/\Rep K ⟨m,F⟩ μ H d x/\ag K ⟨m,F⟩ μ H ds xs/\aF K ⟨m,F⟩ μ H Q (g d ds S)
theorem vN{m:GS}(s:aC K m μ S H)(r:Rep K m μ H (.ref n) v)(e:S[n]?=some xs):∃a vs,v=.ref a/\μ[n]?=some a/\H a=some (.lst vs)/\ag K m μ H xs vs:=by obtain⟨a,rfl,h⟩:=r;obtain⟨vs,b,q⟩:=s.at_ n a _ h e;exact⟨a,_,rfl,h,b,q⟩
noncomputable def qw(d:D)(ds:List D)(S:ae):Res D:=match d,ds with
 | .ref n,[y]=>match S[n]? with
  |some xs=>if xs.length<a' then .ok .non (S.set n (xs++[y]))else .fail
  |none=>.fail
 |_,_=>.fail
theorem CM:kH X "list.append" (rM X.K X.mg qw):=by
 intro p s t H x o v u Q I k j h;obtain⟨F,q,S,d,D,c,i,R,w⟩:=h;have l:=gE;unfold qw at w;split at w
 ·split at w
  ·rename_i n y Y e;split at w
   ·obtain⟨a,vs,rfl,f,b,r⟩:=vN c i e;obtain⟨z,rfl,g⟩:=R.one;have m:=r.length;exact vr _ s _ H _ _ v _ Q I k j ⟨a,_,z,rfl,rfl,b,by simp_all,w.wrote c f b (r.append (.cons g .nil)) kO⟩
   ·exact w.elim
  ·exact w.elim
 ·exact w.elim
noncomputable def gH(d e f:D)(S:ae):Option ae:=match d,e with
 | .ref n,.int i=>match S[n]? with
  |some xs=>match gD xs.length i with
   |some j=>some (S.set n (xs.set j f))
   |none=>none
  |none=>none
 |_,_=>none
noncomputable def CN(K:Fg)(m:Mg):j_:=λo i v H Q=>∃F μ S d e f,aC K ⟨m,F⟩ μ S H/\Rep K ⟨m,F⟩ μ H d o/\Rep K ⟨m,F⟩ μ H e i/\Rep K ⟨m,F⟩ μ H f v/\
 ∃S',gH d e f S=some S'/\∀μ' H',Ext μ H μ' H'->aC K ⟨m,F⟩ μ' S' H'->Q H'
theorem vO:pM X (CN X.K X.mg):=by
 intro P s C H o i v O A u Q I x t y h;obtain⟨F,B,S,d,e,f,l,R,p,q,z,E,w⟩:=h;unfold gH at E;split at E
 ·split at E
  ·rename_i n k _ Y m;split at E
   ·rename_i j c;cases E;obtain⟨a,vs,rfl,g,b,r⟩:=vN l R m;cases ax p;rw[r.length]at c;exact B_ _ s _ H _ _ v _ _ u Q I x t y ⟨a,_,k,j,rfl,rfl,b,c,w _ _ (.wrote (Zq g) b) (l.wrote g b (r.set j q))⟩
   trivial
  trivial
 trivial
noncomputable def bT(env:Env):List (Str×IQ)->List (Str×H7)->List (Str×H7)
 | [],cs=>cs
 | (n,k)::r,cs=>bT env r (if k== .free then(match env.cells.lookup n with|some c=>(n,c)::cs|none=>cs)else cs)
theorem CO(h:∀x∈scope.names,x.2=.free->∃c,env.cells.lookup x.1=some c):closureFor scope env=pure (bT env scope.names []):=by
 unfold closureFor
 have K:∀(l:List _) (C:List _),(∀x∈l,x.2=.free->∃c,env.cells.lookup x.1=some c)->
   (forIn l C λx r=>(if(x.2==KI)=HX then do let c <-cellOf env x.1;pure (Iw ((x.1,c)::r))else pure (Iw r):Sem _))=pure (bT env l C):=by
  intro l
  induction l with
  |nil=>intro C _;rfl
  |cons x l i=>
   intro C d;obtain⟨n,k⟩:=x;unfold bT;by_cases b:k=.free
   ·subst b;obtain⟨c,H⟩:=d (n,.free) (by simp) rfl;have a:cellOf env n=pure c:=by unfold cellOf;rw[H]
    simp_all
   grind
 grind
theorem qx{env:Env}:∀(l:List (Str×IQ)) (cs:List (Str×H7)),(∀p∈cs,env.cells.lookup p.1=some p.2)->∀p∈bT env l cs,env.cells.lookup p.1=some p.2
 | [],cs,h,p,H=>h p H
 | (n,k)::r,cs,h,p,H=>by
  refine qx r _ (λq a=>?_) p H
  grind
theorem vP{env:Env}:∀(l:List (Str×IQ)) (cs:List (Str×H7)),∀p∈cs,p∈bT env l cs
 | [],cs,p,h=>h
 | (n,k)::r,cs,p,h=>by
  refine vP r _ p ?_
  grind
theorem vQ{env:Env}{x:Str}{c:H7}(H:env.cells.lookup x=some c):∀(l:List (Str×IQ)) (cs:List (Str×H7)),(x,KI)∈l->(x,c)∈bT env l cs
 | [],cs,h=>by simp_all
 | (n,k)::r,cs,h=>by
  rcases Zj.mp h with e|h
  ·refine vP r _ _ ?_;simp_all
  ·exact vQ H r _ h
theorem vR{a:Type}{x:Str}{c:a}:∀{l:List (Str×a)},(x,c)∈l->∃d,l.lookup x=some d
 | [],h=>by simp_all
 | (n,d)::r,h=>by
  dsimp only[Lj];cases e:x==n with
  |true=>simp
  |false=>
   rcases Zj.mp h with E|h
   ·simp_all
   ·exact vR h
theorem vS{env:Env}:∀{N:List (Str×IQ)} {x:Str} {k:IQ},(N.map λ(n,k)=>if(k==KI&&env.scope.kind== .function&&env.kindOf n==some .cell)then(n,Ik)else(n,k)).lookup x=some k->
  ∃K,N.lookup x=some K/\(k=K\/(K=.free/\k=.cell))
 | [],_,_,h=>by trivial
 | (n,a)::r,x,k,h=>by
  have i:= @vS env r x k
  grind
theorem vT{env:Env}:∀{N:List (Str×IQ)} {x:Str},N.lookup x=some .free->
  let m:=(N.map λ(n,k)=>if(k==KI&&env.scope.kind== .function&&env.kindOf n==some .cell)then(n,Ik)else(n,k))
  m.lookup x=some .cell\/m.lookup x=some .free
 | [],_,h=>by trivial
 | (n,K)::r,x,h=>by
  have i:= @vT env r x
  grind
theorem iF:∀(N:List (Str×IQ)) (n:Nat) (a b:List (Str×H7)),cellsFrom n N (a++b)=cellsFrom n N a++b
 | [],_,_,_=>rfl
 | (x,k)::r,n,a,b=>by
  show(if(k==Ik)=HX then cellsFrom _ r _ else cellsFrom n r _)=(if(k==Ik)=HX then cellsFrom _ r _ else cellsFrom n r a)++b;split
  ·exact iF r _ ((x,n)::a) b
  ·exact iF r n a b
theorem qy{x:Str}{c:H7}:∀(N:List (Str×IQ)) (n:Nat) (a:List (Str×H7)),(x,c)∈cellsFrom n N a->(x,c)∈a\/(x,Ik)∈N
 | [],_,_,h=>.inl h
 | (y,k)::r,n,a,h=>by
  replace h:(x,c)∈if(k==Ik)=HX then cellsFrom _ r _ else cellsFrom n r a:=h;split at h
  ·rcases qy r _ _ h with h|h
   ·grind
   simp[*]
  ·rcases qy r n _ h with h|h
   ·exact .inl h
   simp_all
theorem qz{M:Model}{A:IH}{E:Vs}:∀(n:List (Str×IQ)) (cs:List (Str×H7)) (s:HZ) (Q:List (Str×H7)->HZ->Prop),Q (cellsFrom s.heap.objs.size n cs) {s with heap:=pushCells s.heap n}->
  wpAny M A (forIn n cs λx r=>match x with
   | (name,kind)=>if(kind==Ik)=HX then do
     let c <-alloc {cls:=II "cell",data:=Data.cell none}
     pure (Iw ((name,c)::r))
    else pure (Iw r)) Q E s
 | [],cs,s,Q,h=>by exact Zd h
 | (x,k)::r,cs,s,Q,h=>by
  rw[JY];have h:Q (if(k==Ik)=HX then cellsFrom (s.heap.objs.size+1) r ((x,s.heap.objs.size)::cs)else cellsFrom s.heap.objs.size r cs) {s with heap:=if(k==Ik)=HX then pushCells (s.heap.push {cls:=.type "cell",data:=.cell none}) r else pushCells s.heap r}:=h;cases a:(k==Ik)with
  |true=>refine Za ?_;show wpAny M A (if(k==Ik)=HX then _ else _) _ _ _;rw[a];refine Za (wpAny_alloc (Zd ?_));refine qz r _ {s with heap:=s.heap.push {cls:=.type "cell",data:=.cell none}} Q ?_;simp_all
  |false=>rw[a,if_neg (by simp)]at h;refine Za ?_;show wpAny M A (if(k==Ik)=HX then _ else _) _ _ _;rw[a];exact Zd (qz r _ s Q h)
theorem CP{M:Model}{A:IH}{E:Vs}{g:H7}{c:List (Str×H7)}{q:Str}{out:Env}{bl:H7}{Q:Env->HZ->Prop}
  (h:Q ⟨scope,s.heap.objs.size,g,cellsFrom (s.heap.objs.size+1) scope.names c,q,none,out.code,out.frame,out.builtins⟩ {s with heap:=pushCells (s.heap.push {cls:=.type "dict",data:=.dict #[]}) scope.names}):
  wpAny M A (newFunctionEnv scope g c [] q none .none (some out) bl) Q E s:=by
 refine Za (wpAny_alloc (Za (qz _ _ _ _ ?_)));refine Za (Zd (Zd ?_));simp_all
noncomputable def eR(X:Cx)(scope:Scope)(N:Ls)(C:H7)(s0:HZ)(a:Hp)(f:La):Cx:=
 {X with N:=N,s₀:=s0,H₀:=a,env:=compEnvC scope (cellsFrom (C+1) scope.names (bT X.env scope.names [])) C X.env,outer:=X.stack,stack:=X.stack,ex:=f,fn:=λx=>scope.names.lookup x==some .cell,pn:=[],xe:=λ_ _=>False}
structure dk (X:Cx)(scope:Scope):Prop where
 kind:scope.kind=.function
 cel:∀y∈scope.names,y.2=.cell->scope.names.lookup y.1=some .cell
 loc:∀y∈scope.names,y.2=.local->scope.names.lookup y.1=some .local
 free:∀y∈scope.names,y.2=.free->X.env.kindOf y.1=some .cell\/X.env.kindOf y.1=some .free
theorem iG(I:Inv X pq σ H s){b:H7}(h1:b≠X.env.locals)(h:b∉X.fs):b∉bE X.stack:=λz=>(Zj.mp (I.stkSub b z)).elim h1 h
theorem fQ{x:Str}{c:H7}(h:(cellsFrom n scope.names (bT X.env scope.names [])).lookup x=some c):(cellsFrom n scope.names []).lookup x=some c\/((cellsFrom n scope.names []).lookup x=none/\(bT X.env scope.names []).lookup x=some c):=by have e:=iF scope.names n [] (bT X.env scope.names []);rw[List.nil_append]at e;rw[e,List.lookup_append]at h;simp_all
theorem CQ{x:Str}{c:H7}(h:(cellsFrom n scope.names []).lookup x=some c):(cellsFrom n scope.names (bT X.env scope.names [])).lookup x=some c:=by
 have e:=iF scope.names n [] (bT X.env scope.names [])
 grind
theorem vU{x:Str}{c:H7}(h:(cellsFrom n scope.names []).lookup x=none)(H:(bT X.env scope.names []).lookup x=some c):(cellsFrom n scope.names (bT X.env scope.names [])).lookup x=some c:=by
 have e:=iF scope.names n [] (bT X.env scope.names [])
 grind
theorem CU{m:Mg}{tk:Nat}(hc:X.calm=HX)(I:Inv X pq σ H s)(S:dk X scope)(R:∀b∈fp,cQ X pq H b)(T:∀b∈fp,∃o,s.heap.get? b=some o)
  (hn:h1.Ns s.heap.objs.size m) (old:∀b o,s.heap.get? b=some o->h1.get? b=some o) (f:CellsOk h1 (s.heap.objs.size+1) (cellsFrom (s.heap.objs.size+1) scope.names [])) (hl:σ'.length=N.length)
  (U:∀(i:Nat) (v:V) (x:Str),N[i]?=some x->σ'[i]?=some (some v)->scope.names.lookup x=some .free/\∃j:Nat,X.N[j]?=some x/\σ[j]?=some (some v)):
  Inv (eR X scope N s.heap.objs.size s H fp) (X.pn++pq) σ' H {s with heap:=h1,toks:=tk}:=by
 have lt:∀{b:H7} {o:Obj},s.heap.get? b=some o->b≠s.heap.objs.size:=λe=>Zu (Zi e);have C:∀x c,(bT X.env scope.names []).lookup x=some c->X.env.cells.lookup x=some c:=λx c h=>qx scope.names [] (λ_ z=>nomatch z) (x,c) (Zw h);have a:∀x c,X.env.cells.lookup x=some c->c<s.heap.objs.size:=λx c h=>by obtain⟨v,q⟩:=I.cell x c h;exact q.lt
 have O:∀x c,(cellsFrom (s.heap.objs.size+1) scope.names []).lookup x=some c->h1.IsCell c none/\s.heap.objs.size+1<=c:=λx c h=>f.empty x c (Zw h)
 have E:∀x c,(cellsFrom (s.heap.objs.size+1) scope.names []).lookup x=some c->scope.names.lookup x=some .cell:=λx c h=>by
  rcases qy scope.names _ _ (Zw h)with z|z
  ·cases z
  ·exact S.cel _ z rfl
 have D:∀x,scope.names.lookup x=some .free->(cellsFrom (s.heap.objs.size+1) scope.names []).lookup x=none/\∃c,(bT X.env scope.names []).lookup x=some c:=λx h=>by
  refine⟨?_,?_⟩
  ·cases z:(cellsFrom (s.heap.objs.size+1) scope.names []).lookup x with
   |none=>rfl
   |some c=>have:=E x c z;rw[h]at this;cases this
  ·have hm:=Zw h;obtain⟨c,P⟩:=I.ok.has x (S.free _ hm rfl);exact vR (vQ P scope.names [] hm)
 have fC:∀x,((eR X scope N s.heap.objs.size s H fp).env.kindOf x=some .cell\/(eR X scope N s.heap.objs.size s H fp).env.kindOf x=some .free)->scope.names.lookup x=some .free\/scope.names.lookup x=some .cell:=λx h=>by
  have go:∀k,(k=Ik\/k=.free)->(relabel scope X.env).names.lookup x=some k->scope.names.lookup x=some .free\/scope.names.lookup x=some .cell:=λk hk h=>by
   obtain⟨k',h1,g⟩:=vS h;rcases g with rfl| ⟨rfl,_⟩
   ·rcases hk with rfl|rfl
    ·exact .inr h1
    ·exact .inl h1
   ·exact .inl h1
  rcases h with h|h
  ·exact go _ (.inl rfl) h
  ·exact go _ (.inr rfl) h
 have A:∀x y c,(cellsFrom (s.heap.objs.size+1) scope.names []).lookup x=some c->(cellsFrom (s.heap.objs.size+1) scope.names []).lookup y=some c->x=y:=λx y c h1 g=>by
  have m1:=Zw h1;have m2:=Zw g;have W:=f.apart;generalize cellsFrom (s.heap.objs.size+1) scope.names []=l at m1 m2 W
  induction l with
  |nil=>cases m1
  |cons p l ih=>
   obtain⟨a1,a2⟩:=ZV.mp W
   grind
 refine⟨⟨I.ok.mod,?_,I.ok.glob,I.ok.blt,Zf _,λx y c h1 g=>?_,λx h=>?_,λx c h g=>?_,I.ok.hd,I.ok.frames,.inl rfl,λb w=>?_,I.bs,Zv I.ok.bsz I.sz,λb o e w=>?_,λb w=>?_,I.stack,I.stkFree⟩,
  rfl,I.bare,Un.kept old,⟨m,hn,λi x v e1 e2 e3=>?_⟩,λx c h=>?_,I.hok.fresh (Zf _),λx c h=>?_,λp hp=>?_,I.hok.kept old,hl⟩
 ·show(relabel scope X.env).kind=.function;unfold relabel;exact S.kind
 ·rcases fQ h1 with z| ⟨_,z⟩<;>rcases fQ g with Y| ⟨_,Y⟩
  ·exact A x y c z Y
  ·exact absurd (a _ _ (C _ _ Y)) (J_.mpr (Jo (O _ _ z).2))
  ·exact absurd (a _ _ (C _ _ z)) (J_.mpr (Jo (O _ _ Y).2))
  ·exact I.ok.inj x y c (C x c z) (C y c Y)
 ·rcases fC x h with h|h
  ·obtain⟨z,c,t⟩:=D x h;exact⟨c,vU z t⟩
  ·have:=PySem.W.cellsFrom_some (x:=x) scope.names (s.heap.objs.size+1) [] (.inl h);obtain⟨c,t⟩:=I3.mp this;exact⟨c,CQ t⟩
 ·rcases fQ g with z| ⟨z,_⟩
  ·exact Jo (O _ _ z).2
  ·have:=PySem.W.cellsFrom_some (x:=x) scope.names (s.heap.objs.size+1) [] (.inl (by simpa[eR]using h));rw[z]at this;cases this
 ·obtain⟨f0,J,L,F,M,Z⟩:=R b w;obtain⟨o,B⟩:=T b w;refine⟨lt B,λx c h=>?_⟩;rcases fQ h with z| ⟨_,z⟩
  ·exact λq=>absurd (Zi B) (J_.mpr (q▸Jo (O _ _ z).2))
  ·exact M x c (C x c z)
 ·obtain⟨f0,J,L,F,M,Z⟩:=R b w;rcases F with F|F
  ·exact I.ok.noex b o e F
  ·exact absurd (Zi (I.ok.bs b o e).1) (J_.mpr F)
 ·obtain⟨f0,J,L,F,M,Z⟩:=R b w;exact iG I J L
 ·obtain⟨G,j,g2,g3⟩:=U i v x e1 e2;obtain⟨m0,_,l0⟩:=I.loc
  have hv:uB X.env.scope x:=by
   rcases S.free _ (Zw G) rfl with q|q
   ·exact .inr (.inl q)
   ·exact .inr (.inr q)
  obtain⟨u,r,q⟩:=l0 j x v g2 g3 hv;refine⟨u,r,.inr ⟨vT G,?_⟩⟩;obtain⟨z,c,f⟩:=D x G;refine⟨c,vU z f,?_⟩;have K:=S.free _ (Zw G) rfl;rcases q with⟨q,_⟩| ⟨_,c',q1,q2⟩
  ·rcases K with K|K
   ·rw[q]at K;cases K
   ·rw[q]at K;cases K
  ·rw[C x c f]at q1;cases q1;obtain⟨o,B,Q⟩:=q2;exact⟨o,old _ _ B,Q⟩
 ·rcases fQ h with z| ⟨_,z⟩
  ·exact⟨none,(O _ _ z).1⟩
  ·obtain⟨v,o,B,Q⟩:=I.cell x c (C x c z);exact⟨v,o,old _ _ B,Q⟩
 ·rcases fQ h with z| ⟨_,z⟩
  ·exact I.hok.fresh (Jo (O _ _ z).2)
  ·exact I.freeC x c (C x c z)
 ·obtain⟨e,n,ne,nf,d⟩:=I.pin p (by simpa[eR]using hp);exact⟨old _ _ e,n,lt e,iG I ne nf,d⟩
theorem CV(I:Inv X pq σ H s)(j:∀b∈fp,cQ X pq H b)(i:C=s.heap.objs.size)(J:Inv (eR X scope N C s H fp) pins' σ' H' s')(hs:IZ C s'.heap h'):
  Inv X pq σ H' {s' with heap:=h'}:=by
 have ne:∀{b:H7} {o:Obj},s.heap.get? b=some o->b≠C:=λe=>by rw[i];exact Zu (Zi e)
 have B:=J.base
 have u:Un _ _ H _ _ _:=
  ⟨λb o e n h a=>(hs.2 b (ne e)).trans (B.keep b o e n h a),λb o e n h a=>by obtain⟨sl,q⟩:=B.slot b o e n h a;exact⟨_,(hs.2 b (ne e)).trans q⟩,B.free,
   λb o e a=>by obtain⟨t,q⟩:=B.there b o e a;exact⟨_,(hs.2 b (ne e)).trans q⟩,B.tups,B.frzs,B.tbls⟩
 have d:H' C=none:=J.free;have f:=λb O e=>by refine(J.hok b O e).stay (λc w r q=>(hs.2 c ?_).trans q) (λ_ q=>q) λ_ _ q=>q;lia
 exact I.call' J.os u f J.bare λb h=>by obtain⟨f0,F,k,l,m,p⟩:=j b h;trivial
def PB(X:Cx)(body:Sem Unit)(t:L2.St->Hp->(L2.St->Hp->Prop)->Prop):Prop:=
 ∀(pq:Lp) (s:HZ) (σ:L2.St) (H:Hp) (Q:L2.St->Hp->Prop),Inv X pq σ H s->t σ H Q->wpAny (model X.prog X.w) X.A body (λ_ s'=>∃σ' H',Inv X pq σ' H' s'/\Q σ' H') X.xe s
theorem fh{m:Sem α}{Q:α->HZ->Prop}(H:X.xe=λ_ _=>False)(h:wpAny M A m Q X.xe s):wpAny M A m Q E s:=by rw[H]at h;exact Iy h (λ_ _ q=>q) λ_ _ z=>z.elim
noncomputable def gI:Expr->Bool
 | .ListComp .. =>HX
 | .SetComp .. =>HX
 |_=>HY
theorem k6(h:gI ce=HX){d:Nat}{it a:H8}:(model prog w).den (.compLoop ce d it a env)=(compTurn ce d it a env).onRaise (λx=>do noteFrame x env;theTreesLotGoes x)/\A.under (.compLoop ce d it a env)=A/\(model prog w).den (.compStart ce d it a env)=(compStart ce d it a env).onRaise (λx=>do noteFrame x env;standAt theWindowsPlace)/\A.under (.compStart ce d it a env)=A:=by cases ce<;>first|exact⟨rfl,rfl,rfl,rfl⟩|cases h
theorem vV{d:Nat}{c:H8}{p:Pos}{body:Sem Unit}{R:KS->HZ->Prop}{Fin:L2.St->Hp->Prop}
  (k:gI ce=HX) (l:X.xe=λ_ _=>False) (O:X.calm=HX)
  (C:compTurn ce d (.ref it) c X.env=(standAt p>>=λ_=>pyNext (.ref it)>>=λr=>match r with
   |none=>pure (.done .next)
   |some v=>letOwnedTupleGo tg (.ref it) v>>=λ_=>assign tg X.env v>>=λ_=>body>>=λ_=>again (.compLoop ce d (.ref it) c X.env)))
  (T:Turn X.prog X.w X.K tg J fp it tn) (hg:PG X tg g) (h:PB X body tb) (I:Inv X pq σ H s) (st:tn 0 s.heap) (P:∀b∈fp,cQ X pq H b)
  (W:∃W:Nat->Nat->L2.St->Hp->Prop,(∃m,W 0 m σ H)/\∀i m σ H,W i m σ H->
   (J.stop i H/\Fin σ H)\/(J.go i H/\∃Nx:L2.St->Hp->Prop,(∀σ' H',Nx σ' H'->∃M,M<m/\W (i+1) M σ' H')/\∀x H',J.yld i H x H'->g x σ H' λE H2=>tb E H2 Nx))
  (hR:∀s' σ' H',Inv X pq σ' H' s'->(∀b∈fp,H' b=none)->Fin σ' H'->R (.ok .next) s'):codeAny (model X.prog X.w) X.A (.compLoop ce d (.ref it) c X.env) R s:=by
 obtain⟨W,⟨m0,w0⟩,turn⟩:=W;have S:∀{H':Hp},(∀b∈fp,H' b=none)->∀b∈fp,cQ X pq H' b:=λhn b h=>⟨hn b h,(P b h).2⟩;refine codeAny_loop rfl (λn s'=>∃i σ' H',Inv X pq σ' H' s'/\tn i s'.heap/\(∀b∈fp,H' b=none)/\W i n σ' H') ?_ m0 ⟨0,σ,H,I,st,λb h=>(P b h).1,w0⟩;rintro n U ⟨i,a,y,N,q,f,w3⟩;rw[(k6 (A:=X.A) k).1,(k6 (prog:=X.prog) (w:=X.w) k).2.1];refine wpAny_noted ?_;rw[C];refine Za (Kz ?_);rcases turn i n a y w3 with⟨stop,qn⟩| ⟨go,Nx,hN,step⟩
 ·refine Za (fh l (aK (T.done X rfl rfl rfl O i pq U a y X.xe N (S f) q stop) λr V ⟨D,Z⟩=>?_));subst D;exact Zd (hR V a y Z f qn)
 ·refine Za (fh l (aK (T.item X rfl rfl rfl O i pq U a y X.xe N (S f) q go) λr V ⟨u,D,h4⟩=>?_));subst D;refine Za (fh l (aK h4 λ_ s5 ⟨x,K,I5,r5,y5,j,F⟩=>?_));have z:=I5.pinned (S F) (T.obj _ _ j);refine Za (fh l (aK (hg _ s5 a K x u _ z r5 (step x K y5)) λ_ s6 ⟨G,Y,I6,q6⟩=>?_));refine Za (fh l (aK (h _ s6 G Y _ I6 q6) λ_ s7 ⟨t,L,B,n7⟩=>?_));refine Zd ?_;obtain⟨M,hm,w7⟩:=hN t L n7;refine⟨rfl,M,hm,i+1,t,L,B.unpinned,T.keep _ _ _ j λb h o e=>(B.pin (b,o) (Zz _ (Zz _ (kf h e)))).1,λb h=>?_,w7⟩;obtain⟨o,e,d⟩:=T.obj _ _ j b h;exact(B.pin (b,o) (Zz _ (Zz _ (kf h e)))).2.1
theorem vW{R:KS->HZ->Prop}{d:Nat}{it a:H8}{t i:Expr}{fs:Lx}(H:gI ce=HX)(e:(clausesOf ce)[d]?=some ⟨t,i,fs,0⟩)
  (c:codeAny (model prog w) A (.compLoop ce d it a env) R s)
  (h:wpAny (model prog w) A (pyIter it) (λI s'=>codeAny (model prog w) A (.compLoop ce d I a env) R s') (notedBy (model prog w) A env λx s'=>R (.error x) s') s):
  codeAny (model prog w) A (.compStart ce d it a env) R s:=by
 refine L4 ?_;rw[(k6 (A:=A) H).2.2.1,(k6 (prog:=prog) (w:=w) H).2.2.2];refine wpAny_notedAt ?_;unfold compStart;rw[e];refine Za (JD (J1 ?_));split
 ·first
   |rfl
   |exact Zd (And.intro rfl c)
 ·first
   |exact Za (KW (Za (Kz (Za (Iy h (λI s' b=>Zd (And.intro rfl b)) λ_ _ x=>x)))))
   |lia
abbrev TU:=L2.St->Hp->(L2.St->Hp->Prop)->Prop
noncomputable def k7:List TT->(L2.St->Hp->(Bool->Hp->Prop)->Prop)
 | []=>λ_ H Q=>Q HX H
 |t::r=>λσ H Q=>t σ H λb H1=>if b=HX then k7 r σ H1 Q else Q HY H1
noncomputable def vX(X:Cx):Lx->List TT->Prop
 | [],[]=>True
 |e::es,t::ts=>PT X e t/\vX X es ts
 |_,_=>False
theorem vY{M:Model}{A:IH}{E:Vs}{env:Env}{Q:Bool->HZ->Prop}{s:HZ}:∀(ifs:Lx),Q HY s->
  wpAny M A (forIn ifs HY λc r=>if r=HX then do let ok <-isTrue c env (eval c env);pure (Iw ok)else pure (Iw r)) Q E s
 | [],h=>Zd h
 |c::r,h=>by rw[JY];exact Za (Zd (vY r h))
theorem vZ:∀(ifs:Lx) (ts:List TT),vX X ifs ts->∀(pq:Lp) (s:HZ) (σ:L2.St) (H:Hp) (Q:Bool->Hp->Prop),Inv X pq σ H s->k7 ts σ H Q->
  wpAny (model X.prog X.w) X.A (forIn ifs HX λc r=>if r=HX then do let ok <-isTrue c X.env (eval c X.env);pure (Iw ok)else pure (Iw r)) (TP X pq σ Q) X.xe s
 | [],[],_,pq,s,σ,H,Q,I,h=>Zd ⟨H,I,h⟩
 |e::E,t::ts,p,pq,s,σ,H,Q,I,h=>by
  rw[JY];refine Za (Za (aK (p.1 _ s _ H _ I h) λb S ⟨_,a,q⟩=>Zd ?_));cases b with
  |true=>exact vZ _ _ p.2 _ _ _ _ Q a q
  |false=>exact vY _ ⟨_,a,q⟩
 | [],_::_,p,_,_,_,_,_,_,_=>p.elim
 |_::_,[],p,_,_,_,_,_,_,_=>p.elim
noncomputable def v8(a:H7)(t:TE):TU:=λσ H Q=>t σ H λv H1=>∃ys,H1 a=some (.lst ys)/\ys.length<sizeLine/\Q σ (aT H1 a (.lst (ys++[v])))
noncomputable def v9(ts:List TT)(t:TU):TU:=λσ H Q=>k7 ts σ H λb H1=>if b=HX then t σ H1 Q else Q σ H1
noncomputable def qA(w:TI)(g:TG)(tb:TU):TU:=λσ H Q=>w σ H λJ H1=>∃W:Nat->Nat->L2.St->Hp->Prop,(∃m,W 0 m σ H1)/\∀i m σ H,W i m σ H->
   (J.stop i H/\Q σ H)\/(J.go i H/\∃N:L2.St->Hp->Prop,(∀σ' H',N σ' H'->∃M,M<m/\W (i+1) M σ' H')/\∀x H',J.yld i H x H'->g x σ H' λa H2=>tb a H2 N)
noncomputable def iH(o0:H7->HO)(cs:L2.St->L2.St)(w:TI)(g:TG)(tb:H7->TU):TE:=λσ H Q=>w σ H λJ H1=>∀acc,H1 acc=none->
 ∃W:Nat->Nat->L2.St->Hp->Prop,(∃m,W 0 m (cs σ) (aT H1 acc (o0 acc)))/\∀i m σ H,W i m σ H->
   (J.stop i H/\Q (.ref acc) H)\/(J.go i H/\∃N:L2.St->Hp->Prop,(∀σ' H',N σ' H'->∃M,M<m/\W (i+1) M σ' H')/\∀x H',J.yld i H x H'->g x σ H' λa H2=>tb acc a H2 N)
def k8(X:Cx)(scope:Scope)(N:Ls)(cs:L2.St->L2.St):Prop:=∀σ:L2.St,σ.length=X.N.length->(cs σ).length=N.length/\
 ∀(i:Nat) (v:V) (x:Str),N[i]?=some x->(cs σ)[i]?=some (some v)->scope.names.lookup x=some .free/\∃j:Nat,X.N[j]?=some x/\σ[j]?=some (some v)
theorem v_(I:Inv X pq σ H s)(S:dk X scope):closureFor scope X.env=pure (bT X.env scope.names []):=
 CO λx a h=>I.ok.has _ (S.free x a h)
theorem CW(H:Ig)(d:Obj)(n:List (Str×IQ)):CellsOk (pushCells (H.push d) n) (H.objs.size+1) (cellsFrom (H.objs.size+1) n []):=by have:=cellsFrom_ok n (H.push d) (H.objs.size+1) _ ⟨(λ_ _ h=>by cases h),.nil⟩ (by simp_all);simp_all
theorem wa{G:List Ir}{O:Obj}{o0:H7->HO}{mk:Sem H8}{scope:Scope}{N:Ls}{cs:L2.St->L2.St}{J:It}{g:TG}{tb:H7->TU}{R:H8->H7->KS->HZ->Prop}{Fin:V->Hp->Prop}
  {P:Lp} {σ:L2.St} {H:Hp}  {it:H7} {f:La} {tn:Nat->Ig->Prop} {E:Vs} (D:gI ce=HX) (hce:clausesOf ce=⟨tg,iter,ifs,0⟩::G) (hmk:∀{s:HZ} {Q:Vs},Q (.ref s.heap.objs.size) {s with heap:=s.heap.push O}->wpAny (model X.prog X.w) X.A mk Q E s) (hob:aW X.prog X.w (aT H s.heap.objs.size (o0 s.heap.objs.size)) (s.heap.push O) s.heap.objs.size (o0 s.heap.objs.size)) (hc:X.calm=HX) (sc:dk X scope) (hcs:k8 X scope N cs) (I:Inv X P σ H s) (T:Turn X.prog X.w X.K tg J f it tn) (st:tn 0 s.heap) (hf:∀b∈f,cQ X P H b)
  (body:H7->Env->Sem Unit)
  (heq:∀(acc:H7) (env:Env),compTurn ce 0 (.ref it) (.ref acc) env=(standAt iter.pos>>=λ_=>pyNext (.ref it)>>=λr=>match r with
   |none=>pure (.done .next)
   |some v=>letOwnedTupleGo tg (.ref it) v>>=λ_=>assign tg env v>>=λ_=>body acc env>>=λ_=>again (.compLoop ce 0 (.ref it) (.ref acc) env)))
  (hin:∀(C:H7) (s0:HZ) (H0:Hp) (f:La) (acc:H7),PG (eR X scope N C s0 H0 f) tg g/\PB (eR X scope N C s0 H0 f) (body acc (eR X scope N C s0 H0 f).env) (tb acc))
  (W:∀acc,H acc=none->∃W:Nat->Nat->L2.St->Hp->Prop,(∃m,W 0 m (cs σ) (aT H acc (o0 acc)))/\∀i m σ H,W i m σ H->
   (J.stop i H/\Fin (.ref acc) H)\/(J.go i H/\∃Nx:L2.St->Hp->Prop,(∀σ' H',Nx σ' H'->∃m',m'<m/\W (i+1) m' σ' H')/\∀x H',J.yld i H x H'->g x σ H' λσ2 H2=>tb acc σ2 H2 Nx))
  (hR:∀(acc C:H7) (s':HZ) (H':Hp) (m:Mg),s'.heap.Ns C m->C≠X.env.locals->(∀x c,X.env.cells.lookup x=some c->c≠C)->H' C=none->X.s₀.heap.objs.size<=C->(∀p∈X.pn++P,p.1≠C)->(∀h',IZ C s'.heap h'->Inv X P σ H' {s' with heap:=h'})->Fin (.ref acc) H'->R (.ref acc) C (.ok .next) s'):
  wpAny (model X.prog X.w) X.A mk (λacc K=>wpAny (model X.prog X.w) X.A (newFunctionEnv scope X.env.globals (bT X.env scope.names []) [] X.env.qual none .none (some X.env)) (λl M=>
   codeAny (model X.prog X.w) X.A (.compStart ce 0 (.ref it) acc {l with scope:=relabel scope X.env}) (R acc l.locals) M) E K) E s:=by
 refine hmk (CP ?_);have hfr:H s.heap.objs.size=none:=I.hok.fresh (Zf _);have u:Inv X P σ (aT H s.heap.objs.size (o0 s.heap.objs.size)) {s with heap:=s.heap.push O,toks:=s.toks}:=I.laid (t':=s.toks) (λb o e=>Zb _ e) (Zf _) hob;have A:∀b∈f,∃o,s.heap.get? b=some o:=λb j=>by obtain⟨o,e,_⟩:=T.obj _ _ st b j;exact⟨o,e⟩
 have w:∀b∈f,cQ X P (aT H s.heap.objs.size (o0 s.heap.objs.size)) b:=λb j=>by obtain⟨f0,Z⟩:=hf b j;obtain⟨o,y⟩:=A b j;exact⟨by rw[aw (Zu (Zi y))];exact f0,Z⟩
 have F:∀b∈f,∃o,(s.heap.push O).get? b=some o:=λb j=>by obtain⟨o,y⟩:=A b j;exact⟨o,Zb _ y⟩
 obtain⟨k1,k2⟩:=hcs σ I.len;obtain⟨a,U⟩:∃a,a=pushCells ((s.heap.push O).push {cls:=.type "dict",data:=.dict #[]}) scope.names:=⟨_,rfl⟩;have n:∀b o,(s.heap.push O).get? b=some o->a.get? b=some o:=λb o e=>by rw[U];exact pushCells_keeps _ _ _ _ (Zb _ e)
 have k:a.Ns (s.heap.push O).objs.size λ_=>none:=by rw[U];exact⟨_,_,_,pushCells_keeps _ _ _ _ (Zg _ rfl),rfl,(λx h=>by simp at h),λ_=>rfl⟩
 have B:CellsOk a ((s.heap.push O).objs.size+1) (cellsFrom ((s.heap.push O).objs.size+1) scope.names []):=by rw[U];exact CW _ _ _
 rw[<-U];have J0:=CU (tk:=s.toks) (N:=N) (scope:=scope) (σ':=cs σ) hc u sc w F k n B k1 k2;have old:∀b o,s.heap.get? b=some o->a.get? b=some o:=λb o e=>n b o (Zb _ e);have S:tn 0 a:=T.keep _ _ _ st λb _ o e=>old b o e;have hlt:X.env.locals<(s.heap.push O).objs.size:=u.lt
 have L:codeAny (model X.prog X.w) X.A (.compLoop ce 0 (.ref it) (.ref s.heap.objs.size) (eR X scope N (s.heap.push O).objs.size {s with heap:=s.heap.push O,toks:=s.toks} (aT H s.heap.objs.size (o0 s.heap.objs.size)) f).env)
   (R (.ref s.heap.objs.size) (s.heap.push O).objs.size) {s with heap:=a,toks:=s.toks}:=by
  obtain⟨p1,p2⟩:=hin (s.heap.push O).objs.size {s with heap:=s.heap.push O,toks:=s.toks} (aT H s.heap.objs.size (o0 s.heap.objs.size)) f s.heap.objs.size;refine vV (X:=eR X scope N _ _ _ f) (Fin:=λ_ H'=>Fin (.ref s.heap.objs.size) H') D rfl hc (heq _ _) T p1 p2 J0 S (λb j=>?_) ?_ ?_
  ·obtain⟨f0,Z,f2,f3,f4,f5⟩:=w b j;obtain⟨o,y⟩:=F b j;refine⟨f0,Zu (Zi y),iG u Z f2,.inl j,λx c h=>?_,λp hp=>f5 p (by simpa[eR]using hp)⟩;rcases fQ h with z| ⟨_,z⟩
   ·exact λq=>absurd (Zi y) (J_.mpr (q▸Jo (B.empty x c (Zw z)).2))
   ·exact f4 x c (qx scope.names [] (λ_ z=>nomatch z) (x,c) (Zw z))
  ·exact W _ hfr
  ·intro s' σ' H' Y _ fin;obtain⟨m,hm,_⟩:=id Y.loc;refine hR _ _ s' H' m hm (JJ hlt) (λx c h z=>?_) Y.free u.sz (λp hp z=>?_) (λh' hs'=>?_) fin
   ·obtain⟨v,q⟩:=u.cell x c h;exact absurd q.lt (by rw[z];exact Iq _)
   ·exact absurd (Zi (u.pin p hp).1) (by rw[z];exact Iq _)
   ·exact CV u w rfl Y hs'
 exact vW D (by rw[hce];rfl) L (T.self _ 0 _ _ _ S L)
theorem k9{R:List Ir}{pos:Pos}{cs:L2.St->L2.St}{tb:H7->TU}(n:X.calm=HX)(S:dk X scope)(a:k8 X scope N cs)(o:PI X tg iter wi)(body:H7->Env->Sem Unit)
  (b:∀(it acc:H7) (env:Env),compTurn (.ListComp elt (⟨tg,iter,ifs,0⟩::R) scope pos) 0 (.ref it) (.ref acc) env=(standAt iter.pos>>=λ_=>pyNext (.ref it)>>=λr=>match r with
   |none=>pure (.done .next)
   |some v=>letOwnedTupleGo tg (.ref it) v>>=λ_=>assign tg env v>>=λ_=>body acc env>>=λ_=>again (.compLoop (.ListComp elt (⟨tg,iter,ifs,0⟩::R) scope pos) 0 (.ref it) (.ref acc) env)))
  (c:∀(C:H7) (s0:HZ) (H0:Hp) (fp:La) (acc:H7),PG (eR X scope N C s0 H0 fp) tg g/\PB (eR X scope N C s0 H0 fp) (body acc (eR X scope N C s0 H0 fp).env) (tb acc))
  (hs:∀x,foldedSetIterable iter X.env x=pure x:=by intro _;rfl):PE X (.ListComp elt (⟨tg,iter,ifs,0⟩::R) scope pos) (iH (λ_=>.lst []) cs wi g tb):=by
 intro P s E H Q I h;refine MA rfl hs (v_ I S) S.kind S.loc (Iy (o _ s _ H _ I h) (λv A j=>Iy j (λt B k=>?_) λ_ _ e=>e) λ_ _ e=>e);obtain⟨it,fp,D,J,w,e,i,T,f,F,W⟩:=k;subst e;refine wa (o0:=λ_=>.lst _) rfl rfl (λq=>ZN q) ⟨ZT _,_,0,.nil,Zg _ rfl⟩ n S a i T f F _ (b _) c W ?_;intro acc C z u m p _ _ _ _ _ l fin;exact⟨m,p,λy d=>⟨.ref _,_,l _ d,rfl,fin⟩⟩
theorem k_{R:List Ir}{pos S P:Pos}{cs:L2.St->L2.St}{tb:H7->TU}{x:Str}{j:Nat}(hc:X.calm=HX)(Z:X.N.Nodup)(hj:X.N[j]?=some x)(F:X.env.scope.names.lookup x=some .local)
  (B:swapsWith (.ListComp elt (⟨tg,iter,ifs,0⟩::R) scope pos) (some (.Name x P)) S.line X.env=pure HX)
  (c:dk X scope) (u:k8 X scope N cs) (hi:PI X tg iter wi) (body:H7->Env->Sem Unit)
  (w:∀(it acc:H7) (env:Env),compTurn (.ListComp elt (⟨tg,iter,ifs,0⟩::R) scope pos) 0 (.ref it) (.ref acc) env=(standAt iter.pos>>=λ_=>pyNext (.ref it)>>=λr=>match r with
   |none=>pure (.done .next)
   |some v=>letOwnedTupleGo tg (.ref it) v>>=λ_=>assign tg env v>>=λ_=>body acc env>>=λ_=>again (.compLoop (.ListComp elt (⟨tg,iter,ifs,0⟩::R) scope pos) 0 (.ref it) (.ref acc) env)))
  (y:∀(C:H7) (s0:HZ) (H0:Hp) (fp:La) (acc:H7),PG (eR X scope N C s0 H0 fp) tg g/\PB (eR X scope N C s0 H0 fp) (body acc (eR X scope N C s0 H0 fp).env) (tb acc))
  (hs:∀x,foldedSetIterable iter X.env x=pure x:=by intro _;rfl):PS X (.Assign [.Name x P] (.ListComp elt (⟨tg,iter,ifs,0⟩::R) scope pos) S) (kc (iH (λ_=>.lst []) cs wi g tb) (du j)):=by
 intro pq s K H D I h;rw[exec_Assign_Name_used _ _ _ _ B];refine Za (Kz (Za ?_))
 refine Za (Iy (MA rfl hs (v_ I c) c.kind c.loc
  (Iy (hi pq s K H _ I h) (λv s1 U=>Iy U (λitv s2 V=>?_) λ_ _ e=>e) λ_ _ e=>e)) (λ_ G hq=>Zd (Zd hq)) λ_ _ e=>e)
 obtain⟨it,fp,tn,J,H2,e,L,T,E,Q,W⟩:=V;subst e;refine wa (o0:=λ_=>.lst []) rfl rfl (λq=>ZN q) ⟨ZT _,[],0,.nil,Zg _ rfl⟩ (Fin:=λv d=>du j v K d D.nx) hc c u L T E Q body (w it) y W ?_;intro acc C G d m hm l p f i k Y fin;have M:=by have:=Y G.heap (.refl ..);simpa using this
 refine wpAny_assign_Name (uD M Z hj (.inl F) (v:=.ref acc) rfl (λs'' O t=>?_) (.inr F));obtain⟨a,A,ha⟩:=t
 have n:C≠a:=by
  grind
 exact⟨m,hm.sameBut A n,λh' z=>⟨_,d,O.turned (λb o hb e=>(z.2 b hb).trans e) f l (.inr i) p k,fin⟩⟩
noncomputable def fi:List D->Option (Li)
 | []=>some []
 | .int i::r=>(fi r).map (i:: ·)
 |_=>none
theorem wb:∀{xs:List D} {ns:Li},fi xs=some ns->xs=ns.map D.int
 | [],ns,h=>by cases h;rfl
 |x::xs,ns,h=>by
  cases x with
  |int i=>
   dsimp only[fi]at h;cases e:fi xs with
   |none=>simp_all
   |some m=>rw[e]at h;cases h;rw[wb e];rfl
  |_=>cases h
theorem CY{m:GS}:∀(ns:Li) (vs:List V),ag K m μ H (ns.map D.int) vs->vs=ns.map V.int:=by
 intro ns
 induction ns with
 |nil=>intro vs r;exact r
 |cons n ns i=>intro vs r;obtain⟨v,w,rfl,R,a⟩:=r.uncons;cases ax R;rw[i _ a];rfl
theorem wc:∀{ns:Li} {its:Lv},Vals (ns.map V.int) its->PyProof.Rows.IntsAre its ns
 | [],its,r=>by cases r;exact .nil
 |n::ns,its,r=>by
  cases r with
  |cons p q=>obtain⟨t,rfl⟩:=p;exact .cons _ _ (wc q)
section
variable {R:KS->HZ->Prop}{P:Nat->H8->Prop}{St:Nat->Ig->Prop}
end
mutual
noncomputable def we:D->Option PyData
 | .non=>some .none
 | .bl b=>some (.bool b)
 | .int i=>some (.int i)
 | .str x=>some (.str x)
 | .tup ds=>(cV ds).map .tuple
 | .lst ds=>(cV ds).map .list
 |_=>none
noncomputable def cV:List D->Option (List PyData)
 | []=>some []
 |d::ds=>match we d,cV ds with
  |some p,some ps=>some (p::ps)
  |_,_=>none
end
mutual
theorem CZ(I:Inv X pq σ H s):∀(d:D) (v:V) (u:H8) (p:PyData),Rep X.K ⟨X.mg,F⟩ μ H d v->RelV v u->we d=some p->p.hasDict=HY/\∃as,Reads s.heap u p as
 | .non,v,u,p,r,q,h=>by cases fM r;subst(q);cases h;exact⟨rfl,_,.none⟩
 | .bl b,v,u,p,r,q,h=>by cases e_ r;subst(q);cases h;exact⟨rfl,_,.bool b⟩
 | .int i,v,u,p,r,q,h=>by cases ax r;obtain⟨t,rfl⟩:=q;cases h;exact⟨rfl,_,.int i t⟩
 | .str x,v,u,p,r,q,h=>by cases bR r;obtain⟨t,rfl⟩:=q;cases h;exact⟨rfl,_,.str x t⟩
 | .tup c,v,u,p,r,q,h=>by
  obtain⟨a,vs,rfl,l,R⟩:=bz r;subst(q);obtain⟨f,m,⟨o,g,j,n,k⟩,_⟩:=I.tuple l;have h:(cV c).map PyData.tuple=some p:=h;cases e:cV c with
  |none=>rw[e]at h;cases h
  |some P=>rw[e]at h;cases h;obtain⟨K,as,w⟩:=qB I c vs f P R m e;exact⟨K,as,.tuple g j k (by grind)⟩
 | .lst c,v,u,p,r,q,h=>by
  unfold Rep at r;obtain⟨a,vs,rfl,l,_,R⟩:=r;subst(q);obtain⟨f,m,y,_⟩:=I.list (.of l);obtain⟨o,g,j,n,k⟩:=y.isList;have h:(cV c).map PyData.list=some p:=h;cases e:cV c with
  |none=>rw[e]at h;cases h
  |some P=>rw[e]at h;cases h;obtain⟨K,as,w⟩:=qB I c vs f P R m e;exact⟨K,_,.list g j k (by simpa using w)⟩
 | .ref _,v,u,p,r,q,h=>by cases h
 | .scr _,v,u,p,r,q,h=>by cases h
 | .fn _,v,u,p,r,q,h=>by cases h
 | .dct,v,u,p,r,q,h=>by cases h
 | .dks _,v,u,p,r,q,h=>by cases h
 | .ty _,v,u,p,r,q,h=>by cases h
theorem qB(I:Inv X pq σ H s):∀(ds:List D) (vs:List V) (us:Lv) (ps:List PyData),ag X.K ⟨X.mg,F⟩ μ H ds vs->Vals vs us->cV ds=some ps->PyData.hasDictAll ps=HY/\∃as,ReadsAll s.heap us ps as
 | [],vs,us,ps,r,q,h=>by unfold ag at r;subst r;cases q.zero;cases h;exact⟨rfl,_,.nil⟩
 |d::ds,vs,us,ps,r,q,h=>by
  obtain⟨w,W,rfl,R,f⟩:=r.uncons;obtain⟨u,U,rfl,Q,c⟩:=q.un;unfold cV at h;split at h
  ·rename_i p P e E;cases h;obtain⟨k,as,K⟩:=CZ I d w u p R Q e;obtain⟨a,bs,b⟩:=qB I ds W U P f c E;exact⟨by show(PyData.hasDict p||PyData.hasDictAll P)=HY;rw[k,a];rfl,_,.cons K b⟩
  ·cases h
end
open PySem.SeqAt PySem.MeetsSeq PySem.MeetsSeq2 PySem.MeetsSeq3
open PySem.AutoSeq1 (wpAny_loadPart')
theorem C0(f:Nat->β->Sem (ForInStep β))(I:Nat->β->HZ->Prop)(Q:β->HZ->Prop)
  (turn:∀i b s,i<n->I i b s->wpAny M A (f i b) (λr s'=>match r with| .yield B=>I (i+1) B s'| .done B=>Q B s') E s)
  (fin:∀b s,I n b s->Q b s) (b:β) (h:I 0 b s):wpAny M A (forIn [0:n] b f) Q E s:=by
 rw[Std.Legacy.Range.forIn_eq_forIn_range'];have d:[0:n].size=n:=by simp
 rw[d];refine JC f (λl c S=>∃i,i<=n/\l=List.range' i (n-i) 1/\I i c S) Q ?_ ?_ _ b ⟨0,ZT _,rfl,h⟩
 ·rintro x R c S ⟨i,j,e,g⟩
  have a:i<n:=by
   rcases Nat.lt_or_ge i n with H|H
   ·exact H
   simp_all
  obtain⟨m,k⟩:∃m,n-i=m+1:=⟨n-i-1,by lia⟩;rw[k]at e;obtain⟨rfl,rfl⟩:=List.cons.inj e;refine Iy (turn x c _ a g) (λr o H=>?_) λ_ _ H=>H
  grind
 grind
theorem C1(l:H7)(items:Av)(n:Nat)(dd:Option H7)(sl:Array (Ov))(x:H8)(e:H8->Bool)(j:Nat)(C:j<items.size)(f:e items[j]=HX)(k:∀m (D:m<items.size),m<j->e items[m]=HY):
  Meets (I_.«tuple.index» ⟨[.ref l,x],[]⟩)
   (λA R s=>s.heap.get? l=some {cls:=.type "tuple",dict:=dd,data:=.seq items n,slots:=sl}/\(∀y,y∈items->EqAt A.in1 s y x (e y))/\R (.ok (.ret (.int j s.toks))) {s with toks:=s.toks+1}):=
 .of_wp λp w A R s h=>by
  obtain⟨v,g,d,T,O⟩:=s;obtain⟨u,r,h⟩:=h;have H:min items.size items.size=items.size:=Nat.min_self _
  wp_walk using J9 u,C0 (n:=min items.size items.size) _ (λi b S=>b.1=none/\S=⟨v,g,d,T,O⟩/\i<=j) _
  case turn=>
   rintro i b S c ⟨o,rfl,a⟩;rw[H]at c;rw[Il c];refine Za (r items[i] (ML c) p w _ _ ?_);by_cases q:i=j
   ·subst q;rw[f]
    wp_walk
    exact⟨_,rfl,h⟩
   ·rw[k i c (by omega)]
    wp_walk
    exact⟨rfl,rfl,by omega⟩
  case fin=>rintro⟨B,z⟩ S ⟨o,rfl,a⟩;rw[H]at a;omega
  case h=>exact⟨rfl,rfl,ZT _⟩
theorem C2{prog:Ia}{w:Io}{A:IH}{E:Vs}{l:H7}{vs:Lv}{k:Int}{t:Tok}(q:s.heap.IsTuple l vs.toArray)(b:L' vs ns)(o:k∈ns)
  (h:Q (.int (ns.idxOf k:Nat) s.toks) {s with toks:=s.toks+1}):wpAny (model prog w) A (call (.builtin "tuple.index") [.ref l,.int k t]) Q E s:=by
 obtain⟨⟨cls,u,D,sl⟩,f,g,n,j⟩:=id q;simp only at g j;subst g j
 have H:vs.length=ns.length:=by
  clear q f h o
  induction b with
  |nil=>rfl
  |cons _ _ _ I=>simp[I]
 have v:ns.idxOf k<ns.length:=LF o;have r:∀(m:Nat) (a:m<vs.length),isInt k vs[m]=decide (ns[m]'(by omega)=k):=by intro m a;obtain⟨z,e⟩:=b.int_at m vs[m] (Zh a);rw[e,LK,Zh (by omega)];simp only[isInt,Option.getD_some];exact Bool.beq_eq_decide_eq _ _
 refine JL PySem.F.slot_tuple_index ⟨_,f,rfl⟩ PySem.F.entry_tuple_index (PySem.F.args_tuple_index_2 _ _) (C1 l vs.toArray n u sl (.int k t) (isInt k) (ns.idxOf k) (by simpa[H]using v) ?_ ?_) ⟨f,λy x=>(eq_isInt k t b y (by simpa using x)).at _ _,h⟩
 ·have:=r (ns.idxOf k) (by omega);rw[Mr,this];simp
 ·intro m a c;have d:m<vs.length:=by simpa using a
  rw[Mr,r m d];have:=Ma (p:=(· ==k)) (xs:=ns) (i:=m) c;simpa using this
noncomputable def qC(d:D)(ds:List D)(S:ae):Res D:=match d,ds with
 | .tup xs,[.int k]=>match fi xs with
  |some ns=>if k∈ns then .ok (.int (ns.idxOf k:Nat)) S else .fail
  |none=>.fail
 |_,_=>.fail
theorem wf:kH X "tuple.index" (rM X.K X.mg qC):=by
 intro P s G H x B v U Q I y m h;obtain⟨F,C,S,d,D,A,l,R,w⟩:=h;unfold qC at w;split at w
 ·split at w
  ·rename_i N E;split at w
   ·rename_i i;have c:=wb E;subst c;obtain⟨a,vs,rfl,g,r⟩:=bz l;have j:=CY _ _ r;subst j;obtain⟨z,rfl,f⟩:=R.one;cases ax f;subst y;obtain⟨u,rfl,n⟩:=m.one;obtain⟨t,rfl⟩:=n;obtain⟨k,q,p,f⟩:=I.tuple g;exact C2 p (wc q) i ⟨.int _,H,I.kept λb o e=>e,⟨_,rfl⟩,w _ H _ .refl A bA⟩
   ·exact w.elim
  ·exact w.elim
 ·exact w.elim
end Py
namespace Py
noncomputable def dv:List D->Option (Ls)
 | []=>some []
 | .str x::r=>(dv r).map (x:: ·)
 |_=>none
theorem wg:∀{xs:List D} {ns:Ls},dv xs=some ns->xs=ns.map D.str
 | [],ns,h=>by cases h;rfl
 |x::xs,ns,h=>by
  cases x with
  |str i=>
   unfold dv at h;cases e:dv xs with
   |none=>rw[e]at h;cases h
   |some m=>rw[e]at h;cases h;rw[wg e];rfl
  |_=>cases h
noncomputable def fj(s:Str)(ds:List D)(S:ae):Res D:=match ds with
 | [d]=>match(dV S d).bind dv with
  |some xs=>if s.length<=100/\xs.length<=1000/\(xs.all λx=>decide (x.length<=1000))=HX then .ok (.str (Jt s xs)) S else .fail
  |none=>.fail
 |_=>.fail
theorem wh{K:Fg}{m:GS}{μ:La}{H:Hp}:∀(xs:Ls) (vs:List V) (us:Lv),ag K m μ H (xs.map D.str) vs->Vals vs us->∃l:List (Str×Tok),strValues l=us/\l.map (·.1)=xs
 | [],vs,us,r,q=>by unfold ag at r;subst r;cases q;exact⟨[],rfl,rfl⟩
 |x::xs,vs,us,r,q=>by
  obtain⟨v,w,rfl,R,b⟩:=r.uncons;cases bR R;cases q with
  |cons p q=>obtain⟨t,rfl⟩:=p;obtain⟨l,h,a⟩:=wh xs w _ b q;exact⟨(x,t)::l,by rw[<-h];rfl,by rw[ZH,a]⟩
section
variable {E:XK}{Φ:FT}
theorem C3{c:Str}{t:Tok}{vs:List V}{Q:VK}(I:L2.Inv X pq σ H s)(rs:Vals vs us)
  (h:∃F μ S ds,aC X.K ⟨X.mg,F⟩ μ S H/\ag X.K ⟨X.mg,F⟩ μ H ds vs/\aF X.K ⟨X.mg,F⟩ μ H Q (fj c ds S)):wpAny (model X.prog X.w) X.A (call (.builtin "str.join") (.str c t::us)) (EP X pq σ Q) X.xe s:=by
 obtain⟨F,μ,S,ds,m,R,w⟩:=h;unfold fj at w;split at w
 ·rename_i d;split at w
  ·rename_i x E;split at w
   ·rename_i g;cases f:dV S d with
    |none=>rw[f]at E;cases E
    |some Y=>
     rw[f]at E;have j:=wg E;subst j;obtain⟨v,rfl,G⟩:=R.one;obtain⟨a,W,rfl,z,r⟩:=dh m G f;obtain⟨u,rfl,J⟩:=rs.one;cases J;obtain⟨D,K,p,M⟩:=I.list (.of z);obtain⟨l,rfl,A⟩:=wh _ _ _ r K
     have i:JoinOk c x=HX:=by unfold JoinOk;rw[StrLaws.joinFits (B:=1000) (λy C=>Z0 (Zl.mp g.2.2 y C)) (by have n:=g.1;have q:=g.2.1;have L:x.length*c.length<=1000*100:=Nat.mul_le_mul q n;omega)];rfl
     exact SC.join p.isList A i λT k=>⟨.str (Jt c x),H,I.kept (t':=k) λb o e=>e,⟨_,rfl⟩,w μ H _ .refl m dj⟩
   ·exact w.elim
  ·exact w.elim
 ·exact w.elim
end
open Builtin.Str (occurrences partsBetween)
inductive oW where
 |split|index
 deriving DecidableEq
noncomputable def fR(m:oW)(x:Str)(ds:List D)(S:ae):Res D:=match m,ds with
 | .split,[.str y]=>if y.length≠0/\x.length<=a'/\(Ks x y).length<=10000 then .ok (.lst ((Ks x y).map D.str)) S else .fail
 | .index,[.str y]=>match occurrences x y 0 x.length 1 with
  |i::_=>.ok (.int i) S
  | []=>.fail
 |_,_=>.fail
noncomputable def gc:oW->String
 | .split=>"str.split"| .index=>"str.index"
noncomputable def lf:oW->Str
 | .split=>"split"| .index=>"index"
theorem C4(m:oW):Slot "str" (lf m) (gc m):=by
 cases m with
 |split=>exact PySem.F.slot_str_split
 |index=>exact PySem.F.slot_str_index
theorem C5(m:oW):typeOf (.builtin (gc m))=pure (.type "method_descriptor"):=by
 cases m with
 |split=>exact PySem.F.type_str_split
 |index=>exact PySem.F.type_str_index
theorem wj:∀l:List (Str×Tok),Vals ((l.map (·.1)).map V.str) (strValues l)
 | []=>.nil
 | (x,t)::l=>.cons ⟨t,rfl⟩ (wj l)
theorem wk{K:Fg}{m:GS}{μ:La}{H:Hp}:∀l:Ls,ag K m μ H (l.map D.str) (l.map V.str)
 | []=>by unfold ag;rfl
 |x::l=>.cons dj (wk l)
theorem qD{Q:VK}{xs:Ls}{tk:Nat}(l:List (Str×Tok))(I:L2.Inv X pq σ H s)(d:aC X.K ⟨X.mg,F⟩ μ S H)(a:l.map (·.1)=xs)(c:xs.length<=sizeLine)(w:aF X.K ⟨X.mg,F⟩ μ H Q (.ok (.lst (xs.map D.str)) S)):
  EP X pq σ Q (.ref s.heap.objs.size) {s with heap:=s.heap.push {cls:=.type "list",data:=.seq (strValues l).toArray},toks:=tk}:=by
 subst a;refine⟨.ref _,_,I.laid (t':=tk) (o:=.lst ((l.map (·.1)).map V.str)) (λb o q=>Zb _ q) (Zf _) ?_,rfl,w.lst d (wk _) _ (I.hok.fresh (Zf _))⟩;exact⟨by simpa using c,_,0,wj l,Zg _ rfl⟩
theorem C6(m:oW){x:Str}{t:Tok}{vs:List V}{Q:VK}(I:L2.Inv X pq σ H s)(rs:Vals vs us)
  (h:∃F μ S ds,aC X.K ⟨X.mg,F⟩ μ S H/\ag X.K ⟨X.mg,F⟩ μ H ds vs/\aF X.K ⟨X.mg,F⟩ μ H Q (fR m x ds S)):wpAny (model X.prog X.w) X.A (call (.builtin (gc m)) (.str x t::us)) (EP X pq σ Q) X.xe s:=by
 obtain⟨F,μ,S,ds,d,r,w⟩:=h;have p:=gE;have j:(10000:Nat)<=a':=by decide
 unfold fR at w;split at w
 ·rename_i y;split at w
  ·rename_i n;obtain⟨v,rfl,g⟩:=r.one;cases bR g;obtain⟨_,rfl,u,rfl⟩:=vals1 rs;have l:(y.length==0)=HY:=by simpa using n.1
   have f:x.length<=sizeLine:=by omega
   have c:(Ks x y).length<=sizeLine:=by omega
   cases a:(decide (x.length<y.length)||decide (LL x<LL y))
   ·cases b:(occurrences x y 0 x.length (x.length+1)).isEmpty
    ·have e:Ks x y=(partsBetween x (occurrences x y 0 x.length (x.length+1)) y.length):=(if_neg (by rw[a];decide)).trans (if_neg (by rw[b];decide));refine JL PySem.F.slot_str_split (JK _ _ _) PySem.F.entry_str_split (PySem.F.args_str_split_2 _ _) (meets_str_split_sep x y t u a l b f (by rw[<-e];exact c)) ?_;show wants _ _ _ {s with toks:=_,heap:=s.heap.push {cls:=.type "list",data:=.seq (strsFrom s.toks (partsBetween x (occurrences x y 0 x.length (x.length+1)) y.length)).toArray}};rw[strsFrom_eq];exact qD _ I d ((numbered_texts _ _).trans e.symm) c w
    ·have e:Ks x y=[x]:=(if_neg (by rw[a];decide)).trans (if_pos b);exact JL PySem.F.slot_str_split (JK _ _ _) PySem.F.entry_str_split (PySem.F.args_str_split_2 _ _) (meets_str_split_not_found x y t u a l b) (qD [(x,t)] I d e.symm c w)
   ·have e:Ks x y=[x]:=if_pos a;exact JL PySem.F.slot_str_split (JK _ _ _) PySem.F.entry_str_split (PySem.F.args_str_split_2 _ _) (meets_str_split_cannot_occur x y t u a) (qD [(x,t)] I d e.symm c w)
  ·exact w.elim
 ·rename_i y;split at w
  ·rename_i i R o;obtain⟨v,rfl,g⟩:=r.one;cases bR g;obtain⟨_,rfl,u,rfl⟩:=vals1 rs;exact SC.index o ⟨.int i,H,I.tok _,⟨_,rfl⟩,w.now d bA⟩
  ·exact w.elim
 ·exact w.elim
end Py
namespace Py
theorem C7(n:Nat):Iv none none (-1) (n:Int)=((n:Int)-1,-1):=rfl
theorem C8(n:Nat):Ie ((n:Int)-1) (-1) (-1)=n:=by
 unfold Ie;have h:¬((-1:Int)>0):=by omega
 have e:(-(-1:Int))=1:=by omega
 simp only[h,if_false,e,Mm];split<;>omega
theorem C9{t:Tok}{Q:Int×Int×Nat->HZ->Prop}(hs:s.heap.IsSliceOf sl .none .none (.int (-1) t))
  (h:Q ((n:Int)-1,-1,n) s):wpAny (model prog w) A (JQ (.ref sl) (pure (n:Int))) Q E s:=by
 obtain⟨o,a,b,H⟩:=id hs;refine Za (Za (ZF a H rfl (Za (ZF a H rfl (Za (ZF a H rfl (Zd ?_)))))));refine Za (HT.kx (.int (-1) t) ?_);show wpAny _ _ (match Iv none none (-1) (n)with| (lo,c)=>pure (lo,(-1),Ie lo c (-1))) _ _ s;rw[C7 n];show wpAny _ _ (pure _) _ _ s;rw[C8];exact Zd h
theorem lh{a b:Type}{f g:a->Option b}:∀{l:List a},(∀x∈l,f x=g x)->l.filterMap f=l.filterMap g
 | [],_=>rfl
 |x::l,h=>by
  have t:=lh λy H=>h y (Zc _ H)
  grind
theorem C_(xs:Av):((H_ xs.size).filterMap λ(m:Nat)=>xs[(((xs.size:Int)-1)+(m:Int)*(-1)).toNat]?).toArray=xs.toList.reverse.toArray:=by
 have h:=pick_run xs.toList.reverse.toArray 0 xs.size;rw[K4]at h;have e:xs.toList.reverse.toArray.toList.drop 0=xs.toList.reverse:=by simp
 rw[e,JG (by simp)]at h;rw[<-h];congr 1;refine lh λm a=>?_;have H:m<xs.size:=IS.1 a;have E:(((xs.size:Int)-1)+(m:Int)*(-1)).toNat=xs.size-1-m:=by omega
 rw[E];show xs[xs.size-1-m]?=xs.toList.reverse.toArray[0+m]?;rw[Ld,List.getElem?_toArray (xs:=xs.toList.reverse),List.getElem?_reverse (by simpa using H),ZI,JO]
theorem C'{prog:Ia}{w:Io}{A:IH}{E:Vs}{t:H7}{u:Tok}(a:LW s.heap t items)(hs:s.heap.IsSliceOf sl .none .none (.int (-1) u))
  (h:Q (.ref s.heap.objs.size) {s with heap:=s.heap.push {cls:=.type "tuple",data:=.seq items.toList.reverse.toArray}})
  (f:items.size<=sizeLine):wpAny (model prog w) A (getItem (.ref t) (.ref sl)) Q E s:=by
 have H:=by show items.toList.reverse.toArray.size<=sizeLine;simp_all
 obtain⟨o,c,b,e⟩:=id hs;unfold getItem
 try with_reducible refine ZE ?_
 refine Za (Kw a.typeIs (rfl) ?_)
 refine Za (ZG a.typeIs ZD
  (ZJ ZD a.typeIs Kb ?_ (Ko _ _)))
 show wpAny _ _ (Jb _>>=_) _ _ s;refine Za (Lh a ?_);refine Za (JB ⟨_,c,b⟩ ?_);refine Za (C9 hs ?_);show wpAny _ _ (if((items.size:Int)-1==0&&(-1)==1&&items.size==items.size)=HX then _ else _) _ _ s;rw[if_neg (by simp),C_]
 first
  |exact Za (ZN (Zd ⟨_,rfl,Zd h⟩) H)
  |rfl
  |rfl
  |lia
noncomputable def iI(d k:D)(S:ae):Res D:=match d,k with
 | .tup xs,.int i=>if i= -1 then .ok (.tup xs.reverse) S else .fail
 |_,_=>kT d k S
def Dc(K:Fg)(m:Mg):V->V->Hp->VK->Prop:=λx y H Q=>∃F μ S d k,aC K ⟨m,F⟩ μ S H/\Rep K ⟨m,F⟩ μ H d x/\Rep K ⟨m,F⟩ μ H k y/\aF K ⟨m,F⟩ μ H Q (iI d k S)
theorem qE{st:Expr}{ts:TE}{pos:Pos}(U:PE X e te)(hs:PE X st ts):PE X (.Subscript e (.Slice none none (some st) p2) pos) (λσ H Q=>te σ H λx H1=>ts σ H1 λy H2=>Dc X.K X.mg x y H2 Q):=by
 intro p s σ H Q I h;refine Mj (aK (U p s σ H _ I h) λv s1 ⟨x,H1,N,R,q1⟩=>?_);refine wpAny_Slice ?_;rw[evalPart_none,MB];refine Zd (Zd (aK (hs p s1 σ H1 _ N q1) λvs c ⟨y,m,n,D,q3⟩=>?_));obtain⟨F,μ,S,d,k,M,G,J,w⟩:=q3;unfold iI at w;split at w
 ·rename_i xs i;split at w
  ·rename_i V;subst V;have E:=ax J;subst E;obtain⟨t,rfl⟩:=D;obtain⟨a,W,rfl,hq,r⟩:=bz G;cases R;have g:Inv X p σ m {c with heap:=c.heap.push {cls:=.type "slice",data:=.fields #[.none,.none,.int (-1) t]}}:=n.kept (t':=c.toks) λb C q=>Zb _ q;obtain⟨l,L,A,B⟩:=g.tuple hq;have j:l.toArray.size=W.length:=by rw[Zs];exact L.length.symm
   show wpAny (model X.prog X.w) X.A (subscriptTail e (.Slice none none (some st) p2) (.ref a) (.ref c.heap.objs.size)) (EP X p σ Q) X.xe {c with heap:=c.heap.push {cls:=.type "slice",data:=.fields #[.none,.none,.int (-1) t]}};refine LD (ops:=[.ref a,.ref c.heap.objs.size]) A.typeIs PyProof.Rows.slot_tuple_getitem.lookup (C' A (JM ..) ?_ (by rw[j];exact B)) (by with_unfolding_all rfl);refine⟨.ref _,_,g.laid (t':=c.toks) (o:=.tup W.reverse) (λb C q=>Zb _ q) (Zf _) ?_,rfl,w.tup M r.reverse _ (g.hok.fresh (Zf _))⟩;exact⟨by rw[Jz];exact B,_,L.reverse,Lb _ _,j3.new _ _⟩
  ·exact w.elim
 ·have Y:∃z,d=.str z/\k=.int (-1):=by
   unfold kT at w;split at w
   ·split at w
    ·rename_i P;rw[P.1];exact⟨_,rfl,rfl⟩
    ·exact w.elim
   ·exact w.elim
  obtain⟨z,rfl,rfl⟩:=Y;have E:=ax J;subst E;obtain⟨t,rfl⟩:=D;have g:Inv X p σ m {c with heap:=c.heap.push {cls:=.type "slice",data:=.fields #[.none,.none,.int (-1) t]}}:=n.kept (t':=c.toks) λb C q=>Zb _ q;obtain⟨Z,T,rfl,K⟩:=vD (sl:=c.heap.objs.size) (u:=t) g R (Zg _ rfl) M G w;exact LD (ops:=[.str Z T,.ref c.heap.objs.size]) (JK _ Z T) PySem.F.slot_str_getitem.lookup K (by with_unfolding_all rfl)
theorem Dd(n:Nat):Iv none (some 0) (-1) (n:Int)=((n:Int)-1,min 0 ((n:Int)-1)):=rfl
theorem De(n:Nat):Ie ((n:Int)-1) (min 0 ((n:Int)-1)) (-1)=n-1:=by
 unfold Ie;have h:¬((-1:Int)>0):=by omega
 have e:(-(-1:Int))=1:=by omega
 simp only[h,if_false,e,Mm];split<;>omega
theorem Dg{t u:Tok}{Q:Int×Int×Nat->HZ->Prop}(hs:s.heap.IsSliceOf sl .none (.int 0 u) (.int (-1) t))
  (h:Q ((n:Int)-1,-1,n-1) s):wpAny (model prog w) A (JQ (.ref sl) (pure (n:Int))) Q E s:=by
 obtain⟨o,a,b,H⟩:=id hs;refine Za (Za (ZF a H (x:=.none) rfl (Za (ZF a H (x:=.int 0 u) rfl (Za (ZF a H rfl (Zd ?_)))))));refine Za (HT.kx (.int (-1) t) ?_);show wpAny _ _ (match Iv none (some 0) (-1) (n:Int)with| (lo,c)=>pure (lo,(-1:Int),Ie lo c (-1))) _ _ s;rw[Dd n];show wpAny _ _ (pure _) _ _ s;rw[De];exact Zd h
theorem wl(xs:Av):((H_ (xs.size-1)).filterMap λ(m:Nat)=>xs[(((xs.size:Int)-1)+(m:Int)*(-1)).toNat]?).toArray=xs.toList.tail.reverse.toArray:=by
 have h:=pick_run xs.toList.tail.reverse.toArray 0 (xs.size-1);rw[K4]at h;have e:xs.toList.tail.reverse.toArray.toList.drop 0=xs.toList.tail.reverse:=by simp
 rw[e,JG (by simp)]at h;rw[<-h];congr 1;refine lh λm H=>?_;have E:((xs.size:Int)-1+m* -1).toNat=xs.size-1-m:=by omega
 rw[E]
 grind
theorem Dh{prog:Ia}{w:Io}{A:IH}{E:Vs}{t:H7}{u v:Tok}(a:LW s.heap t items)(hs:s.heap.IsSliceOf sl .none (.int 0 v) (.int (-1) u))
  (h:Q (.ref s.heap.objs.size) {s with heap:=s.heap.push {cls:=.type "tuple",data:=.seq items.toList.tail.reverse.toArray}})
  (i:items.size<=sizeLine):wpAny (model prog w) A (getItem (.ref t) (.ref sl)) Q E s:=by
 have H:sizeOk (.seq items.toList.tail.reverse.toArray):=by show items.toList.tail.reverse.toArray.size<=sizeLine;simp;omega
 obtain⟨o,e,c,g⟩:=id hs;have b:s.TypeIs (.ref sl) "slice":=⟨o,e,c⟩;unfold getItem
 try with_reducible refine ZE ?_
 first|refine Za (Zd ?_)|skip
 refine Za (Kw a.typeIs (by decide) ?_)
 refine Za (ZG (name:=I8 "__getitem__") a.typeIs ZD
  (ZJ ZD a.typeIs Kb ?_ (Ko _ _)))
 show wpAny _ _ (Jb (.ref t)>>=_) _ _ s;refine Za (Lh a ?_);refine Za (JB b ?_);rw[if_pos (by decide)];refine Za (Dg hs ?_);have d:¬((((items.size:Int)-1)==0&&(-1:Int)==1&&(items.size-1)==items.size)=HX):=by intro q;rw[ZR,ZR]at q;exact absurd q.1.2 (by decide)
 show wpAny _ _ (if(((items.size:Int)-1)==0&&(-1:Int)==1&&(items.size-1)==items.size)=HX then _ else _) _ _ s;rw[if_neg d,wl]
 first
  |exact Za (m:=Jm _) (ZN (Zd ⟨_,rfl,Zd h⟩) H)
  |exact Za (m:=Jm _) (ZN (Za (Zd (Zd ⟨_,rfl,Zd h⟩))) H)
  |exact Za (Za (m:=Jm _) (ZN (Zd (Zd ⟨_,rfl,Zd h⟩)) H))
  |exact Za (Za (m:=Jm _) (ZN (Zd ⟨_,rfl,Zd h⟩) H))
theorem Di(i:Lv):slicePick i.toArray none (some 0) (some (-1))=i.tail.reverse.toArray:=by
 unfold slicePick
 have e:sliceBounds none (some 0) (some (-1)) i.toArray.size=((i.length:Int)-1,min 0 ((i.length:Int)-1),-1):=by
  unfold sliceBounds;simp
  try omega
 rw[e];show((sliceRange ((i.length:Int)-1) (min 0 ((i.length:Int)-1)) (-1)).filterMap λk=>i.toArray[k]?).toArray=_;unfold sliceRange;rw[K4]
 have H:(if(-1:Int)>0 then(if(i.length:Int)-1<min 0 ((i.length:Int)-1)then(min 0 ((i.length:Int)-1)-((i.length:Int)-1)+(-1)-1)/(-1)else 0)
   else(if(i.length:Int)-1>min 0 ((i.length:Int)-1)then((i.length:Int)-1-min 0 ((i.length:Int)-1)-(-1)-1)/(-(-1))else 0)).toNat=i.length-1:=by
  rw[if_neg (by decide)];have E:(-(-1:Int))=1:=rfl;rw[E,Mm];split<;>omega
 simp only[H];have h:=wl i.toArray;simp only[Zs]at h;rw[<-h];congr 1;refine lh λm a=>?_;show i.toArray[((i.length:Int)-1+(-1)*(m:Int)).toNat]?=i.toArray[((i.length:Int)-1+(m:Int)*(-1)).toNat]?;congr 2;omega
noncomputable def li(d z k:D)(S:ae):Res D:=match dV S d,z,k with
 |some xs,.int j,.int i=>if j=0/\i= -1 then .ok (.lst xs.tail.reverse) S else .fail
 |_,_,_=>.fail
noncomputable def iJ(d z k:D)(S:ae):Res D:=match d,z,k with
 | .tup xs,.int j,.int i=>if j=0/\i= -1 then .ok (.tup xs.tail.reverse) S else .fail
 |d,z,k=>li d z k S
theorem ag.tail{m:GS}{vs:List V}(r:ag K m μ H ds vs):ag K m μ H ds.tail vs.tail:=by
 cases ds with
 |nil=>subst r;rfl
 |cons d ds=>obtain⟨v,w,rfl,_,t⟩:=r.uncons;exact t
theorem Vals.tl{vs:List V}(r:Vals vs us):Vals vs.tail us.tail:=by
 cases r with
 |nil=>exact .nil
 |cons _ t=>exact t
def Dj(K:Fg)(m:Mg):V->V->V->Hp->VK->Prop:=λx z y H Q=>∃F μ S d j k,aC K ⟨m,F⟩ μ S H/\Rep K ⟨m,F⟩ μ H d x/\Rep K ⟨m,F⟩ μ H j z/\Rep K ⟨m,F⟩ μ H k y/\aF K ⟨m,F⟩ μ H Q (iJ d j k S)
theorem qF{n st:Expr}{th ts:TE}{pos:Pos}(he:PE X e te)(hh:PE X n th)(hs:PE X st ts):PE X (.Subscript e (.Slice none (some n) (some st) p2) pos) (λσ H Q=>te σ H λx H1=>th σ H1 λz H2=>ts σ H2 λy A=>Dj X.K X.mg x z y A Q):=by
 intro p s σ H Q I h;refine Mj (aK (he p s σ H _ I h) λv s1 ⟨x,H1,I1,N,q1⟩=>?_);refine wpAny_Slice ?_;rw[evalPart_none,MB,MB];refine Zd (aK (hh p s1 σ H1 _ I1 q1) λvz s2 ⟨z,H2,I2,P,q2⟩=>aK (hs p s2 σ H2 _ I2 q2) λvs c ⟨y,A,M,U,q3⟩=>?_);obtain⟨F,μ,S,d,j,k,L,V,Y,Z,w⟩:=q3;cases E:dV S d with
 |some xs=>
  have hw:iJ d j k S=li d j k S:=by cases d<;>first|rfl|cases E
  rw[hw]at w;unfold li at w;rw[E]at w;cases j<;>first|exact w.elim|skip
  cases k<;>first|exact w.elim|skip
  rename_i j i;replace w:aF X.K ⟨X.mg,F⟩ μ A Q (if j=0/\i= -1 then .ok (.lst xs.tail.reverse) S else .fail):=w;split at w
  ·rename_i n;obtain⟨rfl,rfl⟩:=n;have C:=ax Z;subst C;have D:=ax Y;subst D;obtain⟨t,rfl⟩:=U;obtain⟨u,rfl⟩:=P;obtain⟨a,W,rfl,G,r⟩:=dh L V E;cases N;have l:Inv X p σ A {c with heap:=c.heap.push {cls:=.type "slice",data:=.fields #[.none,.int 0 u,.int (-1) t]}}:=M.kept (t':=c.toks) λb O q=>Zb _ q;obtain⟨m,R,B,J⟩:=l.list (.of G);have g:m.toArray.size=W.length:=by rw[Zs];exact R.length.symm
   show wpAny (model X.prog X.w) X.A (subscriptTail e (.Slice none (some _) (some st) p2) (.ref a) (.ref c.heap.objs.size)) (EP X p σ Q) X.xe {c with heap:=c.heap.push {cls:=.type "slice",data:=.fields #[.none,.int 0 u,.int (-1) t]}};refine LD (ops:=[.ref a,.ref c.heap.objs.size]) B.isList.typeIs slot_list_getitem.lookup (Mz B.isList (JM ..) .none (.int 0 u) (.int (-1) t) (by simp) ?_ (by rw[g];exact J)) (by with_unfolding_all rfl);rw[Di];refine⟨.ref _,_,l.laid (t':=c.toks) (o:=.lst W.tail.reverse) (λb O q=>Zb _ q) (Zf _) ?_,rfl,w.lst L r.tail.reverse _ (l.hok.fresh (Zf _))⟩;exact⟨by rw[Jz,Lk];omega,_,0,(Vals.tl R).reverse,Zg _ rfl⟩
  ·exact w.elim
 |none=>
 unfold iJ at w;split at w
 ·rename_i xs j i;split at w
  ·rename_i n;obtain⟨rfl,rfl⟩:=n;have C:=ax Z;subst C;have D:=ax Y;subst D;obtain⟨t,rfl⟩:=U;obtain⟨u,rfl⟩:=P;obtain⟨a,W,rfl,G,r⟩:=bz V;cases N;have l:Inv X p σ A {c with heap:=c.heap.push {cls:=.type "slice",data:=.fields #[.none,.int 0 u,.int (-1) t]}}:=M.kept (t':=c.toks) λb O q=>Zb _ q;obtain⟨m,R,B,J⟩:=l.tuple G;have g:m.toArray.size=W.length:=by rw[Zs];exact R.length.symm
   show wpAny (model X.prog X.w) X.A (subscriptTail e (.Slice none (some _) (some st) p2) (.ref a) (.ref c.heap.objs.size)) (EP X p σ Q) X.xe {c with heap:=c.heap.push {cls:=.type "slice",data:=.fields #[.none,.int 0 u,.int (-1) t]}};refine LD (ops:=[.ref a,.ref c.heap.objs.size]) B.typeIs PyProof.Rows.slot_tuple_getitem.lookup (Dh B (JM ..) ?_ (by rw[g];exact J)) (by with_unfolding_all rfl);refine⟨.ref _,_,l.laid (t':=c.toks) (o:=.tup W.tail.reverse) (λb O q=>Zb _ q) (Zf _) ?_,rfl,w.tup L r.tail.reverse _ (l.hok.fresh (Zf _))⟩;exact⟨by rw[Jz,Lk];omega,_,(Vals.tl R).reverse,Lb _ _,j3.new _ _⟩
  ·exact w.elim
 ·unfold li at w;rw[E]at w;exact w.elim
section
open PySem.AutoSeq1 (wpAny_loadPart')
open PySem.MeetsSeq PySem.MeetsSeq2 PySem.MeetsSeq3
open PySem.AutoSeq1
end
set_option genInjectivity false in
inductive dP where
 |int|seq (t:dP)
 deriving DecidableEq
set_option genInjectivity false in
inductive ia where
 |len|tuple|list (box:Bool)|int|min|max|isinst|all|any|sum|repr|abs|str|sorted (box:Bool) (t:dP)
 deriving DecidableEq
inductive oX where
 |append|extend|pop|count|insert|index
 deriving DecidableEq
set_option genInjectivity false in
inductive CT where
 |var (i:Nat)
 |tup (ts:List CT)
set_option genInjectivity false in
inductive CE where
 |var (i:Nat)
 |lit (d:D)
 |glob (x:Str)
 |ty (n:String)
 |bin (op:LC) (a b:CE)
 |neg (a:CE)
 |cmp (op:Ka) (a b:CE)
 |chain (op op':Ka) (a b c:CE)
 |chain3 (op op' op'':Ka) (a b c d:CE)
 |band (a b:CE)
 |bor (a b:CE)
 |bnot (a:CE)
 |ite (c a b:CE)
 |tup (es:List CE)
 |lst (box:Bool) (es:List CE)
 |idx (a b:CE)
 |sl (a:CE) (lo hi:List CE)
 |call (f:Str) (es:List CE)
 |blt (b:ia) (es:List CE)
 |meth (m:oX) (o:CE) (es:List CE)
 |tix (o:CE) (es:List CE)
 |smt (m:oW) (o:CE) (es:List CE)
 |join (s:Str) (es:List CE)
 |sset (a:CE)
 |comp (box:Bool) (N:Ls) (fr:List (Option Nat)) (tg:CT) (it:CE) (ifs:List CE) (body:CE)
 |emit (e:CE)
 |inner (tg:CT) (it:CE) (ifs:List CE) (body:CE)
 |seq (e:CE)
 |range (es:List CE)
 |zip (es:List CE)
 |dct
 |rev (a b:CE)
 |rv0 (a b c:CE)
set_option genInjectivity false in
inductive CS where
 |asg (i:Nat) (e:CE)
 |asgT (t:CT) (e:CE)
 |set (o i v:CE)
 |expr (e:CE)
 |ret (e:CE)
 |retN
 |pass
 |brk
 |cont
 |ite (c:CE) (a b:List CS)
 |for_ (t:CT) (it:CE) (body:List CS)
 |never
 |raise_ (x:Str) (es:List CE)
 |tryK (i:Nat) (body:List CS) (f:Str) (ys ws:Ls)
 |tryN (x:Str) (i:Nat) (body:List CS) (f:Str) (ys ws:Ls)
abbrev bu:=List (Option D)
abbrev FT:=Str->Option (List D->ae->Res D)
noncomputable def Res.bind{b c:Type}(r:Res b)(f:b->ae->Res c):Res c:=match r with
 | .ok a S=>f a S
 | .err x S=>.err x S
 | .fail=>.fail
noncomputable def Res.noErr{b:Type}:Res b->Res b
 | .ok a S=>.ok a S
 |_=>.fail
noncomputable def av{a:Type}(d:D)(f:Bool->Res a):Res a:=match d with
 | .bl k=>f k
 |_=>.fail
noncomputable def cj:List CT->List D->bu->Option bu
 | [],ds,ρ=>if ds.isEmpty=HX then some ρ else none
 |t::ts,ds,ρ=>match t,ds with
  | .var i,d::ds=>cj ts ds (ρ.set i (some d))
  |_,_=>none
noncomputable def aQ:CT->D->bu->Option bu
 | .var i,d,ρ=>some (ρ.set i (some d))
 | .tup ts,d,ρ=>match d with
  | .tup ds=>cj ts ds ρ
  |_=>none
noncomputable def fk:List CT->List Nat
 | []=>[]
 |t::ts=>match t with
  | .var i=>i::fk ts
  | .tup _=>fk ts
noncomputable def slots:CT->List Nat
 | .var i=>[i]
 | .tup ts=>fk ts
noncomputable def dw:bu->List Nat->Bool
 |ρ,is=>is.all λi=>match ρ[i]? with
  |some none=>HX
  |_=>HY
noncomputable def br(t:CT)(d:D)(ρ:bu):Option bu:=if dw ρ (slots t)=HX then aQ t d ρ else none
set_option genInjectivity false in
inductive gJ where
 |items (xs:List D)|live (f:Nat) (get:ae->Nat->Option (Option D))
noncomputable def aR(step:D->List D->ae->Res (List D)):List D->List D->ae->Res (List D)
 | [],acc,S=>.ok acc S
 |x::xs,acc,S=>(step x acc S).bind λa S'=>aR step xs a S'
noncomputable def b5(step:D->List D->ae->Res (List D))(get:ae->Nat->Option (Option D)):Nat->Nat->List D->ae->Res (List D)
 |0,_,_,_=>.fail
 |f+1,i,acc,S=>match get S i with
  |none=>.fail
  |some none=>.ok acc S
  |some (some x)=>(step x acc S).bind λa S'=>b5 step get f (i+1) a S'
noncomputable def dy(step:D->List D->ae->Res (List D))(i:gJ)(a:List D)(S:ae):Res (List D):=match i with
 | .items xs=>aR step xs a S
 | .live f get=>b5 step get f 0 a S
noncomputable def lj(n:Nat):ae->Nat->Option (Option D):=λS i=>(S[n]?).map λxs=>xs[i]?
noncomputable def fS(S:ae):D->Option gJ
 | .tup xs=>some (.items xs)
 | .lst xs=>some (.items xs)
 | .scr xs=>some (.items xs)
 | .ref n=>some (.live (((S[n]?).getD []).length+1) (lj n))
 |_=>none
noncomputable def ll:D->Option (List D)
 | .tup xs=>some xs
 | .lst xs=>some xs
 | .scr xs=>some xs
 |_=>none
noncomputable def lm(d e:D):ae->Nat->Option (Option D):=λS i=>match aA S d,aA S e with
 |some xs,some ys=>some (match xs[i]?,ys[i]? with
  |some x,some y=>some (.tup [x,y])
  |_,_=>none)
 |_,_=>none
noncomputable def dW:D->Bool
 | .tup _=>HY
 |_=>HX
noncomputable def dz(S:ae)(d e:D):Option gJ:=match ll d,ll e with
  |some xs,some ys=>some (.items (H9 (λx y=>.tup [x,y]) xs ys))
  |_,_=>match aA S d,aA S e with
   |some xs,some ys=>some (.live (min xs.length ys.length+1) (lm d e))
   |_,_=>none
noncomputable def cW(l:Int):Nat->List D
 |0=>[]
 |n+1=>.int l::cW (l+1) n
noncomputable def ck:List D->Option (Option Int)
 | []=>some none
 | [.int i]=>some (some i)
 |_=>none
noncomputable def dD(ds:List D)(S:ae):Res (Option Int):=match ck ds with
 |some o=>.ok o S
 |none=>.fail
noncomputable def ar:dP->D->Bool
 | .int,.int _=>HX
 | .seq t,.tup xs=>xs.all (ar t)
 |_,_=>HY
noncomputable def bB(f:D->D->Bool):List D->List D->Bool
 | [],[]=>HY
 | [],_::_=>HX
 |_::_,[]=>HY
 |x::xs,y::ys=>if f x y=HX then HX else if f y x=HX then HY else bB f xs ys
noncomputable def bG:dP->D->D->Bool
 | .int,.int i,.int j=>decide (i<j)
 | .seq t,.tup xs,.tup ys=>bB (bG t) xs ys
 |_,_,_=>HY
noncomputable def dn(f:D->D->Bool)(x:D):List D->List D
 | []=>[x]
 |y::ys=>if f x y=HX then x::y::ys else y::dn f x ys
noncomputable def dX(f:D->D->Bool)(xs:List D):List D:=xs.foldl (λacc x=>dn f x acc) []
noncomputable def bM:dP->Bool
 | .int=>HX
 | .seq t=>bM t
noncomputable def er:D->Bool
 | .tup []=>HX
 |_=>HY
noncomputable def fm:dP->List D->Bool
 | .int,_=>HX
 | .seq t,xs=>bM t&&(xs.all λd=> !er d)
noncomputable def iK(box:Bool)(t:dP)(ds:List D)(S:ae):Res D:=match ds with
 | [d]=>match aA S d with
  |some xs=>if xs.all (ar t)=HX/\xs.length<64/\fm t xs=HX then(if box=HX then .ok (.ref S.length) (S++[dX (bG t) xs])else .ok (.lst (dX (bG t) xs)) S)else .fail
  |none=>.fail
 |_=>.fail
noncomputable def iL:D->Option Int
 | .int i=>some i
 |_=>none
noncomputable def et:D->Li
 | .tup ds=>ds.filterMap iL
 |_=>[]
noncomputable def iM(ks:List (Li)):List (Li):=ks.foldl (λacc k=>if acc.contains k=HX then acc else acc++[k]) []
noncomputable def dA(ks:List (Li)):List D:=dX (bG (.seq .int)) ((iM ks).map λk=>D.tup (k.map D.int))
noncomputable def dB(d:D)(S:ae):Res D:=match aA S d with
 |some xs=>
  if xs.all (ar (.seq .int))=HX/\xs.length<64/\(xs.all λd=> !er d)=HX then .ok (.lst (dA (xs.map et))) S else .fail
 |none=>.fail
noncomputable def cm:dP->Nat
 | .int=>1
 | .seq t=>cm t+1
noncomputable def qG:ia->Bool
 | .sorted _ t=>decide (cm t<=40)
 | .sum=>HY
 | .any=>HY
 | .min=>HY
 | .max=>HY
 | .repr=>HY
 | .abs=>HY
 |_=>HX
noncomputable def qH(ds:List D)(S:ae):Res D:=match ds with
 | [.int k]=>if k.natAbs<2^64 then .ok (.str (toString k:String)) S else .fail
 |_=>.fail
noncomputable def aJ:ia->List D->ae->Res D
 | .len=>eQ| .tuple=>kW| .list b=>iD b| .int=>intD| .min=>λ_ _=>.fail | .max=>λ_ _=>.fail | .isinst=>bS| .all=>kZ| .any=>λ_ _=>.fail | .sum=>λ_ _=>.fail | .repr=>λ_ _=>.fail | .abs=>λ_ _=>.fail | .str=>qH
 | .sorted b t=>iK b t
noncomputable def gf:oX->D->List D->ae->Res D
 | .append=>qw| .extend=>λ_ _ _=>.fail | .pop=>λ_ _ _=>.fail | .count=>λ_ _ _=>.fail | .insert=>λ_ _ _=>.fail | .index=>λ_ _ _=>.fail
section
variable (Φ:FT)(Γ:Str->Option D)
mutual
noncomputable def ah:CE->bu->ae->Res D
 | .var i,ρ,S=>match ρ[i]? with
  |some (some d)=>.ok d S
  |_=>.fail
 | .dct,ρ,S=>.ok .dct S
 | .lit d,ρ,S=>.ok d S
 | .glob x,ρ,S=>match Γ x with
  |some d=>.ok d S
  |none=>.fail
 | .ty n,ρ,S=>.ok (.ty n) S
 | .bin op a b,ρ,S=>(ah a ρ S).bind λd S1=>(ah b ρ S1).bind λe S2=>(gb op d e S2).noErr
 | .neg a,ρ,S=>(ah a ρ S).bind λd S1=>match d with
  | .int i=>.ok (.int (-i)) S1
  |_=>.fail
 | .cmp op a b,ρ,S=>(ah a ρ S).bind λd S1=>(ah b ρ S1).bind λe S2=>(ao op d e S2).noErr
 | .chain3 _ _ _ _ _ _ _,_,_=>.fail
 | .chain op op' a b c,ρ,S=>(ah a ρ S).bind λd S1=>(ah b ρ S1).bind λe S2=>(ao op d e S2).noErr.bind λk S3=>av k λk=>if k=HX then(ah c ρ S3).bind λf p=>(ao op' e f p).noErr else .ok (.bl HY) S3
 | .band a b,ρ,S=>(ah a ρ S).bind λd S1=>av d λk=>if k=HX then ah b ρ S1 else .ok (.bl HY) S1
 | .bor a b,ρ,S=>(ah a ρ S).bind λd S1=>av d λk=>if k=HX then .ok (.bl HX) S1 else ah b ρ S1
 | .bnot a,ρ,S=>(ah a ρ S).bind λd S1=>match aY S1 d with
  |some k=>.ok (.bl (!k)) S1
  |none=>.fail
 | .ite c a b,ρ,S=>(al c ρ S).bind λk S1=>if k=HX then ah a ρ S1 else ah b ρ S1
 | .tup es,ρ,S=>(aj es ρ S).bind λds S1=>.ok (.tup ds) S1
 | .lst box es,ρ,S=>(aj es ρ S).bind λds S1=>if box=HX then .ok (.ref S1.length) (S1++[ds])else .ok (.lst ds) S1
 | .rev a b,ρ,S=>(ah a ρ S).bind λd S1=>(ah b ρ S1).bind λe S2=>(iI d e S2).noErr
 | .rv0 a b c,ρ,S=>(ah a ρ S).bind λd S1=>(ah b ρ S1).bind λe S2=>(ah c ρ S2).bind λf S3=>(iJ d e f S3).noErr
 | .idx a b,ρ,S=>(ah a ρ S).bind λd S1=>(ah b ρ S1).bind λe S2=>(bb d e S2).noErr
 | .sl a lo hi,ρ,S=>(ah a ρ S).bind λd S1=>((aj lo ρ S1).bind dD).bind λl S2=>((aj hi ρ S2).bind dD).bind λh S3=>(gG d l h S3).noErr
 | .call f es,ρ,S=>match Φ f with
  |some φ=>(aj es ρ S).bind λds S1=>φ ds S1
  |none=>.fail
 | .blt b es,ρ,S=>(aj es ρ S).bind λds S1=>(aJ b ds S1).noErr
 | .meth m o es,ρ,S=>(ah o ρ S).bind λd S1=>match d with
  | .ref n=>(aj es ρ S1).bind λds S2=>(gf m (.ref n) ds S2).noErr
  |_=>.fail
 | .smt m o es,ρ,S=>(ah o ρ S).bind λd S1=>match d with
  | .str x=>(aj es ρ S1).bind λds S2=>(fR m x ds S2).noErr
  |_=>.fail
 | .tix o es,ρ,S=>(ah o ρ S).bind λd S1=>match d with
  | .tup xs=>(aj es ρ S1).bind λds S2=>(qC (.tup xs) ds S2).noErr
  |_=>.fail
 | .join x es,ρ,S=>(aj es ρ S).bind λds S1=>(fj x ds S1).noErr
 | .sset a,ρ,S=>(ah a ρ S).bind λd S1=>(dB d S1).noErr
 | .comp box N fr tg it ifs body,ρ,S=>(aU it ρ S).bind λits S1=>
   (dy (λx acc S2=>match br tg x (fr.map λj=>j.bind λj=>(ρ[j]?).join)with
    |some ρ'=>(aV ifs ρ' S2).bind λk S3=>if k=HX then bN body ρ' acc S3 else .ok acc S3
    |none=>.fail) its [] S1).noErr.bind λys g=>if box=HX then .ok (.ref g.length) (g++[ys])else .ok (.lst ys) g
 | .emit _,_,_=>.fail
 | .inner _ _ _ _,_,_=>.fail
 | .seq _,_,_=>.fail
 | .range _,_,_=>.fail
 | .zip _,_,_=>.fail
noncomputable def al:CE->bu->ae->Res Bool
 | .band a b,ρ,S=>(al a ρ S).bind λk S1=>if k=HX then al b ρ S1 else .ok HY S1
 | .bor a b,ρ,S=>(al a ρ S).bind λk S1=>if k=HX then .ok HX S1 else al b ρ S1
 | .bnot a,ρ,S=>(al a ρ S).bind λk S1=>.ok (!k) S1
 | .cmp op a b,ρ,S=>(ah a ρ S).bind λd S1=>(ah b ρ S1).bind λe S2=>(ao op d e S2).noErr.bind λk S3=>av k λk=>.ok k S3
 | .chain3 op op' op'' a b c d,ρ,S=>(ah a ρ S).bind λx S1=>(ah b ρ S1).bind λe S2=>(ao op x e S2).noErr.bind λk S3=>av k λk=>if k=HX then(ah c ρ S3).bind λf j=>(ao op' e f j).noErr.bind λk h=>av k λk=>if k=HX then(ah d ρ h).bind λg l=>(ao op'' f g l).noErr.bind λk m=>av k λk=>.ok k m else .ok HY h else .ok HY S3
 | .chain op op' a b c,ρ,S=>(ah a ρ S).bind λd S1=>(ah b ρ S1).bind λe S2=>(ao op d e S2).noErr.bind λk S3=>av k λk=>if k=HX then(ah c ρ S3).bind λf j=>(ao op' e f j).noErr.bind λk h=>av k λk=>.ok k h else .ok HY S3
 | .var i,ρ,S=>match ρ[i]? with
  |some (some d)=>match aY S d with
   |some k=>.ok k S
   |none=>.fail
  |_=>.fail
 | .call f es,ρ,S=>match Φ f with
  |some φ=>(aj es ρ S).bind λds S1=>(φ ds S1).bind λd S2=>match aY S2 d with
   |some k=>.ok k S2
   |none=>.fail
  |none=>.fail
 | .blt b es,ρ,S=>(aj es ρ S).bind λds S1=>(aJ b ds S1).noErr.bind λd S2=>match aY S2 d with
   |some k=>.ok k S2
   |none=>.fail
 | .lit d,ρ,S=>match aY S d with
   |some k=>.ok k S
   |none=>.fail
 |_,_,_=>.fail
noncomputable def aj:List CE->bu->ae->Res (List D)
 | [],_,S=>.ok [] S
 |e::es,ρ,S=>(ah e ρ S).bind λd S1=>(aj es ρ S1).bind λds S2=>.ok (d::ds) S2
noncomputable def aV:List CE->bu->ae->Res Bool
 | [],_,S=>.ok HX S
 |e::es,ρ,S=>(al e ρ S).bind λk S1=>if k=HX then aV es ρ S1 else .ok HY S1
noncomputable def aU:CE->bu->ae->Res gJ
 | .seq e,ρ,S=>(ah e ρ S).bind λd S1=>match fS S1 d with
  |some xs=>.ok xs S1
  |none=>.fail
 | .range es,ρ,S=>(aj es ρ S).bind λds S1=>match ds with
  | [.int j]=>if-(2^62)<=j/\j<2^62 then .ok (.items (cW 0 j.toNat)) S1 else .fail
  | [.int i,.int j]=>if-(2^62)<=i/\i<2^62/\ -(2^62)<=j/\j<2^62 then .ok (.items (cW i (j-i).toNat)) S1 else .fail
  |_=>.fail
 | .zip es,ρ,S=>(aj es ρ S).bind λds S2=>match ds with
  | [d,e]=>(match dz S2 d e with
   |some its=>.ok its S2
   |none=>.fail)
  |_=>.fail
 |_,_,_=>.fail
noncomputable def bN:CE->bu->List D->ae->Res (List D)
 | .emit e,ρ,acc,S=>(ah e ρ S).bind λy S1=>if acc.length<a' then .ok (acc++[y]) S1 else .fail
 | .inner tg it ifs body,ρ,acc,S=>(aU it ρ S).bind λits S1=>
   dy (λx acc S2=>match br tg x ρ with
    |some ρ'=>(aV ifs ρ' S2).bind λk S3=>if k=HX then bN body ρ' acc S3 else .ok acc S3
    |none=>.fail) its acc S1
 |_,_,_,_=>.fail
end
set_option genInjectivity false in
inductive Fl where
 |next(ρ:bu)|ret (d:D)|brk (ρ:bu)|cont (ρ:bu)
noncomputable def dF(step:D->bu->ae->Res Fl):List D->bu->ae->Res Fl
 | [],ρ,S=>.ok (.next ρ) S
 |x::xs,ρ,S=>(step x ρ S).bind λf S'=>match f with
  | .next ρ'=>dF step xs ρ' S'
  | .cont ρ'=>dF step xs ρ' S'
  | .brk ρ'=>.ok (.next ρ') S'
  | .ret d=>.ok (.ret d) S'
noncomputable def cX(step:D->bu->ae->Res Fl)(get:ae->Nat->Option (Option D)):Nat->Nat->bu->ae->Res Fl
 |0,_,_,_=>.fail
 |f+1,i,ρ,S=>match get S i with
  |none=>.fail
  |some none=>.ok (.next ρ) S
  |some (some x)=>(step x ρ S).bind λF S'=>match F with
    | .next ρ'=>cX step get f (i+1) ρ' S'
    | .cont ρ'=>cX step get f (i+1) ρ' S'
    | .brk ρ'=>.ok (.next ρ') S'
    | .ret d=>.ok (.ret d) S'
noncomputable def ln(step:D->bu->ae->Res Fl)(i:gJ)(ρ:bu)(S:ae):Res Fl:=match i with
 | .items xs=>dF step xs ρ S
 | .live f get=>cX step get f 0 ρ S
mutual
noncomputable def am:CS->bu->ae->Res Fl
 | .asg i e,ρ,S=>(ah Φ Γ e ρ S).bind λd S1=>.ok (.next (ρ.set i (some d))) S1
 | .asgT t e,ρ,S=>(ah Φ Γ e ρ S).bind λd S1=>match aQ t d ρ with
  |some ρ'=>.ok (.next ρ') S1
  |none=>.fail
 | .set o i v,ρ,S=>(ah Φ Γ v ρ S).bind λf S1=>(ah Φ Γ o ρ S1).bind λd S2=>(ah Φ Γ i ρ S2).bind λe S3=>match gH d e f S3 with
  |some g=>.ok (.next ρ) g
  |none=>.fail
 | .expr e,ρ,S=>(ah Φ Γ e ρ S).bind λ_ S1=>.ok (.next ρ) S1
 | .ret e,ρ,S=>(ah Φ Γ e ρ S).bind λd S1=>.ok (.ret d) S1
 | .retN,_,S=>.ok (.ret .non) S
 | .pass,ρ,S=>.ok (.next ρ) S
 | .brk,ρ,S=>.ok (.brk ρ) S
 | .cont,ρ,S=>.ok (.cont ρ) S
 | .ite c a b,ρ,S=>(al Φ Γ c ρ S).bind λk S1=>if k=HX then af a ρ S1 else af b ρ S1
 | .for_ t it body,ρ,S=>(aU Φ Γ it ρ S).bind λxs S1=>ln (λx ρ S=>match aQ t x ρ with
   |some ρ'=>af body ρ' S
   |none=>.fail) xs ρ S1
 | .never,_,_=>.fail
 | .raise_ x es,ρ,S=>(aj Φ Γ es ρ S).bind λds S1=>if ds.length<=1000 then .err ⟨x,[]⟩ S1 else .fail
 | .tryK _ body _ ys w,ρ,S=>match af body ρ S with
  | .err x S'=>(match x.fs,(ys.zip w).lookup x.cls with
   | [],some r=>.ok (.ret (.str r)) S'
   |_,_=>.fail)
  |r=>r
 | .tryN y _ body _ ys w,ρ,S=>match af body ρ S with
  | .err x S'=>(match x.fs,(ys.zip w).lookup x.cls with
   | [],some r=>.ok (.ret (.lst [.str y,.str r])) S'
   |_,_=>.fail)
  |r=>r
noncomputable def af:List CS->bu->ae->Res Fl
 | [],ρ,S=>.ok (.next ρ) S
 |c::cs,ρ,S=>(am c ρ S).bind λf S1=>match f with
  | .next ρ'=>af cs ρ' S1
  |f=>.ok f S1
end
end
end Py
variable {body cs:List Py.CS}{Φ:Py.FT}{ρ ρ':Py.bu}
namespace Py
def wm(m:Mg)(x:Exc)(cls:H8)(d:Option H7)(H:Hp):Prop:=m x.cls=some cls/\x.fs=[]
def wn(m:Mg)(E:XK)(x:Exc)(H:Hp):Prop:=∀cls d,wm m x cls d H->E cls d H
noncomputable def ai{c d:Type}(K:Fg)(m:GS)(E:XK)(Rel:La->Hp->c->d->Prop)(μ:La)(H:Hp)(Q:d->Hp->Prop):Res c->Prop
 | .ok a S'=>∀μ' H' b,Ext μ H μ' H'->aC K m μ' S' H'->Rel μ' H' a b->Q b H'
 | .err x S'=>∀μ' H',Ext μ H μ' H'->aC K m μ' S' H'->wn m.mg E x H'
 | .fail=>False
section
variable {mg:GS}{E:XK}
theorem bU{Q:VK}{r:Res D}(w:ai K mg E (Rep K mg) μ H Q r.noErr):aF K mg μ H Q r:=by cases r<;>first|exact w|exact w.elim
theorem ai.ext{Rel:La->Hp->α->β->Prop}{Q:β->Hp->Prop}{r:Res α}(x:Ext μ H μ' H')(w:ai K mg E Rel μ H Q r):ai K mg E Rel μ' H' Q r:=by
 cases r with
 |ok d S=>exact λa b v X s R=>w _ _ v (x.trans X) s R
 |err y S=>exact λa b X s=>w _ _ (x.trans X) s
 |fail=>exact w
theorem ai.bind{c d:Type}{Rel:La->Hp->α->β->Prop}{R:La->Hp->c->d->Prop}{Q:d->Hp->Prop}{r:Res α}{f:α->ae->Res c}(w:ai K mg E R μ H Q (r.bind f)):
  ai K mg E Rel μ H (λb H'=>∃μ' S' a,Ext μ H μ' H'/\aC K mg μ' S' H'/\Rel μ' H' a b/\ai K mg E R μ' H' Q (f a S')) r:=by
 cases r with
 |ok a S'=>exact λe g b x s r=>⟨_,_,a,x,s,r,ai.ext x (show ai K _ E _ _ H Q _ from w)⟩
 |err y S'=>exact w
 |fail=>exact w
theorem ai.mono{Rel:La->Hp->α->β->Prop}{Q c:β->Hp->Prop}{r:Res α}(w:ai K mg E Rel μ H Q r)(h:∀b H',Q b H'->c b H'):ai K mg E Rel μ H c r:=by
 cases r with
 |ok a S=>exact λd e b x s r=>h b _ (w _ _ b x s r)
 |err y S=>exact w
 |fail=>exact w
def aN(K:Fg)(m:GS)(μ:La)(H:Hp)(ρ:bu)(σ:L2.St):Prop:=
 ρ.length=σ.length/\∀(i:Nat) (d:D),ρ[i]?=some (some d)->∃v,σ[i]?=some (some v)/\Rep K m μ H d v
theorem aN.mono(x:Ext μ H μ' H')(h:aN K mg μ H ρ σ):aN K mg μ' H' ρ σ:=
 ⟨h.1,λi d e=>let⟨v,a,b⟩:=h.2 i d e;⟨v,a,Rep.mono x _ _ b⟩⟩
theorem aN.set{i:Nat}(h:aN K mg μ H ρ σ)(r:Rep K mg μ H d v):aN K mg μ H (ρ.set i (some d)) (σ.set i (some v)):=by
 refine⟨by simp[h.1],λj e a=>?_⟩;by_cases b:j=i
 ·subst b;have c:j<ρ.length:=by grind
  rw[ZZ c]at a;cases a;exact⟨v,ZZ (by rw[<-h.1];exact c),r⟩
 ·rw[IF (Ne.symm b)]at a⊢;exact h.2 j e a
end
section
variable (K:Fg)(mg:Mg)(E:XK)(Φ:FT)(Γ:Str->Option D)
noncomputable def tE(c:CE):TE:=λσ H Q=>∃F μ ρ S,aC K ⟨mg,F⟩ μ S H/\aN K ⟨mg,F⟩ μ H ρ σ/\ai K ⟨mg,F⟩ E (Rep K ⟨mg,F⟩) μ H Q (ah Φ Γ c ρ S)
noncomputable def tT(c:CE):TT:=λσ H Q=>∃F μ ρ S,aC K ⟨mg,F⟩ μ S H/\aN K ⟨mg,F⟩ μ H ρ σ/\ai K ⟨mg,F⟩ E (λ_ _ a b=>a=b) μ H Q (al Φ Γ c ρ S)
noncomputable def tL(cs:List CE):TA:=λσ H Q=>∃F μ ρ S,aC K ⟨mg,F⟩ μ S H/\aN K ⟨mg,F⟩ μ H ρ σ/\ai K ⟨mg,F⟩ E (ag K ⟨mg,F⟩) μ H Q (aj Φ Γ cs ρ S)
end
theorem aI{t t':TE}(h:PE X e t)(w:∀σ H Q,t' σ H Q->t σ H Q):PE X e t':=λp s σ H Q I q=>h _ s _ H Q I (w _ H Q q)
theorem cY{t t':TT}(h:PT X e t)(w:∀σ H Q,t' σ H Q->t σ H Q):PT X e t':=λp s σ H Q I q=>h _ s _ H Q I (w _ H Q q)
theorem ez{e:Lx}{t t':TA}(h:PA X e t)(w:∀σ H Q,t' σ H Q->t σ H Q):PA X e t':=λpos p s σ H Q I q=>h _ _ s _ H Q I (w _ H Q q)
noncomputable def lp(s:List (Str×IQ))(x:Str):Bool:=match s.lookup x with
 |some .local=>HX|some .cell=>HX|some .free=>HX
 |_=>HY
noncomputable def a_(s:List (Str×IQ))(x:Str):Bool:=s.lookup x==some .globalImplicit&& !(x==("__debug__":Str))&& !(x==("__name__":Str))
noncomputable def dH(x:Str):Bool:= !(x==("__debug__":Str))&& !(x==("__classdict__":Str))
noncomputable def bK:Expr->Bool
 | .Starred _ _=>HY
 |_=>HX
noncomputable def iN:D->Const->Bool
 | .non,.none=>HX
 | .bl b,.bool c=>b==c
 | .int i,.int j=>i==j
 | .str x,.str y=>x==y
 |_,_=>HY
noncomputable def fT:ia->Str
 | .len=>"len"| .tuple=>"tuple"| .list _=>"list"| .int=>"int"| .min=>"min"| .max=>"max"| .isinst=>"isinstance"| .all=>"all"| .any=>"any"| .sum=>"sum"| .repr=>"repr"| .abs=>"abs"| .str=>"str"| .sorted _ _=>"sorted"
noncomputable def iO:ia->H8
 | .len=>.builtin "len"| .tuple=>.type "tuple"| .list _=>.type "list"| .int=>.type "int"| .min=>.builtin "min"| .max=>.builtin "max"| .isinst=>.builtin "isinstance"| .all=>.builtin "all"| .any=>.builtin "any"| .sum=>.builtin "sum"| .repr=>.builtin "repr"| .abs=>.builtin "abs"| .str=>.type "str"| .sorted _ _=>.builtin "sorted"
theorem Dk(b:ia):bootBuiltins (fT b)=some (iO b):=by
 cases b with
 |list box=>rfl
 |sorted box t=>rfl
 |_=>decide+kernel
noncomputable def gK:List String:=["int","bool","str","tuple","list","dict"]
theorem lq{n:String}(h:gK.contains n=HX):bootBuiltins (I8 n)=some (.type n):=by simp[gK]at h;rcases h with rfl|rfl|rfl|rfl|rfl|rfl<;>decide+kernel
abbrev Sc:=List (Str×IQ)
noncomputable def iP(N s:Sc):Sc:=N.map λ(n,k)=>if(k== .free&&s.lookup n==some .cell)then(n,.cell)else(n,k)
noncomputable def qI(n:Sc):Str->Bool:=λx=>n.lookup x==some .cell
noncomputable def Dl(scope:Scope)(s:Sc):Bool:=scope.kind== .function&&scope.names.all λ(n,k)=>(k !=.cell||scope.names.lookup n==some .cell)&&(k !=.local||scope.names.lookup n==some .local)&&(k !=.free||(s.lookup n==some .cell||s.lookup n==some .free))
noncomputable def frB(n:Sc)(a N:Ls)(fr:List (Option Nat)):Bool:=fr.length==a.length&&(H_ a.length).all λi=>match fr[i]? with
 |some (some j)=>(match a[i]? with
  |some x=>n.lookup x==some .free&&N[j]?==some x
  |none=>HY)
 |_=>HX
noncomputable def gL:Ls->Bool
 | []=>HX
 |x::r=> !r.contains x&&gL r
noncomputable def gM:Expr->Bool
 | .Slice _ _ _ _=>HY
 |_=>HX
theorem Dm{b:Expr}(h:gM b=HX):vi b:=by intro o i;cases b<;>first|rfl|cases h
noncomputable def lr:oX->Str
 | .append=>"append"| .extend=>"extend"| .pop=>"pop"| .count=>"count"| .insert=>"insert"| .index=>"index"
noncomputable def gN:Expr->Bool
 | .Name _ _=>HX
 |_=>HY
noncomputable def eA:Expr->Bool
 | .Tuple _ _ _=>HX
 |_=>HY
noncomputable def ls:Expr->Bool
 | .Set _ _ _=>HY
 |_=>HX
noncomputable def dE:Expr:=.Name "" ⟨0,0,0,0⟩
noncomputable def dG:Ir:=⟨dE,dE,[],0⟩
set_option genInjectivity false in
structure Nd where
 e0:Expr:=dE
 e1:Expr:=dE
 e2:Expr:=dE
 es:Lx:=[]
 lo:Option Expr:=none
 hi:Option Expr:=none
 gs:List Ir:=[]
 sc:Scope:=default
 k:Nat:=0
 pos:Pos:=⟨0,0,0,0⟩
noncomputable def vw:Expr->Nd
 | .BoolOp _ vs p=>{es:=vs,pos:=p}
 | .BinOp l _ r p=>{e0:=l,e1:=r,pos:=p}
 | .UnaryOp _ x p=>{e0:=x,pos:=p}
 | .IfExp t x y p=>{e0:=t,e1:=x,e2:=y,pos:=p}
 | .ListComp a g sc p=>{e0:=a,gs:=g,sc:=sc,pos:=p}
 | .SetComp a g sc p=>{e0:=a,gs:=g,sc:=sc,pos:=p}
 | .Compare l _ R p=>{e0:=l,es:=R,pos:=p}
 | .Call f xs ks p=>{e0:=f,es:=xs,e1:=(ks.headD ⟨none,dE,⟨0,0,0,0⟩⟩).value,e2:=.Name "" (ks.headD ⟨none,dE,⟨0,0,0,0⟩⟩).pos,pos:=p}
 | .Constant _ k p=>{k:=k,pos:=p}
 | .Attribute v _ p=>{e0:=v,pos:=p}
 | .Subscript v s p=>{e0:=v,e1:=s,pos:=p}
 | .Name _ p=>{pos:=p}
 | .List es p=>{es:=es,pos:=p}
 | .Tuple es k p=>{es:=es,k:=k,pos:=p}
 | .Slice l u s p=>{lo:=l,hi:=u,e2:=s.getD dE,pos:=p}
 | .Dict _ _ p=>{pos:=p}
 | .JoinedStr vs p=>{es:=vs,pos:=p}
 | .FormattedValue v _ _ p=>{e0:=v,pos:=p}
 |_=>{}
noncomputable def wo:D->Const
 | .bl b=>.bool b
 | .int i=>.int i
 | .str x=>.str x
 |_=>.none
noncomputable def lu:CT->Bool
 | .tup _=>HX
 |_=>HY
noncomputable def iQ:CE->Bool
 | .band _ _=>HX
 |_=>HY
noncomputable def fo:CE->Bool
 | .bor _ _=>HX
 |_=>HY
noncomputable def iR:CE->Bool
 | .comp .. =>HX
 |_=>HY
mutual
noncomputable def gO:CT->Ls->Expr->Expr
 | .var i,N,e=>.Name (N.getD i "") (vw e).pos
 | .tup ts,N,e=>.Tuple (fU ts N (vw e).es) (vw e).k (vw e).pos
noncomputable def fU:List CT->Ls->Lx->Lx
 | [],_,_=>[]
 |t::ts,N,es=>gO t N (es.headD dE)::fU ts N es.tail
end
mutual
noncomputable def oY(c:Str->Bool)(N:Ls)(s:Sc):CT->Bool
 | .var i=>N[i]?==some (N.getD i "")&&(s.lookup (N.getD i "")==some .local||(c (N.getD i "")&&s.lookup (N.getD i "")==some .cell))
 | .tup ts=>qJ c N s ts
noncomputable def qJ(c:Str->Bool)(N:Ls)(s:Sc):List CT->Bool
 | []=>HX
 |t::ts=>oY c N s t&&qJ c N s ts
end
mutual
noncomputable def aO:CE->Ls->Expr->Expr
 | .var i,N,e=>.Name (N.getD i "") (vw e).pos
 | .dct,_,e=>.Dict [] [] (vw e).pos
 | .rv0 a b c,N,e=>.Subscript (aO a N (vw e).e0) (.Slice none (some (aO b N ((vw (vw e).e1).hi.getD dE))) (some (aO c N (vw (vw e).e1).e2)) (vw (vw e).e1).pos) (vw e).pos
 | .rev a b,N,e=>.Subscript (aO a N (vw e).e0) (.Slice none none (some (aO b N (vw (vw e).e1).e2)) (vw (vw e).e1).pos) (vw e).pos
 | .lit d,_,e=>.Constant (wo d) (vw e).k (vw e).pos
 | .glob y,_,e=>.Name y (vw e).pos
 | .ty n,_,e=>.Name (I8 n) (vw e).pos
 | .bin op a b,N,e=>.BinOp (aO a N (vw e).e0) op (aO b N (vw e).e1) (vw e).pos
 | .neg a,N,e=>.UnaryOp .USub (aO a N (vw e).e0) (vw e).pos
 | .cmp op a b,N,e=>.Compare (aO a N (vw e).e0) [op] [aO b N ((vw e).es.headD dE)] (vw e).pos
 | .chain3 op op' op'' a b c d,N,e=>.Compare (aO a N (vw e).e0) [op,op',op''] [aO b N ((vw e).es.headD dE),aO c N ((vw e).es.tail.headD dE),aO d N ((vw e).es.tail.tail.headD dE)] (vw e).pos
 | .chain op op' a b c,N,e=>.Compare (aO a N (vw e).e0) [op,op'] [aO b N ((vw e).es.headD dE),aO c N ((vw e).es.tail.headD dE)] (vw e).pos
 | .band a b,N,e=>.BoolOp .And (aO a N ((vw e).es.headD dE)::cond ((vw e).es.length==2) [aO b N ((vw e).es.tail.headD dE)] (vw (aO b N (.BoolOp .And (vw e).es.tail (vw e).pos))).es) (vw e).pos
 | .bor a b,N,e=>.BoolOp .Or (aO a N ((vw e).es.headD dE)::cond ((vw e).es.length==2) [aO b N ((vw e).es.tail.headD dE)] (vw (aO b N (.BoolOp .Or (vw e).es.tail (vw e).pos))).es) (vw e).pos
 | .bnot a,N,e=>.UnaryOp .Not (aO a N (vw e).e0) (vw e).pos
 | .ite c a b,N,e=>.IfExp (aO c N (vw e).e0) (aO a N (vw e).e1) (aO b N (vw e).e2) (vw e).pos
 | .tup es,N,e=>.Tuple (da es N (vw e).es) (vw e).k (vw e).pos
 | .lst _ es,N,e=>.List (da es N (vw e).es) (vw e).pos
 | .idx a b,N,e=>.Subscript (aO a N (vw e).e0) (aO b N (vw e).e1) (vw e).pos
 | .sl a lo hi,N,e=>.Subscript (aO a N (vw e).e0) (.Slice (da lo N (vw (vw e).e1).lo.toList).head? (da hi N (vw (vw e).e1).hi.toList).head? none (vw (vw e).e1).pos) (vw e).pos
 | .call f es,N,e=>.Call (.Name f (vw (vw e).e0).pos) (da es N (vw e).es) [] (vw e).pos
 | .blt b es,N,e=>.Call (.Name (fT b) (vw (vw e).e0).pos) (da es N (vw e).es) [] (vw e).pos
 | .smt m o es,N,e=>.Call (.Attribute (aO o N (vw (vw e).e0).e0) (lf m) (vw (vw e).e0).pos) (da es N (vw e).es) [] (vw e).pos
 | .tix o es,N,e=>.Call (.Attribute (aO o N (vw (vw e).e0).e0) "index" (vw (vw e).e0).pos) (da es N (vw e).es) [] (vw e).pos
 | .meth m o es,N,e=>.Call (.Attribute (aO o N (vw (vw e).e0).e0) (lr m) (vw (vw e).e0).pos) (da es N (vw e).es) [] (vw e).pos
 | .join x es,N,e=>.Call (.Attribute (.Constant (.str x) (vw (vw (vw e).e0).e0).k (vw (vw (vw e).e0).e0).pos) "join" (vw (vw e).e0).pos) (da es N (vw e).es) [] (vw e).pos
 | .sset a,N,e=>.Call (.Name "sorted" (vw (vw e).e0).pos) [.Call (.Name "set" (vw (vw ((vw e).es.headD dE)).e0).pos) [aO a N ((vw ((vw e).es.headD dE)).es.headD dE)] [] (vw ((vw e).es.headD dE)).pos] [] (vw e).pos
 | .comp _ N' _ tg it ifs body,N,e=>.ListComp (lv body N' (vw e).e0) (⟨gO tg N' ((vw e).gs.headD dG).target,qL it N ((vw e).gs.headD dG).iter,da ifs N' ((vw e).gs.headD dG).ifs,0⟩::qK body N' (vw e).gs.tail) (vw e).sc (vw e).pos
 | .emit _,_,e=>e
 | .inner _ _ _ _,_,e=>e
 | .seq _,_,e=>e
 | .range _,_,e=>e
 | .zip _,_,e=>e
noncomputable def lv:CE->Ls->Expr->Expr
 | .emit a,N,e=>aO a N e
 | .inner _ _ _ body,N,e=>lv body N e
 |_,_,e=>e
noncomputable def qK:CE->Ls->List Ir->List Ir
 | .inner tg it ifs body,N,g=>⟨gO tg N (g.headD dG).target,qL it N (g.headD dG).iter,da ifs N (g.headD dG).ifs,0⟩::qK body N g.tail
 |_,_,_=>[]
noncomputable def da:List CE->Ls->Lx->Lx
 | [],_,_=>[]
 |c::cs,N,es=>aO c N (es.headD dE)::da cs N es.tail
noncomputable def qL:CE->Ls->Expr->Expr
 | .seq c,N,e=>aO c N e
 | .range es,N,e=>.Call (.Name "range" (vw (vw e).e0).pos) (da es N (vw e).es) [] (vw e).pos
 | .zip es,N,e=>.Call (.Name "zip" (vw (vw e).e0).pos) (da es N (vw e).es) [] (vw e).pos
 |_,_,e=>e
end
mutual
noncomputable def bC:CE->Ls->Sc->Expr->Bool
 | .var i,N,sc,_=>N[i]?==some (N.getD i "")&&(lp sc (N.getD i "")&&dH (N.getD i ""))
 | .dct,_,_,_=>HX
 | .rv0 a b c,N,sc,e=>bC a N sc (vw e).e0&&(bC b N sc ((vw (vw e).e1).hi.getD dE)&&bC c N sc (vw (vw e).e1).e2)
 | .rev a b,N,sc,e=>bC a N sc (vw e).e0&&bC b N sc (vw (vw e).e1).e2
 | .lit d,_,_,_=>iN d (wo d)
 | .glob y,_,sc,_=>a_ sc y
 | .ty n,_,sc,_=>a_ sc (I8 n)&&gK.contains n
 | .bin _ a b,N,sc,e=>bC a N sc (vw e).e0&&bC b N sc (vw e).e1
 | .neg a,N,sc,e=>bC a N sc (vw e).e0
 | .cmp op a b,N,sc,e=>bC a N sc (vw e).e0&&(bC b N sc ((vw e).es.headD dE)&& !behindInMarks op (aO b N ((vw e).es.headD dE)))
 | .chain3 _ _ op'' a b c d,N,sc,e=>bC a N sc (vw e).e0&&(bC b N sc ((vw e).es.headD dE)&&(bC c N sc ((vw e).es.tail.headD dE)&&(bC d N sc ((vw e).es.tail.tail.headD dE)&& !behindInMarks op'' (aO d N ((vw e).es.tail.tail.headD dE)))))
 | .chain _ op' a b c,N,sc,e=>bC a N sc (vw e).e0&&(bC b N sc ((vw e).es.headD dE)&&(bC c N sc ((vw e).es.tail.headD dE)&& !behindInMarks op' (aO c N ((vw e).es.tail.headD dE))))
 | .band a b,N,sc,e=>bC a N sc ((vw e).es.headD dE)&&cond ((vw e).es.length==2) (bC b N sc ((vw e).es.tail.headD dE)) (iQ b&&bC b N sc (.BoolOp .And (vw e).es.tail (vw e).pos))
 | .bor a b,N,sc,e=>bC a N sc ((vw e).es.headD dE)&&cond ((vw e).es.length==2) (bC b N sc ((vw e).es.tail.headD dE)) (fo b&&bC b N sc (.BoolOp .Or (vw e).es.tail (vw e).pos))
 | .bnot a,N,sc,e=>bC a N sc (vw e).e0
 | .ite c a b,N,sc,e=>bC c N sc (vw e).e0&&(bC a N sc (vw e).e1&&bC b N sc (vw e).e2)
 | .tup es,N,sc,e=>eE es N sc (vw e).es&&decide (es.length<1000)
 | .lst _ es,N,sc,e=>eE es N sc (vw e).es&&decide (es.length<1000)
 | .idx a b,N,sc,e=>bC a N sc (vw e).e0&&(bC b N sc (vw e).e1&&gM (aO b N (vw e).e1))
 | .sl a lo hi,N,sc,e=>bC a N sc (vw e).e0&&(eE lo N sc (vw (vw e).e1).lo.toList&&(eE hi N sc (vw (vw e).e1).hi.toList&&(decide (lo.length<2)&&decide (hi.length<2))))
 | .call f es,N,sc,e=>a_ sc f&&(eE es N sc (vw e).es&& !es.isEmpty)
 | .blt b es,N,sc,e=>a_ sc (fT b)&&(eE es N sc (vw e).es&&(!es.isEmpty&&qG b))
 | .smt _ o es,N,sc,e=>gN (aO o N (vw (vw e).e0).e0)&&((vw (vw e).e0).pos.endLine==(vw e).pos.line&&(bC o N sc (vw (vw e).e0).e0&&(eE es N sc (vw e).es&&decide (es.length=1))))
 | .tix o es,N,sc,e=>gN (aO o N (vw (vw e).e0).e0)&&((vw (vw e).e0).pos.endLine==(vw e).pos.line&&(bC o N sc (vw (vw e).e0).e0&&(eE es N sc (vw e).es&&decide (es.length=1))))
 | .meth m o es,N,sc,e=>gN (aO o N (vw (vw e).e0).e0)&&((vw (vw e).e0).pos.endLine==(vw e).pos.line&&(bC o N sc (vw (vw e).e0).e0&&(eE es N sc (vw e).es&&decide (es.length<20))))
 | .join _ es,N,sc,e=>(vw (vw e).e0).pos.endLine==(vw e).pos.line&&(eE es N sc (vw e).es&&decide (es.length=1))
 | .sset a,N,sc,e=>a_ sc "sorted"&&(a_ sc "set"&&(bC a N sc ((vw ((vw e).es.headD dE)).es.headD dE)&&bK (aO a N ((vw ((vw e).es.headD dE)).es.headD dE))))
 | .comp _ N' fr tg it ifs body,N,sc,e=>Dl (vw e).sc sc&&(frB (vw e).sc.names N' N fr&&(gL N'&&(oY (qI (vw e).sc.names) N' (iP (vw e).sc.names sc) tg&&(wq it N sc tg ((vw e).gs.headD dG).iter&&(ls (qL it N ((vw e).gs.headD dG).iter)&&(eE ifs N' (iP (vw e).sc.names sc) ((vw e).gs.headD dG).ifs&&Ba body HY (qI (vw e).sc.names) N' (iP (vw e).sc.names sc) (vw e).gs.tail (vw e).e0))))))
 | .emit _,_,_,_=>HY
 | .inner _ _ _ _,_,_,_=>HY
 | .seq _,_,_,_=>HY
 | .range _,_,_,_=>HY
 | .zip _,_,_,_=>HY
noncomputable def Ba:CE->Bool->(Str->Bool)->Ls->Sc->List Ir->Expr->Bool
 | .emit a,k,_,N,sc,_,e=> !k&&bC a N sc e
 | .inner tg it ifs body,k,cell,N,sc,g,e=>oY cell N sc tg&&(wq it N sc tg (g.headD dG).iter&&(ls (qL it N (g.headD dG).iter)&&(eE ifs N sc (g.headD dG).ifs&&Ba body k cell N sc g.tail e)))
 |_,_,_,_,_,_,_=>HY
noncomputable def eE:List CE->Ls->Sc->Lx->Bool
 | [],_,_,_=>HX
 |c::cs,N,sc,es=>bC c N sc (es.headD dE)&&(bK (aO c N (es.headD dE))&&eE cs N sc es.tail)
noncomputable def wq:CE->Ls->Sc->CT->Expr->Bool
 | .seq c,N,sc,_,e=>bC c N sc e
 | .range es,N,sc,_,e=>a_ sc "range"&&(eE es N sc (vw e).es&&(es.length==1||es.length==2))
 | .zip es,N,sc,t,e=>a_ sc "zip"&&(eE es N sc (vw e).es&&(es.length==2&&lu t))
 |_,_,_,_,_=>HY
end
theorem aa{a b:Bool}(h:(a&&b)=HX):a=HX/\b=HX:=JW.mp h
theorem fq{p:Prop} [Decidable p] (h:decide p=HX):p:=Z0 h
theorem ft{a:Bool}(h:(!a)=HX):a=HY:=by lia
end Py
variable {sc:Py.Sc}
namespace Py
noncomputable def qM(K:Fg)(m:Mg)(n:Nat)(a:List D->ae->Res D):Sp:=λvs H Q E=>vs.length=n/\∃F μ S ds,aC K ⟨m,F⟩ μ S H/\ag K ⟨m,F⟩ μ H ds vs/\ai K ⟨m,F⟩ E (Rep K ⟨m,F⟩) μ H Q (a ds S)
structure bV (P:Ia)(w:Io)(K:Fg)(mg:Mg)(base:Ig)(CX:cR)(k:Nat)(f:Str)(φ:List D->ae->Res D):Prop where
 ex:∃fa fd ps,mg f=some (.ref fa)/\PySem.W.keepIn K (.ref fa)=HX/\Binds K fd ps []/\cz P w K mg base CX k fa fd ps (qM K mg ps.length φ)/\∀ds S,φ ds S≠.fail->ds.length=ps.length
noncomputable def fu:Ls:=["len","tuple","list","int","min","max","isinstance","all","any","sorted","bool","str","dict","range","zip","set","sum","reversed","repr","abs","enumerate"]
structure Bb (P:Ia)(w:Io)(K:Fg)(mg:Mg)(base:Ig)(CX:cR)(Φ:FT)(Γ:Str->Option D)(k:Nat):Prop where
 fns:∀f φ,Φ f=some φ->bV P w K mg base CX k f φ
 gl:∀x d,Γ x=some d->∃v u,mg x=some u/\RelV v u/\∀F μ H,Rep K ⟨mg,F⟩ μ H d v
 bl:∀x∈fu,mg x=none
structure cq (X:Cx)(cell:Str->Bool)(N:Ls)(sc:Sc)(CX:cR)(E:XK)(Φ:FT)(Γ:Str->Option D)(k:Nat):Prop where
 n:X.N=N
 nd:N.Nodup
 sc:X.env.scope.names=sc
 kd:X.env.scope.kind=.function
 calm:X.calm=HX
 room:cf k X.A
 fn:∀x,cell x=HX->X.fn x=HX
 mod:Bb X.prog X.w X.K X.mg X.base CX Φ Γ k
 pass:iv CX X E
 cx0:∀outer H s e s',CX outer H s E0 e s'->False
section
variable {E:XK}{l r:Expr}{pos:Pos}{a b c:CE}
theorem wt{o:LC}(h:PE X l (tE X.K X.mg E Φ Γ a))(c:PE X r (tE X.K X.mg E Φ Γ b)):PE X (.BinOp l o r pos) (tE X.K X.mg E Φ Γ (.bin o a b)):=
 aI (ip (Cv _) h c) λy H Q z=>az z λF t u S g e w=>
  ⟨F,_,_,S,g,e,(ai.bind w).mono λv H1 z=>aq z λk p d1 x s R W=>⟨F,_,_,_,s,e.mono x,(ai.bind W).mono λV n z=>aq z λm q D j f d i=>⟨F,_,_,_,_,f,Rep.mono j _ _ R,d,bU i⟩⟩⟩
theorem wu{o:Ka}(f:X.A.units+64<cLine)(h:PE X l (tE X.K X.mg E Φ Γ a))(c:PE X r (tE X.K X.mg E Φ Γ b))(d:behindInMarks o r=HY):PE X (.Compare l [o] [r] pos) (tE X.K X.mg E Φ Γ (.cmp o a b)):=
 aI (kq (cU _ f) h c d) λB H Q z=>az z λF y A S j e w=>
  ⟨F,_,_,S,j,e,(ai.bind w).mono λv H1 z=>aq z λn t d1 x s R W=>⟨F,_,_,_,s,e.mono x,(ai.bind W).mono λV q z=>aq z λp u D m i g k=>⟨F,_,_,_,_,i,Rep.mono m _ _ R,g,bU k⟩⟩⟩
theorem eS{m:GS}{E:XK}{Rel:La->Hp->α->β->Prop}{Q:β->Hp->Prop}{f:Bool->Res α}
  (w:ai K m E Rel μ H Q (av d f)) (r:Rep K m μ H d v):∃k,v=.bl k/\d=.bl k/\ai K m E Rel μ H Q (f k):=by
 cases d with
 |bl k=>exact⟨k,e_ r,rfl,w⟩
 |_=>exact w.elim
theorem wv{o:Ka}(f:X.A.units+64<cLine)(h:PE X l (tE X.K X.mg E Φ Γ a))(c:PE X r (tE X.K X.mg E Φ Γ b))(d:behindInMarks o r=HY):PT X (.Compare l [o] [r] pos) (tT X.K X.mg E Φ Γ (.cmp o a b)):=
 cY (uY (cU _ f) h c d) λT H Q z=>az z λF O P S n e w=>
  ⟨F,_,_,S,n,e,(ai.bind w).mono λV H1 z=>aq z λv D d1 x s R W=>⟨F,_,_,_,s,e.mono x,(ai.bind W).mono λL B z=>aq z λy G J u j g p=>
   ⟨F,_,_,_,_,j,Rep.mono u _ _ R,g,bU ((ai.bind p).mono λM C z=>aq z λA I K N m i q=>by obtain⟨k,rfl,rfl,t⟩:=eS q i;exact⟨k,rfl,t _ _ k .refl m rfl⟩)⟩⟩⟩
theorem lw{o:Ka}(h:X.A.units+64<cLine)(g:PE X l (tE X.K X.mg E Φ Γ a))(i:PE X r (tE X.K X.mg E Φ Γ b))(j:PE X r' (tE X.K X.mg E Φ Γ c))(m:behindInMarks op' r'=HY):PE X (.Compare l [o,op'] [r,r'] pos) (tE X.K X.mg E Φ Γ (.chain o op' a b c)):=
 aI (BR (cU _ h) (cU _ h) g i j m) λσ H Q z=>az z λF μ ρ S v e w=>
  ⟨F,_,_,S,v,e,(ai.bind w).mono λv1 H1 z=>aq z λG O d1 x q n y=>⟨F,_,_,_,q,e.mono x,(ai.bind y).mono λv2 L z=>aq z λI P V d t R A=>
   ⟨F,_,_,_,_,t,Rep.mono d _ _ n,R,bU ((ai.bind A).mono λv3 M z=>aq z λJ T Y f s p B=>by
    obtain⟨k,rfl,rfl,W⟩:=eS B p;refine⟨k,rfl,?_⟩;cases k with
    |true=>exact⟨F,_,_,_,s,(e.mono x).mono (d.trans f),(ai.bind W).mono λv4 N z=>aq z λK U Z D u r4 C=>⟨F,_,_,_,_,u,Rep.mono (f.trans D) _ _ R,r4,bU C⟩⟩
    |false=>exact W _ _ _ .refl s cg)⟩⟩⟩
theorem ly{o:Ka}(h:X.A.units+64<cLine)(g:PE X l (tE X.K X.mg E Φ Γ a))(i:PE X r (tE X.K X.mg E Φ Γ b))(j:PE X r' (tE X.K X.mg E Φ Γ c))(m:behindInMarks op' r'=HY):PT X (.Compare l [o,op'] [r,r'] pos) (tT X.K X.mg E Φ Γ (.chain o op' a b c)):=
 cY (BS (cU _ h) (cU _ h) g i j m) λσ H Q z=>az z λF μ ρ S A e w=>
  ⟨F,_,_,S,A,e,(ai.bind w).mono λv1 H1 z=>aq z λL Z d1 x t n B=>⟨F,_,_,_,t,e.mono x,(ai.bind B).mono λv2 T z=>aq z λM S2 d2 d u R C=>
   ⟨F,_,_,_,_,u,Rep.mono d _ _ n,R,bU ((ai.bind C).mono λv3 U z=>aq z λN S3 d3 f s p D=>by
    obtain⟨k,rfl,rfl,W⟩:=eS D p;refine⟨k,rfl,?_⟩;cases k with
    |true=>exact⟨F,_,_,_,s,(e.mono x).mono (d.trans f),(ai.bind W).mono λv4 V z=>aq z λO S4 d4 K v r4 G=>⟨F,_,_,_,_,v,Rep.mono (f.trans K) _ _ R,r4,bU ((ai.bind G).mono λv5 Y z=>aq z λP S5 d5 x5 y q I=>by obtain⟨k,rfl,rfl,J⟩:=eS I q;exact⟨k,rfl,J _ _ k .refl y rfl⟩)⟩⟩
    |false=>exact⟨_,rfl,W _ _ _ .refl s rfl⟩)⟩⟩⟩
theorem oZ(h:PE X l (tE X.K X.mg E Φ Γ a))(c:PE X (.BoolOp .And (r::rest) pos) (tE X.K X.mg E Φ Γ b)):PE X (.BoolOp .And (l::r::rest) pos) (tE X.K X.mg E Φ Γ (.band a b)):=
 aI (pI h c) λn H Q z=>az z λF j m S d e w=>
  ⟨F,_,_,S,d,e,(ai.bind w).mono λv H1 z=>aq z λg i d1 x s R f=>by
   obtain⟨k,rfl,rfl,W⟩:=eS f R;refine⟨k,rfl,?_⟩;cases k with
   |true=>exact⟨F,_,_,_,s,e.mono x,W⟩
   |false=>exact W _ _ _ .refl s cg⟩
theorem ww(h:PE X l (tE X.K X.mg E Φ Γ a))(c:PE X (.BoolOp .Or (r::rest) pos) (tE X.K X.mg E Φ Γ b)):PE X (.BoolOp .Or (l::r::rest) pos) (tE X.K X.mg E Φ Γ (.bor a b)):=
 aI (uH h c) λn H Q z=>az z λF j m S d e w=>
  ⟨F,_,_,S,d,e,(ai.bind w).mono λv H1 z=>aq z λg i d1 x s R f=>by
   obtain⟨k,rfl,rfl,W⟩:=eS f R;refine⟨k,rfl,?_⟩;cases k with
   |true=>exact W _ _ _ .refl s cg
   |false=>exact⟨F,_,_,_,s,e.mono x,W⟩⟩
theorem lz(c:PE X l ta):PE X (.UnaryOp .Not l pos) (λσ H Q=>ta σ H λx H'=>∃k,gA X.K x H' k/\Q (.bl (!k)) H'):=by intro p s σ H Q I h;exact UnaryOp_ (aK (c _ s _ H _ I h) λv S ⟨x,_,a,r,k,t,q⟩=>not_of (aK (ir _ _ _ _ x v (λk H'=>Q (.bl !k) H') a r ⟨k,t,q⟩) λK e ⟨_,b,d⟩=>⟨.bl _,_,b,rfl,d⟩))
theorem wx{m:GS}{E:XK}{Rel:La->Hp->α->β->Prop}{Q:β->Hp->Prop}{f:Bool->Res α}
  (w:ai K m E Rel μ H Q (match aY S d with|some k=>f k|none=>.fail)):∃k,aY S d=some k/\ai K m E Rel μ H Q (f k):=by
 cases e:aY S d with
 |none=>rw[e]at w;exact w.elim
 |some k=>rw[e]at w;exact⟨k,rfl,w⟩
theorem wy(h:PE X l (tE X.K X.mg E Φ Γ a)):PE X (.UnaryOp .Not l pos) (tE X.K X.mg E Φ Γ (.bnot a)):=
 aI (lz h) λm H Q z=>az z λF i j S c b w=>⟨F,_,_,S,c,b,(ai.bind w).mono λv H1 z=>aq z λf g d1 x s r W=>by obtain⟨k,e,d⟩:=wx W;exact⟨k,oV s r e,d _ _ _ .refl s cg⟩⟩
theorem wz(h:PE X l (tE X.K X.mg E Φ Γ a)):PE X (.UnaryOp .USub l pos) (tE X.K X.mg E Φ Γ (.neg a)):=
 aI (uS p4 h) λj H Q z=>az z λF f g S b e w=>⟨F,_,_,S,b,e,(ai.bind w).mono λv H1 z=>aq z λc d d1 x s r W=>by
  cases d1 with
  |int i=>exact⟨i,ax r,W _ _ _ .refl s bA⟩
  |_=>exact W.elim⟩
theorem o2(h:PT X l (tT X.K X.mg E Φ Γ a))(f:PW X (.BoolOp .And (r::rest) pos) (tT X.K X.mg E Φ Γ b)):PW X (.BoolOp .And (l::r::rest) pos) (tT X.K X.mg E Φ Γ (.band a b)):=λm p s q H Q I z=>az z λF n o S g e w=>
 pH h f _ _ s _ H Q I ⟨F,_,_,S,g,e,(ai.bind w).mono λk H1 z=>aq z λi j K x c d W=>by
  subst d;cases K with
  |true=>exact⟨F,_,_,_,c,e.mono x,W⟩
  |false=>exact W _ _ _ .refl c rfl⟩
theorem wE(h:PT X l (tT X.K X.mg E Φ Γ a))(f:PW X (.BoolOp .Or (r::rest) pos) (tT X.K X.mg E Φ Γ b)):PW X (.BoolOp .Or (l::r::rest) pos) (tT X.K X.mg E Φ Γ (.bor a b)):=λm p s q H Q I z=>az z λF n o S g e w=>
 oJ h f _ _ s _ H Q I ⟨F,_,_,S,g,e,(ai.bind w).mono λk H1 z=>aq z λi j K x c d W=>by
  subst d;cases K with
  |true=>exact W _ _ _ .refl c rfl
  |false=>exact⟨F,_,_,_,c,e.mono x,W⟩⟩
theorem wH(h:PT X l (tT X.K X.mg E Φ Γ a)):PT X (.UnaryOp .Not l pos) (tT X.K X.mg E Φ Γ (.bnot a)):=
 cY (ij h) λj H Q z=>az z λF g i S c b w=>⟨F,_,_,S,c,b,(ai.bind w).mono λk H1 z=>aq z λd f K x s e W=>by subst e;exact W _ _ _ .refl s rfl⟩
theorem wI{t x y:Expr}(i:PT X t (tT X.K X.mg E Φ Γ c))(h:PE X x (tE X.K X.mg E Φ Γ a))(g:PE X y (tE X.K X.mg E Φ Γ b)):PE X (.IfExp t x y pos) (tE X.K X.mg E Φ Γ (.ite c a b)):=
 aI (Bs i h g) λp H Q z=>az z λF n o S j e w=>⟨F,_,_,S,j,e,(ai.bind w).mono λk H1 z=>aq z λl m K d s f W=>by
  subst f;cases K with
  |true=>exact⟨F,_,_,_,s,e.mono d,W⟩
  |false=>exact⟨F,_,_,_,s,e.mono d,W⟩⟩
theorem wJ:PA X [] (tL X.K X.mg E Φ Γ []):=ez eO λc H Q z=>az z λF a b S s e w=>w _ H _ .refl s .nil
theorem cr(h:bK e=HX):starEach (e::es) env=(HY,eval e env)::starEach es env:=by cases e<;>first|rfl|cases h
theorem qN{cs:List CE}(j:bK e=HX)(i:PE X e (tE X.K X.mg E Φ Γ a))(k:PA X es (tL X.K X.mg E Φ Γ cs)):PA X (e::es) (tL X.K X.mg E Φ Γ (a::cs)):=
 ez (dC i k (cr j)) λt H Q z=>az z λF p f S m d w=>⟨F,p,f,S,m,d,(ai.bind w).mono λv H1 z=>aq z λb h d1 x s r W=>
  ⟨F,b,f,h,s,d.mono x,(ai.bind W).mono λvs g z=>aq z λc q D o l R n=>n c g _ .refl l (.cons (Rep.mono o _ _ r) R)⟩⟩
end
theorem gP:∀{cs:List CE} {N:Ls} {es:Lx},(da cs N es).length=cs.length
 | [],N,es=>rfl
 |c::cs,N,es=>congrArg _ gP
theorem dY:∀{cs:List CE} {N:Ls} {sc:Sc} {es:Lx},eE cs N sc es=HX->∀e∈da cs N es,bK e=HX
 | [],N,sc,es,h,e,H=>absurd H Zy
 |c::cs,N,sc,es,h,e,H=>by
  rcases Zj.mp H with rfl|H
  ·exact(aa (aa h).2).1
  ·exact dY (aa (aa h).2).2 e H
theorem fv:∀{es:Lx} {env:Env} {pos:Pos},(∀e∈es,bK e=HX)->(backTo pos (starEach es env)).any (·.1)=HY
 | [],env,pos,h=>rfl
 |e::es,env,pos,h=>by rw[cr (h e Ze)];show(HY||(backTo _ _).any _)=HY;rw[fv λe H=>h e (Zc _ H)];rfl
theorem gQ:∀{es:Lx} {env:Env} {pos:Pos},(∀e∈es,bK e=HX)->(backTo pos (starEach es env)).all (λx=> !x.1)=HX
 | [],env,pos,h=>rfl
 |e::es,env,pos,h=>by rw[cr (h e Ze)];show(!HY&&(backTo _ _).all _)=HX;rw[gQ λe H=>h e (Zc _ H)];rfl
theorem qO:∀{cs:List CE} {ρ:bu} {S S':ae} {ds:List D},aj Φ Γ cs ρ S=.ok ds S'->ds.length=cs.length
 | [],ρ,S,S',ds,h=>by cases h;rfl
 |c::cs,ρ,S,S',ds,h=>by
  dsimp[aj]at h;cases e:ah _ _ c _ S with
  |ok d a=>
   rw[e]at h;cases E:aj Φ Γ cs ρ a with
   |ok f b=>simp only[Res.bind,E]at h;cases h;simp[qO E]
   |err x b=>simp only[Res.bind,E]at h;cases h
   |fail=>simp only[Res.bind,E]at h;cases h
  |err x a=>rw[e]at h;cases h
  |fail=>rw[e]at h;cases h
theorem Dq{x:Str}{s:Scope}(hs:s.names=sc)(h:lp sc x=HX):uB s x:=by unfold uB;unfold lp at h;lia
theorem gR{x:Str}(h:dH x=HX):(x==("__debug__":Str))=HY/\(x==("__classdict__":Str))=HY:=by
 unfold dH at h
 grind
theorem cZ{x:Str}(h:a_ sc x=HX):sc.lookup x=some .globalImplicit/\(x==("__debug__":Str))=HY/\x≠"__name__":=by unfold a_ at h;simp_all
section
variable {E:XK}{l r:Expr}{pos:Pos}{a b c:CE}{cs:List CE}{x:Str}
theorem cq.gl(O:cq X cell N sc CX E Φ Γ k)(h:sc.lookup x=some .globalImplicit):Gl X x:=by show X.env.scope.names.lookup x=_;rw[O.sc];exact h
theorem o3(O:cq X cell N sc CX E Φ Γ k){i:Nat}(h1:(N[i]?==some x)=HX)(c:lp sc x=HX)(h:dH x=HX):PE X (.Name x pos) (tE X.K X.mg E Φ Γ (.var i)):=by
 refine aI (pD (by rw[O.n];simpa using h1) (Dq O.sc c) (gR h).1 (gR h).2) λj H Q z=>az z λF f g S s b w=>?_;dsimp[ah]at w;split at w
 ·rename_i d e;obtain⟨v,a,r⟩:=b.2 i d e;exact⟨v,a,w _ H v .refl s r⟩
 ·exact w.elim
theorem o4{cn:Const}{j}(h:iN d cn=HX):PE X (.Constant cn j pos) (tE X.K X.mg E Φ Γ (.lit d)):=by
 unfold iN at h;split at h
 ·exact aI pE λf H Q z=>az z λF b c S s a w=>w _ H _ .refl s kO
 ·have e:=beq_iff_eq.mp h;subst e;exact aI oI λf H Q z=>az z λF b c S s a w=>w _ H _ .refl s cg
 ·have e:=beq_iff_eq.mp h;subst e;exact aI ie λf H Q z=>az z λF b c S s a w=>w _ H _ .refl s bA
 ·have e:=beq_iff_eq.mp h;subst e;exact aI pF λf H Q z=>az z λF b c S s a w=>w _ H _ .refl s dj
 ·cases h
theorem qP(O:cq X cell N sc CX E Φ Γ k)(h:a_ sc x=HX):PE X (.Name x pos) (tE X.K X.mg E Φ Γ (.glob x)):=by
 obtain⟨a,b,j⟩:=cZ h;cases e:Γ x with
 |none=>intro p s g H Q I ⟨F,_,_,S,_,_,w⟩;simp[ah]at w;rw[e]at w;exact w.elim
 |some d=>obtain⟨v,u,m,M,c⟩:=O.mod.gl x d e;refine aI (uE (O.gl a) m M b) λg H Q z=>az z λF l n S f i w=>?_;simp[ah]at w;rw[e]at w;exact w _ H v .refl f (c F _ H)
theorem lA{n:String}(h:gK.contains n=HX):(I8 n)∈fu:=by simp[gK]at h;rcases h with rfl|rfl|rfl|rfl|rfl|rfl<;>decide+kernel
theorem Dr(O:cq X cell N sc CX E Φ Γ k){n:String}(h:a_ sc (I8 n)=HX)(a:gK.contains n=HX):PE X (.Name (I8 n) pos) (tE X.K X.mg E Φ Γ (.ty n)):=by obtain⟨b,c,d⟩:=cZ h;exact aI (uF (v:=.ty n) (O.gl b) (O.mod.bl _ (lA a)) (lq a) rfl d c) λi H Q z=>az z λF f g S s e w=>w _ H _ .refl s rfl
theorem iS{m:GS}{Q:List V->Hp->Prop}(h:cs.length<1000)(w:ai K m E (ag K m) μ H Q (aj Φ Γ cs ρ S)):ai K m E (ag K m) μ H (λvs H'=>vs.length<=sizeLine/\Q vs H') (aj Φ Γ cs ρ S):=by
 cases e:aj _ _ _ _ S with
 |ok d a=>rw[e]at w;intro b H' vs x s r;refine⟨?_,w _ _ _ x s r⟩;rw[<-r.length,qO e];exact J3 (Zt h (by decide))
 |err y a=>rw[e]at w;exact w
 |fail=>rw[e]at w;exact w
theorem wK{x1}(a:cs.length<1000)(h:PA X es (tL X.K X.mg E Φ Γ cs)):PE X (.Tuple es x1 pos) (tE X.K X.mg E Φ Γ (.tup cs)):=
 aI (p_ h) λi H Q z=>az z λF f g S d e w=>⟨F,_,_,S,d,e,(iS a (ai.bind w)).mono λvs H1 ⟨c,_,_,_,_,s,r,W⟩=>⟨c,λp b=>by exact aF.tup (show aF _ _ _ _ Q _ from W) s r p b⟩⟩
theorem wL{box:Bool}(b:cs.length<1000)(h:PA X es (tL X.K X.mg E Φ Γ cs)):PE X (.List es pos) (tE X.K X.mg E Φ Γ (.lst box cs)):=
 aI (gB h) λi H Q z=>az z λF f g S d e w=>⟨F,_,_,S,d,e,(iS b (ai.bind w)).mono λvs H1 ⟨c,_,_,_,_,s,r,W⟩=>⟨c,λp a=>by
  cases box with
  |true=>exact aF.box (show aF _ _ _ _ Q _ from W) s r p a
  |false=>exact aF.lst (show aF _ _ _ _ Q _ from W) s r p a⟩⟩
theorem wM:PE X (.Dict [] [] pos) (tE X.K X.mg E Φ Γ .dct):=λp s l H Q I z=>az z λF j k S c d w=>by
 have a:=Zt I.mod.glob.lt (Zv I.ok.bsz I.sz);have h:=I.hok.fresh (Zf _);refine wpAny_Dict_empty ⟨.ref _,_,I.laid (o:=.dK []) (λb O q=>Zb _ q) (Zf _) ?_,rfl,?_⟩
 ·refine⟨ZT _,?_,_,.nil,_,_,_,Zg _ rfl,⟨rfl,rfl,rfl⟩,rfl,λe i=>by simp_all,.nil,.nil⟩;have g:mainGlobals=3:=rfl;have f:sysModules=1:=rfl;lia
 ·exact w _ _ _ (.laid h) (c.laid h) (by exact⟨_,rfl,bI⟩)
theorem wN(hs:gM r=HX)(h:PE X l (tE X.K X.mg E Φ Γ a))(c:PE X r (tE X.K X.mg E Φ Γ b)):PE X (.Subscript l r pos) (tE X.K X.mg E Φ Γ (.idx a b)):=
 aI (oR CI h c (Dm hs)) λu H Q z=>az z λF q t S g e w=>
  ⟨F,_,_,S,g,e,(ai.bind w).mono λv H1 z=>aq z λk o d1 x s R W=>⟨F,_,_,_,s,e.mono x,(ai.bind W).mono λV n z=>aq z λm p D j f d i=>⟨F,_,_,_,_,f,Rep.mono j _ _ R,d,bU i⟩⟩⟩
theorem wO(h:PE X l (tE X.K X.mg E Φ Γ a))(c:PE X r (tE X.K X.mg E Φ Γ b)):PE X (.Subscript l (.Slice none none (some r) p2) pos) (tE X.K X.mg E Φ Γ (.rev a b)):=
 aI (qE h c) λu H Q z=>az z λF q t S g e w=>
  ⟨F,_,_,S,g,e,(ai.bind w).mono λv H1 z=>aq z λk o d1 x s R W=>⟨F,_,_,_,s,e.mono x,(ai.bind W).mono λV n z=>aq z λm p D j f d i=>⟨F,_,_,_,_,f,Rep.mono j _ _ R,d,bU i⟩⟩⟩
theorem wP{m:Expr}(h:PE X l (tE X.K X.mg E Φ Γ a))(g:PE X r (tE X.K X.mg E Φ Γ b))(i:PE X m (tE X.K X.mg E Φ Γ c)):PE X (.Subscript l (.Slice none (some r) (some m) p2) pos) (tE X.K X.mg E Φ Γ (.rv0 a b c)):=
 aI (qF h g i) λO H Q z=>az z λF M N S p e w=>
  ⟨F,_,_,S,p,e,(ai.bind w).mono λV H1 z=>aq z λu C d1 x s R W=>⟨F,_,_,_,s,e.mono x,(ai.bind W).mono λK A z=>aq z λv D I d n j q=>⟨F,_,_,_,n,(e.mono x).mono d,(ai.bind q).mono λL B z=>aq z λy G J f o k t=>⟨F,_,_,_,_,_,o,Rep.mono f _ _ (Rep.mono d _ _ R),Rep.mono f _ _ j,k,bU t⟩⟩⟩⟩
noncomputable def wQ(K:Fg)(m:Mg)(E:XK)(Φ:FT)(Γ:Str->Option D)(cs:List CE):TO:=λσ H Q=>∃F μ ρ S,aC K ⟨m,F⟩ μ S H/\aN K ⟨m,F⟩ μ H ρ σ/\
 ai K ⟨m,F⟩ E (λ_ _ o o'=>o=o') μ H Q ((aj Φ Γ cs ρ S).bind dD)
theorem lB:PO X none (wQ X.K X.mg E Φ Γ []):=by intro p s b H Q I ⟨F,_,_,S,a,_,w⟩;exact kz _ s _ H Q I (w _ H _ .refl a rfl)
theorem lC(h:PE X e (tE X.K X.mg E Φ Γ a)):PO X (some e) (wQ X.K X.mg E Φ Γ [a]):=by
 intro p s q H Q I ⟨F,l,c,S,j,f,w⟩;refine kE h _ s _ H Q I ⟨F,_,_,S,j,f,?_⟩
 have k:ai X.K ⟨X.mg,F⟩ E (λ_ _ o O=>o=O) l H Q ((ah Φ Γ a c S).bind λd b=>dD [d] b):=by
  have n:(aj Φ Γ [a] c S).bind dD=(ah Φ Γ a c S).bind λd b=>dD [d] b:=by dsimp only[aj];cases ah _ _ a _ S<;>rfl
  simp_all
 refine(ai.bind k).mono λv H1 z=>aq z λm b d x g r W=>?_;cases d with
 |int i=>exact⟨i,ax r,W _ _ _ .refl g rfl⟩
 |_=>exact W.elim
theorem Ds{L h:Option Expr}{c ch:List CE}(g:PE X l (tE X.K X.mg E Φ Γ a))(j:PO X L (wQ X.K X.mg E Φ Γ c))(i:PO X h (wQ X.K X.mg E Φ Γ ch)):PE X (.Subscript l (.Slice L h none p2) pos) (tE X.K X.mg E Φ Γ (.sl a c ch)):=
 aI (B4 CK g j i) λN H Q z=>az z λF K M S n e w=>⟨F,_,_,S,n,e,(ai.bind w).mono λV H1 z=>aq z λu C d1 x s r W=>⟨F,_,_,_,s,e.mono x,
  (ai.bind W).mono λo A z=>aq z λv D I b k d p=>⟨F,_,_,_,k,(e.mono x).mono b,(ai.bind p).mono λJ B z=>aq z λy G O t m f q=>by subst d;subst f;exact⟨F,_,_,_,m,Rep.mono (b.trans t) _ _ r,bU q⟩⟩⟩⟩
theorem iT(O:cq X cell N sc CX E Φ Γ k){f:Str}(h:a_ sc f=HX)(a:∀x∈e::es,bK x=HX)(i:PA X (e::es) (tL X.K X.mg E Φ Γ cs)):PE X (.Call (.Name f p2) (e::es) [] pos) (tE X.K X.mg E Φ Γ (.call f cs)):=by
 obtain⟨d,g,B⟩:=cZ h;cases b:Φ f with
 |none=>intro P s u H Q I ⟨F,_,_,S,_,_,w⟩;simp[ah]at w;rw[b]at w;exact w.elim
 |some L=>obtain⟨y,A,C,m,M,l,n,o⟩:=(O.mod.fns f _ b).ex;refine aI (kt n O.room (O.gl d) m M l .nil O.pass i g (cr (a e Ze)) (fv λx j=>a x (Zc _ j))) λu H Q Z=>az Z λF J K S q c w=>?_;simp[ah]at w;rw[b]at w;refine⟨F,_,_,S,q,c,(ai.bind w).mono λvs H1 Z=>aq Z λt v D G p r W=>?_⟩;rw[KA];refine⟨?_,F,_,_,_,p,r,W⟩;rw[<-r.length];exact o _ _ λz=>by rw[z]at W;exact W
theorem o5(O:cq X cell N sc CX E Φ Γ k){b:ia}(g:bh X (iO b) (rC X.K X.mg (aJ b)))(h:a_ sc (fT b)=HX)(j:∀x∈e::es,bK x=HX)(f:PA X (e::es) (tL X.K X.mg E Φ Γ cs)):PE X (.Call (.Name (fT b) p2) (e::es) [] pos) (tE X.K X.mg E Φ Γ (.blt b cs)):=by
 obtain⟨a,c,d⟩:=cZ h
 have i:X.mg (fT b)=none:=O.mod.bl _ (by
  cases b with
  |list box=>show(I8 _)∈fu;decide+kernel
  |sorted box t=>show(I8 _)∈fu;decide+kernel
  |_=>decide+kernel)
 have K:PE X (.Call (.Name (fT b) p2) (e::es) [] pos) (BZ (rC X.K X.mg (aJ b)) (tL X.K X.mg E Φ Γ cs)):=by
  have s:=cr (env:=X.env) (es:=es) (j e Ze);have m:=fv (env:=X.env) (pos:=pos) λx q=>j x (Zc _ q);have l:=Dk b;cases b with
  |tuple=>exact ku g (O.gl a) i l f d c s m
  |list box=>exact ku g (O.gl a) i l f d c s m
  |int=>exact ku g (O.gl a) i l f d c s m
  |str=>exact ku g (O.gl a) i l f d c s m
  |_=>exact qa g (O.gl a) i l f d c s m
 refine aI K λC H Q z=>az z λF v A S u p w=>⟨F,v,A,S,u,p,(ai.bind w).mono λvs H1 z=>aq z λy o D B s r W=>⟨F,_,o,D,s,r,bU W⟩⟩
theorem Dt{m:GS}(s:aC K m μ S H)(r:Rep K m μ H (.ref n) v):vn K "list" v H:=by
 obtain⟨a,rfl,h⟩:=r;have c:n<S.length:=by rw[<-s.len];exact(Zm.mp h).1
 obtain⟨vs,b,q⟩:=s.at_ n a _ h (Zh c);exact .inl ⟨rfl,_,.of b⟩
noncomputable def iU:oX->String
 | .append=>"list.append"| .extend=>"list.extend"| .pop=>"list.pop"| .count=>"list.count"| .insert=>"list.insert"| .index=>"list.index"
theorem iV(m:oX):kH X (iU m) (rM X.K X.mg (gf m)):=by
 cases m with
 |append=>exact CM
 |count=>exact λ_ _ _ _ _ _ _ _ _ _ _ _ ⟨_,_,_,_,_,_,_,_,w⟩=>w.elim
 |insert=>exact λ_ _ _ _ _ _ _ _ _ _ _ _ ⟨_,_,_,_,_,_,_,_,w⟩=>w.elim
 |index=>exact λ_ _ _ _ _ _ _ _ _ _ _ _ ⟨_,_,_,_,_,_,_,_,w⟩=>w.elim
 |extend=>exact λ_ _ _ _ _ _ _ _ _ _ _ _ ⟨_,_,_,_,_,_,_,_,w⟩=>w.elim
 |pop=>exact λ_ _ _ _ _ _ _ _ _ _ _ _ ⟨_,_,_,_,_,_,_,_,w⟩=>w.elim
theorem wR(m:oX):Slot "list" (lr m) (iU m):=by
 cases m with
 |append=>exact PySem.F.slot_list_append
 |count=>exact PySem.F.slot_list_count
 |insert=>exact PySem.F.slot_list_insert
 |index=>exact PySem.F.slot_list_index
 |extend=>exact PySem.F.slot_list_extend
 |pop=>exact PySem.F.slot_list_pop
theorem wS(m:oX):typeOf (.builtin (iU m))=pure (.type "method_descriptor"):=by
 cases m with
 |append=>exact PySem.F.type_list_append
 |count=>exact PySem.F.type_list_count
 |insert=>exact PySem.F.type_list_insert
 |index=>exact PySem.F.type_list_index
 |extend=>exact PySem.F.type_list_extend
 |pop=>exact PySem.F.type_list_pop
theorem qQ{m:oX}{o:Expr}(G:gN o=HX)(y:(apos.endLine==pos.line)=HX)(f:∀x∈es,bK x=HX)(P:es.length<20)(j:cs.length=es.length)(A:PE X o (tE X.K X.mg E Φ Γ a))(C:PA X es (tL X.K X.mg E Φ Γ cs)):
  PE X (.Call (.Attribute o (lr m) apos) es [] pos) (tE X.K X.mg E Φ Γ (.meth m a cs)):=by
 have h:attributeBase o (lr m) X.env (eval o X.env)=eval o X.env:=by cases o<;>first|rfl|cases G
 have k:∀{F b d H1 c d1 Q v},aC X.K ⟨X.mg,F⟩ b d H1->Rep X.K ⟨X.mg,F⟩ b H1 d1 v->ai X.K ⟨X.mg,F⟩ E (Rep X.K ⟨X.mg,F⟩) b H1 Q (match d1 with
   | .ref n=>(aj Φ Γ cs c d).bind λD i=>(gf m (.ref n) D i).noErr
   |_=>.fail)->vn X.K "list" v H1/\ai X.K ⟨X.mg,F⟩ E (ag X.K ⟨X.mg,F⟩) b H1 (λvs u=>rM X.K X.mg (gf m) v vs u Q) (aj Φ Γ cs c d):=by
  intro F b d H1 c d1 Q v s r W;cases d1 with
  |ref n=>exact⟨Dt s r,(ai.bind W).mono λvs u z=>aq z λt i D M J R L=>⟨F,t,i,_,D,J,Rep.mono M _ _ r,R,bU L⟩⟩
  |_=>exact W.elim
 cases es with
 |nil=>have e:=ZL j;subst e;refine aI (qf PySem.F.plainAttrs_list (wR m) (wS m) (iV m) A h y) λN H Q z=>az z λF q c S p g w=>⟨F,q,c,S,p,g,(ai.bind w).mono λv H1 z=>aq z λb d d1 B s r W=>?_⟩;obtain⟨K,l⟩:=k s r W;exact⟨K,l b H1 [] .refl s .nil⟩
 |cons e es=>
  refine aI (oS PySem.F.plainAttrs_list (wR m) (wS m) (iV m) A C h ?_ y (cr (f e Ze)) (fv λx I=>f x (Zc _ I))) λN H Q z=>az z λF q c S p g w=>⟨F,q,c,S,p,g,(ai.bind w).mono λv H1 z=>aq z λb d d1 B s r W=>?_⟩
  ·rw[gQ f];have O:(backToKw pos (keywordEach [] X.env)).all (λx=>x.1.isSome)=HX:=rfl
   grind
  ·obtain⟨K,l⟩:=k s r W;exact⟨K,F,b,c,d,s,g.mono B,l⟩
theorem wT{id:String}{r:V->List V->Hp->VK->Prop}{o:Expr}{t:TA}(S:Slot "tuple" name id)(j:typeOf (.builtin id)=pure (.type "method_descriptor"))(u:kH X id r)(w:PE X o to)(q:PA X (e::es) t)
  (c:attributeBase o name X.env (eval o X.env)=eval o X.env)
  (f:((backTo cpos (starEach (e::es) X.env)).all (λx=> !x.1)&&(backToKw cpos (keywordEach [] X.env)).all (λx=>x.1.isSome)
   &&decide ((e::es).length+([]:List KU).length+(if([]:List KU).isEmpty then 0 else 1)<30))=HX)
  (d:(apos.endLine==cpos.line)=HX) (hs:starEach (e::es) X.env=(HY,eval e X.env)::starEach es X.env) (g:(backTo cpos (starEach es X.env)).any (·.1)=HY):
  PE X (.Call (.Attribute o name apos) (e::es) [] cpos) (λσ H Q=>to σ H λx H1=>(∃a vs,x=.ref a/\bQ X.K H1 a vs)/\t σ H1 λxs H2=>r x xs H2 Q):=by
 intro P s σ H Q I h;refine JV c f d rfl (aK (w _ s _ H _ I h) λv C ⟨x,_,i,R,ty,z⟩=>?_);obtain⟨a,vs,rfl,l⟩:=ty;subst R;obtain⟨y,_,⟨O,E,n,_⟩,_⟩:=i.tuple l;refine⟨_,_,PySem.F.plainAttrs_tuple,S,j,⟨_,E,n⟩,λb p=>by cases p;exact i.noD l,?_⟩;have k:=q cpos _ _ _ _ _ i z;rw[hs]at k⊢;exact Jc (by trivial) (Jq (aK k λU D ⟨_,_,m,B,A⟩=>u _ _ _ _ (.ref a) _ _ _ Q m rfl B A))
theorem wU{o:Expr}(j:gN o=HX)(i:(apos.endLine==pos.line)=HX)(b:∀x∈es,bK x=HX)(m:es.length=1)(k:PE X o (tE X.K X.mg E Φ Γ a))(g:PA X es (tL X.K X.mg E Φ Γ cs)):
  PE X (.Call (.Attribute o "index" apos) es [] pos) (tE X.K X.mg E Φ Γ (.tix a cs)):=by
 have h:attributeBase o "index" X.env (eval o X.env)=eval o X.env:=by cases o<;>first|rfl|cases j
 cases es with
 |nil=>cases m
 |cons e es=>
  refine aI (wT PySem.F.slot_tuple_index PySem.F.type_tuple_index wf k g h ?_ i (cr (b e Ze)) (fv λx l=>b x (Zc _ l))) λL H Q z=>az z λF J K S p d w=>⟨F,_,_,S,p,d,(ai.bind w).mono λV H1 z=>aq z λv B d1 t s r W=>?_⟩
  ·rw[gQ b];have c:(backToKw pos (keywordEach [] X.env)).all λx=>x.1.isSome=HX:=rfl
   grind
  ·cases d1 with
   |tup I=>obtain⟨a,vs,c,f,G⟩:=bz r;exact⟨⟨a,_,c,f⟩,F,_,_,_,s,d.mono t,(ai.bind W).mono λvs A z=>aq z λy C D u n R q=>⟨F,_,_,_,_,n,Rep.mono u _ _ r,R,bU q⟩⟩
   |_=>exact W.elim
theorem wV{m:oW}{o:Expr}(U:gN o=HX)(T:(apos.endLine==pos.line)=HX)(d:∀x∈es,bK x=HX)(hz:es.length=1)(V:PE X o (tE X.K X.mg E Φ Γ a))(N:PA X es (tL X.K X.mg E Φ Γ cs)):
  PE X (.Call (.Attribute o (lf m) apos) es [] pos) (tE X.K X.mg E Φ Γ (.smt m a cs)):=by
 have h:attributeBase o (lf m) X.env (eval o X.env)=eval o X.env:=by cases o<;>first|rfl|cases U
 cases es with
 |nil=>cases hz
 |cons e es=>
  intro P s p H Q I Z;obtain⟨F,c,i,S,sk,u,w⟩:=Z
  have O:=V P s p H (λx H1=>∃F c S,aC X.K ⟨X.mg,F⟩ c S H1/\aN X.K ⟨X.mg,F⟩ c H1 i p/\∃z,x=.str z/\ai X.K ⟨X.mg,F⟩ E (Rep X.K ⟨X.mg,F⟩) c H1 Q ((aj Φ Γ cs i S).bind λD k=>(fR m z D k).noErr)) I ⟨F,c,i,S,sk,u,(ai.bind w).mono λv1 H1 Z=>aq Z λf j d1 x1 A r W=>by
   cases d1 with
   |str z=>cases bR r;exact⟨F,f,j,A,u.mono x1,z,rfl,W⟩
   |_=>exact W.elim⟩
  refine JV h ?_ T rfl (aK O λv A ⟨x,H1,C,r,q,f,j,k1,l,z,M,W⟩=>?_)
  ·rw[gQ d];have J:(backToKw pos (keywordEach [] X.env)).all (λx=>x.1.isSome)=HX:=rfl;rw[J];simp only[LX,decide_eq_true_eq];have K:(if([]:List KU).isEmpty then 0 else 1)=0:=rfl;rw[K];simp only[ZW];omega
  ·subst M;obtain⟨t,rfl⟩:=r;refine⟨"str",gc m,PySem.F.plainAttrs_str,C4 m,C5 m,JK _ _ _,(λb L=>nomatch L),?_⟩;have y:=N pos P _ p H1 (λvs g=>∃F c S D,aC X.K ⟨X.mg,F⟩ c S g/\ag X.K ⟨X.mg,F⟩ c g D vs/\aF X.K ⟨X.mg,F⟩ c g Q (fR m z D S)) C ⟨q,f,i,j,k1,l,(ai.bind W).mono λvs g Z=>aq Z λn k D x2 B R w2=>⟨q,n,k,D,B,R,bU w2⟩⟩;rw[cr (d e Ze)]at y⊢;refine Jc (by show(HY||(backTo pos (starEach es X.env)).any (·.1))=HY;rw[fv λx Y=>d x (Zc _ Y)]<;>rfl) (Jq ?_);exact aK y λus B ⟨vs,g,G,R,q2⟩=>C6 m G R q2
theorem qR{x:Str}{j:Nat}{P:Pos}(t:(apos.endLine==pos.line)=HX)(h:∀x∈es,bK x=HX)(v:es.length=1)(q:PA X es (tL X.K X.mg E Φ Γ cs)):
  PE X (.Call (.Attribute (.Constant (.str x) j P) "join" apos) es [] pos) (tE X.K X.mg E Φ Γ (.join x cs)):=by
 cases es with
 |nil=>cases v
 |cons e es=>
  intro y s D H Q I z;obtain⟨F,c,C,S,B,p,w⟩:=z;refine JV rfl ?_ t rfl (Mw ?_)
  ·rw[gQ h];have m:(backToKw pos (keywordEach [] X.env)).all (λx=>x.1.isSome)=HX:=rfl;rw[m];simp only[LX,decide_eq_true_eq];have n:(if([]:List KU).isEmpty then 0 else 1)=0:=rfl;rw[n];simp only[ZW];omega
  ·refine⟨"str","str.join",PySem.F.plainAttrs_str,PySem.F.slot_str_join,PySem.F.type_str_join,JK _ _ _,(λb o=>nomatch o),?_⟩;have g:=q pos y _ D H (λvs a=>∃F c S d,aC X.K ⟨X.mg,F⟩ c S a/\ag X.K ⟨X.mg,F⟩ c a d vs/\aF X.K ⟨X.mg,F⟩ c a Q (fj x d S)) (I.tok (s.toks+1)) ⟨F,c,C,S,B,p,(ai.bind w).mono λvs a z=>aq z λf l d G i r W=>⟨F,f,l,d,i,r,bU W⟩⟩;rw[cr (h e Ze)]at g⊢;refine Jc (by show(HY||(backTo pos (starEach es X.env)).any (·.1))=HY;rw[fv λx u=>h x (Zc _ u)];rfl) (Jq ?_);exact aK g λU i ⟨vs,a,k,r,A⟩=>C3 k r A
end
theorem Du{t:H7}{i:Nat}{x:H8}(h:s.heap.IsTupleIter it t i)(g:s.heap.IsTuple t items)(j:items[i]?=some x)
  (e:∀h',h'.IsTupleIter it t (i+1)->IZ it s.heap h'->Q x {s with heap:=h'}):wpAny (model prog w) A (Ij (.ref it)) Q E s:=by
 obtain⟨o,a,f,H⟩:=id h;obtain⟨O,c,_,nl,b⟩:=g;refine Za (ZG h.typeIs Jv (ZJ Jv h.typeIs LY ?_ (LR _)));show wpAny _ _ (field _ 0>>=_) _ _ s;refine Za (ZF a H rfl ?_);refine Za (ZF a H rfl ?_);refine Za (IK c b ?_);simp_all;exact Za (Kp a H (by simp) (Zd ⟨x,rfl,Zd (e _ ⟨_,IB _ a (KJ (Je H _)),(Le ..).trans f,by rw[Je H];rfl⟩ (Z1 ..))⟩))
theorem wW{t:H7}{i:Nat}{Q:Vs}(g:A.handled=none)(h:s.heap.IsTupleIter it t i)(j:s.heap.IsTuple t items)(k:items[i]?=none)
  (f:∀h' e,Ms it s.heap h'->(∃o,h'.get? e=some o/\o.cls=.type "StopIteration")->E (.ref e) {s with heap:=h'}):wpAny (model prog w) A (Ij (.ref it)) Q E s:=by
 obtain⟨o,b,l,H⟩:=id h;obtain⟨O,c,_,nl,a⟩:=j;refine Za (ZG h.typeIs Jv (ZJ Jv h.typeIs LY ?_ (LR _)));show wpAny _ _ (field (.ref it) 0>>=_) _ _ s;refine Za (ZF b H (x:=.ref t) rfl ?_);refine Za (ZF b H rfl ?_);refine Za (IK c a ?_);simp only[IJ,k];refine Za (KW (Za (Kp b H (by simp) ?_)));refine Za ?_;refine Za (m:=firstArgMember _ _) (wpAny_of_eq (rfl) ?_);refine ZN ?_ (by size_fits);refine Za (wpAny_handled ?_)
 first|lia|rw[g]
 exact Za (Zd (wpAny_throw (f _ _ (((Z1 ..).extBut.push _).push _) ⟨_,Zg _ rfl,rfl⟩)))
def bO(b:Bool)(h:Ig)(l:H7)(xs:Av):Prop:=match b with
 |true=>h.IsList l xs
 |false=>h.IsTuple l xs
def bo(b:Bool)(h:Ig)(it l:H7)(i:Nat):Prop:=match b with
 |true=>h.IsListIter it l i
 |false=>h.IsTupleIter it l i
theorem bO.at{b:Bool}{l:H7}{xs:Av}(q:bO b h l xs)(k:∀o,h.get? l=some o->h'.get? l=some o):bO b h' l xs:=by
 cases b with
 |true=>exact Heap.IsList.at q k
 |false=>obtain⟨o,e,r⟩:=q;exact⟨o,k o e,r⟩
theorem bo.at{b:Bool}{l:H7}{i:Nat}(q:bo b h it l i)(k:∀o,h.get? it=some o->h'.get? it=some o):bo b h' it l i:=by
 cases b with
 |true=>exact Heap.IsListIter.at q k
 |false=>exact Heap.IsTupleIter.at q k
theorem bo.obj{b:Bool}{l:H7}{i:Nat}(q:bo b h it l i):∃o,h.get? it=some o/\∀v,o.data≠.cell v:=by
 cases b with
 |true=>obtain⟨o,e,c,d⟩:=q;simp_all
 |false=>obtain⟨o,e,c,d⟩:=q;simp_all
theorem gg(d:A.handled=none)(b:Bool)(it l:H7)(a:l≠it)(items:Av):
  Draws prog w A it [it,l] items.size (λi v=>items[i]?=some v) (λi h=>bo b h it l i/\bO b h l items):=by
 cases b with
 |true=>exact Draws.list d _ l a _
 |false=>exact{
   live:=λ_ _ S=>let⟨o,ho,_⟩:=S.1;⟨o,ho⟩
   frame:=λ_ _ _ S f=>⟨S.1.at λo e=>f _ (by simp) o e,S.2.at λo e=>f l (by simp) o e⟩
   item:=λi s Q E m S j=>by exact Du S.1 S.2 (x:=items[i]) (by simp) λk H c=>j _ _ _ (by simp) ⟨H,S.2.at λo e=>c.extBut _ _ a e⟩ c
   done:=λs Q E S g=>wW d S.1 S.2 (by simp) g}
structure dq (z TI TO i1 i2 l1 l2:H7):Prop where
 TIz:TI≠z
 TOz:TO≠z
 i1z:i1≠z
 i2z:i2≠z
 TITO:TI≠TO
 TIi1:TI≠i1
 TIi2:TI≠i2
 TOi1:TO≠i1
 TOi2:TO≠i2
 i12:i1≠i2
 l1:l1≠z/\l1≠TO/\l1≠i1/\l1≠i2
 l2:l2≠z/\l2≠TO/\l2≠i1/\l2≠i2
theorem wX{prog:Ia}{w:Io}{b:Bool}{t:H7}{i:Nat}{Q:Vs}(c:A.handled=none)(h:bo b s.heap it t i)(d:bO b s.heap t items)(f:items[i]?=none)
  (H:∀h' e,Ms it s.heap h'->(∃o,h'.get? e=some o/\o.cls=.type "StopIteration")->E (.ref e) {s with heap:=h'}):wpAny (model prog w) A (Ij (.ref it)) Q E s:=by
 cases b with
 |true=>exact wpAny_nextOf_list_end c h d f H
 |false=>exact wW c h d f H
section
variable {z TI TO i1 i2 l1 l2:H7}{k1 k2:Nat}{xs ys:Av}{a b:H8}
theorem qS(D:dq z TI TO i1 i2 l1 l2)(hh:A.handled=none){x y:H8}
  (O:Ky s.heap z TI TO .none) (hTI:Jf s.heap TI (.ref i1) (.ref i2)) (hTO:Jf s.heap TO a b)
  (h1:bo b1 s.heap i1 l1 k1) (h2:bo b2 s.heap i2 l2 k2) (hl1:bO b1 s.heap l1 xs) (hl2:bO b2 s.heap l2 ys) (hx:xs[k1]?=some x) (hy:ys[k2]?=some y)
  (hQ:∀h',Ky h' z TI TO (rawInt s.heap.objs.size)->Jf h' TO x y->bo b1 h' i1 l1 (k1+1)->bo b2 h' i2 l2 (k2+1)->Jf h' s.heap.objs.size x y->h'.objs.size=s.heap.objs.size+1->
   (∀c o,c≠z->c≠TO->c≠i1->c≠i2->s.heap.get? c=some o->h'.get? c=some o)->∀tk,Q (.ref s.heap.objs.size) {s with heap:=h',toks:=tk}):
  wpAny (model prog w) A (I_.«zip.__next__» ⟨[.ref z],[]⟩) (λfin s'=>∃v,fin=.done (.ret v)/\Q v s') E s:=by
 have D1:=gg (prog:=prog) (w:=w) (A:=A) hh b1 i1 l1 D.l1.2.2.1 xs;have D2:=gg (prog:=prog) (w:=w) (A:=A) hh b2 i2 l2 D.l2.2.2.2 ys;have n1:k1<xs.size:=(J4.mp hx).1;have n2:k2<ys.size:=(J4.mp hy).1;show wpAny _ _ (field (.ref z) 2>>=_) _ _ _;refine Za (ZF O rfl (x:=.bool HY) rfl ?_);show wpAny _ _ (field (.ref z) 3>>=_) _ _ _;refine Za (ZF O rfl (x:=.ref TI) rfl ?_);refine Za (IK hTI rfl ?_);show wpAny _ _ (IC (.ref z)>>=_) _ _ _;refine Za ?_;unfold IC;refine Za (ZF O rfl (x:=.none) rfl (Zd ?_));simp only[if_true];refine Za (KW ?_);refine Za (ZF O rfl (x:=.ref TO) rfl ?_);refine Za (Jn O (by simp) λR q H=>?_);replace q:Ky R z TI TO .ellipsis:=q;refine Za ?_;simp only[M6,List.zipIdx_nil,JY,List.forIn_nil];refine Za (Za (Ll ?_));show wpAny _ _ (Ij (.ref i1)>>=_) _ _ _;refine Za (D1.item k1 _ _ _ n1 ⟨h1.at λo e=>H.extBut _ _ D.i1z e,hl1.at λo e=>H.extBut _ _ D.l1.1 e⟩ λx' T tk M S d=>Zd ?_);rw[hx]at M;cases M;have t:Jf T TO a b:=d.extBut _ _ D.TOi1 (H.extBut _ _ D.TOz hTO);refine Za (IK t rfl ?_);refine Za (K5 t λU k f=>?_);replace k:Jf U TO x b:=k;refine Za (wpAny_letGo (Zd ?_));refine Za (Za (Ll ?_));show wpAny _ _ (Ij (.ref i2)>>=_) _ _ _;refine Za (D2.item k2 _ _ _ n2 ⟨h2.at λo e=>f.extBut _ _ D.TOi2.symm (d.extBut _ _ D.i12.symm (H.extBut _ _ D.i2z e)),hl2.at λo e=>f.extBut _ _ D.l2.2.1 (d.extBut _ _ D.l2.2.2.1 (H.extBut _ _ D.l2.1 e))⟩ λy' V tk2 N K i=>Zd ?_);rw[hy]at N;cases N;have u:Jf V TO x b:=i.extBut _ _ D.TOi2 k;refine Za (IK u rfl ?_);refine Za (K5 u λh g j=>?_);replace g:Jf h TO x y:=g;refine Za (wpAny_letGo (Zd (Zd ?_)));refine Za (IK g rfl ?_);refine Za (wpAny_newTuple ?_);have L:h.objs.size=s.heap.objs.size:=by rw[j.1,i.1,f.1,d.1,H.1]
 have C:Ky h z TI TO .ellipsis:=j.extBut _ _ D.TOz.symm (i.extBut _ _ D.i2z.symm (f.extBut _ _ D.TOz.symm (d.extBut _ _ D.i1z.symm q)));have I:∀c o,c≠z->c≠TO->c≠i1->c≠i2->s.heap.get? c=some o->h.get? c=some o:=λc o G X Y Z e=>j.extBut _ _ X (i.extBut _ _ Z (f.extBut _ _ X (d.extBut _ _ Y (H.extBut _ _ G e))));have g1:bo b1 h i1 l1 (k1+1):=S.1.at λo e=>j.extBut _ _ D.TOi1.symm (i.extBut _ _ D.i12 (f.extBut _ _ D.TOi1.symm e));have g2:bo b2 h i2 l2 (k2+1):=K.1.at λo e=>j.extBut _ _ D.TOi2.symm e;have F:z<h.objs.size:=Zi C;show wpAny _ _ (J5 (.ref z) (.ref h.objs.size)>>=_) _ _ _;refine Za ?_;unfold J5;have J:Ky (h.push {cls:=.type "tuple",data:=.seq #[x,y]}) z TI TO .ellipsis:=Zb _ C;refine Za (Jn J (by simp) λW r n=>?_);replace r:Ky W z TI TO (rawInt h.objs.size):=r;refine Jn r (by simp) λm l p=>?_;replace l:Ky m z TI TO (rawInt h.objs.size):=l;have up:∀c o,c≠z->h.get? c=some o->m.get? c=some o:=λc o G e=>p.extBut _ _ G (n.extBut _ _ G (Zb _ e));have B:Jf m h.objs.size x y:=p.extBut _ _ (JJ F) (n.extBut _ _ (JJ F) (Zg _ rfl));have P:m.objs.size=h.objs.size+1:=by rw[p.1,n.1,Js]
 rw[L]at l B P;refine Zd ⟨_,rfl,?_⟩;show Q (.ref h.objs.size) _;rw[L];exact hQ m l (up _ _ D.TOz g) (g1.at λo e=>up _ o D.i1z e) (g2.at λo e=>up _ o D.i2z e) B P (λc o G X Y Z e=>up c o G (I c o G X Y Z e)) _
theorem Dv(D:dq z TI TO i1 i2 l1 l2)(I:A.handled=none){Q:Fin->HZ->Prop}
  (v:Ky s.heap z TI TO .none) (K:Jf s.heap TI (.ref i1) (.ref i2)) (L:Jf s.heap TO a b)
  (h1:bo b1 s.heap i1 l1 k1) (Z:bo b2 s.heap i2 l2 k2) (u:bO b1 s.heap l1 xs) (N:bO b2 s.heap l2 ys) (t:xs[k1]?=none\/ys[k2]?=none)
  (P:∀h' e tk,(∀c o,c≠z->c≠TO->c≠i1->c≠i2->s.heap.get? c=some o->h'.get? c=some o)->(∃o,h'.get? e=some o/\o.cls=.type "StopIteration")->E (.ref e) {s with heap:=h',toks:=tk}):
  wpAny (model prog w) A (I_.«zip.__next__» ⟨[.ref z],[]⟩) Q E s:=by
 have W:=gg (prog:=prog) (w:=w) (A:=A) I b1 i1 l1 D.l1.2.2.1 xs;have D2:=gg (prog:=prog) (w:=w) (A:=A) I b2 i2 l2 D.l2.2.2.2 ys;show wpAny _ _ (field (.ref z) 2>>=_) _ _ _;refine Za (ZF v rfl (x:=.bool HY) rfl ?_);show wpAny _ _ (field (.ref z) 3>>=_) _ _ _;refine Za (ZF v rfl (x:=.ref TI) rfl ?_);refine Za (IK K rfl ?_);show wpAny _ _ (IC (.ref z)>>=_) _ _ _;refine Za ?_;unfold IC;refine Za (ZF v rfl (x:=.none) rfl (Zd ?_));simp only[if_true];refine Za (KW ?_);refine Za (ZF v rfl (x:=.ref TO) rfl ?_);refine Za (Jn v (by simp) λy f h=>?_);replace f:Ky y z TI TO .ellipsis:=f;refine Za ?_;simp only[M6,List.zipIdx_nil,JY,List.forIn_nil];refine Za (Za (Ll ?_));show wpAny _ _ (Ij (.ref i1)>>=_) _ _ _;by_cases U:k1<xs.size
 ·have hy:ys[k2]?=none:=t.resolve_left (by simp[U]);refine Za (W.item k1 _ _ _ U ⟨h1.at λo e=>h.extBut _ _ D.i1z e,u.at λo e=>h.extBut _ _ D.l1.1 e⟩ λx p tk T S H=>Zd ?_);have i:Jf p TO a b:=H.extBut _ _ D.TOi1 (h.extBut _ _ D.TOz L);refine Za (IK i rfl ?_);refine Za (K5 i λq G d=>?_);refine Za (wpAny_letGo (Zd ?_));refine Za (Za (Ll ?_));show wpAny _ _ (Ij (.ref i2)>>=_) _ _ _;refine Za (wX I (Z.at λo e=>d.extBut _ _ D.TOi2.symm (H.extBut _ _ D.i12.symm (h.extBut _ _ D.i2z e))) (N.at λo e=>d.extBut _ _ D.l2.2.1 (H.extBut _ _ D.l2.2.2.1 (h.extBut _ _ D.l2.1 e))) hy λB e k M=>?_);obtain⟨O,g,j⟩:=M;have n:Ky B z TI TO .ellipsis:=k _ _ D.i2z.symm (d.extBut _ _ D.TOz.symm (H.extBut _ _ D.i1z.symm f));have r:e≠z:=λx=>by subst x;rw[n]at g;cases g;simp at j
  exact Jn n (by simp) λF _ l=>P F e _ (λc o C X J Y x=>l.extBut _ _ C (k _ _ Y (d.extBut _ _ X (H.extBut _ _ J (h.extBut _ _ C x))))) ⟨O,l.extBut _ _ r g,j⟩
 ·have T:xs[k1]?=none:=by simp;omega
  refine Za (wX I (h1.at λo e=>h.extBut _ _ D.i1z e) (u.at λo e=>h.extBut _ _ D.l1.1 e) T λp e H M=>?_);obtain⟨O,g,j⟩:=M;have m:Ky p z TI TO .ellipsis:=H _ _ D.i1z.symm f;have r:e≠z:=λx=>by subst x;rw[m]at g;cases g;simp at j
  exact Jn m (by simp) λq _ d=>P q e _ (λc o C _ J _ x=>d.extBut _ _ C (H _ _ J (h.extBut _ _ C x))) ⟨O,d.extBut _ _ r g,j⟩
theorem Dw(D:dq z TI TO i1 i2 l1 l2)(v:A.handled=none){x y:H8}{Q:Ov->HZ->Prop}
  (i:Ky s.heap z TI TO .none) (h:Jf s.heap TI (.ref i1) (.ref i2)) (H:Jf s.heap TO a b)
  (h1:bo b1 s.heap i1 l1 k1) (r:bo b2 s.heap i2 l2 k2) (d:bO b1 s.heap l1 xs) (e:bO b2 s.heap l2 ys) (B:xs[k1]?=some x) (C:ys[k2]?=some y)
  (u:∀h',Ky h' z TI TO (rawInt s.heap.objs.size)->Jf h' TO x y->bo b1 h' i1 l1 (k1+1)->bo b2 h' i2 l2 (k2+1)->Jf h' s.heap.objs.size x y->h'.objs.size=s.heap.objs.size+1->
   (∀c o,c≠z->c≠TO->c≠i1->c≠i2->s.heap.get? c=some o->h'.get? c=some o)->∀tk,Q (some (.ref s.heap.objs.size)) {s with heap:=h',toks:=tk}):
  wpAny (model prog w) A (pyNext (.ref z)) Q E s:=by
 have f:s.TypeIs (.ref z) _:=⟨_,i,rfl⟩
 exact Za (J2 (ZG f KP
  (ZJ KP f F.entry_zip_next (qS D (show A.in1.handled=none from v) i h H h1 r d e B C λh' j k l m n p q tk=>Zd (u _ j k l m n p q _)) (F.args_zip_next_1 _))))
theorem Dx(D:dq z TI TO i1 i2 l1 l2)(q:A.handled=none){Q:Ov->HZ->Prop}
  (k:Ky s.heap z TI TO .none) (H:Jf s.heap TI (.ref i1) (.ref i2)) (d:Jf s.heap TO a b)
  (h1:bo b1 s.heap i1 l1 k1) (l:bo b2 s.heap i2 l2 k2) (f:bO b1 s.heap l1 xs) (g:bO b2 s.heap l2 ys) (h:xs[k1]?=none\/ys[k2]?=none)
  (m:∀h' tk,(∀c o,c≠z->c≠TO->c≠i1->c≠i2->s.heap.get? c=some o->h'.get? c=some o)->Q none {s with heap:=h',toks:=tk}):wpAny (model prog w) A (pyNext (.ref z)) Q E s:=by
 have i:s.TypeIs (.ref z) _:=⟨_,k,rfl⟩
 refine Za (J2 (ZG i KP
  (ZJ KP i F.entry_zip_next (Dv D (show A.in1.handled=none from q) k H d h1 l f g h λh' e tk r p=>?_) (F.args_zip_next_1 _))))
 obtain⟨o,u,n⟩:=p;exact Za (LS ⟨o,u,n⟩ isSubtype_stop (Zd (m _ _ r)))
end
noncomputable def fw(b:Bool)(l:H7):Obj:={cls:=.type (match b with|true=>"list_iterator"|false=>"tuple_iterator"),data:=.fields #[.ref l,.int 0 0]}
noncomputable def wY(h:Ig)(b:Bool)(l1:H7):Ig:=h.push (fw b l1)
noncomputable def wZ(h:Ig)(b B:Bool)(l1 l2:H7):Ig:=(wY h b l1).push (fw B l2)
noncomputable def w4(h:Ig)(b B:Bool)(l1 l2:H7):Ig:=(wZ h b B l1 l2).push {cls:=.type "tuple",data:=.seq #[.ref h.objs.size,.ref (wY h b l1).objs.size]}
noncomputable def w_(h:Ig)(b B:Bool)(l1 l2:H7):Ig:=(w4 h b B l1 l2).push {cls:=.type "tuple",data:=.seq #[.none,.none]}
noncomputable def o6(h:Ig)(b B:Bool)(l1 l2:H7):Ig:=(w_ h b B l1 l2).push {cls:=.type "zip",data:=.fields #[.none,.bool HY,.bool HY,.ref (wZ h b B l1 l2).objs.size,.ref (w4 h b B l1 l2).objs.size]}
theorem lD(c B:Bool)(l1 l2:H7)(xs ys:Av):
  Meets (I_.«zip.__new__» ⟨[.type "zip",.ref l1,.ref l2],[]⟩) (λ_ R s=>bO c s.heap l1 xs/\bO B s.heap l2 ys/\R (.ok (.ret (.ref (w_ s.heap c B l1 l2).objs.size))) {s with heap:=o6 s.heap c B l1 l2}):=
 .of_wp λp w A R s h=>by
  obtain⟨b,g,d,t,O⟩:=s;obtain⟨f,i,h⟩:=h;have k:=sub_zip;have H:bO B (wY b c l1) l2 ys:=i.at λo e=>Zb _ e;cases c with
  |true=>
   have a:Mt (J' ⟨b,g,d,t,O⟩) l1 xs:=f;cases B with
   |true=>
    have H:Mt (J' ⟨b.push {cls:=.type "list_iterator",data:=.fields #[.ref l1,.int 0 0]},g,d,t,O⟩) l2 ys:=H
    wp_walk using I' a,I' H
    exact⟨_,rfl,h⟩
   |false=>
    have H:Mb (J' ⟨b.push {cls:=.type "list_iterator",data:=.fields #[.ref l1,.int 0 0]},g,d,t,O⟩) l2 ys:=H
    wp_walk using I' a,IY H
    exact⟨_,rfl,h⟩
  |false=>
   have a:Mb (J' ⟨b,g,d,t,O⟩) l1 xs:=f;cases B with
   |true=>
    have H:Mt (J' ⟨b.push {cls:=.type "tuple_iterator",data:=.fields #[.ref l1,.int 0 0]},g,d,t,O⟩) l2 ys:=H
    wp_walk using IY a,I' H
    exact⟨_,rfl,h⟩
   |false=>
    have H:Mb (J' ⟨b.push {cls:=.type "tuple_iterator",data:=.fields #[.ref l1,.int 0 0]},g,d,t,O⟩) l2 ys:=H
    wp_walk using IY a,IY H
    exact⟨_,rfl,h⟩
theorem xa{b:Bool}{l:H7}(e:h.get? it=some (fw b l)):bo b h it l 0:=by
 cases b with
 |true=>exact⟨_,e,rfl,rfl⟩
 |false=>exact⟨_,e,rfl,rfl⟩
theorem Dy{l1 l2:H7}{xs ys:Av}(H:bO b1 s.heap l1 xs)(a:bO b2 s.heap l2 ys)
  (h:∀h',Ky h' (s.heap.objs.size+4) (s.heap.objs.size+2) (s.heap.objs.size+3) .none->Jf h' (s.heap.objs.size+2) (.ref s.heap.objs.size) (.ref (s.heap.objs.size+1))->
   Jf h' (s.heap.objs.size+3) .none .none->bo b1 h' s.heap.objs.size l1 0->bo b2 h' (s.heap.objs.size+1) l2 0->h'.objs.size=s.heap.objs.size+5->
   (∀c o,s.heap.get? c=some o->h'.get? c=some o)->Q (.ref (s.heap.objs.size+4)) {s with heap:=h'}):
  wpAny (model prog w) A (call (.type "zip") [.ref l1,.ref l2]) Q E s:=by
 refine callType_new F.called_zip (by decide) (F.typeCall_zip_2 _ _) (F.newCall_zip_2 _ _) (λobj=>F.args_object_init_3 obj _ _) F.entry_zip_new (lD b1 b2 l1 l2 xs ys) ⟨H,a,?_⟩;have z:(wY s.heap b1 l1).objs.size=s.heap.objs.size+1:=Js ..;have Z:(wZ s.heap b1 b2 l1 l2).objs.size=s.heap.objs.size+2:=by unfold wZ;rw[Js,z]
 have b:(w4 s.heap b1 b2 l1 l2).objs.size=s.heap.objs.size+3:=by unfold w4;rw[Js,Z]
 have d:(w_ s.heap b1 b2 l1 l2).objs.size=s.heap.objs.size+4:=by unfold w_;rw[Js,b]
 have k:(o6 s.heap b1 b2 l1 l2).objs.size=s.heap.objs.size+5:=by unfold o6;rw[Js,d]
 have g:(o6 s.heap b1 b2 l1 l2).get? (w_ s.heap b1 b2 l1 l2).objs.size=some _:=Zg _ rfl;have f:(o6 s.heap b1 b2 l1 l2).get? (w4 s.heap b1 b2 l1 l2).objs.size=some _:=Zb _ (Zg _ rfl);have e:(o6 s.heap b1 b2 l1 l2).get? (wZ s.heap b1 b2 l1 l2).objs.size=some _:=Zb _ (Zb _ (Zg _ rfl));have G:(o6 s.heap b1 b2 l1 l2).get? (wY s.heap b1 l1).objs.size=some (fw b2 l2):=Zb _ (Zb _ (Zb _ (Zg _ (by cases b2<;>rfl))));have j:(o6 s.heap b1 b2 l1 l2).get? s.heap.objs.size=some (fw b1 l1):=Zb _ (Zb _ (Zb _ (Zb _ (Zg _ (by cases b1<;>rfl)))));show _/\_;rw[Z,b,d]at g;rw[z,Z]at e;rw[b]at f;rw[z]at G;rw[d]
 exact⟨⟨_,g,rfl⟩,h _ g e f (xa j) (xa G) k λc o x=>
  Zb _ (Zb _ (Zb _ (Zb _ (Zb _ x))))⟩
def gS(b:Bool)(K:Fg)(H:Hp)(l:H7)(xs:List V):Prop:=match b with
 |true=>cP K H l xs
 |false=>bQ K H l xs
noncomputable def Hc(K:Fg)(b B:Bool)(l1 l2:H7):It:=
 ⟨λi H=>∃xs ys x y,gS b K H l1 xs/\gS B K H l2 ys/\xs[i]?=some x/\ys[i]?=some y,
  λi H v H'=>∃T x y,v=.ref T/\H T=none/\H'=aT H T (.tup [x,y])/\(∀xs,gS b K H l1 xs->xs[i]?=some x)/\(∀ys,gS B K H l2 ys->ys[i]?=some y),
  λi H=>∃xs ys,gS b K H l1 xs/\gS B K H l2 ys/\(xs.length<=i\/ys.length<=i)⟩
theorem gT{b:Bool}{l:H7}{xs:List V}(I:Inv X pq σ H s)(h:gS b X.K H l xs):∃its,Vals xs its/\bO b s.heap l its.toArray:=by
 cases b with
 |true=>obtain⟨its,r,p,_⟩:=I.list h;exact⟨_,r,p.isList⟩
 |false=>obtain⟨its,r,p,_⟩:=I.tuple h;exact⟨_,r,p⟩
theorem xb{b:Bool}{l:H7}{xs ys:List V}(I:Inv X pq σ H s)(h:gS b X.K H l xs)(h':gS b X.K H l ys):xs=ys:=by
 cases b with
 |true=>exact I.list_inj h h'
 |false=>exact I.tuple_inj h h'
theorem cA{b:Bool}{l c:H7}{xs:List V}(I:Inv X pq σ H s)(h:gS b X.K H l xs)(d:cQ X pq H c):l≠c:=by
 have k:∀{o:Obj},X.K.lookup l=some o->l≠c:=λ{o} e=>by
  have E:=I.mod.kin l o e;rintro rfl;rcases d.2.2.2.1 with z|z
  ·exact I.ok.noex l o E z
  ·exact absurd (Zt (Zi E) (Zv I.ok.bsz z)) (Iq _)
 have a:∀{o:HO},H l=some o->l≠c:=λ{o} e=>by rintro rfl;rw[d.1]at e;cases e
 cases b with
 |true=>
  rcases h with(h| ⟨o,h⟩)| ⟨o,i,n,h,_⟩
  ·exact a h
  ·exact a h
  ·exact k h
 |false=>
  rcases h with(h| ⟨o,h⟩)| ⟨o,i,n,h,_⟩
  ·exact a h
  ·exact a h
  ·exact k h
theorem xf{t':Nat}(I:Inv X pq σ H s)(k:∀b o,b∉ch->s.heap.get? b=some o->h'.get? b=some o)(a:∀b∈ch,cQ X pq H b):Inv X pq σ H {s with heap:=h',toks:=t'}:=by
 have N:∀b u,H b=some u->b∉ch:=λb u e z=>by rw[(a b z).1]at e;cases e
 refine I.step (λb f=>?_) (λb o _ _ h e _=>k b o h e) (λb o _ _ h e _=>⟨_,k b o h e⟩) (λ_ _ _ _ n=>n)
  (λb o h e=>⟨o,k b o h e⟩) (λ_ _ e=>e) (λ_ _ _ e=>e) (λb P e=>⟨#[],by trivial⟩) (λm g=>?_) (λb u e=>?_) I.bare
 ·obtain⟨_,F,_,l,p,w⟩:=a b f;trivial
 ·obtain⟨o,j,E,i,r⟩:=g;exact⟨o,_,_,k _ o (λz=>(a _ z).2.1 rfl) i,r⟩
 ·refine(I.hok b u e).stay (λc v h q=>k c v ?_ q) (λ_ q=>q) λ_ _ q=>q
  grind
def HL(b B:Bool)(z TI TO I c l1 l2:H7)(i:Nat)(h:Ig):Prop:=Ky h z TI TO .none/\Jf h TI (.ref I) (.ref c)/\(∃a b,Jf h TO a b)/\bo b h I l1 i/\bo B h c l2 i
theorem Dz{P:Ia}{x1}{pos:Pos}(b b':Bool)(z TI TO i1 i2 l1 l2:H7)(n1:TI≠z)(n2:TO≠z)(n3:i1≠z)(n4:i2≠z)(n5:TI≠TO)(n6:TI≠i1)(n7:TI≠i2)(n8:TO≠i1)(n9:TO≠i2)(n10:i1≠i2):
  Turn P w K (.Tuple es x1 pos) (Hc K b b' l1 l2) [z,TI,TO,i1,i2] z (HL b b' z TI TO i1 i2 l1 l2) where
 mem:=by simp
 obj:=λi h ⟨hz,hTI,⟨a,c,hTO⟩,h1,h2⟩ d hd=>by
  simp only[Zj,Zy,or_false]at hd;rcases hd with rfl|rfl|rfl|rfl|rfl
  ·exact⟨_,hz,λv q=>by have q':Data.fields _=Data.cell v:=q;cases q'⟩
  ·exact⟨_,hTI,λv q=>by grind⟩
  ·exact⟨_,hTO,λv q=>by grind⟩
  ·exact h1.obj
  ·exact h2.obj
 keep:=λi h h' ⟨hz,hTI,⟨a,c,hTO⟩,h1,h2⟩ k=>⟨k z (by simp) _ hz,k TI (by simp) _ hTI,⟨a,c,k TO (by simp) _ hTO⟩,h1.at λo e=>k i1 (by simp) o e,h2.at λo e=>k i2 (by simp) o e⟩
 item:=by
  intro X hP hw hK hc i pq s σ H E I hf st hg;subst hP hw hK;obtain⟨hz,hTI,⟨a,c,hTO⟩,h1,h2⟩:=st;obtain⟨xs,ys,x,y,q1,q2,ex,ey⟩:=hg;obtain⟨us,r1,s1⟩:=gT I q1;obtain⟨ws,r2,s2⟩:=gT I q2;obtain⟨u,eu,ru⟩:=r1.get ex;obtain⟨v,ev,rv⟩:=r2.get ey
  have Dp:dq z TI TO i1 i2 l1 l2:=⟨n1,n2,n3,n4,n5,n6,n7,n8,n9,n10,⟨cA I q1 (hf z (by simp)),cA I q1 (hf TO (by simp)),cA I q1 (hf i1 (by simp)),cA I q1 (hf i2 (by simp))⟩,
   ⟨cA I q2 (hf z (by simp)),cA I q2 (hf TO (by simp)),cA I q2 (hf i1 (by simp)),cA I q2 (hf i2 (by simp))⟩⟩
  refine Dw Dp (I.ok.hd hc) hz hTI hTO h1 h2 s1 s2 (x:=u) (y:=v) (by simpa using eu) (by simpa using ev) λh' a1 a2 a3 a4 a5 a6 kk tk=>?_;refine⟨_,rfl,?_⟩;refine wpAny_letOwnedTupleGo_zip (s:={s with heap:=h',toks:=tk}) a1 λh2' b1 sb=>?_;have hTn:H s.heap.objs.size=none:=I.hok.fresh (Zf _)
  have kk2:∀c o,c∉[z,TI,TO,i1,i2]->s.heap.get? c=some o->h2'.get? c=some o:=λc o hc e=>by simp only[Zj,Zy,or_false,not_or]at hc;exact(sb.2 c hc.1).trans (kk c o hc.1 hc.2.2.1 hc.2.2.2.1 hc.2.2.2.2 e)
  have hTz:∀c∈[z,TI,TO,i1,i2],s.heap.objs.size≠c:=λc hc e=>by
   obtain⟨o,q,_⟩:∃o,s.heap.get? c=some o/\True:=by
    simp only[Zj,Zy,or_false]at hc;rcases hc with rfl|rfl|rfl|rfl|rfl
    ·exact⟨_,hz,trivial⟩
    ·exact⟨_,hTI,trivial⟩
    ·exact⟨_,hTO,trivial⟩
    ·exact⟨_,h1.obj.choose_spec.1,trivial⟩
    ·exact⟨_,h2.obj.choose_spec.1,trivial⟩
   exact absurd (Zi q) (by rw[e];exact Iq _)
  have I2:Inv X pq σ (aT H s.heap.objs.size (.tup [x,y])) {s with heap:=h2',toks:=tk}:=by
   have Im:Inv X pq σ (aT H s.heap.objs.size (.tup [x,y])) {s with heap:=s.heap.push {cls:=.type "tuple",data:=.seq #[u,v]},toks:=s.toks}:=
    I.laid (λb o e=>Zb _ e) (Zf _) ⟨by show 2<=sizeLine;decide,[u,v],.cons ru (.cons rv .nil),⟨_,Zg _ rfl,rfl,_,rfl⟩,_,Zg _ rfl,rfl⟩
   refine xf (s:={s with heap:=s.heap.push {cls:=.type "tuple",data:=.seq #[u,v]},toks:=s.toks}) Im (ch:=[z,TI,TO,i1,i2]) (λb o hb e=>?_) λb hb=>?_
   ·rcases Heap.get?_push_cases e with⟨rfl,rfl⟩|e'
    ·exact(sb.2 _ (hTz z (by simp))).trans a5
    ·exact kk2 b o hb e'
   ·obtain⟨f0,f1⟩:=hf b hb;exact⟨by rw[aw (λe=>hTz b hb e.symm)];exact f0,f1⟩
  refine⟨.ref s.heap.objs.size,aT H s.heap.objs.size (.tup [x,y]),I2,rfl,⟨s.heap.objs.size,x,y,rfl,hTn,rfl,λzs hq=>by rw[xb I hq q1];exact ex,λzs hq=>by rw[xb I hq q2];exact ey⟩,
   ⟨b1,(sb.2 TI n1).trans (kk TI _ n1 n5 n6 n7 hTI),⟨u,v,(sb.2 TO n2).trans a2⟩,a3.at λo e=>(sb.2 i1 n3).trans e,a4.at λo e=>(sb.2 i2 n4).trans e⟩,λc hc=>?_⟩
  rw[aw (λe=>hTz c hc e.symm)];exact(hf c hc).1
 done:=by
  intro X hP hw hK hc i pq s σ H E I hf st hg;subst hP hw hK;obtain⟨hz,hTI,⟨a,c,hTO⟩,h1,h2⟩:=st;obtain⟨xs,ys,q1,q2,en⟩:=hg;obtain⟨us,r1,s1⟩:=gT I q1;obtain⟨ws,r2,s2⟩:=gT I q2;have hl1:=r1.length;have hl2:=r2.length
  have Dp:dq z TI TO i1 i2 l1 l2:=⟨n1,n2,n3,n4,n5,n6,n7,n8,n9,n10,⟨cA I q1 (hf z (by simp)),cA I q1 (hf TO (by simp)),cA I q1 (hf i1 (by simp)),cA I q1 (hf i2 (by simp))⟩,
   ⟨cA I q2 (hf z (by simp)),cA I q2 (hf TO (by simp)),cA I q2 (hf i1 (by simp)),cA I q2 (hf i2 (by simp))⟩⟩
  refine Dx Dp (I.ok.hd hc) hz hTI hTO h1 h2 s1 s2 (en.elim (λen=>.inl (by simp;omega)) λen=>.inr (by simp;omega)) λh' tk kk=>?_;refine⟨rfl,xf I (ch:=[z,TI,TO,i1,i2]) (λc o hc e=>?_) hf⟩;simp only[Zj,Zy,or_false,not_or]at hc;exact kk c o hc.1 hc.2.2.1 hc.2.2.2.1 hc.2.2.2.2 e
 self:=λ_ _ _ _ _ st h=>wpAny_pyIter_zip st.1 h
structure cc (K:Fg)(F:La)(μ:La)(H:Hp)(F':La)(μ':La)(H':Hp):Prop where
 tup:∀a vs,bQ K H a vs->bQ K H' a vs
 lst:∀a vs,H a=some (.lst vs)->a∉μ->a∉F->H' a=some (.lst vs)/\a∉μ'/\a∉F'
 frz:∀a vs,qk K H a vs->qk K H' a vs
 box:∀(n:Nat) a,μ[n]?=some a->μ'[n]?=some a
 dct:∀a,H a=some (.dK [])->H' a=some (.dK [])
 ext:∀a φ,H a=some (.ext φ)->a∉F->H' a=some (.ext φ)/\a∉F'
section
variable {F':La}
mutual
theorem Rep.chg(x:cc K F μ H F' μ' H'):∀(d:D) (v:V),Rep K ⟨mg,F⟩ μ H d v->Rep K ⟨mg,F'⟩ μ' H' d v
 | .non,_,h=>h
 | .bl _,_,h=>h
 | .int _,_,h=>h
 | .str _,_,h=>h
 | .tup _,v,h=>by obtain⟨a,vs,e,q,r⟩:=h;exact⟨a,_,e,x.tup a _ q,ag.chg x _ _ r⟩
 | .lst _,v,h=>by obtain⟨a,vs,e,q,n,r⟩:=h;obtain⟨b,f,g⟩:=x.lst a _ q n.1 n.2;exact⟨a,_,e,b,⟨f,g⟩,ag.chg x _ _ r⟩
 | .scr _,v,h=>by obtain⟨a,vs,e,q,r⟩:=h;exact⟨a,_,e,x.frz a _ q,ag.chg x _ _ r⟩
 | .ref n,v,h=>by obtain⟨a,e,q⟩:=h;exact⟨a,e,x.box n a q⟩
 | .fn y,v,h=>h
 | .ty y,v,h=>h
 | .dct,v,h=>by obtain⟨a,e,q⟩:=h;exact⟨a,e,x.dct a q⟩
 | .dks _,v,h=>by obtain⟨a,C,e,q,n,r,k⟩:=h;obtain⟨b,f⟩:=x.ext a _ q n;exact⟨a,_,e,b,f,r,λc i=>x.tup _ _ (k c i)⟩
theorem ag.chg(x:cc K F μ H F' μ' H'):∀(ds:List D) (vs:List V),ag K ⟨mg,F⟩ μ H ds vs->ag K ⟨mg,F'⟩ μ' H' ds vs
 | [],vs,h=>h
 |d::ds,vs,h=>by obtain⟨w,W,e,r,q⟩:=h;exact⟨w,_,e,Rep.chg x d w r,ag.chg x _ _ q⟩
end
theorem aN.chg(x:cc K F μ H F' μ' H')(h:aN K ⟨mg,F⟩ μ H ρ σ):aN K ⟨mg,F'⟩ μ' H' ρ σ:=
 ⟨h.1,λi d e=>let⟨v,a,b⟩:=h.2 i d e;⟨v,a,Rep.chg x _ _ b⟩⟩
theorem cc.start{o:HO}(h:H acc=none):cc K F μ H (acc::F) μ (aT H acc o):=by
 have x:Ext _ H μ (aT H _ o):=.laid h;refine⟨λa vs q=>x.sqT q,λa vs q b c=>⟨(x.lst q b).1,b,λz=>?_⟩,λa vs q=>x.frz q,λn a q=>q,λa q=>x.keep _ _ q (.inl λ_ z=>by trivial),λa d q c=>⟨x.keep _ _ q (.inl λ_ z=>by trivial),λz=>?_⟩⟩
 ·simp_all
 simp_all
noncomputable def gh:HO->Bool
 | .lst _=>HX
 | .ext _=>HX
 |_=>HY
theorem cc.more{u:HO}(d:acc∈F)(h:H acc=some u)(f:gh u=HX):cc K F μ H F μ (aT H acc u'):=by
 have ne:∀{a:H7} {o:HO},H a=some o->gh o=HY->a≠acc:=λe n z=>by simp_all
 refine⟨λa vs q=>?_,λa vs q c b=>⟨?_,c,b⟩,λa vs q=>?_,λn a q=>q,λa q=>?_,λa g q b=>⟨by rw[aw (show a≠acc from λz=>b (by simp_all))];exact q,b⟩⟩
 ·rcases q with(q| ⟨o,q⟩)|q
  ·exact .inl (.inl (by rw[aw (ne q rfl)];exact q))
  ·exact .inl (.inr ⟨o,by rw[aw (ne q rfl)];exact q⟩)
  ·exact .inr q
 ·have:a≠acc:=λz=>by simp_all
  rw[aw this];exact q
 ·rcases q with⟨o,q⟩|q
  ·exact .inl ⟨o,by rw[aw (ne q rfl)];exact q⟩
  ·exact .inr q
 ·rw[aw (ne q rfl)];exact q
theorem cc.out:cc K (acc::F) μ H F μ H:=
 ⟨λ_ _ q=>q,λa vs q b c=>⟨q,b,λz=>c (Zc _ z)⟩,λ_ _ q=>q,λ_ _ q=>q,λ_ q=>q,λ_ _ q h=>⟨q,λz=>h (Zc _ z)⟩⟩
theorem cc.outBox:cc K (acc::F) μ H F (μ++[acc]) H:=by
 refine⟨λ_ _ q=>q,λa vs q c b=>⟨q,λz=>?_,λz=>b (Zc _ z)⟩,λ_ _ q=>q,λn a q=>?_,λ_ q=>q,λ_ _ q h=>⟨q,λz=>h (Zc _ z)⟩⟩
 ·simp_all
 grind
theorem aC.start{o:HO}(s:aC K ⟨mg,F⟩ μ S H)(h:H acc=none):aC K ⟨mg,acc::F⟩ μ S (aT H acc o):=by
 have x:Ext μ H _ (aT H _ o):=.laid h;refine⟨λa b=>?_,s.len,s.nd,λn a D c d=>?_⟩
 ·rcases Zj.mp b with rfl|b
  ·exact⟨o,bI⟩
  ·obtain⟨O,q⟩:=s.live a b;exact x.there a _ q
 ·obtain⟨vs,q,r⟩:=s.at_ n a _ c d;exact⟨_,by rw[aw (bD q h)];exact q,ag.chg (.start h) _ _ r⟩
theorem aC.more{u:HO}(s:aC K ⟨mg,F⟩ μ S H)(d:acc∈F)(i:acc∉μ)(h:H acc=some u)(g:gh u=HX):aC K ⟨mg,F⟩ μ S (aT H acc u'):=by
 refine⟨λa f=>?_,s.len,s.nd,λn a D b c=>?_⟩
 ·by_cases e:a=acc
  ·subst e;exact⟨_,bI⟩
  ·obtain⟨o,q⟩:=s.live a f;exact⟨_,by rw[aw e];exact q⟩
 ·obtain⟨vs,q,r⟩:=s.at_ n a _ b c;have:a≠acc:=λz=>by grind
  exact⟨_,by rw[aw this];exact q,ag.chg (.more d h g) _ _ r⟩
theorem aC.out(s:aC K ⟨mg,acc::F⟩ μ S H):aC K ⟨mg,F⟩ μ S H:=
 ⟨λa c=>s.live a (Zc _ c),s.len,s.nd,λn a d h b=>by obtain⟨vs,q,r⟩:=s.at_ n a _ h b;exact⟨_,q,ag.chg .out _ _ r⟩⟩
theorem aC.outBox{ys:List D}{vs:List V}(s:aC K ⟨mg,acc::F⟩ μ S H)(k:acc∉μ)(h:H acc=some (.lst vs))(r:ag K ⟨mg,acc::F⟩ μ H ys vs):aC K ⟨mg,F⟩ (μ++[acc]) (S++[ys]) H:=by
 refine⟨λa e=>s.live a (Zc _ e),by simp[s.len],?_,λn a i c d=>?_⟩
 ·rw[Jl];exact⟨s.nd,by simp,λa e b j=>by grind⟩
 ·have f:=s.len;by_cases g:n<μ.length
  ·rw[Iz g]at c;rw[Iz (by omega)]at d;obtain⟨w,q,R⟩:=s.at_ n a _ c d;exact⟨_,q,ag.chg .outBox _ _ R⟩
  ·have E:n=μ.length:=by grind
   subst E;simp[f]at c d;subst c;subst d;exact⟨_,h,ag.chg .outBox _ _ r⟩
theorem Ext.more{o:HO}(x:Ext μ H μ1 H1)(h:H acc=none):Ext μ H μ1 (aT H1 acc o):=
 ⟨x.pre,λa u e c=>by rw[aw (bD e h)];exact x.keep a u e c,λa u e=>by rw[aw (bD e h)];exact x.there a u e,x.fresh⟩
theorem Ext.outBox(x:Ext μ H μ1 H1)(h:H acc=none):Ext μ H (μ1++[acc]) H1:=by
 obtain⟨r,e⟩:=x.pre;refine⟨⟨r++[acc],by simp_all⟩,x.keep,x.there,λa b=>?_⟩;rcases ZK.mp b with b|b
 ·exact x.fresh a b
 simp_all
end
noncomputable def aP:gJ->ae->Nat->Option (Option D)
 | .items xs=>λ_ i=>some xs[i]?
 | .live _ get=>get
def eT(K:Fg)(m:GS)(J:It)(get:ae->Nat->Option (Option D))(μ:La)(H:Hp):Prop:=
 ∀(i:Nat) μ' S' H' F',cc K m.F μ H F' μ' H'->aC K ⟨m.mg,F'⟩ μ' S' H'->
  (∀x,get S' i=some (some x)->J.go i H'/\∀y H'',J.yld i H' y H''->Ext μ' H' μ' H''/\aC K ⟨m.mg,F'⟩ μ' S' H''/\Rep K ⟨m.mg,F'⟩ μ' H'' x y)/\(get S' i=some none->J.stop i H')
noncomputable def tI(K:Fg)(m:Mg)(E:XK)(Φ:FT)(Γ:Str->Option D)(c:CE):TI:=λσ H R=>∃F μ ρ S,aC K ⟨m,F⟩ μ S H/\aN K ⟨m,F⟩ μ H ρ σ/\ai K ⟨m,F⟩ E (λμ' H' its J=>eT K ⟨m,F⟩ J (aP its) μ' H') μ H R (aU Φ Γ c ρ S)
theorem cc.refl:cc K F μ H F μ H:=⟨λ_ _ q=>q,λ_ _ q a b=>⟨q,a,b⟩,λ_ _ q=>q,λ_ _ q=>q,λ_ q=>q,λ_ _ q h=>⟨q,h⟩⟩
theorem cc.trans{d e c:La}{f:Hp}(a:cc K F μ H d μ1 H1)(b:cc K d μ1 H1 e c f):cc K F μ H e c f:=
 ⟨λx vs q=>b.tup x _ (a.tup x _ q),λx vs q g i=>by obtain⟨p,P,j⟩:=a.lst x _ q g i;exact b.lst x _ p P j,λx vs q=>b.frz x _ (a.frz x _ q),λn x q=>b.box n x (a.box n x q),λx q=>b.dct x (a.dct x q),λx k q h=>by obtain⟨p,P⟩:=a.ext x _ q h;exact b.ext x _ p P⟩
theorem cc.of_ext{b:La}(x:Ext μ H μ' H')(d:∀a∈b,a∈F\/H a=none):cc K F μ H b μ' H':=by
 refine⟨λa vs q=>x.sqT q,λa vs q c h=>⟨(x.lst q c).1,(x.lst q c).2,λz=>?_⟩,λa vs q=>x.frz q,λn a q=>x.get q,λa q=>x.keep _ _ q (.inl λ_ z=>by lia),λa e q h=>⟨x.keep _ _ q (.inl λ_ z=>by lia),λz=>?_⟩⟩<;>rcases d a z with z|z
 ·exact h z
 ·simp_all
 ·exact h z
 simp_all
section
variable {E:XK}{l:Expr}{pos:Pos}{c:CE}
theorem qT{xs:List V}(I:Inv X pq σ H s)(c:cP X.K H a xs)(q:R (A7 X.K a) H):wpAny (model X.prog X.w) X.A (pyIter (.ref a)) (A6 X pq σ tg R) E' s:=by
 obtain⟨i,r,p,d⟩:=I.list c;refine I' p.isList ?_;refine⟨_,_,_,_,H,rfl,I.kept λb o e=>Zb _ e,BD a _,⟨_,Zg _ rfl,rfl,rfl⟩,λb h=>?_,q⟩;have e:=by simpa using h
 subst e;exact I.fpOk (Zf _) (I.hok.fresh (Zf _))
theorem DA{xs:List V}(I:Inv X pq σ H s)(c:bQ X.K H a xs)(q:R (BC X.K a) H):wpAny (model X.prog X.w) X.A (pyIter (.ref a)) (A6 X pq σ tg R) E' s:=by
 obtain⟨i,r,p,d⟩:=I.tuple c;refine IY (show s.heap.IsTuple a _ from p) ?_;refine⟨_,_,_,_,H,rfl,I.kept λb o e=>Zb _ e,BE a _,⟨_,Zg _ rfl,rfl,rfl⟩,λb h=>?_,q⟩;have e:=by simpa using h
 subst e;exact I.fpOk (Zf _) (I.hok.fresh (Zf _))
theorem xg{m:GS}{vs:List V}{i:Nat}(r:ag K m μ H ds vs)(h:aP (.items ds) S i=some none):vs.length<=i:=by have a:=Jw.mp (by simpa[aP]using h);have b:=r.length;simp_all
theorem xh{m:GS}{vs:List V}(h:∀F' μ' H',cc K m.F μ H F' μ' H'->cP K H' a vs)(r:ag K m μ H ds vs):eT K m (A7 K a) (aP (.items ds)) μ H:=by
 intro i μ' S H' F' c s;have l:=r.length;refine⟨λy b=>?_,λk=>⟨vs,h _ _ _ c,xg r k⟩⟩;have b:ds[i]?=some y:=by simpa[aP]using b
 obtain⟨v,f,j⟩:=r.get b;refine⟨⟨vs,v,h _ _ _ c,f⟩,λz g d=>?_⟩;obtain⟨rfl,d⟩:=d;have e:=d vs (h _ _ _ c);rw[f]at e;cases e;exact⟨.refl,s,Rep.chg c _ _ j⟩
theorem DB{m:GS}{vs:List V}(h:bQ K H a vs)(r:ag K m μ H ds vs):eT K m (BC K a) (aP (.items ds)) μ H:=by intro i l S n F c s;refine⟨λy k=>?_,λj=>⟨_,c.tup _ _ h,xg r j⟩⟩;obtain⟨v,d,g⟩:=r.get (by simpa[aP]using k);refine⟨⟨_,v,c.tup _ _ h,d⟩,λz f b=>?_⟩;obtain⟨rfl,b⟩:=b;have e:=b _ (c.tup _ _ h);rw[d]at e;cases e;exact⟨.refl,s,Rep.chg c _ _ g⟩
theorem DC{M:GS}(g:μ[n]?=some a):eT K M (A7 K a) (lj n) μ H:=by
 intro i o S p F C s;have f:n<S.length:=by rw[<-s.len];exact(Zm.mp (C.box _ _ g)).1
 have j:=Zh f;obtain⟨vs,b,r⟩:=s.at_ n a _ (C.box _ _ g) j;have f:=r.length;refine⟨λy h=>?_,λm=>⟨_,.of b,?_⟩⟩
 ·unfold lj at h;rw[j]at h;simp at h;obtain⟨v,d,l⟩:=r.get h;refine⟨⟨_,v,.of b,d⟩,λz k c=>?_⟩;obtain⟨rfl,c⟩:=c;have e:=c _ (.of b);rw[d]at e;cases e;exact⟨.refl,s,l⟩
 ·unfold lj at m;simp_all
theorem xi(x:PE X l (tE X.K X.mg E Φ Γ c)):PI X tg l (tI X.K X.mg E Φ Γ (.seq c)):=by
 intro P s J H R I h;obtain⟨F,B,G,S,z,q,w⟩:=h;refine aK (x _ s _ H _ I ⟨F,_,_,S,z,q,ai.bind w⟩) λu A ⟨v,_,g,j,_,p,d,_,b,i,W⟩=>?_;cases d with
 |tup D=>obtain⟨a,vs,rfl,e,r⟩:=bz i;subst j;exact DA g e (W _ _ _ .refl b (DB e r))
 |lst D=>obtain⟨a,vs,rfl,e,f,r⟩:=i;subst j;exact qT g (.of e) (W _ _ _ .refl b (xh (λm k o C=>.of (C.lst a _ e f.1 f.2).1) r))
 |scr D=>obtain⟨a,vs,rfl,e,r⟩:=i;cases j;exact qT g e.sq (W _ _ _ .refl b (xh (λm k o C=>(C.frz a _ e).sq) r))
 |ref n=>
  obtain⟨a,rfl,f⟩:=i;subst j;have y:n<p.length:=by rw[<-b.len];grind
  obtain⟨vs,t,r⟩:=b.at_ n a _ f (Zh y);exact qT g (.of t) (W _ _ _ .refl b (DC f))
 |_=>exact W.elim
theorem xj(l:Int)(n:Nat):(cW l n).length=n:=by
 induction n generalizing l with
 |zero=>rfl
 |succ n i=>unfold cW;simp_all
theorem DD(l:Int)(n i:Nat)(h:i<n):(cW l n)[i]?=some (.int (l+i)):=by
 induction n generalizing l i with
 |zero=>simp_all
 |succ n I=>
  dsimp[cW]
  grind
theorem xk{m:GS}(l:Int)(n:Nat):eT K m (uO l n) (aP (.items (cW l n))) μ H:=by
 intro i d S e F C s;refine⟨λy h=>?_,λa=>?_⟩
 ·have h:=by simpa[aP]using h
  have a:=by have:=(Zm.mp h).1;rwa [xj]at this
  rw[DD _ n i a]at h;cases h;refine⟨a,λz b c=>?_⟩;obtain⟨rfl,rfl⟩:=c;exact⟨.refl,s,bA⟩
 ·have:(cW l n)[i]?=none:=by simpa[aP]using a
  have:=Jw.mp this;rw[xj]at this;exact this
variable {cs:List CE}{a b:CE}{r:Expr}
theorem iW{m:GS}{Q:List V->Hp->Prop}(w:ai K m E (ag K m) μ H Q (aj Φ Γ cs ρ S)):ai K m E (ag K m) μ H (λvs H'=>vs.length=cs.length/\Q vs H') (aj Φ Γ cs ρ S):=by
 cases e:aj _ _ _ _ S with
 |ok d a=>rw[e]at w;intro b H' vs x s r;refine⟨?_,w _ _ _ x s r⟩;rw[<-r.length,qO e]
 |err y a=>rw[e]at w;exact w
 |fail=>rw[e]at w;exact w
theorem DE(O:cq X cell N sc CX E Φ Γ k)(h:a_ sc "range"=HX)(i:bK l=HX)(g:cs.length=1)(f:PA X [l] (tL X.K X.mg E Φ Γ cs)):PI X tg (.Call (.Name "range" p2) [l] [] pos) (tI X.K X.mg E Φ Γ (.range cs)):=by
 obtain⟨d,_,_⟩:=cZ h;intro p s u H R I ⟨F,q,t,S,o,e,w⟩;refine BG (O.gl d) (O.mod.bl _ (by decide+kernel)) f (by rw[cr i];rfl) p s u H R I ⟨F,q,t,S,o,e,(iW (ai.bind w)).mono λvs H1 ⟨y,b,x,D,z,n,r,W⟩=>?_⟩;have a:=r.length;split at W
 ·rename_i j;split at W
  ·rename_i c;obtain⟨v,rfl,m⟩:=r.one;cases ax m;exact⟨j,rfl,c.1,c.2,W b H1 _ .refl n (xk 0 j.toNat)⟩
  ·exact W.elim
 ·simp only[Zp,ZW]at a;omega
 ·exact W.elim
theorem DF(O:cq X cell N sc CX E Φ Γ k)(h:a_ sc "range"=HX)(p:bK l=HX)(a:bK r=HX)(n:cs.length=2)(m:PA X [l,r] (tL X.K X.mg E Φ Γ cs)):PI X tg (.Call (.Name "range" p2) [l,r] [] pos) (tI X.K X.mg E Φ Γ (.range cs)):=by
 obtain⟨g,_,_⟩:=cZ h;intro P s z H R I ⟨F,x,y,S,u,f,w⟩;refine BH (O.gl g) (O.mod.bl _ (by decide+kernel)) m (by rw[cr p,cr a];rfl) (by rw[cr a];rfl) P s z H R I ⟨F,x,y,S,u,f,(iW (ai.bind w)).mono λvs H1 ⟨B,d,A,D,C,t,e,W⟩=>?_⟩;have b:=e.length;split at W
 ·simp only[Zp,ZW]at b;omega
 ·rename_i i j;split at W
  ·rename_i o;obtain⟨v,V,rfl,q,c⟩:=e.two;cases ax q;cases ax c;exact⟨i,j,rfl,o,W d H1 _ .refl t (xk i (j-i).toNat)⟩
  ·exact W.elim
 ·exact W.elim
theorem xl{m:GS}(s:aC K m μ S H)(r:Rep K m μ H d v)(e:aA S d=some xs):∃a,v=.ref a/\
  ∀μ' S' H' F',cc K m.F μ H F' μ' H'->aC K ⟨m.mg,F'⟩ μ' S' H'->∃ys vs,aA S' d=some ys/\gS (dW d) K H' a vs/\ag K ⟨m.mg,F'⟩ μ' H' ys vs:=by
 cases d with
 |tup D=>obtain⟨a,vs,rfl,b,q⟩:=bz r;exact⟨a,rfl,λμ' S' H' F' c f=>⟨_,_,rfl,c.tup _ _ b,ag.chg c _ _ q⟩⟩
 |lst D=>obtain⟨a,vs,rfl,b,h,q⟩:=r;exact⟨a,rfl,λμ' S' H' F' c f=>⟨_,_,rfl,cP.of (c.lst a _ b h.1 h.2).1,ag.chg c _ _ q⟩⟩
 |scr D=>obtain⟨a,vs,rfl,b,q⟩:=r;exact⟨a,rfl,λμ' S' H' F' c f=>⟨_,_,rfl,(c.frz a _ b).sq,ag.chg c _ _ q⟩⟩
 |ref n=>
  obtain⟨a,rfl,h⟩:=r;refine⟨a,rfl,λμ' S' H' F' c f=>?_⟩;have i:n<S'.length:=by rw[<-f.len];exact(Zm.mp (c.box _ _ h)).1
  obtain⟨vs,g,q⟩:=f.at_ n a _ (c.box _ _ h) (Zh _);exact⟨_,_,Zh i,cP.of g,q⟩
 |_=>cases e
theorem lE(h:ll d=some xs)(S:ae):aA S d=some xs:=by unfold ll at h;split at h<;>first|exact h|cases h
theorem DG{e:D}{I:gJ}(h:dz S d e=some I):(∃xs ys,aA S d=some xs/\aA S e=some ys)/\∀S' i,(∃xs ys,aA S' d=some xs/\aA S' e=some ys)->aP I S' i=lm d e S' i:=by
 unfold dz at h;split at h
 ·rename_i xs ys E a;cases h;refine⟨⟨_,_,lE E S,lE a S⟩,λS' i _=>?_⟩;show some _=_;unfold lm;simp only[lE E _,lE a _]
  grind
 ·split at h
  ·rename_i xs ys E a;cases h;exact⟨⟨_,_,E,a⟩,λS' i _=>rfl⟩
  ·cases h
theorem DH{m:GS}{e:D}{u:V}{I:gJ}(j:aC K m μ S H)(rd:Rep K m μ H d v)(re:Rep K m μ H e u)(h:dz S d e=some I):
  ∃a b,v=.ref a/\u=.ref b/\(∃vs,gS (dW d) K H a vs)/\(∃vs,gS (dW e) K H b vs)/\eT K m (Hc K (dW d) (dW e) a b) (aP I) μ H:=by
 obtain⟨⟨xs,ys,P,U⟩,W⟩:=DG h;obtain⟨a,rfl,G⟩:=xl j rd P;obtain⟨b,rfl,J⟩:=xl j re U;obtain⟨_,va,_,Z,_⟩:=G μ S H m.F .refl j;obtain⟨_,vb,_,qb,_⟩:=J μ S H m.F .refl j;refine⟨a,b,rfl,rfl,⟨va,Z⟩,⟨vb,qb⟩,λi f k n F C s=>?_⟩;obtain⟨x,vs,r,Q,R⟩:=G f k n F C s;obtain⟨Y,w,t,l,L⟩:=J f k n F C s;rw[W k i ⟨x,Y,r,t⟩];unfold lm;rw[r,t];have l1:=R.length;have l2:=L.length;refine⟨λy c=>?_,λc=>⟨vs,w,Q,l,?_⟩⟩
 ·have c:=JI c;cases g1:x[i]? with
  |none=>rw[g1]at c;cases c
  |some p=>
   cases g2:Y[i]? with
   |none=>rw[g1,g2]at c;cases c
   |some q=>rw[g1,g2]at c;cases c;obtain⟨M,A,rp⟩:=R.get g1;obtain⟨N,B,rq⟩:=L.get g2;refine⟨⟨vs,w,M,N,Q,l,A,B⟩,λz O X=>?_⟩;obtain⟨T,x',y',rfl,g,rfl,z1,z2⟩:=X;have E:=z1 vs Q;rw[A]at E;cases E;have o:=z2 w l;rw[B]at o;cases o;refine⟨.laid g,s.laid g,?_⟩;unfold Rep;exact⟨T,[M,N],rfl,bQ.of bI,.cons (Rep.mono (.laid g) _ _ rp) (.cons (Rep.mono (.laid g) _ _ rq) .nil)⟩
 grind
theorem ut{i j:Nat}(h:i≠j):n+i≠n+j:=λe=>h (MM e)
theorem qU{j:Nat}(h:0≠j):n≠n+j:=λe=>h (MM (n:=n) (by lia))
theorem o7{j:Nat}(h:0≠j):n+j≠n:=λe=>qU h e.symm
theorem DI:bootBuiltins "zip"=some (.type "zip"):=by decide+kernel
theorem xm(O:cq X cell N sc CX E Φ Γ k)(h:a_ sc "zip"=HX)(L:eA tg=HX)(K:bK l=HX)(n:bK r=HX)(J:PA X [l,r] (tL X.K X.mg E Φ Γ cs)):PI X tg (.Call (.Name "zip" p2) [l,r] [] pos) (tI X.K X.mg E Φ Γ (.zip cs)):=by
 obtain⟨G,_,_⟩:=cZ h;intro P s y H R I ⟨F,μ,ρ,S,sk,C,w⟩;refine Call_ (e8 I (O.gl G) (O.mod.bl _ (by decide+kernel)) DI (IG (aK (J pos P s y H _ I ⟨F,μ,ρ,S,sk,C,ai.bind w⟩) λus f ⟨vs,H1,g,rv,o,B,ds,x1,j,Z,W⟩=>?_) (cr K) (by rw[cr n];rfl)));split at W
 ·rename_i d e;obtain⟨v,u,rfl,rd,re⟩:=Z.two;cases m:dz B d e with
  |none=>rw[m]at W;exact W.elim
  |some M=>
   rw[m]at W;obtain⟨a,b,rfl,rfl,⟨va,V⟩,⟨vb,Y⟩,ok⟩:=DH j rd re m;cases rv with
   |cons p q=>
    cases q with
    |cons T U=>
     cases U;cases p;cases T;obtain⟨as,ra,sa⟩:=gT g V;obtain⟨bs,rb,sb⟩:=gT g Y;refine Dy sa sb λD z z2 z3 z4 z5 z6 Q=>?_;refine wpAny_pyIter_zip z ?_;have A:Inv X P y H1 {f with heap:=D}:=g.kept (t':=f.toks) Q;cases tg with
     |Tuple ts x1 tp=>
      refine⟨f.heap.objs.size+4,[f.heap.objs.size+4,f.heap.objs.size+2,f.heap.objs.size+3,f.heap.objs.size,f.heap.objs.size+1],_,_,H1,rfl,A,
       Dz (dW d) (dW e) (f.heap.objs.size+4) (f.heap.objs.size+2) (f.heap.objs.size+3) f.heap.objs.size (f.heap.objs.size+1) a b (ut (by decide)) (ut (by decide)) (qU (by decide)) (ut (by decide)) (ut (by decide)) (o7 (by decide)) (ut (by decide)) (o7 (by decide)) (ut (by decide)) (qU (by decide)),⟨z,z2,⟨_,_,z3⟩,z4,z5⟩,λc t=>?_,W o H1 _ .refl j ok⟩
      have i:f.heap.objs.size<=c:=by
       simp only[Zj,Zy,or_false]at t;rcases t with rfl|rfl|rfl|rfl|rfl
       ·exact Kt _ _
       ·exact Kt _ _
       ·exact Kt _ _
       ·exact Zf _
       ·exact Kt _ _
      exact g.fpOk i (g.hok.fresh i)
     |_=>cases L
 ·exact W.elim
end
noncomputable def dZ(i:Lx)(env:Env):Sem Bool:=forIn i HX (λc r=>if r=HX then do let ok <-isTrue c env (eval c env);pure (Iw ok)else pure (Iw r))
noncomputable def a8(c:Expr)(e:Sem Unit)(g:List Ir)(d:Nat)(a:H8)(env:Env):Sem Unit:=match g[d+1]? with
 |some g'=>do
   let x <-eval g'.iter env
   standAt g'.iter.pos
   let x <-if g'.is_async !=0 then foldedIterable g'.iter x else foldedSetIterable g'.iter env x
   let _ <-runOwn (.compStart c (d+1) (<-holding [x] (if g'.is_async !=0 then asyncIter x else pyIter x)) a env) env
 |none=>e
noncomputable def qV(e:Expr)(a:H8)(env:Env):Sem Unit:=do let _ <-call (.builtin "list.append") [a,<-eval e env]
theorem DJ{C:Expr}{e:Sem Unit}{d:Nat}{it a:H8}{env:Env}{t i:Expr}{fs:Lx}(h:gens[d]?=some ⟨t,i,fs,0⟩):
  (do
    let some g:=gens[d]? |unsupported "internal:comprehension-depth"
    standAt (if g.is_async !=0 then C.pos else g.iter.pos)
    match <-if g.is_async !=0 then asyncNext it else pyNext it with
    |none=>pure (.done .next)
    |some v=>
     letOwnedTupleGo g.target it v
     assign g.target env v
     let mut ok:=HX
     for c in g.ifs do
      if ok then ok <-isTrue c env (eval c env)
     if ok then
      match gens[d+1]? with
      |some g'=>
       let x <-eval g'.iter env
       standAt g'.iter.pos
       let x <-if g'.is_async !=0 then foldedIterable g'.iter x else foldedSetIterable g'.iter env x
       let _ <-runOwn (.compStart C (d+1) (<-holding [x] (if g'.is_async !=0 then asyncIter x else pyIter x)) a env) env
      |none=>e
     again (.compLoop C d it a env):Sem Fin)=(standAt i.pos>>=λ_=>pyNext it>>=λr=>match r with
   |none=>pure (.done .next)
   |some v=>letOwnedTupleGo t it v>>=λ_=>assign t env v>>=λ_=>(dZ fs env>>=λok=>if ok=HX then a8 C e gens d a env else pure ())>>=λ_=>
    again (.compLoop C d it a env)):=by
 simp only[h];show(standAt i.pos>>=λ_=>pyNext it>>=_)=_;congr 1;funext _;congr 1;funext r;cases r with
 |none=>rfl
 |some v=>
  show(letOwnedTupleGo t it v>>=λ_=>assign t env v>>=λ_=>_>>=λok=>_)=_;congr 1;funext _;congr 1;funext _
  conv=>rhs;rw[bind_assoc]
  unfold dZ;refine congrArg (λk=>_>>=k) (funext λok=>?_);cases ok with
  |true=>
   unfold a8;cases gens[d+1]? with
   |none=>rfl
   |some g'=>
    by_cases H:(g'.is_async !=0)=HX
    ·simp_all
    simp_all
  |false=>simp_all
section
variable {em:Sem Unit}{d:Nat}
theorem lF{fs:Lx}{ts:List TT}{t:TU}(e:vX X fs ts)(c:PB X (a8 ce em gens d (.ref acc) X.env) t):
  PB X (dZ fs X.env>>=λok=>if ok=HX then a8 ce em gens d (.ref acc) X.env else pure ()) (v9 ts t):=by
 intro p s f H Q I h;refine Za (aK (vZ _ _ e _ s _ H _ I h) λb S ⟨_,a,q⟩=>?_);cases b with
 |false=>exact Zd ⟨_,_,a,q⟩
 |true=>exact c _ _ _ _ Q a q
theorem lH(g:gens[d+1]?=none)(f:PE X elt te):PB X (a8 ce (qV elt (.ref acc) X.env) gens d (.ref acc) X.env) (v8 acc te):=by intro p s l H Q I h;unfold a8;rw[g];exact Za (aK (f _ s _ H _ I h) λu S ⟨v,_,b,r,_,e,i,q⟩=>Za (aK (vr _ _ _ _ (.ref _) _ _ _ (λ_ a=>Q _ a) b rfl (.cons r .nil) ⟨_,_,v,rfl,rfl,e,i,q⟩) λ_ k ⟨_,_,c,_,j⟩=>Zd ⟨_,_,c,j⟩))
theorem DK{t i:Expr}{fs:Lx}{tb:TU}(c:gI ce=HX)(k:clausesOf ce=gens)(m:∀it:H7,compTurn ce (d+1) (.ref it) (.ref acc) X.env=(standAt i.pos>>=λ_=>pyNext (.ref it)>>=λr=>match r with
   |none=>pure (.done .next)
   |some v=>letOwnedTupleGo t (.ref it) v>>=λ_=>assign t X.env v>>=λ_=>(dZ fs X.env>>=λok=>if ok=HX then a8 ce em gens (d+1) (.ref acc) X.env else pure ())>>=λ_=>again (.compLoop ce (d+1) (.ref it) (.ref acc) X.env))) (D:X.xe=λ_ _=>False) (B:X.calm=HX) (o:gens[d+1]?=some ⟨t,i,fs,0⟩) (C:PI X t i wi) (hs:∀x,foldedSetIterable i X.env x=pure x) (n:PG X t g)
  (A:PB X (dZ fs X.env>>=λok=>if ok=HX then a8 ce em gens (d+1) (.ref acc) X.env else pure ()) tb):PB X (a8 ce em gens d (.ref acc) X.env) (qA wi g tb):=by
 intro p s K H Q I h;unfold a8;rw[o];show wpAny _ _ (eval i X.env>>=λx=>standAt i.pos>>=λ_=>foldedSetIterable i X.env x>>=λx=>holding [x] (pyIter x)>>=λit=>runOwn (.compStart ce (d+1) it (.ref acc) X.env) X.env>>=λ_=>pure ()) _ _ s;refine Za (aK (C p s K H _ I h) λv N y=>Za (Kz (Za ?_)));rw[hs];refine Zd (Za (ZE (aK y λE G z=>Za ?_)));obtain⟨it,M,O,J,L,e,w,T,j,F,W⟩:=z;subst e
 have l:codeAny (model X.prog X.w) X.A (.compLoop ce (d+1) (.ref it) (.ref acc) X.env) (λr S=>match r with
   | .ok f=>∃a b,Inv X p a b S/\Q a b
   | .error e=>cameBackBy (model X.prog X.w) X.A X.env X.xe e S) G:=
  vV (Fin:=Q) c D B (m it) T n A w j F W λS a b u _ q=>⟨a,b,u,q⟩
 refine wpAny_runOwn (h:=none) ?_
 refine JU (R:=λr S=>match r with
   | .ok f=>∃a b,Inv X p a b S/\Q a b
   | .error e=>cameBackBy (model X.prog X.w) X.A X.env X.xe e S) (vW c (by rw[k];exact o) l (T.self _ 0 _ _ _ j l)) λr S q=>?_
 cases r with
 |ok f=>exact Zd q
 |error e=>exact q
end
noncomputable def Bc:List CT->oO
 | []=>uM
 |t::ts=>match t with
  | .var i=>oP (du i) (Bc ts)
  | .tup _=>λ_ _ _ _=>False
noncomputable def o8(K:Fg):CT->TG
 | .var i=>du i
 | .tup ts=>uN K ts.length (Bc ts)
section
variable {E:XK}
theorem o9(O:cq X cell N sc CX E Φ Γ k){i:Nat}{p:Pos}(h:oY cell N sc (.var i)=HX):PG X (.Name (N.getD i "") p) (du i):=by
 have H:=(aa h).1;have a:=(aa h).2;generalize N.getD i _=x at H a;simp at H a
 have b:L2.Loc X.env.scope x:=by unfold L2.Loc;rw[O.sc];lia
 refine ka (by rw[O.n];exact O.nd) (by rw[O.n];exact H) b ?_;rcases a with z|z
 ·exact .inr (by rw[O.sc];exact z)
 ·exact .inl (O.fn x z.1)
theorem qW{env:Env}:∀{ts:List CT} {es:Lx},((assignEach (fU ts N es) env).length=ts.length/\(assignEach (fU ts N es) env).findIdx? (·.1)=none)
 | [],_=>⟨rfl,rfl⟩
 |t::ts,es=>by
  have i:=qW (env:=env) (ts:=ts) (es:=es.tail);have e:assignEach (fU (t::ts) N es) env=(HY,assign (gO t N (es.headD dE)) env)::assignEach (fU ts N es.tail) env:=by cases t<;>rfl
  rw[e];exact⟨by rw[Zp,i.1,Zp],by rw[List.findIdx?_cons,i.2];rfl⟩
theorem o_(O:cq X cell N sc CX E Φ Γ k):∀{ts:List CT} {es:Lx},qJ cell N sc ts=HX->uL X (fU ts N es) (Bc ts)
 | [],es,h=>kb
 |t::ts,es,h=>by
  cases t with
  |tup _=>exact λ_ _ _ _ _ _ _ _ _ z=>z.elim
  |var i=>exact BA (o9 O (aa h).1) (o_ O (aa h).2)
theorem iX(O:cq X cell N sc CX E Φ Γ k){t:CT}(h:oY cell N sc t=HX):PG X (gO t N e) (o8 X.K t):=by
 cases t with
 |var i=>exact o9 O h
 |tup T=>exact pN O.calm (o_ O h) qW.1 qW.2
theorem pc{F μ:La}{H:Hp}{K:Fg}{m:Mg}{ρ':bu}{Q:L2.St->Hp->Prop}:∀{ts:List CT} {ds:List D} {vs:List V} {ρ:bu} {σ:L2.St},cj ts ds ρ=some ρ'->ag K ⟨m,F⟩ μ H ds vs->aN K ⟨m,F⟩ μ H ρ σ->(∀σ',aN K ⟨m,F⟩ μ H ρ' σ'->Q σ' H)->Bc ts vs σ H Q
 | [],ds,vs,ρ,σ,h,r,e,q=>by
  cases ds with
  |nil=>cases h;exact⟨r,q _ e⟩
  |cons _ _=>cases h
 |t::ts,ds,vs,ρ,σ,h,r,e,q=>by
  cases t with
  |tup _=>cases h
  |var i=>
   cases ds with
   |nil=>cases h
   |cons d ds=>obtain⟨v,w,rfl,R,a⟩:=r.uncons;exact⟨v,w,rfl,pc h a (e.set R) q⟩
theorem qX{ρ':bu}:∀{ts:List CT} {ds:List D} {ρ:bu},cj ts ds ρ=some ρ'->ts.length=ds.length/\ρ'.length=ρ.length
 | [],ds,ρ,h=>by
  cases ds with
  |nil=>cases h;exact⟨rfl,rfl⟩
  |cons _ _=>cases h
 |t::ts,ds,ρ,h=>by
  cases t with
  |tup _=>cases h
  |var i=>
   cases ds with
   |nil=>cases h
   |cons d ds=>have:=qX (ts:=ts) h;exact⟨congrArg Nat.succ this.1,by rw[this.2,List.length_set]⟩
theorem xn{ρ':bu}{j:Nat}:∀{ts:List CT} {ds:List D} {ρ:bu},cj ts ds ρ=some ρ'->(∀i∈fk ts,i≠j)->ρ'[j]?=ρ[j]?
 | [],ds,ρ,h,H=>by
  cases ds with
  |nil=>cases h;rfl
  |cons _ _=>cases h
 |t::ts,ds,ρ,h,H=>by
  cases t with
  |tup _=>cases h
  |var i=>
   cases ds with
   |nil=>cases h
   |cons d ds=>rw[xn (ts:=ts) h λk a=>H k (Zc _ a),IF (H i Ze)]
theorem qY{Q:L2.St->Hp->Prop}{t:CT}(h:aQ t d ρ=some ρ')(r:Rep K ⟨mg,F⟩ μ H d v)(e:aN K ⟨mg,F⟩ μ H ρ σ)
  (q:∀σ',aN K ⟨mg,F⟩ μ H ρ' σ'->Q σ' H):o8 K t v σ H Q:=by
 cases t with
 |var i=>cases h;exact q _ (e.set r)
 |tup T=>
  cases d with
  |tup D=>obtain⟨a,vs,rfl,b,R⟩:=bz r;exact⟨a,_,rfl,b,by rw[<-R.length];exact(qX h).1.symm,pc h R e q⟩
  |_=>cases h
end
theorem DL{l:List Nat}{i:Nat}(h:dw ρ l=HX)(H:i∈l):ρ[i]?=some none:=by
 dsimp only[dw]at h
 grind
theorem lI{t:CT}(h:aQ t d ρ=some ρ'):ρ'.length=ρ.length/\∀j,(∀i∈slots t,i≠j)->ρ'[j]?=ρ[j]? :=by
 cases t with
 |var i=>cases h;exact⟨List.length_set,λj H=>IF (H i Ze)⟩
 |tup T=>
  cases d with
  |tup D=>exact⟨(qX h).2,λj H=>xn h H⟩
  |_=>cases h
theorem DM{m:GS}{t:CT}(h:br t d ρ=some ρ')(E:aN K m μ H ρ' σ):aN K m μ H ρ σ:=by
 unfold br at h;by_cases a:dw ρ (slots t)=HX
 ·rw[if_pos a]at h;have g:=lI h;refine⟨by rw[<-E.1,g.1],λj D e=>E.2 j _ ?_⟩;rw[g.2 j λi b z=>by subst z;rw[DL a b]at e;cases e];exact e
 simp_all
theorem DN{t:CT}(h:br t d ρ=some ρ'):aQ t d ρ=some ρ':=by unfold br at h;simp_all
structure fx (K:Fg)(mg:Mg)(F:La)(acc:H7)(O:List D->List V->HO->Prop)(B:La->Hp->Prop)(μ0:La)(H0:Hp)(μ:La)(S:ae)(H:Hp)(ρ:bu)(σ:L2.St)(ds:List D)(vs:List V):Prop where
 n0:H0 acc=none
 ext:Ext μ0 H0 μ H
 sok:aC K ⟨mg,acc::F⟩ μ S H
 nin:acc∉μ
 env:aN K ⟨mg,acc::F⟩ μ H ρ σ
 at_:∃o,H acc=some o/\O ds vs o
 rep:ag K ⟨mg,acc::F⟩ μ H ds vs
 b:B μ H
def gU(K:Fg)(F:La)(B:La->Hp->Prop):Prop:=∀μ H μ1 H1,B μ H->cc K F μ H F μ1 H1->B μ1 H1
noncomputable def c0(K:Fg)(m:Mg)(F:La)(a:H7)(O:List D->List V->HO->Prop)(B:La->Hp->Prop)(b:La)(H:Hp)(ρ:bu)(Q:L2.St->Hp->Prop):Res (List D)->Prop
 | .ok d S'=>∀μ' H' σ' v,fx K m F a O B b H μ' S' H' ρ σ' d v->Q σ' H'
 |_=>False
noncomputable def tB(K:Fg)(m:Mg)(O:H7->List D->List V->HO->Prop)(Φ:FT)(Γ:Str->Option D)(c:CE)(a:H7):TU:=λσ H Q=>∃F B μ0 H0 μ ρ S ds vs,gU K (a::F) B/\fx K m F a (O a) B μ0 H0 μ S H ρ σ ds vs/\c0 K m F a (O a) B μ0 H0 ρ Q (bN Φ Γ c ρ ds S)
noncomputable def eH(Φ:FT)(Γ:Str->Option D)(i:List CE)(body:CE)(ρ:bu)(ds:List D)(S:ae):Res (List D):=(aV Φ Γ i ρ S).bind λk S3=>if k=HX then bN Φ Γ body ρ ds S3 else .ok ds S3
noncomputable def tC(K:Fg)(m:Mg)(O:H7->List D->List V->HO->Prop)(Φ:FT)(Γ:Str->Option D)(i:List CE)(c:CE)(a:H7):TU:=λσ H Q=>∃F B μ0 H0 μ ρ S ds vs,gU K (a::F) B/\fx K m F a (O a) B μ0 H0 μ S H ρ σ ds vs/\c0 K m F a (O a) B μ0 H0 ρ Q (eH Φ Γ i c ρ ds S)
section
variable {O:List D->List V->HO->Prop}{vs:List V}
theorem fx.next(hB:gU K (acc::F) B)(c:fx K mg F acc O B μ0 H0 μ S H ρ σ ds vs)(x:Ext μ H μ1 H1)(s:aC K ⟨mg,acc::F⟩ μ1 S1 H1):fx K mg F acc O B μ0 H0 μ1 S1 H1 ρ σ ds vs where
 n0:=c.n0
 ext:=c.ext.trans x
 sok:=s
 nin:=λz=>by
  rcases x.fresh _ z with z|z
  ·exact c.nin z
  ·obtain⟨o,e,_⟩:=c.at_;simp_all
 env:=c.env.mono x
 at_:=let⟨o,e,h⟩:=c.at_;⟨o,x.keep _ _ e (.inr c.nin),h⟩
 rep:=ag.mono x _ _ c.rep
 b:=hB _ H _ _ c.b (.of_ext x λ_ z=>.inl z)
theorem fx.put{u:HO}(f:gU K (acc::F) B)(c:fx K mg F acc O B μ0 H0 μ S H ρ σ ds vs)(h:H acc=some u)(a:gh u=HX)(r:Rep K ⟨mg,acc::F⟩ μ H d v)(g:O (ds++[d]) (vs++[v]) u'):fx K mg F acc O B μ0 H0 μ S (aT H acc u') ρ σ (ds++[d]) (vs++[v]):=by
 have C:cc K _ _ H (acc::F) μ (aT H _ u'):=.more Ze h a
 exact{
  n0:=c.n0
  ext:=c.ext.more c.n0
  sok:=c.sok.more Ze c.nin h a
  nin:=c.nin
  env:=c.env.chg C
  at_:=⟨_,bI,g⟩
  rep:=ag.append (ag.chg C _ _ c.rep) (.cons (Rep.chg C _ _ r) .nil)
  b:=f _ _ _ _ c.b C}
theorem DO{E:XK}:∀{cs:List CE} {σ:L2.St} {Q:Bool->Hp->Prop},aC X.K ⟨X.mg,F⟩ μ S H->aN X.K ⟨X.mg,F⟩ μ H ρ σ->ai X.K ⟨X.mg,F⟩ E (λ_ _ a b=>a=b) μ H Q (aV Φ Γ cs ρ S)->k7 (cs.map (tT X.K X.mg E Φ Γ)) σ H Q:=by
 intro cs
 induction cs generalizing μ H S with
 |nil=>exact λs e w=>w _ H _ .refl s rfl
 |cons c cs i=>
  intro σ Q s e w;refine⟨F,_,_,S,s,e,(ai.bind w).mono λk H1 z=>aq z λg h K x d f W=>?_⟩;subst f;cases K with
  |true=>exact i d (e.mono x) W
  |false=>exact W _ _ _ .refl d rfl
end
section
variable {E:XK}
theorem PB.weak{body:Sem Unit}{t t':TU}(h:PB X body t)(w:∀σ H Q,t' σ H Q->t σ H Q):PB X body t':=λp s σ H Q I q=>h _ s _ H Q I (w _ H Q q)
theorem DP{vs:List V}{i:List CE}{c:CE}{Q:L2.St->Hp->Prop}
  (h:gU K (acc::F) B) (st:fx K mg F acc (O acc) B μ0 H0 μ S H ρ σ ds vs) (w:c0 K mg F acc (O acc) B μ0 H0 ρ Q (eH Φ Γ i c ρ ds S)):
  ai K ⟨mg,acc::F⟩ E (λ_ _ a b=>a=b) μ H (λb H1=>if b=HX then tB K mg O Φ Γ c acc σ H1 Q else Q σ H1) (aV Φ Γ i ρ S):=by
 unfold eH at w;cases e:aV _ _ _ _ S with
 |ok k f=>
  rw[e]at w;intro j H1 b x s g;subst g;have d:=st.next h x s;cases k with
  |true=>exact⟨F,B,_,_,_,_,_,_,_,h,d,w⟩
  |false=>exact w _ _ _ _ d
 |err y f=>rw[e]at w;exact w.elim
 |fail=>rw[e]at w;exact w.elim
theorem qZ{e:Sem Unit}{d:Nat}{fs:Lx}{i:List CE}{c:CE}(b:vX X fs (i.map (tT X.K X.mg E Φ Γ)))(a:PB X (a8 ce e gens d (.ref acc) X.env) (tB X.K X.mg O Φ Γ c acc)):
  PB X (dZ fs X.env>>=λok=>if ok=HX then a8 ce e gens d (.ref acc) X.env else pure ()) (tC X.K X.mg O Φ Γ i c acc):=
 PB.weak (lF b a) λl H Q z=>qj z λF B f g j k S D vs h s w=>DO s.sok s.env (DP h s w)
def oL(_:H7)(_:List D)(vs:List V)(o:HO):Prop:=o=.lst vs
theorem q5{d:Nat}{c:CE}(k:gens[d+1]?=none)(j:PE X elt (tE X.K X.mg E Φ Γ c)):PB X (a8 ce (qV elt (.ref acc) X.env) gens d (.ref acc) X.env) (tB X.K X.mg oL Φ Γ (.emit c) acc):=
 PB.weak (lH k j) λq H Q z=>qj z λF B l n o p S D vs g b w=>by
  refine⟨_,_,_,S,b.sok,b.env,?_⟩;dsimp[bN]at w;cases e:ah _ _ c _ S with
  |ok y i=>
   rw[e]at w;intro m H1 v x s r;have a:=b.next g x s;have W:c0 _ _ F _ _ B _ _ _ Q (if D.length<a' then .ok _ _ else .fail):=w;by_cases h:D.length<a'
   ·rw[if_pos h]at W;obtain⟨_,f,rfl⟩:=a.at_;exact⟨_,f,by rw[<-a.rep.length];exact h,W _ _ _ _ (a.put g f rfl r rfl)⟩
   ·rw[if_neg h]at W;exact W.elim
  |err y i=>rw[e]at w;exact w.elim
  |fail=>rw[e]at w;exact w.elim
end
noncomputable def iY:gJ->Nat
 | .items xs=>xs.length+1
 | .live f _=>f
theorem xo(step:D->List D->ae->Res (List D))(xs:List D):∀(n i:Nat) (acc:List D) (S:ae),i+n=xs.length->b5 step (λ_ i=>some xs[i]?) (n+1) i acc S=aR step (xs.drop i) acc S
 |0,i,acc,S,h=>by rw[Mc (by omega)];dsimp only[b5];have:xs[i]?=none:=Jw.mpr (by omega);rw[this];rfl
 |n+1,i,acc,S,h=>by
  have H:i<xs.length:=by lia
  rw[Kc H];dsimp only[b5];rw[Zh H];show(step _ _ S).bind _=(step _ _ S).bind _;congr 1;funext a b;exact xo _ _ n _ _ _ (by grind)
theorem xp(step:D->List D->ae->Res (List D))(i:gJ)(a:List D)(S:ae):dy step i a S=b5 step (aP i) (iY i) 0 a S:=by
 cases i with
 |items x=>exact(xo _ _ _ 0 _ S (by omega)).symm
 |live f get=>rfl
noncomputable def cu(Φ:FT)(Γ:Str->Option D)(t:CT)(i:List CE)(body:CE)(ρ:bu):D->List D->ae->Res (List D):=λx acc S2=>match br t x ρ with
 |some ρ'=>eH Φ Γ i body ρ' acc S2
 |none=>.fail
theorem fx.back{B':La->Hp->Prop}{vs:List V}(c:fx K mg F acc (O acc) B μ0 H0 μ S H ρ σ ds vs)(b:B' μ H)(e:aN K ⟨mg,acc::F⟩ μ H ρ' σ'):fx K mg F acc (O acc) B' μ0 H0 μ S H ρ' σ' ds vs:=
 ⟨c.n0,c.ext,c.sok,c.nin,e,c.at_,c.rep,b⟩
theorem DQ{t:CT}{i:List CE}{body:CE}{x:D}(h:br t x ρ=some ρ'):cu Φ Γ t i body ρ x ds S=eH Φ Γ i body ρ' ds S:=by unfold cu;rw[h]
theorem DR{t:CT}{i:List CE}{body:CE}{x:D}(h:br t x ρ=none):cu Φ Γ t i body ρ x ds S=.fail:=by unfold cu;rw[h]
theorem xq{d:La}{a:La}{f:Hp}{get:ae->Nat->Option (Option D)}{t:CT}{I:List CE}{body:CE}{Q:L2.St->Hp->Prop}(G:gU K (acc::F) B)(ok:eT K ⟨mg,d⟩ J get a f)
        {vs:List V} (ch:cc K d a f (acc::F) μ H) (st:fx K mg F acc (O acc) B μ0 H0 μ S H ρ σ ds vs) (w:c0 K mg F acc (O acc) B μ0 H0 ρ Q (b5 (cu Φ Γ t I body ρ) get n 0 ds S)):
  ∃W:Nat->Nat->L2.St->Hp->Prop,(∃m,W 0 m σ H)/\∀i m σ H,W i m σ H->
   (J.stop i H/\Q σ H)\/(J.go i H/\∃Nx:L2.St->Hp->Prop,(∀σ' H',Nx σ' H'->∃M,M<m/\W (i+1) M σ' H')/\∀x H',J.yld i H x H'->o8 K t x σ H' λj H2=>tC K mg O Φ Γ I body acc j H2 Nx):=by
 refine⟨λi m σ H=>∃μ S ds vs,cc K d a f (acc::F) μ H/\fx K mg F acc (O acc) B μ0 H0 μ S H ρ σ ds vs/\c0 K mg F acc (O acc) B μ0 H0 ρ Q (b5 (cu Φ Γ t I body ρ) get m i ds S),⟨n,μ,S,ds,vs,ch,st,w⟩,?_⟩;rintro i m σ H ⟨μ,S,ds,vs,ch,st,w⟩;cases m with
 |zero=>exact w.elim
 |succ m=>
  unfold b5 at w;obtain⟨P,R⟩:=ok i μ S H (acc::F) ch st.sok;cases e:get S i with
  |none=>rw[e]at w;exact w.elim
  |some o=>
   cases o with
   |none=>rw[e]at w;exact .inl ⟨R e,w μ H σ vs st⟩
   |some x=>
    rw[e]at w;obtain⟨L,Y⟩:=P x e;refine .inr ⟨L,λσ' H'=>∃μ S ds vs,cc K d a f (acc::F) μ H'/\fx K mg F acc (O acc) B μ0 H0 μ S H' ρ σ' ds vs/\c0 K mg F acc (O acc) B μ0 H0 ρ Q (b5 (cu Φ Γ t I body ρ) get m (i+1) ds S),λσ' H' q=>⟨m,Jx m,q⟩,λy H' N=>?_⟩;obtain⟨X,U,T⟩:=Y y H' N;have g:=st.next G X U;have C:cc K d a f (acc::F) μ H':=ch.trans (.of_ext X λ_ z=>.inl z);have b:c0 K mg F acc (O acc) B μ0 H0 ρ Q ((cu Φ Γ t I body ρ x ds S).bind λA k=>b5 (cu Φ Γ t I body ρ) get m (i+1) A k):=w;cases E:br t x ρ with
    |none=>rw[DR E]at b;exact b.elim
    |some h=>
     rw[DQ E]at b;refine qY (DN E) T g.env λj p=>?_;refine⟨F,λμ H=>B μ H/\cc K d a f (acc::F) μ H,μ0,H0,μ,h,S,ds,vs,λZ Ha μb Hb q c=>⟨G _ _ _ _ q.1 c,q.2.trans c⟩,g.back (B':=λμ H=>B μ H/\cc K d a f (acc::F) μ H) ⟨g.b,C⟩ p,?_⟩;cases r:eH Φ Γ I body h ds S with
     |ok l k=>rw[r]at b;intro u H2 σ' v s;exact⟨u,k,l,v,s.b.2,s.back s.b.1 (DM E s.env),b⟩
     |err z k=>rw[r]at b;exact b.elim
     |fail=>rw[r]at b;exact b.elim
section
variable {E:XK}
theorem lJ{a:Sem Unit}{d:Nat}{t i:Expr}{fs:Lx}{T:CT}{it:CE}{I:List CE}{body:CE}(f:gI ce=HX)(h:clausesOf ce=gens)(b:∀it:H7,compTurn ce (d+1) (.ref it) (.ref acc) X.env=(standAt i.pos>>=λ_=>pyNext (.ref it)>>=λr=>match r with
   |none=>pure (.done .next)
   |some v=>letOwnedTupleGo t (.ref it) v>>=λ_=>assign t X.env v>>=λ_=>(dZ fs X.env>>=λok=>if ok=HX then a8 ce a gens (d+1) (.ref acc) X.env else pure ())>>=λ_=>again (.compLoop ce (d+1) (.ref it) (.ref acc) X.env))) (p:X.xe=λ_ _=>False) (m:X.calm=HX) (n:gens[d+1]?=some ⟨t,i,fs,0⟩)
  (o:PI X t i (tI X.K X.mg E Φ Γ it)) (hs:∀x,foldedSetIterable i X.env x=pure x) (c:PG X t (o8 X.K T))
  (l:PB X (dZ fs X.env>>=λok=>if ok=HX then a8 ce a gens (d+1) (.ref acc) X.env else pure ()) (tC X.K X.mg O Φ Γ I body acc)):PB X (a8 ce a gens d (.ref acc) X.env) (tB X.K X.mg O Φ Γ (.inner T it I body) acc):=
 PB.weak (DK f h b p m n o hs c l) λL H Q z=>qj z λF B u C G K S D vs j g w=>by
  refine⟨_,_,_,S,g.sok,g.env,?_⟩;dsimp[bN]at w;cases e:aU _ _ _ _ S with
  |ok q k=>rw[e]at w;intro A H1 J x s ok;have W:c0 _ _ F _ _ B _ _ _ Q (dy _ _ _ _):=w;rw[xp]at W;exact xq j ok .refl (g.next j x s) W
  |err y k=>rw[e]at w;exact w.elim
  |fail=>rw[e]at w;exact w.elim
noncomputable def fy(fr:List (Option Nat)):L2.St->L2.St:=λσ=>fr.map λj=>j.bind λj=>(σ[j]?).join
theorem q8{m:GS}(c:aN K m μ H ρ σ):aN K m μ H (fr.map λj=>j.bind λj=>(ρ[j]?).join) (fy fr σ):=by
 refine⟨by simp[fy],λi d e=>?_⟩;rw[Kh]at e;cases b:fr[i]? with
 |none=>simp_all
 |some o=>
  rw[b]at e;have e:=JI e;cases o with
  |none=>cases e
  |some j=>
   have E:ρ[j]?.join=some d:=e;cases a:ρ[j]? with
   |none=>simp_all
   |some o=>rw[a]at E;subst(E);obtain⟨v,f,k⟩:=c.2 j d a;exact⟨v,by unfold fy;simp_all,k⟩
theorem iZ{tg0:Expr}{box:Bool}{t:CT}{it:CE}{I:List CE}{body:CE}{Q:VK}(h:tE X.K X.mg E Φ Γ (.comp box N' fr t it I body) σ H Q):
  iH (λ_=>.lst []) (fy fr) (tI X.K X.mg E Φ Γ it) (o8 X.K t) (tC X.K X.mg oL Φ Γ I body) σ H Q:=by
 obtain⟨F,k,m,S,G,u,w⟩:=h;refine⟨F,k,m,S,G,u,?_⟩;simp only[ah]at w;refine ai.mono (Rel:=λf l i J=>eT X.K ⟨X.mg,F⟩ J (aP i) f l) (ai.bind w) λJ H1 h A a=>?_;obtain⟨d,o,i,M,p,ok,L⟩:=h
 have K:fx X.K X.mg F A (oL A) (λk H=>cc X.K F d H1 (A::F) k H) d H1 d o (aT H1 A (.lst [])) (fr.map λj=>j.bind λj=>(m[j]?).join) (fy fr σ) [] []:={
  n0:=a
  ext:=.laid a
  sok:=p.start a
  nin:=p.notin a
  env:=(q8 (u.mono M)).chg (.start a)
  at_:=⟨_,bI,rfl⟩
  rep:=.nil
  b:=.start a}
 refine xq (Q:=λ_ H=>Q (.ref A) H) (B:=λk H=>cc X.K F d H1 (A::F) k H) (n:=iY i) (λO T P U q c=>q.trans c) ok (.start a) K ?_;have W:ai X.K ⟨X.mg,F⟩ E (Rep X.K ⟨X.mg,F⟩) d H1 Q ((dy (cu Φ Γ t I body (fr.map λj=>j.bind λj=>(m[j]?).join)) i [] o).noErr.bind λY g=>if box=HX then .ok (.ref g.length) (g++[Y])else .ok (.lst Y) g):=L;rw[xp]at W;cases e:b5 (cu Φ Γ t I body (fr.map λj=>j.bind λj=>(m[j]?).join)) (aP i) (iY i) 0 [] o with
 |ok Y g=>
  rw[e]at W;intro f l R v s;have C:A∉F:=p.notF a;obtain⟨_,r,rfl⟩:=s.at_;cases box with
  |false=>refine W f l (.ref A) s.ext s.sok.out ?_;unfold Rep;exact⟨A,v,rfl,r,⟨s.nin,C⟩,ag.chg .out _ _ s.rep⟩
  |true=>refine W (f++[A]) l (.ref A) (s.ext.outBox a) (s.sok.outBox s.nin r s.rep) ?_;unfold Rep;refine⟨A,rfl,?_⟩;have D:=s.sok.len;rw[IU (by omega)];simp[D]
 |err y g=>rw[e]at W;exact W.elim
 |fail=>rw[e]at W;exact W.elim
end
noncomputable def cB(l:Bool):Obj:={cls:=.type "set",dict:=none,data:=.set #[] 0 (.fresh 0 0 l)}
def gj(xs:Array Nat):Prop:=∀i j (hi:i<xs.size) (h:j<xs.size),i<j->xs[i]<xs[j]
theorem DS{xs:Array Nat}(h:gj xs)(j:Nat):∀(f lo hi:Nat),hi-lo<=f->lo<=hi->hi<=xs.size->(∀i (g:i<xs.size),i<lo->xs[i]<j)->(∀i (g:i<xs.size),hi<=i->j<=xs[i])->
  lo<=Ju xs j f lo hi/\Ju xs j f lo hi<=hi/\(∀i (g:i<xs.size),i<Ju xs j f lo hi->xs[i]<j)/\(∀i (g:i<xs.size),Ju xs j f lo hi<=i->j<=xs[i]):=by
 intro f
 induction f with
 |zero=>
  intro lo hi p r o k l;have:lo=hi:=by omega
  subst this;exact⟨Zf _,Zf _,k,l⟩
 |succ f I=>
  intro lo hi p r o k l;unfold Ju;split
  ·rename_i t;have m:(lo+hi)/2<xs.size:=by omega
   have q:xs.getD ((lo+hi)/2) j=xs[(lo+hi)/2]:=by simp[LG,m]
   dsimp only;rw[q];split
   ·rename_i g
    obtain⟨a,b,c,d⟩:=I ((lo+hi)/2+1) hi (by omega) (by omega) o (λi H n=>by
     by_cases e:i=(lo+hi)/2
     ·subst e;exact g
     ·exact Lc (h i _ H m (by omega)) g) l
    exact⟨by omega,b,c,d⟩
   ·rename_i g
    obtain⟨a,b,c,d⟩:=I lo ((lo+hi)/2) (by omega) (by omega) (by omega) k (λi H s=>by
     by_cases e:i=(lo+hi)/2
     ·subst e;omega
     ·exact Zv (by omega) (J3 (h _ i m H (by omega))))
    exact⟨a,by omega,c,d⟩
  grind
theorem lK{xs:Array Nat}(h:gj xs)(j:Nat):Ib xs j<=xs.size/\(∀i (H:i<xs.size),i<Ib xs j->xs[i]<j)/\(∀i (H:i<xs.size),Ib xs j<=i->j<=xs[i]):=by
 obtain⟨_,b,c,d⟩:=DS h j xs.size 0 _ (by simp) (by simp) (Zf _) λi _ h=>by simp_all λi H h=>by lia
 exact⟨b,c,d⟩
theorem DT{xs:Array Nat}(h:gj xs){i:Nat}(d:i<xs.size):Ib xs (xs[i]+1)=i+1:=by
 obtain⟨a,b,c⟩:=lK h (xs[i]+1);have f:i<Ib xs (xs[i]+1):=by grind
 by_cases e:i+1<Ib xs (xs[i]+1)
 ·have H:i+1<xs.size:=by lia
  have:=b _ H e;have:=h i _ d H (by simp);lia
 ·lia
theorem DU(xs:Array Nat)(h:gj xs):Ib xs 0=0:=by
 obtain⟨a,b,c⟩:=lK h 0;by_cases e:0<Ib xs 0
 ·have:=b 0 (by lia) e;simp_all
 simp_all
theorem DV{xs:Array Nat}(h:gj xs){j:Nat}(p:∀i (f:i<xs.size),xs[i]≠j):gj (IV xs (Ib xs j) j):=by
 obtain⟨a,b,c⟩:=lK h j;have n:(IV xs (Ib xs j) j).toList=xs.toList.take (Ib xs j)++j::xs.toList.drop (Ib xs j):=by unfold IV;simp;exact JG (by simp)
 have o:(xs.toList.take (Ib xs j)++j::xs.toList.drop (Ib xs j)).Pairwise (· < ·):=by
  have f:xs.toList.Pairwise _:=Jy.mpr λi k e l H=>by simpa using h i k _ _ H
  rw[List.pairwise_append];refine⟨f.sublist (Ke _ _),ZV.mpr ⟨λy d=>?_,f.sublist (K' _ _)⟩,λx g y d=>?_⟩
  ·obtain⟨i,e,rfl⟩:=ZP.mp d
   grind
  ·obtain⟨i,e,rfl⟩:=ZP.mp g;rw[JR]at e;rw[List.getElem_take];rcases Zj.mp d with rfl|d
   ·exact b i (by lia) (by omega)
   ·obtain⟨k,l,rfl⟩:=ZP.mp d
    grind
 intro i k e l H;have m:(IV xs (Ib xs j) j).size=(IV xs (Ib xs j) j).toList.length:=by simp
 have:=Jy.mp (n▸o) i k (by simp_all) (by simp_all) H;simpa using this
theorem DW{l:List Nat}(h:l.Pairwise (· < ·)):gj l.toArray:=λi j a b H=>by have:=Jy.mp h i j (by omega) (by omega) H;trivial
theorem q9{c d:Type}(f:c->Option d):∀l:List c,((l.filterMap λj=>(f j).map (j, ·)).map (·.1)).Sublist l
 | []=>.slnil
 |a::l=>by
  cases e:f a with
  |none=>rw[List.filterMap_cons_none (by simp_all)];exact(q9 f l).cons a
  |some b=>rw[LZ (b:=(a,b)) (by simp_all)];exact(q9 f l).cons₂ a
open SetTable (Probe runEnd leap bits turns)
noncomputable def lL(mask:Nat)(p:Probe):Probe:=
 if p.more>0 then{p with j:=p.j+1,more:=p.more-1}else
 {p with j:=(leap mask p.i p.perturb).1,more:=runEnd mask (leap mask p.i p.perturb).1-(leap mask p.i p.perturb).1,i:=(leap mask p.i p.perturb).1,perturb:=(leap mask p.i p.perturb).2}
theorem q_(t:IA)(p:Probe):t.advance p=lL t.mask p:=rfl
noncomputable def pos(mask:Nat):Probe->Nat->Probe
 |p,0=>p
 |p,n+1=>pos mask (lL mask p) n
noncomputable def ib(mask i p:Nat):Probe:=⟨i,runEnd mask i-i,i,p,none⟩
noncomputable def eh(mask:Nat)(h:Int):Probe:=ib mask (bits h%(mask+1)) (bits h)
theorem gW{mask:Nat}:∀(m n:Nat) (p:Probe),pos mask p (m+n)=pos mask (pos mask p m) n
 |0,n,p=>by rw[Ld];rfl
 |m+1,n,p=>by rw[Nat.succ_add];exact gW m n _
theorem DX(p:Probe)(n:Nat):pos mask p (n+1)=lL mask (pos mask p n):=gW n 1 p
theorem lM{mask i p:Nat}{d:Option Nat}:∀(k r j:Nat),k<=r->pos mask ⟨j,r,i,p,d⟩ k=⟨j+k,r-k,i,p,d⟩
 |0,r,j,_=>rfl
 |k+1,r,j,h=>by
  show pos _ _ k=_;have:lL mask ⟨j,r,i,p,d⟩=⟨j+1,r-1,i,p,d⟩:=by dsimp[lL];lia
  rw[this,lM k _ _ (by lia)];lia
theorem run_next{i p r j:Nat}{d:Option Nat}:pos mask ⟨j,r,i,p,d⟩ (r+1)=⟨(leap mask i p).1,runEnd mask (leap mask i p).1-(leap mask i p).1,(leap mask i p).1,(leap mask i p).2,d⟩:=by rw[DX,lM r r j (Zf _)];unfold lL;lia
noncomputable def b_(mask:Nat):Nat->Nat×Nat->Nat×Nat
 |0,x=>x
 |r+1,x=>b_ mask r (leap mask x.1 x.2)
theorem lN{i:Nat}:runEnd mask i-i<=9:=by unfold runEnd;split<;>omega
theorem i0{mask:Nat}:∀(r:Nat) (x:Nat×Nat),∃n,n<=10*r/\pos mask (ib mask x.1 x.2) n=ib mask (b_ mask r x).1 (b_ mask r x).2
 |0,x=>⟨0,by simp,rfl⟩
 |r+1,x=>by obtain⟨n,h,e⟩:=i0 r _;have:=lN (mask:=mask) (i:=x.1);refine⟨runEnd mask x.1-x.1+1+n,by lia,?_⟩;rw[gW];show pos _ (pos _ ⟨_,_,_,_,_⟩ _) n=_;rw[run_next];exact e
theorem xr{mask:Nat}:∀(a b:Nat) (x:Nat×Nat),b_ mask (a+b) x=b_ mask b (b_ mask a x)
 |0,b,x=>by rw[Ld];rfl
 |a+1,b,x=>by rw[Nat.succ_add];exact xr a b _
theorem xt{mask:Nat}:∀(r:Nat) (x:Nat×Nat),x.1<=mask->(b_ mask r x).1<=mask
 |0,x,h=>h
 |r+1,x,h=>xt r _ (by show(x.1*5+1+x.2/32)%(mask+1)<=mask;have:=K6 (x.1*5+1+x.2/32) (show 0<mask+1 by simp);lia)
theorem xu{mask:Nat}:∀(r:Nat) (x:Nat×Nat),(b_ mask r x).2=x.2/32^r
 |0,x=>by simp[b_]
 |r+1,x=>by show(b_ _ r _).2=_;rw[xu r];show x.2/32/32^r=_;rw[Nat.div_div_eq_div_mul,Nat.pow_succ,Nat.mul_comm]
noncomputable def Bd(m:Nat):Nat->Nat->Nat
 |0,i=>i
 |r+1,i=>Bd m r ((i*5+1)%m)
noncomputable def xv(m:Nat):Nat->Nat->Nat
 |0,i=>1<<<i
 |r+1,i=>(1<<<i)|||xv m r ((i*5+1)%m)
theorem xw{i e:Nat}(h:(1<<<i).testBit e=HX):i=e:=by rw[Nat.one_shiftLeft,Nat.testBit_two_pow]at h;simp_all
theorem xx{m e:Nat}:∀(r i:Nat),(xv m r i).testBit e=HX->∃k,k<=r/\Bd m k i=e
 |0,i,h=>⟨0,Zf _,xw h⟩
 |r+1,i,h=>by
  dsimp only[xv]at h;rw[Nat.testBit_or,Ly]at h;rcases h with h|h
  ·exact⟨0,ZT _,xw h⟩
  ·obtain⟨k,H,e⟩:=xx r _ h;exact⟨k+1,by simp_all,e⟩
theorem lO:∀mask∈[7,31,127],∀i∈H_ (mask+1),xv (mask+1) mask i=2^(mask+1)-1:=by decide+kernel
theorem xy{mask:Nat}:∀(r i:Nat),(b_ mask r (i,0)).1=Bd (mask+1) r i
 |0,i=>rfl
 |r+1,i=>by show(b_ _ r (leap _ i 0)).1=Bd _ r _;rw[<-xy r];rfl
def d0(mask:Nat):Prop:=mask∈[7,31,127]
theorem pd(d:d0 mask){i p e:Nat}(c:i<=mask)(f:p<2^64)(g:e<=mask):∃r,r<=mask+13/\(b_ mask r (i,p)).1=e:=by
 have h:(b_ mask 13 (i,p)).2=0:=by rw[xu];exact Nat.div_eq_of_lt (Zt f (by decide))
 have H:=xt 13 (i,p) c;have a:=lO mask d _ (IS.mpr (Nat.lt_succ_of_le H))
 have b:(xv (mask+1) mask (b_ mask 13 (i,p)).1).testBit e=HX:=by rw[a,Nat.testBit_two_pow_sub_one];exact ZO (by omega)
 obtain⟨k,j,E⟩:=xx _ _ b;refine⟨13+k,by omega,?_⟩;rw[xr,show b_ mask 13 (i,p)=((b_ mask 13 (i,p)).1,0)from Prod.ext rfl h,xy];exact E
theorem xz(h:Int):bits h<2^64:=by simp[bits];lia
theorem DY(b:d0 mask){e:Nat}(H:e<=mask)(h:Int):∃n,n<10*turns mask/\(pos mask (eh mask h) n).j=e:=by obtain⟨r,d,E⟩:=pd b (i:=bits h%(mask+1)) (by have:=K6 (bits h) (show 0<mask+1 by simp);lia) (xz h) H;obtain⟨n,c,a⟩:=i0 r (bits h%(mask+1),bits h);exact⟨n,by unfold turns;lia,by rw[show eh _ h=ib _ _ _ from rfl,a];exact E⟩
theorem rc{mask:Nat}:∀(n:Nat) {p:Probe},(pos mask p n).dummy=p.dummy
 |0,p=>rfl
 |n+1,p=>by show(pos _ _ n).dummy=_;rw[rc n];unfold lL;split<;>rfl
theorem rf:∀(m:Nat) (l:List Nat),l.length<m->∃e,e<m/\e∉l
 |0,l,h=>by simp_all
 |m+1,l,h=>by
  by_cases H:m∈l
  ·have a:(l.filter (· !=m)).length<l.length:=List.length_filter_lt_length_iff_exists.mpr ⟨m,H,by simp⟩;obtain⟨e,b,c⟩:=rf m (l.filter (· !=m)) (by lia)
   grind
  ·exact⟨m,Jx m,H⟩
def Fd(mask:Nat)(P:Nat->Prop)(h:Int)(j:Nat):Prop:=∃n,(pos mask (eh mask h) n).j=j/\∀m,m<n->P (pos mask (eh mask h) m).j
theorem Fd.mono{P a:Nat->Prop}{h:Int}{j:Nat}(x:Fd mask P h j)(hs:∀y,P y->a y):Fd mask a h j:=by obtain⟨n,e,f⟩:=x;exact⟨n,e,λm H=>hs _ (f m H)⟩
theorem DZ(H:d0 mask){pl:List Nat}(c:pl.length<=mask)(h:Int):∃n,n<10*turns mask/\(pos mask (eh mask h) n).j∉pl/\∀m,m<n->(pos mask (eh mask h) m).j∈pl:=by
 obtain⟨e,b,d⟩:=rf (mask+1) pl (by lia);obtain⟨n,a,E⟩:=DY H (e:=e) (by lia) h
 have K:∀n,(pos mask (eh mask h) n).j∉pl->∃k,k<=n/\(pos mask (eh mask h) k).j∉pl/\∀m,m<k->(pos mask (eh mask h) m).j∈pl:=by
  intro n
  induction n using Nat.strongRecOn with
  |ind n i=>
   grind
 grind
structure Tk (t:IA)(hs:Li):Prop where
 dum:t.dummies= #[]
 ris:gj t.place
 siz:t.place.size=hs.length
 msk:d0 t.mask
 ful:t.tooFull=HY
 fnd:∀x∈hs.zip t.place.toList,Fd t.mask (· ∈t.place.toList) x.1 x.2
theorem D0{xs:Array Nat}(h:gj xs){i:Nat}(H:i<xs.size):Ib xs xs[i]=i:=by
 obtain⟨a,b,c⟩:=lK h xs[i];have d:Ib xs xs[i]<=i:=by grind
 by_cases z:Ib xs xs[i]<i
 ·have:=h _ i (by omega) H z;have:=c _ (by omega) (Zf _);omega
 ·lia
theorem xA{t:IA}(h:gj t.place){i:Nat}(H:i<t.place.size):t.slot t.place[i]=.live i:=by unfold MX;dsimp only;rw[D0 h H,if_pos];rw[Il H];exact beq_self_eq_true _
theorem xB{t:IA}(h:gj t.place){j:Nat}(H:j∈t.place.toList):∃i,∃hi:i<t.place.size,t.place[i]=j/\t.slot j=.live i:=by
 obtain⟨i,hi,e⟩:=ZP.mp H;have E:=by simpa using e
 exact⟨i,_,E,by rw[<-E];exact xA h _⟩
theorem xC{t:IA}(h:t.dummies= #[]){j:Nat}(H:j∉t.place.toList):t.slot j=.empty:=by
 dsimp[MX];rw[if_neg,h]
 ·rfl
 grind
theorem Tk.fits{t:IA}(x:Tk t hs):t.place.size<=t.mask/\t.fits hs.length=HX:=by
 have h:=x.ful;unfold Kd J6 at h;have H:t.place.size<=t.mask:=by lia
 refine⟨H,?_⟩;unfold Lz J6;rw[x.siz,beq_self_eq_true];exact ZO (by rw[<-x.siz];grind)
theorem xD{t:IA}{hashAt:Nat->Int}{h:Int}:∀(n f:Nat) (p:Probe),n<f->p.dummy=none->(∀m,m<n->∃i,t.slot (pos t.mask p m).j=.live i/\hashAt i≠h)->
  (t.slot (pos t.mask p n).j=.empty->IL t hashAt h f p=some (.empty (pos t.mask p n).j none))/\
  (∀i,t.slot (pos t.mask p n).j=.live i->hashAt i=h->IL t hashAt h f p=some (.candidate (pos t.mask p n).j i (pos t.mask p (n+1))))
 |0,f+1,p,_,b,_=>by
  constructor
  ·intro e;have e:t.slot p.j=.empty:=e;dsimp only[IL];rw[e,b];rfl
  ·intro i e H;have e:t.slot p.j=.live i:=e;dsimp only[IL];rw[e];dsimp;rw[if_pos (by simp_all)];rfl
 |n+1,f+1,p,g,b,c=>by
  obtain⟨i,H,a⟩:=c 0 (Nat.succ_pos n);have H:t.slot p.j=.live i:=H
  have step:IL t hashAt h (f+1) p=IL t hashAt h f (lL t.mask p):=by
   conv=>lhs;unfold IL
   rw[H];dsimp;rw[if_neg λz=>a (ZX z),q_]
  rw[step];exact xD n _ _ (by simp_all) (by rw[show(lL _ p).dummy=(pos _ p 1).dummy from rfl,rc];exact b) λm d=>c (m+1) (by simp_all)
theorem lP{a:List α}{b:List β}(c:a.length=b.length)(p:Nat)(x:α)(y:β){z:α×β}(H:z∈(a.take p++x::a.drop p).zip (b.take p++y::b.drop p)):z=(x,y)\/z∈a.zip b:=by
 rw[List.zip_append (by simp_all),ZU,ZK,Zj]at H;rcases H with h|h|h
 ·rw[MC,<-List.take_zipWith]at h;exact .inr (List.mem_of_mem_take h)
 ·exact .inl h
 ·rw[MC,<-List.drop_zipWith]at h;exact .inr (List.mem_of_mem_drop h)
theorem Tk.put{t:IA}(x:Tk t hs){h:Int}(d:(pos t.mask (eh t.mask h) n).j∉t.place.toList)(b:∀m,m<n->(pos t.mask (eh t.mask h) m).j∈t.place.toList):
  let r:=t.put (pos t.mask (eh t.mask h) n).j
  r.1.dummies= #[]/\gj r.1.place/\r.1.place.size=hs.length+1/\r.1.mask=t.mask/\r.1.led=t.led/\r.1.plain=t.plain/\r.2=Ib t.place (pos t.mask (eh t.mask h) n).j/\
  ∀z∈(hs.take r.2++h::hs.drop r.2).zip r.1.place.toList,Fd t.mask (· ∈r.1.place.toList) z.1 z.2:=by
 intro r;have f:r.1.place.toList=t.place.toList.take r.2++(pos _ _ n).j::t.place.toList.drop r.2:=LA _ _ _
 have H:∀y,y∈t.place.toList->y∈r.1.place.toList:=λy g=>by
  rw[<-KH r.2 t.place.toList]at g
  grind
 refine⟨?_,DV x.ris λi j e=>d (by grind),?_,rfl,rfl,rfl,rfl,λz a=>?_⟩
 ·show(if SetTable.has _ _ then _ else t.dummies)= #[];rw[x.dum];rfl
 ·show(IV _ _ _).size=_;rw[<-ZI,(SetTable.insertAt_perm _ _ _).length_eq,ZI,Array.size_push,x.siz]
 ·rw[f]at a;rcases lP (by rw[<-x.siz,ZI]) _ _ _ a with rfl|a
  ·exact⟨n,rfl,λm c=>H _ (b m c)⟩
  ·exact(x.fnd z a).mono H
abbrev c1:=Array (Option Nat)
def lQ(o:c1)(j:Nat):Prop:=∃q,o[j]?=some (some q)
theorem D3{o:c1}{j:Nat}(H:j<o.size)(h:(o.getD j (some 0)).isNone=HY):lQ o j:=by
 have:o.getD j (some 0)=o[j]:=by simp_all
 cases e:o[j]with
 |none=>simp_all
 |some q=>exact⟨q,by simp_all⟩
theorem D4{o:c1}{j:Nat}(h:(o.getD j (some 0)).isNone=HX):o[j]?=some none:=by
 by_cases H:j<o.size
 ·simp_all
 simp_all
theorem xE{mask:Nat}{o:c1}(hs:o.size=mask+1):∀(f i p:Nat),i<=mask->
  (∃j n,IW mask o f i p=some j/\(pos mask (ib mask i p) n).j=j/\o[j]?=some none/\∀m,m<n->lQ o (pos mask (ib mask i p) m).j)\/
  (IW mask o f i p=none/\∀r,r<f->lQ o (b_ mask r (i,p)).1)
 |0,i,p,w=>.inr ⟨rfl,λr h=>by omega⟩
 |f+1,i,p,w=>by
  have y:i+(runEnd mask i-i)=runEnd mask i/\runEnd mask i<=mask:=by unfold runEnd;split<;>omega
  have d:runEnd mask i+1-i=(runEnd mask i-i)+1:=by omega
  have O:∀k,k<=runEnd mask i-i->(o.getD (i+k) (some 0)).isNone=HY->lQ o (pos mask (ib mask i p) k).j:=λk b h=>by unfold ib;rw[lM k _ i b];exact D3 (j:=i+k) (by omega) h
  unfold IW;cases c:(H_ (runEnd mask i+1-i)).find? λk=>(o.getD (i+k) (some 0)).isNone with
  |some k=>
   obtain⟨t,u,v⟩:=List.find?_range_eq_some.mp c;have b:=IS.mp u;refine .inl ⟨i+k,k,rfl,?_,D4 t,λm g=>O m (by omega) ?_⟩
   ·unfold ib;rw[lM k _ i (by omega)]
   ·have:=v m g;simpa using this
  |none=>
   have H:=List.find?_eq_none.mp c;have l:∀k,k<=runEnd mask i-i->lQ o (pos mask (ib mask i p) k).j:=λk b=>O k b (by have:=H k (IS.mpr (by omega));exact Ki.mpr this);dsimp only;have x:(leap mask i p).1<=mask:=by show(i*5+1+p/32)%(mask+1)<=mask;have:=K6 (i*5+1+p/32) (show 0<mask+1 by omega);omega
   have a:pos mask (ib mask i p) (runEnd mask i-i+1)=ib mask (leap mask i p).1 (leap mask i p).2:=run_next;rcases xE hs f (leap mask i p).1 (leap mask i p).2 x with⟨j,n,e,E,q,s⟩| ⟨e,E⟩
   ·refine .inl ⟨j,(runEnd mask i-i+1)+n,e,by rw[gW,a];exact E,q,λm g=>?_⟩;by_cases z:m<=runEnd mask i-i
    ·exact l m z
    ·have:=s (m-(runEnd mask i-i+1)) (by omega);rw[<-a,<-gW]at this;rw[show runEnd mask i-i+1+(m-(runEnd mask i-i+1))=m by omega]at this;exact this
   ·refine .inr ⟨e,λr A=>?_⟩;cases r with
    |zero=>exact l 0 (ZT _)
    |succ r=>exact E r (by omega)
structure Ow (mask:Nat)(hs:Li)(k:Nat)(ow:c1):Prop where
 sz:ow.size=mask+1
 ok:∀j q:Nat,ow[j]?=some (some q)->q<k/\∃h,hs[q]?=some h/\Fd mask (lQ ow) h j
 all:∀q:Nat,q<k->∃j:Nat,ow[j]?=some (some q)
 inj:∀j j' q:Nat,ow[j]?=some (some q)->ow[j']?=some (some q)->j=j'
theorem Ow.hole{o:c1}(x:Ow mask hs k o)(i:k<=mask):∃e,e<=mask/\o[e]?=some none:=by
 have a:∀q:Nat,∃j:Nat,q<k->o[j]?=some (some q):=λq=>by
  by_cases z:q<k
  ·obtain⟨j,e⟩:=x.all q z;exact⟨j,λ_=>e⟩
  ·exact⟨0,λh=>absurd h z⟩
 obtain⟨e,f,g⟩:=Py.rf (mask+1) ((H_ k).map λq=>Classical.choose (a q)) (by simp;omega);refine⟨e,by omega,?_⟩;have H:e<o.size:=by rw[x.sz];exact f
 rw[Il H];cases d:o[e]with
 |none=>rfl
 |some q=>
  exfalso;have E:o[e]?=some (some q):=by rw[Il H,d]
  have b:=(x.ok e q E).1;have c:=Classical.choose_spec (a q) b;exact g (Zo.mpr ⟨q,IS.mpr b,(x.inj _ _ q E c).symm⟩)
theorem Ow.add(c:d0 mask){o:c1}(x:Ow mask hs k o)(A:k<=mask){h:Int}(y:hs[k]?=some h):∃j,IW mask o (turns mask) (bits h%(mask+1)) (bits h)=some j/\Ow mask hs (k+1) (o.setIfInBounds j (some k)):=by
 have l:bits h%(mask+1)<=mask:=by have:=K6 (bits h) (show 0<mask+1 by omega);omega
 rcases xE x.sz (turns mask) (bits h%(mask+1)) (bits h) l with⟨j,n,d,E,f,p⟩| ⟨d,E⟩
 ·refine⟨j,d,?_⟩;have g:∀i,(o.setIfInBounds j (some k))[i]?=if j=i then some (some k)else o[i]? :=λi=>by grind
  have O:∀i,lQ o i->lQ (o.setIfInBounds j (some k)) i:=λi ⟨q,b⟩=>by
   unfold lQ
   grind
  refine⟨by rw[Array.size_setIfInBounds];exact x.sz,λi q a=>?_,λq b=>?_,λi I q a H=>?_⟩
  ·rw[g]at a;split at a
   ·rename_i z;subst z;cases a;exact⟨Jx _,h,y,n,E,λm c=>O _ (p m c)⟩
   ·obtain⟨B,s,u,v⟩:=x.ok i q a;exact⟨by omega,s,u,v.mono O⟩
  ·by_cases z:q=k
   ·subst z;exact⟨j,by grind⟩
   ·obtain⟨i,a⟩:=x.all q (by omega)
    grind
  ·rw[g]at a H;split at a
   ·rename_i z;cases a;split at H
    ·rename_i Z;omega
    ·have:=(x.ok I k H).1;omega
   ·split at H
    ·cases H;have:=(x.ok i k a).1;omega
    ·exact x.inj i I q a H
 ·exfalso;obtain⟨e,w,t⟩:=x.hole A;obtain⟨r,C,f⟩:=pd c l (xz h) w;obtain⟨q,b⟩:=E r (by unfold turns;omega);rw[f,t]at b;cases b
theorem xF{mask:Nat}(H:d0 mask){hs:Li}(a:hs.length<=mask):∀(rest d:Li) (ow:c1),hs=d++rest->Ow mask hs d.length ow->
  ∃o,rest.foldl (λacc h=>do
   let(owner,k) <-acc
   let j <-IW mask owner (turns mask) (bits h%(mask+1)) (bits h)
   pure (owner.setIfInBounds j (some k),k+1)) (some (ow,d.length))=some (o,hs.length)/\Ow mask hs hs.length o
 | [],d,ow,e,x=>by simp_all
 |h::rest,d,ow,e,x=>by obtain⟨j,E,y⟩:=x.add H (by grind) (h:=h) (by simp_all);have:=xF H a rest (d++[h]) _ (by simp_all) (by rw[Zr];exact y);simp_all
theorem D5(c:d0 mask)(b:hs.length<=mask):∃ow,Mn mask hs.toArray=some ow/\Ow mask hs hs.length ow:=by
 have H:∀j q:Nat,(Array.replicate (mask+1) none)[j]?=some (some q)->False:=λj q h=>by grind
 have a:Ow mask hs ([]:Li).length _:=⟨by simp,λj q h=>(H j q h).elim,λq h=>by simp_all,λj J q h=>(H j q h).elim⟩;obtain⟨ow,e,x⟩:=xF c b _ _ _ rfl a;dsimp only[Mn];simp_all
theorem xG{mask:Nat}{P:Nat->Prop}{hs:Li}:∀(live:List (Nat×Nat)),(∀x∈live,∃h,hs[x.2]?=some h/\Fd mask P h x.1)->∀z∈(((live.map (·.2)).filterMap (hs[·]?)).zip (live.map (·.1))),Fd mask P z.1 z.2
 | [],_,z,H=>by simp_all
 |x::live,a,z,H=>by
  obtain⟨h,e,f⟩:=a x Ze;rw[ZH,LZ e]at H;rcases Zj.mp H with rfl|H
  ·exact f
  ·exact xG _ (λy b=>a y (Zc _ b)) z H
theorem D6{t:IA}(r:d0 (Ja wanted-1))(C:hs.length*5<(Ja wanted-1)*3):
  ∃t' o,t.relaid hs.toArray wanted=some (t',o)/\o.toList.Perm (H_ hs.length)/\t'.led=t.led/\t'.plain=t.plain/\Tk t' (o.toList.filterMap (hs[·]?)):=by
 generalize f:Ja wanted-1=mask at r C;obtain⟨O,e,x⟩:=D5 r (hs:=hs) (by omega)
 have H:∀y∈((H_ (mask+1)).filterMap λj=>(O.getD j none).map (j, ·)),O[y.1]?=some (some y.2):=λy l=>by
  obtain⟨j,d,E⟩:=ZS.mp l;have d:j<O.size:=by grind
  have n:O.getD j none=O[j]:=by simp[LG,d]
  rw[n]at E;cases p:O[j]with
  |none=>rw[p]at E;cases E
  |some q=>
   grind
 have c:∀j q:Nat,O[j]?=some (some q)->(j,q)∈((H_ (mask+1)).filterMap λj=>(O.getD j none).map (j, ·)):=λj q h=>by
  obtain⟨d,p⟩:=J4.mp h;refine ZS.mpr ⟨j,IS.mpr (by rw[<-x.sz];exact d),?_⟩;have n:O.getD j none=O[j]:=by simp[LG,d]
  rw[n,p];rfl
 have k:=q9 (λj=>O.getD j none) (H_ (mask+1));have i:t.relaid hs.toArray wanted=some ({mask:=mask,place:=((((H_ (mask+1)).filterMap λj=>(O.getD j none).map (j, ·)).map (·.1)).toArray),dummies:= #[],finger:=t.finger,led:=t.led,moves:=t.movedTo mask,plain:=t.plain},(((H_ (mask+1)).filterMap λj=>(O.getD j none).map (j, ·)).map (·.2)).toArray):=by unfold SetTable.relaid SetTable.laid;rw[f,e];rfl
 rw[i];generalize((H_ (mask+1)).filterMap λj=>(O.getD j none).map (j, ·))=live at*;have g:=List.pairwise_lt_range.sublist k
 have P:(live.map (·.2)).Perm (H_ hs.length):=by
  refine(J7 ?_ List.nodup_range).mpr λq=>?_
  ·rw[JH]at g;unfold List.Nodup;rw[JH];refine g.imp_of_mem λ{a b} v A w z=>?_;have m:=H b A;rw[<-z]at m;have:=x.inj _ _ _ (H a v) m;omega
  ·rw[IS,Zo];constructor
   ·rintro⟨y,l,rfl⟩;exact(x.ok _ _ (H y l)).1
   ·intro s;obtain⟨j,d⟩:=x.all q s;exact⟨(j,q),c j q d,rfl⟩
 have G:live.length=hs.length:=by have:=P.length_eq;simpa using this
 have B:((live.map (·.2)).filterMap (hs[·]?)).length=hs.length:=by rw[(P.filterMap (hs[·]?)).length_eq];have:=MD hs.toArray;simpa using congrArg KN this
 refine⟨_,_,rfl,P,rfl,rfl,rfl,DW g,?_,r,?_,xG live λy l=>?_⟩
 ·rw[B];simpa using G
 ·unfold Kd J6;refine Zx ?_;simp;omega
 ·obtain⟨_,h,u,m⟩:=x.ok _ _ (H y l);exact⟨h,u,m.mono λj ⟨q,s⟩=>Zo.mpr ⟨(j,q),c j q s,rfl⟩⟩
end Py
variable {ow:Py.c1}
namespace Py
noncomputable def gX(w:Io):Bool:=w.params.followText "set-order"
theorem D7(v:H8){R:Vs}(fin:R (.ref s.heap.objs.size) {s with heap:=s.heap.push (cB (!gX w))}):codeAny (model prog w) A (.call (.builtin "set.__new__") ⟨[.type "set",v],[]⟩) (wants R E) s:=by
 refine L4 (Za (m:=checkBuiltinCall "set.__new__" ⟨[.type "set",v],[]⟩) (wpAny_of_eq (F.newCall_set_1 v) (Zd ⟨Lm F.plain_set_new _,Jr F.entry_set_new ?_⟩)));rw[Jp F.plain_set_new _];have S:=sub_set_self;unfold I_.«set.__new__» Builtin.Frozenset.newClass;cases s;dsimp only
 wp_walk
 exact JD (Zd (Za (wpAny_alloc (Zd (Zd fin)))))
open SetTable (Probe turns)
abbrev cv(prog:Ia)(w:Io)(h:Ig)(k:Li)(a:H7):Prop:=IsTupleKey (intKind prog w) h k a
abbrev hK(prog:Ia)(w:Io)(k:Li):Int:=tupleKeyHash (intKind prog w) k
theorem cv.kept{k:Li}(x:cv prog w h k a)(K:∀o,h.get? a=some o->h'.get? a=some o):cv prog w h' k a:=by obtain⟨o,items,n,g,r⟩:=x;exact⟨o,_,n,K o g,r⟩
theorem xH{k:Li}{vs:Lv}(h:ItemsAre (intKind prog w) k vs):∀v∈vs,∃i t,v=.int i t:=by
 induction h with
 |nil=>intro v H;cases H
 |cons a _ I=>
  intro v H;rcases Zj.mp H with rfl|H
  ·obtain⟨t,b⟩:=MH a;exact⟨_,t,b⟩
  ·exact I v H
theorem xI{k:Li}{Q:Bool->HZ->Prop}(x:cv prog w s.heap k a)(q:Q HY s):wpAny (model prog w) A (ofAClassStatement 8 (.ref a)) Q E s:=by
 have c:=x.typeIs;obtain⟨o,items,n,f,_,d,e⟩:=x;have h:=xH e;unfold ofAClassStatement;refine Za (JB c ?_);refine Za (Zd ?_);refine Za (IK f d ?_);refine Za ?_;rw[<-ME];refine JC _ (λR r S=>r.1=none/\S=s/\∀v∈R,∃i t,v=LV i t) _ ?_ ?_ _ _ ⟨rfl,rfl,h⟩
 ·rintro v R r S ⟨H,rfl,b⟩;obtain⟨i,t,rfl⟩:=b v Ze;exact Zd ⟨rfl,rfl,λu g=>b u (Zc _ g)⟩
 ·rintro⟨j,l⟩ S ⟨H,rfl,_⟩;subst H;exact Zd q
theorem xJ{k:Li}{Q:Bool->HZ->Prop}(x:cv prog w s.heap k a)(q:Q HX s):wpAny (model prog w) A (hashByValue 8 (.ref a)) Q E s:=by
 have c:=x.typeIs;obtain⟨o,items,n,f,_,d,e⟩:=x;have h:=xH e;refine Za (wpAny_specialOf c F.slot_tuple_hash.lookup ?_);refine Za (IK f d ?_);refine Za ?_;rw[<-ME];refine JC _ (λR r S=>r.1=none/\S=s/\∀v∈R,∃i t,v=LV i t) _ ?_ ?_ _ _ ⟨rfl,rfl,h⟩
 ·rintro v R r S ⟨H,rfl,b⟩;obtain⟨i,t,rfl⟩:=b v Ze;exact Zd ⟨rfl,rfl,λu g=>b u (Zc _ g)⟩
 ·rintro⟨j,l⟩ S ⟨H,rfl,_⟩;subst H;exact Zd q
theorem rg{k:Li}{b:H7}(x:cv prog w s.heap k b)(l:Lv){Q:Bool->HZ->Prop}(e:∀v∈l,∃K a,v=.ref a/\cv prog w s.heap K a)(q:Q HY s):wpAny (model prog w) A (searchCouldBeSeen (.ref b) l) Q E s:=by
 refine Za ?_;refine JC _ (λR r S=>r.1=none/\S=s/\∀v∈R,v∈l) _ ?_ ?_ _ _ ⟨rfl,rfl,λ_ h=>h⟩
 ·rintro v R r S ⟨c,rfl,d⟩;obtain⟨K,a,rfl,y⟩:=e v (d v Ze);have g:=λu f=>d u (Zc _ f);by_cases H:(b==a||carriedByValue (.ref b)&&carriedByValue (.ref a))=HX
  ·rw[if_pos H];exact Zd ⟨rfl,rfl,g⟩
  ·rw[if_neg H];refine Za (M7 x ?_);refine Za (M7 y ?_);exact Za (xI x (Za (xI y (Zd ⟨rfl,rfl,g⟩))))
 ·rintro⟨i,j⟩ S ⟨c,rfl,_⟩;subst c;exact Zd q
end Py
namespace Py
open SetTable (Probe turns)
theorem xK{t:IA}(f:gj t.place){hashAt:Nat->Int}{h:Int}{p:Nat->Probe}{n:Nat}(b:∀m,m<n->(p m).j∈t.place.toList):∀(d m:Nat),n-m=d->m<=n->
  ∃M,m<=M/\M<=n/\(∀i,m<=i->i<M->∃q,t.slot (p i).j=.live q/\hashAt q≠h)/\(M=n\/∃q,t.slot (p M).j=.live q/\hashAt q=h)
 |0,m,e,a=>⟨m,Zf _,a,λi c H=>by grind,.inl (by grind)⟩
 |d+1,m,e,a=>by
  obtain⟨q,_,_,l⟩:=xB f (b m (by omega));by_cases z:hashAt q=h
  ·exact⟨m,Zf _,a,λi c H=>by lia,.inr ⟨q,l,z⟩⟩
  ·obtain⟨M,c,H,o,g⟩:=xK f b d (m+1) (by grind) (by lia);refine⟨_,by lia,H,λi j k=>?_,g⟩
   grind
noncomputable def aX(prog:Ia)(w:Io)(c:Li×H7):Int×H8:=(hK prog w c.1,.ref c.2)
theorem lR:∀m∈[7,31,127],(m%2==0)=HY:=by decide
theorem D8{b:H7}{cs:List (Li×H7)}{t:IA}(g:s.heap.get? a=some o)(d:o.data=.set (cs.map (aX prog w)).toArray ep t)(x:Tk t (cs.map λc=>hK prog w c.1))(key:∀c∈cs,cv prog w s.heap c.1 c.2)
  {k:Li} (hx:cv prog w s.heap k b) (hu:A.units<cLine)  (hn:n<10*turns t.mask) (D:(pos t.mask (eh t.mask (hK prog w k)) n).j∉t.place.toList) (O:∀m,m<n->(pos t.mask (eh t.mask (hK prog w k)) m).j∈t.place.toList)
  {Q:SetFound->HZ->Prop} (T:k∈cs.map (·.1)->Q (.there none) s) (F:k∉cs.map (·.1)->Q (.free (pos t.mask (eh t.mask (hK prog w k)) n).j HY) s):
  ∀(f m:Nat) (st:Option Probe),n-m<f->m<=n->st.getD (t.probeStart (hK prog w k))=pos t.mask (eh t.mask (hK prog w k)) m->(∀i,i<m->∀(q:Nat) (c),t.slot (pos t.mask (eh t.mask (hK prog w k)) i).j=.live q->cs[q]?=some c->c.1≠k)->
   wpAny (model prog w) A (setSearchFrom a (.ref b) (hK prog w k) HX f st) Q E s:=by
 have hsz:(cs.map (aX prog w)).toArray.size=(cs.map λc=>hK prog w c.1).length:=by simp
 have P:t.fits (cs.map (aX prog w)).toArray.size=HX:=by rw[hsz];exact x.fits.2
 have hpl:t.place.size=cs.length:=by rw[x.siz,Zk]
 have X:∀q:Nat,(cs.map (aX prog w)).toArray[q]?=cs[q]?.map (aX prog w):=λq=>by simp
 generalize hP:(λm=>pos t.mask (eh t.mask (hK prog w k)) m)=p;have H:∀m,pos t.mask (eh t.mask (hK prog w k)) m=p m:=λm=>congrFun hP m;intro f
 induction f with
 |zero=>intro m st h;omega
 |succ f ih=>
  intro m st hf hm hst Y;obtain⟨M,h1,h2,h3,h4⟩:=xK (hashAt:=λi=>(((cs.map (aX prog w)).toArray[i]?).map (·.1)).getD 0) (h:=hK prog w k) x.ris (p:=p) (n:=n) (λm hm=>by rw[<-H];exact O m hm) (n-m) m rfl hm;have K:∀i,pos t.mask (p m) i=p (m+i):=λi=>by rw[<-H,<-H,gW]
  obtain⟨g1,g2⟩:=xD (t:=t) (hashAt:=λi=>(((cs.map (aX prog w)).toArray[i]?).map (·.1)).getD 0) (h:=hK prog w k) (M-m) (10*turns t.mask) (p m) (by omega) (by rw[<-H,rc];rfl) (λi hi=>by rw[K];exact h3 (m+i) (by omega) (by omega));rw[K,show m+(M-m)=M by omega]at g1 g2;rw[K,show m+(M-m+1)=M+1 by omega]at g2;have U:∀(q:Nat) (c),cs[q]?=some c->(((cs.map (aX prog w)).toArray[q]?).map (·.1)).getD 0=hK prog w c.1:=λq c e=>by rw[X,e];rfl
  unfold setSearchFrom;refine Za (IM g d P ?_);dsimp only;refine J1 ?_;rw[if_neg (by unfold SetTable.gaveWay;rw[lR _ x.msk];decide),hst,H];generalize hz:t.probe _ _ _=met;rcases h4 with rfl| ⟨q,I,hh⟩
  ·have V:t.slot (p M).j=.empty:=xC x.dum (by rw[<-H];exact D);have e:met=some (.empty (p M).j none):=hz.symm.trans (g1 V);subst e;dsimp only;rw[H]at F;refine Zd (F λL=>?_);obtain⟨c,hc,rfl⟩:=Zo.mp L;obtain⟨q,I,e⟩:=ZP.mp hc;have hqp:q<t.place.size:=by omega
   have j:=xA x.ris hqp;have l:cs[q]?=some c:=by rw[Zh I,e]
   obtain⟨N,e0,f0⟩:=x.fnd (hK prog w c.1,t.place[q]) (by refine ZP.mpr ⟨q,by simp;omega,?_⟩;simp[e]);have e0:(p N).j=t.place[q]:=by rw[<-H];exact e0
   have hin:(p N).j∈t.place.toList:=by rw[e0];simp
   have hlt:N<M:=by
    by_cases z:N<M
    ·exact z
    ·by_cases zz:N=M
     ·subst zz;exact absurd (by rw[H];exact hin) D
     ·exact absurd (f0 M (by omega)) D
   rw[<-e0]at j;by_cases zz:N<m
   ·exact Y N zz q c (by rw[H];exact j) l rfl
   ·obtain⟨q',Z,C⟩:=h3 N (by omega) hlt;rw[j]at Z;cases Z;exact C (U q c l)
  ·have e:met=some (.candidate (p M).j q (p (M+1))):=hz.symm.trans (g2 q I hh);subst e;dsimp only
   have hmn:M<n:=by
    by_cases z:M=n
    ·subst z;rw[xC x.dum (by rw[<-H];exact D)]at I;cases I
    ·omega
   obtain⟨q',hq1,hq2,hq3⟩:=xB x.ris (O M hmn);rw[H,I]at hq3;cases hq3;have hqc:q<cs.length:=by omega
   obtain⟨c,l⟩:∃c,cs[q]?=some c:=⟨_,Zh hqc⟩;have G:=Zq l;have hy:=key c G;have W:(cs.map (aX prog w)).toArray[q]?=some (hK prog w c.1,.ref c.2):=by rw[X,l];rfl
   have R:wpAny (model prog w) A (do
     let some (_,y):=(cs.map (aX prog w)).toArray[q]? |unsupported "internal:set-entry"
     let u <-holding [y] (eqBool y (.ref b))
     let(es',_,t') <-setState a
     if HX&&u then return SetFound.there none
     let some same:=t'.sameMemory t.moves t.mask|unsupported "set.changed-during-lookup:is-the-new-block-at-the-old-address"
     let S <-match(if same then t'.slot (p M).j else .empty)with
      | .live i'=>match es'[i']? with
       |some (_,y')=>do pure (if <-isSame y' y then some i' else none)
       |none=>pure none
      |_=>pure none
     match S with
     |none=>rule "set.search.anew";setSearchFrom a (.ref b) (hK prog w k) HX f none
     |some i'=>if u then return .there (some i')else setSearchFrom a (.ref b) (hK prog w k) HX f (some (p (M+1)))) Q E s:=by
    rw[W];dsimp only;refine Za (ZE (wpAny_eqBool_tuple hu hy hx ?_));refine Za (IM g d P ?_);dsimp only;by_cases L:c.1=k
    ·rw[ZO L];exact Zd (T (Zo.mpr ⟨c,G,L⟩))
    ·rw[Zx L];have hsm:t.sameMemory t.moves t.mask=some HX:=by unfold SetTable.sameMemory;rw[if_pos (beq_self_eq_true _)]
     rw[hsm];dsimp only;simp only[Bool.and_false,ZQ,if_false,if_true];rw[I];dsimp only;rw[W];dsimp only;refine Za (wpAny_isSame_ref_self (Za (Zd ?_)));rw[if_pos rfl];dsimp only;refine ih (M+1) (some (p (M+1))) (by omega) (by omega) (by rw[H];rfl) λi hi q' c' B r=>?_;rw[H]at B;by_cases z:i<m
     ·exact Y i z q' c' (by rw[H];exact B) r
     ·by_cases zz:i=M
      ·subst zz;rw[I]at B;cases B;rw[l]at r;cases r;exact L
      ·obtain⟨q2,J,C⟩:=h3 i (by omega) (by omega);rw[B]at J;cases J;rw[U _ _ r]at C;exact λe=>C (by rw[e])
   by_cases hl:t.led=HX
   ·rw[hl];exact R
   ·rw[Ki.mpr hl];refine J1 ?_;rw[if_pos (by decide)];refine Za (rg hx _ (λv hv=>?_) ?_)
    ·obtain⟨e,he,rfl⟩:=Zo.mp hv;have he2:=(Array.mem_filter.mp (Array.mem_toList_iff.mp he)).1;have he3:e∈cs.map (aX prog w):=by simpa using he2
     obtain⟨c2,r,rfl⟩:=Zo.mp he3;exact⟨c2.1,c2.2,rfl,key c2 r⟩
    ·exact R
end Py
namespace Py
open SetTable (Probe turns)
def D_(prog:Ia)(w:Io)(h:Ig)(a:H7)(cs:List (Li×H7)):Prop:=∃o ep t,h.get? a=some o/\o.ExactSet/\o.data=.set (cs.map (aX prog w)).toArray ep t/\t.led=(!gX w)/\t.plain=HX/\Tk t (cs.map λc=>hK prog w c.1)
structure c5 (prog:Ia)(w:Io)(h:Ig)(a:H7)(cs:List (Li×H7)):Prop where
 obj:D_ prog w h a cs
 key:∀c∈cs,cv prog w h c.1 c.2
 nod:(cs.map (·.1)).Nodup
theorem c5.kept{cs:List (Li×H7)}(x:c5 prog w h a cs)(k:∀b o,h.get? b=some o->(b=a\/∃c∈cs,b=c.2)->h'.get? b=some o):c5 prog w h' a cs:=by obtain⟨⟨o,E,t,g,r⟩,y,z⟩:=x;exact⟨⟨o,_,t,k a o g (.inl rfl),r⟩,λc H=>(y c H).kept λo e=>k _ o e (.inr ⟨c,H,rfl⟩),z⟩
theorem xL{es es':Array (Int×H8)}{t t':IA}(g:h.get? a=some o)(E:o.ExactSet)(d:o.data=.set es ep t):
  ∃o',(h.update a (LU es' t')).get? a=some o'/\o'.ExactSet/\o'.data=.set es' (ep+1) t':=by
 have e:(h.update a (LU _ t')).get? a=some _:=IB _ g (by rw[putSet_of es' _ d];rfl);rw[putSet_of _ _ d]at e;exact⟨_,e,E,rfl⟩
theorem lS{cs:List (Li×H7)}{t:IA}{Q:Unit->HZ->Prop}(g:s.heap.get? a=some o)(m:o.ExactSet)(d:o.data=.set (cs.map (aX prog w)).toArray ep t)(F:t.fits cs.length=HX)
  (q:d0 (Ja wanted-1)) (u:cs.length*5<(Ja wanted-1)*3) (hw:Ja wanted<=128) (l:t.led=(!gX w)) (pl:t.plain=HX)
  (fin:∀h' C,IZ a s.heap h'->C.Perm cs->D_ prog w h' a C->Q () {s with heap:=h'}):wpAny (model prog w) A (setRelay a wanted) Q E s:=by
 obtain⟨T,O,b,P,f,i,x⟩:=D6 (t:=t) (hs:=cs.map λc=>hK prog w c.1) (wanted:=wanted) q (by grind);rw[Zk]at P;have p:(O.toList.filterMap (cs[·]?)).Perm cs:=by refine(P.filterMap _).trans (.of_eq ?_);have:=MD cs.toArray;simpa using this
 have X:Tk T ((O.toList.filterMap (cs[·]?)).map λc=>hK prog w c.1):=by
  grind
 have j:O.filterMap ((cs.map (aX prog w)).toArray[·]?)=((O.toList.filterMap (cs[·]?)).map (aX prog w)).toArray:=by apply Array.ext';rw[Array.toList_filterMap,List.map_filterMap];simp_all
 have n:(cs.map (aX prog w)).toArray.map (·.1)=(cs.map λc=>hK prog w c.1).toArray:=by rw[List.map_toArray,I7];rfl
 unfold setRelay;refine Za (IM g d (by grind) ?_);dsimp only;refine J1 ?_;rw[if_neg (by rw[JA];omega),n,b];refine Za ?_;show wpAny _ _ (if((O.filterMap ((cs.map (aX prog w)).toArray[·]?)).size !=(cs.map (aX prog w)).toArray.size)=HX then _ else _) _ _ _;rw[j];generalize O.toList.filterMap (cs[·]?)=C at p X
 have h:(C.map (aX prog w)).toArray.size=(cs.map (aX prog w)).toArray.size:=by rw[Zs,Zs,Zk,Zk,p.length_eq]
 rw[h,bne_self_eq_false,if_neg (by decide)];refine Zd (wpAny_storeSet_of g d ?_ ?_)
 ·obtain⟨r,G,e,d1⟩:=xL (es':=(C.map (aX prog w)).toArray) (t':=T) g m d;exact fin _ C (Z1 ..) p ⟨r,_,T,G,e,d1,f.trans l,i.trans pl,X⟩
 ·refine fits_of_scanBound ?_;rw[Zs,Zk,p.length_eq];unfold scanBound
  grind
theorem xM{b:H7}{cs:List (Li×H7)}{k:Li}{Q:Bool->HZ->Prop}(x:c5 prog w s.heap a cs)(hx:cv prog w s.heap k b)(hu:A.units<cLine)(few:cs.length<76)
  (fin:∀h' C r,IZ a s.heap h'->c5 prog w h' a C->(∀K,K∈C.map (·.1)↔K∈cs.map (·.1)\/K=k)->(∀c∈C,c∈cs\/c=(k,b))->C.length<=cs.length+1->Q r {s with heap:=h'}):
  wpAny (model prog w) A (setAddHashed a (.ref b) (hK prog w k)) Q E s:=by
 obtain⟨o,ep,t,g,ex,d,M,X,T⟩:=x.obj;have N:∀{K:Li} {Z:H7},cv prog w s.heap K Z->Z≠a:=λ{K Z} y e=>by obtain⟨o',_,_,g',_,d',_⟩:=y;subst e;rw[g]at g';cases g';rw[d]at d';cases d'
 have F:t.fits (cs.map (aX prog w)).toArray.size=HX:=by have:=T.fits.2;rw[Zk]at this;rw[Zs,Zk];exact this
 have hsz:t.place.size=cs.length:=by rw[T.siz,Zk]
 obtain⟨n,hn,J,B⟩:=DZ T.msk (pl:=t.place.toList) (by rw[ZI];exact T.fits.1) (hK prog w k);have hmsk:=(by simpa[d0]using T.msk:t.mask=7\/t.mask=31\/t.mask=127);unfold setAddHashed setAddHashedIn;refine ZE (Za (IM g d F ?_));dsimp only;refine J1 ?_;rw[if_neg (show ¬byScan (.ref b) (cs.map (aX prog w)).toArray=HX by unfold byScan;rw[show(I9 b).scannable=HY from rfl];simp)];unfold setSearch;refine Za (D8 g d T x.key hx hu hn J B (λhin=>?_) (λL=>?_) 100000 0 none (by unfold turns at hn;omega) (ZT _) rfl (λi hi=>by omega))
 ·exact Zd (fin s.heap cs HY (Heap.SameBut.refl ..) x (λK=>⟨.inl,λz=>z.elim id λe=>e▸hin⟩) (λc l=>.inl l) (Nat.le_succ _))
 ·dsimp only;refine Za (IM g d F ?_);dsimp only;obtain⟨p1,p2,O,R,p5,V,p7,W⟩:=T.put J B;generalize(pos t.mask (eh t.mask (hK prog w k)) n).j=j at*;rw[Zk]at O;refine J1 ?_;rw[if_pos (show(t.put j).1.plain=HX from V.trans X)];refine Za (xJ hx ?_);simp only[if_true];generalize hput:t.put j=r at*;obtain⟨u,p⟩:=r;dsimp only at p1 p2 O R p5 V p7 W⊢;have hes:IV (cs.map (aX prog w)).toArray p (hK prog w k,I9 b)=((cs.take p++(k,b)::cs.drop p).map (aX prog w)).toArray:=by apply Array.ext';rw[LA,Jh,ZH,K1,Kk];rfl
  have hhs:(cs.take p++(k,b)::cs.drop p).map (λc=>hK prog w c.1)=(cs.map λc=>hK prog w c.1).take p++hK prog w k::(cs.map λc=>hK prog w c.1).drop p:=by rw[Jh,ZH,K1,Kk]
  rw[<-hhs]at W;rw[hes];have pm:(cs.take p++(k,b)::cs.drop p).Perm ((k,b)::cs):=by refine JS.trans (.cons _ (.of_eq (KH p cs)))
  generalize cs.take p++(k,b)::cs.drop p=f at W pm⊢;have H:f.length=cs.length+1:=by rw[pm.length_eq,Zp]
  have rW:(f.map (aX prog w)).toArray.size<scanBound:=by rw[Zs,Zk];unfold scanBound;omega
  have G:(cs.map (aX prog w)).toArray.size=cs.length:=by simp
  refine Za (wpAny_storeSet_of g d ?_ (fits_of_scanBound rW));obtain⟨o1,g1,v,d1⟩:=xL (es':=(f.map (aX prog w)).toArray) (t':=u) g ex d;have S:=Z1 s.heap a (LU (f.map (aX prog w)).toArray u)
  have D:∀h' C,IZ a s.heap h'->C.Perm f->D_ prog w h' a C->Q HX {s with heap:=h'}:=λh' C Y q ob=>by
   have P:=q.trans pm
   have pk:∀c∈C,c∈cs\/c=(k,b):=λc l=>by
    rcases Zj.mp (P.mem_iff.mp l)with e|e
    ·exact .inr e
    ·exact .inl e
   refine fin h' C HX Y ⟨ob,λc l=>?_,?_⟩ (λK=>?_) pk (by rw[P.length_eq];exact Zf _)
   ·have y:cv prog w s.heap c.1 c.2:=by
     rcases pk c l with e|e
     ·exact x.key c e
     ·rw[e];exact hx
    exact y.kept λo e=>by rw[Y.2 c.2 (N y)];exact e
   ·refine((P.map (·.1)).nodup_iff).mpr ?_;rw[ZH,IX];exact⟨L,x.nod⟩
   ·rw[(P.map (·.1)).mem_iff,ZH,Zj];exact Or.comm
  have h:u.fill=cs.length+1:=by unfold J6;rw[O,p1];rfl
  cases U:u.tooFull with
  |false=>rw[if_neg (by decide)];refine Zd (D _ f S (.refl _) ⟨o1,_,u,g1,v,d1,p5.trans M,V.trans X,p1,p2,by rw[Zk,O,H],by rw[R];exact T.msk,U,by rw[R];exact W⟩)
  |true=>
   rw[if_pos (by decide),G];refine Za ?_;have hfull:(cs.length+1)*5>=t.mask*3:=by unfold Kd at U;rw[h,R]at U;exact Z0 U
   have hnot:¬(cs.length*5>=t.mask*3):=by have:=T.ful;unfold Kd J6 at this;rw[T.dum,hsz]at this;exact of_decide_eq_false this
   have I:u.fits f.length=HX:=by
    unfold Lz;rw[h,O,H,R];have:cs.length+1<=t.mask:=by omega
    simp[this]
   have l:cs.length+1=5\/cs.length+1=19:=by omega
   refine lS (s:={s with heap:=s.heap.update a (LU (f.map (aX prog w)).toArray u)}) (cs:=f) g1 v d1 I ?_ ?_ ?_ (p5.trans M) (V.trans X) λh' C Y q ob=>Zd (D h' C (S.trans Y) q ob)
   ·rcases l with e|e<;>rw[e]<;>(unfold d0;decide+kernel)
   ·rw[H];rcases l with e|e<;>rw[e]<;>decide+kernel
   ·rcases l with e|e<;>rw[e]<;>decide+kernel
end Py
namespace Py
section
variable {R:KS->HZ->Prop}{P:Nat->H8->Prop}{St:Nat->Ig->Prop}
end
section
variable {R:KS->HZ->Prop}{P:Nat->H8->Prop}{St:Nat->Ig->Prop}
end
structure xN (prog:Ia)(w:Io)(A:IH)(s:HZ)(vs:Av)(led:Bool)(Post:Ig->Prop):Prop where
 go:∀{I:H7} {fp wr:La} {St:Nat->Ig->Prop} {R:KS->HZ->Prop} (s':HZ),Walks prog w A.in1.in1.in1 I fp wr vs.size (λi v=>vs[i]?=some v) St->s.heap.objs.size∉fp->St 0 s'.heap->(∀b o,(s.heap.push (cB led)).get? b=some o->s'.heap.get? b=some o)->(∀b∈wr,s.heap.objs.size<b)->
   (∀h' tk,(∀b o,b∉wr->b≠s.heap.objs.size->s'.heap.get? b=some o->h'.get? b=some o)->Post h'->R (.ok (.ret .none)) {s' with heap:=h',toks:=tk})->codeAny (model prog w) A.in1.in1 (.builtin "set.update.loop" ⟨[.ref s.heap.objs.size,.ref I],[]⟩) R s'
theorem Ea{t:H7}{vs:Av}{P:Ig->Prop}(hh:A.handled=none)(B:s.heap.IsList t vs\/s.heap.IsTuple t vs)
  (L:xN prog w A s vs (!gX w) P)
  (h:∀(h':Ig) (tk:Nat),P h'->(∀b o,b<s.heap.objs.size->s.heap.get? b=some o->h'.get? b=some o)->Q (.ref s.heap.objs.size) {s with heap:=h',toks:=tk}):wpAny (model prog w) A (call (.type "set") [.ref t]) Q E s:=by
 obtain⟨c,tl,Z⟩:=F.called_set.mro;have U:=F.called_set.made;have hsub:=F.called_set.sub;refine Mh (L4 ?_);show wpAny _ _ (callAny (.type "set") _) _ _ _;refine Zd ⟨MN _ (by decide+kernel),Jr F.entry_type_call ?_⟩;rw[Around.under_plain (weight_type_call_type "set" [.ref t] []) rfl];have g1:=F.called_set.notType;have g2:=F.called_set.canCreate;have g3:=F.typeCall_set_1 (.ref t)
 repeat(any_goals (first|assumption|wp_step))
 refine JU (D7 (.ref t) (E:=E) (R:=λobj S=>obj=.ref s.heap.objs.size/\S={s with heap:=s.heap.push (cB (!gX w))}) ⟨rfl,rfl⟩) λr S V=>?_;cases r with
 |error e=>exact V
 |ok fl=>
  cases fl with
  |ret obj=>
   obtain⟨rfl,rfl⟩:=V;generalize(!gX w)=l at L⊢;have hS:(s.heap.push (cB l)).get? s.heap.objs.size=some (cB l):=Zg _ rfl;have hT:LM {s with heap:=s.heap.push (cB l)} (.ref s.heap.objs.size) "set":=⟨_,hS,rfl⟩;have hli:=F.called_set.init.lookup;have hbi:=F.called_set.init.bind (.ref s.heap.objs.size)
   repeat(any_goals (first|assumption|wp_step))
   refine JU (K7 (R:=wants (λr q=>r=.none/\∃h' tk,q={s with heap:=h',toks:=tk}/\P h'/\
     (∀b o,b<s.heap.objs.size->s.heap.get? b=some o->h'.get? b=some o)) E) F.called_set.init.plain F.entry_set_init (check_set_init_1 hT ?_)) λJ q H=>?_
   ·have D:A.in1.in1.in1.handled=none:=by simp[hh]
    have W:(s.heap.push (cB l)).objs.size=s.heap.objs.size+1:=Js ..;have G:t<s.heap.objs.size:=by rcases B with⟨_,d,_⟩| ⟨_,d,_⟩<;>exact Zi d
    have n:t≠(s.heap.push (cB l)).objs.size:=by rw[W];exact Zu (Nat.lt_succ_of_lt G)
    have C:s.heap.objs.size∉[(s.heap.push (cB l)).objs.size,t]:=by rw[W];simp only[Zj,Zy,or_false,not_or];exact⟨Zu (Jx _),JJ G⟩
    have x:∀b∈[(s.heap.push (cB l)).objs.size],s.heap.objs.size<b:=λb m=>by rw[W,Jd]at m;rw[m];exact Jx _
    have p:∀b,b<s.heap.objs.size->b∉[(s.heap.push (cB l)).objs.size]:=λb m z=>by have:=x b z;omega
    rcases B with B|B
    ·obtain⟨⟨I,a,y,O⟩,d,f,nl,g⟩:=B;simp only at f g;subst f;subst g;have k:(s.heap.push (cB l)).get? t=some {cls:=.type "list",dict:=a,data:=.seq vs nl,slots:=O}:=Zb _ d;have q1:=F.sub_list_set;have q2:=F.sub_list_frozenset;have q3:(II "list"==II "dict")=HY:=by decide
     have j:(s.heap.push (cB l)).IsList t vs:=⟨_,k,rfl,nl,rfl⟩;unfold I_.«set.__init__» noKeywords KC;generalize v:pyIter=PI
     wp_walk
     subst v;refine I' j (Za (Mo ?_));exact L.go _ (Walks.list D _ t n vs) C ⟨⟨_,Zg _ rfl,rfl,rfl⟩,(j.push _)⟩ (λb o e=>Zb _ e) x λh' T X Y=>Zd (Zd ⟨rfl,h',T,rfl,Y,λb o m e=>X b o (p b m) (Zu m) (Zb _ (Zb _ e))⟩)
    ·obtain⟨⟨I,a,y,O⟩,d,f,nl,g⟩:=B;simp only at f g;subst f;subst g;have k:(s.heap.push (cB l)).get? t=some {cls:=.type "tuple",dict:=a,data:=.seq vs nl,slots:=O}:=Zb _ d;have q1:=F.sub_tuple_set;have q2:=F.sub_tuple_frozenset;have q3:(II "tuple"==II "dict")=HY:=by decide
     have j:(s.heap.push (cB l)).IsTuple t vs:=⟨_,k,rfl,nl,rfl⟩;unfold I_.«set.__init__» noKeywords KC;generalize v:pyIter=PI
     wp_walk
     subst v;refine IY j (Za (Mo ?_));exact L.go _ (Walks.tuple D _ t n vs) C ⟨⟨_,Zg _ rfl,rfl,rfl⟩,(j.push _)⟩ (λb o e=>Zb _ e) x λh' T X Y=>Zd (Zd ⟨rfl,h',T,rfl,Y,λb o m e=>X b o (p b m) (Zu m) (Zb _ (Zb _ e))⟩)
   ·cases J with
    |error e=>exact H
    |ok u=>
     cases u with
     |ret r=>
      obtain⟨rfl,h',tk,rfl,M,N⟩:=H
      repeat(any_goals (first|assumption|wp_step))
      exact h _ _ M N
     |_=>exact H.elim
  |_=>exact V.elim
theorem c5.born(h:Ig):c5 prog w (h.push (cB (!gX w))) h.objs.size []:=⟨⟨_,0,_,Zg _ rfl,⟨rfl,rfl,rfl⟩,rfl,rfl,rfl,rfl,λi j H=>absurd H (Nat.not_lt_zero _),rfl,Ze,rfl,λx b=>by simp_all⟩,λc a=>(by simp_all),.nil⟩
theorem rh{R:KS->HZ->Prop}{P:Nat->H8->Prop}{St:Nat->Ig->Prop}(W:Walks prog w A.in1 I fp wr n P St)(S:H7)(out:S∉fp)(D:∀b∈wr,S<b)(val:Nat->Li×H7)(p:∀i v,P i v->v=.ref (val i).2)(X:A.in1.units<cLine)(few:n<76):
  ∀(k i:Nat) (s:HZ) (cs:List (Li×H7)),n-i=k->i<=n->St i s.heap->c5 prog w s.heap S cs->(∀j,j<n->cv prog w s.heap (val j).1 (val j).2/\(val j).2<S)->(∀c∈cs,∃j,j<n/\c=val j)->(∀K,K∈cs.map (·.1)↔∃j,j<i/\(val j).1=K)->cs.length<=i->
  (∀h' tk C,(∀b o,b∉wr->b≠S->s.heap.get? b=some o->h'.get? b=some o)->c5 prog w h' S C->(∀K,K∈C.map (·.1)↔∃j,j<n/\(val j).1=K)->(∀c∈C,∃j,j<n/\c=val j)->R (.ok (.ret .none)) {s with heap:=h',toks:=tk})->
  codeAny (model prog w) A (.builtin "set.update.loop" ⟨[.ref S,.ref I],[]⟩) R s:=by
 have nS:S∉wr:=λz=>out (W.sub S z);have low:∀b,b<S->b∉wr:=λb g z=>Iq _ (Lc g (D b z));intro k
 induction k with
 |zero=>
  intro i s cs Y Z a x tup M G len fin;have L:∀c∈cs,c.2<S:=λc H=>let⟨j,h,e⟩:=M c H;e▸(tup j h).2
  obtain rfl:i=n:=by omega
  exact Jr Mu (by rw[Jp KD];exact Za (W.done s _ _ a λh' tk d=>Zd (fin h' tk cs (λb o N _ e=>d b o N e) (x.kept λb o e g=>d b o (by rcases g with rfl| ⟨c,H,rfl⟩;exact nS;exact low _ (L c H)) e) G M)))
 |succ k ih=>
  intro i s cs Y Z a x tup M G len fin;have L:∀c∈cs,c.2<S:=λc H=>let⟨j,h,e⟩:=M c H;e▸(tup j h).2
  have lt:i<n:=by omega
  refine Jr Mu ?_;rw[Jp KD];refine Za (W.item i s _ _ lt a λv h' tk pv q d=>?_);obtain rfl:=p i v pv;have x1:c5 prog w h' S cs:=x.kept λb o e g=>d b o (by rcases g with rfl| ⟨c,H,rfl⟩;exact nS;exact low _ (L c H)) e;have t:∀j,j<n->cv prog w h' (val j).1 (val j).2/\(val j).2<S:=λj h=>⟨(tup j h).1.kept λo e=>d _ o (low _ (tup j h).2) e,(tup j h).2⟩;refine Za (m:=holding [I9 (val i).2] (setAdd S (.ref (val i).2))) (ZE ?_);unfold setAdd;refine ZE (Za (wpAny_pyHash_tuple X (t i lt).1 ?_));refine xM (s:={s with heap:=h',toks:=tk+((val i).1.length+1)}) x1 (t i lt).1 X (by omega) λh2 f b Q x2 B r d_=>?_
  have J:∀K,K∈f.map (·.1)↔∃j,j<i+1/\(val j).1=K:=λK=>by
   rw[B K,G K];constructor
   ·rintro(⟨j,h,e⟩|rfl)
    ·exact⟨j,by omega,e⟩
    ·exact⟨i,by omega,rfl⟩
   ·rintro⟨j,h,e⟩;by_cases z:j=i
    ·subst z;exact .inr e.symm
    ·exact .inl ⟨j,by omega,e⟩
  refine Zd ⟨Lm KD _,ih (i+1) _ f (by omega) lt (W.frame _ _ _ q λb fb o e=>?_) x2 (λj h=>⟨(t j h).1.kept λo e=>?_,(t j h).2⟩) (λc H=>?_) J (by omega) λh3 U y E x3 O u=>?_⟩
  ·rw[Q.2 b λz=>out (z▸fb)];exact e
  ·rw[Q.2 _ (Zu (t j h).2)];exact e
  ·rcases r c H with z|z
   ·exact M c z
   ·exact⟨i,lt,z⟩
  ·refine fin h3 U y (λb o N V e=>E b o N V ?_) x3 O u;rw[Q.2 b V];exact d b o N e
theorem Eb{t:H7}{vs:Av}(x:A.handled=none)(M:A.units+64<cLine)(I:s.heap.IsList t vs\/s.heap.IsTuple t vs)(d:vs.toList=ks.map λc=>I9 c.2)(G:∀c∈ks,cv prog w s.heap c.1 c.2)(F:ks.length<76)
  (h:∀(h':Ig) (tk:Nat),(∃cs,c5 prog w h' s.heap.objs.size cs/\(∀q,q∈cs.map (·.1)↔q∈ks.map (·.1))/\∀c∈cs,c∈ks)->
   (∀b o,b<s.heap.objs.size->s.heap.get? b=some o->h'.get? b=some o)->Q (.ref s.heap.objs.size) {s with heap:=h',toks:=tk}):wpAny (model prog w) A (call (.type "set") [.ref t]) Q E s:=by
 have n:vs.size=ks.length:=by rw[<-ZI,d,Zk]
 have H:∀i,i<ks.length->ks.getD i ([],0)∈ks/\ks[i]?=some (ks.getD i ([],0)):=λi B=>by
  grind
 refine Ea x I ⟨λO W out S r f fin=>?_⟩ h;refine rh W s.heap.objs.size out f (λi=>ks.getD i ([],0)) (λi v N=>?_) (by grind) (by omega) (vs.size-0) 0 _ [] (by omega) (ZT _) S ((c5.born s.heap).kept λb o e _=>r b o e) (λj D=>?_) (λc a=>by cases a) (λk=>⟨λz=>(by cases z),λ⟨i,z,_⟩=>(by omega)⟩) (Zf _) λh' T C K X p m=>fin h' T K ⟨C,X,λk=>(p k).trans ⟨λ⟨i,z,e⟩=>?_,λz=>?_⟩,λc a=>let⟨j,D,e⟩:=m c a;e▸(H j (by omega)).1⟩
 ·have J:vs.toList[i]?=some v:=by grind
  grind
 ·have y:=G _ (H j (by omega)).1;refine⟨y.kept λo e=>r _ o (Zb _ e),?_⟩;obtain⟨o,_,_,g,_⟩:=y;exact Zi g
 ·grind
 ·obtain⟨c,a,e⟩:=Zo.mp z;obtain⟨i,B,L⟩:=ZP.mp a
  grind
theorem Ec:bootBuiltins "set"=some (.type "set"):=by decide+kernel
theorem xO:∀{xs:List D},xs.all (ar .int)=HX->xs=(xs.filterMap iL).map D.int
 | [],_=>rfl
 |x::xs,h=>by
  simp only[Ji,ZR]at h;cases x with
  |int i=>simp only[JZ,iL,ZH];rw[<-xO h.2]
  |_=>simp[ar]at h
theorem xP{K:Fg}{m:GS}{μ:La}{H:Hp}:∀{ns:Li} {vs:List V},ag K m μ H (ns.map D.int) vs->vs=ns.map V.int
 | [],vs,r=>by subst r;rfl
 |n::ns,vs,r=>by obtain⟨v,w,rfl,R,a⟩:=r.uncons;cases ax R;rw[xP a];rfl
theorem rj:∀(ks acc:List (Li)),acc.Nodup->(ks.foldl (λacc k=>if acc.contains k=HX then acc else acc++[k]) acc).Nodup/\∀k,k∈ks.foldl (λacc k=>if acc.contains k=HX then acc else acc++[k]) acc↔k∈acc\/k∈ks
 | [],acc,h=>⟨h,λk=>by simp⟩
 |x::ks,acc,h=>by
  by_cases z:acc.contains x=HX
  ·obtain⟨a,b⟩:=rj ks _ h
   grind
  ·obtain⟨a,b⟩:=rj ks (acc++[x]) (Jl.mpr ⟨h,by simp,λa H b c=>by grind⟩)
   grind
theorem xQ(ks:List (Li)):(iM ks).Nodup/\∀k,k∈iM ks↔k∈ks:=by obtain⟨a,b⟩:=rj _ _ KQ;exact⟨a,λk=>(b k).trans (by simp)⟩
theorem xR{prog:Ia}{w:Io}:∀{k:Li} {its:Lv},Vals (k.map V.int) its->ItemsAre (intKind prog w) k its
 | [],its,r=>by cases r;exact .nil
 |n::k,its,r=>by
  cases r with
  |cons h H=>obtain⟨t,rfl⟩:=h;exact .cons (intKind_is _ _ _ _) (xR H)
theorem lT{k:Li}(I:Inv X pq σ H s)(h:bQ X.K H a (k.map V.int)):cv X.prog X.w s.heap k a:=by obtain⟨i,r,p,_⟩:=I.tuple h;obtain⟨o,g,c,n,d⟩:=p;exact⟨o,_,n,g,c,d,xR r⟩
theorem xS:∀{ks:List (Li×H7)} {its:Lv},Vals (ks.map λc=>V.ref c.2) its->its=ks.map λc=>I9 c.2
 | [],its,r=>by cases r;rfl
 |c::ks,its,r=>by
  cases r with
  |cons h H=>cases h;rw[xS H];rfl
noncomputable def Ed(K:Fg)(H:Hp)(p:H7)(ks:List (Li×H7)):Prop:=(cP K H p (ks.map λc=>V.ref c.2)\/bQ K H p (ks.map λc=>V.ref c.2))/\(∀c∈ks,bQ K H c.2 (c.1.map V.int))/\ks.length<76
theorem lU{p:H7}{E:Vs}{Q:Vs}(g:X.calm=HX)(n:X.A.units+64<cLine)(I:Inv X pq σ H s)(h:Ed X.K H p ks)
  (fin:∀h' tk cs,c5 X.prog X.w h' s.heap.objs.size cs->(∀k,k∈cs.map (·.1)↔k∈ks.map (·.1))->(∀c∈cs,c∈ks)->Inv X pq σ H {s with heap:=h',toks:=tk}->(∀b o,s.heap.get? b=some o->h'.get? b=some o)->Q (.ref s.heap.objs.size) {s with heap:=h',toks:=tk}):wpAny (model X.prog X.w) X.A (call (.type "set") [.ref p]) Q E s:=by
 obtain⟨d,m,f⟩:=h
 obtain⟨i,r,P⟩:∃i,Vals _ i/\(s.heap.IsList p i.toArray\/s.heap.IsTuple p i.toArray):=by
  rcases d with d|d
  ·obtain⟨i,r,P,_⟩:=I.list d;exact⟨_,r,.inl P.isList⟩
  ·obtain⟨i,r,P,_⟩:=I.tuple d;exact⟨_,r,.inr P⟩
 exact Eb (I.ok.hd g) n P (xS r) (λc g=>lT I (m c g)) f λh' tk ⟨_,x,j,l⟩ K=>fin _ _ _ x j l (I.kept λb o e=>K b o (Zi e) e) λb o e=>K b o (Zi e) e
theorem xT{K:Fg}{m:GS}{μ:La}{H:Hp}:∀{xs:List D} {vs:List V},xs.all (ar (.seq .int))=HX->ag K m μ H xs vs->∃ks:List (Li×H7),vs=(ks.map λc=>V.ref c.2)/\(∀c∈ks,bQ K H c.2 (c.1.map V.int))/\ks.map (·.1)=xs.map et
 | [],vs,_,r=>by dsimp only[ag]at r;simp_all
 |x::xs,vs,h,r=>by
  simp only[Ji,ZR]at h;obtain⟨v,w,rfl,R,f⟩:=r.uncons;obtain⟨ks,rfl,g,b⟩:=xT h.2 f;cases x with
  |tup d=>
   obtain⟨a,u,rfl,j,q⟩:=bz R;rw[xO h.1]at q;have e:=xP q;refine⟨(d.filterMap _,a)::ks,rfl,λc i=>?_,by rw[ZH,b];rfl⟩
   grind
  |_=>simp[ar]at h
theorem rk(s:aC K ⟨mg,F⟩ μ S H)(r:Rep K ⟨mg,F⟩ μ H d v)(e:aA S d=some xs)(c:xs.all (ar (.seq .int))=HX/\xs.length<76):∃p ks,v=.ref p/\Ed K H p ks/\ks.map (·.1)=xs.map et:=by obtain⟨a,vs,rfl,f,R⟩:=e9 s r e;obtain⟨ks,rfl,b,h⟩:=xT c.1 R;refine⟨a,ks,rfl,⟨f,b,?_⟩,h⟩;have:=congrArg KN h;rw[Zk,Zk]at this;omega
section
variable {R:KS->HZ->Prop}{P:Nat->H8->Prop}{St:Nat->Ig->Prop}
end
theorem xU{a:Type}(f:Nat->Nat):∀(n k:Nat) (left:List a) (out:Array a),left.length=n->(pickOrder.go f n k left out).toList.Perm (out.toList++left)
 |0,k,left,out,h=>by have:left=[]:=ZL h;subst this;unfold pickOrder.go;simp
 |n+1,k,left,out,h=>by
  have H:f k%left.length<left.length:=K6 _ (by omega);unfold pickOrder.go;rw[Zh H];dsimp only;refine(xU f n (k+1) _ _ (by rw[List.length_eraseIdx_of_lt H];omega)).trans ?_;rw[Array.toList_push,List.append_assoc];refine List.Perm.append_left _ ?_;have:left=left.take (f k%left.length)++left[f k%left.length]::left.drop (f k%left.length+1):=by rw[<-Kc H,KH]
  rw[List.eraseIdx_eq_take_drop_succ];refine List.Perm.trans ?_ (List.Perm.of_eq this.symm);rw[List.singleton_append];exact(JS).symm
theorem Ee(f:Nat->Nat)(xs:Array α):(pickOrder f xs).toList.Perm xs.toList:=by have:=xU f xs.size 0 xs.toList #[] (by simp);simpa[pickOrder]using this
noncomputable def b6(w:Io)(a:H7)(ep:Nat)(es:Array (Int×H8)):List (Int×H8):=if gX w=HX then(pickOrder (w.params.setOrder a ep) es).toList else es.toList
noncomputable def bv(w:Io)(ks:List Nat):Nat->Nat
 |0=>0
 |i+1=>if gX w=HX then 0 else ks.getD i 0+1
theorem i3(w:Io)(a:H7)(ep:Nat)(es:Array (Int×H8)):(b6 w a ep es).Perm es.toList:=by
 unfold b6;split
 ·exact Ee _ _
 simp_all
structure TB (w:Io)(t:IA)(n:Nat):Prop where
 fit:t.fits n=HX
 led:t.led=(!gX w)
 pl:t.plain=HX
 ris:gj t.place
theorem TB.size{t:IA}(x:TB w t n):n=t.place.toList.length:=by have:=x.fit;unfold Lz at this;simp_all
theorem i4{t:IA}{es:Array (Int×H8)}{i:Nat}{Q:Option (H8×Nat)->HZ->Prop}(T:TB w t es.size)(g:s.heap.get? a=some o)(d:o.data=.set es ep t)(p:i<=es.size)
  (fin:Q (((b6 w a ep es)[i]?).map λe=>(e.2,bv w t.place.toList (i+1))) s):wpAny (model prog w) A (setNext a (bv w t.place.toList i) i ep) Q E s:=by
 have q:=T.size;have f:=T.fit;unfold setNext;refine Za (IM g d f ?_);dsimp only;refine Za (m:=setsByText) (Za (JD (Zd ?_)));cases h:gX w with
 |true=>
  have H:w.params.followText "set-order"=HX:=h;show wpAny _ _ (if(w.params.followText "set-order")=HX then _ else _) _ _ _;rw[if_pos H];simp only[bne_self_eq_false,ZQ,if_false];refine Za ?_;unfold setWalk;refine Za (IM g d f ?_);dsimp only;refine Za (m:=setsByText) (Za (JD (Zd ?_)));show wpAny _ _ (if(w.params.followText "set-order")=HX then _ else _) _ _ _;rw[if_pos H];refine Za (JD (Zd (Zd ?_)));have j:b6 w a ep es=(pickOrder (w.params.setOrder a ep) es).toList:=by unfold b6;rw[if_pos h]
  have k:bv w t.place.toList (i+1)=bv w t.place.toList i:=by
   cases i with
   |zero=>simp[bv,h]
   |succ i=>simp[bv,h]
  rw[j,k,JO]at fin;exact fin
 |false=>
  have H:w.params.followText "set-order"=HY:=h;show wpAny _ _ (if(w.params.followText "set-order")=HX then _ else _) _ _ _;rw[if_neg (by grind)];refine J1 ?_
  rw[if_neg (λz=>by have z:(!t.plain&&decide (es.size>1))=HX:=z;rw[T.pl]at z;simp at z)];refine Za ?_;show wpAny _ _ (if(!t.led&& !es.isEmpty)=HX then _ else pure ()) _ _ _;rw[if_neg (by rw[T.led,h];simp)];refine Zd (Zd ?_);have n:=T.ris;have j:b6 w a ep es=es.toList:=by unfold b6;rw[if_neg (by grind)]
  have l:Ib t.place (bv w t.place.toList i)=i:=by
   cases i with
   |zero=>exact DU _ n
   |succ i=>
    have b:i<t.place.size:=by grind
    have e:bv w t.place.toList (i+1)=t.place[i]+1:=by show(if gX w=HX then 0 else t.place.toList.getD i 0+1)=_;rw[h];simp[b]
    rw[e];exact DT n _
  rw[j,JO]at fin;rw[l];by_cases b:i<es.size
  ·have c:i<t.place.size:=by grind
   have k:bv w t.place.toList (i+1)=t.place[i]+1:=by show(if gX w=HX then 0 else t.place.toList.getD i 0+1)=_;rw[h];simp[c]
   rw[Il b]at fin⊢;rw[k]at fin;simpa[c]using fin
  ·rw[L5 (by omega)]at fin⊢;exact fin
theorem gY:Slot "set_iterator" "__next__" "set_iterator.__next__":=.of (owner:="set_iterator") (n:="__next__") (by rw[typeLookup_type,M8];kernel_rfl) (by decide+kernel) (by decide+kernel) (by decide+kernel) (by first|exact .inl (by decide+kernel)|exact .inr (by decide+kernel)) (by rw[Mp];kernel_rfl)
theorem xV:Slot "set_iterator" "__iter__" "set_iterator.__iter__":=.of (owner:="set_iterator") (n:="__iter__") (by rw[typeLookup_type,M8];kernel_rfl) (by decide+kernel) (by decide+kernel) (by decide+kernel) (by first|exact .inl (by decide+kernel)|exact .inr (by decide+kernel)) (by rw[Mp];kernel_rfl)
theorem Ef:entryFor table "set_iterator.__iter__"=some I_.«dict_keyiterator.__iter__»:=entryFor_alias (id':="dict_keyiterator.__iter__") (rfl) rfl (by decide+kernel) (rfl)
theorem Eg(v:H8):argsOk "set_iterator.__iter__" ⟨[v],[]⟩:=by kernel_rfl
theorem xW:entryFor table "set_iterator.__next__"=some I_.«set_iterator.__next__»:=entryFor_of_tree rfl
theorem xX(v:H8):argsOk "set_iterator.__next__" ⟨[v],[]⟩:=by kernel_rfl
theorem Eh:entryFor table "set.__iter__"=some I_.«frozenset.__iter__»:=entryFor_alias (id':="frozenset.__iter__") (rfl) rfl (by decide+kernel) (rfl)
def i5(h:Ig)(it a:H7)(sl i n ep:Nat):Prop:=∃o,h.get? it=some o/\o.cls=.type "set_iterator"/\o.data=.fields #[.int sl 0,.int i 0,.ref a,.int n 0,.int ep 0]
theorem rm{t:IA}{es:Array (Int×H8)}(T:TB w t es.size)(g:s.heap.get? a=some o)(e:o.ExactSet)(d:o.data=.set es ep (t))
  (fin:Q (.ref s.heap.objs.size) {s with heap:=s.heap.push {cls:=.type "set_iterator",data:=.fields #[.int 0 0,.int 0 0,.ref a,.int es.size 0,.int ep 0]}}):wpAny (model prog w) A (pyIter (.ref a)) Q E s:=by
 have f:=T.fit;have ty:s.TypeIs (.ref a) _:=⟨o,g,e.1⟩;refine wpAny_pyIter_slot ty F.slot_set_iter (ZJ F.slot_set_iter ty Eh ?_ (F.args_set_iter_1 _));refine Za (Za (Zd (Zd ?_)));refine Za (Za (Lf g d f (Zd ?_)));refine Za ?_;refine Za (IM g d f ?_);refine Za (Za (JD (Zd (Zd ?_))))
 rw[if_neg (show ¬_ from λz=>by have z:(!(w.params.followText _)&&(!t.plain&&decide _))=HX:=z;rw[T.pl]at z;simp at z)];exact Za (Zd (Za (wpAny_setEpoch_of g d f (Za (ZN (Zd ⟨_,rfl,_,_,⟨_,Zg _ rfl,rfl⟩,gY.lookup,fin⟩))))))
theorem lV{t:IA}{es:Array (Int×H8)}{i:Nat}{e:Int×H8}{Q:Ov->HZ->Prop}(h:i5 s.heap it a (bv w t.place.toList i) i es.size ep)(T:TB w t es.size)(g:s.heap.get? a=some o)(d:o.data=.set es ep (t))
  (f:(b6 w a ep es)[i]?=some e) (fin:∀h',i5 h' it a (bv w t.place.toList (i+1)) (i+1) es.size ep->IZ it s.heap h'->Q (some e.2) {s with heap:=h'}):wpAny (model prog w) A (pyNext (.ref it)) Q E s:=by
 obtain⟨O,G,c,D⟩:=id h;have ty:s.TypeIs (.ref it) "set_iterator":=⟨O,G,c⟩
 have k:i<=es.size:=by have j:=(Zm.mp f).1;rw[(i3 w a ep es).length_eq,ZI]at j;omega
 unfold pyNext;refine Za (J2 (ZG ty gY (ZJ gY ty xW ?_ (xX _))));refine Za (Zd ?_);refine Za (wpAny_fieldsOf G D ?_);dsimp only;refine Za (Lf g d T.fit ?_);rw[if_neg (by simp)];refine Za ?_;rw[IJ,IJ,IJ];refine i4 T g d k ?_;rw[f];refine Za (Kp G D (by simp) ?_);have b:=IB (Obj.mapFields (·.setIfInBounds 0 (rawInt (bv w t.place.toList (i+1):Nat)))) G (KJ (Je D _));have d1:=Je D (·.setIfInBounds 0 (rawInt (bv w t.place.toList (i+1):Nat)));refine Za (Kp b d1 (by simp) ?_);refine Zd ⟨_,rfl,Zd (fin _ ⟨_,IB (Obj.mapFields (·.setIfInBounds 1 (rawInt ((i:Int)+1)))) b (KJ (Je d1 _)),?_,?_⟩ ((Z1 _ it _).trans (Z1 _ it _)))⟩
 ·rw[Le,Le];exact c
 ·rw[Je d1 (·.setIfInBounds 1 (rawInt ((i:Int)+1)))];simp[rawInt]
theorem rn{t:IA}{es:Array (Int×H8)}{Q:Ov->HZ->Prop}(c:A.handled=none)(h:i5 s.heap it a (bv w t.place.toList es.size) es.size es.size ep)(T:TB w t es.size)(g:s.heap.get? a=some o)(d:o.data=.set es ep (t))
  (fin:∀h',Ms it s.heap h'->Q none {s with heap:=h'}):wpAny (model prog w) A (pyNext (.ref it)) Q E s:=by
 obtain⟨O,G,C,D⟩:=id h;have ty:s.TypeIs (.ref it) "set_iterator":=⟨O,G,C⟩;unfold pyNext;refine Za (J2 (ZG (name:=I8 "__next__") ty gY (ZJ gY ty xW ?_ (xX _))));unfold I_.«set_iterator.__next__»;refine Za (Zd ?_);refine Za (wpAny_fieldsOf G D ?_);dsimp only;refine Za (Lf g d T.fit ?_);rw[if_neg (by simp)];refine Za ?_;rw[IJ,IJ,IJ];refine i4 T g d (Zf _) ?_;rw[Mq (by rw[(i3 w a ep es).length_eq,ZI];exact Zf _)];dsimp only[Option.map_none];refine Za (Kp G D (by simp) (Za ?_));simp only[newExc,newTuple];refine Za (ZN (Za (m:=firstArgMember _ _) (wpAny_of_eq (a:=Ii) (by first|rfl| (simp only[firstArgMember];rfl)) (ZN ?_ (by size_fits)))) (by size_fits));simp only[raiseNew];refine Za (wpAny_handled ?_);rw[show A.in1.handled=none from c];refine Za (Zd (wpAny_throw ?_));exact Za (LS (T:="StopIteration") (b:=HX) ⟨_,Zg _ rfl,rfl⟩ isSubtype_stop (Zd (fin _ (((Z1 ..).extBut.push _).push _))))
theorem Walks.setC(calm:A.handled=none)(hne:a≠it){t:IA}{es:Array (Int×H8)}(T:TB w t es.size)(d:o.data=.set es ep (t)):
  Walks prog w A it [it,a] [it] es.size (λi v=>∃e,(b6 w a ep es)[i]?=some e/\v=e.2) (λi h=>i5 h it a (bv w t.place.toList i) i es.size ep/\h.get? a=some o) where
 sub:=λb hb=>by simp_all
 frame:=λi h h' st k=>by obtain⟨⟨oi,gi,ri⟩,g⟩:=st;exact⟨⟨_,k _ (by simp) _ gi,ri⟩,k a (by simp) o g⟩
 item:=λi s Q E hi st hQ=>by
  have hl:i<(b6 w a ep es).length:=by rw[(i3 w a _ _).length_eq];exact hi
  refine lV st.1 T st.2 d (Zh hl) λh' hit' sb=>?_;refine hQ _ _ _ ⟨_,Zh _,rfl⟩ ⟨hit',sb.extBut a o hne st.2⟩ λb o hb e=>sb.extBut b o (λh=>hb (by simp[h])) e
 done:=λs Q E st hQ=>rn calm st.1 T st.2 d λh' he=>hQ _ _ λb o hb e=>he b o (λh=>hb (by simp[h])) e
 self:=λi s Q E st hQ=>by obtain⟨⟨oi,gi,ci,di⟩,_⟩:=st;have ty:s.TypeIs (.ref _) _:=⟨_,gi,ci⟩;exact wpAny_pyIter_slot ty xV (ZJ xV ty Ef (Zd ⟨_,rfl,_,_,ty,gY.lookup,hQ⟩) (Eg _))
theorem Ei{t:IA}{es:Array (Int×H8)}{Q:Lv->HZ->Prop}(C:A.handled=none)(T:TB w t es.size)(g:s.heap.get? a=some o)(q:o.ExactSet)(d:o.data=.set es ep t)(few:es.size<1000)
  (fin:∀(h':Ig) (tk:Nat) (vs:Lv),(∀b o,s.heap.get? b=some o->h'.get? b=some o)->vs.Perm (es.toList.map (·.2))->Q vs {s with heap:=h',toks:=tk}):wpAny (model prog w) A (collect (.ref a)) Q E s:=by
 have N:=Zi g;unfold collect;refine Za (Mo (Jr F.entry_proto_collect ?_));rw[Jp F.plain_proto_collect];refine Za (m:=newList []) (ZN (Zd ⟨Lm F.plain_list_iadd _,Jr F.entry_list_iadd ?_⟩));rw[Jp F.plain_list_iadd];generalize p:s.heap.objs.size=S;have z:(s.heap.push {cls:=.type "list",data:=.seq ([]:Lv).toArray}).get? S=some {cls:=.type "list",data:=.seq #[]}:=by rw[<-p];exact Zg _ rfl
 have G:(s.heap.push {cls:=.type "list",data:=.seq ([]:Lv).toArray}).get? a=some o:=Zb _ g;have D:∀b o,s.heap.get? b=some o->(s.heap.push {cls:=.type "list",data:=.seq ([]:Lv).toArray}).get? b=some o:=λ_ _ e=>Zb _ e;generalize s.heap.push {cls:=.type "list",data:=.seq ([]:Lv).toArray}=h at z G D⊢;have ty:LM {s with heap:=h} (.ref a) "set":=⟨o,G,q.1⟩;show wpAny _ A.in1 (K2 (.ref S) (.ref a) (.ref S)) _ _ _;unfold K2;refine Za (JB ty ?_)
 rw[if_neg (by
  have:S≠a:=by rw[<-p];exact JJ N
  simp[Builtin.List.listSameRef,this])]
 refine Za (rm T G q d ?_);have x:a<h.objs.size:=Zi G;have K:∀b o,h.get? b=some o->(h.push {cls:=.type "set_iterator",data:=.fields #[.int 0 0,.int 0 0,.ref a,.int es.size 0,.int ep 0]}).get? b=some o:=λ_ _ e=>Zb _ e;have k:i5 (h.push {cls:=.type "set_iterator",data:=.fields #[.int 0 0,.int 0 0,.ref a,.int es.size 0,.int ep 0]}) h.objs.size a (bv w t.place.toList 0) 0 es.size ep:=⟨_,Zg _ rfl,rfl,rfl⟩;show wpAny _ A.in1 _ _ _ {s with heap:=h.push {cls:=.type "set_iterator",data:=.fields #[.int 0 0,.int 0 0,.ref a,.int es.size 0,.int ep 0]}};generalize h.push {cls:=.type "set_iterator",data:=.fields #[.int 0 0,.int 0 0,.ref a,.int es.size 0,.int ep 0]}=i at K k⊢;have f:LM {s with heap:=i} (.ref a) "set":=⟨o,K a o G,q.1⟩;refine Za (ZE ?_);unfold Builtin.List.listLengthHint;refine Za (wpAny_specialOf f F.slot_set_len.lookup ?_);have sp:splitId "set.__len__"=some ("set","__len__"):=by decide+kernel
 dsimp only;rw[sp];dsimp only;refine Za (LS (b:=HX) f (by rw[Mp];kernel_rfl) ?_);rw[if_neg (show ¬((!HX)=HX)by decide)];refine J1 ?_;rw[if_pos]
 rotate_left
 ·decide+kernel
 refine Za (JB f (Zd ?_));refine J1 ?_;rw[if_pos]
 rotate_left
 ·decide+kernel
 refine Za (KW ?_);have l:=K S _ z;refine Za (m:=Builtin.List.listTouch (.ref S)) (Za (m:=updateSeq S (·.push .none)) (wpAny_updateSeq l rfl ?_));have n:=IB (ID (·.push Ii)) l rfl;refine wpAny_updateSeq n rfl ?_;have B:=IB (ID (·.pop)) n rfl;have J:∀b o,b≠S->i.get? b=some o->((i.update S (ID (·.push Ii))).update S (ID (·.pop))).get? b=some o:=λb o R e=>(JF _ _ (Ne.symm R)).trans ((JF _ _ (Ne.symm R)).trans e);have u:a≠S:=by rw[<-p];exact Zu N
 have v:h.objs.size≠S:=JJ (Zi z);have out:S∉[h.objs.size,a]:=by grind
 have W:=(Walks.setC (A:=A.in1) (prog:=prog) (w:=w) (by simpa using C) (Zu x) (it:=h.objs.size) (o:=o) (ep:=ep) T d).toS;refine Zd ⟨Lm F.plain_extend_loop _,codeAny_extend_loopS W (by rw[JA];omega) S out _ es.size 0 _ _ _ rfl (ZT _) ⟨?_,J a o u (K a o G)⟩ B ?_ λs' c c' mv r I=>?_⟩
 ·obtain⟨U,gi,ri⟩:=k;exact⟨U,J _ U v gi,ri⟩
 ·exact ItemsOf.nil _
 ·refine Za (wpAny_load r (Zd ?_));obtain⟨h',g',d',M,L⟩:=s';obtain⟨mh,mg,md,mo,_⟩:=mv;have X:g'=s.gens:=mg;have Z:L=s.os:=mo;subst X md Z;refine fin h' M _ (λb O e=>?_) ?_
  ·have hb:=Zi (D b O e);have y:=Zi e;have nS:b≠S:=by rw[<-p];exact Zu y
   refine mh b O ?_ (J b O nS (K b O (D b O e)));simp only[Zj,Zy,or_false,not_or];exact⟨nS,Zu hb⟩
  ·have Y:c.toList=(b6 w a ep es).map (·.2):=by
    refine List.ext_getElem? λj=>?_;rw[JO,Kh];have hz:(b6 w a ep es).length=es.size:=by rw[(i3 w a ep es).length_eq,ZI]
    by_cases P:j<c.size
    ·obtain⟨e,h,i⟩:=I.2 j _ (Il P);rw[Il P,h,i];rfl
    ·have h0:=I.1;rw[L5 (by omega),Mq (by omega)];rfl
   rw[Y];exact(i3 w a ep es).map _
open PySem PySem.W PyProof.Rows
noncomputable def au{b:Type}(c:Nat->Nat->Bool):KasT b->b
 | .ret a=>a
 | .ask i j k=>au c (k (c i j))
noncomputable def eg{a:Type}(n:Nat)(c:Nat->Nat->Bool):KasT a->Prop
 | .ret _=>True
 | .ask i j k=>i<n/\j<n/\eg n c (k (c i j))
theorem gZ{a b:Type}(c:Nat->Nat->Bool)(f:a->KasT b):∀t:KasT a,au c (t.bind f)=au c (f (au c t))
 | .ret _=>rfl
 | .ask i j k=>gZ c f (k (c i j))
theorem fz{a d:Type}{n:Nat}{c:Nat->Nat->Bool}{f:a->KasT d}:∀{t:KasT a},eg n c t->eg n c (f (au c t))->eg n c (t.bind f)
 | .ret _,_,h=>h
 | .ask i j k,H,b=>⟨H.1,H.2.1,fz H.2.2 b⟩
theorem Hd{a:Type}{n:Nat}{c:Nat->Nat->Bool}{cmp:Nat->Nat->(Bool->HZ->Prop)->HZ->Prop}{s:HZ}(h:∀i j C,i<n->j<n->C (c i j) s->cmp i j C s){G:a->HZ->Prop}:∀{t:KasT a},eg n c t->G (au c t) s->t.kasWp cmp G s
 | .ret _,_,g=>g
 | .ask i j k,H,g=>h i j _ H.1 H.2.1 (Hd h H.2.2 g)
structure cN (n:Nat)(c:Nat->Nat->Bool):Prop where
 irr:∀i,i<n->c i i=HY
 asym:∀i j,i<n->j<n->c i j=HX->c j i=HY
 ntr:∀i j k,i<n->j<n->k<n->c i j=HY->c j k=HY->c i k=HY
structure dQ (n:Nat)(p:Array Nat):Prop where
 size:p.size=n
 perm:p.Perm (H_ n).toArray
theorem dQ.lt{p:Array Nat}(h:dQ n p)(c:0<n)(k:Nat):p.getD k 0<n:=by
 unfold LG;split
 ·rename_i a;have b:p[k]∈p:=ML a;have H:p[k]∈(H_ n).toArray:=h.perm.mem_iff.mp b;simpa using H
 ·exact c
theorem xY{p q:Array Nat}{i j:Nat}(h:p[i]?=q[j]?):p.getD i 0=q.getD j 0:=by rw[Iu,Iu,h]
section
variable {c:Nat->Nat->Bool}
def Up(c:Nat->Nat->Bool)(p:Array Nat)(k:Nat):Prop:=∀i,i+1<k->c (p.getD (i+1) 0) (p.getD i 0)=HY
def Dn(c:Nat->Nat->Bool)(p:Array Nat)(k:Nat):Prop:=∀i,i+1<k->c (p.getD i 0) (p.getD (i+1) 0)=HY
theorem Up.all(o:cN n c)(H:0<n){p:Array Nat}(P:dQ n p)(h:Up c p k):∀d i,i+d<k->c (p.getD (i+d) 0) (p.getD i 0)=HY:=by
 intro d
 induction d with
 |zero=>intro i a;exact o.irr _ (P.lt H _)
 |succ d I=>intro i a;exact o.ntr _ (p.getD (i+d) 0) _ (P.lt H _) (P.lt H _) (P.lt H _) (h (i+d) (by omega)) (I i (by omega))
theorem Up.le(o:cN n c)(a:0<n){p:Array Nat}(P:dQ n p)(h:Up c p k){i j:Nat}(H:i<=j)(b:j<k):c (p.getD j 0) (p.getD i 0)=HY:=by have:=h.all o a P (j-i) i (by simp_all);simp_all
theorem lW{p:Array Nat}(P:dQ n p)(i j:Nat):dQ n (kas_rev p i j):=⟨by unfold kas_rev;rw[mirror_size];exact P.size,(mirror_perm _ _ _ _).trans P.perm⟩
theorem fA{p:Array Nat}(P:dQ n p){i j:Nat}(h:j<=n)(H:i<=k/\k<j):(kas_rev p i j).getD k 0=p.getD (i+j-1-k) 0:=xY (by unfold kas_rev;rw[getElem?_mirror_all (by rw[P.size];exact h),if_pos H])
theorem g0{p:Array Nat}(P:dQ n p){i j:Nat}(h:j<=n)(H:¬(i<=k/\k<j)):(kas_rev p i j).getD k 0=p.getD k 0:=xY (by unfold kas_rev;rw[getElem?_mirror_all (by rw[P.size];exact h),if_neg H])
theorem ro(H:0<n){p:Array Nat}(P:dQ n p):∀(f m:Nat),Up c p m->1<=m->eg n c (kas_asc p f m)/\m<=au c (kas_asc p f m)/\au c (kas_asc p f m)<=m+f/\Up c p (au c (kas_asc p f m))/\
  (au c (kas_asc p f m)<m+f->c (p.getD (au c (kas_asc p f m)) 0) (p.getD (au c (kas_asc p f m)-1) 0)=HX)
 |0,m,h,g=>⟨trivial,Zf _,Zf _,h,λz=>absurd z (Iq _)⟩
 |f+1,m,h,g=>by
  unfold kas_asc;simp only[eg,au];cases e:c (p.getD m 0) (p.getD (m-1) 0)with
  |true=>simp only[if_true,au,eg,and_true];exact⟨⟨P.lt H _,P.lt H _⟩,Zf _,by lia,h,λ_=>e⟩
  |false=>
   simp only[ZQ,if_false]
   have d:Up c p (m+1):=λi l=>by
    by_cases z:i+1<m
    ·exact h i z
    ·have:i=m-1:=by lia
     simp_all
   obtain⟨a,j,k,A,b⟩:=ro H P f (m+1) d (by omega);exact⟨⟨P.lt H _,P.lt H _,a⟩,by omega,by omega,A,λz=>b (by omega)⟩
def pf(c:Nat->Nat->Bool)(p:Array Nat)(i j:Nat):Prop:=∀a b,i<=a->a<j->i<=b->b<j->c (p.getD a 0) (p.getD b 0)=HY
theorem xZ{p:Array Nat}(P:dQ n p){i j:Nat}(H:j<=n)(h:pf c p i j):pf c (kas_rev p i j) i j:=λa b d e f g=>by rw[fA P H ⟨d,e⟩,fA P H ⟨f,g⟩];exact h _ _ (by omega) (by omega) (by omega) (by omega)
theorem i6(o:cN n c)(b:0<n){p:Array Nat}(P:dQ n p){i j:Nat}(H:j<=n)(f:k<=n)(h:Dn c p k)(e:pf c p i j):Dn c (kas_rev p i j) k:=λa d=>by
 by_cases Z:i<=a/\a<j
 ·by_cases z:i<=a+1/\a+1<j
  ·exact xZ P H e a (a+1) Z.1 Z.2 z.1 z.2
  ·rw[fA P H Z,g0 P H z];have q:=e (i+j-1-a) a (by omega) (by omega) Z.1 Z.2;exact o.ntr _ _ _ (P.lt b _) (P.lt b _) (P.lt b _) q (h a d)
 ·by_cases z:i<=a+1/\a+1<j
  ·rw[g0 P H Z,fA P H z];have q:=e (a+1) (i+j-1-(a+1)) z.1 z.2 (by omega) (by omega);exact o.ntr _ _ _ (P.lt b _) (P.lt b _) (P.lt b _) (h a d) q
  ·rw[g0 P H Z,g0 P H z];exact h a d
theorem lX(o:cN n c)(H:0<n):∀(f:Nat) (p:Array Nat) (m q:Nat),dQ n p->Dn c p m->pf c p (m-(q+1)) m->q+1<=m->m+f<=n->
  eg n c (kas_desc f p m q)/\dQ n (au c (kas_desc f p m q)).1/\Dn c (au c (kas_desc f p m q)).1 (au c (kas_desc f p m q)).2.1/\
   pf c (au c (kas_desc f p m q)).1 ((au c (kas_desc f p m q)).2.1-((au c (kas_desc f p m q)).2.2+1)) (au c (kas_desc f p m q)).2.1/\(au c (kas_desc f p m q)).2.2+1<=(au c (kas_desc f p m q)).2.1/\m<=(au c (kas_desc f p m q)).2.1/\(au c (kas_desc f p m q)).2.1<=m+f
 |0,p,m,q,P,h,e,u,L=>⟨trivial,P,h,e,u,Zf _,Zf _⟩
 |f+1,p,m,q,P,h,e,u,L=>by
  unfold kas_desc;simp only[eg,au];cases E:c (p.getD m 0) (p.getD (m-1) 0)with
  |true=>
   simp only[if_true];have as:=o.asym _ _ (P.lt H _) (P.lt H _) E
   have one:∀(d:Array Nat),dQ n d->Dn c d m->c (d.getD (m-1) 0) (d.getD m 0)=HY->Dn c d (m+1)/\pf c d (m+1-(0+1)) (m+1):=λd r D z=>⟨λi J=>by
    by_cases y:i+1<m
    ·exact D i y
    ·have:i=m-1:=by omega
     subst this;rw[show m-1+1=m by omega];exact z,λa b s t C F=>by
    have:a=m:=by omega
    have:b=m:=by omega
    subst a;subst b;exact o.irr _ (r.lt H _)⟩
   by_cases G:q>0
   ·rw[if_pos G];have r:=lW P (m-(q+1)) m;have D:=i6 o H P (by omega:m<=n) (by omega:m<=n) h e
    have z:c ((kas_rev p (m-(q+1)) m).getD (m-1) 0) ((kas_rev p (m-(q+1)) m).getD m 0)=HY:=by rw[fA P (by omega) (by omega),g0 P (by omega) (by omega)];exact o.ntr _ (p.getD (m-1) 0) _ (P.lt H _) (P.lt H _) (P.lt H _) (e _ (m-1) (by omega) (by omega) (by omega) (by omega)) as
    obtain⟨K,v⟩:=one _ r D z;obtain⟨A,g,j,k,l,w,x⟩:=lX o H f _ (m+1) 0 r K v (by omega) (by omega);exact⟨⟨P.lt H _,P.lt H _,A⟩,g,j,k,l,by omega,by omega⟩
   ·rw[if_neg G];obtain⟨K,v⟩:=one p P h as;obtain⟨A,g,j,k,l,w,x⟩:=lX o H f p (m+1) 0 P K v (by omega) (by omega);exact⟨⟨P.lt H _,P.lt H _,A⟩,g,j,k,l,by omega,by omega⟩
  |false=>
   simp only[ZQ,if_false,eg,au];cases B:c (p.getD (m-1) 0) (p.getD m 0)with
   |true=>simp only[if_true,au,eg,and_true];exact⟨⟨P.lt H _,P.lt H _,P.lt H _,P.lt H _⟩,P,h,e,u,Zf _,by omega⟩
   |false=>
    simp only[ZQ,if_false]
    have D:Dn c p (m+1):=λi J=>by
     by_cases y:i+1<m
     ·exact h i y
     ·have:i=m-1:=by omega
      subst this;rw[show m-1+1=m by omega];exact B
    have I:pf c p (m+1-(q+1+1)) (m+1):=λa b s t C F=>by
     have R:∀a,m+1-(q+1+1)<=a->a<m+1->c (p.getD a 0) (p.getD (m-1) 0)=HY:=λa s t=>by
      by_cases y:a=m
      ·subst y;exact E
      ·exact e a (m-1) (by omega) (by omega) (by omega) (by omega)
     have M:∀a,m+1-(q+1+1)<=a->a<m+1->c (p.getD (m-1) 0) (p.getD a 0)=HY:=λa s t=>by
      by_cases y:a=m
      ·subst y;exact B
      ·exact e (m-1) a (by omega) (by omega) (by omega) (by omega)
     exact o.ntr _ _ _ (P.lt H _) (P.lt H _) (P.lt H _) (R a s t) (M b C F)
    obtain⟨A,g,j,k,l,w,x⟩:=lX o H f p (m+1) (q+1) P D I (by omega) (by omega);exact⟨⟨P.lt H _,P.lt H _,P.lt H _,P.lt H _,A⟩,g,j,k,l,by omega,by omega⟩
structure Be (n:Nat)(c:Nat->Nat->Bool)(r:Nat×Array Nat):Prop where
 pa:dQ n r.2
 up:Up c r.2 r.1
 pos:1<=r.1
 le:r.1<=n
theorem x_(e:0<n){p:Array Nat}(P:dQ n p){m:Nat}(h:Dn c p m)(h1:1<=m)(H:m<=n):eg n c (kas_tail3 m n p)/\Be n c (au c (kas_tail3 m n p)):=by
 have a:=lW P 0 m
 have u:Up c (kas_rev p 0 m) m:=λi j=>by
  rw[fA P H (by simp_all),fA P H (by lia)];have:=h (0+m-1-(i+1)) (by omega)
  rwa [show 0+m-1-(i+1)+1=0+m-1-i by grind]at this
 obtain⟨A,b,f,d,g⟩:=ro (c:=c) e a (n-m) m u h1;unfold kas_tail3;rw[gZ];exact⟨fz A trivial,a,d,Zv h1 b,by show au c (kas_asc (kas_rev p 0 m) (n-m) m)<=n;simp_all⟩
theorem ya(o:cN n c)(H:0<n){p:Array Nat}(P:dQ n p){m:Nat}(h:Dn c p (m+1))(u:m+1<=n):eg n c (kas_descPart m n p)/\Be n c (au c (kas_descPart m n p)):=by
 obtain⟨d,A,e,g,i,j,k⟩:=lX o H (n-(m+1)) p (m+1) 0 P h (λa b l q r s=>by
  have:a=b:=by omega
  subst this;exact o.irr _ (P.lt H _)) (by omega) (by omega)
 unfold kas_descPart;rw[gZ];by_cases z:(au c (kas_desc (n-(m+1)) p (m+1) 0)).2.2>0
 ·have f:=lW A ((au c (kas_desc (n-(m+1)) p (m+1) 0)).2.1-((au c (kas_desc (n-(m+1)) p (m+1) 0)).2.2+1)) (au c (kas_desc (n-(m+1)) p (m+1) 0)).2.1;have D:=i6 o H A (by omega) (by omega:(au c (kas_desc (n-(m+1)) p (m+1) 0)).2.1<=n) e g;have t:=x_ (c:=c) H f D (by omega) (by omega);rw[if_pos z];exact⟨fz d (by rw[if_pos z];exact t.1),t.2⟩
 ·have t:=x_ (c:=c) H A e (by omega) (by omega);rw[if_neg z];exact⟨fz d (by rw[if_neg z];exact t.1),t.2⟩
theorem Ej(o:cN n c)(H:2<=n){p:Array Nat}(P:dQ n p):eg n c (kas_count n p)/\Be n c (au c (kas_count n p)):=by
 have h:0<n:=by omega
 obtain⟨j,d,w,A,l⟩:=ro (c:=c) h P (n-1) 1 (λi f=>by omega) (Zf 1);unfold kas_count;rw[gZ];generalize s:au c (kas_asc p (n-1) 1)=m at*
 have k:eg n c (if(m==n)=HX then KasT.ret (m,p)else if m>1 then .ask (p.getD 0 0) (p.getD (m-1) 0) λc=>if c=HX then .ret (m,p)else kas_descPart m n (kas_rev p 0 m)else kas_descPart m n p)/\
   Be n c (au c (if(m==n)=HX then KasT.ret (m,p)else if m>1 then .ask (p.getD 0 0) (p.getD (m-1) 0) λc=>if c=HX then .ret (m,p)else kas_descPart m n (kas_rev p 0 m)else kas_descPart m n p)):=by
  by_cases e:(m==n)=HX
  ·rw[if_pos e];exact⟨trivial,P,A,d,by show m<=n;omega⟩
  ·rw[if_neg e];have t:m≠n:=by simpa using e
   have G:=l (by omega);have as:=o.asym _ _ (P.lt h _) (P.lt h _) G;by_cases z:m>1
   ·rw[if_pos z];simp only[eg,au];cases r:c (p.getD 0 0) (p.getD (m-1) 0)with
    |true=>simp only[if_true,eg,au,and_true];exact⟨⟨P.lt h _,P.lt h _⟩,P,A,d,by show m<=n;omega⟩
    |false=>
     simp only[ZQ,if_false];have eq:pf c p 0 m:=λa b _ H _ x=>by have R:=A.le o h P (ZT a) H;have u:=A.le o h P (show b<=m-1 by omega) (by omega);exact o.ntr _ (p.getD (m-1) 0) _ (P.lt h _) (P.lt h _) (P.lt h _) (o.ntr _ (p.getD 0 0) _ (P.lt h _) (P.lt h _) (P.lt h _) R r) u
     have g:=lW P 0 m;have E:=xZ P (by omega:m<=n) eq
     have D:Dn c (kas_rev p 0 m) (m+1):=λi f=>by
      by_cases y:i+1<m
      ·exact E i (i+1) (by omega) (by omega) (by omega) y
      ·have:i=m-1:=by omega
       subst this;rw[fA P (by omega) (by omega),g0 P (by omega) (by omega),show m-1+1=m by omega];exact o.ntr _ (p.getD (m-1) 0) _ (P.lt h _) (P.lt h _) (P.lt h _) (eq _ (m-1) (by omega) (by omega) (by omega) (by omega)) as
     obtain⟨T,v⟩:=ya o h g D (by omega);exact⟨⟨P.lt h _,P.lt h _,T⟩,v⟩
   ·rw[if_neg z];have q:m=1:=by omega
    subst q;refine ya o h P (λi f=>?_) (by omega);have:i=0:=by omega
    subst this;exact as
 exact⟨fz j (by rw[s];exact k.1),k.2⟩
theorem rx(o:cN n c)(h:0<n){p:Array Nat}(P:dQ n p){k:Nat}(u:Up c p k):∀(f l r:Nat),r<=k->l<=r->r-l<=f->(∀i,i<l->c (p.getD k 0) (p.getD i 0)=HY)->(∀i,r<=i->i<k->c (p.getD k 0) (p.getD i 0)=HX)->
  eg n c (kas_place p k f l r)/\au c (kas_place p k f l r)<=k/\(∀i,i<au c (kas_place p k f l r)->c (p.getD k 0) (p.getD i 0)=HY)/\(∀i,au c (kas_place p k f l r)<=i->i<k->c (p.getD k 0) (p.getD i 0)=HX)
 |0,l,r,b,t,q,H,a=>by
  have:l=r:=by omega
  subst this;exact⟨trivial,b,H,a⟩
 |f+1,l,r,b,t,q,H,a=>by
  unfold kas_place;by_cases z:l>=r
  ·rw[if_pos z];have:l=r:=by omega
   subst this;exact⟨trivial,b,H,a⟩
  ·rw[if_neg z];simp only[eg,au];cases E:c (p.getD k 0) (p.getD ((l+r)/2) 0)with
   |true=>
    simp only[if_true]
    have j:∀i,(l+r)/2<=i->i<k->c (p.getD k 0) (p.getD i 0)=HX:=λi m s=>by
     cases e:c (p.getD k 0) (p.getD i 0)with
     |true=>rfl
     |false=>have:=o.ntr _ (p.getD i 0) _ (P.lt h _) (P.lt h _) (P.lt h _) e (u.le o h P m s);rw[E]at this;cases this
    obtain⟨B,d⟩:=rx o h P u f l ((l+r)/2) (by omega) (by omega) (by omega) H j;exact⟨⟨P.lt h _,P.lt h _,B⟩,d⟩
   |false=>
    simp only[ZQ,if_false]
    have g:∀i,i<(l+r)/2+1->c (p.getD k 0) (p.getD i 0)=HY:=λi m=>
     o.ntr _ (p.getD ((l+r)/2) 0) _ (P.lt h _) (P.lt h _) (P.lt h _) E (u.le o h P (by omega) (by omega))
    obtain⟨B,d⟩:=rx o h P u f ((l+r)/2+1) r b (by omega) (by omega) g a;exact⟨⟨P.lt h _,P.lt h _,B⟩,d⟩
theorem i7(o:cN n c)(H:0<n):∀(f:Nat) (p:Array Nat) (k:Nat),dQ n p->Up c p k->k+f=n->eg n c (kas_bin f p k)/\dQ n (au c (kas_bin f p k))/\Up c (au c (kas_bin f p k)) n
 |0,p,k,P,u,h=>by
  have:k=n:=by omega
  subst this;exact⟨trivial,P,u⟩
 |f+1,p,k,P,u,h=>by
  unfold kas_bin;rw[gZ];obtain⟨A,t,j,m⟩:=rx o H P u k 0 k (Zf _) (ZT _) (by omega) (λi b=>absurd b (Nat.not_lt_zero _)) (λi v w=>by omega);generalize E:au c (kas_place p k k 0 k)=l at*;have g:dQ n (bubble p k (k-l)):=⟨by rw[bubble_size];exact P.size,(bubble_perm _ _ _).trans P.perm⟩
  have a:∀i,(bubble p k (k-l)).getD i 0=if i=l then p.getD k 0 else if l<i/\i<=k then p.getD (i-1) 0 else p.getD i 0:=λi=>by
   have e:=getElem?_bubble (xs:=p) (src:=k) (by rw[P.size];omega) (k-l) (by omega) i;rw[show k-(k-l)=l by omega]at e;rw[Iu,e];by_cases z:i=l
   ·rw[if_pos z,if_pos z,Iu]
   ·rw[if_neg z,if_neg z];by_cases Z:l<i/\i<=k
    ·rw[if_pos Z,if_pos Z,Iu]
    ·rw[if_neg Z,if_neg Z,Iu]
  have U:Up c (bubble p k (k-l)) (k+1):=λi b=>by
   rw[a,a];by_cases z:i+1=l
   ·rw[if_pos z,if_neg (by omega),if_neg (by omega)];exact j i (by omega)
   ·rw[if_neg z];by_cases Z:l<i+1/\i+1<=k
    ·rw[if_pos Z];by_cases d:i=l
     ·rw[if_pos d];have:=m i (by omega) (by omega);rw[show i+1-1=i by omega];exact o.asym _ _ (P.lt H _) (P.lt H _) this
     ·rw[if_neg d,if_pos (by omega)];have:=u (i-1) (by omega)
      rwa [show i-1+1=i+1-1 by omega]at this
    ·rw[if_neg Z,if_neg (by omega),if_neg (by omega)];exact u i (by omega)
  obtain⟨B,q,r⟩:=i7 o H f (bubble p k (k-l)) (k+1) g U (by omega);exact⟨fz A (by rw[E];exact B),q,r⟩
theorem lY(o:cN n c)(h:2<=n):eg n c (kas_sort n)/\dQ n (au c (kas_sort n))/\Up c (au c (kas_sort n)) n:=by
 have P:dQ n (Ih (H_ n)):=⟨by simp,.refl _⟩;obtain⟨A,a⟩:=Ej o h P;unfold kas_sort;rw[gZ];by_cases z:(au c (kas_count n (Ih (H_ n)))).1<n
 ·have e:max (au c (kas_count n (Ih (H_ n)))).1 1=(au c (kas_count n (Ih (H_ n)))).1:=Nat.max_eq_left a.pos;obtain⟨b,B,d⟩:=i7 o (by lia) (n-max (au c (kas_count n (Ih (H_ n)))).1 1) _ (max (au c (kas_count n (Ih (H_ n)))).1 1) a.pa (by rw[e];exact a.up) (by lia);rw[if_pos z];exact⟨fz A (by rw[if_pos z];exact b),B,d⟩
 ·rw[if_neg z];have e:(au c (kas_count n (Ih (H_ n)))).1=n:=by have:=a.le;lia
  refine⟨fz A (by rw[if_neg z];trivial),a.pa,?_⟩;have:=a.up
  rwa [e]at this
end
end Py
section
set_option autoImplicit false
namespace Py
open PySem PySem.W PySem.Spec PyProof.Rows
noncomputable def bW(n:Nat)(c:Nat->Nat->Bool)(i:Nat):Nat:=((H_ n).filter λj=>c j i).length
section
variable {κ:Kq}
theorem lZ{c:Nat->Nat->Bool}(o:cN its.length c)(f:∀i j,i<its.length->j<its.length->its.getD i Ii=its.getD j Ii->bW its.length c i=bW its.length c j)(e:2<=its.length)(H:its.length<64)
  (b:∀i j C,i<its.length->j<its.length->C (c i j) s->kas_ask prog w A κ its i j C s) {Q:SortSt->HZ->Prop}
  (h:∀(S:SortSt) (p:List Nat),failedOf S=none->(arrOf S).map (·.2)=Ih (p.map λi=>its.getD i Ii)->p.Perm (H_ its.length)->p.Pairwise (λi j=>c j i=HY)->Q S s):
  wpAny (model prog w) A ((sortRuns').run (Mv κ (its.toArray.zip its.toArray) #[] 7 none)) (λr s'=>Q r.2 s') E s:=by
 obtain⟨n,q,t⟩:=lY o e;have P:(au c (kas_sort its.length)).toList.Perm (H_ its.length):=Array.perm_iff_toList_perm.mp q.perm
 have m:(au c (kas_sort its.length)).toList.Pairwise (λi j=>c j i=HY):=by
  rw[Jy];intro i j v x d;have l:(au c (kas_sort its.length)).size=its.length:=q.size;have g:i<(au c (kas_sort its.length)).size:=by omega
  have k:j<(au c (kas_sort its.length)).size:=by omega
  have:=t.le o (by omega) q (J3 d) (by omega:j<its.length);simp_all
 have a:(kas_sort its.length).kasWp (kas_ask prog w A κ its) (λp s'=>p=au c (kas_sort its.length)/\s'=s) s:=Hd b n ⟨rfl,rfl⟩
 have R:=kat_run (E:=E) (ks:=its) rfl e H (Q:=Q)
  (λp S s' y z Z u=>by obtain⟨rfl,rfl⟩:=u;exact h S _ Z (kat_snds rfl z) P m) a
 omega
end
end Py
end
namespace Py
structure fV (P:D->Prop)(f:D->D->Bool):Prop where
 irr:∀x,P x->f x x=HY
 asym:∀x y,P x->P y->f x y=HX->f y x=HY
 ntr:∀x y z,P x->P y->P z->f x y=HY->f y z=HY->f x z=HY
 tot:∀x y,P x->P y->f x y=HY->f y x=HY->x=y
section
variable {P:D->Prop}{f:D->D->Bool}
theorem yd(o:fV P f):∀(xs:List D),(∀x∈xs,P x)->bB f xs xs=HY
 | [],_=>rfl
 |x::xs,h=>by dsimp only[bB];rw[o.irr x (h x Ze)];exact yd o _ λy H=>h y (Zc _ H)
theorem ye(o:fV P f):∀(xs ys:List D),(∀x∈xs,P x)->(∀x∈ys,P x)->bB f xs ys=HX->bB f ys xs=HY
 | [],[],_,_,h=>rfl
 | [],_::_,_,_,_=>rfl
 |_::_,[],_,_,h=>by cases h
 |x::xs,y::ys,a,b,h=>by
  dsimp only[bB]at h⊢;cases e:f x y with
  |true=>rw[o.asym x y (a x Ze) (b y Ze) e];rfl
  |false=>
   rw[e]at h;cases E:f y x with
   |true=>simp_all
   |false=>rw[E]at h;exact ye o _ _ (λz H=>a z (Zc _ H)) (λz H=>b z (Zc _ H)) h
theorem lex_tot(o:fV P f):∀(xs ys:List D),(∀x∈xs,P x)->(∀x∈ys,P x)->bB f xs ys=HY->bB f ys xs=HY->xs=ys
 | [],[],_,_,_,_=>rfl
 | [],_::_,_,_,h,_=>by cases h
 |_::_,[],_,_,_,h=>by cases h
 |x::xs,y::ys,b,c,h,H=>by
  dsimp only[bB]at h H;cases e:f x y with
  |true=>simp_all
  |false=>
   cases E:f y x with
   |true=>simp_all
   |false=>rw[e,E]at h H;rw[o.tot x y (b x Ze) (c y Ze) e E,lex_tot o _ _ (λz a=>b z (Zc _ a)) (λz a=>c z (Zc _ a)) h H]
theorem yf(o:fV P f):∀(xs ys zs:List D),(∀x∈xs,P x)->(∀x∈ys,P x)->(∀x∈zs,P x)->bB f xs ys=HY->bB f ys zs=HY->bB f xs zs=HY
 | [],[],zs,_,_,_,_,h=>h
 | [],_::_,_,_,_,_,h,_=>by cases h
 |_::_,_,[],_,_,_,_,_=>rfl
 |x::xs,[],z::zs,_,_,_,_,h=>by cases h
 |x::xs,y::ys,z::zs,g,i,j,H,a=>by
  have p:=g x Ze;have b:=i y Ze;have c:=j z Ze;simp only[bB]at H a⊢;cases e:f x y with
  |true=>simp_all
  |false=>
   cases E:f y z with
   |true=>simp_all
   |false=>
    rw[e]at H;rw[E]at a;rw[o.ntr x y z p b c e E];cases d:f z x with
    |true=>rfl
    |false=>rw[o.ntr y z x b c p E d]at H;rw[o.ntr z x y c p b d e]at a;exact yf o _ _ _ (λw hw=>g w (Zc _ hw)) (λw hw=>i w (Zc _ hw)) (λw hw=>j w (Zc _ hw)) H a
end
theorem cE(h:ar .int d=HX):∃i,d=.int i:=by cases d<;>first|lia| (simp[ar]at h)
theorem cO{t:dP}(h:ar (.seq t) d=HX):∃xs,d=.tup xs/\∀x∈xs,ar t x=HX:=by
 cases d with
 |tup xs=>exact⟨_,rfl,λx H=>Zl.mp h x H⟩
 |_=>simp[ar]at h
theorem fB:∀(t:dP),bM t=HX->fV (λd=>ar t d=HX) (bG t)
 | .int,_=>by
  refine⟨λx h=>?_,λx y H a h=>?_,λx y z H a f b c=>?_,λx y H a b c=>?_⟩
  ·obtain⟨i,rfl⟩:=cE h;simp[bG]
  ·obtain⟨i,rfl⟩:=cE H;obtain⟨j,rfl⟩:=cE a;simp[bG]at h⊢;lia
  ·obtain⟨i,rfl⟩:=cE H;obtain⟨j,rfl⟩:=cE a;obtain⟨k,rfl⟩:=cE f;simp[bG]at b c⊢;lia
  ·obtain⟨i,rfl⟩:=cE H;obtain⟨j,rfl⟩:=cE a;simp[bG]at b c;grind
 | .seq t,h=>by
  have o:=fB t h;refine⟨λx h=>?_,λx y H a h=>?_,λx y z H a f b c=>?_,λx y H a b c=>?_⟩
  ·obtain⟨X,rfl,k⟩:=cO h;exact yd o X k
  ·obtain⟨X,rfl,K⟩:=cO H;obtain⟨Y,rfl,e⟩:=cO a;exact ye o X Y K e h
  ·obtain⟨X,rfl,K⟩:=cO H;obtain⟨Y,rfl,e⟩:=cO a;obtain⟨Z,rfl,g⟩:=cO f;exact yf o X Y Z K e g b c
  ·obtain⟨X,rfl,K⟩:=cO H;obtain⟨Y,rfl,e⟩:=cO a;exact congrArg D.tup (lex_tot o X Y K e b c)
noncomputable def de(t:dP)(d e:D):Bool:= !bG t d e&& !bG t e d
theorem Ek{t:dP}(hs:bM t=HX){e:D}(h1:ar t d=HX)(H:ar t e=HX)(h:de t d e=HX):d=e:=by unfold de at h;simp at h;exact(fB t hs).tot d e h1 H h.1 h.2
theorem l4{f:D->D->Bool}{x y:D}{ys:List D}:bB f (x::xs) (y::ys)=if f x y=HX then HX else if f y x=HX then HY else bB f xs ys:=rfl
theorem yg{t:dP}(hs:bM t=HX):∀(xs ys:List D),(∀x∈xs,ar t x=HX)->(∀x∈ys,ar t x=HX)->de (.seq t) (.tup xs) (.tup ys)=((H9 (de t) xs ys).all id&&xs.length==ys.length)
 | [],[],_,_=>rfl
 | [],y::ys,_,_=>rfl
 |x::xs,[],_,_=>rfl
 |x::xs,y::ys,h,H=>by
  have i:=yg hs _ _ (λw hw=>h w (Zc _ hw)) λw hw=>H w (Zc _ hw);cases e:bG t x y with
  |true=>simp[de,bG,bB,e]
  |false=>
   cases E:bG t y x with
   |true=>simp[de,bG,bB,E]
   |false=>
    have a:de t x y=HX:=by simp[de,e,E]
    have b:de (.seq t) (.tup (x::xs)) (.tup (y::ys))=de (.seq t) (.tup xs) (.tup ys):=by show(!bB _ _ _&& !bB _ _ _)=(!bB _ _ _&& !bB _ _ _);rw[l4,l4,e,E];rfl
    simp_all
theorem allO_map(f:D->D->Bool):∀(xs ys:List D) (g:D->D->Option Bool),(∀x∈xs,∀y∈ys,g x y=some (f x y))->ba (H9 g xs ys)=some ((H9 f xs ys).all id)
 | [],_,_,_=>rfl
 |_::_,[],_,_=>rfl
 |x::xs,y::ys,g,h=>by
  have i:=allO_map f xs ys g λa H b d=>h a (Zc _ H) b (Zc _ d)
  show(match g x y,ba (H9 g xs ys)with
   |some b,some c=>some (b&&c)
   |_,_=>none)=_
  rw[h x Ze y Ze,i];rfl
theorem yh{t:dP}(hs:bM t=HX){eq lt:D->D->Option Bool}:∀(xs ys:List D),(∀x∈xs,ar t x=HX)->(∀x∈ys,ar t x=HX)->(∀x∈xs,∀y∈ys,eq x y=some (de t x y)/\lt x y=some (bG t x y))->ur eq lt xs ys=some (bB (bG t) xs ys)
 | [],[],_,_,_=>rfl
 | [],_::_,_,_,_=>rfl
 |_::_,[],_,_,_=>rfl
 |x::xs,y::ys,H,d,h=>by
  have i:=yh hs xs ys (λw hw=>H w (Zc _ hw)) (λw hw=>d w (Zc _ hw)) λa f b g=>h a (Zc _ f) b (Zc _ g);obtain⟨K,k⟩:=h x Ze y Ze;have p:=H x Ze;have P:=d y Ze;unfold ur;rw[K,l4];cases e:bG t x y with
  |true=>
   have E:de t x y=HY:=by simp[de,e]
   rw[E];show lt x y=_;rw[k,e];rfl
  |false=>
   cases c:bG t y x with
   |true=>
    have E:de t x y=HY:=by simp[de,e,c]
    rw[E];show lt x y=_;rw[k,e];rfl
   |false=>
    have E:de t x y=HX:=by simp[de,e,c]
    rw[E];exact i
theorem El(S:ae):∀(t:dP),bM t=HX->∀n,cm t<=n->∀d e,ar t d=HX->ar t e=HX->bJ S n d e=some (de t d e)/\j0 S n d e=some (bG t d e)
 | .int,_,0,h,_,_,_,_=>by simp[cm]at h
 | .int,_,n+1,_,d,e,a,b=>by obtain⟨i,rfl⟩:=cE a;obtain⟨j,rfl⟩:=cE b;refine⟨?_,rfl⟩;show some (i==j)=some (!decide (i<j)&& !decide (j<i));congr 1;lia
 | .seq t,H,0,h,_,_,_,_=>by simp[cm]at h
 | .seq t,H,n+1,h,d,e,a,b=>by obtain⟨X,rfl,k⟩:=cO a;obtain⟨Y,rfl,K⟩:=cO b;have I:=El S t H n (by simpa[cm]using h);refine⟨?_,yh (t:=t) H X Y k K λx c y f=>I x y (k x c) (K y f)⟩;show(ba (H9 (bJ S n) X Y)).map (· &&X.length==Y.length)=_;simp only[allO_map (de t) X Y _ λx c y f=>(I x y (k x c) (K y f)).1,yg (t:=t) H X Y k K];rfl
theorem l5(f:D->D->Bool)(x:D):∀l,(dn f x l).Perm (x::l)
 | []=>.refl _
 |y::Y=>by
  unfold dn;split
  ·exact .refl _
  ·exact((l5 f x _).cons y).trans (.swap _ _ _)
theorem ry(f:D->D->Bool)(xs:List D):(dX f xs).Perm xs:=by
 have k:∀(xs a:List D),(xs.foldl (λa x=>dn f x a) a).Perm (a++xs):=by
  intro xs
  induction xs with
  |nil=>simp_all
  |cons x xs i=>intro a;exact(i _).trans (((l5 f x _).append_right _).trans JS.symm)
 simpa[dX]using k _ []
theorem yi{P:D->Prop}{f:D->D->Bool}(o:fV P f)(x:D)(p:P x):∀l,(∀y∈l,P y)->l.Pairwise (λa b=>f b a=HY)->(dn f x l).Pairwise (λa b=>f b a=HY)
 | [],_,_=>by simp[dn]
 |y::j,d,h=>by
  simp[dn];have e:=d y Ze;obtain⟨g,i⟩:=ZV.mp h;split
  ·rename_i c;refine ZV.mpr ⟨λz H=>?_,h⟩;have Y:=o.asym x y p e c;rcases Zj.mp H with rfl|H
   ·exact Y
   ·exact o.ntr z y x (d z (Zc _ H)) e p (g z H) Y
  ·refine ZV.mpr ⟨λz H=>?_,yi o x p _ (λw hw=>d w (Zc _ hw)) i⟩;rcases Zj.mp ((l5 f x _).mem_iff.mp H)with rfl|H
   ·simp_all
   simp_all
theorem yj{P:D->Prop}{f:D->D->Bool}(o:fV P f)(xs:List D)(e:∀x∈xs,P x):(dX f xs).Pairwise (λa b=>f b a=HY):=by
 have k:∀(xs A:List D),(∀x∈xs,P x)->(∀x∈A,P x)->A.Pairwise (λa b=>f b a=HY)->(xs.foldl (λA x=>dn f x A) A).Pairwise λa b=>f b a=HY:=by
  intro xs
  induction xs with
  |nil=>intro A _ _ h;exact h
  |cons x xs i=>
   intro A c d h;have p:=c x Ze;refine i _ (λy H=>c y (Zc _ H)) (λy H=>?_) (yi o x p _ d h);rcases Zj.mp ((l5 f x _).mem_iff.mp H)with rfl|H
   ·exact p
   simp_all
 exact k _ _ e (by simp) .nil
theorem yk{t:dP}(hs:bM t=HX){ys:List D}(h:∀x∈xs,ar t x=HX)(p:ys.Perm xs)(s:ys.Pairwise (λa b=>bG t b a=HY)):ys=dX (bG t) xs:=by have o:=fB t hs;exact Lu (λa b d e H c=>o.tot a b (h a (p.mem_iff.mp d)) (h b ((ry _ _).mem_iff.mp e)) c H) s (yj o _ h) (p.trans (ry _ _).symm)
open PySem PySem.W PySem.Spec PyProof.Rows
def g5(I:Lv)(c:Nat->Nat->Bool)(out:Lv):Prop:=∃p:List Nat,out=p.map (λi=>I.getD i Ii)/\p.Perm (H_ I.length)/\p.Pairwise (λi j=>c j i=HY)
theorem yl{V:Nat}{c:Nat->Nat->Bool}{P:PySem.Fin->HZ->Prop}(B:s.heap.get? a=some (seqObj "list" its.toArray V))(D:its.length<64)
  (I:2<=its.length->∃κ:Kq,cN its.length c/\(∀i j,i<its.length->j<its.length->its.getD i Ii=its.getD j Ii->bW its.length c i=bW its.length c j)/\∀h':Ig,(∀b o,b≠a->s.heap.get? b=some o->h'.get? b=some o)->
   (∀(J:Kq->HZ->Prop),J κ {s with heap:=h'}->wpAny (model prog w) A (keyKind' its.toArray) J E {s with heap:=h'})/\
   ∀i j C,i<its.length->j<its.length->C (c i j) {s with heap:=h'}->kas_ask prog w A κ its i j C {s with heap:=h'})
  (M:∀h' q out,(∀b o,b≠a->s.heap.get? b=some o->h'.get? b=some o)->h'.get? a=some (seqObj "list" (Ih out) q)->g5 its c out->P (.done (.ret .none)) {s with heap:=h'}):
  wpAny (model prog w) A (I_.«list.sort» ⟨[.ref a],[]⟩) P E s:=by
 have l:its.length<=sizeLine:=by rw[JA];omega
 have Y:a<s.heap.objs.size:=Zi B;have W:=Z1 s.heap a (ID λ_=>(#[]:Av));obtain⟨u,x⟩:∃u,(s.heap.update a (ID λ_=>(#[]:Av))).get? a=some (seqObj "list" #[] u):=⟨_,get?_update_seq B λ_=> #[]⟩
 have k:∀b o,b≠a->s.heap.get? b=some o->(((s.heap.update a (ID λ_=>(#[]:Av))).push (seqObj "tuple" its.toArray 0)).push (seqObj "list" #[] 0)).get? b=some o:=λb o z e=>
  Zb _ (Zb _ ((W.2 b z).trans e))
 have m:(((s.heap.update a (ID λ_=>(#[]:Av))).push (seqObj "tuple" its.toArray 0)).push (seqObj "list" #[] 0)).get? a=some (seqObj "list" #[] u):=Zb _ (Zb _ x);rw[list_sort_plain];refine Za (listItems_at B rfl ?_);refine Za (listUpdate_at B rfl ?_ (by rw[Zs];exact l) (ZT _));refine Za (seqEpoch_at x rfl ?_);refine Za (wpAny_newTuple ?_ (by show its.length<=_;exact l));refine Za (MF ?_ (ZT _));refine ZE ?_;show wpAny (model prog w) A _ P E {s with heap:=((s.heap.update a (ID λ_=>(#[]:Av))).push (seqObj "tuple" its.toArray 0)).push (seqObj "list" #[] 0)};generalize((s.heap.update a (ID λ_=>(#[]:Av))).push (seqObj "tuple" its.toArray 0)).push (seqObj "list" #[] 0)=g at*
 have fin:∀(S:SortSt) (out:Lv),(arrOf S).map (·.2)=Ih out->failedOf S=none->out.length=its.length->g5 its c out->
   wpAny (model prog w) A (do
    let t:=(<-seqEpoch a) !=u
    Lg (.ref a) λ_=>(arrOf S).map (·.2)
    if let some e:=failedOf S then rule "list.sort.comparison-raised";throw e
    if t then rule "list.sort.modified";raiseError "ValueError" "list modified during sort"
    ret .none) P E {s with heap:=g}:=by
  intro S out H v d F;have X:=Z1 g a (ID λ_=>Ih out);obtain⟨q,G⟩:∃q,(g.update a (ID λ_=>Ih out)).get? a=some (seqObj "list" (Ih out) q):=⟨_,get?_update_seq m λ_=>Ih out⟩;rw[H];refine Za (seqEpoch_at m rfl ?_);refine Za (listUpdate_at m rfl ?_ (ZT _) (by rw[Zs,d];exact Nat.le_succ_of_le l));rw[v];simp only[bne_self_eq_false,ZQ,if_false];exact Zd (M _ q out (λb o z e=>(X.2 b z).trans (k b o z e)) G F)
 by_cases n:2<=its.length
 ·have f:¬its.toArray.size<2:=by rw[Zs];omega
  rw[if_neg f,if_neg f];obtain⟨κ,o,y,I⟩:=I n;obtain⟨T,U⟩:=I g k;refine Za (T _ ?_)
  have R:=lZ (E:=E) o y n D U (Q:=λS L=>L={s with heap:=g}/\failedOf S=none/\∃out:Lv,(arrOf S).map (·.2)=Ih out/\out.length=its.length/\g5 its c out)
   (λS p v H K O=>⟨rfl,v,_,H,by rw[Zk,K.length_eq,List.length_range],p,rfl,K,O⟩)
  refine Za (Iy R (λr L N=>?_) λ_ _ e=>e);obtain⟨⟨⟩,S⟩:=r;obtain⟨rfl,v,out,H,d,F⟩:=N;exact fin S _ H v d F
 ·have f:its.toArray.size<2:=by rw[Zs];omega
  rw[if_pos f,if_pos f];refine Za (Zd ?_)
  show wpAny (model prog w) A (do
    let t:=(<-seqEpoch a) !=u
    Lg (.ref a) λ_=>(arrOf (Mv general' (its.toArray.zip its.toArray) #[] 7 none)).map (·.2)
    if let some e:=failedOf (Mv general' (its.toArray.zip its.toArray) #[] 7 none)then rule "list.sort.comparison-raised";throw e
    if t then rule "list.sort.modified";raiseError "ValueError" "list modified during sort"
    ret .none) P E {s with heap:=g}
  refine fin _ its ?_ rfl rfl ⟨H_ its.length,?_,.refl _,?_⟩
  ·show(its.toArray.zip its.toArray).map (·.2)=its.toArray;apply Array.toList_inj.mp;rw[Array.toList_map,Array.toList_zip];exact List.map_snd_zip (Zf _)
  ·refine Ln (by simp) λi g n=>?_;simp[g]
  ·match its,n with
   | [],_=>simp
   | [_],_=>simp
   |_::_::_,n=>simp at n
end Py
namespace Py
open PySem PySem.W PySem.Spec PyProof.Rows L2
theorem Em{b:Bool}{l:H7}{c:Nat->Nat->Bool}{Q:Vs}(x:bO b s.heap l its.toArray)(g:its.length<64)
  (r:2<=its.length->∃κ:Kq,cN its.length c/\(∀i j,i<its.length->j<its.length->its.getD i Ii=its.getD j Ii->bW its.length c i=bW its.length c j)/\∀h':Ig,(∀b o,s.heap.get? b=some o->h'.get? b=some o)->
   (∀(E':Vs) (u:Kq->HZ->Prop),u κ {s with heap:=h'}->wpAny (model prog w) A.in1.in1 (keyKind' its.toArray) u E' {s with heap:=h'})/\
   ∀i j C,i<its.length->j<its.length->C (c i j) {s with heap:=h'}->kas_ask prog w A.in1.in1 κ its i j C {s with heap:=h'})
  (z:∀(h1 h':Ig) f out,(∀b o,s.heap.get? b=some o->h1.get? b=some o)->(∀b o,h1.get? b=some o->h'.get? b=some o)->h'.get? h1.objs.size=some (seqObj "list" (Ih out) f)->g5 its c out->Q (.ref h1.objs.size) {s with heap:=h'}):
  wpAny (model prog w) A (call (.builtin "sorted") [.ref l]) Q E s:=by
 refine LN kind_sorted plain_sorted entry_sorted (args_sorted1 _) ?_;unfold I_.«sorted»;refine Za (m:=checkCount "sorted" 1 1 _) (Zd ?_);have H:its.length<=sizeLine:=by rw[JA];omega
 have d:its.toArray.size<=sizeLine:=by rw[Zs];exact H
 have G:∀h1:Ig,(∀b o,s.heap.get? b=some o->h1.get? b=some o)->wpAny (model prog w) A.in1 (do
   let l <-newList its
   let _ <-holding [l] (call (.builtin "list.sort") [l])
   ret l) (λfin F=>∃v,fin=.done (.ret v)/\Q v F) E {s with heap:=h1}:=by
  intro h1 k;refine Za (MF ?_ H);have a:(h1.push (seqObj "list" its.toArray 0)).get? h1.objs.size=some (seqObj "list" its.toArray 0):=Zg _ rfl;refine Za (ZE (ZJ slot_list_sort ⟨_,a,rfl⟩ entry_list_sort ?body (args_list_sort _)))
  case body=>
   refine yl (c:=c) (s:={s with heap:=h1.push (seqObj "list" its.toArray 0)}) a g (λy=>?_) λh' f out K e O=>?_
   ·obtain⟨κ,o,S,r⟩:=r y;refine⟨κ,o,S,λh' K=>?_⟩;obtain⟨B,D⟩:=r h' λb o e=>K b o (Zu (Zi (k b o e))) (Zb _ (k b o e));exact⟨B _,D⟩
   ·exact⟨_,rfl,Zd ⟨_,rfl,z h1 h' f out k (λb o e=>K b o (Zu (Zi e)) (Zb _ e)) e O⟩⟩
 cases b with
 |true=>obtain⟨o,t,p,n,q⟩:=x;exact Za (wpAny_collect_seq l (.inl rfl) t p q (λh1 k=>by simpa using G h1 k) d)
 |false=>obtain⟨o,t,p,n,q⟩:=x;exact Za (wpAny_collect_seq l (.inr rfl) t p q (λh1 k=>by simpa using G h1 k) d)
theorem Eo(I:Inv X pq σ H s)(a:aC X.K ⟨X.mg,F⟩ μ S H){t:dP}(hs:bM t=HX)(i:cm t<=40)(h:A.units+40<cLine){e:D}{b:V}{z:H8}(h1:ar t d=HX)(g:ar t e=HX)
  (r:Rep X.K ⟨X.mg,F⟩ μ H d v) (q:RelV v u) (R:Rep X.K ⟨X.mg,F⟩ μ H e b) (Q:RelV b z):PySem.SeqAt.EqAt A s u z (de t d e)/\fO A s u z (bG t d e):=by
 obtain⟨c,f⟩:=El S t hs _ i d e h1 g;exact⟨(uq I a _ A h d e v _ u z _ r q R Q c).2.2,iB I a _ A h d e v _ u z _ r q R Q f⟩
theorem ym{prog:Ia}{w:Io}{A:IH}{Q:Bool->HZ->Prop}{t:dP}{b:Bool}(g:b=HX->t=.int):∀(ds es:List D) (us zs:Lv) (i:Nat),(∀d∈ds,ar t d=HX)->(∀e∈es,ar t e=HX)->ds.length=us.length->es.length=zs.length->
  (∀(j:Nat) d e u z,ds[j]?=some d->es[j]?=some e->us[j]?=some u->zs[j]?=some z->PySem.SeqAt.EqAt A s u z (de t d e)/\fO A s u z (bG t d e)/\(t=.int->∃a b ta tb,d=.int a/\e=.int b/\u=.int a ta/\z=.int b tb))->
  Q (bB (bG t) ds es) s->KatLex prog w A b (decide (us.length<zs.length)) Q (us.zip zs) i s
 | [],[],us,zs,i,_,_,l1,l2,_,q=>by have E:us=[]:=ZL l1.symm;have f:zs=[]:=ZL l2.symm;subst E;subst f;exact kat_nil q
 | [],e::es,us,zs,i,_,_,l1,l2,_,q=>by
  have E:us=[]:=ZL l1.symm;subst E;have:decide (([]:Lv).length<zs.length)=HX:=by grind
  rw[this,Kg];exact kat_nil q
 |d::ds,[],us,zs,i,_,_,l1,l2,_,q=>by
  have E:zs=[]:=ZL l2.symm;subst E;have:decide (us.length<([]:Lv).length)=HY:=by simp
  rw[this,K3];exact kat_nil q
 |d::ds,e::es,[],zs,i,_,_,l1,_,_,_=>by simp at l1
 |d::ds,e::es,_::_,[],i,_,_,_,l2,_,_=>by simp at l2
 |d::ds,e::es,u::us,z::zs,i,I,J,l1,l2,h,q=>by
  obtain⟨L,M,N⟩:=h 0 d e u z rfl rfl rfl rfl;have G:decide ((u::us).length<(z::zs).length)=decide (us.length<zs.length):=by simp
  rw[G,ZU];refine kat_cons (L prog w _ _ ?_);rw[l4]at q
  have n:∀{k:Bool},bG t d e=k->de t d e=HY->Q k s->KatGo prog w A b (decide (us.length<zs.length)) Q u z (us.zip zs) i HY s:=λ{k} m _ o=>by
   clear q;refine kat_no ?_;cases H:(b&&i==0)with
   |false=>exact kat_one u z (M prog w _ _ (by rw[m];exact o))
   |true=>simp only[ZR]at H;obtain⟨a,B,ta,tb,rfl,rfl,rfl,rfl⟩:=N (g H.1);have K:=g H.1;subst K;exact oneLt_int (by rw[show decide (a<B)=k from m];exact o)
  cases E:bG t d e with
  |true=>
   have c:de t d e=HY:=by simp[de,E]
   rw[E]at q;rw[c];exact n E c (by simpa using q)
  |false=>
   cases f:bG t e d with
   |true=>
    have c:de t d e=HY:=by simp[de,E,f]
    rw[E,f]at q;rw[c];exact n E c (by simpa using q)
   |false=>
    have c:de t d e=HX:=by simp[de,E,f]
    rw[E,f]at q;rw[c];refine kat_yes (ym g ds es us zs (i+1) (λx l=>I x (Zc _ l)) (λx l=>J x (Zc _ l)) (by grind) (by simpa using l2) (λj C F U Z p r v y=>h (j+1) C F U Z p r v y) (by simpa using q))
end Py
namespace Py
open PySem PySem.W PySem.Spec PyProof.Rows L2
end Py
namespace Py
open PySem PySem.W PySem.Spec PyProof.Rows L2
noncomputable def g6:dP->String
 | .int=>"int"
 |_=>"tuple"
theorem i8(I:Inv X pq σ H s){t:dP}(hs:bM t=HX)(h:ar t d=HX)(r:Rep X.K ⟨X.mg,F⟩ μ H d v)(q:RelV v u):Looks (model X.prog X.w) s.heap (typeOf u) (.type (g6 t)):=by
 have tup:∀x,d=.tup x->Looks (model X.prog X.w) s.heap (typeOf u) (.type "tuple"):=by
  rintro x rfl;obtain⟨a,vs,rfl,c,_⟩:=bz r;subst q;obtain⟨e,_,p,_⟩:=I.tuple c;obtain⟨o,b,f,_⟩:=p;have:=show Looks (model X.prog X.w) _ (typeOf (.ref a)) _ from(Looks.ld b).andThen .now
  simp_all
 cases t with
 |int=>obtain⟨i,rfl⟩:=cE h;cases ax r;obtain⟨T,rfl⟩:=q;exact(show Looks _ _ _ _ from .now)
 |seq t=>obtain⟨x,rfl,_⟩:=cO h;exact tup _ rfl
theorem yn(I:Inv X pq σ H s){t:dP}(hs:bM t=HX):∀(ys:List D) (vs:List V) (its:Lv),(∀d∈ys,ar (.seq t) d=HX/\d≠.tup [])->ag X.K ⟨X.mg,F⟩ μ H ys vs->Vals vs its->
  ∃fs,KatTups s.heap its fs/\fs.length=its.length/\∀f∈fs,Looks (model X.prog X.w) s.heap (typeOf f) (.type (g6 t))
 | [],vs,its,_,r,q=>by unfold ag at r;subst r;cases q;exact⟨[],KatTups.nil,rfl,λ_ h=>nomatch h⟩
 |d::ys,vs,its,h,r,q=>by
  obtain⟨v,W,rfl,J,L⟩:=r.uncons;cases q with
  |cons Q G=>
   rename_i u i;obtain⟨fs,K,C,E⟩:=yn I hs ys W i (λe y=>h e (Zc _ y)) L G;obtain⟨j,k⟩:=h d Ze;obtain⟨c,rfl,B⟩:=cO j;cases c with
   |nil=>exact absurd rfl k
   |cons x c=>
    obtain⟨a,as,rfl,A,R⟩:=bz J;cases Q;obtain⟨T,M,p,_⟩:=I.tuple A;obtain⟨w,O,rfl,N,_⟩:=R.uncons;cases M with
    |cons P S=>
     rename_i f U;obtain⟨o,z,l,n,m⟩:=p;refine⟨f::fs,KatTups.cons z l m (by simp) K,by simp[C],λg b=>?_⟩;rcases Zj.mp b with rfl|b
     ·exact i8 I hs (B x Ze) N P
     ·exact E g b
theorem Ep(I:Inv X pq σ H s)(sk:aC X.K ⟨X.mg,F⟩ μ S H){t:dP}(hs:bM t=HX)(hd:cm t<=40)(hu:A.units+42<cLine){e:D}{y:V}{z:H8}(h1:ar (.seq t) d=HX)(h2:ar (.seq t) e=HX)
  (r1:Rep X.K ⟨X.mg,F⟩ μ H d v) (q1:RelV v u) (r2:Rep X.K ⟨X.mg,F⟩ μ H e y) (q2:RelV y z) {C:Bool->HZ->Prop}  (hC:C (bG (.seq t) d e) s):wpAny (model X.prog X.w) A (keyLt' (tuples' (II (g6 t) !=II "tuple")) u z) C E s:=by
 obtain⟨B,rfl,c⟩:=cO h1;obtain⟨Y,rfl,f⟩:=cO h2;obtain⟨a,as,rfl,ha,r⟩:=bz r1;obtain⟨b,bs,rfl,h,R⟩:=bz r2;cases q1;cases q2;obtain⟨U,q,pa,_⟩:=I.tuple ha;obtain⟨Z,x,pb,_⟩:=I.tuple h;obtain⟨oa,T,_,na,M⟩:=pa;obtain⟨ob,W,_,nb,N⟩:=pb;refine kat_lt T M W N ?_;have l1:B.length=U.length:=by rw[r.length,q.length]
 have l2:Y.length=Z.length:=by rw[R.length,x.length]
 have:=ym (prog:=X.prog) (w:=X.w) (A:=A) (s:=s) (Q:=C) (t:=t) (b:=(II (g6 t) !=II "tuple")) (λh=>?_) B Y U Z 0 c f l1 l2 (λj d e u z g G g3 g4=>?_) hC
 ·simpa using this
 ·cases t with
  |int=>rfl
  |seq t=>exact absurd h (by show ¬((II "tuple" !=II "tuple")=HX);decide)
 ·obtain⟨w1,O,K⟩:=r.get g;obtain⟨w2,P,m⟩:=R.get G;obtain⟨u',k,n⟩:=q.get O;obtain⟨z',l,o⟩:=x.get P;rw[g3]at k;cases k;rw[g4]at l;cases l;obtain⟨J,L⟩:=Eo I sk hs hd (A:=A) (by omega) (c d (Zq g)) (f e (Zq G)) K n m o;refine⟨J,L,λht=>?_⟩;subst ht;obtain⟨i,rfl⟩:=cE (c d (Zq g));obtain⟨j,rfl⟩:=cE (f e (Zq G));cases ax K;cases ax m;obtain⟨ta,rfl⟩:=n;obtain⟨tb,rfl⟩:=o;exact⟨i,j,ta,tb,rfl,rfl,rfl,rfl⟩
section
variable {t:dP}{ys:List D}{vs:List V}
theorem i9(h:fm t ys=HX):bM t=HX:=by
 cases t with
 |int=>rfl
 |seq t=>unfold fm at h;simp only[ZR]at h;exact h.1
theorem He(h:∀y∈ys,ar t y=HX)(r:ag X.K ⟨X.mg,F⟩ μ H ys vs)(a:Vals vs its):∀i,i<its.length->∃d v u,ys[i]?=some d/\vs[i]?=some v/\its[i]?=some u/\ar t d=HX/\Rep X.K ⟨X.mg,F⟩ μ H d v/\RelV v u/\ys.getD i .non=d/\its.getD i Ii=u:=λi c=>by have l1:=r.length;have l2:=a.length;have e:ys[i]?=some ys[i]:=Zh _;obtain⟨v,E,k⟩:=r.get e;obtain⟨u,b,K⟩:=a.get E;simp_all
theorem yo(I:Inv X pq σ H s)(sk:aC X.K ⟨X.mg,F⟩ μ S H)(hu:X.A.units+64<cLine)(P:cm t<=40)(p:∀y∈ys,ar t y=HX)(B:fm t ys=HX)(rr:ag X.K ⟨X.mg,F⟩ μ H ys vs)(hv:Vals vs its)(h2:2<=its.length):
  ∃κ:Kq,cN its.length (λi j=>bG t (ys.getD i .non) (ys.getD j .non))/\(∀i j,i<its.length->j<its.length->its.getD i Ii=its.getD j Ii->bW its.length (λi j=>bG t (ys.getD i .non) (ys.getD j .non)) i=bW its.length (λi j=>bG t (ys.getD i .non) (ys.getD j .non)) j)/\∀h':Ig,(∀b o,s.heap.get? b=some o->h'.get? b=some o)->
   (∀(E':Vs) (Y:Kq->HZ->Prop),Y κ {s with heap:=h'}->wpAny (model X.prog X.w) X.A.in1.in1 (keyKind' its.toArray) Y E' {s with heap:=h'})/\
   ∀i j C,i<its.length->j<its.length->C (bG t (ys.getD i .non) (ys.getD j .non)) {s with heap:=h'}->kas_ask X.prog X.w X.A.in1.in1 κ its i j C {s with heap:=h'}:=by
 have R:bM t=HX:=i9 B;have lo:=fB t R;have a:=He p rr hv
 have W:cN its.length (λi j=>bG t (ys.getD i .non) (ys.getD j .non)):=by
  have ty:∀i,i<its.length->ar t (ys.getD i .non)=HX:=λi c=>by obtain⟨d,v,u,e1,e2,E,k1,k2,k3,k4,k5⟩:=a i c;rw[k4];exact k1
  exact⟨λi c=>lo.irr _ (ty i c),λi j c m=>lo.asym _ _ (ty i c) (ty j m),λi j k c m hk=>lo.ntr _ _ _ (ty i c) (ty j m) (ty k hk)⟩
 have r:∀i j,i<its.length->j<its.length->its.getD i Ii=its.getD j Ii->bW its.length (λi j=>bG t (ys.getD i .non) (ys.getD j .non)) i=bW its.length (λi j=>bG t (ys.getD i .non) (ys.getD j .non)) j:=λi j c m Q=>by obtain⟨d,v,u,e1,e2,E,n,w,A,D,J⟩:=a i c;obtain⟨Z,v',u',L,M,N,g,G,e,f,l⟩:=a j m;rw[J,l]at Q;subst Q;have ev:v=v':=A.inj e;subst ev;have:=vA I sk 40 d Z v _ w G (El S t R 40 P d Z n g).1;have hde:=Ek R n g this;subst hde;unfold bW;simp only[D,f]
 have hu2:(X.A.in1.in1).units+42<cLine:=by show X.A.units+1+1+42<cLine;omega
 cases t with
 |int=>
  refine⟨oneType',W,r,λh' kp=>⟨λE' Y q=>?_,λi j C c m O=>?_⟩⟩
  ·have K:Inv X pq σ H {s with heap:=h'}:=I.kept (t':=s.toks) kp;refine kas_kind (T:=.type "int") h2 (λu hu=>?_) (by decide) (by decide) q;obtain⟨i,c,rfl⟩:=ZP.mp hu;obtain⟨d,v,u,e1,e2,E,n,w,A,D,J⟩:=a i c;rw[Zh c]at E;cases E;exact i8 (t:=.int) K rfl n w A
  ·obtain⟨d,v,u,e1,e2,E,n,w,A,D,J⟩:=a i c;obtain⟨Z,v',u',L,M,N,g,G,e,f,l⟩:=a j m;unfold kas_ask;rw[J,l];rw[D,f]at O;obtain⟨x,rfl⟩:=cE n;obtain⟨y,rfl⟩:=cE g;cases ax w;cases ax G;obtain⟨ta,rfl⟩:=A;obtain⟨tb,rfl⟩:=e;exact kat_lt_int O
 |seq t=>
  unfold fm at B;have U:=(JW.mp B).2;have V:=U
  have hne:∀y∈ys,ar (.seq t) y=HX/\y≠.tup []:=λy hy=>⟨p y hy,λz=>by have:=Zl.mp V y hy;rw[z]at this;cases this⟩;refine⟨tuples' (II (g6 t) !=II "tuple"),W,r,λh' kp=>⟨λE' Y q=>?_,λi j C c m O=>?_⟩⟩
  ·have K:Inv X pq σ H {s with heap:=h'}:=I.kept (t':=s.toks) kp;obtain⟨fs,f1,f2,f3⟩:=yn (t:=t) K R ys vs its hne rr hv;exact kat_kind (T:=.type (g6 t)) f1 (by omega) f3 (by simp) q
  ·have K:Inv X pq σ H {s with heap:=h'}:=I.kept (t':=s.toks) kp;obtain⟨d,v,u,e1,e2,E,n,w,A,D,J⟩:=a i c;obtain⟨Z,v',u',L,M,N,g,G,e,f,l⟩:=a j m;unfold kas_ask;rw[J,l];rw[D,f]at O;exact Ep (t:=t) K sk R (by simp[cm]at P;omega) hu2 n g w A G e O
theorem yp(b:fm t ys=HX)(a:∀y∈ys,ar t y=HX)(r:ag X.K ⟨X.mg,F⟩ μ H ys vs)(f:Vals vs its){out:Lv}(O:g5 its (λi j=>bG t (ys.getD i .non) (ys.getD j .non)) out):∃ws,ws.length=its.length/\ag X.K ⟨X.mg,F⟩ μ H (dX (bG t) ys) ws/\Vals ws out:=by
 have A:=He a r f;have l1:ys.length=vs.length:=r.length;have l2:vs.length=its.length:=f.length;obtain⟨p,rfl,P,n⟩:=O;have m:∀i∈p,i<its.length:=λi o=>by grind
 have e:p.length=its.length:=by rw[P.length_eq];simp
 have fin:ag X.K ⟨X.mg,F⟩ μ H (p.map λi=>ys.getD i .non) (p.map λi=>vs.getD i .non):=ag.of (by simp) λj d v g c=>by
  grind
 have fin2:=by
  have:∀(l:List Nat),(∀i∈l,i<its.length)->Vals (l.map λi=>vs.getD i .non) (l.map λi=>its.getD i Ii):=by
   intro l
   induction l with
   |nil=>exact λ_=>.nil
   |cons i l I=>intro h;refine .cons ?_ (I λj k=>h j (Zc _ k));simp_all
  exact this p m
 have s:(p.map λi=>ys.getD i .non)=dX (bG t) ys:=by
  refine yk (i9 b) a ?_ ?_
  ·have:=P.map λi=>ys.getD i .non;refine this.trans (.of_eq ?_);refine Ln (by grind) λi g c=>?_;simp[c]
  ·rw[JH];exact n
 grind
end
theorem Er(V:X.A.units+64<cLine)(box:Bool)(t:dP)(A:cm t<=40):bh X (.builtin "sorted") (rC X.K X.mg (iK box t)):=by
 intro P s E H xs us Q I r h;obtain⟨F,μ,S,ds,z,rl,w⟩:=h;unfold iK at w;split at w
 ·rename_i d;obtain⟨v,rfl,rd⟩:=rl.one;obtain⟨u,rfl,ru⟩:=vals1 r;split at w
  ·rename_i Y e;split at w
   ·rename_i T;obtain⟨B,N,o⟩:=T;have g:∀y∈Y,ar t y=HX:=λy W=>Zl.mp B y W;obtain⟨a,vs,rfl,n,R⟩:=e9 z rd e;cases ru
    obtain⟨b,f,U,x⟩:∃b f,bO b s.heap a (Ih f)/\Vals vs f:=by
     rcases n with n|n
     ·obtain⟨f,C,p,_⟩:=I.list n;exact⟨HX,f,p.isList,C⟩
     ·obtain⟨f,C,p,_⟩:=I.tuple n;exact⟨HY,f,p,C⟩
    refine Em (c:=λi j=>bG t (Y.getD i .non) (Y.getD j .non)) U (by have:f.length=Y.length:=(R.length.trans x.length).symm;omega) (λM=>yo I z V A g o R x M) λq L J out Z k2 K O=>?_;obtain⟨ws,m,fin,fin2⟩:=yp (X:=X) o g R x O;have D:Inv X P E H {s with heap:=q}:=I.kept (t':=s.toks) Z;have G:Inv X P E (aT H q.objs.size (.lst ws)) {s with heap:=L}:=D.laid (t':=s.toks) k2 (Zf _) ⟨by have:f.length=Y.length:=(R.length.trans x.length).symm;rw[m,JA];omega,_,J,fin2,K⟩;have l:H q.objs.size=none:=D.hok.fresh (Zf _);refine⟨.ref q.objs.size,_,G,rfl,?_⟩;cases box with
    |true=>exact aF.box w z fin _ l
    |false=>exact aF.lst w z fin _ l
   ·exact w.elim
  ·exact w.elim
 ·exact w.elim
end Py
namespace Py
open PySem PySem.W PySem.Spec PyProof.Rows L2
theorem Es{f:α->β}:∀{l:List α} {us:List β},us.Perm (l.map f)->∃L:List α,L.Perm l/\us=L.map f:=λ{l us} p=>by
 generalize h:l.map f=m at p
 induction p generalizing l with
 |nil=>exact⟨[],by rw[List.map_eq_nil_iff.mp h],rfl⟩
 |cons x p c=>obtain⟨a,l1,rfl,rfl,H⟩:=KR.mp h;obtain⟨L,q,rfl⟩:=c H;exact⟨a::L,q.cons a,rfl⟩
 |swap x y g=>obtain⟨a,l1,rfl,rfl,H⟩:=KR.mp h;obtain⟨b,l2,rfl,rfl,rfl⟩:=KR.mp H;exact⟨b::a::l2,List.Perm.swap _ _ _,rfl⟩
 |trans p q i I=>obtain⟨l1,Q,e⟩:=I h;obtain⟨l2,d,E⟩:=i e.symm;exact⟨l2,d.trans Q,E⟩
theorem yq{K:Fg}{m:GS}{μ:La}{H:Hp}:∀ns:Li,ag K m μ H (ns.map D.int) (ns.map V.int)
 | []=>.nil
 |n::ns=>.cons bA (yq _)
theorem yr{K:Fg}{m:GS}{μ:La}{H:Hp}:∀{cs:List (Li×H7)},(∀c∈cs,bQ K H c.2 (c.1.map V.int))->ag K m μ H (cs.map λc=>D.tup (c.1.map D.int)) (cs.map λc=>V.ref c.2)
 | [],_=>.nil
 |c::cs,h=>.cons (by exact⟨_,_,rfl,h c Ze,yq _⟩) (yr λd a=>h d (Zc _ a))
theorem yt:∀cs:List (Li×H7),Vals (cs.map λc=>V.ref c.2) (cs.map λc=>I9 c.2)
 | []=>.nil
 |c::cs=>.cons rfl (yt _)
theorem yu(k:Li):ar (.seq .int) (.tup (k.map D.int))=HX:=by show(k.map _).all _=HX;rw[Zl];intro x h;obtain⟨i,_,rfl⟩:=Zo.mp h;rfl
theorem Et{a:H7}{L:Lv}(H:∀{Q:Lv->HZ->Prop} {E':Vs},(∀(h':Ig) (tk:Nat) (vs:Lv),(∀b o,s.heap.get? b=some o->h'.get? b=some o)->vs.Perm L->Q vs {s with heap:=h',toks:=tk})->wpAny (model prog w) A.in1 (collect (.ref a)) Q E' s)(F:L.length<64)
  (d:∀(h1:Ig) (tk:Nat) (vs:Lv),(∀b o,s.heap.get? b=some o->h1.get? b=some o)->vs.Perm L->∃c,(2<=vs.length->∃κ:Kq,cN vs.length c/\(∀i j,i<vs.length->j<vs.length->vs.getD i Ii=vs.getD j Ii->bW vs.length c i=bW vs.length c j)/\∀h':Ig,(∀b o,h1.get? b=some o->h'.get? b=some o)->
   (∀(E':Vs) (l:Kq->HZ->Prop),l κ {s with heap:=h',toks:=tk}->wpAny (model prog w) A.in1.in1 (keyKind' vs.toArray) l E' {s with heap:=h',toks:=tk})/\
   ∀i j C,i<vs.length->j<vs.length->C (c i j) {s with heap:=h',toks:=tk}->kas_ask prog w A.in1.in1 κ vs i j C {s with heap:=h',toks:=tk})/\
   ∀(h':Ig) (g:Nat) (out:Lv),(∀b o,h1.get? b=some o->h'.get? b=some o)->h'.get? h1.objs.size=some (seqObj "list" out.toArray g)->g5 vs c out->Q (.ref h1.objs.size) {s with heap:=h',toks:=tk}):
  wpAny (model prog w) A (call (.builtin "sorted") [.ref a]) Q E s:=by
 refine LN kind_sorted plain_sorted entry_sorted (args_sorted1 _) ?_;unfold I_.«sorted»;refine Za (m:=checkCount "sorted" 1 1 _) (Zd (Za (H λh1 tk vs r p=>?_)));obtain⟨c,d,fin⟩:=d h1 tk vs r p;have k:vs.length<64:=by rw[p.length_eq];exact F
 have q:vs.length<=sizeLine:=by rw[JA];omega
 refine Za (MF ?_ q);have f:(h1.push (seqObj "list" vs.toArray 0)).get? h1.objs.size=some (seqObj "list" vs.toArray 0):=Zg _ rfl;refine Za (ZE (ZJ slot_list_sort ⟨_,f,rfl⟩ entry_list_sort ?body (args_list_sort _)))
 case body=>
  refine yl (c:=c) (s:={s with heap:=h1.push (seqObj "list" vs.toArray 0),toks:=tk}) f k (λn=>?_) λh' g out K e O=>?_
  ·obtain⟨κ,o,S,d⟩:=d n;refine⟨κ,o,S,λh' K=>?_⟩;obtain⟨u,v⟩:=d h' λb o e=>K b o (Zu (Zi e)) (Zb _ e);exact⟨u _,v⟩
  ·exact⟨_,rfl,Zd ⟨_,rfl,fin h' g out (λb o e=>K b o (Zu (Zi e)) (Zb _ e)) e O⟩⟩
def Eu(K:Fg)(m:Mg)(v:V)(H:Hp)(Q:VK):Prop:=
 ∃F μ S p ks,aC K ⟨m,F⟩ μ S H/\v=.ref p/\Ed K H p ks/\ks.length<64/\(∀c∈ks,c.1≠[])/\aF K ⟨m,F⟩ μ H Q (.ok (.lst (dA (ks.map (·.1)))) S)
theorem Ew{p:H7}{cs:List (Li×H7)}{E:Vs}(i:X.calm=HX)(J:X.A.units+64<cLine)(I:Inv X pq σ H s)(Y:aC X.K ⟨X.mg,F⟩ μ S H)(r:∀c∈ks,bQ X.K H c.2 (c.1.map V.int))(G:∀c∈ks,c.1≠[])(z:ks.length<64)
  (j:∀{Q:Lv->HZ->Prop} {E':Vs},(∀(h':Ig) (tk:Nat) (vs:Lv),(∀b o,s.heap.get? b=some o->h'.get? b=some o)->vs.Perm (cs.map λc=>I9 c.2)->Q vs {s with heap:=h',toks:=tk})->wpAny (model X.prog X.w) X.A.in1 (collect (.ref p)) Q E' s) (N:(cs.map (·.1)).Nodup) (u:∀k,k∈cs.map (·.1)↔k∈ks.map (·.1)) (x:∀c∈cs,c∈ks)
  (fin:∀(h1 h':Ig) (tk q:Nat) (out:Lv) (ws:List V),(∀b o,s.heap.get? b=some o->h1.get? b=some o)->(∀b o,h1.get? b=some o->h'.get? b=some o)->h'.get? h1.objs.size=some (seqObj "list" out.toArray q)->ws.length<=76->ag X.K ⟨X.mg,F⟩ μ H (dA (ks.map (·.1))) ws->Vals ws out->Q (.ref h1.objs.size) {s with heap:=h',toks:=tk}):
  wpAny (model X.prog X.w) X.A (call (.builtin "sorted") [.ref p]) Q E s:=by
 have B:cs.length<64:=by have h1:=N.length_le_of_subset λk r=>(u k).mp r;rw[Zk,Zk]at h1;omega
 refine Et j (by rw[Zk];exact B) λh1 tk Z K W=>?_;have w:Inv X pq σ H {s with heap:=h1,toks:=tk}:=I.kept (t':=tk) K
 obtain⟨C,P,rfl⟩:∃C:List (Li×H7),C.Perm cs/\Z=C.map λc=>I9 c.2:=by exact Es W
 have M:∀c∈C,c∈ks:=λc i=>x c (P.mem_iff.mp i);have R:ag X.K ⟨X.mg,F⟩ μ H (C.map λc=>D.tup (c.1.map D.int)) (C.map λc=>V.ref c.2):=yr λc i=>r c (M c i);have v:Vals (C.map λc=>V.ref c.2) (C.map λc=>I9 c.2):=yt C
 have g:∀y∈(C.map λc=>D.tup (c.1.map D.int)),ar (.seq .int) y=HX:=λy n=>by obtain⟨c,_,rfl⟩:=Zo.mp n;exact yu c.1
 have m:fm (.seq .int) (C.map λc=>D.tup (c.1.map D.int))=HX:=by
  show(HX&&((C.map λc=>D.tup (c.1.map D.int)).all λd=> !er d))=HX;rw[Zl.mpr]
  ·rfl
  ·intro y n;obtain⟨c,i,rfl⟩:=Zo.mp n;have:=G c (M c i);cases h:c.1 with
   |nil=>exact absurd h this
   |cons a l=>rfl
 refine⟨_,λA=>yo w Y J (by decide) g m R v A,λh' q out L e O=>?_⟩;obtain⟨ws,w1,w2,w3⟩:=yp (X:=X) m g R v O;refine fin h1 h' tk q out ws K L e (by rw[w1,Zk,P.length_eq];omega) ?_ w3
 have:dA (ks.map (·.1))=dX (bG (.seq .int)) (C.map λc=>D.tup (c.1.map D.int)):=by
  unfold dA;refine(yk (t:=.seq .int) rfl (λy n=>?_) ((ry _ _).trans ?_) (yj (fB (.seq .int) rfl) _ g)).symm
  ·obtain⟨k,_,rfl⟩:=Zo.mp n;exact yu k
  ·have U:(C.map (·.1)).Perm (iM (ks.map (·.1))):=by
    obtain⟨a,b⟩:=xQ (ks.map (·.1));refine(P.map _).trans ((J7 N a).mpr λk=>(u k).trans (b k).symm)
   have:=U.map λk=>D.tup (k.map D.int);rw[I7]at this;exact this
 rw[this];exact w2
theorem Ex{p:H7}{cs:List (Li×H7)}{E:Vs}(i:X.calm=HX)(w:X.A.units+64<cLine)(I:Inv X pq σ H s)(y:aC X.K ⟨X.mg,F⟩ μ S H)(h:∀c∈ks,bQ X.K H c.2 (c.1.map V.int))(u:∀c∈ks,c.1≠[])(f:ks.length<64)
  (x:c5 X.prog X.w s.heap p cs) (a:∀k,k∈cs.map (·.1)↔k∈ks.map (·.1)) (n:∀c∈cs,c∈ks)
  (fin:∀(h1 h':Ig) (tk C:Nat) (out:Lv) (ws:List V),(∀b o,s.heap.get? b=some o->h1.get? b=some o)->(∀b o,h1.get? b=some o->h'.get? b=some o)->h'.get? h1.objs.size=some (seqObj "list" out.toArray C)->ws.length<=76->ag X.K ⟨X.mg,F⟩ μ H (dA (ks.map (·.1))) ws->Vals ws out->Q (.ref h1.objs.size) {s with heap:=h',toks:=tk}):
  wpAny (model X.prog X.w) X.A (call (.builtin "sorted") [.ref p]) Q E s:=by
 obtain⟨o,z,t,g,q,d,l,P,m⟩:=x.obj;have r:=m.fits.2;have v:(cs.map (aX X.prog X.w)).toArray.size=cs.length:=by simp
 have A:=by have h1:=x.nod.length_le_of_subset λk h=>(a k).mp h;rw[Zk,Zk]at h1;omega
 refine Ew i w I y h u f (λfin=>Ei (by simpa using I.ok.hd i) ⟨by simp_all,l,P,m.ris⟩ g q d (by lia) λh' tk vs k B=>fin _ _ _ k ?_) x.nod a n fin;have:(List.map (λe=>e.2) (cs.map (aX X.prog X.w)).toArray.toList)=cs.map λc=>I9 c.2:=by rw[I7];rfl
 simp_all
theorem Ey{z:Expr}{V P W:Pos}(m:X.calm=HX)(y:X.A.units+64<cLine)(c:Gl X "sorted")(d:Gl X "set")(f:X.mg "sorted"=none)(i:X.mg "set"=none)(N:bootBuiltins "sorted"=some (.builtin "sorted"))(j:bK z=HX)(M:PE X z ta):
  PE X (.Call (.Name "sorted" V) [.Call (.Name "set" p2) [z] [] P] [] W) (λσ H Q=>ta σ H λx H1=>Eu X.K X.mg x H1 Q):=by
 intro A s σ H Q I h;have w:=cr (env:=X.env) (es:=[]) j;refine Jk (e8 I c f N ?_ (by decide) (by decide));refine KO ?_ rfl rfl;refine Mx ?_;refine Jk (e8 I d i Ec ?_ (by decide) (by decide));have L:PA X [z] (iu ta p9):=dC M eO w
 refine IG (aK (L P A s σ H (λvs H1=>match vs with
  | [x]=>Eu X.K X.mg x H1 Q
  |_=>False) I h) λus s1 ⟨vs,H1,D,r,q⟩=>?_) w rfl
 match vs,q with
 | [v],⟨F,μ,S,p,ks,B,e,o,b,j,q⟩=>subst e;obtain⟨u,rfl,Y⟩:=r.one;cases Y;refine lU m y D o λh' T cs x G J k _=>?_;refine MI ?_;refine Ex m y k B o.2.1 j b x G J λa h2 t E out ws O U g hl R Z=>?_;have l:Inv X A σ H1 {s1 with heap:=a,toks:=T}:=k.kept (t':=T) O;exact⟨.ref a.objs.size,aT H1 a.objs.size (.lst ws),l.laid (t':=t) U (Zf _) ⟨by rw[JA];omega,out,E,Z,g⟩,rfl,aF.lst q B R _ (l.hok.fresh (Zf _))⟩
end Py
namespace Py
noncomputable def uu(kd:Bool)(e:Expr)(g:List Ir)(s:Scope)(p:Pos):Expr:=.ListComp e g s p
noncomputable def Bf(kd:Bool)(e:Expr)(a:H8)(env:Env):Sem Unit:=qV e a env
def oK(X:Cx)(kd:Bool):H7->List D->List V->HO->Prop:=oL
theorem rA{kd:Bool}{pos:Pos}{d:Nat}{it a:H8}{t i:Expr}{fs:Lx}(h:gens[d]?=some ⟨t,i,fs,0⟩):
  compTurn (uu kd elt gens scope pos) d it a env=(standAt i.pos>>=λ_=>pyNext it>>=λr=>match r with
   |none=>pure (.done .next)
   |some v=>letOwnedTupleGo t it v>>=λ_=>assign t env v>>=λ_=>(dZ fs env>>=λok=>if ok=HX then a8 (uu kd elt gens scope pos) (Bf kd elt a env) gens d a env else pure ())>>=λ_=>
    again (.compLoop (uu kd elt gens scope pos) d it a env)):=by cases kd<;>exact DJ h
section
variable {E:XK}
end
section
variable {E:XK}
end
section
variable {E:XK}
theorem yv:bh X (.type "str") (rC X.K X.mg qH):=by
 intro p s g H x U Q I r h;obtain⟨F,f,S,D,e,R,w⟩:=h;unfold qH at w;split at w
 ·rename_i k;split at w
  ·rename_i b;obtain⟨v,rfl,c⟩:=R.one;cases ax c;obtain⟨u,rfl,d⟩:=r.one;obtain⟨t,rfl⟩:=d;refine PySem.P.str_of_int ?_ ⟨.str _,H,I.kept λ_ _ z=>z,⟨_,rfl⟩,w _ H _ .refl e dj⟩;by_cases a:k.natAbs=0
   ·simp[*]
   ·exact Lc ((Nat.log2_lt a).mpr b) (by simp)
  ·exact w.elim
 ·exact w.elim
theorem i_(O:cq X cell N sc CX E Φ Γ k)(b:ia)(h:qG b=HX):bh X (iO b) (rC X.K X.mg (aJ b)):=by
 cases b with
 |len=>exact vH
 |tuple=>exact kX
 |list box=>exact qt box
 |int=>exact vJ
 |min=>cases h
 |max=>cases h
 |isinst=>exact CL
 |all=>exact vM O.calm
 |any=>cases h
 |sum=>cases h
 |repr=>cases h
 |abs=>cases h
 |str=>exact yv
 |sorted box t=>exact Er O.room.units box t (by unfold qG at h;simpa using h)
theorem rB:∀{l:Ls},gL l=HX->l.Nodup
 | [],_=>KQ
 |x::r,h=>by unfold gL at h;simp at h;exact IX.mpr ⟨h.1,rB h.2⟩
theorem yw(O:cq X cell N sc CX E Φ Γ k)(h:Dl scope sc=HX):dk X scope:=by
 dsimp only[Dl]at h;rw[ZR,beq_iff_eq]at h;obtain⟨a,b⟩:=h;refine⟨a,λy H z=>?_,λy H z=>?_,λy H z=>?_⟩
 ·grind
 ·grind
 ·have:=(λy H=>Zl.mp b y H) y H;rw[z]at this;simp at this;show X.env.scope.names.lookup _=_\/X.env.scope.names.lookup _=_;rw[O.sc];exact this
theorem yx(O:cq X cell N sc CX E Φ Γ k)(h:frB scope.names N' N fr=HX):k8 X scope N' (fy fr):=by
 unfold frB at h;simp only[ZR,beq_iff_eq]at h;obtain⟨b,c⟩:=h;intro f d;refine⟨by simp[fy,b],λi v x a H=>?_⟩;have:=Zl.mp c i (IS.mpr (Zm.mp a).1);unfold fy at H;rw[Kh]at H;cases e:fr[i]? with
 |none=>simp_all
 |some o=>
  rw[e]at H;cases o with
  |none=>cases H
  |some j=>
   rw[e]at this;simp[a]at this;refine⟨this.1,j,by rw[O.n];exact this.2,?_⟩
   grind
theorem l6(O:cq X cell N sc CX E Φ Γ k):(relabel scope X.env).names=iP scope.names sc:=by
 show scope.names.map _=scope.names.map _;congr 1;funext p;obtain⟨n,K⟩:=p;have e:X.env.kindOf n=sc.lookup n:=by show X.env.scope.names.lookup n=_;rw[O.sc]
 simp[e,O.kd,Bool.and_true]
theorem yy(O:cq X cell N sc CX E Φ Γ k)(hs:scope.kind=.function)(hn:gL N'=HX)(C:H7)(s0:HZ)(H0:Hp)(fp:La):cq (eR X scope N' C s0 H0 fp) (qI scope.names) N' (iP scope.names sc) CX E0 Φ Γ k where
 n:=rfl
 nd:=rB hn
 sc:=l6 O
 kd:=hs
 calm:=O.calm
 room:=O.room
 fn:=λx z=>z
 mod:=O.mod
 pass:=λ_ _ _ _ _ _ _ z=>O.cx0 _ _ _ _ _ z
 cx0:=O.cx0
theorem l7{i:Expr}(h:ls i=HX):∀x,foldedSetIterable i env x=pure x:=by intro x;cases i<;>first|rfl|cases h
theorem gk{e:Expr}{c:CE}(h:PE X e (tE X.K X.mg E Φ Γ c))(g:∀W,isTrue e X.env W=(do let v <-W;standAt e.pos;holding [v] (truthy v))){σ:L2.St}:
  PT X e (λσ H Q=>∃F μ ρ S,aC X.K ⟨X.mg,F⟩ μ S H/\aN X.K ⟨X.mg,F⟩ μ H ρ σ/\ai X.K ⟨X.mg,F⟩ E (λ_ _ a b=>a=b) μ H Q ((ah Φ Γ c ρ S).bind λd S1=>match aY S1 d with|some k=>.ok k S1|none=>.fail)):=
 cY (BV h g) λσ H Q z=>az z λF μ ρ S i f w=>⟨F,_,_,S,i,f,(ai.bind w).mono λv H1 z=>aq z λm S1 d x s r j=>by obtain⟨k,e,l⟩:=wx j;exact⟨k,oV s r e,l _ _ k .refl s rfl⟩⟩
theorem rE{Q:VK}(s:aC K ⟨mg,F⟩ μ S H)(r:Rep K ⟨mg,F⟩ μ H d v)(w:aF K ⟨mg,F⟩ μ H Q (dB d S)):Eu K mg v H Q:=by
 unfold dB at w;split at w
 ·rename_i x e;split at w
  ·rename_i h;obtain⟨p,o,rfl,m,E⟩:=rk s r e ⟨h.1,by omega⟩;refine⟨F,μ,S,p,o,s,rfl,m,by have:=congrArg KN E;rw[Zk,Zk]at this;omega,λc b=>?_,by rw[E];exact w⟩;have:c.1∈x.map et:=by rw[<-E];exact KZ b
   obtain⟨y,g,f⟩:=Zo.mp this;have j:=Zl.mp h.1 y g;have k:=Zl.mp h.2.2 y g;intro z;rw[z]at f;obtain⟨Z,rfl,n⟩:=cO j;cases Z with
   |nil=>cases k
   |cons a l=>obtain⟨i,rfl⟩:=cE (n a Ze);cases f
  ·exact w.elim
 ·exact w.elim
theorem rF(O:cq X cell N sc CX E Φ Γ k){z:Expr}{a:CE}{p P f:Pos}(h1:a_ sc "sorted"=HX)(h:a_ sc "set"=HX)(c:bK z=HX)(b:PE X z (tE X.K X.mg E Φ Γ a)):PE X (.Call (.Name "sorted" p) [.Call (.Name "set" p2) [z] [] P] [] f) (tE X.K X.mg E Φ Γ (.sset a)):=
 aI (Ey O.calm O.room.units (O.gl (cZ h1).1) (O.gl (cZ h).1) (O.mod.bl _ (by decide+kernel)) (O.mod.bl _ (by decide+kernel)) (rfl) c b) λn H Q Z=>az Z λF l m S g e w=>
  ⟨F,_,_,S,g,e,(ai.bind w).mono λv H1 Z=>aq Z λi j d x s r W=>rE s r (bU W)⟩
end
section
variable {E:XK}
end
section
variable {a b c d:Expr}{tb td:TE}{pos:Pos}
noncomputable def l9(r g R:R2)(t tb T h:TE):TT:=λσ H Q=>t σ H λx H1=>tb σ H1 λy H2=>r x y H2 λz a=>∃k,z=.bl k/\
 (if k=HX then T σ a λw d=>g y w d λi b=>∃c,i=.bl c/\(if c=HX then h σ b λv e=>R w v e λZ f=>∃K,Z=.bl K/\Q K f else Q HY b)else Q HY a)
theorem Ez{o:Ka}{r w R:R2}(Y:bZ X (compareOp o) r)(i:bZ X (compareOp op') w)(g:bZ X (compareOp op'') R)(P:PE X a ta)(S:PE X b tb)(T:PE X c tc)(U:PE X d td)
  (V:lastMarks [o,op',op''] [b,c,d]=HY):PT X (.Compare a [o,op',op''] [b,c,d] pos) (l9 r w R ta tb tc td):=by
 intro p s f H Q I h
 refine isTrue_chain (aK (P p s f H _ I h) λv s1 ⟨x,H1,F,r1,q1⟩=>test_link (aK (S p s1 f H1 _ F q1) λu s2 ⟨y,B,G,A,q2⟩=>
  aK (Y p s2 f B x y v u _ G r1 A q2) λd s3 ⟨z,j,m,r3,k,e,q⟩=>?_)) V
 subst e;cases r3;refine ZM ?_;cases k with
 |false=>exact ite_ff ⟨j,m,q⟩
 |true=>
  refine ite_tt (test_link (aK (T p s3 f j _ m q) λW s4 ⟨Z,C,J,r4,q4⟩=>aK (i p s4 f C y Z u W _ J A r4 q4) λd' s5 ⟨z2,l,n,r5,k2,N,t⟩=>?_));subst N;cases r5;refine ZM ?_;cases k2 with
  |false=>exact ite_ff ⟨l,n,t⟩
  |true=>refine ite_tt (test_last (aK (U p s5 f l _ n t) λw2 s6 ⟨z3,D,K,r6,q6⟩=>aK (g p s6 f D Z z3 W w2 _ K r4 r6 q6) λM s7 ⟨z4,E,L,r7,k3,O,q7⟩=>?_));subst O;cases r7;exact ZM ⟨E,L,q7⟩
end
section
variable {E:XK}{l r r2:Expr}{pos:Pos}{a b c d:CE}
theorem EA{o:Ka}(j:X.A.units+64<cLine)(U:PE X l (tE X.K X.mg E Φ Γ a))(V:PE X r (tE X.K X.mg E Φ Γ b))(Y:PE X r' (tE X.K X.mg E Φ Γ c))(Z:PE X r2 (tE X.K X.mg E Φ Γ d))(hm:behindInMarks op'' r2=HY):PT X (.Compare l [o,op',op''] [r,r',r2] pos) (tT X.K X.mg E Φ Γ (.chain3 o op' op'' a b c d)):=
 cY (Ez (cU o j) (cU op' j) (cU op'' j) U V Y Z hm) λσ H Q z=>az z λF μ i S sk g w=>
  ⟨F,μ,i,S,sk,g,(ai.bind w).mono λv1 H1 z=>aq z λq L d1 x s1 r1 w1=>⟨F,q,i,L,s1,g.mono x,(ai.bind w1).mono λv2 H2 z=>aq z λs M D n s2 r2 w2=>
   ⟨F,s,M,d1,D,s2,Rep.mono n _ _ r1,r2,bU ((ai.bind w2).mono λv3 I z=>aq z λe N d3 p A r3 w3=>by
    obtain⟨k,rfl,rfl,W⟩:=eS w3 r3;refine⟨k,rfl,?_⟩;cases k with
    |true=>
     rw[if_pos rfl]at W⊢
     exact⟨F,e,i,N,A,(g.mono x).mono (n.trans p),(ai.bind W).mono λv4 H4 z=>aq z λt O y C s4 r4 w5=>⟨F,t,O,D,y,s4,Rep.mono (p.trans C) _ _ r2,r4,bU ((ai.bind w5).mono λv5 J z=>aq z λf P d5 G B r5 w6=>by
      obtain⟨k,rfl,rfl,h⟩:=eS w6 r5;refine⟨k,rfl,?_⟩;cases k with
      |true=>rw[if_pos rfl]at h⊢;exact⟨F,f,i,P,B,(((g.mono x).mono (n.trans p)).mono C).mono G,(ai.bind h).mono λv6 H6 z=>aq z λu R T x6 s6 r6 w8=>⟨F,u,R,y,T,s6,Rep.mono (G.trans x6) _ _ r4,r6,bU ((ai.bind w8).mono λv7 K z=>aq z λv S7 d7 x7 s7 r7 w9=>by obtain⟨k,rfl,rfl,m⟩:=eS w9 r7;exact⟨k,rfl,m v K k .refl s7 rfl⟩)⟩⟩
      |false=>rw[if_neg (by decide)]at h⊢;exact h f J _ .refl B rfl)⟩⟩
    |false=>rw[if_neg (by decide)]at W⊢;exact W e I _ .refl A rfl)⟩⟩⟩
end
theorem l_{E:XK}{c:CE}(h:∀ρ S,al Φ Γ c ρ S=.fail):PW X e (tT X.K X.mg E Φ Γ c):=λW p s f H Q I z=>az z λF d ρ S b a w=>by rw[h]at w;exact w.elim
theorem yz{l:List α}{d:Nat}{x:α}{r:List α}(h:l.drop d=x::r):l[d]?=some x:=by have:=congrArg (λl=>l[0]?) h;simpa using this
theorem EB{l:List α}{d:Nat}(h:l.drop d=[]):l[d]?=none:=by simp_all
theorem EC{l:List α}{d:Nat}{x:α}{r:List α}(h:l.drop d=x::r):l.drop (d+1)=r:=by
 have:(l.drop d).drop 1=r:=by simp_all
 rwa [List.drop_drop]at this
section
variable {E:XK}{a b:CE}{l x y:Expr}{pos:Pos}{n:Bool}
theorem rG(h:PE X l (tE X.K X.mg E Φ Γ a))(h1:n=HX->PE X x (tE X.K X.mg E Φ Γ b))(H:n=HY->∃r rest,y=.BoolOp .And (r::rest) pos/\PE X y (tE X.K X.mg E Φ Γ b)):PE X (.BoolOp .And (l::cond n [x] (vw y).es) pos) (tE X.K X.mg E Φ Γ (.band a b)):=by
 cases n with
 |true=>exact oZ h (ik (h1 rfl))
 |false=>obtain⟨r,rest,rfl,q⟩:=H rfl;exact oZ h q
theorem yA(h:PE X l (tE X.K X.mg E Φ Γ a))(h1:n=HX->PE X x (tE X.K X.mg E Φ Γ b))(H:n=HY->∃r rest,y=.BoolOp .Or (r::rest) pos/\PE X y (tE X.K X.mg E Φ Γ b)):PE X (.BoolOp .Or (l::cond n [x] (vw y).es) pos) (tE X.K X.mg E Φ Γ (.bor a b)):=by
 cases n with
 |true=>exact ww h (ik (h1 rfl))
 |false=>obtain⟨r,rest,rfl,q⟩:=H rfl;exact ww h q
theorem yB(h:PT X l (tT X.K X.mg E Φ Γ a))(h1:n=HX->PT X x (tT X.K X.mg E Φ Γ b))(H:n=HY->∃r rest,y=.BoolOp .And (r::rest) pos/\PW X y (tT X.K X.mg E Φ Γ b)):PW X (.BoolOp .And (l::cond n [x] (vw y).es) pos) (tT X.K X.mg E Φ Γ (.band a b)):=by
 cases n with
 |true=>exact o2 h (j5 (h1 rfl))
 |false=>obtain⟨r,rest,rfl,q⟩:=H rfl;exact o2 h q
theorem ja(h:PT X l (tT X.K X.mg E Φ Γ a))(h1:n=HX->PT X x (tT X.K X.mg E Φ Γ b))(H:n=HY->∃r rest,y=.BoolOp .Or (r::rest) pos/\PW X y (tT X.K X.mg E Φ Γ b)):PW X (.BoolOp .Or (l::cond n [x] (vw y).es) pos) (tT X.K X.mg E Φ Γ (.bor a b)):=by
 cases n with
 |true=>exact wE h (ii (h1 rfl))
 |false=>obtain⟨r,rest,rfl,q⟩:=H rfl;exact wE h q
theorem rH(h:iQ b=HX):∃r rest,aO b N (.BoolOp .And es pos)=.BoolOp .And (r::rest) pos:=by
 unfold iQ at h;split at h
 ·exact⟨_,_,rfl⟩
 ·cases h
theorem rJ(h:fo b=HX):∃r rest,aO b N (.BoolOp .Or es pos)=.BoolOp .Or (r::rest) pos:=by
 unfold fo at h;split at h
 ·exact⟨_,_,rfl⟩
 ·cases h
theorem jb{t:CT}(h:lu t=HX):eA (gO t N e)=HX:=by
 cases t with
 |var i=>cases h
 |tup T=>rfl
theorem eI{a b:Bool}(h:cond n a b=HX)(z:n=HX):a=HX:=by lia
theorem b7{a b:Bool}(h:cond n a b=HX)(z:n=HY):b=HX:=by lia
end
def HM(c:CE):Prop:=∀{X:Cx} {cell:Str->Bool} {N:Ls} {sc:Sc} {CX:cR} {E:XK} {Φ:FT} {Γ:Str->Option D} {k:Nat} {e:Expr},cq X cell N sc CX E Φ Γ k->bC c N sc e=HX->PE X (aO c N e) (tE X.K X.mg E Φ Γ c)
def Hf(c:CE):Prop:=∀{X:Cx} {cell:Str->Bool} {N:Ls} {sc:Sc} {CX:cR} {E:XK} {Φ:FT} {Γ:Str->Option D} {k:Nat} {e:Expr},cq X cell N sc CX E Φ Γ k->bC c N sc e=HX->PT X (aO c N e) (tT X.K X.mg E Φ Γ c)
def Hg(c:CE):Prop:=∀{X:Cx} {cell:Str->Bool} {N:Ls} {sc:Sc} {CX:cR} {E:XK} {Φ:FT} {Γ:Str->Option D} {k:Nat} {e:Expr},cq X cell N sc CX E Φ Γ k->bC c N sc e=HX->(iQ c||fo c)=HX->PW X (aO c N e) (tT X.K X.mg E Φ Γ c)
def Hh(c:CE):Prop:=∀{X:Cx} {cell:Str->Bool} {N:Ls} {sc:Sc} {CX:cR} {E:XK} {Φ:FT} {Γ:Str->Option D} {k:Nat} {tg:CT} {t e:Expr},cq X cell N sc CX E Φ Γ k->wq c N sc tg e=HX->(lu tg=HX->eA t=HX)->PI X t (qL c N e) (tI X.K X.mg E Φ Γ c)
def Hi(c:CE):Prop:=∀{X:Cx} {cell:Str->Bool} {N:Ls} {sc:Sc} {CX:cR} {E:XK} {Φ:FT} {Γ:Str->Option D} {k:Nat} {kd:Bool} {e:Expr} {gens g:List Ir} {scope:Scope} {pos:Pos} {d:Nat} {acc:H7},cq X cell N sc CX E Φ Γ k->X.xe=(λ_ _=>False)->gens.drop (d+1)=qK c N g->Ba c kd cell N sc g e=HX->
  PB X (a8 (uu kd (lv c N e) gens scope pos) (Bf kd (lv c N e) (.ref acc) X.env) gens d (.ref acc) X.env) (tB X.K X.mg (oK X kd) Φ Γ c acc)
theorem yC{c:CE}(z:∀Φ Γ ρ S,al Φ Γ c ρ S=.fail):Hf c:=λ_ _=>(l_ λ_ _=>z _ _ _ _).pt
theorem yD{c:CE}(z:(iQ c||fo c)=HY):Hg c:=λ_ _ h=>by rw[z]at h;cases h
theorem yE{c:CE}(z:∀N sc tg e,wq c N sc tg e=HY):Hh c:=λ_ h _=>by rw[z]at h;cases h
theorem yF{c:CE}(z:∀kd N sc cell g e,Ba c kd cell N sc g e=HY):Hi c:=λ_ _ _ h=>by rw[z]at h;cases h
mutual
theorem aG(c:CE):HM c:=by
 intro X K N sc CX E Φ Γ k e O h;cases c with
 |var i=>exact o3 O (aa h).1 (aa (aa h).2).1 (aa (aa h).2).2
 |dct=>exact wM
 |rv0 a b c=>exact wP (aG a O (aa h).1) (aG b O (aa (aa h).2).1) (aG c O (aa (aa h).2).2)
 |rev a b=>exact wO (aG a O (aa h).1) (aG b O (aa h).2)
 |lit d=>exact o4 h
 |glob y=>exact qP O h
 |ty n=>exact Dr O (aa h).1 (aa h).2
 |bin op a b=>exact wt (aG a O (aa h).1) (aG b O (aa h).2)
 |neg a=>exact wz (aG a O h)
 |cmp op a b=>exact wu O.room.units (aG a O (aa h).1) (aG b O (aa (aa h).2).1) (ft (aa (aa h).2).2)
 |chain op G a b c=>exact lw O.room.units (aG a O (aa h).1) (aG b O (aa (aa h).2).1) (aG c O (aa (aa (aa h).2).2).1) (ft (aa (aa (aa h).2).2).2)
 |band a b=>exact rG (aG a O (aa h).1) (λz=>aG b O (eI (aa h).2 z)) λz=>by obtain⟨r,R,q⟩:=rH (pos:=(vw e).pos) (N:=N) (es:=(vw e).es.tail) (aa (b7 (aa h).2 z)).1;exact⟨r,R,q,aG b O (aa (b7 (aa h).2 z)).2⟩
 |bor a b=>exact yA (aG a O (aa h).1) (λz=>aG b O (eI (aa h).2 z)) λz=>by obtain⟨r,R,q⟩:=rJ (pos:=(vw e).pos) (N:=N) (es:=(vw e).es.tail) (aa (b7 (aa h).2 z)).1;exact⟨r,R,q,aG b O (aa (b7 (aa h).2 z)).2⟩
 |bnot a=>exact wy (aG a O h)
 |ite c a b=>exact wI (dI c O (aa h).1) (aG a O (aa (aa h).2).1) (aG b O (aa (aa h).2).2)
 |tup j=>exact wK (fq (aa h).2) (c6 j O (aa h).1)
 |lst box j=>exact wL (fq (aa h).2) (c6 j O (aa h).1)
 |idx a b=>exact wN (aa (aa h).2).2 (aG a O (aa h).1) (aG b O (aa (aa h).2).1)
 |sl a lo hi=>exact Ds (aG a O (aa h).1) (jc lo O (aa (aa h).2).1 (fq (aa (aa (aa (aa h).2).2).2).1)) (jc hi O (aa (aa (aa h).2).2).1 (fq (aa (aa (aa (aa h).2).2).2).2))
 |call f j=>
  have D:=c6 j O (aa (aa h).2).1;cases j with
  |nil=>cases(aa (aa h).2).2
  |cons c t=>exact iT O (aa h).1 (dY (cs:=c::t) (aa (aa h).2).1) D
 |blt b j=>
  have D:=c6 j O (aa (aa h).2).1;cases j with
  |nil=>cases(aa (aa (aa h).2).2).1
  |cons c t=>exact o5 O (i_ O b (aa (aa (aa h).2).2).2) (aa h).1 (dY (cs:=c::t) (aa (aa h).2).1) D
 |chain3 op G L a b c d=>exact λpq s σ H Q I zz=>az zz λF μ ρ S sk en w=>w.elim
 |smt m o j=>have l:=(aa (aa (aa (aa h).2).2).2).1;exact wV (m:=m) (aa h).1 (aa (aa h).2).1 (dY l) (by rw[gP];exact fq (aa (aa (aa (aa h).2).2).2).2) (aG o O (aa (aa (aa h).2).2).1) (c6 j O l)
 |tix o j=>have l:=(aa (aa (aa (aa h).2).2).2).1;exact wU (aa h).1 (aa (aa h).2).1 (dY l) (by rw[gP];exact fq (aa (aa (aa (aa h).2).2).2).2) (aG o O (aa (aa (aa h).2).2).1) (c6 j O l)
 |join x j=>have l:=(aa (aa h).2).1;exact qR (aa h).1 (dY l) (by rw[gP];exact fq (aa (aa h).2).2) (c6 j O l)
 |meth m o j=>have l:=(aa (aa (aa (aa h).2).2).2).1;exact qQ (aa h).1 (aa (aa h).2).1 (dY l) (by rw[gP];exact fq (aa (aa (aa (aa h).2).2).2).2) gP.symm (aG o O (aa (aa (aa h).2).2).1) (c6 j O l)
 |sset a=>exact rF O (aa h).1 (aa (aa h).2).1 (aa (aa (aa h).2).2).2 (aG a O (aa (aa (aa h).2).2).1)
 |comp box J fr T it u body=>
  obtain⟨U,h⟩:=aa h;obtain⟨V,h⟩:=aa h;obtain⟨W,h⟩:=aa h;obtain⟨l,h⟩:=aa h;obtain⟨Y,h⟩:=aa h;obtain⟨Z,h⟩:=aa h;obtain⟨h7,h8⟩:=aa h;have v:=yw O U
  refine aI (k9 (N:=J) (g:=o8 X.K T) (tb:=tC X.K X.mg oL Φ Γ u body) O.calm v (yx O V) (me it O Y jb) (λA p=>dZ _ p>>=λok=>if ok=HX then a8 (uu HY _ _ _ _) (Bf HY _ _ p) (_::_) 0 (.ref A) p else pure ())
   (λit A p=>rA (kd:=HY) rfl) (λC s0 M P A=>?_) (l7 Z)) λσ H Q q=>iZ (tg0:=gO T J ((vw e).gs.headD dG).target) q
  have B:=yy O v.kind W C s0 M P;exact⟨iX B l,qZ (ma u B h7) (rK body (kd:=HY) B rfl rfl h8)⟩
 |emit e=>cases h
 |inner a b c d=>cases h
 |seq a=>cases h
 |range a=>cases h
 |zip a=>cases h
theorem dI(c:CE):Hf c:=by
 cases c with
 |var i=>
  intro X C N s n E j l k e O h;refine cY (gk (σ:=[]) (o3 O (aa h).1 (aa (aa h).2).1 (aa (aa h).2).2) λ_=>rfl) λD H Q Z=>az Z λF B m S A v w=>⟨F,B,m,S,A,v,?_⟩;cases t:m[i]? with
  |none=>simp only[al,t]at w;exact w.elim
  |some o=>
   cases o with
   |none=>simp only[al,t]at w;exact w.elim
   |some d=>simp only[al,t]at w;simp only[ah,t];exact w
 |lit d=>intro X C N s n E j l k e O h;exact cY (gk (Φ:=j) (Γ:=l) (σ:=[]) (o4 h) λ_=>rfl) λD H Q Z=>az Z λF B m S A v w=>⟨F,B,m,S,A,v,w⟩
 |call f x=>
  intro X C N s n E j l k e O h;have J:=c6 x O (aa (aa h).2).1;cases x with
  |nil=>cases(aa (aa h).2).2
  |cons c p=>
   refine cY (gk (σ:=[]) (iT O (aa h).1 (dY (cs:=c::p) (aa (aa h).2).1) J) λ_=>rfl) λD H Q Z=>az Z λF B m S A v w=>⟨F,B,m,S,A,v,?_⟩;simp only[al]at w;simp only[ah];cases t:j f with
   |none=>rw[t]at w;exact w
   |some M=>
    rw[t]at w;show ai _ _ _ _ _ _ _ (((aj j l (c::p) m S).bind λI G=>M I G).bind _);cases u:aj j l (c::p) m S with
    |ok I G=>rw[u]at w;exact w
    |err y G=>rw[u]at w;exact w
    |fail=>rw[u]at w;exact w
 |blt b x=>
  intro X C N s n E j l k e O h;have J:=c6 x O (aa (aa h).2).1;cases x with
  |nil=>cases(aa (aa (aa h).2).2).1
  |cons c p=>
   refine cY (gk (σ:=[]) (o5 O (i_ O b (aa (aa (aa h).2).2).2) (aa h).1 (dY (cs:=c::p) (aa (aa h).2).1) J) λ_=>rfl) λD H Q Z=>az Z λF B m S A v w=>⟨F,B,m,S,A,v,?_⟩;simp only[al]at w;simp only[ah];cases u:aj j l (c::p) m S with
   |ok I G=>rw[u]at w;exact w
   |err y G=>rw[u]at w;exact w
   |fail=>rw[u]at w;exact w
 |cmp op a b=>intro X C N s n E j l k e O h;exact wv O.room.units (aG a O (aa h).1) (aG b O (aa (aa h).2).1) (ft (aa (aa h).2).2)
 |chain3 op K L a b c d=>intro X C N s n E j l k e O h;exact EA O.room.units (aG a O (aa h).1) (aG b O (aa (aa h).2).1) (aG c O (aa (aa (aa h).2).2).1) (aG d O (aa (aa (aa (aa h).2).2).2).1) (ft (aa (aa (aa (aa h).2).2).2).2)
 |chain op K a b c=>intro X C N s n E j l k e O h;exact ly O.room.units (aG a O (aa h).1) (aG b O (aa (aa h).2).1) (aG c O (aa (aa (aa h).2).2).1) (ft (aa (aa (aa h).2).2).2)
 |band a b=>intro X C N s n E j l k e O h;exact(yB (dI a O (aa h).1) (λz=>dI b O (eI (aa h).2 z)) λz=>by have g:=(aa (b7 (aa h).2 z)).1;obtain⟨r,R,q⟩:=rH (pos:=(vw e).pos) (N:=N) (es:=(vw e).es.tail) g;exact⟨r,R,q,l' b O (aa (b7 (aa h).2 z)).2 (by rw[g];rfl)⟩).pt
 |bor a b=>intro X C N s n E j l k e O h;exact(ja (dI a O (aa h).1) (λz=>dI b O (eI (aa h).2 z)) λz=>by have g:=(aa (b7 (aa h).2 z)).1;obtain⟨r,R,q⟩:=rJ (pos:=(vw e).pos) (N:=N) (es:=(vw e).es.tail) g;exact⟨r,R,q,l' b O (aa (b7 (aa h).2 z)).2 (by rw[g,Bool.or_true])⟩).pt
 |bnot a=>intro X C N s n E j l k e O h;exact wH (dI a O h)
 |_=>exact yC λ_ _ _ _=>rfl
theorem l'(c:CE):Hg c:=by
 cases c with
 |band a b=>intro X C N s d E j i k e O h H;exact yB (dI a O (aa h).1) (λz=>dI b O (eI (aa h).2 z)) λz=>by have g:=(aa (b7 (aa h).2 z)).1;obtain⟨r,R,q⟩:=rH (pos:=(vw e).pos) (N:=N) (es:=(vw e).es.tail) g;exact⟨r,R,q,l' b O (aa (b7 (aa h).2 z)).2 (by rw[g];rfl)⟩
 |bor a b=>intro X C N s d E j i k e O h H;exact ja (dI a O (aa h).1) (λz=>dI b O (eI (aa h).2 z)) λz=>by have g:=(aa (b7 (aa h).2 z)).1;obtain⟨r,R,q⟩:=rJ (pos:=(vw e).pos) (N:=N) (es:=(vw e).es.tail) g;exact⟨r,R,q,l' b O (aa (b7 (aa h).2 z)).2 (by rw[g,Bool.or_true])⟩
 |_=>exact yD rfl
theorem c6(cs:List CE):∀{X:Cx} {cell:Str->Bool} {N:Ls} {sc:Sc} {CX:cR} {E:XK} {Φ:FT} {Γ:Str->Option D} {k:Nat} {es:Lx},cq X cell N sc CX E Φ Γ k->eE cs N sc es=HX->PA X (da cs N es) (tL X.K X.mg E Φ Γ cs):=by
 intro X cell N sc CX E Φ Γ k es O h;cases cs with
 |nil=>exact wJ
 |cons c cs=>exact qN (aa (aa h).2).1 (aG c O (aa h).1) (c6 cs O (aa (aa h).2).2)
theorem jc(cs:List CE):∀{X:Cx} {cell:Str->Bool} {N:Ls} {sc:Sc} {CX:cR} {E:XK} {Φ:FT} {Γ:Str->Option D} {k:Nat} {es:Lx},cq X cell N sc CX E Φ Γ k->eE cs N sc es=HX->cs.length<2->PO X (da cs N es).head? (wQ X.K X.mg E Φ Γ cs):=by
 intro X cell N sc CX E Φ Γ k es O h H;cases cs with
 |nil=>exact lB
 |cons c cs=>cases cs with
  |nil=>exact lC (aG c O (aa h).1)
  |cons _ _=>exact absurd H (by simp)
theorem ma(cs:List CE):∀{X:Cx} {cell:Str->Bool} {N:Ls} {sc:Sc} {CX:cR} {E:XK} {Φ:FT} {Γ:Str->Option D} {k:Nat} {es:Lx},cq X cell N sc CX E Φ Γ k->eE cs N sc es=HX->vX X (da cs N es) (cs.map (tT X.K X.mg E Φ Γ)):=by
 intro X cell N sc CX E Φ Γ k es O h;cases cs with
 |nil=>trivial
 |cons c cs=>exact⟨dI c O (aa h).1,ma cs O (aa (aa h).2).2⟩
theorem me(c:CE):Hh c:=by
 cases c with
 |seq a=>intro X C N s m E o n k T t e O h l;exact xi (aG a O h)
 |range f=>
  intro X C N s m E o n k T t e O h l;have i:=(aa (aa h).2).1;have H:=(aa (aa h).2).2;have g:=dY i;have j:=c6 f O i;cases f with
  |nil=>cases H
  |cons a f=>cases f with
   |nil=>exact DE O (aa h).1 (g _ Ze) rfl j
   |cons b f=>cases f with
    |nil=>exact DF O (aa h).1 (g _ Ze) (g _ (Zc _ Ze)) rfl j
    |cons d f=>cases H
 |zip f=>
  intro X C N s m E o n k T t e O h l;have i:=(aa (aa h).2).1;have H:=(aa (aa h).2).2;have g:=dY i;have j:=c6 f O i;cases f with
  |nil=>cases(aa H).1
  |cons a f=>cases f with
   |nil=>cases(aa H).1
   |cons b f=>cases f with
    |nil=>exact xm O (aa h).1 (l (aa H).2) (g _ Ze) (g _ (Zc _ Ze)) j
    |cons d f=>cases(aa H).1
 |_=>exact yE λ_ _ _ _=>rfl
theorem rK(c:CE):Hi c:=by
 cases c with
 |emit a=>
  intro X C N S e E q p k K f g G s pos d A O b H h;cases K with
  |true=>cases h
  |false=>exact q5 (EB H) (aG a O h)
 |inner t it i body=>intro X C N S e E q p k K f g G s pos d A O b H h;obtain⟨j,h⟩:=aa h;obtain⟨l,h⟩:=aa h;obtain⟨m,h⟩:=aa h;obtain⟨n,o⟩:=aa h;exact lJ (by cases K<;>rfl) (by cases K<;>rfl) (λit=>rA (yz H)) b O.calm (yz H) (me it O l jb) (l7 m) (iX O j) (qZ (ma i O n) (rK body O b (EC H) o))
 |_=>exact yF λ_ _ _ _ _ _=>rfl
end
noncomputable def ap(K:Fg)(m:GS)(E:XK)(D:Ends)(μ:La)(H:Hp):Res Fl->Prop
 | .ok (.next ρ') S'=>∀μ' H' σ',Ext μ H μ' H'->aC K m μ' S' H'->aN K m μ' H' ρ' σ'->D.nx σ' H'
 | .ok (.ret d) S'=>∀μ' H' v,Ext μ H μ' H'->aC K m μ' S' H'->Rep K m μ' H' d v->D.rt v H'
 | .ok (.brk ρ') S'=>∀μ' H' σ',Ext μ H μ' H'->aC K m μ' S' H'->aN K m μ' H' ρ' σ'->D.bk σ' H'
 | .ok (.cont ρ') S'=>∀μ' H' σ',Ext μ H μ' H'->aC K m μ' S' H'->aN K m μ' H' ρ' σ'->D.ct σ' H'
 | .err x S'=>∀μ' H',Ext μ H μ' H'->aC K m μ' S' H'->wn m.mg E x H'
 | .fail=>False
noncomputable def tS(K:Fg)(m:Mg)(E:XK)(Φ:FT)(Γ:Str->Option D)(c:CS):TS:=λD σ H=>∃F μ ρ S,aC K ⟨m,F⟩ μ S H/\aN K ⟨m,F⟩ μ H ρ σ/\ap K ⟨m,F⟩ E D μ H (am Φ Γ c ρ S)
noncomputable def j1(K:Fg)(m:Mg)(E:XK)(Φ:FT)(Γ:Str->Option D)(cs:List CS):TS:=λD σ H=>∃F μ ρ S,aC K ⟨m,F⟩ μ S H/\aN K ⟨m,F⟩ μ H ρ σ/\ap K ⟨m,F⟩ E D μ H (af Φ Γ cs ρ S)
section
variable {mg:GS}{E:XK}{D D':Ends}
theorem ap.ext{r:Res Fl}(x:Ext μ H μ' H')(w:ap K mg E D μ H r):ap K mg E D μ' H' r:=by
 cases r with
 |ok f S=>
  cases f with
  |next a=>exact λm h s y=>w m h s (x.trans y)
  |ret d=>exact λm h s y=>w m h s (x.trans y)
  |brk a=>exact λm h s y=>w m h s (x.trans y)
  |cont a=>exact λm h s y=>w m h s (x.trans y)
 |err z S=>exact λm h y=>w m h (x.trans y)
 |fail=>exact w
theorem ap.bind{Rel:La->Hp->α->β->Prop}{r:Res α}{f:α->ae->Res Fl}(w:ap K mg E D μ H (r.bind f)):
  ai K mg E Rel μ H (λb H'=>∃μ' S' a,Ext μ H μ' H'/\aC K mg μ' S' H'/\Rel μ' H' a b/\ap K mg E D μ' H' (f a S')) r:=by
 cases r with
 |ok a S'=>exact λc d b x s r=>⟨_,_,a,x,s,r,ap.ext x (show ap K _ E D _ H _ from w)⟩
 |err y S'=>exact w
 |fail=>exact w
theorem ap.seq{r:Res Fl}{f:bu->ae->Res Fl}{N:L2.St->Hp->Prop}(w:ap K mg E D μ H (r.bind λF S1=>match F with
   | .next ρ'=>f ρ' S1
   |F=>.ok F S1)) (b:∀μ' H' σ' ρ' S',Ext μ H μ' H'->aC K mg μ' S' H'->aN K mg μ' H' ρ' σ'->ap K mg E D μ' H' (f ρ' S')->N σ' H'):ap K mg E {D with nx:=N} μ H r:=by
 cases r with
 |ok F S=>
  cases F with
  |next a=>exact λm h s x k e=>b m h s _ S x k e (ap.ext x (show ap K _ E D _ H _ from w))
  |ret d=>exact w
  |brk a=>exact w
  |cont a=>exact w
 |err z S=>exact w
 |fail=>exact w
end
theorem b8{t t':TS}(h:PS X st t)(w:∀D σ H,t' D σ H->t D σ H):PS X st t':=λp s σ H D I q=>h _ s _ H D I (w D _ H q)
theorem jd{st:List JE}{t t':TS}(h:dR X st t)(w:∀D σ H,t' D σ H->t D σ H):dR X st t':=λp s σ H D I q=>h _ s _ H D I (w D _ H q)
noncomputable def eU:Expr->Bool
 | .ListComp .. =>HY
 | .SetComp .. =>HY
 | .DictComp .. =>HY
 |_=>HX
noncomputable def rL:Expr->Bool
 | .ListComp .. =>HX
 |_=>HY
noncomputable def rN(s:Sc)(x:Str):Bool:=s.lookup x==some .local||s.lookup x==some .cell
noncomputable def Hj(s:Sc)(x:Str)(p:Pos)(v:Expr):Bool:=s.lookup x==some .local&&(p.line==(vw v).pos.line&& !((vw v).sc.names.any λ(n,k)=>n==x&&(k== .local||k== .cell)))
noncomputable def dS:JE:=.Pass ⟨0,0,0,0⟩
set_option genInjectivity false in
structure HN where
 e0:Expr:=dE
 e1:Expr:=dE
 a:List JE:=[]
 b:List JE:=[]
 pos:Pos:=⟨0,0,0,0⟩
 hp:Pos:=⟨0,0,0,0⟩
noncomputable def vs:JE->HN
 | .Assign ts v p=>{e0:=ts.headD dE,e1:=v,pos:=p}
 | .AugAssign t _ v p=>{e0:=t,e1:=v,pos:=p}
 | .Expr v p=>{e0:=v,pos:=p}
 | .Return v p=>{e0:=v.getD dE,pos:=p}
 | .Pass p=>{pos:=p}
 | .Break p=>{pos:=p}
 | .Continue p=>{pos:=p}
 | .If t x y p=>{e0:=t,a:=x,b:=y,pos:=p}
 | .For t i x _ p=>{e0:=t,e1:=i,a:=x,pos:=p}
 | .While t x _ p=>{e0:=t,a:=x,pos:=p}
 | .Raise v _ p=>{e0:=v.getD dE,pos:=p}
 | .Try x [.ExceptHandler t _ y hp] _ _ p=>{e0:=t.getD dE,a:=x,b:=y,pos:=p,hp:=hp}
 |_=>{}
noncomputable def yG(o i:CE)(N:Ls)(e:Expr):Expr:=.Subscript (aO o N (vw e).e0) (aO i N (vw e).e1) (vw e).pos
noncomputable def yH(o i:CE)(N:Ls)(s:Sc)(e:Expr):Bool:=gM (aO i N (vw e).e1)&&(bC o N s (vw e).e0&&bC i N s (vw e).e1)
noncomputable def ED(nb:Option (Str×Nat×Pos×Pos))(e:Expr):Expr:=match nb with
 |none=>e
 |some (x,k,p,q)=>.List [.Constant (.str x) k p,e] q
noncomputable def g7(nb:Option (Str×Nat×Pos×Pos))(p n y:Str)(t np vp c r h:Pos):Lo:=.ExceptHandler (some (.Name p t)) (some n) [.Return (some (ED nb (.Call (.Name y np) [.Name n vp] [] c))) r] h
mutual
noncomputable def ic:CS->Ls->JE->JE
 | .asg i e,N,st=>.Assign [.Name (N.getD i "") (vw (vs st).e0).pos] (aO e N (vs st).e1) (vs st).pos
 | .asgT t e,N,st=>.Assign [gO t N (vs st).e0] (aO e N (vs st).e1) (vs st).pos
 | .set o i v,N,st=>.Assign [yG o i N (vs st).e0] (aO v N (vs st).e1) (vs st).pos
 | .expr e,N,st=>.Expr (aO e N (vs st).e0) (vs st).pos
 | .ret e,N,st=>.Return (some (aO e N (vs st).e0)) (vs st).pos
 | .retN,_,st=>.Return none (vs st).pos
 | .pass,_,st=>.Pass (vs st).pos
 | .brk,_,st=>.Break (vs st).pos
 | .cont,_,st=>.Continue (vs st).pos
 | .ite c a b,N,st=>.If (aO c N (vs st).e0) (cb a N (vs st).a) (cb b N (vs st).b) (vs st).pos
 | .for_ t it body,N,st=>.For (gO t N (vs st).e0) (qL it N (vs st).e1) (cb body N (vs st).a) [] (vs st).pos
 | .never,_,st=>st
 | .raise_ x es,N,st=>.Raise (some (.Call (.Name x (vw (vw (vs st).e0).e0).pos) (da es N (vw (vs st).e0).es) [] (vw (vs st).e0).pos)) none (vs st).pos
 | .tryK i body f _ _,N,st=>.Try (cb body N (vs st).a) [g7 none "PairError" (N.getD i "") f (vw (vs st).e0).pos (vw (vw (vs ((vs st).b.headD dS)).e0).e0).pos (vw ((vw (vs ((vs st).b.headD dS)).e0).es.headD dE)).pos (vw (vs ((vs st).b.headD dS)).e0).pos (vs ((vs st).b.headD dS)).pos (vs st).hp] [] [] (vs st).pos
 | .tryN x i body f _ _,N,st=>.Try (cb body N (vs st).a) [g7 (some (x,(vw ((vw (vs ((vs st).b.headD dS)).e0).es.headD dE)).k,(vw ((vw (vs ((vs st).b.headD dS)).e0).es.headD dE)).pos,(vw (vs ((vs st).b.headD dS)).e0).pos)) "PairError" (N.getD i "") f (vw (vs st).e0).pos (vw (vw ((vw (vs ((vs st).b.headD dS)).e0).es.getD 1 dE)).e0).pos (vw ((vw ((vw (vs ((vs st).b.headD dS)).e0).es.getD 1 dE)).es.headD dE)).pos (vw ((vw (vs ((vs st).b.headD dS)).e0).es.getD 1 dE)).pos (vs ((vs st).b.headD dS)).pos (vs st).hp] [] [] (vs st).pos
noncomputable def cb:List CS->Ls->List JE->List JE
 | [],_,_=>[]
 |c::cs,N,st=>ic c N (st.headD dS)::cb cs N st.tail
end
noncomputable def je:Expr->Bool
 | .Tuple xs _ _=>xs.all (foldedForSure 8)
 |_=>HX
noncomputable def jf(s:Sc):Expr->Bool
 | .Tuple ts _ _=>ts.any fun
  | .Name id _=>s.lookup id==some .cell
  |_=>HY
 |_=>HY
mutual
noncomputable def uv:CS->Ls->Sc->JE->Bool
 | .asg i e,N,sc,st=>N[i]?==some (N.getD i "")&&(rN sc (N.getD i "")&&(bC e N sc (vs st).e1&&(eU (aO e N (vs st).e1)||(iR e&&(sc.lookup (N.getD i "")==some .cell||Hj sc (N.getD i "") (vw (vs st).e0).pos (aO e N (vs st).e1))))))
 | .asgT t e,N,sc,st=>lu t&&((je (aO e N (vs st).e1)||jf sc (gO t N (vs st).e0))&&(eU (aO e N (vs st).e1)&&(oY (λ_=>HX) N sc t&&bC e N sc (vs st).e1)))
 | .set o i v,N,sc,st=>yH o i N sc (vs st).e0&&(eU (aO v N (vs st).e1)&&bC v N sc (vs st).e1)
 | .expr e,N,sc,st=>eU (aO e N (vs st).e0)&&bC e N sc (vs st).e0
 | .ret e,N,sc,st=>bC e N sc (vs st).e0
 | .retN,_,_,_=>HX
 | .pass,_,_,_=>HX
 | .brk,_,_,_=>HX
 | .cont,_,_,_=>HX
 | .ite c a b,N,sc,st=>bC c N sc (vs st).e0&&(d6 a N sc (vs st).a&&d6 b N sc (vs st).b)
 | .for_ t it body,N,sc,st=>oY (λ_=>HX) N sc t&&(wq it N sc t (vs st).e1&&(ls (qL it N (vs st).e1)&&d6 body N sc (vs st).a))
 | .never,_,_,_=>HX
 | .raise_ x es,N,sc,st=>a_ sc x&&(eE es N sc (vw (vs st).e0).es&&(0<es.length&&(da es N (vw (vs st).e0).es).all bK))
 | .tryK i body f _ _,N,sc,st=>N[i]?==some (N.getD i "")&&(sc.lookup (N.getD i "")==some .local&&(dH (N.getD i "")&&(a_ sc "PairError"&&(a_ sc f&&d6 body N sc (vs st).a))))
 | .tryN _ i body f _ _,N,sc,st=>N[i]?==some (N.getD i "")&&(sc.lookup (N.getD i "")==some .local&&(dH (N.getD i "")&&(a_ sc "PairError"&&(a_ sc f&&d6 body N sc (vs st).a))))
noncomputable def d6:List CS->Ls->Sc->List JE->Bool
 | [],_,_,_=>HX
 |c::cs,N,sc,st=>uv c N sc (st.headD dS)&&d6 cs N sc st.tail
end
section
variable {E:XK}{pos:Pos}
theorem jg{v:Expr}{o:Option Expr}(h:eU v=HX):swapsWith v o line env=pure HY:=by cases v<;>first|rfl|cases h
theorem yI(O:cq X cell N sc CX E Φ Γ k):X.env.blockKind=.function:=by unfold Env.blockKind;rw[O.kd];rfl
theorem mf(O:cq X cell N sc CX E Φ Γ k){v:Expr}{x:Str}{p:Pos}(h:rL v=HX)(H:sc.lookup x=some .cell):swapsWith v (some (.Name x p)) line X.env=pure HY:=by
 have e:X.env.kindOf x=some .cell:=by show X.env.scope.names.lookup x=_;rw[O.sc];exact H
 cases v<;>first| (cases h)|skip
 show(pure _)=pure _;have a:(some Ik==some NameKind.local)=HY:=by rfl
 lia
theorem rO(O:cq X cell N sc CX E Φ Γ k){e:Expr}{g:List Ir}{p:Pos}{x:Str}(h:Hj sc x p (.ListComp e g scope vp)=HX):swapsWith (.ListComp e g scope vp) (some (.Name x p)) line X.env=pure HX:=by
 obtain⟨d,h⟩:=aa h;obtain⟨H,a⟩:=aa h;have c:X.env.kindOf x=some .local:=by show X.env.scope.names.lookup x=_;rw[O.sc];simp_all
 show pure (X.env.blockKind== .function&&X.env.kindOf x==some _&&p.line==vp.line&& !_)=pure _;rw[yI O,show(p.line==vp.line)=HX from H];have b:(!scope.names.any _)=HX:=a;lia
theorem rP(O:cq X (λ_=>HX) N sc CX E Φ Γ k){x:Str}(h:rN sc x=HX):L2.Loc X.env.scope x:=by unfold L2.Loc;rw[O.sc];unfold rN at h;simpa using h
theorem yJ{D:Ends}{i:Nat}{e:CE}(h:tS X.K X.mg E Φ Γ (.asg i e) D σ H):tE X.K X.mg E Φ Γ e σ H λv H1=>D.nx (σ.set i (some v)) H1:=by obtain⟨F,g,j,S,b,a,w⟩:=h;exact⟨F,_,_,S,b,a,(ap.bind w).mono λv H1 z=>aq z λc f d x s r W=>W _ _ _ .refl s ((a.mono x).set r)⟩
theorem EE{e:CE}(h:iR e=HX):∃box N fr tg it ifs body,e=.comp box N fr tg it ifs body:=by
 unfold iR at h;split at h
 ·exact⟨_,_,_,_,_,_,_,rfl⟩
 ·cases h
theorem yK(O:cq X (λ_=>HX) N sc CX E Φ Γ k){i:Nat}{e:CE}(h:uv (.asg i e) N sc st=HX):PS X (ic (.asg i e) N st) (tS X.K X.mg E Φ Γ (.asg i e)):=by
 obtain⟨d,h⟩:=aa h;obtain⟨r,h⟩:=aa h;obtain⟨m,b⟩:=aa h;have d:=beq_iff_eq.mp d
 have p:swapsWith (aO e N (vs st).e1) (some (.Name (N.getD i "") (vw (vs st).e0).pos)) (vs st).pos.line X.env=pure HY->PS X (ic (.asg i e) N st) (tS X.K X.mg E Φ Γ (.asg i e)):=λt=>
  b8 (im (i:=i) (by rw[O.n];exact O.nd) (by rw[O.n];exact d) (rP O r) (aG e O m) t (.inl (O.fn _ rfl))) λD M H q=>yJ q
 rcases K0.mp b with b|b
 ·exact p (jg b)
 ·obtain⟨b,c⟩:=aa b;obtain⟨box,o,P,T,it,I,body,rfl⟩:=EE b;rcases K0.mp c with c|c
  ·exact p (mf O rfl (beq_iff_eq.mp c))
  ·have l:=rO O (line:=(vs st).pos.line) c;have u:X.env.scope.names.lookup (N.getD i "")=some .local:=by rw[O.sc];exact beq_iff_eq.mp (aa c).1
   obtain⟨K,h⟩:=aa m;obtain⟨v,h⟩:=aa h;obtain⟨w,h⟩:=aa h;obtain⟨x,h⟩:=aa h;obtain⟨y,h⟩:=aa h;obtain⟨z,h⟩:=aa h;obtain⟨B,G⟩:=aa h;have s:=yw O K
   refine b8 (k_ (N:=o) (j:=i) (g:=o8 X.K T) (tb:=tC X.K X.mg oL Φ Γ I body) O.calm (by rw[O.n];exact O.nd) (by rw[O.n];exact d) u l s (yx O v) (me it O y jb) (λA a=>dZ _ a>>=λok=>if ok=HX then a8 (uu HY _ _ _ _) (Bf HY _ _ a) (_::_) 0 (.ref A) a else pure ())
    (λit A a=>rA (kd:=HY) rfl) (λC S n F A=>?_) (l7 z)) λD M H q=>iZ (tg0:=.Name (N.getD i "") (vw (vs st).e0).pos) (yJ q)
   have f:=yy O s.kind w C S n F;exact⟨iX f x,qZ (ma I f B) (rK body (kd:=HY) f rfl rfl G)⟩
end
def uw(h:Ig)(H:Hp)(h':Ig)(e:H7)(cls:H8):Prop:=
 ∃o vs a0 T O ts,h'.get? e=some o/\(o.cls=cls/\vs[0]?=some a0)/\o.data=.fields vs/\vs[1]?=some (.ref T)/\T≠e/\h'.get? T=some O/\O.data=.fields ts/\ts[3]?=some .none/\(h.get? e=none/\h.get? T=none)/\H e=none/\H T=none
noncomputable def bp(P:Ia)(w:Io):cR:=λouter H s E v s'=>∃e cls H',v=.ref e/\s'.os=s.os/\Kv s'.gens/\Un (bE outer) [] H H' s.heap s'.heap/\dt P w H' s'.heap/\E cls none H'/\uw s.heap H' s'.heap e cls
theorem pg{P:Ia}(o:List Env)(H:Hp)(s:HZ)(e:H8)(S:HZ)(z:bp P w o H s E0 e S):False:=by obtain⟨_,_,_,_,_,_,_,_,q,_⟩:=z;exact q
theorem rQ{P:Ia}{o:HO}(x:aW P w H h a o):∃u,h.get? a=some u:=by
 cases o with
 |lst X=>obtain⟨_,_,_,_,e⟩:=x;exact⟨_,e⟩
 |tup X=>obtain⟨_,_,_,_,u,e,_⟩:=x;exact⟨_,e⟩
 |dK k=>obtain⟨_,_,_,_,o,_,_,e,_⟩:=x;exact⟨_,e⟩
 |dT k=>obtain⟨_,_,_,_,o,_,_,e,_⟩:=x;exact⟨_,e⟩
 |set S n=>obtain⟨o,_,_,_,e,_⟩:=x;exact⟨_,e⟩
 |ins C d fs=>obtain⟨_,_,_,e,_⟩:=x;exact⟨_,e⟩
 |own y=>obtain⟨_,e⟩:=x;exact⟨_,e⟩
 |xd fs=>obtain⟨_,⟨_,_,_,e,_⟩,_⟩:=x;exact⟨_,e⟩
 |rng lo b=>obtain⟨_,_,_,e⟩:=x;exact⟨_,e⟩
 |frz O u=>obtain⟨e,_⟩:=x;exact⟨_,e⟩
 |tbl p=>exact⟨_,show h.get? a=some _ from x⟩
 |met f y=>exact⟨_,show h.get? a=some _ from x⟩
 |ext c=>obtain⟨_,e,_⟩:=x;exact e
section
variable {s3:HZ}{e T:H7}{B:Ig}{E:XK}
theorem yL(I:Inv X pq σ H' s2)(y:X.ex=[])(C:X.stack=X.env::X.outer)(G:∀b o,s2.heap.get? b=some o->b∉bE X.stack->b≠e->b≠T->B.get? b=some o)
  (J:X.s₀.heap.get? e=none/\X.s₀.heap.get? T=none) (D:H' e=none/\H' T=none) (F:Md B X.outer e cls a0 h') (up:s2.heap.UpToSlots h') (q:E cls none H')
  (K:s3.os=s2.os) (L:s3.gens=s2.gens) (M:s3.heap=h'):bp X.prog X.w X.outer X.H₀ X.s₀ E (.ref e) s3:=by
 have U:=I.base;rw[y]at U;have m:∀b,b∈bE X.stack->∃o,s2.heap.get? b=some o/\∀vs,o.data≠.fields vs:=λb f=>(I.stack.mem f).2;have k:∀b o,s2.heap.get? b=some o->b∉bE X.stack->b≠e->b≠T->h'.get? b=some o:=λb o h H c g=>F.1 b o (G b o h H c g);have old:∀b o,X.s₀.heap.get? b=some o->b≠e/\b≠T:=λb o h=>⟨λz=>(by grind),λz=>(by grind)⟩
 have nl:∀b o,X.s₀.heap.get? b=some o->b∉bE X.outer->b∉bE X.stack:=λb o h H c=>by
  rcases Zj.mp (I.stkSub b c)with z|z
  ·have:=Zi h;rw[z]at this;exact absurd this (J_.mpr I.ok.above)
  ·exact H z
 have sub:∀b∈bE X.outer,b∈bE X.stack:=λb f=>by rw[C];obtain⟨P,h,H⟩:=ZS.mp f;exact ZS.mpr ⟨P,Zc _ h,H⟩
 have t:∀b o,s2.heap.get? b=some o->b≠e->b≠T->∃O,h'.get? b=some O:=λb o h H c=>by
  by_cases f:b∈bE X.stack
  ·obtain⟨x,g,i⟩:=m b f;obtain⟨sl,l⟩:=up b x g i;exact⟨_,l⟩
  ·exact⟨o,k b o h f H c⟩
 have U':Un (bE X.outer) [] X.H₀ H' X.s₀.heap h':=by
  refine⟨λb o h H c g=>k b o (U.keep b o h H c g) (nl b o h c) (old b o h).1 (old b o h).2,λb o h H c g=>?_,U.free,λb o h H=>?_,U.tups,U.frzs,U.tbls⟩
  ·obtain⟨sl,i⟩:=U.slot b o h H c g;obtain⟨x,l,v⟩:=m b (sub b c);rw[i]at l;cases l;obtain⟨S,w⟩:=up b _ i v;exact⟨S,w⟩
  ·obtain⟨O,i⟩:=U.there b o h H;exact t b O i (old b o h).1 (old b o h).2
 have s:∀b u,H' b=some u->b∉bE X.stack/\b≠e/\b≠T:=λb u h=>
  ⟨λz=>(by rw[I.stkFree b z]at h;cases h),λz=>(by grind),λz=>(by grind)⟩
 have V:dt X.prog X.w H' h':=λa o N=>(I.hok a o N).stay (λb u f h=>by grind) (λ_ q=>q) λ_ _ q=>q;obtain⟨k1,k2,k3,Y,vs,d,W,Z,h,H,c,g,i,l,v,w,Q⟩:=F
 have ft:∀o,s2.heap.get? d=some o->d=T:=λo A=>by
  refine Lr λR=>?_;by_cases f:d∈bE X.stack
  ·obtain⟨x,j,p⟩:=m d f;obtain⟨sl,r⟩:=up d x j p;rw[v]at r;cases r;exact p _ w
  ·rw[G d o A f l R]at i;cases i
 refine⟨e,cls,H',rfl,by rw[K];exact I.os,by rw[L];exact I.bare,by grind,by grind,q,?_⟩;rw[M];refine⟨Y,vs,a0,d,W,Z,h,H,c,g,l,v,w,Q,⟨J.1,?_⟩,D.1,?_⟩
 ·cases n:X.s₀.heap.get? d with
  |none=>rfl
  |some o=>obtain⟨O,j⟩:=U.there d o n (by simp);rw[ft O j,J.2]at n;cases n
 ·cases n:H' d with
  |none=>rfl
  |some u=>obtain⟨o,A⟩:=rQ (I.hok d u n);rw[ft o A,D.2]at n;cases n
theorem yM{l:List Env}(f:uw h0 Hx h e cls)(t:h.FunFrames base l):∃T a0,(h0.get? e=none/\h0.get? T=none)/\(Hx e=none/\Hx T=none)/\Md (PySem.W.hideAll h (e::T::bE l)) l e cls a0 h:=by obtain⟨u,vs,a0,T,O,v,d,g,i,j,k,m,n,p,H,c⟩:=f;exact⟨T,a0,H,c,λb o q=>PySem.W.of_hideAll _ q,PySem.W.hideAll_none _ (by simp),PySem.W.funFrames_hide t (λE s a r=>Zc _ (Zc _ (ZS.mpr ⟨E,s,r⟩))),u,vs,T,O,v,d,g,i,j,PySem.W.hideAll_none _ (by simp),k,m,n,p⟩
theorem yN{l:List Env}:∀b o,h.get? b=some o->b∉bE l->b≠e->b≠T->(PySem.W.hideAll h (e::T::bE l)).get? b=some o:=λb o H a c d=>
 PySem.W.hideAll_get _ H λf=>by grind
theorem yO{v:H8}(I:Inv X pq σ H s)(c:bp X.prog X.w X.stack H s E v s2)(a:X.ex=[]):∃e cls H',v=.ref e/\Inv X pq σ H' s2/\E cls none H'/\uw s.heap H' s2.heap e cls:=by obtain⟨e,cls,H',rfl,o,B,un,h,q,f⟩:=c;exact⟨e,cls,H',rfl,I.call' o un h B (λb z=>absurd z (by simp_all)),q,f⟩
theorem uw.old(f:uw h0 Hx h e cls)(t:∀b o,h1.get? b=some o->∃o',h0.get? b=some o'):uw h1 Hx h e cls:=by
 obtain⟨r,vs,a,T,O,s,c,d,i,j,k,l,m,p,g,G⟩:=f
 have n:∀b,h0.get? b=none->h1.get? b=none:=λb H=>by
  cases q:h1.get? b with
  |none=>rfl
  |some o=>obtain⟨o',E⟩:=t b o q;simp_all
 exact⟨r,vs,a,T,O,s,c,d,i,j,k,l,m,p,⟨n _ g.1,n _ g.2⟩,G⟩
end
section
variable {E:XK}
def j2(X:Cx)(E:XK):Prop:=X.ex=[]/\X.stack=X.env::X.outer/\X.env.frame=some X.env.locals/\X.xe=λe s'=>wpAny (model X.prog X.w) X.A (leaving X.env e) (λ_ s=>bp X.prog X.w X.outer X.H₀ X.s₀ E e s) (λa s=>bp X.prog X.w X.outer X.H₀ X.s₀ E a s) s'
theorem j2.of{P:Ia}{E:XK}:j2 (eP (bp P w) P w K mg base N qual scope f cd A outer s H E) E:=
 ⟨rfl,rfl,rfl,rfl⟩
theorem j2.own(L:j2 X E):LP (model X.prog X.w) X.A X.env X.xe:=by rw[L.2.2.2];exact PassesOwn.leaving
theorem j2.pass(L:j2 X E):iv (bp X.prog X.w) X E:=by intro P r H s v S I c;obtain⟨a,h,k,d⟩:=L;obtain⟨e,cls,l,rfl,g,q,f⟩:=yO I c a;obtain⟨T,A,n,N,i⟩:=yM (f.old (h1:=X.s₀.heap) λb o j=>I.base.there b o j (by simp_all)) (h▸g.stack);rw[d];exact wpAny_leaves_onW (by rw[I.ok.frames,h]) k i λm F up=>yL (T:=T) g a h (by rw[h];exact yN) n N F up q rfl rfl rfl
theorem j2.made{e:H7}(L:j2 X E)(I:Inv X pq σ H s)(m:LO s.heap h2 e (.ref C) args)(q:E (.ref C) none H):X.xe (.ref e) {s with heap:=h2}:=by
 obtain⟨g,c,w,j⟩:=L;rw[j];refine wpAny_leaves_madeW (base:=PySem.W.hideAll s.heap (bE X.stack)) (h:=s.heap) (by rw[I.ok.frames,c]) w (λb o z=>PySem.W.of_hideAll _ z) (PySem.W.funFrames_hide (c▸I.stack) (by rw[c];exact λf v a r=>ZS.mpr ⟨f,v,r⟩)) m λx t F y B up=>?_
 have ne:X.s₀.heap.get? e=none:=by
  cases i:X.s₀.heap.get? e with
  |none=>rfl
  |some o=>obtain⟨O,d⟩:=I.base.there e o i (by simp_all);rw[m.new]at d;cases d
 have n:H e=none:=by
  cases i:H e with
  |none=>rfl
  |some u=>obtain⟨o,l⟩:=rQ (I.hok e u i);rw[m.new]at l;cases l
 exact yL (T:=e) I g c (λb o p h2 _ _=>PySem.W.hideAll_get _ p h2) ⟨ne,ne⟩ ⟨n,n⟩ F ((K8 m.keeps).trans up) q rfl rfl rfl
end
noncomputable def jh:Lv:=[.type "ValueError",.type "Exception",.type "BaseException",.type "object"]
section
variable {E:XK}{x:Str}
end
open PySem PySem.Spec PySem.Calls PyProof.Rows PySem.W
def rR(x C:H7)(h:Ig):Prop:=∃o,h.get? x=some o/\o.cls=.ref C
theorem rR.type{x:H7}(I:rR x C h):Looks M h (typeOf (.ref x)) (.ref C):=by obtain⟨o,H,a⟩:=I;exact a▸(Looks.ld H).andThen .now
theorem EF{Q:Unit->HZ->Prop}{x:H7}{n:H8}(L:Looks M s.heap (typeOf (.ref x)) (.ref C))(c:Looks M s.heap (isSubtype (.ref C) (.type "BaseException")) HX)(a:Q () s):
  wpAny M A (checkBuiltinCall "BaseException.__getattribute__" ⟨[.ref x,n],[]⟩) Q E s:=by
 have f:builtinKind "BaseException.__getattribute__"=some .slot:=by decide+kernel
 have h:splitId "BaseException.__getattribute__"=some ("BaseException","__getattribute__"):=by decide+kernel
 have b:=PySem.F.args_bexc_ga (.ref x) n;obtain⟨i,g,d,t,o⟩:=s;simp only[checkBuiltinCall,f,h];refine Za ?_;unfold isInstance;refine Za (L.at (c.at ?_));simp only[Bool.not_true,ZQ,if_false];cases H:Manifest.signature? "BaseException.__getattribute__" with
 |none=>exact Zd a
 |some S=>simp only[argsOk,H]at b;have e:Bind.checkArgs "BaseException.__getattribute__" S ⟨[.ref x,n],[]⟩=pure ():=b;show wpAny M A (Bind.checkArgs "BaseException.__getattribute__" S ⟨[.ref x,n],[]⟩) Q E _;rw[e];exact Zd a
section
variable {x:H7}
theorem mi{T:H8}{R:KS->HZ->Prop}(X:K.In s.heap)(I:rR x C s.heap)(H:mroIn K C (.type "object")=some HX)
  (h:R (.ok (.ret (.ref C))) s):codeAny (model prog w) A (.call (.builtin "getset_descriptor.__get__") ⟨[.builtin "object.__class__",.ref x,T],[]⟩) R s:=by
 obtain⟨b,g,d,t,o⟩:=s;have L:=I.type (M:=model prog w);have a:=looks_mroIn (M:=model prog w) X H;refine K7 KF.slot_gs.plain KF.entry_gs (KF.slot_gs.check _ _ _ _ _ _ _ _ KF.type_class (KF.args_gs _ _ _) ?_);unfold I_.«getset_descriptor.__get__» L6;rw[dga_obj];refine Za (Zd ?_);unfold L7 L8 L9 isInstance;simp only[KF.owner_class]
 repeat lk
 refine⟨MN _ (by decide+kernel),Jr KF.entry_class ?_⟩;unfold I_.«object.__class__» shownTypeOf
 repeat lk
 exact h
structure ji (K:Fg)(C:H7):Prop where
 cls:∃cd,clsIn K C=some cd
 ga:findIn K (.ref C) "__getattribute__"=some (some (.builtin "BaseException.__getattribute__"))
 gn:findIn K (.ref C) "__getattr__"=some none
 at_:findIn K (.ref C) "__class__"=some (some (.builtin "object.__class__"))
 ob:mroIn K C (.type "object")=some HX
 be:mroIn K C (.type "BaseException")=some HX
 sp:specialIn K (.builtin "object.__class__") "__get__"=some (some (.builtin "getset_descriptor.__get__"))
 tk:takesIn K (.builtin "object.__class__")=some HX
theorem EG{Q:Ov->HZ->Prop}(Z:ji K C)(X:K.In s.heap)(I:rR x C s.heap)(h:Q (some (.ref C)) {s with toks:=s.toks+1}):wpAny (model prog w) A (getAttr? (.ref x) "__class__") Q E s:=by
 obtain⟨H,g,d,t,o⟩:=s;have L:=I.type (M:=model prog w);have b:=looks_findIn (M:=model prog w) X Z.ga;have L2:=looks_findIn (M:=model prog w) X Z.gn
 have c:Looks (model prog w) H (M9 (.ref x) (.ref C) "__class__") (.bind (.builtin "getset_descriptor.__get__") (.builtin "object.__class__")):=
  (looks_findIn (M:=model prog w) X Z.at_).andThen ((looks_specialIn X Z.sp).andThen
   ((show Looks (model prog w) H (M_ (some (.builtin "object.__class__")) (some (.builtin "getset_descriptor.__get__"))) (some (.builtin "getset_descriptor.__get__",.builtin "object.__class__"))from(looks_takesIn (M:=model prog w) X Z.tk).andThen .now).andThen (Looks.tag .now)))
 have e:=looks_mroIn (M:=model prog w) X Z.be;unfold getAttr? getAttrBy? getAttrBy;refine Za (wpAny_mkText (Za (J2 (ZE (Za (L.at (Za (b.at ?_))))))));show wpAny _ _ (getAttrByItsOwn _ _ _ _ _ _) _ _ _;unfold getAttrByItsOwn hookBefore;refine Za ?_;show wpAny _ _ (typeLookup (.ref C) "__getattr__") _ _ _;refine L2.at ?_;refine Za (J2 (ZE ?_));show wpAny _ _ (boundAndCalled _ _ _) _ _ _;unfold boundAndCalled;have a:bindSpecial (.builtin "BaseException.__getattribute__") (.ref x)=pure (.builtin "BaseException.__getattribute__",[.ref x]):=PySem.F.attr_ValueError.ga.bind _;rw[a];refine Za (Zd ?_);refine Mh (K7 PySem.F.attr_ValueError.ga.plain PySem.F.entry_bexc_ga (EF (s:=⟨H,g,d,t+1,o⟩) L e ?_));unfold I_.«object.__getattribute__»;refine Za (Zd ?_);refine Za (Zd ?_);refine Za (L.at (Za (c.at ?_)));show wpAny _ _ (KL _ _ _ _) _ _ _;unfold KL
 repeat(any_goals (first|assumption|wp_step))
 refine mi (s:=⟨H,g,d,t+1,o⟩) X I Z.ob ?_
 repeat(any_goals (first|assumption|wp_step))
theorem EI(Z:ji K C):KitX K (.ref x) (.ref C) (rR x C) where
 ty:=λ_ _ _ I=>I.type
 it:=λ_ _ X _=>by
  obtain⟨cdD,hcD⟩:=Z.cls;unfold clsIn at hcD;split at hcD
  ·rename_i c' d' cd' sl' ho;intro A' Q' E' s' k q;unfold isType loadHead;exact Za (wpAny_loadPart (k _ _ (X _ _ ho)) (Zd q))
  ·cases hcD
 ne:=λh tp dd its n sl X htp=>by
  obtain⟨cdD,hcD⟩:=Z.cls;refine Ki.mpr λq=>?_;have e:C=tp:=Value.ref.inj (beq_iff_eq.mp q);subst e;unfold clsIn at hcD;split at hcD
  ·rename_i c' d' cd' sl' ho;have z:=(X _ _ ho).symm.trans htp;cases z
  ·cases hcD
 ca:=λX I k=>EG Z X I k
end
section
variable {x:H7}
noncomputable def c7(x C:H7):HO:=.ext (rR x C)
theorem mj{P:Ia}(i:rR x C h):aW P w H h x (c7 x C):=
 ⟨i,let⟨o,e,_⟩:=i;⟨o,e⟩,λa b ⟨o,e,c⟩ k=>⟨o,k o e,c⟩⟩
theorem yP{D:H8}{b:Bool}(Z:ji X.K C)(e:kitOne X.K (.ref C) D=some b):bh X (.builtin "isinstance") (λxs H Q=>∃v,xs=[.ref x,v]/\RelV v D/\(∀u,RelV v u->u=D)/\H x=some (c7 x C)/\Q (.bl b) H):=by
 intro p s j H vs U Q I r h;obtain⟨v,rfl,g,a,c,q⟩:=h;cases r with
 |cons R d=>
  cases d with
  |cons f r4=>cases r4;cases R;rw[a _ f];obtain⟨i,_,_⟩:=(show aW X.prog X.w H s.heap x (c7 x C)from I.hok x _ c);exact kia_one (EI Z) I.kIn i e (λz=>nomatch z) λt=>⟨.bl b,H,I.kept (t':=t) λb o e=>e,rfl,q⟩
end
end Py
namespace Py
open PySem PySem.Spec PySem.SeqAt PyProof.Rows L2
def Sub(H a:Hp):Prop:=∀b o,H b=some o->a b=some o
theorem Sub.refl:Sub H H:=λ_ _ h=>h
theorem Sub.laid{p:H7}{o:HO}(s:Sub H H')(c:H' p=none):Sub H (aT H' p o):=λb u h=>by have a:=s b u h;rw[aw (λz=>by rw[z,c]at a;cases a)];exact a
theorem rS:∀{bs:List Bool} {us:Lv},Vals (bs.map V.bl) us->us=bs.map JP
 | [],_,.nil=>rfl
 |b::bs,_,.cons r t=>by rw[rS t,show _=JP b from r];rfl
theorem yQ(bs:List Bool)(A:IH)(s:HZ):∀y,y∈(bs.map JP).toArray->EqAt A s y (.bool HX) (isBoolOf HX y):=λy h=>by obtain⟨b,_,rfl⟩:=Zo.mp (List.mem_toArray.mp h);exact EqAt.bool_bool b HX
theorem EJ:kH X "list.count" (λx xs H Q=>∃(l:H7) (bs:List Bool),x=.ref l/\xs=[.bl HX]/\H l=some (.lst (bs.map V.bl))/\Q (.int (bs.count HX:Nat)) H):=by
 intro p s j H x xs v u Q I g d h;obtain⟨l,bs,rfl,rfl,c,q⟩:=h;subst g;cases d with
 |cons r R=>
  cases R;subst r;obtain⟨_,i,n,f,a⟩:=(show aW X.prog X.w H s.heap l (.lst (bs.map V.bl))from I.hok l _ c);rw[rS f]at a;refine JL PySem.F.slot_list_count ⟨_,a,rfl⟩ PySem.F.entry_list_count (PySem.F.args_list_count_2 _ _) (list_countAt l _ n none #[] (.bool HX) (isBoolOf HX)) ⟨a,yQ bs _ _,?_⟩;have e:List.countP (isBoolOf HX) (bs.map JP).toArray.toList=bs.count HX:=by rw[List.countP_map];rfl
  rw[e];exact⟨.int _,H,I.kept (t':=s.toks+1) λb o e=>e,⟨_,rfl⟩,q⟩
theorem EK:kH X "list.index" (λx xs H Q=>∃(l:H7) (bs:List Bool),x=.ref l/\xs=[.bl HX]/\H l=some (.lst (bs.map V.bl))/\HX∈bs/\bs.length<1000/\Q (.int (bs.idxOf HX:Nat)) H):=by
 intro P s z H x xs v U Q I u k h;obtain⟨l,bs,rfl,rfl,d,f,w,q⟩:=h;subst u;cases k with
 |cons r R=>
  cases R;subst r;obtain⟨_,j,n,t,c⟩:=(show aW X.prog X.w H s.heap l (.lst (bs.map V.bl))from I.hok l _ d);rw[rS t]at c;have y:bs.idxOf HX<bs.length:=LF f;refine JL PySem.F.slot_list_index ⟨_,c,rfl⟩ PySem.F.entry_list_index (PySem.F.args_list_index_2 _ _) (list_indexAt l _ n none #[] (.bool HX) (isBoolOf HX) (bs.idxOf HX) (by simp_all) (by lia) ?_ ?_) ⟨c,yQ bs _ _,?_⟩
  ·simp[isBoolOf]
  ·intro m g a;have:=Ma (p:=(· ==HX)) (xs:=bs) (i:=m) a;simpa[isBoolOf]using this
  ·exact⟨.int _,H,I.kept (t':=s.toks+1) λb o e=>e,⟨_,rfl⟩,q⟩
noncomputable def g8(y:Str):CE:=.blt .isinst [.var 0,.glob y]
noncomputable def jj(y:Str):CE:=.lit (.str y)
noncomputable def fC(a b c d w v:Ls):List CS:=
 [.asg 1 (.lst HY (a.map g8)),.asg 1 (.bin .Add (.var 1) (.lst HY (b.map g8))),.asg 1 (.bin .Add (.var 1) (.lst HY (c.map g8))),.asg 1 (.bin .Add (.var 1) (.lst HY (d.map g8))),
  .ite (.bor (.bnot (g8 "ValueError")) (.cmp .NotEq (.meth .count (.var 1) [.lit (.bl HX)]) (.lit (.int 1)))) [.ret (.lit (.str "other"))] [],
  .asg 2 (.lst HY (w.map jj)),.ret (.idx (.bin .Add (.var 2) (.lst HY (v.map jj))) (.tix (.var 1) [.lit (.bl HX)]))]
noncomputable def jk(st:List JE):Bool:=((st.drop 4).take 1).all (λs=>(vw (vs s).e0).es.length==2&&(vw (vw (vw ((vw (vs s).e0).es.tail.headD dE)).e0).e0).pos.endLine==(vw (vw ((vw (vs s).e0).es.tail.headD dE)).e0).pos.line)&&(st.length==7&&
 ((st.drop 6).take 1).all λs=>(vw (vw (vw (vs s).e0).e1).e0).pos.endLine==(vw (vw (vs s).e0).e1).pos.line)
structure KX (X:Cx)(N:Ls)(C:H7)(bf:Str->Bool)(ys:Ls):Prop where
 n:X.N=N
 nd:N.Nodup
 len:N.length=3
 loc:∀(i:Nat) (y:Str),N[i]?=some y->X.env.scope.names.lookup y=some .local/\dH y=HX
 fn:∀y,X.fn y=HX
 isi:Gl X "isinstance"/\X.mg "isinstance"=none
 ve:Gl X "ValueError"/\X.mg "ValueError"=none
 kv:PySem.W.kitOne X.K (.ref C) (.type "ValueError")=some HX
 z:ji X.K C
 cl:∀y∈ys,Gl X y/\(y==("__debug__":Str))=HY/\∃D,X.mg y=some (.ref D)/\PySem.W.kitOne X.K (.ref C) (.ref D)=some (bf y)
section
variable {x:H7}
theorem gm(O:KX X N C bf ys){i:Nat}(h:i<3):N[i]?=some (N.getD i ""):=by rw[LK,Zh (by rw[O.len];exact h)];rfl
theorem fD(O:KX X N C bf ys){i:Nat}{pos:Pos}(H:i<3):PE X (.Name (N.getD i "") pos) (pC i):=by obtain⟨a,h⟩:=O.loc i _ (gm O H);exact pD (by rw[O.n];exact gm O H) (.inl a) (gR h).1 (gR h).2
noncomputable def Hk(x C:H7)(b:Bool):TE:=λσ H Q=>σ[0]?=some (some (.ref x))/\H x=some (c7 x C)/\Q (.bl b) H
theorem yR(O:KX X N C bf ys)(c:y∈ys):PE X (aO (g8 y) N e) (Hk x C (bf y)):=by obtain⟨g,G,D,a,b⟩:=O.cl y c;refine aI (qa (x:="isinstance") (yP (x:=x) O.z b) O.isi.1 O.isi.2 (rfl) (dC (fD O (by simp)) (dC (uE (v:=.ref D) g a rfl G) eO))) λd H Q h=>?_;exact⟨_,h.1,.ref D,rfl,rfl,λu r=>r,h.2.1,h.2.2⟩
theorem yS(O:KX X N C bf ys):PE X (aO (g8 "ValueError") N e) (Hk x C HX):=by refine aI (qa (x:="isinstance") (yP (x:=x) O.z O.kv) O.isi.1 O.isi.2 (rfl) (dC (fD O (by simp)) (dC (uF (v:=.ty "ValueError") O.ve.1 O.ve.2 (by rfl) rfl) eO))) λa H Q h=>?_;exact⟨_,h.1,.ty "ValueError",rfl,rfl,λu r=>r,h.2.1,h.2.2⟩
theorem jl(O:KX X N C bf ys):∀{zs:Ls} {es:Lx},(∀y∈zs,y∈ys)->PA X (da (zs.map g8) N es) (λσ H Q=>σ[0]?=some (some (.ref x))/\H x=some (c7 x C)/\Q ((zs.map bf).map V.bl) H)
 | [],es,_=>ez eO λσ H Q h=>h.2.2
 |z::zs,es,a=>by refine ez (dC (yR (x:=x) O (a z Ze)) (jl O (es:=es.tail) λy b=>a y (Zc _ b))) λσ H Q h=>?_;exact⟨h.1,h.2.1,h.1,h.2.1,h.2.2⟩
theorem rT:∀{zs:Ls} {es:Lx},PA X (da (zs.map jj) N es) (λσ H Q=>Q (zs.map V.str) H)
 | [],es=>ez eO λσ H Q h=>h
 |z::zs,es=>ez (dC (pF (x:=z)) (rT (zs:=zs) (es:=es.tail))) λσ H Q h=>h
theorem jm{t t':TS}(h:PS X st t)(w:∀D σ H,t' D σ H->t D σ H):PS X st t':=λp s σ H D I q=>h p s σ H D I (w D σ H q)
def Mk(x C:H7)(bs:List Bool)(σ:L2.St)(H:Hp):Prop:=σ.length=3/\σ[0]?=some (some (.ref x))/\H x=some (c7 x C)/\∃p,σ[1]?=some (some (.ref p))/\H p=some (.lst (bs.map V.bl))
theorem jn(O:KX X N C bf ys){i:Nat}{p pos:Pos}(h:i<3)(H:PE X e te)(a:eU e=HX):PS X (.Assign [.Name (N.getD i "") p] e pos) (kc te (du i)):=
 im (by rw[O.n];exact O.nd) (by rw[O.n];exact gm O h) (.inl (O.loc i _ (gm O h)).1) H (jg a) (.inl (O.fn _))
theorem ml(O:KX X N C bf ys){a:Ls}(f:∀y∈a,y∈ys)(g:a.length<=1000):PS X (ic (.asg 1 (.lst HY (a.map g8))) N st)
  (λD σ H=>(σ.length=3/\σ[0]?=some (some (.ref x))/\H x=some (c7 x C))/\∀σ' H',Mk x C (a.map bf) σ' H'->Sub H H'->D.nx σ' H'):=
 jm (jn O (by decide) (gB (jl (x:=x) O f)) rfl) λD σ H ⟨⟨b,c,h⟩,e⟩=>⟨c,h,by simp;exact Zv g (by decide),λp d=>e _ _ ⟨by simp[b],by simpa using c,by rw[aw (bD h d)];exact h,p,by simp[b],bI⟩ (Sub.refl.laid d)⟩
theorem rV(O:KX X N C bf ys){a:Ls}(bs:List Bool)(m:∀y∈a,y∈ys)(f:bs.length+a.length<=1000):PS X (ic (.asg 1 (.bin .Add (.var 1) (.lst HY (a.map g8)))) N st)
  (λD σ H=>Mk x C bs σ H/\∀σ' H',Mk x C (bs++a.map bf) σ' H'->Sub H H'->D.nx σ' H'):=
 jm (jn O (by decide) (ip qg (fD O (i:=1) (by decide)) (gB (jl (x:=x) O m))) rfl) λD σ H ⟨⟨c,d,h,p,l,e⟩,k⟩=>⟨_,l,d,h,by simp;exact Zv (Zv (LH _ _) f) (by decide),λq b=>
  ⟨p,q,bs.map V.bl,(a.map bf).map V.bl,rfl,rfl,by rw[aw (bD e b)];exact e,bI,by simp;exact Zv f (by decide),λr g=>by
   have j:aT H q (.lst ((a.map bf).map V.bl)) x=some (c7 x C):=by rw[aw (bD h b)];exact h
   exact k _ _ ⟨by simp[c],by simpa using d,by rw[aw (bD j g)];exact j,r,by simp[c],by rw[bI,Jh]⟩ ((Sub.refl.laid b).laid g)⟩⟩
theorem rW(h:bK e=HX):((backTo cpos (starEach [e] env)).all (λx=> !x.1)&&(backToKw cpos (keywordEach [] env)).all (λx=>x.1.isSome)&&decide ([e].length+([]:List KU).length+(if([]:List KU).isEmpty then 0 else 1)<30))=HX:=by rw[gQ (es:=[e]) (λx H=>by rw[Jd.mp H];exact h)];rfl
theorem jo(O:KX X N C bf ys){id:String}{p:Pos}{j}(s:Slot "list" name id)(h:typeOf (.builtin id)=pure (.type "method_descriptor"))(a:kH X id r)(H:(apos.endLine==cpos.line)=HX):
  PE X (.Call (.Attribute (.Name (N.getD 1 "") vp) name apos) [.Constant (.bool HX) j p] [] cpos) (G' X.K "list" r (pC 1) (iu (L2.tC (.bl HX)) p9)):=
 oS PySem.F.plainAttrs_list s h a (fD O (by decide)) (dC oI eO) rfl (rW rfl) H rfl rfl
theorem rX(O:KX X N C bf ys)(bs:List Bool)(g:bs.count HX=1)(a:(vw (vs st).e0).es.length=2)(i:((vw (vw (vw ((vw (vs st).e0).es.tail.headD dE)).e0).e0).pos.endLine==(vw (vw ((vw (vs st).e0).es.tail.headD dE)).e0).pos.line)=HX):
  PS X (ic (.ite (.bor (.bnot (g8 "ValueError")) (.cmp .NotEq (.meth .count (.var 1) [.lit (.bl HX)]) (.lit (.int 1)))) [.ret (.lit (.str "other"))] []) N st) (λD σ H=>Mk x C bs σ H/\D.nx σ H):=by
 have e:aO (.bor (.bnot (g8 "ValueError")) (.cmp .NotEq (.meth .count (.var 1) [.lit (.bl HX)]) (.lit (.int 1)))) N (vs st).e0=.BoolOp .Or [aO (.bnot (g8 "ValueError")) N ((vw (vs st).e0).es.headD dE),aO (.cmp .NotEq (.meth .count (.var 1) [.lit (.bl HX)]) (.lit (.int 1))) N ((vw (vs st).e0).es.tail.headD dE)] (vw (vs st).e0).pos:=by show Expr.BoolOp _ (_::cond ((vw (vs st).e0).es.length==2) _ _) _=_;rw[a];rfl
 show PS X (.If (aO (.bor _ _) N (vs st).e0) (cb [_] N _) [] _) _;rw[e];refine jm (oN (PW.pt (oJ (ij (pG (yS (x:=x) O))) (ii (uY uU (jo O PySem.F.slot_list_count PySem.F.type_list_count EJ i) ie rfl)))) (Bz) j6) λD σ H ⟨⟨j,b,c,p,d,h⟩,f⟩=>?_;refine⟨b,c,HX,rfl,_,d,.inl ⟨rfl,_,.of h⟩,p,bs,rfl,rfl,h,rfl,?_⟩;rw[g];exact⟨_,rfl,f⟩
theorem mm(O:KX X N C bf ys)(bs:List Bool){w:Ls}(g:w.length<=1000):PS X (ic (.asg 2 (.lst HY (w.map jj))) N st)
  (λD σ H=>Mk x C bs σ H/\∀σ' H',(Mk x C bs σ' H'/\∃q,σ'[2]?=some (some (.ref q))/\H' q=some (.lst (w.map V.str)))->Sub H H'->D.nx σ' H'):=
 jm (jn O (by decide) (gB rT) rfl) λD σ H ⟨⟨a,d,b,p,f,c⟩,e⟩=>⟨by simp;exact Zv g (by decide),λq h=>e _ _ ⟨⟨by simp[a],by simpa using d,by rw[aw (bD b h)];exact b,p,by simpa using f,by rw[aw (bD c h)];exact c⟩,q,by simp[a],bI⟩ (Sub.refl.laid h)⟩
theorem yT(O:KX X N C bf ys)(bs:List Bool){w v:Ls}{r:Str}(o:HX∈bs)(c:bs.length<1000)(j:(w++v)[bs.idxOf HX]?=some r)(hw:w.length+v.length<=1000)
  (n:((vw (vw (vw (vs st).e0).e1).e0).pos.endLine==(vw (vw (vs st).e0).e1).pos.line)=HX):PS X (ic (.ret (.idx (.bin .Add (.var 2) (.lst HY (v.map jj))) (.tix (.var 1) [.lit (.bl HX)]))) N st)
  (λD σ H=>(Mk x C bs σ H/\∃q,σ[2]?=some (some (.ref q))/\H q=some (.lst (w.map V.str)))/\∀H',Sub H H'->D.rt (.str r) H'):=by
 refine jm (pK (oR vj (ip qg (fD O (i:=2) (by decide)) (gB rT)) (jo O PySem.F.slot_list_index PySem.F.type_list_index EK n) (λ_ _=>rfl))) λD σ H ⟨⟨⟨s,t,u,p,l,d⟩,q,m,f⟩,k⟩=>?_;refine⟨_,m,by simp;exact Zv (Zv (LH _ _) hw) (by decide),λa h=>⟨q,a,w.map V.str,v.map V.str,rfl,rfl,by rw[aw (bD f h)];exact f,bI,by simp;exact Zv hw (by decide),λb g=>?_⟩⟩
 have e:aT (aT H a (.lst (v.map V.str))) b (.lst (w.map V.str++v.map V.str)) p=some (.lst (bs.map V.bl)):=by
  have:aT H a (.lst (v.map V.str)) p=some (.lst (bs.map V.bl)):=by rw[aw (bD d h)];exact d
  rw[aw (bD this g)];exact this
 refine⟨_,l,.inl ⟨rfl,_,.of e⟩,p,bs,rfl,rfl,e,o,c,b,w.map V.str++v.map V.str,_,_,rfl,rfl,.of bI,?_,k _ ((Sub.refl.laid h).laid g)⟩;have y:=(Zm.mp j).1;unfold dU gD;rw[<-Jh];simp only[Zk];rw[if_pos (by omega),if_pos (by omega)];show(List.map V.str (w++v))[_]?=_;rw[Kh,IJ,j];rfl
theorem rY(O:KX X N C bf ys){a b c d w v:Ls}{r:Str}{st:List JE}(e:ys=a++b++c++d)(f:ys.length<1000)(hw:w.length+v.length<=1000)(h1:(ys.map bf).count HX=1)(q:(w++v)[(ys.map bf).idxOf HX]?=some r)(n:jk st=HX):
  dR X (cb (fC a b c d w v) N st) (λD σ H=>(σ.length=3/\σ[0]?=some (some (.ref x))/\H x=some (c7 x C))/\∀H',Sub H H'->D.rt (.str r) H'):=by
 obtain⟨K,k⟩:=aa n;obtain⟨k,i⟩:=aa k;have k:=ZX k;obtain⟨F,st,rfl⟩:=ZC (show st.length=6+1 from k);obtain⟨G,st,rfl⟩:=ZC (show st.length=5+1 from ZA k);obtain⟨J,st,rfl⟩:=ZC (show st.length=4+1 from ZA (ZA k));obtain⟨L,st,rfl⟩:=ZC (show st.length=3+1 from ZA (ZA (ZA k)));obtain⟨S,st,rfl⟩:=ZC (show st.length=2+1 from ZA (ZA (ZA (ZA k))));obtain⟨Q,st,rfl⟩:=ZC (show st.length=1+1 from ZA (ZA (ZA (ZA (ZA k)))));obtain⟨R,st,rfl⟩:=ZC (show st.length=0+1 from ZA (ZA (ZA (ZA (ZA (ZA k))))));have K:((vw (vs S).e0).es.length==2&&_)=HX:=(aa (show(_&&HX)=HX from K)).1;have i:=(aa (show(_&&HX)=HX from i)).1;obtain⟨K,t⟩:=aa K;have j:a.length+b.length+c.length+d.length<1000:=by rw[e]at f;simpa[Nat.add_assoc]using f
 have p:HX∈ys.map bf:=List.count_pos_iff.mp (by omega);have E:ys.map bf=((a.map bf++b.map bf)++c.map bf)++d.map bf:=by rw[e];simp
 refine λP s σ H D I g=>eN (ml (x:=x) O (a:=a) (st:=F) (λy h=>by rw[e];simp[h]) (by omega)) (eN (rV (x:=x) O (st:=G) (a.map bf) (λy h=>by rw[e];simp[h]) (by simp;omega)) (eN (rV (x:=x) O (st:=J) (a.map bf++b.map bf) (λy h=>by rw[e];simp[h]) (by simp;omega))
  (eN (rV (x:=x) O (st:=L) (a.map bf++b.map bf++c.map bf) (λy h=>by rw[e];simp[h]) (by simp;omega)) (eN (rX (x:=x) O (ys.map bf) (st:=S) h1 (ZX K) t) (eN (mm (x:=x) O (ys.map bf) (w:=w) (st:=Q) (by omega)) (eN (yT (x:=x) O (ys.map bf) (w:=w) (v:=v) (r:=r) (st:=R) p (by simpa using f) q hw i) j6)))))) P s σ H D I ?_
 obtain⟨g,hD⟩:=g;refine⟨g,λσ1 H1 M U=>⟨M,λσ2 H2 u T=>⟨u,λσ3 H3 A V=>⟨A,λσ4 H4 m W=>?_⟩⟩⟩⟩;rw[<-E]at m;exact⟨m,m,λσ5 H5 B Y=>⟨B,λl Z=>hD l λb o z=>Z b o (Y b o (W b o (V b o (T b o (U b o z)))))⟩⟩
end
end Py
namespace Py
abbrev mn(X:Cx)(A:IH):Cx:={X with A:=A,calm:=HY,xe:=λ_ _=>False}
theorem rZ(I:L2.Inv X pq σ H s)(h:A.frames=X.A.frames):L2.Inv (mn X A) pq σ H s:=
 ⟨⟨I.ok.mod,I.ok.kind,I.ok.glob,I.ok.blt,I.ok.above,I.ok.inj,I.ok.has,I.ok.cab,(λz=>by cases z),h.trans I.ok.frames,I.ok.stk,I.ok.exf,I.ok.bs,I.ok.bsz,I.ok.noex,I.ok.exfs,I.ok.funs,I.ok.frf⟩,I.os,I.bare,I.base,I.loc,I.cell,I.free,I.freeC,I.pin,I.hok,I.len⟩
theorem yU(I:L2.Inv (mn X A) pq σ H s)(ok:X.Ok):L2.Inv X pq σ H s:=⟨ok,I.os,I.bare,I.base,I.loc,I.cell,I.free,I.freeC,I.pin,I.hok,I.len⟩
def jp(P:Ia)(w:Io)(K:Fg)(m:Mg)(base:Ig)(f:H7)(C:H7)(r:Str):Prop:=
 ∀(A:IH) (outer:List Env) (s:HZ) (H:Hp) (e:H7),A.depth<recursionLimit->kr P w K m base A outer s H->H e=some (c7 e C)->codeAny (model P w) A (.call (.ref f) ⟨[.ref e],[]⟩) (CR Cq outer P w H s (λv H'=>v=.str r/\Sub H H') E0) s
structure HP (K:Fg)(mg:Mg)(C:H7)(bf:Str->Bool)(ys:Ls):Prop where
 kv:PySem.W.kitOne K (.ref C) (.type "ValueError")=some HX
 z:ji K C
 cl:∀y∈ys,∃D,mg y=some (.ref D)/\PySem.W.kitOne K (.ref C) (.ref D)=some (bf y)
noncomputable def jq(N ys:Ls)(s:Scope):Bool:=(N.length==3&&N.all (λy=>s.names.lookup y==some .local&&dH y))&&(a_ s.names "isinstance"&&(a_ s.names "ValueError"&&ys.all (λy=>a_ s.names y)))
theorem EL{P:Ia}{x e0:Str}{U:IP}{a b c d wd v:Ls}{r:Str}
  (F:kN K x qual st f U) (S:bx N [e0] (a9 st)) (hb:Binds K U [e0] []) (D:cb (fC a b c d wd v) N (bF st)=bF st) (hk:jk (bF st)=HX) (G:jq N (a++b++c++d) (a9 st)=HX)
  (R:HP K mg C bf (a++b++c++d)) (hi:mg "isinstance"=none) (hv:mg "ValueError"=none) (hl:(a++b++c++d).length<1000) (hw:wd.length+v.length<=1000) (h1:((a++b++c++d).map bf).count HX=1) (hr:(wd++v)[((a++b++c++d).map bf).idxOf HX]?=some r):
  jp P w K mg base f C r:=by
 intro A g s H e z E he;obtain⟨oc,od,kV,doc,pm,an,j,ct,osl,rfl,lk,t⟩:=F.ex;have k:K.In s.heap:=E.mod.kin.keeps λb o e=>(E.bs b o e).1;have T:s.heap.NoLimit:=E.mod.nolimit.keeps λb o e=>(E.bs b o e).1
 have l:∀y∈[e0].zip [I9 e],(a9 st).names.lookup y.1=some .local\/((a9 st).names.lookup y.1=some .cell/\((cellsFrom (s.heap.objs.size+1) (a9 st).names []).lookup y.1).isSome=HX):=λ⟨n,v⟩ h=>by
  rcases S.par n (JX h).1 with q|q
  ·exact .inl q
  ·exact .inr ⟨q,PySem.W.cellsFrom_some _ _ _ (.inl q)⟩
 refine M4 z (k _ _ lk) rfl S.co S.gen rfl (PySem.W.codeRec_of k t) (hb s [.ref e] k rfl _ _ _ _ ?_);refine Mi S.kind l λenv B Y Z=>?_;subst B;refine⟨T.keeps Z.toInCall.keep,codeAny_func ?_⟩;have I0:L2.Inv (eP Cq P w K mg base N qual (a9 st) f j {A with handled:=none} g s H E0) [] (start N [.ref e]) H Y:=u8 S rfl ⟨E.frames,E.mod,E.bs,E.bsz,E.funs,E.frf,E.hok,E.bare⟩ rfl (.cons rfl .nil) Z;have I:=rZ (A:=A.deeper (envOfC qual (a9 st) s.heap.objs.size f j)) I0 rfl;obtain⟨L,M⟩:=aa G;obtain⟨L,k3⟩:=aa L;obtain⟨M,Q⟩:=aa M;obtain⟨Q,X⟩:=aa Q;have V:=ZX L;have gl:∀y,a_ (a9 st).names y=HX->(a9 st).names.lookup y=some .globalImplicit/\(y==("__debug__":Str))=HY:=λy h=>⟨(cZ h).1,(cZ h).2.1⟩
 have O:KX (mn (eP Cq P w K mg base N qual (a9 st) f j {A with handled:=none} g s H E0) (A.deeper (envOfC qual (a9 st) s.heap.objs.size f j))) N C bf (a++b++c++d):=
  ⟨rfl,S.nd,V,λi y h=>by have:=Zl.mp k3 y (Zq h);obtain⟨q1,q2⟩:=aa this;exact⟨ZX q1,q2⟩,λ_=>rfl,⟨(gl _ M).1,hi⟩,⟨(gl _ Q).1,hv⟩,R.kv,R.z,λy h=>⟨(gl y (Zl.mp X y h)).1,(gl y (Zl.mp X y h)).2,R.cl y h⟩⟩
 have W:=rY (x:=e) O (st:=bF st) rfl hl hw h1 hr hk;rw[D]at W;refine Iy (W [] Y (start N [.ref e]) H {nx:=λ_ _=>False,rt:=λv p=>v=.str r/\Sub H p} I ⟨⟨by simp[L2.start,V],by simp[L2.start],he⟩,λp h'=>⟨rfl,h'⟩⟩) (λfl s' m=>?_) λe s' m=>m.elim;cases fl with
 |ret u=>obtain⟨v,σ',p,J,rv,q⟩:=m;exact⟨v,p,J.os,J.bare,J.base,J.hok,rv,q⟩
 |next=>obtain⟨_,_,_,q⟩:=m;exact False.elim q
 |brk=>obtain⟨_,_,_,q⟩:=m;exact False.elim q
 |cont=>obtain⟨_,_,_,q⟩:=m;exact False.elim q
section
variable {e T:H7}{B:Ig}
theorem yV(I:L2.Inv X pq σ H s)(f:L2.Inv X pq σ H' s2)(M:s.heap.get? e=none/\s.heap.get? T=none)(L:H' e=none/\H' T=none)(hB:∀b o,s2.heap.get? b=some o->b∉bE X.stack->b≠e->b≠T->B.get? b=some o)(st:B.StaysIn h3)(up:s2.heap.UpToSlots h3)
  (l:X.ex=[]) (J:X.stack=X.env::X.outer):L2.Inv X pq σ H' {s2 with heap:=h3,toks:=tk}:=by
 have K:∀b o,s2.heap.get? b=some o->b∉bE X.stack->b≠e->b≠T->h3.get? b=some o:=λb o h d h3 g=>st b o (hB b o h d h3 g);have A:∀b,b∈bE X.stack->∃o,s2.heap.get? b=some o/\∀vs,o.data≠.fields vs:=λb j=>(f.stack.mem j).2;have n:∀b∈bE X.stack,H' b=none:=f.stkFree;have U:=f.base;rw[l]at U;have O:∀b o,s.heap.get? b=some o->b≠e/\b≠T:=λb o h=>⟨λz=>(by rw[z,M.1]at h;cases h),λz=>(by rw[z,M.2]at h;cases h)⟩
 have old:∀b o,X.s₀.heap.get? b=some o->b≠e/\b≠T:=λb o h=>by obtain⟨D,d⟩:=I.base.there b o h (by rw[l];simp);exact O b D d
 have nl:∀b o,X.s₀.heap.get? b=some o->b∉bE X.outer->b∉bE X.stack:=λb o h d h3=>by
  rcases Zj.mp (f.stkSub b h3)with z|z
  ·have:=Zi h;rw[z]at this;exact absurd this (J_.mpr f.ok.above)
  ·exact d z
 have sub:∀b∈bE X.outer,b∈bE X.stack:=λb j=>by rw[J];obtain⟨en,h,d⟩:=ZS.mp j;exact ZS.mpr ⟨en,Zc _ h,d⟩
 have w:∀b o,s2.heap.get? b=some o->b≠e->b≠T->∃D,h3.get? b=some D:=λb o h d h3=>by
  by_cases j:b∈bE X.stack
  ·obtain⟨Q,g,y⟩:=A b j;obtain⟨sl,E⟩:=up b Q g y;exact⟨_,E⟩
  ·exact⟨o,K b o h j d h3⟩
 have t:∀b u,H' b=some u->b∉bE X.stack/\b≠e/\b≠T:=λb u h=>
  ⟨λz=>(by rw[n b z]at h;cases h),λz=>(by rw[z,L.1]at h;cases h),λz=>(by rw[z,L.2]at h;cases h)⟩
 have G:dt X.prog X.w H' h3:=λa o Z=>(f.hok a o Z).stay (λb u j h=>by
  have F:∃u,H' b=some u:=by rcases j with rfl|j<;>exact⟨_,by assumption⟩
  obtain⟨u',hu⟩:=F;obtain⟨t1,t2,t3⟩:=t b u' hu;exact K b u h t1 t2 t3) (λ_ q=>q) λ_ _ q=>q
 have C:∀c v,s2.heap.IsCell c v->h3.IsCell c v:=λc v ⟨o,h,d⟩=>by obtain⟨sl,g⟩:=up c o h (λvs q=>by rw[d]at q;cases q);exact⟨_,g,d⟩
 obtain⟨m,hm,hl⟩:=f.loc;refine⟨f.ok,f.os,f.bare,?_,⟨m,up.ns hm,λi x v h d h3=>?_⟩,λx c h=>?_,f.free,f.freeC,λp P=>?_,G,f.len⟩
 ·rw[l];refine⟨λb o h d h3 g=>K b o (U.keep b o h d h3 g) (nl b o h h3) (old b o h).1 (old b o h).2,λb o h d h3 g=>?_,U.free,λb o h d=>?_,U.tups,U.frzs,U.tbls⟩
  ·obtain⟨sl,y⟩:=U.slot b o h d h3 g;obtain⟨Q,E,h7⟩:=A b (sub b h3);rw[y]at E;cases E;obtain⟨S,h8⟩:=up b _ y h7;exact⟨S,h8⟩
  ·obtain⟨D,y⟩:=U.there b o h d;exact w b D y (old b o h).1 (old b o h).2
 ·obtain⟨u,r,q⟩:=hl i x v h d h3;refine⟨u,r,?_⟩;rcases q with⟨k,z⟩| ⟨k,c,z1,z2⟩
  ·exact .inl ⟨k,z⟩
  ·exact .inr ⟨k,c,z1,C c _ z2⟩
 ·obtain⟨v,hv⟩:=f.cell x c h;exact⟨v,C c v hv⟩
 ·obtain⟨p1,p2,R,V,p5⟩:=f.pin p P;have W:=(I.pin p P).1;refine⟨K p.1 p.2 p1 (λz=>?_) (O _ _ W).1 (O _ _ W).2,p2,R,V,p5⟩;rcases Zj.mp (f.stkSub p.1 z)with z|z
  ·exact R z
  ·exact V z
theorem EM{vs:Av}{O:Obj}(I:L2.Inv X pq σ H s)(r:X.ex=[])(l:X.s₀.heap.get? e=none)(y:∀p∈X.pn++pq,p.1≠e)(k:H e=none)(w:s.heap.get? e=some O)(n:O.cls=.ref C)(G:O.data=.fields vs):
  L2.Inv X pq σ (aT H e (c7 e C)) s:=by
 obtain⟨m,t,J⟩:=id I.loc;have ne:∀b,H b≠none->b≠e:=λb a z=>a (by rw[z];exact k);refine⟨I.ok,I.os,I.bare,?_,I.loc,I.cell,?_,λx c h=>?_,λp i=>?_,λb u a=>?_,I.len⟩
 ·have U:=I.base;refine⟨U.keep,U.slot,λb o h f g=>?_,U.there,λb j h=>?_,λb o u h=>?_,λb D h=>?_⟩
  ·rw[aw (λz=>by rw[z,l]at h;cases h)];exact U.free b o h f g
  ·have:=U.tups b j h;rw[aw (ne b (by rw[this];simp))];exact this
  ·have:=U.frzs b o u h;rw[aw (ne b (by rw[this];simp))];exact this
  ·obtain⟨m,this⟩:=U.tbls b D h;exact⟨m,by rw[aw (ne b (by rw[this];simp))];exact this⟩
 ·obtain⟨o,F,E,h,f,_⟩:=t;rw[aw (λz=>by lia)];exact I.free
 ·obtain⟨v,o,f,g⟩:=I.cell x c h;rw[aw (λz=>by lia)];exact I.freeC x c h
 ·obtain⟨P,A,B⟩:=I.pin p i;exact⟨P,by rw[aw (y p i)];exact A,B⟩
 ·by_cases d:b=e
  ·subst d;rw[bI]at a;cases a;exact mj ⟨O,w,n⟩
  ·rw[aw d]at a;exact(I.hok b u a).stay (λ_ _ _ q=>q) (λc q=>by rw[aw (ne c (by rw[q];simp))];exact q) λc j q=>by rw[aw (ne c (by rw[q];simp))];exact q
theorem EN{m:Mg}(I:L2.Inv X pq σ H s)(r:h3.Ns X.env.locals m)(hs:IZ X.env.locals s.heap h3):L2.Inv X pq (Ic X.N.length none) H {s with heap:=h3,toks:=tk}:=by
 have low:∀b o,X.s₀.heap.get? b=some o->b≠X.env.locals:=λb o e=>Zu (Zt (Zi e) I.ok.above);refine⟨I.ok,I.os,I.bare,⟨λb o e n f h=>(hs.2 b (low b o e)).trans (I.base.keep b o e n f h),λb o e n f h=>?_,I.base.free,λb o e h=>?_,I.base.tups,I.base.frzs,I.base.tbls⟩,⟨m,r,λj y V E i B=>?_⟩,λy c e=>?_,I.free,I.freeC,λp u=>?_,λb w d=>?_,by simp⟩
 ·obtain⟨sl,E⟩:=I.base.slot b o e n f h;exact⟨sl,(hs.2 b (low b o e)).trans E⟩
 ·obtain⟨O,E⟩:=I.base.there b o e h;exact⟨O,(hs.2 b (low b o e)).trans E⟩
 ·rw[List.getElem?_replicate]at i;simp_all
 ·obtain⟨v,o,k,l⟩:=I.cell y c e;exact⟨v,o,(hs.2 c (I.cne y c e)).trans k,l⟩
 ·obtain⟨x,z,P,A⟩:=I.pin p u;exact⟨(hs.2 _ P).trans x,z,P,A⟩
 ·refine(I.hok b w d).stay (λc W a q=>(hs.2 c ?_).trans q) (λ_ q=>q) λ_ _ q=>q;rintro rfl;rcases a with rfl|a
  ·rw[I.free]at d;cases d
  ·rw[I.free]at a;cases a
end
section
variable {n:Str}{i:Nat}
theorem mq{x:H7}{r:Str}{pos:Pos}(K:jp X.prog X.w X.K X.mg X.base fa C r)(d:A.depth<recursionLimit)(l:Gl X y)(p:X.mg y=some (.ref fa))(m:PySem.W.keepIn X.K (.ref fa)=HX)(c:(y==("__debug__":Str))=HY)
  (q:X.N[i]?=some n) (o:X.env.scope.names.lookup n=some .local) (g:dH n=HX):PE (mn X A) (.Call (.Name y np) [.Name n vp] [] pos) (λσ H Q=>(σ[i]?=some (some (.ref x))/\H x=some (c7 x C))/\∀H',Sub H H'->Q (.str r) H'):=by
 intro P s σ H Q I h;refine Jk (ig I l p ?_ c);refine PySem.W.callWith_K (h₀:=X.base) I.ok.mod.kin m (aK ((dC (pD (X:=mn X A) q (.inl o) (gR g).1 (gR g).2) eO) pos P s σ H (λG H1=>G=[.ref x]/\H1=H) I ⟨_,h.1.1,rfl,rfl⟩) λL S ⟨vs,H1,b,B,t,w⟩=>⟨b.kIn,?_⟩) rfl rfl;subst t w;cases B with
 |cons z R=>
  cases R;subst z;refine Mh (JU (K A X.stack S H1 x d b.env0 h.1.2) λD J a=>?_);cases D with
  |error e=>exact False.elim a
  |ok F=>
   cases F with
   |ret u=>obtain⟨v,f,k,R,E,U⟩:=b.after a;subst E;exact⟨_,f,k,R,h.2 f U⟩
   |next=>exact False.elim a
   |brk=>exact False.elim a
   |cont=>exact False.elim a
def RV(nb:Option (Str×Nat×Pos×Pos))(r:Str)(v:V)(H a:Hp):Prop:=match nb with
 |none=>v=.str r/\Sub H a
 |some (x,_)=>∃p H1,Sub H H1/\H1 p=none/\v=.ref p/\a=aT H1 p (.lst [.str x,.str r])
theorem RV.up{r:Str}{b:Hp}(h:RV nb r v H' b)(s:Sub H H'):RV nb r v H b:=by
 have t:∀{H1},Sub H' H1->Sub H H1:=λu a o e=>u a o (s a o e);cases nb with
 |none=>exact⟨h.1,t h.2⟩
 |some q=>obtain⟨p,H1,c,d⟩:=h;exact⟨p,H1,t c,d⟩
theorem EO{x:H7}{r:Str}{pos:Pos}(K:jp X.prog X.w X.K X.mg X.base fa C r)(b:A.depth<recursionLimit)(d:Gl X y)(g:X.mg y=some (.ref fa))(e:PySem.W.keepIn X.K (.ref fa)=HX)(a:(y==("__debug__":Str))=HY)
  (j:X.N[i]?=some n) (f:X.env.scope.names.lookup n=some .local) (c:dH n=HX) (nb:Option (Str×Nat×Pos×Pos)):PE (mn X A) (ED nb (.Call (.Name y np) [.Name n vp] [] pos)) (λσ H Q=>(σ[i]?=some (some (.ref x))/\H x=some (c7 x C))/\∀v H',RV nb r v H H'->Q v H'):=by
 have h:=mq (x:=x) (r:=r) (np:=np) (vp:=vp) (pos:=pos) (A:=A) K b d g e a j f c;cases nb with
 |none=>exact aI h λσ H Q q=>⟨q.1,λH' u=>q.2 _ _ ⟨rfl,u⟩⟩
 |some q=>exact aI (gB (dC pF (dC h eO))) λσ H Q q=>⟨q.1,λH' u=>⟨(by show 2<=sizeLine;decide),λp c=>q.2 _ _ ⟨p,H',u,c,rfl,rfl⟩⟩⟩
noncomputable def EH(X:Cx)(nb:Option (Str×Nat×Pos×Pos))(f p:H7)(D:Ends):XK:=λcls _ H'=>∃C r,cls=.ref C/\jp X.prog X.w X.K X.mg X.base f C r/\PySem.W.exmOne X.K (.ref C) (.ref p)=some HX/\∀v H'',RV nb r v H' H''->D.rt v H''
structure mr (X:Cx)(pe n y:Str)(i:Nat)(fa pa:H7):Prop where
 ex:X.ex=[]
 st:X.stack=X.env::X.outer
 fr:X.env.frame=some X.env.locals
 dp:X.A.depth<recursionLimit
 gp:Gl X pe/\X.mg pe=some (.ref pa)/\(pe==("__debug__":Str))=HY
 gy:Gl X y/\X.mg y=some (.ref fa)/\(y==("__debug__":Str))=HY
 kp:PySem.W.keepIn X.K (.ref fa)=HX
 nd:X.N.Nodup
 at_:X.N[i]?=some n
 nl:X.env.scope.names.lookup n=some .local
 np:dH n=HX
 fn:X.fn n=HX
noncomputable def EQ(X:Cx)(p:Lp)(D:Ends)(h:Lo):Vs:=λe s=>wpAny (model X.prog X.w) X.A (noteFrame e X.env) (λ_ S=>wpAny (model X.prog X.w) X.A (setFlight e none) (λ_ a=>wpAny (model X.prog X.w) X.A (handleBy e X.env [h]) (SP X p D) X.xe a) X.xe S) X.xe s
theorem handled{e T:H7}{B:Ig}{D:Ends}(Z:mr X pe n y i fa pa)(I:L2.Inv X pq σ H s)(J:L2.Inv X pq σ H' s2)(j:s.heap.get? e=none/\s.heap.get? T=none)(d:H' e=none/\H' T=none)
  (L:∀b o,s2.heap.get? b=some o->b∉bE X.stack->b≠e->b≠T->B.get? b=some o)  (l:Md B X.stack e cls a0 h3) (up:s2.heap.UpToSlots h3) (q:EH X nb fa pa D cls none H'):
  wpAny (model X.prog X.w) X.A (handleBy (.ref e) X.env [g7 nb pe n y tp np vp cp rp hp]) (SP X pq D) X.xe {s2 with heap:=h3}:=by
 obtain⟨C,r,rfl,Q,hm,hD⟩:=q
 have Y:X.s₀.heap.get? e=none:=by
  cases hq:X.s₀.heap.get? e with
  |none=>rfl
  |some o=>obtain⟨o',a⟩:=I.base.there e o hq (by rw[Z.ex];simp);rw[j.1]at a;cases a
 have k:L2.Inv X pq σ H' {s2 with heap:=h3,toks:=s2.toks}:=yV I J j d L l.1 up Z.ex Z.st;have c:(X.A.mark (some (.ref e))).frames=X.A.frames:=rfl;unfold g7;refine wpAny_handleBy_cons (codeAny_handlers_test ?_) (by intro q;cases q);refine ig (X:=mn X (X.A.mark (some (.ref e)))) (rZ k c) Z.gp.1 Z.gp.2.1 ?_ Z.gp.2.2
 have LT:PySem.W.Looks (model X.prog X.w) h3 (typeOf (.ref e)) (.ref C):=by obtain⟨ob,h1,h2⟩:=l.there;exact h2▸(PySem.W.Looks.ld h1).andThen .now
 refine(PySem.W.exm_one (M:=model X.prog X.w) k.kIn LT hm).here ?_;refine codeAny_handlers_suite_as ?_;refine lands_againW (s:={s2 with heap:=h3}) l λh4 F U=>?_;have N:L2.Inv X pq σ H' {s2 with heap:=h4,toks:=s2.toks}:=yV I J j d L F.1 (up.trans U) Z.ex Z.st;obtain⟨oe,vs,S,V,W,_⟩:=F.first
 have pn:∀p∈X.pn++pq,p.1≠e:=λp hp z=>by have:=(I.pin p hp).1;rw[z,j.1]at this;cases this
 have O:=rZ (A:=X.A.mark (some (.ref e))) (EM N Z.ex Y pn d.1 S V W) c;refine pB (X:=mn X (X.A.mark (some (.ref e)))) O Z.nd Z.at_ (.inl Z.nl) (v:=.ref e) rfl (λs6 P=>?_) (.inl Z.fn);have hs:dR (mn X (X.A.mark (some (.ref e)))) [.Return (some (ED nb (.Call (.Name y np) [.Name n vp] [] cp))) rp] _:=eN (pK (EO (A:=X.A.mark (some (.ref e))) (x:=e) Q Z.dp Z.gy.1 Z.gy.2.1 Z.kp Z.gy.2.2 Z.at_ Z.nl Z.np nb)) j6;refine Iy (hs pq s6 _ _ {nx:=λ_ _=>False,rt:=λv E=>RV nb r v (aT H' e (c7 e C)) E} P ⟨⟨by rw[ZZ (by rw[k.len];exact(Zm.mp Z.at_).1)],bI⟩,λv E h6=>h6⟩) (λf s7 g=>?_) λ_ _ z=>z.elim;cases f with
 |ret u=>obtain⟨v,σ7,G,K,r7,u7⟩:=g;obtain⟨m7,w,_⟩:=K.loc;refine wpAny_nameGoes (env:=X.env) Z.nl w (by rw[I.ok.kind];rfl) λh8 m8 n8 s8=>?_;refine⟨_,_,G,EN (yU K I.ok) n8 s8,r7,hD v G (u7.up λb o m=>?_)⟩;rw[aw (λz=>by rw[z,d.1]at m;cases m)];exact m
 |next=>obtain⟨_,_,_,z⟩:=g;exact z.elim
 |brk=>obtain⟨_,_,_,z⟩:=g;exact z.elim
 |cont=>obtain⟨_,_,_,z⟩:=g;exact z.elim
end
abbrev XB(X:Cx)(pq:Lp)(D:Ends)(h:Lo):Cx:={X with xe:=EQ X pq D h,pn:=X.pn++pq}
section
variable {D:Ends}{h:Lo}
theorem HQ(ok:X.Ok):(XB X pq D h).Ok:=⟨ok.mod,ok.kind,ok.glob,ok.blt,ok.above,ok.inj,ok.has,ok.cab,ok.hd,ok.frames,ok.stk,ok.exf,ok.bs,ok.bsz,ok.noex,ok.exfs,ok.funs,ok.frf⟩
theorem yW(ok:(XB X pq D h).Ok):X.Ok:=⟨ok.mod,ok.kind,ok.glob,ok.blt,ok.above,ok.inj,ok.has,ok.cab,ok.hd,ok.frames,ok.stk,ok.exf,ok.bs,ok.bsz,ok.noex,ok.exfs,ok.funs,ok.frf⟩
theorem ER(I:L2.Inv X pq σ H s):L2.Inv (XB X pq D h) [] σ H s:=⟨HQ I.ok,I.os,I.bare,I.base,I.loc,I.cell,I.free,I.freeC,λp a=>I.pin p (by simpa using a),I.hok,I.len⟩
theorem g9(I:L2.Inv (XB X pq D h) pins' σ H s):L2.Inv X pq σ H s:=⟨yW I.ok,I.os,I.bare,I.base,I.loc,I.cell,I.free,I.freeC,λp a=>I.pin p (IE _ a),I.hok,I.len⟩
theorem ms{f:Flow}(q:SP (XB X pq D h) pins' D f s):SP X pq D f s:=by
 cases f with
 |next=>obtain⟨a,H,I,q⟩:=q;exact⟨a,H,g9 I,q⟩
 |brk=>obtain⟨a,H,I,q⟩:=q;exact⟨a,H,g9 I,q⟩
 |cont=>obtain⟨a,H,I,q⟩:=q;exact⟨a,H,g9 I,q⟩
 |ret u=>obtain⟨v,a,H,I,r,q⟩:=q;exact⟨v,a,H,g9 I,r,q⟩
theorem yX:LP (model X.prog X.w) X.A X.env (XB X pq D h).xe:=PassesOwn.looking
variable {n:Str}{i:Nat}
theorem yY(Z:mr X pe n y i fa pa):iv (bp X.prog X.w) (XB X pq D (g7 nb pe n y tp np vp cp rp hp)) (EH X nb fa pa D):=by intro p o H s v S d c;have I:=g9 d;obtain⟨e,cls,l,rfl,a,q,f⟩:=yO I c Z.ex;obtain⟨T,A,N,k,g⟩:=yM f a.stack;refine wpAny_looks_onW (by rw[I.ok.frames,Z.st]) Z.fr (Z.st▸g) λj h up=>?_;refine wpAny_landsW (s:={S with heap:=j}) h λm F u=>?_;exact handled (s2:=S) (B:=PySem.W.hideAll S.heap (e::T::bE X.stack)) (a0:=A) Z I a N k yN (Z.st▸F) (up.trans u) q
theorem yZ(Z:mr X pe n y i fa pa){e:H7}(r:L2.Inv (XB X pq D (g7 nb pe n y tp np vp cp rp hp)) pins' σ H s)(m:LO s.heap h2 e (.ref C) args)(q:EH X nb fa pa D (.ref C) none H):(XB X pq D (g7 nb pe n y tp np vp cp rp hp)).xe (.ref e) {s with heap:=h2}:=by
 have I:=g9 r;show EQ X pq D _ (.ref e) _;unfold EQ;obtain⟨t,c,z,Q⟩:=m.there;have g:∀E∈X.env::X.outer,∀a,E.frame=some a->a∈bE (X.env::X.outer):=λE c a w=>ZS.mpr ⟨E,c,w⟩
 have f:∀b,s.heap.get? b=none->(PySem.W.hideAll s.heap (bE X.stack)).get? b=none:=λb h=>by
  cases j:(PySem.W.hideAll s.heap (bE X.stack)).get? b with
  |none=>rfl
  |some R=>have:=PySem.W.of_hideAll _ j;simp_all
 have N:H e=none:=by
  cases j:H e with
  |none=>rfl
  |some u=>obtain⟨o,p⟩:=rQ (I.hok e u j);rw[m.new]at p;cases p
 have d:s.heap.FunFrames (PySem.W.hideAll s.heap (bE X.stack)) (X.env::X.outer):=PySem.W.funFrames_hide (Z.st▸I.stack) (by rw[Z.st];exact g);unfold noteFrame;rw[Z.fr];refine Za (ZF c rfl (x:=.none) rfl ?_);refine wpAny_entryW (base:=PySem.W.hideAll s.heap (bE X.stack)) (a0:=.ref t) (by rw[I.ok.frames,Z.st]) (d.of_keeps λb o h _=>⟨o,m.keeps b o h,rfl⟩) Z.fr c (λb o h=>m.keeps b o (PySem.W.of_hideAll _ h)) (f e m.new) rfl (show 1<6 by simp) rfl λO nt=>?_;obtain⟨K,G,J,M⟩:=nt;refine wpAny_landsW (base:=PySem.W.hideAll s.heap (bE X.stack)) (l:=X.env::X.outer) (L:=X.env.locals) (cls:=.ref C) (a0:=.ref t) ⟨K,f e m.new,G,J⟩ λP F U=>?_;exact handled (s2:=s) (T:=e) (B:=PySem.W.hideAll s.heap (bE X.stack)) (a0:=.ref t) Z I I ⟨m.new,m.new⟩ ⟨N,N⟩ (λb o v h2 _ _=>PySem.W.hideAll_get _ v h2) (Z.st▸F) (((K8 m.keeps).trans M).trans U) q
theorem r8{body:List JE}{pos:Pos}{t:TS}(I:L2.Inv X pq σ H s)(d:dR (XB X pq D (g7 nb pe n y tp np vp cp rp hp)) body t)(h:t D σ H):
  wpAny (model X.prog X.w) X.A (exec (.Try body [g7 nb pe n y tp np vp cp rp hp] [] [] pos) X.env) (SP X pq D) X.xe s:=by
 refine wpAny_Try_except (Iy (d [] s σ H D (ER I) h) (λf S q=>?_) λe S q=>q);have q:=ms q;cases f with
 |next=>obtain⟨a,b,c,q⟩:=q;exact L3 ⟨a,b,c,q⟩
 |brk=>exact q
 |cont=>exact q
 |ret u=>exact q
end
set_option genInjectivity false in
inductive Rz where
 |cls (x:Str)|kind (f:Str) (ys ws:Ls)
 deriving DecidableEq
mutual
noncomputable def Hl:CS->List Rz
 | .raise_ x _=>[.cls x]
 | .tryK _ body f ys w=>.kind f ys w::d8 body
 | .tryN _ _ body f ys w=>.kind f ys w::d8 body
 | .ite _ a b=>d8 a++d8 b
 | .for_ _ _ body=>d8 body
 |_=>[]
noncomputable def d8:List CS->List Rz
 | []=>[]
 |c::cs=>Hl c++d8 cs
end
noncomputable def XC(P:Ia)(w:Io)(K:Fg)(m:Mg):Rz->Prop
 | .cls x=>∃C,m x=some (.ref C)/\PySem.W.excIn K C jh "ValueError.__new__"=HX
 | .kind f ys W=>∃fa pa,m f=some (.ref fa)/\PySem.W.keepIn K (.ref fa)=HX/\m "PairError"=some (.ref pa)/\
   ∀x r,(ys.zip W).lookup x=some r->∀v,m x=some v->∃C,v=.ref C/\PySem.W.exmOne K (.ref C) (.ref pa)=some HX/\∀base,jp P w K m base fa C r
theorem r9{x:Str}(X:K.In h)(e:mg x=some (.ref C))(q:PySem.W.excIn K C jh "ValueError.__new__"=HX):OwnCls x C jh "ValueError.__new__" mg h:=by
 refine⟨e,?_⟩;unfold PySem.W.excIn at q;split at q
 ·rename_i D o sl s;split at q
  ·rename_i v B k g i j n m f w;simp only[ZR,beq_iff_eq,MY]at q;obtain⟨⟨⟨⟨⟨rfl,rfl⟩,H⟩,t⟩,a⟩,b⟩:=q;obtain⟨N,bs,M,u,Q,r,S,sub,A,c,p⟩:=o;dsimp only at f H a b;subst f H;have d:sl= #[k,g,i,j,some (.builtin "ValueError.__new__"),m]:=by obtain⟨l⟩:=sl;simp_all
   subst d;exact⟨B,u,N,Q,bs,r,S,sub,A,c,D,k,g,i,j,m,_,X _ _ s,.of_isNs (PySem.W.isNs_of_in X a),PySem.W.nsMap_none_of_in X a b,PySem.W.tail_of_in X t⟩
  ·cases q
 ·cases q
theorem Sub.ext(s:Sub H H'):Ext μ H μ H':=⟨⟨[],by simp⟩,λa o h _=>s a o h,λa o h=>⟨o,s a o h⟩,λ_ h=>.inl h⟩
theorem Sub.sok{m:GS}(s:Sub H H')(k:aC K m μ S H):aC K m μ S H':=
 ⟨λa h=>let⟨o,e⟩:=k.live a h;⟨o,s a o e⟩,k.len,k.nd,λn a d b c=>let⟨vs,e,r⟩:=k.at_ n a d b c;⟨vs,s a _ e,ag.mono s.ext _ _ r⟩⟩
theorem mu{o i:Expr}{p:Pos}(h:gM i=HX):∀v,assign (.Subscript o i p) env v=(do
   let O <-holding [v] (eval o env)
   let I <-holding [v,O] (eval i env)
   standAt p
   holding [v,O,I] (setItem O I v)
   release [v,O,I] []):=by
 intro v;cases i<;>first|rfl|cases h
section
variable {E:XK}{pos:Pos}
end
structure mw (X:Cx)(N:Ls)(sc:Sc)(CX:cR)(E:XK)(Φ:FT)(Γ:Str->Option D)(k:Nat):Prop where
 x:cq X (λ_=>HX) N sc CX E Φ Γ k
 own:LP (model X.prog X.w) X.A X.env X.xe
 cx:CX=bp X.prog X.w
 fr:X.ex=[]/\X.stack=X.env::X.outer/\X.env.frame=some X.env.locals
 made:∀(pq:Lp) (σ:L2.St) (H:Hp) (s:HZ) (h2:Ig) (e C:H7) (args:Lv),L2.Inv X pq σ H s->LO s.heap h2 e (.ref C) args->E (.ref C) none H->X.xe (.ref e) {s with heap:=h2}
section
variable {E:XK}{pos:Pos}
theorem ph{a b:Type}{f:a->Option b}{x:a}(h:f x=none):∀{l:List a},x∈l->(l.filterMap f).length<l.length
 | [],H=>by simp_all
 |y::l,H=>by
  rcases Zj.mp H with rfl|H
  ·grind
  ·have:=ph h H
   grind
theorem mx{v:Expr}(hs:env.scope.names=sc)(h1:eA tg=HX)(a:(je v||jf sc tg)=HX):swappedStores [tg] v env=pure none:=by
 cases tg<;>first| (cases h1;done)|skip
 cases v<;>first|rfl|skip
 rename_i t _ _ u _ _;unfold swappedStores;simp only[];split
 ·rfl
 ·split
  ·rfl
  ·split
   ·rfl
   ·rename_i c;rcases K0.mp a with h|h
    ·have h:(List.all u (foldedForSure 8))=HX:=h
     first|rfl|rw[if_pos h]
    ·exfalso
     have h:(t.any λx=>match x with
      | .Name id _=>sc.lookup id==some .cell
      |_=>HY)=HX:=h
     obtain⟨x,d,H⟩:=Kr.mp h;refine c ?_
     have b:=ph (f:=λx=>match x with
      |Expr.Name id pos=>if env.kindOf id==some .local&&pos.line==(t.head?.map (·.pos.line)).getD 0 then some id else none
      |_=>none) (x:=x) (by
       cases x<;>first|rfl|skip
       rename_i id pos;have H:(sc.lookup id==some .cell)=HX:=H
       have e:env.kindOf id=some .cell:=by show env.scope.names.lookup id=_;rw[hs];exact ZX H
       show(if(env.kindOf id==some .local&&_)=HX then _ else _)=none;rw[e];rfl) d
     rw[Ly];exact .inl (bne_iff_ne.mpr (Zu b))
theorem ES(h1:eA tg=HX):(assignEach [tg] env).map (·.2)=[assign tg env]:=by cases tg<;>first|rfl|cases h1
theorem ET{t v:Expr}(h:swapsWith v (some t) line env=pure HY):swapsWithSole [t] v line env=pure HY:=h
theorem r_(O:cq X (λ_=>HX) N sc CX E Φ Γ k){t:CT}{e:CE}{v:Expr}(h1:eA (gO t N tg)=HX)(i:(je v||jf sc (gO t N tg))=HX)(j:eU v=HX)(l:oY (λ_=>HX) N sc t=HX)(m:PE X v (tE X.K X.mg E Φ Γ e)):PS X (.Assign [gO t N tg] v pos) (tS X.K X.mg E Φ Γ (.asgT t e)):=
 b8 (il m (iX O l) (jg j) (mx O.sc h1 i) (ES h1)) λD u H z=>az z λF o h S n g w=>by
  simp only[am]at w;refine⟨F,o,h,S,n,g,(ap.bind w).mono λv H1 z=>aq z λc q d x s r W=>?_⟩;cases a:aQ t d h with
  |none=>rw[a]at W;exact W.elim
  |some p=>rw[a]at W;exact qY a r (g.mono x) λf b=>W c H1 f .refl s b
theorem y0{o i v:CE}{k b g:Expr}{p:Pos}(q:gM b=HX)(m:eU g=HX)(r:PE X k (tE X.K X.mg E Φ Γ o))(n:PE X b (tE X.K X.mg E Φ Γ i))(s:PE X g (tE X.K X.mg E Φ Γ v)):PS X (.Assign [.Subscript k b p] g pos) (tS X.K X.mg E Φ Γ (.set o i v)):=
 b8 (il s (pO r n vO (mu q)) (ET (jg m)) rfl) λD σ H z=>az z λF μ ρ S G a w=>by
  refine⟨F,_,_,S,G,a,(ap.bind w).mono λvv H1 z=>aq z λK T f x y R I=>?_⟩;refine⟨F,_,_,_,y,a.mono x,(ap.bind I).mono λvo O z=>aq z λL U d h A t J=>?_⟩;refine⟨F,_,_,_,A,(a.mono x).mono h,(ap.bind J).mono λZ P z=>aq z λM V e j B u W=>?_⟩;cases c:gH d e f _ with
  |none=>rw[c]at W;exact W.elim
  |some Y=>rw[c]at W;exact⟨F,_,_,d,e,f,B,Rep.mono j _ _ t,u,Rep.mono (h.trans j) _ _ R,_,c,λN Q l C=>W _ _ _ l C ((((a.mono x).mono h).mono j).mono l)⟩
theorem sd{e:CE}{v:Expr}(h:eU v=HX)(b:PE X v (tE X.K X.mg E Φ Γ e)):PS X (.Expr v pos) (tS X.K X.mg E Φ Γ (.expr e)):=
 b8 (j8 b (jg h)) λD k H z=>az z λF i j S c a w=>by exact⟨F,_,_,S,c,a,(ap.bind w).mono λv H1 z=>aq z λf g d x s r W=>W _ _ _ .refl s (a.mono x)⟩
theorem y3{e:CE}{v:Expr}(h:PE X v (tE X.K X.mg E Φ Γ e)):PS X (.Return (some v) pos) (tS X.K X.mg E Φ Γ (.ret e)):=
 b8 (pK h) λD j H z=>az z λF f g S c b w=>by simp only[am]at w;exact⟨F,f,g,S,c,b,(ap.bind w).mono λv H1 z=>aq z λa i d x s r W=>W a H1 v .refl s r⟩
theorem se:PS X (.Return none pos) (tS X.K X.mg E Φ Γ .retN):=b8 j9 λD c H z=>az z λF a b S s e w=>w _ H _ .refl s kO
theorem sf:PS X (.Pass pos) (tS X.K X.mg E Φ Γ .pass):=b8 j7 λD c H z=>az z λF a b S s e w=>w _ H _ .refl s e
theorem y4:PS X (.Break pos) (tS X.K X.mg E Φ Γ .brk):=b8 Bv λD c H z=>az z λF a b S s e w=>w _ H _ .refl s e
theorem sg:PS X (.Continue pos) (tS X.K X.mg E Φ Γ .cont):=b8 Bw λD c H z=>az z λF a b S s e w=>w _ H _ .refl s e
theorem EU{c:CE}{a b:List CS}{t:Expr}{x y:List JE}(i:PT X t (tT X.K X.mg E Φ Γ c))(h:dR X x (j1 X.K X.mg E Φ Γ a))(g:dR X y (j1 X.K X.mg E Φ Γ b)):PS X (.If t x y pos) (tS X.K X.mg E Φ Γ (.ite c a b)):=
 b8 (oN i h g) λD p H z=>az z λF n o S j e w=>by
  refine⟨F,_,_,S,j,e,(ap.bind w).mono λk H1 z=>aq z λl m K d s f W=>?_⟩;subst f;cases K with
  |true=>exact⟨F,_,_,_,s,e.mono d,W⟩
  |false=>exact⟨F,_,_,_,s,e.mono d,W⟩
theorem si:dR X [] (j1 X.K X.mg E Φ Γ []):=jd j6 λD c H z=>az z λF a b S s e w=>w _ H _ .refl s e
theorem my{c:CS}{s:JE}{st:List JE}(h1:PS X s (tS X.K X.mg E Φ Γ c))(h:dR X st (j1 X.K X.mg E Φ Γ cs)):dR X (s::st) (j1 X.K X.mg E Φ Γ (c::cs)):=
 jd (eN h1 h) λD n H z=>az z λF l m S b a w=>by exact⟨F,_,_,S,b,a,ap.seq w λd i g f j x k e W=>⟨F,_,_,_,k,e,W⟩⟩
theorem EV{M:GS}{D:Ends}{r:Res Fl}{f:bu->ae->Res Fl}{Nx:L2.St->Hp->Prop}(w:ap K M E D μ H (r.bind λF S'=>match F with
   | .next ρ'=>f ρ' S'
   | .cont ρ'=>f ρ' S'
   | .brk ρ'=>.ok (.next ρ') S'
   | .ret d=>.ok (.ret d) S')) (a:∀μ' H' σ' ρ' S',Ext μ H μ' H'->aC K M μ' S' H'->aN K M μ' H' ρ' σ'->ap K M E D μ' H' (f ρ' S')->Nx σ' H'):ap K M E {D with nx:=Nx,ct:=Nx,bk:=D.nx} μ H r:=by
 cases r with
 |ok F S=>
  cases F with
  |next b=>exact λm h s x k e=>a m h s _ S x k e (ap.ext x (show ap K _ E D _ H _ from w))
  |ret d=>exact w
  |brk b=>exact w
  |cont b=>exact λm h s x k e=>a m h s _ S x k e (ap.ext x (show ap K _ E D _ H _ from w))
 |err z S=>exact w
 |fail=>exact w
end
theorem sj(step:D->bu->ae->Res Fl)(xs:List D):∀(n i:Nat) (ρ:bu) (S:ae),i+n=xs.length->cX step (λ_ i=>some xs[i]?) (n+1) i ρ S=dF step (xs.drop i) ρ S
 |0,i,ρ,S,h=>by rw[Mc (by omega)];unfold cX;have:xs[i]?=none:=Jw.mpr (by omega);rw[this];rfl
 |n+1,i,ρ,S,h=>by
  have H:i<xs.length:=by omega
  rw[Kc H];unfold cX;rw[Zh H];show(step xs[i] ρ S).bind _=(step xs[i] ρ S).bind _;congr 1;funext f b;cases f with
  |next a=>exact sj step xs n (i+1) a b (by omega)
  |cont a=>exact sj step xs n (i+1) a b (by omega)
  |brk a=>rfl
  |ret d=>rfl
theorem mz(step:D->bu->ae->Res Fl)(i:gJ)(ρ:bu)(S:ae):ln step i ρ S=cX step (aP i) (iY i) 0 ρ S:=by
 cases i with
 |items x=>exact(sj step x x.length 0 ρ S (by omega)).symm
 |live f get=>rfl
noncomputable def c8(Φ:FT)(Γ:Str->Option D)(t:CT)(body:List CS):D->bu->ae->Res Fl:=λx ρ S=>match aQ t x ρ with
 |some ρ'=>af Φ Γ body ρ' S
 |none=>.fail
section
variable {E:XK}{pos:Pos}
theorem y6{t:CT}{it:CE}{i:Expr}{x:List JE}(hp:LP (model X.prog X.w) X.A X.env X.xe)(U:X.calm=HX)(Z:PI X tg i (tI X.K X.mg E Φ Γ it))(V:PG X tg (o8 X.K t))(hs:∀x,foldedSetIterable i X.env x=pure x)(T:dR X x (j1 X.K X.mg E Φ Γ body)):
  PS X (.For tg i x [] pos) (tS X.K X.mg E Φ Γ (.for_ t it body)):=
 b8 (pP hp U Z V T hs) λD u H zz=>az zz λF b g S s r w=>by
  simp only[am]at w;refine⟨F,b,g,S,s,r,ai.mono (Rel:=λp c I J=>eT X.K ⟨X.mg,F⟩ J (aP I) p c) (ap.bind w) λJ H1 h=>?_⟩;obtain⟨j,M,I,x1,s1,ok,w1⟩:=h;have O:ap X.K ⟨X.mg,F⟩ E D j H1 (ln (c8 Φ Γ t body) I g M):=w1;rw[mz]at O;refine⟨λi m u H=>∃b g S,cc X.K F j H1 F b H/\aC X.K ⟨X.mg,F⟩ b S H/\aN X.K ⟨X.mg,F⟩ b H g u/\ap X.K ⟨X.mg,F⟩ E D b H (cX (c8 Φ Γ t body) (aP I) m i g S),⟨iY I,j,g,M,.refl,s1,r.mono x1,O⟩,?_⟩;rintro i m u H ⟨b,g,S,N,s,r,w⟩;cases m with
  |zero=>exact w.elim
  |succ m=>
   unfold cX at w;obtain⟨k1,k2⟩:=ok i b S H F N s;cases e:aP I S i with
   |none=>rw[e]at w;exact w.elim
   |some o=>
    cases o with
    |none=>rw[e]at w;exact .inl ⟨k2 e,w b H u .refl s r⟩
    |some y=>
     rw[e]at w;obtain⟨R,Y⟩:=k1 y e;refine .inr ⟨R,λl c=>∃b g S,cc X.K F j H1 F b c/\aC X.K ⟨X.mg,F⟩ b S c/\aN X.K ⟨X.mg,F⟩ b c g l/\ap X.K ⟨X.mg,F⟩ E D b c (cX (c8 Φ Γ t body) (aP I) m (i+1) g S),λl c q=>⟨m,Jx m,q⟩,λv c hv=>?_⟩;obtain⟨L,s2,r2⟩:=Y v c hv;have C:cc X.K F j H1 F b c:=N.trans (.of_ext L λ_ z=>.inl z);have w':=ap.ext L w
     have w3:ap X.K ⟨X.mg,F⟩ E D b c ((c8 Φ Γ t body y g S).bind λQ n=>match Q with
      | .next a=>cX (c8 Φ Γ t body) (aP I) m (i+1) a n
      | .cont a=>cX (c8 Φ Γ t body) (aP I) m (i+1) a n
      | .brk a=>.ok (.next a) n
      | .ret d=>.ok (.ret d) n):=w'
     have W:=EV (f:=λa n=>cX (c8 Φ Γ t body) (aP I) m (i+1) a n) (Nx:=λl c=>∃b g S,cc X.K F j H1 F b c/\aC X.K ⟨X.mg,F⟩ b S c/\aN X.K ⟨X.mg,F⟩ b c g l/\ap X.K ⟨X.mg,F⟩ E D b c (cX (c8 Φ Γ t body) (aP I) m (i+1) g S)) w3
      λp P l a n x3 k B K=>⟨p,a,n,C.trans (.of_ext x3 λ_ z=>.inl z),k,B,K⟩
     unfold c8 at W;cases A:aQ t y g with
     |none=>simp only[A]at W;exact W.elim
     |some a=>simp only[A]at W;exact qY A r2 (r.mono L) λσ2 G=>⟨F,b,a,S,s2,G,W⟩
end
section
variable {E:XK}
theorem mB(O:mw X N sc CX E Φ Γ k){x:Str}{es:List CE}(h:uv (.raise_ x es) N sc st=HX)(hx:XC X.prog X.w X.K X.mg (.cls x))(ha:PA X (da es N (vw (vs st).e0).es) (tL X.K X.mg E Φ Γ es)):PS X (ic (.raise_ x es) N st) (tS X.K X.mg E Φ Γ (.raise_ x es)):=by
 obtain⟨h1,h⟩:=aa h;obtain⟨_,h⟩:=aa h;obtain⟨h2,h3⟩:=aa h;obtain⟨C,G,hq⟩:=hx;obtain⟨g1,g2,_⟩:=cZ h1;intro U s Z H D I zz;have own:=r9 I.mod.kin G hq;cases es with
 |nil=>cases h2
 |cons e es=>
  have d:=Zl.mp h3;obtain⟨tl,N0,R,q,bs,a,V,sub,A,c,B,K,J,L,M,P,Q,hC,hN,l,T⟩:=own.obj;show wpAny _ _ (exec (.Raise (some (.Call (.Name x _) (aO e N _::da es N _) [] _)) none _) X.env) _ _ s
  refine wpAny_Raise_call_subU (C:=C) (nm:=R) (q:=q) (N:=N0) (bs:=bs) (bm:=tl) (hdct:=a) (sn:=V) (sub:=sub) (ab:=A) (col:=c) (dd:=B) (k0:=K) (k1:=J) (k2:=L) (k3:=M) (k5:=P)
   PySem.F.excBase_ValueError (bmB:=jh) (by decide+kernel) PySem.F.excBase_ValueError (mN:=Q) (T.hasType (by decide+kernel)) (I.ok.hd O.x.calm) (fv d) l (ig I (O.x.gl g1) own.bound ⟨rfl,?_⟩ g2)
  obtain⟨F,p,u,S,sk,en,w⟩:=zz;have j:=ha (vw (vs st).e0).pos U s Z H (λo H1=>o.length<=sizeLine/\E (.ref C) none H1) I ⟨F,p,u,S,sk,en,?_⟩
  ·have he:=cr (env:=X.env) (es:=da es N (vw (vs st).e0).es.tail) (d _ Ze);have b:wpAny _ _ (spliced (backTo _ (starEach (aO e N ((vw (vs st).e0).es.headD dE)::da es N (vw (vs st).e0).es.tail) X.env))) _ _ s:=j;rw[he]at b⊢;refine Jq (Iy b (λus Y f=>?_) λ_ _ y=>y);obtain⟨o,H1,g,r,z,q⟩:=f;exact⟨rfl,by rw[<-r.length];exact z,(g.bs _ _ hC).1,hN.keeps g.bk,T.keeps g.bk,λj e m=>O.made U Z H1 _ j e C _ g m q⟩
  ·have W:ap X.K ⟨X.mg,F⟩ E D p H ((aj Φ Γ (e::es) u S).bind _):=w;cases i:aj Φ Γ (e::es) u S with
   |ok ds v=>
    rw[i]at W;intro t H' o x1 s1 r1;have n:ap X.K ⟨X.mg,F⟩ E D p H (if ds.length<=1000 then .err ⟨x,[]⟩ v else .fail):=W;split at n
    ·rename_i hl;exact⟨by rw[<-r1.length];exact Zv hl (by decide),n t H' x1 s1 (.ref C) none ⟨G,rfl⟩⟩
    ·exact n.elim
   |err y v=>rw[i]at W;exact W
   |fail=>rw[i]at W;exact W
noncomputable def Hm(nb:Option (Str×Nat×Pos×Pos))(r:Str):D:=match nb with
 |none=>.str r
 |some (y,_)=>.lst [.str y,.str r]
noncomputable def fE(nb:Option (Str×Nat×Pos×Pos))(ys ws:Ls):Res Fl->Res Fl
 | .err x S'=>(match x.fs,(ys.zip ws).lookup x.cls with
  | [],some r=>.ok (.ret (Hm nb r)) S'
  |_,_=>.fail)
 |r=>r
theorem jr(O:mw X N sc CX E Φ Γ k){i:Nat}{f:Str}{ws:Ls}{pos:Pos}(h:(N[i]?==some (N.getD i "")&&(sc.lookup (N.getD i "")==some .local&&(dH (N.getD i "")&&(a_ sc "PairError"&&(a_ sc f&&d6 body N sc (vs st).a)))))=HX)(hx:XC X.prog X.w X.K X.mg (.kind f ys ws))
  (hb:∀{X':Cx} {E':XK},X'.prog=X.prog->X'.w=X.w->X'.K=X.K->X'.mg=X.mg->mw X' N sc CX E' Φ Γ k->dR X' (cb body N (vs st).a) (j1 X'.K X'.mg E' Φ Γ body)):
  PS X (.Try (cb body N (vs st).a) [g7 nb "PairError" (N.getD i "") f tp np vp cp rp hp] [] [] pos) (λD σ H=>∃F μ ρ S,aC X.K ⟨X.mg,F⟩ μ S H/\aN X.K ⟨X.mg,F⟩ μ H ρ σ/\ap X.K ⟨X.mg,F⟩ E D μ H (fE nb ys ws (af Φ Γ body ρ S))):=by
 obtain⟨V,h⟩:=aa h;obtain⟨Y,h⟩:=aa h;obtain⟨h3,h⟩:=aa h;obtain⟨h4,h⟩:=aa h;obtain⟨h5,h6⟩:=aa h;obtain⟨g,P,m1,m2,m3,m4⟩:=hx;obtain⟨Q,R,_⟩:=cZ h4;obtain⟨T,U,_⟩:=cZ h5;have Z:mr X "PairError" (N.getD i "") f i g P:=⟨O.fr.1,O.fr.2.1,O.fr.2.2,O.x.room.depth,⟨O.x.gl Q,m3,R⟩,⟨O.x.gl T,m1,U⟩,m2,by rw[O.x.n];exact O.x.nd,by rw[O.x.n];exact ZX V,by rw[O.x.sc];exact ZX Y,h3,O.x.fn _ rfl⟩;intro pq s σ H D I zz;obtain⟨F,μ,ρ,S,sk,L,w⟩:=zz;refine r8 I (hb (X':=XB X pq D _) (E':=EH X nb g P D) rfl rfl rfl rfl ⟨⟨O.x.n,O.x.nd,O.x.sc,O.x.kd,O.x.calm,O.x.room,O.x.fn,O.x.mod,?_,O.x.cx0⟩,yX,O.cx,O.fr,λj σ' z s' h2' e C A B m q=>yZ Z B m q⟩) ⟨F,μ,ρ,S,sk,L,?_⟩
 ·rw[O.cx];exact yY Z
 ·show ap X.K ⟨X.mg,F⟩ (EH X nb g P D) D μ H (af Φ Γ body ρ S);cases c:af Φ Γ body ρ S with
  |ok M n=>rw[c]at w;cases M<;>exact w
  |fail=>rw[c]at w;exact w
  |err x n=>
   rw[c]at w;obtain⟨cls,fs⟩:=x;cases fs with
   |cons _ _=>exact False.elim w
   |nil=>
    cases d:(ys.zip ws).lookup cls with
    |none=>dsimp only[fE]at w;rw[d]at w;exact False.elim w
    |some r=>
     dsimp only[fE]at w;rw[d]at w;have W:ap X.K ⟨X.mg,F⟩ E D μ H (.ok (.ret (Hm nb r)) n):=w;intro a z y t v o hv;obtain⟨C,G,J,K⟩:=m4 cls r d v hv.1;refine⟨C,r,G,K _,J,λv b u=>?_⟩;cases nb with
     |none=>obtain⟨rfl,u⟩:=u;exact W a b (.str r) (y.trans u.ext) (u.sok t) dj
     |some q=>obtain⟨p,H1,u,hp,rfl,rfl⟩:=u;have l:=u.sok t;exact W a _ _ ((y.trans u.ext).trans (.laid hp)) (l.laid hp) (by unfold Rep;exact⟨p,_,rfl,bI,⟨l.notin hp,l.notF hp⟩,.cons dj (.cons dj .nil)⟩)
theorem y7(O:mw X N sc CX E Φ Γ k){i:Nat}{f:Str}{ws:Ls}(h:uv (.tryK i body f ys ws) N sc st=HX)(d:XC X.prog X.w X.K X.mg (.kind f ys ws))
  (c:∀{X':Cx} {E':XK},X'.prog=X.prog->X'.w=X.w->X'.K=X.K->X'.mg=X.mg->mw X' N sc CX E' Φ Γ k->dR X' (cb body N (vs st).a) (j1 X'.K X'.mg E' Φ Γ body)):PS X (ic (.tryK i body f ys ws) N st) (tS X.K X.mg E Φ Γ (.tryK i body f ys ws)):=by
 intro p s l H D I ⟨F,j,a,S,g,b,w⟩;refine jr O (nb:=none) h d c p s l H D I ⟨F,j,a,S,g,b,?_⟩;have e:fE none ys ws (af Φ Γ body a S)=am Φ Γ (.tryK i body f ys ws) a S:=rfl;trivial
theorem sm(O:mw X N sc CX E Φ Γ k){i:Nat}{f:Str}{ws:Ls}(h:uv (.tryN y i body f ys ws) N sc st=HX)(d:XC X.prog X.w X.K X.mg (.kind f ys ws))
  (c:∀{X':Cx} {E':XK},X'.prog=X.prog->X'.w=X.w->X'.K=X.K->X'.mg=X.mg->mw X' N sc CX E' Φ Γ k->dR X' (cb body N (vs st).a) (j1 X'.K X'.mg E' Φ Γ body)):PS X (ic (.tryN y i body f ys ws) N st) (tS X.K X.mg E Φ Γ (.tryN y i body f ys ws)):=by
 intro p s l H D I ⟨F,j,a,S,g,b,w⟩;refine jr O (nb:=some (y,_,_,_)) h d c p s l H D I ⟨F,j,a,S,g,b,?_⟩;have e:fE (some (y,0,default,default)) ys ws (af Φ Γ body a S)=am Φ Γ (.tryN y i body f ys ws) a S:=by rw[am];cases af Φ Γ body a S<;>rfl
 exact e▸w
end
mutual
theorem sr(c:CS):∀{X:Cx} {N:Ls} {sc:Sc} {CX:cR} {E:XK} {Φ:FT} {Γ:Str->Option D} {k:Nat} {st:JE},mw X N sc CX E Φ Γ k->uv c N sc st=HX->(∀z∈Hl c,XC X.prog X.w X.K X.mg z)->PS X (ic c N st) (tS X.K X.mg E Φ Γ c):=by
 intro X N sc CX E Φ Γ k st O h d;cases c with
 |asg i e=>exact yK O.x h
 |asgT t e=>exact r_ O.x (jb (aa h).1) ((aa (aa h).2).1) (aa (aa (aa h).2).2).1 (aa (aa (aa (aa h).2).2).2).1 (aG e O.x (aa (aa (aa (aa h).2).2).2).2)
 |set o i v=>exact y0 (aa (aa h).1).1 (aa (aa h).2).1 (aG o O.x (aa (aa (aa h).1).2).1) (aG i O.x (aa (aa (aa h).1).2).2) (aG v O.x (aa (aa h).2).2)
 |expr e=>exact sd (aa h).1 (aG e O.x (aa h).2)
 |ret e=>exact y3 (aG e O.x h)
 |retN=>exact se
 |pass=>exact sf
 |brk=>exact y4
 |cont=>exact sg
 |ite c a b=>exact EU (dI c O.x (aa h).1) (fW a O (aa (aa h).2).1 λz g=>d z (IE _ g)) (fW b O (aa (aa h).2).2 λz g=>d z (Zz _ g))
 |for_ t it body=>exact y6 O.own O.x.calm (me it O.x (aa (aa h).2).1 jb) (iX O.x (aa h).1) (l7 (aa (aa (aa h).2).2).1) (fW body O (aa (aa (aa h).2).2).2 d)
 |never=>exact λP s J H D I Z=>az Z λF C G S B A w=>w.elim
 |raise_ x u=>exact mB O h (d _ Ze) (c6 u O.x (aa (aa h).2).1)
 |tryK i body f Y W=>exact y7 O h (d _ Ze) λ{r q} l m n p j=>fW body j (aa (aa (aa (aa (aa h).2).2).2).2).2 λz g=>by rw[l,m,n,p];exact d z (Zc _ g)
 |tryN y i body f Y W=>exact sm O h (d _ Ze) λ{r q} l m n p j=>fW body j (aa (aa (aa (aa (aa h).2).2).2).2).2 λz g=>by rw[l,m,n,p];exact d z (Zc _ g)
theorem fW(cs:List CS):∀{X:Cx} {N:Ls} {sc:Sc} {CX:cR} {E:XK} {Φ:FT} {Γ:Str->Option D} {k:Nat} {st:List JE},mw X N sc CX E Φ Γ k->d6 cs N sc st=HX->(∀z∈d8 cs,XC X.prog X.w X.K X.mg z)->dR X (cb cs N st) (j1 X.K X.mg E Φ Γ cs):=by
 intro X N sc CX E Φ Γ k st O h a;cases cs with
 |nil=>exact si
 |cons c cs=>exact my (sr c O (aa h).1 λz H=>a z (IE _ H)) (fW cs O (aa h).2 λz H=>a z (Zz _ H))
end
mutual
noncomputable def bP(k:Nat):D->Bool
 | .tup xs=>bt k xs
 | .lst xs=>bt k xs
 | .scr xs=>bt k xs
 | .ref n=>decide (n<k)
 |_=>HX
noncomputable def bt(k:Nat):List D->Bool
 | []=>HX
 |x::xs=>bP k x&&bt k xs
end
noncomputable def d9(k:Nat)(d:D)(S':ae):Res D:=
 if(S'.take k).all (bt k)=HX then
  (if bP k d=HX then .ok d (S'.take k)else match d with
   | .ref n=>(match S'[n]? with
    |some xs=>if bt k xs=HX/\k<=n then .ok (.ref k) (S'.take k++[xs])else .fail
    |none=>.fail)
   |_=>.fail)
 else .fail
noncomputable def aH(Φ:FT)(Γ:Str->Option D)(body:List CS)(n np:Nat)(ds:List D)(S:ae):Res D:=
 if ds.length=np then
  (match af Φ Γ body (ds.map some++Ic (n-np) none) S with
  | .ok (.ret d) S'=>d9 S.length d S'
  | .ok (.next _) S'=>d9 S.length .non S'
  | .err x S'=>if(S'.take S.length).all (bt S.length)=HX then .err x (S'.take S.length)else .fail
  |_=>.fail)
 else .fail
section
variable {mg:GS}{μ'':La}
mutual
theorem Rep.low(b:∀n,n<k->μ''[n]?=μ'[n]?)(hs:∀a∈μ'',a∈μ'):∀(d:D) (v:V),bP k d=HX->Rep K mg μ' H d v->Rep K mg μ'' H d v
 | .non,_,_,h=>h
 | .bl _,_,_,h=>h
 | .int _,_,_,h=>h
 | .str _,_,_,h=>h
 | .tup _,v,l,h=>by obtain⟨a,vs,e,q,r⟩:=h;exact⟨a,_,e,q,ag.low b hs _ _ l r⟩
 | .lst _,v,l,h=>by obtain⟨a,vs,e,q,n,r⟩:=h;exact⟨a,_,e,q,⟨λz=>n.1 (hs a z),n.2⟩,ag.low b hs _ _ l r⟩
 | .scr _,v,l,h=>by obtain⟨a,vs,e,q,r⟩:=h;exact⟨a,_,e,q,ag.low b hs _ _ l r⟩
 | .ref n,v,l,h=>by dsimp only[Rep]at h⊢;dsimp only[bP]at l;simp_all
 | .fn y,v,_,h=>h
 | .ty y,v,_,h=>h
 | .dct,v,_,h=>h
 | .dks _,v,_,h=>h
theorem ag.low(b:∀n,n<k->μ''[n]?=μ'[n]?)(hs:∀a∈μ'',a∈μ'):∀(ds:List D) (vs:List V),bt k ds=HX->ag K mg μ' H ds vs->ag K mg μ'' H ds vs
 | [],vs,_,h=>h
 |d::ds,vs,l,h=>by dsimp only[bt]at l;simp at l;obtain⟨w,W,e,r,q⟩:=h;exact⟨w,_,e,Rep.low b hs d w l.1 r,ag.low b hs _ _ l.2 q⟩
end
theorem Ext.cut(x:Ext μ H μ' H'):Ext μ H μ H':=⟨⟨[],by simp⟩,x.keep,x.there,λ_ h=>.inl h⟩
theorem aC.cut(x:Ext μ H μ' H')(f:μ.length=k)(s:aC K mg μ' S' H')(l:(S'.take k).all (bt k)=HX):aC K mg μ (S'.take k) H':=by obtain⟨r,rfl⟩:=x.pre;have g:=s.len;refine⟨s.live,by grind,(Jl.mp s.nd).1,λn a D e h=>?_⟩;have c:=h;rw[Kj (by grind)]at h;obtain⟨vs,q,R⟩:=s.at_ n a _ (by grind) h;exact⟨_,q,ag.low λm i=>by grind (λb d=>IE _ d) _ _ (Zl.mp l _ (Zq c)) R⟩
theorem y8{E:XK}{Q:VK}(x:Ext μ H μ' H')(G:μ.length=k)(s:aC K mg μ' S' H')(r:Rep K mg μ' H' d v)(w:ai K mg E (Rep K mg) μ H Q (d9 k d S')):Q v H':=by
 unfold d9 at w;split at w
 ·rename_i y;split at w
  ·rename_i F;refine w μ H' v x.cut (aC.cut x G s y) ?_;obtain⟨R,rfl⟩:=x.pre;exact Rep.low (k:=k) (λm o=>by grind) (λb f=>IE _ f) _ _ F r
  ·split at w
   ·rename_i n I;split at w
    ·rename_i X J;split at w
     ·rename_i t;unfold Rep at r;obtain⟨a,rfl,C⟩:=r;obtain⟨vs,q,M⟩:=s.at_ n a X C J;obtain⟨R,rfl⟩:=x.pre;have g7:=Jl.mp s.nd;have O:μ.length<=n:=by omega
      have e:a∈R:=by grind
      have p:a∉μ:=λz=>g7.2.2 a z a e rfl
      have j:H a=none:=by
       rcases x.fresh a (Zz _ e)with z|z
       ·exact absurd z p
       ·exact z
      have sub:∀b∈μ++[a],b∈μ++R:=λb f=>by grind
      have S:∀m,m<k->(μ++[a])[m]?=(μ++R)[m]? :=λm o=>by grind
      have l:=s.len;simp at l;refine w (μ++[a]) H' (.ref a) ⟨⟨[a],rfl⟩,x.keep,x.there,λb f=>?_⟩ ⟨s.live,?_,?_,λm b D g h=>?_⟩ ?_
      ·rcases ZK.mp f with z|z
       ·exact .inl z
       ·have:b=a:=by grind
        subst this;exact .inr j
      ·rw[Zr,Zr,JR];simp;omega
      ·rw[Jl];exact⟨g7.1,by simp,λb f c N=>by grind⟩
      ·by_cases o:m<μ.length
       ·rw[Iz o]at g;rw[Iz (by grind)]at h;have i:=h;rw[Kj (by omega)]at h;obtain⟨W,L,u⟩:=s.at_ m b D (by grind) h;exact⟨W,L,ag.low (k:=k) S sub _ _ (Zl.mp y D (Zq i)) u⟩
       ·have A:m=μ.length:=by grind
        subst A;rw[IU (Zf _)]at g;rw[IU (by grind)]at h;have B:μ.length-(S'.take k).length=0:=by grind
        rw[B]at h;simp at g h;subst g;subst h;exact⟨vs,q,ag.low (k:=k) S sub _ _ t.1 M⟩
      ·unfold Rep;exact⟨a,rfl,by grind⟩
     ·exact w.elim
    ·exact w.elim
   ·exact w.elim
 ·exact w.elim
end
theorem EW{m:GS}{vs:List V}(r:ag K m μ H ds vs):aN K m μ H (ds.map some++Ic (N.length-ds.length) none) (L2.start N vs):=by
 unfold L2.start;have c:=r.length;refine⟨by simp_all,λi d e=>?_⟩;by_cases b:i<ds.length
 ·cases E:ds[i]? with
  |none=>simp_all
  |some D=>
   obtain⟨v,h,a⟩:=r.get E
   grind
 grind
section
variable {P:Ia}
theorem bV.mono{j:Nat}{f:Str}(F:bV P w K mg base CX j f φ)(h:j<=k):bV P w K mg base CX k f φ:=by obtain⟨d,e,p,m,M,a,b,c⟩:=F.ex;exact⟨_,_,_,m,M,a,b.mono h,c⟩
theorem y9{x:Str}{B:IP}(F:kN K x qual st f B)(S:bx N ps (a9 st))(M:Bb P w K mg base (bp P w) Φ Γ k)(U:cb body N (bF st)=bF st)(T:d6 body N (a9 st).names (bF st)=HX)(Y:∀z∈d8 body,XC P w K mg z):
  cz P w K mg base (bp P w) (k+1) f B ps (qM K mg ps.length (aH Φ Γ body N.length ps.length)):=by
 obtain⟨oc,od,kV,J,pm,an,i,ct,Z,rfl,lk,j⟩:=F.ex;refine u9 lk j S (λvs H Q E h=>h.1) λA o s H vs Q E X h=>?_
 ·obtain⟨V,F',μ,t,O,D,r,W⟩:=h;have L:j2 (eP _ P w K mg base N qual (a9 st) f i A o s H E) E:=j2.of;refine⟨_,U▸fW _ ⟨⟨rfl,S.nd,rfl,S.kind,rfl,X,λ_ _=>rfl,M,L.pass,pg⟩,L.own,rfl,⟨rfl,rfl,rfl⟩,λpq σ H1 s1 h2 e C u I m q=>L.made I m q⟩ T Y,_,_,_,_,D,EW r,?_⟩;have b:O.length=ps.length:=by rw[r.length];exact V
  unfold aH at W;rw[if_pos b,<-b]at W;have a:=D.len;cases e:af _ _ _ _ _ with
  |ok R p=>
   rw[e]at W;cases R with
   |next G=>exact λg n σ' x c _=>y8 x a c kO W
   |ret d=>exact λg n v x c r'=>y8 x a c r' W
   |brk G=>exact W.elim
   |cont G=>exact W.elim
  |err y p=>
   rw[e]at W;intro g n x c;by_cases l:(p.take t.length).all (bt t.length)=HX
   ·simp[l]at W;exact W _ _ x.cut (aC.cut x a c l)
   ·simp[l]at W;exact W.elim
  |fail=>rw[e]at W;exact W.elim
theorem HR{x:Str}{a:IP}(F:kN K x qual st f a)(S:bx N ps (a9 st))(d:mg x=some (.ref f))(H:Binds K a ps [])(M:Bb P w K mg base (bp P w) Φ Γ k)(c:cb body N (bF st)=bF st)(b:d6 body N (a9 st).names (bF st)=HX)(e:∀z∈d8 body,XC P w K mg z):
  bV P w K mg base (bp P w) (k+1) x (aH Φ Γ body N.length ps.length):=by
 refine⟨f,_,_,d,F.kp,H,y9 F S M c b e,λD g h=>?_⟩;unfold aH at h;simp_all
theorem EX{x:Str}{b:IP}(F:kN K x qual st f b)(S:bx N ps (a9 st))(d:mg x=some (.ref f))(c:Binds K b ps []):bV P w K mg base (bp P w) k x (λ_ _=>.fail):=
 ⟨f,_,_,d,F.kp,c,⟨λvs H Q E h=>h.1,λA o s H a u vs Q E _ _ _ _ h=>by obtain⟨_,_,_,_,_,_,_,z⟩:=h;exact z.elim⟩,λ_ _ h=>absurd rfl h⟩
theorem b3{P:Lv->Prop}(h:∀a,P [a]):∀us:Lv,us.length=1->P us:=λus H=>by obtain⟨a,rfl⟩:=List.length_eq_one_iff.mp H;exact h a
theorem d_{P:Lv->Prop}(h:∀a b,P [a,b]):∀us:Lv,us.length=2->P us:=λus H=>by
 cases us with
 |nil=>cases H
 |cons a us=>exact b3 (P:=λus=>P _) (h a) _ (ZA H)
theorem EY{P:Lv->Prop}(h:∀a b c,P [a,b,c]):∀us:Lv,us.length=3->P us:=λus H=>by
 cases us with
 |nil=>cases H
 |cons a us=>exact d_ (P:=λus=>P _) (h a) _ (ZA H)
noncomputable def tbl(l:List (Str×(List D->ae->Res D))):FT:=λf=>l.lookup f
theorem Hn(h:∀p∈l,bV P w K mg base (bp P w) k p.1 p.2)(b:∀x d,Γ x=some d->∃v u,mg x=some u/\RelV v u/\∀F μ H,Rep K ⟨mg,F⟩ μ H d v)(a:∀x∈fu,mg x=none):Bb P w K mg base (bp P w) (tbl l) Γ k:=
 ⟨λf c e=>h _ (Zw e),b,a⟩
end
end Py
namespace K91
noncomputable def Bg:Ls:=["NoWeb","NoPlace","NoPlaces","NoTie","NoNumber","NoPairing","NoWay","NoRing","NoArrows","NoSides","NoText","NoLine","NoDeed","TooGreat"]
noncomputable def y_:Ls:=["web","place","places","tie","number","pairing","way","ring","arrows","sides","text","line","deed","great"]
noncomputable def G0:Str->Option D:=λx=>[(("MOST_PLACES":Str),D.int 8),(("FIGURES":Str),D.str "0123456789")].lookup x
noncomputable def EZ:Ls:=["thing"]
noncomputable def E1:List CS:=[.ret (.band (.blt .isinst [.var 0,.ty "int"]) (.bnot (.blt .isinst [.var 0,.ty "bool"])))]
noncomputable def E2:FT:=tbl []
noncomputable def fX:List D->ae->Res D:=aH E2 G0 E1 EZ.length 1
noncomputable def E3:Ls:=["thing","low","high"]
noncomputable def mC:List CS:=[.ret (.band (.call "is_number" [.var 0]) (.chain .LtE .LtE (.var 1) (.var 0) (.var 2)))]
noncomputable def za:FT:=tbl [("is_number",fX)]
theorem ss:za "is_number"=some fX:=rfl
noncomputable def fF:List D->ae->Res D:=aH za G0 mC E3.length 3
noncomputable def E4:Ls:=["many","thing"]
noncomputable def mD:List CS:=[.ret (.call "is_number_from" [.var 1,.lit (.int 0),.bin .Sub (.var 0) (.lit (.int 1))])]
noncomputable def su:FT:=tbl [("is_number_from",fF)]
theorem zb:su "is_number_from"=some fF:=rfl
noncomputable def mE:List D->ae->Res D:=aH su G0 mD E4.length 2
noncomputable def zc:Ls:=["things"]
noncomputable def zd:List CS:=[.ret (.blt .all [.comp HY ["one","other"] [none,none] (.tup [.var 0,.var 1]) (.zip [.var 0,.sl (.var 0) [.lit (.int 1)] []]) [] (.emit (.cmp .Lt (.var 0) (.var 1)))])]
noncomputable def E5:FT:=tbl []
noncomputable def eV:List D->ae->Res D:=aH E5 G0 zd zc.length 1
noncomputable def E6:Ls:=["many","thing"]
noncomputable def E7:CE:=.comp HY ["place","many"] [none,some 0] (.var 0) (.seq (.var 1)) [] (.emit (.call "is_place" [.var 1,.var 0]))
noncomputable def mF:List CS:=[.ret (.band (.blt .isinst [.var 1,.ty "tuple"]) (.blt .all [E7]))]
noncomputable def js:FT:=tbl [("is_place",mE)]
noncomputable def fY:List D->ae->Res D:=aH js G0 mF E6.length 2
noncomputable def E8:Ls:=["many","thing"]
noncomputable def jt:List CS:=[.ret (.band (.call "are_places" [.var 0,.var 1]) (.band (.cmp .Eq (.blt .len [.var 1]) (.lit (.int 2))) (.call "is_rising" [.var 1])))]
noncomputable def mG:FT:=tbl [("are_places",fY),("is_rising",eV)]
theorem sv:mG "are_places"=some fY:=rfl
theorem E_:mG "is_rising"=some eV:=rfl
noncomputable def fZ:List D->ae->Res D:=aH mG G0 jt E8.length 2
noncomputable def Fa:Ls:=["thing","many","ties"]
noncomputable def Fb:CE:=.bor (.bnot (.blt .isinst [.var 0,.ty "tuple"])) (.cmp .NotEq (.blt .len [.var 0]) (.lit (.int 2)))
noncomputable def Ho:CE:=.bor (.bnot (.call "is_number_from" [.var 1,.lit (.int 1),.glob "MOST_PLACES"])) (.bnot (.blt .isinst [.var 2,.ty "tuple"]))
noncomputable def ze:CE:=.comp HY ["tie","many"] [none,some 1] (.var 0) (.seq (.var 2)) [] (.emit (.call "is_tie" [.var 1,.var 0]))
noncomputable def mH:List CS:=[.ite Fb [.ret (.lit (.bl HY))] [],.asgT (.tup [.var 1,.var 2]) (.var 0),.ite Ho [.ret (.lit (.bl HY))] [],.ret (.band (.blt .all [ze]) (.call "is_rising" [.var 2]))]
noncomputable def ed:FT:=tbl [("is_rising",eV),("is_number_from",fF),("is_tie",fZ)]
theorem Fc:ed "is_rising"=some eV:=rfl
theorem Fe:ed "is_number_from"=some fF:=rfl
noncomputable def eX:List D->ae->Res D:=aH ed G0 mH Fa.length 1
noncomputable def Ff:Ls:=["word"]
noncomputable def ju:List CS:=[.ret (.ite (.band (.cmp .Eq (.blt .len [.var 0]) (.lit (.int 1))) (.cmp .In (.var 0) (.glob "FIGURES"))) (.smt .index (.glob "FIGURES") [.var 0]) (.lit (.non)))]
noncomputable def zf:FT:=tbl []
noncomputable def g_:List D->ae->Res D:=aH zf G0 ju Ff.length 1
noncomputable def Fh:Ls:=["word"]
noncomputable def jv:List CS:=[.ite (.bor (.cmp .NotEq (.blt .len [.var 0]) (.lit (.int 3))) (.cmp .NotEq (.idx (.var 0) (.lit (.int 1))) (.lit (.str "-")))) [.ret (.lit (.non))] [],.ret (.tup [.call "figure" [.idx (.var 0) (.lit (.int 0))],.call "figure" [.idx (.var 0) (.lit (.int 2))]])]
noncomputable def sA:FT:=tbl [("figure",g_)]
theorem Fi:sA "figure"=some g_:=rfl
noncomputable def mI:List D->ae->Res D:=aH sA G0 jv Fh.length 1
noncomputable def Fj:Ls:=["thing"]
noncomputable def jw:List CS:=[.ite (.bnot (.blt .isinst [.var 0,.ty "str"])) [.raise_ "NoText" [.lit (.str "this is no text")]] []]
noncomputable def sB:FT:=tbl []
noncomputable def jx:List D->ae->Res D:=aH sB G0 jw Fj.length 1
noncomputable def jy:Ls:=["text","words","web"]
noncomputable def zg:CE:=.tup [.call "figure" [.idx (.var 1) (.lit (.int 0))],.blt .tuple [.comp HY ["word"] [none] (.var 0) (.seq (.sl (.var 1) [.lit (.int 1)] [])) [] (.emit (.call "read_tie" [.var 0]))]]
noncomputable def mJ:List CS:=[.expr (.call "must_be_text" [.var 0]),.asg 1 (.smt .split (.var 0) [.lit (.str " ")]),.asg 2 zg,.ite (.bnot (.call "is_web" [.var 2])) [.raise_ "NoText" [.lit (.str "this text writes no web")]] [],.ret (.var 2)]
noncomputable def ei:FT:=tbl [("must_be_text",jx),("figure",g_),("is_web",eX),("read_tie",mI)]
theorem zh:ei "must_be_text"=some jx:=rfl
theorem Fm:ei "figure"=some g_:=rfl
theorem zi:ei "is_web"=some eX:=rfl
theorem Fn:ei "read_tie"=some mI:=rfl
noncomputable def eY:List D->ae->Res D:=aH ei G0 mJ jy.length 1
noncomputable def Fo:Ls:=["_law_word"]
noncomputable def f6:List CS:=[.ite (.bor (.cmp .NotEq (.blt .len [.var 0]) (.lit (.int 3))) (.bor (.cmp .NotEq (.idx (.var 0) (.lit (.int 1))) (.lit (.str "-"))) (.bor (.cmp .NotIn (.idx (.var 0) (.lit (.int 0))) (.lit (.str "0123456789"))) (.cmp .NotIn (.idx (.var 0) (.lit (.int 2))) (.lit (.str "0123456789")))))) [.ret (.lit (.non))] [],.ret (.tup [.blt .int [.idx (.var 0) (.lit (.int 0))],.blt .int [.idx (.var 0) (.lit (.int 2))]])]
noncomputable def zj:FT:=tbl []
noncomputable def mK:List D->ae->Res D:=aH zj G0 f6 Fo.length 1
noncomputable def Fp:Ls:=["_law_found"]
noncomputable def Fq:List CS:=[.ret (.band (.blt .isinst [.var 0,.ty "int"]) (.bnot (.blt .isinst [.var 0,.ty "bool"])))]
noncomputable def Fs:FT:=tbl []
noncomputable def mL:List D->ae->Res D:=aH Fs G0 Fq Fp.length 1
noncomputable def Ft:Ls:=["_law_thing","_law_tie"]
noncomputable def ux:CE:=.idx (.var 0) (.lit (.int 0))
noncomputable def Bh:CE:=.chain .LtE .LtE (.lit (.int 1)) ux (.lit (.int 8))
noncomputable def zk:CE:=.bor (.bnot (.blt .isinst [.var 0,.ty "tuple"])) (.bor (.cmp .NotEq (.blt .len [.var 0]) (.lit (.int 2))) (.bor (.bnot (.call "_law_whole" [ux])) (.bnot Bh)))
noncomputable def gq:CE:=.idx (.var 0) (.lit (.int 1))
noncomputable def Hq:CE:=.comp HY ["_law_place"] [none] (.var 0) (.seq (.var 1)) [] (.emit (.call "_law_whole" [.var 0]))
noncomputable def Fu:CE:=.bor (.bnot (.blt .isinst [.var 1,.ty "tuple"])) (.bor (.cmp .NotEq (.blt .len [.var 1]) (.lit (.int 2))) (.bnot (.blt .all [Hq])))
noncomputable def Hr:CE:=.chain3 .LtE .Lt .Lt (.lit (.int 0)) (.idx (.var 1) (.lit (.int 0))) (.idx (.var 1) (.lit (.int 1))) ux
noncomputable def pi:List CS:=[.ite Fu [.ret (.lit (.bl HY))] [],.ite (.bnot Hr) [.ret (.lit (.bl HY))] []]
noncomputable def sC:List CS:=[.ite zk [.ret (.lit (.bl HY))] [],.ite (.bnot (.blt .isinst [gq,.ty "tuple"])) [.ret (.lit (.bl HY))] [],.for_ (.var 1) (.seq gq) pi,.ret (.cmp .Eq (.blt (.list HY) [gq]) (.sset gq))]
noncomputable def bL:FT:=tbl [("_law_whole",mL)]
theorem Fv:bL "_law_whole"=some mL:=rfl
noncomputable def jz:List D->ae->Res D:=aH bL G0 sC Ft.length 1
noncomputable def Fw:Ls:=["_law_text","_law_words","_law_ties"]
noncomputable def Fx:CE:=.cmp .NotIn (.idx (.var 1) (.lit (.int 0))) (.lst HY [.lit (.str "1"),.lit (.str "2"),.lit (.str "3"),.lit (.str "4"),.lit (.str "5"),.lit (.str "6"),.lit (.str "7"),.lit (.str "8")])
noncomputable def Fy:CE:=.comp HY ["_law_word"] [none] (.var 0) (.seq (.sl (.var 1) [.lit (.int 1)] [])) [] (.emit (.call "_law_tie_in" [.var 0]))
noncomputable def uy:CE:=.tup [.blt .int [.idx (.var 1) (.lit (.int 0))],.blt .tuple [.var 2]]
noncomputable def Bi:CE:=.bor (.cmp .In (.lit (.non)) (.var 2)) (.bnot (.call "_law_is_web" [uy]))
noncomputable def mM:List CS:=[.asg 1 (.smt .split (.var 0) [.lit (.str " ")]),.ite Fx [.ret (.lit (.non))] [],.asg 2 Fy,.ite Bi [.ret (.lit (.non))] [],.ret uy]
noncomputable def c9:FT:=tbl [("_law_tie_in",mK),("_law_is_web",jz)]
theorem Fz:c9 "_law_tie_in"=some mK:=rfl
theorem FA:c9 "_law_is_web"=some jz:=rfl
noncomputable def hE:List D->ae->Res D:=aH c9 G0 mM Fw.length 1
noncomputable def dJ:Ls:=["_law_found","_law_due","_law_one","_law_other"]
noncomputable def ee:List CS:=[.ite (.cmp .Is (.var 1) (.lit (.non))) [.ret (.cmp .Is (.var 0) (.lit (.non)))] [],.ite (.blt .isinst [.var 1,.ty "bool"]) [.ret (.band (.blt .isinst [.var 0,.ty "bool"]) (.cmp .Eq (.var 0) (.var 1)))] [],.ite (.blt .isinst [.var 1,.ty "int"]) [.ret (.band (.blt .isinst [.var 0,.ty "int"]) (.band (.bnot (.blt .isinst [.var 0,.ty "bool"])) (.cmp .Eq (.var 0) (.var 1))))] [],.ite (.blt .isinst [.var 1,.ty "str"]) [.ret (.band (.blt .isinst [.var 0,.ty "str"]) (.cmp .Eq (.var 0) (.var 1)))] [],.ite (.bor (.cmp .NotEq (.blt .isinst [.var 1,.ty "list"]) (.blt .isinst [.var 0,.ty "list"])) (.cmp .NotEq (.blt .isinst [.var 1,.ty "tuple"]) (.blt .isinst [.var 0,.ty "tuple"]))) [.ret (.lit (.bl HY))] [],.ite (.cmp .NotEq (.blt .len [.var 0]) (.blt .len [.var 1])) [.ret (.lit (.bl HY))] [],.for_ (.tup [.var 2,.var 3]) (.zip [.var 0,.var 1]) [.ite (.bnot (.call "_law_same" [.var 2,.var 3])) [.ret (.lit (.bl HY))] []],.ret (.lit (.bl HX))]
noncomputable def bq:Nat->List D->ae->Res D
 |0=>λ_ _=>.fail
 |n+1=>aH (tbl [("_law_same",bq n)]) G0 ee dJ.length 2
noncomputable def jA:List D->ae->Res D:=bq 6
noncomputable def FC:Ls:=["_law_script","_law_k"]
noncomputable def zl:List CS:=[.ite (.cmp .Lt (.var 1) (.blt .len [.var 0])) [.ret (.idx (.var 0) (.var 1))] [],.ret (.lit (.int 0))]
noncomputable def FD:FT:=tbl []
noncomputable def hG:List D->ae->Res D:=aH FD G0 zl FC.length 2
noncomputable def sD:Ls:=["_law_cell_here"]
noncomputable def sE:List CS:=[.ret (.lst HX [.var 0,.blt .int [.cmp .GtE (.var 0) (.bin .Pow (.lit (.int 10)) (.lit (.int 18)))]])]
noncomputable def sF:FT:=tbl []
noncomputable def hH:List D->ae->Res D:=aH sF G0 sE sD.length 1
noncomputable def FE:Ls:=["_law_web_here"]
noncomputable def zm:List CS:=[.ret (.join " " [.bin .Add (.lst HY [.blt .str [.idx (.var 0) (.lit (.int 0))]]) (.comp HY ["_law_one","_law_other"] [none,none] (.tup [.var 0,.var 1]) (.seq (.idx (.var 0) (.lit (.int 1)))) [] (.emit (.bin .Add (.bin .Add (.blt .str [.var 0]) (.lit (.str "-"))) (.blt .str [.var 1]))))])]
noncomputable def mO:FT:=tbl []
noncomputable def mP:List D->ae->Res D:=aH mO G0 zm FE.length 1
noncomputable def sG:Ls:=["_law_pen_here","_law_many","_law_found"]
noncomputable def sH:List CS:=[.ite (.cmp .Eq (.idx (.var 0) (.lit (.int 1))) (.lit (.int 1))) [.asg 2 (.bin .Mod (.idx (.var 0) (.lit (.int 0))) (.var 1)),.set (.var 0) (.lit (.int 0)) (.bin .FloorDiv (.idx (.var 0) (.lit (.int 0))) (.var 1)),.ret (.var 2)] [],.set (.var 0) (.lit (.int 0)) (.bin .Mod (.bin .Add (.bin .Mult (.bin .Mod (.idx (.var 0) (.lit (.int 0))) (.lit (.int 2147483629))) (.lit (.int 48271))) (.lit (.int 11))) (.lit (.int 2147483629))),.ret (.bin .Mod (.bin .FloorDiv (.bin .Mod (.bin .Add (.bin .Mult (.idx (.var 0) (.lit (.int 0))) (.idx (.var 0) (.lit (.int 0)))) (.bin .Mult (.lit (.int 40692)) (.idx (.var 0) (.lit (.int 0))))) (.lit (.int 2147483647))) (.lit (.int 8))) (.var 1))]
noncomputable def FF:FT:=tbl []
noncomputable def dL:List D->ae->Res D:=aH FF G0 sH sG.length 2
noncomputable def zn:Ls:=["_law_many","_law_found","_law_one"]
noncomputable def zo:List CS:=[.asg 1 (.lst HY []),.for_ (.var 2) (.range [.var 0]) [.asg 1 (.bin .Add (.var 1) (.comp HY ["_law_other","_law_one"] [none,some 2] (.var 0) (.range [.bin .Add (.var 2) (.lit (.int 1)),.var 0]) [] (.emit (.tup [.var 1,.var 0]))))],.ret (.var 1)]
noncomputable def zp:FT:=tbl []
noncomputable def mQ:List D->ae->Res D:=aH zp G0 zo zn.length 1
noncomputable def FG:Ls:=["_law_pen_here","_law_upto","_law_many","_law_way","_law_rest","_law_mids","_law_often"]
noncomputable def sI:List CS:=[.asg 2 (.bin .Sub (.bin .Sub (.bin .Add (.lit (.int 1)) (.var 1)) (.lit (.int 1))) (.bin .Mod (.idx (.lst HY [.lit (.int 0),.lit (.int 0),.lit (.int 1),.lit (.int 0),.lit (.int 2),.lit (.int 1),.lit (.int 3),.lit (.int 4),.lit (.int 5),.lit (.int 6),.lit (.int 7),.lit (.int 0)]) (.call "_law_draw" [.var 0,.lit (.int 12)])) (.var 1))),.asg 3 (.call "_law_draw" [.var 0,.lit (.int 9)]),.ite (.band (.cmp .Eq (.var 3) (.lit (.int 0))) (.cmp .Gt (.var 2) (.lit (.int 2)))) [.ret (.tup [.var 2,.blt .tuple [.blt (.sorted HY (.seq .int)) [.bin .Add (.comp HY ["_law_k"] [none] (.var 0) (.range [.bin .Sub (.var 2) (.lit (.int 1))]) [] (.emit (.tup [.var 0,.bin .Add (.var 0) (.lit (.int 1))]))) (.lst HY [.tup [.lit (.int 0),.bin .Sub (.var 2) (.lit (.int 1))]])]]])] [],.ite (.band (.cmp .Eq (.var 3) (.lit (.int 1))) (.cmp .Gt (.var 2) (.lit (.int 5)))) [.asg 4 (.bin .Add (.comp HY ["_law_k"] [none] (.var 0) (.range [.lit (.int 3),.bin .Sub (.var 2) (.lit (.int 1))]) [] (.emit (.tup [.var 0,.bin .Add (.var 0) (.lit (.int 1))]))) (.lst HY [.tup [.lit (.int 3),.bin .Sub (.var 2) (.lit (.int 1))],.tup [.lit (.int 2),.lit (.int 3)]])),.ret (.tup [.var 2,.blt .tuple [.blt (.sorted HY (.seq .int)) [.bin .Add (.lst HY [.tup [.lit (.int 0),.lit (.int 1)],.tup [.lit (.int 0),.lit (.int 2)],.tup [.lit (.int 1),.lit (.int 2)]]) (.var 4)]]])] [],.ite (.band (.cmp .Eq (.var 3) (.lit (.int 2))) (.cmp .Gt (.var 2) (.lit (.int 2)))) [.asg 5 (.bin .Add (.lit (.int 1)) (.call "_law_draw" [.var 0,.lit (.int 2)])),.ret (.tup [.var 2,.blt .tuple [.comp HY ["_law_tie","_law_mids"] [none,some 5] (.var 0) (.seq (.call "_law_pairs" [.var 2])) [.chain .Lt .LtE (.idx (.var 0) (.lit (.int 0))) (.var 1) (.idx (.var 0) (.lit (.int 1)))] (.emit (.var 0))]])] [],.ite (.cmp .Eq (.var 3) (.lit (.int 3))) [.ret (.tup [.var 2,.blt .tuple [.blt (.sorted HY (.seq .int)) [.comp HY ["_law_place","_law_pen_here"] [none,some 0] (.var 0) (.range [.lit (.int 1),.var 2]) [] (.emit (.tup [.call "_law_draw" [.var 1,.var 0],.var 0]))]]])] [],.asg 6 (.idx (.lst HY [.lit (.int 2),.lit (.int 3),.lit (.int 4),.lit (.int 6),.lit (.int 8)]) (.call "_law_draw" [.var 0,.lit (.int 5)])),.ret (.tup [.var 2,.blt .tuple [.comp HY ["_law_tie","_law_pen_here","_law_often"] [none,some 0,some 6] (.var 0) (.seq (.call "_law_pairs" [.var 2])) [.cmp .Lt (.call "_law_draw" [.var 1,.lit (.int 8)]) (.var 2)] (.emit (.var 0))]])]
noncomputable def dM:FT:=tbl [("_law_draw",dL),("_law_pairs",mQ)]
theorem hI:dM "_law_draw"=some dL:=rfl
theorem zq:dM "_law_pairs"=some mQ:=rfl
noncomputable def hJ:List D->ae->Res D:=aH dM G0 sI FG.length 2
noncomputable def FH:Ls:=["_law_pen_here","_law_text","_law_at","_law_signs","_law_sign","_law_words","_law_to","_law_rows"]
noncomputable def Hs:CE:=.call "_law_draw" [.var 0,.bin .Add (.blt .len [.var 1]) (.lit (.int 1))]
noncomputable def zr:CE:=.ite (.cmp .Eq (.call "_law_draw" [.var 0,.lit (.int 3)]) (.lit (.int 0))) (.idx (.var 3) (.call "_law_draw" [.var 0,.lit (.int 95)])) (.idx (.lit (.str "01234567 ,-")) (.call "_law_draw" [.var 0,.lit (.int 11)]))
noncomputable def Ht:CE:=.call "_law_draw" [.var 0,.blt .len [.var 5]]
noncomputable def Bj:CE:=.sl (.var 1) [] [.var 2]
noncomputable def Hu:CE:=.sl (.var 1) [.var 2] []
noncomputable def FI:CE:=.sl (.var 1) [.bin .Add (.var 2) (.lit (.int 1))] []
noncomputable def sJ:List CE:=[.bin .Add (.bin .Add Bj (.var 4)) Hu,.bin .Add Bj FI,.bin .Add (.bin .Add Bj (.var 4)) FI,.bin .Add (.var 1) (.lit (.str "\n"))]
noncomputable def Bk:CE:=.sl (.var 5) [] [.var 6]
noncomputable def FJ:CE:=.sl (.var 5) [.bin .Add (.var 6) (.lit (.int 1))] []
noncomputable def Hv:CE:=.sl (.var 5) [.var 6] [.bin .Add (.var 6) (.lit (.int 1))]
noncomputable def Hw:CE:=.sl (.var 5) [.var 6] []
noncomputable def sK:List CE:=[.join " " [.bin .Add Bk FJ],.join " " [.bin .Add (.bin .Add Bk Hv) Hw]]
noncomputable def sL:List CE:=[.join " " [.bin .Add (.sl (.var 5) [] [.lit (.int 1)]) (.rv0 (.var 5) (.lit (.int 0)) (.neg (.lit (.int 1))))],.join " " [.bin .Add (.bin .Add Bk (.lst HY [.rev (.idx (.var 5) (.var 6)) (.neg (.lit (.int 1)))])) FJ]]
noncomputable def mR:List CE:=[.lit (.str ""),.lit (.str " "),.lit (.str "9"),.lit (.str "0"),.lit (.str "none"),.lit (.str "None"),.lit (.str "8 0-8"),.bin .Add (.lit (.str " ")) (.var 1),.bin .Add (.var 1) (.lit (.str " "))]
noncomputable def sM:List CS:=[.asg 2 Hs,.asg 3 (.lit (.str " !\"#$&'()*+,-./0123456789:;<=>?@ABCDEFGHIJKLMNOPQRSTUVWXYZ[\\]^_`abcdefghijklmnopqrstuvwxyz{|}~\n")),.asg 4 zr,.asg 5 (.smt .split (.var 1) [.lit (.str " ")]),.asg 6 Ht,.asg 7 (.lst HY sJ),.asg 7 (.bin .Add (.var 7) (.lst HY sK)),.asg 7 (.bin .Add (.var 7) (.lst HY sL)),.ret (.idx (.bin .Add (.var 7) (.lst HY mR)) (.call "_law_draw" [.var 0,.lit (.int 17)]))]
noncomputable def cH:FT:=tbl [("_law_draw",dL)]
theorem FK:cH "_law_draw"=some dL:=rfl
noncomputable def jB:List D->ae->Res D:=aH cH G0 sM FH.length 2
noncomputable def FL:Ls:=["_law_text","_law_e"]
noncomputable def mS:List CS:=[.tryN "no" 1 [.ret (.call "read" [.var 0])] "_law_kinds" Bg y_]
noncomputable def f7:FT:=tbl [("read",eY)]
theorem zt:f7 "read"=some eY:=rfl
noncomputable def fG:List D->ae->Res D:=aH f7 G0 mS FL.length 1
noncomputable def FN:Ls:=["_law_text","_law_due"]
noncomputable def mT:List CS:=[.asg 1 (.call "_law_web_in" [.var 0]),.ite (.cmp .Is (.var 1) (.lit (.non))) [.asg 1 (.lst HY [.lit (.str "no"),.lit (.str "text")])] [],.ret (.band (.call "_law_same" [.call "_law_told" [.var 0],.var 1]) (.call "_law_same" [.call "_law_told" [.var 0],.var 1]))]
noncomputable def jC:FT:=tbl [("_law_web_in",hE),("_law_same",jA),("_law_told",fG)]
theorem zu:jC "_law_web_in"=some hE:=rfl
theorem zv:jC "_law_same"=some jA:=rfl
theorem zw:jC "_law_told"=some fG:=rfl
noncomputable def hL:List D->ae->Res D:=aH jC G0 mT FN.length 1
noncomputable def c_:Ls:=["","1","8","9","0","01","1 "," 1","2 0-1","2 1-0","2 0-1 0-1","2  0-1","2 0-2","3 0-1-2"]
noncomputable def oA:Ls:=["2 0-1\n","3 0-2 0-1","2 0-1,","+2 0-1","2 0_1"]
noncomputable def gr:Ls:=["_law_script","_law_some","_law_thing","_law_cell_here","_law_pen_here","_law_text"]
noncomputable def mU:CE:=.comp HY ["_law_text"] [none] (.var 0) (.seq (.bin .Add (.var 1) (.lst HY (oA.map λx=>.lit (.str x))))) [] (.emit (.call "_law_right" [.var 0]))
noncomputable def mV:CE:=.seq (.lst HY [.lit (.non),.lit (.int 3),.tup [.lit (.int 3),.tup []],.lst HY [.lit (.str "3")],.lit (.bl HX),.dct,.lit (.int 0)])
noncomputable def jD:CE:=.cmp .NotEq (.call "_law_told" [.var 2]) (.lst HY [.lit (.str "no"),.lit (.str "text")])
noncomputable def mW:CE:=.seq (.bin .Add (.lst HY [.call "_law_cell" [.var 0,.lit (.int 0)]]) (.sl (.var 0) [.lit (.int 1)] [.lit (.int 8)]))
noncomputable def sN:CE:=.comp HY ["_law_turn","_law_pen_here","_law_text"] [none,some 4,some 5] (.var 0) (.range [.lit (.int 8)]) [] (.emit (.call "_law_bent_text" [.var 1,.var 2]))
noncomputable def sO:CE:=.comp HY ["_law_one"] [none] (.var 0) (.seq (.bin .Add (.lst HY [.var 5]) sN)) [] (.emit (.call "_law_right" [.var 0]))
noncomputable def jE:List CS:=[.asg 4 (.call "_law_pen" [.var 3]),.asg 5 (.call "_law_web_text" [.call "_law_web" [.var 4,.lit (.int 8)]]),.ite (.bnot (.blt .all [sO])) [.ret (.lit (.bl HY))] []]
noncomputable def eK:List CS:=[.asg 1 (.lst HY (c_.map λx=>.lit (.str x))),.ite (.bnot (.blt .all [mU])) [.ret (.lit (.bl HY))] [],.for_ (.var 2) mV [.ite jD [.ret (.lit (.bl HY))] []],.for_ (.var 3) mW jE,.ret (.lit (.bl HX))]
noncomputable def aB:FT:=tbl [("_law_pen",hH),("_law_web_text",mP),("_law_told",fG),("_law_cell",hG),("_law_web",hJ),("_law_right",hL),("_law_bent_text",jB)]
theorem FO:aB "_law_pen"=some hH:=rfl
theorem FP:aB "_law_web_text"=some mP:=rfl
theorem FQ:aB "_law_told"=some fG:=rfl
theorem FR:aB "_law_cell"=some hG:=rfl
theorem FU:aB "_law_web"=some hJ:=rfl
theorem FV:aB "_law_right"=some hL:=rfl
theorem FW:aB "_law_bent_text"=some jB:=rfl
noncomputable def jF:List D->ae->Res D:=aH aB G0 eK gr.length 1
end K91
namespace Py
noncomputable def jG(K:Fg)(y:Str):H7:=match PySem.W.nsIn K mainGlobals y with
 |some (some (.ref C))=>C
 |_=>0
noncomputable def fH(K:Fg)(y:Str):Bool:=match PySem.W.nsIn K mainGlobals y with
 |some (some (.ref _))=>HX
 |_=>HY
theorem mX(h:fH K y=HX):PySem.W.nsIn K mainGlobals y=some (some (.ref (jG K y))):=by
 unfold fH at h;unfold jG;split at h
 ·omega
 ·cases h
noncomputable def mY(K:Fg)(C:H7):Bool:=(PySem.W.clsIn K C).isSome&&(PySem.W.findIn K (.ref C) "__getattribute__"==some (some (.builtin "BaseException.__getattribute__"))&&(PySem.W.findIn K (.ref C) "__getattr__"==some none&&
 (PySem.W.findIn K (.ref C) "__class__"==some (some (.builtin "object.__class__"))&&(PySem.W.mroIn K C (.type "object")==some HX&&(PySem.W.mroIn K C (.type "BaseException")==some HX&&PySem.W.kitOne K (.ref C) (.type "ValueError")==some HX)))))
noncomputable def FX(K:Fg):Rz->Bool
 | .cls x=>fH K x&&PySem.W.excIn K (jG K x) jh "ValueError.__new__"
 | .kind _ ys _=>fH K "PairError"&&(PySem.W.specialIn K (.builtin "object.__class__") "__get__"==some (some (.builtin "getset_descriptor.__get__"))&&(PySem.W.takesIn K (.builtin "object.__class__")==some HX&&(PySem.W.nsIn K mainGlobals "isinstance"==some none&&(PySem.W.nsIn K mainGlobals "ValueError"==some none&&
   ys.all λx=>fH K x&&(mY K (jG K x)&&(PySem.W.exmOne K (.ref (jG K x)) (.ref (jG K "PairError"))==some HX&&ys.all λy=>PySem.W.kitOne K (.ref (jG K x)) (.ref (jG K y))==some (y==x)))))))
noncomputable def HS(ys ws:Ls):Bool:=decide (ys.length<1000)&&(decide (ws.length<=1000)&&ys.all λx=>decide ((ys.map (· ==x)).count HX=1)&&decide (ws[(ys.map (· ==x)).idxOf HX]?=(ys.zip ws).lookup x))
theorem FY{ws:Ls}{x r:Str}(h:(ys.zip ws).lookup x=some r):x∈ys:=(JX (Zw h)).1
section
variable {P:Ia}
theorem sP(X:K.In h)(G:h.Ns mainGlobals mg){x:Str}(H:FX K (.cls x)=HX):XC P w K mg (.cls x):=
 ⟨jG K x,PySem.W.mg_of X G (mX (aa H).1),(aa H).2⟩
theorem mZ(X:K.In h)(G:h.Ns mainGlobals mg){f e0:Str}{q:IP}{a b c d wd v ws:Ls}(E:FX K (.kind f ys ws)=HX)(hw:HS ys ws=HX)(F:kN K f f st fa q)(j:PySem.W.nsIn K mainGlobals f=some (some (.ref fa)))
  (S:bx N [e0] (a9 st)) (A:Binds K q [e0] []) (i:cb (fC a b c d wd v) N (bF st)=bF st) (s:(jk (bF st)&&jq N ys (a9 st))=HX) (g:ys=a++b++c++d) (D:ws=wd++v):XC P w K mg (.kind f ys ws):=by
 subst g;subst D;obtain⟨z1,m⟩:=aa E;obtain⟨z2,n⟩:=aa m;obtain⟨z3,o⟩:=aa n;obtain⟨z4,p⟩:=aa o;obtain⟨z5,e⟩:=aa p;obtain⟨w1,k⟩:=aa hw;obtain⟨w2,l⟩:=aa k;refine⟨fa,jG K "PairError",PySem.W.mg_of X G j,F.kp,PySem.W.mg_of X G (mX z1),λx r t u C=>?_⟩;have z:=FY t;obtain⟨U,T⟩:=aa (Zl.mp e x z);obtain⟨V,Z⟩:=aa T;obtain⟨W,Y⟩:=aa Z;obtain⟨I,s1⟩:=aa V;obtain⟨J,s2⟩:=aa s1;obtain⟨L,s3⟩:=aa s2;obtain⟨M,s4⟩:=aa s3;obtain⟨O,s5⟩:=aa s4;obtain⟨Q,R⟩:=aa s5;obtain⟨r1,r2⟩:=aa (Zl.mp l x z);have H:=PySem.W.mg_of X G (mX U);rw[C]at H;cases H
 refine⟨_,rfl,ZX W,λB=>EL (bf:=λy=>y==x) F S A i (aa s).1 (aa s).2 ⟨ZX R,⟨I3.mp I,ZX J,ZX L,ZX M,ZX O,ZX Q,ZX z2,ZX z3⟩,λy g=>?_⟩
  (PySem.W.mg_none_of X G (ZX z4)) (PySem.W.mg_none_of X G (ZX z5)) (Z0 w1) (by simpa using Z0 w2) (Z0 r1) (by rw[<-t];exact Z0 r2)⟩
 exact⟨jG K y,PySem.W.mg_of X G (mX (aa (Zl.mp e y g)).1),ZX (Zl.mp Y y g)⟩
end
end Py
namespace K91
noncomputable def df(i:Nat):JE:=PySem.Challenge.pw_pairwebs_k91_webs_read.main.body.getD i (.Pass ⟨0,0,0,0⟩)
def aL(K:Fg)(x:Str)(st:JE):Prop:=∃f fd,PySem.W.nsIn K mainGlobals x=some (some (.ref f))/\kN K x x st f fd
theorem dm{x:Str}{an:Option H7}{kV:H8}(a:PySem.W.nsIn K mainGlobals x=some (some (.ref f)))(l:K.lookup f=some ⟨oc,od,.func (PySem.W.fnOf x x (fL st) (bF st) (a9 st) .none kV doc pm an cdv ct),osl⟩)
  (c:PySem.W.codeIn K cdv x=HX) (k:PySem.W.keepIn K (.ref f)=HX):aL K x st:=⟨f,_,a,qi l c k⟩
noncomputable def m5(N P:Ls)(s:Scope):Bool:=(s.kind== .function)&& !s.isCoroutine&& !s.isGenerator&&gL N&&(N.take P.length==P)&&P.all (λx=>s.names.lookup x==some .local||s.names.lookup x==some .cell)&&s.names.all (λy=>y.2 !=.free)
theorem m6{P:Ls}{s:Scope}(h:m5 N P s=HX):bx N P s:=by unfold m5 at h;simp only[ZR,beq_iff_eq,Zl,Ly,bne_iff_ne,MY]at h;obtain⟨⟨⟨⟨⟨⟨H,a⟩,b⟩,c⟩,d⟩,e⟩,f⟩:=h;exact⟨H,a,b,rB c,d,e,f⟩
noncomputable def RZ:List Rz:=[.cls "NoText",.kind "_law_kinds" Bg y_]
structure En (P:Ia)(w:Io)(K:Fg)(mg:Mg)(h:Ig):Prop where
 X:K.In h
 G:h.Ns mainGlobals mg
 hg:∀x d,G0 x=some d->∃v u,mg x=some u/\RelV v u/\∀F μ H,Rep K ⟨mg,F⟩ μ H d v
 hb:∀x∈fu,mg x=none
 xc:∀z∈RZ,XC P w K mg z
section
variable {P:Ia}{j:Nat}
theorem fe{x:Str}(E:En P w K mg h)(d:aL K x st)
  (c:∀(kV doc pm:H8) (an:Option H7) (cdv ct:H8) (us:Lv),us.length=ps.length->bindArgs (PySem.W.fnOf x x (fL st) (bF st) (a9 st) .none kV doc pm an cdv ct) ⟨us,[]⟩=pure (ps.zip us))
  (H:∀p∈l,bV P w K mg base (bp P w) k p.1 p.2) (e:cb body N (bF st)=bF st) (S:(m5 N ps (a9 st)&&(d6 body N (a9 st).names (bF st)&&(d8 body).all λz=>decide (z∈RZ)))=HX):bV P w K mg base (bp P w) (k+1) x (aH (tbl l) G0 body N.length ps.length):=by
 obtain⟨f,i,a,F⟩:=d;have S:=JW.mp S;have b:=JW.mp S.2;exact HR F (m6 S.1) (PySem.W.mg_of E.X E.G a) (F.binds c) (Hn H E.hg E.hb) e b.1 λz g=>E.xc z (Z0 (Zl.mp b.2 z g))
theorem f0{x:Str}(E:En P w K mg h)(d:aL K x st)(S:m5 N ps (a9 st)=HX)
  (H:∀(kV doc pm:H8) (an:Option H7) (cdv ct:H8) (us:Lv),us.length=ps.length->bindArgs (PySem.W.fnOf x x (fL st) (bF st) (a9 st) .none kV doc pm an cdv ct) ⟨us,[]⟩=pure (ps.zip us)):bV P w K mg base (bp P w) k x (λ_ _=>.fail):=by
 obtain⟨f,b,a,F⟩:=d;exact EX F (m6 S) (PySem.W.mg_of E.X E.G a) (F.binds H)
theorem an:∀p∈([]:List (Str×(List D->ae->Res D))),bV P w K mg base (bp P w) k p.1 p.2:=λp h=>(Zy h).elim
theorem ac{x:Str}(F:bV P w K mg base (bp P w) j x φ)(H:j<=k)(r:∀p∈l,bV P w K mg base (bp P w) k p.1 p.2):∀p∈(x,φ)::l,bV P w K mg base (bp P w) k p.1 p.2:=λp a=>by
 rcases Zj.mp a with rfl|h
 ·exact F.mono H
 ·exact r p h
end
structure Df (K:Fg):Prop where
 d_is_number:aL K "is_number" (df 18)
 d_is_number_from:aL K "is_number_from" (df 19)
 d_is_place:aL K "is_place" (df 20)
 d_is_rising:aL K "is_rising" (df 21)
 d_are_places:aL K "are_places" (df 22)
 d_is_tie:aL K "is_tie" (df 23)
 d_is_web:aL K "is_web" (df 24)
 d_figure:aL K "figure" (df 27)
 d_read_tie:aL K "read_tie" (df 28)
 d_must_be_text:aL K "must_be_text" (df 29)
 d_read:aL K "read" (df 30)
 d_law_tie_in:aL K "_law_tie_in" (df 33)
 d_law_whole:aL K "_law_whole" (df 34)
 d_law_is_web:aL K "_law_is_web" (df 35)
 d_law_web_in:aL K "_law_web_in" (df 36)
 d_law_same:aL K "_law_same" (df 37)
 d_law_cell:aL K "_law_cell" (df 38)
 d_law_pen:aL K "_law_pen" (df 39)
 d_law_web_text:aL K "_law_web_text" (df 40)
 d_law_draw:aL K "_law_draw" (df 41)
 d_law_pairs:aL K "_law_pairs" (df 42)
 d_law_web:aL K "_law_web" (df 43)
 d_law_bent_text:aL K "_law_bent_text" (df 44)
 d_law_told:aL K "_law_told" (df 45)
 d_law_right:aL K "_law_right" (df 46)
 d_law:aL K "law" (df 47)
 d_law_kinds:aL K "_law_kinds" (df 32)
section
variable {P:Ia}(E9:En P w K mg h)(D9:Df K)
include E9 D9
theorem FZ:bV P w K mg base (bp P w) 1 "is_number" fX:=fe (ps:=["thing"]) E9 D9.d_is_number (λ_ _ _ _ _ _=>b3 λ_=>rfl) an rfl (by decide+kernel)
theorem zx:bV P w K mg base (bp P w) 2 "is_number_from" fF:=fe (ps:=["thing","low","high"]) E9 D9.d_is_number_from (λ_ _ _ _ _ _=>EY λ_ _ _=>rfl) (ac (FZ E9 D9) (by decide) an) rfl (by decide+kernel)
theorem F0:bV P w K mg base (bp P w) 3 "is_place" mE:=fe (ps:=["many","thing"]) E9 D9.d_is_place (λ_ _ _ _ _ _=>d_ λ_ _=>rfl) (ac (zx E9 D9) (by decide) an) rfl (by decide+kernel)
theorem zy:bV P w K mg base (bp P w) 1 "is_rising" eV:=fe (ps:=["things"]) E9 D9.d_is_rising (λ_ _ _ _ _ _=>b3 λ_=>rfl) an rfl (by decide+kernel)
theorem F1:bV P w K mg base (bp P w) 4 "are_places" fY:=fe (ps:=["many","thing"]) E9 D9.d_are_places (λ_ _ _ _ _ _=>d_ λ_ _=>rfl) (ac (F0 E9 D9) (by decide) an) rfl (by decide+kernel)
theorem F2:bV P w K mg base (bp P w) 5 "is_tie" fZ:=fe (ps:=["many","thing"]) E9 D9.d_is_tie (λ_ _ _ _ _ _=>d_ λ_ _=>rfl) (ac (F1 E9 D9) (by decide) (ac (zy E9 D9) (by decide) an)) rfl (by decide+kernel)
theorem F3:bV P w K mg base (bp P w) 6 "is_web" eX:=fe (ps:=["thing"]) E9 D9.d_is_web (λ_ _ _ _ _ _=>b3 λ_=>rfl) (ac (zy E9 D9) (by decide) (ac (zx E9 D9) (by decide) (ac (F2 E9 D9) (by decide) an))) rfl (by decide+kernel)
theorem zA:bV P w K mg base (bp P w) 1 "figure" g_:=fe (ps:=["word"]) E9 D9.d_figure (λ_ _ _ _ _ _=>b3 λ_=>rfl) an rfl (by decide+kernel)
theorem F4:bV P w K mg base (bp P w) 2 "read_tie" mI:=fe (ps:=["word"]) E9 D9.d_read_tie (λ_ _ _ _ _ _=>b3 λ_=>rfl) (ac (zA E9 D9) (by decide) an) rfl (by decide+kernel)
theorem F5:bV P w K mg base (bp P w) 1 "must_be_text" jx:=fe (ps:=["thing"]) E9 D9.d_must_be_text (λ_ _ _ _ _ _=>b3 λ_=>rfl) an rfl (by decide+kernel)
theorem m9:bV P w K mg base (bp P w) 7 "read" eY:=fe (ps:=["text"]) E9 D9.d_read (λ_ _ _ _ _ _=>b3 λ_=>rfl) (ac (F5 E9 D9) (by decide) (ac (zA E9 D9) (by decide) (ac (F3 E9 D9) (by decide) (ac (F4 E9 D9) (by decide) an)))) rfl (by decide+kernel)
theorem F6:bV P w K mg base (bp P w) 1 "_law_tie_in" mK:=fe (ps:=["_law_word"]) E9 D9.d_law_tie_in (λ_ _ _ _ _ _=>b3 λ_=>rfl) an rfl (by decide+kernel)
theorem F7:bV P w K mg base (bp P w) 1 "_law_whole" mL:=fe (ps:=["_law_found"]) E9 D9.d_law_whole (λ_ _ _ _ _ _=>b3 λ_=>rfl) an rfl (by decide+kernel)
theorem F8:bV P w K mg base (bp P w) 2 "_law_is_web" jz:=fe (ps:=["_law_thing"]) E9 D9.d_law_is_web (λ_ _ _ _ _ _=>b3 λ_=>rfl) (ac (F7 E9 D9) (by decide) an) rfl (by decide+kernel)
theorem F9:bV P w K mg base (bp P w) 3 "_law_web_in" hE:=fe (ps:=["_law_text"]) E9 D9.d_law_web_in (λ_ _ _ _ _ _=>b3 λ_=>rfl) (ac (F6 E9 D9) (by decide) (ac (F8 E9 D9) (by decide) an)) rfl (by decide+kernel)
theorem zB:∀n,bV P w K mg base (bp P w) (0+n) "_law_same" (bq n)
 |0=>f0 (N:=dJ) (ps:=["_law_found","_law_due"]) E9 D9.d_law_same (by decide+kernel) (λ_ _ _ _ _ _=>d_ λ_ _=>rfl)
 |n+1=>fe (ps:=["_law_found","_law_due"]) (k:=0+n) E9 D9.d_law_same (λ_ _ _ _ _ _=>d_ λ_ _=>rfl) (ac (zB n) (Zf _) an) rfl (by decide+kernel)
theorem F_:bV P w K mg base (bp P w) 6 "_law_same" jA:=zB E9 D9 6
theorem zC:bV P w K mg base (bp P w) 1 "_law_cell" hG:=fe (ps:=["_law_script","_law_k"]) E9 D9.d_law_cell (λ_ _ _ _ _ _=>d_ λ_ _=>rfl) an rfl (by decide+kernel)
theorem zD:bV P w K mg base (bp P w) 1 "_law_pen" hH:=fe (ps:=["_law_cell_here"]) E9 D9.d_law_pen (λ_ _ _ _ _ _=>b3 λ_=>rfl) an rfl (by decide+kernel)
theorem zE:bV P w K mg base (bp P w) 1 "_law_web_text" mP:=fe (ps:=["_law_web_here"]) E9 D9.d_law_web_text (λ_ _ _ _ _ _=>b3 λ_=>rfl) an rfl (by decide+kernel)
theorem zF:bV P w K mg base (bp P w) 1 "_law_draw" dL:=fe (ps:=["_law_pen_here","_law_many"]) E9 D9.d_law_draw (λ_ _ _ _ _ _=>d_ λ_ _=>rfl) an rfl (by decide+kernel)
theorem Ga:bV P w K mg base (bp P w) 1 "_law_pairs" mQ:=fe (ps:=["_law_many"]) E9 D9.d_law_pairs (λ_ _ _ _ _ _=>b3 λ_=>rfl) an rfl (by decide+kernel)
theorem zH:bV P w K mg base (bp P w) 2 "_law_web" hJ:=fe (ps:=["_law_pen_here","_law_upto"]) E9 D9.d_law_web (λ_ _ _ _ _ _=>d_ λ_ _=>rfl) (ac (zF E9 D9) (by decide) (ac (Ga E9 D9) (by decide) an)) rfl (by decide+kernel)
theorem zI:bV P w K mg base (bp P w) 2 "_law_bent_text" jB:=fe (ps:=["_law_pen_here","_law_text"]) E9 D9.d_law_bent_text (λ_ _ _ _ _ _=>d_ λ_ _=>rfl) (ac (zF E9 D9) (by decide) an) rfl (by decide+kernel)
theorem sQ:bV P w K mg base (bp P w) 8 "_law_told" fG:=fe (ps:=["_law_text"]) E9 D9.d_law_told (λ_ _ _ _ _ _=>b3 λ_=>rfl) (ac (m9 E9 D9) (by decide) an) rfl (by decide+kernel)
theorem zJ:bV P w K mg base (bp P w) 9 "_law_right" hL:=fe (ps:=["_law_text"]) E9 D9.d_law_right (λ_ _ _ _ _ _=>b3 λ_=>rfl) (ac (F9 E9 D9) (by decide) (ac (F_ E9 D9) (by decide) (ac (sQ E9 D9) (by decide) an))) rfl (by decide+kernel)
theorem Gb:bV P w K mg base (bp P w) 10 "law" jF:=fe (ps:=["_law_script"]) E9 D9.d_law (λ_ _ _ _ _ _=>b3 λ_=>rfl) (ac (zD E9 D9) (by decide) (ac (zE E9 D9) (by decide) (ac (sQ E9 D9) (by decide) (ac (zC E9 D9) (by decide) (ac (zH E9 D9) (by decide) (ac (zJ E9 D9) (by decide) (ac (zI E9 D9) (by decide) an))))))) rfl (by decide+kernel)
end
noncomputable def gu(K:Fg):Sp:=λvs H Q _=>∃(a:H7) (ns:Li),vs=[.ref a]/\kL H/\cP K H a (ns.map V.int)/\ns.length<=63/\∀H',Q (.bl HX) H'
def Good(f:List D->ae->Res D):Prop:=∀ns:Li,ns.length<=63->∃S',f [.scr (ns.map D.int)] []=.ok (.bl HX) S'
theorem zK{K:Fg}{m:GS}{μ:La}{H:Hp}:∀ns:Li,ag K m μ H (ns.map D.int) (ns.map V.int)
 | []=>.nil
 |n::ns=>.cons bA (zK ns)
theorem zL{f:List D->ae->Res D}(g:Good f):∀vs H Q E,gu K vs H Q E->qM K mg 1 f vs H Q E:=by
 rintro vs H Q E ⟨a,N,rfl,i,j,d,q⟩;refine⟨rfl,[],[],[],[.scr (N.map D.int)],⟨λa h=>(by cases h),rfl,KQ,λn a l h=>(by cases h)⟩,.cons ?_ .nil,?_⟩
 ·unfold Rep;refine⟨a,N.map V.int,rfl,?_,zK N⟩;rcases j with(h| ⟨o,h⟩)|h
  ·rcases i a with z| ⟨o,X,z⟩<;>rw[z]at h<;>cases h
  ·exact .inl ⟨o,h⟩
  ·exact .inr h
 ·obtain⟨S,e⟩:=g N d;rw[e];intro k c b x s r;unfold Rep at r;rw[r];exact q c
theorem sR{l:PySem.W.OpenLaw}(X:K.In h)(G:h.Ns mainGlobals mg)(o:mg "law"=some (.ref fa))(good:Good jF)(D:Df K)(Z:∀x∈fu,PySem.W.nsIn K mainGlobals x=some none)
  {m:Tok} (M:PySem.W.nsIn K mainGlobals "MOST_PLACES"=some (some (.int 8 m))) {n:Tok} (p:PySem.W.nsIn K mainGlobals "FIGURES"=some (some (.str "0123456789" n))) (B:RZ.all (FX K)=HX):
  ∃fd:IP,(∀(s:HZ) (v:H8),L_ s fd ⟨[v],[]⟩ [("_law_script",v)])/\∀base:Ig,K.In base->base.Ns mainGlobals mg->cz l.prog w K mg base (bp l.prog w) 10 fa fd ["_law_script"] (gu K):=by
 have r:∀x d,G0 x=some d->∃v u,mg x=some u/\RelV v u/\∀F J H,Rep K ⟨mg,F⟩ J H d v:=λx d e=>by
  unfold G0 at e;rw[Lj]at e;split at e
  ·rename_i j;cases e;have g:x="MOST_PLACES":=by simpa using j
   subst g;exact⟨.int 8,_,PySem.W.mg_of X G M,⟨_,rfl⟩,λ_ _ _=>bA⟩
  rw[Lj]at e;split at e
  ·rename_i j;cases e;have g:x="FIGURES":=by simpa using j
   subst g;exact⟨.str "0123456789",_,PySem.W.mg_of X G p,⟨_,rfl⟩,λ_ _ _=>dj⟩
  cases e
 have y:=Zl.mp B
 have I:∀z∈RZ,XC l.prog w K mg z:=λz i=>by
  have q:=y z i;simp only[RZ,Zj,M',or_false]at i;rcases i with rfl|rfl
  ·exact sP X G q
  ·obtain⟨f,fd,a,F⟩:=D.d_law_kinds;exact mZ (e0:="_law_e") (N:=["_law_e","_law_found","_law_words"]) (a:=["NoWeb","NoPlace","NoPlaces","NoTie"]) (b:=["NoNumber","NoPairing","NoWay","NoRing"]) (c:=["NoArrows","NoSides","NoText","NoLine"]) (d:=["NoDeed","TooGreat"]) (wd:=["web","place","places","tie","number","pairing","way","ring","arrows","sides","text","line"]) (v:=["deed","great"]) X G q (by decide+kernel) F a (m6 (by decide+kernel)) (F.binds λ_ _ _ _ _ _=>b3 λ_=>rfl) rfl (by decide+kernel) rfl rfl
 have E:En l.prog w K mg h:=⟨X,G,r,λx j=>PySem.W.mg_none_of X G (Z x j),I⟩;obtain⟨f,fd,a,F⟩:=D.d_law;have e:=o.symm.trans (PySem.W.mg_of X G a);cases e;have S:bx gr ["_law_script"] (a9 (df 47)):=m6 (by decide+kernel);refine⟨fd,λs v=>?_,λbase _ _=>?_⟩
 ·obtain⟨Q,R,kV,t,T,an,C,L,O,rfl,lk,A⟩:=F.ex;exact .of_eq rfl
 ·exact cz.imp (y9 (k:=9) F S (Hn (ac (zD E D) (by decide) (ac (zE E D) (by decide) (ac (sQ E D) (by decide) (ac (zC E D) (by decide) (ac (zH E D) (by decide) (ac (zJ E D) (by decide) (ac (zI E D) (by decide) an))))))) r E.hb) rfl (by decide+kernel) λz i=>E.xc z (Z0 (Zl.mp (by decide+kernel:((d8 eK).all λz=>decide (z∈RZ))=HX) z i))) (zL good)
mutual
theorem zM{k:Nat}:∀(d:D),bP 0 d=HX->bP k d=HX
 | .non,_=>rfl
 | .bl _,_=>rfl
 | .int _,_=>rfl
 | .str _,_=>rfl
 | .tup _,h=>by exact jH _ h
 | .lst _,h=>by exact jH _ h
 | .scr _,h=>by exact jH _ h
 | .ref n,h=>by dsimp only[bP]at h;simp at h
 | .fn y,_=>rfl
 | .ty y,_=>rfl
 | .dct,_=>rfl
 | .dks _,_=>rfl
theorem jH{k:Nat}:∀(ds:List D),bt 0 ds=HX->bt k ds=HX
 | [],_=>rfl
 |d::ds,h=>by dsimp only[bt]at h⊢;simp at h⊢;exact⟨zM d h.1,jH _ h.2⟩
end
def Flat(S:ae):Prop:=∀xs∈S,bt 0 xs=HX
theorem Flat.all(h:Flat S):S.all (bt k)=HX:=Zl.mpr λx H=>jH _ (h _ H)
theorem Flat.nil:Flat []:=λ_ h=>by cases h
theorem Flat.snoc(h:Flat S)(a:bt 0 xs=HX):Flat (S++[xs]):=λy H=>by
 rcases ZK.mp H with z|z
 ·exact h _ z
 simp_all
theorem Flat.set(h:Flat S)(a:bt 0 xs=HX):Flat (S.set n xs):=λy H=>by
 rcases List.mem_or_eq_of_mem_set H with z|z
 ·exact h _ z
 simp_all
theorem Gd(h:Flat (S'.take k))(H:bP 0 d=HX):d9 k d S'=.ok d (S'.take k):=by unfold d9;rw[if_pos h.all,if_pos (zM d H)]
theorem Ge(h:Flat S)(H:bP 0 d=HX):d9 S.length d S=.ok d S:=by rw[Gd (by simp_all) H,JT]
theorem sS(a:S.length=k)(h:Flat S)(H:bP 0 d=HX):d9 k d S=.ok d S:=by subst a;exact Ge h H
theorem zN{step:D->List D->ae->Res (List D)}{S:ae}(g:D->Option D):∀(xs acc:List D),(∀x∈xs,∀acc,acc.length<a'->step x acc S=.ok (acc++(g x).toList) S)->acc.length+xs.length<=a'->aR step xs acc S=.ok (acc++xs.filterMap g) S
 | [],acc,_,_=>by simp[aR]
 |x::xs,acc,h,H=>by simp at H;simp[aR];rw[h x Ze _ (by lia)];unfold Res.bind;dsimp;rw[zN g _ _ (λy a=>h y (Zc _ a)) (by grind)];cases e:g x<;>simp[e]
theorem allO_map{l:List α}{f:α->Bool}:ba (l.map λx=>some (f x))=some (l.all f):=by
 induction l with
 |nil=>rfl
 |cons x l i=>unfold ba;simp_all
theorem zO{l:List α}{f:α->Bool}:ff (l.map λx=>some (f x))=some (l.any f):=by unfold ff;rw[I7];have e:(λo=>o.map not)∘(λx=>some _)=λx=>some !f x:=rfl;rw[e,allO_map];simp[List.not_all_eq_any_not]
noncomputable def aM(t:Int×Int):D:=.tup [.int t.1,.int t.2]
noncomputable def ak(ts:Lq):List D:=ts.map aM
noncomputable def bX(m:Int)(ts:Lq):D:=.tup [.int m,.tup (ak ts)]
theorem Bl(t:Int×Int):bP 0 (aM t)=HX:=rfl
theorem sT:∀(ts:Lq),bt 0 (ak ts)=HX
 | []=>rfl
 |t::ts=>by show(bP 0 _&&bt 0 (ak _))=HX;rw[sT _];rfl
theorem sU(m:Int)(ts:Lq):bP 0 (bX m ts)=HX:=by show(HX&&(bt 0 _&&HX))=HX;rw[sT];rfl
def aD(a b:Int×Int):Prop:=a.1<b.1\/(a.1=b.1/\a.2<b.2)
instance (a b:Int×Int):Decidable (aD a b):=by unfold aD;exact inferInstance
theorem m_(S:ae)(n:Nat)(a b:Int):bJ S (n+1) (.int a) (.int b)=some (a==b):=rfl
theorem ng(S:ae)(n:Nat)(a b:Int×Int):bJ S (n+2) (aM a) (aM b)=some (decide (a=b)):=by
 have e:bJ S (n+2) (aM a) (aM b)=some _:=rfl;simp_all
 grind
theorem nh(S:ae)(n:Nat)(a b:Int×Int):j0 S (n+2) (aM a) (aM b)=some (decide (aD a b)):=by
 have e:j0 S (n+2) (aM a) (aM b)=match bJ S _ _ _ with
  |some HX=>(match bJ S _ _ _ with
   |some HX=>some _
   |some HY=>some _
   |none=>none)
  |some HY=>some _
  |none=>none:=rfl
 simp only[e,m_];unfold aD
 grind
def bc(S:ae)(n:Nat):Prop:=∃a b,S[n]?=some [.int a,.int b]
theorem bc.set{m:Nat}{a b:Int}(h:bc S n):bc (S.set m [.int a,.int b]) n:=by
 obtain⟨x,y,h⟩:=h;by_cases e:m=n
 ·subst e;have H:=(Zm.mp h).1;exact⟨a,b,by rw[ZZ H]⟩
 ·exact⟨x,y,by rw[IF e];exact h⟩
theorem ni(o:Flat S)(c:bc S n)(H:0<m)(h1:m<1000):∃r a b,0<=r/\r<m/\dL [.ref n,.int m] S=.ok (.int r) (S.set n [.int a,.int b]):=by
 obtain⟨a,b,h⟩:=c;have j:=(Zm.mp h).1;have F:∀x y:Int,Flat (S.set n [.int x,.int y]):=λx y=>o.set rfl;have t:∀(r x y:Int),d9 S.length (.int r) (S.set n [.int x,.int y])=.ok (.int r) (S.set n [.int x,.int y]):=λr x y=>sS (by simp) (F x y) rfl;by_cases d:b=1
 ·subst d;refine⟨a%m,a/m,1,LI _ (by omega),K9 _ H,?_⟩;rw[<-t];have q:m<1073741824:=by omega
  simp[dL,aH,sH,sG,af,am,al,ah,aj,Res.bind,Res.noErr,av,bb,aA,h,dU,gD,ao,a7,bJ,sh,uo,bg,gb,gF,fc,gH,H,q]
 ·have e:(b==1)=HY:=by simpa using d
  have f:0<=(a%2147483629*48271+11)%2147483629:=LI _ (by omega);have g:(a%2147483629*48271+11)%2147483629<2147483629:=K9 _ (by omega)
  have E:∀p:Int,(a%2147483629*48271+11)%2147483629=p->dL [.ref n,.int m] S=.ok (.int ((p*p+40692*p)%2147483647/8%m)) (S.set n [.int p,.int b]):=λp c=>by
   rw[c]at f g;have k: -(18446744073709551616:Int)<p:=by omega
   have l:p<(18446744073709551616:Int):=by omega
   have s:∀x,(S.set n x)[n]?=some x:=λx=>ZZ j;have i:∀x y:List D,(S.set n x).set n y=S.set n y:=λx y=>List.set_set ..;clear j;rw[<-t];simp[dL,aH,sH,sG,af,am,al,ah,aj,Res.bind,Res.noErr,av,bb,aA,h,dU,gD,ao,a7,bJ,sh,uo,bg,gb,gF,fc,kP,fN,gH,H,e,d,s,i,c,k,l]
  exact⟨_,_,b,LI _ (show m≠0 by omega),K9 _ H,E _ rfl⟩
structure nj (m:Int)(ts:Lq):Prop where
 lo:1<=m
 hi:m<=8
 ris:ts.Pairwise aD
 tie:∀t∈ts,0<=t.1/\t.1<t.2/\t.2<m
 few:ts.length<=28
theorem aS{np:Nat}(c:ds.length=np)(h:af Φ Γ body (ds.map some++Ic (n-np) none) S=.ok (.ret d) S')(b:S'.length=S.length)(a:Flat S')(H:bP 0 d=HX):aH Φ Γ body n np ds S=.ok d S':=by unfold aH;rw[if_pos c,h];exact sS b a H
theorem run_next{np:Nat}(b:ds.length=np)(h:af Φ Γ body (ds.map some++Ic (n-np) none) S=.ok (.next ρ) S')(a:S'.length=S.length)(H:Flat S'):aH Φ Γ body n np ds S=.ok .non S':=by unfold aH;rw[if_pos b,h];exact sS a H rfl
theorem Gf(h:Flat S)(i:Int):fX [.int i] S=.ok (.bl HX) S:=aS rfl rfl rfl h rfl
theorem zP(h:Flat S)(i l H:Int):fF [.int i,.int l,.int H] S=.ok (.bl (decide (l<=i/\i<=H))) S:=by refine aS rfl ?_ rfl h rfl;simp[mC,af,am,ah,aj,Res.bind,Res.noErr,av,ss,Gf h,ao,A_];lia
theorem Gg(h:Flat S)(m i:Int):mE [.int m,.int i] S=.ok (.bl (decide (0<=i/\i<m))) S:=by refine aS rfl ?_ rfl h rfl;have e:(i<=m-1)=(i<m):=propext (by lia);simp[mD,af,am,ah,aj,Res.bind,Res.noErr,zb,zP h,gb,ix,e]
theorem Gh(xs:List D):cM xs (some 1) none=xs.drop 1:=by
 unfold cM;have e:HT.bn xs.length 0 (some 1)=min 1 _:=rfl;have E:HT.bn xs.length _ none=xs.length:=rfl;rw[e,E];cases xs with
 |nil=>rfl
 |cons x r=>simp
theorem zQ{b:Type}{f e:b->D}{p:b->Bool}{step:D->List D->ae->Res (List D)}{S:ae}:∀(xs:List b) (acc:List D),(∀x∈xs,∀acc,acc.length<a'->step (f x) acc S=.ok (if p x=HX then acc++[e x]else acc) S)->acc.length+xs.length<=a'->aR step (xs.map f) acc S=.ok (acc++(xs.filter p).map e) S
 | [],acc,_,_=>by simp[aR]
 |x::xs,acc,h,c=>by
  simp[aR];unfold Res.bind;have i:=λa=>zQ _ a λy H=>h y (Zc _ H)
  grind
theorem zR{f e:α->D}{p:α->Bool}{step:D->List D->ae->Res (List D)}{xs:List α}(h:∀x∈xs,∀acc,acc.length<a'->step (f x) acc S=.ok (if p x=HX then acc++[e x]else acc) S)(H:xs.length<=a'):aR step (xs.map f) [] S=.ok ((xs.filter p).map e) S:=by rw[zQ xs [] h (by simpa using H)];simp
theorem bH{c:CS}(h:am Φ Γ c ρ S=.ok (.next ρ') S'):af Φ Γ (c::cs) ρ S=af Φ Γ cs ρ' S':=by rw[af,h];rfl
theorem cI{c:CS}(h:am Φ Γ c ρ S=.ok (.ret d) S'):af Φ Γ (c::cs) ρ S=.ok (.ret d) S':=by rw[af,h];rfl
theorem hO{t:CT}{it:CE}{i:gJ}(h:aU Φ Γ it ρ S=.ok i S1):am Φ Γ (.for_ t it body) ρ S=ln (λx ρ S=>match aQ t x ρ with
   |some ρ'=>af Φ Γ body ρ' S
   |none=>.fail) i ρ S1:=by
 rw[am,h];rfl
theorem b4{i:Nat}{e:CE}(h:ah Φ Γ e ρ S=.ok d S'):af Φ Γ (.asg i e::cs) ρ S=af Φ Γ cs (ρ.set i (some d)) S':=
 bH (by rw[am,h];rfl)
noncomputable def cw(l:Int):Nat->Li
 |0=>[]
 |n+1=>l::cw (l+1) n
theorem nk(l:Int)(n:Nat):cW l n=(cw l n).map D.int:=by
 induction n generalizing l with
 |zero=>rfl
 |succ n i=>unfold cW cw;rw[i];rfl
theorem Gi{l x:Int}:x∈cw l n->l<=x/\x<l+n:=by
 induction n generalizing l with
 |zero=>intro h;cases h
 |succ n i=>
  intro h;unfold cw at h;rcases Zj.mp h with rfl|h
  ·omega
  ·have:=i h;omega
theorem sV{l:Int}:(cw l n).length=n:=by
 induction n generalizing l with
 |zero=>rfl
 |succ n i=>unfold cw;simp[i]
theorem Gj(c:Flat S)(n:Nat)(i:Int):bq (n+1) [.int i,.int i] S=.ok (.bl HX) S:=by
 refine aS rfl ?_ rfl c rfl;have h:bS [.int i,.ty "bool"] S=.ok (.bl HY) S:=rfl;have H:bS [.int i,.ty "int"] S=.ok (.bl HX) S:=rfl
 have a:ao .Eq (.int i) (.int i) S=.ok (.bl HX) S:=by have:ao .Eq (.int i) (.int i) S=.ok (.bl (i==i)) S:=rfl;rw[this];simp
 have b:ao .Is (.int i) .non S=.ok (.bl HY) S:=rfl;simp[ee,dJ,af,am,al,ah,aj,Res.bind,Res.noErr,av,aJ,h,H,a,b,aY]
noncomputable def insI(x:Int×Int):Lq->Lq
 | []=>[x]
 |y::ys=>if aD x y then x::y::ys else y::insI x ys
noncomputable def sortI(l:Lq):Lq:=l.foldl (λacc x=>insI x acc) []
theorem nq(a b:Int×Int):bG (.seq .int) (aM a) (aM b)=decide (aD a b):=by
 have e:bG (.seq .int) (aM a) (aM b)=(if decide (a.1<b.1)=HX then HX else if decide (b.1<a.1)=HX then HY else if decide (a.2<b.2)=HX then HX else if decide (b.2<a.2)=HX then HY else HY):=rfl;rw[e];simp only[decide_eq_true_eq];by_cases h:aD a b
 ·rw[ZO h];unfold aD at h
  repeat' split
  all_goals first|rfl|omega
 ·rw[Zx h];unfold aD at h
  repeat' split
  all_goals first|rfl|omega
theorem zS(x:Int×Int):∀l:Lq,dn (bG (.seq .int)) (aM x) (ak l)=ak (insI x l)
 | []=>rfl
 |y::Y=>by
  show(if bG _ _ _=HX then aM x::aM y::ak _ else aM y::dn _ _ (ak _))=ak _;have e:insI x (y::Y)=if aD x y then x::y::Y else y::insI x _:=rfl;rw[nq,zS x _,e];by_cases h:aD x y
  ·rw[ZO h,if_pos h];rfl
  ·rw[Zx h,if_neg h];rfl
theorem zT:∀(l acc:Lq),(ak l).foldl (λacc x=>dn (bG (.seq .int)) x acc) (ak acc)=ak (l.foldl (λacc x=>insI x acc) acc)
 | [],acc=>rfl
 |x::l,acc=>by show(ak l).foldl _ (dn _ _ _)=_;rw[zS,zT l];rfl
theorem zU(l:Lq):dX (bG (.seq .int)) (ak l)=ak (sortI l):=zT l []
theorem nr(x:Int×Int):∀l,(insI x l).Perm (x::l)
 | []=>.refl _
 |y::Y=>by
  unfold insI;split
  ·exact .refl _
  ·exact((nr x _).cons y).trans (.swap x y _)
theorem zV:∀(l acc:Lq),(l.foldl (λacc x=>insI x acc) acc).Perm (l++acc)
 | [],acc=>.refl _
 |x::l,acc=>by exact(zV l _).trans (((nr x _).append_left l).trans JS)
theorem sW(l:Lq):(sortI l).Perm l:=by have:=zV l [];rw[KA]at this;exact this
theorem lex_tot{x y:Int×Int}(h:¬aD x y)(n:x≠y):aD y x:=by
 unfold aD at h⊢
 grind
theorem zW{x y z:Int×Int}(a:aD x y)(b:aD y z):aD x z:=by unfold aD at*;omega
theorem zX(x:Int×Int):∀l,l.Pairwise aD->x∉l->(insI x l).Pairwise aD
 | [],_,_=>List.pairwise_singleton _ _
 |y::Y,h,n=>by
  obtain⟨a,b⟩:=ZV.mp h;unfold insI;by_cases e:aD x y
  ·rw[if_pos e];refine ZV.mpr ⟨λz H=>?_,h⟩;rcases Zj.mp H with rfl|H
   ·exact e
   ·exact zW e (a z H)
  ·rw[if_neg e];refine ZV.mpr ⟨λz H=>?_,zX x Y b λz=>n (Zc _ z)⟩;rcases Zj.mp ((nr x Y).mem_iff.mp H)with rfl|H
   ·exact lex_tot e λz=>n (by subst z;exact Ze)
   ·exact a z H
theorem zY:∀(l acc:Lq),acc.Pairwise aD->(l++acc).Nodup->(l.foldl (λacc x=>insI x acc) acc).Pairwise aD
 | [],acc,h,_=>h
 |x::l,acc,h,n=>by have N:=n;obtain⟨a,b⟩:=IX.mp N;exact zY l _ (zX x _ h λz=>a (Zz _ z)) ((((nr x _).append_left l).trans JS).nodup_iff.mpr N)
theorem zZ{l:Lq}(h:l.Nodup):(sortI l).Pairwise aD:=zY l _ .nil (by simp_all)
theorem Gk{l:Lq}(H:aA S d=some (ak l))(b:l.length<64):iK HY (.seq .int) [d] S=.ok (.lst (ak (sortI l))) S:=by
 have e:(ak l).all (ar (.seq .int))=HX:=by rw[Zl];intro x h;obtain⟨t,_,rfl⟩:=Zo.mp h;rfl
 have E:fm (.seq .int) (ak l)=HX:=by
  have:((ak l).all λd=> !er d)=HX:=by rw[Zl];intro x h;obtain⟨t,_,rfl⟩:=Zo.mp h;rfl
  show(HX&&((ak l).all λd=> !er d))=HX;rw[this];rfl
 have a:(ak l).length<64:=by unfold ak;rw[Zk];omega
 unfold iK;simp only[H];rw[if_pos ⟨e,a,E⟩,zU];rfl
theorem sX{l:Lq}(h1:1<=m)(h:m<=8)(a:l.Nodup)(c:∀t∈l,0<=t.1/\t.1<t.2/\t.2<m)(H:l.length<=28):nj m (sortI l):=
 ⟨h1,h,zZ a,λt b=>c t ((sW l).mem_iff.mp b),by rw[(sW l).length_eq];exact H⟩
noncomputable def hU(m:Nat):Lq:=(cw 0 m).flatMap λi=>(cw (i+1) (m-1-i.toNat)).map λj=>(i,j)
theorem pj(h1:1<=m)(h:m<=8):m=1\/m=2\/m=3\/m=4\/m=5\/m=6\/m=7\/m=8:=by omega
theorem Gm(h1:1<=m)(h:m<=8):af zp G0 zo ([D.int m].map some++Ic (zn.length-1) none) S=.ok (.ret (.lst (ak (hU m.toNat)))) S:=by rcases pj h1 h with rfl|rfl|rfl|rfl|rfl|rfl|rfl|rfl<;>rfl
theorem z0(H:Flat S)(h1:1<=m)(h:m<=8):mQ [.int m] S=.ok (.lst (ak (hU m.toNat))) S:=
 aS rfl (Gm h1 h) rfl H (sT _)
theorem Gn(h1:1<=m)(h:m<=8):nj m (hU m.toNat):=by rcases pj h1 h with rfl|rfl|rfl|rfl|rfl|rfl|rfl|rfl<;>exact⟨by omega,by omega,by decide+kernel,by decide+kernel,by decide+kernel⟩
theorem z7{u:Lq}(W:nj m ts)(h:u.Sublist ts):nj m u:=
 ⟨W.lo,W.hi,W.ris.sublist h,λt H=>W.tie t (h.subset H),Zv h.length_le W.few⟩
def Drawn(n:Nat)(S S':ae):Prop:=∃a b:Int,S'=S.set n [.int a,.int b]
theorem Drawn.refl(h:bc S n):Drawn n S S:=by obtain⟨a,b,h⟩:=h;obtain⟨H,e⟩:=Zm.mp h;exact⟨a,b,by rw[<-e,List.set_getElem_self]⟩
theorem Drawn.trans(a:Drawn n S S1)(b:Drawn n S1 S2):Drawn n S S2:=by obtain⟨x,y,rfl⟩:=a;obtain⟨z,w,rfl⟩:=b;exact⟨z,w,by rw[List.set_set]⟩
theorem Drawn.flat(h:Drawn n S S')(H:Flat S):Flat S':=by obtain⟨a,b,rfl⟩:=h;exact H.set rfl
theorem Drawn.pen(h:Drawn n S S')(H:bc S n):bc S' n:=by obtain⟨a,b,rfl⟩:=h;exact H.set
theorem Drawn.len(h:Drawn n S S'):S'.length=S.length:=by obtain⟨a,b,rfl⟩:=h;simp
theorem f8(H:Flat S)(c:bc S n)(h:0<m)(h1:m<1000):∃r S',0<=r/\r<m/\Drawn n S S'/\dL [.ref n,.int m] S=.ok (.int r) S':=by obtain⟨r,a,b,x,y,e⟩:=ni H c h h1;exact⟨r,_,x,y,⟨a,b,rfl⟩,e⟩
theorem sY{n:Nat}{step:D->List D->ae->Res (List D)}{f:Int×Int->D}:∀(ts:Lq) (acc:List D) (S:ae),Flat S->bc S n->acc.length+ts.length<=1000->
  (∀t∈ts,∀acc S,Flat S->bc S n->acc.length<=1000->∃k S',Drawn n S S'/\step (f t) acc S=.ok (if k=HX then acc++[f t]else acc) S')->
  ∃(us:Lq) (S':ae),us.Sublist ts/\Drawn n S S'/\aR step (ts.map f) acc S=.ok (acc++us.map f) S'
 | [],acc,S,b,H,_,_=>⟨[],S,.slnil,.refl H,by simp[aR]⟩
 |t::ts,acc,S,b,H,i,h=>by
  simp only[Zp]at i;obtain⟨k,a,d1,g⟩:=h t Ze acc S b H (by lia);rw[ZH];unfold aR;rw[g];cases k with
  |true=>obtain⟨us,c,s,d,E⟩:=sY ts (acc++[f t]) a (d1.flat b) (d1.pen H) (by grind) λu e=>h u (Zc _ e);exact⟨t::us,c,s.cons_cons t,d1.trans d,by show aR step (ts.map f) (acc++[f t]) a=_;simp_all⟩
  |false=>obtain⟨us,c,s,d,E⟩:=sY ts acc a (d1.flat b) (d1.pen H) (by lia) λu e=>h u (Zc _ e);exact⟨us,c,s.cons t,d1.trans d,by show aR step (ts.map f) acc a=_;rw[E]⟩
theorem z8{n:Nat}{step:D->List D->ae->Res (List D)}:∀(k:Nat) (lo:Int) (acc:List D) (S:ae),1<=lo->lo+k<=100->Flat S->bc S n->acc.length+k<=1000->
  (∀p:Int,1<=p->p<100->∀acc S,Flat S->bc S n->acc.length<=1000->∃r S',0<=r/\r<p/\Drawn n S S'/\step (.int p) acc S=.ok (acc++[aM (r,p)]) S')->
  ∃(us:Lq) (S':ae),us.map (·.2)=cw lo k/\(∀t∈us,0<=t.1/\t.1<t.2/\lo<=t.2/\t.2<lo+k)/\Drawn n S S'/\aR step ((cw lo k).map D.int) acc S=.ok (acc++ak us) S'
 |0,lo,acc,S,_,_,a,H,_,_=>⟨[],S,rfl,λt h=>(by cases h),.refl H,by simp[aR,cw,ak]⟩
 |k+1,lo,acc,S,g,i,a,H,j,h=>by
  obtain⟨r,c,R,l,d1,E⟩:=h lo g (by omega) acc S a H (by omega);obtain⟨us,d,s,v,e,f⟩:=z8 k (lo+1) (acc++[aM (r,lo)]) c (by omega) (by omega) (d1.flat a) (d1.pen H) (by simp;omega) h;refine⟨(r,lo)::us,d,?_,λt b=>?_,d1.trans e,?_⟩
  ·simp_all;rfl
  ·rcases Zj.mp b with rfl|b
   ·dsimp only;omega
   ·have:=v t b;omega
  ·show aR step (D.int lo::(cw (lo+1) k).map D.int) acc S=_;unfold aR;rw[E];show aR step _ (acc++[aM (r,lo)]) c=_;rw[f];simp[ak]
theorem Gp{l:Int}:(cw l n).Nodup:=by
 induction n generalizing l with
 |zero=>exact KQ
 |succ n i=>refine IX.mpr ⟨λh=>?_,i⟩;have:=Gi h;omega
theorem jI{c:CE}{a b:List CS}{k:Bool}(h:al Φ Γ c ρ S=.ok k S1):am Φ Γ (.ite c a b) ρ S=if k=HX then af Φ Γ a ρ S1 else af Φ Γ b ρ S1:=by rw[am,h];rfl
theorem hV{t:CT}{it:CE}{i:List CE}{body:CE}{a:ae}{I:gJ}{ys:List D}(h:aU Φ Γ it ρ S=.ok I S1)
  (H:dy (λx acc S2=>match br t x (fr.map λj=>j.bind λj=>(ρ[j]?).join)with
    |some ρ'=>(aV Φ Γ i ρ' S2).bind λk S3=>if k=HX then bN Φ Γ body ρ' acc S3 else .ok acc S3
    |none=>.fail) I [] S1=.ok ys a):ah Φ Γ (.comp HY N fr t it i body) ρ S=.ok (.lst ys) a:=by
 rw[ah,h];exact Eq.trans (congrArg (λr=>Res.bind (Res.noErr r) (λys a=>if HY=HX then Res.ok (D.ref a.length) (a++[ys])else Res.ok (.lst ys) a)) H) rfl
section
variable {S3:ae}{d2 r x y:D}{e a b:CE}
theorem aE{i:Nat}(h:ρ[i]?=some (some d)):ah Φ Γ (.var i) ρ S=.ok d S:=by rw[ah,h]
theorem sZ{k:ia}(h:ah Φ Γ e ρ S=.ok d S1)(H:aJ k [d] S1=.ok r S2):ah Φ Γ (.blt k [e]) ρ S=.ok r S2:=by simp[ah,aj,h,Res.bind,H,Res.noErr]
theorem z9(h1:ah Φ Γ a ρ S=.ok x S1)(h:ah Φ Γ b ρ S1=.ok y S2):ah Φ Γ (.tup [a,b]) ρ S=.ok (.tup [x,y]) S2:=by simp[ah,aj,h1,h,Res.bind]
theorem s9{f:Str}(H:Φ f=some φ)(h1:ah Φ Γ a ρ S=.ok x S1)(h:φ [x] S1=.ok r S2):ah Φ Γ (.call f [a]) ρ S=.ok r S2:=by simp[ah,aj,H,h1,h,Res.bind]
theorem Gq{f:Str}(c:Φ f=some φ)(h1:ah Φ Γ a ρ S=.ok x S1)(H:ah Φ Γ b ρ S1=.ok y S2)(h:φ [x,y] S2=.ok r S3):ah Φ Γ (.call f [a,b]) ρ S=.ok r S3:=by simp[ah,aj,c,h1,H,h,Res.bind]
theorem fI(h:ah Φ Γ e ρ S=.ok d S1):am Φ Γ (.ret e) ρ S=.ok (.ret d) S1:=by rw[am,h];rfl
end
theorem hX{w k j:Int}(a:ρ[2]?=some (some (.int m)))(b:ρ[3]?=some (some (.int w))):al Φ Γ (.band (.cmp .Eq (.var 3) (.lit (.int k))) (.cmp .Gt (.var 2) (.lit (.int j)))) ρ S=.ok (decide (w=k/\j<m)) S:=by
 have e:ao .Eq (.int w) (.int k) S=.ok (.bl (w==k)) S:=rfl;have E:ao .Gt (.int m) (.int j) S=.ok (.bl (decide (j<m))) S:=rfl;by_cases h:w=k
 ·subst h;have H:(w==w)=HX:=by simp
  rw[H]at e;simp[al,ah,Res.bind,Res.noErr,av,a,b,e,E]
 ·have H:(w==k)=HY:=by simpa using h
  rw[H]at e;simp[al,ah,Res.bind,Res.noErr,av,a,b,e,E,h]
theorem z_{w k:Int}(h:ρ[3]?=some (some (.int w))):al Φ Γ (.cmp .Eq (.var 3) (.lit (.int k))) ρ S=.ok (decide (w=k)) S:=by have e:ao .Eq (.int w) (.int k) S=.ok (.bl (w==k)) S:=rfl;have E:(w==k)=decide (w=k):=rfl;simp[al,ah,Res.bind,Res.noErr,av,h,e,E]
theorem nu{c:CE}{a:List CS}{P:Prop} [Decidable P] (h:al Φ Γ c ρ S=.ok (decide P) S)(H:¬P):af Φ Γ (.ite c a []::cs) ρ S=af Φ Γ cs ρ S:=
 bH (by rw[jI h,Zx H,if_neg IT,af])
theorem nv{c:CE}{a:List CS}{P:Prop} [Decidable P] (h:al Φ Γ c ρ S=.ok (decide P) S)(b:P)(H:af Φ Γ a ρ S=.ok (.ret d) S'):af Φ Γ (.ite c a []::cs) ρ S=.ok (.ret d) S':=
 cI (by rw[jI h,ZO b,if_pos rfl,H])
theorem Gr{r:Int}(h:0<=r)(h1:r<12):∃v,0<=v/\v<8/\bb (.lst [.int 0,.int 0,.int 1,.int 0,.int 2,.int 1,.int 3,.int 4,.int 5,.int 6,.int 7,.int 0]) (.int r) S=.ok (.int v) S:=by
 have:r=0\/r=1\/r=2\/r=3\/r=4\/r=5\/r=6\/r=7\/r=8\/r=9\/r=10\/r=11:=by lia
 rcases this with rfl|rfl|rfl|rfl|rfl|rfl|rfl|rfl|rfl|rfl|rfl|rfl<;>exact⟨_,by simp,by simp,rfl⟩
theorem Gs{r:Int}(h:0<=r)(h1:r<5):∃v:Int,bb (.lst [.int 2,.int 3,.int 4,.int 6,.int 8]) (.int r) S=.ok (.int v) S:=by
 have:r=0\/r=1\/r=2\/r=3\/r=4:=by lia
 rcases this with rfl|rfl|rfl|rfl|rfl<;>exact⟨_,rfl⟩
noncomputable def Aa(m:Nat):Lq:=(cw 0 (m-1)).map (λk=>(k,k+1))++[(0,(m:Int)-1)]
noncomputable def s_(m:Nat):Lq:=[(0,1),(0,2),(1,2)]++((cw 3 (m-4)).map (λk=>(k,k+1))++[(3,(m:Int)-1),(2,3)])
theorem tf(C:Flat S)(E:bc S n):∃m ts S',nj m ts/\Drawn n S S'/\hJ [.ref n,.int 8] S=.ok (bX m ts) S':=by
 suffices h:∃m ts S',nj m ts/\Drawn n S S'/\af dM G0 sI [some (.ref n),some (.int 8),none,none,none,none,none] S=.ok (.ret (bX m ts)) S' by obtain⟨m,ts,S',W,d,e⟩:=h;exact⟨m,ts,S',W,d,aS rfl e d.len (d.flat C) (sU m ts)⟩
 obtain⟨r,V,R,N,d1,e1⟩:=f8 C E (m:=12) (by decide) (by decide);have G:=d1.flat C;have I:=d1.pen E;obtain⟨v,v0,v1,ev⟩:=Gr (S:=V) R N;obtain⟨w,b,w0,w1,O,e2⟩:=f8 G I (m:=9) (by decide) (by decide);have H:=O.flat G;have j:=O.pen I;have D:=d1.trans O;have hm:∃m:Int,1<=m/\m<=8/\1+8-1-v%8=m:=⟨8-v,by omega,by omega,by omega⟩;obtain⟨m,M,L,em⟩:=hm;unfold sI
 rw[b4 (d:=.int m) (S':=V) (by simp[ah,aj,Res.bind,Res.noErr,hI,e1,ev,gb,fN,ix,gF];omega)];rw[b4 (d:=.int w) (S':=b) (by simp[ah,aj,Res.bind,Res.noErr,hI,e2])];simp only[MO,MP];by_cases Z:w=0/\2<m
 ·refine⟨m,sortI (Aa m.toNat),b,?_,D,?_⟩
  ·have:m=3\/m=4\/m=5\/m=6\/m=7\/m=8:=by omega
   rcases this with rfl|rfl|rfl|rfl|rfl|rfl<;>exact sX (by decide) (by decide) (by decide+kernel) (by decide+kernel) (by decide+kernel)
  ·refine nv (hX rfl rfl) Z ?_;have:m=3\/m=4\/m=5\/m=6\/m=7\/m=8:=by omega
   rcases this with rfl|rfl|rfl|rfl|rfl|rfl<;>rfl
 rw[nu (hX rfl rfl) Z];by_cases c2:w=1/\5<m
 ·refine⟨m,sortI (s_ m.toNat),b,?_,D,?_⟩
  ·have:m=6\/m=7\/m=8:=by omega
   rcases this with rfl|rfl|rfl<;>exact sX (by decide) (by decide) (by decide+kernel) (by decide+kernel) (by decide+kernel)
  ·refine nv (hX rfl rfl) c2 ?_;have:m=6\/m=7\/m=8:=by omega
   rcases this with rfl|rfl|rfl<;>rfl
 rw[nu (hX rfl rfl) c2];have s:=Gn M L;by_cases c3:w=2/\2<m
 ·obtain⟨q,a,q0,q1,B,F⟩:=f8 H j (m:=2) (by decide) (by decide);have i:=B.flat H;refine⟨m,(hU m.toNat).filter (λt=>decide (t.1<1+q/\1+q<=t.2)),a,z7 s List.filter_sublist,D.trans B,?_⟩;refine nv (hX rfl rfl) c3 ?_;rw[b4 (d:=.int (1+q)) (S':=a) (by simp[ah,aj,Res.bind,Res.noErr,hI,F,gb,fN])];refine cI ?_;simp[am,ah,aj,aU,Res.bind,Res.noErr,av,aJ,dy,zq,z0 i M L,fS];unfold ak;rw[zR (f:=aM) (e:=aM) (p:=λt=>decide (t.1<1+q/\1+q<=t.2))]
  ·simp[Res.noErr,kW,aA,bX,ak]
  ·intro t U A P;have c:A.length<16777216:=P;have x0:bb (aM t) (.int 0) a=.ok (.int t.1) a:=rfl;have x1:bb (aM t) (.int 1) a=.ok (.int t.2) a:=rfl;have X:ao .Lt (.int t.1) (.int (1+q)) a=.ok (.bl (decide (t.1<1+q))) a:=rfl;have x3:ao .LtE (.int (1+q)) (.int t.2) a=.ok (.bl (decide (1+q<=t.2))) a:=rfl;by_cases y1:t.1<1+q<;>by_cases y2:1+q<=t.2<;>simp[br,dw,slots,fk,aQ,cj,aV,al,bN,ah,Res.bind,Res.noErr,av,x0,x1,X,x3,y1,y2,c]
  ·have:=s.few;unfold a';omega
 rw[nu (hX rfl rfl) c3];by_cases c4:w=3
 ·obtain⟨u,a,s3,v3,B,F⟩:=z8 (n:=n) (step:=λx A b=>match br (.var 0) x [none,some (.ref n)]with
    |some g=>(aV dM G0 [] g b).bind λk a=>if k=HX then bN dM G0 (.emit (.tup [.call "_law_draw" [.var 1,.var 0],.var 0])) g A a else .ok A a
    |none=>.fail) (m-1).toNat 1 [] b (by decide) (by omega) H j (by simp;omega) (λp p0 p1 A S C E P=>by
     obtain⟨r,S',R,N,d,e⟩:=f8 C E (m:=p) (by omega) (by omega);refine⟨r,S',R,N,d,?_⟩;have c:A.length<16777216:=by omega
     simp[br,dw,slots,fk,aQ,cj,aV,bN,ah,aj,Res.bind,hI,e,aM,c])
  have hl:u.length=(m-1).toNat:=by have:=congrArg KN s3;simpa[sV]using this
  have hn:u.Nodup:=by
   have h:(u.map (·.2)).Nodup:=by rw[s3];exact Gp
   exact(JH.mp h).imp λz e=>z (by rw[e])
  refine⟨m,sortI u,a,sX M L hn (λt U=>by have:=v3 t U;omega) (by omega),D.trans B,?_⟩;refine nv (z_ rfl) c4 (cI ?_);have K:aU dM G0 (.range [.lit (.int 1),.var 2]) [some (.ref n),some (.int 8),some (.int m),some (.int w),none,none,none] b=.ok (.items (cW 1 (m-1).toNat)) b:=by simp[aU,aj,ah,Res.bind];omega
  have Q:ah dM G0 (.comp HY ["_law_place","_law_pen_here"] [none,some 0] (.var 0) (.range [.lit (.int 1),.var 2]) [] (.emit (.tup [.call "_law_draw" [.var 1,.var 0],.var 0]))) [some (.ref n),some (.int 8),some (.int m),some (.int w),none,none,none] b=.ok (.lst (ak u)) a:=by rw[nk]at K;exact hV K F
  have J:=Gk (S:=a) (d:=.lst (ak u)) (l:=u) rfl (by omega);exact fI (z9 (aE rfl) (sZ (sZ Q J) rfl))
 rw[nu (z_ rfl) c4];obtain⟨q,a,q0,q1,B,F⟩:=f8 H j (m:=5) (by decide) (by decide);have i:=B.flat H;have T:=B.pen j;obtain⟨o,eo⟩:=Gs (S:=a) q0 q1;rw[b4 (d:=.int o) (S':=a) (by simp[ah,aj,Res.bind,Res.noErr,hI,F,eo])];simp only[MO,MP]
 obtain⟨u,Y,s4,d4,e4⟩:=sY (n:=n) (f:=aM) (step:=λx A b=>match br (.var 0) x [none,some (.ref n),some (.int o)]with
    |some g=>(aV dM G0 [.cmp .Lt (.call "_law_draw" [.var 1,.lit (.int 8)]) (.var 2)] g b).bind λk a=>if k=HX then bN dM G0 (.emit (.var 0)) g A a else .ok A a
    |none=>.fail) (hU m.toNat) [] a i T (by have:=s.few;simp;omega) (λt U A S C E P=>by
     obtain⟨r,S',R,N,d,e⟩:=f8 C E (m:=8) (by decide) (by decide);refine⟨decide (r<o),S',d,?_⟩;have X:ao .Lt (.int r) (.int o) S'=.ok (.bl (decide (r<o))) S':=rfl;have c:A.length<16777216:=by omega
     by_cases y:r<o<;>simp[br,dw,slots,fk,aQ,cj,aV,al,bN,ah,aj,Res.bind,Res.noErr,av,hI,e,X,y,c])
 refine⟨m,u,Y,z7 s s4,(D.trans B).trans d4,cI ?_⟩
 have Q:ah dM G0 (.comp HY ["_law_tie","_law_pen_here","_law_often"] [none,some 0,some 6] (.var 0) (.seq (.call "_law_pairs" [.var 2])) [.cmp .Lt (.call "_law_draw" [.var 1,.lit (.int 8)]) (.var 2)] (.emit (.var 0))) [some (.ref n),some (.int 8),some (.int m),some (.int w),none,none,some (.int o)] a=.ok (.lst (ak u)) Y:=by
  have K:aU dM G0 (.seq (.call "_law_pairs" [.var 2])) [some (.ref n),some (.int 8),some (.int m),some (.int w),none,none,some (.int o)] a=.ok (.items ((hU m.toNat).map aM)) a:=by simp[aU,aj,ah,Res.bind,zq,z0 i M L,fS,ak]
  exact hV K e4
 exact fI (z9 (aE rfl) (sZ Q rfl))
section
variable {A B:List D}
end
noncomputable def Kn(d:D):Prop:=(∃i,d=.int i)\/(∃b,d=.bl b)\/(∃x,d=.str x)\/d=.non\/(∃xs,d=.tup xs)\/∃xs,d=.lst xs
noncomputable def nw:D->Bool
 | .int _=>HX
 |_=>HY
noncomputable def ny(m:Int):D->Bool
 | .int i=>decide (0<=i/\i<m)
 |_=>HY
theorem nz(H:Flat S)(h:Kn d):fX [d] S=.ok (.bl (nw d)) S:=by
 refine aS rfl ?_ rfl H rfl;rcases h with⟨i,rfl⟩| ⟨b,rfl⟩| ⟨x,rfl⟩|rfl| ⟨X,rfl⟩| ⟨X,rfl⟩
 ·rfl
 ·rfl
 ·rfl
 ·rfl
 ·rfl
 rfl
theorem Kn.isI_or(h:Kn d):(∃i,d=.int i)\/(nw d=HY/\∀m,ny m d=HY):=by
 rcases h with h| ⟨b,rfl⟩| ⟨x,rfl⟩|rfl| ⟨X,rfl⟩| ⟨X,rfl⟩
 ·exact .inl h
 all_goals exact .inr ⟨rfl,λ_=>rfl⟩
theorem Gu(H:Flat S)(m:Int)(h:Kn d):mE [.int m,d] S=.ok (.bl (ny m d)) S:=by
 rcases h.isI_or with⟨i,rfl⟩| ⟨a,e⟩
 ·exact K91.Gg H m i
 ·rw[e m];have b:=nz H h;rw[a]at b
  have c:∀l a:Int,fF [d,.int l,.int a] S=.ok (.bl HY) S:=λl a=>by refine aS rfl ?_ rfl H rfl;simp[mC,af,am,ah,aj,Res.bind,av,ss,b]
  refine aS rfl ?_ rfl H rfl;show af su G0 mD [some (.int m),some d] S=_;have f:gb .Sub (.int m) (.int 1) S=.ok (.int (m-1)) S:=rfl;simp only[mD,af,am,ah,aj,Res.bind,Res.noErr,zb,c,f,Zn,ZB]
theorem ti{f:D->Bool}:kZ [.lst (ds.map λd=>.bl (f d))] S=.ok (.bl (ds.all f)) S:=by show a7 (ba ((ds.map λd=>D.bl (f d)).map h_)) S=_;rw[I7];have:ba (ds.map (h_∘λd=>D.bl (f d)))=some (ds.all f):=allO_map;rw[this];rfl
theorem tj{step:D->List D->ae->Res (List D)}(f:D->Bool)(h:∀x∈xs,∀acc,acc.length<a'->step x acc S=.ok (acc++[.bl (f x)]) S)(a:xs.length<=a'):aR step xs [] S=.ok (xs.map λx=>D.bl (f x)) S:=by rw[zN (λx=>some (.bl (f x))) xs [] (λx b acc H=>h x b acc H) (by simpa using a)];simp
theorem tm{e:CE}{rs:List (Option D)}{it:CE}{f:D->Bool}(i:aU Φ G0 it ρ S=.ok (.items ds) S)(k:fr.map (λj=>j.bind λj=>(ρ[j]?).join)=none::rs)(l:ds.length<=1000)(g:∀d∈ds,ah Φ G0 e (some d::rs) S=.ok (.bl (f d)) S):
  ah Φ G0 (.comp HY N fr (.var 0) it [] (.emit e)) ρ S=.ok (.lst (ds.map λd=>.bl (f d))) S:=by
 refine hV i ?_;rw[k];refine tj f (λd c a b=>?_) (show ds.length<=16777216 by lia);have h:a.length<16777216:=b;have H:br (.var 0) d (none::rs)=some (some d::rs):=rfl;rw[H];simp[aV,bN,Res.bind,g d c,h]
theorem tq{i:Nat}(h:ρ[i]?=some (some (.tup ds))):aU Φ G0 (.seq (.var i)) ρ S=.ok (.items ds) S:=by simp[aU,ah,h,Res.bind,fS]
theorem tr{e:CE}{f:D->Bool}(h:ah Φ G0 e ρ S=.ok (.lst (ds.map λd=>.bl (f d))) S):ah Φ G0 (.blt .all [e]) ρ S=.ok (.bl (ds.all f)) S:=by have H:aJ .all [.lst (ds.map λd=>D.bl (f d))] S=.ok (.bl (ds.all f)) S:=ti;simp only[ah,aj,h,Res.bind,H,Res.noErr]
theorem Ab:mF=[.ret (.band (.blt .isinst [.var 1,.ty "tuple"]) (.blt .all [E7]))]:=rfl
theorem tt(a:Flat S)(m:Int)(h:∀x∈xs,Kn x)(j:xs.length<=1000):fY [.int m,.tup xs] S=.ok (.bl (xs.all (ny m))) S:=by
 refine aS rfl ?_ rfl a rfl;show af js G0 mF [some (.int m),some (.tup xs)] S=_;have g:aJ .isinst [.tup xs,.ty "tuple"] S=.ok (.bl HX) S:=rfl
 have b:=tr (S:=S) (tm (S:=S) (Φ:=js) (N:=["place","many"]) (fr:=[none,some 0]) (e:=.call "is_place" [.var 1,.var 0]) (ρ:=[some (.int m),some (.tup xs)]) (rs:=[some (.int m)]) (f:=ny m) (tq (i:=1) rfl) rfl j λd c=>by have l:=Gu a m (h d c);trivial);simp only[Ab];refine cI ?_;generalize k:(CE.blt ia.all [E7])=q;have H:ah js G0 q [some (.int m),some (.tup xs)] S=.ok (.bl (xs.all (ny m))) S:=k▸b;simp only[am,ah,aj,Res.bind,Res.noErr,g,av,H,Zn,ZB,if_true]
def NT(d:D):Prop:=∀S,bS [d,.ty "tuple"] S=.ok (.bl HY) S
theorem Gv(H:Flat S)(m:Int)(h:NT d):fY [.int m,d] S=.ok (.bl HY) S:=by refine aS rfl ?_ rfl H rfl;show af js G0 mF [some (.int m),some d] S=_;have a:aJ .isinst [d,.ty "tuple"] S=.ok (.bl HY) S:=h S;simp only[Ab];refine cI ?_;simp only[am,ah,aj,Res.bind,Res.noErr,a,av,Zn,ZB,ZQ,if_false]
theorem nA(H:Flat S)(h:fY [.int m,d] S=.ok (.bl HY) S):fZ [.int m,d] S=.ok (.bl HY) S:=by refine aS rfl ?_ rfl H rfl;simp[jt,af,am,ah,aj,Res.bind,av,sv,h]
theorem Gw(H:Flat S)(h:∀x∈xs,Kn x)(d:xs.length<=1000)(f:xs.length≠2):fZ [.int m,.tup xs] S=.ok (.bl HY) S:=by
 have a:=tt H m h d;cases e:xs.all (ny m)with
 |false=>rw[e]at a;exact nA H a
 |true=>
  refine aS rfl ?_ rfl H rfl;have b:aJ .len [.tup xs] S=.ok (.int (xs.length:Nat)) S:=rfl
  have c:ao .Eq (.int (xs.length:Nat)) (.int 2) S=.ok (.bl HY) S:=by
   have:ao .Eq (.int (xs.length:Nat)) (.int 2) S=.ok (.bl (((xs.length:Nat):Int)==2)) S:=rfl;have:¬(((xs.length:Nat):Int)=2):=by lia
   simp_all
  simp[jt,af,am,ah,aj,Res.bind,Res.noErr,av,sv,a,b,c]
structure tx (e:D):Prop where
 kn:Kn e
 tu:∀xs,e=.tup xs->(∀x∈xs,Kn x)/\xs.length<=1000/\(xs.length≠2\/xs.all nw=HY)
theorem Kn.nt(h:Kn d):NT d\/∃xs,d=.tup xs:=by
 rcases h with⟨i,rfl⟩| ⟨b,rfl⟩| ⟨x,rfl⟩|rfl|h| ⟨xs,rfl⟩
 ·exact .inl λ_=>rfl
 ·exact .inl λ_=>rfl
 ·exact .inl λ_=>rfl
 ·exact .inl λ_=>rfl
 ·exact .inr h
 ·exact .inl λ_=>rfl
theorem Gx(h:xs.all nw=HY):xs.all (ny m)=HY:=by rw[MZ]at h⊢;obtain⟨x,H,q⟩:=h;refine⟨x,H,λz=>q ?_⟩;cases x<;>first|rfl|cases z
theorem Gy(a:Flat S)(m:Int){e:D}(h:tx e):fZ [.int m,e] S=.ok (.bl HY) S:=by
 rcases h.kn.nt with g| ⟨x,rfl⟩
 ·exact nA a (Gv a m g)
 ·obtain⟨b,c,H⟩:=h.tu x rfl;by_cases d:x.length=2
  ·rcases H with H|H
   ·exact absurd d H
   ·have f:=tt a m b c;rw[Gx H]at f;exact nA a f
  ·exact Gw a b c d
theorem Ac(j:Flat S)(g:D->D->Bool)(l:xs.length<=1000)(h:∀x∈xs,∀y∈xs,j0 S bg x y=some (g x y)):eV [.tup xs] S=.ok (.bl ((H9 g xs (xs.drop 1)).all id)) S:=by
 refine aS rfl ?_ rfl j rfl;have b:dz S (.tup xs) (.tup (xs.drop 1))=some (.items (H9 (λx y=>.tup [x,y]) xs (xs.drop 1))):=rfl;have f:=K91.Gh xs;simp[zd,zc,af,am,al,ah,aj,aU,Res.bind,Res.noErr,av,gG,dD,ck,aJ];simp only[f,b,dy]
 have a:(H9 g xs (xs.drop 1)).all id=(H9 (λx y=>D.tup [x,y]) xs (xs.drop 1)).all λd=>match d with
   | .tup [x,y]=>g x y
   |_=>HY:=by
  generalize xs.drop 1=Y;clear b f l h
  induction xs generalizing Y with
  |nil=>rfl
  |cons x xs I=>
   cases Y with
   |nil=>rfl
   |cons y Y=>simp only[Kx,Ji,I Y,id]
 rw[tj (λd=>match d with
   | .tup [x,y]=>g x y
   |_=>HY)]
 ·simp only[Res.noErr];rw[ti,<-a,List.drop_one]
 ·intro z b A k;obtain⟨i,H⟩:=List.mem_iff_getElem?.mp b;rw[List.getElem?_zipWith]at H;cases e:xs[i]? with
  |none=>rw[e]at H;cases H
  |some x=>
   cases E:(xs.drop 1)[i]? with
   |none=>rw[e,E]at H;cases H
   |some y=>rw[e,E]at H;cases H;rw[MQ,Nat.add_comm]at E;have c:=h x (Zq e) y (Zq E);simp[br,dw,slots,fk,aQ,cj,aV,bN,ah,Res.bind,ao,c,a7,Res.noErr];unfold a' at k;omega
 ·simp;unfold a';omega
noncomputable def eZ(ps:Lq):Bool:=(H9 (λx y=>decide (aD x y)) ps (ps.drop 1)).all id
theorem Ad:∀ps:Lq,eZ ps=HX↔ps.Pairwise aD
 | []=>by decide
 | [x]=>by simp[eZ]
 |x::y::ps=>by
  have i:=Ad (y::ps);have e:eZ (x::y::ps)=(decide (aD x y)&&eZ (y::ps)):=rfl;simp only[e,ZR,decide_eq_true_eq,i,ZV (a:=x)];constructor
  ·intro⟨H,b⟩;refine⟨λz h=>?_,b⟩;rcases Zj.mp h with rfl|h
   ·exact H
   ·exact K91.zW H ((ZV.mp b).1 z h)
  simp_all
noncomputable def HU:D->D->Bool
 | .tup [.int a,.int b],.tup [.int c,.int d]=>decide (aD (a,b) (c,d))
 |_,_=>HY
theorem Gz(H:Flat S){ps:Lq}(a:ps.length<=1000):eV [.tup (ak ps)] S=.ok (.bl (eZ ps)) S:=by
 have h:=Ac H (xs:=ak ps) HU (by unfold ak;simpa using a) λx b y c=>by obtain⟨t,_,rfl⟩:=Zo.mp b;obtain⟨u,_,rfl⟩:=Zo.mp c;exact K91.nh S 38 t u
 rw[h];unfold ak eZ;rw[<-Kk,List.zipWith_map];rfl
theorem GA(c:Flat S)(m:Int)(t:Int×Int):fZ [.int m,aM t] S=.ok (.bl (decide (0<=t.1/\t.1<t.2/\t.2<m))) S:=by
 have h:=tt c m (xs:=[.int t.1,.int t.2]) (by intro x H;simp at H;rcases H with rfl|rfl<;>exact .inl ⟨_,rfl⟩) (by simp);have g:[D.int t.1,D.int t.2].all (ny m)=decide ((0<=t.1/\t.1<m)/\0<=t.2/\t.2<m):=by simp[ny]
 rw[g]at h;by_cases d:(0<=t.1/\t.1<m)/\0<=t.2/\t.2<m
 ·rw[ZO d]at h
  have e:=Ac c (xs:=[.int t.1,.int t.2]) (λx y=>match x,y with
   | .int a,.int b=>decide (a<b)
   |_,_=>HY) (by simp) (by intro x H y f;simp at H f;rcases H with rfl|rfl<;>rcases f with rfl|rfl<;>rfl)
  have i:(H9 (λx y=>match x,y with
   |D.int a,D.int b=>decide (a<b)
   |_,_=>HY) [D.int t.1,D.int t.2] ([D.int t.1,D.int t.2].drop 1)).all id=decide (t.1<t.2):=by simp
  rw[i]at e;refine aS rfl ?_ rfl c rfl;show af mG G0 jt [some (.int m),some (aM t)] S=_;have j:fY [.int m,aM t] S=.ok (.bl HX) S:=h;have k:eV [aM t] S=.ok (.bl (decide (t.1<t.2))) S:=e;have l:aJ .len [aM t] S=.ok (.int 2) S:=rfl;have n:ao .Eq (.int 2) (.int 2) S=.ok (.bl HX) S:=rfl
  have E:decide (0<=t.1/\t.1<t.2/\t.2<m)=decide (t.1<t.2):=by apply decide_eq_decide.mpr;omega
  rw[E];simp only[jt,af,am,al,ah,aj,Res.bind,Res.noErr,av,sv,E_,j,k,l,n,Zn,ZB,if_true]
 ·rw[Zx d]at h;rw[Zx (by omega)];exact nA c h
def Item(e:D):Prop:=(∃t,e=aM t)\/tx e
theorem Ae(n:Nat):∀(a b:Lq),ba (H9 (bJ S (n+2)) (ak a) (ak b))=some (decide (a.take b.length=b.take a.length))
 | [],b=>by simp[ak,ba]
 |a::as,[]=>rfl
 |a::as,b::bs=>by
  have i:=Ae n as bs;have e:H9 (bJ S (n+2)) (ak (a::as)) (ak (b::bs))=bJ S (n+2) (aM a) (aM b)::H9 (bJ S (n+2)) (ak as) (ak bs):=rfl;simp only[e,K91.ng]
  show(match some (decide (a=b)),ba (H9 (bJ S (n+2)) (ak as) (ak bs))with
   |some b,some c=>some (b&&c)
   |_,_=>none)=_
  simp_all
theorem tz(a b:Lq)(h:a.length=b.length):ao .Eq (.lst (ak a)) (.lst (ak b)) S=.ok (.bl (decide (a=b))) S:=by show a7 (if(ak a).length=(ak b).length then ba (H9 (bJ S (37+2)) (ak a) (ak b))else some HY) S=_;rw[if_pos (by unfold ak;simpa using h),Ae,h,JT,<-h,JT];rfl
theorem Af{p q:List D}(h:p.length+q.length<=1000):gb .Add (.lst p) (.lst q) S=.ok (.lst (p++q)) S:=by
 have e:gb .Add (.lst p) (.lst q) S=if p.length+q.length<=a' then .ok (.lst (p++q)) S else .fail:=rfl
 grind
theorem GB(l:List D):iI (.tup l) (.int (-1)) S=.ok (.tup l.reverse) S:=rfl
theorem sl_tup(l:List D)(L h:Option Int):gG (.tup l) L h S=.ok (.tup (cM l L h)) S:=rfl
end K91
namespace Py
end Py
namespace Pc
open K91
section
variable {m:Nat}{so:Li}
end
end Pc
namespace K91
open Pc
theorem tG{step:D->bu->ae->Res Fl}(J:bu->ae->Prop):∀(xs:List D),(∀x∈xs,∀ρ S,J ρ S->∃ρ' S',J ρ' S'/\step x ρ S=.ok (.next ρ') S')->∀ρ S,J ρ S->∃ρ' S',J ρ' S'/\dF step xs ρ S=.ok (.next ρ') S'
 | [],_,ρ,S,j=>⟨ρ,S,j,rfl⟩
 |x::xs,h,ρ,S,j=>by obtain⟨a,c,f,e⟩:=h x Ze ρ S j;obtain⟨b,d,g,E⟩:=tG J xs (λy H=>h y (Zc _ H)) a c f;refine⟨b,d,g,?_⟩;unfold dF;rw[e];exact E
end K91
namespace K91
section
variable {T A:List (List D)}{a u b:Int}{ts c:List Ti}
end
theorem Ag:∀n,bq n=K91.bq n
 |0=>rfl
 |n+1=>by
  show aH (tbl [("_law_same",bq n)]) G0 ee dJ.length 2=aH (tbl [("_law_same",K91.bq n)]) K91.G0 K91.ee K91.dJ.length 2;rw[Ag n]
  all_goals rfl
theorem tH{S:ae}{step:D->bu->ae->Res Fl}{a b:Option D}:∀(xs:List D) (x y:Option D),(∀z∈xs,∀(x y:Option D),step (.tup [z,z]) [a,b,x,y] S=.ok (.next [a,b,some z,some z]) S)->∃X Y,dF step (H9 (λx y=>.tup [x,y]) xs xs) [a,b,x,y] S=.ok (.next [a,b,X,Y]) S
 | [],x,y,_=>⟨x,y,rfl⟩
 |z::xs,x,y,h=>by obtain⟨X,Y,e⟩:=tH xs (some z) (some z) λw hw=>h w (Zc _ hw);refine⟨X,Y,?_⟩;rw[Kx];unfold dF;rw[h z Ze];exact e
theorem tJ(t:Flat S)(v:∀z∈xs,bq n [z,z] S=.ok (.bl HX) S):bq (n+1) [.tup xs,.tup xs] S=.ok (.bl HX) S:=by
 show aH (tbl [("_law_same",bq n)]) G0 ee dJ.length 2 _ S=_;refine aS rfl ?_ rfl t rfl;generalize h:D.tup xs=d;have i:bS [d,.ty "bool"] S=.ok (.bl HY) S:=by subst h;rfl
 have j:bS [d,.ty "int"] S=.ok (.bl HY) S:=by subst h;rfl
 have k:bS [d,.ty "str"] S=.ok (.bl HY) S:=by subst h;rfl
 have l:ao .Is d .non S=.ok (.bl HY) S:=by subst h;rfl
 have m:bS [d,.ty "list"] S=.ok (.bl HY) S:=by subst h;rfl
 have o:bS [d,.ty "tuple"] S=.ok (.bl HX) S:=by subst h;rfl
 have p:ao .NotEq (.bl HY) (.bl HY) S=.ok (.bl HY) S:=rfl;have q:ao .NotEq (.bl HX) (.bl HX) S=.ok (.bl HY) S:=rfl;have r:eQ [d] S=.ok (.int xs.length) S:=by subst h;simp[eQ,aA]
 have H:ao .NotEq (.int xs.length) (.int xs.length) S=.ok (.bl HY) S:=by have:ao .NotEq (.int xs.length) (.int xs.length) S=.ok (.bl (!((xs.length:Int)==xs.length))) S:=rfl;rw[this];simp
 have g:dz S d d=some (.items (H9 (λx y=>.tup [x,y]) xs xs)):=by subst h;rfl
 unfold ee;refine(bH (ρ':=[some d,some d,none,none]) (S':=S) (by simp[dJ,am,af,al,ah,aj,Res.bind,Res.noErr,av,aJ,l])).trans ?_;refine(bH (ρ':=[some d,some d,none,none]) (S':=S) (by simp[am,af,al,ah,aj,Res.bind,Res.noErr,av,aJ,i,aY])).trans ?_;refine(bH (ρ':=[some d,some d,none,none]) (S':=S) (by simp[am,af,al,ah,aj,Res.bind,Res.noErr,av,aJ,j,aY])).trans ?_;refine(bH (ρ':=[some d,some d,none,none]) (S':=S) (by simp[am,af,al,ah,aj,Res.bind,Res.noErr,av,aJ,k,aY])).trans ?_;refine(bH (ρ':=[some d,some d,none,none]) (S':=S) (by simp[am,af,al,ah,aj,Res.bind,Res.noErr,av,aJ,m,o,p,q,aY])).trans ?_;refine(bH (ρ':=[some d,some d,none,none]) (S':=S) (by simp[am,af,al,ah,aj,Res.bind,Res.noErr,av,aJ,r,H,aY])).trans ?_
 obtain⟨X,Y,e⟩:=tH (S:=S) (a:=some d) (b:=some d) (step:=λx A S=>match aQ (.tup [.var 2,.var 3]) x A with
   |some c=>af (tbl [("_law_same",bq n)]) G0 [.ite (.bnot (.call "_law_same" [.var 2,.var 3])) [.ret (.lit (.bl HY))] []] c S
   |none=>.fail) xs none none (λz w x y=>by have u:=v z w;simp[aQ,cj,af,am,al,ah,aj,Res.bind,tbl,u,aY])
 have s:aU (tbl [("_law_same",bq n)]) G0 (.zip [.var 0,.var 1]) [some d,some d,none,none] S=.ok (.items (H9 (λx y=>.tup [x,y]) xs xs)) S:=by simp only[aU,aj,ah,Res.bind,Zn,ZB,g]
 refine(bH (ρ':=[some d,some d,X,Y]) (S':=S) ((hO s).trans e)).trans ?_;rfl
section
variable {u a r:Int}{ts:List Ti}{ks:List Nat}
end
section
variable {u:Int}{ts:List Ti}{ks:List Nat}
end
section
variable {A B C:List D}{P:List (List Ti)}
end
section
variable {ts:List Ti}{P:List (List Ti)}
end
section
variable {c t l w a b:Int}{x8 x9:Option D}
end
section
variable {ts:List Ti}
end
theorem l1{c:Int}:ah t_law_arrows G0 (.idx (.var 0) (.lit (.int 1))) [some (bX m ts),some (.int c)] S=.ok (.tup (ak ts)) S:=by have h:bb (bX m ts) (.int 1) S=.ok (.tup (ak ts)) S:=rfl;simp only[ah,Res.bind,Zn,h,Res.noErr]
theorem l2{c:Int}:ah t_law_arrows G0 (.blt .len [.idx (.var 0) (.lit (.int 1))]) [some (bX m ts),some (.int c)] S=.ok (.int ((ts.length:Nat):Int)) S:=by
 have h:eQ [.tup (ak ts)] S=.ok (.int (ts.length:Nat)) S:=by show Res.ok (D.int ((ak ts).length:Nat)) S=_;unfold ak;rw[Zk]
 rw[ah,aj,l1];simp only[aj,Res.bind,aJ,h,Res.noErr]
theorem l3{e:CE}{L:Int}(h:ah Φ G0 e ρ S=.ok (.int L) S)(h1:0<=L)(H:L<=100):aU Φ G0 (.range [e]) ρ S=.ok (.items ((cw 0 L.toNat).map D.int)) S:=by rw[aU,aj,h];simp only[aj,Res.bind];rw[if_pos (by omega),K91.nk]
theorem jJ{e:CE}{t:CT}{rs:α->bu}{r0:bu}{it:CE}{ds:List α}{h:α->D}{f:α->D}(n:aU Φ G0 it ρ S=.ok (.items (ds.map h)) S)(o:fr.map (λj=>j.bind λj=>(ρ[j]?).join)=r0)
  (l:∀d∈ds,br t (h d) r0=some (rs d)) (q:ds.length<=100000) (m:∀d∈ds,ah Φ G0 e (rs d) S=.ok (f d) S):ah Φ G0 (.comp HY N fr t it [] (.emit e)) ρ S=.ok (.lst (ds.map f)) S:=by
 refine hV n ?_;rw[o]
 have:=zR (p:=λ_=>HX) (e:=f) (S:=S) (step:=λy a i=>match br _ y _ with
    |some b=>(aV Φ G0 [] b i).bind λk c=>if k=HX then bN Φ G0 (.emit e) b a c else .ok a c
    |none=>.fail) λd g a H=>by rw[l d g];simp[aV,bN,Res.bind,m d g,H] (show ds.length<=16777216 by lia)
 rw[List.filter_eq_self.mpr λ_ _=>rfl]at this;exact this
theorem tK{b:ia}{e:CE}{r:D}(h:ah Φ G0 e ρ S=.ok d S)(H:aJ b [d] S=.ok r S):ah Φ G0 (.blt b [e]) ρ S=.ok r S:=by simp[ah,aj,h,Res.bind,H,Res.noErr]
theorem po{b:ia}{es:List CE}{k:Bool}(h:ah Φ G0 (.blt b es) ρ S=.ok (.bl k) S):al Φ G0 (.blt b es) ρ S=.ok k S:=by
 simp only[ah]at h;dsimp only[al];cases e:aj _ _ _ _ S with
 |ok D a=>
  rw[e]at h;dsimp[Res.bind]at h⊢;cases E:aJ b _ _ with
  |ok d c=>rw[E]at h;cases h;rfl
  |err x c=>rw[E]at h;cases h
  |fail=>rw[E]at h;cases h
 |err x a=>rw[e]at h;cases h
 |fail=>rw[e]at h;cases h
theorem jK{e:CE}(h:ah Φ G0 e ρ S=.ok d S)(H:fS S d=some (.items ds)):aU Φ G0 (.seq e) ρ S=.ok (.items ds) S:=by rw[aU,h];simp[Res.bind,H]
theorem aZ:ah Φ G0 (.lit d) ρ S=.ok d S:=rfl
theorem ej{a b:CE}{x e:D}(h1:ah Φ G0 a ρ S=.ok d S1)(h:ah Φ G0 b ρ S1=.ok e S2)(H:bb d e S2=.ok x S2):ah Φ G0 (.idx a b) ρ S=.ok x S2:=by simp[ah,h1,h,Res.bind,H,Res.noErr]
theorem f9{o:LC}{a b:CE}{x e:D}(h1:ah Φ G0 a ρ S=.ok d S1)(h:ah Φ G0 b ρ S1=.ok e S2)(H:gb o d e S2=.ok x S2):ah Φ G0 (.bin o a b) ρ S=.ok x S2:=by simp[ah,h1,h,Res.bind,H,Res.noErr]
theorem tM{o:Ka}{a b:CE}{x e:D}(h1:ah Φ G0 a ρ S=.ok d S1)(h:ah Φ G0 b ρ S1=.ok e S2)(H:ao o d e S2=.ok x S2):ah Φ G0 (.cmp o a b) ρ S=.ok x S2:=by simp[ah,h1,h,Res.bind,H,Res.noErr]
theorem bw{e:CE}{k:Bool}(h:al Φ G0 e ρ S=.ok k S):al Φ G0 (.bnot e) ρ S=.ok (!k) S:=by simp[al,h,Res.bind]
theorem tN{c:CE}(h:al Φ G0 c ρ S=.ok HX S):af Φ G0 (.ite c [.ret (.lit (.bl HY))] []::cs) ρ S=.ok (.ret (.bl HY)) S:=by refine cI ?_;rw[jI h];rfl
theorem fJ{c:CE}(h:al Φ G0 c ρ S=.ok HY S):af Φ G0 (.ite c [.ret (.lit (.bl HY))] []::cs) ρ S=af Φ G0 cs ρ S:=by refine bH ?_;rw[jI h];rfl
theorem e5{a b:CE}{x y:Bool}(h1:al Φ G0 a ρ S=.ok x S)(h:al Φ G0 b ρ S=.ok y S):al Φ G0 (.bor a b) ρ S=.ok (x||y) S:=by simp[al,Res.bind];lia
theorem gv{a b:CE}(h1:al Φ G0 a ρ S=.ok HX S):al Φ G0 (.bor a b) ρ S=.ok HX S:=by simp only[al,h1,Res.bind,if_true]
theorem nB{o:Ka}{a b:CE}{e:D}{k:Bool}(h1:ah Φ G0 a ρ S=.ok d S)(h:ah Φ G0 b ρ S=.ok e S)(H:ao o d e S=.ok (.bl k) S):al Φ G0 (.cmp o a b) ρ S=.ok k S:=by simp[al,h1,h,Res.bind,H,Res.noErr,av]
theorem Ah{f:Str}{a:CE}{x:D}{k:Bool}(H:Φ f=some φ)(h1:ah Φ G0 a ρ S=.ok x S)(h:φ [x] S=.ok (.bl k) S):al Φ G0 (.call f [a]) ρ S=.ok k S:=by simp[al,aj,H,h1,Res.bind,h,aY]
theorem GC:fX=K91.fX:=rfl
noncomputable def e6(m:Int):D->Bool
 | .tup [.int a,.int b]=>decide (0<=a/\a<b/\b<m)
 |_=>HY
theorem Ai{e:D}(h:tx e)(m:Int):e6 m e=HY:=by
 unfold e6;split
 ·obtain⟨_,_,q⟩:=h.tu _ rfl;rcases q with q|q
  ·exact absurd rfl q
  ·cases q
 ·rfl
theorem Aj{m:Int}:∀{es:List D},es.all (e6 m)=HX->∃ps,es=ak ps
 | [],_=>⟨[],rfl⟩
 |e::es,h=>by
  simp only[Ji,ZR]at h;obtain⟨ps,rfl⟩:=Aj h.2;have H:=h.1;unfold e6 at H;split at H
  ·rename_i a b;exact⟨(a,b)::ps,rfl⟩
  trivial
noncomputable def frB:D->Bool
 | .int i=>decide (1<=i/\i<=8)
 |_=>HY
theorem nC(H:Flat S){a:D}(h:Kn a):fF [a,.int 1,.int 8] S=.ok (.bl (frB a)) S:=by
 rcases h.isI_or with⟨i,rfl⟩| ⟨b,d⟩
 ·exact K91.zP H i 1 8
 ·have c:=K91.nz H h;rw[b,<-GC]at c;have:frB a=HY:=by cases a<;>first|rfl|cases b
  rw[this];refine aS rfl ?_ rfl H rfl;simp[mC,af,am,ah,aj,Res.bind,av,ss,c]
theorem eL{i:Nat}{k:Bool}(h:ρ[i]?=some (some d))(H:bS [d,.ty "tuple"] S=.ok (.bl k) S):al Φ G0 (.blt .isinst [.var i,.ty "tuple"]) ρ S=.ok k S:=by have H:aJ .isinst [d,.ty "tuple"] S=.ok (.bl k) S:=H;exact po (by simp only[ah,aj,h,Res.bind,H,Res.noErr])
theorem jL{i:Nat}(h:ρ[i]?=some (some (.tup xs))):al Φ G0 (.cmp .NotEq (.blt .len [.var i]) (.lit (.int 2))) ρ S=.ok (!(decide (xs.length=2))) S:=by
 have H:aJ .len [.tup xs] S=.ok (.int (xs.length:Nat)) S:=rfl;refine nB (tK (aE h) H) aZ ?_;have:ao .NotEq (.int (xs.length:Nat)) (.int 2) S=.ok (.bl (!(((xs.length:Nat):Int)==2))) S:=rfl;rw[this];have e:(((xs.length:Nat):Int)==2)=decide (xs.length=2):=by lia
 rw[e]
theorem Ak:mH=[.ite Fb [.ret (.lit (.bl HY))] [],.asgT (.tup [.var 1,.var 2]) (.var 0),.ite Ho [.ret (.lit (.bl HY))] [],.ret (.band (.blt .all [ze]) (.call "is_rising" [.var 2]))]:=rfl
theorem jM(e:Flat S){a b:D}(h:Kn a):al ed G0 (.call "is_number_from" [.var 1,.lit (.int 1),.glob "MOST_PLACES"]) [some d,some a,some b] S=.ok (frB a) S:=by have H:=nC e h;have c:G0 "MOST_PLACES"=some (.int 8):=rfl;simp only[al,ah,aj,Res.bind,ZB,Zn,c,Fe,H,aY]
theorem Al{a b:D}:af ed G0 (.ite Fb [.ret (.lit (.bl HY))] []:: .asgT (.tup [.var 1,.var 2]) (.var 0)::cs) [some (.tup [a,b]),none,none] S=af ed G0 cs [some (.tup [a,b]),some a,some b] S:=by have:=e5 (Φ:=ed) (bw (eL (i:=0) (S:=S) (d:=.tup [a,b]) (ρ:=[some (.tup [a,b]),none,none]) (k:=HX) rfl rfl)) (jL (i:=0) (xs:=[a,b]) rfl);refine(fJ this).trans ?_;refine bH ?_;rw[am,aE (d:=.tup [a,b]) rfl];rfl
theorem nD(c:Flat S){a b:D}(f:Kn a)(h:frB a=HY\/NT b):eX [.tup [a,b]] S=.ok (.bl HY) S:=by
 refine aS rfl ?_ rfl c rfl;show af ed G0 mH [some (.tup [a,b]),none,none] S=_;simp only[Ak,Al];have H:=jM (b:=b) (d:=.tup [a,b]) c f;refine tN ?_;cases e:frB a with
 |false=>rw[e]at H;exact gv (bw H)
 |true=>
  rw[e]at h H;rcases h with h|h
  ·cases h
  ·exact e5 (bw H) (bw (eL rfl (h S)))
theorem GD(H:Flat S){e:D}(h:Item e):fZ [.int m,e] S=.ok (.bl (e6 m e)) S:=by
 rcases h with⟨t,rfl⟩|h
 ·exact K91.GA H m t
 ·rw[Ai h];exact K91.Gy H m h
theorem tO(c:Flat S){es:List D}{k:Bool}(o:1<=m/\m<=8)(j:∀e∈es,Item e)(n:es.length<=1000)(l:es.all (e6 m)=HX->eV [.tup es] S=.ok (.bl k) S):eX [.tup [.int m,.tup es]] S=.ok (.bl (es.all (e6 m)&&k)) S:=by
 refine aS rfl ?_ rfl c rfl;show af ed G0 mH [some (.tup [.int m,.tup es]),none,none] S=_;rw[Ak,Al];have g:=jM (a:=.int m) (b:=.tup es) (d:=.tup [.int m,.tup es]) c (.inl ⟨m,rfl⟩);rw[show frB (.int m)=HX from ZO o]at g;refine(fJ (e5 (bw g) (bw (eL (k:=HX) rfl rfl)))).trans ?_
 have H:ah ed G0 (.blt .all [ze]) [some (.tup [.int m,.tup es]),some (.int m),some (.tup es)] S=.ok (.bl (es.all (e6 m))) S:=tr (S:=S) (tm (S:=S) (rs:=[some (.int m)]) (f:=e6 m) (tq rfl) rfl n λe i=>by have h:=GD c (m:=m) (j e i);trivial);show af ed G0 [.ret (.band (.blt .all [ze]) (.call "is_rising" [.var 2]))] [some (.tup [.int m,.tup es]),some (.int m),some (.tup es)] S=_;refine cI (fI ?_);generalize CE.blt .all [ze]=q at H⊢;cases e:es.all (e6 m)with
 |false=>rw[e]at H;simp only[ah,H,Res.bind,av,ZQ,if_false,Bool.false_and]
 |true=>rw[e]at H;simp only[ah,aj,H,Res.bind,av,Fc,l e,if_true,LX,ZB,Zn]
theorem GF:sC=[.ite zk [.ret (.lit (.bl HY))] [],.ite (.bnot (.blt .isinst [gq,.ty "tuple"])) [.ret (.lit (.bl HY))] [],.for_ (.var 1) (.seq gq) pi,.ret (.cmp .Eq (.blt (.list HY) [gq]) (.sset gq))]:=rfl
theorem nE(H:Flat S){a b:D}{x:Option D}(h:Kn a):al bL G0 (.call "_law_whole" [ux]) [some (.tup [a,b]),x] S=.ok (nw a) S:=
 Ah Fv (ej (aE rfl) aZ rfl) (K91.nz H h)
theorem tP(f:Flat S){a b:D}(h:Kn a):al bL G0 zk [some (.tup [a,b]),none] S=.ok (!(frB a)) S:=by
 have H:=nE (b:=b) (x:=none) f h
 have e:∀y,al bL G0 (.bor (.bnot (.call "_law_whole" [ux])) (.bnot Bh)) [some (.tup [a,b]),none] S=.ok y S->al bL G0 zk [some (.tup [a,b]),none] S=.ok y S:=λy j=>
  e5 (bw (eL (k:=HX) rfl rfl)) (e5 (jL (xs:=[a,b]) rfl) j)
 refine e _ ?_;rcases h.isI_or with⟨i,rfl⟩| ⟨c,l⟩
 ·have g:al bL G0 Bh [some (.tup [.int i,b]),none] S=.ok (decide (1<=i/\i<=8)) S:=by
   have d1:ah bL G0 ux [some (.tup [.int i,b]),none] S=.ok (.int i) S:=ej (aE rfl) aZ rfl;have C:ao .LtE (.int 1) (.int i) S=.ok (.bl (decide (1<=i))) S:=rfl;have d:ao .LtE (.int i) (.int 8) S=.ok (.bl (decide (i<=8))) S:=rfl;unfold Bh;simp only[al,ah,d1,Res.bind,C,d,Res.noErr,av];by_cases q:1<=i<;>simp[q]
  exact e5 (bw H) (bw g)
 ·rw[c]at H;have:frB a=HY:=by cases a<;>first|rfl|cases c
  rw[this];exact gv (bw H)
theorem GG{a b c d:CE}{i j k l:Int}(h1:ah Φ G0 a ρ S=.ok (.int i) S)(h:ah Φ G0 b ρ S=.ok (.int j) S)(H:ah Φ G0 c ρ S=.ok (.int k) S)(g:ah Φ G0 d ρ S=.ok (.int l) S):al Φ G0 (.chain3 .LtE .Lt .Lt a b c d) ρ S=.ok (decide (i<=j/\j<k/\k<l)) S:=by have C:ao .LtE (.int i) (.int j) S=.ok (.bl (decide (i<=j))) S:=rfl;have e:ao .Lt (.int j) (.int k) S=.ok (.bl (decide (j<k))) S:=rfl;have f:ao .Lt (.int k) (.int l) S=.ok (.bl (decide (k<l))) S:=rfl;simp only[al,h1,h,H,g,Res.bind,C,e,f,Res.noErr,av];by_cases q:i<=j<;>by_cases Q:j<k<;>simp[q,Q]
theorem Am(a:Flat S)(h:∀x∈xs,Kn x)(c:xs.length<=1000):al bL G0 Fu [some d,some (.tup xs)] S=.ok (!(decide (xs.length=2)&&xs.all nw)) S:=by have H:ah bL G0 (.blt .all [Hq]) [some d,some (.tup xs)] S=.ok (.bl (xs.all nw)) S:=tr (S:=S) (tm (S:=S) (rs:=[]) (f:=nw) (tq rfl) rfl c λd b=>by have e:mL [d] S=.ok (.bl (nw d)) S:=K91.nz a (h d b);trivial);have:=e5 (bw (eL (Φ:=bL) (S:=S) (ρ:=[some d,some (.tup xs)]) (i:=1) (d:=.tup xs) (k:=HX) rfl rfl)) (e5 (jL (i:=1) (xs:=xs) rfl) (bw (po H)));refine Eq.trans this ?_;simp
theorem nF(b:Flat S){T e:D}(h:Item e):af bL G0 pi [some (.tup [.int m,T]),some e] S=if e6 m e=HX then .ok (.next [some (.tup [.int m,T]),some e]) S else .ok (.ret (.bl HY)) S:=by
 rcases h with⟨t,rfl⟩|h
 ·have a:al bL G0 Fu [some (.tup [.int m,T]),some (aM t)] S=.ok HY S:=Am b (xs:=[.int t.1,.int t.2]) (by intro x c;simp at c;rcases c with rfl|rfl<;>exact .inl ⟨_,rfl⟩) (by simp);have H:al bL G0 Hr [some (.tup [.int m,T]),some (aM t)] S=.ok (e6 m (aM t)) S:=GG aZ (ej (aE rfl) aZ rfl) (ej (aE rfl) aZ rfl) (ej (aE rfl) aZ rfl);refine(fJ a).trans ?_;cases e:e6 m (aM t)with
  |true=>rw[e]at H;exact(fJ (bw H)).trans rfl
  |false=>rw[e]at H;exact tN (bw H)
 ·rw[Ai h];refine tN ?_;rcases h.kn.nt with d| ⟨X,rfl⟩
  ·exact gv (bw (eL rfl (d S)))
  ·obtain⟨a,H,q⟩:=h.tu X rfl;refine(Am b a H).trans ?_;simp_all
theorem An(a:Flat S){m:Int}{T:D}:∀(es:List D) (x:Option D),(∀e∈es,Item e)->if es.all (e6 m)=HX then ∃y,dF (λx ρ S=>match aQ (.var 1) x ρ with
   |some ρ'=>af bL G0 pi ρ' S
   |none=>.fail) es [some (.tup [.int m,T]),x] S=.ok (.next [some (.tup [.int m,T]),y]) S else dF (λx ρ S=>match aQ (.var 1) x ρ with
   |some ρ'=>af bL G0 pi ρ' S
   |none=>.fail) es [some (.tup [.int m,T]),x] S=.ok (.ret (.bl HY)) S
 | [],x,_=>⟨x,rfl⟩
 |e::es,x,h=>by
  have H:=nF a (m:=m) (T:=T) (h e Ze);have i:=An a (m:=m) (T:=T) es (some e) λz d=>h z (Zc _ d);have b:aQ (.var 1) e [some (.tup [.int m,T]),x]=some [some (.tup [.int m,T]),some e]:=rfl;rw[Ji];cases c:e6 m e with
  |false=>rw[c]at H;unfold dF;rw[b];dsimp only;rw[H];rfl
  |true=>rw[c]at H;unfold dF;rw[b];dsimp only;rw[H];exact i
noncomputable def uz(t:Int×Int):Li:=[t.1,t.2]
theorem Ao:∀{l:List (Li)},(∀k∈l,∃t,k=uz t)->∃rs:Lq,l=rs.map uz
 | [],_=>⟨[],rfl⟩
 |k::l,h=>by obtain⟨t,rfl⟩:=h k Ze;obtain⟨rs,rfl⟩:=Ao λz H=>h z (Zc _ H);exact⟨t::rs,rfl⟩
theorem GH{ps:Lq}(s:ps.length<64):∃q,dB (.tup (ak ps)) S=.ok (.lst (ak q)) S/\q.Pairwise aD/\∀t,t∈q↔t∈ps:=by
 cases ps with
 |nil=>exact⟨[],rfl,.nil,λ_=>Iff.rfl⟩
 |cons p ps=>
  have g:(ak (p::ps)).map et=(p::ps).map uz:=by unfold ak;rw[I7];exact MG λt _=>rfl
  obtain⟨n,N⟩:=xQ ((p::ps).map uz);obtain⟨r,E⟩:=Ao (l:=iM ((p::ps).map uz)) λk i=>by obtain⟨t,_,e⟩:=Zo.mp ((N k).mp i);exact⟨t,e.symm⟩
  have j:r.Nodup:=by rw[E]at n;exact(JH.mp n).imp λh e=>h (by rw[e])
  refine⟨sortI r,?_,K91.zZ j,λt=>?_⟩
  ·have C:(ak (p::ps)).all (ar (.seq .int))=HX/\(ak (p::ps)).length<64/\((ak (p::ps)).all λd=> !er d)=HX:=by
    refine⟨Zl.mpr λx f=>?_,by unfold ak;rw[Zk];omega,Zl.mpr λx f=>?_⟩<;>
    ·obtain⟨t,_,rfl⟩:=Zo.mp f;rfl
   have m:dB (.tup (ak (p::ps))) S=.ok (.lst (dA ((ak (p::ps)).map et))) S:=by
    unfold dB
    first
     |exact(if_neg o).trans (if_pos C)
     |exact if_pos C
   rw[m,g];unfold dA;rw[E,I7,<-K91.zU];rfl
  ·rw[(K91.sW r).mem_iff];have:=N (uz t);rw[E]at this;constructor
   ·intro h;obtain⟨u,H,e⟩:=Zo.mp (this.mp (KZ h));obtain⟨a,b⟩:=u;obtain⟨c,d⟩:=t;cases e;exact H
   ·intro h;obtain⟨u,H,e⟩:=Zo.mp (this.mpr (KZ h));obtain⟨a,b⟩:=u;obtain⟨c,d⟩:=t;cases e;exact H
theorem nG:∀{l k:Lq},l.Pairwise aD->k.Pairwise aD->(∀p,p∈l↔p∈k)->l=k:=λ{l k} H c h=>by
 refine Lu (le:=aD) (λx y _ _ H c=>?_) H c ?_
 ·unfold aD at H c;lia
 ·have n:∀{l:Lq},l.Pairwise aD->l.Nodup:=λh=>h.imp λ{a b} h e=>by
   subst e;unfold aD at h;simp_all
  exact(J7 (n H) (n c)).mpr h
theorem tQ(a b:Lq):ao .Eq (.lst (ak a)) (.lst (ak b)) S=.ok (.bl (decide (a=b))) S:=by
 by_cases h:a.length=b.length
 ·exact K91.tz a b h
 ·show a7 (if(ak a).length=(ak b).length then ba (H9 (bJ S 39) (ak a) (ak b))else some HY) S=_;rw[if_neg (by unfold ak;rw[Zk,Zk];exact h),Zx λe=>h (by rw[e])];rfl
theorem tR(f:Flat S){es:List D}(l:1<=m/\m<=8)(i:∀e∈es,Item e)(j:es.length<64):∃k,eX [.tup [.int m,.tup es]] S=.ok (.bl k) S/\jz [.tup [.int m,.tup es]] S=.ok (.bl k) S:=by
 have v:al bL G0 zk [some (.tup [.int m,.tup es]),none] S=.ok HY S:=by have:=tP (b:=.tup es) f (a:=.int m) (.inl ⟨m,rfl⟩);rw[show frB (.int m)=HX from ZO l]at this;exact this
 have dT:∀x,ah bL G0 gq [some (.tup [.int m,.tup es]),x] S=.ok (.tup es) S:=λx=>ej (aE rfl) aZ rfl;have w:al bL G0 (.bnot (.blt .isinst [gq,.ty "tuple"])) [some (.tup [.int m,.tup es]),none] S=.ok HY S:=rfl;have q:aU bL G0 (.seq gq) [some (.tup [.int m,.tup es]),none] S=.ok (.items es) S:=K91.jK (dT none) rfl;have H:=An f (m:=m) (T:=.tup es) es none i
 have c:∀{F:Bool},af bL G0 [.for_ (.var 1) (.seq gq) pi,.ret (.cmp .Eq (.blt (.list HY) [gq]) (.sset gq))] [some (.tup [.int m,.tup es]),none] S=.ok (.ret (.bl F)) S->jz [.tup [.int m,.tup es]] S=.ok (.bl F) S:=λ{F} h=>by refine aS rfl ?_ rfl f rfl;show af bL G0 sC [some (.tup [.int m,.tup es]),none] S=_;rw[GF];exact(fJ v).trans ((fJ w).trans h)
 cases g:es.all (e6 m)with
 |false=>rw[g,if_neg (by decide)]at H;refine⟨HY,?_,c (cI (Eq.trans (hO (t:=.var 1) (body:=pi) q) H))⟩;have:=tO f (k:=HY) l i (by omega) (λz=>by rw[g]at z;cases z);rw[g]at this;exact this
 |true=>
  rw[g,if_pos rfl]at H;obtain⟨y,H⟩:=H;obtain⟨P,rfl⟩:=Aj g;have n:P.length<64:=by unfold ak at j;rw[Zk]at j;exact j
  have B:=K91.Gz (S:=S) f (ps:=P) (by omega);refine⟨eZ P,?_,c ((bH (Eq.trans (hO (t:=.var 1) (body:=pi) q) H)).trans (cI (fI ?_)))⟩
  ·have:=tO f (k:=eZ P) l i (by omega) λ_=>B;rw[g]at this;exact this
  ·obtain⟨Q,s,E,u⟩:=GH (S:=S) n;have d1:=dT y
   have A:decide (P=Q)=eZ P:=by rw[Jg,decide_eq_true_eq,K91.Ad];exact⟨λe=>by rw[e];exact E,λh=>nG h E λp=>(u p).symm⟩
   refine tM (d:=.lst (ak P)) (e:=.lst (ak Q)) (S1:=S) (tK d1 rfl) ?_ (by rw[tQ,A]);rw[ah];refine Eq.trans (congrArg (λr=>Res.bind r λd o=>(dB d o).noErr) d1) ?_;show(dB (.tup (ak P)) S).noErr=_;rw[s];rfl
noncomputable def cJ(c:Nat):Option Int:=if 48<=c/\c<=57 then some ((c:Int)-48)else none
noncomputable def dr(w:Str):Option Int:=match w.cps.toList with
 | [c]=>cJ c
 |_=>none
noncomputable def oD:Option Int->D
 |some i=>.int i
 |none=>.non
noncomputable def cy:Str:="0123456789"
theorem tU{w:Str}(h:w.length=1):∃c,w=⟨#[c]⟩:=by
 obtain⟨a⟩:=w;have h:a.size=1:=h;obtain⟨l⟩:=a
 match l,h with
 | [c],_=>exact⟨c,rfl⟩
theorem tV{w:Str}(h:w.length≠1):dr w=none:=by
 unfold dr;split
 ·rename_i c e;exact absurd (by show w.cps.size=1;rw[<-ZI,e];rfl) h
 ·rfl
theorem nH(c:Nat):dr ⟨#[c]⟩=cJ c:=rfl
theorem Hy(c:Nat)(h:48<=c/\c<=57):c=48\/c=49\/c=50\/c=51\/c=52\/c=53\/c=54\/c=55\/c=56\/c=57:=by omega
theorem nI(c:Nat):(c∈cy.cps.toList)↔48<=c/\c<=57:=by
 have e:cy.cps.toList=[48,49,50,51,52,53,54,55,56,57]:=by decide+kernel
 rw[e];simp only[Zj,Zy,or_false];omega
theorem nJ:∀c∈[48,49,50,51,52,53,54,55,56,57],Ip cy ⟨#[c]⟩ 0 cy.length 1=[c-48]:=by decide+kernel
theorem Ap(c:Nat):fP (.str ⟨#[c]⟩) (.str cy) S=some (decide (48<=c/\c<=57)):=by show some (!(Ip cy ⟨#[c]⟩ 0 cy.length 1).isEmpty)=_;rw[StrLaws.found_one];congr 1;exact decide_eq_decide.mpr (nI c)
theorem tW(f:Flat S)(w:Str)(j:w.length<=a'):g_ [.str w] S=.ok (oD (dr w)) S:=by
 have E:aJ .len [.str w] S=.ok (.int w.length) S:=by show(if w.length<=a' then _ else _)=_;rw[if_pos j]
 refine aS rfl ?_ rfl f (by cases dr w<;>rfl);show af zf G0 ju [some (.str w)] S=_;have a:ao .Eq (.int (w.length:Int)) (.int 1) S=.ok (.bl ((w.length:Int)==1)) S:=rfl;have g:G0 "FIGURES"=some (.str cy):=rfl;by_cases h:w.length=1
 ·obtain⟨c,rfl⟩:=tU h;rw[nH];have b:ao .In (.str ⟨#[c]⟩) (.str cy) S=.ok (.bl (decide (48<=c/\c<=57))) S:=(show ao .In (.str ⟨#[c]⟩) (.str cy) S=a7 (fP (.str ⟨#[c]⟩) (.str cy) S) S from rfl).trans (by rw[Ap];rfl);have e:(((⟨#[c]⟩:Str).length:Int)==1)=HX:=by rw[h];rfl
  by_cases H:48<=c/\c<=57
  ·have d:fR .index cy [.str ⟨#[c]⟩] S=.ok (.int ((c:Int)-48)) S:=by
    show(match Ip cy ⟨#[c]⟩ 0 cy.length 1 with|i::_=>Res.ok (D.int i) S| []=>.fail)=_;rw[nJ c (by simpa using Hy c H)];show Res.ok (D.int (((c-48:Nat)):Int)) S=_;rw[show((c-48:Nat):Int)=(c:Int)-48 by omega]
   rw[show cJ c=some ((c:Int)-48)from if_pos H];simp[ju,af,am,ah,al,aj,Res.bind,Res.noErr,av,E,a,g,b,e,d,H,oD]
  ·rw[show cJ c=none from if_neg H];simp[ju,af,am,ah,al,aj,Res.bind,Res.noErr,av,E,a,g,b,e,H,oD]
 ·rw[tV h];have e:((w.length:Int)==1)=HY:=by rw[beq_eq_false_iff_ne];omega
  simp[ju,af,am,ah,al,aj,Res.bind,Res.noErr,av,E,a,e,oD]
noncomputable def bY(w:Str):Option (Option Int×Option Int):=match w.cps.toList with
 | [a,b,c]=>if b=45 then some (cJ a,cJ c)else none
 |_=>none
noncomputable def bi:Option (Option Int×Option Int)->D
 |some (p,q)=>.tup [oD p,oD q]
 |none=>.non
noncomputable def bj(w:Str):Option (Int×Int):=match bY w with
 |some (some p,some q)=>some (p,q)
 |_=>none
noncomputable def bd:Option (Int×Int)->D
 |some t=>aM t
 |none=>.non
theorem Aq{w:Str}(h:w.length=3):∃a b c,w=⟨#[a,b,c]⟩:=by
 obtain⟨a⟩:=w;have h:a.size=3:=h;obtain⟨l⟩:=a
 match l,h with
 | [a,b,c],_=>exact⟨a,b,c,rfl⟩
theorem Ar{w:Str}(h:w.length≠3):bY w=none:=by
 unfold bY;split
 ·rename_i a b c e;exact absurd (by show w.cps.size=3;rw[<-ZI,e];rfl) h
 ·rfl
theorem ef{w:Str}{i:Int}{c:Nat}(H:w.length<=a')(h:dU w.cps.toList i=some c):bb (.str w) (.int i) S=.ok (.str ⟨#[c]⟩) S:=by show(if w.length<=a' then(match dU w.cps.toList i with|some c=>Res.ok (D.str ⟨#[c]⟩) S|none=>.fail)else .fail)=_;rw[if_pos H,h]
theorem jN(b c:Nat):ao .NotEq (.str ⟨#[b]⟩) (.str ⟨#[c]⟩) S=.ok (.bl (!(decide (b=c)))) S:=by
 have e:bJ S bg (.str ⟨#[b]⟩) (.str ⟨#[c]⟩)=some ((⟨#[b]⟩:Str)==⟨#[c]⟩):=rfl
 have E:((⟨#[b]⟩:Str)==⟨#[c]⟩)=decide (b=c):=by
  by_cases h:b=c
  ·subst h;simp
  ·rw[Zx h,beq_eq_false_iff_ne];intro q;injection q with q
   injection q with q
   injection q with q
   exact h q
 show a7 ((bJ S bg (.str ⟨#[b]⟩) (.str ⟨#[c]⟩)).map not) S=_;rw[e,E];rfl
theorem As:("-":Str)=⟨#[45]⟩:=by decide+kernel
theorem GI(f:Flat S)(w:Str)(H:w.length<=a'):mI [.str w] S=.ok (bi (bY w)) S:=by
 have E:aJ .len [.str w] S=.ok (.int w.length) S:=by show(if w.length<=a' then _ else _)=_;rw[if_pos H]
 have d:ao .NotEq (.int (w.length:Int)) (.int 3) S=.ok (.bl (!((w.length:Int)==3))) S:=rfl;refine aS rfl ?_ rfl f ?_
 rotate_left
 ·unfold bi;split
  ·rename_i p q _;cases p<;>cases q<;>rfl
  ·rfl
 show af sA G0 jv [some (.str w)] S=_;by_cases h:w.length=3
 ·obtain⟨a,b,c,rfl⟩:=Aq h;have e:(((⟨#[a,b,c]⟩:Str).length:Int)==3)=HX:=by rw[h];rfl
  have j:bb (.str ⟨#[a,b,c]⟩) (.int 0) S=.ok (.str ⟨#[a]⟩) S:=ef H rfl;have I:bb (.str ⟨#[a,b,c]⟩) (.int 1) S=.ok (.str ⟨#[b]⟩) S:=ef H rfl;have k:bb (.str ⟨#[a,b,c]⟩) (.int 2) S=.ok (.str ⟨#[c]⟩) S:=ef H rfl;have i:(1:Nat)<=a':=by decide
  have f0:=tW f ⟨#[a]⟩ i;have F:=tW f ⟨#[c]⟩ i;rw[nH]at f0 F;have n:=jN (S:=S) b 45;rw[<-As]at n;by_cases g:b=45
  ·subst g;rw[show bY ⟨#[a,45,c]⟩=some (cJ a,cJ c)from rfl];simp[jv,af,am,ah,al,aj,Res.bind,Res.noErr,av,E,d,e,j,I,k,n,Fi,f0,F,bi]
  ·rw[show bY ⟨#[a,b,c]⟩=none from if_neg g];simp[jv,af,am,ah,al,aj,Res.bind,Res.noErr,av,E,d,e,I,n,g,bi]
 ·rw[Ar h];have e:((w.length:Int)==3)=HY:=by rw[beq_eq_false_iff_ne];omega
  simp[jv,af,am,ah,al,aj,Res.bind,Res.noErr,av,E,d,e,bi]
theorem Au(c:Nat):ao .NotIn (.str ⟨#[c]⟩) (.str cy) S=.ok (.bl (!(decide (48<=c/\c<=57)))) S:=(show ao .NotIn (.str ⟨#[c]⟩) (.str cy) S=a7 ((fP (.str ⟨#[c]⟩) (.str cy) S).map not) S from rfl).trans (by rw[Ap];rfl)
theorem nK:∀c∈[48,49,50,51,52,53,54,55,56,57],intText? ⟨#[c]⟩=some ((c:Int)-48):=by decide+kernel
theorem tX{c:Nat}(h:48<=c/\c<=57):aJ .int [.str ⟨#[c]⟩] S=.ok (.int ((c:Int)-48)) S:=by show(if(⟨#[c]⟩:Str).length<=640 then(match intText? ⟨#[c]⟩with|some n=>Res.ok (D.int n) S|none=>.fail)else .fail)=_;rw[if_pos (by show(1:Nat)<=640;decide),nK c (by simpa using Hy c h)]
theorem GJ(l:Flat S)(w:Str)(g:w.length<=a'):mK [.str w] S=.ok (bd (bj w)) S:=by
 have E:aJ .len [.str w] S=.ok (.int w.length) S:=by show(if w.length<=a' then _ else _)=_;rw[if_pos g]
 have d:ao .NotEq (.int (w.length:Int)) (.int 3) S=.ok (.bl (!((w.length:Int)==3))) S:=rfl;refine aS rfl ?_ rfl l (by unfold bd;split<;>rfl);show af zj G0 f6 [some (.str w)] S=_;unfold bj;by_cases h:w.length=3
 ·obtain⟨a,b,c,rfl⟩:=Aq h;have e:(((⟨#[a,b,c]⟩:Str).length:Int)==3)=HX:=by rw[h];rfl
  have I:bb (.str ⟨#[a,b,c]⟩) (.int 0) S=.ok (.str ⟨#[a]⟩) S:=ef g rfl;have i:bb (.str ⟨#[a,b,c]⟩) (.int 1) S=.ok (.str ⟨#[b]⟩) S:=ef g rfl;have k:bb (.str ⟨#[a,b,c]⟩) (.int 2) S=.ok (.str ⟨#[c]⟩) S:=ef g rfl;have n:=jN (S:=S) b 45;rw[<-As]at n;have m:ao .NotIn (.str ⟨#[a]⟩) (.str "0123456789") S=_:=Au (S:=S) a;have M:ao .NotIn (.str ⟨#[c]⟩) (.str "0123456789") S=_:=Au (S:=S) c;by_cases j:b=45
  ·subst j;rw[show bY ⟨#[a,45,c]⟩=some (cJ a,cJ c)from rfl];by_cases H:48<=a/\a<=57
   ·rw[show cJ a=some ((a:Int)-48)from if_pos H];by_cases f:48<=c/\c<=57
    ·rw[show cJ c=some ((c:Int)-48)from if_pos f];have J:=tX (S:=S) H;have o:=tX (S:=S) f;simp[f6,af,am,ah,al,aj,Res.bind,Res.noErr,av,E,d,e,I,i,k,n,m,M,H,f,J,o,bd,aM]
    ·rw[show cJ c=none from if_neg f];simp[f6,af,am,ah,al,aj,Res.bind,Res.noErr,av,E,d,e,I,i,k,n,m,M,H,f,bd]
   ·rw[show cJ a=none from if_neg H];simp[f6,af,am,ah,al,aj,Res.bind,Res.noErr,av,E,d,e,I,i,n,m,H,bd]
  ·rw[show bY ⟨#[a,b,c]⟩=none from if_neg j];simp[f6,af,am,ah,al,aj,Res.bind,Res.noErr,av,E,d,e,i,n,j,bd]
 ·rw[Ar h];have e:((w.length:Int)==3)=HY:=by rw[beq_eq_false_iff_ne];omega
  simp[f6,af,am,ah,al,aj,Res.bind,Res.noErr,av,E,d,e,bd]
theorem nL(b:Flat S)(N:Li):∃c:Int,hG [.scr (N.map D.int),.int 0] S=.ok (.int c) S:=by
 cases N with
 |nil=>exact⟨0,aS rfl rfl rfl b rfl⟩
 |cons n N=>
  refine⟨n,aS rfl ?_ rfl b rfl⟩;have h:eQ [.scr ((n::N).map D.int)] S=.ok (.int ((n::N).map D.int).length) S:=rfl
  have H:ao .Lt (.int 0) (.int ((n::N).map D.int).length) S=.ok (.bl HX) S:=by have:ao .Lt (.int 0) (.int ((n::N).map D.int).length) S=.ok (.bl (decide ((0:Int)<((n::N).map D.int).length))) S:=rfl;simp_all
  have a:bb (.scr ((n::N).map D.int)) (.int 0) S=.ok (.int n) S:=by
   unfold bb;have:dU ((n::N).map D.int) 0=some (.int n):=by unfold dU gD;simp
   simp only[aA,this]
  generalize(n::N).map D.int=x at h H a;simp[zl,af,am,al,ah,aj,Res.bind,Res.noErr,av,aJ,h,H,a]
theorem tY(h:Flat S)(c:Int):∃b:Int,hH [.int c] S=.ok (.ref S.length) (S++[[.int c,.int b]]):=by refine⟨if decide ((10:Int)^18<=c)=HX then 1 else 0,?_⟩;have e:af sF G0 sE ([D.int c].map some++Ic (sD.length-1) none) S=.ok (.ret (.ref S.length)) (S++[[.int c,.int (if decide ((10:Int)^18<=c)=HX then 1 else 0)]]):=rfl;show aH sF G0 sE sD.length 1 [.int c] S=_;unfold aH;rw[if_pos (show [D.int c].length=1 from rfl),e];show d9 S.length (.ref S.length) _=_;unfold d9;rw[List.take_left' rfl,if_pos h.all,if_neg (by unfold bP;simp)];simp[bt,bP]
section
variable {l:List D}{a:Int}{o:D}
theorem pp:aj Φ G0 [] ρ S=.ok [] S:=by rw[aj]
theorem f_{e:CE}{es:List CE}(h1:ah Φ G0 e ρ S=.ok d S)(h:aj Φ G0 es ρ S=.ok ds S):aj Φ G0 (e::es) ρ S=.ok (d::ds) S:=by simp only[aj,h1,h,Res.bind]
theorem Hz{es:List CE}(h:aj Φ G0 es ρ S=.ok ds S):ah Φ G0 (.tup es) ρ S=.ok (.tup ds) S:=by simp only[ah,h,Res.bind]
theorem tZ{es:List CE}(h:aj Φ G0 es ρ S=.ok ds S):ah Φ G0 (.lst HY es) ρ S=.ok (.lst ds) S:=by simp only[ah,h,Res.bind,ZQ,if_false]
theorem d1{e:CE}{i:Int}(h:ah Φ G0 e ρ S=.ok (.int i) S):ah Φ G0 (.bin .Add e (.lit (.int 1))) ρ S=.ok (.int (i+1)) S:=f9 h aZ rfl
variable (h39:ρ[3]?=some (some (.tup l)))(h49:ρ[4]?=some (some (.int (k:Int))))
include h39 h49
end
section
variable {l:List D}{a:Int}{o:D}
variable (h29:ρ[2]?=some (some (.int m)))(h39:ρ[3]?=some (some (.tup (ak ts))))(hl9:ts.length<=28)
include h29 h39 hl9
end
section
variable {l:List D}{a:Int}{o:D}
end
section
variable {l:List D}{a:Int}{o:D}
end
section
variable {ts:List Ti}{G:List (List Ti)}
end
section
variable {ts:List Ti}{G:List (List Ti)}{x0 x1 x6:Option D}
end
section
variable {ts p:List Ti}
end
section
variable {ts p:List Ti}
end
section
variable {w p:D}{ps:Lq}
theorem t4{np:Nat}{x:Exc}(a:ds.length=np)(h:af Φ Γ body (ds.map some++Ic (n-np) none) S=.err x S)(H:Flat S):aH Φ Γ body n np ds S=.err x S:=by unfold aH;rw[if_pos a,h];dsimp only;rw[JT,if_pos H.all]
variable {x:Exc}
variable {a b c:D}{i:Int}
theorem HV:ao .Eq (.int i) (.int 0) S=.ok (.bl (i==0)) S:=rfl
theorem HW:ao .Lt (.int i) (.int 6) S=.ok (.bl (decide (i<6))) S:=rfl
end
noncomputable def ay(x:Str):Ls:=Ks x " "
theorem ek(a b:Str):(a++b).length=a.length+b.length:=by show(a.cps++b.cps).size=_;rw[Array.size_append];rfl
theorem Aw(y:Str):∀{ws:Ls} {p:Str},p∈ws->p.length<=(Ku y ws).length
 | [x],p,h=>by rw[Jd.mp h];exact Zf _
 |x::z::r,p,h=>by
  show p.length<=(x++y++Ku y (z::r)).length;rw[ek,ek];rcases Zj.mp h with rfl|h
  ·omega
  ·have:=Aw y h;omega
theorem Ax(y:Str)(h:y.length=1):∀ws:Ls,ws.length<=(Ku y ws).length+1
 | []=>ZT _
 | [x]=>LH _ _
 |x::z::r=>by show(z::r).length+1<=(x++y++Ku y (z::r)).length+1;have:=Ax y h (z::r);rw[ek,ek];omega
theorem jO(x:Str):Ku " " (ay x)=x:=StrLaws.join_split x " "
theorem t5(x:Str):ay x≠[]:=by
 intro h;have e:=jO x;rw[h]at e;have E:x.length=0:=by rw[<-e];rfl
 have:ay x=[x]:=if_pos (by rw[E];rfl);rw[this]at h;cases h
theorem t6{x p:Str}(h:p∈ay x):p.length<=x.length:=by have:=Aw " " h;rw[jO]at this;exact this
theorem Ay(x:Str):(ay x).length<=x.length+1:=by have:=Ax " " rfl (ay x);rw[jO]at this;exact this
theorem t7{i:Nat}{x:Str}(b:x.length<=1000)(h:ρ[i]?=some (some (.str x))):ah Φ G0 (.smt .split (.var i) [.lit (.str " ")]) ρ S=.ok (.lst ((ay x).map D.str)) S:=by
 have e:fR .split x [.str " "] S=.ok (.lst ((ay x).map D.str)) S:=by
  have H:=Ay x;have a:(1000:Nat)<=a':=by decide
  show(if(" ":Str).length≠0/\x.length<=a'/\(ay x).length<=10000 then Res.ok (D.lst ((ay x).map D.str)) S else .fail)=_;rw[if_pos ⟨by decide,by omega,by omega⟩]
 simp only[ah,aj,h,Res.bind,e,Res.noErr]
noncomputable def jP:Exc:=⟨"NoText",[]⟩
theorem nM(H:Flat S)(x:Str):jx [.str x] S=.ok .non S:=by refine run_next (ρ:=[some (.str x)]) rfl ?_ rfl H;have h:aJ .isinst [.str x,.ty "str"] S=.ok (.bl HX) S:=rfl;show af sB G0 jw [some (.str x)] S=.ok (.next [some (.str x)]) S;simp[jw,af,am,ah,al,aj,Res.bind,Res.noErr,h,aY]
theorem nO(H:Flat S)(h:aJ .isinst [d,.ty "str"] S=.ok (.bl HY) S):jx [d] S=.err jP S:=by refine t4 rfl ?_ H;show af sB G0 jw [some d] S=_;simp[jw,af,am,ah,al,aj,Res.bind,Res.noErr,h,aY,jP]
theorem GK:mJ=[.expr (.call "must_be_text" [.var 0]),.asg 1 (.smt .split (.var 0) [.lit (.str " ")]),.asg 2 zg,.ite (.bnot (.call "is_web" [.var 2])) [.raise_ "NoText" [.lit (.str "this text writes no web")]] [],.ret (.var 2)]:=rfl
noncomputable def dN(w:Str)(ws:Ls):D:=.tup [oD (dr w),.tup (ws.map λp=>bi (bY p))]
theorem GL(o:Option (Option Int×Option Int)):bP 0 (bi o)=HX:=by
 match o with
 |none=>rfl
 |some (p,q)=>cases p<;>cases q<;>rfl
theorem GN(w:Str)(ws:Ls):bP 0 (dN w ws)=HX:=by
 have h:∀l:Ls,bt 0 (l.map λp=>bi (bY p))=HX:=λl=>by
  induction l with
  |nil=>rfl
  |cons a l i=>show(bP 0 _&&bt 0 _)=HX;rw[GL,i];rfl
 show(bP 0 (oD (dr w))&&(bt 0 (ws.map λp=>bi (bY p))&&HX))=HX;rw[h];cases dr w<;>rfl
theorem Az{i:Nat}{w:Str}{ws:Ls}{f:FT}(j:Flat S){e:CE}{nm:Str}{g:Str->D}(hw:ρ[i]?=some (some (.lst ((w::ws).map D.str))))(k:ws.length<=1000)(b:∀p∈ws,ah f G0 e [some (.str p)] S=.ok (g p) S):
  ah f G0 (.comp HY [nm] [none] (.var 0) (.seq (.sl (.var i) [.lit (.int 1)] [])) [] (.emit e)) ρ S=.ok (.lst (ws.map g)) S:=by
 refine jJ (ds:=ws) (h:=D.str) (r0:=[none]) (rs:=λp=>[some (.str p)]) ?_ rfl (λ_ _=>rfl) (by omega) b
 have E:gG (.lst ((w::ws).map D.str)) (some 1) none S=.ok (.lst (ws.map D.str)) S:=by
  show Res.ok (D.lst (cM ((w::ws).map D.str) (some 1) none)) S=_;congr 2;unfold cM;have H:HT.bn ((w::ws).map D.str).length 0 (some 1)=1:=by show HT.bn _ 0 (some 1)=1;unfold HT.bn;simp
  have a:HT.bn ((w::ws).map D.str).length ((w::ws).map D.str).length none=ws.length+1:=by unfold HT.bn;simp
  rw[H,a];show((ws.map D.str)).take ws.length=_;exact JG (by simp)
 refine jK (d:=.lst (ws.map D.str)) ?_ rfl;have t:ck [D.int 1]=some (some 1):=rfl;have T:ck []=some none:=rfl;simp only[ah,aj,hw,Res.bind,dD,t,T,E,Res.noErr]
theorem AA{w:Str}{ws:Ls}:bb (.lst ((w::ws).map D.str)) (.int 0) S=.ok (.str w) S:=by
 have e:dU ((w::ws).map D.str) 0=some (.str w):=by simp[dU,gD]
 show(match dU ((w::ws).map D.str) 0 with|some y=>Res.ok y S|none=>.fail)=_;rw[e]
theorem t8(h:Flat S){x:Str}{w:Str}{ws:Ls}(c:ay x=w::ws)(l:x.length<=1000):ah ei G0 zg [some (.str x),some (.lst ((w::ws).map D.str)),none] S=.ok (dN w ws) S:=by
 have k:(1000:Nat)<=a':=by decide
 have hw:∀p∈w::ws,p.length<=a':=λp H=>by have:=t6 (x:=x) (p:=p) (by rw[c];exact H);omega
 have d:=Ay x;rw[c,Zp]at d;have a:ah ei G0 (.call "figure" [.idx (.var 1) (.lit (.int 0))]) [some (.str x),some (.lst ((w::ws).map D.str)),none] S=.ok (oD (dr w)) S:=by have I:bb (.lst ((w::ws).map D.str)) (.int 0) S=.ok (.str w) S:=AA;have f0:=tW h w (hw w Ze);simp only[ah,aj,ZB,Zn,Res.bind,I,Res.noErr,Fm,f0]
 have b:=Az (f:=ei) (ρ:=[some (.str x),some (.lst ((w::ws).map D.str)),none]) (i:=1) (nm:="word") h (g:=λp=>bi (bY p)) (e:=.call "read_tie" [.var 0]) rfl (by omega) λp H=>by have F:=GI h p (hw p (Zc _ H));simp only[ah,aj,Zn,Res.bind,Fn,F]
 have j:aJ .tuple [.lst (ws.map λp=>bi (bY p))] S=.ok (.tup (ws.map λp=>bi (bY p))) S:=rfl;unfold zg;generalize CE.comp HY ["word"] [none] (.var 0) (.seq (.sl (.var 1) [.lit (.int 1)] [])) [] (.emit (.call "read_tie" [.var 0]))=q at b⊢;generalize CE.call "figure" [.idx (.var 1) (.lit (.int 0))]=Q at a⊢;simp only[ah,aj,Res.bind,a,b,j,Res.noErr,dN]
theorem t9(H:Flat S){x:Str}{w:Str}{ws:Ls}{k:Bool}(f:ay x=w::ws)(c:x.length<=1000)(h:eX [dN w ws] S=.ok (.bl k) S):eY [.str x] S=if k=HX then .ok (dN w ws) S else .err jP S:=by
 have b:∀{r},af ei G0 mJ [some (.str x),none,none] S=r->af ei G0 [.ite (.bnot (.call "is_web" [.var 2])) [.raise_ "NoText" [.lit (.str "this text writes no web")]] [],.ret (.var 2)] [some (.str x),some (.lst ((w::ws).map D.str)),some (dN w ws)] S=r:=λ{r} e=>by
  rw[<-e,GK];refine Eq.symm ((bH (ρ':=[some (.str x),none,none]) (S':=S) ?_).trans ((b4 (d:=.lst ((w::ws).map D.str)) (S':=S) ?_).trans (b4 (d:=dN w ws) (S':=S) ?_)))
  ·have:=nM H x;simp only[am,ah,aj,Zn,Res.bind,zh,this]
  ·rw[<-f];exact t7 c rfl
  ·exact t8 H f c
 cases k with
 |true=>
  rw[if_pos rfl];refine aS rfl ?_ rfl H ?_
  ·refine(b rfl).symm.trans ?_;simp[af,am,ah,al,aj,Res.bind,zi,h,aY]
  ·exact GN w ws
 |false=>rw[if_neg (by decide)];refine t4 rfl ?_ H;refine(b rfl).symm.trans ?_;simp[af,am,ah,al,aj,Res.bind,zi,h,aY,jP]
theorem jQ(o:Option Int):Kn (oD o):=by
 cases o with
 |none=>exact .inr (.inr (.inr (.inl rfl)))
 |some i=>exact .inl ⟨i,rfl⟩
theorem GO(o:Option (Option Int×Option Int)):Item (bi o):=by
 match o with
 |none=>exact .inr ⟨.inr (.inr (.inr (.inl rfl))),λX e=>nomatch e⟩
 |some (some p,some q)=>exact .inl ⟨(p,q),rfl⟩
 |some (none,q)=>refine .inr ⟨.inr (.inr (.inr (.inr (.inl ⟨_,rfl⟩)))),λX e=>?_⟩;cases e;refine⟨λx h=>?_,show(2:Nat)<=1000 by decide,.inr rfl⟩;simp only[Zj,Zy,or_false]at h;rcases h with rfl|rfl<;>exact jQ _
 |some (some p,none)=>refine .inr ⟨.inr (.inr (.inr (.inr (.inl ⟨_,rfl⟩)))),λX e=>?_⟩;cases e;refine⟨λx h=>?_,show(2:Nat)<=1000 by decide,.inr rfl⟩;simp only[Zj,Zy,or_false]at h;rcases h with rfl|rfl<;>exact jQ _
theorem nP{w:Str}(h:e6 m (bi (bY w))=HX):(bj w).isSome=HX:=by
 unfold bj
 match e:bY w with
 |none=>rw[e]at h;cases h
 |some (some p,some q)=>rfl
 |some (none,q)=>rw[e]at h;cases h
 |some (some p,none)=>rw[e]at h;cases h
theorem t_{w:Str}{t:Int×Int}(h:bj w=some t):bi (bY w)=aM t:=by
 unfold bj at h;split at h
 ·rename_i p q e;cases h;rw[e];rfl
 ·cases h
theorem AB:∀{ws:Ls},(ws.all λp=>(bj p).isSome)=HX->∃ts,(ws.map λp=>bi (bY p))=ak ts/\(ws.map λp=>bd (bj p))=ak ts
 | [],_=>⟨[],rfl,rfl⟩
 |w::ws,h=>by
  rw[Ji,ZR]at h;obtain⟨ts,a,b⟩:=AB h.2;obtain⟨t,H⟩:=I3.mp h.1;refine⟨t::ts,?_,?_⟩
  ·rw[ZH,a,t_ H];rfl
  ·rw[ZH,b,H];rfl
theorem GP(a:Flat S){w:Str}{ws:Ls}(c:dr w=some m)(f:1<=m/\m<=8)(d:ws.length<=1000)(h:(ws.all λp=>(bj p).isSome)=HY):eX [dN w ws] S=.ok (.bl HY) S:=by
 have H:((ws.map λp=>bi (bY p)).all (e6 m))=HY:=by rw[Ki];intro z;rw[Zl]at z;rw[MZ]at h;obtain⟨p,g,q⟩:=h;exact q (nP (z _ (Zo.mpr ⟨p,g,rfl⟩)))
 have:=tO (S:=S) (m:=m) (es:=ws.map λp=>bi (bY p)) (k:=HY) a f (λe b=>by obtain⟨p,_,rfl⟩:=Zo.mp b;exact GO _) (by simpa using d) (λz=>by rw[H]at z;cases z);rw[H]at this;unfold dN;rw[c];exact this
theorem nQ(H:Flat S){w:Str}{ws:Ls}(h:∀m,dr w=some m->¬(1<=m/\m<=8)):eX [dN w ws] S=.ok (.bl HY) S:=by
 refine nD H (jQ _) (.inl ?_);cases e:dr w with
 |none=>rfl
 |some m=>exact Zx (h m e)
noncomputable def l8:Ls:=["1","2","3","4","5","6","7","8"]
theorem jR(w:Str):w∈l8↔∃m,dr w=some m/\1<=m/\m<=8:=by
 constructor
 ·intro h;simp only[l8,Zj,Zy,or_false]at h;rcases h with rfl|rfl|rfl|rfl|rfl|rfl|rfl|rfl
  ·exact⟨1,by decide+kernel,by decide,by decide⟩
  ·exact⟨2,by decide+kernel,by decide,by decide⟩
  ·exact⟨3,by decide+kernel,by decide,by decide⟩
  ·exact⟨4,by decide+kernel,by decide,by decide⟩
  ·exact⟨5,by decide+kernel,by decide,by decide⟩
  ·exact⟨6,by decide+kernel,by decide,by decide⟩
  ·exact⟨7,by decide+kernel,by decide,by decide⟩
  ·exact⟨8,by decide+kernel,by decide,by decide⟩
 ·rintro⟨m,h,a,b⟩;by_cases H:w.length=1
  ·obtain⟨c,rfl⟩:=tU H;rw[nH]at h;unfold cJ at h;split at h
   ·cases h;have:c=49\/c=50\/c=51\/c=52\/c=53\/c=54\/c=55\/c=56:=by omega
    rcases this with rfl|rfl|rfl|rfl|rfl|rfl|rfl|rfl<;>decide+kernel
   ·cases h
  ·rw[tV H]at h;cases h
theorem nR(w:Str):ao .NotIn (.str w) (.lst (l8.map D.str)) S=.ok (.bl (!decide (w∈l8))) S:=by
 have e:fP (.str w) (.lst (l8.map D.str)) S=some (decide (w∈l8)):=by
  show ff ((l8.map D.str).map λy=>bJ S bg y (.str w))=_;rw[I7];show ff (l8.map λy=>some (y==w))=_;rw[zO];congr 1;rw[Jg,Kr,decide_eq_true_eq];constructor
  ·rintro⟨y,H,q⟩;rw[<-ZX q];exact H
  ·exact λh=>⟨w,h,by simp⟩
 exact(show ao .NotIn (.str w) (.lst (l8.map D.str)) S=a7 ((fP (.str w) (.lst (l8.map D.str)) S).map not) S from rfl).trans (by rw[e];rfl)
theorem nT(ws:Ls):ao .In .non (.lst (ws.map λp=>bd (bj p))) S=.ok (.bl (!(ws.all λp=>(bj p).isSome))) S:=by
 have e:fP .non (.lst (ws.map λp=>bd (bj p))) S=some (!(ws.all λp=>(bj p).isSome)):=by
  show ff ((ws.map λp=>bd (bj p)).map λy=>bJ S bg y .non)=_;rw[I7];have:(λy=>bJ S bg y .non)∘(λp=>bd (bj p))=λp=>some (!(bj p).isSome):=by funext p;show bJ S bg (bd (bj p)) .non=_;cases bj p<;>rfl
  rw[this,zO];congr 1
  induction ws with
  |nil=>rfl
  |cons a l i=>rw[List.any_cons,Ji,i];cases(bj a).isSome<;>simp
 exact(show ao .In .non (.lst (ws.map λp=>bd (bj p))) S=a7 (fP .non (.lst (ws.map λp=>bd (bj p))) S) S from rfl).trans (by rw[e];rfl)
theorem AD:mM=[.asg 1 (.smt .split (.var 0) [.lit (.str " ")]),.ite Fx [.ret (.lit (.non))] [],.asg 2 Fy,.ite Bi [.ret (.lit (.non))] [],.ret uy]:=rfl
theorem ua{c:CE}(h:al Φ G0 c ρ S=.ok HX S):af Φ G0 (.ite c [.ret (.lit (.non))] []::cs) ρ S=.ok (.ret .non) S:=by simp[af,am,ah,h,Res.bind]
theorem jS{c:CE}{a:List CS}(h:al Φ G0 c ρ S=.ok HY S):af Φ G0 (.ite c a []::cs) ρ S=af Φ G0 cs ρ S:=by simp[af,am,h,Res.bind]
theorem AE{x:Str}{w:Str}{ws:Ls}:ah Φ G0 (.idx (.var 1) (.lit (.int 0))) [some (.str x),some (.lst ((w::ws).map D.str)),z] S=.ok (.str w) S:=ej (aE rfl) aZ AA
theorem nU{x:Str}{w:Str}{ws:Ls}:al Φ G0 Fx [some (.str x),some (.lst ((w::ws).map D.str)),z] S=.ok (!decide (w∈l8)) S:=by
 have h:ah Φ G0 (.lst HY [.lit (.str "1"),.lit (.str "2"),.lit (.str "3"),.lit (.str "4"),.lit (.str "5"),.lit (.str "6"),.lit (.str "7"),.lit (.str "8")]) [some (.str x),some (.lst ((w::ws).map D.str)),z] S=.ok (.lst (l8.map D.str)) S:=by simp[ah,aj,Res.bind,l8]
 exact nB AE h (nR w)
theorem GQ(H:Flat S){x:Str}{w:Str}{ws:Ls}(i:ay x=w::ws)(n:x.length<=1000)(s:ws.length<64):
  (hE [.str x] S=.ok .non S/\eY [.str x] S=.err jP S)\/∃m ts,hE [.str x] S=.ok (bX m ts) S/\eY [.str x] S=.ok (bX m ts) S:=by
 have X:(1000:Nat)<=a':=by decide
 have hw:∀p∈w::ws,p.length<=a':=λp b=>by have:=t6 (x:=x) (p:=p) (by rw[i];exact b);omega
 have I:∀{C:List CS},af c9 G0 (.asg 1 (.smt .split (.var 0) [.lit (.str " ")])::C) [some (.str x),none,none] S=af c9 G0 C [some (.str x),some (.lst ((w::ws).map D.str)),none] S:=λ{C}=>b4 (d:=.lst ((w::ws).map D.str)) (S':=S) (by rw[<-i];exact t7 n rfl);have non:∀{r:Res Fl},af c9 G0 mM [some (.str x),none,none] S=.ok (.ret .non) S->hE [.str x] S=.ok .non S:=λh=>aS rfl h rfl H rfl;have l:=nU (Φ:=c9) (S:=S) (x:=x) (w:=w) (ws:=ws) (z:=none);by_cases j:w∈l8
 ·obtain⟨m,a,o⟩:=(jR w).mp j;rw[ZO j]at l;have L:ah c9 G0 Fy [some (.str x),some (.lst ((w::ws).map D.str)),none] S=.ok (.lst (ws.map λp=>bd (bj p))) S:=Az (g:=λp=>bd (bj p)) H rfl (by omega) λp b=>by have K:=GJ H p (hw p (Zc _ b));simp only[ah,aj,Zn,Res.bind,Fz,K]
  have G:af c9 G0 mM [some (.str x),none,none] S=af c9 G0 [.ite Bi [.ret (.lit (.non))] [],.ret uy] [some (.str x),some (.lst ((w::ws).map D.str)),some (.lst (ws.map λp=>bd (bj p)))] S:=by rw[AD,I,jS l];exact b4 L
  have M:=nT (S:=S) ws;have f:al c9 G0 (.cmp .In (.lit (.non)) (.var 2)) [some (.str x),some (.lst ((w::ws).map D.str)),some (.lst (ws.map λp=>bd (bj p)))] S=.ok (!(ws.all λp=>(bj p).isSome)) S:=nB aZ (aE rfl) M;cases b:ws.all λp=>(bj p).isSome with
  |false=>
   rw[b]at f;refine .inl ⟨non (r:=.fail) (G.trans (ua ?_)),?_⟩
   ·exact gv f
   ·have:=t9 H i n (GP H a o (by omega) b);exact this
  |true=>
   rw[b]at f;obtain⟨ts,E,J⟩:=AB b;have v:(ak ts).length<64:=by rw[<-E,Zk];exact s
   obtain⟨k,R,T⟩:=tR (S:=S) (m:=m) (es:=ak ts) H o (λe P=>by obtain⟨t,_,rfl⟩:=Zo.mp P;exact .inl ⟨t,rfl⟩) v;have B:dN w ws=bX m ts:=by unfold dN;rw[a,E];rfl
   have u:=t9 (k:=k) H i n (by rw[B];exact R);rw[B]at u;obtain⟨c,rfl⟩:∃c,w=⟨#[c]⟩:=tU (by refine Lr λh=>?_;rw[tV h]at a;cases a)
   have O:aJ .int [.str ⟨#[c]⟩] S=.ok (.int m) S:=by
    rw[nH]at a;unfold cJ at a;split at a
    ·rename_i N;cases a;exact tX N
    ·cases a
   rw[J]at G f;have F:ah c9 G0 uy [some (.str x),some (.lst ((⟨#[c]⟩::ws).map D.str)),some (.lst (ak ts))] S=.ok (bX m ts) S:=by have y:=AE (Φ:=c9) (S:=S) (x:=x) (w:=⟨#[c]⟩) (ws:=ws) (z:=some (.lst (ak ts)));have Q:aJ .tuple [.lst (ak ts)] S=.ok (.tup (ak ts)) S:=rfl;unfold uy;generalize CE.idx (.var 1) (.lit (.int 0))=q at y⊢;simp only[ah,aj,y,Res.bind,O,Res.noErr,ZB,Zn,Q];rfl
   have A:al c9 G0 Bi [some (.str x),some (.lst ((⟨#[c]⟩::ws).map D.str)),some (.lst (ak ts))] S=.ok (!k) S:=by refine e5 f (bw (Ah FA F T))
   cases k with
   |false=>exact .inl ⟨non (r:=.fail) (G.trans (ua A)),u⟩
   |true=>refine .inr ⟨m,ts,?_,u⟩;refine aS rfl ?_ rfl H (sU m ts);exact G.trans ((jS A).trans (cI (fI F)))
 ·rw[Zx j]at l;refine .inl ⟨non (r:=.fail) ?_,?_⟩
  ·rw[AD,I];exact ua l
  ·have:=t9 H i n (nQ H λm o q=>j ((jR w).mpr ⟨m,o,q⟩));exact this
theorem AF:∀n,bq n=K91.bq n
 |0=>rfl
 |n+1=>by show aH (tbl [("_law_same",bq n)]) G0 ee dJ.length 2=_;rw[AF n];rfl
theorem AG(h:Flat S)(n:Nat)(i:Int):K91.bq (n+1) [.int i,.int i] S=.ok (.bl HX) S:=by rw[K91.Ag];exact Gj h n i
theorem GR(h:Flat S)(m:Int)(ts:Lq):jA [bX m ts,bX m ts] S=.ok (.bl HX) S:=by
 show bq 6 _ S=_;rw[AF];refine K91.tJ h λz a=>?_;simp only[Zj,Zy,or_false]at a;rcases a with rfl|rfl
 ·exact AG h 4 m
 ·refine K91.tJ h λt b=>?_;obtain⟨t,_,rfl⟩:=Zo.mp b;refine K91.tJ h λy H=>?_;simp only[Zj,Zy,or_false]at H;rcases H with rfl|rfl<;>exact AG h 2 _
theorem GU(d:Flat S)(n:Nat)(x:Str):bq (n+1) [.str x,.str x] S=.ok (.bl HX) S:=by
 show aH (tbl [("_law_same",bq n)]) G0 ee dJ.length 2 _ S=_;refine aS rfl ?_ rfl d rfl;have h:bS [.str x,.ty "bool"] S=.ok (.bl HY) S:=rfl;have H:bS [.str x,.ty "int"] S=.ok (.bl HY) S:=rfl;have c:bS [.str x,.ty "str"] S=.ok (.bl HX) S:=rfl
 have a:ao .Eq (.str x) (.str x) S=.ok (.bl HX) S:=by have:ao .Eq (.str x) (.str x) S=.ok (.bl (x==x)) S:=rfl;rw[this];simp
 have b:ao .Is (.str x) .non S=.ok (.bl HY) S:=rfl;simp[ee,dJ,af,am,al,ah,aj,Res.bind,Res.noErr,av,aJ,h,H,a,b,c,aY]
theorem GV(t:Flat S)(v:∀z∈xs,bq n [z,z] S=.ok (.bl HX) S):bq (n+1) [.lst xs,.lst xs] S=.ok (.bl HX) S:=by
 show aH (tbl [("_law_same",bq n)]) G0 ee dJ.length 2 _ S=_;refine aS rfl ?_ rfl t rfl;generalize h:D.lst xs=d;have i:bS [d,.ty "bool"] S=.ok (.bl HY) S:=by subst h;rfl
 have j:bS [d,.ty "int"] S=.ok (.bl HY) S:=by subst h;rfl
 have k:bS [d,.ty "str"] S=.ok (.bl HY) S:=by subst h;rfl
 have l:ao .Is d .non S=.ok (.bl HY) S:=by subst h;rfl
 have m:bS [d,.ty "list"] S=.ok (.bl HX) S:=by subst h;rfl
 have o:bS [d,.ty "tuple"] S=.ok (.bl HY) S:=by subst h;rfl
 have p:ao .NotEq (.bl HY) (.bl HY) S=.ok (.bl HY) S:=rfl;have q:ao .NotEq (.bl HX) (.bl HX) S=.ok (.bl HY) S:=rfl;have r:eQ [d] S=.ok (.int xs.length) S:=by subst h;simp[eQ,aA]
 have H:ao .NotEq (.int xs.length) (.int xs.length) S=.ok (.bl HY) S:=by have:ao .NotEq (.int xs.length) (.int xs.length) S=.ok (.bl (!((xs.length:Int)==xs.length))) S:=rfl;rw[this];simp
 have g:dz S d d=some (.items (H9 (λx y=>.tup [x,y]) xs xs)):=by subst h;rfl
 unfold ee;refine(bH (ρ':=[some d,some d,none,none]) (S':=S) (by simp[dJ,am,af,al,ah,aj,Res.bind,Res.noErr,av,aJ,l])).trans ?_;refine(bH (ρ':=[some d,some d,none,none]) (S':=S) (by simp[am,af,al,ah,aj,Res.bind,Res.noErr,av,aJ,i,aY])).trans ?_;refine(bH (ρ':=[some d,some d,none,none]) (S':=S) (by simp[am,af,al,ah,aj,Res.bind,Res.noErr,av,aJ,j,aY])).trans ?_;refine(bH (ρ':=[some d,some d,none,none]) (S':=S) (by simp[am,af,al,ah,aj,Res.bind,Res.noErr,av,aJ,k,aY])).trans ?_;refine(bH (ρ':=[some d,some d,none,none]) (S':=S) (by simp[am,af,al,ah,aj,Res.bind,Res.noErr,av,aJ,m,o,p,q,aY])).trans ?_;refine(bH (ρ':=[some d,some d,none,none]) (S':=S) (by simp[am,af,al,ah,aj,Res.bind,Res.noErr,av,aJ,r,H,aY])).trans ?_
 obtain⟨X,Y,e⟩:=K91.tH (S:=S) (a:=some d) (b:=some d) (step:=λx A S=>match aQ (.tup [.var 2,.var 3]) x A with
   |some c=>af (tbl [("_law_same",bq n)]) G0 [.ite (.bnot (.call "_law_same" [.var 2,.var 3])) [.ret (.lit (.bl HY))] []] c S
   |none=>.fail) xs none none (λz w x y=>by have u:=v z w;simp[aQ,cj,af,am,al,ah,aj,Res.bind,tbl,u,aY])
 have s:aU (tbl [("_law_same",bq n)]) G0 (.zip [.var 0,.var 1]) [some d,some d,none,none] S=.ok (.items (H9 (λx y=>.tup [x,y]) xs xs)) S:=by simp only[aU,aj,ah,Res.bind,Zn,ZB,g]
 refine(bH (ρ':=[some d,some d,X,Y]) (S':=S) ((hO s).trans e)).trans ?_;rfl
noncomputable def f':D:=.lst [.str "no",.str "text"]
theorem GW(h:Flat S):jA [f',f'] S=.ok (.bl HX) S:=by show bq (5+1) _ S=_;refine GV h λz H=>?_;simp only[Zj,Zy,or_false]at H;rcases H with rfl|rfl<;>exact GU h 4 _
theorem AH:mS=[.tryN "no" 1 [.ret (.call "read" [.var 0])] "_law_kinds" Bg y_]:=rfl
theorem nV{a v:D}(H:Flat S)(b:bP 0 v=HX)(h:eY [a] S=.ok v S):fG [a] S=.ok v S:=by refine aS rfl ?_ rfl H b;show af f7 G0 mS [some a,none] S=_;rw[AH];refine cI ?_;have e:af f7 G0 [.ret (.call "read" [.var 0])] [some a,none] S=.ok (.ret v) S:=cI (fI (by simp only[ah,aj,Zn,Res.bind,zt,h]));rw[am,e]
theorem AI{a:D}(b:Flat S)(h:eY [a] S=.err jP S):fG [a] S=.ok f' S:=by
 refine aS rfl ?_ rfl b rfl;show af f7 G0 mS [some a,none] S=_;rw[AH];refine cI ?_;have H:ah f7 G0 (.call "read" [.var 0]) [some a,none] S=.err jP S:=by simp only[ah,aj,Zn,Res.bind,zt,h]
 have e:af f7 G0 [.ret (.call "read" [.var 0])] [some a,none] S=.err jP S:=by rw[af,am,H];rfl
 have c:(Bg.zip y_).lookup jP.cls=some "text":=by decide+kernel
 have d:jP.fs=[]:=rfl;rw[am,e];simp only[d,c];rfl
theorem GX(h:Flat S){x:Str}(i:x.length<=1000)(f:(ay x).length<=64):hL [.str x] S=.ok (.bl HX) S:=by
 obtain⟨w,W,g⟩:∃w W,ay x=w::W:=by
  cases e:ay x with
  |nil=>exact absurd e (t5 x)
  |cons w W=>exact⟨w,W,rfl⟩
 rw[g,Zp]at f;refine aS rfl ?_ rfl h rfl;show af jC G0 mT [some (.str x),none] S=_;rcases GQ h g i (by omega)with⟨b,d⟩| ⟨m,t,b,d⟩
 ·have H:=AI h d;have a:=GW h;have c:ao .Is .non .non S=.ok (.bl HX) S:=rfl;have j:f'=D.lst [.str "no",.str "text"]:=rfl;rw[j]at H a;simp[mT,af,am,ah,al,aj,Res.bind,Res.noErr,av,zu,zv,zw,b,H,a,c]
 ·have H:=nV h (sU m t) d;have a:=GR h m t;have c:ao .Is (bX m t) .non S=.ok (.bl HY) S:=rfl;generalize bX m t=z at b H a c;simp[mT,af,am,ah,al,aj,Res.bind,Res.noErr,av,zu,zv,zw,b,H,a,c]
open Builtin.Str (strSliceIndices)
noncomputable def cnt(x:Str):Nat:=x.cps.toList.count 32
theorem jT(a b:Str):cnt (a++b)=cnt a+cnt b:=by show(a.cps++b.cps).toList.count 32=_;rw[Array.toList_append,List.count_append];rfl
theorem AJ:(" ":Str)=⟨#[32]⟩:=by decide+kernel
theorem GY:cnt " "=1:=by decide+kernel
theorem ub:∀(ws:Ls),ws≠[]->(∀p∈ws,cnt p=0)->cnt (Ku " " ws)+1=ws.length
 | [],h,_=>absurd rfl h
 | [x],_,h=>by show cnt x+1=1;rw[h x Ze]
 |x::z::r,_,h=>by have i:=ub (z::r) (by simp) λp H=>h p (Zc _ H);show cnt (x++" "++Ku " " (z::r))+1=(z::r).length+1;rw[jT,jT,h x Ze,GY];omega
theorem AK{x p:Str}(h:p∈ay x):cnt p=0:=by unfold ay at h;rw[AJ]at h;exact List.count_eq_zero.mpr (StrLaws.split_free x 32 p h)
theorem nW(x:Str):(ay x).length=cnt x+1:=by have:=ub (ay x) (t5 x) λp h=>AK h;rw[jO]at this;exact this.symm
def Sm(n k:Nat)(x:Str):Prop:=x.length<=n/\cnt x<=k
theorem GZ(H:Flat S){x:Str}(h:Sm 1000 63 x):hL [.str x] S=.ok (.bl HX) S:=
 GX H h.1 (by rw[nW];have:=h.2;omega)
theorem Sm.mono{N K:Nat}{x:Str}(h:Sm n k x)(h1:n<=N)(H:k<=K):Sm N K x:=⟨Zv h.1 h1,Zv h.2 H⟩
theorem Sm.app{m l:Nat}{x:Str}(h:Sm n k x)(h':Sm m l y):Sm (n+m) (k+l) (x++y):=by
 refine⟨?_,?_⟩
 ·rw[ek];have:=h.1;have:=h'.1;omega
 ·rw[jT];have:=h.2;have:=h'.2;omega
theorem uc{x:Str}(h:Sm n k x)(s:y.cps.toList.Sublist x.cps.toList):Sm n k y:=by refine⟨Zv ?_ h.1,Zv (s.count_le 32) h.2⟩;have:=s.length_le;show y.cps.size<=x.cps.size;simpa using this
theorem AL(l:List α)(a c:Nat):((H_ c).map (a+ ·)).filterMap (l[·]?)=(l.drop a).take c:=by
 have e:((H_ c).map (a+ ·)).filterMap (l[·]?)=(l.drop a).take c:=by
  induction c with
  |zero=>simp
  |succ c i=>rw[List.range_succ,Jh,List.filterMap_append,i,List.take_succ];congr 1;simp only[ZH,List.map_nil,JZ,List.filterMap_nil,MQ];cases l[a+c]? <;>rfl
 exact e
theorem G1(l:List α)(a c:Nat):(((H_ c).map (a+ ·)).filterMap (l[·]?)).Sublist l:=by rw[AL];exact(Ke _ _).trans (K' _ _)
theorem nX(l h:Option Int)(n:Nat):∃a c,strSliceIndices l h 1 n=(H_ c).map (a+ ·):=by
 have K:∀(z:Int) (c:Nat),0<=z->((H_ c).map λ(k:Nat)=>(z+(1:Int)*(k:Int)).toNat)=(H_ c).map (z.toNat+ ·):=λz c H=>MG λk _=>by omega
 unfold strSliceIndices sliceRange;cases l with
 |none=>exact⟨_,_,K _ _ (by simp)⟩
 |some i=>exact⟨_,_,K _ _ (by simp;omega)⟩
theorem ud{x:Str}(h:Sm n k x)(l H:Option Int):Sm n k (cS x l H 1):=by refine uc h ?_;obtain⟨a,c,e⟩:=nX l H x.length;show(((strSliceIndices l H 1 x.length).filterMap (x.cps[·]?)).toArray).toList.Sublist _;rw[e];have:=G1 x.cps.toList a c;simpa using this
theorem jU{x:Str}(h:Sm n k x)(c:n<=1000)(l H:Option Int):∃y,Sm n k y/\gG (.str x) l H S=.ok (.str y) S:=by
 have b:(1000:Nat)<=a':=by decide
 have e:gG (.str x) l H S=vB (.str x) l H S:=rfl;rw[e];unfold vB;dsimp only;split
 ·exact⟨x,h,rfl⟩
 ·have a:=ud h l H;rw[if_pos (by have:=a.1;omega)];exact⟨_,a,rfl⟩
theorem G2(l:List α):((H_ l.length).map λk=>l.length-1-k).filterMap (l[·]?)=l.reverse:=by
 have e:((H_ l.length).map λk=>l.length-1-k)=(H_ l.length).reverse:=by refine Ln (by simp) λi h H=>?_;simp[List.getElem_reverse]
 have E:=AL l 0 l.length;simp only[Ld,List.map_id',List.drop_zero,JT]at E;rw[e,List.filterMap_reverse,E]
theorem ue{x:Str}(h:Sm n k x)(b:n<=1000):∃y,Sm n k y/\iI (.str x) (.int (-1)) S=.ok (.str y) S:=by
 have a:(1000:Nat)<=a':=by decide
 have e:(cS x none none (-1)).cps.toList=x.cps.toList.reverse:=by show(((strSliceIndices none none (-1) x.length).filterMap (x.cps[·]?)).toArray).toList=_;rw[picked_rev];have:=G2 x.cps.toList;simpa[Str.length]using this
 have H:Sm n k (cS x none none (-1)):=by
  refine⟨?_,?_⟩
  ·have:(cS x none none (-1)).length=x.length:=by
    show(cS x none none (-1)).cps.size=x.cps.size;rw[<-ZI,e];simp
   rw[this];exact h.1
  ·show(cS x none none (-1)).cps.toList.count 32<=k;rw[e,List.count_reverse];exact h.2
 refine⟨_,H,?_⟩;show(if(-1:Int)= -1/\(cS x none none (-1)).length<=a' then Res.ok (D.str (cS x none none (-1))) S else .fail)=_;rw[if_pos ⟨rfl,by have:=H.1;omega⟩]
end K91
namespace K91
noncomputable def tot(l:Ls):Nat:=(l.map (·.length)).sum+l.length
theorem hY(a b:Ls):tot (a++b)=tot a+tot b:=by unfold tot;rw[Jh,List.sum_append,Zr];omega
theorem AM{a b:Ls}(h:a.Sublist b):tot a<=tot b:=by
 induction h with
 |slnil=>exact Zf _
 |cons x _ i=>unfold tot at i⊢;simp only[ZH,Kl,Zp];omega
 |cons_cons x _ i=>unfold tot at i⊢;simp only[ZH,Kl,Zp];omega
theorem G3(x:Str):tot (ay x)=x.length+1:=by
 have h:=size_glued " " (ay x);rw[L0,jO]at h
 have H:1<=(ay x).length:=by
  cases e:ay x with
  |nil=>exact absurd e (t5 x)
  |cons a l=>simp
 unfold tot;have E:(" ":Str).length=1:=rfl;rw[E]at h;omega
theorem hZ{l:Ls}(H:∀p∈l,cnt p=0)(h1:tot l<=n)(b:l.length<=k):Sm n k (Jt " " l):=by
 have h:=size_glued " " l;have e:(" ":Str).length=1:=rfl;rw[e]at h;refine⟨?_,?_⟩
 ·show(L1 " " l).length<=n;rw[h];unfold tot at h1;omega
 ·show cnt (L1 " " l)<=k;rw[L0];cases l with
  |nil=>show cnt (Ku " " [])<=k;exact ZT _
  |cons a r=>have:=ub (a::r) (by simp) H;omega
theorem AN{xs:Ls}{e:CE}(H:xs.length<=1000)(b:∀z∈xs,z.length<=1000)(h:ah Φ G0 e ρ S=.ok (.lst (xs.map D.str)) S):ah Φ G0 (.join " " [e]) ρ S=.ok (.str (Jt " " xs)) S:=by
 have E:dv (xs.map D.str)=some xs:=by
  clear h b H
  induction xs with
  |nil=>rfl
  |cons a l i=>show(dv (l.map D.str)).map (a:: ·)=_;rw[i];rfl
 have c:fj " " [.lst (xs.map D.str)] S=.ok (.str (Jt " " xs)) S:=by
  show(match(some (xs.map D.str)).bind dv with
   |some xs=>if(" ":Str).length<=100/\xs.length<=1000/\(xs.all λx=>decide (x.length<=1000))=HX then Res.ok (D.str (Jt " " xs)) S else .fail
   |none=>.fail)=_
  rw[Option.bind_some,E];dsimp only;rw[if_pos ⟨by decide,H,Zl.mpr λx h=>ZO (b x h)⟩]
 simp only[ah,aj,h,Res.bind,c,Res.noErr]
theorem jV(ws:Ls)(l h:Option Int):gG (.lst (ws.map D.str)) l h S=.ok (.lst (((ws.drop (HT.bn ws.length 0 l)).take (HT.bn ws.length ws.length h-HT.bn ws.length 0 l)).map D.str)) S:=by show Res.ok (D.lst (cM (ws.map D.str) l h)) S=_;unfold cM;rw[Zk,K1,Kk]
theorem uf(a b:Ls)(h:a.length+b.length<=a'):gb .Add (.lst (a.map D.str)) (.lst (b.map D.str)) S=.ok (.lst ((a++b).map D.str)) S:=by show(if(a.map D.str).length+(b.map D.str).length<=a' then Res.ok (D.lst (a.map D.str++b.map D.str)) S else .fail)=_;rw[Zk,Zk,if_pos h,Jh]
theorem AO(a b:Str)(h:a.length+b.length<=a'):gb .Add (.str a) (.str b) S=.ok (.str (a++b)) S:=by show(if a.length+b.length<=a' then Res.ok (D.str (a++b)) S else .fail)=_;rw[if_pos h]
theorem G4:dL=K91.dL:=rfl
theorem jW{l:List α}{i:Int}(H:0<=i)(h1:i<l.length):∃c,dU l i=some c/\c∈l:=by
 unfold dU gD;rw[if_pos H,if_pos h1];have h:i.toNat<l.length:=by omega
 exact⟨l[i.toNat],Zh h,List.getElem_mem h⟩
theorem jX{i:Nat}{e:CE}{b:Int}{y:D}(H:ρ[i]?=some (some d))(h:ah Φ G0 e ρ S=.ok (.int b) S)(hs:gG d none (some b) S=.ok y S):ah Φ G0 (.sl (.var i) [] [e]) ρ S=.ok y S:=by have t:ck [D.int b]=some (some b):=rfl;have T:ck []=some none:=rfl;simp only[ah,aj,H,h,Res.bind,dD,t,T,hs,Res.noErr]
theorem gw{i:Nat}{e:CE}{b:Int}{y:D}(H:ρ[i]?=some (some d))(h:ah Φ G0 e ρ S=.ok (.int b) S)(hs:gG d (some b) none S=.ok y S):ah Φ G0 (.sl (.var i) [e] []) ρ S=.ok y S:=by have t:ck [D.int b]=some (some b):=rfl;have T:ck []=some none:=rfl;simp only[ah,aj,H,h,Res.bind,dD,t,T,hs,Res.noErr]
theorem AQ{i:Nat}{e f:CE}{a b:Int}{y:D}(H:ρ[i]?=some (some d))(h:ah Φ G0 e ρ S=.ok (.int a) S)(h':ah Φ G0 f ρ S=.ok (.int b) S)(hs:gG d (some a) (some b) S=.ok y S):ah Φ G0 (.sl (.var i) [e] [f]) ρ S=.ok y S:=by have t:ck [D.int a]=some (some a):=rfl;have T:ck [D.int b]=some (some b):=rfl;simp only[ah,aj,H,h,h',Res.bind,dD,t,T,hs,Res.noErr]
theorem AR{i:Nat}{a:Int}(h:ρ[i]?=some (some (.int a))):ah Φ G0 (.bin .Add (.var i) (.lit (.int 1))) ρ S=.ok (.int (a+1)) S:=f9 (aE h) aZ rfl
noncomputable def gx:Str:=" !\"#$&'()*+,-./0123456789:;<=>?@ABCDEFGHIJKLMNOPQRSTUVWXYZ[\\]^_`abcdefghijklmnopqrstuvwxyz{|}~\n"
noncomputable def AS:Str:="01234567 ,-"
theorem G5:sM=[.asg 2 Hs,.asg 3 (.lit (.str " !\"#$&'()*+,-./0123456789:;<=>?@ABCDEFGHIJKLMNOPQRSTUVWXYZ[\\]^_`abcdefghijklmnopqrstuvwxyz{|}~\n")),.asg 4 zr,.asg 5 (.smt .split (.var 1) [.lit (.str " ")]),.asg 6 Ht,.asg 7 (.lst HY sJ),.asg 7 (.bin .Add (.var 7) (.lst HY sK)),.asg 7 (.bin .Add (.var 7) (.lst HY sL)),.ret (.idx (.bin .Add (.var 7) (.lst HY mR)) (.call "_law_draw" [.var 0,.lit (.int 17)]))]:=rfl
theorem h9{e:CE}(H:Flat S)(f:bc S n)(h:0<m)(h1:m<1000)(g:ρ[0]?=some (some (.ref n)))(c:ah cH G0 e ρ S=.ok (.int m) S):∃r S',0<=r/\r<m/\Drawn n S S'/\ah cH G0 (.call "_law_draw" [.var 0,e]) ρ S=.ok (.int r) S':=by obtain⟨r,S',a,b,d,k⟩:=f8 H f h h1;rw[<-G4]at k;exact⟨r,S',a,b,d,by simp only[ah,aj,g,c,Res.bind,FK,k]⟩
theorem nY:gx.cps.toList.length=95:=by decide+kernel
theorem nZ:AS.cps.toList.length=11:=by decide+kernel
theorem pr{z:Str}{i:Int}(b:z.length<=1000)(h:0<=i)(h1:i<z.cps.toList.length):∃y,Sm 1 1 y/\bb (.str z) (.int i) S=.ok (.str y) S:=by
 have a:(1000:Nat)<=a':=by decide
 obtain⟨c,H,_⟩:=jW h h1;refine⟨⟨#[c]⟩,⟨Zf _,?_⟩,ef (by omega) H⟩;exact Zv List.count_le_length (Zf _)
theorem n_(o:Flat S)(p:bc S n)(j:ρ[0]?=some (some (.ref n)))(s:ρ[3]?=some (some (.str gx))):∃y S',Sm 1 1 y/\Drawn n S S'/\ah cH G0 zr ρ S=.ok (.str y) S':=by
 obtain⟨r,a,R,v,d1,l⟩:=h9 (ρ:=ρ) o p (m:=3) (by decide) (by decide) j aZ;have H:=d1.flat o;have c:=d1.pen p
 have d:al cH G0 (.cmp .Eq (.call "_law_draw" [.var 0,.lit (.int 3)]) (.lit (.int 0))) ρ S=.ok (decide (r=0)) a:=by
  have t:ao .Eq (.int r) (.int 0) a=.ok (.bl (decide (r=0))) a:=by have:ao .Eq (.int r) (.int 0) a=.ok (.bl (r==0)) a:=rfl;rw[this];congr 2
  have i:ah cH G0 (.lit (.int 0)) ρ a=.ok (.int 0) a:=by simp only[ah]
  generalize CE.call "_law_draw" [.var 0,.lit (.int 3)]=q at l⊢;simp only[al,l,i,Res.bind,t,Res.noErr,av]
 by_cases h:r=0
 ·rw[ZO h]at d;obtain⟨q,b,Q,u,D,E⟩:=h9 (ρ:=ρ) H c (m:=95) (by decide) (by decide) j aZ;obtain⟨y,k,f⟩:=pr (S:=b) (z:=gx) (by decide+kernel) Q (by rw[nY];omega);refine⟨y,b,k,d1.trans D,?_⟩;have g:ah cH G0 (.idx (.var 3) (.call "_law_draw" [.var 0,.lit (.int 95)])) ρ a=.ok (.str y) b:=by rw[ah,aE s];show((ah cH G0 (.call "_law_draw" [.var 0,.lit (.int 95)]) ρ a).bind λe b=>(bb (.str gx) e b).noErr)=_;rw[E];show(bb (.str gx) (.int q) b).noErr=_;rw[f];rfl
  unfold zr;rw[ah,d];exact g
 ·rw[Zx h]at d;obtain⟨q,b,Q,u,D,E⟩:=h9 (ρ:=ρ) H c (m:=11) (by decide) (by decide) j aZ;obtain⟨y,k,f⟩:=pr (S:=b) (z:=AS) (by decide+kernel) Q (by rw[nZ];omega);refine⟨y,b,k,d1.trans D,?_⟩
  have g:ah cH G0 (.idx (.lit (.str "01234567 ,-")) (.call "_law_draw" [.var 0,.lit (.int 11)])) ρ a=.ok (.str y) b:=by
   have i:ah cH G0 (.lit (.str "01234567 ,-")) ρ a=.ok (.str AS) a:=by simp only[ah];rfl
   rw[ah,i];show((ah cH G0 (.call "_law_draw" [.var 0,.lit (.int 11)]) ρ a).bind λe b=>(bb (.str AS) e b).noErr)=_;rw[E];show(bb (.str AS) (.int q) b).noErr=_;rw[f];rfl
  unfold zr;rw[ah,d];exact g
theorem cL{e f:CE}{a b:Str}(h:a.length+b.length<=1000)(h1:ah Φ G0 e ρ S=.ok (.str a) S)(H:ah Φ G0 f ρ S=.ok (.str b) S):ah Φ G0 (.bin .Add e f) ρ S=.ok (.str (a++b)) S:=
 f9 h1 H (AO a b (Zv h (by decide)))
theorem b9{x:Str}:ah Φ G0 (.lit (.str x)) ρ S=.ok (.str x) S:=aZ
theorem el{e f:CE}{a b:Ls}(h:a.length+b.length<=1000)(h1:ah Φ G0 e ρ S=.ok (.lst (a.map D.str)) S)(H:ah Φ G0 f ρ S=.ok (.lst (b.map D.str)) S):ah Φ G0 (.bin .Add e f) ρ S=.ok (.lst ((a++b).map D.str)) S:=
 f9 h1 H (uf a b (Zv h (by decide)))
structure Ws (W l:Ls)(k:Nat):Prop where
 zero:∀p∈l,cnt p=0
 tot_le:tot l<=tot W
 len:l.length<=k
theorem Ws.sub{l:Ls}(h:l.Sublist W)(b:∀p∈W,cnt p=0)(H:l.length<=k):Ws W l k:=⟨λp a=>b p (h.subset a),AM h,H⟩
theorem og(a b:Nat):((W.drop a).take b).Sublist W:=(Ke _ _).trans (K' _ _)
theorem oh{l:Ls}{e:CE}(d:∀p∈l,cnt p=0)(b:tot l<=1000)(c:l.length<=63)(h:ah Φ G0 e ρ S=.ok (.lst (l.map D.str)) S):ah Φ G0 (.join " " [e]) ρ S=.ok (.str (Jt " " l)) S/\Sm 1000 63 (Jt " " l):=by
 refine⟨AN (by omega) (λz H=>?_) h,hZ d b c⟩
 have:z.length<=(l.map (·.length)).sum:=by
  clear h d b c
  induction l with
  |nil=>cases H
  |cons a l i=>
   simp only[ZH,Kl];rcases Zj.mp H with rfl|h
   ·omega
   ·have:=i h;omega
 unfold tot at b;omega
theorem oj(l:Ls):tot l.reverse=tot l:=by unfold tot;rw[Na,List.sum_reverse,Jz]
theorem jY{r:Int}(h:0<=r)(h1:r<ys.length):∃y∈ys,bb (.lst (ys.map D.str)) (.int r) S=.ok (.str y) S:=by obtain⟨c,H,a⟩:=jW (l:=ys.map D.str) h (by simpa using h1);obtain⟨y,b,rfl⟩:=Zo.mp a;refine⟨y,b,?_⟩;show(match dU (ys.map D.str) r with|some y=>Res.ok y S|none=>.fail)=_;rw[H]
theorem ol{t:Nat}(h1:t<ys.length):∃y∈ys,bb (.lst (ys.map D.str)) (.int (t:Int)) S=.ok (.str y) S:=jY (by omega) (by omega)
theorem pu{e f:CE}{a b:Str}(h1:ah Φ G0 e ρ S=.ok (.str a) S)(h:ah Φ G0 f ρ S=.ok (.str b) S):ah Φ G0 (.lst HY [e,f]) ρ S=.ok (.lst (([a,b]:Ls).map D.str)) S:=by simp[ah,aj,h1,h,Res.bind]
theorem AU{e f g k:CE}{a b c d:Str}(h1:ah Φ G0 e ρ S=.ok (.str a) S)(h:ah Φ G0 f ρ S=.ok (.str b) S)(H:ah Φ G0 g ρ S=.ok (.str c) S)(i:ah Φ G0 k ρ S=.ok (.str d) S):ah Φ G0 (.lst HY [e,f,g,k]) ρ S=.ok (.lst (([a,b,c,d]:Ls).map D.str)) S:=by simp[ah,aj,h1,h,H,i,Res.bind]
theorem om{t:Nat}{x s:Str}{a:Int}(h:Sm 200 30 x)(P:Sm 1 1 s)(ht:t<(ay x).length):
  ∃R r2 U:Ls,(∀y∈R++r2++U,Sm 1000 63 y)/\R.length=4/\r2.length=2/\U.length=2/\∀ρ:bu,ρ[1]?=some (some (.str x))->ρ[2]?=some (some (.int a))->ρ[4]?=some (some (.str s))->ρ[5]?=some (some (.lst ((ay x).map D.str)))->ρ[6]?=some (some (.int (t:Int)))->ah Φ G0 (.lst HY sJ) ρ S=.ok (.lst (R.map D.str)) S/\ah Φ G0 (.lst HY sK) ρ S=.ok (.lst (r2.map D.str)) S/\ah Φ G0 (.lst HY sL) ρ S=.ok (.lst (U.map D.str)) S:=by
 have hN:(ay x).length<=31:=by rw[nW];have:=h.2;omega
 have hT:tot (ay x)<=201:=by rw[G3];have:=h.1;omega
 have Q:∀p∈ay x,cnt p=0:=λp H=>AK H;obtain⟨Y,G,ea⟩:=jU (S:=S) h (by decide) none (some a);obtain⟨yb,hb,eb⟩:=jU (S:=S) h (by decide) (some a) none;obtain⟨yc,O,ec⟩:=jU (S:=S) h (by decide) (some (a+1)) none;have sn:Sm 1 1 ("\n":Str):=⟨Zf _,by decide+kernel⟩;have wA:=jV (S:=S) (ay x) none (some (t:Int));have wB:=jV (S:=S) (ay x) (some ((t+1:Nat):Int)) none;have wC:=jV (S:=S) (ay x) (some (t:Int)) (some ((t+1:Nat):Int));have wD:=jV (S:=S) (ay x) (some (t:Int)) none;have wF:=jV (S:=S) (ay x) none (some ((1:Nat):Int))
 have wG:iJ (.lst ((ay x).map D.str)) (.int 0) (.int (-1)) S=.ok (.lst ((ay x).tail.reverse.map D.str)) S:=by show Res.ok (D.lst ((ay x).map D.str).tail.reverse) S=_;rw[<-List.map_tail,Na]
 have sx:∀(k:Nat),HT.bn (ay x).length 0 (some (k:Int))=min k (ay x).length:=λk=>rfl;have sy:∀(k:Nat),HT.bn (ay x).length (ay x).length (some (k:Int))=min k (ay x).length:=λk=>rfl;rw[sy]at wA;rw[sx]at wB wC wD;rw[sy]at wC wF;have n0:HT.bn (ay x).length 0 none=0:=rfl;have nN:HT.bn (ay x).length (ay x).length none=(ay x).length:=rfl;rw[n0]at wA wF;rw[nN]at wB wD;generalize hW:ay x=W at*;have cut:∀a b,Ws W ((W.drop a).take b) ((W.drop a).take b).length:=λa b=>.sub (og a b) Q (Zf _)
 have f:∀a b,((W.drop a).take b).length<=b/\((W.drop a).take b).length<=W.length-a:=λa b=>by rw[JR,M5];omega
 have E:=cut 0 (min t W.length-0);have I:=cut (min (t+1) W.length) (W.length-min (t+1) W.length);have cC:=cut (min t W.length) (min (t+1) W.length-min t W.length);have cD:=cut (min t W.length) (W.length-min t W.length);have cF:=cut 0 (min 1 W.length-0);have kA:=f 0 (min t W.length-0);have kB:=f (min (t+1) W.length) (W.length-min (t+1) W.length);have kC:=f (min t W.length) (min (t+1) W.length-min t W.length);have kD:=f (min t W.length) (W.length-min t W.length);have kF:=f 0 (min 1 W.length-0);obtain⟨w,hw,ew⟩:=ol (S:=S) ht
 have sw:Sm 200 0 w:=⟨by
  have:=t6 (x:=x) (p:=w) (by rw[hW];exact hw);have:=h.1;omega,by rw[Q w hw];exact Zf _⟩
 obtain⟨d,i,M⟩:=ue (S:=S) sw (by decide);have cG:tot W.tail.reverse<=tot W:=by rw[oj];exact AM (M0 W)
 have zG:∀p∈W.tail.reverse,cnt p=0:=λp H=>Q p ((M0 W).subset (List.mem_reverse.mp H));have lG:W.tail.reverse.length=W.length-1:=by rw[Jz,Lk]
 generalize hA:(W.drop 0).take (min t W.length-0)=A at*;generalize hB:(W.drop (min (t+1) W.length)).take (W.length-min (t+1) W.length)=B at*;generalize hC:(W.drop (min t W.length)).take (min (t+1) W.length-min t W.length)=C at*;generalize hD:(W.drop (min t W.length)).take (W.length-min t W.length)=e at*;generalize hF:(W.drop 0).take (min 1 W.length-0)=F at*;have tA:=E.tot_le;have tB:=I.tot_le;have tC:=cC.tot_le;have tD:=cD.tot_le;have tF:=cF.tot_le;have tw:tot [d]<=201:=by have:=i.1;unfold tot;simp;omega
 have r:∀p∈A++B,cnt p=0:=λp H=>(ZK.mp H).elim (E.zero p) (I.zero p);have z:∀p∈A++C++e,cnt p=0:=λp H=>(ZK.mp H).elim (λq=>(ZK.mp q).elim (E.zero p) (cC.zero p)) (cD.zero p);have u:∀p∈F++W.tail.reverse,cnt p=0:=λp H=>(ZK.mp H).elim (cF.zero p) (zG p);have Z:∀p∈A++[d]++B,cnt p=0:=λp H=>(ZK.mp H).elim (λq=>(ZK.mp q).elim (E.zero p) λq=>by rw[Jd.mp q];exact Nat.le_zero.mp i.2) (I.zero p);have m:tot (A++B)<=1000:=by rw[hY];omega
 have T:tot (A++C++e)<=1000:=by rw[hY,hY];omega
 have o:tot (F++W.tail.reverse)<=1000:=by rw[hY];omega
 have c:tot (A++[d]++B)<=1000:=by rw[hY,hY];omega
 have j:(A++B).length<=63:=by rw[Zr];omega
 have n:(A++C++e).length<=63:=by rw[Zr,Zr];omega
 have l:(F++W.tail.reverse).length<=63:=by rw[Zr,lG];omega
 have N:(A++[d]++B).length<=63:=by rw[Zr,Zr,Jj];omega
 refine⟨[Y++s++yb,Y++yc,Y++s++yc,x++"\n"],[Jt " " (A++B),Jt " " (A++C++e)],[Jt " " (F++W.tail.reverse),Jt " " (A++[d]++B)],?_,rfl,rfl,rfl,?_⟩
 ·intro y hy;simp only[List.cons_append,List.nil_append,Zj,Zy,or_false]at hy;rcases hy with rfl|rfl|rfl|rfl|rfl|rfl|rfl|rfl
  ·exact((G.app P).app hb).mono (by decide) (by decide)
  ·exact(G.app O).mono (by decide) (by decide)
  ·exact((G.app P).app O).mono (by decide) (by decide)
  ·exact(h.app sn).mono (by decide) (by decide)
  ·exact hZ r m j
  ·exact hZ z T n
  ·exact hZ u o l
  ·exact hZ Z c N
 ·intro ρ V X v4 v v6;have K:ah Φ G0 Bj ρ S=.ok (.str Y) S:=jX V (aE X) ea;have db:ah Φ G0 Hu ρ S=.ok (.str yb) S:=gw V (aE X) eb;have dc:ah Φ G0 FI ρ S=.ok (.str yc) S:=gw V (AR X) ec;have dg:ah Φ G0 (.var 4) ρ S=.ok (.str s) S:=aE v4;have dx:ah Φ G0 (.var 1) ρ S=.ok (.str x) S:=aE V;have la:=G.1;have lb:=hb.1;have lc:=O.1;have lg:=P.1;have lx:=h.1;have nl:("\n":Str).length=1:=rfl;have J:ah Φ G0 (.var 6) ρ S=.ok (.int (t:Int)) S:=aE v6;have g:ah Φ G0 (.bin .Add (.var 6) (.lit (.int 1))) ρ S=.ok (.int ((t+1:Nat):Int)) S:=AR v6;have L:ah Φ G0 Bk ρ S=.ok (.lst (A.map D.str)) S:=jX v J wA;have eB:ah Φ G0 FJ ρ S=.ok (.lst (B.map D.str)) S:=gw v g wB;have eC:ah Φ G0 Hv ρ S=.ok (.lst (C.map D.str)) S:=AQ v J g wC;have eD:ah Φ G0 Hw ρ S=.ok (.lst (e.map D.str)) S:=gw v J wD;have eF:ah Φ G0 (.sl (.var 5) [] [.lit (.int 1)]) ρ S=.ok (.lst (F.map D.str)) S:=jX v aZ wF
  have eG:ah Φ G0 (.rv0 (.var 5) (.lit (.int 0)) (.neg (.lit (.int 1)))) ρ S=.ok (.lst (W.tail.reverse.map D.str)) S:=by simp only[ah,v,Res.bind,wG,Res.noErr]
  have eW:ah Φ G0 (.lst HY [.rev (.idx (.var 5) (.var 6)) (.neg (.lit (.int 1)))]) ρ S=.ok (.lst (([d]:Ls).map D.str)) S:=by have hi:ah Φ G0 (.idx (.var 5) (.var 6)) ρ S=.ok (.str w) S:=ej (aE v) (aE v6) ew;generalize CE.idx (.var 5) (.var 6)=q at hi⊢;simp[ah,aj,hi,Res.bind,M,Res.noErr]
  exact⟨AU (cL (by rw[ek];omega) (cL (by omega) K dg) db) (cL (by omega) K dc) (cL (by rw[ek];omega) (cL (by omega) K dg) dc) (cL (by rw[nl];omega) dx b9),
   pu (oh r m j (el (by omega) L eB)).1 (oh z T n (el (by rw[Zr];omega) (el (by omega) L eC) eD)).1,
   pu (oh u o l (el (by rw[lG];omega) eF eG)).1 (oh Z c N (el (by rw[Zr,Jj];omega) (el (by rw[Jj];omega) L eW) eB)).1⟩
theorem AV{E i j k l m n o p:CE}{a A b c d e f g h:Str}(h1:ah Φ G0 E ρ S=.ok (.str a) S)(H:ah Φ G0 i ρ S=.ok (.str A) S)(q:ah Φ G0 j ρ S=.ok (.str b) S)(r:ah Φ G0 k ρ S=.ok (.str c) S)(s:ah Φ G0 l ρ S=.ok (.str d) S)(t:ah Φ G0 m ρ S=.ok (.str e) S)(u:ah Φ G0 n ρ S=.ok (.str f) S)(v:ah Φ G0 o ρ S=.ok (.str g) S)(w:ah Φ G0 p ρ S=.ok (.str h) S):ah Φ G0 (.lst HY [E,i,j,k,l,m,n,o,p]) ρ S=.ok (.lst (([a,A,b,c,d,e,f,g,h]:Ls).map D.str)) S:=by simp[ah,aj,h1,H,q,r,s,t,u,v,w,Res.bind]
noncomputable def r4(x:Str):Ls:=[""," ","9","0","none","None","8 0-8"," "++x,x++" "]
theorem AW{x:Str}(h:Sm 200 30 x):∀y∈r4 x,Sm 1000 63 y:=by
 have s:Sm 1 1 (" ":Str):=⟨Zf _,by decide+kernel⟩;intro y H;simp only[r4,Zj,Zy,or_false]at H;rcases H with rfl|rfl|rfl|rfl|rfl|rfl|rfl|rfl|rfl
 ·exact⟨by decide+kernel,by decide+kernel⟩
 ·exact⟨by decide+kernel,by decide+kernel⟩
 ·exact⟨by decide+kernel,by decide+kernel⟩
 ·exact⟨by decide+kernel,by decide+kernel⟩
 ·exact⟨by decide+kernel,by decide+kernel⟩
 ·exact⟨by decide+kernel,by decide+kernel⟩
 ·exact⟨by decide+kernel,by decide+kernel⟩
 ·exact(s.app h).mono (by decide) (by decide)
 ·exact(h.app s).mono (by decide) (by decide)
theorem ug{x:Str}(h:Sm 200 30 x)(v:ρ[1]?=some (some (.str x))):ah Φ G0 (.lst HY mR) ρ S=.ok (.lst ((r4 x).map D.str)) S:=by have n:(" ":Str).length=1:=rfl;have l:=h.1;exact AV b9 b9 b9 b9 b9 b9 b9 (cL (by rw[n];omega) b9 (aE v)) (cL (by rw[n];omega) (aE v) b9)
theorem AX{i:Nat}{x:Str}(H:x.length<=1000)(v:ρ[i]?=some (some (.str x))):ah Φ G0 (.blt .len [.var i]) ρ S=.ok (.int x.length) S:=by
 have h:(1000:Nat)<=a':=by decide
 have e:aJ .len [.str x] S=.ok (.int x.length) S:=by show(if x.length<=a' then _ else _)=_;rw[if_pos (by omega)]
 simp only[ah,aj,v,Res.bind,e,Res.noErr]
theorem AY{i:Nat}{l:Ls}(H:l.length<=1000)(v:ρ[i]?=some (some (.lst (l.map D.str)))):ah Φ G0 (.blt .len [.var i]) ρ S=.ok (.int l.length) S:=by
 have h:(1000:Nat)<=a':=by decide
 have e:aJ .len [.lst (l.map D.str)] S=.ok (.int (l.map D.str).length) S:=rfl;rw[Zk]at e;simp only[ah,aj,v,Res.bind,e,Res.noErr]
theorem oo{x:Str}(B:Flat S)(M:bc S n)(h:Sm 200 30 x):∃y S',Sm 1000 63 y/\Drawn n S S'/\jB [.ref n,.str x] S=.ok (.str y) S':=by
 suffices g:∃y S',Sm 1000 63 y/\Drawn n S S'/\af cH G0 sM [some (.ref n),some (.str x),none,none,none,none,none,none] S=.ok (.ret (.str y)) S' by obtain⟨y,S',s,d,e⟩:=g;exact⟨y,S',s,d,aS rfl e d.len (d.flat B) rfl⟩
 have lx:=h.1;have hN:(ay x).length<=31:=by rw[nW];have:=h.2;omega
 have hP:0<(ay x).length:=by rw[nW];omega
 obtain⟨a,I,a0,a1,d1,O⟩:=h9 (ρ:=[some (.ref n),some (.str x),none,none,none,none,none,none]) B M (m:=(x.length:Int)+1) (e:=.bin .Add (.blt .len [.var 1]) (.lit (.int 1))) (by omega) (by omega) rfl (f9 (AX (by omega) rfl) aZ rfl);have H:=d1.flat B;have o:=d1.pen M;obtain⟨f,J,G,z,P⟩:=n_ (ρ:=[some (.ref n),some (.str x),some (.int a),some (.str gx),none,none,none,none]) H o rfl rfl;have l:=z.flat H;have p:=z.pen o;obtain⟨t,i,t0,t1,A,Q⟩:=h9 (ρ:=[some (.ref n),some (.str x),some (.int a),some (.str gx),some (.str f),some (.lst ((ay x).map D.str)),none,none]) l p (m:=((ay x).length:Int)) (e:=.blt .len [.var 5]) (by omega) (by omega) rfl (AY (by omega) rfl);have C:=A.flat l;have E:=A.pen p;obtain⟨k,rfl⟩:=Int.eq_ofNat_of_zero_le t0;obtain⟨R,c,j,X,l1,l2,l3,F⟩:=om (Φ:=cH) (S:=i) (t:=k) (a:=a) h G (by omega);have U:=(F [some (.ref n),some (.str x),some (.int a),some (.str gx),some (.str f),some (.lst ((ay x).map D.str)),some (.int (k:Int)),none] rfl rfl rfl rfl rfl).1;have V:=(F [some (.ref n),some (.str x),some (.int a),some (.str gx),some (.str f),some (.lst ((ay x).map D.str)),some (.int (k:Int)),some (.lst (R.map D.str))] rfl rfl rfl rfl rfl).2.1;have W:=(F [some (.ref n),some (.str x),some (.int a),some (.str gx),some (.str f),some (.lst ((ay x).map D.str)),some (.int (k:Int)),some (.lst ((R++c).map D.str))] rfl rfl rfl rfl rfl).2.2;obtain⟨q,K,q0,q1,N,L⟩:=h9 (ρ:=[some (.ref n),some (.str x),some (.int a),some (.str gx),some (.str f),some (.lst ((ay x).map D.str)),some (.int (k:Int)),some (.lst ((R++c++j).map D.str))]) C E (m:=17) (e:=.lit (.int 17)) (by decide) (by decide) rfl aZ;have Z:(r4 x).length=9:=rfl;obtain⟨y,Y,T⟩:=jY (S:=K) (ys:=R++c++j++r4 x) (r:=q) q0 (by simp only[Zr,l1,l2,l3,Z];omega);refine⟨y,K,(ZK.mp Y).elim (X y) (AW h y),((d1.trans z).trans A).trans N,?_⟩;rw[G5];refine(b4 (d:=.int a) (S':=I) O).trans ?_;refine(b4 (d:=.str gx) (S':=I) b9).trans ?_;refine(b4 (d:=.str f) (S':=J) P).trans ?_;refine(b4 (d:=.lst ((ay x).map D.str)) (S':=J) (t7 (by omega) rfl)).trans ?_;refine(b4 (d:=.int (k:Int)) (S':=i) Q).trans ?_;refine(b4 (d:=.lst (R.map D.str)) (S':=i) U).trans ?_;refine(b4 (d:=.lst ((R++c).map D.str)) (S':=i) (el (by omega) (aE rfl) V)).trans ?_;refine(b4 (d:=.lst ((R++c++j).map D.str)) (S':=i) (el (by rw[Zr];omega) (aE rfl) W)).trans ?_;refine cI (fI ?_);have g:=el (Φ:=cH) (S:=i) (ρ:=[some (.ref n),some (.str x),some (.int a),some (.str gx),some (.str f),some (.lst ((ay x).map D.str)),some (.int (k:Int)),some (.lst ((R++c++j).map D.str))]) (e:=.var 7) (a:=R++c++j) (b:=r4 x) (by rw[Zr,Zr];omega) (aE rfl) (ug h rfl);generalize CE.bin .Add (.var 7) (.lst HY mR)=u at g⊢;generalize CE.call "_law_draw" [.var 0,.lit (.int 17)]=v at L⊢;show ah cH G0 (.idx u v) [some (.ref n),some (.str x),some (.int a),some (.str gx),some (.str f),some (.lst ((ay x).map D.str)),some (.int (k:Int)),some (.lst ((R++c++j).map D.str))] i=_;simp only[ah,g,L,Res.bind,T,Res.noErr]
section
variable {ps:Lq}
end
noncomputable def nS(i:Int):Str:=(toString i:String)
noncomputable def dO(t:Int×Int):Str:=nS t.1++"-"++nS t.2
theorem n8:∀i∈([0,1,2,3,4,5,6,7,8]:Li),(nS i).length=1/\cnt (nS i)=0:=by decide+kernel
theorem nl{i:Int}(h:0<=i/\i<=8):(nS i).length=1/\cnt (nS i)=0:=n8 i (by rcases(by omega:i=0\/i=1\/i=2\/i=3\/i=4\/i=5\/i=6\/i=7\/i=8)with rfl|rfl|rfl|rfl|rfl|rfl|rfl|rfl|rfl<;>decide)
theorem uh{e:CE}{i:Int}(h:0<=i/\i<=8)(H:ah Φ G0 e ρ S=.ok (.int i) S):ah Φ G0 (.blt .str [e]) ρ S=.ok (.str (nS i)) S:=by refine tK H ?_;show(if i.natAbs<2^64 then Res.ok (D.str (nS i)) S else .fail)=_;rw[if_pos (by omega)]
def AZ(t:Int×Int):Prop:=(0<=t.1/\t.1<=8)/\0<=t.2/\t.2<=8
theorem A0:(("-":Str)).length=1/\cnt ("-":Str)=0:=by decide+kernel
theorem oq{e f:CE}{t:Int×Int}(h:AZ t)(h1:ah Φ G0 e ρ S=.ok (.int t.1) S)(H:ah Φ G0 f ρ S=.ok (.int t.2) S):ah Φ G0 (.bin .Add (.bin .Add (.blt .str [e]) (.lit (.str "-"))) (.blt .str [f])) ρ S=.ok (.str (dO t)) S:=by have a:=nl h.1;have b:=nl h.2;have c:=A0;exact cL (by rw[ek];omega) (cL (by omega) (uh h.1 h1) aZ) (uh h.2 H)
theorem ui{t:Int×Int}(h:AZ t):(dO t).length=3/\cnt (dO t)=0:=by have a:=nl h.1;have b:=nl h.2;have c:=A0;unfold dO;rw[ek,ek,jT,jT];omega
noncomputable def uj(m:Int)(ts:Lq):Str:=Jt " " (nS m::ts.map dO)
theorem ot(W:nj m ts){t:Int×Int}(h:t∈ts):AZ t:=by have H:=W.tie t h;have a:=W.hi;exact⟨⟨by omega,by omega⟩,by omega,by omega⟩
theorem A1:∀{ts:Lq},(∀t∈ts,AZ t)->tot (ts.map dO)=4*ts.length
 | [],_=>rfl
 |t::ts,h=>by have a:=(ui (h t Ze)).1;have b:=A1 (ts:=ts) λz H=>h z (Zc _ H);unfold tot at b⊢;simp only[ZH,Kl,Zp]at b⊢;omega
theorem ou(W:nj m ts):Sm 200 30 (uj m ts):=by
 have w:=W.lo;have c:=W.hi;have d:=W.few;have a:=nl (i:=m) (by omega);have b:=A1 λt H=>ot W H;refine hZ (λp h=>?_) ?_ (by rw[Zp,Zk];omega)
 ·rcases Zj.mp h with rfl|h
  ·exact a.2
  ·obtain⟨t,H,rfl⟩:=Zo.mp h;exact(ui (ot W H)).2
 ·have:tot (nS m::ts.map dO)=(nS m).length+1+tot (ts.map dO):=by
   unfold tot;simp only[ZH,Kl,Zp];omega
  omega
theorem G6(ts:Lq):(ts.map dO).map D.str=ts.map λt=>D.str (dO t):=by rw[I7];rfl
theorem G7{e:CE}(H:∀t∈ts,AZ t)(b:ts.length<=100)(h:ah Φ G0 e ρ S=.ok (.tup (ak ts)) S):ah Φ G0 (.comp HY ["_law_one","_law_other"] [none,none] (.tup [.var 0,.var 1]) (.seq e) [] (.emit (.bin .Add (.bin .Add (.blt .str [.var 0]) (.lit (.str "-"))) (.blt .str [.var 1])))) ρ S=.ok (.lst ((ts.map dO).map D.str)) S:=by rw[G6];exact jJ (ds:=ts) (h:=aM) (r0:=[none,none]) (rs:=λt=>[some (.int t.1),some (.int t.2)]) (jK h rfl) rfl (λ_ _=>rfl) (by omega) λt a=>oq (H t a) (aE rfl) (aE rfl)
theorem G8(c:Flat S)(W:nj m ts):mP [bX m ts] S=.ok (.str (uj m ts)) S:=by
 have w:=W.lo;have g:=W.hi;have j:=W.few;refine aS rfl ?_ rfl c rfl;show af mO G0 zm [some (bX m ts)] S=_;have a:=uh (Φ:=mO) (ρ:=[some (bX m ts)]) (S:=S) (i:=m) (by omega) (ej (aE (i:=0) rfl) (aZ (d:=.int 0)) rfl);have b:=G7 (Φ:=mO) (ρ:=[some (bX m ts)]) (S:=S) (ts:=ts) (λt h=>ot W h) (by omega) (ej (aE (i:=0) rfl) (aZ (d:=.int 1)) rfl);refine cI (fI (AN (xs:=nS m::ts.map dO) (by rw[Zp,Zk];omega) (λz H=>?_) (f9 (tZ (f_ a pp)) b (Af (by simp;omega)))));rcases Zj.mp H with rfl|H
 ·rw[(nl (by omega)).1];omega
 ·obtain⟨t,h,rfl⟩:=Zo.mp H;rw[(ui (ot W h)).1];omega
theorem ov(H:Flat S)(h:aJ .isinst [d,.ty "str"] S=.ok (.bl HY) S):eY [d] S=.err jP S:=by have e:=nO H h;refine K91.t4 rfl ?_ H;simp[mJ,jy,af,am,ah,aj,Res.bind,zh,e,zg]
theorem ox(H:Flat S)(h:aJ .isinst [d,.ty "str"] S=.ok (.bl HY) S):fG [d] S=.ok f' S:=AI H (ov H h)
theorem oy:hJ=K91.hJ:=rfl
theorem oz:hH=K91.hH:=rfl
theorem G9:hG=K91.hG:=rfl
theorem oB:eK=[.asg 1 (.lst HY (c_.map λx=>.lit (.str x))),.ite (.bnot (.blt .all [mU])) [.ret (.lit (.bl HY))] [],.for_ (.var 2) mV [.ite jD [.ret (.lit (.bl HY))] []],.for_ (.var 3) mW jE,.ret (.lit (.bl HX))]:=rfl
theorem uk:∀xs:Ls,aj Φ G0 (xs.map λx=>.lit (.str x)) ρ S=.ok (xs.map D.str) S
 | []=>pp
 |_::xs=>f_ b9 (uk xs)
def gz(d:D):Prop:=∃x,Sm 1000 63 x/\d=.str x
theorem A2(j:Flat T){it:CE}(n:aU aB G0 it ρ S=.ok (.items ds) T)(m:∀d∈ds,gz d)(r:ds.length<=1000):al aB G0 (.bnot (.blt .all [.comp HY N [none] (.var 0) it [] (.emit (.call "_law_right" [.var 0]))])) ρ S=.ok HY T:=by
 have e:ah aB G0 (.comp HY N [none] (.var 0) it [] (.emit (.call "_law_right" [.var 0]))) ρ S=.ok (.lst (ds.map λ_=>D.bl HX)) T:=by
  refine hV n ?_
  exact K91.tj (S:=T) (step:=λx a g=>match br (.var 0) x [none]with
    |some b=>(aV aB G0 [] b g).bind λk c=>if k=HX then bN aB G0 (.emit (.call "_law_right" [.var 0])) b a c else .ok a c
    |none=>.fail) (xs:=ds) (λ_=>HX) (λd l a h=>by
     have H:a.length<16777216:=h;have o:hL [d] T=.ok (.bl HX) T:=by obtain⟨x,p,rfl⟩:=m d l;exact GZ j p
     have i:br (.var 0) d [none]=some [some d]:=rfl
     show(match br (.var 0) d [none]with
      |some b=>(aV aB G0 [] b T).bind λk c=>if k=HX then bN aB G0 (.emit (.call "_law_right" [.var 0])) b a c else .ok a c
      |none=>.fail)=_
     rw[i];simp only[aV,bN,Res.bind,if_true,ah,aj,Zn,FV,o,H]) (show ds.length<=16777216 by omega)
 have h:aJ .all [.lst (ds.map λ_=>D.bl HX)] T=.ok (.bl HX) T:=by have:=K91.ti (S:=T) (ds:=ds) (f:=λ_=>HX);rw[Zl.mpr λ_ _=>rfl]at this;exact this
 generalize CE.comp HY N [none] (.var 0) it [] (.emit (.call "_law_right" [.var 0]))=q at e⊢;simp only[al,ah,aj,e,Res.bind,h,Res.noErr,aY,Bool.not_true]
theorem oC:∀x∈c_++oA,x.length<=1000/\cnt x<=63:=by decide+kernel
theorem oE(h:Flat S){s0:Option D}:af aB G0 (.asg 1 (.lst HY (c_.map λx=>.lit (.str x))):: .ite (.bnot (.blt .all [mU])) [.ret (.lit (.bl HY))] []::cs) [s0,none,x2,x3,x4,x5] S=af aB G0 cs [s0,some (.lst (c_.map D.str)),x2,x3,x4,x5] S:=by refine(b4 (tZ (uk c_))).trans ?_;have H:al aB G0 (.bnot (.blt .all [mU])) [s0,some (.lst (c_.map D.str)),x2,x3,x4,x5] S=.ok HY S:=A2 h (ds:=(c_++oA).map D.str) (jK (el (by decide) (aE rfl) (tZ (uk oA))) rfl) (λd a=>by obtain⟨x,b,rfl⟩:=Zo.mp a;exact⟨x,oC x b,rfl⟩) (by decide);exact fJ H
noncomputable def oF:List D:=[.non,.int 3,.tup [.int 3,.tup []],.lst [.str "3"],.bl HX,.dct,.int 0]
theorem G_:∀d∈oF,aJ .isinst [d,.ty "str"] S=.ok (.bl HY) S:=by intro d h;simp only[oF,Zj,Zy,or_false]at h;rcases h with rfl|rfl|rfl|rfl|rfl|rfl|rfl<;>rfl
theorem A3(H:Flat S){s0 x1:Option D}:∃y,am aB G0 (.for_ (.var 2) mV [.ite jD [.ret (.lit (.bl HY))] []]) [s0,x1,x2,x3,x4,x5] S=.ok (.next [s0,x1,y,x3,x4,x5]) S:=by
 have g:ah aB G0 .dct [s0,x1,x2,x3,x4,x5] S=.ok .dct S:=by rw[ah]
 have h:aU aB G0 mV [s0,x1,x2,x3,x4,x5] S=.ok (.items oF) S:=jK (tZ (f_ aZ (f_ aZ (f_ (Hz (f_ aZ (f_ (Hz pp) pp))) (f_ (tZ (f_ aZ pp)) (f_ aZ (f_ g (f_ aZ pp)))))))) rfl
 obtain⟨a,i,⟨y,rfl,rfl⟩,f⟩:=tG (step:=λx b S=>match aQ (.var 2) x b with
   |some a=>af aB G0 [.ite jD [.ret (.lit (.bl HY))] []] a S
   |none=>.fail) (λb T=>∃y,b=[s0,x1,y,x3,x4,x5]/\T=S) oF (by rintro d c b T ⟨y,rfl,rfl⟩;have e:=ox H (G_ (S:=T) d c);have q:ao .NotEq f' f' T=.ok (.bl HY) T:=rfl;have t:al aB G0 jD [s0,x1,some d,x3,x4,x5] T=.ok HY T:=nB (s9 FQ (aE rfl) e) (tZ (f_ aZ (f_ aZ pp))) q;exact⟨_,T,⟨some d,rfl,rfl⟩,(fJ t).trans (by rw[af])⟩) [s0,x1,x2,x3,x4,x5] S ⟨x2,rfl,rfl⟩
 exact⟨y,(hO h).trans f⟩
theorem jZ{x:Str}(g:Sm 200 30 x){step:D->List D->ae->Res (List D)}(hs:∀y acc S d S',acc.length<a'->jB [.ref n,.str x] S=.ok d S'->step y acc S=.ok (acc++[d]) S'):∀(xs acc:List D) (S:ae),Flat S->bc S n->acc.length+xs.length<=1000->(∀d∈acc,gz d)->
  ∃ys S',(∀d∈ys,gz d)/\ys.length=acc.length+xs.length/\Drawn n S S'/\aR step xs acc S=.ok ys S'
 | [],acc,S,H,h,_,b=>⟨acc,S,b,rfl,.refl h,rfl⟩
 |z::xs,acc,S,H,h,l,b=>by
  simp only[Zp]at l;obtain⟨y,f,m,a,E⟩:=oo H h g;have q:=hs z acc S (.str y) f (by unfold a';omega) E
  obtain⟨ys,j,e,c,i,k⟩:=jZ g hs xs (acc++[.str y]) f (a.flat H) (a.pen h) (by simp only[Zr,Zp,ZW];omega) (λd hd=>by
   rcases ZK.mp hd with hd|hd
   ·exact b d hd
   ·exact⟨y,m,Jd.mp hd⟩)
  refine⟨ys,j,e,?_,a.trans i,?_⟩
  ·rw[c];simp only[Zr,Zp,ZW];omega
  ·unfold aR;rw[q];exact k
theorem A4{x:Str}(u:Sm 200 30 x)(o:Flat S)(s:bc S n)(i:ρ[4]?=some (some (.ref n)))(l:ρ[5]?=some (some (.str x))):∃ys S',(∀d∈ys,gz d)/\ys.length=8/\Drawn n S S'/\ah aB G0 sN ρ S=.ok (.lst ys) S':=by
 have m:aU aB G0 (.range [.lit (.int 8)]) ρ S=.ok (.items (cW 0 8)) S:=by simp[aU,aj,ah,Res.bind]
 obtain⟨ys,S',a,b,c,d⟩:=jZ u (step:=λx A g=>match br (.var 0) x ([none,some 4,some 5].map λj=>j.bind λj=>(ρ[j]?).join)with
    |some e=>(aV aB G0 [] e g).bind λk f=>if k=HX then bN aB G0 (.emit (.call "_law_bent_text" [.var 1,.var 2])) e A f else .ok A f
    |none=>.fail) (λz A S d S' p r=>by
   have t:([none,some 4,some 5].map λj=>Option.bind j λj=>(ρ[j]?).join)=[none,some (.ref n),some (.str x)]:=by simp[i,l]
   have h:A.length<16777216:=p;have H:br (.var 0) z [none,some (.ref n),some (.str x)]=some [some z,some (.ref n),some (.str x)]:=rfl;simp only[t,H];simp only[aV,bN,Res.bind,if_true,ah,aj,Zn,ZB,FW,r];simp[h]) (cW 0 8) [] S o s (by simp[K91.nk,K91.sV]) (λd q=>by cases q)
 refine⟨ys,S',a,?_,c,?_⟩
 ·rw[b];simp[K91.nk,K91.sV]
 ·exact hV m d
theorem oG(a:Flat S)(f:ns.length<=63){x:List (Option D)}:∃cs:Li,aU aB G0 mW (some (.scr (ns.map D.int))::x) S=.ok (.items (cs.map D.int)) S:=by
 obtain⟨c,e⟩:=K91.nL a ns;rw[<-G9]at e;obtain⟨cs,b,d⟩:∃cs:Li,cM (ns.map D.int) (some 1) (some 8)=cs.map D.int/\cs.length<=63:=by refine⟨(ns.drop _).take _,by unfold cM;rw[<-Kk,<-K1],?_⟩;simp;omega
 refine⟨c::cs,?_⟩;have h:gG (.scr (ns.map D.int)) (some 1) (some 8) S=.ok (.lst (cs.map D.int)) S:=by rw[<-b];rfl
 have H:fN (.lst [.int c]) (.lst (cs.map D.int)) S=.ok (.lst ([.int c]++cs.map D.int)) S:=by show(if 1+(cs.map D.int).length<=a' then Res.ok (D.lst ([.int c]++cs.map D.int)) S else .fail)=_;rw[if_pos (by unfold a';simp;omega)]
 simp[mW,aU,ah,aj,Res.bind,Res.noErr,FR,e,dD,ck,h,gb,H,fS]
theorem ul(s:Flat S){s0 x1:Option D}(c:Int):∃Y F S',Flat S'/\af aB G0 jE [s0,x1,x2,some (.int c),x4,x5] S=.ok (.next [s0,x1,x2,some (.int c),Y,F]) S':=by
 obtain⟨b,q⟩:=K91.tY s c;rw[<-oz]at q;have f:Flat (S++[[.int c,.int b]]):=s.snoc rfl;have j:bc (S++[[.int c,.int b]]) S.length:=⟨c,b,by rw[IU (Zf _)];simp⟩;obtain⟨m,T,a,W,o,E⟩:=K91.tf f j;rw[<-oy]at E;have H:=o.flat f;have n:=o.pen j;have y:=G8 H W;have t:=ou W;generalize uj m T=x at*;generalize bX m T=w at*;obtain⟨G,e,B,C,u,v⟩:=A4 t H n (ρ:=[s0,x1,x2,some (.int c),some (.ref S.length),some (.str x)]) rfl rfl;have g:=u.flat H;refine⟨some (.ref S.length),some (.str x),e,g,?_⟩
 have z:aU aB G0 (.seq (.bin .Add (.lst HY [.var 5]) sN)) [s0,x1,x2,some (.int c),some (.ref S.length),some (.str x)] a=.ok (.items ([.str x]++G)) e:=by
  have h:=f9 (tZ (f_ (aE (Φ:=aB) (Γ:=G0) (S:=a) (ρ:=[s0,x1,x2,some (.int c),some (.ref S.length),some (.str x)]) (i:=5) rfl) pp)) v (Af (p:=[.str x]) (by simp only[Zp,ZW];omega));rw[aU]
  refine Eq.trans (congrArg (λr=>Res.bind r λd l=>match fS l d with
   |some i=>Res.ok i l
   |none=>.fail) h) ?_
  rfl
 have A:al aB G0 (.bnot (.blt .all [sO])) [s0,x1,x2,some (.int c),some (.ref S.length),some (.str x)] a=.ok HY e:=A2 g (N:=["_law_one"]) z (λd hd=>by
  rcases ZK.mp hd with hd|hd
  ·exact⟨x,t.mono (by decide) (by decide),Jd.mp hd⟩
  ·exact B d hd) (by rw[Zr,Jj];omega)
 unfold jE;refine(b4 (d:=.ref S.length) (S':=S++[[.int c,.int b]]) (s9 FO (aE rfl) q)).trans ?_;refine(b4 (d:=.str x) (S':=a) (s9 FP (Gq FU (aE rfl) aZ E) y)).trans ?_;refine(bH (ρ':=[s0,x1,x2,some (.int c),some (.ref S.length),some (.str x)]) (S':=e) ?_).trans rfl;show am aB G0 (.ite (.bnot (.blt .all [sO])) [.ret (.lit (.bl HY))] []) [s0,x1,x2,some (.int c),some (.ref S.length),some (.str x)] a=_;rw[jI (k:=HY) (S1:=e) A];rfl
theorem good(n:Li)(m:n.length<=63):∃S',jF [.scr (n.map D.int)] []=.ok (.bl HX) S':=by
 obtain⟨y,j⟩:=A3 (S:=[]) Flat.nil (s0:=some (.scr (n.map D.int))) (x1:=some (.lst (c_.map D.str))) (x2:=none) (x3:=none) (x4:=none) (x5:=none);obtain⟨C,H⟩:=oG (S:=[]) Flat.nil m (x:=[some (.lst (c_.map D.str)),y,none,none,none])
 obtain⟨a,S',_,l⟩:=tG (step:=λx d S=>match aQ (.var 3) x d with
   |some a=>af aB G0 jE a S
   |none=>.fail) (λd S=>∃f X b,d=[some (.scr (n.map D.int)),some (.lst (c_.map D.str)),y,f,X,b]/\Flat S) (C.map D.int) (by rintro x o d S ⟨f,X,b,rfl,i⟩;obtain⟨c,_,rfl⟩:=Zo.mp o;obtain⟨Y,r,g,h,e⟩:=ul i (s0:=some (.scr (n.map D.int))) (x1:=some (.lst (c_.map D.str))) (x2:=y) (x4:=X) (x5:=b) c;exact⟨_,g,⟨some (.int c),Y,r,rfl,h⟩,e⟩) [some (.scr (n.map D.int)),some (.lst (c_.map D.str)),y,none,none,none] [] ⟨none,none,none,rfl,Flat.nil⟩
 have k:af aB G0 eK [some (.scr (n.map D.int)),none,none,none,none,none] []=.ok (.ret (.bl HX)) S':=by rw[oB,oE Flat.nil];refine(bH (ρ':=[some (.scr (n.map D.int)),some (.lst (c_.map D.str)),y,none,none,none]) (S':=[]) j).trans ?_;refine(bH (ρ':=a) (S':=S') ?_).trans rfl;rw[hO H];exact l
 refine⟨[],?_⟩;show aH aB G0 eK gr.length 1 [.scr (n.map D.int)] []=_;unfold aH;rw[if_pos (show [D.scr (n.map D.int)].length=1 from rfl)];rw[show af aB G0 eK ([D.scr (n.map D.int)].map some++Ic (gr.length-1) none) []=_ from k];rfl
end K91
section
namespace K91
theorem walk{l:PySem.W.OpenLaw}{q:Ia}{d:DefRec}{K:Params->Fg}(i:l.most=some 63)(H:d.params.defaults=[])
  (e:∀(w:Io) (h:Ig),YP w h->(K w.params).In h)
  (F:∀(w:Io) (mg:Mg) (fa:H7) (h:Ig),(K w.params).In h->h.Ns mainGlobals mg->mg d.name=some (.ref fa)->
   ∃fd:IP,(∀(s:HZ) (u:H8),L_ s fd ⟨[u],[]⟩ [("_law_script",u)])/\∀base:Ig,(K w.params).In base->base.Ns mainGlobals mg->cz l.prog w (K w.params) mg base (bp l.prog w) 10 fa fd ["_law_script"] (gu (K w.params))):
  PySem.W.WalkO q loose XP YP l.row.toRowW d [] (λf vs=>PySem.call f vs):=
 L2.kM (n:=63) (k:=10) (x:="_law_script") (CX:=λw=>bp l.prog w) (sp:=λw=>gu (K w.params)) i (by decide) H ⟨rfl,by decide,by decide,rfl⟩ e F (λ_ _ a N g b c=>⟨a,N,rfl,b,c,g,λ_=>rfl⟩) λ_ _ _ _ _ z=>pg _ _ _ _ _ z
end K91
namespace PySem.W.Fast
def tw7676845340057072073:=Nat
def tw99768124544091843:=Nat
def tw2478852802112906021:=Nat
def tw1088893796272829918:=Nat
def tw2958202192158123275:=Nat
def tw12742004574441948787:=Nat
def tw10124963228623137403:=Nat
def tw14622932163819102320:=Nat
def tw6409953578220476699:=Nat
def tw2033936468736966421:=Nat
def tw17625152714407429788:=Nat
def tw3354002066176870820:=Nat
def tw386633745748693991:=Nat
def tw11310922913063166402:=Nat
def tw737044031000486825:=Nat
def tw496544521780419395:=Nat
def tw3860742725443280432:=Nat
def tw3317200887468204389:=Nat
def tw17962734394404381139:=Nat
def tw11467884619806937252:=Nat
def tw155264669810125297:=Nat
def tw2079985920526352917:=Nat
def tw12041781112006107435:=Nat
def tw4330200090689858594:=Nat
def tw908560907342418564:=Nat
def tw3108188095098496866:=Nat
def tw18111115402179147612:=Nat
def tw17761775493118268355:=Nat
def tw11912180842318932404:=Nat
def tw1088765740645443005:=Nat
def tw5759617241054115427:=Nat
def tw7052009150737047974:=Nat
def tw10360261124914170082:=Nat
def tw5671919500682208278:=Nat
def tw16379619896969454551:=Nat
def tw3765820443135262698:=Nat
def tw6823707428918420684:=Nat
def tw5951574609752500850:=Nat
def tw2890347873551183729:=Nat
def tw6474453080125533859:=Nat
def tw326400048601244422:=Nat
def tw7711271393137938434:=Nat
def tw8991173801036825743:=Nat
def tw10437321302766601599:=Nat
def tw3695269149742384462:=Nat
def tw15539057248633748552:=Nat
def tw5753349871501923176:=Nat
def tw7720732232218793716:=Nat
def tw4593800478914607281:=Nat
def tw13675597793951731294:=Nat
def tw16837254844022673307:=Nat
def tw10778101940685515416:=Nat
def tw14650953629673496894:=Nat
def tw2585506546107654764:=Nat
def tw6599123635138992944:=Nat
def tw3371986697239114158:=Nat
def tw8422244858110714062:=Nat
def tw1809496744328414165:=Nat
def tw5194001501215370912:=Nat
def tw11310707181241576353:=Nat
def tw15473342300053525669:=Nat
def tw1519829581057987072:=Nat
def tw8532287432862075025:=Nat
def tw6577150337791975749:=Nat
def tw5036450829786379121:=Nat
def tw13609230242835197625:=Nat
def tw11719888065401912235:=Nat
def tw3174128506219838369:=Nat
def tw17254914863578003506:=Nat
def tw1721188019717151138:=Nat
def tw15356412821750727675:=Nat
def tw15151776348981756289:=Nat
def tw13778130747498890351:=Nat
def tw13227841940088820074:=Nat
def tw6780773927503588303:=Nat
def tw7697632134514176992:=Nat
def tw16167375581488752728:=Nat
def tw6811445492551096802:=Nat
def tw10978358792522607203:=Nat
def tw3106447449730945709:=Nat
def tw12405462202205052442:=Nat
def tw12975350894233391752:=Nat
def tw14065953543593746261:=Nat
def tw17976663919790653089:=Nat
def tw1687867436776666436:=Nat
def tw16751070156150837279:=Nat
def tw17481839047511655068:=Nat
def tw10945047623344730369:=Nat
def tw16861323144308194175:=Nat
def tw2577273961074154585:=Nat
def tw1326023772584014734:=Nat
def tw11754762388757143181:=Nat
def tw4537928005476361915:=Nat
def tw1952260562097244853:=Nat
def tw12093815118772072990:=Nat
def tw8110310908051481429:=Nat
def tw6562487550544674634:=Nat
def tw4840945088157840597:=Nat
def tw2920407839309878713:=Nat
def tw15515781149361107323:=Nat
def tw1389635575975632231:=Nat
def tw13700314041802670657:=Nat
def tw12236394670954701115:=Nat
def tw1104905965079160164:=Nat
def tw10168630025693119204:=Nat
def tw6378884988010200316:=Nat
def tw16172699107301659921:=Nat
def tw7524387326424059135:=Nat
def tw11081019708462647637:=Nat
def tw10147271290241305905:=Nat
def tw7341392627760905712:=Nat
def tw532631807476343224:=Nat
def tw4103074636267395574:=Nat
def tw13040086021856207629:=Nat
def tw5006630880712376093:=Nat
def tw3561830264036147757:=Nat
def tw14341199495131400957:=Nat
def tw11956555614045553810:=Nat
def tw11213026207187907152:=Nat
def tw3224312530629298971:=Nat
def tw14646722451930434340:=Nat
def tw909072885303072011:=Nat
def tw8274841760709172494:=Nat
def tw7504579284900219203:=Nat
def tw7293327940466125091:=Nat
def tw6088504129430130941:=Nat
def tw4697816618811837445:=Nat
def tw3608583146415956700:=Nat
def tw18100623432329815706:=Nat
def tw17493417689046787137:=Nat
def tw1526976649500861729:=Nat
def tw14655519864029750311:=Nat
def tw13589408628906237780:=Nat
def tw12945014165202268770:=Nat
def tw5346993544633645711:=Nat
def tw8835710644400838371:=Nat
def tw558409586354319124:=Nat
def tw14889015514183737492:=Nat
def tw1484971078129035264:=Nat
def tw14737041982019668172:=Nat
def tw13218976145755737251:=Nat
def tw14146899992995079894:=Nat
def tw11492523073980344431:=Nat
def tw17732609412483770345:=Nat
def tw5250393660052066000:=Nat
def tw6492483090145609836:=Nat
def tw4884061304884210087:=Nat
def tw14495928696099731547:=Nat
def tw11490096392100862477:=Nat
def tw9905343088860703728:=Nat
def tw4530641356678947509:=Nat
def tw4109286035965634172:=Nat
def tw3342762097482710929:=Nat
def tw2746381240955454990:=Nat
def tw14947861456032191779:=Nat
def tw13601417905198727566:=Nat
def tw5219988076439306232:=Nat
def tw8053217313841377961:=Nat
def tw16347070568001386867:=Nat
def tw11763431144887327539:=Nat
def tw5327823784239767595:=Nat
def tw12300911885637690073:=Nat
def tw11582353086714782284:=Nat
def tw16558175893279410754:=Nat
def tw2078238417451157886:=Nat
def tw5301908139831873380:=Nat
def tw4076954114022435348:=Nat
def tw10292558692370514285:=Nat
def tw3170765802303347940:=Nat
def tw16580333028838328176:=Nat
def tw7312269679446285461:=Nat
def tw1792872570240160032:=Nat
def tw12730946441828570220:=Nat
def tw2352770755719662388:=Nat
def tw9135842156589125554:=Nat
def tw7151081262029792434:=Nat
def tw15231706762421237059:=Nat
def tw14919122495039830899:=Nat
def tw9586573570955694182:=Nat
def tw5620078747597280867:=Nat
def tw6545764904290087132:=Nat
def tw9703277088358304716:=Nat
def tw14502832865785641196:=Nat
def tw5895172179279228140:=Nat
def tw18227837620060183669:=Nat
def tw8693547709926568090:=Nat
def tw16180981390341968829:=Nat
def tw8093182487813424272:=Nat
def tw5162819566018693959:=Nat
def tw10960908279401286490:=Nat
def tw12091413004101554503:=Nat
def tw7981729385984177406:=Nat
def tw14729416267947487537:=Nat
def tw7515306306592006420:=Nat
def tw4850699557193243929:=Nat
def tw5926785462824483077:=Nat
def tw11231284294000335370:=Nat
def tw12999395947407259798:=Nat
def tw16375182111812039317:=Nat
def tw17821412497129816463:=Nat
def tw16267964529880860751:=Nat
def tw11152761212124670506:=Nat
def tw4098105732698614651:=Nat
def tw2877033978383338193:=Nat
def tw569005697330554473:=Nat
def tw13768978182209034956:=Nat
def tw6824103910986369132:=Nat
def tw853541658533609553:=Nat
def tw2709868692260675988:=Nat
def tw1179957593768933501:=Nat
def tw6806278914234373195:=Nat
def tw16202664729776121659:=Nat
def tw15063657243391930645:=Nat
def tw11352610704666754171:=Nat
def tw13055921498393109356:=Nat
def tw627543881472223289:=Nat
def tw13082250014144744341:=Nat
def tw2136613906613054293:=Nat
def tw8749402780505447014:=Nat
def tw6458651877801120886:=Nat
def tw3241313233619434186:=Nat
def tw5693023080144881258:=Nat
def tw12223398419085596888:=Nat
def tw17788206771991323383:=Nat
def tw11470921758295290609:=Nat
def tw1390117824154194760:=Nat
def tw4824987136443512995:=Nat
def tw11914438640760879194:=Nat
def tw7286068172076402970:=Nat
def tw13606649663017400490:=Nat
def tw18307722564107004848:=Nat
def tw11090195361297222414:=Nat
def tw8683599516769269665:=Nat
def tw16681980042987703547:=Nat
def tw7630240849829874307:=Nat
def tw16029985862171726198:=Nat
def tw12542847669987623858:=Nat
def tw9082702756550291202:=Nat
def tw13204391153173259215:=Nat
def tw8859592562169636295:=Nat
def tw14729488938815736445:=Nat
def tw7674877478582654045:=Nat
def tw12540456903549570558:=Nat
def tw12176549984416975797:=Nat
def tw12113349458656583965:=Nat
def tw17996412712075561666:=Nat
def tw6653093613226174473:=Nat
def tw463172260964788238:=Nat
def tw2816634594179672695:=Nat
def tw3910445991208253908:=Nat
def tw3231538916639830403:=Nat
def tw1780837379266433667:=Nat
def tw12316809496519878213:=Nat
def tw8024945109652658029:=Nat
def tw13924012523426879534:=Nat
def tw1069524893075995838:=Nat
def tw17257956711803880744:=Nat
def tw17984716458298063440:=Nat
def tw6630515576923498484:=Nat
def tw9727623769115308995:=Nat
def tw5404379587031573349:=Nat
def tw17794658142944116402:=Nat
def tw10635643039276299810:=Nat
def tw2312203534938955786:=Nat
def tw5402606845283850008:=Nat
def tw3143158622018058331:=Nat
def tw7493920928035093647:=Nat
def tw7133762240126300287:=Nat
def tw6939658632169778355:=Nat
def tw2073070690530316920:=Nat
def tw17644936679583231285:=Nat
def tw14413777229614018649:=Nat
def tw11402586340100027763:=Nat
def tw3941350283931975098:=Nat
def tw4141521041184734369:=Nat
def tw6775957249554018341:=Nat
def tw16633786931071658142:=Nat
def tw7038053830007215754:=Nat
def tw6227728419456771761:=Nat
def tw15144532570317019861:=Nat
def tw6518488000566605289:=Nat
def tw9028231789327517125:=Nat
def tw15864440560611135568:=Nat
end PySem.W.Fast
open PySem PySem.W PyProof.Rows
set_option maxRecDepth 100000 in
set_option maxHeartbeats 0 in
theorem PySem.Challenge.cw_pairwebs_k91_webs_read_holds : PySem.Challenge.rw_pairwebs_k91_webs_read.Holds := by
 w_on;o_law;k_head;(case hw=>w_witness2)
 k_fill
 refine K91.walk (l:=PySem.Challenge.rw_pairwebs_k91_webs_read) rfl rfl (λw h Y=>PySem.W.kIn_of Y) ?F
 case F=>
  intro w mg fa h KX G hmg
  refine' K91.sR KX G hmg K91.good ⟨K91.dm ?_ ?_ ?_ ?_,K91.dm ?_ ?_ ?_ ?_,K91.dm ?_ ?_ ?_ ?_,K91.dm ?_ ?_ ?_ ?_,K91.dm ?_ ?_ ?_ ?_,K91.dm ?_ ?_ ?_ ?_,K91.dm ?_ ?_ ?_ ?_,K91.dm ?_ ?_ ?_ ?_,K91.dm ?_ ?_ ?_ ?_,K91.dm ?_ ?_ ?_ ?_,K91.dm ?_ ?_ ?_ ?_,K91.dm ?_ ?_ ?_ ?_,K91.dm ?_ ?_ ?_ ?_,K91.dm ?_ ?_ ?_ ?_,K91.dm ?_ ?_ ?_ ?_,K91.dm ?_ ?_ ?_ ?_,K91.dm ?_ ?_ ?_ ?_,K91.dm ?_ ?_ ?_ ?_,K91.dm ?_ ?_ ?_ ?_,K91.dm ?_ ?_ ?_ ?_,K91.dm ?_ ?_ ?_ ?_,K91.dm ?_ ?_ ?_ ?_,K91.dm ?_ ?_ ?_ ?_,K91.dm ?_ ?_ ?_ ?_,K91.dm ?_ ?_ ?_ ?_,K91.dm ?_ ?_ ?_ ?_,K91.dm ?_ ?_ ?_ ?_⟩ ?Z ?_ ?_ ?R
  case R=>kernel_rfl
  case Z=>intro x hx;simp only[Py.fu,Zj,M',or_false]at hx;rcases hx with rfl|rfl|rfl|rfl|rfl|rfl|rfl|rfl|rfl|rfl|rfl|rfl|rfl|rfl|rfl|rfl|rfl|rfl|rfl|rfl|rfl<;>k_is
  all_goals first|k_is|skip
end
