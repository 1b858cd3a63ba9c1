import PyProof.Rows.All
import Wide.All
import OpenK.AllK
import Wide.FinOn
import Lean
import PyProof.EqAt
import PyProof.EqKinds
import PyProof.TupleCall
import PyProof.ListMulAny
import PyProof.FactsAll.tuple
import KE.IntBitsLaws
import PyProof.NeKinds
import PyProof.FactsAll.tuple_2
import PyProof.SumWalkG
import PyProof.WalksMore
import PyProof.MinMaxWalk
import PyProof.Rows.SeqMore
import PyProof.FactsAll.tuple_3
import PyProof.StrCalls2
import PyProof.StrCalls3
import KE.KRevIter
import PyProof.FactsAll.range_2
import PyProof.EnumFor
import PyProof.TupleOfGen
import PyProof.ListRange
import PyProof.Rows.SetFrom
import PyProof.FactsAll.subtypes_4
import PyProof.TupleKey
import PyProof.IsRules
import PyProof.RangeFor
import PyProof.FactsAll.set_1
import PyProof.CollectIter
import PyProof.FactsAll.set_2
import KE.KSortAsk
import KE.KSortTup
import PyProof.DictWalks
import PyProof.DictRoadsH
import PyProof.CallStr
import PyProof.Rows.FStr
import PyProof.ExcBaseAll.ValueError
import PyProof.Rows.TopTwo
import PyProof.ExcAttrAll.ValueError
import KE.KIsAll
import KE.KTryMore
import PySem.Challenge.RW_pairwebs_k90_webs_and_pairings_written
noncomputable section
set_option genSizeOfSpec false
set_option compiler.extract_closed false
set_option Elab.async false
set_option linter.all false
set_option maxRecDepth 100000
set_option maxHeartbeats 16000000
namespace L2
end L2
namespace Py
end Py
open PySem renaming wpAny_bind->Za,wpAny_pure->Zd,mem_of_lookup->ZA,wpAny_truthy_bool->ZJ,wpAny_holding->ZL,wpAny_call_entry->ZM,wpAny_callSpecial?_slot->ZN,wpAny_field->ZO,wpAny_newObj_type->Z0
open PySem.Heap renaming get?_push_of_some->Zb,get?_push_size->Zh,lt_size->Zi
open List renaming mem_cons_of_mem->Zc,mem_cons_self->Ze,getElem?_eq_some_iff->Zg,getElem?_eq_getElem->Zj,mem_cons->Zk,getElem?_cons_zero->Zl,length_map->Zm,all_eq_true->Zn,length_append->Zo,mem_map->Zp,getElem?_cons_succ->Zq,size_toArray->Zs,mem_of_getElem?->Zu,not_mem_nil->Zv,getElem?_append_left->Zw,getElem?_append_right->Zy,mem_append_right->Zz,mem_append->ZE,length_cons->ZG,exists_cons_of_length_eq_add_one->ZH,eq_nil_of_length_eq_zero->ZI,mem_iff_getElem->ZK,mem_filterMap->ZP,length_nil->ZQ,zip_cons_cons->ZV,pairwise_cons->ZW,mem_append_left->ZX,getElem?_set_self->ZZ,nodup_append->Z3,append_assoc->Z4
open Nat renaming le_refl->Zf,ne_of_lt->Zt,lt_of_lt_of_le->ZB,le_trans->ZC,zero_le->Z2
open Bool renaming false_eq_true->Zr,and_eq_true->ZY
open Nat.succ renaming inj->ZF
open Array renaming length_toList->ZS
open LawfulBEq renaming eq_of_beq->ZU
open PyProof.Rows renaming slot_tuple_getitem->Z1
open PySem.Heap.SameBut renaming update->Z5
open PySem PySem.Spec PyProof.Rows L2 Py
abbrev Mg:=Str->Option Value
abbrev Vs:=Value->Shared->Prop
abbrev Fg:=PySem.W.Frag
abbrev Lp:=List (Addr×Obj)
abbrev Lq:=List (Int×Int)
abbrev Li:=List Int
abbrev La:=List Addr
abbrev Lv:=List Value
abbrev Ls:=List Str
abbrev Lx:=List Expr
abbrev Ov:=Option Value
abbrev Av:=Array Value
def Zx:=@decide_eq_false
def ZD:=@decide_eq_true
def ZR:=@if_false
def ZT:=@of_decide_eq_true
variable {us its its' args:Lv}{u cd doc pm cdv ct oc vl vu cls a0:Value}{a it C dx f sl fa acc I pa:Addr}{o ob:Obj}{w:World}{h h' h1 h2 base h0 h3:Heap}{α β:Type}{e tg iter r' z ce elt:Expr}{pq pins':Lp}{s s' s2:Shared}{g':Array GenState}{t' n tk mask wanted ep line np:Nat}{d':PySem.Drawn}{ch fp μ μ' F wr μ1 μ0:La}{N loose N':Ls}{M:Model}{A:Around}{E Q R E':Vs}{rest es ifs:Lx}{y name qual sep pe:Str}{K:Fg}{st:Stmt}{pos' apos p2 cpos pt2 p1 p3 p4 vp tp cp rp hp:Pos}{lo hi:Option Int}{op' op'':CmpOp}{prog q:Program}{mg:Mg}{ps ts ls:Lq}{m:Int}{ks:List (Li×Addr)}{scope:Scope}{outer:List Env}{od:Option Addr}{osl:Array (Ov)}{items:Av}{ns hs:Li}{XP:(Mg)->Heap->Prop}{YP:World->Heap->Prop}{env:Env}{tn:Nat->Heap->Prop}{is:List Nat}{cell bf:Str->Bool}{b1 b2:Bool}{gens:List Comprehension}{fr:List (Option Nat)}{nb:Option (Str×Nat×Pos×Pos)}
namespace L2
abbrev Key:=Sum Int Str
noncomputable def pK:Key->Value->Bool
 | .inl k,v=>Value.isInt k v
 | .inr x,v=>Value.isStrOf x v
noncomputable def Dx(w:World):Key->Int
 | .inl k=>hashInt k
 | .inr x=>hashStr w x
theorem e_:∀{k:Key} {v:Value},pK k v=true->(∃i t,k=Sum.inl i/\v=Value.int i t)\/(∃x t,k=Sum.inr x/\v=Value.str x t)
 | .inl i,v,h=>by obtain⟨t,e⟩:=Value.isInt_shape h;exact .inl ⟨i,t,rfl,e⟩
 | .inr x,v,h=>by obtain⟨t,e⟩:=Value.isStrOf_shape h;exact .inr ⟨x,t,rfl,e⟩
theorem qw(a b:Int):decide ((Sum.inl a:Key)=Sum.inl b)=(a==b):=by lia
theorem qx(a b:Str):decide ((Sum.inr a:Key)=Sum.inr b)=decide (a=b):=by lia
theorem qy(a:Int)(b:Str):decide ((Sum.inl a:Key)=Sum.inr b)=false:=Zx λq=>nomatch q
theorem qz(a:Str)(b:Int):decide ((Sum.inr a:Key)=Sum.inl b)=false:=Zx λq=>nomatch q
noncomputable def qA(prog:Program)(w:World):PySem.KeyKind prog w Key where
 is:=pK
 hash:=Dx w
 inj:=λv a b ha hb=>by
  rcases e_ ha with⟨i,t,rfl,rfl⟩| ⟨x,t,rfl,rfl⟩
  ·rcases e_ hb with⟨j,u,rfl,e⟩| ⟨y,u,rfl,e⟩
   ·injection e with e1 _;rw[e1]
   ·exact nomatch e
  ·rcases e_ hb with⟨j,u,rfl,e⟩| ⟨y,u,rfl,e⟩
   ·exact nomatch e
   ·injection e with e1 _;rw[e1]
 byValue:=λk v h=>by rcases e_ h with⟨i,t,rfl,rfl⟩| ⟨x,t,rfl,rfl⟩<;>rfl
 pyHash:=λhv h=>by
  rcases e_ hv with⟨i,t,rfl,rfl⟩| ⟨x,t,rfl,rfl⟩
  ·exact wpAny_pyHash_int h
  ·exact wpAny_pyHash_str h
 eqBool:=λhu hv h=>by
  rcases e_ hu with⟨i,t,rfl,rfl⟩| ⟨x,t,rfl,rfl⟩
  ·rcases e_ hv with⟨j,u,rfl,rfl⟩| ⟨y,u,rfl,rfl⟩
   ·rw[qw]at h;exact wpAny_eqBool_int h
   ·rw[qy]at h;exact SeqAt.EqAt.int_str i t y u _ _ _ _ h
  ·rcases e_ hv with⟨j,u,rfl,rfl⟩| ⟨y,u,rfl,rfl⟩
   ·rw[qz]at h;exact SeqAt.EqAt.str_int x t j u _ _ _ _ h
   ·rw[qx]at h;exact wpAny_eqBool_str h
 «strs»:=λk x t v h=>by
  rcases e_ h with⟨i,u,rfl,e⟩| ⟨y,u,rfl,e⟩
  ·exact nomatch e
  ·injection e with e1 _
   subst e1;cases v<;>rfl
inductive V where
 |non|bl (b:Bool)|int (i:Int)|str (x:Str)|byt (b:Array UInt8)|flt (b:UInt64)|ref (a:Addr)|ty (n:String)
 deriving DecidableEq
noncomputable def RelV:V->Value->Prop
 | .non,u=>u=Value.none
 | .bl b,u=>u=Value.bool b
 | .int i,u=>∃t,u=Value.int i t
 | .str x,u=>∃t,u=Value.str x t
 | .byt b,u=>∃t,u=Value.bytes b t
 | .flt b,u=>∃t,u=Value.float b t
 | .ref a,u=>u=Value.ref a
 | .ty n,u=>u=Value.type n
abbrev Vals:List V->Lv->Prop:=Paired RelV
theorem Vals.length{xs:List V}(r:Vals xs us):xs.length=us.length:=Paired.length r
theorem Vals.get:∀{xs:List V} {us:Lv} {i:Nat} {x:V},Vals xs us->xs[i]?=some x->∃u,us[i]?=some u/\RelV x u
 |_,_,_,_,.nil,e=>by simp_all
 |_,_,0,_,.cons r _,e=>by simp_all
 |_,_,i+1,x,.cons _ t,e=>by obtain⟨u,h,H⟩:=Vals.get t (by simpa using e);simp_all
theorem Vals.set{x:V}(r:RelV x u):∀{xs:List V} {us:Lv} (i:Nat),Vals xs us->Vals (xs.set i x) (us.set i u)
 |_,_,_,.nil=>.nil
 |_,_,0,.cons _ t=>.cons r t
 |_,_,i+1,.cons q t=>.cons q (Vals.set r i t)
theorem Vals.append:∀{xs ys:List V} {us w:Lv},Vals xs us->Vals ys w->Vals (xs++ys) (us++w)
 |_,_,_,_,.nil,s=>s
 |_,_,_,_,.cons r t,s=>.cons r (Vals.append t s)
theorem Vals.take:∀{xs:List V} {us:Lv} (n:Nat),Vals xs us->Vals (xs.take n) (us.take n)
 |_,_,0,_=>.nil
 |_,_,_+1,.nil=>.nil
 |_,_,n+1,.cons r t=>.cons r (Vals.take n t)
theorem Vals.drop:∀{xs:List V} {us:Lv} (n:Nat),Vals xs us->Vals (xs.drop n) (us.drop n)
 |_,_,0,r=>r
 |_,_,_+1,.nil=>.nil
 |_,_,n+1,.cons _ t=>Vals.drop n t
noncomputable def wc:Option V->Ov->Prop
 |some v,some u=>RelV v u
 |none,none=>True
 |_,_=>False
def KV{a:Type}:List (a×V)->List (a×Value)->Prop:=Paired λ(p:a×V) (q:a×Value)=>p.1=q.1/\RelV p.2 q.2
noncomputable def kV:Key->V
 | .inl i=>.int i
 | .inr x=>.str x
inductive HO where
 |lst (xs:List V)
 |tup (xs:List V)
 |dK (kvs:List (Key×V))|dT (kvs:List (List Key×V))
 |set (S:Int->Bool) (n:Nat)
 |ins (C dx:Addr) (fs:List (Str×V))
 |own (x:Addr)
 |xd (fs:List (Str×V))
 |met (f x:Addr)
 |rng (lo hi:Int)
 |frz (o:Obj) (u:HO)
 |tbl (ps:Av)
 |ext (φ:Heap->Prop)
abbrev Hp:=Addr->Option HO
noncomputable def aZ(H:Hp)(a:Addr)(o:HO):Hp:=λb=>if b=a then some o else H b
theorem bM{H:Hp}{o:HO}:aZ H a o a=some o:=by unfold aZ;simp_all
theorem aF{H:Hp}{b:Addr}{o:HO}(h:b≠a):aZ H a o b=H b:=by unfold aZ;rw[if_neg h]
theorem bN{H:Hp}{b:Addr}{o:HO}(h:H a=some o)(h':H b=none):a≠b:=by lia
def pL(h:Heap)(a:Addr):Prop:=∃o,h.get? a=some o/\o.dict=none
theorem pL.new(h:Heap)(items:Av):pL (h.push {cls:=.type "tuple",data:=.seq items}) h.objs.size:=⟨_,Zh _ rfl,rfl⟩
section
variable (P:Program)(w:World)
noncomputable def a7(H:Hp)(h:Heap)(a:Addr):HO->Prop
 | .lst xs=>xs.length<=sizeLine/\∃(its:Lv) (n:Nat),Vals xs its/\h.get? a=some {cls:=.type "list",data:=.seq its.toArray n}
 | .tup xs=>xs.length<=sizeLine/\∃its:Lv,Vals xs its/\IsTup h a its.toArray/\pL h a
 | .dK k=>k.length<=sizeLine/\(a==sysModules)=false/\∃vs,KV k vs/\h.DictOf (qA P w) a vs
 | .dT k=>k.length<=sizeLine/\(a==sysModules)=false/\∃xs:List (List Key×Addr×Value),
   Paired (λ(p:List Key×V) (q:List Key×Addr×Value)=>p.1=q.1/\H q.2.1=some (.tup (p.1.map kV))/\RelV p.2 q.2.2) k xs/\
   ∃o es ep,h.get? a=some o/\o.ExactDict/\o.data=.dict es ep/\es.toList=xs.map (entryOfKey (tupleKind (qA P w)))/\(xs.map (·.1)).Nodup
 | .set S n=>h.SetOf (intKind P w) a S n
 | .ins C dx fs=>H dx=some (.own a)/\fs.length<=1000/\dx≠a/\h.get? a=some (PySem.W.instObj C dx)/\
   ∃mA,h.Ns1 dx mA/\(∀f,wc (fs.lookup f) (mA f))/\PySem.Within mA (fs.map (·.1))
 | .own _=>∃o,h.get? a=some o
 | .xd fs=>∃mA,h.Ns1 a mA/\∀f,wc (fs.lookup f) (mA f)
 | .rng lo hi=>∃t u v,h.get? a=some {cls:=.type "range",data:=.fields #[.int lo t,.int hi u,.int 1 v]}
 | .frz o u=>h.get? a=some o/\a7 H h a u
 | .tbl ps=>h.get? a=some {cls:=.none,data:=.fields ps}
 | .met f x=>h.get? a=some (PySem.W.methodObj (.ref f) (.ref x))
 | .ext φ=>φ h/\(∃o,h.get? a=some o)/\∀h1 h2:Heap,φ h1->(∀o,h1.get? a=some o->h2.get? a=some o)->φ h2
def dO(H:Hp)(h:Heap):Prop:=∀a o,H a=some o->a7 P w H h a o
end
section
variable {P:Program}{H H':Hp}{o:HO}
theorem a7.lt(x:a7 P w H h a o):a<h.objs.size:=by
 cases o with
 |lst X=>obtain⟨_,_,_,_,e⟩:=x;exact Zi e
 |tup X=>obtain⟨_,_,_,p,_⟩:=x;exact p.lt
 |dK k=>obtain⟨_,_,_,_,o,_,_,e,_⟩:=x;exact Zi e
 |dT k=>obtain⟨_,_,_,_,o,_,_,e,_⟩:=x;exact Zi e
 |set S n=>obtain⟨o,_,_,_,e,_⟩:=x;exact Zi e
 |ins C d fs=>obtain⟨_,_,_,e,_⟩:=x;exact Zi e
 |own y=>obtain⟨_,e⟩:=x;exact Zi e
 |xd fs=>obtain⟨_,⟨_,_,_,e,_⟩,_⟩:=x;exact Zi e
 |rng lo b=>obtain⟨_,_,_,e⟩:=x;exact Zi e
 |frz O u=>obtain⟨e,_⟩:=x;exact Zi e
 |tbl c=>exact Zi (show h.get? a=some _ from x)
 |met f y=>exact Zi (show h.get? a=some _ from x)
 |ext g=>obtain⟨_,⟨_,e⟩,_⟩:=x;exact Zi e
theorem Paired.mapP{F G:α->β->Prop}:∀{l:List α} {L:List β},Paired F l L->(∀a b,F a b->G a b)->Paired G l L
 |_,_,.nil,_=>.nil
 |_,_,.cons r t,f=>.cons (f _ _ r) (Paired.mapP t f)
theorem a7.stay(x:a7 P w H h a o)(k:∀b u,(b=a\/H b=some (.own a))->h.get? b=some u->h'.get? b=some u)
  (A:∀b,H b=some (.own a)->H' b=some (.own a)) (B:∀b xs,H b=some (.tup xs)->H' b=some (.tup xs)):a7 P w H' h' a o:=by
 induction o with
 |lst xs=>obtain⟨z,i,n,r,e⟩:=x;exact⟨z,_,n,r,k _ _ (.inl rfl) e⟩
 |tup xs=>obtain⟨z,i,r,⟨O,e,c⟩,D,l,j⟩:=x;exact⟨z,_,r,⟨_,k _ _ (.inl rfl) e,c⟩,_,k _ _ (.inl rfl) l,j⟩
 |dK K=>obtain⟨z,y,vs,r,O,g,E,e,c⟩:=x;exact⟨z,y,_,r,_,_,_,k _ _ (.inl rfl) e,c⟩
 |dT K=>obtain⟨z,y,xs,r,O,g,E,e,c⟩:=x;exact⟨z,y,_,Paired.mapP r λp q z=>⟨z.1,B _ _ z.2.1,z.2.2⟩,_,_,_,k _ _ (.inl rfl) e,c⟩
 |set S n=>obtain⟨O,g,E,t,e,c⟩:=x;exact⟨_,_,_,t,k _ _ (.inl rfl) e,c⟩
 |ins C G fs=>obtain⟨d,z,ne,e,M,⟨F,g,E,m,c⟩,r⟩:=x;exact⟨A _ d,z,ne,k _ _ (.inl rfl) e,_,⟨_,_,_,k _ _ (.inr d) m,c⟩,r⟩
 |own y=>obtain⟨O,e⟩:=x;exact⟨_,k _ _ (.inl rfl) e⟩
 |xd fs=>obtain⟨M,⟨F,g,E,e,c⟩,r⟩:=x;exact⟨_,⟨_,_,_,k _ _ (.inl rfl) e,c⟩,r⟩
 |rng lo J=>obtain⟨t,u,v,e⟩:=x;exact⟨t,u,v,k _ _ (.inl rfl) e⟩
 |frz O u I=>obtain⟨e,q⟩:=x;exact⟨k _ _ (.inl rfl) e,I q⟩
 |tbl L=>have e:=x;exact k a _ (.inl rfl) e
 |met f y=>have e:=x;exact k a _ (.inl rfl) e
 |ext N=>obtain⟨p,⟨o,e⟩,s⟩:=x;exact⟨s _ _ p λo q=>k _ _ (.inl rfl) q,⟨o,k _ _ (.inl rfl) e⟩,s⟩
theorem dO.lt(x:dO P w H h)(e:H a=some o):a<h.objs.size:=(x a o e).lt
theorem dO.fresh(x:dO P w H h)(e:h.objs.size<=a):H a=none:=by
 cases q:H a with
 |none=>rfl
 |some u=>exact absurd (ZB (x.lt q) e) (Nat.lt_irrefl _)
theorem dO.kept(x:dO P w H h)(k:∀b u,h.get? b=some u->h'.get? b=some u):dO P w H h':=λa o e=>
 (x a o e).stay (λb u _ q=>k b u q) (λ_ q=>q) λ_ _ q=>q
theorem dO.laid(x:dO P w H h)(k:∀b u,h.get? b=some u->h'.get? b=some u)(g:h.objs.size<=a)(new:a7 P w (aZ H a o) h' a o):dO P w (aZ H a o) h':=λb u e=>by
 have f:=x.fresh g;by_cases d:b=a
 ·subst d;rw[bM]at e;simp_all
 ·rw[aF d]at e;exact(x b u e).stay (λc v _ q=>k c v q) (λc q=>by rw[aF (bN q f)];exact q) λc X q=>by rw[aF (bN q f)];exact q
end
def Rd(H:Hp)(a:Addr)(u:HO):Prop:=H a=some u\/∃o,H a=some (.frz o u)
theorem Rd.ok{P:Program}{H:Hp}{u:HO}(r:Rd H a u)(x:dO P w H h):a7 P w H h a u:=by
 rcases r with r| ⟨o,r⟩
 ·exact x a u r
 ·obtain⟨_,q⟩:=x a _ r;exact q
noncomputable def C':Option HO->Prop
 |some (.lst _)=>True
 |some (.dK _)=>True
 |some (.dT _)=>True
 |some (.set _ _)=>True
 |some (.ins _ _ _)=>True
 |some (.ext _)=>True
 |_=>False
section
variable {P:Program}{H:Hp}{x e:Addr}{o':HO}
theorem dO.write(ok:dO P w H h)(m:C' (H x))(i:e=x\/H e=some (.own x))(k:∀b u,b≠e->h.get? b=some u->h'.get? b=some u)(a:∃u,h'.get? e=some u)
  (new:a7 P w (aZ H x o') h' x o'):dO P w (aZ H x o') h':=λb u q=>by
 have n:∀c y,H c=some (.own y)->c≠x:=λc y r z=>by subst z;rw[r]at m;exact m
 have N:∀c X,H c=some (.tup X)->c≠x:=λc X r z=>by subst z;rw[r]at m;exact m
 by_cases d:b=x
 ·subst d;rw[bM]at q;simp_all
 ·rw[aF d]at q;by_cases f:b=e
  ·have Q:H b=some (.own x):=by lia
   rw[q]at Q;cases Q;obtain⟨v,j⟩:=a;exact⟨v,by lia⟩
  ·refine(ok b u q).stay (λc v g r=>k c v ?_ r) (λc r=>by rw[aF (n c b r)];exact r) λc X r=>by rw[aF (N c _ r)];exact r
   grind
end
structure Un (fs ex:La)(H H':Hp)(h h':Heap):Prop where
 keep:∀b o,h.get? b=some o->H b=none->b∉fs->b∉ex->h'.get? b=some o
 slot:∀b o,h.get? b=some o->H b=none->b∈fs->b∉ex->∃sl,h'.get? b=some {o with slots:=sl}
 free:∀b o,h.get? b=some o->H b=none->b∉ex->H' b=none
 there:∀b o,h.get? b=some o->b∉ex->∃o',h'.get? b=some o'
 tups:∀b xs,H b=some (.tup xs)->H' b=some (.tup xs)
 frzs:∀b o u,H b=some (.frz o u)->H' b=some (.frz o u)
 tbls:∀b ps,H b=some (.tbl ps)->∃more,H' b=some (.tbl (ps++more))
section
variable {fs fs' ex ex':La}{H H1 H2:Hp}{x e:Addr}{o:HO}
theorem Un.any(u:Un fs ex H H1 h h1){b:Addr}(q:h.get? b=some ob)(n:H b=none)(c:b∉ex):∃sl,h1.get? b=some {ob with slots:=sl}:=by
 by_cases a:b∈fs
 ·exact u.slot b _ q n a c
 ·exact⟨_,u.keep b _ q n a c⟩
theorem Un.kept(k:∀b u,h.get? b=some u->h'.get? b=some u):Un fs ex H H h h':=
 ⟨λb o q _ _ _=>k b _ q,λb o q _ _ _=>⟨_,k b _ q⟩,λ_ _ _ n _=>n,λb o q _=>⟨_,k b _ q⟩,λ_ _ q=>q,λ_ _ _ q=>q,λ_ p q=>⟨#[],by simp_all⟩⟩
theorem Un.refl:Un fs ex H H h h:=Un.kept λ_ _ q=>q
theorem Un.laid(k:∀b u,h.get? b=some u->h'.get? b=some u)(hp:h.objs.size<=a)(hn:H a=none):Un fs ex H (aZ H a o) h h' where
 keep:=λb u q _ _ _=>k b u q
 slot:=λb u q _ _ _=>⟨_,k b u q⟩
 free:=λb u q n _=>by rw[aF (Zt (ZB (Zi q) hp))];exact n
 there:=λb u q _=>⟨u,k b u q⟩
 tups:=λb xs q=>by rw[aF (bN q hn)];exact q
 frzs:=λb u xs q=>by rw[aF (bN q hn)];exact q
 tbls:=λb ps q=>⟨#[],by rw[aF (bN q hn),q];simp⟩
theorem Un.write(m:C' (H x))(g:e=x\/H e=some (.own x))(k:∀b u,b≠e->h.get? b=some u->h'.get? b=some u)(d:∃u,h'.get? e=some u):Un fs ex H (aZ H x o) h h':=by
 have f:∀b,H b=none->b≠x:=λb n z=>by subst z;rw[n]at m;exact m
 have c:∀b,H b=none->b≠e:=λb n z=>by lia
 have a:∀b u,H b=some u->¬C' (some u)->b≠x:=λb u q N z=>by lia
 refine⟨λb u q n _ _=>k b u (c b n) q,λb u q n _ _=>⟨_,k b u (c b n) q⟩,λb u q n _=>by rw[aF (f b n)];exact n,λb u q _=>?_,
  λb X q=>by rw[aF (a b _ q λz=>z)];exact q,λb u X q=>by rw[aF (a b _ q λz=>z)];exact q,λb p q=>⟨#[],by rw[aF (a b _ q λz=>z),q];simp⟩⟩
 grind
end
noncomputable def JW(h:Heap)(H:Hp):La:=(List.range h.objs.size).filter λa=>(H a).isSome
noncomputable def fc(h:Heap)(H:Hp):Heap:=PySem.W.hideAll h (JW h H)
theorem Dy(h:Heap)(H:Hp):(fc h H).objs.size=h.objs.size:=PySem.W.hideAll_size _ _
theorem Dz{H:Hp}{b:Addr}(e:h.get? b=some o)(n:H b=none):(fc h H).get? b=some o:=
 PySem.W.hideAll_get _ e λa=>by have q:=(List.mem_filter.mp a).2;simp_all
theorem kZ{H:Hp}{b:Addr}(e:(fc h H).get? b=some o):h.get? b=some o/\H b=none:=by
 have E:=PySem.W.of_hideAll _ e;refine⟨E,?_⟩;cases q:H b with
 |none=>rfl
 |some x=>have a:b∈JW h H:=List.mem_filter.mpr ⟨List.mem_range.mpr (Zi E),by simp[q]⟩;have z:(fc h H).get? b=none:=PySem.W.hideAll_none _ a;simp_all
structure Mod (K:Fg)(mg:Mg)(base:Heap):Prop where
 kin:K.In base
 glob:base.Ns mainGlobals mg
 blt:∃mb,base.Ns builtinsNs mb/\∀x:Str,x≠"__name__"->mb x=bootBuiltins x
 nolimit:base.NoLimit
structure Cx where
 prog:Program
 w:World
 K:Fg
 mg:Mg
 base:Heap
 A:Around
 N:Ls
 s₀:Shared
 H₀:Hp
 env:Env
 outer:List Env
 stack:List Env
 ex:La
 fn:Str->Bool
 calm:Bool
 pn:Lp
 xe:Vs
noncomputable def bG(l:List Env):La:=l.filterMap (·.frame)
abbrev Cx.fs(X:Cx):La:=bG X.outer
def we(s:Scope)(x:Str):Prop:=s.names.lookup x=some .local\/s.names.lookup x=some .cell\/s.names.lookup x=some .free
def Loc(s:Scope)(x:Str):Prop:=s.names.lookup x=some .local\/s.names.lookup x=some .cell
def Look(env:Env)(h:Heap)(m:Mg)(x:Str)(u:Value):Prop:=
 (env.kindOf x=some .local/\m x=some u)\/((env.kindOf x=some .cell\/env.kindOf x=some .free)/\∃c,env.cells.lookup x=some c/\h.IsCell c (some u))
structure Cx.Ok (X:Cx):Prop where
 mod:Mod X.K X.mg X.base
 kind:X.env.scope.kind=.function
 glob:X.env.globals=mainGlobals
 blt:X.env.builtins=builtinsNs
 above:X.s₀.heap.objs.size<=X.env.locals
 inj:∀x y c,X.env.cells.lookup x=some c->X.env.cells.lookup y=some c->x=y
 has:∀x,(X.env.kindOf x=some .cell\/X.env.kindOf x=some .free)->∃c,X.env.cells.lookup x=some c
 cab:∀x c,X.fn x=true->X.env.cells.lookup x=some c->X.s₀.heap.objs.size<=c
 hd:X.calm=true->X.A.handled=none
 frames:X.A.frames=some X.stack
 stk:X.stack=X.outer\/(X.stack=X.env::X.outer/\X.env.frame=some X.env.locals)
 exf:∀b∈X.ex,b≠X.env.locals/\∀x c,X.env.cells.lookup x=some c->c≠b
 bs:∀b o,X.base.get? b=some o->X.s₀.heap.get? b=some o/\X.H₀ b=none
 bsz:X.base.objs.size<=X.s₀.heap.objs.size
 noex:∀b o,X.base.get? b=some o->b∉X.ex
 exfs:∀b∈X.ex,b∉X.fs
 funs:X.s₀.heap.FunFrames X.base X.outer
 frf:∀b∈X.fs,X.H₀ b=none
structure Inv (X:Cx)(pq:Lp)(σ:List (Option V))(H:Hp)(s:Shared):Prop where
 ok:X.Ok
 os:s.os=X.s₀.os
 bare:AllBare s.gens
 base:Un X.fs X.ex X.H₀ H X.s₀.heap s.heap
 loc:∃m,s.heap.Ns X.env.locals m/\∀(i:Nat) (x:Str) (v:V),X.N[i]?=some x->σ[i]?=some (some v)->we X.env.scope x->∃u,RelV v u/\Look X.env s.heap m x u
 cell:∀x c,X.env.cells.lookup x=some c->∃v,s.heap.IsCell c v
 free:H X.env.locals=none
 freeC:∀x c,X.env.cells.lookup x=some c->H c=none
 pin:∀p∈X.pn++pq,s.heap.get? p.1=some p.2/\H p.1=none/\p.1≠X.env.locals/\p.1∉X.fs/\∀v,p.2.data≠.cell v
 hok:dO X.prog X.w H s.heap
 len:σ.length=X.N.length
section
variable {X:Cx}{σ:List (Option V)}{H H':Hp}
theorem Cx.Ok.nofr(ok:X.Ok){b:Addr}(e:X.base.get? b=some o):b∉X.fs:=λh=>by have:=(ok.funs.mem h).1;simp_all
theorem Inv.bs(I:Inv X pq σ H s):∀b o,X.base.get? b=some o->s.heap.get? b=some o/\H b=none:=λb o e=>
 ⟨I.base.keep b o (I.ok.bs b o e).1 (I.ok.bs b o e).2 (I.ok.nofr e) (I.ok.noex b o e),I.base.free b o (I.ok.bs b o e).1 (I.ok.bs b o e).2 (I.ok.noex b o e)⟩
theorem Inv.bk(I:Inv X pq σ H s):∀b o,X.base.get? b=some o->s.heap.get? b=some o:=λb o e=>(I.bs b o e).1
theorem Inv.mod(I:Inv X pq σ H s):Mod X.K X.mg X.base:=I.ok.mod
theorem Inv.kIn(I:Inv X pq σ H s):X.K.In s.heap:=I.ok.mod.kin.keeps I.bk
theorem Inv.lt(I:Inv X pq σ H s):X.env.locals<s.heap.objs.size:=let⟨_,h,_⟩:=I.loc;h.lt
theorem Inv.sz(I:Inv X pq σ H s):X.s₀.heap.objs.size<=s.heap.objs.size:=ZC I.ok.above (Nat.le_of_lt I.lt)
theorem Inv.nofs(I:Inv X pq σ H s)(h:s.heap.objs.size<=a):a∉X.fs:=λb=>by obtain⟨_,o,c,_⟩:=I.ok.funs.mem b;exact absurd (ZB (Zi c) (ZC I.sz h)) (Nat.lt_irrefl _)
theorem Inv.cne(I:Inv X pq σ H s):∀x c,X.env.cells.lookup x=some c->c≠X.env.locals:=λx c e z=>by obtain⟨v,o,f,d⟩:=I.cell x c e;obtain⟨m,⟨O,b,E,a,h,_⟩,_⟩:=I.loc;simp_all
theorem Inv.funs(I:Inv X pq σ H s):s.heap.FunFrames X.base X.outer:=by
 have all:∀(l:List _),(∀b∈bG l,b∈X.fs)->X.s₀.heap.FunFrames X.base l->s.heap.FunFrames X.base l:=by
  intro l
  induction l with
  |nil=>intro _ _;trivial
  |cons E r n=>intro d i;obtain⟨g,⟨L,o,c,j,k,f⟩,m⟩:=i;have h:=d L (by unfold bG;simp_all);obtain⟨sl,e⟩:=I.base.slot L o k (I.ok.frf L h) h λz=>I.ok.exfs L z h;exact⟨g,⟨L,_,c,j,e,f⟩,n (λb a=>d b (by unfold bG;rw[List.filterMap_cons,c];exact Zc _ a)) m⟩
 exact all _ (λ_ a=>a) I.ok.funs
theorem Inv.stack(I:Inv X pq σ H s):s.heap.FunFrames X.base X.stack:=by
 rcases I.ok.stk with e| ⟨e,h⟩
 ·rw[e];exact I.funs
 ·rw[e];obtain⟨m,a,_⟩:=I.loc;refine .cons (by rw[I.ok.kind];decide) h a ?_ I.funs;exact Heap.get?_none_of_le (ZC I.ok.bsz I.ok.above)
theorem Inv.stkSub(I:Inv X pq σ H s):∀b∈bG X.stack,b∈X.env.locals::X.fs:=λb h=>by
 rcases I.ok.stk with e| ⟨e,a⟩
 ·simp_all
 ·rw[e]at h;unfold bG at h;rw[List.filterMap_cons,a]at h;exact h
theorem Inv.stkFree(I:Inv X pq σ H s):∀b∈bG X.stack,H b=none:=λb h=>by
 rcases Zk.mp (I.stkSub b h)with e|h
 ·rw[e];exact I.free
 ·obtain⟨_,o,a,_⟩:=I.ok.funs.mem h;exact I.base.free b o a (I.ok.frf b h) λz=>I.ok.exfs b z h
theorem Inv.step{J:Array GenState}{t':Nat}{Q:PySem.Drawn}(I:Inv X pq σ H s)
  (a:∀b∈ch,(b∈X.ex\/X.s₀.heap.objs.size<=b)/\b≠X.env.locals/\(∀x c,X.env.cells.lookup x=some c->c≠b)/\∀p∈X.pn++pq,p.1≠b)
  (K:∀b o,b≠X.env.locals->b∉X.fs->b∉ch->s.heap.get? b=some o->H b=none->h'.get? b=some o)
  (S:∀b o,b≠X.env.locals->b∈X.fs->b∉ch->s.heap.get? b=some o->H b=none->∃sl,h'.get? b=some {o with slots:=sl}) (f:∀b o,b∉ch->s.heap.get? b=some o->H b=none->H' b=none)
  (t:∀b o,b∉ch->s.heap.get? b=some o->∃o',h'.get? b=some o')
  (T:∀b xs,H b=some (.tup xs)->H' b=some (.tup xs)) (F:∀b o u,H b=some (.frz o u)->H' b=some (.frz o u)) (O:∀b ps,H b=some (.tbl ps)->∃more,H' b=some (.tbl (ps++more)))
  (ns:∀m,s.heap.Ns X.env.locals m->h'.Ns X.env.locals m) (D:dO X.prog X.w H' h') (U:AllBare J):
  Inv X pq σ H' {s with heap:=h',gens:=J,drawn:=Q,toks:=t'}:=by
 have y:∀b o,X.s₀.heap.get? b=some o->b≠X.env.locals:=λb o e=>Zt (ZB (Zi e) I.ok.above)
 have N:∀b o,X.s₀.heap.get? b=some o->b∉X.ex->b∉ch:=λb o e h g=>by
  rcases(a b g).1 with z|z
  ·exact h z
  ·exact absurd (ZB (Zi e) z) (Nat.lt_irrefl _)
 have C:∀x c,X.env.cells.lookup x=some c->∀v,s.heap.IsCell c v->h'.IsCell c v:=λx c e v ⟨o,j,B⟩=>by
  have w:c∉ch:=λz=>(a c z).2.2.1 x c e rfl;by_cases L:c∈X.fs
  ·obtain⟨sl,q⟩:=S c o (I.cne x c e) L w j (I.freeC x c e);exact⟨_,q,B⟩
  ·exact⟨o,K c o (I.cne x c e) L w j (I.freeC x c e),B⟩
 refine⟨I.ok,I.os,U,⟨λb o e n g h=>?_,λb o e n g h=>?_,λb o e n h=>?_,λb o e h=>?_,λb xs e=>T b xs (I.base.tups b xs e),λb o xs e=>F b o xs (I.base.frzs b o xs e),λb ps e=>?_⟩,?_,λx c e=>?_,?_,λx c e=>?_,λp Y=>?_,D,I.len⟩
 ·exact K b o (y b o e) g (N b o e h) (I.base.keep b o e n g h) (I.base.free b o e n h)
 ·obtain⟨sl,E⟩:=I.base.slot b o e n g h;obtain⟨G,A⟩:=S b _ (y b o e) g (N b o e h) E (I.base.free b o e n h);exact⟨G,A⟩
 ·obtain⟨o',E⟩:=I.base.there b o e h;exact f b o' (N b o e h) E (I.base.free b o e n h)
 ·obtain⟨o',E⟩:=I.base.there b o e h;exact t b o' (N b o e h) E
 ·obtain⟨Z,E⟩:=I.base.tbls b ps e
  grind
 ·obtain⟨m,W,V⟩:=I.loc;refine⟨m,ns m W,λi x v E A R=>?_⟩;obtain⟨u,r,l⟩:=V i x v E A R;refine⟨u,r,?_⟩;rcases l with l| ⟨k,c,e,z⟩
  ·exact .inl l
  ·exact .inr ⟨k,c,e,C x c e _ z⟩
 ·obtain⟨v,z⟩:=I.cell x c e;exact⟨v,C x c e v z⟩
 ·obtain⟨m,⟨o,_,_,j,_⟩,_⟩:=I.loc;exact f _ o (λz=>(a _ z).2.1 rfl) j I.free
 ·obtain⟨v,o,j,B⟩:=I.cell x c e;exact f c o (λz=>(a c z).2.2.1 x c e rfl) j (I.freeC x c e)
 ·obtain⟨e,n,ne,nf,d⟩:=I.pin p Y
  grind
theorem Inv.un{t':Nat}(I:Inv X pq σ H s)(u:Un X.fs [] H H' s.heap h')(c:dO X.prog X.w H' h'):Inv X pq σ H' {s with heap:=h',toks:=t'}:=by obtain⟨m,⟨o,l,k,f,r⟩,_⟩:=id I.loc;obtain⟨sl,i⟩:=u.any f I.free (by simp);exact I.step (ch:=[]) (λ_ z=>nomatch z) (λb o _ a _ e n=>u.keep b o e n a (by simp)) (λb o _ a _ e n=>u.slot b o e n a (by simp)) (λb o _ e n=>u.free b o e n (by simp)) (λb o _ e=>u.there b o e (by simp)) u.tups u.frzs u.tbls (λM j=>by obtain⟨O,g,E,h,R⟩:=j;rw[f]at h;cases h;exact⟨_,_,_,i,R⟩) c I.bare
theorem Inv.call{t':Nat}{D:PySem.Drawn}(I:Inv X pq σ H s)(u:Un (bG X.stack) ch H H' s.heap h')(g:dO X.prog X.w H' h')(q:AllBare g')
  (a:∀b∈ch,(b∈X.ex\/X.s₀.heap.objs.size<=b)/\b≠X.env.locals/\(∀x c,X.env.cells.lookup x=some c->c≠b)/\∀p∈X.pn++pq,p.1≠b):
  Inv X pq σ H' {s with heap:=h',gens:=g',drawn:=D,toks:=t'}:=by
 obtain⟨m,⟨o,y,w,j,r⟩,_⟩:=id I.loc;obtain⟨sl,f⟩:=u.any j I.free λz=>(a _ z).2.1 rfl;exact I.step a (λb o f l h e n=>u.keep b o e n (λz=>(Zk.mp (I.stkSub b z)).elim f l) h) (λb o _ _ h e n=>u.any e n h) (λb o h e n=>u.free b o e n h) (λb o h e=>u.there b o e h) u.tups u.frzs u.tbls (λM v=>by obtain⟨O,k,E,d,R⟩:=v;rw[j]at d;cases d;exact⟨_,_,_,f,R⟩) g q
theorem Inv.turned{t':Nat}(I:Inv X pq σ H s)(k:∀b o,b≠it->s.heap.get? b=some o->h'.get? b=some o)(y:H it=none)(d:it≠X.env.locals)
  (h1:it∈X.ex\/X.s₀.heap.objs.size<=it) (j:∀x c,X.env.cells.lookup x=some c->c≠it) (l:∀p∈X.pn++pq,p.1≠it):Inv X pq σ H {s with heap:=h',toks:=t'}:=by
 refine I.step (ch:=[it]) (λb w=>?_) (λb o _ _ h e _=>k b o (λz=>h (by simp[z])) e) (λb o _ _ h e _=>⟨_,k b o (λz=>h (by simp[z])) e⟩) (λ_ _ _ _ n=>n)
  (λb o h e=>⟨o,k b o (λz=>h (by simp[z])) e⟩) (λ_ _ e=>e) (λ_ _ _ e=>e) (λb P e=>⟨#[],by simp_all⟩) (λm f=>?_) (λb u e=>?_) I.bare
 ·grind
 ·obtain⟨o,i,E,g,r⟩:=f;exact⟨o,_,_,k _ o (Ne.symm d) g,r⟩
 ·refine(I.hok b u e).stay (λc v h q=>k c v ?_ q) (λ_ q=>q) λ_ _ q=>q
  grind
theorem Inv.tok(I:Inv X pq σ H s)(t:Nat):Inv X pq σ H {s with toks:=t}:=I.un Un.refl I.hok
theorem Inv.kept{t':Nat}(I:Inv X pq σ H s)(k:∀b u,s.heap.get? b=some u->h'.get? b=some u):Inv X pq σ H {s with heap:=h',toks:=t'}:=I.un (Un.kept k) (I.hok.kept k)
theorem Inv.laid{o:HO}{t':Nat}(I:Inv X pq σ H s)(k:∀b u,s.heap.get? b=some u->h'.get? b=some u)(h:s.heap.objs.size<=a)(new:a7 X.prog X.w (aZ H a o) h' a o):
  Inv X pq σ (aZ H a o) {s with heap:=h',toks:=t'}:=I.un (Un.laid k h (I.hok.fresh h)) (I.hok.laid k h new)
theorem Inv.write{x e:Addr}{o:HO}{t':Nat}(I:Inv X pq σ H s)(m:C' (H x))(a:e=x\/H e=some (.own x))(k:∀b u,b≠e->s.heap.get? b=some u->h'.get? b=some u)(h:∃u,h'.get? e=some u)
  (new:a7 X.prog X.w (aZ H x o) h' x o):Inv X pq σ (aZ H x o) {s with heap:=h',toks:=t'}:=I.un (Un.write m a k h) (I.hok.write m a k h new)
theorem Inv.pins_of(I:Inv X pq σ H s)(h:∀p∈pins',s.heap.get? p.1=some p.2/\H p.1=none/\p.1≠X.env.locals/\p.1∉X.fs/\∀v,p.2.data≠.cell v):Inv X pins' σ H s:=
 ⟨I.ok,I.os,I.bare,I.base,I.loc,I.cell,I.free,I.freeC,λp a=>(ZE.mp a).elim (λz=>I.pin p (ZX _ z)) (h p),I.hok,I.len⟩
theorem wf(h:N.Nodup){i j:Nat}{x:Str}(a:N[i]?=some x)(b:N[j]?=some x):i=j:=by obtain⟨H,e⟩:=Zg.mp a;obtain⟨c,E⟩:=Zg.mp b;exact(List.getElem_inj h).mp (e.trans E.symm)
theorem wg{M:Model}{A:Around}{E:Vs}{i:Nat}{x:Str}{v:V}{Q:Unit->Shared->Prop}(I:Inv X pq σ H s)(hN:X.N.Nodup)(R:X.N[i]?=some x)(w:Loc X.env.scope x)(r:RelV v u)
  (h:∀s',Inv X pq (σ.set i (some v)) H s'->(∃a,Heap.SameBut a s.heap s'.heap/\(a=X.env.locals\/X.env.cells.lookup x=some a))->Q () s') (hf:X.fn x=true\/X.env.scope.names.lookup x=some .local:=by first|exact .inl rfl|exact .inr rfl|assumption):wpAny M A (storeName X.env x u) Q E s:=by
 obtain⟨m,Z,hl⟩:=id I.loc;have P:(X.env.scope.kind== .class||(X.env.scope.kind== .module&&X.env.locals !=X.env.globals))=false:=by rw[I.ok.kind];rfl
 have D:i<σ.length:=by rw[I.len];exact(Zg.mp R).1
 have cne:=I.cne
 have t:∀{a:Addr} {L:Heap},(∃o,s.heap.get? a=some o/\H a=none)->Heap.SameBut a s.heap L->dO X.prog X.w H L:=λ{a L} ha f b ob e=>by
  obtain⟨_,_,B⟩:=ha;refine(I.hok b ob e).stay (λc W l q=>(f.2 c ?_).trans q) (λ_ q=>q) λ_ _ q=>q;rintro rfl;rcases l with rfl|l
  ·rw[B]at e;cases e
  ·rw[B]at l;cases l
 rcases w with F|F
 ·refine wpAny_storeName_local F Z (λL hn' f=>?_) P;obtain⟨oL,_,_,hoL,_⟩:=id Z;refine h _ ⟨I.ok,I.os,I.bare,⟨λb o e n G w=>?_,λb o e n G w=>?_,I.base.free,λb o e w=>?_,I.base.tups,I.base.frzs,I.base.tbls⟩,⟨_,hn',λj y v' g C Y=>?_⟩,λy c e=>?_,I.free,I.freeC,λp hp=>?_,t ⟨oL,hoL,I.free⟩ f,by simpa using I.len⟩ ⟨_,f,.inl rfl⟩
  ·exact(f.2 b (Zt (ZB (Zi e) I.ok.above))).trans (I.base.keep b o e n G w)
  ·obtain⟨sl,g⟩:=I.base.slot b o e n G w;exact⟨sl,(f.2 b (Zt (ZB (Zi e) I.ok.above))).trans g⟩
  ·obtain⟨o',g⟩:=I.base.there b o e w;exact⟨o',(f.2 b (Zt (ZB (Zi e) I.ok.above))).trans g⟩
  ·by_cases K:j=i
   ·subst K;rw[R]at g;cases g;rw[ZZ D]at C;cases C;exact⟨u,r,.inl ⟨F,by simp⟩⟩
   ·rw[List.getElem?_set_ne (Ne.symm K)]at C;obtain⟨u',r',q⟩:=hl j y v' g C Y;refine⟨u',r',?_⟩;rcases q with⟨k,e⟩| ⟨k,c,e,z⟩
    ·refine .inl ⟨k,?_⟩;have:y≠x:=λe=>K (wf hN g (e▸R));simp[this,e]
    ·exact .inr ⟨k,c,e,z.sameBut f (cne y c e)⟩
  ·obtain⟨W,z⟩:=I.cell y c e;exact⟨W,z.sameBut f (cne y c e)⟩
  ·obtain⟨e,n,ne,nf,d⟩:=I.pin p hp;exact⟨(f.2 p.1 ne).trans e,n,ne,nf,d⟩
 ·have J:X.fn x=true:=by
   rcases hf with z|z
   ·exact z
   ·rw[z]at F;cases F
  obtain⟨c,l⟩:=I.ok.has x (.inl F);obtain⟨W,z⟩:=I.cell x c l;refine wpAny_storeName_cell I.ok.kind F l z (λL N f=>?_);obtain⟨oc,S,T⟩:=id z;refine h {s with heap:=L} ⟨I.ok,I.os,I.bare,⟨λb o e n G w=>?_,λb o e n G w=>?_,I.base.free,λb o e w=>?_,I.base.tups,I.base.frzs,I.base.tbls⟩,⟨m,Z.sameBut f (Ne.symm (cne x c l)),λj y v' g C Y=>?_⟩,λy U e=>?_,I.free,I.freeC,λp hp=>?_,t ⟨oc,S,I.freeC x c l⟩ f,by simpa using I.len⟩ ⟨c,f,.inr l⟩
  ·exact(f.2 b (Zt (ZB (Zi e) (I.ok.cab x c J l)))).trans (I.base.keep b o e n G w)
  ·obtain⟨sl,g⟩:=I.base.slot b o e n G w;exact⟨sl,(f.2 b (Zt (ZB (Zi e) (I.ok.cab x c J l)))).trans g⟩
  ·obtain⟨o',g⟩:=I.base.there b o e w;exact⟨o',(f.2 b (Zt (ZB (Zi e) (I.ok.cab x c J l)))).trans g⟩
  ·by_cases K:j=i
   ·subst K;rw[R]at g;cases g;rw[ZZ D]at C;cases C;exact⟨u,r,.inr ⟨.inl F,c,l,N⟩⟩
   ·rw[List.getElem?_set_ne (Ne.symm K)]at C;obtain⟨u',r',q⟩:=hl j y v' g C Y;refine⟨u',r',?_⟩;rcases q with q| ⟨k,U,e,z'⟩
    ·exact .inl q
    ·refine .inr ⟨k,U,e,z'.sameBut f ?_⟩;rintro rfl;exact K (wf hN g (I.ok.inj _ _ _ e l▸R))
  ·by_cases O:U=c
   ·subst O;exact⟨_,N⟩
   ·obtain⟨w2,z2⟩:=I.cell y U e;exact⟨w2,z2.sameBut f O⟩
  ·obtain⟨e,n,ne,nf,d⟩:=I.pin p hp;refine⟨(f.2 p.1 ?_).trans e,n,ne,nf,d⟩;intro q;rw[q,S]at e;have q':oc=p.2:=Option.some.inj e;exact d W (by rw[<-q'];exact T)
theorem k6{M:Model}{A:Around}{E:Vs}{i:Nat}{x:Str}{v:V}{Q:Unit->Shared->Prop}(I:Inv X pq σ H s)(b:X.N.Nodup)(d:X.N[i]?=some x)(e:Loc X.env.scope x)(r:RelV v u)
  (h:∀s',Inv X pq (σ.set i (some v)) H s'->Q () s') (c:X.fn x=true\/X.env.scope.names.lookup x=some .local:=by first|exact .inl rfl|exact .inr rfl|assumption):wpAny M A (storeName X.env x u) Q E s:=
 wg I b d e r (λs' a _=>h _ a) c
theorem Inv.call'(I:Inv X pq σ H s)(f:s'.os=s.os)(u:Un (bG X.stack) ch H H' s.heap s'.heap)(a:dO X.prog X.w H' s'.heap)(d:AllBare s'.gens)
  (h:∀b∈ch,(b∈X.ex\/X.s₀.heap.objs.size<=b)/\b≠X.env.locals/\(∀x c,X.env.cells.lookup x=some c->c≠b)/\∀p∈X.pn++pq,p.1≠b):Inv X pq σ H' s':=by
 obtain⟨i,g,D,t,o⟩:=s';have e:=f;subst e;exact I.call u a d h
end
abbrev XK:=Value->Option Addr->Hp->Prop
abbrev St:=List (Option V)
abbrev VK:=V->Hp->Prop
abbrev TE:=St->Hp->VK->Prop
abbrev TT:=St->Hp->(Bool->Hp->Prop)->Prop
abbrev TA:=St->Hp->(List V->Hp->Prop)->Prop
set_option genInjectivity false in
structure Ends where
 nx:St->Hp->Prop
 rt:VK
 bk:St->Hp->Prop:=λ_ _=>False
 ct:St->Hp->Prop:=λ_ _=>False
abbrev TS:=Ends->St->Hp->Prop
def EP(X:Cx)(p:Lp)(σ:St)(Q:VK)(u:Value)(s:Shared):Prop:=∃v H',Inv X p σ H' s/\RelV v u/\Q v H'
def TP(X:Cx)(p:Lp)(σ:St)(Q:Bool->Hp->Prop)(b:Bool)(s:Shared):Prop:=∃H',Inv X p σ H' s/\Q b H'
def AP(X:Cx)(p:Lp)(σ:St)(Q:List V->Hp->Prop)(u:Lv)(s:Shared):Prop:=∃vs H',Inv X p σ H' s/\Vals vs u/\Q vs H'
def SP(X:Cx)(p:Lp)(D:Ends)(f:Flow)(s:Shared):Prop:=
 match f with
 | .next=>∃σ' H',Inv X p σ' H' s/\D.nx σ' H'
 | .brk=>∃σ' H',Inv X p σ' H' s/\D.bk σ' H'
 | .cont=>∃σ' H',Inv X p σ' H' s/\D.ct σ' H'
 | .ret u=>∃v σ' H',Inv X p σ' H' s/\RelV v u/\D.rt v H'
def PE(X:Cx)(e:Expr)(t:TE):Prop:=
 ∀(pq:Lp) (s:Shared) (σ:St) (H:Hp) (Q:VK),Inv X pq σ H s->t σ H Q->wpAny (model X.prog X.w) X.A (eval e X.env) (EP X pq σ Q) X.xe s
def PT(X:Cx)(e:Expr)(t:TT):Prop:=
 ∀(pq:Lp) (s:Shared) (σ:St) (H:Hp) (Q:Bool->Hp->Prop),Inv X pq σ H s->t σ H Q->wpAny (model X.prog X.w) X.A (isTrue e X.env (eval e X.env)) (TP X pq σ Q) X.xe s
def PW(X:Cx)(e:Expr)(t:TT):Prop:=
 ∀(whole:Sem Value) (pq:Lp) (s:Shared) (σ:St) (H:Hp) (Q:Bool->Hp->Prop),Inv X pq σ H s->t σ H Q->wpAny (model X.prog X.w) X.A (isTrue e X.env whole) (TP X pq σ Q) X.xe s
theorem PW.pt{X:Cx}{t:TT}(h:PW X e t):PT X e t:=h _
def PA(X:Cx)(es:Lx)(t:TA):Prop:=
 ∀(pos:Pos) (pq:Lp) (s:Shared) (σ:St) (H:Hp) (Q:List V->Hp->Prop),Inv X pq σ H s->t σ H Q->wpAny (model X.prog X.w) X.A (spliced (backTo pos (starEach es X.env))) (AP X pq σ Q) X.xe s
def PS(X:Cx)(st:Stmt)(t:TS):Prop:=
 ∀(pq:Lp) (s:Shared) (σ:St) (H:Hp) (D:Ends),Inv X pq σ H s->t D σ H->wpAny (model X.prog X.w) X.A (exec st X.env) (SP X pq D) X.xe s
def dW(X:Cx)(st:List Stmt)(t:TS):Prop:=
 ∀(pq:Lp) (s:Shared) (σ:St) (H:Hp) (D:Ends),Inv X pq σ H s->t D σ H->wpAny (model X.prog X.w) X.A (execs st X.env) (SP X pq D) X.xe s
theorem aR{t:Sem α}{Q b:α->Shared->Prop}(h:wpAny M A t Q E s)(H:∀a s,Q a s->b a s):wpAny M A t b E s:=wpAny_mono h H λ_ _ x=>x
section
variable {X:Cx}
noncomputable def qB(i:Nat):TE:=λσ H Q=>∃v,σ[i]?=some (some v)/\Q v H
noncomputable def tC(v:V):TE:=λ_ H Q=>Q v H
theorem k7{i:Nat}{x:Str}{pos:Pos}(j:X.N[i]?=some x)(p:we X.env.scope x)(f:(x==("__debug__":Str))=false:=by decide)(d:(x==("__classdict__":Str))=false:=by decide):PE X (.Name x pos) (qB i):=by
 intro P s q H Q I h;obtain⟨v,e,h⟩:=h;obtain⟨m,o,k⟩:=I.loc;obtain⟨u,r,l⟩:=k i x v j e p;have fin:EP X _ _ Q u s:=⟨v,H,I,r,h⟩;rcases l with⟨b,n⟩| ⟨b,c,g,a⟩
 ·exact wpAny_Name (wpAny_loadName_local I.ok.kind b o n fin) f
 ·rcases b with b|b
  ·exact wpAny_Name (wpAny_loadName_cell I.ok.kind b g a fin) f
  ·exact wpAny_Name (wpAny_loadName_free I.ok.kind b g a fin d) f
theorem i4{i j pos}:PE X (.Constant (.int i) j pos) (tC (.int i)):=λ_ _ _ H _ I h=>wpAny_Constant_int ⟨.int i,H,I.tok _,⟨_,rfl⟩,h⟩
theorem pM{b j pos}:PE X (.Constant (.bool b) j pos) (tC (.bl b)):=λ_ _ _ H _ I h=>Constant_bool ⟨.bl b,H,I,rfl,h⟩
theorem qC{j pos}:PE X (.Constant .none j pos) (tC .non):=λ_ _ _ H _ I h=>Constant_none ⟨.non,H,I,rfl,h⟩
theorem k8{x j pos}:PE X (.Constant (.str x) j pos) (tC (.str x)):=λ_ _ _ H _ I h=>Calls.Constant_str ⟨.str x,H,I.tok _,⟨_,rfl⟩,h⟩
def Gl(X:Cx)(x:Str):Prop:=X.env.kindOf x=some .globalImplicit
theorem hH{E:Vs}{σ:St}{H:Hp}{x:Str}{pos:Pos}(I:Inv X pq σ H s)(b:Gl X x)(c:X.mg x=some u)(h:Q u s)
  (a:(x==("__debug__":Str))=false:=by decide):wpAny (model X.prog X.w) X.A (eval (.Name x pos) X.env) Q E s:=
 Calls.Name_function_global I.ok.kind b (Calls.loadGlobal_global (by rw[I.ok.glob];exact I.mod.glob.keeps I.bk) c h) a
theorem eF{E:Vs}{σ:St}{H:Hp}{x:Str}{pos:Pos}(I:Inv X pq σ H s)(d:Gl X x)(e:X.mg x=none)(g:bootBuiltins x=some u)(h:Q u s)
  (f:x≠"__name__":=by decide) (c:(x==("__debug__":Str))=false:=by decide):wpAny (model X.prog X.w) X.A (eval (.Name x pos) X.env) Q E s:=by
 obtain⟨m,a,b⟩:=I.mod.blt;exact Calls.Name_function_global I.ok.kind d (Calls.loadGlobal_builtin (by rw[I.ok.glob];exact I.mod.glob.keeps I.bk) e (by rw[I.ok.blt];exact a.keeps I.bk) ((b x f).trans g) h) c
theorem wh{x:Str}{v:V}{pos:Pos}(b:Gl X x)(c:X.mg x=some u)(r:RelV v u)(a:(x==("__debug__":Str))=false:=by decide):PE X (.Name x pos) (tC v):=
 λ_ _ _ H _ I h=>hH I b c ⟨v,H,I,r,h⟩ a
theorem wj{x:Str}{v:V}{pos:Pos}(b:Gl X x)(c:X.mg x=none)(e:bootBuiltins x=some u)(r:RelV v u)(d:x≠"__name__":=by decide)(a:(x==("__debug__":Str))=false:=by decide):PE X (.Name x pos) (tC v):=
 λ_ _ _ H _ I h=>eF I b c e ⟨v,H,I,r,h⟩ d a
variable {a b:Expr}{ta tb:TE}{pos:Pos}
noncomputable def tB(t:TE):TT:=λσ H Q=>t σ H λx H1=>∃c,x=.bl c/\Q c H1
theorem qD{t:TE}(h:PE X e t)(b:∀w,isTrue e X.env w=(do let v <-w;standAt e.pos;holding [v] (truthy v)):=by intro _;rfl):PT X e (tB t):=by intro p s f H Q I hw;refine isTrue_plain (aR (h p s f H _ I hw) λv S ⟨x,H1,a,r,c⟩=>?_) (b _);obtain⟨d,rfl,q⟩:=c;cases r;exact ZJ ⟨H1,a,q⟩
variable {tA tB':TT}
noncomputable def DA(t u:TT):TT:=λσ H Q=>t σ H λc H1=>if c=true then u σ H1 Q else Q false H1
noncomputable def Kc(t u:TT):TT:=λσ H Q=>t σ H λc H1=>if c=true then Q true H1 else u σ H1 Q
noncomputable def DB(t:TT):TT:=λσ H Q=>t σ H λc H1=>Q (!c) H1
theorem k9(b:PT X a tA):PW X (.BoolOp .And [a] pos) tA:=by
 intro w p s d H Q I h;refine isTrue_and (aR (b _ s _ H Q I h) λc S e=>?_);cases c with
 |true=>exact isTrue_and_nil e
 |false=>exact e
theorem i5(b:PT X a tA):PW X (.BoolOp .Or [a] pos) tA:=by
 intro w p s d H Q I h;refine isTrue_or (aR (b _ s _ H Q I h) λc S e=>?_);cases c with
 |false=>exact isTrue_or_nil e
 |true=>exact e
theorem qE(e:PT X a tA)(f:PW X (.BoolOp .And (b::rest) pos) tB'):PW X (.BoolOp .And (a::b::rest) pos) (DA tA tB'):=by
 intro w p s g H Q I h;refine isTrue_and (aR (e _ s _ H _ I h) λc S ⟨_,d,q⟩=>?_);cases c with
 |true=>exact f _ _ _ _ _ Q d q
 |false=>exact⟨_,d,q⟩
theorem pN(e:PT X a tA)(f:PW X (.BoolOp .Or (b::rest) pos) tB'):PW X (.BoolOp .Or (a::b::rest) pos) (Kc tA tB'):=by
 intro w p s g H Q I h;refine isTrue_or (aR (e _ s _ H _ I h) λc S ⟨_,d,q⟩=>?_);cases c with
 |true=>exact⟨_,d,q⟩
 |false=>exact f _ _ _ _ _ Q d q
theorem i6(b:PT X a tA):PT X (.UnaryOp .Not a pos) (DB tA):=by intro p s c H Q I h;exact isTrue_not (b _ s _ H _ I h)
noncomputable def wk(t tb:TE):TE:=λσ H Q=>t σ H λx H1=>∃c,x=.bl c/\if c=true then tb σ H1 Q else Q (.bl false) H1
noncomputable def DC(t tb:TE):TE:=λσ H Q=>t σ H λx H1=>∃c,x=.bl c/\if c=true then Q (.bl true) H1 else tb σ H1 Q
theorem i7{op}{t:TE}(h:PE X a t):PE X (.BoolOp op [a] pos) t:=λp s b H Q I hw=>BoolOp_one (h _ s _ H Q I hw)
theorem qF(e:PE X a ta)(f:PE X (.BoolOp .And (b::rest) pos) tb):PE X (.BoolOp .And (a::b::rest) pos) (wk ta tb):=by
 intro p s g H Q I h;refine BoolOp_and (aR (e _ s _ H _ I h) λv S ⟨x,_,d,r,q⟩=>?_);obtain⟨c,rfl,q⟩:=q;cases r;refine ZJ ?_;cases c with
 |true=>exact f _ _ _ _ Q d q
 |false=>exact⟨.bl _,_,d,rfl,q⟩
theorem wl(e:PE X a ta)(f:PE X (.BoolOp .Or (b::rest) pos) tb):PE X (.BoolOp .Or (a::b::rest) pos) (DC ta tb):=by
 intro p s g H Q I h;refine BoolOp_or (aR (e _ s _ H _ I h) λv S ⟨x,_,d,r,q⟩=>?_);obtain⟨c,rfl,q⟩:=q;cases r;refine ZJ ?_;cases c with
 |false=>exact f _ _ _ _ Q d q
 |true=>exact⟨.bl _,_,d,rfl,q⟩
noncomputable def Kd(t:TT)(T tb:TE):TE:=λσ H Q=>t σ H λc H1=>if c=true then T σ H1 Q else tb σ H1 Q
theorem DD{c:Expr}(i:PT X c tA)(f:PE X a ta)(g:PE X b tb):PE X (.IfExp c a b pos) (Kd tA ta tb):=by
 intro p s j H Q I h;refine wpAny_IfExp (aR (i _ s _ H _ I h) λd S ⟨_,e,q⟩=>?_);cases d with
 |true=>exact f _ _ _ _ Q e q
 |false=>exact g _ _ _ _ Q e q
end
def cM(K:Fg)(H:Hp)(a:Addr)(xs:List V):Prop:=
 Rd H a (.lst xs)\/
  ∃(o:Obj) (its:Av) (n:Nat),K.lookup a=some o/\o.cls=.type "list"/\o.dict=none/\o.data=.seq its n/\its.size<=sizeLine/\Vals xs its.toList
def bX(K:Fg)(H:Hp)(a:Addr)(xs:List V):Prop:=
 Rd H a (.tup xs)\/
  ∃(o:Obj) (its:Av) (n:Nat),K.lookup a=some o/\o.cls=.type "tuple"/\o.dict=none/\o.data=.seq its n/\its.size<=sizeLine/\Vals xs its.toList
noncomputable def DE:Value->Option V
 | .none=>some .non
 | .bool b=>some (.bl b)
 | .int i _=>some (.int i)
 | .str x _=>some (.str x)
 | .bytes b _=>some (.byt b)
 | .float b _=>some (.flt b)
 | .ref a=>some (.ref a)
 | .type n=>some (.ty n)
 |_=>none
theorem RelV.abs{x:V}(r:RelV x u):DE u=some x:=by
 cases x with
 |non=>cases r;rfl
 |bl _=>cases r;rfl
 |int _=>obtain⟨t,rfl⟩:=r;rfl
 |str _=>obtain⟨t,rfl⟩:=r;rfl
 |byt _=>obtain⟨t,rfl⟩:=r;rfl
 |flt _=>obtain⟨t,rfl⟩:=r;rfl
 |ref _=>cases r;rfl
 |ty _=>cases r;rfl
theorem RelV.inj{x y:V}(r:RelV x u)(q:RelV y u):x=y:=Option.some.inj (r.abs.symm.trans q.abs)
theorem Vals.inj:∀{xs ys:List V} {us:Lv},Vals xs us->Vals ys us->xs=ys
 |_,_,_,.nil,.nil=>rfl
 |_,_,_,.cons r t,.cons R T=>by rw[r.inj R,Vals.inj t T]
section
variable {X:Cx}{σ:St}{H:Hp}{xs ys:List V}
theorem cM.of(h:H a=some (.lst xs)):cM K H a xs:=.inl (.inl h)
theorem bX.of(h:H a=some (.tup xs)):bX K H a xs:=.inl (.inl h)
theorem Inv.list(I:Inv X pq σ H s)(h:cM X.K H a xs):∃its:Lv,Vals xs its/\PlainL s.heap a its.toArray/\xs.length<=sizeLine:=by
 rcases h with h| ⟨o,its,n,c,b,hd,d,f,r⟩
 ·obtain⟨z,its,n,r,e⟩:=h.ok I.hok;exact⟨_,r,⟨_,n,e,rfl,rfl,rfl⟩,z⟩
 ·refine⟨_,r,⟨o,n,I.kIn a o c,b,hd,by simp_all⟩,?_⟩;have e:=r.length;simp_all
theorem Inv.tuple(I:Inv X pq σ H s)(h:bX X.K H a xs):∃its:Lv,Vals xs its/\IsTup s.heap a its.toArray/\xs.length<=sizeLine:=by
 rcases h with h| ⟨o,its,n,c,b,_,d,f,r⟩
 ·obtain⟨z,its,r,p,_⟩:=h.ok I.hok;exact⟨_,r,p,z⟩
 ·refine⟨_,r,⟨o,I.kIn a o c,b,n,by simp_all⟩,?_⟩;have e:=r.length;simp_all
theorem Inv.noD(I:Inv X pq σ H s)(h:bX X.K H a xs):pL s.heap a:=by
 rcases h with h| ⟨o,i,n,c,d,b,e,f,r⟩
 ·obtain⟨z,i,r,p,q⟩:=h.ok I.hok;exact q
 ·exact⟨o,I.kIn a o c,b⟩
theorem Inv.list_inj(I:Inv X pq σ H s)(h:cM X.K H a xs)(h':cM X.K H a ys):xs=ys:=by
 obtain⟨b,r,⟨o,n,e,_,_,d⟩,_⟩:=I.list h;obtain⟨i,R,⟨O,N,E,_,_,D⟩,_⟩:=I.list h';have:b=i:=by lia
 subst this;exact r.inj R
theorem Inv.tuple_inj(I:Inv X pq σ H s)(h:bX X.K H a xs)(h':bX X.K H a ys):xs=ys:=by
 obtain⟨b,r,⟨o,e,_,n,d⟩,_⟩:=I.tuple h;obtain⟨i,R,⟨O,E,_,N,D⟩,_⟩:=I.tuple h';have:b=i:=by lia
 subst this;exact r.inj R
end
section
variable {X:Cx}{σ:St}{H:Hp}
end
section
variable {X:Cx}{rest:List Stmt}{t u:TS}{te:TE}{pos:Pos}
noncomputable def pO:TS:=λD σ H=>D.nx σ H
noncomputable def DF(t u:TS):TS:=λD σ H=>t {D with nx:=u D} σ H
theorem k_:dW X [] pO:=λ_ _ a H _ I h=>wpAny_execs_nil ⟨_,H,I,h⟩
theorem ff(h1:PS X st t)(b:dW X rest u):dW X (st::rest) (DF t u):=by
 intro p s e H D I h;refine wpAny_execs_cons (aR (h1 _ s _ H _ I h) λf S q=>?_);cases f with
 |next=>obtain⟨c,d,a,q⟩:=q;exact b _ _ _ _ D a q
 |ret v=>exact q
 |brk=>exact q
 |cont=>exact q
noncomputable def qG:TS:=λD σ H=>D.bk σ H
noncomputable def wm:TS:=λD σ H=>D.ct σ H
theorem la:PS X (.Pass pos) pO:=λ_ _ a H _ I h=>wpAny_Pass ⟨_,H,I,h⟩
theorem DG:PS X (.Break pos) qG:=λ_ _ a H _ I h=>wpAny_Break ⟨_,H,I,h⟩
theorem DH:PS X (.Continue pos) wm:=λ_ _ a H _ I h=>wpAny_Continue ⟨_,H,I,h⟩
theorem Inv.quiet{σ:St}{H:Hp}(I:Inv X pq σ H s):interactive X.env=false:=by simp[interactive,I.ok.kind]
noncomputable def wn(t:TE):TS:=λD σ H=>t σ H λ_ H1=>D.nx σ H1
theorem lb(b:PE X e te)(hs:swapsWith e none pos.line X.env=pure false:=by rfl):PS X (.Expr e pos) (wn te):=by intro p s c H D I h;exact wpAny_Expr_any (aR (b _ s _ H _ I h) λv S ⟨x,_,a,_,q⟩=>⟨_,_,a,q⟩) I.quiet hs
noncomputable def DI(t:TE):TS:=λD σ H=>t σ H D.rt
theorem qH(b:PE X e te):PS X (.Return (some e) pos) (DI te):=by intro p s c H D I h;exact wpAny_Return_some (aR (b _ s _ H _ I h) λv S ⟨x,_,a,r,q⟩=>⟨x,_,_,a,r,q⟩)
noncomputable def wo:TS:=λD _ H=>D.rt .non H
theorem lc:PS X (.Return none pos) wo:=λ_ _ a H _ I h=>wpAny_Return_none ⟨.non,_,H,I,rfl,h⟩
noncomputable def DJ(c:TT)(t u:TS):TS:=λD σ H=>c σ H λb H1=>if b=true then t D σ H1 else u D σ H1
theorem pP{c:Expr}{a b:List Stmt}{T:TT}(i:PT X c T)(f:dW X a t)(g:dW X b u):PS X (.If c a b pos) (DJ T t u):=by
 intro p s j H D I h;refine wpAny_If (aR (i _ s _ H _ I h) λd S ⟨_,e,q⟩=>?_);cases d with
 |true=>exact f _ _ _ _ D e q
 |false=>exact g _ _ _ _ D e q
noncomputable def qI:TS:=λ_ _ _=>False
theorem DK{s:List Stmt}:dW X s qI:=λ_ _ _ _ _ _ h=>h.elim
end
abbrev TG:=V->St->Hp->(St->Hp->Prop)->Prop
abbrev pQ:=List V->St->Hp->(St->Hp->Prop)->Prop
def PG(X:Cx)(target:Expr)(t:TG):Prop:=
 ∀(pq:Lp) (s:Shared) (σ:St) (H:Hp) (v:V) (u:Value) (Q:St->Hp->Prop),Inv X pq σ H s->RelV v u->t v σ H Q->
  wpAny (model X.prog X.w) X.A (assign target X.env u) (λ_ s'=>∃σ' H',Inv X pq σ' H' s'/\Q σ' H') X.xe s
def wq(X:Cx)(ts:Lx)(t:pQ):Prop:=
 ∀(pq:Lp) (s:Shared) (σ:St) (H:Hp) (vs:List V) (us:Lv) (Q:St->Hp->Prop),Inv X pq σ H s->Vals vs us->t vs σ H Q->
  wpAny (model X.prog X.w) X.A (assignInOrder ((assignEach ts X.env).map (·.2)) us) (λ_ s'=>∃σ' H',Inv X pq σ' H' s'/\Q σ' H') X.xe s
abbrev lf:=V->V->V->Hp->(Hp->Prop)->Prop
def qJ(X:Cx)(t:lf):Prop:=
 ∀(pq:Lp) (s:Shared) (σ:St) (H:Hp) (o i v:V) (O I u:Value) (Q:Hp->Prop),Inv X pq σ H s->RelV o O->RelV i I->RelV v u->t o i v H Q->
  wpAny (model X.prog X.w) X.A (setItem O I u) (λ_ s'=>∃H',Inv X pq σ H' s'/\Q H') X.xe s
section
variable {X:Cx}{pos:Pos}
noncomputable def dP(i:Nat):TG:=λv σ H Q=>Q (σ.set i (some v)) H
theorem lg{i:Nat}{x:Str}(b:X.N.Nodup)(d:X.N[i]?=some x)(e:Loc X.env.scope x)(c:X.fn x=true\/X.env.scope.names.lookup x=some .local:=by first|exact .inl rfl|exact .inr rfl|assumption):PG X (.Name x pos) (dP i):=by intro p s f H v u Q I r h;exact wpAny_assign_Name (k6 I b d e r (λS a=>⟨_,H,a,h⟩) c)
noncomputable def wu:pQ:=λvs σ H Q=>vs=[]/\Q σ H
noncomputable def pR(t:TG)(u:pQ):pQ:=λvs σ H Q=>∃v r,vs=v::r/\t v σ H λσ' H'=>u r σ' H' Q
theorem lh:wq X [] wu:=by intro p s a H vs u Q I r h;obtain⟨e,h⟩:=h;exact assignInOrder_nil ⟨_,H,I,h⟩
theorem DL{t:TG}{u:pQ}(h1:PG X e t)(b:wq X es u)
  (hs:(assignEach (e::es) X.env).map (·.2)=assign e X.env::(assignEach es X.env).map (·.2):=by rfl):wq X (e::es) (pR t u):=by
 intro p s c H vs U Q I r h;obtain⟨v,V,E,h⟩:=h;subst E;cases r with
 |cons r R=>rw[hs];refine assignInOrder_cons (aR (h1 _ s _ H _ _ _ I r h) λ_ S ⟨_,_,a,q⟩=>?_);exact b _ _ _ _ _ _ Q a R q
noncomputable def wv(K:Fg)(n:Nat)(t:pQ):TG:=λv σ H Q=>∃a xs,v=.ref a/\bX K H a xs/\xs.length=n/\t xs σ H Q
theorem qK{k:Nat}{t:pQ}(f:X.calm=true)(h:wq X es t)
  (i:(assignEach es X.env).length=n:=by rfl) (c:(assignEach es X.env).findIdx? (·.1)=none:=by rfl):PG X (.Tuple es k pos) (wv X.K n t):=by
 intro P s y H v u Q I r hw;obtain⟨a,x,E,j,g,hw⟩:=hw;subst E;cases r;obtain⟨p,R,l,w⟩:=I.tuple j;refine assign_Tuple_tuple (I.ok.hd f) l (by simp[i,<-g,R.length]) c λq m=>?_;have d:=I.kept (t':=s.toks) λb o e=>m b o (Zt (Zi e)) e;exact h _ _ _ H _ _ Q d (by lia) hw
noncomputable def DM(to T:TE)(t:lf):TG:=λv σ H Q=>to σ H λo H1=>T σ H1 λi H2=>t o i v H2 λa=>Q σ a
theorem qL{o i:Expr}{to T:TE}{t:lf}(f:PE X o to)(e:PE X i T)(hs:qJ X t)
  (l:∀v,assign (.Subscript o i pos) X.env v=(do
   let O <-holding [v] (eval o X.env)
   let a <-holding [v,O] (eval i X.env)
   standAt pos
   holding [v,O,a] (setItem O a v)
   release [v,O,a] []):=by intro _;rfl):PG X (.Subscript o i pos) (DM to T t):=by
 intro p s w H v u Q I r h;refine Za (ZL (aR (f _ s _ H _ I h) λO S ⟨x,_,b,R,q⟩=>?_));refine Za (ZL (aR (e _ _ _ _ _ b q) λa m ⟨y,_,c,k,g⟩=>?_));refine Za (wpAny_standAt (Za (ZL (aR (hs _ _ _ _ x y v _ _ u _ c R k r g) λ_ n ⟨_,d,j⟩=>?_))));exact wpAny_release ⟨_,_,d,j⟩
noncomputable def li(t:TE)(g:TG):TS:=λD σ H=>t σ H λx H1=>g x σ H1 D.nx
theorem i8{t:TE}{g:TG}(b:PE X e t)(c:PG X tg g)(hs:swapsWithSole [tg] e pos.line X.env=pure false:=by rfl)(hw:swappedStores [tg] e X.env=pure none:=by rfl)
  (h1:(assignEach [tg] X.env).map (·.2)=[assign tg X.env]:=by rfl):PS X (.Assign [tg] e pos) (li t g):=by
 intro p s f H D I h;refine wpAny_Assign_stores (aR (b _ s _ H _ I h) λv S ⟨x,_,a,r,Q⟩=>?_) hs hw;rw[h1];exact aR (c _ _ _ _ x v _ a r Q) λ_ d q=>q
theorem i9{i:Nat}{x:Str}{t:TE}(c:X.N.Nodup)(g:X.N[i]?=some x)(j:Loc X.env.scope x)(d:PE X e t)(hs:swapsWith e (some (.Name x pos')) pos.line X.env=pure false:=by rfl)(f:X.fn x=true\/X.env.scope.names.lookup x=some .local:=by first|exact .inl rfl|exact .inr rfl|assumption):
  PS X (.Assign [.Name x pos'] e pos) (li t (dP i)):=by
 intro p s l H D I h;refine wpAny_Assign_Name (aR (d _ s _ H _ I h) λv S ⟨y,_,a,r,q⟩=>?_) hs;exact k6 a c g j r (λk b=>⟨_,_,b,q⟩) f
end
section
variable {X:Cx}{pos:Pos}
noncomputable def qM(c:TT)(tb:TS):TS:=λD σ H=>∃W:Nat->St->Hp->Prop,(∃m,W m σ H)/\∀m σ H,W m σ H->
 c σ H λb H1=>if b=true then ∃N:St->Hp->Prop,(∀σ' H',N σ' H'->∃M,M<m/\W M σ' H')/\tb {D with nx:=N,ct:=N,bk:=D.nx} σ H1 else D.nx σ H1
theorem DN{c:Expr}{body:List Stmt}{t:TT}{tb:TS}(i:PassesOwn (model X.prog X.w) X.A X.env X.xe)(o:PT X c t)(m:dW X body tb):PS X (.While c body [] pos) (qM t tb):=by
 intro P s B H D I h;obtain⟨W,⟨M,w⟩,turn⟩:=h;refine wpAny_While (codeAny_whileLoop (λn S=>∃a e,Inv X _ a e S/\W n a e) ?_ _ ⟨_,H,I,w⟩);rintro n y ⟨u,H1,k,r⟩;refine wpAny_passesOwn i (aR (o _ _ _ _ _ k (turn n _ _ r)) λb z ⟨_,g,q⟩=>?_);cases b with
 |true=>
  obtain⟨N,x,q⟩:=q;refine wpAny_passesOwn i (aR (m _ _ _ _ _ g q) λf A Q=>?_);cases f with
  |next=>
   obtain⟨d,j,l,p⟩:=Q
   grind
  |cont=>
   obtain⟨d,j,l,p⟩:=Q
   grind
  |brk=>exact Q
  |ret v=>exact Q
 |false=>exact wpAny_execs_nil ⟨_,_,g,q⟩
end
set_option genInjectivity false in
structure It where
 go:Nat->Hp->Prop
 yld:Nat->Hp->V->Hp->Prop
 stop:Nat->Hp->Prop
def c9(X:Cx)(P:Lp)(H:Hp)(b:Addr):Prop:=
 H b=none/\b≠X.env.locals/\b∉X.fs/\(b∈X.ex\/X.s₀.heap.objs.size<=b)/\(∀x c,X.env.cells.lookup x=some c->c≠b)/\∀p∈X.pn++P,p.1≠b
theorem Inv.fpOk{X:Cx}{σ:St}{H a:Hp}{b:Addr}(I:Inv X pq σ H s)(h:s.heap.objs.size<=b)(d:a b=none):c9 X pq a b:=by
 refine⟨d,Nat.ne_of_gt (ZB I.lt h),I.nofs h,.inr (ZC I.sz h),λx c e z=>?_,λp f z=>?_⟩
 ·obtain⟨v,q⟩:=I.cell x c e;exact absurd (ZB q.lt (by lia)) (Nat.lt_irrefl _)
 ·exact absurd (ZB (Zi (I.pin p f).1) (by lia)) (Nat.lt_irrefl _)
structure Turn (P:Program)(w:World)(K:Fg)(tg:Expr)(J:It)(fp:La)(it:Addr)(tn:Nat->Heap->Prop):Prop where
 mem:it∈fp
 obj:∀i h,tn i h->∀b∈fp,∃o,h.get? b=some o/\∀v,o.data≠.cell v
 keep:∀i h h',tn i h->(∀b∈fp,∀o,h.get? b=some o->h'.get? b=some o)->tn i h'
 item:∀(X:Cx),X.prog=P->X.w=w->X.K=K->X.calm=true->∀(i:Nat) (pq:Lp) (s:Shared) (σ:St) (H:Hp) (E:Vs),Inv X pq σ H s->(∀b∈fp,c9 X pq H b)->tn i s.heap->J.go i H->
  wpAny (model P w) X.A (pyNext (.ref it)) (λr s1=>∃u,r=some u/\
   wpAny (model P w) X.A (letOwnedTupleGo tg (.ref it) u) (λ_ s2=>∃x H',Inv X pq σ H' s2/\RelV x u/\J.yld i H x H'/\tn (i+1) s2.heap/\∀b∈fp,H' b=none) E s1) E s
 done:∀(X:Cx),X.prog=P->X.w=w->X.K=K->X.calm=true->∀(i:Nat) (pq:Lp) (s:Shared) (σ:St) (H:Hp) (E:Vs),Inv X pq σ H s->(∀b∈fp,c9 X pq H b)->tn i s.heap->J.stop i H->
  wpAny (model P w) X.A (pyNext (.ref it)) (λr s1=>r=none/\Inv X pq σ H s1) E s
 self:∀(A:Around) (i:Nat) (s:Shared) (Q:Vs) (E:Vs),tn i s.heap->Q (.ref it) s->wpAny (model P w) A (pyIter (.ref it)) Q E s
abbrev TI:=St->Hp->(It->Hp->Prop)->Prop
def Dc(X:Cx)(p:Lp)(σ:St)(t:Expr)(R:It->Hp->Prop)(i:Value)(s2:Shared):Prop:=
 ∃(it:Addr) (fp:La) (tn:Nat->Heap->Prop) (J:It) (H':Hp),i=.ref it/\Inv X p σ H' s2/\Turn X.prog X.w X.K t J fp it tn/\tn 0 s2.heap/\(∀b∈fp,c9 X p H' b)/\R J H'
def PI(X:Cx)(t i:Expr)(w:TI):Prop:=
 ∀(pq:Lp) (s:Shared) (σ:St) (H:Hp) (R:It->Hp->Prop),Inv X pq σ H s->w σ H R->
  wpAny (model X.prog X.w) X.A (eval i X.env) (λv S=>wpAny (model X.prog X.w) X.A (pyIter v) (Dc X pq σ t R) X.xe S) X.xe s
theorem i_{n:String}{vs:Av}{Q:Unit->Shared->Prop}(b:s.heap.get? it=some o)(H:o.cls=.type n)(a:o.data=.fields vs)
  (c:["enumerate","zip","dict_itemiterator","dict_reverseitemiterator","odict_iterator","itertools.zip_longest","itertools.pairwise"].contains n=false) (h:Q () s):wpAny M A (letOwnedTupleGo tg (.ref it) u) Q E s:=by
 cases tg<;>first
  |exact Zd h
  | (cases u<;>first
    |exact Zd h
    | (refine Za (wpAny_load b ?_)
       rw[H,a];show wpAny M A (if(["enumerate","zip","dict_itemiterator","dict_reverseitemiterator","odict_iterator","itertools.zip_longest","itertools.pairwise"].contains n&&vs[0]?==some _)=true then _ else _) Q E s;rw[if_neg (by lia)];exact Zd h))
noncomputable def Dd(K:Fg)(a:Addr):It:=
 ⟨λi H=>∃xs x,cM K H a xs/\xs[i]?=some x,λi H x H'=>H'=H/\∀xs,cM K H a xs->xs[i]?=some x,λi H=>∃xs,cM K H a xs/\xs.length<=i⟩
noncomputable def DO(K:Fg)(a:Addr):It:=
 ⟨λi H=>∃xs x,bX K H a xs/\xs[i]?=some x,λi H x H'=>H'=H/\∀xs,bX K H a xs->xs[i]?=some x,λi H=>∃xs,bX K H a xs/\xs.length<=i⟩
noncomputable def ww(l:Int)(n:Nat):It:=⟨λi _=>i<n,λi H x H'=>H'=H/\x=.int (l+i),λi _=>n<=i⟩
theorem DP{P:Program}(a it:Addr):Turn P w K tg (Dd K a) [it] it (λi h=>h.IsListIter it a i) where
 mem:=by simp
 obj:=λi h st b hb=>by
  have e:=by simpa using hb
  obtain⟨o,e,c,d⟩:=st;simp_all
 keep:=λi h h' st k=>st.at λo e=>k _ (by simp) o e
 item:=by intro X hP hw hK hc i pq s σ H E I hf st hg;subst hP hw hK;obtain⟨xs,x,hq,hx⟩:=hg;obtain⟨its,rv,p,hz⟩:=I.list hq;obtain⟨u,hu,ru⟩:=rv.get hx;obtain⟨f0,f1,f2,f3,f4,f5⟩:=hf it (by simp);refine wpAny_pyNext_list_item st p.isList (by simpa using hu) λh' st' sb=>?_;have I1:=I.turned (t':=s.toks) (λb o hb e=>(sb.2 b hb).trans e) f0 f1 f3 f4 f5;obtain⟨o,e,c,d⟩:=id st';exact⟨u,rfl,i_ e c d (rfl) ⟨x,H,I1,ru,⟨rfl,λys hy=>by rw[I.list_inj hy hq];exact hx⟩,st',λb hb=>(hf b hb).1⟩⟩
 done:=by intro X hP hw hK hc i pq s σ H E I hf st hg;subst hP hw hK;obtain⟨xs,hq,hx⟩:=hg;obtain⟨its,rv,p,hz⟩:=I.list hq;obtain⟨f0,f1,f2,f3,f4,f5⟩:=hf it (by simp);have hl:=rv.length;exact wpAny_pyNext_list_end (I.ok.hd hc) st p.isList (by simp_all) λh' eb=>⟨rfl,I.turned (λb o hb e=>eb b o hb e) f0 f1 f3 f4 f5⟩
 self:=λ_ _ _ _ _ st h=>wpAny_pyIter_listiter st h
theorem DQ{P:Program}(a it:Addr):Turn P w K tg (DO K a) [it] it (λi h=>h.IsTupleIter it a i) where
 mem:=by simp
 obj:=λi h st b hb=>by
  have e:=by simpa using hb
  obtain⟨o,e,c,d⟩:=st;simp_all
 keep:=λi h h' st k=>st.at λo e=>k _ (by simp) o e
 item:=by intro X hP hw hK hc i pq s σ H E I hf st hg;subst hP hw hK;obtain⟨xs,x,hq,hx⟩:=hg;obtain⟨its,rv,p,hz⟩:=I.tuple hq;obtain⟨u,hu,ru⟩:=rv.get hx;obtain⟨f0,f1,f2,f3,f4,f5⟩:=hf it (by simp);refine wpAny_pyNext_tuple_item st (show s.heap.IsTuple a _ from p) (by simpa using hu) λh' st' sb=>?_;have I1:=I.turned (t':=s.toks) (λb o hb e=>(sb.2 b hb).trans e) f0 f1 f3 f4 f5;obtain⟨o,e,c,d⟩:=id st';exact⟨u,rfl,i_ e c d (rfl) ⟨x,H,I1,ru,⟨rfl,λys hy=>by rw[I.tuple_inj hy hq];exact hx⟩,st',λb hb=>(hf b hb).1⟩⟩
 done:=by intro X hP hw hK hc i pq s σ H E I hf st hg;subst hP hw hK;obtain⟨xs,hq,hx⟩:=hg;obtain⟨its,rv,p,hz⟩:=I.tuple hq;obtain⟨f0,f1,f2,f3,f4,f5⟩:=hf it (by simp);have hl:=rv.length;exact wpAny_pyNext_tuple_end (I.ok.hd hc) st (show s.heap.IsTuple a _ from p) (by simp_all) λh' eb=>⟨rfl,I.turned (λb o hb e=>eb b o hb e) f0 f1 f3 f4 f5⟩
 self:=λ_ _ _ _ _ st h=>wpAny_pyIter_tupleiter st h
theorem DR{P:Program}(it:Addr)(lo:Int)(n:Nat):Turn P w K tg (ww lo n) [it] it (λi h=>IsRangeIter h it (lo+(i:Nat)*1) ((n:Int)-(i:Nat)) 1) where
 mem:=by simp
 obj:=λi h st b hb=>by simp_all
 keep:=λi h h' st k=>k _ (by simp) _ st
 item:=by intro X hP hw hK hc i pq s σ H E I hf st hg;subst hP hw hK;obtain⟨f0,f1,f2,f3,f4,f5⟩:=hf it (by simp);have W:=Walks.range (prog:=X.prog) (w:=X.w) (I.ok.hd hc) it lo 1 n;refine W.item i s _ _ hg st λv h' tk hv st' kk=>?_;obtain⟨t,rfl⟩:=hv;have I1:Inv X _ _ H {s with heap:=h',toks:=tk}:=I.turned (λb o hb e=>kk b o (by simp_all) e) f0 f1 f3 f4 f5;refine⟨_,rfl,i_ st' rfl rfl (rfl) ⟨.int _,H,I1,⟨t,?_⟩,⟨rfl,rfl⟩,st',λb hb=>(hf b hb).1⟩⟩;simp_all
 done:=by intro X hP hw hK hc i pq s σ H E I hf st hg;obtain⟨f0,f1,f2,f3,f4,f5⟩:=hf it (by simp);exact wpAny_pyNext_range_end (I.ok.hd hc) st (by have:n<=i:=hg;omega) λh' eb=>⟨rfl,I.turned (λb o hb e=>eb b o hb e) f0 f1 f3 f4 f5⟩
 self:=λ_ _ _ _ _ st h=>wpAny_pyIter_rangeiter st h
section
variable {X:Cx}
theorem wx{σ:St}{H:Hp}{R:It->Hp->Prop}{l h:Int}{t u v:Tok}{tk:Nat}(I:Inv X pq σ H s)(h1: -(2^62)<=l)(g:l<2^62)(i: -(2^62)<=h)(j:h<2^62)
  (q:R (ww l (h-l).toNat) H):wpAny (model X.prog X.w) X.A (pyIter (.ref s.heap.objs.size)) (Dc X pq σ tg R) E {s with heap:=s.heap.push {cls:=.type "range",data:=.fields #[.int l t,.int h u,.int 1 v]},toks:=tk}:=by
 refine wpAny_pyIter_range (IsRange.new ..) (small_one h1 g i j) ?_;have c:Inv X _ _ H {s with heap:=s.heap.push {cls:=.type "range",data:=.fields #[.int l t,.int h u,.int 1 v]},toks:=tk}:=I.kept λb o e=>Zb _ e
 refine⟨_,_,_,_,H,rfl,
  c.kept λb o e=>Zb _ e,DR _ _ _,?_,λb k=>?_,q⟩
 ·have d:l+(0:Nat)*1=l:=by simp
  have f:(h-l).toNat-(0:Nat)=Builtin.Range.rangeSize l h 1:=by rw[rangeSize_one];lia
  rw[d,f];exact Zh _ rfl
 ·have e:b=(s.heap.push {cls:=.type "range",data:=.fields #[.int l t,.int h u,.int 1 v]}).objs.size:=by simp_all
  subst e;exact c.fpOk (Zf _) (c.hok.fresh (Zf _))
noncomputable def wy(t:TA):TI:=λσ H R=>t σ H λvs H1=>∃j:Int,vs=[.int j]/\ -(2^62)<=j/\j<2^62/\R (ww 0 j.toNat) H1
noncomputable def wz(t:TA):TI:=λσ H R=>t σ H λvs H1=>∃i j:Int,vs=[.int i,.int j]/\(-(2^62)<=i/\i<2^62/\ -(2^62)<=j/\j<2^62)/\R (ww i (j-i).toNat) H1
theorem DS{a:Expr}{T:TA}{p pos:Pos}(d:Gl X "range")(f:X.mg "range"=none)(c:PA X [a] T)(hs:starEach [a] X.env=[(false,eval a X.env)]:=by rfl):PI X tg (.Call (.Name "range" p) [a] [] pos) (wy T):=by
 intro P s l H R I h;refine Call_ (eF I d f boot_range (PyProof.Rows.callWith_type1 (aR (c _ _ s _ H _ I h) λu S ⟨_,_,b,i,Q⟩=>?_) hs rfl));obtain⟨j,e,Q,g,q⟩:=Q;subst e;cases i with
 |cons r k=>cases k;obtain⟨t,rfl⟩:=r;exact call_range_1 (wx b (by omega) (by omega) Q g (by lia))
theorem DT{a b:Expr}{T:TA}{p pos:Pos}(k:Gl X "range")(l:X.mg "range"=none)(g:PA X [a,b] T)(hs:starEach [a,b] X.env=[(false,eval a X.env),(false,eval b X.env)]:=by rfl)(c:starEach [b] X.env=[(false,eval b X.env)]:=by rfl):
  PI X tg (.Call (.Name "range" p) [a,b] [] pos) (wz T):=by
 intro P s x H R I h;refine Call_ (eF I k l boot_range (PyProof.Rows.callWith_type1 (aR (g _ _ s _ H _ I h) λU S ⟨_,_,f,v,Q⟩=>?_) (by lia) (by rw[c];rfl)));obtain⟨i,j,e,⟨Q,m,n,o⟩,q⟩:=Q;subst e;cases v with
 |cons r d=>
  cases d with
  |cons u d=>cases d;obtain⟨t,rfl⟩:=r;obtain⟨w,rfl⟩:=u;exact call_range_2 (wx f Q m n o q)
noncomputable def DU(w:TI)(g:TG)(tb:TS):TS:=λD σ H=>w σ H λJ H1=>∃W:Nat->Nat->St->Hp->Prop,(∃m,W 0 m σ H1)/\∀i m σ H,W i m σ H->
 (J.stop i H/\D.nx σ H)\/(J.go i H/\∃N:St->Hp->Prop,(∀σ' H',N σ' H'->∃M,M<m/\W (i+1) M σ' H')/\∀x H',J.yld i H x H'->g x σ H' λa H2=>tb {D with nx:=N,ct:=N,bk:=D.nx} a H2)
noncomputable def lj(f:La)(h:Heap):Lp:=f.filterMap λb=>(h.get? b).map λo=>(b,o)
theorem ll{b:Addr}(H:b∈fp)(e:h.get? b=some o):(b,o)∈lj fp h:=ZP.mpr ⟨b,H,by simp_all⟩
theorem DV{p:Addr×Obj}(H:p∈lj fp h):p.1∈fp/\h.get? p.1=some p.2:=by
 obtain⟨b,a,e⟩:=ZP.mp H;cases q:h.get? b with
 |none=>simp_all
 |some o=>
  grind
theorem Inv.pinned{σ:St}{H:Hp}(I:Inv X pq σ H s)(a:∀b∈fp,c9 X pq H b)(d:∀b∈fp,∃o,s.heap.get? b=some o/\∀v,o.data≠.cell v):Inv X (pq++lj fp s.heap) σ H s:=
 I.pins_of λp c=>(ZE.mp c).elim (λz=>I.pin p (Zz _ z)) λz=>by
  obtain⟨h,e⟩:=DV z;obtain⟨f0,f,F,_⟩:=a _ h
  grind
theorem Inv.unpinned{pl:Lp}{σ:St}{H:Hp}(I:Inv X (pq++pl) σ H s):Inv X pq σ H s:=I.pins_of λp h=>I.pin p (Zz _ (ZX _ h))
theorem qN{body:List Stmt}{wi:TI}{g:TG}{tb:TS}{pos:Pos}(y:PassesOwn (model X.prog X.w) X.A X.env X.xe)(Y:X.calm=true)(hi:PI X tg iter wi)(hg:PG X tg g)(k:dW X body tb)
  (hs:∀x,foldedSetIterable iter X.env x=pure x:=by intro _;rfl):PS X (.For tg iter body [] pos) (DU wi g tb):=by
 intro P s σ H D I h;refine wpAny_For (aR (hi P s σ H _ I h) λv s1 h1=>aR h1 λitv s2 h2=>?_) hs;obtain⟨it,F,tn,J,H2,e,I2,T,M,V,W,⟨m0,w0⟩,turn⟩:=h2;subst e;have S:∀{q:Hp},(∀b∈F,q b=none)->∀b∈F,c9 X P q b:=λhn b k=>⟨hn b k,(V b k).2⟩;refine codeAny_forLoop_any (λn Z=>∃i l q,Inv X P l q Z/\tn i Z.heap/\(∀b∈F,q b=none)/\W i n l q) ?_ m0 ⟨0,σ,H2,I2,M,λb k=>(V b k).1,w0⟩;rintro n s3 ⟨i,p,C,U,B,w,w3⟩;rcases turn i n p C w3 with⟨stop,qn⟩| ⟨go,N,hN,step⟩
 ·refine wpAny_passesOwn y (aR (T.done X rfl rfl rfl Y i P s3 p C X.xe U (S w) B stop) λr s4 ⟨K,I4⟩=>?_);subst K;exact wpAny_execs_nil ⟨p,C,I4,qn⟩
 ·refine wpAny_passesOwn y (aR (T.item X rfl rfl rfl Y i P s3 p C X.xe U (S w) B go) λr s4 ⟨u,K,h4⟩=>?_);subst K;refine wpAny_passesOwn y (aR h4 λ_ s5 ⟨x,R,I5,r5,y5,t,G⟩=>?_);have E:=I5.pinned (S G) (T.obj _ _ t);refine wpAny_passesOwn y (aR (hg _ s5 p R x u _ E r5 (step x R y5)) λ_ s6 ⟨O,H6,I6,q6⟩=>?_);refine wpAny_passesOwn y (aR (k _ s6 O H6 _ I6 q6) λf L Q=>?_)
  have A:∀{a:St} {c:Hp},Inv X (P++lj F s5.heap) a c L->N a c->∃m,m<n/\∃i l q,Inv X P l q L/\tn i L.heap/\(∀b∈F,q b=none)/\W i m l q:=λ{a c} j z=>by obtain⟨m',hm,w7⟩:=hN a c z;refine⟨m',hm,i+1,a,c,j.unpinned,T.keep _ _ _ t λb k o e=>(j.pin (b,o) (Zz _ (Zz _ (ll k e)))).1,λb k=>?_,w7⟩;obtain⟨o,e,d⟩:=T.obj _ _ t b k;exact(j.pin (b,o) (Zz _ (Zz _ (ll k e)))).2.1
  cases f with
  |next=>obtain⟨a,c,j,z⟩:=Q;exact A j z
  |cont=>obtain⟨a,c,j,z⟩:=Q;exact A j z
  |brk=>obtain⟨a,c,j,Q⟩:=Q;exact⟨a,c,j.unpinned,Q⟩
  |ret v=>obtain⟨x7,a,c,j,r7,Q⟩:=Q;exact⟨x7,a,c,j.unpinned,r7,Q⟩
end
abbrev R2:=V->V->Hp->VK->Prop
def cm(X:Cx)(f:Value->Value->Sem Value)(r:R2):Prop:=
 ∀(pq:Lp) (s:Shared) (σ:St) (H:Hp) (x y:V) (v u:Value) (Q:VK),Inv X pq σ H s->RelV x v->RelV y u->r x y H Q->
  wpAny (model X.prog X.w) X.A (f v u) (EP X pq σ Q) X.xe s
def DW(X:Cx)(f:Value->Sem Value)(r:V->Hp->VK->Prop):Prop:=
 ∀(pq:Lp) (s:Shared) (σ:St) (H:Hp) (x:V) (v:Value) (Q:VK),Inv X pq σ H s->RelV x v->r x H Q->
  wpAny (model X.prog X.w) X.A (f v) (EP X pq σ Q) X.xe s
def ba(X:Cx)(f:Value)(r:List V->Hp->VK->Prop):Prop:=
 ∀(pq:Lp) (s:Shared) (σ:St) (H:Hp) (xs:List V) (us:Lv) (Q:VK),Inv X pq σ H s->Vals xs us->r xs H Q->
  wpAny (model X.prog X.w) X.A (call f us) (EP X pq σ Q) X.xe s
def DX(X:Cx)(r:V->Hp->(Bool->Hp->Prop)->Prop):Prop:=
 ∀(pq:Lp) (s:Shared) (σ:St) (H:Hp) (x:V) (v:Value) (Q:Bool->Hp->Prop),Inv X pq σ H s->RelV x v->r x H Q->
  wpAny (model X.prog X.w) X.A (truthy v) (TP X pq σ Q) X.xe s
noncomputable def De(r:R2)(t tb:TE):TE:=λσ H Q=>t σ H λx H1=>tb σ H1 λy H2=>r x y H2 Q
noncomputable def Ke(r:V->Hp->VK->Prop)(t:TE):TE:=λσ H Q=>t σ H λx H1=>r x H1 Q
noncomputable def rI(C:Int->Int->Prop)(g:Int->Int->V):R2:=λx y H Q=>∃i j,x=.int i/\y=.int j/\C i j/\Q (g i j) H
noncomputable def lm(g:Int->Int->V):R2:=λx y H Q=>∃i j,x=.int i/\y=.int j/\Q (g i j) H
def rU(g:Int->V):V->Hp->VK->Prop:=λx H Q=>∃i,x=.int i/\Q (g i) H
section
variable {X:Cx}{a b c:Expr}{ta tb tc:TE}{pos:Pos}
theorem qO(g:PE X a ta)(i:PE X b tb){σ:St}{H:Hp}{R:V->V->Hp->Prop}(I:Inv X pq σ H s)
  (h:ta σ H λx H1=>tb σ H1 λy H2=>R x y H2)  {f:Value->Value->Sem Value}
  (j:∀v u s2 x y H2,Inv X pq σ H2 s2->RelV x v->RelV y u->R x y H2->wpAny (model X.prog X.w) X.A (f v u) Q X.xe s2):
  wpAny (model X.prog X.w) X.A (eval a X.env) (λv S=>wpAny (model X.prog X.w) X.A (eval b X.env) (λu c=>wpAny (model X.prog X.w) X.A (f v u) Q X.xe c) X.xe S) X.xe s:=by
 refine aR (g _ s _ H _ I h) λv m ⟨x,_,d,r,q⟩=>?_;refine aR (i _ _ _ _ _ d q) λu s2 ⟨y,_,e,l,k⟩=>?_;exact j v u _ x y _ e r l k
theorem gQ{o:Operator}{r:R2}(f:cm X (binaryOp o) r)(d:PE X a ta)(e:PE X b tb):PE X (.BinOp a o b pos) (De r ta tb):=by intro p s j H Q I h;exact wpAny_BinOp (qO d e I h λv u S x y i c R g q=>f _ _ _ _ x y v u Q c R g q)
theorem wA{o:UnaryOp}{r:V->Hp->VK->Prop}(d:DW X (unaryOp o) r)(c:PE X a ta):PE X (.UnaryOp o a pos) (Ke r ta):=by intro p s e H Q I h;exact UnaryOp_ (aR (c _ s _ H _ I h) λv S ⟨x,_,b,R,q⟩=>d _ _ _ _ x v Q b R q)
theorem qP{f:Value->Value->Sem Value}{C:Int->Int->Prop}{g:Int->Int->Int}
  (r:∀(i j:Int) (t u:Tok) (s:Shared) (Q:Vs) (E:Vs),C i j->Q (.int (g i j) s.toks) {s with toks:=s.toks+1}->wpAny (model X.prog X.w) X.A (f (.int i t) (.int j u)) Q E s):
  cm X f (rI C λi j=>.int (g i j)):=by
 intro p s d H x y v u Q I R b h;obtain⟨i,j,rfl,rfl,a,q⟩:=h;obtain⟨t,rfl⟩:=R;obtain⟨c,rfl⟩:=b;exact r i j t _ s _ _ a ⟨.int _,H,I.tok _,⟨_,rfl⟩,q⟩
theorem ln{f:Value->Value->Sem Value}{g:Int->Int->Int}
  (r:∀(i j:Int) (t u:Tok) (s:Shared) (Q:Vs) (E:Vs),Q (.int (g i j) s.toks) {s with toks:=s.toks+1}->wpAny (model X.prog X.w) X.A (f (.int i t) (.int j u)) Q E s):
  cm X f (lm λi j=>.int (g i j)):=by
 intro p s c H x y v u Q I R a h;obtain⟨i,j,rfl,rfl,q⟩:=h;obtain⟨t,rfl⟩:=R;obtain⟨b,rfl⟩:=a;exact r i j t _ s _ _ ⟨.int _,H,I.tok _,⟨_,rfl⟩,q⟩
theorem qQ{f:Value->Value->Sem Value}{g:Int->Int->Bool}
  (r:∀(i j:Int) (t u:Tok) (s:Shared) (Q:Vs) (E:Vs),Q (.bool (g i j)) s->wpAny (model X.prog X.w) X.A (f (.int i t) (.int j u)) Q E s):
  cm X f (lm λi j=>.bl (g i j)):=by
 intro p s b H x y v u Q I R a h;obtain⟨i,j,rfl,rfl,q⟩:=h;obtain⟨t,rfl⟩:=R;obtain⟨T,rfl⟩:=a;exact r i j t _ s _ _ ⟨.bl _,H,I,rfl,q⟩
def DY(i j:Int):Prop:=0<j/\j<1073741824
def DZ(i j:Int):Prop:=0<=j/\j<=1000000/\i.natAbs<2^64
noncomputable def qR(i j:Int):Prop:=(-(2^64)<i/\i<2^64)\/(-(2^64)<j/\j<2^64)
theorem qR.ok{i j:Int}(h:qR i j):IntMulOk i j:=by
 rcases h with⟨H,a⟩| ⟨H,a⟩
 ·exact .of_left (intBits_le_64 H a)
 ·exact .of_right (intBits_le_64 H a)
theorem D0(k:Nat):(0:Int)<=2^k:=by lia
theorem qS:cm X (binaryOp .Add) (lm λi j=>.int (i+j)):=ln λ_ _ _ _ _ _ _ q=>add_int q
theorem qT:cm X (binaryOp .Sub) (lm λi j=>.int (i-j)):=ln λ_ _ _ _ _ _ _ q=>sub_int q
theorem qU:cm X (binaryOp .Mult) (rI qR λi j=>.int (i*j)):=qP λ_ _ _ _ _ _ _ h q=>mul_int q h.ok
theorem lp:cm X (binaryOp .FloorDiv) (rI DY λi j=>.int (i/j)):=qP λi j _ _ _ _ _ h q=>by have H:=h.1;have a:=h.2;exact floordiv_int (by omega) (by rw[Int.fdiv_eq_ediv_of_nonneg i (by omega)];exact q) (.inl (PyProof.noPylong_small (by omega)))
theorem qV:cm X (binaryOp .Mod) (rI (λ_ j=>0<j) λi j=>.int (i%j)):=qP λi j _ _ _ _ _ h q=>by exact mod_int' (by omega) (by rw[Int.fmod_eq_emod_of_nonneg i (by omega)];exact q)
theorem qW:cm X (binaryOp .Pow) (rI DZ λi j=>.int (i^j.toNat)):=qP λ_ _ _ _ _ _ _ h q=>pow_int_small h.1 h.2.1 h.2.2 q
theorem qX:cm X (binaryOp .RShift) (rI (λ_ j=>0<=j) λi j=>.int (i/2^j.toNat)):=qP λi j _ _ _ _ _ h q=>
 rshift_int h (by rw[Int.fdiv_eq_ediv_of_nonneg i (D0 _)];exact q)
theorem qY:cm X (binaryOp .BitAnd) (lm λi j=>.int (Builtin.bitAnd i j)):=ln λ_ _ _ _ _ _ _ q=>and_int q
theorem wB:cm X (binaryOp .BitOr) (lm λi j=>.int (Builtin.bitOr i j)):=ln λ_ _ _ _ _ _ _ q=>or_int q
theorem Kf{f:Value->Sem Value}{g:Int->Int}
  (r:∀(i:Int) (t:Tok) (s:Shared) (Q:Vs) (E:Vs),Q (.int (g i) s.toks) {s with toks:=s.toks+1}->wpAny (model X.prog X.w) X.A (f (.int i t)) Q E s):
  DW X f (rU λi=>.int (g i)):=by
 intro p s a H x v Q I R h;obtain⟨i,rfl,q⟩:=h;obtain⟨t,rfl⟩:=R;exact r i t s _ _ ⟨.int _,H,I.tok _,⟨_,rfl⟩,q⟩
theorem qZ:DW X (unaryOp .USub) (rU λi=>.int (-i)):=Kf λ_ _ _ _ _ q=>neg_int q
end
noncomputable def D3:V->V->Bool
 | .non,.non=>true| .non,.int _=>true| .int _,.non=>true| .non,.bl _=>true| .bl _,.non=>true| .non,.str _=>true| .str _,.non=>true
 | .int _,.int _=>true| .bl _,.bl _=>true| .str _,.str _=>true| .byt _,.byt _=>true
 | .int _,.str _=>true| .str _,.int _=>true| .bl _,.str _=>true| .str _,.bl _=>true
 |_,_=>false
noncomputable def Kg:R2:=λx y H Q=>D3 x y=true/\Q (.bl (!decide (x=y))) H
theorem lq{i j:Int}:decide (V.int i=V.int j)=(i==j):=by rw[Bool.eq_iff_iff];simp
theorem q9{i j:Bool}:decide (V.bl i=V.bl j)=(i==j):=by rw[Bool.eq_iff_iff];simp
theorem lr{i j:Str}:decide (V.str i=V.str j)=(i==j):=by rw[Bool.eq_iff_iff];simp
theorem lu{i j:Array UInt8}:decide (V.byt i=V.byt j)=(i.toList==j.toList):=by rw[Bool.eq_iff_iff];cases i;cases j;simp
section
variable {X:Cx}{a b c:Expr}{ta tb tc:TE}{pos:Pos}
theorem cB{σ:St}{H:Hp}{Q:VK}{k K:Bool}(I:Inv X pq σ H s)(q:Q (.bl k) H)(e:k=K):EP X pq σ Q (.bool K) s:=by subst e;exact⟨.bl k,H,I,rfl,q⟩
theorem wC:cm X (compareOp .NotEq) Kg:=by
 intro p s b H x y v u Q I R r h;obtain⟨a,q⟩:=h;cases x with
 |non=>
  cases R;cases y with
  |non=>cases r;exact PySem.EqNone.ne_none_none (cB I q (by simp))
  |bl j=>cases r;exact PySem.EqNone.ne_none_bool (cB I q (by simp))
  |int j=>obtain⟨T,rfl⟩:=r;exact PySem.EqNone.ne_none_int (cB I q (by simp))
  |str j=>obtain⟨T,rfl⟩:=r;exact PySem.EqNone.ne_none_str (cB I q (by simp))
  |_=>exact absurd (show false=true from a) Bool.false_ne_true
 |bl i=>
  cases R;cases y with
  |non=>cases r;exact PySem.EqNone.ne_bool_none (cB I q (by simp))
  |bl j=>cases r;exact ne_bool (cB I q (congrArg not q9))
  |str j=>obtain⟨T,rfl⟩:=r;exact PySem.EqMixed.ne_bool_str (cB I q (by simp))
  |_=>exact absurd (show false=true from a) Bool.false_ne_true
 |int i=>
  obtain⟨t,rfl⟩:=R;cases y with
  |non=>cases r;exact PySem.EqNone.ne_int_none (cB I q (by simp))
  |int j=>obtain⟨T,rfl⟩:=r;exact ne_int (cB I q (congrArg not lq))
  |str j=>obtain⟨T,rfl⟩:=r;exact PySem.EqMixed.ne_int_str (cB I q (by simp))
  |_=>exact absurd (show false=true from a) Bool.false_ne_true
 |str i=>
  obtain⟨t,rfl⟩:=R;cases y with
  |non=>cases r;exact PySem.EqNone.ne_str_none (cB I q (by simp))
  |bl j=>cases r;exact PySem.EqMixed.ne_str_bool (cB I q (by simp))
  |int j=>obtain⟨T,rfl⟩:=r;exact PySem.EqMixed.ne_str_int (cB I q (by simp))
  |str j=>obtain⟨T,rfl⟩:=r;exact ne_str (cB I q (congrArg not lr))
  |_=>exact absurd (show false=true from a) Bool.false_ne_true
 |byt i=>
  obtain⟨t,rfl⟩:=R;cases y with
  |byt j=>obtain⟨T,rfl⟩:=r;exact PySem.W.ne_bytes (cB I q (congrArg not lu))
  |_=>exact absurd (show false=true from a) Bool.false_ne_true
 |_=>cases y<;>exact absurd (show false=true from a) Bool.false_ne_true
theorem wD:cm X (compareOp .LtE) (lm λi j=>.bl (decide (i<=j))):=qQ λ_ _ _ _ _ _ _ q=>le_int q
theorem wE:cm X (compareOp .Gt) (lm λi j=>.bl (decide (j<i))):=qQ λ_ _ _ _ _ _ _ q=>gt_int q
theorem wF:cm X (compareOp .GtE) (lm λi j=>.bl (decide (j<=i))):=qQ λ_ _ _ _ _ _ _ q=>ge_int q
theorem q_:cm X (compareOp .Is) (λx y H Q=>y=.non/\Q (.bl (decide (x=.non))) H):=by
 intro p s a H x y v u Q I r R h;obtain⟨rfl,q⟩:=h;cases R;refine is_none_gen (cB I q ?_)
 cases x<;>first
  |lia
  | (obtain⟨t,rfl⟩:=r;rfl)
theorem lv:cm X (compareOp .IsNot) (λx y H Q=>y=.non/\Q (.bl (!decide (x=.non))) H):=by
 intro p s a H x y v u Q I r R h;obtain⟨rfl,q⟩:=h;cases R;refine isnot_none_gen (cB I q ?_)
 cases x<;>first
  |lia
  | (obtain⟨t,rfl⟩:=r;rfl)
theorem lw{o:CmpOp}{r:R2}(g:cm X (compareOp o) r)(d:PE X a ta)(e:PE X b tb)(f:behindInMarks o b=false):PE X (.Compare a [o] [b] pos) (De r ta tb):=by intro p s k H Q I h;exact wpAny_Compare1 (qO d e I h λv u S x y j c R i q=>g _ _ _ _ x y v u Q c R i q) f
noncomputable def pS(t:TE):TT:=λσ H Q=>t σ H λx H'=>∃k,x=.bl k/\Q k H'
theorem wG{o:CmpOp}{r:R2}(m:cm X (compareOp o) r)(i:PE X a ta)(j:PE X b tb)(l:behindInMarks o b=false):PT X (.Compare a [o] [b] pos) (pS (De r ta tb)):=by
 intro P s C H Q I h
 refine wpAny_isTrue_Compare1 (aR (i _ s _ H _ I h) λv S ⟨x,_,d,R,q⟩=>aR (j _ _ _ _ _ d q) λu A ⟨y,_,f,t,n⟩=>
  aR (m _ _ _ _ x y v u _ f R t n) λc B ⟨z,_,g,w,k,e,p⟩=>?_) l
 subst e;cases w;exact ZJ ⟨_,g,p⟩
noncomputable def ja(r R:R2)(t tb T:TE):TE:=λσ H Q=>t σ H λx H1=>tb σ H1 λy H2=>r x y H2 λz a=>∃k,z=.bl k/\
 (if k=true then T σ a λw b=>R y w b Q else Q (.bl false) a)
theorem D4{o:CmpOp}{r R:R2}(A:cm X (compareOp o) r)(f:cm X (compareOp op') R)(n:PE X a ta)(p:PE X b tb)(t:PE X c tc)
  (w:lastMarks [o,op'] [b,c]=false:=by with_unfolding_all rfl):PE X (.Compare a [o,op'] [b,c] pos) (ja r R ta tb tc):=by
 intro P s M H Q I h
 refine Compare_chain (aR (n _ s _ H _ I h) λv S ⟨x,_,j,E,B⟩=>chain_link (aR (p _ _ _ _ _ j B) λu J ⟨y,_,l,i,C⟩=>
  aR (A _ _ _ _ x y v u _ l E i C) λd K ⟨z,_,g,F,k,e,q⟩=>?_)) w
 subst e;cases F;refine ZJ ?_;cases k with
 |false=>exact ite_ff ⟨.bl _,_,g,rfl,q⟩
 |true=>exact ite_tt (chain_last (aR (t _ _ _ _ _ g q) λW L ⟨_,_,m,G,D⟩=>f _ _ _ _ y _ u _ Q m i G D))
theorem D5{o:CmpOp}{r R:R2}(C:cm X (compareOp o) r)(f:cm X (compareOp op') R)(t:PE X a ta)(w:PE X b tb)(A:PE X c tc)
  (B:lastMarks [o,op'] [b,c]=false:=by with_unfolding_all rfl):PT X (.Compare a [o,op'] [b,c] pos) (pS (ja r R ta tb tc)):=by
 intro T s σ H Q I h
 refine isTrue_chain (aR (t _ s _ H _ I h) λv U ⟨x,_,j,L,F⟩=>test_link (aR (w _ _ _ _ _ j F) λu V ⟨y,_,l,i,G⟩=>
  aR (C _ _ _ _ x y v u _ l L i G) λd W ⟨z,_,g,M,k,e,q⟩=>?_)) B
 subst e;cases M;refine ZJ ?_;cases k with
 |false=>obtain⟨S,E,D⟩:=q;cases E;exact ite_ff ⟨_,g,D⟩
 |true=>refine ite_tt (test_last (aR (A _ _ _ _ _ g q) λw' Y ⟨_,_,m,N,J⟩=>aR (f _ _ _ _ y _ u _ _ m i N J) λP Z ⟨_,_,n,O,_,p,K⟩=>?_));subst p;cases O;exact ZJ ⟨_,n,K⟩
def hI(K:Fg)(x:V)(H:Hp)(k:Bool):Prop:=
 match x with
 | .non=>k=false
 | .bl b=>k=b
 | .int i=>k=(i !=0)
 | .str y=>y.length<=sizeLine/\k=((y.length:Int) !=0)
 | .byt y=>y.size<=sizeLine/\k=((y.size:Int) !=0)
 | .ref p=>(∃xs,cM K H p xs/\k= !xs.isEmpty)\/(∃xs,bX K H p xs/\k= !xs.isEmpty)\/∃a,H p=some (.dK a)/\k= !a.isEmpty
 |_=>False
theorem D6{a:Type}{k:List (a×V)}{vs:List (a×Value)}(r:KV k vs):(!vs.isEmpty)= !k.isEmpty:=by cases r<;>rfl
theorem wH{xs:List V}(r:Vals xs its):(!its.toArray.isEmpty)= !xs.isEmpty:=by cases r<;>simp
theorem hJ:(sizeLine:Nat)<2^63:=by decide
theorem jb:DX X (λx H Q=>∃k,hI X.K x H k/\Q k H):=by
 intro u s w H x v Q I R h;obtain⟨k,e,q⟩:=h;have n:=hJ;have o:sizeLine=16777216:=sizeLine_eq;cases x with
 |non=>cases R;have E:k=false:=e;subst E;exact truthy_none ⟨H,I,q⟩
 |bl b=>cases R;have E:k=b:=e;subst E;exact ZJ ⟨H,I,q⟩
 |int i=>obtain⟨t,rfl⟩:=R;have E:k=(i !=0):=e;subst E;exact PySem.P.truthy_int ⟨H,I,q⟩
 |str y=>obtain⟨t,rfl⟩:=R;obtain⟨l,E⟩:y.length<=sizeLine/\k=((y.length:Int) !=0):=e;subst E;exact PySem.P.truthy_str (by omega) ⟨H,I.tok _,q⟩
 |byt y=>obtain⟨t,rfl⟩:=R;obtain⟨l,E⟩:y.size<=sizeLine/\k=((y.size:Int) !=0):=e;subst E;exact PySem.W.truthy_bytes (by omega) ⟨H,I.tok _,q⟩
 |ref p=>
  cases R;have E:(∃c,cM X.K H p c/\k= !c.isEmpty)\/(∃c,bX X.K H p c/\k= !c.isEmpty)\/∃K,H p=some (.dK K)/\k= !K.isEmpty:=e;rcases E with⟨c,d,E⟩| ⟨c,d,E⟩| ⟨K,d,E⟩
  ·subst E;obtain⟨f,r,P,g⟩:=I.list d;have a:=r.length;exact wpAny_truthy_list P.isList (by simp only[Zs];omega) ⟨H,I.tok _,by rw[wH r];exact q⟩
  ·subst E;obtain⟨f,r,P,g⟩:=I.tuple d;have a:=r.length;exact truthy_tuple P (by simp only[Zs];omega) ⟨H,I.tok _,by rw[wH r];exact q⟩
  ·subst E;obtain⟨g,j,vs,r,m⟩:K.length<=sizeLine/\(p==sysModules)=false/\∃vs,KV K vs/\s.heap.DictOf (qA X.prog X.w) p vs:=I.hok p _ d;have a:K.length=vs.length:=Paired.length r;exact wpAny_truthy_dict j m (by omega) ⟨H,I.tok _,by rw[D6 r];exact q⟩
 |_=>exact(show False from e).elim
theorem D7(c:PE X a ta)(d:∀w,isTrue a X.env w=(do let v <-w;standAt a.pos;holding [v] (truthy v))):
  PT X a (λσ H Q=>ta σ H λx H'=>∃k,hI X.K x H' k/\Q k H'):=by
 intro p s σ H Q I h;exact isTrue_plain (aR (c _ s _ H _ I h) λv S ⟨x,_,b,r,q⟩=>jb _ _ _ _ x v Q b r q) (d _)
theorem D8:cm X (binaryOp .Add) (λx y H Q=>∃i j,x=.str i/\y=.str j/\i.length+j.length<=sizeLine/\Q (.str (i++j)) H):=by intro p s c H x y v u Q I r R h;obtain⟨i,j,rfl,rfl,a,q⟩:=h;obtain⟨t,rfl⟩:=r;obtain⟨T,rfl⟩:=R;exact add_str (λT b=>⟨.str _,H,I.tok _,⟨_,rfl⟩,q⟩) a
theorem vals1{x:V}(r:Vals [x] us):∃u,us=[u]/\RelV x u:=by
 cases r with
 |cons a R=>cases R;simp_all
theorem wI:ba X (.type "int") (λxs H Q=>(∃i,xs=[.int i]/\Q (.int i) H)\/∃k,xs=[.bl k]/\Q (.int (if k then 1 else 0)) H):=by
 intro p s a H xs U Q I r h;rcases h with⟨i,rfl,q⟩| ⟨k,rfl,q⟩
 ·obtain⟨u,rfl,t,rfl⟩:=vals1 r;exact call_int_int ⟨.int i,H,I,⟨_,rfl⟩,q⟩
 ·obtain⟨u,rfl,R⟩:=vals1 r;cases R;exact call_int_bool ⟨.int _,H,I.tok _,⟨_,rfl⟩,q⟩
end
section
variable {x:Addr}{mA:Mg}{v:Value}
end
section
variable {P:Program}{H H':Hp}{fs fs':List (Str×V)}
end
section
variable {X:Cx}{σ:St}{H:Hp}{fs:List (Str×V)}{f:Str}{v:V}
end
section
variable {X:Cx}{o value:Expr}{f:Str}{pos tpos:Pos}{ta tv:TE}
end
section
variable {X:Cx}{σ:St}{H:Hp}{c:Value}{b:Bool}
end
structure cC (k:Nat)(A:Around):Prop where
 hd:A.handled=none
 dp:A.depth+3*k+5<recursionLimit
 un:A.units+16*k+200<cLine
 gd:A.guards=some []
theorem cC.mono{j k:Nat}(r:cC k A)(h:j<=k):cC j A:=⟨r.hd,by have:=r.dp;omega,by have:=r.un;omega,r.gd⟩
theorem cC.deeper{k:Nat}(r:cC (k+1) A)(env:Env):cC k (A.deeper env):=
 ⟨r.hd,by have:=r.dp;show A.depth+1+3*k+5<_;omega,by have:=r.un;show A.units+3+16*k+200<_;omega,r.gd⟩
theorem cC.depth{k:Nat}(r:cC k A):A.depth<recursionLimit:=by have:=r.dp;omega
theorem cC.units{k:Nat}(r:cC k A):A.units+64<cLine:=by have:=r.un;omega
noncomputable def lx:TA:=λ_ H Q=>Q [] H
noncomputable def gR(t:TE)(T:TA):TA:=λσ H Q=>t σ H λx H1=>T σ H1 λxs H2=>Q (x::xs) H2
section
variable {X:Cx}{te:TE}{t:TA}{pos:Pos}
theorem eG:PA X [] lx:=λ_ _ _ _ H Q I h=>Calls.spliced_nil ⟨_,H,I,.nil,h⟩
theorem dy(c:PE X e te)(d:PA X es t)(hs:starEach (e::es) X.env=(false,eval e X.env)::starEach es X.env:=by rfl):PA X (e::es) (gR te t):=by intro pos p s i H Q I h;rw[hs];show wpAny _ _ (spliced ((false,eval e _)::backTo _ _)) _ _ s;refine Calls.spliced_cons (aR (c _ s _ H _ I h) λu S ⟨x,_,a,r,q⟩=>?_);exact aR (d _ _ _ _ _ _ a q) λU g ⟨_,_,b,R,f⟩=>⟨_,_,b,.cons r R,f⟩
noncomputable def D_(t:TA):TE:=λσ H Q=>t σ H λxs H1=>xs.length<=sizeLine/\∀p,H1 p=none->Q (.ref p) (aZ H1 p (.tup xs))
noncomputable def Ea(t:TA):TE:=λσ H Q=>t σ H λxs H1=>xs.length<=sizeLine/\∀p,H1 p=none->Q (.ref p) (aZ H1 p (.lst xs))
theorem rc{x1}(h:PA X es t):PE X (.Tuple es x1 pos) (D_ t):=by intro p s f H Q I d;refine wpAny_Tuple_spliced (aR (h _ _ s _ H _ I d) λU S ⟨_,_,a,r,z,q⟩=>⟨by rw[<-r.length];exact z,?_⟩);have c:=a.hok.fresh (Zf _);refine⟨.ref _,_,a.laid (λb u e=>Zb _ e) (Zf _) ?_,rfl,q _ c⟩;exact⟨z,_,r,⟨_,Zh _ rfl,rfl,_,rfl⟩,_,Zh _ rfl,rfl⟩
theorem hO(h:PA X es t):PE X (.List es pos) (Ea t):=by intro p s f H Q I d;refine wpAny_List_spliced (aR (h _ _ s _ H _ I d) λU S ⟨_,_,a,r,z,q⟩=>⟨by rw[<-r.length];exact z,?_⟩);have c:=a.hok.fresh (Zf _);refine⟨.ref _,_,a.laid (λb u e=>Zb _ e) (Zf _) ?_,rfl,q _ c⟩;exact⟨z,_,0,r,Zh _ rfl⟩
end
abbrev Sp:=List V->Hp->VK->XK->Prop
abbrev c_:=List Env->Hp->Shared->XK->Vs
structure jc (P:Program)(w:World)(K:Fg)(mg:Mg)(base:Heap)(A:Around)(outer:List Env)(s:Shared)(H:Hp):Prop where
 frames:A.frames=some outer
 mod:Mod K mg base
 bs:∀b o,base.get? b=some o->s.heap.get? b=some o/\H b=none
 bsz:base.objs.size<=s.heap.objs.size
 funs:s.heap.FunFrames base outer
 frf:∀b∈bG outer,H b=none
 hok:dO P w H s.heap
 bare:AllBare s.gens
def CE(o:List Env)(P:Program)(w:World)(H:Hp)(s:Shared)(Q:VK)(u:Value)(S:Shared):Prop:=
 ∃v H',S.os=s.os/\AllBare S.gens/\Un (bG o) [] H H' s.heap S.heap/\dO P w H' S.heap/\RelV v u/\Q v H'
def CR(CX:c_)(o:List Env)(P:Program)(w:World)(H:Hp)(s:Shared)(Q:VK)(E:XK)(r:Result)(S:Shared):Prop:=
 match r with
 | .ok (.ret u)=>CE o P w H s Q u S
 | .ok _=>False
 | .error e=>CX o H s E e S
structure cN (P:Program)(w:World)(K:Fg)(mg:Mg)(base:Heap)(CX:c_)(k:Nat)(f:Addr)(fd:FuncData)(ps:Ls)(sp:Sp):Prop where
 len:∀vs H Q E,sp vs H Q E->vs.length=ps.length
 run:∀(A:Around) (outer:List Env) (s:Shared) (H:Hp) (args:Args) (us:Lv) (vs:List V) (Q:VK) (E:XK),cC k A->jc P w K mg base A outer s H->BindsTo s fd args (ps.zip us)->Vals vs us->sp vs H Q E->
  codeAny (model P w) A (.call (.ref f) args) (CR CX outer P w H s Q E) s
theorem cN.mono{P:Program}{CX:c_}{j k:Nat}{b:FuncData}{ps:Ls}{sp:Sp}(F:cN P w K mg base CX j f b ps sp)(h:j<=k):
  cN P w K mg base CX k f b ps sp:=⟨F.len,λA o s H a u vs Q E c=>F.run A _ s H _ _ _ Q E (c.mono h)⟩
theorem cN.imp{P:Program}{CX:c_}{k:Nat}{b:FuncData}{ps:Ls}{sp S:Sp}(F:cN P w K mg base CX k f b ps sp)
  (h:∀vs H Q E,S vs H Q E->sp vs H Q E):cN P w K mg base CX k f b ps S:=
 ⟨λvs H Q E q=>F.len _ H Q E (h _ _ _ _ q),λA o s H a u vs Q E e d c i g=>F.run A _ s H _ _ _ Q E e d c i (h _ _ _ _ g)⟩
section
variable {X:Cx}{σ:St}{H:Hp}
theorem Inv.env0(I:Inv X pq σ H s):jc X.prog X.w X.K X.mg X.base X.A X.stack s H:=
 ⟨I.ok.frames,I.ok.mod,I.bs,ZC I.ok.bsz I.sz,I.stack,I.stkFree,I.hok,I.bare⟩
theorem Inv.after{Q:VK}(I:Inv X pq σ H s)(h:CE X.stack X.prog X.w H s Q u s'):EP X pq σ Q u s':=by obtain⟨v,c,O,B,un,a,r,q⟩:=h;obtain⟨e,g,d,t,o⟩:=s';obtain rfl:o=s.os:=O;exact⟨v,_,I.call un a B λb z=>absurd z (by simp),r,q⟩
end
noncomputable def wJ(sp:Sp)(d:List V)(E:XK)(t:TA):TE:=λσ H Q=>t σ H λvs H1=>sp (vs++d) H1 Q E
def Binds(K:Fg)(f:FuncData)(ps:Ls)(ds:Lv):Prop:=
 ∀(s:Shared) (us:Lv),K.In s.heap->(us++ds).length=ps.length->BindsTo s f ⟨us,[]⟩ (ps.zip (us++ds))
theorem Binds.all{f:FuncData}{ps:Ls}(h:∀us:Lv,us.length=ps.length->bindArgs f ⟨us,[]⟩=pure (ps.zip us)):Binds K f ps []:=λs us _ H=>by rw[List.append_nil]at H⊢;exact .of_eq (h _ H)
def jd(CX:c_)(X:Cx)(E:XK):Prop:=∀(pq:Lp) (σ:St) (H:Hp) (s:Shared) (e:Value) (s':Shared),Inv X pq σ H s->CX X.stack H s E e s'->X.xe e s'
section
variable {X:Cx}{CX:c_}{k:Nat}{fd:FuncData}{ps:Ls}{sp:Sp}{dvs:List V}{ds:Lv}{E:XK}{x m:Str}{p pos:Pos}{o:Expr}{ta:TE}{t:TA}
theorem rf{σ:St}{H:Hp}{Q:VK}{vs:List V}(F:cN X.prog X.w X.K X.mg X.base CX k f fd ps sp)(i:cC k X.A)(c:Binds X.K fd ps ds)(d:Vals dvs ds)(j:jd CX X E)
  (I:Inv X pq σ H s) (r:Vals vs us) (h:sp (vs++dvs) H Q E):wpAny (model X.prog X.w) X.A (call (.ref f) us) (EP X pq σ Q) X.xe s:=by
 have R:=r.append d;have g:(us++ds).length=ps.length:=by rw[<-R.length];exact F.len _ _ _ _ h
 refine wpAny_call (codeAny_mono (F.run _ _ s H _ _ _ Q E i I.env0 (c s _ I.kIn g) R h) λr S a=>?_);cases r with
 |error e=>exact j _ _ H s e _ I a
 |ok b=>
  cases b with
  |ret u=>exact I.after a
  |next=>exact False.elim a
  |brk=>exact False.elim a
  |cont=>exact False.elim a
theorem ly(F:cN X.prog X.w X.K X.mg X.base CX k f fd ps sp)(o:cC k X.A)(l:Gl X x)(n:X.mg x=some (.ref f))(m:PySem.W.keepIn X.K (.ref f)=true)(g:Binds X.K fd ps ds)(i:Vals dvs ds)(u:jd CX X E)
  (d:PA X (e::es) t) (a:(x==("__debug__":Str))=false:=by decide) (j:starEach (e::es) X.env=(false,eval e X.env)::starEach es X.env:=by rfl) (b:(backTo pos (starEach es X.env)).any (·.1)=false:=by rfl):
  PE X (.Call (.Name x p) (e::es) [] pos) (wJ sp dvs E t):=by
 intro P s v H Q I h;refine wpAny_Call_Name_kw (hH I l n ?_ a);refine PySem.W.callWith_K I.ok.mod.kin m (aR (d _ _ s _ H _ I h) λU S ⟨_,_,c,r,q⟩=>⟨c.kIn,?_⟩) j b;exact rf F o g i u c r q
end
section
variable {X:Cx}{CX:c_}{k:Nat}{fd:FuncData}{ps ks:Ls}{sp:Sp}{E:XK}{x m:Str}{p pos kpos:Pos}{o:Expr}{ua:List Keyword}{te ta:TE}{t tk:TA}{nm:Option Str}
variable {g:Lv->Lv->Lv}{gV:List V->List V->List V}
end
structure bH (N P:Ls)(sc:Scope):Prop where
 kind:sc.kind=.function
 co:sc.isCoroutine=false
 gen:sc.isGenerator=false
 nd:N.Nodup
 pre:N.take P.length=P
 par:∀x∈P,sc.names.lookup x=some .local\/sc.names.lookup x=some .cell
 nofree:∀y∈sc.names,y.2≠.free
theorem wK{kindOf:Str->Option NameKind}{x:Str}:∀{binds:List (Str×Value)} {m:Mg},(∀v,(x,v)∉binds)->bindL kindOf binds m x=m x
 | [],_,_=>rfl
 | (n,v)::r,m,h=>by
  unfold bindL;rw[wK λw hw=>h w (Zc _ hw)];split
  ·grind
  ·rfl
theorem wL{kindOf:Str->Option NameKind}{x:Str}:∀{binds:List (Str×Value)} {m:Mg},(∀v,(x,v)∉binds)->bindC kindOf binds m x=m x
 | [],_,_=>rfl
 | (n,v)::r,m,h=>by
  unfold bindC;rw[wL λw hw=>h w (Zc _ hw)];split
  ·rfl
  grind
theorem wM{kindOf:Str->Option NameKind}{x:Str}{v:Value}:∀{P:Ls} {vs:Lv} {i:Nat} {m:Mg},P.Nodup->P[i]?=some x->vs[i]?=some v->kindOf x=some .local->
  bindL kindOf (P.zip vs) m x=some v
 | [],_,_,_,_,h,_,_=>by simp_all
 |_::_,[],_,_,_,_,h,_=>by simp_all
 |p::P,w::vs,0,m,n,H,a,b=>by simp at H a;subst H;subst a;show bindL _ ((p,w)::P.zip _) m p=_;unfold bindL;rw[wK λv c=>(List.nodup_cons.mp n).1 (List.of_mem_zip c).1,if_pos b];simp
 |p::P,w::vs,i+1,m,n,H,a,b=>by unfold bindL;exact wM (List.nodup_cons.mp n).2 (by simpa using H) (by simp_all) b
theorem wN{kindOf:Str->Option NameKind}{x:Str}{v:Value}:∀{P:Ls} {vs:Lv} {i:Nat} {m:Mg},P.Nodup->P[i]?=some x->vs[i]?=some v->kindOf x≠some .local->
  bindC kindOf (P.zip vs) m x=some v
 | [],_,_,_,_,h,_,_=>by simp_all
 |_::_,[],_,_,_,_,h,_=>by simp_all
 |p::P,w::vs,0,m,n,H,a,b=>by simp at H a;subst H;subst a;show bindC _ ((p,w)::P.zip _) m p=_;unfold bindC;rw[wL λv c=>(List.nodup_cons.mp n).1 (List.of_mem_zip c).1,if_neg b];simp
 |p::P,w::vs,i+1,m,n,H,a,b=>by unfold bindC;exact wN (List.nodup_cons.mp n).2 (by simpa using H) (by simp_all) b
noncomputable def start(N:Ls)(vs:List V):St:=vs.map some++List.replicate (N.length-vs.length) none
noncomputable def fg(CX:c_)(P:Program)(w:World)(K:Fg)(mg:Mg)(base:Heap)(N:Ls)(qual:Str)(scope:Scope)(f:Addr)(cd:Value)(A:Around)(outer:List Env)(s:Shared)(H:Hp)(E:XK):Cx where
 prog:=P
 w:=w
 K:=K
 mg:=mg
 base:=base
 A:=A.deeper (envOfC qual scope s.heap.objs.size f cd)
 N:=N
 s₀:=s
 H₀:=H
 env:=envOfC qual scope s.heap.objs.size f cd
 outer:=outer
 stack:=envOfC qual scope s.heap.objs.size f cd::outer
 ex:=[]
 calm:=true
 fn:=λ_=>true
 pn:=[]
 xe:=λe s'=>wpAny (model P w) (A.deeper (envOfC qual scope s.heap.objs.size f cd)) (leaving (envOfC qual scope s.heap.objs.size f cd) e) (λ_ s''=>CX outer H s E e s'') (λe' s''=>CX outer H s E e' s'') s'
theorem wO{s:Scope}{x:Str}(h:s.names.lookup x=some .cell):∃c,(cellsFrom n s.names []).lookup x=some c:=by have q:=PySem.W.cellsFrom_some _ n [] (.inl h);exact Option.isSome_iff_exists.mp q
theorem wP{CX:c_}{P:Program}{ps:Ls}{s1:Shared}{H:Hp}{E:XK}{vs:List V}
  (S:bH N ps scope) (B:A.handled=none) (e0:jc P w K mg base A outer s H) (G:vs.length=ps.length) (r:Vals vs us)
  (x:InCallC s s.heap.objs.size (bindL (envOfC qual scope s.heap.objs.size f cd).kindOf (ps.zip us) λ_=>none) (cellsFrom (s.heap.objs.size+1) scope.names []) (bindC (envOfC qual scope s.heap.objs.size f cd).kindOf (ps.zip us) λ_=>none) s1):
  Inv (fg CX P w K mg base N qual scope f cd A outer s H E) [] (start N vs) H s1:=by
 have C:ps.length<=N.length:=by have:=congrArg List.length S.pre;rw[List.length_take]at this;omega
 obtain⟨j,T,rfl,m⟩:=x.done;have n:∀b:Addr,b∉(fg CX P w K mg base N qual scope f cd A outer s H E).ex:=λb z=>absurd (show b∈[]from z) (by simp)
 refine⟨⟨e0.mod,S.kind,rfl,rfl,Zf _,λy z c j l=>?_,λy d=>?_,λy c _ h=>?_,λ_=>B,Around.frames_deeper e0.frames,.inr ⟨rfl,rfl⟩,λb z=>absurd z (n b),e0.bs,e0.bsz,λb _ _=>n b,λb z=>absurd z (n b),e0.funs,e0.frf⟩,
  rfl,e0.bare,Un.kept m,⟨_,x.toInCall.ns,λi y v j l D=>?_⟩,λy c h=>⟨_,x.cell y c h⟩,e0.hok.fresh (Zf _),λy c h=>?_,λp a=>absurd (show p∈([])from a) (by simp),e0.hok.kept m,?_⟩
 ·exact name_of_addr x.apart (ZA j) (ZA l)
 ·rcases d with d|d
  ·exact wO d
  ·exact absurd rfl (S.nofree _ (ZA d))
 ·exact Nat.le_of_lt (x.above y c (ZA h))
 ·have F:i<vs.length:=by
   unfold start at l
   grind
  have t:vs[i]?=some v:=by
   unfold start at l
   grind
  obtain⟨u,o,R⟩:=r.get t;have a:ps[i]?=some y:=by rw[<-S.pre,List.getElem?_take_of_lt (by omega)];exact j
  have g:ps.Nodup:=by rw[<-S.pre];exact S.nd.sublist (List.take_sublist _ _)
  refine⟨u,R,?_⟩;rcases S.par y (Zu a)with k|k
  ·exact .inl ⟨k,wM g a o k⟩
  ·obtain⟨c,e⟩:=wO k;refine .inr ⟨.inl k,c,e,?_⟩;have q:=x.cell y c e;rw[wN g a o (by show scope.names.lookup y≠_;rw[k];decide)]at q;exact q
 ·exact e0.hok.fresh (Nat.le_of_lt (x.above y c (ZA h)))
 ·unfold start;show _=N.length;simp_all
theorem wQ{CX:c_}{P:Program}{k:Nat}{p:Arguments}{body:List Stmt}{D kV:Value}{an:Option Addr}
   {ps:Ls} {sp:Sp} (lk:K.lookup f=some ⟨oc,od,.func (PySem.W.fnOf name qual p body scope D kV doc pm an cdv ct),osl⟩) (j:PySem.W.codeIn K cdv qual=true) (S:bH N ps scope)
  (len:∀vs H Q E,sp vs H Q E->vs.length=ps.length)
  (h:∀(A:Around) (outer:List Env) (s:Shared) (H:Hp) (vs:List V) (Q:VK) (E:XK),cC k (A.deeper (envOfC qual scope s.heap.objs.size f cdv))->sp vs H Q E->
   ∃t,dW (fg CX P w K mg base N qual scope f cdv A outer s H E) body t/\t {nx:=λ_ H'=>Q .non H',rt:=Q} (start N vs) H):
  cN P w K mg base CX (k+1) f (PySem.W.fnOf name qual p body scope D kV doc pm an cdv ct) ps sp:=by
 refine⟨len,λA outer s H m W vs Q E l g C r i=>?_⟩;have M:=len _ _ _ _ i;have KX:=g.mod.kin.keeps λb o e=>(g.bs b o e).1;have L:=g.mod.nolimit.keeps λb o e=>(g.bs b o e).1
 have c:∀y∈ps.zip W,scope.names.lookup y.1=some _\/(scope.names.lookup y.1=some _/\((cellsFrom (s.heap.objs.size+1) _ []).lookup y.1).isSome=true):=λ⟨n,v⟩ U=>by
  rcases S.par n (List.of_mem_zip U).1 with q|q
  ·exact .inl q
  ·exact .inr ⟨q,PySem.W.cellsFrom_some _ _ _ (.inl q)⟩
 refine codeAny_call_function l.depth (KX _ _ lk) rfl S.co S.gen rfl (PySem.W.codeRec_of KX j) (C _ _ _ _ ?_);refine wpAny_newFunctionEnv_cells S.kind c λB G Z x=>?_;subst G;refine⟨L.keeps x.toInCall.keep,codeAny_func ?_⟩;obtain⟨t,T,O⟩:=h A _ s H _ Q E (l.deeper _) i;have I:Inv (fg CX P w K _ _ N _ _ f _ A _ s H E) _ _ H _:=wP S l.hd g M r x;refine wpAny_mono (T _ _ _ H _ I O) (λF z d=>?_) λe z d=>d
 have fin:∀{a:St} {H':Hp} {v:V} {u:Value},Inv (fg CX P w K mg base N qual scope f cdv A _ s H E) [] a _ _->RelV v u->Q v H'->CE outer P w H s Q u z:=
  λ{a H' v u} J R q=>⟨v,_,J.os,J.bare,J.base,J.hok,R,q⟩
 cases F with
 |ret u=>obtain⟨v,a,H',J,R,q⟩:=d;exact fin J R q
 |next=>obtain⟨a,H',J,q⟩:=d;exact fin (v:=V.non) J rfl q
 |brk=>obtain⟨_,_,_,q⟩:=d;simp_all
 |cont=>obtain⟨_,_,_,q⟩:=d;simp_all
section
variable {X:Cx}{x:Str}{p pos:Pos}{t:TA}{id T:String}{r:List V->Hp->VK->Prop}
noncomputable def Eb(r:List V->Hp->VK->Prop)(t:TA):TE:=λσ H Q=>t σ H λvs H1=>r vs H1 Q
theorem rg(f:ba X (.builtin id) r)(i:Gl X x)(j:X.mg x=none)(l:bootBuiltins x=some (.builtin id))(d:PA X (e::es) t)(k:x≠"__name__":=by decide)(a:(x==("__debug__":Str))=false:=by decide)
  (g:starEach (e::es) X.env=(false,eval e X.env)::starEach es X.env:=by rfl) (b:(backTo pos (starEach es X.env)).any (·.1)=false:=by rfl):PE X (.Call (.Name x p) (e::es) [] pos) (Eb r t):=by
 intro P s m H Q I h;refine wpAny_Call_Name_kw (eF I i j l ?_ k a);exact PyProof.Rows.callWith_builtin1 (aR (d _ _ s _ H _ I h) λu S ⟨_,_,c,R,q⟩=>f _ _ _ _ _ _ Q c R q) g b
theorem lz(f:ba X (.type T) r)(i:Gl X x)(j:X.mg x=none)(l:bootBuiltins x=some (.type T))(d:PA X (e::es) t)(k:x≠"__name__":=by decide)(a:(x==("__debug__":Str))=false:=by decide)
  (g:starEach (e::es) X.env=(false,eval e X.env)::starEach es X.env:=by rfl) (b:(backTo pos (starEach es X.env)).any (·.1)=false:=by rfl):PE X (.Call (.Name x p) (e::es) [] pos) (Eb r t):=by
 intro P s m H Q I h;refine wpAny_Call_Name_kw (eF I i j l ?_ k a);exact PyProof.Rows.callWith_type1 (aR (d _ _ s _ H _ I h) λu S ⟨_,_,c,R,q⟩=>f _ _ _ _ _ _ Q c R q) g b
end
end L2
namespace HT
section
open PySem.SeqAt
open PySem.AutoSeq1 (wpAny_loadPart')
open PySem.MeetsSeq PySem.MeetsSeq2 PySem.MeetsSeq3
end
theorem lA{t b:Addr}{vs W:Lv}(l:IsTup s.heap t vs.toArray)(g:IsTup s.heap b W.toArray)(p:vs≠[])
  (h1:W=[]->Q (.ref t) s) (o:W≠[]->Q (.ref s.heap.objs.size) {s with heap:=s.heap.push {cls:=.type "tuple",data:=.seq (vs++W).toArray}})
  (k:vs.length+W.length<=sizeLine):wpAny (model prog w) A (binaryOp .Add (.ref t) (.ref b)) Q E s:=by
 obtain⟨⟨cls,m,d,sl⟩,H,i,n,j⟩:=id l;obtain⟨⟨C,f,D,S⟩,h,a,N,c⟩:=id g;subst i j a c;by_cases hw:W=[]
 ·exact concat_meets ⟨_,H,rfl⟩ ⟨_,h,rfl⟩ noFill_tuple_add seq_tuple_add PySem.F.slot_tuple_add PySem.F.entry_tuple_add (PySem.F.args_tuple_add_2 _ _)
   (tuple_addW1 t b _ _ n _ _ _ _ _ (by simp_all) (by simp_all)) ⟨H,h,h1 hw⟩
 ·refine concat_meets ⟨_,H,rfl⟩ ⟨_,h,rfl⟩ noFill_tuple_add seq_tuple_add PySem.F.slot_tuple_add PySem.F.entry_tuple_add (PySem.F.args_tuple_add_2 _ _)
   (tuple_addW2 t b _ _ n _ _ _ _ _ (by simp_all) (by simp_all) (by simp_all)) ⟨H,h,?_⟩
  simp_all
noncomputable def bE(n d:Nat):Option Int->Nat
 |none=>d
 |some v=>if v<0 then(v+(n:Int)).toNat else min v.toNat n
theorem wR(n d k:Nat):bE n d (some (k:Int))=min k n:=rfl
theorem wS(v:Int)(n d:Nat):(if v<0 then max (v+(n:Int)) 0 else min v (n:Int))=((bE n d (some v):Nat):Int):=by
 show(if v<0 then max _ 0 else min v _)=((if v<0 then(v+(n)).toNat else min _ n):Nat)
 grind
theorem Ec(l h:Option Int)(n:Nat):Builtin.Slice.sliceAdjust l h 1 (n:Int)=(((bE n 0 l:Nat):Int),((bE n n h:Nat):Int)):=by
 refine Prod.ext ?_ ?_
 ·cases l with
  |none=>rfl
  |some v=>exact wS v n 0
 ·cases h with
  |none=>rfl
  |some v=>exact wS v n n
theorem Ed(i j:Nat):Builtin.Slice.slicePlaces (i:Int) (j:Int) 1=j-i:=by
 unfold Builtin.Slice.slicePlaces
 grind
theorem rh{v:Value}{o:Option Int}{Q:Option Int->Shared->Prop}(p:IsPart v o)(h:Q o s):wpAny (model prog w) A (Builtin.Slice.slicePartIndex v) Q E s:=by
 cases p with
 |none=>exact slicePart_none h
 |int i t=>exact slicePart_int h
theorem wT{Q:Int×Int×Nat->Shared->Prop}(hs:s.heap.IsSliceOf sl vl vu .none)(pl:IsPart vl lo)(p:IsPart vu hi)
  (h:Q (((bE n 0 lo:Nat):Int),1,bE n n hi-bE n 0 lo) s):wpAny (model prog w) A (Builtin.Slice.sliceApplied (.ref sl) (pure (n:Int))) Q E s:=by
 obtain⟨o,a,b,H⟩:=id hs;refine Za (Za (ZO a H rfl (Za (ZO a H rfl (Za (ZO a H rfl (Zd ?_)))))));refine Za (slicePart_none ?_);refine Za (rh pl (Za (rh p (Za (Zd ?_)))));show wpAny _ _ (match Builtin.Slice.sliceAdjust _ _ 1 n with| (lo,hi)=>pure (lo,(1:Int),Builtin.Slice.slicePlaces lo hi 1)) _ _ s;rw[Ec _ _ n];show wpAny _ _ (pure _) _ _ s;rw[Ed];exact Zd h
theorem Ee(xs:Av)(i k:Nat):((List.range k).filterMap λ(m:Nat)=>xs[((i:Int)+(m:Int)*1).toNat]?).toArray=((xs.toList.drop i).take k).toArray:=by
 have e:(λ(m:Nat)=>xs[((i:Int)+m*1).toNat]?)=λm=>xs[i+m]? :=by
  grind
 have:=pick_run xs i k;have E:((λx=>xs[x]?)∘λx=>i+x)=λm=>xs[i+m]? :=rfl;simp_all
theorem Ef{t:Addr}(a:IsTup s.heap t items)(hs:s.heap.IsSliceOf sl vl vu .none)(pl:IsPart vl lo)(p:IsPart vu hi)
  (hw:¬(bE items.size 0 lo=0/\bE items.size items.size hi=items.size))
  (h:Q (.ref s.heap.objs.size) {s with heap:=s.heap.push {cls:=.type "tuple",data:=.seq ((items.toList.drop (bE items.size 0 lo)).take (bE items.size items.size hi-bE items.size 0 lo)).toArray}})
  (i:items.size<=sizeLine):wpAny (model prog w) A (getItem (.ref t) (.ref sl)) Q E s:=by
 have H:=by
  show((items.toList.drop (bE items.size 0 lo)).take (bE items.size items.size hi-bE items.size 0 lo)).toArray.size<=sizeLine
  grind
 obtain⟨o,e,c,g⟩:=id hs;have b:s.TypeIs (.ref sl) "slice":=⟨o,e,c⟩;unfold getItem
 try with_reducible refine ZL ?_
 refine Za (wpAny_sequenceKey a.typeIs (by decide) ?_)
 refine Za (ZN a.typeIs Z1
  (ZM Z1 a.typeIs entry_tuple_getitem ?_ (args_tuple_getitem _ _)))
 show wpAny _ _ (Builtin.Tuple.tupleItemsOf (.ref t)>>=_) _ _ s;refine Za (tupleItemsOf_ a ?_);refine Za (wpAny_typeOf b ?_);refine Za (wT hs pl p ?_);have d:¬((((bE items.size 0 lo:Nat):Int)==0&&(1:Int)==1&&(bE items.size items.size hi-bE items.size 0 lo)==items.size)=true):=by simp_all
 show wpAny _ _ (if(((bE _ 0 lo:Nat):Int)==0&&(1:Int)==1&&(bE _ items.size hi-bE items.size 0 lo)==items.size)=true then _ else _) _ _ s;rw[if_neg d,Ee]
 first
  |exact Za (Z0 (Zd ⟨_,rfl,Zd h⟩) H)
  |simp_all
  |simp_all
  |simp_all
end HT
namespace L2
abbrev TO:=St->Hp->(Option Int->Hp->Prop)->Prop
def PO(X:Cx)(e:Option Expr)(t:TO):Prop:=
 ∀(pq:Lp) (s:Shared) (σ:St) (H:Hp) (Q:Option Int->Hp->Prop),Inv X pq σ H s->t σ H Q->
  wpAny (model X.prog X.w) X.A (evalPart e X.env) (λu s'=>∃o H',Inv X pq σ H' s'/\IsPart u o/\Q o H') X.xe s
noncomputable def lB:TO:=λ_ H Q=>Q none H
noncomputable def wU(t:TE):TO:=λσ H Q=>t σ H λx H1=>∃i,x=.int i/\Q (some i) H1
theorem wV:∀{us:Lv},Vals (ns.map V.int) us->IntsAre us ns:=by
 induction ns with
 |nil=>intro us r;cases r;exact .nil
 |cons n ns i=>
  intro us r;cases r with
  |cons R a=>obtain⟨t,e⟩:=R;subst e;exact .cons n t (i a)
section
variable {X:Cx}{te:TE}{lo hi:Option Expr}{tl th:TO}{pos:Pos}
theorem lC:PO X none lB:=by intro p s a H Q I h;exact Zd ⟨_,H,I,.none,h⟩
theorem lD(h:PE X e te):PO X (some e) (wU te):=by intro p s c H Q I hw;refine aR (h _ s _ H _ I hw) λu S ⟨x,_,a,r,b⟩=>?_;obtain⟨i,rfl,q⟩:=b;obtain⟨t,rfl⟩:=r;exact⟨_,_,a,.int i t,q⟩
def Dg(X:Cx)(r:V->Option Int->Option Int->Hp->VK->Prop):Prop:=
 ∀(pq:Lp) (s:Shared) (σ:St) (H:Hp) (x:V) (v vl vu:Value) (lo hi:Option Int) (sl:Addr) (Q:VK),Inv X pq σ H s->RelV x v->s.heap.IsSliceOf sl vl vu .none->IsPart vl lo->IsPart vu hi->r x lo hi H Q->
  ∃T id,typeLookup (.type T) "__getitem__"=pure (some (.builtin id))/\s.TypeIs v T/\wpAny (model X.prog X.w) X.A (getItem v (.ref sl)) (EP X pq σ Q) X.xe s
noncomputable def Kh(r:V->Option Int->Option Int->Hp->VK->Prop)(t:TE)(T th:TO):TE:=λσ H Q=>t σ H λx H1=>T σ H1 λl H2=>th σ H2 λu a=>r x l u a Q
theorem Eg{r:V->Option Int->Option Int->Hp->VK->Prop}(n:Dg X r)(j:PE X e te)(m:PO X lo tl)(p:PO X hi th):PE X (.Subscript e (.Slice lo hi none p2) pos) (Kh r te tl th):=by intro C s F H Q I h;refine Subscript_ (aR (j _ s _ H _ I h) λv D ⟨x,_,c,R,w⟩=>?_);refine wpAny_Slice (aR (m _ _ _ _ _ c w) λA E ⟨l,_,d,P,y⟩=>aR (p _ _ _ _ _ d y) λB S ⟨u,_,f,t,z⟩=>?_);refine Zd ?_;have g:Inv X _ _ _ {S with heap:=S.heap.push {cls:=.type "slice",data:=.fields #[A,B,.none]}}:=f.kept λb O q=>Zb _ q;obtain⟨T,id,i,o,k⟩:=n _ _ _ _ x v _ _ l u _ Q g R (Heap.IsSliceOf.new ..) P t z;exact tail_any o i k rfl
noncomputable def hU(xs:List V)(l h:Option Int):List V:=(xs.drop (HT.bE xs.length 0 l)).take (HT.bE xs.length xs.length h-HT.bE xs.length 0 l)
theorem wW(xs:List V)(l h:Option Int):(hU xs l h).length<=xs.length:=by unfold hU;rw[List.length_take,List.length_drop];omega
def Eh(K:Fg):V->Option Int->Option Int->Hp->VK->Prop:=λx lo hi H Q=>∃a xs,x=.ref a/\bX K H a xs/\
 ¬(HT.bE xs.length 0 lo=0/\HT.bE xs.length xs.length hi=xs.length)/\∀p,H p=none->Q (.ref p) (aZ H p (.tup (hU xs lo hi)))
theorem sl_tup:Dg X (Eh X.K):=by
 intro m s t H x v V n l k sl Q I R e p P h;obtain⟨a,j,rfl,f,hw,q⟩:=h;cases R;obtain⟨i,r,d,g⟩:=I.tuple f;have c:i.toArray.size=j.length:=by exact r.length.symm
 refine⟨_,_,PyProof.Rows.slot_tuple_getitem.lookup,d.typeIs,?_⟩;refine HT.Ef d e p P (by lia) ?_ (by lia);rw[c];refine⟨.ref _,_,I.laid (λb o q=>Zb _ q) (Zf _) ?_,rfl,q _ (I.hok.fresh (Zf _))⟩;exact⟨ZC (wW _ _ _) g,_,(r.drop _).take _,IsTup.new _ _,pL.new _ _⟩
noncomputable def wX(K:Fg):R2:=λx y H Q=>∃a b xs ys,x=.ref a/\y=.ref b/\bX K H a xs/\bX K H b ys/\xs≠[]/\xs.length+ys.length<=sizeLine/\
 (ys=[]->Q (.ref a) H)/\(ys≠[]->∀p,H p=none->Q (.ref p) (aZ H p (.tup (xs++ys))))
theorem Vals.nil_iff{xs:List V}(r:Vals xs us):us=[]↔xs=[]:=by
 cases r with
 |nil=>simp
 |cons _ _=>simp
theorem lE:cm X (binaryOp .Add) (wX X.K):=by intro n s A H x y v u Q I l m h;obtain⟨a,b,t,Y,rfl,rfl,c,d,e,f,j,k⟩:=h;cases l;cases m;obtain⟨g,R,p,_⟩:=I.tuple c;obtain⟨i,r,P,_⟩:=I.tuple d;refine HT.lA p P (λz=>e (R.nil_iff.mp z)) (λz=>⟨.ref a,H,I,rfl,j (r.nil_iff.mp z)⟩) (λz=>?_) (by rw[<-R.length,<-r.length];exact f);refine⟨.ref _,_,I.laid (λb o q=>Zb _ q) (Zf _) ?_,rfl,k (λw=>z (r.nil_iff.mpr w)) _ (I.hok.fresh (Zf _))⟩;exact⟨by simp_all,_,R.append r,IsTup.new _ _,pL.new _ _⟩
end
noncomputable def gx(n:Nat)(i:Int):Option Nat:=if 0<=i then(if i<n then some i.toNat else none)else if-(n:Int)<=i then some (i+n).toNat else none
noncomputable def gz{a:Type}(xs:List a)(i:Int):Option a:=(gx xs.length i).bind λj=>xs[j]?
theorem rj{i:Int}{j:Nat}(h:gx n i=some j):seqIndex? i n=some j/\j<n/\ -(n:Int)<=i/\i<n:=by
 unfold gx at h;by_cases a:0<=i
 ·rw[if_pos a]at h;by_cases H:i<n
  ·rw[if_pos H]at h;have e:=Option.some.inj h;exact⟨by rw[seqIndex_of a H,e],by omega,by omega,H⟩
  simp_all
 ·rw[if_neg a]at h;by_cases H: -n<=i
  ·rw[if_pos H]at h;have e:=Option.some.inj h;exact⟨by rw[seqIndex_neg (by omega) H,e],by omega,H,by omega⟩
  simp_all
theorem wY{xs:List α}{i:Int}{v:α}(h:gz xs i=some v):∃j,seqIndex? i xs.length=some j/\xs[j]?=some v/\j<xs.length/\ -(xs.length:Int)<=i/\i<xs.length:=by
 unfold gz at h;cases e:gx xs.length i with
 |none=>simp_all
 |some j=>rw[e]at h;obtain⟨H,a,b,c⟩:=rj e;exact⟨j,H,h,a,b,c⟩
def wZ(b:Expr):Prop:=∀o i,subscripted b false o i=operate [o,i] (getItem o i)
def Dh(X:Cx)(r:R2):Prop:=
 ∀(value S:Expr) (pq:Lp) (s:Shared) (σ:St) (H:Hp) (x y:V) (v u:Value) (Q:VK),Inv X pq σ H s->RelV x v->RelV y u->r x y H Q->
  subscripted S false v u=operate [v,u] (getItem v u)->wpAny (model X.prog X.w) X.A (subscriptTail value S v u) (EP X pq σ Q) X.xe s
def je(X:Cx)(id:String)(r:V->List V->Hp->VK->Prop):Prop:=
 ∀(pq:Lp) (s:Shared) (σ:St) (H:Hp) (x:V) (xs:List V) (v:Value) (us:Lv) (Q:VK),Inv X pq σ H s->RelV x v->Vals xs us->r x xs H Q->
  wpAny (model X.prog X.w) X.A (call (.builtin id) (v::us)) (EP X pq σ Q) X.xe s
section
variable {X:Cx}{a b:Expr}{ta tb:TE}{pos:Pos}
theorem pT{r:R2}(f:Dh X r)(d:PE X a ta)(e:PE X b tb)(hs:wZ b):PE X (.Subscript a b pos) (De r ta tb):=by intro p s j H Q I h;exact Subscript_ (qO d e I h λv u S x y i c R g q=>f a b _ _ _ _ x y v u Q c R g q (hs _ _))
noncomputable def Ei(K:Fg):R2:=λx y H Q=>∃p xs i v,x=.ref p/\y=.int i/\cM K H p xs/\gz xs i=some v/\Q v H
noncomputable def Ej(K:Fg):R2:=λx y H Q=>∃p xs i v,x=.ref p/\y=.int i/\bX K H p xs/\gz xs i=some v/\Q v H
theorem w4:Dh X (Ei X.K):=by
 intro V S F s J H x y v u Q I n o h d;obtain⟨p,G,i,z,rfl,rfl,m,k,q⟩:=h;cases n;obtain⟨t,rfl⟩:=o;obtain⟨a,r,P,D⟩:=I.list m;obtain⟨j,c,e,A,f,g⟩:=wY k;obtain⟨w,E,R⟩:=r.get e;have B:=r.length;have C:=hJ;have fin:EP X _ _ Q w s:=⟨z,H,I,R,q⟩;by_cases b:0<=i
 ·have l:i.toNat=j:=by
   rw[seqIndex_of b g]at c;simp_all
  exact item_listR P.isList b (by omega) (by simp_all) fin d
 ·have l:(i+a.toArray.size).toNat=j:=by
   rw[seqIndex_neg (by omega) f]at c;simp_all
  exact subscriptTail_builtinR P.isList.typeIs slot_list_getitem.lookup
   (wpAny_getItem_list_neg P.isList (by omega) (by simp_all) (by omega) (by simp_all) ⟨rfl,fin⟩) d
theorem rk:Dh X (Ej X.K):=by
 intro V S C s F H x y v u Q I f g h d;obtain⟨p,D,i,z,rfl,rfl,c,b,q⟩:=h;cases f;obtain⟨t,rfl⟩:=g;obtain⟨e,r,P,B⟩:=I.tuple c;obtain⟨j,k,a,l,m,n⟩:=wY b;obtain⟨w,E,R⟩:=r.get a;have o:=r.length;have A:=hJ;have fin:EP X _ _ Q w s:=⟨z,H,I,R,q⟩
 exact subscriptTail_builtinR P.typeIs slot_tuple_getitem.lookup
  (getItem_tuple (j:=j) P (by omega) (by omega) (by simp_all) (by simp_all) ⟨rfl,fin⟩) d
theorem Ek(its:Lv)(n j:Nat)(u:Value):Obj.mapSeq (·.setIfInBounds j u) {cls:=.type "list",data:=.seq its.toArray n}={cls:=.type "list",data:=.seq (its.set j u).toArray n}:=by simp[Obj.mapSeq]
theorem Inv.lst{σ:St}{H:Hp}{p:Addr}{xs:List V}(I:Inv X pq σ H s)(h:H p=some (.lst xs)):
  ∃(its:Lv) (n:Nat),Vals xs its/\s.heap.get? p=some {cls:=.type "list",data:=.seq its.toArray n}/\xs.length<=sizeLine:=by
 obtain⟨z,its,n,r,e⟩:=I.hok p _ h;exact⟨_,n,r,e,z⟩
theorem Inv.lstUpd{σ:St}{H:Hp}{p:Addr}{xs y:List V}{its i:Lv}{n N:Nat}{f:Obj->Obj}(I:Inv X pq σ H s)(h:H p=some (.lst xs))
  (g:s.heap.get? p=some {cls:=.type "list",data:=.seq its.toArray n}) (c:f {cls:=.type "list",data:=.seq its.toArray n}={cls:=.type "list",data:=.seq i.toArray N}) (r:Vals y i) (j:y.length<=sizeLine) (t:Nat):
  Inv X pq σ (aZ H p (.lst y)) {s with heap:=s.heap.update p f,toks:=t}:=by
 have e:(s.heap.update p f).get? p=some {cls:=.type "list",data:=.seq i.toArray N}:=by rw[Heap.get?_update_self f g (by rw[c]<;>rfl),c]
 refine I.write (by rw[h];trivial) (.inl rfl) (λb u d q=>(Heap.get?_update_other _ _ (Ne.symm d)).trans q) ⟨_,e⟩ ?_;exact⟨j,_,_,r,e⟩
def w_:V->V->V->Hp->(Hp->Prop)->Prop:=λo i v H Q=>∃p xs k j,o=.ref p/\i=.int k/\H p=some (.lst xs)/\gx xs.length k=some j/\Q (aZ H p (.lst (xs.set j v)))
theorem El:qJ X w_:=by
 intro P s F H o i v O D u Q I x R y h;obtain⟨p,E,k,j,rfl,rfl,g,w,q⟩:=h;cases x;obtain⟨t,rfl⟩:=R;obtain⟨c,n,r,b,C⟩:=I.lst g;obtain⟨f,z,l,m⟩:=rj w;have A:=r.length;have B:=hJ
 have d:=
  I.lstUpd g b (Ek _ n j u) (r.set y j) (by simp_all) s.toks
 by_cases e:0<=k
 ·have a:k.toNat=j:=by
   rw[seqIndex_of e m]at f;simp_all
  exact PySem.W.ki_setAt b e (by omega) (by simp_all) (by rw[a];exact⟨_,d,q⟩)
 ·have a:(k+c.toArray.size).toNat=j:=by
   rw[seqIndex_neg (by omega) l]at f;simp_all
  exact PySem.W.ki_setBack b (by omega) (by simp_all) (by omega) (by rw[a];exact⟨_,d,q⟩)
theorem Em(l H:Option Int)(n:Nat):(sliceBounds l H none n).1=((HT.bE n 0 l:Nat):Int)/\(sliceBounds l H none n).2.1=((HT.bE n n H:Nat):Int)/\(sliceBounds l H none n).2.2=1:=by
 refine⟨?_,?_,rfl⟩
 ·cases l with
  |none=>simp[sliceBounds,HT.bE]
  |some i=>
   simp only[sliceBounds,HT.bE,Option.getD_none,show(1:Int)>0 by decide,if_true];by_cases h:i<0
   ·simp only[h,if_true]<;>omega
   ·simp only[h,ZR]<;>omega
 ·cases H with
  |none=>simp[sliceBounds,HT.bE]
  |some i=>
   simp only[sliceBounds,HT.bE,Option.getD_none,show(1:Int)>0 by decide,if_true];by_cases h:i<0
   ·simp only[h,if_true]<;>omega
   ·simp only[h,ZR]<;>omega
theorem Eo(its:Lv)(l h:Option Int):slicePick its.toArray l h none=((its.drop (HT.bE its.length 0 l)).take (HT.bE its.length its.length h-HT.bE its.length 0 l)).toArray:=by obtain⟨H,a,b⟩:=Em _ _ _;unfold slicePick;rw[H,a,b];simp only[sliceRange_one,pick_run]<;>rfl
def Ep(K:Fg):V->Option Int->Option Int->Hp->VK->Prop:=λx lo hi H Q=>∃a xs,x=.ref a/\cM K H a xs/\∀p,H p=none->Q (.ref p) (aZ H p (.lst (hU xs lo hi)))
theorem lF:Dg X (Ep X.K):=by intro k s t H x v V m l j sl Q I R e p P h;obtain⟨a,n,rfl,f,q⟩:=h;cases R;obtain⟨i,r,d,g⟩:=I.list f;have c:=r.length;refine⟨_,_,slot_list_getitem.lookup,d.isList.typeIs,?_⟩;refine wpAny_getItem_list_slice d.isList e p P .none (by simp) ?_ (by simp_all);rw[Eo,<-c];refine⟨.ref _,_,I.laid (λb o q=>Zb _ q) (Zf _) ?_,rfl,q _ (I.hok.fresh (Zf _))⟩;exact⟨ZC (wW _ _ _) g,_,0,(r.drop _).take _,Zh _ rfl⟩
theorem Er:ba X (.builtin "len") (λxs H Q=>∃p ys,xs=[.ref p]/\(cM X.K H p ys\/bX X.K H p ys)/\Q (.int ys.length) H):=by
 intro f s g H xs U Q I r h;obtain⟨p,ys,rfl,b,q⟩:=h;obtain⟨u,rfl,d⟩:=vals1 r;cases d;have e:=hJ;rcases b with b|b
 ·obtain⟨i,R,P,c⟩:=I.list b;have a:=R.length;exact Calls.call_len_list P.isList (by simp<;>omega) ⟨.int _,H,I.tok _,⟨s.toks+1,by simp_all⟩,q⟩
 ·obtain⟨i,R,P,c⟩:=I.tuple b;have a:=R.length;exact len_tuple P (by simp<;>omega) ⟨.int _,H,I.tok _,⟨s.toks+1,by simp_all⟩,q⟩
theorem Es:ba X (.builtin "len") (λxs H Q=>∃z,xs=[.str z]/\z.length<=sizeLine/\Q (.int z.length) H):=by intro p s c H xs U Q I r h;obtain⟨z,rfl,b,q⟩:=h;obtain⟨u,rfl,t,rfl⟩:=vals1 r;have a:=hJ;exact len_str (by omega) ⟨.int _,H,I.tok _,⟨_,rfl⟩,q⟩
theorem Et:ba X (.type "list") (λxs H Q=>∃p ys,xs=[.ref p]/\(cM X.K H p ys\/bX X.K H p ys)/\∀l,H l=none->Q (.ref l) (aZ H l (.lst ys))):=by
 intro v s w H xs U Q I r h;obtain⟨p,ys,rfl,d,q⟩:=h;obtain⟨u,rfl,t⟩:=vals1 r;cases t
 have fin:∀(i:List _),Vals _ i->ys.length<=sizeLine->∀(a:Heap) (C:Nat),(∀b O,s.heap.get? b=some _->a.get? b=some _)->
   a.get? _=some _->EP X _ _ Q _ _:=λi R f a C k e=>
  ⟨.ref _,_,I.laid (t':=s.toks) k (Zf _) (show a7 _ _ _ _ _ (.lst _)from⟨f,_,C,R,e⟩),rfl,q _ (I.hok.fresh (Zf _))⟩
 rcases d with d|d
 ·obtain⟨i,R,P,f⟩:=I.list d;have c:=R.length;obtain⟨o,m,g,n,j⟩:=P.isList;exact call_list_seq p (.inl rfl) m g j (λa C k e=>fin _ R f _ _ k e) (by simp_all)
 ·obtain⟨i,R,P,f⟩:=I.tuple d;have c:=R.length;obtain⟨o,m,g,n,j⟩:=P;exact call_list_seq p (.inr rfl) m g j (λa C k e=>fin _ R f _ _ k e) (by simp_all)
theorem xa:ba X (.type "tuple") (λxs H Q=>∃p ys,xs=[.ref p]/\((cM X.K H p ys/\∀l,H l=none->Q (.ref l) (aZ H l (.tup ys)))\/(bX X.K H p ys/\Q (.ref p) H))):=by
 intro n s v H xs U Q I r h;obtain⟨p,ys,rfl,h⟩:=h;obtain⟨u,rfl,j⟩:=vals1 r;cases j;rcases h with⟨a,q⟩| ⟨a,q⟩
 ·obtain⟨i,R,P,f⟩:=I.list a;have d:=R.length;refine call_tuple_list P.isList (λm k=>?_) (by simp_all);have c:=I.kept (t':=s.toks) k
  have g:=
   c.laid (t':=s.toks) (λb o e=>Zb _ e) (Zf _) (show a7 _ _ _ _ _ (.tup _)from⟨f,_,R,IsTup.new _ _,pL.new _ _⟩)
  exact⟨.ref _,_,g,rfl,q _ (c.hok.fresh (Zf _))⟩
 ·obtain⟨i,R,P,f⟩:=I.tuple a;exact call_tuple_same P ⟨.ref p,H,I,rfl,q⟩
def xb(K:Fg)(T:String)(x:V)(H:Hp):Prop:=match x with
 | .str _=>T="str"
 | .int _=>T="int"
 | .ref p=>(T="list"/\∃xs,cM K H p xs)\/(T="tuple"/\∃o,K.lookup p=some o/\o.cls=.type "tuple"/\o.dict=none)\/
   (T="dict"/\((∃k,H p=some (.dK k))\/∃k,H p=some (.dT k)))\/(T="set"/\∃S n,H p=some (.set S n))
 |_=>False
theorem jf{σ:St}{H:Hp}{T:String}{x:V}{v:Value}(I:Inv X pq σ H s)(r:RelV x v)(ty:xb X.K T x H):
  s.TypeIs v T/\∀a,v=.ref a->∃ob,s.heap.get? a=some ob/\ob.dict=none:=by
 cases x with
 |str z=>
  obtain⟨t,rfl⟩:=r;cases show T="str" from ty
  exact⟨typeIs_str s z t,λ_ e=>nomatch e⟩
 |int i=>
  obtain⟨t,rfl⟩:=r;cases show T="int" from ty
  exact⟨typeIs_int s i t,λ_ e=>nomatch e⟩
 |ref p=>
  cases r;rcases ty with⟨rfl,l,g⟩| ⟨rfl,o,h,f,d⟩| ⟨rfl,h⟩| ⟨rfl,S,n,h⟩
  ·obtain⟨j,_,P,_⟩:=I.list g;refine⟨P.isList.typeIs,λa e=>?_⟩;obtain⟨o,n,e,c,d,_⟩:=P;simp_all
  ·refine⟨⟨o,I.kIn p o h,f⟩,λa e=>?_⟩;cases e;exact⟨o,I.kIn _ o h,d⟩
  ·have z:∃o,s.heap.get? p=some o/\o.ExactDict:=by
    rcases h with⟨k,h⟩| ⟨k,h⟩
    ·obtain⟨_,_,_,_,o,_,_,e,E,_⟩:=I.hok p _ h;simp_all
    ·obtain⟨_,_,_,_,o,_,_,e,E,_⟩:=I.hok p _ h;simp_all
   obtain⟨o,e,E⟩:=z;refine⟨⟨o,e,E.1⟩,λa b=>?_⟩;cases b;exact⟨o,e,E.2.1⟩
  ·obtain⟨o,_,_,_,e,E,_⟩:=I.hok p _ h;refine⟨⟨o,e,E.1⟩,λa b=>?_⟩;cases b;exact⟨o,e,E.2.1⟩
 |_=>exact False.elim ty
noncomputable def Eu(K:Fg)(T:String)(r:V->List V->Hp->VK->Prop)(to:TE):TE:=λσ H Q=>to σ H λx H1=>xb K T x H1/\r x [] H1 Q
noncomputable def JX(K:Fg)(T:String)(r:V->List V->Hp->VK->Prop)(to:TE)(t:TA):TE:=λσ H Q=>to σ H λx H1=>xb K T x H1/\t σ H1 λxs H2=>r x xs H2 Q
variable {o:Expr}{to:TE}{t:TA}{T id:String}{r:V->List V->Hp->VK->Prop}
theorem rm(p:PlainAttrs T)(S:Slot T name id)(c:typeOf (.builtin id)=pure (.type "method_descriptor"))(g:je X id r)(i:PE X o to)
  (a:attributeBase o name X.env (eval o X.env)=eval o X.env:=by rfl) (b:(apos.endLine==cpos.line)=true:=by rfl):PE X (.Call (.Attribute o name apos) [] [] cpos) (Eu X.K T r to):=by
 intro P s k H Q I h;refine wpAny_Call_method0_late a b (aR (i _ s _ H _ I h) λv j ⟨x,_,d,R,ty,q⟩=>?_);obtain⟨e,f⟩:=jf d R ty;exact⟨T,_,p,S,c,e,f,Calls.callWith_builtin rfl (PySem.evalArgs_none (g _ _ _ _ x _ v _ Q d R .nil q))⟩
theorem pU(P:PlainAttrs T)(S:Slot T name id)(f:typeOf (.builtin id)=pure (.type "method_descriptor"))(n:je X id r)(p:PE X o to)(m:PA X (e::es) t)
  (a:attributeBase o name X.env (eval o X.env)=eval o X.env:=by rfl)
  (c:((backTo cpos (starEach (e::es) X.env)).all (λx=> !x.1)&&(backToKw cpos (keywordEach [] X.env)).all (λx=>x.1.isSome)
   &&decide ((e::es).length+([]:List Keyword).length+(if([]:List Keyword).isEmpty then 0 else 1)<30))=true:=by rfl)
  (b:(apos.endLine==cpos.line)=true:=by rfl) (hs:starEach (e::es) X.env=(false,eval e X.env)::starEach es X.env:=by rfl) (d:(backTo cpos (starEach es X.env)).any (·.1)=false:=by rfl):
  PE X (.Call (.Attribute o name apos) (e::es) [] cpos) (JX X.K T r to t):=by
 intro y s B H Q I h;refine wpAny_Call_method_late a c b rfl (aR (p _ s _ H _ I h) λv z ⟨x,_,g,R,ty,q⟩=>?_);obtain⟨k,l⟩:=jf g R ty;refine⟨T,_,P,S,f,k,l,?_⟩;have i:=m cpos _ _ _ _ _ g q;rw[hs]at i⊢;refine Calls.callWith_builtin (by grind) (Calls.evalArgs_plain ?_);exact aR i λU A ⟨_,_,j,w,u⟩=>n _ _ _ _ x _ v _ Q j R w u
end
def Ew(X:Cx)(id:String)(r:V->List V->Hp->VK->Prop):Prop:=
 ∀(pq:Lp) (s:Shared) (σ:St) (H:Hp) (x:V) (xs:List V) (v:Value) (us:Lv) (Q:VK),Inv X pq σ H s->RelV x v->Vals xs us->r x xs H Q->
  wpAny (model X.prog X.w) X.A (call (.builtin id) (v::us)) (EP X pq σ Q) X.xe s
theorem Vals.un{x:V}{xs:List V}(h:Vals (x::xs) us):∃u r,us=u::r/\RelV x u/\Vals xs r:=by
 cases h with
 |cons r t=>lia
theorem Vals.nul(h:Vals [] us):us=[]:=by cases h;rfl
theorem Vals.one{x:V}(h:Vals [x] us):∃u,us=[u]/\RelV x u:=by obtain⟨u,r,rfl,a,H⟩:=h.un;cases H.nul;lia
theorem Vals.two{x y:V}(h:Vals [x,y] us):∃u v,us=[u,v]/\RelV x u/\RelV y v:=by obtain⟨u,r,rfl,a,H⟩:=h.un;obtain⟨v,rfl,b⟩:=H.one;lia
theorem Vals.zero:∀{us:Lv},Vals [] us->us=[]
 |_,.nil=>rfl
theorem Vals.dropLast{xs:List V}(h:Vals xs us):Vals xs.dropLast us.dropLast:=by
 induction h with
 |nil=>exact .nil
 |cons r t i=>
  cases t with
  |nil=>exact .nil
  |cons q T=>exact .cons r i
theorem Vals.eraseIdx:∀{xs:List V} {us:Lv} (i:Nat),Vals xs us->Vals (xs.eraseIdx i) (us.eraseIdx i)
 |_,_,_,.nil=>.nil
 |_,_,0,.cons _ t=>t
 |_,_,i+1,.cons r t=>.cons r (Vals.eraseIdx i t)
theorem Vals.reverse{xs:List V}(h:Vals xs us):Vals xs.reverse us.reverse:=by
 induction h with
 |nil=>exact .nil
 |cons r t i=>rw[List.reverse_cons,List.reverse_cons];exact Vals.append i (.cons r .nil)
theorem Vals.rep{xs:List V}(h:Vals xs us):∀k:Nat,Vals (List.replicate k xs).flatten (List.replicate k us).flatten
 |0=>.nil
 |k+1=>by exact Vals.append h (Vals.rep h k)
theorem xf{a:Type}:∀(l:List a) (i:Nat),(l.eraseIdx i).length<=l.length
 | [],_=>Zf _
 |_::_,0=>Nat.le_succ _
 |_::r,i+1=>Nat.succ_le_succ (xf r i)
theorem xg(its:Lv):∀(k:Nat) (acc:Lv),
  List.foldl (λx1 x2=>x1++x2) acc.toArray (List.replicate k its.toArray)=(acc++(List.replicate k its).flatten).toArray
 |0,acc=>by simp
 |k+1,acc=>by
  have e:acc.toArray++its.toArray=(acc++its).toArray:=by simp
  have E:acc++its++(List.replicate k its).flatten=acc++(List.replicate (k+1) its).flatten:=by
   grind
  rw[<-E,<-xg _ k _,<-e,List.replicate_succ,List.foldl_cons]
section
variable {X:Cx}{σ:St}{H:Hp}{l b:Addr}{xs ys zs:List V}
theorem Inv.lset{its i:Lv}{n:Nat}{f:Av->Av}{t':Nat}(I:Inv X pq σ H s)(a:H l=some (.lst xs))
  (e:s.heap.get? l=some {cls:=.type "list",data:=.seq its.toArray n}) (c:f its.toArray=i.toArray) (g:Vals ys i) (j:ys.length<=sizeLine):
  Inv X pq σ (aZ H l (.lst ys)) {s with heap:=s.heap.update l (Obj.mapSeq f),toks:=t'}:=by
 have q:=PySem.IsL.update e f;rw[c]at q;refine I.write (by rw[a];exact trivial) (.inl rfl) (λB u b d=>(Heap.get?_update_other _ _ (Ne.symm b)).trans d) ⟨_,q⟩ ?_;exact⟨j,_,_,g,q⟩
theorem Inv.lnew{t':Nat}(I:Inv X pq σ H s)(a:Vals ys its)(b:ys.length<=sizeLine):
  Inv X pq σ (aZ H s.heap.objs.size (.lst ys)) {s with heap:=s.heap.push {cls:=.type "list",data:=.seq its.toArray},toks:=t'}:=
 I.laid (λ_ _ q=>Zb _ q) (Zf _) ⟨b,_,0,a,Zh _ rfl⟩
theorem Inv.fresh(I:Inv X pq σ H s):H s.heap.objs.size=none:=I.hok.fresh (Zf _)
theorem Inv.lstM(I:Inv X pq σ H s)(h:H l=some (.lst xs)):xs.length<=sizeLine/\∃(its:Lv) (n:Nat),Vals xs its/\xs.length=its.length/\s.heap.get? l=some {cls:=.type "list",data:=.seq its.toArray n}:=by obtain⟨z,its,n,r,e⟩:=I.hok l _ h;exact⟨z,_,n,r,r.length,e⟩
theorem Ex(h:n<=sizeLine):Builtin.List.listTooLong n=false:=by exact Zx (by omega)
end
section
variable {X:Cx}
def lG:V->List V->Hp->VK->Prop:=λx vs H Q=>∃l xs y,x=.ref l/\vs=[y]/\H l=some (.lst xs)/\xs.length<sizeLine/\Q .non (aZ H l (.lst (xs++[y])))
theorem xh:Ew X "list.append" lG:=by intro p s j H x vs v U Q I c b h;obtain⟨l,g,y,rfl,rfl,a,f,q⟩:=h;cases c;obtain⟨u,rfl,R⟩:=b.one;obtain⟨z,i,n,r,d,e⟩:=I.lstM a;refine call_meets F.slot_list_append ⟨_,e,rfl⟩ F.entry_list_append (F.args_list_append_2 _ _) (PySem.list_append l _ n u (by simp_all)) ⟨e,?_⟩;refine⟨.non,_,I.lset a e (by simp) (r.append (.cons R .nil)) ?_,rfl,q⟩;rw[Zo,List.length_singleton];omega
def Ey:V->List V->Hp->VK->Prop:=λx vs H Q=>∃l xs y,x=.ref l/\vs=[]/\H l=some (.lst xs)/\xs[xs.length-1]?=some y/\Q y (aZ H l (.lst xs.dropLast))
theorem rn:Ew X "list.pop" Ey:=by
 intro p s o H x vs v U Q I g f h;obtain⟨l,m,y,rfl,rfl,c,d,q⟩:=h;cases g;have a:=f.zero;subst a;obtain⟨z,i,n,r,j,e⟩:=I.lstM c;obtain⟨u,k,R⟩:=r.get d;have b:i.toArray[i.toArray.size-1]?=some u:=by simp_all
 refine call_meets F.slot_list_pop ⟨_,e,rfl⟩ F.entry_list_pop (F.args_list_pop_1 _) (MeetsSeq.list_pop_last l _ n u b (by simp_all)) ⟨e,?_⟩;refine⟨y,_,I.lset c e ?_ r.dropLast ?_,R,q⟩
 ·simp_all
 ·rw[List.length_dropLast];omega
def ro:V->List V->Hp->VK->Prop:=λx vs H Q=>∃l xs i k y,x=.ref l/\vs=[.int i]/\H l=some (.lst xs)/\ -(2^63)<=i/\i<2^63/\seqIndex? i xs.length=some k/\xs[k]?=some y/\Q y (aZ H l (.lst (xs.eraseIdx k)))
theorem Ez:Ew X "list.pop" ro:=by
 intro P s B H x vs v U Q I m j h;obtain⟨l,o,i,k,y,rfl,rfl,a,b,c,p,d,q⟩:=h;cases m;obtain⟨u,rfl,g⟩:=j.one;obtain⟨t,rfl⟩:=g;obtain⟨z,f,n,r,A,e⟩:=I.lstM a;obtain⟨w,hw,R⟩:=r.get d
 refine call_meets F.slot_list_pop ⟨_,e,rfl⟩ F.entry_list_pop (F.args_list_pop_2 _ _)
  (MeetsSeq.list_pop_at l _ n i t k w (fitsIndex_both b c) (by simp_all) (by simp_all) (by simp_all)) ⟨e,?_⟩
 refine⟨y,_,I.lset a e ?_ (r.eraseIdx k) ?_,R,q⟩
 ·simp_all
 ·have:=xf o k;omega
noncomputable def EA:R2:=λx y H Q=>∃l b xs zs,x=.ref l/\y=.ref b/\H l=some (.lst xs)/\H b=some (.lst zs)/\xs.length+zs.length<=sizeLine/\∀p,H p=none->Q (.ref p) (aZ H p (.lst (xs++zs)))
theorem lH:cm X (binaryOp .Add) EA:=by
 intro p s A H x y v u Q I j k h;obtain⟨l,b,t,w,rfl,rfl,f,d,o,q⟩:=h;cases j;cases k;obtain⟨z,a,n,r,m,e⟩:=I.lstM f;obtain⟨Z,i,N,R,g,E⟩:=I.lstM d;refine PySem.P.add_list e E ?_ (by simp_all);have c:a.toArray++i.toArray=(a++i).toArray:=by simp
 rw[c];exact⟨.ref _,_,I.lnew (r.append R) (by simp_all),rfl,q _ I.fresh⟩
noncomputable def EB:R2:=λx y H Q=>∃l k xs,x=.ref l/\y=.int k/\H l=some (.lst xs)/\ -(2^63)<=k/\k<2^63/\xs.length*k.toNat<=sizeLine/\
 ∀p,H p=none->Q (.ref p) (aZ H p (.lst (List.replicate k.toNat xs).flatten))
theorem lI(xs:List α)(k:Nat):(List.replicate k xs).flatten.length=k*xs.length:=by simp_all
theorem rx:cm X (binaryOp .Mult) EB:=by
 intro P s J H x y v u Q I R A h;obtain⟨l,k,G,rfl,rfl,p,j,o,w,q⟩:=h;cases R;obtain⟨t,rfl⟩:=A;obtain⟨z,i,n,r,D,e⟩:=I.lstM p;have f:i.toArray.size*k.toNat<=sizeLine:=by simp_all
 have c:¬i.toArray.size*k.toNat>(2^63-1)/8:=by
  have:(sizeLine)<=(2^63-1)/8:=by decide
  omega
 have d:¬(!Builtin.List.listFitsIndex k)=true:=by rw[fitsIndex_both j o];simp_all
 have b:¬Builtin.List.listTooLong (i.toArray.size*k.toNat)=true:=by rw[Ex f];simp_all
 have g:List.foldl (λB C=>B++C) #[] (List.replicate (if i.toArray.isEmpty=true then 0 else k.toNat) i.toArray)=(List.replicate k.toNat i).flatten.toArray:=by
  have f0:=λm=>by have:=xg i m [];rw[List.nil_append]at this;exact this
  cases i with
  |nil=>simp
  |cons a E=>simp_all
 refine wpAny_binaryOp_repeat_ref (by lia) ⟨_,e,rfl⟩ (λS=>typeIs_int _ k t) noFill_list_mul F.fills_int_mul F.slot_int_rmul repeat_list F.slot_int_index.lookup
  (call_meets F.slot_int_rmul (typeIs_int s k t) F.entry_int_rmul (F.args_int_rmul_2 _ _) (int___rmul___int_list k t l _ n)
   ⟨e,rfl,⟨_,e,rfl⟩,call_meets F.slot_list_mul ⟨_,e,rfl⟩ F.entry_list_mul (F.args_list_mul_2 _ _) (AutoListH.list___mul___list_int_3 l _ n k t d c b) ⟨e,?_⟩⟩)
 rw[g];exact⟨.ref _,_,I.lnew (r.rep _) (by rw[lI,Nat.mul_comm];exact w),rfl,q _ I.fresh⟩
end
set_option maxRecDepth 100000 in
section
variable {X:Cx}
end
end L2
namespace Att
open PySem PySem.W PySem.Calls PyProof.Rows
theorem EC{P:Params}:∀(ns:Li) (vs:Lv),WellAll P h vs (ns.map WData.int)->IntsAre vs ns:=by
 intro ns
 induction ns with
 |nil=>intro vs w;cases w;exact .nil
 |cons n ns i=>
  intro vs w;cases w with
  |cons a b=>cases a;exact .cons _ _ (i _ b)
theorem ED{l:OpenLaw}(o:l.most=some n){P:Params}{A:List WData}{v:Lv}
  (H:l.row.toRowW.claim.pre A=true) (g:WellAll P h v A):
  ∃a vs ns,v=[Value.ref a]/\A=[WData.list (ns.map WData.int)]/\h.get? a=some {cls:=.type "list",data:=.seq vs.toArray}/\IntsAre vs ns/\ns.length<=n:=by
 have f:=(pre_splitW H).1;have m:=(pre_splitW H).2;obtain⟨d,r,rfl,i,j⟩:=hasAllW_cons f;obtain rfl:=hasAllW_nil j;obtain⟨x,rfl,k⟩:=hasW_list i;obtain⟨ns,rfl⟩:=items_int k
 have c:ns.length<=n:=by
  have e:=by have e:=(holds_andW m).1;rw[o]at e;exact e
  have q:=condW_of e (w_not (w_lt w_lit (w_len_list (w_arg rfl))));simp_all
 cases g with
 |cons w W=>
  cases W;cases w with
  |list p b=>exact⟨_,_,_,rfl,rfl,p,EC _ _ b,c⟩
theorem EE(l:OpenLaw)(a:List WData):l.row.toRowW.claim.post a (.bool true) a=true:=
 postW_of
  (show WShape.has _ _ _=true by rfl)
  (show(WTm.eq _ _).value _ _=some _ from w_eq_bool (w_res rfl) w_lit) rfl
theorem EF{l:OpenLaw}{d:DefRec}
  (C:l.most=some n) (g:d.params.defaults=[])
  (call:∀(w:World) (S s:Shared) (mg m:Mg) (fa:Addr) (o:Obj) (pm cd doc:Value) (a:Addr) (vs:Lv) (ns:Li),
   Ground q loose [] XP w S mg m s.heap->YP w s.heap->
   s.heap.get? fa=some o->o.data=.func (docDef d.name d.params d.body d.scope pm cd doc)->s.heap.CodeRec cd d.name->mg d.name=some (.ref fa)->
   s.heap.get? a=some {cls:=.type "list",data:=.seq vs.toArray}->IntsAre vs ns->ns.length<=n->s.gens= #[]->
   codeAny (model l.prog w) callerA (.call (.ref fa) ⟨[.ref a],[]⟩) (λr s'=>r=.ok (.ret (.bool true))/\OldK s.heap s'.heap/\s'.os=s.os/\AllBare s'.gens) s):
  WalkO q loose XP YP l.row.toRowW d [] (λf vs=>PySem.call f vs):=by
 intro w S s mg m G Y fa o pm cd doc D kV E x e hD i y A v as c k I j z;obtain rfl:D=.none:=Dflts.none hD g;obtain rfl:kV=.none:=Dflts.noKw hD;obtain⟨a,vs,ns,rfl,rfl,b,h,H⟩:=ED C c j;refine enter_call (codeAny_mono (call w _ _ _ _ _ o _ _ _ a _ _ G Y E (fd_plain x) e i b h H y) λr s' F=>?_);obtain⟨rfl,p,t,u⟩:=F;exact⟨.inl ⟨_,_,_,rfl,λ_=>rfl,.bool _,EE l _,λ_=>⟨List.Pairwise.nil,λ_ B=>nomatch B⟩⟩,p,t,u⟩
section
variable {K:Frag}
end
end Att
namespace L2
theorem xi:∀{vs:Lv} {ns:Li},IntsAre vs ns->Vals (ns.map V.int) vs
 |_,_,.nil=>.nil
 |_,_,.cons n t h=>.cons ⟨t,rfl⟩ (xi h)
def lJ(H:Hp):Prop:=∀b,H b=none\/∃o xs,H b=some (.frz o (.lst xs))
theorem EG{P:Program}{w:World}{O:Mg}{CX:c_}{k:Nat}{C:Addr}{T:FuncData}{x:Str}{sp:Sp}{S:Shared}{vs:Lv}{ns:Li}
  (KX:K.In S.heap) (p:S.heap.Ns mainGlobals mg) (f:S.heap.Ns builtinsNs O) (I:∀x:Str,x≠"__name__"->O x=bootBuiltins x) (l:S.heap.NoLimit) (hg:S.gens= #[])
  (G:S.heap.get? a=some {cls:=.type "list",data:=.seq vs.toArray}) (W:IntsAre vs ns) (X:ns.length<=sizeLine) (hr:cC k callerA)
  (F:∀base:Heap,K.In base->base.Ns mainGlobals mg->cN P w K mg base CX k C T [x] sp) (g:∀(s:Shared) (u:Value),BindsTo s T ⟨[u],[]⟩ [(x,u)])
  (M:∀H:Hp,lJ H->cM K H a (ns.map V.int)->sp [.ref a] H (λv _=>v=.bl true) λ_ _ _=>False)
  (D:∀H e s',CX [] H S (λ_ _ _=>False) e s'->False):
  codeAny (model P w) callerA (.call (.ref C) ⟨[.ref a],[]⟩) (λr s'=>r=.ok (.ret (.bool true))/\OldK S.heap s'.heap/\s'.os=S.os/\AllBare s'.gens) S:=by
 have Y:=xi W;have L:=W.length
 have c:∀H:Hp,lJ H->cM K H a (ns.map V.int)->dO P w H S.heap->(∀b,H b≠none->b=a)->(H a≠none->K.lookup a=none)->
   codeAny (model P w) callerA (.call (.ref C) ⟨[.ref a],[]⟩) (λr s'=>r=.ok (.ret (.bool true))/\OldK S.heap s'.heap/\s'.os=S.os/\AllBare s'.gens) S:=by
  intro H U hS t hA hK;have B:∀{b:Addr} {o:Obj},S.heap.get? b=some o->H b=none->(fc S.heap H).get? b=some o:=λe n=>Dz e n
  have Q:∀{b:Addr} {o:Obj} {A:Array DictEntry} {E:Nat},S.heap.get? b=some o->o.data=.dict A E->H b=none:=λ{b o A E} e d=>by
   grind
  have N:∀{b:Addr} {m:Mg},S.heap.Ns b m->(fc S.heap H).Ns b m:=λ{b m} ⟨o,A,E,e,d,r⟩=>⟨o,A,E,B e (Q e d),d,r⟩
  have j:K.In (fc S.heap H):=λb o e=>B (KX b o e) (by
   grind)
  have hM:Mod K mg (fc S.heap H):=⟨j,N p,⟨O,N f,I⟩,let⟨mc,h1,h2⟩:=l;⟨mc,N h1,h2⟩⟩;have e0:jc P w K mg (fc S.heap H) callerA [] S H:=⟨rfl,hM,λb o e=>kZ e,Nat.le_of_eq (Dy _ _),trivial,λb f=>absurd (show b∈([]:La)from f) (by simp),t,.of_eq hg⟩;refine codeAny_mono ((F _ j (N p)).run callerA [] S H ⟨[.ref a],[]⟩ [.ref a] [.ref a] _ _ hr e0 (g S (.ref a)) (.cons rfl .nil) (M H U hS)) λr s' h=>?_;cases r with
  |error e=>exact(D H e s' h).elim
  |ok fl=>
   cases fl with
   |next=>exact False.elim h
   |brk=>exact False.elim h
   |cont=>exact False.elim h
   |ret u=>
    obtain⟨v,H',os,i,un,y,r',q⟩:=h;have q':v=.bl true:=q;subst q';obtain rfl:u=Value.bool true:=r';refine⟨rfl,OldK.of_keep λb o e=>?_,os,i⟩;cases q:H b with
    |none=>exact un.keep b o e q (by intro z;exact absurd (show b∈([]:La)from z) (by simp)) (by simp)
    |some u=>
     rcases U b with z| ⟨ob,xs,z⟩
     ·rw[q]at z;cases z
     ·have z2:=un.frzs b ob _ z;obtain⟨R,_⟩:=t b _ z;obtain⟨e2,_⟩:=y b _ z2;rw[e]at R;cases R;exact e2
 cases J:K.lookup a with
 |some o=>have e:=KX a o J;rw[G]at e;cases e;refine c (λ_=>none) (λ_=>.inl rfl) (.inr ⟨_,vs.toArray,_,J,rfl,rfl,rfl,by rw[Zs,L];exact X,by simpa using Y⟩) (λb u z=>by have Z:(none:Option HO)=some u:=z;cases Z) (λb z=>absurd rfl z) λz=>absurd rfl z
 |none=>
  refine c (λb=>if b=a then some _ else none) (λb=>?_) (.inl (.inr ⟨{cls:=.type "list",data:=.seq vs.toArray},if_pos rfl⟩)) (λb u z=>?_) (λb z=>?_) λ_=>J
  ·grind
  ·by_cases f:b=a
   ·have Z:=(if_pos f).symm.trans z;cases Z;subst f;exact⟨G,by rw[Zm];exact X,vs,_,Y,G⟩
   ·have Z:=(if_neg f).symm.trans z;cases Z
  simp_all
theorem lK{l:PySem.W.OpenLaw}{k:Nat}{d:DefRec}{K:Params->Fg}{CX:World->c_}{sp:World->Sp}{x:Str}
  (J:l.most=some n) (p:n<=sizeLine) (j:d.params.defaults=[]) (L:cC k callerA)
  (B:∀(w:World) (h:Heap),YP w h->(K w.params).In h)
  (F:∀(w:World) (mg:Mg) (fa:Addr) (h:Heap),(K w.params).In h->h.Ns mainGlobals mg->mg d.name=some (.ref fa)->
   ∃fd:FuncData,(∀(s:Shared) (u:Value),BindsTo s fd ⟨[u],[]⟩ [(x,u)])/\
    ∀base:Heap,(K w.params).In base->base.Ns mainGlobals mg->cN l.prog w (K w.params) mg base (CX w) k fa fd [x] (sp w))
  (r:∀(w:World) (H:Hp) (a:Addr) (ns:Li),ns.length<=n->lJ H->cM (K w.params) H a (ns.map V.int)->sp w [.ref a] H (λv _=>v=.bl true) λ_ _ _=>False)
  (i:∀(w:World) (H:Hp) (s:Shared) (e:Value) (s':Shared),CX w [] H s (λ_ _ _=>False) e s'->False):
  PySem.W.WalkO q loose XP YP l.row.toRowW d [] (λf vs=>PySem.call f vs):=by
 refine Att.EF J j λw S t mg P fa o Q M D a vs ns G Y O N E m g c b I=>?_;have KX:=B w _ Y;obtain⟨fd,C,y⟩:=F w _ _ _ KX G.T.g m;exact EG KX G.T.g G.T.b G.T.builtins G.T.nolimit I g c (ZC b p) L y C (λH z A=>r w H a _ b z A) λH e s'=>i w H _ e _
noncomputable def gA(s:Stmt):Arguments:=match s with
 | .FunctionDef _ a _ _ _ _ _ _ _ _=>a
 |_=>{posonlyargs:=[],args:=[],vararg:=none,kwonlyargs:=[],kw_defaults:=[],kwarg:=none,defaults:=[]}
noncomputable def bO(s:Stmt):List Stmt:=match s with
 | .FunctionDef _ _ b _ _ _ _ _ _ _=>b
 |_=>[]
noncomputable def bi(s:Stmt):Scope:=match s with
 | .FunctionDef _ _ _ _ _ _ sc _ _ _=>sc
 |_=>{kind:=.function,names:=[],isGenerator:=false,isCoroutine:=false}
abbrev EI:c_:=λ_ _ _ _ _ _=>False
abbrev E0:XK:=λ_ _ _=>False
structure lL (K:Fg)(x qual:Str)(st:Stmt)(f:Addr)(fd:FuncData):Prop where
 ex:∃(oc:Value) (od:Option Addr) (kV doc pm:Value) (an:Option Addr) (cdv ct:Value) (osl:Array (Ov)),
  fd=PySem.W.fnOf x qual (gA st) (bO st) (bi st) .none kV doc pm an cdv ct/\K.lookup f=some ⟨oc,od,.func fd,osl⟩/\PySem.W.codeIn K cdv qual=true
 kp:PySem.W.keepIn K (.ref f)=true
section
variable {P:Program}
theorem lL.binds{x:Str}{a:FuncData}{ps:Ls}(F:lL K x qual st f a)
  (h:∀(kV doc pm:Value) (an:Option Addr) (cdv ct:Value) (us:Lv),us.length=ps.length->bindArgs (PySem.W.fnOf x qual (gA st) (bO st) (bi st) .none kV doc pm an cdv ct) ⟨us,[]⟩=pure (ps.zip us)):Binds K a ps []:=by
 obtain⟨O,b,kV,doc,pm,an,cdv,ct,o,rfl,lk,H⟩:=F.ex;exact .all (h _ _ _ _ _ _)
theorem ry{x:Str}{an:Option Addr}{kV:Value}(l:K.lookup f=some ⟨oc,od,.func (PySem.W.fnOf x qual (gA st) (bO st) (bi st) .none kV doc pm an cdv ct),osl⟩)
  (c:PySem.W.codeIn K cdv qual=true) (k:PySem.W.keepIn K (.ref f)=true):lL K x qual st f (PySem.W.fnOf x qual (gA st) (bO st) (bi st) .none kV doc pm an cdv ct):=⟨⟨_,_,_,_,_,_,_,_,_,rfl,l,c⟩,k⟩
end
section
variable {X:Cx}
end
end L2
variable {H H' H1 H0 Hx:L2.Hp}{X:L2.Cx}{σ σ':L2.St}{v:L2.V}{ta te to:L2.TE}{tb:L2.St->L2.Hp->(L2.St->L2.Hp->Prop)->Prop}{tc:L2.TT}{g:L2.TG}{wi:L2.TI}{r:L2.V->List L2.V->L2.Hp->L2.VK->Prop}{CX:L2.c_}{sp:L2.Sp}{u':L2.HO}{B:La->L2.Hp->Prop}
namespace Py
theorem aE{C:Prop}{a b c d:Sort _}{p q r:a->b->c->d->Prop}(h:∃x y z w,p x y z w/\q x y z w/\r x y z w)(k:∀x y z w,p x y z w->q x y z w->r x y z w->C):C:=by
 grind
theorem rA{C:Prop}{a b c d e f g h i:Sort _}{p q r:a->b->c->d->e->f->g->h->i->Prop}(z:∃x1 x2 x3 x4 x5 x6 x7 x8 x9,p x1 x2 x3 x4 x5 x6 x7 x8 x9/\q x1 x2 x3 x4 x5 x6 x7 x8 x9/\r x1 x2 x3 x4 x5 x6 x7 x8 x9)(k:∀x1 x2 x3 x4 x5 x6 x7 x8 x9,p x1 x2 x3 x4 x5 x6 x7 x8 x9->q x1 x2 x3 x4 x5 x6 x7 x8 x9->r x1 x2 x3 x4 x5 x6 x7 x8 x9->C):C:=by
 grind
theorem ay{C:Prop}{a b c:Sort _}{p q r t:a->b->c->Prop}(h:∃x y z,p x y z/\q x y z/\r x y z/\t x y z)(k:∀x y z,p x y z->q x y z->r x y z->t x y z->C):C:=by
 grind
inductive D where
 |non|bl (b:Bool)|int (i:Int)|str (x:Str)
 |tup (xs:List D)|lst (xs:List D)|ref (n:Nat)|scr (xs:List D)
 |fn (x:Str)|dct|ty (n:String)|dks (ks:List (Li))
 deriving Inhabited
abbrev af:=List (List D)
set_option genInjectivity false in
structure GS where
 mg:Mg
 F:La
noncomputable def rB(K:Fg)(H:Hp)(a:Addr)(vs:List V):Prop:=(∃o,H a=some (.frz o (.lst vs)))\/
 ∃(o:Obj) (its:Av) (n:Nat),K.lookup a=some o/\o.cls=.type "list"/\o.dict=none/\o.data=.seq its n/\its.size<=sizeLine/\Vals vs its.toList
theorem rB.sq{vs:List V}(h:rB K H a vs):cM K H a vs:=by
 rcases h with⟨o,h⟩|h
 ·exact .inl (.inr ⟨o,h⟩)
 ·exact .inr h
noncomputable def hD(k:Li):Int:=reduceHash (Builtin.Tuple.tupleHashOf (k.map hashInt))
noncomputable def Ki(h:Heap)(a:Addr)(cs:List (Li×Addr)):Prop:=(a==sysModules)=false/\∃o es ep,h.get? a=some o/\o.ExactDict/\o.data=.dict es ep/\es.toList=cs.map λc=>⟨hD c.1,.ref c.2,.bool true⟩
section
variable (K:Fg)(mg:GS)(μ:La)(H:Hp)
mutual
def Rep:D->V->Prop
 | .non,v=>v=.non
 | .bl b,v=>v=.bl b
 | .int i,v=>v=.int i
 | .str x,v=>v=.str x
 | .tup ds,v=>∃a vs,v=.ref a/\bX K H a vs/\aj ds vs
 | .lst ds,v=>∃a vs,v=.ref a/\H a=some (.lst vs)/\(a∉μ/\a∉mg.F)/\aj ds vs
 | .scr ds,v=>∃a vs,v=.ref a/\rB K H a vs/\aj ds vs
 | .ref n,v=>∃a,v=.ref a/\μ[n]?=some a
 | .fn x,v=>∃a,v=.ref a/\mg.mg x=some (.ref a)
 | .dct,v=>∃a,v=.ref a/\H a=some (.dK [])
 | .ty n,v=>v=.ty n
 | .dks ks,v=>∃a cs,v=.ref a/\H a=some (.ext λh=>Ki h a cs)/\a∉mg.F/\(cs.map (·.1)=ks/\ks.Nodup)/\∀c∈cs,bX K H c.2 (c.1.map V.int)
def aj:List D->List V->Prop
 | [],vs=>vs=[]
 |d::ds,vs=>∃w W,vs=w::W/\Rep d w/\aj ds W
end
end
structure aM (K:Fg)(mg:GS)(μ:La)(S:af)(H:Hp):Prop where
 live:∀a∈mg.F,∃o,H a=some o
 len:μ.length=S.length
 nd:μ.Nodup
 at_:∀(n:Nat) (a:Addr) (ds:List D),μ[n]?=some a->S[n]?=some ds->∃vs,H a=some (.lst vs)/\aj K mg μ H ds vs
structure Ext (μ:La)(H:Hp)(μ':La)(H':Hp):Prop where
 pre:∃r,μ'=μ++r
 keep:∀a o,H a=some o->((∀xs,o≠.lst xs)\/a∉μ)->H' a=some o
 there:∀a o,H a=some o->∃o',H' a=some o'
 fresh:∀a∈μ',a∈μ\/H a=none
section
variable {mg:GS}{μ'':La}{H'':Hp}
theorem Ext.refl:Ext μ H μ H:=⟨⟨[],by simp⟩,λ_ _ h _=>h,λ_ o h=>⟨o,h⟩,λ_ h=>.inl h⟩
theorem Ext.trans(a:Ext μ H μ' H')(b:Ext μ' H' μ'' H''):Ext μ H μ'' H'':=by
 obtain⟨r,e⟩:=a.pre;obtain⟨R,E⟩:=b.pre;refine⟨⟨r++R,by simp_all⟩,λx o h c=>?_,λx o h=>?_,λx h=>?_⟩
 ·have d:=a.keep x o h c;refine b.keep x o d ?_;rcases c with c|c
  ·exact .inl c
  ·refine .inr λz=>?_;rcases a.fresh x z with z|z
   ·exact c z
   simp_all
 ·obtain⟨o1,d⟩:=a.there x o h;exact b.there x _ d
 ·rcases b.fresh x h with h|h
  ·exact a.fresh x h
  ·refine .inr ?_;cases e:H x with
   |none=>rfl
   |some o=>obtain⟨o1,d⟩:=a.there x o e;simp_all
theorem Ext.sqT{vs:List V}(x:Ext μ H μ' H')(h:bX K H a vs):bX K H' a vs:=by
 rcases h with(h| ⟨o,h⟩)|h
 ·exact .inl (.inl (x.keep _ _ h (.inl λ_ z=>by lia)))
 ·exact .inl (.inr ⟨o,x.keep _ _ h (.inl λ_ z=>by lia)⟩)
 ·exact .inr h
theorem Ext.frz{vs:List V}(x:Ext μ H μ' H')(h:rB K H a vs):rB K H' a vs:=by
 rcases h with⟨o,h⟩|h
 ·exact .inl ⟨o,x.keep _ _ h (.inl λ_ z=>by lia)⟩
 ·exact .inr h
theorem Ext.lst{vs:List V}(x:Ext μ H μ' H')(h:H a=some (.lst vs))(b:a∉μ):H' a=some (.lst vs)/\a∉μ':=by
 refine⟨x.keep _ _ h (.inr b),λz=>?_⟩;rcases x.fresh a z with z|z
 ·exact b z
 simp_all
theorem Ext.get(x:Ext μ H μ' H')(h:μ[n]?=some a):μ'[n]?=some a:=by
 obtain⟨r,rfl⟩:=x.pre
 grind
mutual
theorem Rep.mono(x:Ext μ H μ' H'):∀(d:D) (v:V),Rep K mg μ H d v->Rep K mg μ' H' d v
 | .non,_,h=>h
 | .bl _,_,h=>h
 | .int _,_,h=>h
 | .str _,_,h=>h
 | .tup _,v,h=>by obtain⟨a,vs,e,q,r⟩:=h;exact⟨a,_,e,x.sqT q,aj.mono x _ _ r⟩
 | .lst _,v,h=>by obtain⟨a,vs,e,q,n,r⟩:=h;exact⟨a,_,e,(x.lst q n.1).1,⟨(x.lst q n.1).2,n.2⟩,aj.mono x _ _ r⟩
 | .scr _,v,h=>by obtain⟨a,vs,e,q,r⟩:=h;exact⟨a,_,e,x.frz q,aj.mono x _ _ r⟩
 | .ref n,v,h=>by obtain⟨a,e,q⟩:=h;exact⟨a,e,x.get q⟩
 | .fn y,v,h=>h
 | .ty y,v,h=>h
 | .dct,v,h=>by obtain⟨a,e,q⟩:=h;exact⟨a,e,x.keep _ _ q (.inl λ_ z=>by lia)⟩
 | .dks _,v,h=>by obtain⟨a,C,e,q,n,r,k⟩:=h;exact⟨a,_,e,x.keep _ _ q (.inl λ_ z=>by lia),n,r,λc b=>x.sqT (k c b)⟩
theorem aj.mono(x:Ext μ H μ' H'):∀(ds:List D) (vs:List V),aj K mg μ H ds vs->aj K mg μ' H' ds vs
 | [],vs,h=>h
 |d::ds,vs,h=>by obtain⟨w,W,e,r,q⟩:=h;exact⟨w,_,e,Rep.mono x d w r,aj.mono x _ _ q⟩
end
theorem aj.length:∀{ds:List D} {vs:List V},aj K mg μ H ds vs->ds.length=vs.length
 | [],vs,h=>by subst h;rfl
 |d::ds,vs,h=>by obtain⟨w,W,rfl,r,q⟩:=h;simp[aj.length q]
theorem aj.get:∀{ds:List D} {vs:List V} {i:Nat} {d:D},aj K mg μ H ds vs->ds[i]?=some d->∃v,vs[i]?=some v/\Rep K mg μ H d v
 | [],vs,i,d,h,e=>by simp_all
 |c::ds,vs,i,d,h,e=>by
  obtain⟨w,W,rfl,r,q⟩:=h;cases i with
  |zero=>simp_all
  |succ i=>simpa using aj.get q (by simp_all)
theorem aj.of:∀{ds:List D} {vs:List V},ds.length=vs.length->(∀(i:Nat) d v,ds[i]?=some d->vs[i]?=some v->Rep K mg μ H d v)->aj K mg μ H ds vs
 | [],[],_,_=>rfl
 | [],_::_,h,_=>by simp_all
 |_::_,[],h,_=>by simp_all
 |d::ds,v::vs,h,k=>by exact⟨v,_,rfl,k 0 d v rfl rfl,aj.of (by simp_all) λi a e b c=>k (i+1) _ _ (by simp_all) (by simp_all)⟩
theorem aj.nil:aj K mg μ H [] []:=rfl
theorem aj.cons{d:D}{ds:List D}{vs:List V}(h:Rep K mg μ H d v)(t:aj K mg μ H ds vs):aj K mg μ H (d::ds) (v::vs):=by unfold aj;lia
theorem aj.uncons{d:D}{ds:List D}{vs:List V}(h:aj K mg μ H (d::ds) vs):∃v w,vs=v::w/\Rep K mg μ H d v/\aj K mg μ H ds w:=by exact h
theorem aj.append:∀{ds es:List D} {vs w:List V},aj K mg μ H ds vs->aj K mg μ H es w->aj K mg μ H (ds++es) (vs++w)
 | [],es,vs,w,h,k=>by subst h;exact k
 |d::ds,es,vs,w,h,k=>by obtain⟨v,u,rfl,r,q⟩:=h.uncons;exact .cons r (aj.append q k)
theorem aj.take:∀{ds:List D} {vs:List V} (n:Nat),aj K mg μ H ds vs->aj K mg μ H (ds.take n) (vs.take n)
 | [],vs,n,h=>by subst h;simpa using aj.nil
 |d::ds,vs,0,h=>rfl
 |d::ds,vs,n+1,h=>by obtain⟨v,u,rfl,r,q⟩:=h.uncons;exact .cons r (aj.take n q)
theorem aj.drop:∀{ds:List D} {vs:List V} (n:Nat),aj K mg μ H ds vs->aj K mg μ H (ds.drop n) (vs.drop n)
 | [],vs,n,h=>by subst h;simpa using aj.nil
 |d::ds,vs,0,h=>h
 |d::ds,vs,n+1,h=>by obtain⟨v,u,rfl,r,q⟩:=h.uncons;exact aj.drop n q
theorem aj.reverse:∀{ds:List D} {vs:List V},aj K mg μ H ds vs->aj K mg μ H ds.reverse vs.reverse
 | [],vs,h=>by subst h;rfl
 |d::ds,vs,h=>by obtain⟨v,u,rfl,r,q⟩:=h.uncons;rw[List.reverse_cons,List.reverse_cons];exact aj.append (aj.reverse q) (.cons r .nil)
theorem aj.set:∀{ds:List D} {vs:List V} (i:Nat) {d:D} {v:V},aj K mg μ H ds vs->Rep K mg μ H d v->aj K mg μ H (ds.set i d) (vs.set i v)
 | [],vs,i,_,_,h,_=>by subst h;rfl
 |d::ds,vs,0,_,_,h,k=>by obtain⟨v,u,rfl,r,q⟩:=h.uncons;exact .cons k q
 |d::ds,vs,i+1,_,_,h,k=>by obtain⟨v,u,rfl,r,q⟩:=h.uncons;exact .cons r (aj.set i q k)
theorem Ext.laid{p:Addr}{o:HO}(b:H p=none):Ext μ H μ (aZ H p o):=
 ⟨⟨[],by simp⟩,λa u h _=>by rw[aF (bN h b)];exact h,λa u h=>⟨u,by rw[aF (bN h b)];exact h⟩,λ_ h=>.inl h⟩
theorem aM.notin{S:af}{p:Addr}(s:aM K mg μ S H)(c:H p=none):p∉μ:=λz=>by
 obtain⟨n,b,e⟩:=ZK.mp z;have E:μ[n]?=some p:=by simp_all
 have a:S[n]?=some (S[n]'(by rw[<-s.len];exact b)):=Zj _;obtain⟨vs,h,_⟩:=s.at_ n p _ E a;simp_all
theorem aM.notF{S:af}{p:Addr}(s:aM K mg μ S H)(a:H p=none):p∉mg.F:=λz=>by obtain⟨o,h⟩:=s.live p z;simp_all
theorem aM.laid{S:af}{p:Addr}{o:HO}(s:aM K mg μ S H)(b:H p=none):aM K mg μ S (aZ H p o):=by refine⟨λa h=>(Ext.laid (μ:=μ) b).there a _ (s.live a h).choose_spec,s.len,s.nd,λn a D c d=>?_⟩;obtain⟨vs,h,r⟩:=s.at_ n a _ c d;exact⟨_,by rw[aF (bN h b)];exact h,aj.mono (Ext.laid b) _ _ r⟩
theorem Ext.boxed{p:Addr}{o:HO}(b:H p=none):Ext μ H (μ++[p]) (aZ H p o):=
 ⟨⟨_,rfl⟩,λa u h _=>by rw[aF (bN h b)];exact h,λa u h=>⟨u,by rw[aF (bN h b)];exact h⟩,λa h=>by
  grind⟩
theorem aM.boxed{S:af}{p:Addr}{ds:List D}{vs:List V}(s:aM K mg μ S H)(c:H p=none)(r:aj K mg μ H ds vs):
  aM K mg (μ++[p]) (S++[ds]) (aZ H p (.lst vs)):=by
 have N:=s.notin c;refine⟨λa h=>(Ext.laid (μ:=μ) c).there a _ (s.live a h).choose_spec,by simp[s.len],?_,λn a i d e=>?_⟩
 ·rw[Z3]
  exact⟨s.nd,by simp,λa j b k=>by
   grind⟩
 ·by_cases f:n<μ.length
  ·rw[Zw f]at d;rw[Zw (by rw[<-s.len];exact f)]at e;obtain⟨w,h,q⟩:=s.at_ n a _ d e;exact⟨_,by rw[aF (bN h c)];exact h,aj.mono (Ext.boxed c) _ _ q⟩
  ·have g:=s.len
   have E:n=μ.length:=by
    grind
   subst E;simp[g]at d e;subst d;subst e;exact⟨_,bM,aj.mono (Ext.boxed c) _ _ r⟩
theorem Ext.wrote{xs:List V}{y:List V}(d:a∈μ)(h:H a=some (.lst xs)):Ext μ H μ (aZ H a (.lst y)):=by
 refine⟨⟨[],by simp⟩,λb o e c=>?_,λb o e=>?_,λ_ h=>.inl h⟩
 ·have:b≠a:=by
   grind
  rw[aF this];exact e
 ·by_cases z:b=a
  ·subst z;exact⟨_,bM⟩
  ·exact⟨o,by rw[aF z];exact e⟩
theorem aM.wrote{S:af}{ds:List D}{xs vs:List V}(s:aM K mg μ S H)(hn:μ[n]?=some a)(h:H a=some (.lst xs))(r:aj K mg μ H ds vs):
  aM K mg μ (S.set n ds) (aZ H a (.lst vs)):=by
 have ha:=Zu hn;have hl:=s.len;have hnl:n<S.length:=by have:=(Zg.mp hn).1;omega
 refine⟨λb hb=>(Ext.wrote ha h).there b _ (s.live b hb).choose_spec,by simp_all,s.nd,λm b es h1 h2=>?_⟩;by_cases e:m=n
 ·subst e;rw[hn]at h1;cases h1;rw[ZZ hnl]at h2;cases h2;exact⟨_,bM,aj.mono (Ext.wrote ha h) _ _ r⟩
 ·rw[List.getElem?_set_ne (Ne.symm e)]at h2;obtain⟨ws,q,r'⟩:=s.at_ m b _ h1 h2;have:b≠a:=by rintro rfl;exact e (L2_nodup s.nd h1 hn)
  exact⟨_,by rw[aF this];exact q,aj.mono (Ext.wrote ha h) _ _ r'⟩
where
 L2_nodup {l:List _} (nd:l.Nodup) {i j:Nat} {x:Addr} (a:l[i]?=some x) (b:l[j]?=some x):i=j:=by obtain⟨h1,e1⟩:=Zg.mp a;obtain⟨h2,e2⟩:=Zg.mp b;exact(List.getElem_inj nd).mp (e1.trans e2.symm)
end
end Py
variable {xs ys ds:List Py.D}{T S S1 S' S2:Py.af}{d:Py.D}{Γ:Str->Option Py.D}{O:Addr->List Py.D->List L2.V->L2.HO->Prop}
namespace Py
open PySem.Sem (wp)
open PySem.Builtin
end Py
namespace Py
set_option genInjectivity false in
structure Exc where
 cls:Str
 fs:List D
inductive Res (α:Type) where
 |ok (a:α) (S:af)
 |err (x:Exc) (S:af)
 |fail
abbrev bx:Nat:=16777216
theorem jg:sizeLine=bx:=sizeLine_eq
noncomputable def aV(K:Fg)(m:GS)(μ:La)(H:Hp)(Q:VK):Res D->Prop
 | .ok d S'=>∀μ' H' v,Ext μ H μ' H'->aM K m μ' S' H'->Rep K m μ' H' d v->Q v H'
 |_=>False
section
variable {mg:GS}{Q:VK}
theorem aV.now(w:aV K mg μ H Q (.ok d S))(s:aM K mg μ S H)(r:Rep K mg μ H d v):Q v H:=w _ H v .refl s r
theorem aV.tup{vs:List V}(w:aV K mg μ H Q (.ok (.tup ds) S))(s:aM K mg μ S H)(r:aj K mg μ H ds vs)(p:Addr)(h:H p=none):Q (.ref p) (aZ H p (.tup vs)):=
 w _ _ _ (.laid h) (s.laid h) (by exact⟨p,_,rfl,bX.of bM,aj.mono (.laid h) _ _ r⟩)
theorem aV.lst{vs:List V}(w:aV K mg μ H Q (.ok (.lst ds) S))(s:aM K mg μ S H)(r:aj K mg μ H ds vs)(p:Addr)(h:H p=none):Q (.ref p) (aZ H p (.lst vs)):=
 w _ _ _ (.laid h) (s.laid h) (by exact⟨p,_,rfl,bM,⟨s.notin h,s.notF h⟩,aj.mono (.laid h) _ _ r⟩)
theorem aV.box{vs:List V}(w:aV K mg μ H Q (.ok (.ref S.length) (S++[ds])))(s:aM K mg μ S H)(r:aj K mg μ H ds vs)(p:Addr)(h:H p=none):Q (.ref p) (aZ H p (.lst vs)):=
 w _ _ _ (.boxed h) (s.boxed h r) (by exact⟨p,rfl,by rw[Zy (by rw[s.len];simp_all),s.len];simp⟩)
theorem aV.wrote{xs vs:List V}(w:aV K mg μ H Q (.ok d (S.set n ds)))(s:aM K mg μ S H)(b:μ[n]?=some a)(h:H a=some (.lst xs))(r:aj K mg μ H ds vs)
  (R:Rep K mg μ H d v):Q v (aZ H a (.lst vs)):=
 w _ _ _ (.wrote (Zu b) h) (s.wrote b h r) (Rep.mono (.wrote (Zu b) h) _ _ R)
noncomputable def cU(S:af):D->Option (List D)
 | .lst xs=>some xs
 | .ref n=>S[n]?
 |_=>none
noncomputable def az(S:af):D->Option (List D)
 | .lst xs=>some xs
 | .ref n=>S[n]?
 | .tup xs=>some xs
 | .scr xs=>some xs
 |_=>none
theorem da(s:aM K mg μ S H)(r:Rep K mg μ H d v)(e:cU S d=some xs):∃a vs,v=.ref a/\H a=some (.lst vs)/\aj K mg μ H xs vs:=by
 cases d with
 |lst y=>
  cases e;unfold Rep at r
  grind
 |ref n=>obtain⟨a,E,h⟩:=r;obtain⟨vs,b,q⟩:=s.at_ n a _ h e;simp_all
 |_=>cases e
theorem fh(s:aM K mg μ S H)(r:Rep K mg μ H d v)(e:az S d=some xs):∃a vs,v=.ref a/\(cM K H a vs\/bX K H a vs)/\aj K mg μ H xs vs:=by
 cases d with
 |lst y=>obtain⟨a,vs,E,h,q⟩:=da s r (show cU S (.lst y)=some xs from e);exact⟨a,vs,E,.inl (.of h),q⟩
 |ref n=>obtain⟨a,vs,E,h,q⟩:=da s r (show cU S (.ref n)=some xs from e);exact⟨a,vs,E,.inl (.of h),q⟩
 |tup y=>unfold az at e;cases e;unfold Rep at r;obtain⟨a,vs,e,h,q⟩:=r;exact⟨a,vs,e,.inr h,q⟩
 |scr y=>unfold az at e;cases e;unfold Rep at r;obtain⟨a,vs,e,h,q⟩:=r;exact⟨a,vs,e,.inl h.sq,q⟩
 |_=>cases e
theorem aI{i:Int}(r:Rep K mg μ H (.int i) v):v=.int i:=by exact r
theorem fE{i:Bool}(r:Rep K mg μ H (.bl i) v):v=.bl i:=by exact r
theorem fi{i:Str}(r:Rep K mg μ H (.str i) v):v=.str i:=by exact r
theorem gB(r:Rep K mg μ H .non v):v=.non:=by exact r
theorem bP(r:Rep K mg μ H (.tup ds) v):∃a vs,v=.ref a/\bX K H a vs/\aj K mg μ H ds vs:=by exact r
theorem bQ{i:Int}:Rep K mg μ H (.int i) (.int i):=rfl
theorem cD{i:Bool}:Rep K mg μ H (.bl i) (.bl i):=rfl
theorem fj{i:Str}:Rep K mg μ H (.str i) (.str i):=rfl
theorem lM:Rep K mg μ H .non .non:=rfl
end
noncomputable def rD(K:Fg)(m:Mg)(g:D->D->af->Res D):R2:=λx y H Q=>∃F μ S d e,aM K ⟨m,F⟩ μ S H/\Rep K ⟨m,F⟩ μ H d x/\Rep K ⟨m,F⟩ μ H e y/\aV K ⟨m,F⟩ μ H Q (g d e S)
noncomputable def fF(d e:D)(S:af):Res D:=match d,e with
 | .int i,.int j=>.ok (.int (i+j)) S
 | .str x,.str y=>if x.length+y.length<=bx then .ok (.str (x++y)) S else .fail
 | .tup a,.tup b=>if a.length+b.length<=bx then .ok (.tup (a++b)) S else .fail
 |d,e=>match cU S d,cU S e with
  |some a,some b=>if a.length+b.length<=bx then .ok (.lst (a++b)) S else .fail
  |_,_=>.fail
noncomputable def jh(d e:D)(S:af):Res D:=match d,e with
 | .int i,.int j=>.ok (.int (i-j)) S
 |_,_=>.fail
noncomputable def lN(d e:D)(S:af):Res D:=match d,e with
 | .int i,.int j=>if(-(2^64)<i/\i<2^64)\/(-(2^64)<j/\j<2^64)then .ok (.int (i*j)) S else if Builtin.Int.intBits i<=100000/\Builtin.Int.intBits j<=100000 then .ok (.int (i*j)) S else .fail
 | .lst a,.int k=>if-(2^63)<=k/\k<2^63/\a.length*k.toNat<=bx then .ok (.lst (List.replicate k.toNat a).flatten) S else .fail
 |_,_=>.fail
theorem EJ:cm X (binaryOp .FloorDiv) (rI (λ_ j=>0<j/\j<2^100) λi j=>.int (i/j)):=qP λi j _ _ _ _ _ H q=>by
 refine floordiv_int (by omega) (by rw[Int.fdiv_eq_ediv_of_nonneg i (by omega)];exact q) (.inl (PyProof.noPylong_of_log2 ?_));have h:j.natAbs<2^100:=by omega
 exact Nat.lt_trans ((Nat.log2_lt (by omega)).mpr h) (by lia)
noncomputable def fG(d e:D)(S:af):Res D:=match d,e with
 | .int i,.int j=>if 0<j/\j<1073741824 then .ok (.int (i/j)) S else if 0<j/\j<2^100 then .ok (.int (i/j)) S else .fail
 |_,_=>.fail
noncomputable def hV(d e:D)(S:af):Res D:=match d,e with
 | .int i,.int j=>if 0<j then .ok (.int (i%j)) S else .fail
 |_,_=>.fail
noncomputable def lO(d e:D)(S:af):Res D:=match d,e with
 | .int i,.int j=>if 0<=j/\j<=1000000/\i.natAbs<2^64 then .ok (.int (i^j.toNat)) S else .fail
 |_,_=>.fail
noncomputable def rE(d e:D)(S:af):Res D:=match d,e with
 | .int i,.int j=>if 0<=j then .ok (.int (i/2^j.toNat)) S else .fail
 |_,_=>.fail
noncomputable def rF(d e:D)(S:af):Res D:=match d,e with
 | .int i,.int j=>.ok (.int (Builtin.bitAnd i j)) S
 |_,_=>.fail
noncomputable def EK(d e:D)(S:af):Res D:=match d,e with
 | .int i,.int j=>.ok (.int (Builtin.bitOr i j)) S
 |_,_=>.fail
noncomputable def dz:Operator->D->D->af->Res D
 | .Add=>fF| .Sub=>jh| .Mult=>lN| .FloorDiv=>fG| .Mod=>hV| .Pow=>lO| .RShift=>rE| .LShift=>λ_ _ _=>.fail | .BitAnd=>rF| .BitOr=>EK
 |_=>λ_ _ _=>.fail
theorem EL{t b:Addr}{W:Lv}(k:IsTup s.heap t #[])(g:IsTup s.heap b W.toArray)
  (h1:Q (.ref b) s):wpAny (model prog w) A (binaryOp .Add (.ref t) (.ref b)) Q E s:=by
 obtain⟨⟨cls,l,D,sl⟩,e,i,n,j⟩:=id k;obtain⟨⟨c,f,d,S⟩,h,H,N,a⟩:=id g;subst i j H a
 exact concat_meets ⟨_,e,rfl⟩ ⟨_,h,rfl⟩ noFill_tuple_add seq_tuple_add PySem.F.slot_tuple_add PySem.F.entry_tuple_add (PySem.F.args_tuple_add_2 _ _)
   (tuple_addW0 t b _ _ n _ _ _ _ _ rfl) ⟨e,h,h1⟩
theorem EM:cm X (binaryOp .Add) (λx y H Q=>∃a b ys,x=.ref a/\y=.ref b/\bX X.K H a []/\bX X.K H b ys/\Q (.ref b) H):=by intro j s l H x y v u Q I R g h;obtain⟨a,b,ys,rfl,rfl,c,d,q⟩:=h;cases R;cases g;obtain⟨f,r,p,_⟩:=I.tuple c;obtain⟨i,k,P,_⟩:=I.tuple d;have e:=r.zero;subst e;exact EL p P ⟨.ref b,H,I,rfl,q⟩
theorem lP:cm X (binaryOp .Mult) (rI (λi j=>Builtin.Int.intBits i<=100000/\Builtin.Int.intBits j<=100000) λi j=>.int (i*j)):=qP λ_ _ _ _ _ _ _ h q=>PyProof.Rows.mul_int q (PySem.IntMulOk.of_le h.1 h.2 (by lia))
theorem EN(O:Operator):cm X (binaryOp O) (rD X.K X.mg (dz O)):=by
 intro P s g H x y v u Q I r R h;obtain⟨F,n,S,d,e,c,i,j,w⟩:=h;have D:=jg;cases O with
 |Add=>
  replace w:aV X.K ⟨X.mg,F⟩ n H Q (fF d e S):=w;unfold fF at w;split at w
  ·have:=aI i;have:=aI j;subst x y
   exact qS P s g H _ _ v u Q I r R ⟨_,_,rfl,rfl,w.now c bQ⟩
  ·have:=fi i;have:=fi j;subst x y
   split at w
   ·exact D8 P s g H _ _ v u Q I r R ⟨_,_,rfl,rfl,by omega,w.now c fj⟩
   ·exact w.elim
  ·split at w
   ·obtain⟨a,vs,rfl,o,q⟩:=bP i;obtain⟨b,W,rfl,l,z⟩:=bP j;have L:=q.length;have A:=z.length;cases vs with
    |nil=>refine EM P s g H _ _ v u Q I r R ⟨a,b,W,rfl,rfl,o,l,?_⟩;rename_i as bs _;have:as=[]:=ZI (by simpa using L);subst this;exact w.now c j
    |cons v0 vs=>
     refine lE P s g H _ _ v u Q I r R ⟨a,b,v0::vs,W,rfl,rfl,o,l,by simp,by omega,?_,?_⟩
     ·intro hw;subst hw;rename_i as bs _;have:bs=[]:=ZI (by simpa using A);subst this;rw[List.append_nil]at w;exact w.now c i
     ·intro _ p t;exact w.tup c (q.append z) p t
   ·exact w.elim
  ·split at w
   ·rename_i as bs E B;split at w
    ·obtain⟨a,vs,rfl,o,q⟩:=da c i E;obtain⟨b,W,rfl,l,z⟩:=da c j B;have L:=q.length;have A:=z.length;exact lH P s g H _ _ v u Q I r R ⟨a,b,vs,W,rfl,rfl,o,l,by omega,λp t=>w.lst c (q.append z) p t⟩
    ·exact w.elim
   ·exact w.elim
 |Sub=>
  replace w:aV X.K ⟨X.mg,F⟩ n H Q (jh d e S):=w;unfold jh at w;split at w
  ·have:=aI i;have:=aI j;subst x y
   exact qT P s g H _ _ v u Q I r R ⟨_,_,rfl,rfl,w.now c bQ⟩
  ·exact w.elim
 |Mult=>
  replace w:aV X.K ⟨X.mg,F⟩ n H Q (lN d e S):=w;unfold lN at w;split at w
  ·have:=aI i;have:=aI j;subst x y
   split at w
   ·rename_i f;exact qU P s g H _ _ v u Q I r R ⟨_,_,rfl,rfl,f,w.now c bQ⟩
   ·split at w
    ·rename_i f;exact lP P s g H _ _ v u Q I r R ⟨_,_,rfl,rfl,f,w.now c bQ⟩
    ·exact w.elim
  ·split at w
   ·rename_i as k f;obtain⟨a,vs,rfl,o,q⟩:=da c i rfl;have:=aI j;subst y;have L:=q.length;refine rx P s g H _ _ v u Q I r R ⟨a,k,vs,rfl,rfl,o,f.1,f.2.1,by rw[<-L];omega,λp t=>w.lst c ?_ p t⟩;generalize k.toNat=m;clear f w
    induction m with
    |zero=>simpa using aj.nil
    |succ m C=>rw[List.replicate_succ,List.replicate_succ,List.flatten_cons,List.flatten_cons];exact q.append C
   ·exact w.elim
  ·exact w.elim
 |FloorDiv=>
  replace w:aV X.K ⟨X.mg,F⟩ n H Q (fG d e S):=w;unfold fG at w;split at w
  ·have:=aI i;have:=aI j;subst x y
   split at w
   ·rename_i f;exact lp P s g H _ _ v u Q I r R ⟨_,_,rfl,rfl,f,w.now c bQ⟩
   ·split at w
    ·rename_i f;exact EJ P s g H _ _ v u Q I r R ⟨_,_,rfl,rfl,f,w.now c bQ⟩
    ·exact w.elim
  ·exact w.elim
 |Mod=>
  replace w:aV X.K ⟨X.mg,F⟩ n H Q (hV d e S):=w;unfold hV at w;split at w
  ·have:=aI i;have:=aI j;subst x y
   split at w
   ·rename_i f;exact qV P s g H _ _ v u Q I r R ⟨_,_,rfl,rfl,f,w.now c bQ⟩
   ·exact w.elim
  ·exact w.elim
 |Pow=>
  replace w:aV X.K ⟨X.mg,F⟩ n H Q (lO d e S):=w;unfold lO at w;split at w
  ·have:=aI i;have:=aI j;subst x y
   split at w
   ·rename_i f;exact qW P s g H _ _ v u Q I r R ⟨_,_,rfl,rfl,f,w.now c bQ⟩
   ·exact w.elim
  ·exact w.elim
 |RShift=>
  replace w:aV X.K ⟨X.mg,F⟩ n H Q (rE d e S):=w;unfold rE at w;split at w
  ·have:=aI i;have:=aI j;subst x y
   split at w
   ·rename_i f;exact qX P s g H _ _ v u Q I r R ⟨_,_,rfl,rfl,f,w.now c bQ⟩
   ·exact w.elim
  ·exact w.elim
 |LShift=>exact w.elim
 |BitAnd=>
  replace w:aV X.K ⟨X.mg,F⟩ n H Q (rF d e S):=w;unfold rF at w;split at w
  ·have:=aI i;have:=aI j;subst x y
   exact qY P s g H _ _ v u Q I r R ⟨_,_,rfl,rfl,w.now c bQ⟩
  ·exact w.elim
 |BitOr=>
  replace w:aV X.K ⟨X.mg,F⟩ n H Q (EK d e S):=w;unfold EK at w;split at w
  ·have:=aI i;have:=aI j;subst x y
   exact wB P s g H _ _ v u Q I r R ⟨_,_,rfl,rfl,w.now c bQ⟩
  ·exact w.elim
 |_=>exact w.elim
noncomputable def fH(d e:D)(S:af):Res D:=match cU S d,cU S e with
 |some a,some b=>if a.length+b.length<=bx then .ok (.ref S.length) (S++[a++b])else .fail
 |_,_=>.fail
theorem xj:cm X (binaryOp .Add) (rD X.K X.mg fH):=by
 intro P s z H x y v u Q I l m h;obtain⟨F,t,S,d,e,f,r,R,w⟩:=h;have n:=jg;unfold fH at w;split at w
 ·rename_i as bs E i;split at w
  ·obtain⟨a,vs,rfl,j,q⟩:=da f r E;obtain⟨b,W,rfl,c,g⟩:=da f R i;have L:=q.length;have o:=g.length;exact lH _ s _ H _ _ v u Q I l m ⟨a,b,_,_,rfl,rfl,j,c,by omega,λp k=>w.box f (q.append g) p k⟩
  ·exact w.elim
 ·exact w.elim
end Py
variable {l:List (Str×(List Py.D->Py.af->Py.Res Py.D))}{φ:List Py.D->Py.af->Py.Res Py.D}
namespace Py
set_option genInjectivity false in
inductive Sh where
 |non|bl (b:Bool)|int (i:Int)|str (x:Str)|tup (xs:List D)|lst (xs:List D)
noncomputable def sh(S:af):D->Option Sh
 | .non=>some .non
 | .bl b=>some (.bl b)
 | .int i=>some (.int i)
 | .str x=>some (.str x)
 | .tup xs=>some (.tup xs)
 | .lst xs=>some (.lst xs)
 | .ref n=>(S[n]?).map .lst
 |_=>none
noncomputable def a_:List (Option Bool)->Option Bool
 | []=>some true
 |o::r=>match o,a_ r with
  |some b,some c=>some (b&&c)
  |_,_=>none
noncomputable def rG(f:D->D->Option Bool):Sh->Sh->Option Bool
 | .non,.non=>some true
 | .bl a,.bl b=>some (a==b)
 | .int a,.int b=>some (a==b)
 | .str a,.str b=>some (a==b)
 | .bl a,.int b=>some ((if a then 1 else 0)==b)
 | .int a,.bl b=>some (a==(if b then 1 else 0))
 | .tup a,.tup b=>(a_ (List.zipWith f a b)).map (· &&a.length==b.length)
 | .lst a,.lst b=>if a.length=b.length then a_ (List.zipWith f a b)else some false
 |_,_=>some false
noncomputable def b7(S:af):Nat->D->D->Option Bool
 |0,_,_=>none
 |n+1,d,e=>match sh S d,sh S e with
  |some x,some y=>rG (b7 S n) x y
  |_,_=>none
noncomputable def eJ(l:List (Option Bool))(j:Nat):Bool:=match l[j]? with
 |some (some b)=>b
 |_=>true
theorem lQ:∀(l:List (Option Bool)) (k:Bool),a_ l=some k->(∀(j:Nat) o,l[j]?=some o->o=some (eJ l j))/\k=(List.range l.length).all (eJ l)
 | [],k,h=>by unfold a_ at h;simp_all
 |o::r,k,h=>by
  unfold a_ at h;split at h
  ·rename_i b c a;cases h;obtain⟨H,d⟩:=lQ r c a;refine⟨λj o e=>?_,?_⟩
   ·cases j with
    |zero=>simp at e;subst e;simp[eJ]
    |succ j=>
     have E:=by simpa using e
     rw[H j o E];simp[eJ]
   ·rw[ZG,List.range_succ_eq_map,List.all_cons,List.all_map,d];rfl
  ·cases h
section
noncomputable def rH(K:Fg)(m:GS)(μ:La)(H:Hp)(s:Shared)(u:Value):Sh->Prop
 | .non=>u=.none
 | .bl b=>u=.bool b
 | .int i=>∃t,u=.int i t
 | .str x=>∃t,u=.str x t
 | .tup ds=>∃a its vs,u=.ref a/\s.heap.IsTuple a its.toArray/\Vals vs its/\aj K m μ H ds vs
 | .lst ds=>∃a its vs,u=.ref a/\s.heap.IsList a its.toArray/\Vals vs its/\aj K m μ H ds vs
theorem lR(I:Inv X pq σ H s)(c:aM X.K ⟨X.mg,F⟩ μ S H){x:Sh}(r:Rep X.K ⟨X.mg,F⟩ μ H d v)(q:RelV v u)(e:sh S d=some x):rH X.K ⟨X.mg,F⟩ μ H s u x:=by
 cases d with
 |non=>cases e;cases gB r;exact q
 |bl b=>cases e;cases fE r;exact q
 |int b=>cases e;cases aI r;exact q
 |str b=>cases e;cases fi r;exact q
 |tup f=>cases e;obtain⟨a,vs,rfl,h,k⟩:=bP r;cases q;obtain⟨i,R,p,_⟩:=I.tuple h;exact⟨a,_,_,rfl,p,R,k⟩
 |lst f=>cases e;obtain⟨a,vs,rfl,h,k⟩:=da c r rfl;cases q;obtain⟨i,R,p,_⟩:=I.list (.of h);exact⟨a,_,_,rfl,p.isList,R,k⟩
 |ref n=>
  replace e:S[n]?.map _=some x:=e;cases E:S[n]? with
  |none=>simp_all
  |some f=>rw[E]at e;cases e;obtain⟨a,vs,rfl,h,k⟩:=da c r E;cases q;obtain⟨i,R,p,_⟩:=I.list (.of h);exact⟨a,_,_,rfl,p.isList,R,k⟩
 |_=>cases e
def ji(A:Around)(s:Shared)(f:D->D->Option Bool)(K:Fg)(m:GS)(μ:La)(H:Hp):Prop:=
 ∀d e v w u z k,Rep K m μ H d v->RelV v u->Rep K m μ H e w->RelV w z->f d e=some k->SeqAt.EqAt A s u z k
theorem xk{f:D->D->Option Bool}{m:GS}(F:ji A s f K m μ H){es:List D}{vs W:List V}{zs:Lv}(r:aj K m μ H ds vs)(q:Vals vs us)(R:aj K m μ H es W)(Q:Vals W zs){k:Bool}
  (h:a_ (List.zipWith f ds es)=some k):∀j (h1:j<us.toArray.size) (h2:j<zs.toArray.size),SeqAt.EqAt A s us.toArray[j] zs.toArray[j] (eJ (List.zipWith f ds es) j):=by
 intro j h1 h2;have L:=r.length;have x:=R.length;have y:=q.length;have G:=Q.length
 have l:=by simpa using h1
 have n:=by simpa using h2
 have a:ds[j]?=some (ds[j]'(by omega)):=Zj _;have b:es[j]?=some (es[j]'(by omega)):=Zj _;obtain⟨v,B,C⟩:=r.get a;obtain⟨w,c,d⟩:=R.get b;obtain⟨u,p,e⟩:=q.get B;obtain⟨z,t,g⟩:=Q.get c;have E:us.toArray[j]=u:=by simp_all
 have i:zs.toArray[j]=z:=by simp_all
 rw[E,i];have o:(List.zipWith f ds es)[j]?=some (f (ds[j]'(by omega)) (es[j]'(by omega))):=by rw[List.getElem?_zipWith,a,b]
 exact F _ _ v w u z _ C e d g ((lQ _ _ h).1 j _ o)
theorem xl{f:D->D->Option Bool}{es:List D}{k:Bool}(h:a_ (List.zipWith f ds es)=some k)(m:Nat)(H:m=min ds.length es.length):(List.range m).all (eJ (List.zipWith f ds es))=k:=by have:=(lQ _ _ h).2;simp_all
open PySem.SeqAt
theorem Kj{M:GS}{f:D->D->Option Bool}(F:ji A.in1 s f K M μ H)(c:A.units<cLine){z:Value}:∀{x y:Sh} {k:Bool},rH K M μ H s u x->rH K M μ H s z y->rG f x y=some k->
  RcAt A s u z k/\RcNeAt A s u z (!k):=by
 intro x y k j d h;cases x with
 |non=>
  cases j;cases y with
  |non=>cases d;cases h;exact⟨RcAt.none_none,RcNeAt.none_none⟩
  |bl b=>cases d;cases h;exact⟨RcAt.none_bool b,RcNeAt.none_bool b⟩
  |int b=>obtain⟨t,rfl⟩:=d;cases h;exact⟨RcAt.none_int b t,RcNeAt.none_int b t⟩
  |str b=>obtain⟨t,rfl⟩:=d;cases h;exact⟨RcAt.none_str b t,RcNeAt.none_str b t⟩
  |tup b=>obtain⟨a,e,vs,rfl,p,_⟩:=d;cases h;exact⟨RcAt.none_tuple p c,RcNeAt.none_tuple p c⟩
  |lst b=>obtain⟨a,e,vs,rfl,p,_⟩:=d;cases h;exact⟨RcAt.none_list p c,RcNeAt.none_list p c⟩
 |bl a=>
  cases j;cases y with
  |non=>cases d;cases h;exact⟨RcAt.bool_none a,RcNeAt.bool_none a⟩
  |bl b=>cases d;cases h;exact⟨RcAt.bool_bool a b,RcNeAt.bool_bool a b⟩
  |int b=>obtain⟨t,rfl⟩:=d;cases h;exact⟨RcAt.bool_int a b t,RcNeAt.bool_int a b t⟩
  |str b=>obtain⟨t,rfl⟩:=d;cases h;exact⟨RcAt.bool_str a b t,RcNeAt.bool_str a b t⟩
  |tup b=>obtain⟨_,e,vs,rfl,p,_⟩:=d;cases h;exact⟨RcAt.bool_tuple a p c,RcNeAt.bool_tuple a p c⟩
  |lst b=>obtain⟨_,e,vs,rfl,p,_⟩:=d;cases h;exact⟨RcAt.bool_list a p c,RcNeAt.bool_list a p c⟩
 |int a=>
  obtain⟨T,rfl⟩:=j;cases y with
  |non=>cases d;cases h;exact⟨RcAt.int_none a T,RcNeAt.int_none a T⟩
  |bl b=>cases d;cases h;exact⟨RcAt.int_bool a T b,RcNeAt.int_bool a T b⟩
  |int b=>obtain⟨t,rfl⟩:=d;cases h;exact⟨RcAt.int_int a T b t,RcNeAt.int_int a T b t⟩
  |str b=>obtain⟨t,rfl⟩:=d;cases h;exact⟨RcAt.int_str a T b t,RcNeAt.int_str a T b t⟩
  |tup b=>obtain⟨_,e,vs,rfl,p,_⟩:=d;cases h;exact⟨RcAt.int_tuple a T p c,RcNeAt.int_tuple a T p c⟩
  |lst b=>obtain⟨_,e,vs,rfl,p,_⟩:=d;cases h;exact⟨RcAt.int_list a T p c,RcNeAt.int_list a T p c⟩
 |str a=>
  obtain⟨T,rfl⟩:=j;cases y with
  |non=>cases d;cases h;exact⟨RcAt.str_none a T,RcNeAt.str_none a T⟩
  |bl b=>cases d;cases h;exact⟨RcAt.str_bool a T b,RcNeAt.str_bool a T b⟩
  |int b=>obtain⟨t,rfl⟩:=d;cases h;exact⟨RcAt.str_int a T b t,RcNeAt.str_int a T b t⟩
  |str b=>obtain⟨t,rfl⟩:=d;cases h;exact⟨RcAt.str_str a T b t,RcNeAt.str_str a T b t⟩
  |tup b=>obtain⟨_,e,vs,rfl,p,_⟩:=d;cases h;exact⟨RcAt.str_tuple a T p c,RcNeAt.str_tuple a T p c⟩
  |lst b=>obtain⟨_,e,vs,rfl,p,_⟩:=d;cases h;exact⟨RcAt.str_list a T p c,RcNeAt.str_list a T p c⟩
 |tup a=>
  obtain⟨G,I,V,rfl,P,q,r⟩:=j;cases y with
  |non=>cases d;cases h;exact⟨RcAt.tuple_none P c,RcNeAt.tuple_none P c⟩
  |bl b=>cases d;cases h;exact⟨RcAt.tuple_bool b P c,RcNeAt.tuple_bool b P c⟩
  |int b=>obtain⟨t,rfl⟩:=d;cases h;exact⟨RcAt.tuple_int b t P c,RcNeAt.tuple_int b t P c⟩
  |str b=>obtain⟨t,rfl⟩:=d;cases h;exact⟨RcAt.tuple_str b t P c,RcNeAt.tuple_str b t P c⟩
  |tup b=>
   obtain⟨o,i,v,rfl,g,Q,R⟩:=d;replace h:(a_ (List.zipWith f a b)).map (· &&a.length==b.length)=some k:=h;obtain⟨O,C,J⟩:=Option.map_eq_some_iff.mp h;have m:=xk F r q R Q C;have L:=r.length;have w:=R.length;have n:=q.length;have B:=Q.length
   have E:k=((List.range (min I.toArray.size i.toArray.size)).all (eJ (List.zipWith f a b))&&I.toArray.size==i.toArray.size):=by rw[<-J,xl C _ (by rw[Zs,Zs,<-n,<-B,<-L,<-w]),Zs,Zs,<-n,<-B,<-L,<-w]
   rw[E];exact⟨RcAt.tuples P g c m,RcNeAt.tuples P g c m⟩
  |lst b=>obtain⟨o,i,v,rfl,g,_⟩:=d;cases h;exact⟨RcAt.tuple_list P g c,RcNeAt.tuple_list P g c⟩
 |lst a=>
  obtain⟨G,I,V,rfl,P,q,r⟩:=j;cases y with
  |non=>cases d;cases h;exact⟨RcAt.list_none P c,RcNeAt.list_none P c⟩
  |bl b=>cases d;cases h;exact⟨RcAt.list_bool b P c,RcNeAt.list_bool b P c⟩
  |int b=>obtain⟨t,rfl⟩:=d;cases h;exact⟨RcAt.list_int b t P c,RcNeAt.list_int b t P c⟩
  |str b=>obtain⟨t,rfl⟩:=d;cases h;exact⟨RcAt.list_str b t P c,RcNeAt.list_str b t P c⟩
  |tup b=>obtain⟨o,i,v,rfl,g,_⟩:=d;cases h;exact⟨RcAt.list_tuple P g c,RcNeAt.list_tuple P g c⟩
  |lst b=>
   obtain⟨o,i,v,rfl,g,Q,R⟩:=d;have L:=r.length;have w:=R.length;have n:=q.length;have B:=Q.length
   replace h:(if a.length=b.length then a_ (List.zipWith f a b)else some false)=some k:=h;split at h
   ·rename_i N;have m:=xk F r q R Q h
    have E:k=(List.range I.toArray.size).all (eJ (List.zipWith f a b)):=by rw[xl h _ (by rw[Zs,<-n,<-L];omega)]
    rw[E];have l:I.toArray.size=i.toArray.size:=by rw[Zs,Zs];omega
    exact⟨RcAt.lists P g l c m,RcNeAt.lists P g l c m⟩
   ·rename_i N;cases h;have l:(I.toArray.size !=i.toArray.size)=true:=by rw[Zs,Zs];simp;omega
    exact⟨RcAt.lists_lengths P g l c,RcNeAt.lists_lengths P g l c⟩
theorem xm(I:Inv X pq σ H s)(sk:aM X.K ⟨X.mg,F⟩ μ S H):∀(n:Nat) (d e:D) (v:V) (k:Bool),Rep X.K ⟨X.mg,F⟩ μ H d v->Rep X.K ⟨X.mg,F⟩ μ H e v->b7 S n d e=some k->k=true:=by
 intro n
 induction n with
 |zero=>intro d e v k _ _ h;cases h
 |succ n ih=>
  intro d e v k rd re h
  have L:∀(p E:List D) (vs:List V) (k:Bool),aj X.K ⟨X.mg,F⟩ μ H p vs->aj X.K ⟨X.mg,F⟩ μ H E vs->a_ (List.zipWith (b7 S n) p E)=some k->k=true:=by
   intro p
   induction p with
   |nil=>intro E vs k _ _ h;cases h;rfl
   |cons d p Z=>
    intro E vs k R r h;obtain⟨v,W,rfl,T,b1⟩:=R.uncons;cases E with
    |nil=>cases h;rfl
    |cons e E=>
     obtain⟨v',ws',q,G,b2⟩:=r.uncons;cases q;rw[List.zipWith_cons_cons]at h;unfold a_ at h;split at h
     ·rename_i x y q K;cases h;rw[ih d e v x T G q,Z E W y b1 b2 K];rfl
     ·cases h
  unfold b7 at h;cases q:sh S d with
  |none=>rw[q]at h;cases h
  |some x=>
   cases K:sh S e with
   |none=>rw[q,K]at h;cases h
   |some y=>
    rw[q,K]at h;replace h:rG (b7 S n) x y=some k:=h
    obtain⟨u,ru⟩:∃u,RelV v u:=by
     cases v with
     |non=>exact⟨_,rfl⟩
     |bl b=>exact⟨_,rfl⟩
     |int i=>exact⟨.int i 0,0,rfl⟩
     |str x=>exact⟨.str x 0,0,rfl⟩
     |byt x=>exact⟨.bytes x 0,0,rfl⟩
     |flt x=>exact⟨.float x 0,0,rfl⟩
     |ref a=>exact⟨_,rfl⟩
     |ty n=>exact⟨_,rfl⟩
    have C:=lR I sk rd ru q;have f:=lR I sk re ru K
    have len:∀{p E:List D} {vs W:List V} {us:Lv},aj X.K ⟨X.mg,F⟩ μ H p vs->Vals vs us->aj X.K ⟨X.mg,F⟩ μ H E W->Vals W us->vs=W/\p.length=E.length:=λR O r Q=>by have:=O.inj Q;subst this;exact⟨rfl,R.length.trans r.length.symm⟩
    cases x with
    |non=>
     cases C;cases y with
     |non=>cases h;rfl
     |bl b=>cases f
     |int b=>obtain⟨t,z⟩:=f;cases z
     |str b=>obtain⟨t,z⟩:=f;cases z
     |tup b=>obtain⟨_,_,_,z,_⟩:=f;cases z
     |lst b=>obtain⟨_,_,_,z,_⟩:=f;cases z
    |bl a=>
     cases C;cases y with
     |non=>cases f
     |bl b=>cases f;cases h;simp
     |int b=>obtain⟨t,z⟩:=f;cases z
     |str b=>obtain⟨t,z⟩:=f;cases z
     |tup b=>obtain⟨_,_,_,z,_⟩:=f;cases z
     |lst b=>obtain⟨_,_,_,z,_⟩:=f;cases z
    |int a=>
     obtain⟨t',rfl⟩:=C;cases y with
     |non=>cases f
     |bl b=>cases f
     |int b=>obtain⟨t,z⟩:=f;cases z;cases h;simp
     |str b=>obtain⟨t,z⟩:=f;cases z
     |tup b=>obtain⟨_,_,_,z,_⟩:=f;cases z
     |lst b=>obtain⟨_,_,_,z,_⟩:=f;cases z
    |str a=>
     obtain⟨t',rfl⟩:=C;cases y with
     |non=>cases f
     |bl b=>cases f
     |int b=>obtain⟨t,z⟩:=f;cases z
     |str b=>obtain⟨t,z⟩:=f;cases z;cases h;simp
     |tup b=>obtain⟨_,_,_,z,_⟩:=f;cases z
     |lst b=>obtain⟨_,_,_,z,_⟩:=f;cases z
    |tup a=>
     obtain⟨T,m,A,rfl,N,O,R⟩:=C;cases y with
     |non=>cases f
     |bl b=>cases f
     |int b=>obtain⟨t,z⟩:=f;cases z
     |str b=>obtain⟨t,z⟩:=f;cases z
     |tup b=>
      obtain⟨G,j,B,z,P,Q,r⟩:=f;cases z
      have U:m=j:=by
       obtain⟨o,w,_,n,M⟩:=N;obtain⟨o',g,_,n',l⟩:=P;rw[w]at g;cases g;rw[M]at l;injection l with z _
       simpa using congrArg Array.toList z
      subst U;obtain⟨rfl,Y⟩:=len R O r Q;replace h:(a_ (List.zipWith (b7 S n) a b)).map (· &&a.length==b.length)=some k:=h;obtain⟨k1,e3,e4⟩:=Option.map_eq_some_iff.mp h;rw[<-e4,L a b A k1 R r e3,Y];simp
     |lst b=>obtain⟨G,j,B,z,P,Q,r⟩:=f;cases z;obtain⟨o,w,c,n,M⟩:=N;obtain⟨o',g,J,n',l⟩:=P;rw[w]at g;cases g;rw[c]at J;exact absurd J (by decide)
    |lst a=>
     obtain⟨T,m,A,rfl,N,O,R⟩:=C;cases y with
     |non=>cases f
     |bl b=>cases f
     |int b=>obtain⟨t,z⟩:=f;cases z
     |str b=>obtain⟨t,z⟩:=f;cases z
     |tup b=>obtain⟨G,j,B,z,P,Q,r⟩:=f;cases z;obtain⟨o,w,c,n,M⟩:=N;obtain⟨o',g,J,n',l⟩:=P;rw[w]at g;cases g;rw[c]at J;exact absurd J (by decide)
     |lst b=>
      obtain⟨G,j,B,z,P,Q,r⟩:=f;cases z
      have U:m=j:=by
       obtain⟨o,w,_,n,M⟩:=N;obtain⟨o',g,_,n',l⟩:=P;rw[w]at g;cases g;rw[M]at l;injection l with z _
       simpa using congrArg Array.toList z
      subst U;obtain⟨rfl,Y⟩:=len R O r Q;replace h:(if a.length=b.length then a_ (List.zipWith (b7 S n) a b)else some false)=some k:=h;rw[if_pos Y]at h;exact L a b A k R r h
theorem vT(I:Inv X pq σ H s)(G:aM X.K ⟨X.mg,F⟩ μ S H):∀(n:Nat) (A:Around),A.units+n<cLine->∀d e v w u z k,Rep X.K ⟨X.mg,F⟩ μ H d v->RelV v u->Rep X.K ⟨X.mg,F⟩ μ H e w->RelV w z->b7 S n d e=some k->
  RcAt A s u z k/\RcNeAt A s u z (!k)/\EqAt A s u z k:=by
 intro n
 induction n with
 |zero=>intro A _ d e v w u z k _ _ _ _ h;cases h
 |succ n Z=>
  intro A hA d e v w u z k L R M B h;have o:=λ(D:v=w)=>xm I G (n+1) d e v k L (D▸M) h;unfold b7 at h;cases E:sh S d with
  |none=>rw[E]at h;cases h
  |some x=>
   cases C:sh S e with
   |none=>rw[E,C]at h;cases h
   |some y=>
    rw[E,C]at h;replace h:rG (b7 S n) x y=some k:=h;have j:=lR I G L R E;have f:=lR I G M B C;have Y:A.in1.units=A.units+1:=rfl;have F:ji A.in1 s (b7 S n) X.K ⟨X.mg,F⟩ μ H:=λd e v w u z k a b c Q h=>(Z A.in1 (by omega) d e v w u z k a b c Q h).2.2;obtain⟨J,O⟩:=Kj F (by omega) j f h;refine⟨J,O,?_⟩
    have r:∀{l b:Addr},u=.ref l->z=.ref b->EqAt A s u z k:=λ{l b} U W=>by
     subst U;subst W;by_cases K:l=b
     ·subst K
      have D:v=w:=by
       cases v<;>first| (cases R;done)|skip
       all_goals first| (obtain⟨_,q⟩:=R;cases q;done)|skip
       cases w<;>first| (cases B;done)|skip
       all_goals first| (obtain⟨_,q⟩:=B;cases q;done)|skip
       cases R;cases B;rfl
      rw[o D];exact EqAt.same _
     ·exact .of_refs K J
    have g:A.units<cLine:=by omega
    cases x with
    |non=>
     cases j;cases y with
     |non=>cases f;cases h;exact EqAt.same _
     |bl b=>cases f;cases h;exact EqAt.none_bool b
     |int b=>obtain⟨t,rfl⟩:=f;cases h;exact EqAt.none_int b t
     |str b=>obtain⟨t,rfl⟩:=f;cases h;exact EqAt.none_str b t
     |tup b=>obtain⟨a,i,vs,rfl,p,_⟩:=f;cases h;exact EqAt.none_tuple p g
     |lst b=>obtain⟨a,i,vs,rfl,p,_⟩:=f;cases h;exact EqAt.none_list p g
    |bl a=>
     cases j;cases y with
     |non=>cases f;cases h;exact EqAt.bool_none a
     |bl b=>cases f;cases h;exact EqAt.bool_bool a b
     |int b=>obtain⟨t,rfl⟩:=f;cases h;exact EqAt.bool_int a b t
     |str b=>obtain⟨t,rfl⟩:=f;cases h;exact EqAt.bool_str a b t
     |tup b=>obtain⟨_,i,vs,rfl,p,_⟩:=f;cases h;exact EqAt.bool_tuple a p g
     |lst b=>obtain⟨_,i,vs,rfl,p,_⟩:=f;cases h;exact EqAt.bool_list a p g
    |int a=>
     obtain⟨T,rfl⟩:=j;cases y with
     |non=>cases f;cases h;exact EqAt.int_none a T
     |bl b=>cases f;cases h;exact EqAt.int_bool a T b
     |int b=>obtain⟨t,rfl⟩:=f;cases h;exact EqAt.int_int a T b t
     |str b=>obtain⟨t,rfl⟩:=f;cases h;exact EqAt.int_str a T b t
     |tup b=>obtain⟨_,i,vs,rfl,p,_⟩:=f;cases h;exact EqAt.int_tuple a T p g
     |lst b=>obtain⟨_,i,vs,rfl,p,_⟩:=f;cases h;exact EqAt.int_list a T p g
    |str a=>
     obtain⟨T,rfl⟩:=j;cases y with
     |non=>cases f;cases h;exact EqAt.str_none a T
     |bl b=>cases f;cases h;exact EqAt.str_bool a T b
     |int b=>obtain⟨t,rfl⟩:=f;cases h;exact EqAt.str_int a T b t
     |str b=>obtain⟨t,rfl⟩:=f;cases h;exact EqAt.str_str a T b t
     |tup b=>obtain⟨_,i,vs,rfl,p,_⟩:=f;cases h;exact EqAt.str_tuple a T p g
     |lst b=>obtain⟨_,i,vs,rfl,p,_⟩:=f;cases h;exact EqAt.str_list a T p g
    |tup a=>
     obtain⟨N,m,V,rfl,P,_⟩:=j;cases y with
     |non=>cases f;cases h;exact EqAt.tuple_none P g
     |bl b=>cases f;cases h;exact EqAt.tuple_bool b P g
     |int b=>obtain⟨t,rfl⟩:=f;cases h;exact EqAt.tuple_int b t P g
     |str b=>obtain⟨t,rfl⟩:=f;cases h;exact EqAt.tuple_str b t P g
     |tup b=>obtain⟨_,i,vs,rfl,p,_⟩:=f;exact r rfl rfl
     |lst b=>obtain⟨_,i,vs,rfl,p,_⟩:=f;exact r rfl rfl
    |lst a=>
     obtain⟨N,m,V,rfl,P,_⟩:=j;cases y with
     |non=>cases f;cases h;exact EqAt.list_none P g
     |bl b=>cases f;cases h;exact EqAt.list_bool b P g
     |int b=>obtain⟨t,rfl⟩:=f;cases h;exact EqAt.list_int b t P g
     |str b=>obtain⟨t,rfl⟩:=f;cases h;exact EqAt.list_str b t P g
     |tup b=>obtain⟨_,i,vs,rfl,p,_⟩:=f;exact r rfl rfl
     |lst b=>obtain⟨_,i,vs,rfl,p,_⟩:=f;exact r rfl rfl
end
noncomputable def vU(eq lt:D->D->Option Bool):List D->List D->Option Bool
 | [],[]=>some false
 | [],_::_=>some true
 |_::_,[]=>some false
 |a::as,b::bs=>match eq a b with
  |some true=>vU eq lt as bs
  |some false=>lt a b
  |none=>none
noncomputable def iY(S:af):Nat->D->D->Option Bool
 |0,_,_=>none
 |n+1,.int a,.int b=>some (decide (a<b))
 |n+1,.tup a,.tup b=>vU (b7 S n) (iY S n) a b
 |_,_,_=>none
open PySem.SeqAt
def gC(A:Around)(s:Shared)(y x:Value)(b:Bool):Prop:=
 ∀(prog:Program) (w:World) (E:Vs) (Q:Vs),Q (.bool b) s->wpAny (model prog w) A (richCompare .Lt y x) Q E s
inductive cR (A:Around)(s:Shared):Lv->Lv->Bool->Prop where
 |nn:cR A s [] [] false
 |nc {w ws}:cR A s [] (w::ws) true
 |cn {v vs}:cR A s (v::vs) [] false
 |eq {v w vs ws k}:EqAt A s v w true->cR A s vs ws k->cR A s (v::vs) (w::ws) k
 |lt {v w vs ws k}:EqAt A s v w false->gC A s v w k->cR A s (v::vs) (w::ws) k
section
open PySem.AutoSeq1 (wpAny_loadPart')
open PySem.MeetsSeq PySem.MeetsSeq2 PySem.MeetsSeq3
theorem EO(l b:Addr)(items i:Av)(n N:Nat)(dd D:Option Addr)(sl z:Array (Ov))(k:Bool):
  Meets (Builtin.«tuple.__lt__» ⟨[.ref l,.ref b],[]⟩)
   (λA R s=>s.heap.get? l=some {cls:=.type "tuple",dict:=dd,data:=.seq items n,slots:=sl}/\s.heap.get? b=some {cls:=.type "tuple",dict:=D,data:=.seq i N,slots:=z}/\
    cR A.in1 s items.toList i.toList k/\R (.ok (.ret (.bool k))) s):=
 .of_wp λp w A R s h=>by
  obtain⟨t,g,d,T,O⟩:=s;obtain⟨C,B,q,h⟩:=h;have J:=AutoSeq1.sub_tuple_tuple
  wp_walk using wpAny_loadPart' C,wpAny_loadPart' B,wpAny_forIn_list _ (λr b S=>b.1=none/\S=⟨t,g,d,T,O⟩/\∃(vs W:Lv),r=vs.zip W/\
   cR A.in1 ⟨t,g,d,T,O⟩ vs W k/\vs.length+i.size=W.length+items.size/\R (.ok (.ret (.bool k))) ⟨t,g,d,T,O⟩) _
  case turn=>
   rintro⟨y,x⟩ r b S ⟨e,rfl,vs,W,a,f,H,hR⟩;cases f with
   |nn=>rw[List.zip_nil_left]at a;cases a
   |nc=>rw[List.zip_nil_left]at a;cases a
   |cn=>rw[List.zip_nil_right]at a;cases a
   |eq m o=>
    rw[ZV]at a;injection a with j c
    injection j with v q
    subst v q;simp only[ZG]at H;refine Za (m p w _ _ ?_)
    wp_walk
    exact⟨rfl,rfl,_,_,c,o,by omega,hR⟩
   |lt m o=>
    rw[ZV]at a;injection a with j c
    injection j with v q
    subst v q;refine Za (m p w _ _ ?_);have u:=λ(E:Vs) (Q:Vs)=>o p w E Q
    wp_walk using u
    exact⟨_,rfl,by simpa using hR⟩
  case fin=>
   rintro⟨G,I⟩ S ⟨e,rfl,vs,W,a,f,H,hR⟩;simp only at e;subst e
   have F:k=decide (items.size<i.size):=by
    cases f with
    |nn=>simp only[ZQ]at H;exact(Zx (by omega)).symm
    |nc=>simp only[ZQ,ZG]at H;exact(ZD (by omega)).symm
    |cn=>simp only[ZQ,ZG]at H;exact(Zx (by omega)).symm
    |eq m o=>rw[ZV]at a;cases a
    |lt m o=>rw[ZV]at a;cases a
   rw[F]at hR
   wp_walk
   exact⟨_,rfl,by simpa[Builtin.Tuple.tupleCompareSizes]using hR⟩
  case h=>exact⟨rfl,rfl,items.toList,i.toList,rfl,q,by simp;omega,h⟩
end
theorem gC.tuples{l b:Addr}{vs W:Lv}{k:Bool}(m:s.heap.IsTuple l vs.toArray)(g:s.heap.IsTuple b W.toArray)(o:A.units<cLine)(r:cR A.in1 s vs W k):gC A s (.ref l) (.ref b) k:=λp w E Q h=>by
 obtain⟨⟨cls,q,D,sl⟩,e,i,n,j⟩:=id m;obtain⟨⟨C,f,d,S⟩,H,a,N,c⟩:=id g;subst i j a c
 exact richCompare_meets_room ⟨_,e,rfl⟩ ⟨_,H,rfl⟩ PySem.F.slot_tuple_lt PySem.F.entry_tuple_lt (PySem.F.args_tuple_lt_2 _ _) (EO l b _ _ n _ _ _ _ _ k)
  ⟨e,H,by lia,show Value.bool k≠Value.notImplemented/\Q _ s from⟨(λx=>nomatch x),h⟩⟩ o
def xn(A:Around)(s:Shared)(y x:Value)(b:Bool):Prop:=
 ∀(prog:Program) (w:World) (E:Vs) (Q:Vs),Q (.bool b) s->wpAny (model prog w) A (richCompare .LtE y x) Q E s
inductive db (A:Around)(s:Shared):Lv->Lv->Bool->Prop where
 |nl {ws}:db A s [] ws true
 |cn {v vs}:db A s (v::vs) [] false
 |eq {v w vs ws k}:EqAt A s v w true->db A s vs ws k->db A s (v::vs) (w::ws) k
 |le {v w vs ws k}:EqAt A s v w false->xn A s v w k->db A s (v::vs) (w::ws) k
section
open PySem.AutoSeq1 (wpAny_loadPart')
open PySem.MeetsSeq PySem.MeetsSeq2 PySem.MeetsSeq3
theorem EQ(l b:Addr)(xs Y:Av)(n N:Nat)(dd D:Option Addr)(sl v:Array (Ov))(k:Bool):
  Meets (Builtin.«tuple.__le__» ⟨[.ref l,.ref b],[]⟩)
   (λA R s=>s.heap.get? l=some {cls:=.type "tuple",dict:=dd,data:=.seq xs n,slots:=sl}/\s.heap.get? b=some {cls:=.type "tuple",dict:=D,data:=.seq Y N,slots:=v}/\
    db A.in1 s xs.toList Y.toList k/\R (.ok (.ret (.bool k))) s):=
 .of_wp λp w A R s h=>by
  obtain⟨q,g,d,T,O⟩:=s;obtain⟨B,z,o,h⟩:=h;have I:=AutoSeq1.sub_tuple_tuple
  wp_walk using wpAny_loadPart' B,wpAny_loadPart' z,wpAny_forIn_list _ (λr b S=>b.1=none/\S=⟨q,g,d,T,O⟩/\∃(vs W:Lv),r=vs.zip W/\
   db A.in1 ⟨q,g,d,T,O⟩ vs W k/\vs.length+Y.size=W.length+xs.size/\R (.ok (.ret (.bool k))) ⟨q,g,d,T,O⟩) _
  case turn=>
   rintro⟨y,x⟩ r b S ⟨e,rfl,vs,W,a,f,H,hR⟩;cases f with
   |nl=>rw[List.zip_nil_left]at a;cases a
   |cn=>rw[List.zip_nil_right]at a;cases a
   |eq j m=>
    rw[ZV]at a;injection a with i c
    injection i with u o
    subst u o;simp only[ZG]at H;refine Za (j p w _ _ ?_)
    wp_walk
    exact⟨rfl,rfl,_,_,c,m,by omega,hR⟩
   |le j m=>
    rw[ZV]at a;injection a with i c
    injection i with u o
    subst u o;refine Za (j p w _ _ ?_);have t:=λ(E:Vs) (Q:Vs)=>m p w E Q
    wp_walk using t
    exact⟨_,rfl,by simpa using hR⟩
  case fin=>
   rintro⟨F,G⟩ S ⟨e,rfl,vs,W,a,f,H,hR⟩;simp only at e;subst e
   have C:k=decide (xs.size<=Y.size):=by
    cases f with
    |nl=>simp only[ZQ]at H;exact(ZD (by omega)).symm
    |cn=>simp only[ZQ,ZG]at H;exact(Zx (by omega)).symm
    |eq j m=>rw[ZV]at a;cases a
    |le j m=>rw[ZV]at a;cases a
   rw[C]at hR
   wp_walk
   exact⟨_,rfl,by simpa[Builtin.Tuple.tupleCompareSizes]using hR⟩
  case h=>exact⟨rfl,rfl,xs.toList,Y.toList,rfl,o,by simp;omega,h⟩
end
theorem ER{l b:Addr}{vs W:Lv}{k:Bool}(m:s.heap.IsTuple l vs.toArray)(g:s.heap.IsTuple b W.toArray)(o:A.units<cLine)(r:db A.in1 s vs W k):xn A s (.ref l) (.ref b) k:=λp w E Q h=>by
 obtain⟨⟨cls,q,D,sl⟩,e,i,n,j⟩:=id m;obtain⟨⟨C,f,d,S⟩,H,a,N,c⟩:=id g;subst i j a c
 exact richCompare_meets_room ⟨_,e,rfl⟩ ⟨_,H,rfl⟩ PySem.F.slot_tuple_le PySem.F.entry_tuple_le (PySem.F.args_tuple_le_2 _ _) (EQ l b _ _ n _ _ _ _ _ k)
  ⟨e,H,by lia,show Value.bool k≠Value.notImplemented/\Q _ s from⟨(λx=>nomatch x),h⟩⟩ o
noncomputable def xo:List D->List D->Option Bool
 | [],_=>some true
 |_::_,[]=>some false
 | .int a::as,.int b::bs=>if a=b then xo as bs else some (decide (a<=b))
 |_::_,_::_=>none
theorem jj{K:Fg}{m:GS}{μ:La}{H:Hp}{A:Around}{s:Shared}:∀(ds es:List D) (vs W:List V) (us zs:Lv) (k:Bool),aj K m μ H ds vs->Vals vs us->aj K m μ H es W->Vals W zs->xo ds es=some k->db A s us zs k
 | [],es,vs,W,us,zs,k,r,q,R,i,h=>by
  unfold aj at r;subst r;have:=q.zero;subst this
  cases h;exact .nl
 |d::ds,[],vs,W,us,zs,k,r,q,R,i,h=>by
  obtain⟨v,vs,rfl,l,B⟩:=r.uncons;unfold aj at R;subst R;have:=i.zero;subst this
  cases q;have f:some false=some k:=by cases d<;>exact h
  cases f;exact .cn
 |d::ds,e::es,vs,W,us,zs,k,r,q,R,i,h=>by
  obtain⟨v,vs,rfl,l,B⟩:=r.uncons;obtain⟨w,W,rfl,n,o⟩:=R.uncons;cases d with
  |int a=>cases e with
   |int b=>
    have:=aI l;have:=aI n;subst v w
    cases q with
    |cons C d1=>cases i with
     |cons u d2=>
      obtain⟨t,rfl⟩:=C;obtain⟨T,rfl⟩:=u;have f:(if a=b then xo ds es else some (decide (a<=b)))=some k:=h;have g:=EqAt.int_int (A:=A) (s:=s) a t b T;by_cases c:a=b
      ·rw[if_pos c]at f;have j:(a==b)=true:=by simpa using c
       rw[j]at g;exact .eq g (jj ds es vs W _ _ k B d1 o d2 f)
      ·rw[if_neg c]at f;have j:(a==b)=false:=by simpa using c
       rw[j]at g;cases f;exact .le g λp w E Q x=>PyProof.Rows.le_int x
   |_=>cases h
  |_=>
   have f:(none:Option Bool)=some k:=by cases e<;>exact h
   cases f
theorem jk(I:Inv X pq σ H s)(K:aM X.K ⟨X.mg,F⟩ μ S H):∀(n:Nat) (A:Around),A.units+n<cLine->∀d e v w u z k,Rep X.K ⟨X.mg,F⟩ μ H d v->RelV v u->Rep X.K ⟨X.mg,F⟩ μ H e w->RelV w z->iY S n d e=some k->gC A s u z k:=by
 intro n
 induction n with
 |zero=>intro A _ d e v w u z k _ _ _ _ h;cases h
 |succ n ih=>
  intro A hA d e v w u z k y G B J h;have Y:A.in1.units=A.units+1:=rfl
  have L:∀(f c:List D) (vs W:List V) (U Z:Lv),aj X.K ⟨X.mg,F⟩ μ H f vs->Vals vs U->aj X.K ⟨X.mg,F⟩ μ H c W->Vals W Z->vU (b7 S n) (iY S n) f c=some k->cR A.in1 s U Z k:=by
   intro f
   induction f with
   |nil=>
    intro c vs W U Z R g r q h;unfold aj at R;subst R;have:=g.zero;subst this
    cases c with
    |nil=>unfold aj at r;subst r;have:=q.zero;subst this;cases h;exact .nn
    |cons e c=>obtain⟨w,W,rfl,_,_⟩:=r.uncons;cases q;cases h;exact .nc
   |cons d f x=>
    intro c vs W U Z R g r q h;obtain⟨v,vs,rfl,i,M⟩:=R.uncons;cases g with
    |cons C d1=>
     cases c with
     |nil=>unfold aj at r;subst r;have:=q.zero;subst this;cases h;exact .cn
     |cons e c=>
      obtain⟨w,W,rfl,j,N⟩:=r.uncons;cases q with
      |cons l d2=>
       unfold vU at h;split at h
       ·rename_i m;exact .eq (vT I K n A.in1 (by omega) d e v w _ _ true i C j l m).2.2 (x c vs W _ _ M d1 N d2 h)
       ·rename_i m;exact .lt (vT I K n A.in1 (by omega) d e v w _ _ false i C j l m).2.2 (ih A.in1 (by omega) d e v w _ _ k i C j l h)
       ·cases h
  unfold iY at h;split at h
  ·rename_i O;cases O
  ·have:=aI y;have:=aI B;subst v w
   obtain⟨t,rfl⟩:=G;obtain⟨t',rfl⟩:=J;cases h;exact λp w E Q hq=>(PyProof.Rows.lt_int hq:wpAny (model p w) A (compareOp .Lt (.int _ t) (.int _ t')) Q E s)
  ·rename_i n' f c o;cases o;obtain⟨a,vs,rfl,P,R⟩:=bP y;obtain⟨b,W,rfl,T,r⟩:=bP B;cases G;cases J;obtain⟨U,g,p1,_⟩:=I.tuple P;obtain⟨Z,q,p2,_⟩:=I.tuple T;exact gC.tuples p1 p2 (by omega) (L f c vs W U Z R g r q h)
  ·cases h
noncomputable def bC:Nat:=40
noncomputable def jl:D->Bool
 | .non=>true
 |_=>false
noncomputable def bg(o:Option Bool)(S:af):Res D:=match o with
 |some k=>.ok (.bl k) S
 |none=>.fail
noncomputable def jm(l:List (Option Bool)):Option Bool:=(a_ (l.map λo=>o.map not)).map not
noncomputable def iZ(d e:D)(S:af):Option Bool:=match az S e with
 |some xs=>jm (xs.map λy=>b7 S bC y d)
 |none=>none
noncomputable def Di(d e:D)(S:af):Res D:=match d,e with
 | .int i,.int j=>.ok (.bl (decide (i<=j))) S
 | .tup a,.tup b=>bg (xo a b) S
 |_,_=>.fail
noncomputable def ES(d e:D)(S:af):Res D:=match d,e with
 | .int i,.int j=>.ok (.bl (decide (j<i))) S
 |_,_=>.fail
noncomputable def ET(d e:D)(S:af):Res D:=match d,e with
 | .int i,.int j=>.ok (.bl (decide (j<=i))) S
 |_,_=>.fail
noncomputable def EU(d e:D)(S:af):Res D:=match e with
 | .non=>.ok (.bl (jl d)) S
 |_=>.fail
noncomputable def rJ(d e:D)(S:af):Res D:=match e with
 | .non=>.ok (.bl (!jl d)) S
 |_=>.fail
noncomputable def aD(o:CmpOp)(d e:D)(S:af):Res D:=match o with
 | .Eq=>bg (b7 S bC d e) S
 | .NotEq=>bg ((b7 S bC d e).map not) S
 | .Lt=>bg (iY S bC d e) S
 | .LtE=>Di d e S
 | .Gt=>ES d e S
 | .GtE=>ET d e S
 | .In=>bg (iZ d e S) S
 | .NotIn=>bg ((iZ d e S).map not) S
 | .Is=>EU d e S
 | .IsNot=>rJ d e S
theorem xp{m:GS}(r:Rep K m μ H d v):decide (v=.non)=jl d:=by
 cases d with
 |non=>cases gB r;rfl
 |bl b=>cases fE r;rfl
 |int b=>cases aI r;rfl
 |str b=>cases fi r;rfl
 |tup b=>obtain⟨a,vs,rfl,_⟩:=bP r;rfl
 |lst b=>obtain⟨a,vs,rfl,_⟩:=r;rfl
 |ref b=>obtain⟨a,rfl,_⟩:=r;rfl
 |scr b=>obtain⟨a,vs,rfl,_⟩:=r;rfl
 |fn b=>obtain⟨a,rfl,_⟩:=r;rfl
 |dct=>obtain⟨a,rfl,_⟩:=r;rfl
 |dks b=>obtain⟨a,_,rfl,_⟩:=r;rfl
 |ty n=>cases r;rfl
theorem fI{m:GS}{Q:VK}{o:Option Bool}(w:aV K m μ H Q (bg o S))(s:aM K m μ S H):∃k,o=some k/\Q (.bl k) H:=by
 cases o with
 |none=>exact w.elim
 |some k=>exact⟨k,rfl,w.now s cD⟩
theorem EV{l:List (Option Bool)}{k:Bool}(h:jm l=some k):(∀o∈l,o.isSome=true)/\k=l.any (λo=>o==some true):=by
 obtain⟨K,e,E⟩:=Option.map_eq_some_iff.mp h;subst E;clear h
 induction l generalizing K with
 |nil=>cases e;simp_all
 |cons o r i=>
  rw[List.map_cons]at e;unfold a_ at e;split at e
  ·simp_all
  ·cases e
theorem pV(I:Inv X pq σ H s)(K:aM X.K ⟨X.mg,F⟩ μ S H)(hu:A.units+64<cLine){e:D}{w:V}{z:Value}{k:Bool}(W:Rep X.K ⟨X.mg,F⟩ μ H d v)(Z:RelV v u)(Y:Rep X.K ⟨X.mg,F⟩ μ H e w)(rz:RelV w z)
  (h:iZ d e S=some k):∃(a:Addr) (its:Lv) (f:Value->Bool),z=.ref a/\(s.heap.IsList a its.toArray\/s.heap.IsTuple a its.toArray)/\(∀y∈its.toArray,EqAt A.in1 s y u (f y))/\its.toArray.any f=k:=by
 unfold iZ at h;split at h
 ·rename_i i L;obtain⟨a,vs,rfl,l,r⟩:=fh K Y L;cases rz
  obtain⟨its,q,U⟩:∃its,Vals vs its/\(s.heap.IsList a its.toArray\/s.heap.IsTuple a its.toArray):=by
   rcases l with l|l
   ·obtain⟨its,q,p,_⟩:=I.list l;exact⟨its,q,.inl p.isList⟩
   ·obtain⟨its,q,p,_⟩:=I.tuple l;exact⟨its,q,.inr p⟩
  have R:A.in1.units=A.units+1:=rfl;have J:bC=40:=rfl;obtain⟨M,N⟩:=EV h
  classical
  have at_:∀(j:Nat) (x:D) (y:Value),i[j]?=some x->its[j]?=some y->∀b,b7 S bC x d=some b->EqAt A.in1 s y u b:=λj x y t B b m=>by obtain⟨v',O,P⟩:=r.get t;obtain⟨y',C,Q⟩:=q.get O;rw[B]at C;cases C;exact(vT I K bC A.in1 (by omega) x d v' v _ u b P Q W Z m).2.2
  have len:i.length=its.length:=r.length.trans q.length;refine⟨a,its,λy=>decide (∃(j:Nat) (x:D),its[j]?=some y/\i[j]?=some x/\b7 S bC x d=some true),rfl,U,λy B=>?_,?_⟩
  ·obtain⟨j,n,E⟩:=ZK.mp (show y∈its by simpa using B);have g:its[j]?=some y:=by rw[Zj n,E]
   have c:i[j]?=some (i[j]'(by omega)):=Zj _;by_cases G:∃(j:Nat) (x:D),its[j]?=some y/\i[j]?=some x/\b7 S bC x d=some true
   ·grind
   ·show EqAt A.in1 s y u (decide (∃(j:Nat) (x:D),its[j]?=some y/\i[j]?=some x/\b7 S bC x d=some true));rw[Zx G];obtain⟨b,m⟩:=Option.isSome_iff_exists.mp (M (b7 S bC (i[j]'(by omega)) d) (Zp.mpr ⟨_,Zu c,rfl⟩));cases b with
    |false=>exact at_ j _ y c g false m
    |true=>exact absurd ⟨j,_,g,c,m⟩ G
  ·rw[N];apply Bool.eq_iff_iff.mpr;rw[List.any_toArray,List.any_eq_true,List.any_eq_true];constructor
   ·grind
   ·rintro⟨o,T,J⟩;obtain⟨x,t,rfl⟩:=Zp.mp T;obtain⟨j,n,E⟩:=ZK.mp t;have c:i[j]?=some x:=by rw[Zj n,E]
    have g:its[j]?=some (its[j]'(by omega)):=Zj _;exact⟨_,Zu g,ZD ⟨j,x,g,c,by simpa using J⟩⟩
 ·cases h
theorem dc(O:CmpOp)(B:X.A.units+64<cLine):cm X (compareOp O) (rD X.K X.mg (aD O)):=by
 intro p s l H x y v u Q I i j h;obtain⟨F,n,S,d,e,c,r,R,w⟩:=h;have T:bC=40:=rfl;have fin:∀{k:Bool},Q (.bl k) H->EP X p l Q (.bool k) s:=λ{k} q=>⟨.bl k,H,I,rfl,q⟩;cases O with
 |Eq=>obtain⟨k,E,q⟩:=fI (o:=b7 S bC d e) w c;exact(vT I c bC X.A (by omega) d e x y v u k r i R j E).1 X.prog X.w _ _ (fin q)
 |NotEq=>obtain⟨k,E,q⟩:=fI (o:=(b7 S bC d e).map not) w c;obtain⟨K,t,rfl⟩:=Option.map_eq_some_iff.mp E;exact(vT I c bC X.A (by omega) d e x y v u K r i R j t).2.1 X.prog X.w _ _ (fin q)
 |Lt=>obtain⟨k,E,q⟩:=fI (o:=iY S bC d e) w c;exact jk I c bC X.A (by omega) d e x y v u k r i R j E X.prog X.w _ _ (fin q)
 |LtE=>
  replace w:aV X.K ⟨X.mg,F⟩ n H Q (Di d e S):=w;unfold Di at w;split at w
  ·have:=aI r;have:=aI R;subst x y
   exact wD p s l H _ _ v u Q I i j ⟨_,_,rfl,rfl,w.now c cD⟩
  ·rename_i as bs;obtain⟨k,E,q⟩:=fI (o:=xo as bs) w c;obtain⟨a,vs,rfl,C,M⟩:=bP r;obtain⟨b,W,rfl,D,N⟩:=bP R;cases i;cases j;obtain⟨U,J,P,_⟩:=I.tuple C;obtain⟨Z,L,G,_⟩:=I.tuple D;exact ER P G (by omega) (jj as bs vs W U Z k M J N L E) X.prog X.w _ _ (fin q)
  ·exact w.elim
 |Gt=>
  replace w:aV X.K ⟨X.mg,F⟩ n H Q (ES d e S):=w;unfold ES at w;split at w
  ·have:=aI r;have:=aI R;subst x y
   exact wE p s l H _ _ v u Q I i j ⟨_,_,rfl,rfl,w.now c cD⟩
  ·exact w.elim
 |GtE=>
  replace w:aV X.K ⟨X.mg,F⟩ n H Q (ET d e S):=w;unfold ET at w;split at w
  ·have:=aI r;have:=aI R;subst x y
   exact wF p s l H _ _ v u Q I i j ⟨_,_,rfl,rfl,w.now c cD⟩
  ·exact w.elim
 |In=>
  obtain⟨k,E,q⟩:=fI (o:=iZ d e S) w c;obtain⟨a,z,f,rfl,g,m,rfl⟩:=pV I c (A:=X.A) B r i R j E;rcases g with g|g
  ·exact in_listAt f g m (fin q)
  ·exact in_tupleAt f g m (fin q)
 |NotIn=>
  obtain⟨k,E,q⟩:=fI (o:=(iZ d e S).map not) w c;obtain⟨K,t,rfl⟩:=Option.map_eq_some_iff.mp E;obtain⟨a,z,f,rfl,g,m,rfl⟩:=pV I c (A:=X.A) B r i R j t;rcases g with g|g
  ·exact notIn_listAt f g m (fin q)
  ·exact notIn_tupleAt f g m (fin q)
 |Is=>
  replace w:aV X.K ⟨X.mg,F⟩ n H Q (EU d e S):=w;unfold EU at w;split at w
  ·cases gB R;exact q_ p s l H _ _ v u Q I i j ⟨rfl,by rw[xp r];exact w.now c cD⟩
  ·exact w.elim
 |IsNot=>
  replace w:aV X.K ⟨X.mg,F⟩ n H Q (rJ d e S):=w;unfold rJ at w;split at w
  ·cases gB R;exact lv p s l H _ _ v u Q I i j ⟨rfl,by rw[xp r];exact w.now c cD⟩
  ·exact w.elim
end Py
namespace Py
def rC(K:Fg)(m:Mg)(g:List D->af->Res D):List V->Hp->VK->Prop:=λxs H Q=>∃F μ S ds,aM K ⟨m,F⟩ μ S H/\aj K ⟨m,F⟩ μ H ds xs/\aV K ⟨m,F⟩ μ H Q (g ds S)
theorem aj.one{m:GS}{vs:List V}(r:aj K m μ H [d] vs):∃v,vs=[v]/\Rep K m μ H d v:=by obtain⟨v,w,rfl,h,t⟩:=r.uncons;unfold aj at t;simp_all
theorem aj.two{m:GS}{e:D}{vs:List V}(r:aj K m μ H [d,e] vs):∃v w,vs=[v,w]/\Rep K m μ H d v/\Rep K m μ H e w:=by obtain⟨v,W,rfl,h,t⟩:=r.uncons;obtain⟨w,rfl,a⟩:=t.one;lia
theorem lS{m:GS}{vs:List V}{i:Int}(r:aj K m μ H ds vs)(h:gz ds i=some d):∃v,gz vs i=some v/\Rep K m μ H d v:=by
 unfold gz at h⊢;rw[<-r.length];cases e:gx _ i with
 |none=>simp_all
 |some j=>rw[e]at h;exact r.get h
noncomputable def bp(d e:D)(S:af):Res D:=match az S d,e with
 |some xs,.int i=>match gz xs i with
  |some y=>.ok y S
  |none=>.fail
 |_,_=>.fail
theorem EW:Dh X (rD X.K X.mg bp):=by
 intro V g p s A H x y v u Q I R l h b;obtain⟨F,t,S,d,e,f,n,o,w⟩:=h;unfold bp at w;split at w
 ·rename_i q i E;split at w
  ·rename_i Y m;obtain⟨a,vs,rfl,c,r⟩:=fh f n E;cases aI o;obtain⟨z,j,k⟩:=lS r m;rcases c with c|c
   ·exact w4 _ _ _ s _ H _ _ v u Q I R l ⟨a,_,i,z,rfl,rfl,c,j,w.now f k⟩ b
   ·exact rk _ _ _ s _ H _ _ v u Q I R l ⟨a,_,i,z,rfl,rfl,c,j,w.now f k⟩ b
  ·exact w.elim
 ·exact w.elim
noncomputable def ef(ds:List D)(S:af):Res D:=match ds with
 | [.str x]=>if x.length<=bx then .ok (.int x.length) S else .fail
 | [d]=>match az S d with
  |some xs=>.ok (.int xs.length) S
  |none=>.fail
 |_=>.fail
theorem xq:ba X (.builtin "len") (rC X.K X.mg ef):=by
 intro p s k H i u Q I r h;obtain⟨F,j,S,D,c,R,w⟩:=h;have g:=jg;unfold ef at w;split at w
 ·split at w
  ·obtain⟨v,rfl,b⟩:=R.one;cases fi b;exact Es _ s _ H _ _ Q I r ⟨_,rfl,by omega,w.now c bQ⟩
  ·exact w.elim
 ·split at w
  ·rename_i x e;obtain⟨v,rfl,b⟩:=R.one;obtain⟨a,vs,rfl,d,f⟩:=fh c b e;refine Er _ s _ H _ _ Q I r ⟨a,_,rfl,d,?_⟩;rw[<-f.length];exact w.now c bQ
  ·exact w.elim
 ·exact w.elim
noncomputable def lT(ds:List D)(S:af):Res D:=match ds with
 | [.tup xs]=>.ok (.tup xs) S
 | [d]=>match az S d with
  |some xs=>.ok (.tup xs) S
  |none=>.fail
 |_=>.fail
theorem xr{m:GS}(s:aM K m μ S H)(r:Rep K m μ H d v)(e:az S d=some xs)(b:∀ys,d≠.tup ys):∃a vs,v=.ref a/\cM K H a vs/\aj K m μ H xs vs:=by
 cases d with
 |lst ys=>obtain⟨a,vs,E,h,q⟩:=da s r (show cU S _=some _ from e);exact⟨a,_,E,.of h,q⟩
 |ref n=>obtain⟨a,vs,E,h,q⟩:=da s r (show cU S _=some _ from e);exact⟨a,_,E,.of h,q⟩
 |tup ys=>simp_all
 |scr ys=>cases e;obtain⟨a,vs,e,h,q⟩:=r;exact⟨a,_,e,h.sq,q⟩
 |_=>cases e
theorem lU:ba X (.type "tuple") (rC X.K X.mg lT):=by
 intro P s m H k u Q I r h;obtain⟨F,l,S,D,f,g,w⟩:=h;unfold lT at w;split at w
 ·obtain⟨v,rfl,b⟩:=g.one;obtain⟨a,vs,rfl,c,R⟩:=bP b;exact xa _ s _ H _ _ Q I r ⟨a,_,rfl,.inr ⟨c,w.now f b⟩⟩
 ·rename_i d i;split at w
  ·rename_i x e;obtain⟨v,rfl,b⟩:=g.one;obtain⟨a,vs,rfl,c,R⟩:=xr f b e λy z=>i y (by lia);exact xa _ s _ H _ _ Q I r ⟨a,_,rfl,.inl ⟨c,λp j=>w.tup f R p j⟩⟩
  ·exact w.elim
 ·exact w.elim
noncomputable def gS(box:Bool)(ds:List D)(S:af):Res D:=match ds with
 | [d]=>match az S d with
  |some xs=>if box then .ok (.ref S.length) (S++[xs])else .ok (.lst xs) S
  |none=>.fail
 |_=>.fail
theorem rK(box:Bool):ba X (.type "list") (rC X.K X.mg (gS box)):=by
 intro P s k H i u Q I r h;obtain⟨F,j,S,D,b,g,w⟩:=h;unfold gS at w;split at w
 ·split at w
  ·rename_i x e;obtain⟨v,rfl,f⟩:=g.one;obtain⟨a,vs,rfl,d,R⟩:=fh b f e;refine Et _ s _ H _ _ Q I r ⟨a,_,rfl,d,λp c=>?_⟩;split at w
   ·exact w.box b R p c
   ·exact w.lst b R p c
  ·exact w.elim
 ·exact w.elim
noncomputable def intD(ds:List D)(S:af):Res D:=match ds with
 | [.int i]=>.ok (.int i) S
 | [.bl b]=>.ok (.int (if b then 1 else 0)) S
 |_=>.fail
theorem xt:ba X (.type "int") (rC X.K X.mg intD):=by
 intro p s e H x u Q I r h;obtain⟨F,c,S,d,b,R,w⟩:=h;unfold intD at w;split at w
 ·obtain⟨v,rfl,a⟩:=R.one;cases aI a;exact wI _ s _ H _ _ Q I r (.inl ⟨_,rfl,w.now b bQ⟩)
 ·obtain⟨v,rfl,a⟩:=R.one;cases fE a;exact wI _ s _ H _ _ Q I r (.inr ⟨_,rfl,w.now b bQ⟩)
 ·exact w.elim
noncomputable def a'(S:af):D->Option Bool
 | .non=>some false
 | .bl b=>some b
 | .int i=>some (i !=0)
 | .str x=>if x.length<=bx then some ((x.length:Int) !=0)else none
 |d=>(az S d).map λxs=> !xs.isEmpty
theorem pW{m:GS}{k:Bool}(j:aM K m μ S H)(r:Rep K m μ H d v)(e:a' S d=some k):hI K v H k:=by
 have l:=jg
 have seq:∀(x:List D),az S d=some x->k= !x.isEmpty->hI K v H k:=λx f E=>by
  obtain⟨a,vs,rfl,c,q⟩:=fh j r f;have i:=q.length;have g:x.isEmpty=vs.isEmpty:=by cases x<;>cases vs<;>simp at i⊢
  rw[g]at E;rcases c with c|c
  ·exact .inl ⟨_,c,E⟩
  ·exact .inr (.inl ⟨_,c,E⟩)
 have s:(az S d).map _=some k->hI K v H k:=λh=>by obtain⟨x,f,E⟩:=Option.map_eq_some_iff.mp h;exact seq _ f E.symm
 cases d with
 |non=>cases gB r;cases e;rfl
 |bl b=>cases fE r;cases e;rfl
 |int b=>cases aI r;cases e;rfl
 |str b=>
  cases fi r;replace e:(if b.length<=bx then some _ else none)=some k:=e;split at e
  ·cases e;exact⟨by omega,rfl⟩
  ·cases e
 |tup b=>exact s e
 |lst b=>exact s e
 |ref b=>exact s e
 |scr b=>exact s e
 |fn b=>exact s e
 |dct=>exact s e
 |dks b=>exact s e
 |ty b=>exact s e
noncomputable def aK(xs:List D)(l h:Option Int):List D:=(xs.drop (HT.bE xs.length 0 l)).take (HT.bE xs.length xs.length h-HT.bE xs.length 0 l)
theorem xu{m:GS}{vs:List V}(r:aj K m μ H ds vs):aj K m μ H (aK ds lo hi) (hU vs lo hi):=by unfold aK hU;rw[r.length];exact(r.drop _).take _
noncomputable def kS(d:D)(l h:Option Int)(S:af):Res D:=match d with
 | .tup xs=>.ok (.tup (aK xs l h)) S
 |d=>match az S d with
  |some xs=>.ok (.lst (aK xs l h)) S
  |none=>.fail
def Kk(K:Fg)(m:Mg):V->Option Int->Option Int->Hp->VK->Prop:=λx lo hi H Q=>∃F μ S d,aM K ⟨m,F⟩ μ S H/\Rep K ⟨m,F⟩ μ H d x/\aV K ⟨m,F⟩ μ H Q (kS d lo hi S)
theorem EX{t:Addr}(H:IsTup s.heap t items)(hs:s.heap.IsSliceOf sl vl vu .none)(pl:IsPart vl lo)(p:IsPart vu hi)
  (hw:HT.bE items.size 0 lo=0/\HT.bE items.size items.size hi=items.size) (h:Q (.ref t) s):wpAny (model prog w) A (getItem (.ref t) (.ref sl)) Q E s:=by
 obtain⟨o,d,c,e⟩:=id hs;have b:s.TypeIs (.ref _) _:=⟨_,d,c⟩;unfold getItem
 try with_reducible refine ZL ?_
 refine Za (wpAny_sequenceKey H.typeIs (rfl) ?_)
 refine Za (ZN H.typeIs Z1
  (ZM Z1 H.typeIs entry_tuple_getitem ?_ (args_tuple_getitem _ _)))
 show wpAny _ _ (Builtin.Tuple.tupleItemsOf _>>=_) _ _ s;refine Za (tupleItemsOf_ H ?_);refine Za (wpAny_typeOf b ?_);refine Za (HT.wT hs pl p ?_);have a:(((HT.bE items.size 0 lo:Int)==0&&(1:Int)==1&&HT.bE items.size items.size hi-HT.bE items.size 0 lo==items.size)=true):=by simp_all
 show wpAny _ _ (if(((HT.bE _ 0 _:Nat):Int)==0&&(1)==1&&(HT.bE _ _ _-HT.bE _ 0 _)==items.size)=true then _ else _) _ _ s;rw[if_pos a];refine Za ?_;refine Za (wpAny_typeOf H.typeIs (Zd ?_));exact Za (wpAny_rule (Zd ⟨_,rfl,Zd h⟩))
theorem EY:Dg X (Kk X.K X.mg):=by
 intro B s E H x v V C L m sl Q I k i P j h;obtain⟨F,D,S,d,c,R,w⟩:=h;unfold kS at w;split at w
 ·rename_i l;obtain⟨a,vs,rfl,b,r⟩:=bP R;have n:=r.length;by_cases f:HT.bE vs.length 0 L=0/\HT.bE vs.length vs.length m=vs.length
  ·cases k;obtain⟨u,y,q,A⟩:=I.tuple b;have o:=by exact y.length.symm
   refine⟨_,_,PyProof.Rows.slot_tuple_getitem.lookup,q.typeIs,?_⟩;refine EX q i P j (by simp_all) ⟨.ref a,H,I,rfl,?_⟩;have e:aK l L m=l:=by unfold aK;rw[n,f.1,f.2];simp[<-n]
   rw[e]at w;exact w.now c R
  ·exact sl_tup _ s _ H _ v _ _ _ _ _ Q I k i P j ⟨a,_,rfl,b,f,λp g=>w.tup c (xu r) p g⟩
 ·rename_i d t;split at w
  ·rename_i l e;obtain⟨a,vs,rfl,b,r⟩:=xr c R e λY z=>t _ z;exact lF _ s _ H _ v _ _ _ _ _ Q I k i P j ⟨a,_,rfl,b,λp g=>w.lst c (xu r) p g⟩
  ·exact w.elim
noncomputable def rL(S:af):D->Option String
 | .non=>some "NoneType"
 | .bl _=>some "bool"
 | .int _=>some "int"
 | .str _=>some "str"
 | .tup _=>some "tuple"
 | .lst _=>some "list"
 | .ref n=>(S[n]?).map λ_=>"list"
 | .scr _=>some "list"
 | .dct=>some "dict"
 |_=>none
noncomputable def jn(t c:String):Option Bool:=
 if ["NoneType","bool","int","str","tuple","list","dict"].contains t&&["bool","int","str","tuple","list","dict"].contains c then some (t==c||(t=="bool"&&c=="int"))else none
theorem lV{t c:String}{b:Bool}(h:jn t c=some b):PySem.W.kitOne K (.type t) (.type c)=some b:=by
 unfold jn at h;split at h
 ·rename_i H;simp at H;cases h;obtain⟨a,d⟩:=H;rcases a with rfl|rfl|rfl|rfl|rfl|rfl|rfl<;>rcases d with rfl|rfl|rfl|rfl|rfl|rfl<;>first|rfl|decide+kernel
 ·cases h
noncomputable def b5(ds:List D)(S:af):Res D:=match ds with
 | [d,.ty c]=>match rL S d with
  |some t=>bg (jn t c) S
  |none=>.fail
 |_=>.fail
theorem EZ:ba X (.builtin "isinstance") (rC X.K X.mg b5):=by
 intro P s B H V us Q I r h;obtain⟨F,μ,S,W,m,N,w⟩:=h;unfold b5 at w;split at w
 ·rename_i d c;split at w
  ·rename_i t E;obtain⟨b,J,q⟩:=fI w m;obtain⟨v,z,rfl,g,x⟩:=N.two;have k:z=.ty c:=by unfold Rep at x;exact x
   subst k;obtain⟨u,y,rfl,R,U⟩:=r.two;cases U;have e:=lV (K:=X.K) J;have fin:∀T,EP X P B Q (.bool b) {s with toks:=T}:=λT=>⟨.bl b,H,I.tok _,rfl,q⟩
   have lst:∀a vs,v=.ref a->cM X.K H a vs->t="list"->wpAny (model X.prog X.w) X.A (call _ [u,.type c]) (EP X P B Q) X.xe s:=λa vs L f E=>by subst L;subst E;cases R;obtain⟨l,O,M,_⟩:=I.list f;obtain⟨o,i,j,_⟩:=M.isList;exact PySem.W.kia_one PySem.W.kitx_list I.kIn ⟨o,i,j⟩ e (λz=>nomatch z) fin
   cases d with
   |non=>cases gB g;cases R;cases E;exact PySem.W.kia_one PySem.W.kitx_none I.kIn True.intro e (λz=>nomatch z) fin
   |bl b=>cases fE g;cases R;cases E;exact PySem.W.kia_one PySem.W.kitx_bool I.kIn True.intro e (λz=>nomatch z) fin
   |int b=>cases aI g;obtain⟨t,rfl⟩:=R;cases E;exact PySem.W.kia_one PySem.W.kitx_int I.kIn True.intro e (λz=>nomatch z) fin
   |str b=>cases fi g;obtain⟨t,rfl⟩:=R;cases E;exact PySem.W.kia_one PySem.W.kitx_str I.kIn True.intro e (λz=>nomatch z) fin
   |tup b=>obtain⟨a,vs,rfl,f,_⟩:=bP g;cases R;cases E;obtain⟨l,O,p,_⟩:=I.tuple f;obtain⟨o,i,j,_⟩:=p;exact PySem.W.kia_one PySem.W.kitx_tuple I.kIn ⟨o,i,j⟩ e (λz=>nomatch z) fin
   |lst b=>obtain⟨a,vs,rfl,f,_⟩:=da m g rfl;cases E;exact lst a vs rfl (.of f) rfl
   |ref n=>obtain⟨V,C,D⟩:=Option.map_eq_some_iff.mp E;obtain⟨a,vs,rfl,f,_⟩:=da m g C;exact lst a vs rfl (.of f) D.symm
   |scr b=>obtain⟨a,vs,rfl,f,_⟩:=g;cases E;exact lst a vs rfl f.sq rfl
   |dct=>obtain⟨a,rfl,G⟩:=g;cases R;cases E;obtain⟨_,_,vs,_,p⟩:=(show a7 X.prog X.w H s.heap a (.dK [])from I.hok a _ G);obtain⟨o,Z,Y,i,j,_⟩:=p;exact PySem.W.kia_one PySem.W.kitx_dict I.kIn ⟨o,i,j.1⟩ e (λz=>nomatch z) fin
   |fn b=>cases E
   |ty b=>cases E
   |dks b=>cases E
  ·exact w.elim
 ·exact w.elim
noncomputable def gT:D->Option Bool
 | .bl b=>some b
 |_=>none
noncomputable def fK(ds:List D)(S:af):Res D:=match ds with
 | [d]=>match az S d with
  |some xs=>bg (a_ (xs.map gT)) S
  |none=>.fail
 |_=>.fail
theorem xv{M:GS}{vs:List V}(r:aj K M μ H xs vs)(q:Vals vs its)(h:∀(j:Nat) o,(xs.map gT)[j]?=some o->o=some (eJ (xs.map gT) j)):
  ∀(i:Nat) v,its.toArray[i]?=some v->v=.bool (eJ (xs.map gT) i):=λi v l=>by
 have L:=r.length;have p:=q.length
 have a:=by simpa using l
 have n:=(Zg.mp a).1;have m:xs[i]?=some (xs[i]'(by omega)):=Zj _;obtain⟨w,g,e⟩:=r.get m;obtain⟨u,f,k⟩:=q.get g;rw[a]at f;cases f;have c:=h i (gT (xs[i]'(by omega))) (by simp_all);revert e c;generalize xs[i]'(by omega)=d;intro e c;cases d with
 |bl b=>
  cases fE e;have:=by simpa[gT]using c
  rw[<-this];exact k
 |_=>cases c
theorem rN(C:X.calm=true)(I:Inv X pq σ H s)(M:aM X.K ⟨X.mg,F⟩ μ S H)(G:Rep X.K ⟨X.mg,F⟩ μ H d v)(J:RelV v u)(e:az S d=some xs)
  (h:∀(j:Nat) o,(xs.map gT)[j]?=some o->o=some (eJ (xs.map gT) j)) (b:Bool->Bool) {Q:VK} {fb:Nat->Bool} (q:Q (.bl (fb xs.length)) H):
  wpAny (model X.prog X.w) X.A.in1 (pyIter u) (λit g=>∃I fp wr n P St,it=.ref I/\Walks X.prog X.w X.A.in1 I fp wr n P St/\St 0 g.heap/\TruthOf X.prog X.w X.A.in1 P (eJ (xs.map gT))/\
   ∀h' tk,(∀b o,b∉wr->g.heap.get? b=some o->h'.get? b=some o)->EP X pq σ Q (.bool (fb n)) {g with heap:=h',toks:=tk}) X.xe s:=by
 obtain⟨a,vs,rfl,m,r⟩:=fh M G e;cases J;have y:X.A.in1.handled=none:=I.ok.hd C;rcases m with m|m
 ·obtain⟨c,R,p,D⟩:=I.list m;have B:=xv r R h;refine wpAny_pyIter_list p.isList ?_;have k:a≠s.heap.objs.size:=by obtain⟨o,f,_⟩:=p.isList;exact Zt (Zi f)
  refine⟨_,_,_,_,_,_,rfl,Walks.list y s.heap.objs.size a k c.toArray,⟨⟨_,Zh _ rfl,rfl,rfl⟩,Heap.IsList.push p.isList _⟩,?_,λh' tk K=>?_⟩
  ·intro i v L A E w l;rw[B i v w];exact ZJ l
  ·have t:c.toArray.size=xs.length:=by rw[Zs,<-R.length,<-r.length]
   rw[t];refine⟨.bl _,H,I.kept (h':=h') (t':=tk) λb o f=>K b o ?_ (Zb _ f),rfl,q⟩;intro z;have Z:b=s.heap.objs.size:=by simpa using z
   exact absurd (Zi f) (by rw[Z];exact Nat.lt_irrefl _)
 ·obtain⟨c,R,p,D⟩:=I.tuple m;have B:=xv r R h;refine wpAny_pyIter_tuple (show s.heap.IsTuple a c.toArray from p) ?_;have k:a≠s.heap.objs.size:=by obtain⟨o,f,_⟩:=p;exact Zt (Zi f)
  refine⟨_,_,_,_,_,_,rfl,Walks.tuple y s.heap.objs.size a k c.toArray,⟨⟨_,Zh _ rfl,rfl,rfl⟩,by obtain⟨o,f,r⟩:=p;exact⟨o,Zb _ f,r⟩⟩,?_,λh' tk K=>?_⟩
  ·intro i v L A E w l;rw[B i v w];exact ZJ l
  ·have t:c.toArray.size=xs.length:=by rw[Zs,<-R.length,<-r.length]
   rw[t];refine⟨.bl _,H,I.kept (h':=h') (t':=tk) λb o f=>K b o ?_ (Zb _ f),rfl,q⟩;intro z;have Z:b=s.heap.objs.size:=by simpa using z
   exact absurd (Zi f) (by rw[Z];exact Nat.lt_irrefl _)
theorem xw(l:X.calm=true):ba X (.builtin "all") (rC X.K X.mg fK):=by
 intro x s G H B U Q I r h;obtain⟨F,C,S,D,a,R,w⟩:=h;unfold fK at w;split at w
 ·split at w
  ·rename_i d y e;obtain⟨k,E,q⟩:=fI w a;obtain⟨v,rfl,m⟩:=R.one;obtain⟨u,rfl,o⟩:=r.one;obtain⟨j,t⟩:=lQ _ _ E;have hw:=rN l I a m o e j id (Q:=Q) (fb:=λn=>(List.range n).all (eJ (y.map gT))) (by simp_all);exact call_all_walk (wpAny_mono hw (λit b ⟨_,_,_,n,P,_,A,c,f,g,i⟩=>⟨_,_,_,n,P,_,_,A,c,f,g,i⟩) λ_ _ z=>z)
  ·exact w.elim
 ·exact w.elim
def rM(K:Fg)(m:Mg)(g:D->List D->af->Res D):V->List V->Hp->VK->Prop:=λx xs H Q=>∃F μ S d ds,aM K ⟨m,F⟩ μ S H/\Rep K ⟨m,F⟩ μ H d x/\aj K ⟨m,F⟩ μ H ds xs/\aV K ⟨m,F⟩ μ H Q (g d ds S)
theorem lW{m:GS}(s:aM K m μ S H)(r:Rep K m μ H (.ref n) v)(e:S[n]?=some xs):∃a vs,v=.ref a/\μ[n]?=some a/\H a=some (.lst vs)/\aj K m μ H xs vs:=by obtain⟨a,rfl,h⟩:=r;obtain⟨vs,b,q⟩:=s.at_ n a _ h e;exact⟨a,_,rfl,h,b,q⟩
noncomputable def gD(d:D)(ds:List D)(S:af):Res D:=match d,ds with
 | .ref n,[y]=>match S[n]? with
  |some xs=>if xs.length<bx then .ok .non (S.set n (xs++[y]))else .fail
  |none=>.fail
 |_,_=>.fail
theorem E1:je X "list.append" (rM X.K X.mg gD):=by
 intro p s t H x o v u Q I k j h;obtain⟨F,q,S,d,D,c,i,R,w⟩:=h;have l:=jg;unfold gD at w;split at w
 ·split at w
  ·rename_i n y Y e;split at w
   ·obtain⟨a,vs,rfl,f,b,r⟩:=lW c i e;obtain⟨z,rfl,g⟩:=R.one;have m:=r.length;exact xh _ s _ H _ _ v _ Q I k j ⟨a,_,z,rfl,rfl,b,by omega,w.wrote c f b (r.append (.cons g .nil)) lM⟩
   ·exact w.elim
  ·exact w.elim
 ·exact w.elim
theorem aj.dropLast{m:GS}{vs:List V}(r:aj K m μ H ds vs):aj K m μ H ds.dropLast vs.dropLast:=by rw[List.dropLast_eq_take,List.dropLast_eq_take,r.length];exact r.take _
noncomputable def rO(d:D)(ds:List D)(S:af):Res D:=match d,ds with
 | .ref n,[]=>match S[n]? with
  |some xs=>match xs[xs.length-1]? with
   |some y=>.ok y (S.set n xs.dropLast)
   |none=>.fail
  |none=>.fail
 |_,_=>.fail
theorem xx:je X "list.pop" (rM X.K X.mg rO):=by
 intro p s q H x m v u Q I l k h;obtain⟨F,o,S,d,D,f,j,R,w⟩:=h;unfold rO at w;split at w
 ·split at w
  ·rename_i n Y e;split at w
   ·rename_i y E;obtain⟨a,vs,rfl,i,c,r⟩:=lW f j e;subst R;obtain⟨z,b,g⟩:=r.get E;rw[r.length]at b;exact rn _ s _ H _ _ v _ Q I l k ⟨a,_,z,rfl,rfl,c,b,w.wrote f i c r.dropLast g⟩
   ·exact w.elim
  ·exact w.elim
 ·exact w.elim
noncomputable def hW(d e f:D)(S:af):Option af:=match d,e with
 | .ref n,.int i=>match S[n]? with
  |some xs=>match gx xs.length i with
   |some j=>some (S.set n (xs.set j f))
   |none=>none
  |none=>none
 |_,_=>none
noncomputable def E2(K:Fg)(m:Mg):lf:=λo i v H Q=>∃F μ S d e f,aM K ⟨m,F⟩ μ S H/\Rep K ⟨m,F⟩ μ H d o/\Rep K ⟨m,F⟩ μ H e i/\Rep K ⟨m,F⟩ μ H f v/\
 ∃S',hW d e f S=some S'/\∀μ' H',Ext μ H μ' H'->aM K ⟨m,F⟩ μ' S' H'->Q H'
theorem xy:qJ X (E2 X.K X.mg):=by
 intro P s C H o i v O A u Q I x t y h;obtain⟨F,B,S,d,e,f,l,R,p,q,z,E,w⟩:=h;unfold hW at E;split at E
 ·split at E
  ·rename_i n k _ Y m;split at E
   ·rename_i j c;cases E;obtain⟨a,vs,rfl,g,b,r⟩:=lW l R m;cases aI p;rw[r.length]at c;exact El _ s _ H _ _ v _ _ u Q I x t y ⟨a,_,k,j,rfl,rfl,b,c,w _ _ (.wrote (Zu g) b) (l.wrote g b (r.set j q))⟩
   ·cases E
  ·cases E
 ·cases E
noncomputable def b8(env:Env):List (Str×NameKind)->List (Str×Addr)->List (Str×Addr)
 | [],cs=>cs
 | (n,k)::r,cs=>b8 env r (if k== .free then(match env.cells.lookup n with|some c=>(n,c)::cs|none=>cs)else cs)
theorem E3(h:∀x∈scope.names,x.2=.free->∃c,env.cells.lookup x.1=some c):closureFor scope env=pure (b8 env scope.names []):=by
 unfold closureFor
 have K:∀(l:List _) (C:List _),(∀x∈l,x.2=.free->∃c,env.cells.lookup x.1=some c)->
   (forIn l C λx r=>(if(x.2==NameKind.free)=true then do let c <-cellOf env x.1;pure (ForInStep.yield ((x.1,c)::r))else pure (ForInStep.yield r):Sem _))=pure (b8 env l C):=by
  intro l
  induction l with
  |nil=>intro C _;rfl
  |cons x l i=>
   intro C d;obtain⟨n,k⟩:=x;unfold b8;by_cases b:k=.free
   ·subst b;obtain⟨c,H⟩:=d (n,.free) (by simp) rfl;have a:cellOf env n=pure c:=by unfold cellOf;rw[H]
    simp_all
   grind
 grind
theorem rP{env:Env}:∀(l:List (Str×NameKind)) (cs:List (Str×Addr)),(∀p∈cs,env.cells.lookup p.1=some p.2)->∀p∈b8 env l cs,env.cells.lookup p.1=some p.2
 | [],cs,h,p,H=>h p H
 | (n,k)::r,cs,h,p,H=>by
  refine rP r _ (λq a=>?_) p H
  grind
theorem xz{env:Env}:∀(l:List (Str×NameKind)) (cs:List (Str×Addr)),∀p∈cs,p∈b8 env l cs
 | [],cs,p,h=>h
 | (n,k)::r,cs,p,h=>by
  refine xz r _ p ?_
  grind
theorem xA{env:Env}{x:Str}{c:Addr}(H:env.cells.lookup x=some c):∀(l:List (Str×NameKind)) (cs:List (Str×Addr)),(x,NameKind.free)∈l->(x,c)∈b8 env l cs
 | [],cs,h=>by cases h
 | (n,k)::r,cs,h=>by
  rcases Zk.mp h with e|h
  ·refine xz r _ _ ?_;simp_all
  ·exact xA H r _ h
theorem xB{a:Type}{x:Str}{c:a}:∀{l:List (Str×a)},(x,c)∈l->∃d,l.lookup x=some d
 | [],h=>by cases h
 | (n,d)::r,h=>by
  rw[List.lookup_cons];cases e:x==n with
  |true=>simp_all
  |false=>
   rcases Zk.mp h with E|h
   ·simp_all
   ·exact xB h
theorem xC{env:Env}:∀{N:List (Str×NameKind)} {x:Str} {k:NameKind},(N.map λ(n,k)=>if(k==NameKind.free&&env.scope.kind== .function&&env.kindOf n==some .cell)then(n,NameKind.cell)else(n,k)).lookup x=some k->
  ∃K,N.lookup x=some K/\(k=K\/(K=.free/\k=.cell))
 | [],_,_,h=>by simp_all
 | (n,a)::r,x,k,h=>by
  have i:= @xC env r x k
  grind
theorem xD{env:Env}:∀{N:List (Str×NameKind)} {x:Str},N.lookup x=some .free->
  let m:=(N.map λ(n,k)=>if(k==NameKind.free&&env.scope.kind== .function&&env.kindOf n==some .cell)then(n,NameKind.cell)else(n,k))
  m.lookup x=some .cell\/m.lookup x=some .free
 | [],_,h=>by simp_all
 | (n,K)::r,x,h=>by
  have i:= @xD env r x
  grind
theorem jo:∀(N:List (Str×NameKind)) (n:Nat) (a b:List (Str×Addr)),cellsFrom n N (a++b)=cellsFrom n N a++b
 | [],_,_,_=>rfl
 | (x,k)::r,n,a,b=>by
  show(if(k==NameKind.cell)=true then cellsFrom _ r _ else cellsFrom n r _)=(if(k==NameKind.cell)=true then cellsFrom _ r _ else cellsFrom n r a)++b;split
  ·exact jo r _ ((x,n)::a) b
  ·exact jo r n a b
theorem rQ{x:Str}{c:Addr}:∀(N:List (Str×NameKind)) (n:Nat) (a:List (Str×Addr)),(x,c)∈cellsFrom n N a->(x,c)∈a\/(x,NameKind.cell)∈N
 | [],_,_,h=>.inl h
 | (y,k)::r,n,a,h=>by
  replace h:(x,c)∈if(k==NameKind.cell)=true then cellsFrom _ r _ else cellsFrom n r a:=h;split at h
  ·rcases rQ r _ _ h with h|h
   ·grind
   simp_all
  ·rcases rQ r n _ h with h|h
   ·exact .inl h
   simp_all
theorem rR{M:Model}{A:Around}{E:Vs}:∀(n:List (Str×NameKind)) (cs:List (Str×Addr)) (s:Shared) (Q:List (Str×Addr)->Shared->Prop),Q (cellsFrom s.heap.objs.size n cs) {s with heap:=pushCells s.heap n}->
  wpAny M A (forIn n cs λx r=>match x with
   | (name,kind)=>if(kind==NameKind.cell)=true then do
     let c <-alloc {cls:=Value.type "cell",data:=Data.cell none}
     pure (ForInStep.yield ((name,c)::r))
    else pure (ForInStep.yield r)) Q E s
 | [],cs,s,Q,h=>by rw[List.forIn_nil];exact Zd h
 | (x,k)::r,cs,s,Q,h=>by
  rw[List.forIn_cons];have h:Q (if(k==NameKind.cell)=true then cellsFrom (s.heap.objs.size+1) r ((x,s.heap.objs.size)::cs)else cellsFrom s.heap.objs.size r cs) {s with heap:=if(k==NameKind.cell)=true then pushCells (s.heap.push {cls:=.type "cell",data:=.cell none}) r else pushCells s.heap r}:=h;cases a:(k==NameKind.cell)with
  |true=>rw[a,if_pos rfl,if_pos rfl]at h;refine Za ?_;show wpAny M A (if(k==NameKind.cell)=true then _ else _) _ _ _;rw[a,if_pos rfl];refine Za (wpAny_alloc (Zd ?_));refine rR r _ {s with heap:=s.heap.push {cls:=.type "cell",data:=.cell none}} Q ?_;show Q (cellsFrom (s.heap.push {cls:=.type "cell",data:=.cell none}).objs.size r _) _;rw[Heap.size_push];exact h
  |false=>rw[a,if_neg (by decide),if_neg (by decide)]at h;refine Za ?_;show wpAny M A (if(k==NameKind.cell)=true then _ else _) _ _ _;rw[a,if_neg (by decide)];refine Zd ?_;exact rR r _ s Q h
theorem E4{M:Model}{A:Around}{E:Vs}{g:Addr}{c:List (Str×Addr)}{q:Str}{out:Env}{bl:Addr}{Q:Env->Shared->Prop}
  (h:Q ⟨scope,s.heap.objs.size,g,cellsFrom (s.heap.objs.size+1) scope.names c,q,none,out.code,out.frame,out.builtins⟩ {s with heap:=pushCells (s.heap.push {cls:=.type "dict",data:=.dict #[]}) scope.names}):
  wpAny M A (newFunctionEnv scope g c [] q none .none (some out) bl) Q E s:=by
 refine Za (wpAny_alloc (Za (rR _ _ _ _ ?_)));refine Za (Zd (Zd ?_));simp_all
noncomputable def fk(X:Cx)(scope:Scope)(N:Ls)(C:Addr)(s0:Shared)(a:Hp)(f:La):Cx:=
 {X with N:=N,s₀:=s0,H₀:=a,env:=compEnvC scope (cellsFrom (C+1) scope.names (b8 X.env scope.names [])) C X.env,outer:=X.stack,stack:=X.stack,ex:=f,fn:=λx=>scope.names.lookup x==some .cell,pn:=[],xe:=λ_ _=>False}
structure dA (X:Cx)(scope:Scope):Prop where
 kind:scope.kind=.function
 cel:∀y∈scope.names,y.2=.cell->scope.names.lookup y.1=some .cell
 loc:∀y∈scope.names,y.2=.local->scope.names.lookup y.1=some .local
 free:∀y∈scope.names,y.2=.free->X.env.kindOf y.1=some .cell\/X.env.kindOf y.1=some .free
theorem jp(I:Inv X pq σ H s){b:Addr}(h1:b≠X.env.locals)(h:b∉X.fs):b∉bG X.stack:=λz=>(Zk.mp (I.stkSub b z)).elim h1 h
theorem gE{x:Str}{c:Addr}(h:(cellsFrom n scope.names (b8 X.env scope.names [])).lookup x=some c):(cellsFrom n scope.names []).lookup x=some c\/((cellsFrom n scope.names []).lookup x=none/\(b8 X.env scope.names []).lookup x=some c):=by have e:=jo scope.names n [] (b8 X.env scope.names []);rw[List.nil_append]at e;rw[e,List.lookup_append]at h;simp_all
theorem E5{x:Str}{c:Addr}(h:(cellsFrom n scope.names []).lookup x=some c):(cellsFrom n scope.names (b8 X.env scope.names [])).lookup x=some c:=by
 have e:=jo scope.names n [] (b8 X.env scope.names [])
 grind
theorem xE{x:Str}{c:Addr}(h:(cellsFrom n scope.names []).lookup x=none)(H:(b8 X.env scope.names []).lookup x=some c):(cellsFrom n scope.names (b8 X.env scope.names [])).lookup x=some c:=by
 have e:=jo scope.names n [] (b8 X.env scope.names [])
 grind
theorem E6{m:Mg}{tk:Nat}(hc:X.calm=true)(I:Inv X pq σ H s)(S:dA X scope)(R:∀b∈fp,c9 X pq H b)(T:∀b∈fp,∃o,s.heap.get? b=some o)
  (hn:h1.Ns s.heap.objs.size m) (old:∀b o,s.heap.get? b=some o->h1.get? b=some o) (f:CellsOk h1 (s.heap.objs.size+1) (cellsFrom (s.heap.objs.size+1) scope.names [])) (hl:σ'.length=N.length)
  (Z:∀(i:Nat) (v:V) (x:Str),N[i]?=some x->σ'[i]?=some (some v)->scope.names.lookup x=some .free/\∃j:Nat,X.N[j]?=some x/\σ[j]?=some (some v)):
  Inv (fk X scope N s.heap.objs.size s H fp) (X.pn++pq) σ' H {s with heap:=h1,toks:=tk}:=by
 have lt:∀{b:Addr} {o:Obj},s.heap.get? b=some o->b≠s.heap.objs.size:=λe=>Zt (Zi e);have C:∀x c,(b8 X.env scope.names []).lookup x=some c->X.env.cells.lookup x=some c:=λx c h=>rP scope.names [] (λ_ z=>nomatch z) (x,c) (ZA h);have a:∀x c,X.env.cells.lookup x=some c->c<s.heap.objs.size:=λx c h=>by obtain⟨v,q⟩:=I.cell x c h;exact q.lt
 have O:∀x c,(cellsFrom (s.heap.objs.size+1) scope.names []).lookup x=some c->h1.IsCell c none/\s.heap.objs.size+1<=c:=λx c h=>f.empty x c (ZA h)
 have G:∀x c,(cellsFrom (s.heap.objs.size+1) scope.names []).lookup x=some c->scope.names.lookup x=some .cell:=λx c h=>by
  rcases rQ scope.names _ _ (ZA h)with z|z
  ·cases z
  ·exact S.cel _ z rfl
 have E:∀x,scope.names.lookup x=some .free->(cellsFrom (s.heap.objs.size+1) scope.names []).lookup x=none/\∃c,(b8 X.env scope.names []).lookup x=some c:=λx h=>by
  refine⟨?_,?_⟩
  ·cases z:(cellsFrom (s.heap.objs.size+1) scope.names []).lookup x with
   |none=>rfl
   |some c=>have:=G x c z;rw[h]at this;cases this
  ·have hm:=ZA h;obtain⟨c,w⟩:=I.ok.has x (S.free _ hm rfl);exact xB (xA w scope.names [] hm)
 have f6:∀x,((fk X scope N s.heap.objs.size s H fp).env.kindOf x=some .cell\/(fk X scope N s.heap.objs.size s H fp).env.kindOf x=some .free)->scope.names.lookup x=some .free\/scope.names.lookup x=some .cell:=λx h=>by
  have go:∀k,(k=NameKind.cell\/k=.free)->(relabel scope X.env).names.lookup x=some k->scope.names.lookup x=some .free\/scope.names.lookup x=some .cell:=λk U h=>by
   obtain⟨k',h1,g⟩:=xC h;rcases g with rfl| ⟨rfl,_⟩
   ·rcases U with rfl|rfl
    ·exact .inr h1
    ·exact .inl h1
   ·exact .inl h1
  rcases h with h|h
  ·exact go _ (.inl rfl) h
  ·exact go _ (.inr rfl) h
 have A:∀x y c,(cellsFrom (s.heap.objs.size+1) scope.names []).lookup x=some c->(cellsFrom (s.heap.objs.size+1) scope.names []).lookup y=some c->x=y:=λx y c h1 g=>by
  have m1:=ZA h1;have m2:=ZA g;have ap:=f.apart;generalize cellsFrom (s.heap.objs.size+1) scope.names []=l at m1 m2 ap
  induction l with
  |nil=>cases m1
  |cons p l ih=>
   obtain⟨a1,a2⟩:=ZW.mp ap
   grind
 refine⟨⟨I.ok.mod,?_,I.ok.glob,I.ok.blt,Zf _,λx y c h1 g=>?_,λx h=>?_,λx c h g=>?_,I.ok.hd,I.ok.frames,.inl rfl,λb B=>?_,I.bs,ZC I.ok.bsz I.sz,λb o e B=>?_,λb B=>?_,I.stack,I.stkFree⟩,
  rfl,I.bare,Un.kept old,⟨m,hn,λi x v e1 e2 e3=>?_⟩,λx c h=>?_,I.hok.fresh (Zf _),λx c h=>?_,λp hp=>?_,I.hok.kept old,hl⟩
 ·show(relabel scope X.env).kind=.function;unfold relabel;exact S.kind
 ·rcases gE h1 with z| ⟨_,z⟩<;>rcases gE g with Y| ⟨_,Y⟩
  ·exact A x y c z Y
  ·exact absurd (a _ _ (C _ _ Y)) (Nat.not_lt.mpr (Nat.le_of_succ_le (O _ _ z).2))
  ·exact absurd (a _ _ (C _ _ z)) (Nat.not_lt.mpr (Nat.le_of_succ_le (O _ _ Y).2))
  ·exact I.ok.inj x y c (C x c z) (C y c Y)
 ·rcases f6 x h with h|h
  ·obtain⟨z,c,t⟩:=E x h;exact⟨c,xE z t⟩
  ·have:=PySem.W.cellsFrom_some (x:=x) scope.names (s.heap.objs.size+1) [] (.inl h);obtain⟨c,t⟩:=Option.isSome_iff_exists.mp this;exact⟨c,E5 t⟩
 ·have U:scope.names.lookup x=some .cell:=by simpa[fk]using h
  rcases gE g with z| ⟨z,_⟩
  ·exact Nat.le_of_succ_le (O _ _ z).2
  ·have:=PySem.W.cellsFrom_some (x:=x) scope.names (s.heap.objs.size+1) [] (.inl U);rw[z]at this;cases this
 ·obtain⟨f0,L,M,F,P,f5⟩:=R b B;obtain⟨o,D⟩:=T b B;refine⟨lt D,λx c h=>?_⟩;rcases gE h with z| ⟨_,z⟩
  ·exact λq=>absurd (Zi D) (Nat.not_lt.mpr (q▸Nat.le_of_succ_le (O _ _ z).2))
  ·exact P x c (C x c z)
 ·obtain⟨f0,L,M,F,P,f5⟩:=R b B;rcases F with F|F
  ·exact I.ok.noex b o e F
  ·exact absurd (Zi (I.ok.bs b o e).1) (Nat.not_lt.mpr F)
 ·obtain⟨f0,L,M,F,P,f5⟩:=R b B;exact jp I L M
 ·obtain⟨J,j,g2,g3⟩:=Z i v x e1 e2;obtain⟨m0,_,l0⟩:=I.loc
  have hv:we X.env.scope x:=by
   rcases S.free _ (ZA J) rfl with q|q
   ·exact .inr (.inl q)
   ·exact .inr (.inr q)
  obtain⟨u,r,q⟩:=l0 j x v g2 g3 hv;refine⟨u,r,.inr ⟨xD J,?_⟩⟩;obtain⟨z,c,f⟩:=E x J;have w:=C x c f;refine⟨c,xE z f,?_⟩;have K:=S.free _ (ZA J) rfl;rcases q with⟨q,_⟩| ⟨_,c',q1,q2⟩
  ·rcases K with K|K
   ·rw[q]at K;cases K
   ·rw[q]at K;cases K
  ·rw[w]at q1;cases q1;obtain⟨o,D,Q⟩:=q2;exact⟨o,old _ _ D,Q⟩
 ·rcases gE h with z| ⟨_,z⟩
  ·exact⟨none,(O _ _ z).1⟩
  ·obtain⟨v,o,D,Q⟩:=I.cell x c (C x c z);exact⟨v,o,old _ _ D,Q⟩
 ·rcases gE h with z| ⟨_,z⟩
  ·exact I.hok.fresh (Nat.le_of_succ_le (O _ _ z).2)
  ·exact I.freeC x c (C x c z)
 ·have W:p∈X.pn++pq:=by simpa[fk]using hp
  obtain⟨e,n,ne,nf,d⟩:=I.pin p W;exact⟨old _ _ e,n,lt e,jp I ne nf,d⟩
theorem E7(I:Inv X pq σ H s)(j:∀b∈fp,c9 X pq H b)(i:C=s.heap.objs.size)(J:Inv (fk X scope N C s H fp) pins' σ' H' s')(hs:Heap.SameBut C s'.heap h'):
  Inv X pq σ H' {s' with heap:=h'}:=by
 have ne:∀{b:Addr} {o:Obj},s.heap.get? b=some o->b≠C:=λe=>by rw[i];exact Zt (Zi e)
 have B:=J.base
 have u:Un _ _ H _ _ _:=
  ⟨λb o e n h a=>(hs.2 b (ne e)).trans (B.keep b o e n h a),λb o e n h a=>by obtain⟨sl,q⟩:=B.slot b o e n h a;exact⟨_,(hs.2 b (ne e)).trans q⟩,B.free,
   λb o e a=>by obtain⟨t,q⟩:=B.there b o e a;exact⟨_,(hs.2 b (ne e)).trans q⟩,B.tups,B.frzs,B.tbls⟩
 have d:H' C=none:=J.free
 have f:=λb O e=>by
  refine(J.hok b O e).stay (λc w r q=>(hs.2 c ?_).trans q) (λ_ q=>q) λ_ _ q=>q
  grind
 exact I.call' J.os u f J.bare λb h=>by obtain⟨f0,F,k,l,m,p⟩:=j b h;lia
def PB(X:Cx)(body:Sem Unit)(t:L2.St->Hp->(L2.St->Hp->Prop)->Prop):Prop:=
 ∀(pq:Lp) (s:Shared) (σ:L2.St) (H:Hp) (Q:L2.St->Hp->Prop),Inv X pq σ H s->t σ H Q->wpAny (model X.prog X.w) X.A body (λ_ s'=>∃σ' H',Inv X pq σ' H' s'/\Q σ' H') X.xe s
theorem fL{m:Sem α}{Q:α->Shared->Prop}(H:X.xe=λ_ _=>False)(h:wpAny M A m Q X.xe s):wpAny M A m Q E s:=by rw[H]at h;exact wpAny_mono h (λ_ _ q=>q) λ_ _ z=>z.elim
noncomputable def hX:Expr->Bool
 | .ListComp .. =>true
 | .SetComp .. =>true
 |_=>false
theorem lX(h:hX ce=true){d:Nat}{it a:Value}:(model prog w).den (.compLoop ce d it a env)=(compTurn ce d it a env).onRaise (λx=>do noteFrame x env;theTreesLotGoes x)/\A.under (.compLoop ce d it a env)=A/\(model prog w).den (.compStart ce d it a env)=(compStart ce d it a env).onRaise (λx=>do noteFrame x env;standAt theWindowsPlace)/\A.under (.compStart ce d it a env)=A:=by cases ce<;>first|exact⟨rfl,rfl,rfl,rfl⟩|cases h
theorem xF{d:Nat}{c:Value}{p:Pos}{body:Sem Unit}{J:It}{R:Result->Shared->Prop}{Fin:L2.St->Hp->Prop}
  (k:hX ce=true) (l:X.xe=λ_ _=>False) (O:X.calm=true)
  (C:compTurn ce d (.ref it) c X.env=(standAt p>>=λ_=>pyNext (.ref it)>>=λr=>match r with
   |none=>pure (.done .next)
   |some v=>letOwnedTupleGo tg (.ref it) v>>=λ_=>assign tg X.env v>>=λ_=>body>>=λ_=>again (.compLoop ce d (.ref it) c X.env)))
  (T:Turn X.prog X.w X.K tg J fp it tn) (hg:PG X tg g) (h:PB X body tb) (I:Inv X pq σ H s) (st:tn 0 s.heap) (P:∀b∈fp,c9 X pq H b)
  (W:∃W:Nat->Nat->L2.St->Hp->Prop,(∃m,W 0 m σ H)/\∀i m σ H,W i m σ H->
   (J.stop i H/\Fin σ H)\/(J.go i H/\∃Nx:L2.St->Hp->Prop,(∀σ' H',Nx σ' H'->∃M,M<m/\W (i+1) M σ' H')/\∀x H',J.yld i H x H'->g x σ H' λE H2=>tb E H2 Nx))
  (hR:∀s' σ' H',Inv X pq σ' H' s'->(∀b∈fp,H' b=none)->Fin σ' H'->R (.ok .next) s'):codeAny (model X.prog X.w) X.A (.compLoop ce d (.ref it) c X.env) R s:=by
 obtain⟨W,⟨m0,w0⟩,turn⟩:=W;have S:∀{H':Hp},(∀b∈fp,H' b=none)->∀b∈fp,c9 X pq H' b:=λhn b h=>⟨hn b h,(P b h).2⟩;refine codeAny_loop rfl (λn s'=>∃i σ' H',Inv X pq σ' H' s'/\tn i s'.heap/\(∀b∈fp,H' b=none)/\W i n σ' H') ?_ m0 ⟨0,σ,H,I,st,λb h=>(P b h).1,w0⟩;rintro n U ⟨i,a,y,N,q,f,w3⟩;rw[(lX (A:=X.A) k).1,(lX (prog:=X.prog) (w:=X.w) k).2.1];refine wpAny_noted ?_;rw[C];refine Za (wpAny_standAt ?_);rcases turn i n a y w3 with⟨stop,qn⟩| ⟨go,Nx,hN,step⟩
 ·refine Za (fL l (aR (T.done X rfl rfl rfl O i pq U a y X.xe N (S f) q stop) λr V ⟨D,Z⟩=>?_));subst D;exact Zd (hR V a y Z f qn)
 ·refine Za (fL l (aR (T.item X rfl rfl rfl O i pq U a y X.xe N (S f) q go) λr V ⟨u,D,h4⟩=>?_));subst D;refine Za (fL l (aR h4 λ_ s5 ⟨x,K,I5,r5,y5,j,F⟩=>?_));have z:=I5.pinned (S F) (T.obj _ _ j);refine Za (fL l (aR (hg _ s5 a K x u _ z r5 (step x K y5)) λ_ s6 ⟨G,Y,I6,q6⟩=>?_));refine Za (fL l (aR (h _ s6 G Y _ I6 q6) λ_ s7 ⟨t,L,B,n7⟩=>?_));refine Zd ?_;obtain⟨M,hm,w7⟩:=hN t L n7;refine⟨rfl,M,hm,i+1,t,L,B.unpinned,T.keep _ _ _ j λb h o e=>(B.pin (b,o) (Zz _ (Zz _ (ll h e)))).1,λb h=>?_,w7⟩;obtain⟨o,e,d⟩:=T.obj _ _ j b h;exact(B.pin (b,o) (Zz _ (Zz _ (ll h e)))).2.1
theorem xG{R:Result->Shared->Prop}{d:Nat}{it a:Value}{t i:Expr}{fs:Lx}(H:hX ce=true)(e:(clausesOf ce)[d]?=some ⟨t,i,fs,0⟩)
  (c:codeAny (model prog w) A (.compLoop ce d it a env) R s)
  (h:wpAny (model prog w) A (pyIter it) (λI s'=>codeAny (model prog w) A (.compLoop ce d I a env) R s') (notedBy (model prog w) A env λx s'=>R (.error x) s') s):
  codeAny (model prog w) A (.compStart ce d it a env) R s:=by
 refine codeAny_of_tree ?_;rw[(lX (A:=A) H).2.2.1,(lX (prog:=prog) (w:=w) H).2.2.2];refine wpAny_notedAt ?_;unfold compStart;rw[e];refine Za (wpAny_askSetting (wpAny_ite ?_));split
 ·first
   |grind
   |exact Zd (And.intro rfl c)
 ·first
   |exact Za (wpAny_rule (Za (wpAny_standAt (Za (wpAny_mono h (λI s' b=>Zd (And.intro rfl b)) λ_ _ x=>x)))))
   |simp_all
abbrev TU:=L2.St->Hp->(L2.St->Hp->Prop)->Prop
noncomputable def lY:List TT->(L2.St->Hp->(Bool->Hp->Prop)->Prop)
 | []=>λ_ H Q=>Q true H
 |t::r=>λσ H Q=>t σ H λb H1=>if b=true then lY r σ H1 Q else Q false H1
noncomputable def xH(X:Cx):Lx->List TT->Prop
 | [],[]=>True
 |e::es,t::ts=>PT X e t/\xH X es ts
 |_,_=>False
theorem xI{M:Model}{A:Around}{E:Vs}{env:Env}{Q:Bool->Shared->Prop}{s:Shared}:∀(ifs:Lx),Q false s->
  wpAny M A (forIn ifs false λc r=>if r=true then do let ok <-isTrue c env (eval c env);pure (ForInStep.yield ok)else pure (ForInStep.yield r)) Q E s
 | [],h=>Zd h
 |c::r,h=>by rw[List.forIn_cons];exact Za (Zd (xI r h))
theorem xJ:∀(ifs:Lx) (ts:List TT),xH X ifs ts->∀(pq:Lp) (s:Shared) (σ:L2.St) (H:Hp) (Q:Bool->Hp->Prop),Inv X pq σ H s->lY ts σ H Q->
  wpAny (model X.prog X.w) X.A (forIn ifs true λc r=>if r=true then do let ok <-isTrue c X.env (eval c X.env);pure (ForInStep.yield ok)else pure (ForInStep.yield r)) (TP X pq σ Q) X.xe s
 | [],[],_,pq,s,σ,H,Q,I,h=>Zd ⟨H,I,h⟩
 |e::E,t::ts,p,pq,s,σ,H,Q,I,h=>by
  rw[List.forIn_cons];refine Za (Za (aR (p.1 _ s _ H _ I h) λb S ⟨_,a,q⟩=>Zd ?_));cases b with
  |true=>exact xJ _ _ p.2 _ _ _ _ Q a q
  |false=>exact xI _ ⟨_,a,q⟩
 | [],_::_,p,_,_,_,_,_,_,_=>p.elim
 |_::_,[],p,_,_,_,_,_,_,_=>p.elim
noncomputable def xK(a:Addr)(t:TE):TU:=λσ H Q=>t σ H λv H1=>∃ys,H1 a=some (.lst ys)/\ys.length<sizeLine/\Q σ (aZ H1 a (.lst (ys++[v])))
noncomputable def xL(ts:List TT)(t:TU):TU:=λσ H Q=>lY ts σ H λb H1=>if b=true then t σ H1 Q else Q σ H1
noncomputable def rS(w:TI)(g:TG)(tb:TU):TU:=λσ H Q=>w σ H λJ H1=>∃W:Nat->Nat->L2.St->Hp->Prop,(∃m,W 0 m σ H1)/\∀i m σ H,W i m σ H->
   (J.stop i H/\Q σ H)\/(J.go i H/\∃N:L2.St->Hp->Prop,(∀σ' H',N σ' H'->∃M,M<m/\W (i+1) M σ' H')/\∀x H',J.yld i H x H'->g x σ H' λa H2=>tb a H2 N)
noncomputable def jq(o0:Addr->HO)(cs:L2.St->L2.St)(w:TI)(g:TG)(tb:Addr->TU):TE:=λσ H Q=>w σ H λJ H1=>∀acc,H1 acc=none->
 ∃W:Nat->Nat->L2.St->Hp->Prop,(∃m,W 0 m (cs σ) (aZ H1 acc (o0 acc)))/\∀i m σ H,W i m σ H->
   (J.stop i H/\Q (.ref acc) H)\/(J.go i H/\∃N:L2.St->Hp->Prop,(∀σ' H',N σ' H'->∃M,M<m/\W (i+1) M σ' H')/\∀x H',J.yld i H x H'->g x σ H' λa H2=>tb acc a H2 N)
def lZ(X:Cx)(scope:Scope)(N:Ls)(cs:L2.St->L2.St):Prop:=∀σ:L2.St,σ.length=X.N.length->(cs σ).length=N.length/\
 ∀(i:Nat) (v:V) (x:Str),N[i]?=some x->(cs σ)[i]?=some (some v)->scope.names.lookup x=some .free/\∃j:Nat,X.N[j]?=some x/\σ[j]?=some (some v)
theorem xM(I:Inv X pq σ H s)(S:dA X scope):closureFor scope X.env=pure (b8 X.env scope.names []):=
 E3 λx a h=>I.ok.has _ (S.free x a h)
theorem E8(H:Heap)(d:Obj)(n:List (Str×NameKind)):CellsOk (pushCells (H.push d) n) (H.objs.size+1) (cellsFrom (H.objs.size+1) n []):=by have:=cellsFrom_ok n (H.push d) (H.objs.size+1) _ ⟨(λ_ _ h=>by cases h),.nil⟩ (by simp_all);simp_all
theorem xN{G:List Comprehension}{O:Obj}{o0:Addr->HO}{mk:Sem Value}{scope:Scope}{N:Ls}{cs:L2.St->L2.St}{J:It}{g:TG}{tb:Addr->TU}{R:Value->Addr->Result->Shared->Prop}{Fin:V->Hp->Prop}
  {P:Lp} {σ:L2.St} {H:Hp}  {it:Addr} {f:La} {tn:Nat->Heap->Prop} {E:Vs} (D:hX ce=true) (hce:clausesOf ce=⟨tg,iter,ifs,0⟩::G) (hmk:∀{s:Shared} {Q:Vs},Q (.ref s.heap.objs.size) {s with heap:=s.heap.push O}->wpAny (model X.prog X.w) X.A mk Q E s) (hob:a7 X.prog X.w (aZ H s.heap.objs.size (o0 s.heap.objs.size)) (s.heap.push O) s.heap.objs.size (o0 s.heap.objs.size)) (hc:X.calm=true) (sc:dA X scope) (hcs:lZ X scope N cs) (I:Inv X P σ H s) (T:Turn X.prog X.w X.K tg J f it tn) (st:tn 0 s.heap) (hf:∀b∈f,c9 X P H b)
  (body:Addr->Env->Sem Unit)
  (heq:∀(acc:Addr) (env:Env),compTurn ce 0 (.ref it) (.ref acc) env=(standAt iter.pos>>=λ_=>pyNext (.ref it)>>=λr=>match r with
   |none=>pure (.done .next)
   |some v=>letOwnedTupleGo tg (.ref it) v>>=λ_=>assign tg env v>>=λ_=>body acc env>>=λ_=>again (.compLoop ce 0 (.ref it) (.ref acc) env)))
  (hin:∀(C:Addr) (s0:Shared) (H0:Hp) (f:La) (acc:Addr),PG (fk X scope N C s0 H0 f) tg g/\PB (fk X scope N C s0 H0 f) (body acc (fk X scope N C s0 H0 f).env) (tb acc))
  (W:∀acc,H acc=none->∃W:Nat->Nat->L2.St->Hp->Prop,(∃m,W 0 m (cs σ) (aZ H acc (o0 acc)))/\∀i m σ H,W i m σ H->
   (J.stop i H/\Fin (.ref acc) H)\/(J.go i H/\∃Nx:L2.St->Hp->Prop,(∀σ' H',Nx σ' H'->∃m',m'<m/\W (i+1) m' σ' H')/\∀x H',J.yld i H x H'->g x σ H' λσ2 H2=>tb acc σ2 H2 Nx))
  (hR:∀(acc C:Addr) (s':Shared) (H':Hp) (m:Mg),s'.heap.Ns C m->C≠X.env.locals->(∀x c,X.env.cells.lookup x=some c->c≠C)->H' C=none->X.s₀.heap.objs.size<=C->(∀p∈X.pn++P,p.1≠C)->(∀h',Heap.SameBut C s'.heap h'->Inv X P σ H' {s' with heap:=h'})->Fin (.ref acc) H'->R (.ref acc) C (.ok .next) s'):
  wpAny (model X.prog X.w) X.A mk (λacc K=>wpAny (model X.prog X.w) X.A (newFunctionEnv scope X.env.globals (b8 X.env scope.names []) [] X.env.qual none .none (some X.env)) (λl M=>
   codeAny (model X.prog X.w) X.A (.compStart ce 0 (.ref it) acc {l with scope:=relabel scope X.env}) (R acc l.locals) M) E K) E s:=by
 refine hmk (E4 ?_);have hfr:H s.heap.objs.size=none:=I.hok.fresh (Zf _);have u:Inv X P σ (aZ H s.heap.objs.size (o0 s.heap.objs.size)) {s with heap:=s.heap.push O,toks:=s.toks}:=I.laid (t':=s.toks) (λb o e=>Zb _ e) (Zf _) hob;have A:∀b∈f,∃o,s.heap.get? b=some o:=λb j=>by obtain⟨o,e,_⟩:=T.obj _ _ st b j;exact⟨o,e⟩
 have w:∀b∈f,c9 X P (aZ H s.heap.objs.size (o0 s.heap.objs.size)) b:=λb j=>by obtain⟨f0,Z⟩:=hf b j;obtain⟨o,y⟩:=A b j;exact⟨by rw[aF (Zt (Zi y))];exact f0,Z⟩
 have F:∀b∈f,∃o,(s.heap.push O).get? b=some o:=λb j=>by obtain⟨o,y⟩:=A b j;exact⟨o,Zb _ y⟩
 obtain⟨k1,k2⟩:=hcs σ I.len;obtain⟨a,U⟩:∃a,a=pushCells ((s.heap.push O).push {cls:=.type "dict",data:=.dict #[]}) scope.names:=⟨_,rfl⟩;have n:∀b o,(s.heap.push O).get? b=some o->a.get? b=some o:=λb o e=>by rw[U];exact pushCells_keeps _ _ _ _ (Zb _ e)
 have k:a.Ns (s.heap.push O).objs.size λ_=>none:=by rw[U];exact⟨_,_,_,pushCells_keeps _ _ _ _ (Zh _ rfl),rfl,(λx h=>by simp at h),λ_=>rfl⟩
 have B:CellsOk a ((s.heap.push O).objs.size+1) (cellsFrom ((s.heap.push O).objs.size+1) scope.names []):=by rw[U];exact E8 _ _ _
 rw[<-U];have J0:=E6 (tk:=s.toks) (N:=N) (scope:=scope) (σ':=cs σ) hc u sc w F k n B k1 k2;have old:∀b o,s.heap.get? b=some o->a.get? b=some o:=λb o e=>n b o (Zb _ e);have S:tn 0 a:=T.keep _ _ _ st λb _ o e=>old b o e;have hlt:X.env.locals<(s.heap.push O).objs.size:=u.lt
 have L:codeAny (model X.prog X.w) X.A (.compLoop ce 0 (.ref it) (.ref s.heap.objs.size) (fk X scope N (s.heap.push O).objs.size {s with heap:=s.heap.push O,toks:=s.toks} (aZ H s.heap.objs.size (o0 s.heap.objs.size)) f).env)
   (R (.ref s.heap.objs.size) (s.heap.push O).objs.size) {s with heap:=a,toks:=s.toks}:=by
  obtain⟨p1,p2⟩:=hin (s.heap.push O).objs.size {s with heap:=s.heap.push O,toks:=s.toks} (aZ H s.heap.objs.size (o0 s.heap.objs.size)) f s.heap.objs.size;refine xF (X:=fk X scope N _ _ _ f) (Fin:=λ_ H'=>Fin (.ref s.heap.objs.size) H') D rfl hc (heq _ _) T p1 p2 J0 S (λb j=>?_) ?_ ?_
  ·obtain⟨f0,Z,f2,f3,f4,f5⟩:=w b j;obtain⟨o,y⟩:=F b j;refine⟨f0,Zt (Zi y),jp u Z f2,.inl j,λx c h=>?_,λp hp=>f5 p (by simpa[fk]using hp)⟩;rcases gE h with z| ⟨_,z⟩
   ·exact λq=>absurd (Zi y) (Nat.not_lt.mpr (q▸Nat.le_of_succ_le (B.empty x c (ZA z)).2))
   ·exact f4 x c (rP scope.names [] (λ_ z=>nomatch z) (x,c) (ZA z))
  ·exact W _ hfr
  ·intro s' σ' H' Y _ fin;obtain⟨m,hm,_⟩:=id Y.loc;refine hR _ _ s' H' m hm (Nat.ne_of_gt hlt) (λx c h z=>?_) Y.free u.sz (λp hp z=>?_) (λh' hs'=>?_) fin
   ·obtain⟨v,q⟩:=u.cell x c h;exact absurd q.lt (by rw[z];exact Nat.lt_irrefl _)
   ·exact absurd (Zi (u.pin p hp).1) (by rw[z];exact Nat.lt_irrefl _)
   ·exact E7 u w rfl Y hs'
 exact xG D (by rw[hce];rfl) L (T.self _ 0 _ _ _ S L)
theorem l4{R:List Comprehension}{pos:Pos}{cs:L2.St->L2.St}{tb:Addr->TU}(n:X.calm=true)(S:dA X scope)(a:lZ X scope N cs)(o:PI X tg iter wi)(body:Addr->Env->Sem Unit)
  (b:∀(it acc:Addr) (env:Env),compTurn (.ListComp elt (⟨tg,iter,ifs,0⟩::R) scope pos) 0 (.ref it) (.ref acc) env=(standAt iter.pos>>=λ_=>pyNext (.ref it)>>=λr=>match r with
   |none=>pure (.done .next)
   |some v=>letOwnedTupleGo tg (.ref it) v>>=λ_=>assign tg env v>>=λ_=>body acc env>>=λ_=>again (.compLoop (.ListComp elt (⟨tg,iter,ifs,0⟩::R) scope pos) 0 (.ref it) (.ref acc) env)))
  (c:∀(C:Addr) (s0:Shared) (H0:Hp) (fp:La) (acc:Addr),PG (fk X scope N C s0 H0 fp) tg g/\PB (fk X scope N C s0 H0 fp) (body acc (fk X scope N C s0 H0 fp).env) (tb acc))
  (hs:∀x,foldedSetIterable iter X.env x=pure x:=by intro _;rfl):PE X (.ListComp elt (⟨tg,iter,ifs,0⟩::R) scope pos) (jq (λ_=>.lst []) cs wi g tb):=by
 intro P s E H Q I h;refine wpAny_comprehension_free rfl hs (xM I S) S.kind S.loc (wpAny_mono (o _ s _ H _ I h) (λv A j=>wpAny_mono j (λt B k=>?_) λ_ _ e=>e) λ_ _ e=>e);obtain⟨it,fp,D,J,w,e,i,T,f,F,W⟩:=k;subst e;refine xN (o0:=λ_=>.lst _) rfl rfl (λq=>Z0 q) ⟨Z2 _,_,0,.nil,Zh _ rfl⟩ n S a i T f F _ (b _) c W ?_;intro acc C z u m p _ _ _ _ _ l fin;exact⟨m,p,λy d=>⟨.ref _,_,l _ d,rfl,fin⟩⟩
theorem l5{R:List Comprehension}{pos S P:Pos}{cs:L2.St->L2.St}{tb:Addr->TU}{x:Str}{j:Nat}(hc:X.calm=true)(Z:X.N.Nodup)(hj:X.N[j]?=some x)(F:X.env.scope.names.lookup x=some .local)
  (B:swapsWith (.ListComp elt (⟨tg,iter,ifs,0⟩::R) scope pos) (some (.Name x P)) S.line X.env=pure true)
  (c:dA X scope) (u:lZ X scope N cs) (hi:PI X tg iter wi) (body:Addr->Env->Sem Unit)
  (w:∀(it acc:Addr) (env:Env),compTurn (.ListComp elt (⟨tg,iter,ifs,0⟩::R) scope pos) 0 (.ref it) (.ref acc) env=(standAt iter.pos>>=λ_=>pyNext (.ref it)>>=λr=>match r with
   |none=>pure (.done .next)
   |some v=>letOwnedTupleGo tg (.ref it) v>>=λ_=>assign tg env v>>=λ_=>body acc env>>=λ_=>again (.compLoop (.ListComp elt (⟨tg,iter,ifs,0⟩::R) scope pos) 0 (.ref it) (.ref acc) env)))
  (y:∀(C:Addr) (s0:Shared) (H0:Hp) (fp:La) (acc:Addr),PG (fk X scope N C s0 H0 fp) tg g/\PB (fk X scope N C s0 H0 fp) (body acc (fk X scope N C s0 H0 fp).env) (tb acc))
  (hs:∀x,foldedSetIterable iter X.env x=pure x:=by intro _;rfl):PS X (.Assign [.Name x P] (.ListComp elt (⟨tg,iter,ifs,0⟩::R) scope pos) S) (li (jq (λ_=>.lst []) cs wi g tb) (dP j)):=by
 intro pq s K H D I h;rw[exec_Assign_Name_used _ _ _ _ B];refine Za (wpAny_standAt (Za ?_))
 refine Za (wpAny_mono (wpAny_comprehension_free rfl hs (xM I c) c.kind c.loc
  (wpAny_mono (hi pq s K H _ I h) (λv s1 U=>wpAny_mono U (λitv s2 V=>?_) λ_ _ e=>e) λ_ _ e=>e)) (λ_ G hq=>Zd (Zd hq)) λ_ _ e=>e)
 obtain⟨it,fp,tn,J,H2,e,L,T,E,Q,W⟩:=V;subst e;refine xN (o0:=λ_=>.lst []) rfl rfl (λq=>Z0 q) ⟨Z2 _,[],0,.nil,Zh _ rfl⟩ (Fin:=λv d=>dP j v K d D.nx) hc c u L T E Q body (w it) y W ?_;intro acc C G d m hm l p f i k Y fin;have M:=by have:=Y G.heap (.refl ..);simpa using this
 refine wpAny_assign_Name (wg M Z hj (.inl F) (v:=.ref acc) rfl (λs'' O t=>?_) (.inr F));obtain⟨a,A,ha⟩:=t
 have n:C≠a:=by
  grind
 refine⟨m,hm.sameBut A n,λh' z=>?_⟩;exact⟨_,d,O.turned (λb o hb e=>(z.2 b hb).trans e) f l (.inr i) p k,fin⟩
theorem aj.eraseIdx{m:GS}:∀{ds:List D} {vs:List V} (i:Nat),aj K m μ H ds vs->aj K m μ H (ds.eraseIdx i) (vs.eraseIdx i)
 | [],vs,i,h=>by subst h;rfl
 |d::ds,vs,0,h=>by obtain⟨v,u,rfl,r,q⟩:=h.uncons;exact q
 |d::ds,vs,i+1,h=>by obtain⟨v,u,rfl,r,q⟩:=h.uncons;exact .cons r (aj.eraseIdx i q)
noncomputable def jr(d:D)(ds:List D)(S:af):Res D:=match d,ds with
 | .ref n,[.int i]=>match S[n]? with
  |some xs=>match gx xs.length i with
   |some k=>match xs[k]? with
    |some y=>if xs.length<=bx then .ok y (S.set n (xs.eraseIdx k))else .fail
    |none=>.fail
   |none=>.fail
  |none=>.fail
 |_,_=>.fail
theorem l6:je X "list.pop" (rM X.K X.mg jr):=by
 intro P s J H x C v U Q I t p h;obtain⟨F,G,S,d,D,c,m,R,w⟩:=h;unfold jr at w;split at w
 ·split at w
  ·rename_i n i _ Y e;split at w
   ·rename_i k f;split at w
    ·rename_i y E;split at w
     ·obtain⟨a,vs,rfl,l,b,r⟩:=lW c m e;obtain⟨V,rfl,o⟩:=R.one;cases aI o;obtain⟨z,g,j⟩:=r.get E;obtain⟨q,u,A,B⟩:=rj f;rw[r.length]at q;exact Ez _ s _ H _ _ v _ Q I t p ⟨a,_,i,k,z,rfl,rfl,b,by lia,by lia,q,g,w.wrote c l b (r.eraseIdx k) j⟩
     ·exact w.elim
    ·exact w.elim
   ·exact w.elim
  ·exact w.elim
 ·exact w.elim
noncomputable def fM:List D->Option (Li)
 | []=>some []
 | .int i::r=>(fM r).map (i:: ·)
 |_=>none
theorem xO:∀{xs:List D} {ns:Li},fM xs=some ns->xs=ns.map D.int
 | [],ns,h=>by cases h;rfl
 |x::xs,ns,h=>by
  cases x with
  |int i=>
   unfold fM at h;cases e:fM xs with
   |none=>simp_all
   |some m=>rw[e]at h;cases h;rw[xO e];rfl
  |_=>cases h
theorem E_{m:GS}:∀(ns:Li) (vs:List V),aj K m μ H (ns.map D.int) vs->vs=ns.map V.int:=by
 intro ns
 induction ns with
 |nil=>intro vs r;exact r
 |cons n ns i=>intro vs r;obtain⟨v,w,rfl,R,a⟩:=r.uncons;cases aI R;rw[i _ a];rfl
theorem xP:∀{ns:Li} {its:Lv},Vals (ns.map V.int) its->PyProof.Rows.IntsAre its ns
 | [],its,r=>by cases r;exact .nil
 |n::ns,its,r=>by
  cases r with
  |cons p q=>obtain⟨t,rfl⟩:=p;exact .cons _ _ (xP q)
section
variable {R:Result->Shared->Prop}{P:Nat->Value->Prop}{St:Nat->Heap->Prop}
end
mutual
noncomputable def xQ:D->Option PyData
 | .non=>some .none
 | .bl b=>some (.bool b)
 | .int i=>some (.int i)
 | .str x=>some (.str x)
 | .tup ds=>(de ds).map .tuple
 | .lst ds=>(de ds).map .list
 |_=>none
noncomputable def de:List D->Option (List PyData)
 | []=>some []
 |d::ds=>match xQ d,de ds with
  |some p,some ps=>some (p::ps)
  |_,_=>none
end
mutual
theorem Fa(I:Inv X pq σ H s):∀(d:D) (v:V) (u:Value) (p:PyData),Rep X.K ⟨X.mg,F⟩ μ H d v->RelV v u->xQ d=some p->p.hasDict=false/\∃as,Reads s.heap u p as
 | .non,v,u,p,r,q,h=>by cases gB r;have q:u=.none:=q;subst q;cases h;exact⟨rfl,_,.none⟩
 | .bl b,v,u,p,r,q,h=>by cases fE r;have q:u=.bool b:=q;subst q;cases h;exact⟨rfl,_,.bool b⟩
 | .int i,v,u,p,r,q,h=>by cases aI r;obtain⟨t,rfl⟩:=q;cases h;exact⟨rfl,_,.int i t⟩
 | .str x,v,u,p,r,q,h=>by cases fi r;obtain⟨t,rfl⟩:=q;cases h;exact⟨rfl,_,.str x t⟩
 | .tup c,v,u,p,r,q,h=>by
  obtain⟨a,vs,rfl,l,R⟩:=bP r;have q:u=.ref a:=q;subst q;obtain⟨f,w,⟨o,g,j,n,k⟩,_⟩:=I.tuple l;have h:(de c).map PyData.tuple=some p:=h;cases e:de c with
  |none=>rw[e]at h;cases h
  |some P=>rw[e]at h;cases h;obtain⟨K,as,m⟩:=rT I c vs f P R w e;exact⟨K,as,.tuple g j k (by simpa using m)⟩
 | .lst c,v,u,p,r,q,h=>by
  unfold Rep at r;obtain⟨a,vs,rfl,l,_,R⟩:=r;have q:u=.ref a:=q;subst q;obtain⟨f,w,y,_⟩:=I.list (.of l);obtain⟨o,g,j,n,k⟩:=y.isList;have h:(de c).map PyData.list=some p:=h;cases e:de c with
  |none=>rw[e]at h;cases h
  |some P=>rw[e]at h;cases h;obtain⟨K,as,m⟩:=rT I c vs f P R w e;exact⟨K,_,.list g j k (by simpa using m)⟩
 | .ref _,v,u,p,r,q,h=>by cases h
 | .scr _,v,u,p,r,q,h=>by cases h
 | .fn _,v,u,p,r,q,h=>by cases h
 | .dct,v,u,p,r,q,h=>by cases h
 | .dks _,v,u,p,r,q,h=>by cases h
 | .ty _,v,u,p,r,q,h=>by cases h
theorem rT(I:Inv X pq σ H s):∀(ds:List D) (vs:List V) (us:Lv) (ps:List PyData),aj X.K ⟨X.mg,F⟩ μ H ds vs->Vals vs us->de ds=some ps->PyData.hasDictAll ps=false/\∃as,ReadsAll s.heap us ps as
 | [],vs,us,ps,r,q,h=>by unfold aj at r;subst r;cases q.zero;cases h;exact⟨rfl,_,.nil⟩
 |d::ds,vs,us,ps,r,q,h=>by
  obtain⟨w,W,rfl,R,f⟩:=r.uncons;obtain⟨u,U,rfl,Q,c⟩:=q.un;unfold de at h;split at h
  ·rename_i p P e E;cases h;obtain⟨k,as,K⟩:=Fa I d w u p R Q e;obtain⟨a,bs,b⟩:=rT I ds W U P f c E;exact⟨by show(PyData.hasDict p||PyData.hasDictAll P)=false;rw[k,a];rfl,_,.cons K b⟩
  ·cases h
end
noncomputable def eh{a:Type}:List Nat->List a->List (Option a)->List (Option a)
 |i::is,d::ds,ρ=>eh is ds (ρ.set i (some d))
 |_,_,ρ=>ρ
noncomputable def xR(is:List Nat)(t:TA):TS:=λD σ H=>t σ H λvs H1=>vs.length=is.length/\D.nx (eh is.reverse vs.reverse σ) H1
theorem xS{p:Lp}{H:Hp}{nm:Nat->Str}{E:Vs}{Q:Unit->Shared->Prop}(b:X.N.Nodup):∀{is:List Nat} {vs:List V} {us:Lv} {σ:L2.St} {s:Shared},(∀i∈is,X.N[i]?=some (nm i)/\X.env.scope.names.lookup (nm i)=some .local)->vs.length=is.length->Vals vs us->Inv X p σ H s->
  (∀s2,Inv X p (eh is vs σ) H s2->Q () s2)->wpAny (model X.prog X.w) X.A (assignInOrder (is.map λi=>bindName X.env (nm i)) us) Q E s
 | [],vs,us,σ,s,_,a,r,I,h=>by
  cases vs with
  |nil=>exact assignInOrder_nil (h s I)
  |cons _ _=>cases a
 |i::is,vs,us,σ,s,c,a,r,I,h=>by
  cases vs with
  |nil=>cases a
  |cons v vs=>obtain⟨u,U,rfl,f,R⟩:=r.un;obtain⟨G,g⟩:=c i Ze;exact assignInOrder_cons (wpAny_bindName (k6 I b G (.inl g) f (λs2 d=>xS b (λj e=>c j (Zc _ e)) (ZF a) R d h) (.inr g)))
theorem l7{nm:Nat->Str}{ts:Lx}{t:TA}{pos pt:Pos}{k k2}(y:X.calm=true)(w:X.N.Nodup)(z:∀i∈is,X.N[i]?=some (nm i)/\X.env.scope.names.lookup (nm i)=some .local)(C:is.length<=3)(x:PA X es t)
  (hw:swappedStores [.Tuple ts k pt] (.Tuple es k2 pt2) X.env=pure (some (is.map nm))) (hs:swapsWithSole [.Tuple ts k pt] (.Tuple es k2 pt2) pos.line X.env=pure false):
  PS X (.Assign [.Tuple ts k pt] (.Tuple es k2 pt2) pos) (xR is t):=by
 intro p s g H D I h;rw[exec_Assign_arm];refine Za (wpAny_standAt ?_);rw[hs];refine Za (Zd ?_);rw[if_neg (by decide)];refine Za (Tuple_ (aR (x _ p s g H _ I h) λu S ⟨vs,H1,j,r,q,Q⟩=>?_));have f:u.length=is.length:=by rw[<-r.length,q]
 refine Z0 ?_ (by show u.toArray.size<=sizeLine;rw[Zs,f,sizeLine_eq];omega);have l:Inv X p g H1 {S with heap:=S.heap.push {cls:=.type "tuple",data:=.seq u.toArray}}:=j.kept (t':=S.toks) λb o e=>Zb _ e;rw[hw];refine Za (Zd ?_);show wpAny (model X.prog X.w) X.A (do rule "assign.swapped-stores";let items <-unpackItems (.ref S.heap.objs.size) (is.map nm).length none;assignInOrder ((is.map nm).reverse.map λn=>bindName X.env n) items.reverse;pure Flow.next) _ _ _;have B:(is.map nm).length=u.toArray.size:=by simp[f]
 rw[B];refine Za (wpAny_rule (Za (unpackItems_tuple (items:=u.toArray) (I.ok.hd y) (IsTup.new S.heap _) λc a=>?_)));have m:=l.kept (h':=c) (t':=S.toks) λb o e=>a b o (Zt (Zi e)) e;have E:((is.map nm).reverse.map λn=>bindName X.env n)=is.reverse.map λi=>bindName X.env (nm i):=by rw[<-List.map_reverse,List.map_map];rfl
 rw[E];refine Za (xS w (λi A=>z i (List.mem_reverse.mp A)) (by rw[List.length_reverse,List.length_reverse,q]) r.reverse m λF v=>Zd ⟨_,H1,v,Q⟩)
open PySem.SeqAt PySem.MeetsSeq PySem.MeetsSeq2 PySem.MeetsSeq3
open PySem.AutoSeq1 (wpAny_loadPart')
theorem Fb(f:Nat->β->Sem (ForInStep β))(I:Nat->β->Shared->Prop)(Q:β->Shared->Prop)
  (turn:∀i b s,i<n->I i b s->wpAny M A (f i b) (λr s'=>match r with| .yield B=>I (i+1) B s'| .done B=>Q B s') E s)
  (fin:∀b s,I n b s->Q b s) (b:β) (h:I 0 b s):wpAny M A (forIn [0:n] b f) Q E s:=by
 rw[Std.Legacy.Range.forIn_eq_forIn_range'];have d:[0:n].size=n:=by simp_all
 rw[d];refine wpAny_forIn_list f (λl c S=>∃i,i<=n/\l=List.range' i (n-i) 1/\I i c S) Q ?_ ?_ _ b ⟨0,Z2 _,rfl,h⟩
 ·rintro x R c S ⟨i,j,e,g⟩
  have a:i<n:=by
   rcases Nat.lt_or_ge i n with H|H
   ·exact H
   simp_all
  obtain⟨m,k⟩:∃m,n-i=m+1:=⟨n-i-1,by omega⟩;rw[k]at e;obtain⟨rfl,rfl⟩:=List.cons.inj e;refine wpAny_mono (turn x c _ a g) (λr o H=>?_) λ_ _ H=>H
  grind
 grind
theorem Fc(l:Addr)(items:Av)(n:Nat)(dd:Option Addr)(sl:Array (Ov))(x:Value)(e:Value->Bool)(j:Nat)(C:j<items.size)(f:e items[j]=true)(k:∀m (D:m<items.size),m<j->e items[m]=false):
  Meets (Builtin.«tuple.index» ⟨[.ref l,x],[]⟩)
   (λA R s=>s.heap.get? l=some {cls:=.type "tuple",dict:=dd,data:=.seq items n,slots:=sl}/\(∀y,y∈items->EqAt A.in1 s y x (e y))/\R (.ok (.ret (.int j s.toks))) {s with toks:=s.toks+1}):=
 .of_wp λp w A R s h=>by
  obtain⟨v,g,d,T,O⟩:=s;obtain⟨u,r,h⟩:=h;have H:min items.size items.size=items.size:=Nat.min_self _
  wp_walk using wpAny_loadPart' u,Fb (n:=min items.size items.size) _ (λi b S=>b.1=none/\S=⟨v,g,d,T,O⟩/\i<=j) _
  case turn=>
   rintro i b S c ⟨o,rfl,a⟩;rw[H]at c;rw[Array.getElem?_eq_getElem c];refine Za (r items[i] (Array.getElem_mem c) p w _ _ ?_);by_cases q:i=j
   ·subst q;rw[f]
    wp_walk
    exact⟨_,rfl,h⟩
   ·rw[k i c (by omega)]
    wp_walk
    exact⟨rfl,rfl,by omega⟩
  case fin=>rintro⟨B,z⟩ S ⟨o,rfl,a⟩;rw[H]at a;omega
  case h=>exact⟨rfl,rfl,Z2 _⟩
theorem Fe{prog:Program}{w:World}{A:Around}{E:Vs}{l:Addr}{vs:Lv}{k:Int}{t:Tok}(g:s.heap.IsTuple l vs.toArray)(H:IntsAre vs ns)(f:k∈ns)
  (h:Q (.int (ns.idxOf k:Nat) s.toks) {s with toks:=s.toks+1}):wpAny (model prog w) A (call (.builtin "tuple.index") [.ref l,.int k t]) Q E s:=by
 obtain⟨⟨cls,D,d,sl⟩,c,j,n,o⟩:=id g;subst j o
 have i:vs.length=ns.length:=by
  clear g c h f
  induction H with
  |nil=>rfl
  |cons _ _ _ I=>simp[I]
 have q:=List.idxOf_lt_length_of_mem f;have r:∀(m:Nat) (b:m<vs.length),isInt k vs[m]=decide (ns[m]'(by omega)=k):=by intro m b;obtain⟨v,e⟩:=H.int_at m _ (Zj _);rw[e,List.getD_eq_getElem?_getD,Zj _];rfl
 refine call_meets PySem.F.slot_tuple_index ⟨_,c,rfl⟩ PySem.F.entry_tuple_index (PySem.F.args_tuple_index_2 _ _) (Fc l _ n _ _ _ _ _ (by simp_all) ?_ ?_) ⟨c,λy u=>(eq_isInt k t H y (by simp_all)).at _ _,h⟩
 ·simp_all
 ·intro m b a;have p:=by simpa using b
  have:=List.not_of_lt_findIdx a;simp_all
noncomputable def rV(d:D)(ds:List D)(S:af):Res D:=match d,ds with
 | .tup xs,[.int k]=>match fM xs with
  |some ns=>if k∈ns then .ok (.int (ns.idxOf k:Nat)) S else .fail
  |none=>.fail
 |_,_=>.fail
theorem xT:je X "tuple.index" (rM X.K X.mg rV):=by
 intro P s G H x B v U Q I y m h;obtain⟨F,C,S,d,D,A,l,R,w⟩:=h;unfold rV at w;split at w
 ·split at w
  ·rename_i N E;split at w
   ·rename_i i;have c:=xO E;subst c;obtain⟨a,vs,rfl,g,r⟩:=bP l;have j:=E_ _ _ r;subst j;obtain⟨z,rfl,f⟩:=R.one;cases aI f;cases y;obtain⟨u,rfl,n⟩:=m.one;obtain⟨t,rfl⟩:=n;obtain⟨k,q,p,f⟩:=I.tuple g;exact Fe p (xP q) i ⟨.int _,H,I.kept λb o e=>e,⟨_,rfl⟩,w _ H _ .refl A bQ⟩
   ·exact w.elim
  ·exact w.elim
 ·exact w.elim
end Py
namespace Py
noncomputable def dQ:List D->Option (Ls)
 | []=>some []
 | .str x::r=>(dQ r).map (x:: ·)
 |_=>none
theorem xU:∀{xs:List D} {ns:Ls},dQ xs=some ns->xs=ns.map D.str
 | [],ns,h=>by cases h;rfl
 |x::xs,ns,h=>by
  cases x with
  |str i=>
   unfold dQ at h;cases e:dQ xs with
   |none=>rw[e]at h;cases h
   |some m=>rw[e]at h;cases h;rw[xU e];rfl
  |_=>cases h
noncomputable def fN(s:Str)(ds:List D)(S:af):Res D:=match ds with
 | [d]=>match(cU S d).bind dQ with
  |some xs=>if s.length<=100/\xs.length<=1000/\(xs.all λx=>decide (x.length<=1000))=true then .ok (.str (Txt.join s xs)) S else .fail
  |none=>.fail
 |_=>.fail
theorem xV{K:Fg}{m:GS}{μ:La}{H:Hp}:∀(xs:Ls) (vs:List V) (us:Lv),aj K m μ H (xs.map D.str) vs->Vals vs us->∃l:List (Str×Tok),strValues l=us/\l.map (·.1)=xs
 | [],vs,us,r,q=>by unfold aj at r;subst r;cases q;exact⟨[],rfl,rfl⟩
 |x::xs,vs,us,r,q=>by
  obtain⟨v,w,rfl,R,b⟩:=r.uncons;cases fi R;cases q with
  |cons p q=>obtain⟨t,rfl⟩:=p;obtain⟨l,h,a⟩:=xV xs w _ b q;exact⟨(x,t)::l,by rw[<-h];rfl,by rw[List.map_cons,a]⟩
section
variable {E:XK}{Φ:FT}
theorem Ff{t:Tok}{vs:List V}{Q:VK}(I:L2.Inv X pq σ H s)(rs:Vals vs us)
  (h:∃F μ S ds,aM X.K ⟨X.mg,F⟩ μ S H/\aj X.K ⟨X.mg,F⟩ μ H ds vs/\aV X.K ⟨X.mg,F⟩ μ H Q (fN sep ds S)):wpAny (model X.prog X.w) X.A (call (.builtin "str.join") (.str sep t::us)) (EP X pq σ Q) X.xe s:=by
 obtain⟨F,μ,S,ds,j,R,w⟩:=h;unfold fN at w;split at w
 ·rename_i d;split at w
  ·rename_i x E;split at w
   ·rename_i f;cases c:cU S d with
    |none=>rw[c]at E;cases E
    |some Y=>
     rw[c]at E;have i:=xU E;subst i;obtain⟨v,rfl,D⟩:=R.one;obtain⟨a,W,rfl,q,r⟩:=da j D c;obtain⟨u,rfl,G⟩:=rs.one;cases G;obtain⟨C,J,p,L⟩:=I.list (.of q);obtain⟨l,rfl,z⟩:=xV _ _ _ r J
     have g:JoinOk sep x=true:=by unfold JoinOk;rw[StrLaws.joinFits (B:=1000) (λy A=>ZT (Zn.mp f.2.2 y A)) (by have m:=f.1;have n:=f.2.1;have K:x.length*sep.length<=1000*100:=Nat.mul_le_mul n m;omega)];rfl
     exact SC.join p.isList z g λT k=>⟨.str (Txt.join sep x),H,I.kept (t':=k) λb o e=>e,⟨_,rfl⟩,w μ H _ .refl j fj⟩
   ·exact w.elim
  ·exact w.elim
 ·exact w.elim
end
theorem Fh(n:Nat):Builtin.Slice.sliceAdjust none none (-1) (n:Int)=((n:Int)-1,-1):=rfl
theorem Fi(n:Nat):Builtin.Slice.slicePlaces ((n:Int)-1) (-1) (-1)=n:=by
 unfold Builtin.Slice.slicePlaces
 grind
theorem Fj{t:Tok}{Q:Int×Int×Nat->Shared->Prop}(hs:s.heap.IsSliceOf sl .none .none (.int (-1) t))
  (h:Q ((n:Int)-1,-1,n) s):wpAny (model prog w) A (Builtin.Slice.sliceApplied (.ref sl) (pure (n:Int))) Q E s:=by
 obtain⟨o,a,b,H⟩:=id hs;refine Za (Za (ZO a H rfl (Za (ZO a H rfl (Za (ZO a H rfl (Zd ?_)))))));refine Za (HT.rh (.int (-1) t) ?_);show wpAny _ _ (match Builtin.Slice.sliceAdjust none none (-1) (n)with| (lo,c)=>pure (lo,(-1),Builtin.Slice.slicePlaces lo c (-1))) _ _ s;rw[Fh n];show wpAny _ _ (pure _) _ _ s;rw[Fi];exact Zd h
theorem xW{a b:Type}{f g:a->Option b}:∀{l:List a},(∀x∈l,f x=g x)->l.filterMap f=l.filterMap g
 | [],_=>rfl
 |x::l,h=>by
  have t:=xW λy H=>h y (Zc _ H)
  grind
theorem Fm(xs:Av):((List.range xs.size).filterMap λ(m:Nat)=>xs[(((xs.size:Int)-1)+(m:Int)*(-1)).toNat]?).toArray=xs.toList.reverse.toArray:=by
 have h:=pick_run xs.toList.reverse.toArray 0 xs.size;rw[List.filterMap_map]at h;have e:xs.toList.reverse.toArray.toList.drop 0=xs.toList.reverse:=by simp
 rw[e,List.take_of_length_le (by simp)]at h;rw[<-h];congr 1;refine xW λm H=>?_;have E:((xs.size:Int)-1+m* -1).toNat=xs.size-1-m:=by omega
 simp_all
theorem Fn{prog:Program}{w:World}{A:Around}{E:Vs}{t:Addr}{u:Tok}(a:IsTup s.heap t items)(hs:s.heap.IsSliceOf sl .none .none (.int (-1) u))
  (h:Q (.ref s.heap.objs.size) {s with heap:=s.heap.push {cls:=.type "tuple",data:=.seq items.toList.reverse.toArray}})
  (i:items.size<=sizeLine):wpAny (model prog w) A (getItem (.ref t) (.ref sl)) Q E s:=by
 have H:=by show items.toList.reverse.toArray.size<=sizeLine;simp_all
 obtain⟨o,e,c,g⟩:=id hs;have b:s.TypeIs (.ref _) _:=⟨_,e,c⟩;unfold getItem
 try with_reducible refine ZL ?_
 refine Za (wpAny_sequenceKey a.typeIs (rfl) ?_)
 refine Za (ZN a.typeIs Z1
  (ZM Z1 a.typeIs entry_tuple_getitem ?_ (args_tuple_getitem _ _)))
 show wpAny _ _ (Builtin.Tuple.tupleItemsOf _>>=_) _ _ s;refine Za (tupleItemsOf_ a ?_);refine Za (wpAny_typeOf b ?_);refine Za (Fj hs ?_);have d:¬(((items.size:Int)-1==0&&(-1)==1&&items.size==items.size)=true):=by simp_all
 show wpAny _ _ (if((items.size:Int)-1==0&&(-1)==1&&items.size==items.size)=true then _ else _) _ _ s;rw[if_neg d,Fm]
 first
  |exact Za (Z0 (Zd ⟨_,rfl,Zd h⟩) H)
  |simp_all
  |simp_all
  |simp_all
noncomputable def js(d k:D)(S:af):Res D:=match d,k with
 | .tup xs,.int i=>if i= -1 then .ok (.tup xs.reverse) S else .fail
 |_,_=>.fail
def Fo(K:Fg)(m:Mg):V->V->Hp->VK->Prop:=λx y H Q=>∃F μ S d k,aM K ⟨m,F⟩ μ S H/\Rep K ⟨m,F⟩ μ H d x/\Rep K ⟨m,F⟩ μ H k y/\aV K ⟨m,F⟩ μ H Q (js d k S)
theorem rW{st:Expr}{ts:TE}{pos:Pos}(n:PE X e te)(hs:PE X st ts):PE X (.Subscript e (.Slice none none (some st) p2) pos) (λσ H Q=>te σ H λx H1=>ts σ H1 λy H2=>Fo X.K X.mg x y H2 Q):=by
 intro P s σ H Q I h;refine Subscript_ (aR (n _ s _ H _ I h) λv L ⟨x,_,l,B,z⟩=>?_);refine wpAny_Slice ?_;refine Zd (Zd (aR (hs _ _ _ _ _ l z) λvs j ⟨y,_,m,C,A⟩=>?_));obtain⟨F,M,S,d,k,J,D,G,w⟩:=A;unfold js at w;split at w
 ·split at w
  ·rename_i o;subst o;have E:=aI G;subst E;obtain⟨t,rfl⟩:=C;obtain⟨a,W,rfl,p,r⟩:=bP D;cases B;have c:Inv X _ _ _ {j with heap:=j.heap.push {cls:=.type "slice",data:=.fields #[.none,.none,.int (-1) t]}}:=m.kept λb O q=>Zb _ q;obtain⟨u,R,i,K⟩:=c.tuple p;have g:=by exact R.length.symm
   refine tail_any i.typeIs PyProof.Rows.slot_tuple_getitem.lookup (Fn i (Heap.IsSliceOf.new ..) ?_ (by simp_all)) (rfl);refine⟨.ref _,_,c.laid (λb O q=>Zb _ q) (Zf _) ?_,rfl,w.tup J r.reverse _ (c.hok.fresh (Zf _))⟩;exact⟨by simp_all,_,R.reverse,IsTup.new _ _,pL.new _ _⟩
  ·exact w.elim
 ·exact w.elim
section
open PySem.AutoSeq1 (wpAny_loadPart')
open PySem.MeetsSeq PySem.MeetsSeq2 PySem.MeetsSeq3
open PySem.AutoSeq1
end
set_option genInjectivity false in
inductive ec where
 |int|seq (t:ec)
 deriving DecidableEq
set_option genInjectivity false in
inductive gF where
 |len|tuple|list (box:Bool)|int|min|max|isinst|all|any|sum|repr|abs|str|sorted (box:Bool) (t:ec)
 deriving DecidableEq
inductive pX where
 |append|extend|pop|count|insert|index
 deriving DecidableEq
set_option genInjectivity false in
inductive CT where
 |var (i:Nat)
 |tup (ts:List CT)
set_option genInjectivity false in
inductive FP where
 |s (x:Str)|v (i:Nat)|g (y:Str)
 deriving DecidableEq
set_option genInjectivity false in
inductive CE where
 |var (i:Nat)
 |lit (d:D)
 |glob (x:Str)
 |ty (n:String)
 |bin (op:Operator) (a b:CE)
 |binB (a b:CE)
 |catB (a b:CE)
 |neg (a:CE)
 |cmp (op:CmpOp) (a b:CE)
 |chain (op op':CmpOp) (a b c:CE)
 |chain3 (op op' op'':CmpOp) (a b c d:CE)
 |band (a b:CE)
 |bor (a b:CE)
 |bnot (a:CE)
 |ite (c a b:CE)
 |tup (es:List CE)
 |lst (box:Bool) (es:List CE)
 |idx (a b:CE)
 |sl (a:CE) (lo hi:List CE)
 |call (f:Str) (es:List CE)
 |blt (b:gF) (es:List CE)
 |meth (m:pX) (o:CE) (es:List CE)
 |tix (o:CE) (es:List CE)
 |join (s:Str) (es:List CE)
 |sel (fs:Ls) (i:CE) (es:List CE)
 |fst (ps:List FP)
 |lenset (a:CE)
 |sumL (a:CE)
 |sset (a:CE)
 |rng (tup box:Bool) (es:List CE)
 |comp (box:Bool) (N:Ls) (fr:List (Option Nat)) (tg:CT) (it:CE) (ifs:List CE) (body:CE)
 |emit (e:CE)
 |ssc (N:Ls) (fr:List (Option Nat)) (tg:CT) (it:CE) (ifs:List CE) (body:CE)
 |emitK (e:CE)
 |sortd (a:CE)
 |inner (tg:CT) (it:CE) (ifs:List CE) (body:CE)
 |seq (e:CE)
 |range (es:List CE)
 |zip (es:List CE)
 |down (es:List CE)
 |dct
 |rev (a b:CE)
 |odd (a b c:CE)
 |evn (a b:CE)
 |rv0 (a b c:CE)
 |enum (es:List CE)
 |revl (es:List CE)
 |by2 (es:List CE)
set_option genInjectivity false in
inductive CS where
 |asg (i:Nat) (e:CE)
 |asgT (t:CT) (e:CE)
 |par (is:List Nat) (es:List CE)
 |aug (i:Nat) (e:CE)
 |set (o i v:CE)
 |set2 (o i o' i' v:CE)
 |expr (e:CE)
 |ret (e:CE)
 |retN
 |pass
 |brk
 |cont
 |ite (c:CE) (a b:List CS)
 |for_ (t:CT) (it:CE) (body:List CS)
 |while_ (n:Nat) (c:CE) (body:List CS)
 |never
 |raise_ (x:Str) (es:List CE)
 |tryK (i:Nat) (body:List CS) (f:Str) (ys ws:Ls)
 |tryN (x:Str) (i:Nat) (body:List CS) (f:Str) (ys ws:Ls)
 |dloop (i:Nat) (t:CT) (it:CE) (ps:List (Option CE×CE))
abbrev bt:=List (Option D)
abbrev FT:=Str->Option (List D->af->Res D)
noncomputable def rX(Γ:Str->Option D)(ρ:bt):FP->Option Str
 | .s x=>some x
 | .v i=>(match ρ[i]? with
  |some (some (.int k))=>if k.natAbs<2^64 then some (toString k:String)else none
  |_=>none)
 | .g y=>(match Γ y with
  |some (.int k)=>if k.natAbs<2^64 then some (toString k:String)else none
  |_=>none)
noncomputable def fJ:List (Option Str)->Str->Option Str
 | [],out=>if out.length<=1000 then some out else none
 |some y::r,out=>if(out++y).length<=1000 then fJ r (out++y)else none
 |none::_,_=>none
noncomputable def Res.bind{b c:Type}(r:Res b)(f:b->af->Res c):Res c:=match r with
 | .ok a S=>f a S
 | .err x S=>.err x S
 | .fail=>.fail
noncomputable def Res.noErr{b:Type}:Res b->Res b
 | .ok a S=>.ok a S
 |_=>.fail
noncomputable def aB{a:Type}(d:D)(f:Bool->Res a):Res a:=match d with
 | .bl k=>f k
 |_=>.fail
noncomputable def bZ:List CT->List D->bt->Option bt
 | [],ds,ρ=>if ds.isEmpty=true then some ρ else none
 |t::ts,ds,ρ=>match t,ds with
  | .var i,d::ds=>bZ ts ds (ρ.set i (some d))
  |_,_=>none
noncomputable def aQ:CT->D->bt->Option bt
 | .var i,d,ρ=>some (ρ.set i (some d))
 | .tup ts,d,ρ=>match d with
  | .tup ds=>bZ ts ds ρ
  |_=>none
noncomputable def dB:List CT->List Nat
 | []=>[]
 |t::ts=>match t with
  | .var i=>i::dB ts
  | .tup _=>dB ts
noncomputable def slots:CT->List Nat
 | .var i=>[i]
 | .tup ts=>dB ts
noncomputable def bR:bt->List Nat->Bool
 |ρ,is=>is.all λi=>match ρ[i]? with
  |some none=>true
  |_=>false
noncomputable def bh(t:CT)(d:D)(ρ:bt):Option bt:=if bR ρ (slots t)=true then aQ t d ρ else none
set_option genInjectivity false in
inductive hY where
 |items (xs:List D)|live (f:Nat) (get:af->Nat->Option (Option D))
noncomputable def aS(step:D->List D->af->Res (List D)):List D->List D->af->Res (List D)
 | [],acc,S=>.ok acc S
 |x::xs,acc,S=>(step x acc S).bind λa S'=>aS step xs a S'
noncomputable def cq(step:D->List D->af->Res (List D))(get:af->Nat->Option (Option D)):Nat->Nat->List D->af->Res (List D)
 |0,_,_,_=>.fail
 |f+1,i,acc,S=>match get S i with
  |none=>.fail
  |some none=>.ok acc S
  |some (some x)=>(step x acc S).bind λa S'=>cq step get f (i+1) a S'
noncomputable def bS(step:D->List D->af->Res (List D))(its:hY)(a:List D)(S:af):Res (List D):=match its with
 | .items xs=>aS step xs a S
 | .live f get=>cq step get f 0 a S
noncomputable def fO(n:Nat):af->Nat->Option (Option D):=λS i=>(S[n]?).map λxs=>xs[i]?
noncomputable def dC(S:af):D->Option hY
 | .tup xs=>some (.items xs)
 | .lst xs=>some (.items xs)
 | .scr xs=>some (.items xs)
 | .ref n=>some (.live (((S[n]?).getD []).length+1) (fO n))
 |_=>none
noncomputable def l8:D->Option (List D)
 | .tup xs=>some xs
 | .lst xs=>some xs
 | .scr xs=>some xs
 |_=>none
noncomputable def l9(d e:D):af->Nat->Option (Option D):=λS i=>match az S d,az S e with
 |some xs,some ys=>some (match xs[i]?,ys[i]? with
  |some x,some y=>some (.tup [x,y])
  |_,_=>none)
 |_,_=>none
noncomputable def ei:D->Bool
 | .tup _=>false
 |_=>true
noncomputable def ej(S:af)(d e:D):Option hY:=match l8 d,l8 e with
  |some xs,some ys=>some (.items (List.zipWith (λx y=>.tup [x,y]) xs ys))
  |_,_=>match az S d,az S e with
   |some xs,some ys=>some (.live (min xs.length ys.length+1) (l9 d e))
   |_,_=>none
noncomputable def dX(l:Int):Nat->List D
 |0=>[]
 |n+1=>.int l::dX (l+1) n
noncomputable def cr:List D->Option (Option Int)
 | []=>some none
 | [.int i]=>some (some i)
 |_=>none
noncomputable def b9(ds:List D)(S:af):Res (Option Int):=match cr ds with
 |some o=>.ok o S
 |none=>.fail
noncomputable def aw:ec->D->Bool
 | .int,.int _=>true
 | .seq t,.tup xs=>xs.all (aw t)
 |_,_=>false
noncomputable def bI(f:D->D->Bool):List D->List D->Bool
 | [],[]=>false
 | [],_::_=>true
 |_::_,[]=>false
 |x::xs,y::ys=>if f x y=true then true else if f y x=true then false else bI f xs ys
noncomputable def bT:ec->D->D->Bool
 | .int,.int i,.int j=>decide (i<j)
 | .seq t,.tup xs,.tup ys=>bI (bT t) xs ys
 |_,_,_=>false
noncomputable def dD(f:D->D->Bool)(x:D):List D->List D
 | []=>[x]
 |y::ys=>if f x y=true then x::y::ys else y::dD f x ys
noncomputable def ek(f:D->D->Bool)(xs:List D):List D:=xs.foldl (λacc x=>dD f x acc) []
noncomputable def bU:ec->Bool
 | .int=>true
 | .seq t=>bU t
noncomputable def eO:D->Bool
 | .tup []=>true
 |_=>false
noncomputable def fP:ec->List D->Bool
 | .int,_=>true
 | .seq t,xs=>bU t&&(xs.all λd=> !eO d)
noncomputable def jt(box:Bool)(t:ec)(ds:List D)(S:af):Res D:=match ds with
 | [d]=>match az S d with
  |some xs=>if xs.all (aw t)=true/\xs.length<64/\fP t xs=true then(if box=true then .ok (.ref S.length) (S++[ek (bT t) xs])else .ok (.lst (ek (bT t) xs)) S)else .fail
  |none=>.fail
 |_=>.fail
noncomputable def cS:D->Option Int
 | .int i=>some i
 |_=>none
noncomputable def cE(ns:Li):Li:=ns.foldl step_dedup []
noncomputable def eP:D->Li
 | .tup ds=>ds.filterMap cS
 |_=>[]
noncomputable def ju(ks:List (Li)):List (Li):=ks.foldl (λacc k=>if acc.contains k=true then acc else acc++[k]) []
noncomputable def hZ(d:D)(S:af):Res D:=match az S d with
  |some xs=>if xs.all (aw .int)=true/\xs.length<1000 then .ok (.int ((cE (xs.filterMap cS)).length:Nat)) S else .fail
  |none=>.fail
noncomputable def dR(ks:List (Li)):List D:=ek (bT (.seq .int)) ((ju ks).map λk=>D.tup (k.map D.int))
noncomputable def xX:D->Bool
 | .int n=>decide (0<=n)&&decide (n<8)
 |_=>false
noncomputable def dU(d:D)(S:af):Res D:=match az S d with
 |some xs=>
  if xs.all (aw (.seq .int))=true/\xs.length<64/\(xs.all λd=> !eO d)=true then .ok (.lst (dR (xs.map eP))) S else .fail
 |none=>.fail
noncomputable def cF:ec->Nat
 | .int=>1
 | .seq t=>cF t+1
noncomputable def rY:gF->Bool
 | .sorted _ t=>decide (cF t<=40)
 | .sum=>false
 | .any=>false
 | .min=>false
 | .max=>false
 | .repr=>false
 | .abs=>false
 |_=>true
noncomputable def rZ(ds:List D)(S:af):Res D:=match ds with
 | [.int k]=>if k.natAbs<2^64 then .ok (.str (toString k:String)) S else .fail
 |_=>.fail
noncomputable def aG:gF->List D->af->Res D
 | .len=>ef| .tuple=>lT| .list b=>gS b| .int=>intD| .min=>λ_ _=>.fail | .max=>λ_ _=>.fail | .isinst=>b5| .all=>fK| .any=>λ_ _=>.fail | .sum=>λ_ _=>.fail | .repr=>λ_ _=>.fail | .abs=>λ_ _=>.fail | .str=>rZ
 | .sorted b t=>jt b t
noncomputable def xY(d:D)(ds:List D)(S:af):Res D:=match ds with
 | []=>rO d [] S
 |ds=>jr d ds S
noncomputable def er:pX->D->List D->af->Res D
 | .append=>gD| .extend=>λ_ _ _=>.fail | .pop=>xY| .count=>λ_ _ _=>.fail | .insert=>λ_ _ _=>.fail | .index=>λ_ _ _=>.fail
section
variable (Φ:FT)(Γ:Str->Option D)
mutual
noncomputable def ah:CE->bt->af->Res D
 | .var i,ρ,S=>match ρ[i]? with
  |some (some d)=>.ok d S
  |_=>.fail
 | .dct,ρ,S=>.ok .dct S
 | .lit d,ρ,S=>.ok d S
 | .glob x,ρ,S=>match Γ x with
  |some d=>.ok d S
  |none=>.fail
 | .ty n,ρ,S=>.ok (.ty n) S
 | .bin op a b,ρ,S=>(ah a ρ S).bind λd S1=>(ah b ρ S1).bind λe S2=>(dz op d e S2).noErr
 | .binB _ _,_,_=>.fail
 | .catB a b,ρ,S=>(ah a ρ S).bind λd S1=>(ah b ρ S1).bind λe S2=>(fH d e S2).noErr
 | .neg a,ρ,S=>(ah a ρ S).bind λd S1=>match d with
  | .int i=>.ok (.int (-i)) S1
  |_=>.fail
 | .cmp op a b,ρ,S=>(ah a ρ S).bind λd S1=>(ah b ρ S1).bind λe S2=>(aD op d e S2).noErr
 | .chain3 _ _ _ _ _ _ _,_,_=>.fail
 | .chain op op' a b c,ρ,S=>(ah a ρ S).bind λd S1=>(ah b ρ S1).bind λe S2=>(aD op d e S2).noErr.bind λk S3=>aB k λk=>if k=true then(ah c ρ S3).bind λf p=>(aD op' e f p).noErr else .ok (.bl false) S3
 | .band a b,ρ,S=>(ah a ρ S).bind λd S1=>aB d λk=>if k=true then ah b ρ S1 else .ok (.bl false) S1
 | .bor a b,ρ,S=>(ah a ρ S).bind λd S1=>aB d λk=>if k=true then .ok (.bl true) S1 else ah b ρ S1
 | .bnot a,ρ,S=>(ah a ρ S).bind λd S1=>match a' S1 d with
  |some k=>.ok (.bl (!k)) S1
  |none=>.fail
 | .ite c a b,ρ,S=>(ao c ρ S).bind λk S1=>if k=true then ah a ρ S1 else ah b ρ S1
 | .tup es,ρ,S=>(ai es ρ S).bind λds S1=>.ok (.tup ds) S1
 | .lst box es,ρ,S=>(ai es ρ S).bind λds S1=>if box=true then .ok (.ref S1.length) (S1++[ds])else .ok (.lst ds) S1
 | .rev a b,ρ,S=>(ah a ρ S).bind λd S1=>(ah b ρ S1).bind λe S2=>(js d e S2).noErr
 | .rv0 _ _ _,_,_=>.fail
 | .evn _ _,_,_=>.fail
 | .odd _ _ _,_,_=>.fail
 | .idx a b,ρ,S=>(ah a ρ S).bind λd S1=>(ah b ρ S1).bind λe S2=>(bp d e S2).noErr
 | .sl a lo hi,ρ,S=>(ah a ρ S).bind λd S1=>((ai lo ρ S1).bind b9).bind λl S2=>((ai hi ρ S2).bind b9).bind λh S3=>(kS d l h S3).noErr
 | .call f es,ρ,S=>match Φ f with
  |some φ=>(ai es ρ S).bind λds S1=>φ ds S1
  |none=>.fail
 | .blt b es,ρ,S=>(ai es ρ S).bind λds S1=>(aG b ds S1).noErr
 | .meth m o es,ρ,S=>(ah o ρ S).bind λd S1=>match d with
  | .ref n=>(ai es ρ S1).bind λds S2=>(er m (.ref n) ds S2).noErr
  |_=>.fail
 | .fst ps,ρ,S=>match fJ (ps.map (rX Γ ρ)) Str.empty with
  |some x=>.ok (.str x) S
  |none=>.fail
 | .sel _ _ _,_,_=>.fail
 | .tix o es,ρ,S=>(ah o ρ S).bind λd S1=>match d with
  | .tup xs=>(ai es ρ S1).bind λds S2=>(rV (.tup xs) ds S2).noErr
  |_=>.fail
 | .join x es,ρ,S=>(ai es ρ S).bind λds S1=>(fN x ds S1).noErr
 | .lenset a,ρ,S=>(ah a ρ S).bind λd S1=>(hZ d S1).noErr
 | .sumL _,_,_=>.fail
 | .sset a,ρ,S=>(ah a ρ S).bind λd S1=>(dU d S1).noErr
 | .sortd _,_,_=>.fail
 | .rng _ _ _,_,_=>.fail
 | .comp box N fr tg it ifs body,ρ,S=>(bj it ρ S).bind λits S1=>
   (bS (λx acc S2=>match bh tg x (fr.map λj=>j.bind λj=>(ρ[j]?).join)with
    |some ρ'=>(aX ifs ρ' S2).bind λk S3=>if k=true then bz body ρ' acc S3 else .ok acc S3
    |none=>.fail) its [] S1).noErr.bind λys g=>if box=true then .ok (.ref g.length) (g++[ys])else .ok (.lst ys) g
 | .ssc _ _ _ _ _ _,_,_=>.fail
 | .emit _,_,_=>.fail
 | .emitK _,_,_=>.fail
 | .inner _ _ _ _,_,_=>.fail
 | .seq _,_,_=>.fail
 | .range _,_,_=>.fail
 | .zip _,_,_=>.fail
 | .down _,_,_=>.fail
 | .enum _,_,_=>.fail
 | .revl _,_,_=>.fail
 | .by2 _,_,_=>.fail
noncomputable def ao:CE->bt->af->Res Bool
 | .band a b,ρ,S=>(ao a ρ S).bind λk S1=>if k=true then ao b ρ S1 else .ok false S1
 | .bor a b,ρ,S=>(ao a ρ S).bind λk S1=>if k=true then .ok true S1 else ao b ρ S1
 | .bnot a,ρ,S=>(ao a ρ S).bind λk S1=>.ok (!k) S1
 | .cmp op a b,ρ,S=>(ah a ρ S).bind λd S1=>(ah b ρ S1).bind λe S2=>(aD op d e S2).noErr.bind λk S3=>aB k λk=>.ok k S3
 | .chain3 op op' op'' a b c d,ρ,S=>(ah a ρ S).bind λx S1=>(ah b ρ S1).bind λe S2=>(aD op x e S2).noErr.bind λk S3=>aB k λk=>if k=true then(ah c ρ S3).bind λf j=>(aD op' e f j).noErr.bind λk h=>aB k λk=>if k=true then(ah d ρ h).bind λg l=>(aD op'' f g l).noErr.bind λk m=>aB k λk=>.ok k m else .ok false h else .ok false S3
 | .chain op op' a b c,ρ,S=>(ah a ρ S).bind λd S1=>(ah b ρ S1).bind λe S2=>(aD op d e S2).noErr.bind λk S3=>aB k λk=>if k=true then(ah c ρ S3).bind λf j=>(aD op' e f j).noErr.bind λk h=>aB k λk=>.ok k h else .ok false S3
 | .var i,ρ,S=>match ρ[i]? with
  |some (some d)=>match a' S d with
   |some k=>.ok k S
   |none=>.fail
  |_=>.fail
 | .call f es,ρ,S=>match Φ f with
  |some φ=>(ai es ρ S).bind λds S1=>(φ ds S1).bind λd S2=>match a' S2 d with
   |some k=>.ok k S2
   |none=>.fail
  |none=>.fail
 | .blt b es,ρ,S=>(ai es ρ S).bind λds S1=>(aG b ds S1).noErr.bind λd S2=>match a' S2 d with
   |some k=>.ok k S2
   |none=>.fail
 | .lit d,ρ,S=>match a' S d with
   |some k=>.ok k S
   |none=>.fail
 |_,_,_=>.fail
noncomputable def ai:List CE->bt->af->Res (List D)
 | [],_,S=>.ok [] S
 |e::es,ρ,S=>(ah e ρ S).bind λd S1=>(ai es ρ S1).bind λds S2=>.ok (d::ds) S2
noncomputable def aX:List CE->bt->af->Res Bool
 | [],_,S=>.ok true S
 |e::es,ρ,S=>(ao e ρ S).bind λk S1=>if k=true then aX es ρ S1 else .ok false S1
noncomputable def bj:CE->bt->af->Res hY
 | .seq e,ρ,S=>(ah e ρ S).bind λd S1=>match dC S1 d with
  |some xs=>.ok xs S1
  |none=>.fail
 | .range es,ρ,S=>(ai es ρ S).bind λds S1=>match ds with
  | [.int j]=>if-(2^62)<=j/\j<2^62 then .ok (.items (dX 0 j.toNat)) S1 else .fail
  | [.int i,.int j]=>if-(2^62)<=i/\i<2^62/\ -(2^62)<=j/\j<2^62 then .ok (.items (dX i (j-i).toNat)) S1 else .fail
  |_=>.fail
 | .enum _,_,_=>.fail
 | .by2 _,_,_=>.fail
 | .revl _,_,_=>.fail
 | .down _,_,_=>.fail
 | .zip es,ρ,S=>(ai es ρ S).bind λds S2=>match ds with
  | [d,e]=>(match ej S2 d e with
   |some its=>.ok its S2
   |none=>.fail)
  |_=>.fail
 |_,_,_=>.fail
noncomputable def bz:CE->bt->List D->af->Res (List D)
 | .emit e,ρ,acc,S=>(ah e ρ S).bind λy S1=>if acc.length<bx then .ok (acc++[y]) S1 else .fail
 | .emitK _,_,_,_=>.fail
 | .inner tg it ifs body,ρ,acc,S=>(bj it ρ S).bind λits S1=>
   bS (λx acc S2=>match bh tg x ρ with
    |some ρ'=>(aX ifs ρ' S2).bind λk S3=>if k=true then bz body ρ' acc S3 else .ok acc S3
    |none=>.fail) its acc S1
 |_,_,_,_=>.fail
end
set_option genInjectivity false in
inductive Fl where
 |next(ρ:bt)|ret (d:D)|brk (ρ:bt)|cont (ρ:bt)
noncomputable def cV(step:D->bt->af->Res Fl):List D->bt->af->Res Fl
 | [],ρ,S=>.ok (.next ρ) S
 |x::xs,ρ,S=>(step x ρ S).bind λf S'=>match f with
  | .next ρ'=>cV step xs ρ' S'
  | .cont ρ'=>cV step xs ρ' S'
  | .brk ρ'=>.ok (.next ρ') S'
  | .ret d=>.ok (.ret d) S'
noncomputable def fm(step:D->bt->af->Res Fl)(get:af->Nat->Option (Option D)):Nat->Nat->bt->af->Res Fl
 |0,_,_,_=>.fail
 |f+1,i,ρ,S=>match get S i with
  |none=>.fail
  |some none=>.ok (.next ρ) S
  |some (some x)=>(step x ρ S).bind λF S'=>match F with
    | .next ρ'=>fm step get f (i+1) ρ' S'
    | .cont ρ'=>fm step get f (i+1) ρ' S'
    | .brk ρ'=>.ok (.next ρ') S'
    | .ret d=>.ok (.ret d) S'
noncomputable def r8(step:D->bt->af->Res Fl)(its:hY)(ρ:bt)(S:af):Res Fl:=match its with
 | .items xs=>cV step xs ρ S
 | .live f get=>fm step get f 0 ρ S
noncomputable def fQ(c:bt->af->Res Bool)(step:bt->af->Res Fl):Nat->bt->af->Res Fl
 |0,_,_=>.fail
 |n+1,ρ,S=>(c ρ S).bind λk S1=>if k=true then(step ρ S1).bind λf S'=>match f with
   | .next ρ'=>fQ c step n ρ' S'
   | .cont ρ'=>fQ c step n ρ' S'
   | .brk ρ'=>.ok (.next ρ') S'
   | .ret d=>.ok (.ret d) S'
  else .ok (.next ρ) S1
mutual
noncomputable def ar:CS->bt->af->Res Fl
 | .asg i e,ρ,S=>(ah Φ Γ e ρ S).bind λd S1=>.ok (.next (ρ.set i (some d))) S1
 | .asgT t e,ρ,S=>(ah Φ Γ e ρ S).bind λd S1=>match aQ t d ρ with
  |some ρ'=>.ok (.next ρ') S1
  |none=>.fail
 | .par is es,ρ,S=>(ai Φ Γ es ρ S).bind λds S1=>if ds.length=is.length then .ok (.next (eh is.reverse ds.reverse ρ)) S1 else .fail
 | .aug _ _,_,_=>.fail
 | .set o i v,ρ,S=>(ah Φ Γ v ρ S).bind λf S1=>(ah Φ Γ o ρ S1).bind λd S2=>(ah Φ Γ i ρ S2).bind λe S3=>match hW d e f S3 with
  |some g=>.ok (.next ρ) g
  |none=>.fail
 | .set2 _ _ _ _ _,_,_=>.fail
 | .expr e,ρ,S=>(ah Φ Γ e ρ S).bind λ_ S1=>.ok (.next ρ) S1
 | .ret e,ρ,S=>(ah Φ Γ e ρ S).bind λd S1=>.ok (.ret d) S1
 | .retN,_,S=>.ok (.ret .non) S
 | .pass,ρ,S=>.ok (.next ρ) S
 | .brk,ρ,S=>.ok (.brk ρ) S
 | .cont,ρ,S=>.ok (.cont ρ) S
 | .ite c a b,ρ,S=>(ao Φ Γ c ρ S).bind λk S1=>if k=true then ag a ρ S1 else ag b ρ S1
 | .for_ t it body,ρ,S=>(bj Φ Γ it ρ S).bind λxs S1=>r8 (λx ρ S=>match aQ t x ρ with
   |some ρ'=>ag body ρ' S
   |none=>.fail) xs ρ S1
 | .while_ n c body,ρ,S=>fQ (ao Φ Γ c) (ag body) n ρ S
 | .never,_,_=>.fail
 | .dloop _ _ _ _,_,_=>.fail
 | .raise_ x es,ρ,S=>(ai Φ Γ es ρ S).bind λds S1=>if ds.length<=1000 then .err ⟨x,[]⟩ S1 else .fail
 | .tryK _ body _ ys w,ρ,S=>match ag body ρ S with
  | .err x S'=>(match x.fs,(ys.zip w).lookup x.cls with
   | [],some r=>.ok (.ret (.str r)) S'
   |_,_=>.fail)
  |r=>r
 | .tryN y _ body _ ys w,ρ,S=>match ag body ρ S with
  | .err x S'=>(match x.fs,(ys.zip w).lookup x.cls with
   | [],some r=>.ok (.ret (.lst [.str y,.str r])) S'
   |_,_=>.fail)
  |r=>r
noncomputable def ag:List CS->bt->af->Res Fl
 | [],ρ,S=>.ok (.next ρ) S
 |c::cs,ρ,S=>(ar c ρ S).bind λf S1=>match f with
  | .next ρ'=>ag cs ρ' S1
  |f=>.ok f S1
end
end
end Py
variable {body cs:List Py.CS}{Φ:Py.FT}{ρ ρ':Py.bt}
namespace Py
def xZ(m:Mg)(x:Exc)(cls:Value)(d:Option Addr)(H:Hp):Prop:=m x.cls=some cls/\x.fs=[]
def x_(m:Mg)(E:XK)(x:Exc)(H:Hp):Prop:=∀cls d,xZ m x cls d H->E cls d H
noncomputable def ak{c d:Type}(K:Fg)(m:GS)(E:XK)(Rel:La->Hp->c->d->Prop)(μ:La)(H:Hp)(Q:d->Hp->Prop):Res c->Prop
 | .ok a S'=>∀μ' H' b,Ext μ H μ' H'->aM K m μ' S' H'->Rel μ' H' a b->Q b H'
 | .err x S'=>∀μ' H',Ext μ H μ' H'->aM K m μ' S' H'->x_ m.mg E x H'
 | .fail=>False
section
variable {mg:GS}{E:XK}
theorem b_{Q:VK}{r:Res D}(w:ak K mg E (Rep K mg) μ H Q r.noErr):aV K mg μ H Q r:=by cases r<;>first|exact w|exact w.elim
theorem ak.ext{Rel:La->Hp->α->β->Prop}{Q:β->Hp->Prop}{r:Res α}(x:Ext μ H μ' H')(w:ak K mg E Rel μ H Q r):ak K mg E Rel μ' H' Q r:=by
 cases r with
 |ok d S=>exact λa b v X s R=>w _ _ v (x.trans X) s R
 |err y S=>exact λa b X s=>w _ _ (x.trans X) s
 |fail=>exact w
theorem ak.bind{c d:Type}{Rel:La->Hp->α->β->Prop}{R:La->Hp->c->d->Prop}{Q:d->Hp->Prop}{r:Res α}{f:α->af->Res c}(w:ak K mg E R μ H Q (r.bind f)):
  ak K mg E Rel μ H (λb H'=>∃μ' S' a,Ext μ H μ' H'/\aM K mg μ' S' H'/\Rel μ' H' a b/\ak K mg E R μ' H' Q (f a S')) r:=by
 cases r with
 |ok a S'=>exact λe g b x s r=>⟨_,_,a,x,s,r,ak.ext x (show ak K _ E _ _ H Q _ from w)⟩
 |err y S'=>exact w
 |fail=>exact w
theorem ak.mono{Rel:La->Hp->α->β->Prop}{Q c:β->Hp->Prop}{r:Res α}(w:ak K mg E Rel μ H Q r)(h:∀b H',Q b H'->c b H'):ak K mg E Rel μ H c r:=by
 cases r with
 |ok a S=>exact λd e b x s r=>h b _ (w _ _ b x s r)
 |err y S=>exact w
 |fail=>exact w
def aW(K:Fg)(m:GS)(μ:La)(H:Hp)(ρ:bt)(σ:L2.St):Prop:=
 ρ.length=σ.length/\∀(i:Nat) (d:D),ρ[i]?=some (some d)->∃v,σ[i]?=some (some v)/\Rep K m μ H d v
theorem aW.mono(x:Ext μ H μ' H')(h:aW K mg μ H ρ σ):aW K mg μ' H' ρ σ:=
 ⟨h.1,λi d e=>let⟨v,a,b⟩:=h.2 i d e;⟨v,a,Rep.mono x _ _ b⟩⟩
theorem aW.set{i:Nat}(h:aW K mg μ H ρ σ)(r:Rep K mg μ H d v):aW K mg μ H (ρ.set i (some d)) (σ.set i (some v)):=by
 refine⟨by simp[h.1],λj e a=>?_⟩;by_cases b:j=i
 ·subst b
  have c:j<ρ.length:=by
   grind
  rw[ZZ c]at a;cases a;exact⟨v,ZZ (by rw[<-h.1];exact c),r⟩
 ·rw[List.getElem?_set_ne (Ne.symm b)]at a⊢;exact h.2 j e a
end
section
variable (K:Fg)(mg:Mg)(E:XK)(Φ:FT)(Γ:Str->Option D)
noncomputable def tE(c:CE):TE:=λσ H Q=>∃F μ ρ S,aM K ⟨mg,F⟩ μ S H/\aW K ⟨mg,F⟩ μ H ρ σ/\ak K ⟨mg,F⟩ E (Rep K ⟨mg,F⟩) μ H Q (ah Φ Γ c ρ S)
noncomputable def tT(c:CE):TT:=λσ H Q=>∃F μ ρ S,aM K ⟨mg,F⟩ μ S H/\aW K ⟨mg,F⟩ μ H ρ σ/\ak K ⟨mg,F⟩ E (λ_ _ a b=>a=b) μ H Q (ao Φ Γ c ρ S)
noncomputable def tL(cs:List CE):TA:=λσ H Q=>∃F μ ρ S,aM K ⟨mg,F⟩ μ S H/\aW K ⟨mg,F⟩ μ H ρ σ/\ak K ⟨mg,F⟩ E (aj K ⟨mg,F⟩) μ H Q (ai Φ Γ cs ρ S)
end
theorem aO{t t':TE}(h:PE X e t)(w:∀σ H Q,t' σ H Q->t σ H Q):PE X e t':=λp s σ H Q I q=>h _ s _ H Q I (w _ H Q q)
theorem df{t t':TT}(h:PT X e t)(w:∀σ H Q,t' σ H Q->t σ H Q):PT X e t':=λp s σ H Q I q=>h _ s _ H Q I (w _ H Q q)
theorem eQ{e:Lx}{t t':TA}(h:PA X e t)(w:∀σ H Q,t' σ H Q->t σ H Q):PA X e t':=λpos p s σ H Q I q=>h _ _ s _ H Q I (w _ H Q q)
noncomputable def jv(s:List (Str×NameKind))(x:Str):Bool:=match s.lookup x with
 |some .local=>true|some .cell=>true|some .free=>true
 |_=>false
noncomputable def a8(s:List (Str×NameKind))(x:Str):Bool:=s.lookup x==some .globalImplicit&& !(x==("__debug__":Str))&& !(x==("__name__":Str))
noncomputable def dF(x:Str):Bool:= !(x==("__debug__":Str))&& !(x==("__classdict__":Str))
noncomputable def bJ:Expr->Bool
 | .Starred _ _=>false
 |_=>true
noncomputable def jw:D->Const->Bool
 | .non,.none=>true
 | .bl b,.bool c=>b==c
 | .int i,.int j=>i==j
 | .str x,.str y=>x==y
 |_,_=>false
noncomputable def gG:gF->Str
 | .len=>"len"| .tuple=>"tuple"| .list _=>"list"| .int=>"int"| .min=>"min"| .max=>"max"| .isinst=>"isinstance"| .all=>"all"| .any=>"any"| .sum=>"sum"| .repr=>"repr"| .abs=>"abs"| .str=>"str"| .sorted _ _=>"sorted"
noncomputable def jx:gF->Value
 | .len=>.builtin "len"| .tuple=>.type "tuple"| .list _=>.type "list"| .int=>.type "int"| .min=>.builtin "min"| .max=>.builtin "max"| .isinst=>.builtin "isinstance"| .all=>.builtin "all"| .any=>.builtin "any"| .sum=>.builtin "sum"| .repr=>.builtin "repr"| .abs=>.builtin "abs"| .str=>.type "str"| .sorted _ _=>.builtin "sorted"
theorem Fp(b:gF):bootBuiltins (gG b)=some (jx b):=by
 cases b with
 |list box=>show bootBuiltins (Str.ofString _)=some (.type _);decide+kernel
 |sorted box t=>rfl
 |_=>decide+kernel
noncomputable def h9:List String:=["int","bool","str","tuple","list","dict"]
theorem l_{n:String}(h:h9.contains n=true):bootBuiltins (Str.ofString n)=some (.type n):=by simp[h9]at h;rcases h with rfl|rfl|rfl|rfl|rfl|rfl<;>decide+kernel
abbrev Sc:=List (Str×NameKind)
noncomputable def jy(N s:Sc):Sc:=N.map λ(n,k)=>if(k== .free&&s.lookup n==some .cell)then(n,.cell)else(n,k)
noncomputable def r9(n:Sc):Str->Bool:=λx=>n.lookup x==some .cell
noncomputable def Fq(scope:Scope)(s:Sc):Bool:=scope.kind== .function&&scope.names.all λ(n,k)=>(k !=.cell||scope.names.lookup n==some .cell)&&(k !=.local||scope.names.lookup n==some .local)&&(k !=.free||(s.lookup n==some .cell||s.lookup n==some .free))
noncomputable def frB(n:Sc)(a N:Ls)(fr:List (Option Nat)):Bool:=fr.length==a.length&&(List.range a.length).all λi=>match fr[i]? with
 |some (some j)=>(match a[i]? with
  |some x=>n.lookup x==some .free&&N[j]?==some x
  |none=>false)
 |_=>true
noncomputable def h_:Ls->Bool
 | []=>true
 |x::r=> !r.contains x&&h_ r
noncomputable def ia:Expr->Bool
 | .Slice _ _ _ _=>false
 |_=>true
theorem Fs{b:Expr}(h:ia b=true):wZ b:=by intro o i;cases b<;>first|rfl|cases h
noncomputable def l':pX->Str
 | .append=>"append"| .extend=>"extend"| .pop=>"pop"| .count=>"count"| .insert=>"insert"| .index=>"index"
noncomputable def ma:Expr->Bool
 | .Name _ _=>true
 |_=>false
noncomputable def eS:Expr->Bool
 | .Tuple _ _ _=>true
 |_=>false
noncomputable def me:Expr->Bool
 | .Set _ _ _=>false
 |_=>true
noncomputable def dE:Expr:=.Name "" ⟨0,0,0,0⟩
noncomputable def dG:Comprehension:=⟨dE,dE,[],0⟩
set_option genInjectivity false in
structure Nd where
 e0:Expr:=dE
 e1:Expr:=dE
 e2:Expr:=dE
 es:Lx:=[]
 lo:Option Expr:=none
 hi:Option Expr:=none
 gs:List Comprehension:=[]
 sc:Scope:=default
 k:Nat:=0
 pos:Pos:=⟨0,0,0,0⟩
noncomputable def vw:Expr->Nd
 | .BoolOp _ vs p=>{es:=vs,pos:=p}
 | .BinOp l _ r p=>{e0:=l,e1:=r,pos:=p}
 | .UnaryOp _ x p=>{e0:=x,pos:=p}
 | .IfExp t x y p=>{e0:=t,e1:=x,e2:=y,pos:=p}
 | .ListComp a g sc p=>{e0:=a,gs:=g,sc:=sc,pos:=p}
 | .SetComp a g sc p=>{e0:=a,gs:=g,sc:=sc,pos:=p}
 | .Compare l _ R p=>{e0:=l,es:=R,pos:=p}
 | .Call f xs ks p=>{e0:=f,es:=xs,e1:=(ks.headD ⟨none,dE,⟨0,0,0,0⟩⟩).value,e2:=.Name "" (ks.headD ⟨none,dE,⟨0,0,0,0⟩⟩).pos,pos:=p}
 | .Constant _ k p=>{k:=k,pos:=p}
 | .Attribute v _ p=>{e0:=v,pos:=p}
 | .Subscript v s p=>{e0:=v,e1:=s,pos:=p}
 | .Name _ p=>{pos:=p}
 | .List es p=>{es:=es,pos:=p}
 | .Tuple es k p=>{es:=es,k:=k,pos:=p}
 | .Slice l u s p=>{lo:=l,hi:=u,e2:=s.getD dE,pos:=p}
 | .Dict _ _ p=>{pos:=p}
 | .JoinedStr vs p=>{es:=vs,pos:=p}
 | .FormattedValue v _ _ p=>{e0:=v,pos:=p}
 |_=>{}
noncomputable def ya:D->Const
 | .bl b=>.bool b
 | .int i=>.int i
 | .str x=>.str x
 |_=>.none
noncomputable def mf:CT->Bool
 | .tup _=>true
 |_=>false
noncomputable def r_:CE->Bool
 | .band _ _=>true
 |_=>false
noncomputable def jz:CE->Bool
 | .bor _ _=>true
 |_=>false
noncomputable def yb:CE->Bool
 | .comp .. =>true
 |_=>false
mutual
noncomputable def ib:CT->Ls->Expr->Expr
 | .var i,N,e=>.Name (N.getD i "") (vw e).pos
 | .tup ts,N,e=>.Tuple (fo ts N (vw e).es) (vw e).k (vw e).pos
noncomputable def fo:List CT->Ls->Lx->Lx
 | [],_,_=>[]
 |t::ts,N,es=>ib t N (es.headD dE)::fo ts N es.tail
end
mutual
noncomputable def pY(c:Str->Bool)(N:Ls)(s:Sc):CT->Bool
 | .var i=>N[i]?==some (N.getD i "")&&(s.lookup (N.getD i "")==some .local||(c (N.getD i "")&&s.lookup (N.getD i "")==some .cell))
 | .tup ts=>sa c N s ts
noncomputable def sa(c:Str->Bool)(N:Ls)(s:Sc):List CT->Bool
 | []=>true
 |t::ts=>pY c N s t&&sa c N s ts
end
noncomputable def JY(p:FP)(N:Ls)(e:Expr):Expr:=match p with
 | .s x=>.Constant (.str x) (vw e).k (vw e).pos
 | .v i=>.FormattedValue (.Name (N.getD i "") (vw (vw e).e0).pos) (-1) none (vw e).pos
 | .g y=>.FormattedValue (.Name y (vw (vw e).e0).pos) (-1) none (vw e).pos
noncomputable def Dj:List FP->Ls->Lx->Lx
 | [],_,_=>[]
 |p::ps,N,es=>JY p N (es.headD dE)::Dj ps N es.tail
noncomputable def Dk(N:Ls)(s:List (Str×NameKind)):FP->Bool
 | .s _=>true
 | .v i=>N[i]?==some (N.getD i "")&&(jv s (N.getD i "")&&dF (N.getD i ""))
 | .g y=>a8 s y
mutual
noncomputable def aY:CE->Ls->Expr->Expr
 | .var i,N,e=>.Name (N.getD i "") (vw e).pos
 | .dct,_,e=>.Dict [] [] (vw e).pos
 | .rv0 _ _ _,_,e=>e
 | .odd _ _ _,_,e=>e
 | .evn _ _,_,e=>e
 | .rev a b,N,e=>.Subscript (aY a N (vw e).e0) (.Slice none none (some (aY b N (vw (vw e).e1).e2)) (vw (vw e).e1).pos) (vw e).pos
 | .lit d,_,e=>.Constant (ya d) (vw e).k (vw e).pos
 | .glob y,_,e=>.Name y (vw e).pos
 | .ty n,_,e=>.Name (Str.ofString n) (vw e).pos
 | .bin op a b,N,e=>.BinOp (aY a N (vw e).e0) op (aY b N (vw e).e1) (vw e).pos
 | .binB _ _,_,e=>e
 | .catB a b,N,e=>.BinOp (aY a N (vw e).e0) .Add (aY b N (vw e).e1) (vw e).pos
 | .neg a,N,e=>.UnaryOp .USub (aY a N (vw e).e0) (vw e).pos
 | .cmp op a b,N,e=>.Compare (aY a N (vw e).e0) [op] [aY b N ((vw e).es.headD dE)] (vw e).pos
 | .chain3 op op' op'' a b c d,N,e=>.Compare (aY a N (vw e).e0) [op,op',op''] [aY b N ((vw e).es.headD dE),aY c N ((vw e).es.tail.headD dE),aY d N ((vw e).es.tail.tail.headD dE)] (vw e).pos
 | .chain op op' a b c,N,e=>.Compare (aY a N (vw e).e0) [op,op'] [aY b N ((vw e).es.headD dE),aY c N ((vw e).es.tail.headD dE)] (vw e).pos
 | .band a b,N,e=>.BoolOp .And (aY a N ((vw e).es.headD dE)::cond ((vw e).es.length==2) [aY b N ((vw e).es.tail.headD dE)] (vw (aY b N (.BoolOp .And (vw e).es.tail (vw e).pos))).es) (vw e).pos
 | .bor a b,N,e=>.BoolOp .Or (aY a N ((vw e).es.headD dE)::cond ((vw e).es.length==2) [aY b N ((vw e).es.tail.headD dE)] (vw (aY b N (.BoolOp .Or (vw e).es.tail (vw e).pos))).es) (vw e).pos
 | .bnot a,N,e=>.UnaryOp .Not (aY a N (vw e).e0) (vw e).pos
 | .ite c a b,N,e=>.IfExp (aY c N (vw e).e0) (aY a N (vw e).e1) (aY b N (vw e).e2) (vw e).pos
 | .tup es,N,e=>.Tuple (dg es N (vw e).es) (vw e).k (vw e).pos
 | .lst _ es,N,e=>.List (dg es N (vw e).es) (vw e).pos
 | .idx a b,N,e=>.Subscript (aY a N (vw e).e0) (aY b N (vw e).e1) (vw e).pos
 | .sl a lo hi,N,e=>.Subscript (aY a N (vw e).e0) (.Slice (dg lo N (vw (vw e).e1).lo.toList).head? (dg hi N (vw (vw e).e1).hi.toList).head? none (vw (vw e).e1).pos) (vw e).pos
 | .call f es,N,e=>.Call (.Name f (vw (vw e).e0).pos) (dg es N (vw e).es) [] (vw e).pos
 | .blt b es,N,e=>.Call (.Name (gG b) (vw (vw e).e0).pos) (dg es N (vw e).es) [] (vw e).pos
 | .fst ps,N,e=>.JoinedStr (Dj ps N (vw e).es) (vw e).pos
 | .sel _ _ _,_,e=>e
 | .tix o es,N,e=>.Call (.Attribute (aY o N (vw (vw e).e0).e0) "index" (vw (vw e).e0).pos) (dg es N (vw e).es) [] (vw e).pos
 | .meth m o es,N,e=>.Call (.Attribute (aY o N (vw (vw e).e0).e0) (l' m) (vw (vw e).e0).pos) (dg es N (vw e).es) [] (vw e).pos
 | .join x es,N,e=>.Call (.Attribute (.Constant (.str x) (vw (vw (vw e).e0).e0).k (vw (vw (vw e).e0).e0).pos) "join" (vw (vw e).e0).pos) (dg es N (vw e).es) [] (vw e).pos
 | .lenset a,N,e=>.Call (.Name "len" (vw (vw e).e0).pos) [.Call (.Name "set" (vw (vw ((vw e).es.headD dE)).e0).pos) [aY a N ((vw ((vw e).es.headD dE)).es.headD dE)] [] (vw ((vw e).es.headD dE)).pos] [] (vw e).pos
 | .sset a,N,e=>.Call (.Name "sorted" (vw (vw e).e0).pos) [.Call (.Name "set" (vw (vw ((vw e).es.headD dE)).e0).pos) [aY a N ((vw ((vw e).es.headD dE)).es.headD dE)] [] (vw ((vw e).es.headD dE)).pos] [] (vw e).pos
 | .sumL _,_,e=>e
 | .rng _ _ _,_,e=>e
 | .comp _ N' _ tg it ifs body,N,e=>.ListComp (mi body N' (vw e).e0) (⟨ib tg N' ((vw e).gs.headD dG).target,se it N ((vw e).gs.headD dG).iter,dg ifs N' ((vw e).gs.headD dG).ifs,0⟩::sd body N' (vw e).gs.tail) (vw e).sc (vw e).pos
 | .ssc _ _ _ _ _ _,_,e=>e
 | .emit _,_,e=>e
 | .emitK _,_,e=>e
 | .sortd _,_,e=>e
 | .inner _ _ _ _,_,e=>e
 | .seq _,_,e=>e
 | .range _,_,e=>e
 | .zip _,_,e=>e
 | .down _,_,e=>e
 | .enum _,_,e=>e
 | .revl _,_,e=>e
 | .by2 _,_,e=>e
noncomputable def mi:CE->Ls->Expr->Expr
 | .emit a,N,e=>aY a N e
 | .emitK a,N,e=>aY a N e
 | .inner _ _ _ body,N,e=>mi body N e
 |_,_,e=>e
noncomputable def sd:CE->Ls->List Comprehension->List Comprehension
 | .inner tg it ifs body,N,g=>⟨ib tg N (g.headD dG).target,se it N (g.headD dG).iter,dg ifs N (g.headD dG).ifs,0⟩::sd body N g.tail
 |_,_,_=>[]
noncomputable def dg:List CE->Ls->Lx->Lx
 | [],_,_=>[]
 |c::cs,N,es=>aY c N (es.headD dE)::dg cs N es.tail
noncomputable def se:CE->Ls->Expr->Expr
 | .seq c,N,e=>aY c N e
 | .range es,N,e=>.Call (.Name "range" (vw (vw e).e0).pos) (dg es N (vw e).es) [] (vw e).pos
 | .enum _,_,e=>e
 | .by2 _,_,e=>e
 | .revl _,_,e=>e
 | .down _,_,e=>e
 | .zip es,N,e=>.Call (.Name "zip" (vw (vw e).e0).pos) (dg es N (vw e).es) [] (vw e).pos
 |_,_,e=>e
end
mutual
noncomputable def bL:CE->Ls->Sc->Expr->Bool
 | .var i,N,sc,_=>N[i]?==some (N.getD i "")&&(jv sc (N.getD i "")&&dF (N.getD i ""))
 | .dct,_,_,_=>true
 | .rv0 _ _ _,_,_,_=>false
 | .odd _ _ _,_,_,_=>false
 | .evn _ _,_,_,_=>false
 | .rev a b,N,sc,e=>bL a N sc (vw e).e0&&bL b N sc (vw (vw e).e1).e2
 | .lit d,_,_,_=>jw d (ya d)
 | .glob y,_,sc,_=>a8 sc y
 | .ty n,_,sc,_=>a8 sc (Str.ofString n)&&h9.contains n
 | .bin _ a b,N,sc,e=>bL a N sc (vw e).e0&&bL b N sc (vw e).e1
 | .binB _ _,_,_,_=>false
 | .catB a b,N,sc,e=>bL a N sc (vw e).e0&&bL b N sc (vw e).e1
 | .neg a,N,sc,e=>bL a N sc (vw e).e0
 | .cmp op a b,N,sc,e=>bL a N sc (vw e).e0&&(bL b N sc ((vw e).es.headD dE)&& !behindInMarks op (aY b N ((vw e).es.headD dE)))
 | .chain3 _ _ op'' a b c d,N,sc,e=>bL a N sc (vw e).e0&&(bL b N sc ((vw e).es.headD dE)&&(bL c N sc ((vw e).es.tail.headD dE)&&(bL d N sc ((vw e).es.tail.tail.headD dE)&& !behindInMarks op'' (aY d N ((vw e).es.tail.tail.headD dE)))))
 | .chain _ op' a b c,N,sc,e=>bL a N sc (vw e).e0&&(bL b N sc ((vw e).es.headD dE)&&(bL c N sc ((vw e).es.tail.headD dE)&& !behindInMarks op' (aY c N ((vw e).es.tail.headD dE))))
 | .band a b,N,sc,e=>bL a N sc ((vw e).es.headD dE)&&cond ((vw e).es.length==2) (bL b N sc ((vw e).es.tail.headD dE)) (r_ b&&bL b N sc (.BoolOp .And (vw e).es.tail (vw e).pos))
 | .bor a b,N,sc,e=>bL a N sc ((vw e).es.headD dE)&&cond ((vw e).es.length==2) (bL b N sc ((vw e).es.tail.headD dE)) (jz b&&bL b N sc (.BoolOp .Or (vw e).es.tail (vw e).pos))
 | .bnot a,N,sc,e=>bL a N sc (vw e).e0
 | .ite c a b,N,sc,e=>bL c N sc (vw e).e0&&(bL a N sc (vw e).e1&&bL b N sc (vw e).e2)
 | .tup es,N,sc,e=>eT es N sc (vw e).es&&decide (es.length<1000)
 | .lst _ es,N,sc,e=>eT es N sc (vw e).es&&decide (es.length<1000)
 | .idx a b,N,sc,e=>bL a N sc (vw e).e0&&(bL b N sc (vw e).e1&&ia (aY b N (vw e).e1))
 | .sl a lo hi,N,sc,e=>bL a N sc (vw e).e0&&(eT lo N sc (vw (vw e).e1).lo.toList&&(eT hi N sc (vw (vw e).e1).hi.toList&&(decide (lo.length<2)&&decide (hi.length<2))))
 | .call f es,N,sc,e=>a8 sc f&&(eT es N sc (vw e).es&& !es.isEmpty)
 | .blt b es,N,sc,e=>a8 sc (gG b)&&(eT es N sc (vw e).es&&(!es.isEmpty&&rY b))
 | .fst ps,N,sc,_=>decide (2<=ps.length)&&ps.all (Dk N sc)
 | .sel _ _ _,_,_,_=>false
 | .tix o es,N,sc,e=>ma (aY o N (vw (vw e).e0).e0)&&((vw (vw e).e0).pos.endLine==(vw e).pos.line&&(bL o N sc (vw (vw e).e0).e0&&(eT es N sc (vw e).es&&decide (es.length=1))))
 | .meth m o es,N,sc,e=>ma (aY o N (vw (vw e).e0).e0)&&((vw (vw e).e0).pos.endLine==(vw e).pos.line&&(bL o N sc (vw (vw e).e0).e0&&(eT es N sc (vw e).es&&decide (es.length<20))))
 | .join _ es,N,sc,e=>(vw (vw e).e0).pos.endLine==(vw e).pos.line&&(eT es N sc (vw e).es&&decide (es.length=1))
 | .lenset a,N,sc,e=>a8 sc "len"&&(a8 sc "set"&&(bL a N sc ((vw ((vw e).es.headD dE)).es.headD dE)&&bJ (aY a N ((vw ((vw e).es.headD dE)).es.headD dE))))
 | .sset a,N,sc,e=>a8 sc "sorted"&&(a8 sc "set"&&(bL a N sc ((vw ((vw e).es.headD dE)).es.headD dE)&&bJ (aY a N ((vw ((vw e).es.headD dE)).es.headD dE))))
 | .sumL _,_,_,_=>false
 | .rng _ _ _,_,_,_=>false
 | .comp _ N' fr tg it ifs body,N,sc,e=>Fq (vw e).sc sc&&(frB (vw e).sc.names N' N fr&&(h_ N'&&(pY (r9 (vw e).sc.names) N' (jy (vw e).sc.names sc) tg&&(Dl it N sc tg ((vw e).gs.headD dG).iter&&(me (se it N ((vw e).gs.headD dG).iter)&&(eT ifs N' (jy (vw e).sc.names sc) ((vw e).gs.headD dG).ifs&&Ft body false (r9 (vw e).sc.names) N' (jy (vw e).sc.names sc) (vw e).gs.tail (vw e).e0))))))
 | .ssc _ _ _ _ _ _,_,_,_=>false
 | .emit _,_,_,_=>false
 | .emitK _,_,_,_=>false
 | .sortd _,_,_,_=>false
 | .inner _ _ _ _,_,_,_=>false
 | .seq _,_,_,_=>false
 | .range _,_,_,_=>false
 | .zip _,_,_,_=>false
 | .down _,_,_,_=>false
 | .enum _,_,_,_=>false
 | .revl _,_,_,_=>false
 | .by2 _,_,_,_=>false
noncomputable def Ft:CE->Bool->(Str->Bool)->Ls->Sc->List Comprehension->Expr->Bool
 | .emit a,k,_,N,sc,_,e=> !k&&bL a N sc e
 | .emitK _,_,_,_,_,_,_=>false
 | .inner tg it ifs body,k,cell,N,sc,g,e=>pY cell N sc tg&&(Dl it N sc tg (g.headD dG).iter&&(me (se it N (g.headD dG).iter)&&(eT ifs N sc (g.headD dG).ifs&&Ft body k cell N sc g.tail e)))
 |_,_,_,_,_,_,_=>false
noncomputable def eT:List CE->Ls->Sc->Lx->Bool
 | [],_,_,_=>true
 |c::cs,N,sc,es=>bL c N sc (es.headD dE)&&(bJ (aY c N (es.headD dE))&&eT cs N sc es.tail)
noncomputable def Dl:CE->Ls->Sc->CT->Expr->Bool
 | .seq c,N,sc,_,e=>bL c N sc e
 | .range es,N,sc,_,e=>a8 sc "range"&&(eT es N sc (vw e).es&&(es.length==1||es.length==2))
 | .enum _,_,_,_,_=>false
 | .by2 _,_,_,_,_=>false
 | .revl _,_,_,_,_=>false
 | .down _,_,_,_,_=>false
 | .zip es,N,sc,t,e=>a8 sc "zip"&&(eT es N sc (vw e).es&&(es.length==2&&mf t))
 |_,_,_,_,_=>false
end
theorem ae{a b:Bool}(h:(a&&b)=true):a=true/\b=true:=Bool.and_eq_true_iff.mp h
theorem fR{p:Prop} [Decidable p] (h:decide p=true):p:=ZT h
theorem fS{a:Bool}(h:(!a)=true):a=false:=by lia
end Py
variable {sc:Py.Sc}
namespace Py
noncomputable def sf(K:Fg)(m:Mg)(n:Nat)(a:List D->af->Res D):Sp:=λvs H Q E=>vs.length=n/\∃F μ S ds,aM K ⟨m,F⟩ μ S H/\aj K ⟨m,F⟩ μ H ds vs/\ak K ⟨m,F⟩ E (Rep K ⟨m,F⟩) μ H Q (a ds S)
structure bK (P:Program)(w:World)(K:Fg)(mg:Mg)(base:Heap)(CX:c_)(k:Nat)(f:Str)(φ:List D->af->Res D):Prop where
 ex:∃fa fd ps,mg f=some (.ref fa)/\PySem.W.keepIn K (.ref fa)=true/\Binds K fd ps []/\cN P w K mg base CX k fa fd ps (sf K mg ps.length φ)/\∀ds S,φ ds S≠.fail->ds.length=ps.length
noncomputable def fT:Ls:=["len","tuple","list","int","min","max","isinstance","all","any","sorted","bool","str","dict","range","zip","set","sum","reversed","repr","abs","enumerate"]
structure Dm (P:Program)(w:World)(K:Fg)(mg:Mg)(base:Heap)(CX:c_)(Φ:FT)(Γ:Str->Option D)(k:Nat):Prop where
 fns:∀f φ,Φ f=some φ->bK P w K mg base CX k f φ
 gl:∀x d,Γ x=some d->∃v u,mg x=some u/\RelV v u/\∀F μ H,Rep K ⟨mg,F⟩ μ H d v
 bl:∀x∈fT,mg x=none
structure cg (X:Cx)(cell:Str->Bool)(N:Ls)(sc:Sc)(CX:c_)(E:XK)(Φ:FT)(Γ:Str->Option D)(k:Nat):Prop where
 n:X.N=N
 nd:N.Nodup
 sc:X.env.scope.names=sc
 kd:X.env.scope.kind=.function
 calm:X.calm=true
 room:cC k X.A
 fn:∀x,cell x=true->X.fn x=true
 mod:Dm X.prog X.w X.K X.mg X.base CX Φ Γ k
 pass:jd CX X E
 cx0:∀outer H s e s',CX outer H s E0 e s'->False
section
variable {E:XK}{k:Nat}{l r:Expr}{pos:Pos}{a b c:CE}
theorem yc{o:Operator}(h:PE X l (tE X.K X.mg E Φ Γ a))(c:PE X r (tE X.K X.mg E Φ Γ b)):PE X (.BinOp l o r pos) (tE X.K X.mg E Φ Γ (.bin o a b)):=
 aO (gQ (EN _) h c) λy H Q z=>aE z λF t u S g e w=>
  ⟨F,_,_,S,g,e,(ak.bind w).mono λv H1 z=>ay z λk p d1 x s R W=>⟨F,_,_,_,s,e.mono x,(ak.bind W).mono λV n z=>ay z λm q d2 j f d i=>⟨F,_,_,_,_,f,Rep.mono j _ _ R,d,b_ i⟩⟩⟩
theorem sg(h:PE X l (tE X.K X.mg E Φ Γ a))(c:PE X r (tE X.K X.mg E Φ Γ b)):PE X (.BinOp l .Add r pos) (tE X.K X.mg E Φ Γ (.catB a b)):=
 aO (gQ xj h c) λu H Q z=>aE z λF q t S g e w=>
  ⟨F,_,_,S,g,e,(ak.bind w).mono λv H1 z=>ay z λk o d1 x s R W=>⟨F,_,_,_,s,e.mono x,(ak.bind W).mono λV n z=>ay z λm p d2 j f d i=>⟨F,_,_,_,_,f,Rep.mono j _ _ R,d,b_ i⟩⟩⟩
theorem yd{o:CmpOp}(f:X.A.units+64<cLine)(h:PE X l (tE X.K X.mg E Φ Γ a))(c:PE X r (tE X.K X.mg E Φ Γ b))(d:behindInMarks o r=false):PE X (.Compare l [o] [r] pos) (tE X.K X.mg E Φ Γ (.cmp o a b)):=
 aO (lw (dc _ f) h c d) λB H Q z=>aE z λF y A S j e w=>
  ⟨F,_,_,S,j,e,(ak.bind w).mono λv H1 z=>ay z λn t d1 x s R W=>⟨F,_,_,_,s,e.mono x,(ak.bind W).mono λV q z=>ay z λp u d2 m i g k=>⟨F,_,_,_,_,i,Rep.mono m _ _ R,g,b_ k⟩⟩⟩
theorem fq{m:GS}{E:XK}{Rel:La->Hp->α->β->Prop}{Q:β->Hp->Prop}{f:Bool->Res α}
  (w:ak K m E Rel μ H Q (aB d f)) (r:Rep K m μ H d v):∃k,v=.bl k/\d=.bl k/\ak K m E Rel μ H Q (f k):=by
 cases d with
 |bl k=>exact⟨k,fE r,rfl,w⟩
 |_=>exact w.elim
theorem ye{o:CmpOp}(f:X.A.units+64<cLine)(h:PE X l (tE X.K X.mg E Φ Γ a))(c:PE X r (tE X.K X.mg E Φ Γ b))(d:behindInMarks o r=false):PT X (.Compare l [o] [r] pos) (tT X.K X.mg E Φ Γ (.cmp o a b)):=
 df (wG (dc _ f) h c d) λP H Q z=>aE z λF N O S n e w=>
  ⟨F,_,_,S,n,e,(ak.bind w).mono λV H1 z=>ay z λv D d1 x s R W=>⟨F,_,_,_,s,e.mono x,(ak.bind W).mono λK B z=>ay z λy G d2 u j g p=>
   ⟨F,_,_,_,_,j,Rep.mono u _ _ R,g,b_ ((ak.bind p).mono λL C z=>ay z λA I J M m i q=>by obtain⟨k,rfl,rfl,t⟩:=fq q i;exact⟨k,rfl,t _ _ k .refl m rfl⟩)⟩⟩⟩
theorem mj{o:CmpOp}(h:X.A.units+64<cLine)(g:PE X l (tE X.K X.mg E Φ Γ a))(i:PE X r (tE X.K X.mg E Φ Γ b))(j:PE X r' (tE X.K X.mg E Φ Γ c))(m:behindInMarks op' r'=false):PE X (.Compare l [o,op'] [r,r'] pos) (tE X.K X.mg E Φ Γ (.chain o op' a b c)):=
 aO (D4 (dc _ h) (dc _ h) g i j m) λσ H Q z=>aE z λF μ ρ S y e w=>
  ⟨F,_,_,S,y,e,(ak.bind w).mono λv1 H1 z=>ay z λI P d1 x t n A=>⟨F,_,_,_,t,e.mono x,(ak.bind A).mono λv2 M z=>ay z λJ T d2 d u R B=>
   ⟨F,_,_,_,_,u,Rep.mono d _ _ n,R,b_ ((ak.bind B).mono λv3 N z=>ay z λK U Y f s p C=>by
    obtain⟨k,rfl,rfl,W⟩:=fq C p;refine⟨k,rfl,?_⟩;cases k with
    |true=>exact⟨F,_,_,_,s,(e.mono x).mono (d.trans f),(ak.bind W).mono λv4 O z=>ay z λL V Z G v q D=>⟨F,_,_,_,_,v,Rep.mono (f.trans G) _ _ R,q,b_ D⟩⟩
    |false=>exact W _ _ _ .refl s cD)⟩⟩⟩
theorem ml{o:CmpOp}(h:X.A.units+64<cLine)(g:PE X l (tE X.K X.mg E Φ Γ a))(i:PE X r (tE X.K X.mg E Φ Γ b))(j:PE X r' (tE X.K X.mg E Φ Γ c))(m:behindInMarks op' r'=false):PT X (.Compare l [o,op'] [r,r'] pos) (tT X.K X.mg E Φ Γ (.chain o op' a b c)):=
 df (D5 (dc _ h) (dc _ h) g i j m) λσ H Q z=>aE z λF μ ρ S B e w=>
  ⟨F,_,_,S,B,e,(ak.bind w).mono λv1 H1 z=>ay z λM S1 d1 x u n C=>⟨F,_,_,_,u,e.mono x,(ak.bind C).mono λv2 U z=>ay z λN S2 d2 d v R D=>
   ⟨F,_,_,_,_,v,Rep.mono d _ _ n,R,b_ ((ak.bind D).mono λv3 V z=>ay z λO S3 d3 f s p G=>by
    obtain⟨k,rfl,rfl,W⟩:=fq G p;refine⟨k,rfl,?_⟩;cases k with
    |true=>exact⟨F,_,_,_,s,(e.mono x).mono (d.trans f),(ak.bind W).mono λv4 Y z=>ay z λP S4 d4 L y q I=>⟨F,_,_,_,_,y,Rep.mono (f.trans L) _ _ R,q,b_ ((ak.bind I).mono λv5 Z z=>ay z λT S5 d5 x5 A t J=>by obtain⟨k,rfl,rfl,K⟩:=fq J t;exact⟨k,rfl,K _ _ k .refl A rfl⟩)⟩⟩
    |false=>exact⟨_,rfl,W _ _ _ .refl s rfl⟩)⟩⟩⟩
theorem pZ(h:PE X l (tE X.K X.mg E Φ Γ a))(c:PE X (.BoolOp .And (r::rest) pos) (tE X.K X.mg E Φ Γ b)):PE X (.BoolOp .And (l::r::rest) pos) (tE X.K X.mg E Φ Γ (.band a b)):=
 aO (qF h c) λn H Q z=>aE z λF j m S d e w=>
  ⟨F,_,_,S,d,e,(ak.bind w).mono λv H1 z=>ay z λg i d1 x s R f=>by
   obtain⟨k,rfl,rfl,W⟩:=fq f R;refine⟨k,rfl,?_⟩;cases k with
   |true=>exact⟨F,_,_,_,s,e.mono x,W⟩
   |false=>exact W _ _ _ .refl s cD⟩
theorem yf(h:PE X l (tE X.K X.mg E Φ Γ a))(c:PE X (.BoolOp .Or (r::rest) pos) (tE X.K X.mg E Φ Γ b)):PE X (.BoolOp .Or (l::r::rest) pos) (tE X.K X.mg E Φ Γ (.bor a b)):=
 aO (wl h c) λn H Q z=>aE z λF j m S d e w=>
  ⟨F,_,_,S,d,e,(ak.bind w).mono λv H1 z=>ay z λg i d1 x s R f=>by
   obtain⟨k,rfl,rfl,W⟩:=fq f R;refine⟨k,rfl,?_⟩;cases k with
   |true=>exact W _ _ _ .refl s cD
   |false=>exact⟨F,_,_,_,s,e.mono x,W⟩⟩
theorem mm(c:PE X l ta):PE X (.UnaryOp .Not l pos) (λσ H Q=>ta σ H λx H'=>∃k,hI X.K x H' k/\Q (.bl (!k)) H'):=by intro p s σ H Q I h;refine UnaryOp_ (aR (c _ s _ H _ I h) λv S ⟨x,_,a,r,k,t,q⟩=>?_);refine not_of (aR (jb _ _ _ _ x v (λk H'=>Q (.bl !k) H') a r ⟨k,t,q⟩) λK e ⟨_,b,d⟩=>?_);exact⟨.bl _,_,b,rfl,d⟩
theorem yg{m:GS}{E:XK}{Rel:La->Hp->α->β->Prop}{Q:β->Hp->Prop}{f:Bool->Res α}
  (w:ak K m E Rel μ H Q (match a' S d with|some k=>f k|none=>.fail)):∃k,a' S d=some k/\ak K m E Rel μ H Q (f k):=by
 cases e:a' S d with
 |none=>rw[e]at w;exact w.elim
 |some k=>simp_all
theorem yh(h:PE X l (tE X.K X.mg E Φ Γ a)):PE X (.UnaryOp .Not l pos) (tE X.K X.mg E Φ Γ (.bnot a)):=
 aO (mm h) λm H Q z=>aE z λF i j S c b w=>⟨F,_,_,S,c,b,(ak.bind w).mono λv H1 z=>ay z λf g d1 x s r W=>by obtain⟨k,e,d⟩:=yg W;exact⟨k,pW s r e,d _ _ _ .refl s cD⟩⟩
theorem yi(h:PE X l (tE X.K X.mg E Φ Γ a)):PE X (.UnaryOp .USub l pos) (tE X.K X.mg E Φ Γ (.neg a)):=
 aO (wA qZ h) λj H Q z=>aE z λF f g S b e w=>⟨F,_,_,S,b,e,(ak.bind w).mono λv H1 z=>ay z λc d d1 x s r W=>by
  cases d1 with
  |int i=>exact⟨i,aI r,W _ _ _ .refl s bQ⟩
  |_=>exact W.elim⟩
theorem p6(h:PT X l (tT X.K X.mg E Φ Γ a))(f:PW X (.BoolOp .And (r::rest) pos) (tT X.K X.mg E Φ Γ b)):PW X (.BoolOp .And (l::r::rest) pos) (tT X.K X.mg E Φ Γ (.band a b)):=λm p s q H Q I z=>aE z λF n o S g e w=>
 qE h f _ _ s _ H Q I ⟨F,_,_,S,g,e,(ak.bind w).mono λk H1 z=>ay z λi j K x c d W=>by
  subst d;cases K with
  |true=>exact⟨F,_,_,_,c,e.mono x,W⟩
  |false=>exact W _ _ _ .refl c rfl⟩
theorem yj(h:PT X l (tT X.K X.mg E Φ Γ a))(f:PW X (.BoolOp .Or (r::rest) pos) (tT X.K X.mg E Φ Γ b)):PW X (.BoolOp .Or (l::r::rest) pos) (tT X.K X.mg E Φ Γ (.bor a b)):=λm p s q H Q I z=>aE z λF n o S g e w=>
 pN h f _ _ s _ H Q I ⟨F,_,_,S,g,e,(ak.bind w).mono λk H1 z=>ay z λi j K x c d W=>by
  subst d;cases K with
  |true=>exact W _ _ _ .refl c rfl
  |false=>exact⟨F,_,_,_,c,e.mono x,W⟩⟩
theorem yk(h:PT X l (tT X.K X.mg E Φ Γ a)):PT X (.UnaryOp .Not l pos) (tT X.K X.mg E Φ Γ (.bnot a)):=
 df (i6 h) λj H Q z=>aE z λF g i S c b w=>⟨F,_,_,S,c,b,(ak.bind w).mono λk H1 z=>ay z λd f K x s e W=>by subst e;exact W _ _ _ .refl s rfl⟩
theorem yl{t x y:Expr}(i:PT X t (tT X.K X.mg E Φ Γ c))(h:PE X x (tE X.K X.mg E Φ Γ a))(g:PE X y (tE X.K X.mg E Φ Γ b)):PE X (.IfExp t x y pos) (tE X.K X.mg E Φ Γ (.ite c a b)):=
 aO (DD i h g) λp H Q z=>aE z λF n o S j e w=>⟨F,_,_,S,j,e,(ak.bind w).mono λk H1 z=>ay z λl m K d s f W=>by
  subst f;cases K with
  |true=>exact⟨F,_,_,_,s,e.mono d,W⟩
  |false=>exact⟨F,_,_,_,s,e.mono d,W⟩⟩
theorem ym:PA X [] (tL X.K X.mg E Φ Γ []):=eQ eG λc H Q z=>aE z λF a b S s e w=>w _ H _ .refl s .nil
theorem cG(h:bJ e=true):starEach (e::es) env=(false,eval e env)::starEach es env:=by cases e<;>first|rfl|cases h
theorem si{cs:List CE}(c:bJ e=true)(h:PE X e (tE X.K X.mg E Φ Γ a))(d:PA X es (tL X.K X.mg E Φ Γ cs)):PA X (e::es) (tL X.K X.mg E Φ Γ (a::cs)):=
 eQ (dy h d (cG c)) λt H Q z=>aE z λF p q S g b w=>⟨F,_,_,S,g,b,(ak.bind w).mono λv H1 z=>ay z λk n d1 x s r W=>
  ⟨F,_,_,_,s,b.mono x,(ak.bind W).mono λvs m z=>ay z λl o D j f R i=>i _ _ _ .refl f (.cons (Rep.mono j _ _ r) R)⟩⟩
end
theorem jA:∀{cs:List CE} {N:Ls} {es:Lx},(dg cs N es).length=cs.length
 | [],N,es=>rfl
 |c::cs,N,es=>congrArg _ jA
theorem eH:∀{cs:List CE} {N:Ls} {sc:Sc} {es:Lx},eT cs N sc es=true->∀e∈dg cs N es,bJ e=true
 | [],N,sc,es,h,e,H=>absurd H Zv
 |c::cs,N,sc,es,h,e,H=>by
  rcases Zk.mp H with rfl|H
  ·exact(ae (ae h).2).1
  ·exact eH (ae (ae h).2).2 e H
theorem gH:∀{es:Lx} {env:Env} {pos:Pos},(∀e∈es,bJ e=true)->(backTo pos (starEach es env)).any (·.1)=false
 | [],env,pos,h=>rfl
 |e::es,env,pos,h=>by rw[cG (h e Ze)];show(false||(backTo _ _).any _)=false;rw[gH λe H=>h e (Zc _ H)];rfl
theorem jB:∀{es:Lx} {env:Env} {pos:Pos},(∀e∈es,bJ e=true)->(backTo pos (starEach es env)).all (λx=> !x.1)=true
 | [],env,pos,h=>rfl
 |e::es,env,pos,h=>by rw[cG (h e Ze)];show(!false&&(backTo _ _).all _)=true;rw[jB λe H=>h e (Zc _ H)];rfl
theorem sj:∀{cs:List CE} {ρ:bt} {S S':af} {ds:List D},ai Φ Γ cs ρ S=.ok ds S'->ds.length=cs.length
 | [],ρ,S,S',ds,h=>by cases h;rfl
 |c::cs,ρ,S,S',ds,h=>by
  unfold ai at h;cases e:ah _ _ c _ S with
  |ok d a=>
   rw[e]at h;cases E:ai Φ Γ cs ρ a with
   |ok f b=>simp only[Res.bind,E]at h;cases h;simp[sj E]
   |err x b=>simp only[Res.bind,E]at h;cases h
   |fail=>simp only[Res.bind,E]at h;cases h
  |err x a=>rw[e]at h;cases h
  |fail=>rw[e]at h;cases h
theorem yn{x:Str}{s:Scope}(hs:s.names=sc)(h:jv sc x=true):we s x:=by unfold we;unfold jv at h;lia
theorem fU{x:Str}(h:dF x=true):(x==("__debug__":Str))=false/\(x==("__classdict__":Str))=false:=by
 unfold dF at h
 grind
theorem cH{x:Str}(h:a8 sc x=true):sc.lookup x=some .globalImplicit/\(x==("__debug__":Str))=false/\x≠"__name__":=by unfold a8 at h;simp_all
section
variable {E:XK}{k:Nat}{l r:Expr}{pos:Pos}{a b c:CE}{cs:List CE}{x:Str}
theorem cg.gl(O:cg X cell N sc CX E Φ Γ k)(h:sc.lookup x=some .globalImplicit):Gl X x:=by show X.env.scope.names.lookup x=_;rw[O.sc];exact h
theorem p8(O:cg X cell N sc CX E Φ Γ k){i:Nat}(h1:(N[i]?==some x)=true)(c:jv sc x=true)(h:dF x=true):PE X (.Name x pos) (tE X.K X.mg E Φ Γ (.var i)):=by
 refine aO (k7 (by rw[O.n];simpa using h1) (yn O.sc c) (fU h).1 (fU h).2) λj H Q z=>aE z λF f g S s b w=>?_;simp[ah]at w;split at w
 ·rename_i d e;obtain⟨v,a,r⟩:=b.2 i d e;exact⟨v,a,w _ H v .refl s r⟩
 ·exact w.elim
theorem p9{cn:Const}{j}(h:jw d cn=true):PE X (.Constant cn j pos) (tE X.K X.mg E Φ Γ (.lit d)):=by
 unfold jw at h;split at h
 ·exact aO qC λf H Q z=>aE z λF b c S s a w=>w _ H _ .refl s lM
 ·have e:=beq_iff_eq.mp h;subst e;exact aO pM λf H Q z=>aE z λF b c S s a w=>w _ H _ .refl s cD
 ·have e:=beq_iff_eq.mp h;subst e;exact aO i4 λf H Q z=>aE z λF b c S s a w=>w _ H _ .refl s bQ
 ·have e:=beq_iff_eq.mp h;subst e;exact aO k8 λf H Q z=>aE z λF b c S s a w=>w _ H _ .refl s fj
 ·cases h
theorem sm(O:cg X cell N sc CX E Φ Γ k)(h:a8 sc x=true):PE X (.Name x pos) (tE X.K X.mg E Φ Γ (.glob x)):=by
 obtain⟨a,b,j⟩:=cH h;cases e:Γ x with
 |none=>intro p s g H Q I ⟨F,_,_,S,_,_,w⟩;simp[ah]at w;rw[e]at w;exact w.elim
 |some d=>obtain⟨v,u,m,M,c⟩:=O.mod.gl x d e;refine aO (wh (O.gl a) m M b) λg H Q z=>aE z λF l n S f i w=>?_;simp[ah]at w;rw[e]at w;exact w _ H v .refl f (c F _ H)
theorem mn{n:String}(h:h9.contains n=true):(Str.ofString n)∈fT:=by simp[h9]at h;rcases h with rfl|rfl|rfl|rfl|rfl|rfl<;>decide+kernel
theorem Fu(O:cg X cell N sc CX E Φ Γ k){n:String}(h:a8 sc (Str.ofString n)=true)(a:h9.contains n=true):PE X (.Name (Str.ofString n) pos) (tE X.K X.mg E Φ Γ (.ty n)):=by obtain⟨b,c,d⟩:=cH h;refine aO (wj (v:=.ty n) (O.gl b) (O.mod.bl _ (mn a)) (l_ a) rfl d c) λi H Q z=>aE z λF f g S s e w=>?_;exact w _ H _ .refl s rfl
theorem jC{m:GS}{Q:List V->Hp->Prop}(h:cs.length<1000)(w:ak K m E (aj K m) μ H Q (ai Φ Γ cs ρ S)):ak K m E (aj K m) μ H (λvs H'=>vs.length<=sizeLine/\Q vs H') (ai Φ Γ cs ρ S):=by
 cases e:ai _ _ _ _ S with
 |ok d a=>rw[e]at w;intro b H' vs x s r;refine⟨?_,w _ _ _ x s r⟩;rw[<-r.length,sj e];exact Nat.le_of_lt (ZB h (by decide))
 |err y a=>rw[e]at w;exact w
 |fail=>rw[e]at w;exact w
theorem yo{x1}(a:cs.length<1000)(h:PA X es (tL X.K X.mg E Φ Γ cs)):PE X (.Tuple es x1 pos) (tE X.K X.mg E Φ Γ (.tup cs)):=
 aO (rc h) λi H Q z=>aE z λF f g S d e w=>⟨F,_,_,S,d,e,(jC a (ak.bind w)).mono λvs H1 ⟨c,_,_,_,_,s,r,W⟩=>⟨c,λp b=>by exact aV.tup (show aV _ _ _ _ Q _ from W) s r p b⟩⟩
theorem yp{box:Bool}(b:cs.length<1000)(h:PA X es (tL X.K X.mg E Φ Γ cs)):PE X (.List es pos) (tE X.K X.mg E Φ Γ (.lst box cs)):=
 aO (hO h) λi H Q z=>aE z λF f g S d e w=>⟨F,_,_,S,d,e,(jC b (ak.bind w)).mono λvs H1 ⟨c,_,_,_,_,s,r,W⟩=>⟨c,λp a=>by
  cases box with
  |true=>exact aV.box (show aV _ _ _ _ Q _ from W) s r p a
  |false=>exact aV.lst (show aV _ _ _ _ Q _ from W) s r p a⟩⟩
theorem yq:PE X (.Dict [] [] pos) (tE X.K X.mg E Φ Γ .dct):=λp s l H Q I z=>aE z λF j k S c d w=>by
 have a:=ZB I.mod.glob.lt (ZC I.ok.bsz I.sz);have h:=I.hok.fresh (Zf _);refine wpAny_Dict_empty ⟨.ref _,_,I.laid (o:=.dK []) (λb O q=>Zb _ q) (Zf _) ?_,rfl,?_⟩
 ·refine⟨Z2 _,?_,_,.nil,_,_,_,Zh _ rfl,⟨rfl,rfl,rfl⟩,rfl,λe i=>by simp_all,.nil,.nil⟩;have g:mainGlobals=3:=rfl;have f:sysModules=1:=rfl
  grind
 ·exact w _ _ _ (.laid h) (c.laid h) (by exact⟨_,rfl,bM⟩)
theorem yr(hs:ia r=true)(h:PE X l (tE X.K X.mg E Φ Γ a))(c:PE X r (tE X.K X.mg E Φ Γ b)):PE X (.Subscript l r pos) (tE X.K X.mg E Φ Γ (.idx a b)):=
 aO (pT EW h c (Fs hs)) λu H Q z=>aE z λF q t S g e w=>
  ⟨F,_,_,S,g,e,(ak.bind w).mono λv H1 z=>ay z λk o d1 x s R W=>⟨F,_,_,_,s,e.mono x,(ak.bind W).mono λV n z=>ay z λm p d2 j f d i=>⟨F,_,_,_,_,f,Rep.mono j _ _ R,d,b_ i⟩⟩⟩
theorem yt(h:PE X l (tE X.K X.mg E Φ Γ a))(c:PE X r (tE X.K X.mg E Φ Γ b)):PE X (.Subscript l (.Slice none none (some r) p2) pos) (tE X.K X.mg E Φ Γ (.rev a b)):=
 aO (rW h c) λu H Q z=>aE z λF q t S g e w=>
  ⟨F,_,_,S,g,e,(ak.bind w).mono λv H1 z=>ay z λk o d1 x s R W=>⟨F,_,_,_,s,e.mono x,(ak.bind W).mono λV n z=>ay z λm p d2 j f d i=>⟨F,_,_,_,_,f,Rep.mono j _ _ R,d,b_ i⟩⟩⟩
noncomputable def yu(K:Fg)(m:Mg)(E:XK)(Φ:FT)(Γ:Str->Option D)(cs:List CE):TO:=λσ H Q=>∃F μ ρ S,aM K ⟨m,F⟩ μ S H/\aW K ⟨m,F⟩ μ H ρ σ/\
 ak K ⟨m,F⟩ E (λ_ _ o o'=>o=o') μ H Q ((ai Φ Γ cs ρ S).bind b9)
theorem mq:PO X none (yu X.K X.mg E Φ Γ []):=by intro p s b H Q I ⟨F,_,_,S,a,_,w⟩;exact lC _ s _ H Q I (w _ H _ .refl a rfl)
theorem mr(h:PE X e (tE X.K X.mg E Φ Γ a)):PO X (some e) (yu X.K X.mg E Φ Γ [a]):=by
 intro p s q H Q I ⟨F,l,c,S,j,f,w⟩;refine lD h _ s _ H Q I ⟨F,_,_,S,j,f,?_⟩
 have k:ak X.K ⟨X.mg,F⟩ E (λ_ _ o O=>o=O) l H Q ((ah Φ Γ a c S).bind λd b=>b9 [d] b):=by
  have n:(ai Φ Γ [a] c S).bind b9=(ah Φ Γ a c S).bind λd b=>b9 [d] b:=by rw[ai];cases ah _ _ a _ S<;>rfl
  simp_all
 refine(ak.bind k).mono λv H1 z=>ay z λm b d x g r W=>?_;cases d with
 |int i=>exact⟨i,aI r,W _ _ _ .refl g rfl⟩
 |_=>exact W.elim
theorem Fv{L h:Option Expr}{c ch:List CE}(g:PE X l (tE X.K X.mg E Φ Γ a))(j:PO X L (yu X.K X.mg E Φ Γ c))(i:PO X h (yu X.K X.mg E Φ Γ ch)):PE X (.Subscript l (.Slice L h none p2) pos) (tE X.K X.mg E Φ Γ (.sl a c ch)):=
 aO (Eg EY g j i) λN H Q z=>aE z λF K M S n e w=>⟨F,_,_,S,n,e,(ak.bind w).mono λV H1 z=>ay z λu C d1 x s r W=>⟨F,_,_,_,s,e.mono x,
  (ak.bind W).mono λo A z=>ay z λv D I b k d p=>⟨F,_,_,_,k,(e.mono x).mono b,(ak.bind p).mono λJ B z=>ay z λy G O t m f q=>by subst d;subst f;exact⟨F,_,_,_,m,Rep.mono (b.trans t) _ _ r,b_ q⟩⟩⟩⟩
theorem jD(O:cg X cell N sc CX E Φ Γ k){f:Str}(h:a8 sc f=true)(a:∀x∈e::es,bJ x=true)(i:PA X (e::es) (tL X.K X.mg E Φ Γ cs)):PE X (.Call (.Name f p2) (e::es) [] pos) (tE X.K X.mg E Φ Γ (.call f cs)):=by
 obtain⟨d,g,B⟩:=cH h;cases b:Φ f with
 |none=>intro P s u H Q I ⟨F,_,_,S,_,_,w⟩;simp[ah]at w;rw[b]at w;exact w.elim
 |some L=>obtain⟨y,A,C,m,M,l,n,o⟩:=(O.mod.fns f _ b).ex;refine aO (ly n O.room (O.gl d) m M l .nil O.pass i g (cG (a e Ze)) (gH λx j=>a x (Zc _ j))) λu H Q Z=>aE Z λF J K S q c w=>?_;simp[ah]at w;rw[b]at w;refine⟨F,_,_,S,q,c,(ak.bind w).mono λvs H1 Z=>ay Z λt v D G p r W=>?_⟩;rw[List.append_nil];refine⟨?_,F,_,_,_,p,r,W⟩;rw[<-r.length];exact o _ _ λz=>by rw[z]at W;exact W
theorem p_(O:cg X cell N sc CX E Φ Γ k){b:gF}(g:ba X (jx b) (rC X.K X.mg (aG b)))(h:a8 sc (gG b)=true)(j:∀x∈e::es,bJ x=true)(f:PA X (e::es) (tL X.K X.mg E Φ Γ cs)):PE X (.Call (.Name (gG b) p2) (e::es) [] pos) (tE X.K X.mg E Φ Γ (.blt b cs)):=by
 obtain⟨a,c,d⟩:=cH h
 have i:X.mg (gG b)=none:=O.mod.bl _ (by
  cases b with
  |list box=>show(Str.ofString _)∈fT;decide+kernel
  |sorted box t=>show(Str.ofString _)∈fT;decide+kernel
  |_=>decide+kernel)
 have K:PE X (.Call (.Name (gG b) p2) (e::es) [] pos) (Eb (rC X.K X.mg (aG b)) (tL X.K X.mg E Φ Γ cs)):=by
  have s:=cG (env:=X.env) (es:=es) (j e Ze);have m:=gH (env:=X.env) (pos:=pos) λx q=>j x (Zc _ q);have l:=Fp b;cases b with
  |tuple=>exact lz g (O.gl a) i l f d c s m
  |list box=>exact lz g (O.gl a) i l f d c s m
  |int=>exact lz g (O.gl a) i l f d c s m
  |str=>exact lz g (O.gl a) i l f d c s m
  |_=>exact rg g (O.gl a) i l f d c s m
 refine aO K λC H Q z=>aE z λF v A S u p w=>⟨F,v,A,S,u,p,(ak.bind w).mono λvs H1 z=>ay z λy o D B s r W=>⟨F,_,o,D,s,r,b_ W⟩⟩
theorem Fw{m:GS}(s:aM K m μ S H)(r:Rep K m μ H (.ref n) v):xb K "list" v H:=by
 obtain⟨a,rfl,h⟩:=r;have c:n<S.length:=by rw[<-s.len];exact(Zg.mp h).1
 obtain⟨vs,b,q⟩:=s.at_ n a _ h (Zj c);exact .inl ⟨rfl,_,.of b⟩
noncomputable def jE:pX->String
 | .append=>"list.append"| .extend=>"list.extend"| .pop=>"list.pop"| .count=>"list.count"| .insert=>"list.insert"| .index=>"list.index"
theorem jF(m:pX):je X (jE m) (rM X.K X.mg (er m)):=by
 cases m with
 |append=>exact E1
 |count=>exact λ_ _ _ _ _ _ _ _ _ _ _ _ ⟨_,_,_,_,_,_,_,_,w⟩=>w.elim
 |insert=>exact λ_ _ _ _ _ _ _ _ _ _ _ _ ⟨_,_,_,_,_,_,_,_,w⟩=>w.elim
 |index=>exact λ_ _ _ _ _ _ _ _ _ _ _ _ ⟨_,_,_,_,_,_,_,_,w⟩=>w.elim
 |extend=>exact λ_ _ _ _ _ _ _ _ _ _ _ _ ⟨_,_,_,_,_,_,_,_,w⟩=>w.elim
 |pop=>
  intro p s i H x f v u Q I b a h;obtain⟨F,g,S,d,D,c,R,r,w⟩:=h;cases D with
  |nil=>exact xx p s i H x f v u Q I b a ⟨F,g,S,d,[],c,R,r,w⟩
  |cons e E=>exact l6 p s i H x f v u Q I b a ⟨F,g,S,d,e::E,c,R,r,w⟩
theorem yv(m:pX):Slot "list" (l' m) (jE m):=by
 cases m with
 |append=>exact PySem.F.slot_list_append
 |count=>exact PySem.F.slot_list_count
 |insert=>exact PySem.F.slot_list_insert
 |index=>exact PySem.F.slot_list_index
 |extend=>exact PySem.F.slot_list_extend
 |pop=>exact PySem.F.slot_list_pop
theorem yw(m:pX):typeOf (.builtin (jE m))=pure (.type "method_descriptor"):=by
 cases m with
 |append=>exact PySem.F.type_list_append
 |count=>exact PySem.F.type_list_count
 |insert=>exact PySem.F.type_list_insert
 |index=>exact PySem.F.type_list_index
 |extend=>exact PySem.F.type_list_extend
 |pop=>exact PySem.F.type_list_pop
theorem sr{m:pX}{o:Expr}(G:ma o=true)(y:(apos.endLine==pos.line)=true)(f:∀x∈es,bJ x=true)(P:es.length<20)(j:cs.length=es.length)(A:PE X o (tE X.K X.mg E Φ Γ a))(C:PA X es (tL X.K X.mg E Φ Γ cs)):
  PE X (.Call (.Attribute o (l' m) apos) es [] pos) (tE X.K X.mg E Φ Γ (.meth m a cs)):=by
 have h:attributeBase o (l' m) X.env (eval o X.env)=eval o X.env:=by cases o<;>first|rfl|cases G
 have k:∀{F b d H1 c d1 Q v},aM X.K ⟨X.mg,F⟩ b d H1->Rep X.K ⟨X.mg,F⟩ b H1 d1 v->ak X.K ⟨X.mg,F⟩ E (Rep X.K ⟨X.mg,F⟩) b H1 Q (match d1 with
   | .ref n=>(ai Φ Γ cs c d).bind λD i=>(er m (.ref n) D i).noErr
   |_=>.fail)->xb X.K "list" v H1/\ak X.K ⟨X.mg,F⟩ E (aj X.K ⟨X.mg,F⟩) b H1 (λvs u=>rM X.K X.mg (er m) v vs u Q) (ai Φ Γ cs c d):=by
  intro F b d H1 c d1 Q v s r W;cases d1 with
  |ref n=>exact⟨Fw s r,(ak.bind W).mono λvs u z=>ay z λt i D M J R L=>⟨F,t,i,_,D,J,Rep.mono M _ _ r,R,b_ L⟩⟩
  |_=>exact W.elim
 cases es with
 |nil=>have e:=ZI j;subst e;refine aO (rm PySem.F.plainAttrs_list (yv m) (yw m) (jF m) A h y) λN H Q z=>aE z λF q c S p g w=>⟨F,q,c,S,p,g,(ak.bind w).mono λv H1 z=>ay z λb d d1 B s r W=>?_⟩;obtain⟨K,l⟩:=k s r W;exact⟨K,l b H1 [] .refl s .nil⟩
 |cons e es=>
  refine aO (pU PySem.F.plainAttrs_list (yv m) (yw m) (jF m) A C h ?_ y (cG (f e Ze)) (gH λx I=>f x (Zc _ I))) λN H Q z=>aE z λF q c S p g w=>⟨F,q,c,S,p,g,(ak.bind w).mono λv H1 z=>ay z λb d d1 B s r W=>?_⟩
  ·rw[jB f];have O:(backToKw pos (keywordEach [] X.env)).all (λx=>x.1.isSome)=true:=rfl
   grind
  ·obtain⟨K,l⟩:=k s r W;exact⟨K,F,b,c,d,s,g.mono B,l⟩
theorem yx{id:String}{r:V->List V->Hp->VK->Prop}{o:Expr}{t:TA}(S:Slot "tuple" name id)(j:typeOf (.builtin id)=pure (.type "method_descriptor"))(u:je X id r)(w:PE X o to)(q:PA X (e::es) t)
  (c:attributeBase o name X.env (eval o X.env)=eval o X.env)
  (f:((backTo cpos (starEach (e::es) X.env)).all (λx=> !x.1)&&(backToKw cpos (keywordEach [] X.env)).all (λx=>x.1.isSome)
   &&decide ((e::es).length+([]:List Keyword).length+(if([]:List Keyword).isEmpty then 0 else 1)<30))=true)
  (d:(apos.endLine==cpos.line)=true) (hs:starEach (e::es) X.env=(false,eval e X.env)::starEach es X.env) (g:(backTo cpos (starEach es X.env)).any (·.1)=false):
  PE X (.Call (.Attribute o name apos) (e::es) [] cpos) (λσ H Q=>to σ H λx H1=>(∃a vs,x=.ref a/\bX X.K H1 a vs)/\t σ H1 λxs H2=>r x xs H2 Q):=by
 intro P s σ H Q I h;refine wpAny_Call_method_late c f d rfl (aR (w _ s _ H _ I h) λv C ⟨x,_,i,R,ty,z⟩=>?_);obtain⟨a,vs,rfl,l⟩:=ty;cases R;obtain⟨y,_,⟨O,E,n,_⟩,_⟩:=i.tuple l;refine⟨_,_,PySem.F.plainAttrs_tuple,S,j,⟨_,E,n⟩,λb p=>by cases p;exact i.noD l,?_⟩;have k:=q cpos _ _ _ _ _ i z;rw[hs]at k⊢;refine Calls.callWith_builtin (by grind) (Calls.evalArgs_plain ?_);exact aR k λU D ⟨_,_,m,B,A⟩=>u _ _ _ _ (.ref a) _ _ _ Q m rfl B A
theorem yy{o:Expr}(j:ma o=true)(i:(apos.endLine==pos.line)=true)(b:∀x∈es,bJ x=true)(m:es.length=1)(k:PE X o (tE X.K X.mg E Φ Γ a))(g:PA X es (tL X.K X.mg E Φ Γ cs)):
  PE X (.Call (.Attribute o "index" apos) es [] pos) (tE X.K X.mg E Φ Γ (.tix a cs)):=by
 have h:attributeBase o "index" X.env (eval o X.env)=eval o X.env:=by cases o<;>first|rfl|cases j
 cases es with
 |nil=>cases m
 |cons e es=>
  refine aO (yx PySem.F.slot_tuple_index PySem.F.type_tuple_index xT k g h ?_ i (cG (b e Ze)) (gH λx l=>b x (Zc _ l))) λL H Q z=>aE z λF J K S p d w=>⟨F,_,_,S,p,d,(ak.bind w).mono λV H1 z=>ay z λv B d1 t s r W=>?_⟩
  ·rw[jB b];have c:(backToKw pos (keywordEach [] X.env)).all λx=>x.1.isSome=true:=rfl
   grind
  ·cases d1 with
   |tup I=>obtain⟨a,vs,c,f,G⟩:=bP r;exact⟨⟨a,_,c,f⟩,F,_,_,_,s,d.mono t,(ak.bind W).mono λvs A z=>ay z λy C D u n R q=>⟨F,_,_,_,_,n,Rep.mono u _ _ r,R,b_ q⟩⟩
   |_=>exact W.elim
theorem ss{x:Str}{j:Nat}{P:Pos}(t:(apos.endLine==pos.line)=true)(h:∀x∈es,bJ x=true)(v:es.length=1)(q:PA X es (tL X.K X.mg E Φ Γ cs)):
  PE X (.Call (.Attribute (.Constant (.str x) j P) "join" apos) es [] pos) (tE X.K X.mg E Φ Γ (.join x cs)):=by
 cases es with
 |nil=>cases v
 |cons e es=>
  intro y s D H Q I z;obtain⟨F,c,C,S,B,p,w⟩:=z;refine wpAny_Call_method_late rfl ?_ t rfl (Calls.Constant_str ?_)
  ·rw[jB h];have m:(backToKw pos (keywordEach [] X.env)).all (λx=>x.1.isSome)=true:=rfl;rw[m];simp only[Bool.true_and,decide_eq_true_eq];have n:(if([]:List Keyword).isEmpty then 0 else 1)=0:=rfl;rw[n];simp only[ZQ];omega
  ·refine⟨"str","str.join",PySem.F.plainAttrs_str,PySem.F.slot_str_join,PySem.F.type_str_join,typeIs_str _ _ _,(λb o=>nomatch o),?_⟩;have g:=q pos y _ D H (λvs a=>∃F c S d,aM X.K ⟨X.mg,F⟩ c S a/\aj X.K ⟨X.mg,F⟩ c a d vs/\aV X.K ⟨X.mg,F⟩ c a Q (fN x d S)) (I.tok (s.toks+1)) ⟨F,c,C,S,B,p,(ak.bind w).mono λvs a z=>ay z λf l d G i r W=>⟨F,f,l,d,i,r,b_ W⟩⟩;rw[cG (h e Ze)]at g⊢;refine Calls.callWith_builtin (by show(false||(backTo pos (starEach es X.env)).any (·.1))=false;rw[gH λx u=>h x (Zc _ u)];rfl) (Calls.evalArgs_plain ?_);exact aR g λU i ⟨vs,a,k,r,A⟩=>Ff k r A
end
theorem Fx{t:Addr}{i:Nat}{x:Value}(h:s.heap.IsTupleIter it t i)(g:s.heap.IsTuple t items)(j:items[i]?=some x)
  (e:∀h',h'.IsTupleIter it t (i+1)->Heap.SameBut it s.heap h'->Q x {s with heap:=h'}):wpAny (model prog w) A (Builtin.SmallTypes.nextOf (.ref it)) Q E s:=by
 obtain⟨o,a,f,H⟩:=id h;obtain⟨O,c,_,nl,b⟩:=g;refine Za (ZN h.typeIs F.slot_tuple_iterator_next (ZM F.slot_tuple_iterator_next h.typeIs F.entry_tuple_iterator_next ?_ (F.args_tuple_iterator_next_1 _)));show wpAny _ _ (field _ 0>>=_) _ _ s;refine Za (ZO a H rfl ?_);refine Za (ZO a H rfl ?_);refine Za (wpAny_seqItems c b ?_);simp[j];refine Za (wpAny_setField a H (by simp) (Zd ⟨x,rfl,Zd (e _ ?_ (Z5 ..))⟩));exact⟨_,Heap.get?_update_self _ a (Obj.isFreed_of_fields (Obj.data_mapFields H _)),(Obj.cls_mapFields ..).trans f,by rw[Obj.data_mapFields H];simp[rawInt]⟩
theorem yz{t:Addr}{i:Nat}{Q:Vs}(g:A.handled=none)(h:s.heap.IsTupleIter it t i)(j:s.heap.IsTuple t items)(k:items[i]?=none)
  (f:∀h' e,Heap.ExtBut it s.heap h'->(∃o,h'.get? e=some o/\o.cls=.type "StopIteration")->E (.ref e) {s with heap:=h'}):wpAny (model prog w) A (Builtin.SmallTypes.nextOf (.ref it)) Q E s:=by
 obtain⟨o,b,l,H⟩:=id h;obtain⟨O,c,_,nl,a⟩:=j;refine Za (ZN h.typeIs F.slot_tuple_iterator_next (ZM F.slot_tuple_iterator_next h.typeIs F.entry_tuple_iterator_next ?_ (F.args_tuple_iterator_next_1 _)));show wpAny _ _ (field (.ref it) 0>>=_) _ _ s;refine Za (ZO b H (x:=.ref t) rfl ?_);refine Za (ZO b H rfl ?_);refine Za (wpAny_seqItems c a ?_);simp only[Int.toNat_natCast,k];refine Za (wpAny_rule (Za (wpAny_setField b H (by simp) ?_)));refine Za ?_;refine Za (m:=firstArgMember _ _) (wpAny_of_eq (rfl) ?_);refine Z0 ?_ (by size_fits);refine Za (wpAny_handled ?_)
 first|lia|rw[g]
 refine Za (Zd (wpAny_throw ?_));exact f _ _ (((Z5 ..).extBut.push _).push _) ⟨_,Zh _ rfl,rfl⟩
def b6(b:Bool)(h:Heap)(l:Addr)(xs:Av):Prop:=match b with
 |true=>h.IsList l xs
 |false=>h.IsTuple l xs
def bA(b:Bool)(h:Heap)(it l:Addr)(i:Nat):Prop:=match b with
 |true=>h.IsListIter it l i
 |false=>h.IsTupleIter it l i
theorem b6.at{b:Bool}{l:Addr}{xs:Av}(q:b6 b h l xs)(k:∀o,h.get? l=some o->h'.get? l=some o):b6 b h' l xs:=by
 cases b with
 |true=>exact Heap.IsList.at q k
 |false=>obtain⟨o,e,r⟩:=q;exact⟨o,k o e,r⟩
theorem bA.at{b:Bool}{l:Addr}{i:Nat}(q:bA b h it l i)(k:∀o,h.get? it=some o->h'.get? it=some o):bA b h' it l i:=by
 cases b with
 |true=>exact Heap.IsListIter.at q k
 |false=>exact Heap.IsTupleIter.at q k
theorem bA.obj{b:Bool}{l:Addr}{i:Nat}(q:bA b h it l i):∃o,h.get? it=some o/\∀v,o.data≠.cell v:=by
 cases b with
 |true=>obtain⟨o,e,c,d⟩:=q;simp_all
 |false=>obtain⟨o,e,c,d⟩:=q;simp_all
theorem gU(d:A.handled=none)(b:Bool)(it l:Addr)(a:l≠it)(items:Av):
  Draws prog w A it [it,l] items.size (λi v=>items[i]?=some v) (λi h=>bA b h it l i/\b6 b h l items):=by
 cases b with
 |true=>exact Draws.list d _ l a _
 |false=>exact{
   live:=λ_ _ S=>let⟨o,k,_⟩:=S.1;⟨o,k⟩
   frame:=λ_ _ _ S f=>⟨S.1.at λo e=>f _ (by simp) o e,S.2.at λo e=>f l (by simp) o e⟩
   item:=λi s Q E n S j=>by refine Fx S.1 S.2 (x:=items[i]) (by simp_all) λm H c=>?_;exact j _ _ _ (by simp_all) ⟨H,S.2.at λo e=>c.extBut _ _ a e⟩ c
   done:=λs Q E S g=>yz d S.1 S.2 (by simp) g}
structure dH (z TI TO i1 i2 l1 l2:Addr):Prop where
 TIz:TI≠z
 TOz:TO≠z
 i1z:i1≠z
 i2z:i2≠z
 TITO:TI≠TO
 TIi1:TI≠i1
 TIi2:TI≠i2
 TOi1:TO≠i1
 TOi2:TO≠i2
 i12:i1≠i2
 l1:l1≠z/\l1≠TO/\l1≠i1/\l1≠i2
 l2:l2≠z/\l2≠TO/\l2≠i1/\l2≠i2
theorem yA{prog:Program}{w:World}{b:Bool}{t:Addr}{i:Nat}{Q:Vs}(c:A.handled=none)(h:bA b s.heap it t i)(d:b6 b s.heap t items)(f:items[i]?=none)
  (H:∀h' e,Heap.ExtBut it s.heap h'->(∃o,h'.get? e=some o/\o.cls=.type "StopIteration")->E (.ref e) {s with heap:=h'}):wpAny (model prog w) A (Builtin.SmallTypes.nextOf (.ref it)) Q E s:=by
 cases b with
 |true=>exact wpAny_nextOf_list_end c h d f H
 |false=>exact yz c h d f H
section
variable {z TI TO i1 i2 l1 l2:Addr}{k1 k2:Nat}{xs ys:Av}{a b:Value}
theorem su(D:dH z TI TO i1 i2 l1 l2)(hh:A.handled=none){x y:Value}
  (O:IsZip s.heap z TI TO .none) (hTI:IsPair s.heap TI (.ref i1) (.ref i2)) (hTO:IsPair s.heap TO a b)
  (h1:bA b1 s.heap i1 l1 k1) (h2:bA b2 s.heap i2 l2 k2) (hl1:b6 b1 s.heap l1 xs) (hl2:b6 b2 s.heap l2 ys) (hx:xs[k1]?=some x) (hy:ys[k2]?=some y)
  (hQ:∀h',IsZip h' z TI TO (rawInt s.heap.objs.size)->IsPair h' TO x y->bA b1 h' i1 l1 (k1+1)->bA b2 h' i2 l2 (k2+1)->IsPair h' s.heap.objs.size x y->h'.objs.size=s.heap.objs.size+1->
   (∀c o,c≠z->c≠TO->c≠i1->c≠i2->s.heap.get? c=some o->h'.get? c=some o)->∀tk,Q (.ref s.heap.objs.size) {s with heap:=h',toks:=tk}):
  wpAny (model prog w) A (Builtin.«zip.__next__» ⟨[.ref z],[]⟩) (λfin s'=>∃v,fin=.done (.ret v)/\Q v s') E s:=by
 have D1:=gU (prog:=prog) (w:=w) (A:=A) hh b1 i1 l1 D.l1.2.2.1 xs;have D2:=gU (prog:=prog) (w:=w) (A:=A) hh b2 i2 l2 D.l2.2.2.2 ys;have n1:k1<xs.size:=(Array.getElem?_eq_some_iff.mp hx).1;have n2:k2<ys.size:=(Array.getElem?_eq_some_iff.mp hy).1;show wpAny _ _ (field (.ref z) 2>>=_) _ _ _;refine Za (ZO O rfl (x:=.bool false) rfl ?_);show wpAny _ _ (field (.ref z) 3>>=_) _ _ _;refine Za (ZO O rfl (x:=.ref TI) rfl ?_);refine Za (wpAny_seqItems hTI rfl ?_);show wpAny _ _ (Builtin.SmallTypes.ownedTupleIsFree (.ref z)>>=_) _ _ _;refine Za ?_;unfold Builtin.SmallTypes.ownedTupleIsFree;refine Za (ZO O rfl (x:=.none) rfl (Zd ?_));simp only[if_true];refine Za (wpAny_rule ?_);refine Za (ZO O rfl (x:=.ref TO) rfl ?_);refine Za (wpAny_setField_rec O (by simp) λR q H=>?_);replace q:IsZip R z TI TO .ellipsis:=q;refine Za ?_;simp only[List.zipIdx_cons,List.zipIdx_nil,List.forIn_cons,List.forIn_nil];refine Za (Za (wpAny_onRaise ?_));show wpAny _ _ (Builtin.SmallTypes.nextOf (.ref i1)>>=_) _ _ _;refine Za (D1.item k1 _ _ _ n1 ⟨h1.at λo e=>H.extBut _ _ D.i1z e,hl1.at λo e=>H.extBut _ _ D.l1.1 e⟩ λx' T tk M S d=>Zd ?_);rw[hx]at M;cases M;have t:IsPair T TO a b:=d.extBut _ _ D.TOi1 (H.extBut _ _ D.TOz hTO);refine Za (wpAny_seqItems t rfl ?_);refine Za (wpAny_updateSeq_pair t λU k f=>?_);replace k:IsPair U TO x b:=k;refine Za (wpAny_letGo (Zd ?_));refine Za (Za (wpAny_onRaise ?_));show wpAny _ _ (Builtin.SmallTypes.nextOf (.ref i2)>>=_) _ _ _;refine Za (D2.item k2 _ _ _ n2 ⟨h2.at λo e=>f.extBut _ _ D.TOi2.symm (d.extBut _ _ D.i12.symm (H.extBut _ _ D.i2z e)),hl2.at λo e=>f.extBut _ _ D.l2.2.1 (d.extBut _ _ D.l2.2.2.1 (H.extBut _ _ D.l2.1 e))⟩ λy' V tk2 N K i=>Zd ?_);rw[hy]at N;cases N;have u:IsPair V TO x b:=i.extBut _ _ D.TOi2 k;refine Za (wpAny_seqItems u rfl ?_);refine Za (wpAny_updateSeq_pair u λh g j=>?_);replace g:IsPair h TO x y:=g;refine Za (wpAny_letGo (Zd (Zd ?_)));refine Za (wpAny_seqItems g rfl ?_);refine Za (wpAny_newTuple ?_);have L:h.objs.size=s.heap.objs.size:=by rw[j.1,i.1,f.1,d.1,H.1]
 have C:IsZip h z TI TO .ellipsis:=j.extBut _ _ D.TOz.symm (i.extBut _ _ D.i2z.symm (f.extBut _ _ D.TOz.symm (d.extBut _ _ D.i1z.symm q)));have I:∀c o,c≠z->c≠TO->c≠i1->c≠i2->s.heap.get? c=some o->h.get? c=some o:=λc o G X Y Z e=>j.extBut _ _ X (i.extBut _ _ Z (f.extBut _ _ X (d.extBut _ _ Y (H.extBut _ _ G e))));have g1:bA b1 h i1 l1 (k1+1):=S.1.at λo e=>j.extBut _ _ D.TOi1.symm (i.extBut _ _ D.i12 (f.extBut _ _ D.TOi1.symm e));have g2:bA b2 h i2 l2 (k2+1):=K.1.at λo e=>j.extBut _ _ D.TOi2.symm e;have F:z<h.objs.size:=Zi C;show wpAny _ _ (Builtin.SmallTypes.ownedTupleHandOut (.ref z) (.ref h.objs.size)>>=_) _ _ _;refine Za ?_;unfold Builtin.SmallTypes.ownedTupleHandOut;have J:IsZip (h.push {cls:=.type "tuple",data:=.seq #[x,y]}) z TI TO .ellipsis:=Zb _ C;refine Za (wpAny_setField_rec J (by simp) λW r n=>?_);replace r:IsZip W z TI TO (rawInt h.objs.size):=r;refine wpAny_setField_rec r (by simp) λm l p=>?_;replace l:IsZip m z TI TO (rawInt h.objs.size):=l;have up:∀c o,c≠z->h.get? c=some o->m.get? c=some o:=λc o G e=>p.extBut _ _ G (n.extBut _ _ G (Zb _ e));have B:IsPair m h.objs.size x y:=p.extBut _ _ (Nat.ne_of_gt F) (n.extBut _ _ (Nat.ne_of_gt F) (Zh _ rfl));have P:m.objs.size=h.objs.size+1:=by rw[p.1,n.1,Heap.size_push]
 rw[L]at l B P;refine Zd ⟨_,rfl,?_⟩;show Q (.ref h.objs.size) _;rw[L];exact hQ m l (up _ _ D.TOz g) (g1.at λo e=>up _ o D.i1z e) (g2.at λo e=>up _ o D.i2z e) B P (λc o G X Y Z e=>up c o G (I c o G X Y Z e)) _
theorem Fy(D:dH z TI TO i1 i2 l1 l2)(I:A.handled=none){Q:Fin->Shared->Prop}
  (v:IsZip s.heap z TI TO .none) (K:IsPair s.heap TI (.ref i1) (.ref i2)) (L:IsPair s.heap TO a b)
  (h1:bA b1 s.heap i1 l1 k1) (Z:bA b2 s.heap i2 l2 k2) (u:b6 b1 s.heap l1 xs) (N:b6 b2 s.heap l2 ys) (t:xs[k1]?=none\/ys[k2]?=none)
  (P:∀h' e tk,(∀c o,c≠z->c≠TO->c≠i1->c≠i2->s.heap.get? c=some o->h'.get? c=some o)->(∃o,h'.get? e=some o/\o.cls=.type "StopIteration")->E (.ref e) {s with heap:=h',toks:=tk}):
  wpAny (model prog w) A (Builtin.«zip.__next__» ⟨[.ref z],[]⟩) Q E s:=by
 have W:=gU (prog:=prog) (w:=w) (A:=A) I b1 i1 l1 D.l1.2.2.1 xs;have D2:=gU (prog:=prog) (w:=w) (A:=A) I b2 i2 l2 D.l2.2.2.2 ys;show wpAny _ _ (field (.ref z) 2>>=_) _ _ _;refine Za (ZO v rfl (x:=.bool false) rfl ?_);show wpAny _ _ (field (.ref z) 3>>=_) _ _ _;refine Za (ZO v rfl (x:=.ref TI) rfl ?_);refine Za (wpAny_seqItems K rfl ?_);show wpAny _ _ (Builtin.SmallTypes.ownedTupleIsFree (.ref z)>>=_) _ _ _;refine Za ?_;unfold Builtin.SmallTypes.ownedTupleIsFree;refine Za (ZO v rfl (x:=.none) rfl (Zd ?_));simp only[if_true];refine Za (wpAny_rule ?_);refine Za (ZO v rfl (x:=.ref TO) rfl ?_);refine Za (wpAny_setField_rec v (by simp) λy f h=>?_);replace f:IsZip y z TI TO .ellipsis:=f;refine Za ?_;simp only[List.zipIdx_cons,List.zipIdx_nil,List.forIn_cons,List.forIn_nil];refine Za (Za (wpAny_onRaise ?_));show wpAny _ _ (Builtin.SmallTypes.nextOf (.ref i1)>>=_) _ _ _;by_cases U:k1<xs.size
 ·have hy:ys[k2]?=none:=t.resolve_left (by simp[U]);refine Za (W.item k1 _ _ _ U ⟨h1.at λo e=>h.extBut _ _ D.i1z e,u.at λo e=>h.extBut _ _ D.l1.1 e⟩ λx p tk T S H=>Zd ?_);have i:IsPair p TO a b:=H.extBut _ _ D.TOi1 (h.extBut _ _ D.TOz L);refine Za (wpAny_seqItems i rfl ?_);refine Za (wpAny_updateSeq_pair i λq G d=>?_);refine Za (wpAny_letGo (Zd ?_));refine Za (Za (wpAny_onRaise ?_));show wpAny _ _ (Builtin.SmallTypes.nextOf (.ref i2)>>=_) _ _ _;refine Za (yA I (Z.at λo e=>d.extBut _ _ D.TOi2.symm (H.extBut _ _ D.i12.symm (h.extBut _ _ D.i2z e))) (N.at λo e=>d.extBut _ _ D.l2.2.1 (H.extBut _ _ D.l2.2.2.1 (h.extBut _ _ D.l2.1 e))) hy λB e k M=>?_);obtain⟨O,g,j⟩:=M;have n:IsZip B z TI TO .ellipsis:=k _ _ D.i2z.symm (d.extBut _ _ D.TOz.symm (H.extBut _ _ D.i1z.symm f));have r:e≠z:=λx=>by subst x;rw[n]at g;cases g;simp at j
  exact wpAny_setField_rec n (by simp) λF _ l=>P F e _ (λc o C X J Y x=>l.extBut _ _ C (k _ _ Y (d.extBut _ _ X (H.extBut _ _ J (h.extBut _ _ C x))))) ⟨O,l.extBut _ _ r g,j⟩
 ·have T:xs[k1]?=none:=by simp;omega
  refine Za (yA I (h1.at λo e=>h.extBut _ _ D.i1z e) (u.at λo e=>h.extBut _ _ D.l1.1 e) T λp e H M=>?_);obtain⟨O,g,j⟩:=M;have m:IsZip p z TI TO .ellipsis:=H _ _ D.i1z.symm f;have r:e≠z:=λx=>by subst x;rw[m]at g;cases g;simp at j
  exact wpAny_setField_rec m (by simp) λq _ d=>P q e _ (λc o C _ J _ x=>d.extBut _ _ C (H _ _ J (h.extBut _ _ C x))) ⟨O,d.extBut _ _ r g,j⟩
theorem Fz(D:dH z TI TO i1 i2 l1 l2)(v:A.handled=none){x y:Value}{Q:Ov->Shared->Prop}
  (i:IsZip s.heap z TI TO .none) (h:IsPair s.heap TI (.ref i1) (.ref i2)) (H:IsPair s.heap TO a b)
  (h1:bA b1 s.heap i1 l1 k1) (r:bA b2 s.heap i2 l2 k2) (d:b6 b1 s.heap l1 xs) (e:b6 b2 s.heap l2 ys) (B:xs[k1]?=some x) (C:ys[k2]?=some y)
  (u:∀h',IsZip h' z TI TO (rawInt s.heap.objs.size)->IsPair h' TO x y->bA b1 h' i1 l1 (k1+1)->bA b2 h' i2 l2 (k2+1)->IsPair h' s.heap.objs.size x y->h'.objs.size=s.heap.objs.size+1->
   (∀c o,c≠z->c≠TO->c≠i1->c≠i2->s.heap.get? c=some o->h'.get? c=some o)->∀tk,Q (some (.ref s.heap.objs.size)) {s with heap:=h',toks:=tk}):
  wpAny (model prog w) A (pyNext (.ref z)) Q E s:=by
 have f:s.TypeIs (.ref z) _:=⟨_,i,rfl⟩
 exact Za (wpAny_attempt (ZN f F.slot_zip_next
  (ZM F.slot_zip_next f F.entry_zip_next (su D (show A.in1.handled=none from v) i h H h1 r d e B C λh' j k l m n p q tk=>Zd (u _ j k l m n p q _)) (F.args_zip_next_1 _))))
theorem FA(D:dH z TI TO i1 i2 l1 l2)(q:A.handled=none){Q:Ov->Shared->Prop}
  (k:IsZip s.heap z TI TO .none) (H:IsPair s.heap TI (.ref i1) (.ref i2)) (d:IsPair s.heap TO a b)
  (h1:bA b1 s.heap i1 l1 k1) (l:bA b2 s.heap i2 l2 k2) (f:b6 b1 s.heap l1 xs) (g:b6 b2 s.heap l2 ys) (h:xs[k1]?=none\/ys[k2]?=none)
  (m:∀h' tk,(∀c o,c≠z->c≠TO->c≠i1->c≠i2->s.heap.get? c=some o->h'.get? c=some o)->Q none {s with heap:=h',toks:=tk}):wpAny (model prog w) A (pyNext (.ref z)) Q E s:=by
 have i:s.TypeIs (.ref z) _:=⟨_,k,rfl⟩
 refine Za (wpAny_attempt (ZN i F.slot_zip_next
  (ZM F.slot_zip_next i F.entry_zip_next (Fy D (show A.in1.handled=none from q) k H d h1 l f g h λh' e tk r p=>?_) (F.args_zip_next_1 _))))
 obtain⟨o,u,n⟩:=p;refine Za (wpAny_isInstance ⟨o,u,n⟩ isSubtype_stop ?_);exact Zd (m _ _ r)
end
noncomputable def fV(b:Bool)(l:Addr):Obj:={cls:=.type (match b with|true=>"list_iterator"|false=>"tuple_iterator"),data:=.fields #[.ref l,.int 0 0]}
noncomputable def yB(h:Heap)(b:Bool)(l:Addr):Heap:=h.push (fV b l)
noncomputable def yC(h:Heap)(b B:Bool)(l L:Addr):Heap:=(yB h b l).push (fV B L)
noncomputable def yD(h:Heap)(b B:Bool)(l L:Addr):Heap:=(yC h b B l L).push {cls:=.type "tuple",data:=.seq #[.ref h.objs.size,.ref (yB h b l).objs.size]}
noncomputable def yE(h:Heap)(b B:Bool)(l L:Addr):Heap:=(yD h b B l L).push {cls:=.type "tuple",data:=.seq #[.none,.none]}
noncomputable def p'(h:Heap)(b B:Bool)(l L:Addr):Heap:=(yE h b B l L).push {cls:=.type "zip",data:=.fields #[.none,.bool false,.bool false,.ref (yC h b B l L).objs.size,.ref (yD h b B l L).objs.size]}
theorem ms(c B:Bool)(l L:Addr)(xs y:Av):
  Meets (Builtin.«zip.__new__» ⟨[.type "zip",.ref l,.ref L],[]⟩) (λ_ R s=>b6 c s.heap l xs/\b6 B s.heap L y/\R (.ok (.ret (.ref (yE s.heap c B l L).objs.size))) {s with heap:=p' s.heap c B l L}):=
 .of_wp λp w A R s h=>by
  obtain⟨b,g,d,t,O⟩:=s;obtain⟨f,i,h⟩:=h;have k:=sub_zip;have H:b6 B (yB b c l) L y:=i.at λo e=>Zb _ e;cases c with
  |true=>
   have a:Heap.IsList (Shared.heap ⟨b,g,d,t,O⟩) l xs:=f;cases B with
   |true=>
    have H:Heap.IsList (Shared.heap ⟨b.push {cls:=.type "list_iterator",data:=.fields #[.ref l,.int 0 0]},g,d,t,O⟩) L y:=H
    wp_walk using wpAny_pyIter_list a,wpAny_pyIter_list H
    exact⟨_,rfl,h⟩
   |false=>
    have H:Heap.IsTuple (Shared.heap ⟨b.push {cls:=.type "list_iterator",data:=.fields #[.ref l,.int 0 0]},g,d,t,O⟩) L y:=H
    wp_walk using wpAny_pyIter_list a,wpAny_pyIter_tuple H
    exact⟨_,rfl,h⟩
  |false=>
   have a:Heap.IsTuple (Shared.heap ⟨b,g,d,t,O⟩) l xs:=f;cases B with
   |true=>
    have H:Heap.IsList (Shared.heap ⟨b.push {cls:=.type "tuple_iterator",data:=.fields #[.ref l,.int 0 0]},g,d,t,O⟩) L y:=H
    wp_walk using wpAny_pyIter_tuple a,wpAny_pyIter_list H
    exact⟨_,rfl,h⟩
   |false=>
    have H:Heap.IsTuple (Shared.heap ⟨b.push {cls:=.type "tuple_iterator",data:=.fields #[.ref l,.int 0 0]},g,d,t,O⟩) L y:=H
    wp_walk using wpAny_pyIter_tuple a,wpAny_pyIter_tuple H
    exact⟨_,rfl,h⟩
theorem yF{b:Bool}{l:Addr}(e:h.get? it=some (fV b l)):bA b h it l 0:=by
 cases b with
 |true=>exact⟨_,e,rfl,rfl⟩
 |false=>exact⟨_,e,rfl,rfl⟩
theorem FC{l L:Addr}{xs y:Av}(H:b6 b1 s.heap l xs)(a:b6 b2 s.heap L y)
  (h:∀h',IsZip h' (s.heap.objs.size+4) (s.heap.objs.size+2) (s.heap.objs.size+3) .none->IsPair h' (s.heap.objs.size+2) (.ref s.heap.objs.size) (.ref (s.heap.objs.size+1))->
   IsPair h' (s.heap.objs.size+3) .none .none->bA b1 h' s.heap.objs.size l 0->bA b2 h' (s.heap.objs.size+1) L 0->h'.objs.size=s.heap.objs.size+5->
   (∀c o,s.heap.get? c=some o->h'.get? c=some o)->Q (.ref (s.heap.objs.size+4)) {s with heap:=h'}):
  wpAny (model prog w) A (call (.type "zip") [.ref l,.ref L]) Q E s:=by
 refine callType_new F.called_zip (by decide) (F.typeCall_zip_2 _ _) (F.newCall_zip_2 _ _) (λobj=>F.args_object_init_3 obj _ _) F.entry_zip_new (ms b1 b2 l L xs y) ⟨H,a,?_⟩;have z:(yB s.heap b1 l).objs.size=s.heap.objs.size+1:=Heap.size_push ..;have Z:(yC s.heap b1 b2 l L).objs.size=s.heap.objs.size+2:=by unfold yC;rw[Heap.size_push,z]
 have b:(yD s.heap b1 b2 l L).objs.size=s.heap.objs.size+3:=by unfold yD;rw[Heap.size_push,Z]
 have d:(yE s.heap b1 b2 l L).objs.size=s.heap.objs.size+4:=by unfold yE;rw[Heap.size_push,b]
 have k:(p' s.heap b1 b2 l L).objs.size=s.heap.objs.size+5:=by unfold p';rw[Heap.size_push,d]
 have g:(p' s.heap b1 b2 l L).get? (yE s.heap b1 b2 l L).objs.size=some _:=Zh _ rfl;have f:(p' s.heap b1 b2 l L).get? (yD s.heap b1 b2 l L).objs.size=some _:=Zb _ (Zh _ rfl);have e:(p' s.heap b1 b2 l L).get? (yC s.heap b1 b2 l L).objs.size=some _:=Zb _ (Zb _ (Zh _ rfl));have G:(p' s.heap b1 b2 l L).get? (yB s.heap b1 l).objs.size=some (fV b2 L):=Zb _ (Zb _ (Zb _ (Zh _ (by cases b2<;>rfl))));have j:(p' s.heap b1 b2 l L).get? s.heap.objs.size=some (fV b1 l):=Zb _ (Zb _ (Zb _ (Zb _ (Zh _ (by cases b1<;>rfl)))));show _/\_;rw[Z,b,d]at g;rw[z,Z]at e;rw[b]at f;rw[z]at G;rw[d]
 exact⟨⟨_,g,rfl⟩,h _ g e f (yF j) (yF G) k λc o x=>
  Zb _ (Zb _ (Zb _ (Zb _ (Zb _ x))))⟩
def ic(b:Bool)(K:Fg)(H:Hp)(l:Addr)(xs:List V):Prop:=match b with
 |true=>cM K H l xs
 |false=>bX K H l xs
noncomputable def JZ(K:Fg)(b B:Bool)(l L:Addr):It:=
 ⟨λi H=>∃xs ys x y,ic b K H l xs/\ic B K H L ys/\xs[i]?=some x/\ys[i]?=some y,
  λi H v H'=>∃T x y,v=.ref T/\H T=none/\H'=aZ H T (.tup [x,y])/\(∀xs,ic b K H l xs->xs[i]?=some x)/\(∀ys,ic B K H L ys->ys[i]?=some y),
  λi H=>∃xs ys,ic b K H l xs/\ic B K H L ys/\(xs.length<=i\/ys.length<=i)⟩
theorem ie{b:Bool}{l:Addr}{xs:List V}(I:Inv X pq σ H s)(h:ic b X.K H l xs):∃its,Vals xs its/\b6 b s.heap l its.toArray:=by
 cases b with
 |true=>obtain⟨its,r,p,_⟩:=I.list h;exact⟨_,r,p.isList⟩
 |false=>obtain⟨its,r,p,_⟩:=I.tuple h;exact⟨_,r,p⟩
theorem yG{b:Bool}{l:Addr}{xs y:List V}(I:Inv X pq σ H s)(h:ic b X.K H l xs)(h':ic b X.K H l y):xs=y:=by
 cases b with
 |true=>exact I.list_inj h h'
 |false=>exact I.tuple_inj h h'
theorem cO{b:Bool}{l c:Addr}{xs:List V}(I:Inv X pq σ H s)(h:ic b X.K H l xs)(d:c9 X pq H c):l≠c:=by
 have k:∀{o:Obj},X.K.lookup l=some o->l≠c:=λ{o} e=>by
  have E:=I.mod.kin l o e;rintro rfl;rcases d.2.2.2.1 with z|z
  ·exact I.ok.noex l o E z
  ·exact absurd (ZB (Zi E) (ZC I.ok.bsz z)) (Nat.lt_irrefl _)
 have a:∀{o:HO},H l=some o->l≠c:=λ{o} e=>by rintro rfl;rw[d.1]at e;cases e
 cases b with
 |true=>
  rcases h with(h| ⟨o,h⟩)| ⟨o,i,n,h,_⟩
  ·exact a h
  ·exact a h
  ·exact k h
 |false=>
  rcases h with(h| ⟨o,h⟩)| ⟨o,i,n,h,_⟩
  ·exact a h
  ·exact a h
  ·exact k h
theorem sv{t':Nat}(I:Inv X pq σ H s)(k:∀b o,b∉ch->s.heap.get? b=some o->h'.get? b=some o)(a:∀b∈ch,c9 X pq H b):Inv X pq σ H {s with heap:=h',toks:=t'}:=by
 have N:∀b u,H b=some u->b∉ch:=λb u e z=>by rw[(a b z).1]at e;cases e
 refine I.step (λb f=>?_) (λb o _ _ h e _=>k b o h e) (λb o _ _ h e _=>⟨_,k b o h e⟩) (λ_ _ _ _ n=>n)
  (λb o h e=>⟨o,k b o h e⟩) (λ_ _ e=>e) (λ_ _ _ e=>e) (λb P e=>⟨#[],by simp_all⟩) (λm g=>?_) (λb u e=>?_) I.bare
 ·obtain⟨_,F,_,l,p,w⟩:=a b f;lia
 ·obtain⟨o,j,E,i,r⟩:=g;exact⟨o,_,_,k _ o (λz=>(a _ z).2.1 rfl) i,r⟩
 ·refine(I.hok b u e).stay (λc v h q=>k c v ?_ q) (λ_ q=>q) λ_ _ q=>q
  grind
def Kl(b B:Bool)(z TI TO I c l L:Addr)(i:Nat)(h:Heap):Prop:=IsZip h z TI TO .none/\IsPair h TI (.ref I) (.ref c)/\(∃a b,IsPair h TO a b)/\bA b h I l i/\bA B h c L i
theorem FD{P:Program}{x1}{pos:Pos}(b b':Bool)(z TI TO i1 i2 l1 l2:Addr)(n1:TI≠z)(n2:TO≠z)(n3:i1≠z)(n4:i2≠z)(n5:TI≠TO)(n6:TI≠i1)(n7:TI≠i2)(n8:TO≠i1)(n9:TO≠i2)(n10:i1≠i2):
  Turn P w K (.Tuple es x1 pos) (JZ K b b' l1 l2) [z,TI,TO,i1,i2] z (Kl b b' z TI TO i1 i2 l1 l2) where
 mem:=by simp
 obj:=λi h ⟨hz,hTI,⟨a,c,hTO⟩,h1,h2⟩ d hd=>by
  simp only[Zk,Zv,or_false]at hd;rcases hd with rfl|rfl|rfl|rfl|rfl
  ·exact⟨_,hz,λv q=>by have q':Data.fields _=Data.cell v:=q;cases q'⟩
  ·exact⟨_,hTI,λv q=>by have q':Data.seq _ _=Data.cell v:=q;cases q'⟩
  ·exact⟨_,hTO,λv q=>by have q':Data.seq _ _=Data.cell v:=q;cases q'⟩
  ·exact h1.obj
  ·exact h2.obj
 keep:=λi h h' ⟨hz,hTI,⟨a,c,hTO⟩,h1,h2⟩ k=>⟨k z (by simp) _ hz,k TI (by simp) _ hTI,⟨a,c,k TO (by simp) _ hTO⟩,h1.at λo e=>k i1 (by simp) o e,h2.at λo e=>k i2 (by simp) o e⟩
 item:=by
  intro X hP hw hK hc i pq s σ H E I hf st hg;subst hP hw hK;obtain⟨hz,hTI,⟨a,c,hTO⟩,h1,h2⟩:=st;obtain⟨xs,ys,x,y,q1,q2,ex,ey⟩:=hg;obtain⟨us,r1,s1⟩:=ie I q1;obtain⟨ws,r2,s2⟩:=ie I q2;obtain⟨u,eu,ru⟩:=r1.get ex;obtain⟨v,ev,rv⟩:=r2.get ey
  have Dp:dH z TI TO i1 i2 l1 l2:=⟨n1,n2,n3,n4,n5,n6,n7,n8,n9,n10,⟨cO I q1 (hf z (by simp)),cO I q1 (hf TO (by simp)),cO I q1 (hf i1 (by simp)),cO I q1 (hf i2 (by simp))⟩,
   ⟨cO I q2 (hf z (by simp)),cO I q2 (hf TO (by simp)),cO I q2 (hf i1 (by simp)),cO I q2 (hf i2 (by simp))⟩⟩
  refine Fz Dp (I.ok.hd hc) hz hTI hTO h1 h2 s1 s2 (x:=u) (y:=v) (by simpa using eu) (by simpa using ev) λh' a1 a2 a3 a4 a5 a6 kk tk=>?_;refine⟨_,rfl,?_⟩;refine wpAny_letOwnedTupleGo_zip (s:={s with heap:=h',toks:=tk}) a1 λh2' b1 sb=>?_;have hTn:H s.heap.objs.size=none:=I.hok.fresh (Zf _)
  have kk2:∀c o,c∉[z,TI,TO,i1,i2]->s.heap.get? c=some o->h2'.get? c=some o:=λc o hc e=>by simp only[Zk,Zv,or_false,not_or]at hc;exact(sb.2 c hc.1).trans (kk c o hc.1 hc.2.2.1 hc.2.2.2.1 hc.2.2.2.2 e)
  have I1:Inv X pq σ H {s with heap:=h2',toks:=tk}:=sv I kk2 hf
  have hTz:∀c∈[z,TI,TO,i1,i2],s.heap.objs.size≠c:=λc hc e=>by
   obtain⟨o,q,_⟩:∃o,s.heap.get? c=some o/\True:=by
    simp only[Zk,Zv,or_false]at hc;rcases hc with rfl|rfl|rfl|rfl|rfl
    ·exact⟨_,hz,trivial⟩
    ·exact⟨_,hTI,trivial⟩
    ·exact⟨_,hTO,trivial⟩
    ·exact⟨_,h1.obj.choose_spec.1,trivial⟩
    ·exact⟨_,h2.obj.choose_spec.1,trivial⟩
   exact absurd (Zi q) (by rw[e];exact Nat.lt_irrefl _)
  have hT2:IsPair h2' s.heap.objs.size u v:=(sb.2 _ (hTz z (by simp))).trans a5
  have I2:Inv X pq σ (aZ H s.heap.objs.size (.tup [x,y])) {s with heap:=h2',toks:=tk}:=by
   have Im:Inv X pq σ (aZ H s.heap.objs.size (.tup [x,y])) {s with heap:=s.heap.push {cls:=.type "tuple",data:=.seq #[u,v]},toks:=s.toks}:=
    I.laid (λb o e=>Zb _ e) (Zf _) ⟨by show 2<=sizeLine;decide,[u,v],.cons ru (.cons rv .nil),⟨_,Zh _ rfl,rfl,_,rfl⟩,_,Zh _ rfl,rfl⟩
   refine sv (s:={s with heap:=s.heap.push {cls:=.type "tuple",data:=.seq #[u,v]},toks:=s.toks}) Im (ch:=[z,TI,TO,i1,i2]) (λb o hb e=>?_) λb hb=>?_
   ·rcases Heap.get?_push_cases e with⟨rfl,rfl⟩|e'
    ·exact hT2
    ·exact kk2 b o hb e'
   ·obtain⟨f0,f1⟩:=hf b hb;exact⟨by rw[aF (λe=>hTz b hb e.symm)];exact f0,f1⟩
  refine⟨.ref s.heap.objs.size,aZ H s.heap.objs.size (.tup [x,y]),I2,rfl,⟨s.heap.objs.size,x,y,rfl,hTn,rfl,λzs hq=>by rw[yG I hq q1];exact ex,λzs hq=>by rw[yG I hq q2];exact ey⟩,
   ⟨b1,(sb.2 TI n1).trans (kk TI _ n1 n5 n6 n7 hTI),⟨u,v,(sb.2 TO n2).trans a2⟩,a3.at λo e=>(sb.2 i1 n3).trans e,a4.at λo e=>(sb.2 i2 n4).trans e⟩,λc hc=>?_⟩
  rw[aF (λe=>hTz c hc e.symm)];exact(hf c hc).1
 done:=by
  intro X hP hw hK hc i pq s σ H E I hf st hg;subst hP hw hK;obtain⟨hz,hTI,⟨a,c,hTO⟩,h1,h2⟩:=st;obtain⟨xs,ys,q1,q2,en⟩:=hg;obtain⟨us,r1,s1⟩:=ie I q1;obtain⟨ws,r2,s2⟩:=ie I q2;have hl1:=r1.length;have hl2:=r2.length
  have Dp:dH z TI TO i1 i2 l1 l2:=⟨n1,n2,n3,n4,n5,n6,n7,n8,n9,n10,⟨cO I q1 (hf z (by simp)),cO I q1 (hf TO (by simp)),cO I q1 (hf i1 (by simp)),cO I q1 (hf i2 (by simp))⟩,
   ⟨cO I q2 (hf z (by simp)),cO I q2 (hf TO (by simp)),cO I q2 (hf i1 (by simp)),cO I q2 (hf i2 (by simp))⟩⟩
  refine FA Dp (I.ok.hd hc) hz hTI hTO h1 h2 s1 s2 (en.elim (λen=>.inl (by simp;omega)) λen=>.inr (by simp;omega)) λh' tk kk=>?_;refine⟨rfl,sv I (ch:=[z,TI,TO,i1,i2]) (λc o hc e=>?_) hf⟩;simp only[Zk,Zv,or_false,not_or]at hc;exact kk c o hc.1 hc.2.2.1 hc.2.2.2.1 hc.2.2.2.2 e
 self:=λ_ _ _ _ _ st h=>wpAny_pyIter_zip st.1 h
structure c8 (K:Fg)(F:La)(μ:La)(H:Hp)(F':La)(μ':La)(H':Hp):Prop where
 tup:∀a vs,bX K H a vs->bX K H' a vs
 lst:∀a vs,H a=some (.lst vs)->a∉μ->a∉F->H' a=some (.lst vs)/\a∉μ'/\a∉F'
 frz:∀a vs,rB K H a vs->rB K H' a vs
 box:∀(n:Nat) a,μ[n]?=some a->μ'[n]?=some a
 dct:∀a,H a=some (.dK [])->H' a=some (.dK [])
 ext:∀a φ,H a=some (.ext φ)->a∉F->H' a=some (.ext φ)/\a∉F'
section
variable {F':La}
mutual
theorem Rep.chg(x:c8 K F μ H F' μ' H'):∀(d:D) (v:V),Rep K ⟨mg,F⟩ μ H d v->Rep K ⟨mg,F'⟩ μ' H' d v
 | .non,_,h=>h
 | .bl _,_,h=>h
 | .int _,_,h=>h
 | .str _,_,h=>h
 | .tup _,v,h=>by obtain⟨a,vs,e,q,r⟩:=h;exact⟨a,_,e,x.tup a _ q,aj.chg x _ _ r⟩
 | .lst _,v,h=>by obtain⟨a,vs,e,q,n,r⟩:=h;obtain⟨b,f,g⟩:=x.lst a _ q n.1 n.2;exact⟨a,_,e,b,⟨f,g⟩,aj.chg x _ _ r⟩
 | .scr _,v,h=>by obtain⟨a,vs,e,q,r⟩:=h;exact⟨a,_,e,x.frz a _ q,aj.chg x _ _ r⟩
 | .ref n,v,h=>by obtain⟨a,e,q⟩:=h;exact⟨a,e,x.box n a q⟩
 | .fn y,v,h=>h
 | .ty y,v,h=>h
 | .dct,v,h=>by obtain⟨a,e,q⟩:=h;exact⟨a,e,x.dct a q⟩
 | .dks _,v,h=>by obtain⟨a,C,e,q,n,r,k⟩:=h;obtain⟨b,f⟩:=x.ext a _ q n;exact⟨a,_,e,b,f,r,λc i=>x.tup _ _ (k c i)⟩
theorem aj.chg(x:c8 K F μ H F' μ' H'):∀(ds:List D) (vs:List V),aj K ⟨mg,F⟩ μ H ds vs->aj K ⟨mg,F'⟩ μ' H' ds vs
 | [],vs,h=>h
 |d::ds,vs,h=>by obtain⟨w,W,e,r,q⟩:=h;exact⟨w,_,e,Rep.chg x d w r,aj.chg x _ _ q⟩
end
theorem aW.chg(x:c8 K F μ H F' μ' H')(h:aW K ⟨mg,F⟩ μ H ρ σ):aW K ⟨mg,F'⟩ μ' H' ρ σ:=
 ⟨h.1,λi d e=>let⟨v,a,b⟩:=h.2 i d e;⟨v,a,Rep.chg x _ _ b⟩⟩
theorem c8.start{o:HO}(h:H acc=none):c8 K F μ H (acc::F) μ (aZ H acc o):=by
 have x:Ext _ H μ (aZ H _ o):=.laid h;refine⟨λa vs q=>x.sqT q,λa vs q b c=>⟨(x.lst q b).1,b,λz=>?_⟩,λa vs q=>x.frz q,λn a q=>q,λa q=>x.keep _ _ q (.inl λ_ z=>by lia),λa d q c=>⟨x.keep _ _ q (.inl λ_ z=>by lia),λz=>?_⟩⟩
 ·simp_all
 simp_all
noncomputable def gW:HO->Bool
 | .lst _=>true
 | .ext _=>true
 |_=>false
theorem c8.more{u:HO}(d:acc∈F)(h:H acc=some u)(f:gW u=true):c8 K F μ H F μ (aZ H acc u'):=by
 have ne:∀{a:Addr} {o:HO},H a=some o->gW o=false->a≠acc:=λe n z=>by lia
 refine⟨λa vs q=>?_,λa vs q c b=>⟨?_,c,b⟩,λa vs q=>?_,λn a q=>q,λa q=>?_,λa g q b=>⟨by rw[aF (show a≠acc from λz=>b (by lia))];exact q,b⟩⟩
 ·rcases q with(q| ⟨o,q⟩)|q
  ·exact .inl (.inl (by rw[aF (ne q rfl)];exact q))
  ·exact .inl (.inr ⟨o,by rw[aF (ne q rfl)];exact q⟩)
  ·exact .inr q
 ·have:a≠acc:=λz=>by lia
  rw[aF this];exact q
 ·rcases q with⟨o,q⟩|q
  ·exact .inl ⟨o,by rw[aF (ne q rfl)];exact q⟩
  ·exact .inr q
 ·rw[aF (ne q rfl)];exact q
theorem c8.out:c8 K (acc::F) μ H F μ H:=
 ⟨λ_ _ q=>q,λa vs q b c=>⟨q,b,λz=>c (Zc _ z)⟩,λ_ _ q=>q,λ_ _ q=>q,λ_ q=>q,λ_ _ q h=>⟨q,λz=>h (Zc _ z)⟩⟩
theorem c8.outBox:c8 K (acc::F) μ H F (μ++[acc]) H:=by
 refine⟨λ_ _ q=>q,λa vs q c b=>⟨q,λz=>?_,λz=>b (Zc _ z)⟩,λ_ _ q=>q,λn a q=>?_,λ_ q=>q,λ_ _ q h=>⟨q,λz=>h (Zc _ z)⟩⟩
 ·simp_all
 grind
theorem aM.start{o:HO}(s:aM K ⟨mg,F⟩ μ S H)(h:H acc=none):aM K ⟨mg,acc::F⟩ μ S (aZ H acc o):=by
 have x:Ext μ H _ (aZ H _ o):=.laid h;refine⟨λa b=>?_,s.len,s.nd,λn a D c d=>?_⟩
 ·rcases Zk.mp b with rfl|b
  ·exact⟨o,bM⟩
  ·obtain⟨O,q⟩:=s.live a b;exact x.there a _ q
 ·obtain⟨vs,q,r⟩:=s.at_ n a _ c d;exact⟨_,by rw[aF (bN q h)];exact q,aj.chg (.start h) _ _ r⟩
theorem aM.more{u:HO}(s:aM K ⟨mg,F⟩ μ S H)(d:acc∈F)(i:acc∉μ)(h:H acc=some u)(g:gW u=true):aM K ⟨mg,F⟩ μ S (aZ H acc u'):=by
 refine⟨λa f=>?_,s.len,s.nd,λn a D b c=>?_⟩
 ·by_cases e:a=acc
  ·subst e;exact⟨_,bM⟩
  ·obtain⟨o,q⟩:=s.live a f;exact⟨_,by rw[aF e];exact q⟩
 ·obtain⟨vs,q,r⟩:=s.at_ n a _ b c;have:a≠acc:=λz=>by subst z;exact i (Zu b)
  exact⟨_,by rw[aF this];exact q,aj.chg (.more d h g) _ _ r⟩
theorem aM.out(s:aM K ⟨mg,acc::F⟩ μ S H):aM K ⟨mg,F⟩ μ S H:=
 ⟨λa c=>s.live a (Zc _ c),s.len,s.nd,λn a d h b=>by obtain⟨vs,q,r⟩:=s.at_ n a _ h b;exact⟨_,q,aj.chg .out _ _ r⟩⟩
theorem aM.outBox{vs:List V}(s:aM K ⟨mg,acc::F⟩ μ S H)(k:acc∉μ)(h:H acc=some (.lst vs))(r:aj K ⟨mg,acc::F⟩ μ H ys vs):aM K ⟨mg,F⟩ (μ++[acc]) (S++[ys]) H:=by
 refine⟨λa e=>s.live a (Zc _ e),by simp[s.len],?_,λn a i c d=>?_⟩
 ·rw[Z3]
  exact⟨s.nd,by simp,λa e b j=>by
   grind⟩
 ·have f:=s.len;by_cases g:n<μ.length
  ·rw[Zw g]at c;rw[Zw (by omega)]at d;obtain⟨w,q,R⟩:=s.at_ n a _ c d;exact⟨_,q,aj.chg .outBox _ _ R⟩
  ·have E:n=μ.length:=by
    grind
   subst E;simp[f]at c d;subst c;subst d;exact⟨_,h,aj.chg .outBox _ _ r⟩
theorem Ext.more{o:HO}(x:Ext μ H μ1 H1)(h:H acc=none):Ext μ H μ1 (aZ H1 acc o):=
 ⟨x.pre,λa u e c=>by rw[aF (bN e h)];exact x.keep a u e c,λa u e=>by rw[aF (bN e h)];exact x.there a u e,x.fresh⟩
theorem Ext.outBox(x:Ext μ H μ1 H1)(h:H acc=none):Ext μ H (μ1++[acc]) H1:=by
 obtain⟨r,e⟩:=x.pre;refine⟨⟨r++[acc],by simp_all⟩,x.keep,x.there,λa b=>?_⟩;rcases ZE.mp b with b|b
 ·exact x.fresh a b
 simp_all
end
noncomputable def bV:hY->af->Nat->Option (Option D)
 | .items xs=>λ_ i=>some xs[i]?
 | .live _ get=>get
def gI(K:Fg)(m:GS)(J:It)(get:af->Nat->Option (Option D))(μ:La)(H:Hp):Prop:=
 ∀(i:Nat) μ' S' H' F',c8 K m.F μ H F' μ' H'->aM K ⟨m.mg,F'⟩ μ' S' H'->
  (∀x,get S' i=some (some x)->J.go i H'/\∀y H'',J.yld i H' y H''->Ext μ' H' μ' H''/\aM K ⟨m.mg,F'⟩ μ' S' H''/\Rep K ⟨m.mg,F'⟩ μ' H'' x y)/\(get S' i=some none->J.stop i H')
noncomputable def tI(K:Fg)(m:Mg)(E:XK)(Φ:FT)(Γ:Str->Option D)(c:CE):TI:=λσ H R=>∃F μ ρ S,aM K ⟨m,F⟩ μ S H/\aW K ⟨m,F⟩ μ H ρ σ/\ak K ⟨m,F⟩ E (λμ' H' its J=>gI K ⟨m,F⟩ J (bV its) μ' H') μ H R (bj Φ Γ c ρ S)
theorem c8.refl:c8 K F μ H F μ H:=⟨λ_ _ q=>q,λ_ _ q a b=>⟨q,a,b⟩,λ_ _ q=>q,λ_ _ q=>q,λ_ q=>q,λ_ _ q h=>⟨q,h⟩⟩
theorem c8.trans{d e c:La}{f:Hp}(a:c8 K F μ H d μ1 H1)(b:c8 K d μ1 H1 e c f):c8 K F μ H e c f:=
 ⟨λx vs q=>b.tup x _ (a.tup x _ q),λx vs q g i=>by obtain⟨p,P,j⟩:=a.lst x _ q g i;exact b.lst x _ p P j,λx vs q=>b.frz x _ (a.frz x _ q),λn x q=>b.box n x (a.box n x q),λx q=>b.dct x (a.dct x q),λx k q h=>by obtain⟨p,P⟩:=a.ext x _ q h;exact b.ext x _ p P⟩
theorem c8.of_ext{b:La}(x:Ext μ H μ' H')(d:∀a∈b,a∈F\/H a=none):c8 K F μ H b μ' H':=by
 refine⟨λa vs q=>x.sqT q,λa vs q c h=>⟨(x.lst q c).1,(x.lst q c).2,λz=>?_⟩,λa vs q=>x.frz q,λn a q=>x.get q,λa q=>x.keep _ _ q (.inl λ_ z=>by lia),λa e q h=>⟨x.keep _ _ q (.inl λ_ z=>by lia),λz=>?_⟩⟩<;>rcases d a z with z|z
 ·exact h z
 ·simp_all
 ·exact h z
 simp_all
section
variable {E:XK}{l:Expr}{pos:Pos}{c:CE}
theorem sw{R:It->Hp->Prop}{xs:List V}(I:Inv X pq σ H s)(c:cM X.K H a xs)(q:R (Dd X.K a) H):wpAny (model X.prog X.w) X.A (pyIter (.ref a)) (Dc X pq σ tg R) E' s:=by
 obtain⟨i,r,p,d⟩:=I.list c;refine wpAny_pyIter_list p.isList ?_;refine⟨_,_,_,_,H,rfl,I.kept λb o e=>Zb _ e,DP a _,⟨_,Zh _ rfl,rfl,rfl⟩,λb h=>?_,q⟩;have e:=by simpa using h
 subst e;exact I.fpOk (Zf _) (I.hok.fresh (Zf _))
theorem FE{R:It->Hp->Prop}{xs:List V}(I:Inv X pq σ H s)(c:bX X.K H a xs)(q:R (DO X.K a) H):wpAny (model X.prog X.w) X.A (pyIter (.ref a)) (Dc X pq σ tg R) E' s:=by
 obtain⟨i,r,p,d⟩:=I.tuple c;refine wpAny_pyIter_tuple (show s.heap.IsTuple a _ from p) ?_;refine⟨_,_,_,_,H,rfl,I.kept λb o e=>Zb _ e,DQ a _,⟨_,Zh _ rfl,rfl,rfl⟩,λb h=>?_,q⟩;have e:=by simpa using h
 subst e;exact I.fpOk (Zf _) (I.hok.fresh (Zf _))
theorem yH{m:GS}{vs:List V}{i:Nat}(r:aj K m μ H ds vs)(h:bV (.items ds) S i=some none):vs.length<=i:=by
 have a:ds[i]?=none:=by simpa[bV]using h
 have b:=List.getElem?_eq_none_iff.mp a;have c:=r.length;omega
theorem yI{m:GS}{vs:List V}(h:∀F' μ' H',c8 K m.F μ H F' μ' H'->cM K H' a vs)(r:aj K m μ H ds vs):gI K m (Dd K a) (bV (.items ds)) μ H:=by
 intro i μ' S H' F' c s;refine⟨λy b=>?_,λk=>⟨_,h _ _ _ c,yH r k⟩⟩;have b:=by simpa[bV]using b
 obtain⟨v,f,j⟩:=r.get b;refine⟨⟨_,v,h _ _ _ c,f⟩,λz g d=>?_⟩;obtain⟨rfl,d⟩:=d;have e:=d _ (h _ _ _ c);rw[f]at e;cases e;exact⟨.refl,s,Rep.chg c _ _ j⟩
theorem FF{m:GS}{vs:List V}(h:bX K H a vs)(r:aj K m μ H ds vs):gI K m (DO K a) (bV (.items ds)) μ H:=by
 intro i l S n F c s;refine⟨λy b=>?_,λk=>⟨_,c.tup _ _ h,yH r k⟩⟩;have b:=by simpa[bV]using b
 obtain⟨v,f,j⟩:=r.get b;refine⟨⟨_,v,c.tup _ _ h,f⟩,λz g d=>?_⟩;obtain⟨rfl,d⟩:=d;have e:=d _ (c.tup _ _ h);rw[f]at e;cases e;exact⟨.refl,s,Rep.chg c _ _ j⟩
theorem FG{M:GS}(g:μ[n]?=some a):gI K M (Dd K a) (fO n) μ H:=by
 intro i o S p F C s;have f:n<S.length:=by rw[<-s.len];exact(Zg.mp (C.box _ _ g)).1
 have j:=Zj f;obtain⟨vs,b,r⟩:=s.at_ n a _ (C.box _ _ g) j;have f:=r.length;refine⟨λy h=>?_,λm=>⟨_,.of b,?_⟩⟩
 ·unfold fO at h;rw[j]at h;simp at h;obtain⟨v,d,l⟩:=r.get h;refine⟨⟨_,v,.of b,d⟩,λz k c=>?_⟩;obtain⟨rfl,c⟩:=c;have e:=c _ (.of b);rw[d]at e;cases e;exact⟨.refl,s,l⟩
 ·unfold fO at m;simp_all
theorem yJ(x:PE X l (tE X.K X.mg E Φ Γ c)):PI X tg l (tI X.K X.mg E Φ Γ (.seq c)):=by
 intro P s J H R I h;obtain⟨F,B,G,S,z,q,w⟩:=h;refine aR (x _ s _ H _ I ⟨F,_,_,S,z,q,ak.bind w⟩) λu A ⟨v,_,g,j,_,p,d,_,b,i,W⟩=>?_;cases d with
 |tup D=>obtain⟨a,vs,rfl,e,r⟩:=bP i;cases j;exact FE g e (W _ _ _ .refl b (FF e r))
 |lst D=>obtain⟨a,vs,rfl,e,f,r⟩:=i;cases j;exact sw g (.of e) (W _ _ _ .refl b (yI (λm k o C=>.of (C.lst a _ e f.1 f.2).1) r))
 |scr D=>obtain⟨a,vs,rfl,e,r⟩:=i;cases j;exact sw g e.sq (W _ _ _ .refl b (yI (λm k o C=>(C.frz a _ e).sq) r))
 |ref n=>
  obtain⟨a,rfl,f⟩:=i;cases j;have y:n<p.length:=by rw[<-b.len];exact(Zg.mp f).1
  obtain⟨vs,t,r⟩:=b.at_ n a _ f (Zj y);exact sw g (.of t) (W _ _ _ .refl b (FG f))
 |_=>exact W.elim
theorem yK(l:Int)(n:Nat):(dX l n).length=n:=by
 induction n generalizing l with
 |zero=>rfl
 |succ n i=>unfold dX;simp_all
theorem FH(l:Int)(n i:Nat)(h:i<n):(dX l n)[i]?=some (.int (l+i)):=by
 induction n generalizing l i with
 |zero=>omega
 |succ n I=>
  unfold dX
  grind
theorem yL{m:GS}(l:Int)(n:Nat):gI K m (ww l n) (bV (.items (dX l n))) μ H:=by
 intro i d S e F C s;refine⟨λy h=>?_,λa=>?_⟩
 ·have h:=by simpa[bV]using h
  have a:=by have:=(Zg.mp h).1;rwa [yK]at this
  rw[FH _ n i a]at h;cases h;refine⟨a,λz b c=>?_⟩;obtain⟨rfl,rfl⟩:=c;exact⟨.refl,s,bQ⟩
 ·have:(dX l n)[i]?=none:=by simpa[bV]using a
  have:=List.getElem?_eq_none_iff.mp this;rw[yK]at this;exact this
variable {k:Nat}{cs:List CE}{a b:CE}{r:Expr}
theorem jG{m:GS}{Q:List V->Hp->Prop}(w:ak K m E (aj K m) μ H Q (ai Φ Γ cs ρ S)):ak K m E (aj K m) μ H (λvs H'=>vs.length=cs.length/\Q vs H') (ai Φ Γ cs ρ S):=by
 cases e:ai _ _ _ _ S with
 |ok d a=>rw[e]at w;intro b H' vs x s r;refine⟨?_,w _ _ _ x s r⟩;rw[<-r.length,sj e]
 |err y a=>rw[e]at w;exact w
 |fail=>rw[e]at w;exact w
theorem FI(O:cg X cell N sc CX E Φ Γ k)(h:a8 sc "range"=true)(g:bJ l=true)(d:cs.length=1)(c:PA X [l] (tL X.K X.mg E Φ Γ cs)):PI X tg (.Call (.Name "range" p2) [l] [] pos) (tI X.K X.mg E Φ Γ (.range cs)):=by
 obtain⟨b,_,_⟩:=cH h;intro p s o H R I ⟨F,_,_,S,n,e,w⟩;refine DS (O.gl b) (O.mod.bl _ (by decide+kernel)) c (by rw[cG g];rfl) _ s _ H R I ⟨F,_,_,S,n,e,(jG (ak.bind w)).mono λvs H1 ⟨_,_,_,_,_,m,r,W⟩=>?_⟩;have f:=r.length;split at W
 ·rename_i j;split at W
  ·rename_i a;obtain⟨v,rfl,i⟩:=r.one;cases aI i;exact⟨j,rfl,a.1,a.2,W _ _ _ .refl m (yL 0 _)⟩
  ·exact W.elim
 ·simp_all
 ·exact W.elim
theorem FJ(O:cg X cell N sc CX E Φ Γ k)(h:a8 sc "range"=true)(o:bJ l=true)(a:bJ r=true)(g:cs.length=2)(f:PA X [l,r] (tL X.K X.mg E Φ Γ cs)):PI X tg (.Call (.Name "range" p2) [l,r] [] pos) (tI X.K X.mg E Φ Γ (.range cs)):=by
 obtain⟨d,_,_⟩:=cH h;intro P s u H R I ⟨F,_,_,S,t,e,w⟩;refine DT (O.gl d) (O.mod.bl _ (by decide+kernel)) f (by rw[cG o,cG a];rfl) (by rw[cG a];rfl) _ s _ H R I ⟨F,_,_,S,t,e,(jG (ak.bind w)).mono λvs H1 ⟨_,_,_,_,_,q,c,W⟩=>?_⟩;have n:=c.length;split at W
 ·simp_all
 ·rename_i i j;split at W
  ·rename_i m;obtain⟨v,V,rfl,p,b⟩:=c.two;cases aI p;cases aI b;exact⟨i,j,rfl,m,W _ H1 _ .refl q (yL i _)⟩
  ·exact W.elim
 ·exact W.elim
theorem yM{m:GS}(s:aM K m μ S H)(r:Rep K m μ H d v)(e:az S d=some xs):∃a,v=.ref a/\
  ∀μ' S' H' F',c8 K m.F μ H F' μ' H'->aM K ⟨m.mg,F'⟩ μ' S' H'->∃ys vs,az S' d=some ys/\ic (ei d) K H' a vs/\aj K ⟨m.mg,F'⟩ μ' H' ys vs:=by
 cases d with
 |tup D=>obtain⟨a,vs,rfl,b,q⟩:=bP r;exact⟨a,rfl,λμ' S' H' F' c f=>⟨_,_,rfl,c.tup _ _ b,aj.chg c _ _ q⟩⟩
 |lst D=>obtain⟨a,vs,rfl,b,h,q⟩:=r;exact⟨a,rfl,λμ' S' H' F' c f=>⟨_,_,rfl,cM.of (c.lst a _ b h.1 h.2).1,aj.chg c _ _ q⟩⟩
 |scr D=>obtain⟨a,vs,rfl,b,q⟩:=r;exact⟨a,rfl,λμ' S' H' F' c f=>⟨_,_,rfl,(c.frz a _ b).sq,aj.chg c _ _ q⟩⟩
 |ref n=>
  obtain⟨a,rfl,h⟩:=r;refine⟨a,rfl,λμ' S' H' F' c f=>?_⟩;have i:n<S'.length:=by rw[<-f.len];exact(Zg.mp (c.box _ _ h)).1
  obtain⟨vs,g,q⟩:=f.at_ n a _ (c.box _ _ h) (Zj _);exact⟨_,_,Zj i,cM.of g,q⟩
 |_=>cases e
theorem mu(h:l8 d=some xs)(S:af):az S d=some xs:=by unfold l8 at h;split at h<;>first|exact h|cases h
theorem FK{e:D}{its:hY}(h:ej S d e=some its):(∃xs ys,az S d=some xs/\az S e=some ys)/\∀S' i,(∃xs ys,az S' d=some xs/\az S' e=some ys)->bV its S' i=l9 d e S' i:=by
 unfold ej at h;split at h
 ·rename_i xs ys E a;cases h;refine⟨⟨_,_,mu E S,mu a S⟩,λS' i _=>?_⟩;show some _=_;unfold l9;rw[mu E _,mu a _]
  grind
 ·split at h
  ·rename_i xs ys E a;cases h;exact⟨⟨_,_,E,a⟩,λS' i _=>rfl⟩
  ·cases h
theorem FL{m:GS}{e:D}{u:V}{its:hY}(j:aM K m μ S H)(rd:Rep K m μ H d v)(re:Rep K m μ H e u)(h:ej S d e=some its):
  ∃a b,v=.ref a/\u=.ref b/\(∃vs,ic (ei d) K H a vs)/\(∃vs,ic (ei e) K H b vs)/\gI K m (JZ K (ei d) (ei e) a b) (bV its) μ H:=by
 obtain⟨⟨xs,ys,O,P⟩,U⟩:=FK h;obtain⟨a,rfl,G⟩:=yM j rd O;obtain⟨b,rfl,I⟩:=yM j re P;obtain⟨_,va,_,X,_⟩:=G μ S H m.F .refl j;obtain⟨_,vb,_,Z,_⟩:=I μ S H m.F .refl j;refine⟨a,b,rfl,rfl,⟨va,X⟩,⟨vb,Z⟩,λi f k n F C s=>?_⟩;obtain⟨x,vs,r,Q,R⟩:=G f k n F C s;obtain⟨Y,w,t,l,J⟩:=I f k n F C s;rw[U k i ⟨x,Y,r,t⟩];unfold l9;rw[r,t];have l1:=R.length;have l2:=J.length;refine⟨λy c=>?_,λc=>⟨vs,w,Q,l,?_⟩⟩
 ·have c:=Option.some.inj c;cases g1:x[i]? with
  |none=>rw[g1]at c;cases c
  |some p=>
   cases g2:Y[i]? with
   |none=>rw[g1,g2]at c;cases c
   |some q=>rw[g1,g2]at c;cases c;obtain⟨L,A,rp⟩:=R.get g1;obtain⟨M,B,rq⟩:=J.get g2;refine⟨⟨vs,w,L,M,Q,l,A,B⟩,λz N W=>?_⟩;obtain⟨T,x',y',rfl,g,rfl,z1,z2⟩:=W;have E:=z1 vs Q;rw[A]at E;cases E;have o:=z2 w l;rw[B]at o;cases o;refine⟨.laid g,s.laid g,?_⟩;unfold Rep;exact⟨T,[L,M],rfl,bX.of bM,.cons (Rep.mono (.laid g) _ _ rp) (.cons (Rep.mono (.laid g) _ _ rq) .nil)⟩
 grind
theorem vV{i j:Nat}(h:i≠j):n+i≠n+j:=λe=>h (Nat.add_left_cancel e)
theorem sx{j:Nat}(h:0≠j):n≠n+j:=λe=>h (Nat.add_left_cancel (n:=n) (by lia))
theorem qa{j:Nat}(h:0≠j):n+j≠n:=λe=>sx h e.symm
theorem FN:bootBuiltins "zip"=some (.type "zip"):=by decide+kernel
theorem yN(O:cg X cell N sc CX E Φ Γ k)(h:a8 sc "zip"=true)(D:eS tg=true)(C:bJ l=true)(m:bJ r=true)(B:PA X [l,r] (tL X.K X.mg E Φ Γ cs)):PI X tg (.Call (.Name "zip" p2) [l,r] [] pos) (tI X.K X.mg E Φ Γ (.zip cs)):=by
 obtain⟨A,_,_⟩:=cH h;intro J s σ H R I ⟨F,μ,ρ,S,sk,y,w⟩;refine Call_ (eF I (O.gl A) (O.mod.bl _ (by decide+kernel)) FN (PyProof.Rows.callWith_type1 (aR (B pos J s σ H _ I ⟨F,μ,ρ,S,sk,y,ak.bind w⟩) λus n ⟨vs,H1,f,Y,o,x,ds,x1,i,T,W⟩=>?_) (cG C) (by rw[cG m];rfl)));split at W
 ·rename_i d e;obtain⟨v,u,rfl,U,V⟩:=T.two;cases j:ej x d e with
  |none=>rw[j]at W;exact W.elim
  |some G=>
   rw[j]at W;obtain⟨a,b,rfl,rfl,⟨va,L⟩,⟨vb,M⟩,ok⟩:=FL i U V j;cases Y with
   |cons p q=>
    cases q with
    |cons P Q=>
     cases Q;cases p;cases P;obtain⟨as,ra,Z⟩:=ie f L;obtain⟨bs,rb,sb⟩:=ie f M;refine FC Z sb λh' z z2 z3 z4 z5 z6 K=>?_;refine wpAny_pyIter_zip z ?_;have t:=f.kept (t':=n.toks) K;cases tg with
     |Tuple ts x1 tp=>
      refine⟨_,_,_,_,H1,rfl,t,
       FD (ei d) (ei e) _ _ _ n.heap.objs.size _ a b (vV (by decide)) (vV (by decide)) (sx (by decide)) (vV (by decide)) (vV (by decide)) (qa (by decide)) (vV (by decide)) (qa (by decide)) (vV (by decide)) (sx (by decide)),⟨z,z2,⟨_,_,z3⟩,z4,z5⟩,λc hc=>?_,W o H1 _ .refl i ok⟩
      have g:n.heap.objs.size<=c:=by
       grind
      exact f.fpOk g (f.hok.fresh g)
     |_=>cases D
 ·exact W.elim
end
noncomputable def eI(i:Lx)(env:Env):Sem Bool:=forIn i true (λc r=>if r=true then do let ok <-isTrue c env (eval c env);pure (ForInStep.yield ok)else pure (ForInStep.yield r))
noncomputable def bq(c:Expr)(e:Sem Unit)(g:List Comprehension)(d:Nat)(a:Value)(env:Env):Sem Unit:=match g[d+1]? with
 |some g'=>do
   let x <-eval g'.iter env
   standAt g'.iter.pos
   let x <-if g'.is_async !=0 then foldedIterable g'.iter x else foldedSetIterable g'.iter env x
   let _ <-runOwn (.compStart c (d+1) (<-holding [x] (if g'.is_async !=0 then asyncIter x else pyIter x)) a env) env
 |none=>e
noncomputable def sy(e:Expr)(a:Value)(env:Env):Sem Unit:=do let _ <-call (.builtin "list.append") [a,<-eval e env]
theorem FO{C:Expr}{e:Sem Unit}{d:Nat}{it a:Value}{env:Env}{t i:Expr}{fs:Lx}(h:gens[d]?=some ⟨t,i,fs,0⟩):
  (do
    let some g:=gens[d]? |unsupported "internal:comprehension-depth"
    standAt (if g.is_async !=0 then C.pos else g.iter.pos)
    match <-if g.is_async !=0 then asyncNext it else pyNext it with
    |none=>pure (.done .next)
    |some v=>
     letOwnedTupleGo g.target it v
     assign g.target env v
     let mut ok:=true
     for c in g.ifs do
      if ok then ok <-isTrue c env (eval c env)
     if ok then
      match gens[d+1]? with
      |some g'=>
       let x <-eval g'.iter env
       standAt g'.iter.pos
       let x <-if g'.is_async !=0 then foldedIterable g'.iter x else foldedSetIterable g'.iter env x
       let _ <-runOwn (.compStart C (d+1) (<-holding [x] (if g'.is_async !=0 then asyncIter x else pyIter x)) a env) env
      |none=>e
     again (.compLoop C d it a env):Sem Fin)=(standAt i.pos>>=λ_=>pyNext it>>=λr=>match r with
   |none=>pure (.done .next)
   |some v=>letOwnedTupleGo t it v>>=λ_=>assign t env v>>=λ_=>(eI fs env>>=λok=>if ok=true then bq C e gens d a env else pure ())>>=λ_=>
    again (.compLoop C d it a env)):=by
 simp only[h];show(standAt i.pos>>=λ_=>pyNext it>>=_)=_;congr 1;funext _;congr 1;funext r;cases r with
 |none=>rfl
 |some v=>
  show(letOwnedTupleGo t it v>>=λ_=>assign t env v>>=λ_=>_>>=λok=>_)=_;congr 1;funext _;congr 1;funext _
  conv=>rhs;rw[bind_assoc]
  unfold eI;refine congrArg (λk=>_>>=k) (funext λok=>?_);cases ok with
  |true=>
   unfold bq;cases gens[d+1]? with
   |none=>rfl
   |some g'=>
    by_cases H:(g'.is_async !=0)=true
    ·simp_all
    simp_all
  |false=>simp_all
section
variable {em:Sem Unit}{d:Nat}
theorem mw{fs:Lx}{ts:List TT}{t:TU}(e:xH X fs ts)(c:PB X (bq ce em gens d (.ref acc) X.env) t):
  PB X (eI fs X.env>>=λok=>if ok=true then bq ce em gens d (.ref acc) X.env else pure ()) (xL ts t):=by
 intro p s f H Q I h;refine Za (aR (xJ _ _ e _ s _ H _ I h) λb S ⟨_,a,q⟩=>?_);cases b with
 |false=>exact Zd ⟨_,_,a,q⟩
 |true=>exact c _ _ _ _ Q a q
theorem mx(g:gens[d+1]?=none)(f:PE X elt te):PB X (bq ce (sy elt (.ref acc) X.env) gens d (.ref acc) X.env) (xK acc te):=by intro p s l H Q I h;unfold bq;rw[g];refine Za (aR (f _ s _ H _ I h) λu S ⟨v,_,b,r,_,e,i,q⟩=>?_);refine Za (aR (xh _ _ _ _ (.ref _) _ _ _ (λ_ a=>Q _ a) b rfl (.cons r .nil) ⟨_,_,v,rfl,rfl,e,i,q⟩) λ_ k ⟨_,_,c,_,j⟩=>?_);exact Zd ⟨_,_,c,j⟩
theorem FQ{t i:Expr}{fs:Lx}{tb:TU}(b:hX ce=true)(k:clausesOf ce=gens)(m:∀it:Addr,compTurn ce (d+1) (.ref it) (.ref acc) X.env=(standAt i.pos>>=λ_=>pyNext (.ref it)>>=λr=>match r with
   |none=>pure (.done .next)
   |some v=>letOwnedTupleGo t (.ref it) v>>=λ_=>assign t X.env v>>=λ_=>(eI fs X.env>>=λok=>if ok=true then bq ce em gens (d+1) (.ref acc) X.env else pure ())>>=λ_=>again (.compLoop ce (d+1) (.ref it) (.ref acc) X.env))) (C:X.xe=λ_ _=>False) (A:X.calm=true) (o:gens[d+1]?=some ⟨t,i,fs,0⟩) (B:PI X t i wi) (hs:∀x,foldedSetIterable i X.env x=pure x) (n:PG X t g)
  (z:PB X (eI fs X.env>>=λok=>if ok=true then bq ce em gens (d+1) (.ref acc) X.env else pure ()) tb):PB X (bq ce em gens d (.ref acc) X.env) (rS wi g tb):=by
 intro P s N H Q I h;unfold bq;rw[o];refine Za (aR (B _ s _ H _ I h) λv K w=>Za (wpAny_standAt (Za ?_)));rw[hs];refine Zd (Za (ZL (aR w λD L y=>Za ?_)));obtain⟨it,G,M,J,E,e,u,T,S,F,W⟩:=y;subst e
 have l:codeAny _ _ _ (λr c=>match r with
   | .ok f=>∃a j,Inv X _ a j c/\Q a j
   | .error e=>cameBackBy (model X.prog X.w) X.A X.env X.xe e c) _:=
  xF b C A (m _) T n z u S F W λc a j p _ q=>⟨_,_,p,q⟩
 refine wpAny_runOwn ?_;refine codeAny_mono (xG b (by rw[k];exact o) l (T.self _ 0 _ _ _ S l)) λr c q=>?_;cases r with
 |ok f=>exact Zd q
 |error e=>exact q
end
noncomputable def Dq:List CT->pQ
 | []=>wu
 |t::ts=>match t with
  | .var i=>pR (dP i) (Dq ts)
  | .tup _=>λ_ _ _ _=>False
noncomputable def qb(K:Fg):CT->TG
 | .var i=>dP i
 | .tup ts=>wv K ts.length (Dq ts)
section
variable {E:XK}{k:Nat}
theorem qc(O:cg X cell N sc CX E Φ Γ k){i:Nat}{p:Pos}(h:pY cell N sc (.var i)=true):PG X (.Name (N.getD i "") p) (dP i):=by
 have H:=(ae h).1;have a:=(ae h).2;generalize N.getD i _=x at H a;simp at H a
 have b:L2.Loc X.env.scope x:=by
  unfold L2.Loc;rw[O.sc]
  grind
 refine lg (by rw[O.n];exact O.nd) (by rw[O.n];exact H) b ?_;rcases a with z|z
 ·exact .inr (by rw[O.sc];exact z)
 ·exact .inl (O.fn x z.1)
theorem sG{env:Env}:∀{ts:List CT} {es:Lx},((assignEach (fo ts N es) env).length=ts.length/\(assignEach (fo ts N es) env).findIdx? (·.1)=none)
 | [],_=>⟨rfl,rfl⟩
 |t::ts,es=>by
  have i:=sG (env:=env) (ts:=ts) (es:=es.tail);have e:assignEach (fo (t::ts) N es) env=(false,assign (ib t N (es.headD dE)) env)::assignEach (fo ts N es.tail) env:=by cases t<;>rfl
  simp_all
theorem qd(O:cg X cell N sc CX E Φ Γ k):∀{ts:List CT} {es:Lx},sa cell N sc ts=true->wq X (fo ts N es) (Dq ts)
 | [],es,h=>lh
 |t::ts,es,h=>by
  cases t with
  |tup _=>exact λ_ _ _ _ _ _ _ _ _ z=>z.elim
  |var i=>exact DL (qc O (ae h).1) (qd O (ae h).2)
theorem jH(O:cg X cell N sc CX E Φ Γ k){t:CT}(h:pY cell N sc t=true):PG X (ib t N e) (qb X.K t):=by
 cases t with
 |var i=>exact qc O h
 |tup T=>exact qK O.calm (qd O h) sG.1 sG.2
theorem qe{F μ:La}{H:Hp}{K:Fg}{m:Mg}{ρ':bt}{Q:L2.St->Hp->Prop}:∀{ts:List CT} {ds:List D} {vs:List V} {ρ:bt} {σ:L2.St},bZ ts ds ρ=some ρ'->aj K ⟨m,F⟩ μ H ds vs->aW K ⟨m,F⟩ μ H ρ σ->(∀σ',aW K ⟨m,F⟩ μ H ρ' σ'->Q σ' H)->Dq ts vs σ H Q
 | [],ds,vs,ρ,σ,h,r,e,q=>by
  cases ds with
  |nil=>cases h;exact⟨r,q _ e⟩
  |cons _ _=>cases h
 |t::ts,ds,vs,ρ,σ,h,r,e,q=>by
  cases t with
  |tup _=>cases h
  |var i=>
   cases ds with
   |nil=>cases h
   |cons d ds=>obtain⟨v,w,rfl,R,a⟩:=r.uncons;exact⟨v,w,rfl,qe h a (e.set R) q⟩
theorem sH{ρ':bt}:∀{ts:List CT} {ds:List D} {ρ:bt},bZ ts ds ρ=some ρ'->ts.length=ds.length/\ρ'.length=ρ.length
 | [],ds,ρ,h=>by
  cases ds with
  |nil=>cases h;simp_all
  |cons _ _=>cases h
 |t::ts,ds,ρ,h=>by
  cases t with
  |tup _=>cases h
  |var i=>
   cases ds with
   |nil=>cases h
   |cons d ds=>have:=sH (ts:=ts) h;simp_all
theorem yO{ρ':bt}{j:Nat}:∀{ts:List CT} {ds:List D} {ρ:bt},bZ ts ds ρ=some ρ'->(∀i∈dB ts,i≠j)->ρ'[j]?=ρ[j]?
 | [],ds,ρ,h,H=>by
  cases ds with
  |nil=>cases h;rfl
  |cons _ _=>cases h
 |t::ts,ds,ρ,h,H=>by
  cases t with
  |tup _=>cases h
  |var i=>
   cases ds with
   |nil=>cases h
   |cons d ds=>rw[yO (ts:=ts) h λk a=>H k (Zc _ a),List.getElem?_set_ne (H i Ze)]
theorem sI{Q:L2.St->Hp->Prop}{t:CT}(h:aQ t d ρ=some ρ')(r:Rep K ⟨mg,F⟩ μ H d v)(e:aW K ⟨mg,F⟩ μ H ρ σ)
  (q:∀σ',aW K ⟨mg,F⟩ μ H ρ' σ'->Q σ' H):qb K t v σ H Q:=by
 cases t with
 |var i=>cases h;exact q _ (e.set r)
 |tup T=>
  cases d with
  |tup D=>obtain⟨a,vs,rfl,b,R⟩:=bP r;exact⟨a,_,rfl,b,by rw[<-R.length];exact(sH h).1.symm,qe h R e q⟩
  |_=>cases h
end
theorem FR{l:List Nat}{i:Nat}(h:bR ρ l=true)(H:i∈l):ρ[i]?=some none:=by
 unfold bR at h
 grind
theorem my{t:CT}(h:aQ t d ρ=some ρ'):ρ'.length=ρ.length/\∀j,(∀i∈slots t,i≠j)->ρ'[j]?=ρ[j]? :=by
 cases t with
 |var i=>cases h;exact⟨List.length_set,λj H=>List.getElem?_set_ne (H i Ze)⟩
 |tup T=>
  cases d with
  |tup D=>exact⟨(sH h).2,λj H=>yO h H⟩
  |_=>cases h
theorem FU{m:GS}{t:CT}(h:bh t d ρ=some ρ')(E:aW K m μ H ρ' σ):aW K m μ H ρ σ:=by
 unfold bh at h;by_cases a:bR ρ (slots t)=true
 ·rw[if_pos a]at h;have g:=my h;refine⟨by rw[<-E.1,g.1],λj D e=>E.2 j _ ?_⟩;rw[g.2 j λi b z=>by subst z;rw[FR a b]at e;cases e];exact e
 simp_all
theorem FV{t:CT}(h:bh t d ρ=some ρ'):aQ t d ρ=some ρ':=by unfold bh at h;simp_all
structure gv (K:Fg)(mg:Mg)(F:La)(acc:Addr)(O:List D->List V->HO->Prop)(B:La->Hp->Prop)(μ0:La)(H0:Hp)(μ:La)(S:af)(H:Hp)(ρ:bt)(σ:L2.St)(ds:List D)(vs:List V):Prop where
 n0:H0 acc=none
 ext:Ext μ0 H0 μ H
 sok:aM K ⟨mg,acc::F⟩ μ S H
 nin:acc∉μ
 env:aW K ⟨mg,acc::F⟩ μ H ρ σ
 at_:∃o,H acc=some o/\O ds vs o
 rep:aj K ⟨mg,acc::F⟩ μ H ds vs
 b:B μ H
def ig(K:Fg)(F:La)(B:La->Hp->Prop):Prop:=∀μ H μ1 H1,B μ H->c8 K F μ H F μ1 H1->B μ1 H1
noncomputable def dV(K:Fg)(m:Mg)(F:La)(a:Addr)(O:List D->List V->HO->Prop)(B:La->Hp->Prop)(b:La)(H:Hp)(ρ:bt)(Q:L2.St->Hp->Prop):Res (List D)->Prop
 | .ok d S'=>∀μ' H' σ' v,gv K m F a O B b H μ' S' H' ρ σ' d v->Q σ' H'
 |_=>False
noncomputable def tB(K:Fg)(m:Mg)(O:Addr->List D->List V->HO->Prop)(Φ:FT)(Γ:Str->Option D)(c:CE)(a:Addr):TU:=λσ H Q=>∃F B μ0 H0 μ ρ S ds vs,ig K (a::F) B/\gv K m F a (O a) B μ0 H0 μ S H ρ σ ds vs/\dV K m F a (O a) B μ0 H0 ρ Q (bz Φ Γ c ρ ds S)
noncomputable def eU(Φ:FT)(Γ:Str->Option D)(i:List CE)(body:CE)(ρ:bt)(ds:List D)(S:af):Res (List D):=(aX Φ Γ i ρ S).bind λk S3=>if k=true then bz Φ Γ body ρ ds S3 else .ok ds S3
noncomputable def tC(K:Fg)(m:Mg)(O:Addr->List D->List V->HO->Prop)(Φ:FT)(Γ:Str->Option D)(i:List CE)(c:CE)(a:Addr):TU:=λσ H Q=>∃F B μ0 H0 μ ρ S ds vs,ig K (a::F) B/\gv K m F a (O a) B μ0 H0 μ S H ρ σ ds vs/\dV K m F a (O a) B μ0 H0 ρ Q (eU Φ Γ i c ρ ds S)
section
variable {O:List D->List V->HO->Prop}{vs:List V}
theorem gv.next(hB:ig K (acc::F) B)(c:gv K mg F acc O B μ0 H0 μ S H ρ σ ds vs)(x:Ext μ H μ1 H1)(s:aM K ⟨mg,acc::F⟩ μ1 S1 H1):gv K mg F acc O B μ0 H0 μ1 S1 H1 ρ σ ds vs where
 n0:=c.n0
 ext:=c.ext.trans x
 sok:=s
 nin:=λz=>by
  rcases x.fresh _ z with z|z
  ·exact c.nin z
  ·obtain⟨o,e,_⟩:=c.at_;simp_all
 env:=c.env.mono x
 at_:=let⟨o,e,h⟩:=c.at_;⟨o,x.keep _ _ e (.inr c.nin),h⟩
 rep:=aj.mono x _ _ c.rep
 b:=hB _ H _ _ c.b (.of_ext x λ_ z=>.inl z)
theorem gv.put{u:HO}(f:ig K (acc::F) B)(c:gv K mg F acc O B μ0 H0 μ S H ρ σ ds vs)(h:H acc=some u)(a:gW u=true)(r:Rep K ⟨mg,acc::F⟩ μ H d v)(g:O (ds++[d]) (vs++[v]) u'):gv K mg F acc O B μ0 H0 μ S (aZ H acc u') ρ σ (ds++[d]) (vs++[v]):=by
 have C:c8 K _ _ H (acc::F) μ (aZ H _ u'):=.more Ze h a
 exact{
  n0:=c.n0
  ext:=c.ext.more c.n0
  sok:=c.sok.more Ze c.nin h a
  nin:=c.nin
  env:=c.env.chg C
  at_:=⟨_,bM,g⟩
  rep:=aj.append (aj.chg C _ _ c.rep) (.cons (Rep.chg C _ _ r) .nil)
  b:=f _ _ _ _ c.b C}
theorem FW{E:XK}:∀{cs:List CE} {σ:L2.St} {Q:Bool->Hp->Prop},aM X.K ⟨X.mg,F⟩ μ S H->aW X.K ⟨X.mg,F⟩ μ H ρ σ->ak X.K ⟨X.mg,F⟩ E (λ_ _ a b=>a=b) μ H Q (aX Φ Γ cs ρ S)->lY (cs.map (tT X.K X.mg E Φ Γ)) σ H Q:=by
 intro cs
 induction cs generalizing μ H S with
 |nil=>exact λs e w=>w _ H _ .refl s rfl
 |cons c cs i=>
  intro σ Q s e w;refine⟨F,_,_,S,s,e,(ak.bind w).mono λk H1 z=>ay z λg h K x d f W=>?_⟩;subst f;cases K with
  |true=>exact i d (e.mono x) W
  |false=>exact W _ _ _ .refl d rfl
end
section
variable {E:XK}
theorem PB.weak{body:Sem Unit}{t t':TU}(h:PB X body t)(w:∀σ H Q,t' σ H Q->t σ H Q):PB X body t':=λp s σ H Q I q=>h _ s _ H Q I (w _ H Q q)
theorem FX{vs:List V}{i:List CE}{c:CE}{Q:L2.St->Hp->Prop}
  (h:ig K (acc::F) B) (st:gv K mg F acc (O acc) B μ0 H0 μ S H ρ σ ds vs) (w:dV K mg F acc (O acc) B μ0 H0 ρ Q (eU Φ Γ i c ρ ds S)):
  ak K ⟨mg,acc::F⟩ E (λ_ _ a b=>a=b) μ H (λb H1=>if b=true then tB K mg O Φ Γ c acc σ H1 Q else Q σ H1) (aX Φ Γ i ρ S):=by
 unfold eU at w;cases e:aX _ _ _ _ S with
 |ok k f=>
  rw[e]at w;intro j H1 b x s g;subst g;have d:=st.next h x s;cases k with
  |true=>exact⟨F,B,_,_,_,_,_,_,_,h,d,w⟩
  |false=>exact w _ _ _ _ d
 |err y f=>rw[e]at w;exact w.elim
 |fail=>rw[e]at w;exact w.elim
theorem sJ{e:Sem Unit}{d:Nat}{fs:Lx}{i:List CE}{c:CE}(b:xH X fs (i.map (tT X.K X.mg E Φ Γ)))(a:PB X (bq ce e gens d (.ref acc) X.env) (tB X.K X.mg O Φ Γ c acc)):
  PB X (eI fs X.env>>=λok=>if ok=true then bq ce e gens d (.ref acc) X.env else pure ()) (tC X.K X.mg O Φ Γ i c acc):=
 PB.weak (mw b a) λl H Q z=>rA z λF B f g j k S D vs h s w=>FW s.sok s.env (FX h s w)
def oL(_:Addr)(_:List D)(vs:List V)(o:HO):Prop:=o=.lst vs
theorem sK{d:Nat}{c:CE}(k:gens[d+1]?=none)(j:PE X elt (tE X.K X.mg E Φ Γ c)):PB X (bq ce (sy elt (.ref acc) X.env) gens d (.ref acc) X.env) (tB X.K X.mg oL Φ Γ (.emit c) acc):=
 PB.weak (mx k j) λq H Q z=>rA z λF B l n o p S D vs g b w=>by
  refine⟨_,_,_,S,b.sok,b.env,?_⟩;simp[bz]at w;cases e:ah _ _ c _ S with
  |ok y i=>
   rw[e]at w;intro m H1 v x s r;have a:=b.next g x s;have W:dV _ _ F _ _ B _ _ _ Q (if D.length<bx then .ok _ _ else .fail):=w;by_cases h:D.length<bx
   ·rw[if_pos h]at W;obtain⟨_,f,rfl⟩:=a.at_;exact⟨_,f,by rw[<-a.rep.length];exact h,W _ _ _ _ (a.put g f rfl r rfl)⟩
   ·rw[if_neg h]at W;exact W.elim
  |err y i=>rw[e]at w;exact w.elim
  |fail=>rw[e]at w;exact w.elim
end
noncomputable def sL:hY->Nat
 | .items xs=>xs.length+1
 | .live f _=>f
theorem yP(step:D->List D->af->Res (List D))(xs:List D):∀(n i:Nat) (acc:List D) (S:af),i+n=xs.length->cq step (λ_ i=>some xs[i]?) (n+1) i acc S=aS step (xs.drop i) acc S
 |0,i,acc,S,h=>by rw[List.drop_eq_nil_of_le (by omega)];unfold cq;have:xs[i]?=none:=List.getElem?_eq_none_iff.mpr (by omega);rw[this];rfl
 |n+1,i,acc,S,h=>by
  have H:i<xs.length:=by omega
  rw[List.drop_eq_getElem_cons H];unfold cq;rw[Zj H];show(step _ _ S).bind _=(step _ _ S).bind _;congr 1;funext a b;exact yP _ _ n _ _ _ (by omega)
theorem yQ(step:D->List D->af->Res (List D))(its:hY)(a:List D)(S:af):bS step its a S=cq step (bV its) (sL its) 0 a S:=by
 cases its with
 |items x=>exact(yP _ _ _ 0 _ S (by omega)).symm
 |live f get=>rfl
noncomputable def et(Φ:FT)(Γ:Str->Option D)(t:CT)(i:List CE)(body:CE)(ρ:bt):D->List D->af->Res (List D):=λx acc S2=>match bh t x ρ with
 |some ρ'=>eU Φ Γ i body ρ' acc S2
 |none=>.fail
theorem gv.back{a:La->Hp->Prop}{vs:List V}(c:gv K mg F acc (O acc) B μ0 H0 μ S H ρ σ ds vs)(b:a μ H)(e:aW K ⟨mg,acc::F⟩ μ H ρ' σ'):gv K mg F acc (O acc) a μ0 H0 μ S H ρ' σ' ds vs:=
 ⟨c.n0,c.ext,c.sok,c.nin,e,c.at_,c.rep,b⟩
theorem FY{t:CT}{i:List CE}{body:CE}{x:D}(h:bh t x ρ=some ρ'):et Φ Γ t i body ρ x ds S=eU Φ Γ i body ρ' ds S:=by unfold et;rw[h]
theorem FZ{t:CT}{i:List CE}{body:CE}{x:D}(h:bh t x ρ=none):et Φ Γ t i body ρ x ds S=.fail:=by unfold et;rw[h]
theorem yR{j:La}{d:La}{k:Hp}{J:It}{get:af->Nat->Option (Option D)}{t:CT}{I:List CE}{body:CE}{Q:L2.St->Hp->Prop}(l:ig K (acc::F) B)(ok:gI K ⟨mg,j⟩ J get d k)
        {vs:List V} (ch:c8 K j d k (acc::F) μ H) (st:gv K mg F acc (O acc) B μ0 H0 μ S H ρ σ ds vs) (w:dV K mg F acc (O acc) B μ0 H0 ρ Q (cq (et Φ Γ t I body ρ) get n 0 ds S)):
  ∃W:Nat->Nat->L2.St->Hp->Prop,(∃m,W 0 m σ H)/\∀i m σ H,W i m σ H->
   (J.stop i H/\Q σ H)\/(J.go i H/\∃Nx:L2.St->Hp->Prop,(∀σ' H',Nx σ' H'->∃M,M<m/\W (i+1) M σ' H')/\∀x H',J.yld i H x H'->qb K t x σ H' λf H2=>tC K mg O Φ Γ I body acc f H2 Nx):=by
 refine⟨λi m σ H=>∃μ S ds vs,c8 K _ _ _ _ μ H/\gv K _ F _ _ B _ _ μ S H _ σ ds vs/\dV K _ F _ _ B _ _ _ Q (cq _ _ m i ds S),⟨n,_,S,_,_,ch,st,w⟩,?_⟩;rintro i m σ H ⟨μ,S,ds,vs,ch,st,w⟩;cases m with
 |zero=>exact w.elim
 |succ m=>
  unfold cq at w;obtain⟨v,A⟩:=ok i _ S H _ ch st.sok;cases e:get S i with
  |none=>rw[e]at w;exact w.elim
  |some o=>
   cases o with
   |none=>rw[e]at w;exact .inl ⟨A e,w _ H _ _ st⟩
   |some x=>
    rw[e]at w;obtain⟨G,Y⟩:=v x e;refine .inr ⟨G,_,λσ' H' q=>⟨m,Nat.lt_succ_self m,q⟩,λy H' u=>?_⟩;obtain⟨X,L,R⟩:=Y y _ u;have b:=st.next l X L;have C:=ch.trans (.of_ext X λ_ z=>.inl z);have a:dV K _ F _ _ B _ _ _ Q ((et _ _ _ _ _ _ x _ S).bind _):=w;cases E:bh _ x _ with
    |none=>rw[FZ E]at a;exact a.elim
    |some Z=>
     rw[FY E]at a;refine sI (FV E) R b.env λf g=>?_;refine⟨F,λμ H=>B _ H/\c8 K _ _ _ _ _ H,_,_,_,_,S,_,_,λT Ha U Hb q c=>⟨l _ _ _ _ q.1 c,q.2.trans c⟩,b.back ⟨b.b,C⟩ g,?_⟩;cases h:eU _ _ _ _ _ _ S with
     |ok r p=>rw[h]at a;intro P H2 σ' N s;exact⟨_,_,_,_,s.b.2,s.back s.b.1 (FU E s.env),a⟩
     |err z p=>rw[h]at a;exact a.elim
     |fail=>rw[h]at a;exact a.elim
section
variable {E:XK}
theorem mz{a:Sem Unit}{d:Nat}{t i:Expr}{fs:Lx}{T:CT}{it:CE}{I:List CE}{body:CE}(f:hX ce=true)(h:clausesOf ce=gens)(b:∀it:Addr,compTurn ce (d+1) (.ref it) (.ref acc) X.env=(standAt i.pos>>=λ_=>pyNext (.ref it)>>=λr=>match r with
   |none=>pure (.done .next)
   |some v=>letOwnedTupleGo t (.ref it) v>>=λ_=>assign t X.env v>>=λ_=>(eI fs X.env>>=λok=>if ok=true then bq ce a gens (d+1) (.ref acc) X.env else pure ())>>=λ_=>again (.compLoop ce (d+1) (.ref it) (.ref acc) X.env))) (q:X.xe=λ_ _=>False) (n:X.calm=true) (o:gens[d+1]?=some ⟨t,i,fs,0⟩)
  (p:PI X t i (tI X.K X.mg E Φ Γ it)) (hs:∀x,foldedSetIterable i X.env x=pure x) (c:PG X t (qb X.K T))
  (m:PB X (eI fs X.env>>=λok=>if ok=true then bq ce a gens (d+1) (.ref acc) X.env else pure ()) (tC X.K X.mg O Φ Γ I body acc)):PB X (bq ce a gens d (.ref acc) X.env) (tB X.K X.mg O Φ Γ (.inner T it I body) acc):=
 PB.weak (FQ f h b q n o p hs c m) λM H Q z=>rA z λF B A D K L S G vs k g w=>by
  refine⟨_,_,_,S,g.sok,g.env,?_⟩;simp[bz]at w;cases e:bj _ _ _ _ S with
  |ok u l=>rw[e]at w;intro C H1 J x s ok;have j:=g.next k x s;have W:dV _ _ F _ _ B _ _ _ Q (bS _ _ _ _):=w;rw[yQ]at W;exact yR k ok .refl j W
  |err y l=>rw[e]at w;exact w.elim
  |fail=>rw[e]at w;exact w.elim
noncomputable def fW(fr:List (Option Nat)):L2.St->L2.St:=λσ=>fr.map λj=>j.bind λj=>(σ[j]?).join
theorem sM{m:GS}(f:aW K m μ H ρ σ):aW K m μ H (fr.map λj=>j.bind λj=>(ρ[j]?).join) (fW fr σ):=by
 refine⟨by simp[fW],λi d e=>?_⟩;rw[List.getElem?_map]at e;cases b:fr[i]? with
 |none=>simp_all
 |some o=>
  rw[b]at e;have e:=Option.some.inj e;cases o with
  |none=>cases e
  |some j=>
   have E:ρ[j]?.join=some d:=e;cases a:ρ[j]? with
   |none=>simp_all
   |some o=>rw[a]at E;have c:=E;subst c;obtain⟨v,g,k⟩:=f.2 j d a;exact⟨v,by unfold fW;simp_all,k⟩
theorem jI{tg0:Expr}{box:Bool}{t:CT}{it:CE}{i:List CE}{body:CE}{Q:VK}(h:tE X.K X.mg E Φ Γ (.comp box N' fr t it i body) σ H Q):
  jq (λ_=>.lst []) (fW fr) (tI X.K X.mg E Φ Γ it) (qb X.K t) (tC X.K X.mg oL Φ Γ i body) σ H Q:=by
 obtain⟨F,j,R,S,o,g,w⟩:=h;refine⟨F,_,_,S,o,g,?_⟩;refine ak.mono (ak.bind w) λJ H1 h A a=>?_;obtain⟨z,M,I,x,d,ok,r⟩:=h
 have p:gv _ _ F _ (oL A) (λj H=>c8 X.K F _ _ _ j H) _ _ _ _ _ _ (fW fr _) _ _:={
  n0:=a
  ext:=.laid a
  sok:=d.start a
  nin:=d.notin a
  env:=(sM (g.mono x)).chg (.start a)
  at_:=⟨_,bM,rfl⟩
  rep:=.nil
  b:=.start a}
 refine yR (n:=sL I) (λB K C L q c=>q.trans c) ok (.start a) p ?_;have W:ak _ _ E _ _ _ Q ((bS (et _ _ _ _ _ _) _ _ _).noErr.bind _):=r;rw[yQ]at W;cases e:cq _ _ _ 0 _ _ with
 |ok Y k=>
  rw[e]at W;intro u G D v s;have m:=d.notF a;obtain⟨_,f,rfl⟩:=s.at_;cases box with
  |false=>refine W _ _ _ s.ext s.sok.out ?_;exact⟨_,_,rfl,f,⟨s.nin,m⟩,aj.chg .out _ _ s.rep⟩
  |true=>refine W _ _ _ (s.ext.outBox a) (s.sok.outBox s.nin f s.rep) ?_;unfold Rep;have O:=s.sok.len;simp_all
 |err y k=>rw[e]at W;exact W.elim
 |fail=>rw[e]at W;exact W.elim
end
noncomputable def bD(l:Bool):Obj:={cls:=.type "set",dict:=none,data:=.set #[] 0 (.fresh 0 0 l)}
theorem F0{t:Addr}{vs:Av}(hh:A.handled=none)(ht:s.heap.IsTuple t vs)(hi:IntsAre vs.toList ns)(z:vs.size+1<scanBound)
  (h:∀(h':Heap) (tk:Nat),h'.SetOf (intKind prog w) s.heap.objs.size (λM=>(firstMet (λi=>ns.getD i 0) vs.size).any (· ==M)) (firstMet (λi=>ns.getD i 0) vs.size).length->
   (∀b o,b<s.heap.objs.size->s.heap.get? b=some o->h'.get? b=some o)->Q (.ref s.heap.objs.size) {s with heap:=h',toks:=tk}):wpAny (model prog w) A (call (.type "set") [.ref t]) Q E s:=by
 obtain⟨c,tl,X⟩:=F.called_set.mro;have J:=F.called_set.made;have Y:=F.called_set.sub;refine wpAny_call (codeAny_of_tree ?_);show wpAny _ _ (callAny (.type "set") _) _ _ _;refine Zd ⟨Code.quiet_builtin _ (by decide+kernel),codeAny_builtin F.entry_type_call ?_⟩;rw[Around.under_plain (weight_type_call_type "set" [.ref t] []) rfl];have g1:=F.called_set.notType;have g2:=F.called_set.canCreate;have g3:=F.typeCall_set_1 (.ref t)
 repeat(any_goals (first|assumption|wp_step))
 refine codeAny_mono (code_set_new_1 (.ref t) (E:=E) (Q₁:=λobj S=>∃l:Bool,obj=.ref s.heap.objs.size/\S={s with heap:=s.heap.push (bD l)}) λl=>⟨l,rfl,rfl⟩) λr S K=>?_;cases r with
 |error e=>exact K
 |ok fl=>
  cases fl with
  |ret obj=>
   obtain⟨l,rfl,rfl⟩:=K;have W:(s.heap.push (bD l)).get? s.heap.objs.size=some (bD l):=Zh _ rfl;have hT:Shared.TypeIs {s with heap:=s.heap.push (bD l)} (.ref s.heap.objs.size) "set":=⟨_,W,rfl⟩;have hli:=F.called_set.init.lookup;have hbi:=F.called_set.init.bind (.ref s.heap.objs.size)
   repeat(any_goals (first|assumption|wp_step))
   refine codeAny_mono (codeAny_call_builtin (R:=wants (λr d=>r=.none/\∃h' tk,d={s with heap:=h',toks:=tk}/\h'.SetOf (intKind prog w) s.heap.objs.size (λM=>(firstMet (λi=>ns.getD i 0) vs.size).any (· ==M)) (firstMet (λi=>ns.getD i 0) vs.size).length/\
     (∀b o,b<s.heap.objs.size->s.heap.get? b=some o->h'.get? b=some o)) E) F.called_set.init.plain F.entry_set_init (check_set_init_1 hT ?_)) λy d H=>?_
   ·obtain⟨⟨Z,j,N,O⟩,u,k,nl,m⟩:=ht;simp only at k m;subst k;subst m;have x:(s.heap.push (bD l)).get? t=some {cls:=.type "tuple",dict:=j,data:=.seq vs nl,slots:=O}:=Zb _ u;have q1:=F.sub_tuple_set;have q2:=F.sub_tuple_frozenset;have q3:(Value.type "tuple"==Value.type "dict")=false:=by decide
    have n:(s.heap.push (bD l)).IsTuple t vs:=⟨_,x,rfl,nl,rfl⟩;unfold Builtin.«set.__init__» noKeywords Builtin.Frozenset.updateFrom;generalize C:pyIter=PI
    wp_walk
    subst C;refine wpAny_pyIter_tuple n (Za (wpAny_runValue ?_));have p:t<s.heap.objs.size:=Zi u;have G:A.in1.in1.in1.handled=none:=by simp[hh]
    have L:(s.heap.push (bD l)).objs.size=s.heap.objs.size+1:=Heap.size_push ..;have q:t≠(s.heap.push (bD l)).objs.size:=by rw[L];exact Zt (Nat.lt_succ_of_lt p)
    have D:s.heap.objs.size∉[(s.heap.push (bD l)).objs.size,t]:=by rw[L];simp only[Zk,Zv,or_false,not_or];exact⟨Zt (Nat.lt_succ_self _),Nat.ne_of_gt p⟩
    refine codeAny_set_update_loopS ((Walks.tuple G _ t q vs).toS) s.heap.objs.size D (λi=>ns.getD i 0) (λi v hv=>hi.int_at i v (by rw[Array.getElem?_toList];exact hv)) z (vs.size-0) 0 _ (by omega) (Z2 _) ⟨⟨_,Zh _ rfl,rfl,rfl⟩,(n.push _)⟩ ?hS0 ?hR
    case hS0=>exact SetOf_congr ((setObjOf_fresh (knd:=intKind prog w) l).setOf (Zb _ W) (by unfold scanBound;omega)) (λ_=>rfl) rfl
    case hR=>intro s' B g;obtain⟨h',g',d',U,P⟩:=s';have eg:g'=s.gens:=B.gens;have ed:d'=s.drawn:=B.drawn;have eo:P=s.os:=B.os;subst eg ed eo;show wpAny _ _ _ _ _ _;refine Zd ?_;show wpAny _ _ (ret Value.none) _ _ _;refine Zd ⟨rfl,h',U,rfl,g,λb o z e=>B.heap b o ?_ (Zb _ (Zb _ e))⟩;simp only[Zk,Zv,or_false,not_or];rw[L];exact⟨Zt z,Zt (Nat.lt_succ_of_lt z)⟩
   ·cases y with
    |error e=>exact H
    |ok f=>
     cases f with
     |ret r=>
      obtain⟨rfl,h',tk,rfl,g,I⟩:=H
      repeat(any_goals (first|assumption|wp_step))
      exact h _ _ g I
     |_=>exact H.elim
  |_=>exact K.elim
def gX(xs:Array Nat):Prop:=∀i j (hi:i<xs.size) (h:j<xs.size),i<j->xs[i]<xs[j]
theorem F1{xs:Array Nat}(h:gX xs)(j:Nat):∀(f lo hi:Nat),hi-lo<=f->lo<=hi->hi<=xs.size->(∀i (g:i<xs.size),i<lo->xs[i]<j)->(∀i (g:i<xs.size),hi<=i->j<=xs[i])->
  lo<=SetTable.below.go xs j f lo hi/\SetTable.below.go xs j f lo hi<=hi/\(∀i (g:i<xs.size),i<SetTable.below.go xs j f lo hi->xs[i]<j)/\(∀i (g:i<xs.size),SetTable.below.go xs j f lo hi<=i->j<=xs[i]):=by
 intro f
 induction f with
 |zero=>
  intro lo hi p r o k l;have:lo=hi:=by omega
  subst this;exact⟨Zf _,Zf _,k,l⟩
 |succ f I=>
  intro lo hi p r o k l;unfold SetTable.below.go;split
  ·rename_i t;have m:(lo+hi)/2<xs.size:=by omega
   have q:xs.getD ((lo+hi)/2) j=xs[(lo+hi)/2]:=by simp[Array.getD,m]
   dsimp only;rw[q];split
   ·rename_i g
    obtain⟨a,b,c,d⟩:=I ((lo+hi)/2+1) hi (by omega) (by omega) o (λi H n=>by
     by_cases e:i=(lo+hi)/2
     ·subst e;exact g
     ·exact Nat.lt_trans (h i _ H m (by omega)) g) l
    exact⟨by omega,b,c,d⟩
   ·rename_i g
    obtain⟨a,b,c,d⟩:=I lo ((lo+hi)/2) (by omega) (by omega) (by omega) k (λi H s=>by
     by_cases e:i=(lo+hi)/2
     ·subst e;omega
     ·exact ZC (by omega) (Nat.le_of_lt (h _ i m H (by omega))))
    exact⟨a,by omega,c,d⟩
  grind
theorem mB{xs:Array Nat}(h:gX xs)(j:Nat):SetTable.below xs j<=xs.size/\(∀i (H:i<xs.size),i<SetTable.below xs j->xs[i]<j)/\(∀i (H:i<xs.size),SetTable.below xs j<=i->j<=xs[i]):=by
 obtain⟨_,b,c,d⟩:=F1 h j xs.size 0 _ (by omega) (by omega) (Zf _) λi _ h=>by omega λi H h=>by omega
 exact⟨b,c,d⟩
theorem F2{xs:Array Nat}(h:gX xs){i:Nat}(d:i<xs.size):SetTable.below xs (xs[i]+1)=i+1:=by
 obtain⟨a,b,c⟩:=mB h (xs[i]+1)
 have f:i<SetTable.below xs (xs[i]+1):=by
  grind
 by_cases e:i+1<SetTable.below xs (xs[i]+1)
 ·have H:i+1<xs.size:=by omega
  have:=b _ H e;have:=h i _ d H (by omega);omega
 ·omega
theorem F3(xs:Array Nat)(h:gX xs):SetTable.below xs 0=0:=by
 obtain⟨a,b,c⟩:=mB h 0;by_cases e:0<SetTable.below xs 0
 ·have:=b 0 (by omega) e;omega
 ·omega
theorem F4{xs:Array Nat}(h:gX xs){j:Nat}(r:∀i (g:i<xs.size),xs[i]≠j):gX (SetTable.insertAt xs (SetTable.below xs j) j):=by
 obtain⟨a,b,c⟩:=mB h j;have p:(SetTable.insertAt xs (SetTable.below xs j) j).toList=xs.toList.take (SetTable.below xs j)++j::xs.toList.drop (SetTable.below xs j):=by unfold SetTable.insertAt;simp;exact List.take_of_length_le (by simp)
 have q:(xs.toList.take (SetTable.below xs j)++j::xs.toList.drop (SetTable.below xs j)).Pairwise (· < ·):=by
  have g:xs.toList.Pairwise _:=List.pairwise_iff_getElem.mpr λi k e m H=>by simpa using h i k _ _ H
  rw[List.pairwise_append];refine⟨g.sublist (List.take_sublist _ _),ZW.mpr ⟨λy d=>?_,g.sublist (List.drop_sublist _ _)⟩,λx l y d=>?_⟩
  ·obtain⟨i,e,rfl⟩:=ZK.mp d
   grind
  ·obtain⟨i,e,rfl⟩:=ZK.mp l;rw[List.length_take]at e;rw[List.getElem_take];have f:i<xs.size:=by lia
   have o:=b i f (by omega);rcases Zk.mp d with rfl|d
   ·exact o
   ·obtain⟨k,m,rfl⟩:=ZK.mp d
    grind
 intro i k e m H;have n:(SetTable.insertAt xs (SetTable.below xs j) j).size=(SetTable.insertAt xs (SetTable.below xs j) j).toList.length:=by simp
 have:=List.pairwise_iff_getElem.mp (p▸q) i k (by simp_all) (by simp_all) H;simpa using this
theorem F5{l:List Nat}(h:l.Pairwise (· < ·)):gX l.toArray:=λi j a b H=>by have:=List.pairwise_iff_getElem.mp h i j (by simpa using a) (by simpa using b) H;simpa using this
theorem sN{c d:Type}(f:c->Option d):∀l:List c,((l.filterMap λj=>(f j).map (j, ·)).map (·.1)).Sublist l
 | []=>.slnil
 |a::l=>by
  cases e:f a with
  |none=>rw[List.filterMap_cons_none (by rw[e];rfl)];exact(sN f l).cons a
  |some b=>rw[List.filterMap_cons_some (b:=(a,b)) (by rw[e];rfl),List.map_cons];exact(sN f l).cons₂ a
open SetTable (Probe runEnd leap bits turns)
noncomputable def mC(mask:Nat)(p:Probe):Probe:=
 if p.more>0 then{p with j:=p.j+1,more:=p.more-1}else
 {p with j:=(leap mask p.i p.perturb).1,more:=runEnd mask (leap mask p.i p.perturb).1-(leap mask p.i p.perturb).1,i:=(leap mask p.i p.perturb).1,perturb:=(leap mask p.i p.perturb).2}
theorem sO(t:SetTable)(p:Probe):t.advance p=mC t.mask p:=rfl
noncomputable def pos(mask:Nat):Probe->Nat->Probe
 |p,0=>p
 |p,n+1=>pos mask (mC mask p) n
noncomputable def i0(mask i p:Nat):Probe:=⟨i,runEnd mask i-i,i,p,none⟩
noncomputable def eK(mask:Nat)(h:Int):Probe:=i0 mask (bits h%(mask+1)) (bits h)
theorem ii{mask:Nat}:∀(m n:Nat) (p:Probe),pos mask p (m+n)=pos mask (pos mask p m) n
 |0,n,p=>by rw[Nat.zero_add];rfl
 |m+1,n,p=>by rw[Nat.succ_add];exact ii m n _
theorem F6(p:Probe)(n:Nat):pos mask p (n+1)=mC mask (pos mask p n):=ii n 1 p
theorem mD{mask i p:Nat}{d:Option Nat}:∀(k r j:Nat),k<=r->pos mask ⟨j,r,i,p,d⟩ k=⟨j+k,r-k,i,p,d⟩
 |0,r,j,_=>rfl
 |k+1,r,j,h=>by
  show pos _ _ k=_;have:mC mask ⟨j,r,i,p,d⟩=⟨j+1,r-1,i,p,d⟩:=by unfold mC;lia
  rw[this,mD k _ _ (by omega)];lia
theorem run_next{i p r j:Nat}{d:Option Nat}:pos mask ⟨j,r,i,p,d⟩ (r+1)=⟨(leap mask i p).1,runEnd mask (leap mask i p).1-(leap mask i p).1,(leap mask i p).1,(leap mask i p).2,d⟩:=by rw[F6,mD r r j (Zf _)];unfold mC;lia
noncomputable def cw(mask:Nat):Nat->Nat×Nat->Nat×Nat
 |0,x=>x
 |r+1,x=>cw mask r (leap mask x.1 x.2)
theorem mE{i:Nat}:runEnd mask i-i<=9:=by unfold runEnd;lia
theorem jJ{mask:Nat}:∀(r:Nat) (x:Nat×Nat),∃n,n<=10*r/\pos mask (i0 mask x.1 x.2) n=i0 mask (cw mask r x).1 (cw mask r x).2
 |0,x=>⟨0,by omega,rfl⟩
 |r+1,x=>by obtain⟨n,h,e⟩:=jJ r _;have:=mE (mask:=mask) (i:=x.1);refine⟨runEnd mask x.1-x.1+1+n,by omega,?_⟩;rw[ii];show pos _ (pos _ ⟨_,_,_,_,_⟩ _) n=_;rw[run_next];exact e
theorem yS{mask:Nat}:∀(a b:Nat) (x:Nat×Nat),cw mask (a+b) x=cw mask b (cw mask a x)
 |0,b,x=>by rw[Nat.zero_add];rfl
 |a+1,b,x=>by rw[Nat.succ_add];exact yS a b _
theorem yT{mask:Nat}:∀(r:Nat) (x:Nat×Nat),x.1<=mask->(cw mask r x).1<=mask
 |0,x,h=>h
 |r+1,x,h=>yT r _ (by show(x.1*5+1+x.2/32)%(mask+1)<=mask;have:=Nat.mod_lt (x.1*5+1+x.2/32) (show 0<mask+1 by omega);omega)
theorem yU{mask:Nat}:∀(r:Nat) (x:Nat×Nat),(cw mask r x).2=x.2/32^r
 |0,x=>by simp[cw]
 |r+1,x=>by show(cw _ r _).2=_;rw[yU r];show x.2/32/32^r=_;rw[Nat.div_div_eq_div_mul,Nat.pow_succ,Nat.mul_comm]
noncomputable def Dr(m:Nat):Nat->Nat->Nat
 |0,i=>i
 |r+1,i=>Dr m r ((i*5+1)%m)
noncomputable def yV(m:Nat):Nat->Nat->Nat
 |0,i=>1<<<i
 |r+1,i=>(1<<<i)|||yV m r ((i*5+1)%m)
theorem yW{i e:Nat}(h:(1<<<i).testBit e=true):i=e:=by rw[Nat.one_shiftLeft,Nat.testBit_two_pow]at h;simp_all
theorem yX{m e:Nat}:∀(r i:Nat),(yV m r i).testBit e=true->∃k,k<=r/\Dr m k i=e
 |0,i,h=>⟨0,Zf _,yW h⟩
 |r+1,i,h=>by
  unfold yV at h;rw[Nat.testBit_or,Bool.or_eq_true]at h;rcases h with h|h
  ·exact⟨0,Z2 _,yW h⟩
  ·obtain⟨k,H,e⟩:=yX r _ h;exact⟨k+1,by omega,e⟩
theorem mF:∀mask∈[7,31,127],∀i∈List.range (mask+1),yV (mask+1) mask i=2^(mask+1)-1:=by decide+kernel
theorem yY{mask:Nat}:∀(r i:Nat),(cw mask r (i,0)).1=Dr (mask+1) r i
 |0,i=>rfl
 |r+1,i=>by show(cw _ r (leap _ i 0)).1=Dr _ r _;rw[<-yY r];rfl
def ew(mask:Nat):Prop:=mask∈[7,31,127]
theorem qf(c:ew mask){i p e:Nat}(b:i<=mask)(j:p<2^64)(f:e<=mask):∃r,r<=mask+13/\(cw mask r (i,p)).1=e:=by
 have h:(cw mask 13 (i,p)).2=0:=by rw[yU];lia
 have H:=yT 13 (i,p) b;have d:=mF _ c _ (List.mem_range.mpr (Nat.lt_succ_of_le H))
 have a:(yV (mask+1) mask (cw mask 13 (i,p)).1).testBit e=true:=by
  grind
 obtain⟨k,g,E⟩:=yX _ _ a;refine⟨13+k,by omega,?_⟩;rw[yS,show cw _ _ _=((cw _ _ _).1,0)from Prod.ext rfl h,yY];exact E
theorem yZ(h:Int):bits h<2^64:=by
 unfold bits
 grind
theorem F7(b:ew mask){e:Nat}(H:e<=mask)(h:Int):∃n,n<10*turns mask/\(pos mask (eK mask h) n).j=e:=by obtain⟨r,d,E⟩:=qf b (i:=bits h%(mask+1)) (by have:=Nat.mod_lt (bits h) (show 0<mask+1 by omega);omega) (yZ h) H;obtain⟨n,c,a⟩:=jJ r (bits h%(mask+1),bits h);exact⟨n,by unfold turns;omega,by rw[show eK _ h=i0 _ _ _ from rfl,a];exact E⟩
theorem sP{mask:Nat}:∀(n:Nat) {p:Probe},(pos mask p n).dummy=p.dummy
 |0,p=>rfl
 |n+1,p=>by show(pos _ _ n).dummy=_;rw[sP n];unfold mC;split<;>rfl
theorem sQ:∀(m:Nat) (l:List Nat),l.length<m->∃e,e<m/\e∉l
 |0,l,h=>by omega
 |m+1,l,h=>by
  by_cases H:m∈l
  ·have a:(l.filter (· !=m)).length<l.length:=List.length_filter_lt_length_iff_exists.mpr ⟨m,H,by simp⟩;obtain⟨e,b,c⟩:=sQ m (l.filter (· !=m)) (by omega)
   grind
  ·exact⟨m,Nat.lt_succ_self m,H⟩
def Fd(mask:Nat)(P:Nat->Prop)(h:Int)(j:Nat):Prop:=∃n,(pos mask (eK mask h) n).j=j/\∀m,m<n->P (pos mask (eK mask h) m).j
theorem Fd.mono{P a:Nat->Prop}{h:Int}{j:Nat}(x:Fd mask P h j)(hs:∀y,P y->a y):Fd mask a h j:=by obtain⟨n,e,f⟩:=x;exact⟨n,e,λm H=>hs _ (f m H)⟩
theorem F8(H:ew mask){pl:List Nat}(c:pl.length<=mask)(h:Int):∃n,n<10*turns mask/\(pos mask (eK mask h) n).j∉pl/\∀m,m<n->(pos mask (eK mask h) m).j∈pl:=by
 obtain⟨e,b,d⟩:=sQ (mask+1) pl (by omega);obtain⟨n,a,E⟩:=F7 H (e:=e) (by omega) h
 have K:∀n,(pos mask (eK mask h) n).j∉pl->∃k,k<=n/\(pos mask (eK mask h) k).j∉pl/\∀m,m<k->(pos mask (eK mask h) m).j∈pl:=by
  intro n
  induction n using Nat.strongRecOn with
  |ind n i=>
   grind
 grind
structure Tk (t:SetTable)(hs:Li):Prop where
 dum:t.dummies= #[]
 ris:gX t.place
 siz:t.place.size=hs.length
 msk:ew t.mask
 ful:t.tooFull=false
 fnd:∀x∈hs.zip t.place.toList,Fd t.mask (· ∈t.place.toList) x.1 x.2
theorem F9{xs:Array Nat}(h:gX xs){i:Nat}(H:i<xs.size):SetTable.below xs xs[i]=i:=by
 obtain⟨a,b,c⟩:=mB h xs[i]
 have d:SetTable.below xs xs[i]<=i:=by
  grind
 by_cases z:SetTable.below xs xs[i]<i
 ·have:=h _ i (by omega) H z;have:=c _ (by omega) (Zf _);omega
 ·omega
theorem y0{t:SetTable}(h:gX t.place){i:Nat}(H:i<t.place.size):t.slot t.place[i]=.live i:=by unfold SetTable.slot;rw[F9 h _];simp_all
theorem y8{t:SetTable}(h:gX t.place){j:Nat}(H:j∈t.place.toList):∃i,∃hi:i<t.place.size,t.place[i]=j/\t.slot j=.live i:=by
 obtain⟨i,hi,e⟩:=ZK.mp H;have E:=by simpa using e
 exact⟨i,_,E,by rw[<-E];exact y0 h _⟩
theorem y9{t:SetTable}(h:t.dummies= #[]){j:Nat}(H:j∉t.place.toList):t.slot j=.empty:=by
 unfold SetTable.slot;rw[if_neg,h]
 ·rfl
 grind
theorem Tk.fits{t:SetTable}(x:Tk t hs):t.place.size<=t.mask/\t.fits hs.length=true:=by
 have h:=x.ful;unfold SetTable.tooFull SetTable.fill at h;have a:=of_decide_eq_false h;have H:t.place.size<=t.mask:=by omega
 refine⟨H,?_⟩;unfold SetTable.fits SetTable.fill;rw[x.siz,beq_self_eq_true];exact ZD (by rw[<-x.siz];omega)
theorem y_{t:SetTable}{hashAt:Nat->Int}{h:Int}:∀(n f:Nat) (p:Probe),n<f->p.dummy=none->(∀m,m<n->∃i,t.slot (pos t.mask p m).j=.live i/\hashAt i≠h)->
  (t.slot (pos t.mask p n).j=.empty->SetTable.probe.go t hashAt h f p=some (.empty (pos t.mask p n).j none))/\
  (∀i,t.slot (pos t.mask p n).j=.live i->hashAt i=h->SetTable.probe.go t hashAt h f p=some (.candidate (pos t.mask p n).j i (pos t.mask p (n+1))))
 |0,f+1,p,_,b,_=>by
  constructor
  ·intro e;have e:t.slot p.j=.empty:=e;unfold SetTable.probe.go;rw[e,b];rfl
  ·intro i e H;have e:t.slot p.j=.live i:=e;unfold SetTable.probe.go;rw[e];dsimp;rw[if_pos (by lia)];rfl
 |n+1,f+1,p,g,b,c=>by
  obtain⟨i,H,a⟩:=c 0 (Nat.succ_pos n);have H:t.slot p.j=.live i:=H
  have step:SetTable.probe.go t hashAt h (f+1) p=SetTable.probe.go t hashAt h f (mC t.mask p):=by
   conv=>lhs;unfold SetTable.probe.go
   rw[H];dsimp;rw[if_neg λz=>a (ZU z),sO]
  rw[step];exact y_ n _ _ (by omega) (by rw[show(mC _ p).dummy=(pos _ p 1).dummy from rfl,sP];exact b) λm d=>c (m+1) (by omega)
theorem mG{a:List α}{b:List β}(c:a.length=b.length)(p:Nat)(x:α)(y:β){z:α×β}(H:z∈(a.take p++x::a.drop p).zip (b.take p++y::b.drop p)):z=(x,y)\/z∈a.zip b:=by
 rw[List.zip_append (by simp_all),ZV,ZE,Zk]at H;rcases H with h|h|h
 ·rw[List.zip_eq_zipWith,<-List.take_zipWith]at h;exact .inr (List.mem_of_mem_take h)
 ·exact .inl h
 ·rw[List.zip_eq_zipWith,<-List.drop_zipWith]at h;exact .inr (List.mem_of_mem_drop h)
theorem Tk.put{t:SetTable}(x:Tk t hs){h:Int}(d:(pos t.mask (eK t.mask h) n).j∉t.place.toList)(b:∀m,m<n->(pos t.mask (eK t.mask h) m).j∈t.place.toList):
  let r:=t.put (pos t.mask (eK t.mask h) n).j
  r.1.dummies= #[]/\gX r.1.place/\r.1.place.size=hs.length+1/\r.1.mask=t.mask/\r.1.led=t.led/\r.1.plain=t.plain/\r.2=SetTable.below t.place (pos t.mask (eK t.mask h) n).j/\
  ∀z∈(hs.take r.2++h::hs.drop r.2).zip r.1.place.toList,Fd t.mask (· ∈r.1.place.toList) z.1 z.2:=by
 intro r;have f:r.1.place.toList=t.place.toList.take r.2++(pos _ _ n).j::t.place.toList.drop r.2:=SetTable.toList_insertAt _ _ _
 have H:∀y,y∈t.place.toList->y∈r.1.place.toList:=λy g=>by
  rw[<-List.take_append_drop r.2 t.place.toList]at g
  grind
 refine⟨?_,F4 x.ris λi j e=>d (by rw[<-e];simp),?_,rfl,rfl,rfl,rfl,λz a=>?_⟩
 ·show(if SetTable.has _ _ then _ else t.dummies)= #[];rw[x.dum];rfl
 ·show(SetTable.insertAt _ _ _).size=_;rw[<-ZS,(SetTable.insertAt_perm _ _ _).length_eq,ZS,Array.size_push,x.siz]
 ·rw[f]at a;rcases mG (by rw[<-x.siz,ZS]) _ _ _ a with rfl|a
  ·exact⟨n,rfl,λm c=>H _ (b m c)⟩
  ·exact(x.fnd z a).mono H
abbrev dh:=Array (Option Nat)
def mH(o:dh)(j:Nat):Prop:=∃q,o[j]?=some (some q)
theorem F_{o:dh}{j:Nat}(H:j<o.size)(h:(o.getD j (some 0)).isNone=false):mH o j:=by
 have:o.getD j (some 0)=o[j]:=by simp_all
 cases e:o[j]with
 |none=>simp_all
 |some q=>exact⟨q,by simp_all⟩
theorem Ga{o:dh}{j:Nat}(h:(o.getD j (some 0)).isNone=true):o[j]?=some none:=by
 by_cases H:j<o.size
 ·simp_all
 simp_all
theorem za{mask:Nat}{o:dh}(hs:o.size=mask+1):∀(f i p:Nat),i<=mask->
  (∃j n,SetTable.layClean.free mask o f i p=some j/\(pos mask (i0 mask i p) n).j=j/\o[j]?=some none/\∀m,m<n->mH o (pos mask (i0 mask i p) m).j)\/
  (SetTable.layClean.free mask o f i p=none/\∀r,r<f->mH o (cw mask r (i,p)).1)
 |0,i,p,v=>.inr ⟨rfl,λr h=>by omega⟩
 |f+1,i,p,v=>by
  have x:i+(runEnd mask i-i)=runEnd mask i/\runEnd mask i<=mask:=by unfold runEnd;split<;>omega
  have d:runEnd mask i+1-i=(runEnd mask i-i)+1:=by omega
  have O:∀k,k<=runEnd mask i-i->(o.getD (i+k) (some 0)).isNone=false->mH o (pos mask (i0 mask i p) k).j:=λk b h=>by unfold i0;rw[mD k _ i b];exact F_ (j:=i+k) (by omega) h
  unfold SetTable.layClean.free;cases c:(List.range (runEnd mask i+1-i)).find? λk=>(o.getD (i+k) (some 0)).isNone with
  |some k=>
   obtain⟨s,t,u⟩:=List.find?_range_eq_some.mp c;have b:=List.mem_range.mp t;refine .inl ⟨i+k,k,rfl,?_,Ga s,λm g=>O m (by omega) ?_⟩
   ·unfold i0;rw[mD k _ i (by omega)]
   ·have:=u m g;simpa using this
  |none=>
   have H:=List.find?_eq_none.mp c;have o1:∀k,k<=runEnd mask i-i->mH o (pos mask (i0 mask i p) k).j:=λk b=>O k b (by have:=H k (List.mem_range.mpr (by omega));exact Bool.eq_false_iff.mpr this);dsimp only;have w:(leap mask i p).1<=mask:=by show(i*5+1+p/32)%(mask+1)<=mask;have:=Nat.mod_lt (i*5+1+p/32) (show 0<mask+1 by omega);omega
   have a:pos mask (i0 mask i p) (runEnd mask i-i+1)=i0 mask (leap mask i p).1 (leap mask i p).2:=run_next;rcases za hs f (leap mask i p).1 (leap mask i p).2 w with⟨j,n,e,E,l,q⟩| ⟨e,E⟩
   ·refine .inl ⟨j,(runEnd mask i-i+1)+n,e,by rw[ii,a];exact E,l,λm g=>?_⟩;by_cases z:m<=runEnd mask i-i
    ·exact o1 m z
    ·have:=q (m-(runEnd mask i-i+1)) (by omega);rw[<-a,<-ii]at this;rw[show runEnd mask i-i+1+(m-(runEnd mask i-i+1))=m by omega]at this;exact this
   ·refine .inr ⟨e,λr y=>?_⟩;cases r with
    |zero=>exact o1 0 (Z2 _)
    |succ r=>exact E r (by omega)
structure Ow (mask:Nat)(hs:Li)(k:Nat)(ow:dh):Prop where
 sz:ow.size=mask+1
 ok:∀j q:Nat,ow[j]?=some (some q)->q<k/\∃h,hs[q]?=some h/\Fd mask (mH ow) h j
 all:∀q:Nat,q<k->∃j:Nat,ow[j]?=some (some q)
 inj:∀j j' q:Nat,ow[j]?=some (some q)->ow[j']?=some (some q)->j=j'
theorem Ow.hole{k:Nat}{o:dh}(x:Ow mask hs k o)(i:k<=mask):∃e,e<=mask/\o[e]?=some none:=by
 have c:∀q,∃j:Nat,q<k->o[j]?=some _:=λq=>by
  by_cases z:q<k
  ·obtain⟨j,e⟩:=x.all q z;exact⟨j,λ_=>e⟩
  ·exact⟨0,λh=>absurd h z⟩
 obtain⟨e,d,f⟩:=Py.sQ (mask+1) ((List.range k).map _) (by simp;omega);refine⟨e,by omega,?_⟩;have H:e<o.size:=by rw[x.sz];exact d
 rw[Array.getElem?_eq_getElem H];cases g:o[e]with
 |none=>rfl
 |some q=>
  exfalso;have E:o[e]?=some (some q):=by simp_all
  have a:=(x.ok e q E).1;have b:=Classical.choose_spec (c q) a;exact f (Zp.mpr ⟨q,List.mem_range.mpr a,(x.inj _ _ q E b).symm⟩)
theorem Ow.add{k:Nat}(c:ew mask){o:dh}(x:Ow mask hs k o)(A:k<=mask){h:Int}(y:hs[k]?=some h):∃j,SetTable.layClean.free mask o (turns mask) (bits h%(mask+1)) (bits h)=some j/\Ow mask hs (k+1) (o.setIfInBounds j (some k)):=by
 have l:bits h%(mask+1)<=mask:=by have:=Nat.mod_lt (bits h) (show 0<mask+1 by omega);omega
 rcases za x.sz (turns mask) (bits h%(mask+1)) (bits h) l with⟨j,n,d,E,f,p⟩| ⟨d,E⟩
 ·refine⟨j,d,?_⟩
  have g:∀i,(o.setIfInBounds j (some k))[i]?=if j=i then some (some k)else o[i]? :=λi=>by
   grind
  have O:∀i,mH o i->mH (o.setIfInBounds j (some k)) i:=λi ⟨q,b⟩=>by
   unfold mH
   grind
  refine⟨by rw[Array.size_setIfInBounds];exact x.sz,λi q a=>?_,λq b=>?_,λi I q a H=>?_⟩
  ·rw[g]at a;split at a
   ·rename_i z;subst z;cases a;exact⟨Nat.lt_succ_self _,h,y,n,E,λm c=>O _ (p m c)⟩
   ·obtain⟨B,s,u,v⟩:=x.ok i q a;exact⟨by omega,s,u,v.mono O⟩
  ·by_cases z:q=k
   ·subst z;exact⟨j,by rw[g,if_pos rfl]⟩
   ·obtain⟨i,a⟩:=x.all q (by omega)
    grind
  ·rw[g]at a H;split at a
   ·rename_i z;cases a;split at H
    ·rename_i Z;omega
    ·have:=(x.ok I k H).1;omega
   ·split at H
    ·cases H;have:=(x.ok i k a).1;omega
    ·exact x.inj i I q a H
 ·exfalso;obtain⟨e,w,t⟩:=x.hole A;obtain⟨r,C,f⟩:=qf c l (yZ h) w;obtain⟨q,b⟩:=E r (by unfold turns;omega);rw[f,t]at b;cases b
theorem zb{mask:Nat}(b:ew mask){hs:Li}(a:hs.length<=mask):∀(rest d:Li) (ow:dh),hs=d++rest->Ow mask hs d.length ow->
  ∃o,rest.foldl (λacc h=>do
   let(owner,k) <-acc
   let j <-SetTable.layClean.free mask owner (turns mask) (bits h%(mask+1)) (bits h)
   pure (owner.setIfInBounds j (some k),k+1)) (some (ow,d.length))=some (o,hs.length)/\Ow mask hs hs.length o
 | [],d,ow,e,x=>by simp_all
 |h::rest,d,ow,e,x=>by
  have H:d.length<=mask:=by rw[e,Zo]at a;omega
  obtain⟨j,E,y⟩:=x.add b H (h:=h) (by simp_all);have:=zb b a rest (d++[h]) _ (by simp_all) (by rw[Zo];exact y);simp_all
theorem Gb(c:ew mask)(b:hs.length<=mask):∃ow,SetTable.layClean mask hs.toArray=some ow/\Ow mask hs hs.length ow:=by
 have H:∀j q:Nat,(Array.replicate (mask+1) none)[j]?=some (some q)->False:=λj q h=>by
  grind
 have a:Ow mask hs ([]:Li).length _:=⟨by simp,λj q h=>(H j q h).elim,λq h=>by simp_all,λj J q h=>(H j q h).elim⟩;obtain⟨ow,e,x⟩:=zb c b _ _ _ rfl a;unfold SetTable.layClean;simp_all
theorem zc{mask:Nat}{P:Nat->Prop}{hs:Li}:∀(live:List (Nat×Nat)),(∀x∈live,∃h,hs[x.2]?=some h/\Fd mask P h x.1)->∀z∈(((live.map (·.2)).filterMap (hs[·]?)).zip (live.map (·.1))),Fd mask P z.1 z.2
 | [],_,z,H=>by cases H
 |x::live,a,z,H=>by
  obtain⟨h,e,f⟩:=a x Ze;rw[List.map_cons,List.filterMap_cons_some e]at H;rcases Zk.mp H with rfl|H
  ·exact f
  ·exact zc _ (λy b=>a y (Zc _ b)) z H
theorem Gd{t:SetTable}(r:ew (SetTable.sizeAbove wanted-1))(C:hs.length*5<(SetTable.sizeAbove wanted-1)*3):
  ∃t' o,t.relaid hs.toArray wanted=some (t',o)/\o.toList.Perm (List.range hs.length)/\t'.led=t.led/\t'.plain=t.plain/\Tk t' (o.toList.filterMap (hs[·]?)):=by
 generalize f:SetTable.sizeAbove wanted-1=mask at r C;obtain⟨O,e,x⟩:=Gb r (hs:=hs) (by omega)
 have H:∀y∈((List.range (mask+1)).filterMap λj=>(O.getD j none).map (j, ·)),O[y.1]?=some (some y.2):=λy l=>by
  obtain⟨j,d,E⟩:=ZP.mp l;have d:j<O.size:=by rw[x.sz];exact List.mem_range.mp d
  have n:O.getD j none=O[j]:=by simp[Array.getD,d]
  rw[n]at E;cases p:O[j]with
  |none=>rw[p]at E;cases E
  |some q=>
   grind
 have c:∀j q:Nat,O[j]?=some (some q)->(j,q)∈((List.range (mask+1)).filterMap λj=>(O.getD j none).map (j, ·)):=λj q h=>by
  obtain⟨d,p⟩:=Array.getElem?_eq_some_iff.mp h;refine ZP.mpr ⟨j,List.mem_range.mpr (by rw[<-x.sz];exact d),?_⟩;have n:O.getD j none=O[j]:=by simp[Array.getD,d]
  rw[n,p];rfl
 have k:=sN (λj=>O.getD j none) (List.range (mask+1));have i:t.relaid hs.toArray wanted=some ({mask:=mask,place:=((((List.range (mask+1)).filterMap λj=>(O.getD j none).map (j, ·)).map (·.1)).toArray),dummies:= #[],finger:=t.finger,led:=t.led,moves:=t.movedTo mask,plain:=t.plain},(((List.range (mask+1)).filterMap λj=>(O.getD j none).map (j, ·)).map (·.2)).toArray):=by unfold SetTable.relaid SetTable.laid;rw[f,e];rfl
 rw[i];generalize((List.range (mask+1)).filterMap λj=>(O.getD j none).map (j, ·))=live at*;have g:=List.pairwise_lt_range.sublist k
 have P:(live.map (·.2)).Perm (List.range hs.length):=by
  refine(List.perm_ext_iff_of_nodup ?_ List.nodup_range).mpr λq=>?_
  ·rw[List.pairwise_map]at g;unfold List.Nodup;rw[List.pairwise_map];refine g.imp_of_mem λ{a b} v A w z=>?_;have m:=H b A;rw[<-z]at m;have:=x.inj _ _ _ (H a v) m;omega
  ·rw[List.mem_range,Zp];constructor
   ·rintro⟨y,l,rfl⟩;exact(x.ok _ _ (H y l)).1
   ·intro s;obtain⟨j,d⟩:=x.all q s;exact⟨(j,q),c j q d,rfl⟩
 have G:live.length=hs.length:=by have:=P.length_eq;simpa using this
 have B:((live.map (·.2)).filterMap (hs[·]?)).length=hs.length:=by rw[(P.filterMap (hs[·]?)).length_eq];have:=filterMap_getElem?_range hs.toArray;simpa using congrArg List.length this
 refine⟨_,_,rfl,P,rfl,rfl,rfl,F5 g,?_,r,?_,zc live λy l=>?_⟩
 ·rw[B];simpa using G
 ·unfold SetTable.tooFull SetTable.fill;refine Zx ?_;simp;omega
 ·obtain⟨_,h,u,m⟩:=x.ok _ _ (H y l);exact⟨h,u,m.mono λj ⟨q,s⟩=>Zp.mpr ⟨(j,q),c j q s,rfl⟩⟩
end Py
variable {ow:Py.dh}
namespace Py
noncomputable def ij(w:World):Bool:=w.params.followText "set-order"
theorem Ge(v:Value)(fin:R (.ref s.heap.objs.size) {s with heap:=s.heap.push (bD (!ij w))}):codeAny (model prog w) A (.call (.builtin "set.__new__") ⟨[.type "set",v],[]⟩) (wants R E) s:=by
 refine codeAny_of_tree (Za (m:=checkBuiltinCall "set.__new__" ⟨[.type "set",v],[]⟩) (wpAny_of_eq (F.newCall_set_1 v) (Zd ⟨plainId_quiet F.plain_set_new _,codeAny_builtin F.entry_set_new ?_⟩)));rw[Around.under_plainId F.plain_set_new _];have S:=sub_set_self;unfold Builtin.«set.__new__» Builtin.Frozenset.newClass;cases s;dsimp only
 wp_walk
 exact wpAny_askSetting (Zd (Za (wpAny_alloc (Zd (Zd fin)))))
open SetTable (Probe turns)
abbrev cI(prog:Program)(w:World)(h:Heap)(k:Li)(a:Addr):Prop:=IsTupleKey (intKind prog w) h k a
abbrev hK(prog:Program)(w:World)(k:Li):Int:=tupleKeyHash (intKind prog w) k
theorem cI.kept{k:Li}(x:cI prog w h k a)(K:∀o,h.get? a=some o->h'.get? a=some o):cI prog w h' k a:=by obtain⟨o,items,n,g,r⟩:=x;exact⟨o,_,n,K o g,r⟩
theorem zd{k:Li}{vs:Lv}(h:ItemsAre (intKind prog w) k vs):∀v∈vs,∃i t,v=.int i t:=by
 induction h with
 |nil=>simp_all
 |cons a _ I=>
  intro v H;rcases Zk.mp H with rfl|H
  ·obtain⟨t,b⟩:=Value.isInt_shape a;simp_all
  simp_all
theorem ze{k:Li}{Q:Bool->Shared->Prop}(x:cI prog w s.heap k a)(q:Q false s):wpAny (model prog w) A (ofAClassStatement 8 (.ref a)) Q E s:=by
 have c:=x.typeIs;obtain⟨o,items,n,f,_,d,e⟩:=x;have h:=zd e;unfold ofAClassStatement;refine Za (wpAny_typeOf c ?_);refine Za (Zd ?_);refine Za (wpAny_seqItems f d ?_);refine Za ?_;rw[<-Array.forIn_toList];refine wpAny_forIn_list _ (λR r S=>r.1=none/\S=s/\∀v∈R,∃i t,v=Value.int i t) _ ?_ ?_ _ _ ⟨rfl,rfl,h⟩
 ·rintro v R r S ⟨H,rfl,b⟩;obtain⟨i,t,rfl⟩:=b v Ze;exact Zd ⟨rfl,rfl,λu g=>b u (Zc _ g)⟩
 ·rintro⟨j,l⟩ S ⟨H,rfl,_⟩;subst H;exact Zd q
theorem zf{k:Li}{Q:Bool->Shared->Prop}(x:cI prog w s.heap k a)(q:Q true s):wpAny (model prog w) A (hashByValue 8 (.ref a)) Q E s:=by
 have c:=x.typeIs;obtain⟨o,items,n,f,_,d,e⟩:=x;have h:=zd e;refine Za (wpAny_specialOf c F.slot_tuple_hash.lookup ?_);refine Za (wpAny_seqItems f d ?_);refine Za ?_;rw[<-Array.forIn_toList];refine wpAny_forIn_list _ (λR r S=>r.1=none/\S=s/\∀v∈R,∃i t,v=Value.int i t) _ ?_ ?_ _ _ ⟨rfl,rfl,h⟩
 ·rintro v R r S ⟨H,rfl,b⟩;obtain⟨i,t,rfl⟩:=b v Ze;exact Zd ⟨rfl,rfl,λu g=>b u (Zc _ g)⟩
 ·rintro⟨j,l⟩ S ⟨H,rfl,_⟩;subst H;exact Zd q
theorem sR{k:Li}{b:Addr}(x:cI prog w s.heap k b)(l:Lv){Q:Bool->Shared->Prop}(e:∀v∈l,∃K a,v=.ref a/\cI prog w s.heap K a)(q:Q false s):wpAny (model prog w) A (searchCouldBeSeen (.ref b) l) Q E s:=by
 refine Za ?_;refine wpAny_forIn_list _ (λR r S=>r.1=none/\S=s/\∀v∈R,v∈l) _ ?_ ?_ _ _ ⟨rfl,rfl,λ_ h=>h⟩
 ·rintro v R r S ⟨c,rfl,d⟩;obtain⟨K,a,rfl,y⟩:=e v (d v Ze);have g:=λu f=>d u (Zc _ f);by_cases H:(b==a||carriedByValue (.ref b)&&carriedByValue (.ref a))=true
  ·rw[if_pos H];exact Zd ⟨rfl,rfl,g⟩
  ·rw[if_neg H];refine Za (wpAny_eqIsQuiet_tuple x ?_);refine Za (wpAny_eqIsQuiet_tuple y ?_);refine Za (ze x ?_);refine Za (ze y ?_);exact Zd ⟨rfl,rfl,g⟩
 ·rintro⟨i,j⟩ S ⟨c,rfl,_⟩;subst c;exact Zd q
end Py
namespace Py
open SetTable (Probe turns)
theorem zg{t:SetTable}(f:gX t.place){hashAt:Nat->Int}{h:Int}{p:Nat->Probe}{n:Nat}(b:∀m,m<n->(p m).j∈t.place.toList):∀(d m:Nat),n-m=d->m<=n->
  ∃M,m<=M/\M<=n/\(∀i,m<=i->i<M->∃q,t.slot (p i).j=.live q/\hashAt q≠h)/\(M=n\/∃q,t.slot (p M).j=.live q/\hashAt q=h)
 |0,m,e,a=>⟨m,Zf _,a,λi c H=>by omega,.inl (by omega)⟩
 |d+1,m,e,a=>by
  obtain⟨q,_,_,l⟩:=y8 f (b m (by omega));by_cases z:hashAt q=h
  ·exact⟨m,Zf _,a,λi c H=>by omega,.inr ⟨q,l,z⟩⟩
  ·obtain⟨M,c,H,o,g⟩:=zg f b d (m+1) (by omega) (by omega);refine⟨_,by omega,H,λi j k=>?_,g⟩
   grind
noncomputable def bc(prog:Program)(w:World)(c:Li×Addr):Int×Value:=(hK prog w c.1,.ref c.2)
theorem mI:∀m∈[7,31,127],(m%2==0)=false:=by decide
theorem Gf{b:Addr}{cs:List (Li×Addr)}{t:SetTable}(g:s.heap.get? a=some o)(d:o.data=.set (cs.map (bc prog w)).toArray ep t)(x:Tk t (cs.map λc=>hK prog w c.1))(key:∀c∈cs,cI prog w s.heap c.1 c.2)
  {k:Li} (hx:cI prog w s.heap k b) (hu:A.units<cLine)  (hn:n<10*turns t.mask) (D:(pos t.mask (eK t.mask (hK prog w k)) n).j∉t.place.toList) (O:∀m,m<n->(pos t.mask (eK t.mask (hK prog w k)) m).j∈t.place.toList)
  {Q:SetFound->Shared->Prop} (T:k∈cs.map (·.1)->Q (.there none) s) (F:k∉cs.map (·.1)->Q (.free (pos t.mask (eK t.mask (hK prog w k)) n).j false) s):
  ∀(f m:Nat) (st:Option Probe),n-m<f->m<=n->st.getD (t.probeStart (hK prog w k))=pos t.mask (eK t.mask (hK prog w k)) m->(∀i,i<m->∀(q:Nat) (c),t.slot (pos t.mask (eK t.mask (hK prog w k)) i).j=.live q->cs[q]?=some c->c.1≠k)->
   wpAny (model prog w) A (setSearchFrom a (.ref b) (hK prog w k) true f st) Q E s:=by
 have hsz:(cs.map (bc prog w)).toArray.size=(cs.map λc=>hK prog w c.1).length:=by simp
 have P:t.fits (cs.map (bc prog w)).toArray.size=true:=by rw[hsz];exact x.fits.2
 have hpl:t.place.size=cs.length:=by rw[x.siz,Zm]
 have X:∀q:Nat,(cs.map (bc prog w)).toArray[q]?=cs[q]?.map (bc prog w):=λq=>by simp
 generalize hP:(λm=>pos t.mask (eK t.mask (hK prog w k)) m)=p;have H:∀m,pos t.mask (eK t.mask (hK prog w k)) m=p m:=λm=>congrFun hP m;intro f
 induction f with
 |zero=>intro m st h;omega
 |succ f ih=>
  intro m st hf hm hst Y;obtain⟨M,h1,h2,h3,h4⟩:=zg (hashAt:=λi=>(((cs.map (bc prog w)).toArray[i]?).map (·.1)).getD 0) (h:=hK prog w k) x.ris (p:=p) (n:=n) (λm hm=>by rw[<-H];exact O m hm) (n-m) m rfl hm;have K:∀i,pos t.mask (p m) i=p (m+i):=λi=>by rw[<-H,<-H,ii]
  obtain⟨g1,g2⟩:=y_ (t:=t) (hashAt:=λi=>(((cs.map (bc prog w)).toArray[i]?).map (·.1)).getD 0) (h:=hK prog w k) (M-m) (10*turns t.mask) (p m) (by omega) (by rw[<-H,sP];rfl) (λi hi=>by rw[K];exact h3 (m+i) (by omega) (by omega));rw[K,show m+(M-m)=M by omega]at g1 g2;rw[K,show m+(M-m+1)=M+1 by omega]at g2;have U:∀(q:Nat) (c),cs[q]?=some c->(((cs.map (bc prog w)).toArray[q]?).map (·.1)).getD 0=hK prog w c.1:=λq c e=>by rw[X,e];rfl
  unfold setSearchFrom;refine Za (wpAny_setState_of g d P ?_);dsimp only;refine wpAny_ite ?_;rw[if_neg (by unfold SetTable.gaveWay;rw[mI _ x.msk];decide),hst,H];generalize hz:t.probe _ _ _=met;rcases h4 with rfl| ⟨q,I,hh⟩
  ·have V:t.slot (p M).j=.empty:=y9 x.dum (by rw[<-H];exact D);have e:met=some (.empty (p M).j none):=hz.symm.trans (g1 V);subst e;dsimp only;rw[H]at F;refine Zd (F λL=>?_);obtain⟨c,hc,rfl⟩:=Zp.mp L;obtain⟨q,I,e⟩:=ZK.mp hc;have hqp:q<t.place.size:=by omega
   have j:=y0 x.ris hqp;have l:cs[q]?=some c:=by rw[Zj I,e]
   obtain⟨N,e0,f0⟩:=x.fnd (hK prog w c.1,t.place[q]) (by refine ZK.mpr ⟨q,by simp;omega,?_⟩;simp[e]);have e0:(p N).j=t.place[q]:=by rw[<-H];exact e0
   have hin:(p N).j∈t.place.toList:=by rw[e0];simp
   have hlt:N<M:=by
    by_cases z:N<M
    ·exact z
    ·by_cases zz:N=M
     ·subst zz;exact absurd (by rw[H];exact hin) D
     ·exact absurd (f0 M (by omega)) D
   rw[<-e0]at j;by_cases zz:N<m
   ·exact Y N zz q c (by rw[H];exact j) l rfl
   ·obtain⟨q',Z,C⟩:=h3 N (by omega) hlt;rw[j]at Z;cases Z;exact C (U q c l)
  ·have e:met=some (.candidate (p M).j q (p (M+1))):=hz.symm.trans (g2 q I hh);subst e;dsimp only
   have hmn:M<n:=by
    by_cases z:M=n
    ·subst z;rw[y9 x.dum (by rw[<-H];exact D)]at I;cases I
    ·omega
   obtain⟨q',hq1,hq2,hq3⟩:=y8 x.ris (O M hmn);rw[H,I]at hq3;cases hq3;have hqc:q<cs.length:=by omega
   obtain⟨c,l⟩:∃c,cs[q]?=some c:=⟨_,Zj hqc⟩;have G:=Zu l;have hy:=key c G;have W:(cs.map (bc prog w)).toArray[q]?=some (hK prog w c.1,.ref c.2):=by rw[X,l];rfl
   have R:wpAny (model prog w) A (do
     let some (_,y):=(cs.map (bc prog w)).toArray[q]? |unsupported "internal:set-entry"
     let u <-holding [y] (eqBool y (.ref b))
     let(es',_,t') <-setState a
     if true&&u then return SetFound.there none
     let some same:=t'.sameMemory t.moves t.mask|unsupported "set.changed-during-lookup:is-the-new-block-at-the-old-address"
     let S <-match(if same then t'.slot (p M).j else .empty)with
      | .live i'=>match es'[i']? with
       |some (_,y')=>do pure (if <-isSame y' y then some i' else none)
       |none=>pure none
      |_=>pure none
     match S with
     |none=>rule "set.search.anew";setSearchFrom a (.ref b) (hK prog w k) true f none
     |some i'=>if u then return .there (some i')else setSearchFrom a (.ref b) (hK prog w k) true f (some (p (M+1)))) Q E s:=by
    rw[W];dsimp only;refine Za (ZL (wpAny_eqBool_tuple hu hy hx ?_));refine Za (wpAny_setState_of g d P ?_);dsimp only;by_cases L:c.1=k
    ·rw[ZD L];exact Zd (T (Zp.mpr ⟨c,G,L⟩))
    ·rw[Zx L];have hsm:t.sameMemory t.moves t.mask=some true:=by unfold SetTable.sameMemory;rw[if_pos (beq_self_eq_true _)]
     rw[hsm];dsimp only;simp only[Bool.and_false,Zr,ZR,if_true];rw[I];dsimp only;rw[W];dsimp only;refine Za (wpAny_isSame_ref_self (Za (Zd ?_)));rw[if_pos rfl];dsimp only;refine ih (M+1) (some (p (M+1))) (by omega) (by omega) (by rw[H];rfl) λi hi q' c' B r=>?_;rw[H]at B;by_cases z:i<m
     ·exact Y i z q' c' (by rw[H];exact B) r
     ·by_cases zz:i=M
      ·subst zz;rw[I]at B;cases B;rw[l]at r;cases r;exact L
      ·obtain⟨q2,J,C⟩:=h3 i (by omega) (by omega);rw[B]at J;cases J;rw[U _ _ r]at C;exact λe=>C (by rw[e])
   by_cases hl:t.led=true
   ·rw[hl];exact R
   ·rw[Bool.eq_false_iff.mpr hl];refine wpAny_ite ?_;rw[if_pos (by decide)];refine Za (sR hx _ (λv hv=>?_) ?_)
    ·obtain⟨e,he,rfl⟩:=Zp.mp hv;have he2:=(Array.mem_filter.mp (Array.mem_toList_iff.mp he)).1;have he3:e∈cs.map (bc prog w):=by simpa using he2
     obtain⟨c2,r,rfl⟩:=Zp.mp he3;exact⟨c2.1,c2.2,rfl,key c2 r⟩
    ·exact R
end Py
namespace Py
open SetTable (Probe turns)
def Gg(prog:Program)(w:World)(h:Heap)(a:Addr)(cs:List (Li×Addr)):Prop:=∃o ep t,h.get? a=some o/\o.ExactSet/\o.data=.set (cs.map (bc prog w)).toArray ep t/\t.led=(!ij w)/\t.plain=true/\Tk t (cs.map λc=>hK prog w c.1)
structure dj (prog:Program)(w:World)(h:Heap)(a:Addr)(cs:List (Li×Addr)):Prop where
 obj:Gg prog w h a cs
 key:∀c∈cs,cI prog w h c.1 c.2
 nod:(cs.map (·.1)).Nodup
theorem dj.kept{cs:List (Li×Addr)}(x:dj prog w h a cs)(k:∀b o,h.get? b=some o->(b=a\/∃c∈cs,b=c.2)->h'.get? b=some o):dj prog w h' a cs:=by obtain⟨⟨o,E,t,g,r⟩,y,z⟩:=x;exact⟨⟨o,_,t,k a o g (.inl rfl),r⟩,λc H=>(y c H).kept λo e=>k _ o e (.inr ⟨c,H,rfl⟩),z⟩
theorem zh{es es':Array (Int×Value)}{t t':SetTable}(g:h.get? a=some o)(E:o.ExactSet)(d:o.data=.set es ep t):
  ∃o',(h.update a (Obj.putSet es' t')).get? a=some o'/\o'.ExactSet/\o'.data=.set es' (ep+1) t':=by
 have e:(h.update a (Obj.putSet _ t')).get? a=some _:=Heap.get?_update_self _ g (by rw[putSet_of es' _ d];rfl);rw[putSet_of _ _ d]at e;exact⟨_,e,E,rfl⟩
theorem mJ{cs:List (Li×Addr)}{t:SetTable}{Q:Unit->Shared->Prop}(g:s.heap.get? a=some o)(n:o.ExactSet)(d:o.data=.set (cs.map (bc prog w)).toArray ep t)(F:t.fits cs.length=true)
  (u:ew (SetTable.sizeAbove wanted-1)) (r:cs.length*5<(SetTable.sizeAbove wanted-1)*3) (hw:SetTable.sizeAbove wanted<=128) (l:t.led=(!ij w)) (pl:t.plain=true)
  (fin:∀h' C,Heap.SameBut a s.heap h'->C.Perm cs->Gg prog w h' a C->Q () {s with heap:=h'}):wpAny (model prog w) A (setRelay a wanted) Q E s:=by
 have f:t.fits (cs.map (bc prog w)).toArray.size=true:=by rw[Zs,Zm];exact F
 obtain⟨T,O,b,P,i,j,x⟩:=Gd (t:=t) (hs:=cs.map λc=>hK prog w c.1) (wanted:=wanted) u (by rw[Zm];exact r);rw[Zm]at P;have p:(O.toList.filterMap (cs[·]?)).Perm cs:=by refine(P.filterMap _).trans (.of_eq ?_);have:=filterMap_getElem?_range cs.toArray;simpa using this
 have X:Tk T ((O.toList.filterMap (cs[·]?)).map λc=>hK prog w c.1):=by
  grind
 have k:O.filterMap ((cs.map (bc prog w)).toArray[·]?)=((O.toList.filterMap (cs[·]?)).map (bc prog w)).toArray:=by apply Array.ext';rw[Array.toList_filterMap,List.map_filterMap];simp_all
 have q:(cs.map (bc prog w)).toArray.map (·.1)=(cs.map λc=>hK prog w c.1).toArray:=by rw[List.map_toArray,List.map_map];rfl
 unfold setRelay;refine Za (wpAny_setState_of g d f ?_);dsimp only;refine wpAny_ite ?_;rw[if_neg (by rw[sizeLine_eq];omega),q,b];refine Za ?_;show wpAny _ _ (if((O.filterMap ((cs.map (bc prog w)).toArray[·]?)).size !=(cs.map (bc prog w)).toArray.size)=true then _ else _) _ _ _;rw[k];generalize O.toList.filterMap (cs[·]?)=C at p X
 have h:(C.map (bc prog w)).toArray.size=(cs.map (bc prog w)).toArray.size:=by rw[Zs,Zs,Zm,Zm,p.length_eq]
 rw[h,bne_self_eq_false,if_neg (by decide)];refine Zd (wpAny_storeSet_of g d ?_ ?_)
 ·obtain⟨o1,G,e,d1⟩:=zh (es':=(C.map (bc prog w)).toArray) (t':=T) g n d;exact fin _ C (Z5 ..) p ⟨o1,_,T,G,e,d1,i.trans l,j.trans pl,X⟩
 ·refine fits_of_scanBound ?_;rw[Zs,Zm,p.length_eq];unfold scanBound
  grind
theorem zi{b:Addr}{cs:List (Li×Addr)}{k:Li}{Q:Bool->Shared->Prop}(x:dj prog w s.heap a cs)(hx:cI prog w s.heap k b)(hu:A.units<cLine)(few:cs.length<76)
  (fin:∀h' C r,Heap.SameBut a s.heap h'->dj prog w h' a C->(∀K,K∈C.map (·.1)↔K∈cs.map (·.1)\/K=k)->(∀c∈C,c∈cs\/c=(k,b))->C.length<=cs.length+1->Q r {s with heap:=h'}):
  wpAny (model prog w) A (setAddHashed a (.ref b) (hK prog w k)) Q E s:=by
 obtain⟨o,ep,t,g,ex,d,M,X,T⟩:=x.obj;have N:∀{K:Li} {Z:Addr},cI prog w s.heap K Z->Z≠a:=λ{K Z} y e=>by obtain⟨o',_,_,g',_,d',_⟩:=y;subst e;rw[g]at g';cases g';rw[d]at d';cases d'
 have F:t.fits (cs.map (bc prog w)).toArray.size=true:=by have:=T.fits.2;rw[Zm]at this;rw[Zs,Zm];exact this
 have hsz:t.place.size=cs.length:=by rw[T.siz,Zm]
 obtain⟨n,hn,J,B⟩:=F8 T.msk (pl:=t.place.toList) (by rw[ZS];exact T.fits.1) (hK prog w k);have hmsk:=(by simpa[ew]using T.msk:t.mask=7\/t.mask=31\/t.mask=127);unfold setAddHashed setAddHashedIn;refine ZL (Za (wpAny_setState_of g d F ?_));dsimp only;refine wpAny_ite ?_;rw[if_neg (show ¬byScan (.ref b) (cs.map (bc prog w)).toArray=true by unfold byScan;rw[show(Value.ref b).scannable=false from rfl];simp)];unfold setSearch;refine Za (Gf g d T x.key hx hu hn J B (λhin=>?_) (λL=>?_) 100000 0 none (by unfold turns at hn;omega) (Z2 _) rfl (λi hi=>by omega))
 ·exact Zd (fin s.heap cs false (Heap.SameBut.refl ..) x (λK=>⟨.inl,λz=>z.elim id λe=>e▸hin⟩) (λc l=>.inl l) (Nat.le_succ _))
 ·dsimp only;refine Za (wpAny_setState_of g d F ?_);dsimp only;obtain⟨p1,p2,O,R,p5,V,p7,W⟩:=T.put J B;generalize(pos t.mask (eK t.mask (hK prog w k)) n).j=j at*;rw[Zm]at O;refine wpAny_ite ?_;rw[if_pos (show(t.put j).1.plain=true from V.trans X)];refine Za (zf hx ?_);simp only[if_true];generalize hput:t.put j=r at*;obtain⟨u,p⟩:=r;dsimp only at p1 p2 O R p5 V p7 W⊢;have hes:SetTable.insertAt (cs.map (bc prog w)).toArray p (hK prog w k,Value.ref b)=((cs.take p++(k,b)::cs.drop p).map (bc prog w)).toArray:=by apply Array.ext';rw[SetTable.toList_insertAt,List.map_append,List.map_cons,List.map_take,List.map_drop];rfl
  have hhs:(cs.take p++(k,b)::cs.drop p).map (λc=>hK prog w c.1)=(cs.map λc=>hK prog w c.1).take p++hK prog w k::(cs.map λc=>hK prog w c.1).drop p:=by rw[List.map_append,List.map_cons,List.map_take,List.map_drop]
  rw[<-hhs]at W;rw[hes];have pm:(cs.take p++(k,b)::cs.drop p).Perm ((k,b)::cs):=by refine List.perm_middle.trans (.cons _ (.of_eq (List.take_append_drop p cs)))
  generalize cs.take p++(k,b)::cs.drop p=f at W pm⊢;have H:f.length=cs.length+1:=by rw[pm.length_eq,ZG]
  have tQ:(f.map (bc prog w)).toArray.size<scanBound:=by rw[Zs,Zm];unfold scanBound;omega
  have G:(cs.map (bc prog w)).toArray.size=cs.length:=by simp
  refine Za (wpAny_storeSet_of g d ?_ (fits_of_scanBound tQ));obtain⟨o1,g1,v,d1⟩:=zh (es':=(f.map (bc prog w)).toArray) (t':=u) g ex d;have S:=Z5 s.heap a (Obj.putSet (f.map (bc prog w)).toArray u)
  have D:∀h' C,Heap.SameBut a s.heap h'->C.Perm f->Gg prog w h' a C->Q true {s with heap:=h'}:=λh' C Y q ob=>by
   have P:=q.trans pm
   have pk:∀c∈C,c∈cs\/c=(k,b):=λc l=>by
    rcases Zk.mp (P.mem_iff.mp l)with e|e
    ·exact .inr e
    ·exact .inl e
   refine fin h' C true Y ⟨ob,λc l=>?_,?_⟩ (λK=>?_) pk (by rw[P.length_eq];exact Zf _)
   ·have y:cI prog w s.heap c.1 c.2:=by
     rcases pk c l with e|e
     ·exact x.key c e
     ·rw[e];exact hx
    exact y.kept λo e=>by rw[Y.2 c.2 (N y)];exact e
   ·refine((P.map (·.1)).nodup_iff).mpr ?_;rw[List.map_cons,List.nodup_cons];exact⟨L,x.nod⟩
   ·rw[(P.map (·.1)).mem_iff,List.map_cons,Zk];exact Or.comm
  have h:u.fill=cs.length+1:=by unfold SetTable.fill;rw[O,p1];rfl
  cases U:u.tooFull with
  |false=>rw[if_neg (by decide)];refine Zd (D _ f S (.refl _) ⟨o1,_,u,g1,v,d1,p5.trans M,V.trans X,p1,p2,by rw[Zm,O,H],by rw[R];exact T.msk,U,by rw[R];exact W⟩)
  |true=>
   rw[if_pos (by decide),G];refine Za ?_;have hfull:(cs.length+1)*5>=t.mask*3:=by unfold SetTable.tooFull at U;rw[h,R]at U;exact ZT U
   have hnot:¬(cs.length*5>=t.mask*3):=by have:=T.ful;unfold SetTable.tooFull SetTable.fill at this;rw[T.dum,hsz]at this;exact of_decide_eq_false this
   have I:u.fits f.length=true:=by
    unfold SetTable.fits;rw[h,O,H,R];have:cs.length+1<=t.mask:=by omega
    simp[this]
   have l:cs.length+1=5\/cs.length+1=19:=by omega
   refine mJ (s:={s with heap:=s.heap.update a (Obj.putSet (f.map (bc prog w)).toArray u)}) (cs:=f) g1 v d1 I ?_ ?_ ?_ (p5.trans M) (V.trans X) λh' C Y q ob=>Zd (D h' C (S.trans Y) q ob)
   ·rcases l with e|e<;>rw[e]<;>(unfold ew;decide+kernel)
   ·rw[H];rcases l with e|e<;>rw[e]<;>decide+kernel
   ·rcases l with e|e<;>rw[e]<;>decide+kernel
end Py
namespace Py
section
variable {R:Result->Shared->Prop}{P:Nat->Value->Prop}{St:Nat->Heap->Prop}
end
section
variable {R:Result->Shared->Prop}{P:Nat->Value->Prop}{St:Nat->Heap->Prop}
end
structure zj (prog:Program)(w:World)(A:Around)(s:Shared)(vs:Av)(led:Bool)(Post:Heap->Prop):Prop where
 go:∀{I:Addr} {fp wr:La} {St:Nat->Heap->Prop} {R:Result->Shared->Prop} (s':Shared),Walks prog w A.in1.in1.in1 I fp wr vs.size (λi v=>vs[i]?=some v) St->s.heap.objs.size∉fp->St 0 s'.heap->(∀b o,(s.heap.push (bD led)).get? b=some o->s'.heap.get? b=some o)->(∀b∈wr,s.heap.objs.size<b)->
   (∀h' tk,(∀b o,b∉wr->b≠s.heap.objs.size->s'.heap.get? b=some o->h'.get? b=some o)->Post h'->R (.ok (.ret .none)) {s' with heap:=h',toks:=tk})->codeAny (model prog w) A.in1.in1 (.builtin "set.update.loop" ⟨[.ref s.heap.objs.size,.ref I],[]⟩) R s'
theorem Gh{t:Addr}{vs:Av}{P:Heap->Prop}(hh:A.handled=none)(B:s.heap.IsList t vs\/s.heap.IsTuple t vs)
  (L:zj prog w A s vs (!ij w) P)
  (h:∀(h':Heap) (tk:Nat),P h'->(∀b o,b<s.heap.objs.size->s.heap.get? b=some o->h'.get? b=some o)->Q (.ref s.heap.objs.size) {s with heap:=h',toks:=tk}):wpAny (model prog w) A (call (.type "set") [.ref t]) Q E s:=by
 obtain⟨c,tl,Z⟩:=F.called_set.mro;have U:=F.called_set.made;have hsub:=F.called_set.sub;refine wpAny_call (codeAny_of_tree ?_);show wpAny _ _ (callAny (.type "set") _) _ _ _;refine Zd ⟨Code.quiet_builtin _ (by decide+kernel),codeAny_builtin F.entry_type_call ?_⟩;rw[Around.under_plain (weight_type_call_type "set" [.ref t] []) rfl];have g1:=F.called_set.notType;have g2:=F.called_set.canCreate;have g3:=F.typeCall_set_1 (.ref t)
 repeat(any_goals (first|assumption|wp_step))
 refine codeAny_mono (Ge (.ref t) (E:=E) (R:=λobj S=>obj=.ref s.heap.objs.size/\S={s with heap:=s.heap.push (bD (!ij w))}) ⟨rfl,rfl⟩) λr S V=>?_;cases r with
 |error e=>exact V
 |ok fl=>
  cases fl with
  |ret obj=>
   obtain⟨rfl,rfl⟩:=V;generalize(!ij w)=l at L⊢;have hS:(s.heap.push (bD l)).get? s.heap.objs.size=some (bD l):=Zh _ rfl;have hT:Shared.TypeIs {s with heap:=s.heap.push (bD l)} (.ref s.heap.objs.size) "set":=⟨_,hS,rfl⟩;have hli:=F.called_set.init.lookup;have hbi:=F.called_set.init.bind (.ref s.heap.objs.size)
   repeat(any_goals (first|assumption|wp_step))
   refine codeAny_mono (codeAny_call_builtin (R:=wants (λr q=>r=.none/\∃h' tk,q={s with heap:=h',toks:=tk}/\P h'/\
     (∀b o,b<s.heap.objs.size->s.heap.get? b=some o->h'.get? b=some o)) E) F.called_set.init.plain F.entry_set_init (check_set_init_1 hT ?_)) λJ q H=>?_
   ·have D:A.in1.in1.in1.handled=none:=by simp[hh]
    have W:(s.heap.push (bD l)).objs.size=s.heap.objs.size+1:=Heap.size_push ..;have G:t<s.heap.objs.size:=by rcases B with⟨_,d,_⟩| ⟨_,d,_⟩<;>exact Zi d
    have n:t≠(s.heap.push (bD l)).objs.size:=by rw[W];exact Zt (Nat.lt_succ_of_lt G)
    have C:s.heap.objs.size∉[(s.heap.push (bD l)).objs.size,t]:=by rw[W];simp only[Zk,Zv,or_false,not_or];exact⟨Zt (Nat.lt_succ_self _),Nat.ne_of_gt G⟩
    have x:∀b∈[(s.heap.push (bD l)).objs.size],s.heap.objs.size<b:=λb m=>by rw[W,List.mem_singleton]at m;rw[m];exact Nat.lt_succ_self _
    have p:∀b,b<s.heap.objs.size->b∉[(s.heap.push (bD l)).objs.size]:=λb m z=>by have:=x b z;omega
    rcases B with B|B
    ·obtain⟨⟨I,a,y,O⟩,d,f,nl,g⟩:=B;simp only at f g;subst f;subst g;have k:(s.heap.push (bD l)).get? t=some {cls:=.type "list",dict:=a,data:=.seq vs nl,slots:=O}:=Zb _ d;have q1:=F.sub_list_set;have q2:=F.sub_list_frozenset;have q3:(Value.type "list"==Value.type "dict")=false:=by decide
     have j:(s.heap.push (bD l)).IsList t vs:=⟨_,k,rfl,nl,rfl⟩;unfold Builtin.«set.__init__» noKeywords Builtin.Frozenset.updateFrom;generalize v:pyIter=PI
     wp_walk
     subst v;refine wpAny_pyIter_list j (Za (wpAny_runValue ?_));exact L.go _ (Walks.list D _ t n vs) C ⟨⟨_,Zh _ rfl,rfl,rfl⟩,(j.push _)⟩ (λb o e=>Zb _ e) x λh' T X Y=>Zd (Zd ⟨rfl,h',T,rfl,Y,λb o m e=>X b o (p b m) (Zt m) (Zb _ (Zb _ e))⟩)
    ·obtain⟨⟨I,a,y,O⟩,d,f,nl,g⟩:=B;simp only at f g;subst f;subst g;have k:(s.heap.push (bD l)).get? t=some {cls:=.type "tuple",dict:=a,data:=.seq vs nl,slots:=O}:=Zb _ d;have q1:=F.sub_tuple_set;have q2:=F.sub_tuple_frozenset;have q3:(Value.type "tuple"==Value.type "dict")=false:=by decide
     have j:(s.heap.push (bD l)).IsTuple t vs:=⟨_,k,rfl,nl,rfl⟩;unfold Builtin.«set.__init__» noKeywords Builtin.Frozenset.updateFrom;generalize v:pyIter=PI
     wp_walk
     subst v;refine wpAny_pyIter_tuple j (Za (wpAny_runValue ?_));exact L.go _ (Walks.tuple D _ t n vs) C ⟨⟨_,Zh _ rfl,rfl,rfl⟩,(j.push _)⟩ (λb o e=>Zb _ e) x λh' T X Y=>Zd (Zd ⟨rfl,h',T,rfl,Y,λb o m e=>X b o (p b m) (Zt m) (Zb _ (Zb _ e))⟩)
   ·cases J with
    |error e=>exact H
    |ok u=>
     cases u with
     |ret r=>
      obtain⟨rfl,h',tk,rfl,M,N⟩:=H
      repeat(any_goals (first|assumption|wp_step))
      exact h _ _ M N
     |_=>exact H.elim
  |_=>exact V.elim
theorem dj.born(h:Heap):dj prog w (h.push (bD (!ij w))) h.objs.size []:=⟨⟨_,0,_,Zh _ rfl,⟨rfl,rfl,rfl⟩,rfl,rfl,rfl,rfl,λi j a=>absurd a (Nat.not_lt_zero _),rfl,Ze,rfl,λx b=>by cases b⟩,λc H=>(by cases H),.nil⟩
theorem sS{R:Result->Shared->Prop}{P:Nat->Value->Prop}{St:Nat->Heap->Prop}(W:Walks prog w A.in1 I fp wr n P St)(S:Addr)(out:S∉fp)(D:∀b∈wr,S<b)(val:Nat->Li×Addr)(p:∀i v,P i v->v=.ref (val i).2)(X:A.in1.units<cLine)(few:n<76):
  ∀(k i:Nat) (s:Shared) (cs:List (Li×Addr)),n-i=k->i<=n->St i s.heap->dj prog w s.heap S cs->(∀j,j<n->cI prog w s.heap (val j).1 (val j).2/\(val j).2<S)->(∀c∈cs,∃j,j<n/\c=val j)->(∀K,K∈cs.map (·.1)↔∃j,j<i/\(val j).1=K)->cs.length<=i->
  (∀h' tk C,(∀b o,b∉wr->b≠S->s.heap.get? b=some o->h'.get? b=some o)->dj prog w h' S C->(∀K,K∈C.map (·.1)↔∃j,j<n/\(val j).1=K)->(∀c∈C,∃j,j<n/\c=val j)->R (.ok (.ret .none)) {s with heap:=h',toks:=tk})->
  codeAny (model prog w) A (.builtin "set.update.loop" ⟨[.ref S,.ref I],[]⟩) R s:=by
 have nS:S∉wr:=λz=>out (W.sub S z);have low:∀b,b<S->b∉wr:=λb g z=>Nat.lt_irrefl _ (Nat.lt_trans g (D b z));intro k
 induction k with
 |zero=>
  intro i s cs Y Z a x tup M G len fin;have L:∀c∈cs,c.2<S:=λc H=>let⟨j,h,e⟩:=M c H;e▸(tup j h).2
  obtain rfl:i=n:=by omega
  exact codeAny_builtin F.entry_set_update_loop (by rw[Around.under_plainId F.plain_set_update_loop];exact Za (W.done s _ _ a λh' tk d=>Zd (fin h' tk cs (λb o N _ e=>d b o N e) (x.kept λb o e g=>d b o (by rcases g with rfl| ⟨c,H,rfl⟩;exact nS;exact low _ (L c H)) e) G M)))
 |succ k ih=>
  intro i s cs Y Z a x tup M G len fin;have L:∀c∈cs,c.2<S:=λc H=>let⟨j,h,e⟩:=M c H;e▸(tup j h).2
  have lt:i<n:=by omega
  refine codeAny_builtin F.entry_set_update_loop ?_;rw[Around.under_plainId F.plain_set_update_loop];refine Za (W.item i s _ _ lt a λv h' tk pv q d=>?_);obtain rfl:=p i v pv;have x1:dj prog w h' S cs:=x.kept λb o e g=>d b o (by rcases g with rfl| ⟨c,H,rfl⟩;exact nS;exact low _ (L c H)) e;have t:∀j,j<n->cI prog w h' (val j).1 (val j).2/\(val j).2<S:=λj h=>⟨(tup j h).1.kept λo e=>d _ o (low _ (tup j h).2) e,(tup j h).2⟩;refine Za (m:=holding [Value.ref (val i).2] (setAdd S (.ref (val i).2))) (ZL ?_);unfold setAdd;refine ZL (Za (wpAny_pyHash_tuple X (t i lt).1 ?_));refine zi (s:={s with heap:=h',toks:=tk+((val i).1.length+1)}) x1 (t i lt).1 X (by omega) λh2 f b Q x2 B r cy=>?_
  have J:∀K,K∈f.map (·.1)↔∃j,j<i+1/\(val j).1=K:=λK=>by
   rw[B K,G K];constructor
   ·rintro(⟨j,h,e⟩|rfl)
    ·exact⟨j,by omega,e⟩
    ·exact⟨i,by omega,rfl⟩
   ·rintro⟨j,h,e⟩;by_cases z:j=i
    ·subst z;exact .inr e.symm
    ·exact .inl ⟨j,by omega,e⟩
  refine Zd ⟨plainId_quiet F.plain_set_update_loop _,ih (i+1) _ f (by omega) lt (W.frame _ _ _ q λb fb o e=>?_) x2 (λj h=>⟨(t j h).1.kept λo e=>?_,(t j h).2⟩) (λc H=>?_) J (by omega) λh3 U y E x3 O u=>?_⟩
  ·rw[Q.2 b λz=>out (z▸fb)];exact e
  ·rw[Q.2 _ (Zt (t j h).2)];exact e
  ·rcases r c H with z|z
   ·exact M c z
   ·exact⟨i,lt,z⟩
  ·refine fin h3 U y (λb o N V e=>E b o N V ?_) x3 O u;rw[Q.2 b V];exact d b o N e
theorem Gi{t:Addr}{vs:Av}(x:A.handled=none)(N:A.units+64<cLine)(I:s.heap.IsList t vs\/s.heap.IsTuple t vs)(d:vs.toList=ks.map λc=>Value.ref c.2)(G:∀c∈ks,cI prog w s.heap c.1 c.2)(F:ks.length<76)
  (h:∀(h':Heap) (tk:Nat),(∃cs,dj prog w h' s.heap.objs.size cs/\(∀q,q∈cs.map (·.1)↔q∈ks.map (·.1))/\∀c∈cs,c∈ks)->
   (∀b o,b<s.heap.objs.size->s.heap.get? b=some o->h'.get? b=some o)->Q (.ref s.heap.objs.size) {s with heap:=h',toks:=tk}):wpAny (model prog w) A (call (.type "set") [.ref t]) Q E s:=by
 have n:vs.size=ks.length:=by rw[<-ZS,d,Zm]
 have H:∀i,i<ks.length->ks.getD i ([],0)∈ks/\ks[i]?=some (ks.getD i ([],0)):=λi B=>by
  grind
 refine Gh x I ⟨λO W out S r f fin=>?_⟩ h;refine sS W s.heap.objs.size out f (λi=>ks.getD i ([],0)) (λi v J=>?_) (by show A.units+1+1+1<cLine;omega) (by omega) (vs.size-0) 0 _ [] (by omega) (Z2 _) S ((dj.born s.heap).kept λb o e _=>r b o e) (λj D=>?_) (λc a=>by cases a) (λk=>⟨λz=>(by cases z),λ⟨i,z,_⟩=>(by omega)⟩) (Zf _) λh' T C K X p m=>fin h' T K ⟨C,X,λk=>(p k).trans ⟨λ⟨i,z,e⟩=>?_,λz=>?_⟩,λc a=>let⟨j,D,e⟩:=m c a;e▸(H j (by omega)).1⟩
 ·have L:vs.toList[i]?=some v:=by rw[Array.getElem?_toList];exact J
  grind
 ·have y:=G _ (H j (by omega)).1;refine⟨y.kept λo e=>r _ o (Zb _ e),?_⟩;obtain⟨o,_,_,g,_⟩:=y;exact Zi g
 ·grind
 ·obtain⟨c,a,e⟩:=Zp.mp z;obtain⟨i,B,M⟩:=ZK.mp a
  grind
theorem zk(ns:Li):firstMet (λi=>ns.getD i 0) ns.length=cE ns:=by unfold firstMet cE;congr 1;refine List.ext_getElem (by simp) λi H h=>?_;simp[h]
theorem Gj(c:X.calm=true):ba X (.type "set") (λxs H Q=>∃p ns,xs=[.ref p]/\cM X.K H p (ns.map V.int)/\ns.length+1<scanBound/\∀l S,H l=none->Q (.ref l) (aZ H l (.set S (cE ns).length))):=by
 intro n s v H xs U Q I r h;obtain⟨p,ns,rfl,f,k,q⟩:=h;obtain⟨u,rfl,g⟩:=vals1 r;cases g;obtain⟨i,R,P,_⟩:=I.list f;have m:=R.length;refine call_set_list (I.ok.hd c) P.isList (by simpa using wV R) (by simp_all) λj t a d=>?_;have E:i.toArray.size=ns.length:=by simp_all
 rw[E,zk]at a;exact⟨.ref _,_,I.laid (λb o e=>d b o (Zi e) e) (Zf _) (show a7 _ _ _ _ _ (.set _ _)from a),rfl,q _ _ (I.hok.fresh (Zf _))⟩
theorem Gk(c:X.calm=true):ba X (.type "set") (λxs H Q=>∃p ns,xs=[.ref p]/\bX X.K H p (ns.map V.int)/\ns.length+1<scanBound/\∀l S,H l=none->Q (.ref l) (aZ H l (.set S (cE ns).length))):=by
 intro n s v H xs U Q I r h;obtain⟨p,ns,rfl,f,k,q⟩:=h;obtain⟨u,rfl,g⟩:=vals1 r;cases g;obtain⟨i,R,P,_⟩:=I.tuple f;have m:=R.length;refine F0 (I.ok.hd c) P (by simpa using wV R) (by simp_all) λj t a d=>?_;have E:i.toArray.size=ns.length:=by simp_all
 rw[E,zk]at a;exact⟨.ref _,_,I.laid (λb o e=>d b o (Zi e) e) (Zf _) (show a7 _ _ _ _ _ (.set _ _)from a),rfl,q _ _ (I.hok.fresh (Zf _))⟩
theorem Gm(c:X.calm=true):ba X (.type "set") (λxs H Q=>∃p ns,xs=[.ref p]/\(cM X.K H p (ns.map V.int)\/bX X.K H p (ns.map V.int))/\ns.length+1<scanBound/\∀l S,H l=none->Q (.ref l) (aZ H l (.set S (cE ns).length))):=by
 intro P s d H xs u Q I r h;obtain⟨p,ns,e,a,b,q⟩:=h;rcases a with a|a
 ·exact Gj c _ s _ H _ _ Q I r ⟨p,_,e,a,b,q⟩
 ·exact Gk c _ s _ H _ _ Q I r ⟨p,_,e,a,b,q⟩
theorem Gn:ba X (.builtin "len") (λxs H Q=>∃p S n,xs=[.ref p]/\H p=some (.set S n)/\n<100000/\Q (.int n) H):=by intro P s j H xs U Q I r h;obtain⟨p,S,n,rfl,f,i,q⟩:=h;obtain⟨u,rfl,R⟩:=vals1 r;cases R;have b:=I.hok p _ f;obtain⟨o,g,E,t,e,a,c,_,_,_,d,rfl⟩:=b;exact call_len_set e a c d (by omega) ⟨.int _,H,I.tok _,⟨_,rfl⟩,q⟩
theorem zl:bootBuiltins "set"=some (.type "set"):=by decide+kernel
theorem mK(ns:Li):(cE ns).length<=ns.length:=by
 have k:∀(ns a:Li),(ns.foldl step_dedup a).length<=a.length+ns.length:=by
  intro ns
  induction ns with
  |nil=>simp_all
  |cons n ns i=>intro a;refine ZC (i _) ?_;unfold step_dedup;split<;>simp<;>omega
 simpa[cE]using k _ []
theorem sT:∀{xs:List D},xs.all (aw .int)=true->xs=(xs.filterMap cS).map D.int
 | [],_=>rfl
 |x::xs,h=>by
  simp only[List.all_cons,ZY]at h;cases x with
  |int i=>simp[cS];rw[<-sT h.2]
  |_=>simp[aw]at h
theorem sU{K:Fg}{m:GS}{μ:La}{H:Hp}:∀{ns:Li} {vs:List V},aj K m μ H (ns.map D.int) vs->vs=ns.map V.int
 | [],vs,r=>by subst r;rfl
 |n::ns,vs,r=>by obtain⟨v,w,rfl,R,a⟩:=r.uncons;cases aI R;rw[sU a];rfl
def sV(K:Fg):List V->Hp->VK->Prop:=λxs H Q=>∃p ns,xs=[.ref p]/\(cM K H p (ns.map V.int)\/bX K H p (ns.map V.int))/\ns.length+1<scanBound/\∀l S,H l=none->Q (.ref l) (aZ H l (.set S (cE ns).length))
def qg:List V->Hp->VK->Prop:=λxs H Q=>∃p S n,xs=[.ref p]/\H p=some (.set S n)/\n<100000/\Q (.int n) H
theorem sW:∀(ks acc:List (Li)),acc.Nodup->(ks.foldl (λacc k=>if acc.contains k=true then acc else acc++[k]) acc).Nodup/\∀k,k∈ks.foldl (λacc k=>if acc.contains k=true then acc else acc++[k]) acc↔k∈acc\/k∈ks
 | [],acc,h=>⟨h,λk=>by simp⟩
 |x::ks,acc,h=>by
  by_cases z:acc.contains x=true
  ·obtain⟨a,b⟩:=sW ks _ h
   grind
  ·have d:=λh=>z (List.contains_iff_mem.mpr h);obtain⟨a,b⟩:=sW ks (acc++[x]) (Z3.mpr ⟨h,by simp,λa c b H=>by simp at H;lia⟩)
   grind
theorem zm(ks:List (Li)):(ju ks).Nodup/\∀k,k∈ju ks↔k∈ks:=by obtain⟨a,b⟩:=sW _ _ List.nodup_nil;exact⟨a,λk=>(b k).trans (by simp)⟩
theorem zn{prog:Program}{w:World}:∀{k:Li} {its:Lv},Vals (k.map V.int) its->ItemsAre (intKind prog w) k its
 | [],its,r=>by cases r;exact .nil
 |n::k,its,r=>by
  cases r with
  |cons h H=>obtain⟨t,rfl⟩:=h;exact .cons (intKind_is _ _ _ _) (zn H)
theorem mL{k:Li}(I:Inv X pq σ H s)(h:bX X.K H a (k.map V.int)):cI X.prog X.w s.heap k a:=by obtain⟨i,r,p,_⟩:=I.tuple h;obtain⟨o,g,c,n,d⟩:=p;exact⟨o,_,n,g,c,d,zn r⟩
theorem zo:∀{ks:List (Li×Addr)} {its:Lv},Vals (ks.map λc=>V.ref c.2) its->its=ks.map λc=>Value.ref c.2
 | [],its,r=>by cases r;rfl
 |c::ks,its,r=>by
  cases r with
  |cons h H=>cases h;rw[zo H];rfl
noncomputable def Gp(K:Fg)(H:Hp)(p:Addr)(ks:List (Li×Addr)):Prop:=(cM K H p (ks.map λc=>V.ref c.2)\/bX K H p (ks.map λc=>V.ref c.2))/\(∀c∈ks,bX K H c.2 (c.1.map V.int))/\ks.length<76
theorem mM{p:Addr}{E:Vs}{Q:Vs}(g:X.calm=true)(n:X.A.units+64<cLine)(I:Inv X pq σ H s)(h:Gp X.K H p ks)
  (fin:∀h' tk cs,dj X.prog X.w h' s.heap.objs.size cs->(∀k,k∈cs.map (·.1)↔k∈ks.map (·.1))->(∀c∈cs,c∈ks)->Inv X pq σ H {s with heap:=h',toks:=tk}->(∀b o,s.heap.get? b=some o->h'.get? b=some o)->Q (.ref s.heap.objs.size) {s with heap:=h',toks:=tk}):wpAny (model X.prog X.w) X.A (call (.type "set") [.ref p]) Q E s:=by
 obtain⟨d,m,f⟩:=h
 obtain⟨i,r,P⟩:∃i,Vals _ i/\(s.heap.IsList p i.toArray\/s.heap.IsTuple p i.toArray):=by
  rcases d with d|d
  ·obtain⟨i,r,P,_⟩:=I.list d;exact⟨_,r,.inl P.isList⟩
  ·obtain⟨i,r,P,_⟩:=I.tuple d;exact⟨_,r,.inr P⟩
 exact Gi (I.ok.hd g) n P (zo r) (λc g=>mL I (m c g)) f λh' tk ⟨_,x,j,l⟩ K=>fin _ _ _ x j l (I.kept λb o e=>K b o (Zi e) e) λb o e=>K b o (Zi e) e
noncomputable def Gq(K:Fg)(v:V)(H:Hp)(Q:VK):Prop:=(sV K [v] H λy H2=>qg [y] H2 Q)
theorem Gr(l:X.calm=true)(w:X.A.units+64<cLine)(b:Gl X "len")(c:Gl X "set")(d:X.mg "len"=none)(e:X.mg "set"=none)(m:bJ z=true)(k:PE X z ta):
  PE X (.Call (.Name "len" p1) [.Call (.Name "set" p2) [z] [] p3] [] p4) (λσ H Q=>ta σ H λx H1=>Gq X.K x H1 Q):=by
 intro p s σ H Q I h;have f:=cG (env:=X.env) (es:=[]) m;refine wpAny_Call_Name_kw (eF I b d PySem.boot_len ?_ (by decide) (by decide));refine PyProof.Rows.callWith_builtin1 ?_ rfl rfl;refine Calls.spliced_cons ?_;refine wpAny_Call_Name_kw (eF I c e zl ?_ (by decide) (by decide));have j:PA X [z] (gR ta lx):=dy k eG f
 refine PyProof.Rows.callWith_type1 (aR (j p3 p s σ H (λvs H1=>match vs with
  | [x]=>Gq X.K x H1 Q
  |_=>False) I h) λU S ⟨vs,H1,g,r,q⟩=>?_) f rfl
 match vs,q with
 | [v],q=>refine aR (Gm l p S σ H1 [v] U (λy a=>qg [y] a Q) g r q) λu o ⟨V,a,i,R,n⟩=>?_;refine Calls.spliced_nil ?_;exact Gn p o σ a [V] [u] Q i (.cons R .nil) n
theorem zp{K:Fg}{m:GS}{μ:La}{H:Hp}:∀{xs:List D} {vs:List V},xs.all (aw (.seq .int))=true->aj K m μ H xs vs->∃ks:List (Li×Addr),vs=(ks.map λc=>V.ref c.2)/\(∀c∈ks,bX K H c.2 (c.1.map V.int))/\ks.map (·.1)=xs.map eP
 | [],vs,_,r=>by unfold aj at r;simp_all
 |x::xs,vs,h,r=>by
  simp only[List.all_cons,ZY]at h;obtain⟨v,w,rfl,R,g⟩:=r.uncons;obtain⟨ks,rfl,i,f⟩:=zp h.2 g;cases x with
  |tup d=>
   have b:=h.1;obtain⟨a,u,rfl,k,q⟩:=bP R;rw[sT b]at q;have e:=sU q;refine⟨(d.filterMap _,a)::ks,rfl,λc j=>?_,by rw[List.map_cons,f];rfl⟩
   grind
  |_=>simp[aw]at h
theorem sX(s:aM K ⟨mg,F⟩ μ S H)(r:Rep K ⟨mg,F⟩ μ H d v)(e:az S d=some xs)(c:xs.all (aw (.seq .int))=true/\xs.length<76):∃p ks,v=.ref p/\Gp K H p ks/\ks.map (·.1)=xs.map eP:=by obtain⟨a,vs,rfl,f,R⟩:=fh s r e;obtain⟨ks,rfl,b,h⟩:=zp c.1 R;refine⟨a,_,rfl,⟨f,b,?_⟩,h⟩;have:=congrArg List.length h;rw[Zm,Zm]at this;omega
theorem Gs{Q:VK}(s:aM K ⟨mg,F⟩ μ S H)(r:Rep K ⟨mg,F⟩ μ H d v)(w:aV K ⟨mg,F⟩ μ H Q (hZ d S)):Gq K v H Q:=by
 unfold hZ at w;split at w
 ·rename_i x e;split at w
  ·rename_i g;obtain⟨a,vs,rfl,i,R⟩:=fh s r e;have h:=sT g.1
   have c:(x.filterMap cS).length<1000:=by have:=congrArg List.length h;simp only[Zm]at this;omega
   rw[h]at R;have j:=sU R;subst j;refine⟨a,x.filterMap cS,rfl,i,by unfold scanBound;omega,λl f b=>⟨l,f,_,rfl,bM,by have:=mK (x.filterMap cS);omega,?_⟩⟩;exact w μ _ _ (.laid b) (s.laid b) bQ
  ·exact w.elim
 ·exact w.elim
section
variable {R:Result->Shared->Prop}{P:Nat->Value->Prop}{St:Nat->Heap->Prop}
end
theorem zq{a:Type}(f:Nat->Nat):∀(n k:Nat) (left:List a) (out:Array a),left.length=n->(pickOrder.go f n k left out).toList.Perm (out.toList++left)
 |0,k,left,out,h=>by have:=ZI h;subst this;unfold pickOrder.go;simp
 |n+1,k,left,out,h=>by
  have H:f k%left.length<left.length:=Nat.mod_lt _ (by omega);unfold pickOrder.go;rw[Zj _];refine(zq f n _ _ _ (by rw[List.length_eraseIdx_of_lt H];omega)).trans ?_;rw[Array.toList_push,Z4];refine List.Perm.append_left _ ?_;have:left=left.take (f k%left.length)++left[f k%left.length]::left.drop (f k%left.length+1):=by simp_all
  rw[List.eraseIdx_eq_take_drop_succ];refine List.Perm.trans ?_ (List.Perm.of_eq this.symm);rw[List.singleton_append];exact List.perm_middle.symm
theorem Gu(f:Nat->Nat)(xs:Array α):(pickOrder f xs).toList.Perm xs.toList:=by have:=zq f xs.size 0 xs.toList #[] (by simp);simpa[pickOrder]using this
noncomputable def cu(w:World)(a:Addr)(ep:Nat)(es:Array (Int×Value)):List (Int×Value):=if ij w=true then(pickOrder (w.params.setOrder a ep) es).toList else es.toList
noncomputable def bF(w:World)(ks:List Nat):Nat->Nat
 |0=>0
 |i+1=>if ij w=true then 0 else ks.getD i 0+1
theorem jK(w:World)(a:Addr)(ep:Nat)(es:Array (Int×Value)):(cu w a ep es).Perm es.toList:=by
 unfold cu;split
 ·exact Gu _ _
 simp_all
structure TB (w:World)(t:SetTable)(n:Nat):Prop where
 fit:t.fits n=true
 led:t.led=(!ij w)
 pl:t.plain=true
 ris:gX t.place
theorem TB.size{t:SetTable}(x:TB w t n):n=t.place.toList.length:=by have:=x.fit;unfold SetTable.fits at this;simp_all
theorem jL{t:SetTable}{es:Array (Int×Value)}{i:Nat}{Q:Option (Value×Nat)->Shared->Prop}(T:TB w t es.size)(g:s.heap.get? a=some o)(d:o.data=.set es ep t)(q:i<=es.size)
  (fin:Q (((cu w a ep es)[i]?).map λe=>(e.2,bF w t.place.toList (i+1))) s):wpAny (model prog w) A (setNext a (bF w t.place.toList i) i ep) Q E s:=by
 have p:=T.size;have f:=T.fit;unfold setNext;refine Za (wpAny_setState_of g d f ?_);dsimp only;refine Za (m:=setsByText) (Za (wpAny_askSetting (Zd ?_)));cases h:ij w with
 |true=>
  have H:w.params.followText "set-order"=true:=h;show wpAny _ _ (if(w.params.followText "set-order")=true then _ else _) _ _ _;rw[if_pos H];simp only[bne_self_eq_false,Zr,ZR];refine Za ?_;unfold setWalk;refine Za (wpAny_setState_of g d f ?_);dsimp only;refine Za (m:=setsByText) (Za (wpAny_askSetting (Zd ?_)));show wpAny _ _ (if(w.params.followText "set-order")=true then _ else _) _ _ _;rw[if_pos H];refine Za (wpAny_askSetting (Zd (Zd ?_)));have j:cu w a ep es=(pickOrder (w.params.setOrder a ep) es).toList:=by unfold cu;rw[if_pos h]
  have k:bF w t.place.toList (i+1)=bF w t.place.toList i:=by
   cases i with
   |zero=>simp[bF,h]
   |succ i=>simp[bF,h]
  rw[j,k,Array.getElem?_toList]at fin;exact fin
 |false=>
  have H:w.params.followText "set-order"=false:=h;show wpAny _ _ (if(w.params.followText "set-order")=true then _ else _) _ _ _;rw[if_neg (by rw[H];simp)];refine wpAny_ite ?_
  rw[if_neg (λz=>by have z:(!t.plain&&decide (es.size>1))=true:=z;rw[T.pl]at z;simp at z)];refine Za ?_;show wpAny _ _ (if(!t.led&& !es.isEmpty)=true then _ else pure ()) _ _ _;rw[if_neg (by rw[T.led,h];simp)];refine Zd (Zd ?_);have n:=T.ris;have j:cu w a ep es=es.toList:=by unfold cu;rw[if_neg (by rw[h];simp)]
  have l:SetTable.below t.place (bF w t.place.toList i)=i:=by
   cases i with
   |zero=>exact F3 _ n
   |succ i=>
    have b:i<t.place.size:=by rw[ZS]at p;omega
    have e:bF w t.place.toList (i+1)=t.place[i]+1:=by show(if ij w=true then 0 else t.place.toList.getD i 0+1)=_;rw[h];simp[b]
    rw[e];exact F2 n _
  rw[j,Array.getElem?_toList]at fin;rw[l];by_cases b:i<es.size
  ·have c:i<t.place.size:=by rw[ZS]at p;omega
   have k:bF w t.place.toList (i+1)=t.place[i]+1:=by show(if ij w=true then 0 else t.place.toList.getD i 0+1)=_;rw[h];simp[c]
   rw[Array.getElem?_eq_getElem b]at fin⊢;rw[k]at fin;simpa[c]using fin
  ·rw[Array.getElem?_eq_none (by omega)]at fin⊢;exact fin
theorem ik:Slot "set_iterator" "__next__" "set_iterator.__next__":=.of (owner:="set_iterator") (n:="__next__") (by rw[typeLookup_type,builtinLookup_eq_fast];kernel_rfl) (by decide+kernel) (by decide+kernel) (by decide+kernel) (by first|exact .inl (by decide+kernel)|exact .inr (by decide+kernel)) (by rw[isSubtype_type];kernel_rfl)
theorem zr:Slot "set_iterator" "__iter__" "set_iterator.__iter__":=.of (owner:="set_iterator") (n:="__iter__") (by rw[typeLookup_type,builtinLookup_eq_fast];kernel_rfl) (by decide+kernel) (by decide+kernel) (by decide+kernel) (by first|exact .inl (by decide+kernel)|exact .inr (by decide+kernel)) (by rw[isSubtype_type];kernel_rfl)
theorem Gv:entryFor table "set_iterator.__iter__"=some Builtin.«dict_keyiterator.__iter__»:=entryFor_alias (id':="dict_keyiterator.__iter__") (rfl) rfl (by decide+kernel) (rfl)
theorem Gw(v:Value):argsOk "set_iterator.__iter__" ⟨[v],[]⟩:=by kernel_rfl
theorem zt:entryFor table "set_iterator.__next__"=some Builtin.«set_iterator.__next__»:=entryFor_of_tree rfl
theorem zu(v:Value):argsOk "set_iterator.__next__" ⟨[v],[]⟩:=by kernel_rfl
theorem Gx:entryFor table "set.__iter__"=some Builtin.«frozenset.__iter__»:=entryFor_alias (id':="frozenset.__iter__") (rfl) rfl (by decide+kernel) (rfl)
def jM(h:Heap)(it a:Addr)(sl i n ep:Nat):Prop:=∃o,h.get? it=some o/\o.cls=.type "set_iterator"/\o.data=.fields #[.int sl 0,.int i 0,.ref a,.int n 0,.int ep 0]
theorem sY{t:SetTable}{es:Array (Int×Value)}(T:TB w t es.size)(g:s.heap.get? a=some o)(e:o.ExactSet)(d:o.data=.set es ep (t))
  (fin:Q (.ref s.heap.objs.size) {s with heap:=s.heap.push {cls:=.type "set_iterator",data:=.fields #[.int 0 0,.int 0 0,.ref a,.int es.size 0,.int ep 0]}}):wpAny (model prog w) A (pyIter (.ref a)) Q E s:=by
 have f:=T.fit;have ty:s.TypeIs (.ref a) _:=⟨o,g,e.1⟩;refine wpAny_pyIter_slot ty F.slot_set_iter (ZM F.slot_set_iter ty Gx ?_ (F.args_set_iter_1 _));refine Za (Za (Zd (Zd ?_)));refine Za (Za (wpAny_setEntries_of g d f (Zd ?_)));refine Za ?_;refine Za (wpAny_setState_of g d f ?_);refine Za (Za (wpAny_askSetting (Zd (Zd ?_))))
 rw[if_neg (show ¬_ from λz=>by have z:(!(w.params.followText _)&&(!t.plain&&decide _))=true:=z;rw[T.pl]at z;simp at z)];refine Za (Zd (Za (wpAny_setEpoch_of g d f ?_)));exact Za (Z0 (Zd ⟨_,rfl,_,_,⟨_,Zh _ rfl,rfl⟩,ik.lookup,fin⟩))
theorem mO{t:SetTable}{es:Array (Int×Value)}{i:Nat}{e:Int×Value}{Q:Ov->Shared->Prop}(h:jM s.heap it a (bF w t.place.toList i) i es.size ep)(T:TB w t es.size)(g:s.heap.get? a=some o)(d:o.data=.set es ep (t))
  (j:(cu w a ep es)[i]?=some e) (fin:∀h',jM h' it a (bF w t.place.toList (i+1)) (i+1) es.size ep->Heap.SameBut it s.heap h'->Q (some e.2) {s with heap:=h'}):wpAny (model prog w) A (pyNext (.ref it)) Q E s:=by
 obtain⟨O,G,c,D⟩:=id h;have f:=T.fit;have ty:s.TypeIs (.ref it) "set_iterator":=⟨O,G,c⟩
 have m:i<=es.size:=by have l:=(Zg.mp j).1;rw[(jK w a ep es).length_eq,ZS]at l;omega
 unfold pyNext;refine Za (wpAny_attempt (ZN ty ik (ZM ik ty zt ?_ (zu _))));refine Za (Zd ?_);refine Za (wpAny_fieldsOf G D ?_);dsimp only;refine Za (wpAny_setEntries_of g d f ?_);rw[if_neg (by simp)];refine Za ?_;rw[Int.toNat_natCast,Int.toNat_natCast,Int.toNat_natCast];refine jL T g d m ?_;rw[j];refine Za (wpAny_setField G D (by simp) ?_);have b:=Heap.get?_update_self (Obj.mapFields (·.setIfInBounds 0 (rawInt (bF w t.place.toList (i+1):Nat)))) G (Obj.isFreed_of_fields (Obj.data_mapFields D _));have d1:=Obj.data_mapFields D (·.setIfInBounds 0 (rawInt (bF w t.place.toList (i+1):Nat)));refine Za (wpAny_setField b d1 (by simp) ?_);have k:=Heap.get?_update_self (Obj.mapFields (·.setIfInBounds 1 (rawInt ((i:Int)+1)))) b (Obj.isFreed_of_fields (Obj.data_mapFields d1 _));have d2:=Obj.data_mapFields d1 (·.setIfInBounds 1 (rawInt ((i:Int)+1)));refine Zd ⟨_,rfl,Zd (fin _ ⟨_,k,?_,?_⟩ ((Z5 _ it _).trans (Z5 _ it _)))⟩
 ·rw[Obj.cls_mapFields,Obj.cls_mapFields];exact c
 ·rw[d2];simp[rawInt]
theorem sZ{t:SetTable}{es:Array (Int×Value)}{Q:Ov->Shared->Prop}(c:A.handled=none)(h:jM s.heap it a (bF w t.place.toList es.size) es.size es.size ep)(T:TB w t es.size)(g:s.heap.get? a=some o)(d:o.data=.set es ep (t))
  (fin:∀h',Heap.ExtBut it s.heap h'->Q none {s with heap:=h'}):wpAny (model prog w) A (pyNext (.ref it)) Q E s:=by
 obtain⟨O,G,C,D⟩:=id h;have f:=T.fit;have ty:s.TypeIs (.ref it) "set_iterator":=⟨O,G,C⟩;unfold pyNext;refine Za (wpAny_attempt (ZN (name:=Str.ofString "__next__") ty ik (ZM ik ty zt ?_ (zu _))));unfold Builtin.«set_iterator.__next__»;refine Za (Zd ?_);refine Za (wpAny_fieldsOf G D ?_);dsimp only;refine Za (wpAny_setEntries_of g d f ?_);rw[if_neg (by simp)];refine Za ?_;rw[Int.toNat_natCast,Int.toNat_natCast,Int.toNat_natCast];refine jL T g d (Zf _) ?_;rw[List.getElem?_eq_none (by rw[(jK w a ep es).length_eq,ZS];exact Zf _)];dsimp only[Option.map_none];refine Za (wpAny_setField G D (by simp) (Za ?_));simp only[newExc,newTuple];refine Za (Z0 (Za (m:=firstArgMember _ _) (wpAny_of_eq (a:=Value.none) (by first|rfl| (simp only[firstArgMember];rfl)) (Z0 ?_ (by size_fits)))) (by size_fits));simp only[raiseNew];refine Za (wpAny_handled ?_);rw[show A.in1.handled=none from c];refine Za (Zd (wpAny_throw ?_));exact Za (wpAny_isInstance (T:="StopIteration") (b:=true) ⟨_,Zh _ rfl,rfl⟩ isSubtype_stop (Zd (fin _ (((Z5 ..).extBut.push _).push _))))
theorem Walks.setC(calm:A.handled=none)(hne:a≠it){t:SetTable}{es:Array (Int×Value)}(T:TB w t es.size)(d:o.data=.set es ep (t)):
  Walks prog w A it [it,a] [it] es.size (λi v=>∃e,(cu w a ep es)[i]?=some e/\v=e.2) (λi h=>jM h it a (bF w t.place.toList i) i es.size ep/\h.get? a=some o) where
 sub:=λb hb=>by simp_all
 frame:=λi h h' st k=>by obtain⟨⟨oi,gi,ri⟩,g⟩:=st;exact⟨⟨_,k _ (by simp) _ gi,ri⟩,k a (by simp) o g⟩
 item:=λi s Q E hi st hQ=>by
  have hl:i<(cu w a ep es).length:=by rw[(jK w a _ _).length_eq];exact hi
  refine mO st.1 T st.2 d (Zj hl) λh' hit' sb=>?_;refine hQ _ _ _ ⟨_,Zj _,rfl⟩ ⟨hit',sb.extBut a o hne st.2⟩ λb o hb e=>sb.extBut b o (λh=>hb (by simp[h])) e
 done:=λs Q E st hQ=>sZ calm st.1 T st.2 d λh' he=>hQ _ _ λb o hb e=>he b o (λh=>hb (by simp[h])) e
 self:=λi s Q E st hQ=>by obtain⟨⟨oi,gi,ci,di⟩,_⟩:=st;have ty:s.TypeIs (.ref _) _:=⟨_,gi,ci⟩;exact wpAny_pyIter_slot ty zr (ZM zr ty Gv (Zd ⟨_,rfl,_,_,ty,ik.lookup,hQ⟩) (Gw _))
theorem Gy{t:SetTable}{es:Array (Int×Value)}{Q:Lv->Shared->Prop}(C:A.handled=none)(T:TB w t es.size)(g:s.heap.get? a=some o)(u:o.ExactSet)(d:o.data=.set es ep t)(few:es.size<1000)
  (fin:∀(h':Heap) (tk:Nat) (vs:Lv),(∀b o,s.heap.get? b=some o->h'.get? b=some o)->vs.Perm (es.toList.map (·.2))->Q vs {s with heap:=h',toks:=tk}):wpAny (model prog w) A (collect (.ref a)) Q E s:=by
 have P:=Zi g;unfold collect;refine Za (wpAny_runValue (codeAny_builtin F.entry_proto_collect ?_));rw[Around.under_plainId F.plain_proto_collect];refine Za (m:=newList []) (Z0 (Zd ⟨plainId_quiet F.plain_list_iadd _,codeAny_builtin F.entry_list_iadd ?_⟩));rw[Around.under_plainId F.plain_list_iadd];generalize r:s.heap.objs.size=S;have z:(s.heap.push {cls:=.type "list",data:=.seq ([]:Lv).toArray}).get? S=some {cls:=.type "list",data:=.seq #[]}:=by rw[<-r];exact Zh _ rfl
 have G:(s.heap.push {cls:=.type "list",data:=.seq ([]:Lv).toArray}).get? a=some o:=Zb _ g;have J:∀b o,s.heap.get? b=some o->(s.heap.push {cls:=.type "list",data:=.seq ([]:Lv).toArray}).get? b=some o:=λ_ _ e=>Zb _ e;generalize s.heap.push {cls:=.type "list",data:=.seq ([]:Lv).toArray}=h at z G J⊢;have ty:Shared.TypeIs {s with heap:=h} (.ref a) "set":=⟨o,G,u.1⟩;show wpAny _ A.in1 (Builtin.List.listExtendWith (.ref S) (.ref a) (.ref S)) _ _ _;unfold Builtin.List.listExtendWith;refine Za (wpAny_typeOf ty ?_)
 rw[if_neg (by
  have:S≠a:=by rw[<-r];exact Nat.ne_of_gt P
  simp[Builtin.List.listSameRef,this])]
 refine Za (sY T G u d ?_);have D:S<h.objs.size:=Zi z;have x:a<h.objs.size:=Zi G;have K:∀b o,h.get? b=some o->(h.push {cls:=.type "set_iterator",data:=.fields #[.int 0 0,.int 0 0,.ref a,.int es.size 0,.int ep 0]}).get? b=some o:=λ_ _ e=>Zb _ e;have n:jM (h.push {cls:=.type "set_iterator",data:=.fields #[.int 0 0,.int 0 0,.ref a,.int es.size 0,.int ep 0]}) h.objs.size a (bF w t.place.toList 0) 0 es.size ep:=⟨_,Zh _ rfl,rfl,rfl⟩;show wpAny _ A.in1 _ _ _ {s with heap:=h.push {cls:=.type "set_iterator",data:=.fields #[.int 0 0,.int 0 0,.ref a,.int es.size 0,.int ep 0]}};generalize h.push {cls:=.type "set_iterator",data:=.fields #[.int 0 0,.int 0 0,.ref a,.int es.size 0,.int ep 0]}=i at K n⊢;have f:Shared.TypeIs {s with heap:=i} (.ref a) "set":=⟨o,K a o G,u.1⟩;refine Za (ZL ?_);unfold Builtin.List.listLengthHint;refine Za (wpAny_specialOf f F.slot_set_len.lookup ?_);have sp:splitId "set.__len__"=some ("set","__len__"):=by decide+kernel
 dsimp only;rw[sp];dsimp only;refine Za (wpAny_isInstance (b:=true) f (by rw[isSubtype_type];kernel_rfl) ?_);rw[if_neg (show ¬((!true)=true)by decide)];refine wpAny_ite ?_;rw[if_pos]
 rotate_left
 ·decide+kernel
 refine Za (wpAny_typeOf f (Zd ?_));refine wpAny_ite ?_;rw[if_pos]
 rotate_left
 ·decide+kernel
 refine Za (wpAny_rule ?_);have p:=K S _ z;refine Za (m:=Builtin.List.listTouch (.ref S)) (Za (m:=updateSeq S (·.push .none)) (wpAny_updateSeq p rfl ?_));have q:=Heap.get?_update_self (Obj.mapSeq (·.push Value.none)) p rfl;refine wpAny_updateSeq q rfl ?_;have B:=Heap.get?_update_self (Obj.mapSeq (·.pop)) q rfl;have L:∀b o,b≠S->i.get? b=some o->((i.update S (Obj.mapSeq (·.push Value.none))).update S (Obj.mapSeq (·.pop))).get? b=some o:=λb o U e=>(Heap.get?_update_other _ _ (Ne.symm U)).trans ((Heap.get?_update_other _ _ (Ne.symm U)).trans e);have k:a≠S:=by rw[<-r];exact Zt P
 have l:h.objs.size≠S:=Nat.ne_of_gt D;have out:S∉[h.objs.size,a]:=by simp only[Zk,Zv,or_false,not_or];exact⟨Ne.symm l,Ne.symm k⟩
 have W:=(Walks.setC (A:=A.in1) (prog:=prog) (w:=w) (by simpa using C) (Zt x) (it:=h.objs.size) (o:=o) (ep:=ep) T d).toS;refine Zd ⟨plainId_quiet F.plain_extend_loop _,codeAny_extend_loopS W (by rw[sizeLine_eq];omega) S out _ es.size 0 _ _ _ rfl (Z2 _) ⟨?_,L a o k (K a o G)⟩ B ?_ λs' c c' mv v I=>?_⟩
 ·obtain⟨V,gi,ri⟩:=n;exact⟨V,L _ V l gi,ri⟩
 ·exact ItemsOf.nil _
 ·refine Za (wpAny_load v (Zd ?_));obtain⟨h',g',Y,N,M⟩:=s';obtain⟨mh,mg,md,mo,_⟩:=mv;have eg:g'=s.gens:=mg;have Z:Y=s.drawn:=md;have eo:M=s.os:=mo;subst eg Z eo;refine fin h' N _ (λb O e=>?_) ?_
  ·have hb:=Zi (J b O e);have y:=Zi e;have nS:b≠S:=by rw[<-r];exact Zt y
   refine mh b O ?_ (L b O nS (K b O (J b O e)));simp only[Zk,Zv,or_false,not_or];exact⟨nS,Zt hb⟩
  ·have el:c.toList=(cu w a ep es).map (·.2):=by
    refine List.ext_getElem? λj=>?_;rw[Array.getElem?_toList,List.getElem?_map];have hz:(cu w a ep es).length=es.size:=by rw[(jK w a ep es).length_eq,ZS]
    by_cases R:j<c.size
    ·obtain⟨e,h,i⟩:=I.2 j _ (Array.getElem?_eq_getElem R);rw[Array.getElem?_eq_getElem R,h,i];rfl
    ·have h0:=I.1;rw[Array.getElem?_eq_none (by omega),List.getElem?_eq_none (by omega)];rfl
   rw[el];exact(jK w a ep es).map _
open PySem PySem.W PyProof.Rows
noncomputable def aC{b:Type}(c:Nat->Nat->Bool):KasT b->b
 | .ret a=>a
 | .ask i j k=>aC c (k (c i j))
noncomputable def eE{a:Type}(n:Nat)(c:Nat->Nat->Bool):KasT a->Prop
 | .ret _=>True
 | .ask i j k=>i<n/\j<n/\eE n c (k (c i j))
theorem il{a b:Type}(c:Nat->Nat->Bool)(f:a->KasT b):∀t:KasT a,aC c (t.bind f)=aC c (f (aC c t))
 | .ret _=>rfl
 | .ask i j k=>il c f (k (c i j))
theorem fX{a d:Type}{n:Nat}{c:Nat->Nat->Bool}{f:a->KasT d}:∀{t:KasT a},eE n c t->eE n c (f (aC c t))->eE n c (t.bind f)
 | .ret _,_,h=>h
 | .ask i j k,H,b=>⟨H.1,H.2.1,fX H.2.2 b⟩
theorem J1{a:Type}{n:Nat}{c:Nat->Nat->Bool}{cmp:Nat->Nat->(Bool->Shared->Prop)->Shared->Prop}{s:Shared}(h:∀i j C,i<n->j<n->C (c i j) s->cmp i j C s){G:a->Shared->Prop}:∀{t:KasT a},eE n c t->G (aC c t) s->t.kasWp cmp G s
 | .ret _,_,g=>g
 | .ask i j k,H,g=>h i j _ H.1 H.2.1 (J1 h H.2.2 g)
structure cW (n:Nat)(c:Nat->Nat->Bool):Prop where
 irr:∀i,i<n->c i i=false
 asym:∀i j,i<n->j<n->c i j=true->c j i=false
 ntr:∀i j k,i<n->j<n->k<n->c i j=false->c j k=false->c i k=false
structure ee (n:Nat)(p:Array Nat):Prop where
 size:p.size=n
 perm:p.Perm (List.range n).toArray
theorem ee.lt{p:Array Nat}(h:ee n p)(c:0<n)(k:Nat):p.getD k 0<n:=by
 unfold Array.getD;split
 ·rename_i a;have b:p[k]∈p:=Array.getElem_mem a;have H:p[k]∈(List.range n).toArray:=h.perm.mem_iff.mp b;simpa using H
 ·exact c
theorem zv{p q:Array Nat}{i j:Nat}(h:p[i]?=q[j]?):p.getD i 0=q.getD j 0:=by rw[Array.getD_eq_getD_getElem?,Array.getD_eq_getD_getElem?,h]
section
variable {c:Nat->Nat->Bool}
def Up(c:Nat->Nat->Bool)(p:Array Nat)(k:Nat):Prop:=∀i,i+1<k->c (p.getD (i+1) 0) (p.getD i 0)=false
def Dn(c:Nat->Nat->Bool)(p:Array Nat)(k:Nat):Prop:=∀i,i+1<k->c (p.getD i 0) (p.getD (i+1) 0)=false
theorem Up.all(o:cW n c)(H:0<n){p:Array Nat}(P:ee n p){k:Nat}(h:Up c p k):∀d i,i+d<k->c (p.getD (i+d) 0) (p.getD i 0)=false:=by
 intro d
 induction d with
 |zero=>intro i a;exact o.irr _ (P.lt H _)
 |succ d I=>intro i a;exact o.ntr _ (p.getD (i+d) 0) _ (P.lt H _) (P.lt H _) (P.lt H _) (h (i+d) (by omega)) (I i (by omega))
theorem Up.le(o:cW n c)(a:0<n){p:Array Nat}(P:ee n p){k:Nat}(h:Up c p k){i j:Nat}(H:i<=j)(b:j<k):c (p.getD j 0) (p.getD i 0)=false:=by
 have:=h.all o a P (j-i) i (by omega)
 rwa [show i+(j-i)=j by omega]at this
theorem mP{p:Array Nat}(P:ee n p)(i j:Nat):ee n (kas_rev p i j):=⟨by unfold kas_rev;rw[mirror_size];exact P.size,(mirror_perm _ _ _ _).trans P.perm⟩
theorem fY{p:Array Nat}(P:ee n p){i j k:Nat}(h:j<=n)(H:i<=k/\k<j):(kas_rev p i j).getD k 0=p.getD (i+j-1-k) 0:=zv (by unfold kas_rev;rw[getElem?_mirror_all (by rw[P.size];exact h),if_pos H])
theorem im{p:Array Nat}(P:ee n p){i j k:Nat}(h:j<=n)(H:¬(i<=k/\k<j)):(kas_rev p i j).getD k 0=p.getD k 0:=zv (by unfold kas_rev;rw[getElem?_mirror_all (by rw[P.size];exact h),if_neg H])
theorem s9(H:0<n){p:Array Nat}(P:ee n p):∀(f m:Nat),Up c p m->1<=m->eE n c (kas_asc p f m)/\m<=aC c (kas_asc p f m)/\aC c (kas_asc p f m)<=m+f/\Up c p (aC c (kas_asc p f m))/\
  (aC c (kas_asc p f m)<m+f->c (p.getD (aC c (kas_asc p f m)) 0) (p.getD (aC c (kas_asc p f m)-1) 0)=true)
 |0,m,h,g=>⟨trivial,Zf _,Zf _,h,λz=>absurd z (Nat.lt_irrefl _)⟩
 |f+1,m,h,g=>by
  unfold kas_asc;simp only[eE,aC];cases e:c (p.getD m 0) (p.getD (m-1) 0)with
  |true=>simp only[if_true,aC,eE,and_true];exact⟨⟨P.lt H _,P.lt H _⟩,Zf _,by omega,h,λ_=>e⟩
  |false=>
   simp only[Zr,ZR]
   have d:Up c p (m+1):=λi l=>by
    by_cases z:i+1<m
    ·exact h i z
    ·have:i=m-1:=by omega
     subst this;rw[show m-1+1=m by omega];exact e
   obtain⟨a,j,k,A,b⟩:=s9 H P f (m+1) d (by omega);exact⟨⟨P.lt H _,P.lt H _,a⟩,by omega,by omega,A,λz=>b (by omega)⟩
def qh(c:Nat->Nat->Bool)(p:Array Nat)(i j:Nat):Prop:=∀a b,i<=a->a<j->i<=b->b<j->c (p.getD a 0) (p.getD b 0)=false
theorem zw{p:Array Nat}(P:ee n p){i j:Nat}(H:j<=n)(h:qh c p i j):qh c (kas_rev p i j) i j:=λa b d e f g=>by rw[fY P H ⟨d,e⟩,fY P H ⟨f,g⟩];exact h _ _ (by omega) (by omega) (by omega) (by omega)
theorem jN(o:cW n c)(b:0<n){p:Array Nat}(P:ee n p){i j k:Nat}(H:j<=n)(f:k<=n)(h:Dn c p k)(e:qh c p i j):Dn c (kas_rev p i j) k:=λa d=>by
 by_cases Z:i<=a/\a<j
 ·by_cases z:i<=a+1/\a+1<j
  ·exact zw P H e a (a+1) Z.1 Z.2 z.1 z.2
  ·rw[fY P H Z,im P H z];have q:=e (i+j-1-a) a (by omega) (by omega) Z.1 Z.2;exact o.ntr _ _ _ (P.lt b _) (P.lt b _) (P.lt b _) q (h a d)
 ·by_cases z:i<=a+1/\a+1<j
  ·rw[im P H Z,fY P H z];have q:=e (a+1) (i+j-1-(a+1)) z.1 z.2 (by omega) (by omega);exact o.ntr _ _ _ (P.lt b _) (P.lt b _) (P.lt b _) (h a d) q
  ·rw[im P H Z,im P H z];exact h a d
theorem mQ(o:cW n c)(H:0<n):∀(f:Nat) (p:Array Nat) (m q:Nat),ee n p->Dn c p m->qh c p (m-(q+1)) m->q+1<=m->m+f<=n->
  eE n c (kas_desc f p m q)/\ee n (aC c (kas_desc f p m q)).1/\Dn c (aC c (kas_desc f p m q)).1 (aC c (kas_desc f p m q)).2.1/\
   qh c (aC c (kas_desc f p m q)).1 ((aC c (kas_desc f p m q)).2.1-((aC c (kas_desc f p m q)).2.2+1)) (aC c (kas_desc f p m q)).2.1/\(aC c (kas_desc f p m q)).2.2+1<=(aC c (kas_desc f p m q)).2.1/\m<=(aC c (kas_desc f p m q)).2.1/\(aC c (kas_desc f p m q)).2.1<=m+f
 |0,p,m,q,P,h,e,u,L=>⟨trivial,P,h,e,u,Zf _,Zf _⟩
 |f+1,p,m,q,P,h,e,u,L=>by
  unfold kas_desc;simp only[eE,aC];cases E:c (p.getD m 0) (p.getD (m-1) 0)with
  |true=>
   simp only[if_true];have as:=o.asym _ _ (P.lt H _) (P.lt H _) E
   have one:∀(d:Array Nat),ee n d->Dn c d m->c (d.getD (m-1) 0) (d.getD m 0)=false->Dn c d (m+1)/\qh c d (m+1-(0+1)) (m+1):=λd r D z=>⟨λi J=>by
    by_cases y:i+1<m
    ·exact D i y
    ·have:i=m-1:=by omega
     subst this;rw[show m-1+1=m by omega];exact z,λa b s t C F=>by
    have:a=m:=by omega
    have:b=m:=by omega
    subst a;subst b;exact o.irr _ (r.lt H _)⟩
   by_cases G:q>0
   ·rw[if_pos G];have r:=mP P (m-(q+1)) m;have D:=jN o H P (by omega:m<=n) (by omega:m<=n) h e
    have z:c ((kas_rev p (m-(q+1)) m).getD (m-1) 0) ((kas_rev p (m-(q+1)) m).getD m 0)=false:=by rw[fY P (by omega) (by omega),im P (by omega) (by omega)];exact o.ntr _ (p.getD (m-1) 0) _ (P.lt H _) (P.lt H _) (P.lt H _) (e _ (m-1) (by omega) (by omega) (by omega) (by omega)) as
    obtain⟨K,v⟩:=one _ r D z;obtain⟨A,g,j,k,l,w,x⟩:=mQ o H f _ (m+1) 0 r K v (by omega) (by omega);exact⟨⟨P.lt H _,P.lt H _,A⟩,g,j,k,l,by omega,by omega⟩
   ·rw[if_neg G];obtain⟨K,v⟩:=one p P h as;obtain⟨A,g,j,k,l,w,x⟩:=mQ o H f p (m+1) 0 P K v (by omega) (by omega);exact⟨⟨P.lt H _,P.lt H _,A⟩,g,j,k,l,by omega,by omega⟩
  |false=>
   simp only[Zr,ZR,eE,aC];cases B:c (p.getD (m-1) 0) (p.getD m 0)with
   |true=>simp only[if_true,aC,eE,and_true];exact⟨⟨P.lt H _,P.lt H _,P.lt H _,P.lt H _⟩,P,h,e,u,Zf _,by omega⟩
   |false=>
    simp only[Zr,ZR]
    have D:Dn c p (m+1):=λi J=>by
     by_cases y:i+1<m
     ·exact h i y
     ·have:i=m-1:=by omega
      subst this;rw[show m-1+1=m by omega];exact B
    have I:qh c p (m+1-(q+1+1)) (m+1):=λa b s t C F=>by
     have R:∀a,m+1-(q+1+1)<=a->a<m+1->c (p.getD a 0) (p.getD (m-1) 0)=false:=λa s t=>by
      by_cases y:a=m
      ·subst y;exact E
      ·exact e a (m-1) (by omega) (by omega) (by omega) (by omega)
     have M:∀a,m+1-(q+1+1)<=a->a<m+1->c (p.getD (m-1) 0) (p.getD a 0)=false:=λa s t=>by
      by_cases y:a=m
      ·subst y;exact B
      ·exact e (m-1) a (by omega) (by omega) (by omega) (by omega)
     exact o.ntr _ _ _ (P.lt H _) (P.lt H _) (P.lt H _) (R a s t) (M b C F)
    obtain⟨A,g,j,k,l,w,x⟩:=mQ o H f p (m+1) (q+1) P D I (by omega) (by omega);exact⟨⟨P.lt H _,P.lt H _,P.lt H _,P.lt H _,A⟩,g,j,k,l,by omega,by omega⟩
structure Ds (n:Nat)(c:Nat->Nat->Bool)(r:Nat×Array Nat):Prop where
 pa:ee n r.2
 up:Up c r.2 r.1
 pos:1<=r.1
 le:r.1<=n
theorem zx(e:0<n){p:Array Nat}(P:ee n p){m:Nat}(h:Dn c p m)(h1:1<=m)(H:m<=n):eE n c (kas_tail3 m n p)/\Ds n c (aC c (kas_tail3 m n p)):=by
 have a:=mP P 0 m
 have u:Up c (kas_rev p 0 m) m:=λi j=>by
  rw[fY P H (by omega),fY P H (by omega)];have:=h (0+m-1-(i+1)) (by omega)
  rwa [show 0+m-1-(i+1)+1=0+m-1-i by omega]at this
 obtain⟨A,b,f,d,g⟩:=s9 (c:=c) e a (n-m) m u h1;unfold kas_tail3;rw[il];exact⟨fX A trivial,a,d,ZC h1 b,by show aC c (kas_asc (kas_rev p 0 m) (n-m) m)<=n;omega⟩
theorem zy(o:cW n c)(H:0<n){p:Array Nat}(P:ee n p){m:Nat}(h:Dn c p (m+1))(u:m+1<=n):eE n c (kas_descPart m n p)/\Ds n c (aC c (kas_descPart m n p)):=by
 obtain⟨d,A,e,g,i,j,k⟩:=mQ o H (n-(m+1)) p (m+1) 0 P h (λa b l q r s=>by
  have:a=b:=by omega
  subst this;exact o.irr _ (P.lt H _)) (by omega) (by omega)
 unfold kas_descPart;rw[il];by_cases z:(aC c (kas_desc (n-(m+1)) p (m+1) 0)).2.2>0
 ·have f:=mP A ((aC c (kas_desc (n-(m+1)) p (m+1) 0)).2.1-((aC c (kas_desc (n-(m+1)) p (m+1) 0)).2.2+1)) (aC c (kas_desc (n-(m+1)) p (m+1) 0)).2.1;have D:=jN o H A (by omega) (by omega:(aC c (kas_desc (n-(m+1)) p (m+1) 0)).2.1<=n) e g;have t:=zx (c:=c) H f D (by omega) (by omega);rw[if_pos z];exact⟨fX d (by rw[if_pos z];exact t.1),t.2⟩
 ·have t:=zx (c:=c) H A e (by omega) (by omega);rw[if_neg z];exact⟨fX d (by rw[if_neg z];exact t.1),t.2⟩
theorem Gz(o:cW n c)(H:2<=n){p:Array Nat}(P:ee n p):eE n c (kas_count n p)/\Ds n c (aC c (kas_count n p)):=by
 have h:0<n:=by omega
 obtain⟨j,d,w,A,l⟩:=s9 (c:=c) h P (n-1) 1 (λi f=>by omega) (Zf 1);unfold kas_count;rw[il];generalize s:aC c (kas_asc p (n-1) 1)=m at*
 have k:eE n c (if(m==n)=true then KasT.ret (m,p)else if m>1 then .ask (p.getD 0 0) (p.getD (m-1) 0) λc=>if c=true then .ret (m,p)else kas_descPart m n (kas_rev p 0 m)else kas_descPart m n p)/\
   Ds n c (aC c (if(m==n)=true then KasT.ret (m,p)else if m>1 then .ask (p.getD 0 0) (p.getD (m-1) 0) λc=>if c=true then .ret (m,p)else kas_descPart m n (kas_rev p 0 m)else kas_descPart m n p)):=by
  by_cases e:(m==n)=true
  ·rw[if_pos e];exact⟨trivial,P,A,d,by show m<=n;omega⟩
  ·rw[if_neg e];have t:m≠n:=by simpa using e
   have G:=l (by omega);have as:=o.asym _ _ (P.lt h _) (P.lt h _) G;by_cases z:m>1
   ·rw[if_pos z];simp only[eE,aC];cases r:c (p.getD 0 0) (p.getD (m-1) 0)with
    |true=>simp only[if_true,eE,aC,and_true];exact⟨⟨P.lt h _,P.lt h _⟩,P,A,d,by show m<=n;omega⟩
    |false=>
     simp only[Zr,ZR];have eq:qh c p 0 m:=λa b _ H _ x=>by have R:=A.le o h P (Z2 a) H;have u:=A.le o h P (show b<=m-1 by omega) (by omega);exact o.ntr _ (p.getD (m-1) 0) _ (P.lt h _) (P.lt h _) (P.lt h _) (o.ntr _ (p.getD 0 0) _ (P.lt h _) (P.lt h _) (P.lt h _) R r) u
     have g:=mP P 0 m;have E:=zw P (by omega:m<=n) eq
     have D:Dn c (kas_rev p 0 m) (m+1):=λi f=>by
      by_cases y:i+1<m
      ·exact E i (i+1) (by omega) (by omega) (by omega) y
      ·have:i=m-1:=by omega
       subst this;rw[fY P (by omega) (by omega),im P (by omega) (by omega),show m-1+1=m by omega];exact o.ntr _ (p.getD (m-1) 0) _ (P.lt h _) (P.lt h _) (P.lt h _) (eq _ (m-1) (by omega) (by omega) (by omega) (by omega)) as
     obtain⟨T,v⟩:=zy o h g D (by omega);exact⟨⟨P.lt h _,P.lt h _,T⟩,v⟩
   ·rw[if_neg z];have q:m=1:=by omega
    subst q;refine zy o h P (λi f=>?_) (by omega);have:i=0:=by omega
    subst this;exact as
 exact⟨fX j (by rw[s];exact k.1),k.2⟩
theorem s_(o:cW n c)(h:0<n){p:Array Nat}(P:ee n p){k:Nat}(u:Up c p k):∀(f l r:Nat),r<=k->l<=r->r-l<=f->(∀i,i<l->c (p.getD k 0) (p.getD i 0)=false)->(∀i,r<=i->i<k->c (p.getD k 0) (p.getD i 0)=true)->
  eE n c (kas_place p k f l r)/\aC c (kas_place p k f l r)<=k/\(∀i,i<aC c (kas_place p k f l r)->c (p.getD k 0) (p.getD i 0)=false)/\(∀i,aC c (kas_place p k f l r)<=i->i<k->c (p.getD k 0) (p.getD i 0)=true)
 |0,l,r,b,t,q,H,a=>by
  have:l=r:=by omega
  subst this;exact⟨trivial,b,H,a⟩
 |f+1,l,r,b,t,q,H,a=>by
  unfold kas_place;by_cases z:l>=r
  ·rw[if_pos z];have:l=r:=by omega
   subst this;exact⟨trivial,b,H,a⟩
  ·rw[if_neg z];simp only[eE,aC];cases E:c (p.getD k 0) (p.getD ((l+r)/2) 0)with
   |true=>
    simp only[if_true]
    have j:∀i,(l+r)/2<=i->i<k->c (p.getD k 0) (p.getD i 0)=true:=λi m s=>by
     cases e:c (p.getD k 0) (p.getD i 0)with
     |true=>rfl
     |false=>have:=o.ntr _ (p.getD i 0) _ (P.lt h _) (P.lt h _) (P.lt h _) e (u.le o h P m s);rw[E]at this;cases this
    obtain⟨B,d⟩:=s_ o h P u f l ((l+r)/2) (by omega) (by omega) (by omega) H j;exact⟨⟨P.lt h _,P.lt h _,B⟩,d⟩
   |false=>
    simp only[Zr,ZR]
    have g:∀i,i<(l+r)/2+1->c (p.getD k 0) (p.getD i 0)=false:=λi m=>
     o.ntr _ (p.getD ((l+r)/2) 0) _ (P.lt h _) (P.lt h _) (P.lt h _) E (u.le o h P (by omega) (by omega))
    obtain⟨B,d⟩:=s_ o h P u f ((l+r)/2+1) r b (by omega) (by omega) g a;exact⟨⟨P.lt h _,P.lt h _,B⟩,d⟩
theorem jO(o:cW n c)(H:0<n):∀(f:Nat) (p:Array Nat) (k:Nat),ee n p->Up c p k->k+f=n->eE n c (kas_bin f p k)/\ee n (aC c (kas_bin f p k))/\Up c (aC c (kas_bin f p k)) n
 |0,p,k,P,u,h=>by
  have:k=n:=by omega
  subst this;exact⟨trivial,P,u⟩
 |f+1,p,k,P,u,h=>by
  unfold kas_bin;rw[il];obtain⟨A,r,g,j⟩:=s_ o H P u k 0 k (Zf _) (Z2 _) (by omega) (λi a=>absurd a (Nat.not_lt_zero _)) (λi t v=>by omega);generalize E:aC c (kas_place p k k 0 k)=l at*;have d:ee n (bubble p k (k-l)):=⟨by rw[bubble_size];exact P.size,(bubble_perm _ _ _).trans P.perm⟩
  have at_:∀i,(bubble p k (k-l)).getD i 0=if i=l then p.getD k 0 else if l<i/\i<=k then p.getD (i-1) 0 else p.getD i 0:=λi=>by
   have e:=getElem?_bubble (xs:=p) (src:=k) (by rw[P.size];omega) (k-l) (by omega) i;rw[show k-(k-l)=l by omega]at e;rw[Array.getD_eq_getD_getElem?,e];by_cases z:i=l
   ·rw[if_pos z,if_pos z,Array.getD_eq_getD_getElem?]
   ·rw[if_neg z,if_neg z];by_cases Z:l<i/\i<=k
    ·rw[if_pos Z,if_pos Z,Array.getD_eq_getD_getElem?]
    ·rw[if_neg Z,if_neg Z,Array.getD_eq_getD_getElem?]
  have U:Up c (bubble p k (k-l)) (k+1):=λi a=>by
   rw[at_,at_];by_cases z:i+1=l
   ·rw[if_pos z,if_neg (by omega),if_neg (by omega)];exact g i (by omega)
   ·rw[if_neg z];by_cases Z:l<i+1/\i+1<=k
    ·rw[if_pos Z];by_cases b:i=l
     ·rw[if_pos b];have:=j i (by omega) (by omega);rw[show i+1-1=i by omega];exact o.asym _ _ (P.lt H _) (P.lt H _) this
     ·rw[if_neg b,if_pos (by omega)];have:=u (i-1) (by omega)
      rwa [show i-1+1=i+1-1 by omega]at this
    ·rw[if_neg Z,if_neg (by omega),if_neg (by omega)];exact u i (by omega)
  obtain⟨B,m,q⟩:=jO o H f (bubble p k (k-l)) (k+1) d U (by omega);exact⟨fX A (by rw[E];exact B),m,q⟩
theorem mR(o:cW n c)(h:2<=n):eE n c (kas_sort n)/\ee n (aC c (kas_sort n))/\Up c (aC c (kas_sort n)) n:=by
 have P:ee n (List.toArray (List.range n)):=⟨by simp,.refl _⟩;obtain⟨A,a⟩:=Gz o h P;unfold kas_sort;rw[il];by_cases z:(aC c (kas_count n (List.toArray (List.range n)))).1<n
 ·have e:max (aC c (kas_count n (List.toArray (List.range n)))).1 1=(aC c (kas_count n (List.toArray (List.range n)))).1:=Nat.max_eq_left a.pos;obtain⟨b,B,d⟩:=jO o (by omega) (n-max (aC c (kas_count n (List.toArray (List.range n)))).1 1) _ (max (aC c (kas_count n (List.toArray (List.range n)))).1 1) a.pa (by rw[e];exact a.up) (by omega);rw[if_pos z];exact⟨fX A (by rw[if_pos z];exact b),B,d⟩
 ·rw[if_neg z];have e:(aC c (kas_count n (List.toArray (List.range n)))).1=n:=by have:=a.le;omega
  refine⟨fX A (by rw[if_neg z];trivial),a.pa,?_⟩;have:=a.up
  rwa [e]at this
end
end Py
section
set_option autoImplicit false
namespace Py
open PySem PySem.W PySem.Spec PyProof.Rows
noncomputable def cb(n:Nat)(c:Nat->Nat->Bool)(i:Nat):Nat:=((List.range n).filter λj=>c j i).length
section
variable {κ:SortKind}
theorem mS{c:Nat->Nat->Bool}(o:cW its.length c)(l:∀i j,i<its.length->j<its.length->its.getD i Value.none=its.getD j Value.none->cb its.length c i=cb its.length c j)(k:2<=its.length)(H:its.length<64)
  (b:∀i j C,i<its.length->j<its.length->C (c i j) s->kas_ask prog w A κ its i j C s) {Q:SortSt->Shared->Prop}
  (h:∀(S:SortSt) (p:List Nat),failedOf S=none->(arrOf S).map (·.2)=List.toArray (p.map λi=>its.getD i Value.none)->p.Perm (List.range its.length)->p.Pairwise (λi j=>c j i=false)->Q S s):
  wpAny (model prog w) A ((sortRuns').run (SortSt.mk' κ (its.toArray.zip its.toArray) #[] 7 none)) (λr s'=>Q r.2 s') E s:=by
 obtain⟨x,q,y⟩:=mR o k;have P:(aC c (kas_sort its.length)).toList.Perm (List.range its.length):=Array.perm_iff_toList_perm.mp q.perm
 have v:(aC c (kas_sort its.length)).toList.Pairwise (λi j=>c j i=false):=by
  rw[List.pairwise_iff_getElem];intro i j m n f;have u:(aC c (kas_sort its.length)).size=its.length:=q.size;have d:i<(aC c (kas_sort its.length)).size:=by simpa using m
  have g:j<(aC c (kas_sort its.length)).size:=by simpa using n
  have:=y.le o (by omega) q (Nat.le_of_lt f) (by omega:j<its.length);simpa[Array.getD,d,g]using this
 have a:(kas_sort its.length).kasWp (kas_ask prog w A κ its) (λp s'=>p=aC c (kas_sort its.length)/\s'=s) s:=J1 b x ⟨rfl,rfl⟩
 have R:=kat_run (E:=E) (ks:=its) rfl k H (Q:=Q)
  (λp S s' D z Z B=>by obtain⟨rfl,rfl⟩:=B;exact h S _ Z (kat_snds rfl z) P v) a
 exact wpAny_mono R (λr s' t=>t) λ_ _ e=>e
end
end Py
end
namespace Py
structure gJ (P:D->Prop)(f:D->D->Bool):Prop where
 irr:∀x,P x->f x x=false
 asym:∀x y,P x->P y->f x y=true->f y x=false
 ntr:∀x y z,P x->P y->P z->f x y=false->f y z=false->f x z=false
 tot:∀x y,P x->P y->f x y=false->f y x=false->x=y
section
variable {P:D->Prop}{f:D->D->Bool}
theorem zA(o:gJ P f):∀(xs:List D),(∀x∈xs,P x)->bI f xs xs=false
 | [],_=>rfl
 |x::xs,h=>by unfold bI;rw[o.irr x (h x Ze)];simpa using zA o _ λy H=>h y (Zc _ H)
theorem zB(o:gJ P f):∀(xs ys:List D),(∀x∈xs,P x)->(∀x∈ys,P x)->bI f xs ys=true->bI f ys xs=false
 | [],[],_,_,h=>rfl
 | [],_::_,_,_,_=>rfl
 |_::_,[],_,_,h=>by cases h
 |x::xs,y::ys,a,b,h=>by
  unfold bI at h⊢;have p:=a x Ze;have c:=b y Ze;cases e:f x y with
  |true=>rw[o.asym x y p c e];simp
  |false=>
   rw[e]at h;cases E:f y x with
   |true=>simp_all
   |false=>rw[E]at h;exact zB o _ _ (λz H=>a z (Zc _ H)) (λz H=>b z (Zc _ H)) h
theorem lex_tot(o:gJ P f):∀(xs ys:List D),(∀x∈xs,P x)->(∀x∈ys,P x)->bI f xs ys=false->bI f ys xs=false->xs=ys
 | [],[],_,_,_,_=>rfl
 | [],_::_,_,_,h,_=>by cases h
 |_::_,[],_,_,_,h=>by cases h
 |x::xs,y::ys,b,c,h,H=>by
  unfold bI at h H;have p:=b x Ze;have d:=c y Ze;cases e:f x y with
  |true=>simp_all
  |false=>
   cases E:f y x with
   |true=>simp_all
   |false=>rw[e,E]at h H;rw[o.tot x y p d e E,lex_tot o _ _ (λz a=>b z (Zc _ a)) (λz a=>c z (Zc _ a)) h H]
theorem zC(o:gJ P f):∀(xs ys zs:List D),(∀x∈xs,P x)->(∀x∈ys,P x)->(∀x∈zs,P x)->bI f xs ys=false->bI f ys zs=false->bI f xs zs=false
 | [],[],zs,_,_,_,_,h=>h
 | [],_::_,_,_,_,_,h,_=>by cases h
 |_::_,_,[],_,_,_,_,_=>rfl
 |x::xs,[],z::zs,_,_,_,_,h=>by cases h
 |x::xs,y::ys,z::zs,g,i,j,H,a=>by
  have p:=g x Ze;have b:=i y Ze;have c:=j z Ze;unfold bI at H a⊢;cases e:f x y with
  |true=>simp_all
  |false=>
   cases E:f y z with
   |true=>simp_all
   |false=>
    rw[e]at H;rw[E]at a;rw[o.ntr x y z p b c e E];cases d:f z x with
    |true=>rfl
    |false=>have k:=o.ntr y z x b c p E d;have l:=o.ntr z x y c p b d e;rw[k]at H;rw[l]at a;exact zC o _ _ _ (λw hw=>g w (Zc _ hw)) (λw hw=>i w (Zc _ hw)) (λw hw=>j w (Zc _ hw)) H a
end
theorem cP(h:aw .int d=true):∃i,d=.int i:=by cases d<;>first|lia| (simp[aw]at h)
theorem cX{t:ec}(h:aw (.seq t) d=true):∃xs,d=.tup xs/\∀x∈xs,aw t x=true:=by
 cases d with
 |tup xs=>exact⟨_,rfl,λx H=>Zn.mp h x H⟩
 |_=>simp[aw]at h
theorem fZ:∀(t:ec),bU t=true->gJ (λd=>aw t d=true) (bT t)
 | .int,_=>by
  refine⟨λx h=>?_,λx y H a h=>?_,λx y z H a f b c=>?_,λx y H a b c=>?_⟩
  ·obtain⟨i,rfl⟩:=cP h;simp[bT]
  ·obtain⟨i,rfl⟩:=cP H;obtain⟨j,rfl⟩:=cP a;simp[bT]at h⊢;omega
  ·obtain⟨i,rfl⟩:=cP H;obtain⟨j,rfl⟩:=cP a;obtain⟨k,rfl⟩:=cP f;simp[bT]at b c⊢;omega
  ·obtain⟨i,rfl⟩:=cP H;obtain⟨j,rfl⟩:=cP a;simp[bT]at b c;congr 1;omega
 | .seq t,h=>by
  have o:=fZ t h;refine⟨λx h=>?_,λx y H a h=>?_,λx y z H a f b c=>?_,λx y H a b c=>?_⟩
  ·obtain⟨X,rfl,k⟩:=cX h;exact zA o X k
  ·obtain⟨X,rfl,K⟩:=cX H;obtain⟨Y,rfl,e⟩:=cX a;exact zB o X Y K e h
  ·obtain⟨X,rfl,K⟩:=cX H;obtain⟨Y,rfl,e⟩:=cX a;obtain⟨Z,rfl,g⟩:=cX f;exact zC o X Y Z K e g b c
  ·obtain⟨X,rfl,K⟩:=cX H;obtain⟨Y,rfl,e⟩:=cX a;exact congrArg D.tup (lex_tot o X Y K e b c)
noncomputable def dw(t:ec)(d e:D):Bool:= !bT t d e&& !bT t e d
theorem GA{t:ec}(hs:bU t=true){e:D}(h1:aw t d=true)(H:aw t e=true)(h:dw t d e=true):d=e:=by unfold dw at h;simp at h;exact(fZ t hs).tot d e h1 H h.1 h.2
theorem mT{f:D->D->Bool}{x y:D}:bI f (x::xs) (y::ys)=if f x y=true then true else if f y x=true then false else bI f xs ys:=rfl
theorem zD{t:ec}(hs:bU t=true):∀(xs ys:List D),(∀x∈xs,aw t x=true)->(∀x∈ys,aw t x=true)->dw (.seq t) (.tup xs) (.tup ys)=((List.zipWith (dw t) xs ys).all id&&xs.length==ys.length)
 | [],[],_,_=>rfl
 | [],y::ys,_,_=>rfl
 |x::xs,[],_,_=>rfl
 |x::xs,y::ys,h,H=>by
  have i:=zD hs _ _ (λw hw=>h w (Zc _ hw)) λw hw=>H w (Zc _ hw);cases e:bT t x y with
  |true=>simp[dw,bT,bI,e]
  |false=>
   cases E:bT t y x with
   |true=>simp[dw,bT,bI,E]
   |false=>
    have a:dw t x y=true:=by simp[dw,e,E]
    have b:dw (.seq t) (.tup (x::xs)) (.tup (y::ys))=dw (.seq t) (.tup xs) (.tup ys):=by show(!bI _ _ _&& !bI _ _ _)=(!bI _ _ _&& !bI _ _ _);rw[mT,mT,e,E];simp
    simp_all
theorem allO_map(f:D->D->Bool):∀(xs ys:List D) (g:D->D->Option Bool),(∀x∈xs,∀y∈ys,g x y=some (f x y))->a_ (List.zipWith g xs ys)=some ((List.zipWith f xs ys).all id)
 | [],_,_,_=>rfl
 |_::_,[],_,_=>rfl
 |x::xs,y::ys,g,h=>by
  have i:=allO_map f _ _ g λa H b d=>h a (Zc _ H) b (Zc _ d)
  show(match g x y,a_ _ with
   |some b,some c=>some _
   |_,_=>none)=_
  simp_all
theorem zE{t:ec}(hs:bU t=true){eq lt:D->D->Option Bool}:∀(xs ys:List D),(∀x∈xs,aw t x=true)->(∀x∈ys,aw t x=true)->(∀x∈xs,∀y∈ys,eq x y=some (dw t x y)/\lt x y=some (bT t x y))->vU eq lt xs ys=some (bI (bT t) xs ys)
 | [],[],_,_,_=>rfl
 | [],_::_,_,_,_=>rfl
 |_::_,[],_,_,_=>rfl
 |x::xs,y::ys,H,d,h=>by
  have i:=zE hs _ _ (λw hw=>H w (Zc _ hw)) (λw hw=>d w (Zc _ hw)) λa f b g=>h a (Zc _ f) b (Zc _ g);unfold vU;rw[mT];cases e:bT t x y with
  |true=>
   have E:dw t x y=false:=by simp[dw,e]
   simp_all
  |false=>
   cases c:bT t y x with
   |true=>
    have E:dw t x y=false:=by simp[dw,c]
    simp_all
   |false=>
    have E:dw t x y=true:=by simp[dw,e,c]
    simp_all
theorem GB(S:af):∀(t:ec),bU t=true->∀n,cF t<=n->∀d e,aw t d=true->aw t e=true->b7 S n d e=some (dw t d e)/\iY S n d e=some (bT t d e)
 | .int,_,0,h,_,_,_,_=>by simp[cF]at h
 | .int,_,n+1,_,d,e,a,b=>by
  obtain⟨i,rfl⟩:=cP a;obtain⟨j,rfl⟩:=cP b;refine⟨?_,rfl⟩;show some (i==j)=some (!decide (i<j)&& !decide (j<i));congr 1;by_cases z:i=j
  ·subst z;simp
  ·rcases Int.lt_or_gt_of_ne z with y|y
   ·simp[z,y]
   ·have:¬i<j:=by omega
    simp[z,y]
 | .seq t,H,0,h,_,_,_,_=>by simp[cF]at h
 | .seq t,H,n+1,h,d,e,a,b=>by obtain⟨X,rfl,k⟩:=cX a;obtain⟨Y,rfl,K⟩:=cX b;have I:=GB S t H n (by simpa[cF]using h);refine⟨?_,zE (t:=t) H X Y k K λx c y f=>I x y (k x c) (K y f)⟩;show(a_ (List.zipWith (b7 S n) X Y)).map (· &&X.length==Y.length)=_;rw[allO_map (dw t) X Y _ λx c y f=>(I x y (k x c) (K y f)).1,zD (t:=t) H X Y k K];rfl
theorem mU(f:D->D->Bool)(x:D):∀l,(dD f x l).Perm (x::l)
 | []=>.refl _
 |y::Y=>by
  unfold dD;split
  ·exact .refl _
  ·exact((mU f x _).cons y).trans (.swap _ _ _)
theorem tf(f:D->D->Bool)(xs:List D):(ek f xs).Perm xs:=by
 have k:∀(xs a:List D),(xs.foldl (λa x=>dD f x a) a).Perm (a++xs):=by
  intro xs
  induction xs with
  |nil=>simp_all
  |cons x xs i=>intro a;refine(i _).trans ?_;refine((mU f x _).append_right _).trans ?_;exact List.perm_middle.symm
 simpa[ek]using k _ []
theorem zF{P:D->Prop}{f:D->D->Bool}(o:gJ P f)(x:D)(p:P x):∀l,(∀y∈l,P y)->l.Pairwise (λa b=>f b a=false)->(dD f x l).Pairwise (λa b=>f b a=false)
 | [],_,_=>by simp[dD]
 |y::j,d,h=>by
  unfold dD;have e:=d y Ze;obtain⟨g,i⟩:=ZW.mp h;split
  ·rename_i c;refine ZW.mpr ⟨λz H=>?_,h⟩;have Y:=o.asym x y p e c;rcases Zk.mp H with rfl|H
   ·exact Y
   ·exact o.ntr z y x (d z (Zc _ H)) e p (g z H) Y
  ·refine ZW.mpr ⟨λz H=>?_,zF o x p _ (λw hw=>d w (Zc _ hw)) i⟩;rcases Zk.mp ((mU f x _).mem_iff.mp H)with rfl|H
   ·simp_all
   simp_all
theorem zG{P:D->Prop}{f:D->D->Bool}(o:gJ P f)(xs:List D)(e:∀x∈xs,P x):(ek f xs).Pairwise (λa b=>f b a=false):=by
 have k:∀(xs A:List D),(∀x∈xs,P x)->(∀x∈A,P x)->A.Pairwise (λa b=>f b a=false)->(xs.foldl (λA x=>dD f x A) A).Pairwise λa b=>f b a=false:=by
  intro xs
  induction xs with
  |nil=>intro A _ _ h;exact h
  |cons x xs i=>
   intro A c d h;have p:=c x Ze;refine i _ (λy H=>c y (Zc _ H)) (λy H=>?_) (zF o x p _ d h);rcases Zk.mp ((mU f x _).mem_iff.mp H)with rfl|H
   ·exact p
   simp_all
 exact k _ _ e (by simp) .nil
theorem zH{t:ec}(hs:bU t=true)(h:∀x∈xs,aw t x=true)(p:ys.Perm xs)(s:ys.Pairwise (λa b=>bT t b a=false)):ys=ek (bT t) xs:=by have o:=fZ t hs;refine List.Perm.eq_of_pairwise (λa b d e H c=>?_) s (zG o _ h) (p.trans (tf _ _).symm);exact o.tot a b (h a (p.mem_iff.mp d)) (h b ((tf _ _).mem_iff.mp e)) c H
open PySem PySem.W PySem.Spec PyProof.Rows
def io(its:Lv)(c:Nat->Nat->Bool)(out:Lv):Prop:=∃p:List Nat,out=p.map (λi=>its.getD i Value.none)/\p.Perm (List.range its.length)/\p.Pairwise (λi j=>c j i=false)
theorem zI{V:Nat}{c:Nat->Nat->Bool}{P:PySem.Fin->Shared->Prop}(B:s.heap.get? a=some (seqObj "list" its.toArray V))(D:its.length<64)
  (I:2<=its.length->∃κ:SortKind,cW its.length c/\(∀i j,i<its.length->j<its.length->its.getD i Value.none=its.getD j Value.none->cb its.length c i=cb its.length c j)/\∀h':Heap,(∀b o,b≠a->s.heap.get? b=some o->h'.get? b=some o)->
   (∀(J:SortKind->Shared->Prop),J κ {s with heap:=h'}->wpAny (model prog w) A (keyKind' its.toArray) J E {s with heap:=h'})/\
   ∀i j C,i<its.length->j<its.length->C (c i j) {s with heap:=h'}->kas_ask prog w A κ its i j C {s with heap:=h'})
  (M:∀h' q out,(∀b o,b≠a->s.heap.get? b=some o->h'.get? b=some o)->h'.get? a=some (seqObj "list" (List.toArray out) q)->io its c out->P (.done (.ret .none)) {s with heap:=h'}):
  wpAny (model prog w) A (Builtin.«list.sort» ⟨[.ref a],[]⟩) P E s:=by
 have l:its.length<=sizeLine:=by rw[sizeLine_eq];omega
 have Y:a<s.heap.objs.size:=Zi B;have W:=Z5 s.heap a (Obj.mapSeq λ_=>(#[]:Av));obtain⟨u,x⟩:∃u,(s.heap.update a (Obj.mapSeq λ_=>(#[]:Av))).get? a=some (seqObj "list" #[] u):=⟨_,get?_update_seq B λ_=> #[]⟩
 have k:∀b o,b≠a->s.heap.get? b=some o->(((s.heap.update a (Obj.mapSeq λ_=>(#[]:Av))).push (seqObj "tuple" its.toArray 0)).push (seqObj "list" #[] 0)).get? b=some o:=λb o z e=>
  Zb _ (Zb _ ((W.2 b z).trans e))
 have m:(((s.heap.update a (Obj.mapSeq λ_=>(#[]:Av))).push (seqObj "tuple" its.toArray 0)).push (seqObj "list" #[] 0)).get? a=some (seqObj "list" #[] u):=Zb _ (Zb _ x);rw[list_sort_plain];refine Za (listItems_at B rfl ?_);refine Za (listUpdate_at B rfl ?_ (by rw[Zs];exact l) (Z2 _));refine Za (seqEpoch_at x rfl ?_);refine Za (wpAny_newTuple ?_ (by show its.length<=_;exact l));refine Za (wpAny_newList ?_ (Z2 _));refine ZL ?_;show wpAny (model prog w) A _ P E {s with heap:=((s.heap.update a (Obj.mapSeq λ_=>(#[]:Av))).push (seqObj "tuple" its.toArray 0)).push (seqObj "list" #[] 0)};generalize((s.heap.update a (Obj.mapSeq λ_=>(#[]:Av))).push (seqObj "tuple" its.toArray 0)).push (seqObj "list" #[] 0)=g at*
 have fin:∀(S:SortSt) (out:Lv),(arrOf S).map (·.2)=List.toArray out->failedOf S=none->out.length=its.length->io its c out->
   wpAny (model prog w) A (do
    let t:=(<-seqEpoch a) !=u
    Builtin.List.listUpdate (.ref a) λ_=>(arrOf S).map (·.2)
    if let some e:=failedOf S then rule "list.sort.comparison-raised";throw e
    if t then rule "list.sort.modified";raiseError "ValueError" "list modified during sort"
    ret .none) P E {s with heap:=g}:=by
  intro S out H v d F;have X:=Z5 g a (Obj.mapSeq λ_=>List.toArray out);obtain⟨q,G⟩:∃q,(g.update a (Obj.mapSeq λ_=>List.toArray out)).get? a=some (seqObj "list" (List.toArray out) q):=⟨_,get?_update_seq m λ_=>List.toArray out⟩;rw[H];refine Za (seqEpoch_at m rfl ?_);refine Za (listUpdate_at m rfl ?_ (Z2 _) (by rw[Zs,d];exact Nat.le_succ_of_le l));rw[v];simp only[bne_self_eq_false,Zr,ZR];exact Zd (M _ q out (λb o z e=>(X.2 b z).trans (k b o z e)) G F)
 by_cases n:2<=its.length
 ·have f:¬its.toArray.size<2:=by rw[Zs];omega
  rw[if_neg f,if_neg f];obtain⟨κ,o,y,I⟩:=I n;obtain⟨T,U⟩:=I g k;refine Za (T _ ?_)
  have R:=mS (E:=E) o y n D U (Q:=λS L=>L={s with heap:=g}/\failedOf S=none/\∃out:Lv,(arrOf S).map (·.2)=List.toArray out/\out.length=its.length/\io its c out)
   (λS p v H K O=>⟨rfl,v,_,H,by rw[Zm,K.length_eq,List.length_range],p,rfl,K,O⟩)
  refine Za (wpAny_mono R (λr L N=>?_) λ_ _ e=>e);obtain⟨⟨⟩,S⟩:=r;obtain⟨rfl,v,out,H,d,F⟩:=N;exact fin S _ H v d F
 ·have f:its.toArray.size<2:=by rw[Zs];omega
  rw[if_pos f,if_pos f];refine Za (Zd ?_)
  show wpAny (model prog w) A (do
    let t:=(<-seqEpoch a) !=u
    Builtin.List.listUpdate (.ref a) λ_=>(arrOf (SortSt.mk' general' (its.toArray.zip its.toArray) #[] 7 none)).map (·.2)
    if let some e:=failedOf (SortSt.mk' general' (its.toArray.zip its.toArray) #[] 7 none)then rule "list.sort.comparison-raised";throw e
    if t then rule "list.sort.modified";raiseError "ValueError" "list modified during sort"
    ret .none) P E {s with heap:=g}
  refine fin _ its ?_ rfl rfl ⟨List.range its.length,?_,.refl _,?_⟩
  ·show(its.toArray.zip its.toArray).map (·.2)=its.toArray;apply Array.toList_inj.mp;rw[Array.toList_map,Array.toList_zip];exact List.map_snd_zip (Zf _)
  ·refine List.ext_getElem (by simp) λi g n=>?_;simp[g]
  ·match its,n with
   | [],_=>simp
   | [_],_=>simp
   |_::_::_,n=>simp at n
end Py
namespace Py
open PySem PySem.W PySem.Spec PyProof.Rows L2
theorem GC{b:Bool}{l:Addr}{c:Nat->Nat->Bool}{Q:Vs}(x:b6 b s.heap l its.toArray)(g:its.length<64)
  (r:2<=its.length->∃κ:SortKind,cW its.length c/\(∀i j,i<its.length->j<its.length->its.getD i Value.none=its.getD j Value.none->cb its.length c i=cb its.length c j)/\∀h':Heap,(∀b o,s.heap.get? b=some o->h'.get? b=some o)->
   (∀(E':Vs) (u:SortKind->Shared->Prop),u κ {s with heap:=h'}->wpAny (model prog w) A.in1.in1 (keyKind' its.toArray) u E' {s with heap:=h'})/\
   ∀i j C,i<its.length->j<its.length->C (c i j) {s with heap:=h'}->kas_ask prog w A.in1.in1 κ its i j C {s with heap:=h'})
  (z:∀(h1 h':Heap) f out,(∀b o,s.heap.get? b=some o->h1.get? b=some o)->(∀b o,h1.get? b=some o->h'.get? b=some o)->h'.get? h1.objs.size=some (seqObj "list" (List.toArray out) f)->io its c out->Q (.ref h1.objs.size) {s with heap:=h'}):
  wpAny (model prog w) A (call (.builtin "sorted") [.ref l]) Q E s:=by
 refine Calls.call_function_entry kind_sorted plain_sorted entry_sorted (args_sorted1 _) ?_;unfold Builtin.«sorted»;refine Za (m:=checkCount "sorted" 1 1 _) (Zd ?_);have H:its.length<=sizeLine:=by rw[sizeLine_eq];omega
 have d:its.toArray.size<=sizeLine:=by rw[Zs];exact H
 have G:∀h1:Heap,(∀b o,s.heap.get? b=some o->h1.get? b=some o)->wpAny (model prog w) A.in1 (do
   let l <-newList its
   let _ <-holding [l] (call (.builtin "list.sort") [l])
   ret l) (λfin F=>∃v,fin=.done (.ret v)/\Q v F) E {s with heap:=h1}:=by
  intro h1 k;refine Za (wpAny_newList ?_ H);have a:(h1.push (seqObj "list" its.toArray 0)).get? h1.objs.size=some (seqObj "list" its.toArray 0):=Zh _ rfl;refine Za (ZL (ZM slot_list_sort ⟨_,a,rfl⟩ entry_list_sort ?body (args_list_sort _)))
  case body=>
   refine zI (c:=c) (s:={s with heap:=h1.push (seqObj "list" its.toArray 0)}) a g (λy=>?_) λh' f out K e O=>?_
   ·obtain⟨κ,o,S,r⟩:=r y;refine⟨κ,o,S,λh' K=>?_⟩;obtain⟨B,D⟩:=r h' λb o e=>K b o (Zt (Zi (k b o e))) (Zb _ (k b o e));exact⟨B _,D⟩
   ·exact⟨_,rfl,Zd ⟨_,rfl,z h1 h' f out k (λb o e=>K b o (Zt (Zi e)) (Zb _ e)) e O⟩⟩
 cases b with
 |true=>obtain⟨o,t,p,n,q⟩:=x;exact Za (wpAny_collect_seq l (.inl rfl) t p q (λh1 k=>by simpa using G h1 k) d)
 |false=>obtain⟨o,t,p,n,q⟩:=x;exact Za (wpAny_collect_seq l (.inr rfl) t p q (λh1 k=>by simpa using G h1 k) d)
theorem GD(I:Inv X pq σ H s)(a:aM X.K ⟨X.mg,F⟩ μ S H){t:ec}(hs:bU t=true)(i:cF t<=40)(h:A.units+40<cLine){e:D}{b:V}{z:Value}(h1:aw t d=true)(g:aw t e=true)
  (r:Rep X.K ⟨X.mg,F⟩ μ H d v) (q:RelV v u) (R:Rep X.K ⟨X.mg,F⟩ μ H e b) (Q:RelV b z):PySem.SeqAt.EqAt A s u z (dw t d e)/\gC A s u z (bT t d e):=by
 obtain⟨c,f⟩:=GB S t hs _ i d e h1 g;exact⟨(vT I a _ A h d e v _ u z _ r q R Q c).2.2,jk I a _ A h d e v _ u z _ r q R Q f⟩
theorem zJ{prog:Program}{w:World}{A:Around}{Q:Bool->Shared->Prop}{t:ec}{b:Bool}(g:b=true->t=.int):∀(ds es:List D) (us zs:Lv) (i:Nat),(∀d∈ds,aw t d=true)->(∀e∈es,aw t e=true)->ds.length=us.length->es.length=zs.length->
  (∀(j:Nat) d e u z,ds[j]?=some d->es[j]?=some e->us[j]?=some u->zs[j]?=some z->PySem.SeqAt.EqAt A s u z (dw t d e)/\gC A s u z (bT t d e)/\(t=.int->∃a b ta tb,d=.int a/\e=.int b/\u=.int a ta/\z=.int b tb))->
  Q (bI (bT t) ds es) s->KatLex prog w A b (decide (us.length<zs.length)) Q (us.zip zs) i s
 | [],[],us,zs,i,_,_,L,l,_,q=>by have E:us=[]:=ZI L.symm;have f:zs=[]:=ZI l.symm;subst E;subst f;exact kat_nil q
 | [],e::es,us,zs,i,_,_,L,l,_,q=>by
  have E:us=[]:=ZI L.symm;subst E;have:decide (([]:Lv).length<zs.length)=true:=by simp at l⊢;omega
  rw[this,List.zip_nil_left];exact kat_nil q
 |d::ds,[],us,zs,i,_,_,L,l,_,q=>by
  have E:zs=[]:=ZI l.symm;subst E;have:decide (us.length<([]:Lv).length)=false:=by simp
  rw[this,List.zip_nil_right];exact kat_nil q
 |d::ds,e::es,[],zs,i,_,_,L,_,_,_=>by simp at L
 |d::ds,e::es,_::_,[],i,_,_,_,l,_,_=>by simp at l
 |d::ds,e::es,u::us,z::zs,i,I,J,L,l,h,q=>by
  obtain⟨M,O,P⟩:=h 0 d e u z rfl rfl rfl rfl;have G:decide ((u::us).length<(z::zs).length)=decide (us.length<zs.length):=by simp
  rw[G,ZV];refine kat_cons (M prog w _ _ ?_);rw[mT]at q
  have N:∀{k:Bool},bT t d e=k->dw t d e=false->Q k s->KatGo prog w A b (decide (us.length<zs.length)) Q u z (us.zip zs) i false s:=λ{k} n _ o=>by
   clear q;refine kat_no ?_;cases H:(b&&i==0)with
   |false=>exact kat_one u z (O prog w _ _ (by rw[n];exact o))
   |true=>simp only[ZY]at H;obtain⟨a,B,ta,tb,rfl,rfl,rfl,rfl⟩:=P (g H.1);have K:=g H.1;subst K;exact oneLt_int (by rw[show decide (a<B)=k from n];exact o)
  cases E:bT t d e with
  |true=>
   have c:dw t d e=false:=by simp[dw,E]
   rw[E]at q;rw[c];exact N E c (by simpa using q)
  |false=>
   cases f:bT t e d with
   |true=>
    have c:dw t d e=false:=by simp[dw,E,f]
    rw[E,f]at q;rw[c];exact N E c (by simpa using q)
   |false=>
    have c:dw t d e=true:=by simp[dw,E,f]
    rw[E,f]at q;rw[c];refine kat_yes (zJ g ds es us zs (i+1) (λx m=>I x (Zc _ m)) (λx m=>J x (Zc _ m)) (by simpa using L) (by simpa using l) (λj C F U Z p r v y=>h (j+1) C F U Z p r v y) (by simpa using q))
end Py
namespace Py
open PySem PySem.W PySem.Spec PyProof.Rows L2
end Py
namespace Py
open PySem PySem.W PySem.Spec PyProof.Rows L2
noncomputable def ip:ec->String
 | .int=>"int"
 |_=>"tuple"
theorem jP(I:Inv X pq σ H s){t:ec}(hs:bU t=true)(h:aw t d=true)(r:Rep X.K ⟨X.mg,F⟩ μ H d v)(q:RelV v u):Looks (model X.prog X.w) s.heap (typeOf u) (.type (ip t)):=by
 have tup:∀x,d=.tup x->Looks (model X.prog X.w) s.heap (typeOf u) (.type "tuple"):=by
  rintro x rfl;obtain⟨a,vs,rfl,c,_⟩:=bP r;cases q;obtain⟨e,_,p,_⟩:=I.tuple c;obtain⟨o,b,f,_⟩:=p;have:=show Looks (model X.prog X.w) _ (typeOf (.ref a)) _ from(Looks.ld b).andThen .now
  simp_all
 cases t with
 |int=>obtain⟨i,rfl⟩:=cP h;cases aI r;obtain⟨T,rfl⟩:=q;exact(show Looks _ _ _ _ from .now)
 |seq t=>obtain⟨x,rfl,_⟩:=cX h;exact tup _ rfl
theorem zK(I:Inv X pq σ H s){t:ec}(hs:bU t=true):∀(ys:List D) (vs:List V) (its:Lv),(∀d∈ys,aw (.seq t) d=true/\d≠.tup [])->aj X.K ⟨X.mg,F⟩ μ H ys vs->Vals vs its->
  ∃fs,KatTups s.heap its fs/\fs.length=its.length/\∀f∈fs,Looks (model X.prog X.w) s.heap (typeOf f) (.type (ip t))
 | [],vs,its,_,r,q=>by subst r;cases q;exact⟨_,KatTups.nil,rfl,λ_ h=>nomatch h⟩
 |d::ys,vs,its,h,r,q=>by
  obtain⟨v,O,rfl,A,B⟩:=r.uncons;cases q with
  |cons Q z=>
   obtain⟨fs,K,J,L⟩:=zK I hs _ _ _ (λe l=>h e (Zc _ l)) B z;obtain⟨i,G⟩:=h d Ze;obtain⟨c,rfl,y⟩:=cX i;cases c with
   |nil=>simp_all
   |cons x c=>
    obtain⟨a,as,rfl,u,R⟩:=bP A;cases Q;obtain⟨N,C,p,_⟩:=I.tuple u;obtain⟨w,W,rfl,E,_⟩:=R.uncons;cases C with
    |cons P M=>
     rename_i f U;obtain⟨o,m,j,n,k⟩:=p;refine⟨f::fs,KatTups.cons m j k (by simp) K,by simp_all,λg b=>?_⟩;rcases Zk.mp b with rfl|b
     ·exact jP I hs (y x Ze) E P
     simp_all
theorem GF(I:Inv X pq σ H s)(sk:aM X.K ⟨X.mg,F⟩ μ S H){t:ec}(hs:bU t=true)(hd:cF t<=40)(hu:A.units+42<cLine){e:D}{y:V}{z:Value}(h1:aw (.seq t) d=true)(h2:aw (.seq t) e=true)
  (r1:Rep X.K ⟨X.mg,F⟩ μ H d v) (q1:RelV v u) (r2:Rep X.K ⟨X.mg,F⟩ μ H e y) (q2:RelV y z) {C:Bool->Shared->Prop}  (hC:C (bT (.seq t) d e) s):wpAny (model X.prog X.w) A (keyLt' (tuples' (Value.type (ip t) !=Value.type "tuple")) u z) C E s:=by
 obtain⟨B,rfl,c⟩:=cX h1;obtain⟨Y,rfl,f⟩:=cX h2;obtain⟨a,as,rfl,ha,r⟩:=bP r1;obtain⟨b,bs,rfl,h,R⟩:=bP r2;cases q1;cases q2;obtain⟨U,q,pa,_⟩:=I.tuple ha;obtain⟨Z,x,pb,_⟩:=I.tuple h;obtain⟨oa,T,_,na,M⟩:=pa;obtain⟨ob,W,_,nb,N⟩:=pb;refine kat_lt T M W N ?_;have l1:B.length=U.length:=by rw[r.length,q.length]
 have l2:Y.length=Z.length:=by rw[R.length,x.length]
 have:=zJ (prog:=X.prog) (w:=X.w) (A:=A) (s:=s) (Q:=C) (t:=t) (b:=(Value.type (ip t) !=Value.type "tuple")) (λh=>?_) B Y U Z 0 c f l1 l2 (λj d e u z g G g3 g4=>?_) hC
 ·simpa using this
 ·cases t with
  |int=>rfl
  |seq t=>exact absurd h (by show ¬((Value.type "tuple" !=Value.type "tuple")=true);decide)
 ·obtain⟨w1,O,K⟩:=r.get g;obtain⟨w2,P,m⟩:=R.get G;obtain⟨u',k,n⟩:=q.get O;obtain⟨z',l,o⟩:=x.get P;rw[g3]at k;cases k;rw[g4]at l;cases l;obtain⟨J,L⟩:=GD I sk hs hd (A:=A) (by omega) (c d (Zu g)) (f e (Zu G)) K n m o;refine⟨J,L,λht=>?_⟩;subst ht;obtain⟨i,rfl⟩:=cP (c d (Zu g));obtain⟨j,rfl⟩:=cP (f e (Zu G));cases aI K;cases aI m;obtain⟨ta,rfl⟩:=n;obtain⟨tb,rfl⟩:=o;exact⟨i,j,ta,tb,rfl,rfl,rfl,rfl⟩
section
variable {t:ec}{vs:List V}
theorem jQ(h:fP t ys=true):bU t=true:=by
 cases t with
 |int=>rfl
 |seq t=>unfold fP at h;simp only[ZY]at h;exact h.1
theorem J2(h:∀y∈ys,aw t y=true)(r:aj X.K ⟨X.mg,F⟩ μ H ys vs)(a:Vals vs its):∀i,i<its.length->∃d v u,ys[i]?=some d/\vs[i]?=some v/\its[i]?=some u/\aw t d=true/\Rep X.K ⟨X.mg,F⟩ μ H d v/\RelV v u/\ys.getD i .non=d/\its.getD i Value.none=u:=λi c=>by
 have l:=r.length;have L:=a.length;have e:ys[i]?=some ys[i]:=Zj _;obtain⟨v,E,k⟩:=r.get e;obtain⟨u,b,K⟩:=a.get E
 grind
theorem zL(I:Inv X pq σ H s)(sk:aM X.K ⟨X.mg,F⟩ μ S H)(hu:X.A.units+64<cLine)(O:cF t<=40)(n:∀y∈ys,aw t y=true)(A:fP t ys=true)(rr:aj X.K ⟨X.mg,F⟩ μ H ys vs)(hv:Vals vs its)(h2:2<=its.length):
  ∃κ:SortKind,cW its.length (λi j=>bT t (ys.getD i .non) (ys.getD j .non))/\(∀i j,i<its.length->j<its.length->its.getD i Value.none=its.getD j Value.none->cb its.length (λi j=>bT t (ys.getD i .non) (ys.getD j .non)) i=cb its.length (λi j=>bT t (ys.getD i .non) (ys.getD j .non)) j)/\∀h':Heap,(∀b o,s.heap.get? b=some o->h'.get? b=some o)->
   (∀(E':Vs) (W:SortKind->Shared->Prop),W κ {s with heap:=h'}->wpAny (model X.prog X.w) X.A.in1.in1 (keyKind' its.toArray) W E' {s with heap:=h'})/\
   ∀i j C,i<its.length->j<its.length->C (bT t (ys.getD i .non) (ys.getD j .non)) {s with heap:=h'}->kas_ask X.prog X.w X.A.in1.in1 κ its i j C {s with heap:=h'}:=by
 have Q:bU t=true:=jQ A;have lo:=fZ t Q;have at_:=J2 n rr hv
 have V:cW its.length (λi j=>bT t (ys.getD i .non) (ys.getD j .non)):=by
  have ty:∀i,i<its.length->aw t (ys.getD i .non)=true:=λi a=>by obtain⟨d,v,u,Z,e2,E,k1,k2,k3,k4,k5⟩:=at_ i a;rw[k4];exact k1
  exact⟨λi a=>lo.irr _ (ty i a),λi j a l=>lo.asym _ _ (ty i a) (ty j l),λi j k a l hk=>lo.ntr _ _ _ (ty i a) (ty j l) (ty k hk)⟩
 have p:∀i j,i<its.length->j<its.length->its.getD i Value.none=its.getD j Value.none->cb its.length (λi j=>bT t (ys.getD i .non) (ys.getD j .non)) i=cb its.length (λi j=>bT t (ys.getD i .non) (ys.getD j .non)) j:=λi j a l P=>by obtain⟨d,v,u,Z,e2,E,m,r,w,B,D⟩:=at_ i a;obtain⟨Y,v',u',K,L,M,g,G,c,e,f⟩:=at_ j l;rw[D,f]at P;subst P;have ev:v=v':=w.inj c;subst ev;have:=xm I sk 40 d Y v _ r G (GB S t Q 40 O d Y m g).1;have hde:=GA Q m g this;subst hde;unfold cb;simp only[B,e]
 have hu2:(X.A.in1.in1).units+42<cLine:=by show X.A.units+1+1+42<cLine;omega
 cases t with
 |int=>
  refine⟨oneType',V,p,λh' kp=>⟨λE' W q=>?_,λi j C a l N=>?_⟩⟩
  ·have J:Inv X pq σ H {s with heap:=h'}:=I.kept (t':=s.toks) kp;refine kas_kind (T:=.type "int") h2 (λu hu=>?_) (by decide) (by decide) q;obtain⟨i,a,rfl⟩:=ZK.mp hu;obtain⟨d,v,u,Z,e2,E,m,r,w,B,D⟩:=at_ i a;rw[Zj a]at E;cases E;exact jP (t:=.int) J rfl m r w
  ·obtain⟨d,v,u,Z,e2,E,m,r,w,B,D⟩:=at_ i a;obtain⟨Y,v',u',K,L,M,g,G,c,e,f⟩:=at_ j l;unfold kas_ask;rw[D,f];rw[B,e]at N;obtain⟨x,rfl⟩:=cP m;obtain⟨y,rfl⟩:=cP g;cases aI r;cases aI G;obtain⟨ta,rfl⟩:=w;obtain⟨tb,rfl⟩:=c;exact kat_lt_int N
 |seq t=>
  unfold fP at A;have R:=(Bool.and_eq_true_iff.mp A).2;have U:=R
  have hne:∀y∈ys,aw (.seq t) y=true/\y≠.tup []:=λy hy=>⟨n y hy,λz=>by have:=Zn.mp U y hy;rw[z]at this;cases this⟩;refine⟨tuples' (Value.type (ip t) !=Value.type "tuple"),V,p,λh' kp=>⟨λE' W q=>?_,λi j C a l N=>?_⟩⟩
  ·have J:Inv X pq σ H {s with heap:=h'}:=I.kept (t':=s.toks) kp;obtain⟨fs,f1,f2,f3⟩:=zK (t:=t) J Q ys vs its hne rr hv;exact kat_kind (T:=.type (ip t)) f1 (by omega) f3 (by simp) q
  ·have J:Inv X pq σ H {s with heap:=h'}:=I.kept (t':=s.toks) kp;obtain⟨d,v,u,Z,e2,E,m,r,w,B,D⟩:=at_ i a;obtain⟨Y,v',u',K,L,M,g,G,c,e,f⟩:=at_ j l;unfold kas_ask;rw[D,f];rw[B,e]at N;exact GF (t:=t) J sk Q (by simp[cF]at O;omega) hu2 m g r w G c N
theorem zM(b:fP t ys=true)(a:∀y∈ys,aw t y=true)(r:aj X.K ⟨X.mg,F⟩ μ H ys vs)(f:Vals vs its){out:Lv}(O:io its (λi j=>bT t (ys.getD i .non) (ys.getD j .non)) out):∃w,w.length=its.length/\aj X.K ⟨X.mg,F⟩ μ H (ek (bT t) ys) w/\Vals w out:=by
 have o:bU t=true:=jQ b;have at_:=J2 a r f;have L:ys.length=vs.length:=r.length;have u:vs.length=its.length:=f.length;obtain⟨p,rfl,P,q⟩:=O;have n:∀i∈p,i<its.length:=λi k=>by simpa using P.mem_iff.mp k
 have e:p.length=its.length:=by rw[P.length_eq];simp
 have fin:aj X.K ⟨X.mg,F⟩ μ H (p.map λi=>ys.getD i .non) (p.map λi=>vs.getD i .non):=aj.of (by simp) λj d v g c=>by
  grind
 have fin2:=by
  have:∀(l:List Nat),(∀i∈l,i<its.length)->Vals (l.map λi=>vs.getD i .non) (l.map λi=>its.getD i Value.none):=by
   intro l
   induction l with
   |nil=>exact λ_=>.nil
   |cons i l I=>intro h;refine .cons ?_ (I λj m=>h j (Zc _ m));simp_all
  exact this p n
 have s:(p.map λi=>ys.getD i .non)=ek (bT t) ys:=by
  refine zH o a ?_ ?_
  ·have:=P.map λi=>ys.getD i .non;refine this.trans (.of_eq ?_);refine List.ext_getElem (by simp;omega) λi g c=>?_;simp[c]
  ·rw[List.pairwise_map];exact q
 grind
end
theorem GG(V:X.A.units+64<cLine)(box:Bool)(t:ec)(A:cF t<=40):ba X (.builtin "sorted") (rC X.K X.mg (jt box t)):=by
 intro P s E H xs us Q I r h;obtain⟨F,μ,S,ds,z,rl,w⟩:=h;unfold jt at w;split at w
 ·rename_i d;obtain⟨v,rfl,rd⟩:=rl.one;obtain⟨u,rfl,ru⟩:=vals1 r;split at w
  ·rename_i Y e;split at w
   ·rename_i T;obtain⟨B,N,o⟩:=T;have g:∀y∈Y,aw t y=true:=λy W=>Zn.mp B y W;obtain⟨a,vs,rfl,n,R⟩:=fh z rd e;cases ru
    obtain⟨b,f,U,x⟩:∃b f,b6 b s.heap a (List.toArray f)/\Vals vs f:=by
     rcases n with n|n
     ·obtain⟨f,C,p,_⟩:=I.list n;exact⟨true,f,p.isList,C⟩
     ·obtain⟨f,C,p,_⟩:=I.tuple n;exact⟨false,f,p,C⟩
    refine GC (c:=λi j=>bT t (Y.getD i .non) (Y.getD j .non)) U (by have:f.length=Y.length:=(R.length.trans x.length).symm;omega) (λM=>zL I z V A g o R x M) λq L J out Z k2 K O=>?_;obtain⟨ws,m,fin,fin2⟩:=zM (X:=X) o g R x O;have D:Inv X P E H {s with heap:=q}:=I.kept (t':=s.toks) Z;have G:Inv X P E (aZ H q.objs.size (.lst ws)) {s with heap:=L}:=D.laid (t':=s.toks) k2 (Zf _) ⟨by have:f.length=Y.length:=(R.length.trans x.length).symm;rw[m,sizeLine_eq];omega,_,J,fin2,K⟩;have l:H q.objs.size=none:=D.hok.fresh (Zf _);refine⟨.ref q.objs.size,_,G,rfl,?_⟩;cases box with
    |true=>exact aV.box w z fin _ l
    |false=>exact aV.lst w z fin _ l
   ·exact w.elim
  ·exact w.elim
 ·exact w.elim
end Py
namespace Py
open PySem PySem.W PySem.Spec PyProof.Rows L2
theorem GH{f:α->β}:∀{l:List α} {us:List β},us.Perm (l.map f)->∃L:List α,L.Perm l/\us=L.map f:=λ{l us} p=>by
 generalize H:l.map f=m at p
 induction p generalizing l with
 |nil=>simp_all
 |cons x p d=>obtain⟨a,c,rfl,rfl,h⟩:=List.map_eq_cons_iff.mp H;obtain⟨L,q,rfl⟩:=d h;exact⟨_,q.cons a,rfl⟩
 |swap x y k=>obtain⟨a,c,rfl,rfl,h⟩:=List.map_eq_cons_iff.mp H;obtain⟨b,g,rfl,rfl,rfl⟩:=List.map_eq_cons_iff.mp h;exact⟨_,List.Perm.swap _ _ _,rfl⟩
 |trans p q i I=>obtain⟨c,Q,e⟩:=I H;obtain⟨g,j,E⟩:=i e.symm;exact⟨_,j.trans Q,E⟩
theorem zN{K:Fg}{m:GS}{μ:La}{H:Hp}:∀ns:Li,aj K m μ H (ns.map D.int) (ns.map V.int)
 | []=>.nil
 |n::ns=>.cons bQ (zN _)
theorem zO{K:Fg}{m:GS}{μ:La}{H:Hp}:∀{cs:List (Li×Addr)},(∀c∈cs,bX K H c.2 (c.1.map V.int))->aj K m μ H (cs.map λc=>D.tup (c.1.map D.int)) (cs.map λc=>V.ref c.2)
 | [],_=>.nil
 |c::cs,h=>.cons (by exact⟨_,_,rfl,h c Ze,zN _⟩) (zO λd a=>h d (Zc _ a))
theorem zP:∀cs:List (Li×Addr),Vals (cs.map λc=>V.ref c.2) (cs.map λc=>Value.ref c.2)
 | []=>.nil
 |c::cs=>.cons rfl (zP _)
theorem zQ(k:Li):aw (.seq .int) (.tup (k.map D.int))=true:=by show(k.map _).all _=true;rw[Zn];intro x h;obtain⟨i,_,rfl⟩:=Zp.mp h;rfl
theorem GI{a:Addr}{L:Lv}(H:∀{Q:Lv->Shared->Prop} {E':Vs},(∀(h':Heap) (tk:Nat) (vs:Lv),(∀b o,s.heap.get? b=some o->h'.get? b=some o)->vs.Perm L->Q vs {s with heap:=h',toks:=tk})->wpAny (model prog w) A.in1 (collect (.ref a)) Q E' s)(F:L.length<64)
  (d:∀(h1:Heap) (tk:Nat) (vs:Lv),(∀b o,s.heap.get? b=some o->h1.get? b=some o)->vs.Perm L->∃c,(2<=vs.length->∃κ:SortKind,cW vs.length c/\(∀i j,i<vs.length->j<vs.length->vs.getD i Value.none=vs.getD j Value.none->cb vs.length c i=cb vs.length c j)/\∀h':Heap,(∀b o,h1.get? b=some o->h'.get? b=some o)->
   (∀(E':Vs) (l:SortKind->Shared->Prop),l κ {s with heap:=h',toks:=tk}->wpAny (model prog w) A.in1.in1 (keyKind' vs.toArray) l E' {s with heap:=h',toks:=tk})/\
   ∀i j C,i<vs.length->j<vs.length->C (c i j) {s with heap:=h',toks:=tk}->kas_ask prog w A.in1.in1 κ vs i j C {s with heap:=h',toks:=tk})/\
   ∀(h':Heap) (g:Nat) (out:Lv),(∀b o,h1.get? b=some o->h'.get? b=some o)->h'.get? h1.objs.size=some (seqObj "list" out.toArray g)->io vs c out->Q (.ref h1.objs.size) {s with heap:=h',toks:=tk}):
  wpAny (model prog w) A (call (.builtin "sorted") [.ref a]) Q E s:=by
 refine Calls.call_function_entry kind_sorted plain_sorted entry_sorted (args_sorted1 _) ?_;unfold Builtin.«sorted»;refine Za (m:=checkCount "sorted" 1 1 _) (Zd (Za (H λh1 tk vs r p=>?_)));obtain⟨c,d,fin⟩:=d h1 tk vs r p;have k:vs.length<64:=by rw[p.length_eq];exact F
 have q:vs.length<=sizeLine:=by rw[sizeLine_eq];omega
 refine Za (wpAny_newList ?_ q);have f:(h1.push (seqObj "list" vs.toArray 0)).get? h1.objs.size=some (seqObj "list" vs.toArray 0):=Zh _ rfl;refine Za (ZL (ZM slot_list_sort ⟨_,f,rfl⟩ entry_list_sort ?body (args_list_sort _)))
 case body=>
  refine zI (c:=c) (s:={s with heap:=h1.push (seqObj "list" vs.toArray 0),toks:=tk}) f k (λn=>?_) λh' g out K e O=>?_
  ·obtain⟨κ,o,S,d⟩:=d n;refine⟨κ,o,S,λh' K=>?_⟩;obtain⟨u,v⟩:=d h' λb o e=>K b o (Zt (Zi e)) (Zb _ e);exact⟨u _,v⟩
  ·exact⟨_,rfl,Zd ⟨_,rfl,fin h' g out (λb o e=>K b o (Zt (Zi e)) (Zb _ e)) e O⟩⟩
def GJ(K:Fg)(m:Mg)(v:V)(H:Hp)(Q:VK):Prop:=
 ∃F μ S p ks,aM K ⟨m,F⟩ μ S H/\v=.ref p/\Gp K H p ks/\ks.length<64/\(∀c∈ks,c.1≠[])/\aV K ⟨m,F⟩ μ H Q (.ok (.lst (dR (ks.map (·.1)))) S)
theorem GK{p:Addr}{cs:List (Li×Addr)}{E:Vs}(i:X.calm=true)(L:X.A.units+64<cLine)(I:Inv X pq σ H s)(Z:aM X.K ⟨X.mg,F⟩ μ S H)(r:∀c∈ks,bX X.K H c.2 (c.1.map V.int))(J:∀c∈ks,c.1≠[])(A:ks.length<64)
  (j:∀{Q:Lv->Shared->Prop} {E':Vs},(∀(h':Heap) (tk:Nat) (vs:Lv),(∀b o,s.heap.get? b=some o->h'.get? b=some o)->vs.Perm (cs.map λc=>Value.ref c.2)->Q vs {s with heap:=h',toks:=tk})->wpAny (model X.prog X.w) X.A.in1 (collect (.ref p)) Q E' s) (N:(cs.map (·.1)).Nodup) (u:∀k,k∈cs.map (·.1)↔k∈ks.map (·.1)) (z:∀c∈cs,c∈ks)
  (fin:∀(h1 h':Heap) (tk q:Nat) (out:Lv) (w:List V),(∀b o,s.heap.get? b=some o->h1.get? b=some o)->(∀b o,h1.get? b=some o->h'.get? b=some o)->h'.get? h1.objs.size=some (seqObj "list" out.toArray q)->w.length<=76->aj X.K ⟨X.mg,F⟩ μ H (dR (ks.map (·.1))) w->Vals w out->Q (.ref h1.objs.size) {s with heap:=h',toks:=tk}):
  wpAny (model X.prog X.w) X.A (call (.builtin "sorted") [.ref p]) Q E s:=by
 have G:cs.length<64:=by have h1:=N.length_le_of_subset λk r=>(u k).mp r;rw[Zm,Zm]at h1;omega
 refine GI j (by rw[Zm];exact G) λh1 tk us K Y=>?_;have x:Inv X pq σ H {s with heap:=h1,toks:=tk}:=I.kept (t':=tk) K
 obtain⟨C,P,rfl⟩:∃C:List (Li×Addr),C.Perm cs/\us=C.map λc=>Value.ref c.2:=by exact GH Y
 have M:∀c∈C,c∈ks:=λc i=>z c (P.mem_iff.mp i);have R:aj X.K ⟨X.mg,F⟩ μ H (C.map λc=>D.tup (c.1.map D.int)) (C.map λc=>V.ref c.2):=zO λc i=>r c (M c i);have v:Vals (C.map λc=>V.ref c.2) (C.map λc=>Value.ref c.2):=zP C
 have g:∀y∈(C.map λc=>D.tup (c.1.map D.int)),aw (.seq .int) y=true:=λy n=>by obtain⟨c,_,rfl⟩:=Zp.mp n;exact zQ c.1
 have m:fP (.seq .int) (C.map λc=>D.tup (c.1.map D.int))=true:=by
  show(true&&((C.map λc=>D.tup (c.1.map D.int)).all λd=> !eO d))=true;rw[Zn.mpr]
  ·rfl
  ·intro y n;obtain⟨c,i,rfl⟩:=Zp.mp n;have:=J c (M c i);cases h:c.1 with
   |nil=>exact absurd h this
   |cons a l=>rfl
 refine⟨_,λB=>zL x Z L (by decide) g m R v B,λh' q out U e O=>?_⟩;obtain⟨w,w1,w2,w3⟩:=zM (X:=X) m g R v O;refine fin h1 h' tk q out w K U e (by rw[w1,Zm,P.length_eq];omega) ?_ w3
 have:dR (ks.map (·.1))=ek (bT (.seq .int)) (C.map λc=>D.tup (c.1.map D.int)):=by
  unfold dR;refine(zH (t:=.seq .int) rfl (λy n=>?_) ((tf _ _).trans ?_) (zG (fZ (.seq .int) rfl) _ g)).symm
  ·obtain⟨k,_,rfl⟩:=Zp.mp n;exact zQ k
  ·have W:(C.map (·.1)).Perm (ju (ks.map (·.1))):=by
    obtain⟨a,b⟩:=zm (ks.map (·.1));refine(P.map _).trans ((List.perm_ext_iff_of_nodup N a).mpr λk=>(u k).trans (b k).symm)
   have:=W.map λk=>D.tup (k.map D.int);rw[List.map_map]at this;exact this
 rw[this];exact w2
theorem GL{p:Addr}{cs:List (Li×Addr)}{E:Vs}(i:X.calm=true)(y:X.A.units+64<cLine)(I:Inv X pq σ H s)(z:aM X.K ⟨X.mg,F⟩ μ S H)(h:∀c∈ks,bX X.K H c.2 (c.1.map V.int))(u:∀c∈ks,c.1≠[])(f:ks.length<64)
  (x:dj X.prog X.w s.heap p cs) (a:∀k,k∈cs.map (·.1)↔k∈ks.map (·.1)) (n:∀c∈cs,c∈ks)
  (fin:∀(h1 h':Heap) (tk C:Nat) (out:Lv) (w:List V),(∀b o,s.heap.get? b=some o->h1.get? b=some o)->(∀b o,h1.get? b=some o->h'.get? b=some o)->h'.get? h1.objs.size=some (seqObj "list" out.toArray C)->w.length<=76->aj X.K ⟨X.mg,F⟩ μ H (dR (ks.map (·.1))) w->Vals w out->Q (.ref h1.objs.size) {s with heap:=h',toks:=tk}):
  wpAny (model X.prog X.w) X.A (call (.builtin "sorted") [.ref p]) Q E s:=by
 obtain⟨o,A,t,g,q,d,l,P,m⟩:=x.obj;have r:=m.fits.2;have v:(cs.map (bc X.prog X.w)).toArray.size=cs.length:=by simp
 have B:=by have h1:=x.nod.length_le_of_subset λk h=>(a k).mp h;rw[Zm,Zm]at h1;omega
 refine GK i y I z h u f (λfin=>Gy (by simpa using I.ok.hd i) ⟨by simp_all,l,P,m.ris⟩ g q d (by lia) λh' tk vs k D=>fin _ _ _ k ?_) x.nod a n fin;have:(List.map (λe=>e.2) (cs.map (bc X.prog X.w)).toArray.toList)=cs.map λc=>Value.ref c.2:=by rw[List.map_map];rfl
 simp_all
theorem GN(m:X.calm=true)(y:X.A.units+64<cLine)(c:Gl X "sorted")(d:Gl X "set")(f:X.mg "sorted"=none)(i:X.mg "set"=none)(M:bootBuiltins "sorted"=some (.builtin "sorted"))(j:bJ z=true)(L:PE X z ta):
  PE X (.Call (.Name "sorted" p1) [.Call (.Name "set" p2) [z] [] p3] [] p4) (λσ H Q=>ta σ H λx H1=>GJ X.K X.mg x H1 Q):=by
 intro P s σ H Q I h;have w:=cG (env:=X.env) (es:=[]) j;refine wpAny_Call_Name_kw (eF I c f M ?_ (by decide) (by decide));refine PyProof.Rows.callWith_builtin1 ?_ rfl rfl;refine Calls.spliced_cons ?_;refine wpAny_Call_Name_kw (eF I d i zl ?_ (by decide) (by decide));have K:PA X [z] (gR ta lx):=dy L eG w
 refine PyProof.Rows.callWith_type1 (aR (K p3 P s σ H (λvs H1=>match vs with
  | [x]=>GJ X.K X.mg x H1 Q
  |_=>False) I h) λus W ⟨vs,H1,C,r,q⟩=>?_) w rfl
 match vs,q with
 | [v],⟨F,μ,S,p,ks,A,e,o,b,j,q⟩=>subst e;obtain⟨u,rfl,U⟩:=r.one;cases U;refine mM m y C o λh' T cs x E G k _=>?_;refine Calls.spliced_nil ?_;refine GL m y k A o.2.1 j b x E G λa h2 t D out Z N O g hl R V=>?_;have l:Inv X P σ H1 {W with heap:=a,toks:=T}:=k.kept (t':=T) N;exact⟨.ref a.objs.size,aZ H1 a.objs.size (.lst Z),l.laid (t':=t) O (Zf _) ⟨by rw[sizeLine_eq];omega,out,D,V,g⟩,rfl,aV.lst q A R _ (l.hok.fresh (Zf _))⟩
end Py
namespace Py
noncomputable def zR(kd:Bool)(e:Expr)(g:List Comprehension)(s:Scope)(p:Pos):Expr:=.ListComp e g s p
noncomputable def GO(kd:Bool)(e:Expr)(a:Value)(env:Env):Sem Unit:=sy e a env
def oK(X:Cx)(kd:Bool):Addr->List D->List V->HO->Prop:=oL
theorem ti{kd:Bool}{pos:Pos}{d:Nat}{it a:Value}{t i:Expr}{fs:Lx}(h:gens[d]?=some ⟨t,i,fs,0⟩):
  compTurn (zR kd elt gens scope pos) d it a env=(standAt i.pos>>=λ_=>pyNext it>>=λr=>match r with
   |none=>pure (.done .next)
   |some v=>letOwnedTupleGo t it v>>=λ_=>assign t env v>>=λ_=>(eI fs env>>=λok=>if ok=true then bq (zR kd elt gens scope pos) (GO kd elt a env) gens d a env else pure ())>>=λ_=>
    again (.compLoop (zR kd elt gens scope pos) d it a env)):=by cases kd<;>exact FO h
section
variable {E:XK}
end
section
variable {E:XK}
end
section
variable {E:XK}{k:Nat}
theorem zS:ba X (.type "str") (rC X.K X.mg rZ):=by
 intro p s g H x U Q I r h;obtain⟨F,f,S,D,e,R,w⟩:=h;unfold rZ at w;split at w
 ·rename_i k;split at w
  ·rename_i b;obtain⟨v,rfl,c⟩:=R.one;cases aI c;obtain⟨u,rfl,d⟩:=r.one;obtain⟨t,rfl⟩:=d;refine PySem.P.str_of_int ?_ ⟨.str _,H,I.kept λ_ _ z=>z,⟨_,rfl⟩,w _ H _ .refl e fj⟩;by_cases a:k.natAbs=0
   ·simp_all
   ·exact Nat.lt_trans ((Nat.log2_lt a).mpr b) (by lia)
  ·exact w.elim
 ·exact w.elim
theorem jR(O:cg X cell N sc CX E Φ Γ k)(b:gF)(h:rY b=true):ba X (jx b) (rC X.K X.mg (aG b)):=by
 cases b with
 |len=>exact xq
 |tuple=>exact lU
 |list box=>exact rK box
 |int=>exact xt
 |min=>cases h
 |max=>cases h
 |isinst=>exact EZ
 |all=>exact xw O.calm
 |any=>cases h
 |sum=>cases h
 |repr=>cases h
 |abs=>cases h
 |str=>exact zS
 |sorted box t=>exact GG O.room.units box t (by unfold rY at h;simpa using h)
theorem tj:∀{l:Ls},h_ l=true->l.Nodup
 | [],_=>List.nodup_nil
 |x::r,h=>by unfold h_ at h;simp at h;exact List.nodup_cons.mpr ⟨h.1,tj h.2⟩
theorem zT(O:cg X cell N sc CX E Φ Γ k)(h:Fq scope sc=true):dA X scope:=by
 unfold Fq at h;simp only[ZY,beq_iff_eq]at h;obtain⟨a,b⟩:=h;have K:=λy H=>Zn.mp b y H;refine⟨a,λy H z=>?_,λy H z=>?_,λy H z=>?_⟩
 ·grind
 ·grind
 ·have:=K y H;rw[z]at this;simp at this;show X.env.scope.names.lookup _=_\/X.env.scope.names.lookup _=_;rw[O.sc];exact this
theorem zU(O:cg X cell N sc CX E Φ Γ k)(h:frB scope.names N' N fr=true):lZ X scope N' (fW fr):=by
 unfold frB at h;simp only[ZY,beq_iff_eq]at h;obtain⟨b,c⟩:=h;intro g f;refine⟨by simp[fW,b],λi v x a H=>?_⟩;have d:=(Zg.mp a).1;have:=Zn.mp c i (List.mem_range.mpr d);unfold fW at H;rw[List.getElem?_map]at H;cases e:fr[i]? with
 |none=>simp_all
 |some o=>
  rw[e]at H;cases o with
  |none=>cases H
  |some j=>
   rw[e]at this;simp[a,beq_iff_eq]at this;refine⟨this.1,j,by rw[O.n];exact this.2,?_⟩
   grind
theorem mV(O:cg X cell N sc CX E Φ Γ k):(relabel scope X.env).names=jy scope.names sc:=by
 show scope.names.map _=scope.names.map _;congr 1;funext p;obtain⟨n,K⟩:=p;have e:X.env.kindOf n=sc.lookup n:=by show X.env.scope.names.lookup n=_;rw[O.sc]
 simp[e,O.kd,Bool.and_true]
theorem zV(O:cg X cell N sc CX E Φ Γ k)(hs:scope.kind=.function)(hn:h_ N'=true)(C:Addr)(s0:Shared)(H0:Hp)(fp:La):cg (fk X scope N' C s0 H0 fp) (r9 scope.names) N' (jy scope.names sc) CX E0 Φ Γ k where
 n:=rfl
 nd:=tj hn
 sc:=mV O
 kd:=hs
 calm:=O.calm
 room:=O.room
 fn:=λx z=>z
 mod:=O.mod
 pass:=λ_ _ _ _ _ _ _ z=>O.cx0 _ _ _ _ _ z
 cx0:=O.cx0
theorem mW{i:Expr}(h:me i=true):∀x,foldedSetIterable i env x=pure x:=by intro x;cases i<;>first|rfl|cases h
theorem gY{e:Expr}{c:CE}(h:PE X e (tE X.K X.mg E Φ Γ c))(g:∀W,isTrue e X.env W=(do let v <-W;standAt e.pos;holding [v] (truthy v))){σ:L2.St}:
  PT X e (λσ H Q=>∃F μ ρ S,aM X.K ⟨X.mg,F⟩ μ S H/\aW X.K ⟨X.mg,F⟩ μ H ρ σ/\ak X.K ⟨X.mg,F⟩ E (λ_ _ a b=>a=b) μ H Q ((ah Φ Γ c ρ S).bind λd S1=>match a' S1 d with|some k=>.ok k S1|none=>.fail)):=
 df (D7 h g) λσ H Q z=>aE z λF μ ρ S i f w=>⟨F,_,_,S,i,f,(ak.bind w).mono λv H1 z=>ay z λm S1 d x s r j=>by obtain⟨k,e,l⟩:=yg j;exact⟨k,pW s r e,l _ _ k .refl s rfl⟩⟩
theorem GP(O:cg X cell N sc CX E Φ Γ k){a:CE}(h1:a8 sc "len"=true)(h:a8 sc "set"=true)(c:bJ z=true)(b:PE X z (tE X.K X.mg E Φ Γ a)):PE X (.Call (.Name "len" p1) [.Call (.Name "set" p2) [z] [] p3] [] p4) (tE X.K X.mg E Φ Γ (.lenset a)):=
 aO (Gr O.calm O.room.units (O.gl (cH h1).1) (O.gl (cH h).1) (O.mod.bl _ (by decide+kernel)) (O.mod.bl _ (by decide+kernel)) c b) λm H Q Z=>aE Z λF j l S f e w=>
  ⟨F,_,_,S,f,e,(ak.bind w).mono λv H1 Z=>ay Z λg i d x s r W=>Gs s r (b_ W)⟩
theorem tm{Q:VK}(s:aM K ⟨mg,F⟩ μ S H)(r:Rep K ⟨mg,F⟩ μ H d v)(w:aV K ⟨mg,F⟩ μ H Q (dU d S)):GJ K mg v H Q:=by
 unfold dU at w;split at w
 ·rename_i x e;split at w
  ·rename_i h;obtain⟨p,o,rfl,m,E⟩:=sX s r e ⟨h.1,by omega⟩;refine⟨F,μ,S,p,o,s,rfl,m,by have:=congrArg List.length E;rw[Zm,Zm]at this;omega,λc b=>?_,by rw[E];exact w⟩;have:c.1∈x.map eP:=by rw[<-E];exact List.mem_map_of_mem b
   obtain⟨y,g,f⟩:=Zp.mp this;have j:=Zn.mp h.1 y g;have k:=Zn.mp h.2.2 y g;intro z;rw[z]at f;obtain⟨Z,rfl,n⟩:=cX j;cases Z with
   |nil=>cases k
   |cons a l=>obtain⟨i,rfl⟩:=cP (n a Ze);cases f
  ·exact w.elim
 ·exact w.elim
theorem tq(O:cg X cell N sc CX E Φ Γ k){a:CE}(h1:a8 sc "sorted"=true)(h:a8 sc "set"=true)(c:bJ z=true)(b:PE X z (tE X.K X.mg E Φ Γ a)):PE X (.Call (.Name "sorted" p1) [.Call (.Name "set" p2) [z] [] p3] [] p4) (tE X.K X.mg E Φ Γ (.sset a)):=
 aO (GN O.calm O.room.units (O.gl (cH h1).1) (O.gl (cH h).1) (O.mod.bl _ (by decide+kernel)) (O.mod.bl _ (by decide+kernel)) (rfl) c b) λm H Q Z=>aE Z λF j l S f e w=>
  ⟨F,_,_,S,f,e,(ak.bind w).mono λv H1 Z=>ay Z λg i d x s r W=>tm s r (b_ W)⟩
end
section
variable {E:XK}{k:Nat}
theorem zW{a:Int}(h:a.natAbs<2^64):a.natAbs.log2<1920:=by
 by_cases H:a.natAbs=0
 ·simp_all
 ·exact Nat.lt_trans ((Nat.log2_lt H).mpr h) (by lia)
theorem zX(O:cg X cell N sc CX E Φ Γ k){p:FP}{P:Vs}(I:L2.Inv X pq σ H s)(q:aW X.K ⟨X.mg,F⟩ μ H ρ σ)(hs:Dk N sc p=true)(b:rX Γ ρ p=some y)
  (h:∀t s',L2.Inv X pq σ H s'->P (.str y t) s'):wpAny (model X.prog X.w) X.A (eval (JY p N e) X.env) P X.xe s:=by
 cases p with
 |s x=>
  have b:some x=some y:=b;injection b with b
  subst b;exact aR (k8 (X:=X) (x:=x) pq s σ H (λv d=>v=.str x/\d=H) I ⟨rfl,rfl⟩) λu S ⟨v,H1,f,r,c,j⟩=>by subst c j;obtain⟨t,rfl⟩:=r;exact h t S f
 |v i=>
  obtain⟨A,m⟩:=ae hs;obtain⟨m,o⟩:=ae m;dsimp only[rX]at b;split at b
  ·rename_i a l;split at b
   ·rename_i n;cases b;obtain⟨v,c,r⟩:=q.2 i _ l;cases aI r;refine FormattedValue_plain (aR (k7 (X:=X) (i:=i) (by rw[O.n];simpa using A) (yn O.sc m) (fU o).1 (fU o).2 pq s σ H (λv d=>v=.int a/\d=H) I ⟨_,c,rfl,rfl⟩) λu S ⟨v,H1,f,R,c,j⟩=>?_);subst j;rw[c]at R;obtain⟨t,B⟩:=(show ∃t,u=Value.int a t from R);rw[B];exact formatField_int_small (zW n) (h _ _ (f.kept (t':=S.toks+1+1) λ_ _ z=>z))
   ·cases b
  ·cases b
 |g z=>
  obtain⟨G,w,J⟩:=cH hs;dsimp only[rX]at b;split at b
  ·rename_i a l;split at b
   ·rename_i n;cases b;obtain⟨v,u,M,C,D⟩:=O.mod.gl z _ l;have c:=aI (D F μ H);subst c;refine FormattedValue_plain (hH I (O.gl G) M ?_ w);obtain⟨t,rfl⟩:=C;exact formatField_int_small (zW n) (h _ _ (I.kept (t':=s.toks+1+1) λ_ _ z=>z))
   ·cases b
  ·cases b
theorem qi(O:cg X cell N sc CX E Φ Γ k){x:Str}{P:Lp}{σ:L2.St}{H:Hp}{F:La}{μ:La}{ρ:bt}{Q:VK}(e:aW X.K ⟨X.mg,F⟩ μ H ρ σ)(q:Q (.str x) H):∀{ps:List FP} {es:Lx} {out:Str} {s:Shared},L2.Inv X P σ H s->(∀p∈ps,Dk N sc p=true)->fJ (ps.map (rX Γ ρ)) out=some x->
  wpAny (model X.prog X.w) X.A (joinParts out (evalEach (Dj ps N es) X.env)) (EP X P σ Q) X.xe s
 | [],es,out,s,I,_,h=>by
  unfold fJ at h;simp only[List.map_nil]at h;split at h
  ·rename_i b;cases h;exact joinParts_nil ⟨.str _,H,I.kept λ_ _ z=>z,⟨_,rfl⟩,q⟩ (ZC b (by decide))
  ·cases h
 |p::ps,es,out,s,I,c,h=>by
  rw[List.map_cons]at h;cases a:rX _ _ p with
  |none=>rw[a]at h;cases h
  |some y=>
   rw[a]at h;unfold fJ at h;split at h
   ·rename_i b;refine joinParts_cons (zX O I e (c p Ze) a λt S d=>⟨ZC b (by decide),?_⟩);exact qi O e q d (λp a=>c p (Zc _ a)) h
   ·cases h
theorem zY(O:cg X cell N sc CX E Φ Γ k){ps:List FP}{pos:Pos}(h:(decide (2<=ps.length)&&ps.all (Dk N sc))=true):PE X (.JoinedStr (Dj ps N es) pos) (tE X.K X.mg E Φ Γ (.fst ps)):=by
 intro g s l H Q I z;obtain⟨F,i,j,S,f,b,w⟩:=z;obtain⟨a,c⟩:=ae h
 have W:ak _ _ E _ _ H Q (match fJ _ _ with
  |some x=>.ok _ S
  |none=>.fail):=w
 cases e:fJ _ _ with
 |none=>rw[e]at W;exact W.elim
 |some x=>
  rw[e]at W;have q:=W _ H _ .refl f fj;cases ps with
  |nil=>cases a
  |cons p ps=>
   cases ps with
   |nil=>simp at a
   |cons P ps=>exact JoinedStr_many (qi O b q I (λp d=>Zn.mp c p d) e)
end
section
variable {a b c d:Expr}{tb tc td:TE}{pos:Pos}
noncomputable def mX(r g R:R2)(t tb T h:TE):TT:=λσ H Q=>t σ H λx H1=>tb σ H1 λy H2=>r x y H2 λz a=>∃k,z=.bl k/\
 (if k=true then T σ a λw d=>g y w d λi b=>∃c,i=.bl c/\(if c=true then h σ b λv e=>R w v e λZ f=>∃K,Z=.bl K/\Q K f else Q false b)else Q false a)
theorem GQ{o:CmpOp}{r w R:R2}(ho:cm X (compareOp o) r)(i:cm X (compareOp op') w)(g:cm X (compareOp op'') R)(S:PE X a ta)(T:PE X b tb)(U:PE X c tc)(V:PE X d td)
  (Y:lastMarks [o,op',op''] [b,c,d]=false):PT X (.Compare a [o,op',op''] [b,c,d] pos) (mX r w R ta tb tc td):=by
 intro p s f H Q I h
 refine isTrue_chain (aR (S p s f H _ I h) λv s1 ⟨x,H1,G,r1,q1⟩=>test_link (aR (T p s1 f H1 _ G q1) λu s2 ⟨y,C,J,A,q2⟩=>
  aR (ho p s2 f C x y v u _ J r1 A q2) λd s3 ⟨z,j,m,r3,k,e,q⟩=>?_)) Y
 subst e;cases r3;refine ZJ ?_;cases k with
 |false=>exact ite_ff ⟨j,m,q⟩
 |true=>
  refine ite_tt (test_link (aR (U p s3 f j _ m q) λW s4 ⟨Z,D,K,B,q4⟩=>aR (i p s4 f D y Z u W _ K A B q4) λd' s5 ⟨z2,l,n,r5,k2,O,t⟩=>?_));subst O;cases r5;refine ZJ ?_;cases k2 with
  |false=>exact ite_ff ⟨l,n,t⟩
  |true=>refine ite_tt (test_last (aR (V p s5 f l _ n t) λw2 s6 ⟨z3,E,L,r6,q6⟩=>aR (g p s6 f E Z z3 W w2 _ L B r6 q6) λN s7 ⟨z4,F,M,r7,k3,P,q7⟩=>?_));subst P;cases r7;exact ZJ ⟨F,M,q7⟩
end
section
variable {E:XK}{l r r2:Expr}{pos:Pos}{a b c d:CE}
theorem GR{o:CmpOp}(j:X.A.units+64<cLine)(U:PE X l (tE X.K X.mg E Φ Γ a))(V:PE X r (tE X.K X.mg E Φ Γ b))(Y:PE X r' (tE X.K X.mg E Φ Γ c))(Z:PE X r2 (tE X.K X.mg E Φ Γ d))(hm:behindInMarks op'' r2=false):PT X (.Compare l [o,op',op''] [r,r',r2] pos) (tT X.K X.mg E Φ Γ (.chain3 o op' op'' a b c d)):=
 df (GQ (dc o j) (dc op' j) (dc op'' j) U V Y Z hm) λσ H Q z=>aE z λF μ i S sk g w=>
  ⟨F,μ,i,S,sk,g,(ak.bind w).mono λv1 H1 z=>ay z λq K d1 x s1 r1 w1=>⟨F,q,i,K,s1,g.mono x,(ak.bind w1).mono λv2 H2 z=>ay z λs L d2 n s2 r2 w2=>
   ⟨F,s,L,d1,d2,s2,Rep.mono n _ _ r1,r2,b_ ((ak.bind w2).mono λv3 G z=>ay z λe M d3 p y r3 w3=>by
    obtain⟨k,rfl,rfl,W⟩:=fq w3 r3;refine⟨k,rfl,?_⟩;cases k with
    |true=>
     rw[if_pos rfl]at W⊢
     exact⟨F,e,i,M,y,(g.mono x).mono (n.trans p),(ak.bind W).mono λv4 H4 z=>ay z λt N D B s4 R w5=>⟨F,t,N,d2,D,s4,Rep.mono (p.trans B) _ _ r2,R,b_ ((ak.bind w5).mono λv5 I z=>ay z λf O d5 C A r5 w6=>by
      obtain⟨k,rfl,rfl,h⟩:=fq w6 r5;refine⟨k,rfl,?_⟩;cases k with
      |true=>rw[if_pos rfl]at h⊢;exact⟨F,f,i,O,A,(((g.mono x).mono (n.trans p)).mono B).mono C,(ak.bind h).mono λv6 H6 z=>ay z λu P T x6 s6 r6 w8=>⟨F,u,P,D,T,s6,Rep.mono (C.trans x6) _ _ R,r6,b_ ((ak.bind w8).mono λv7 J z=>ay z λv S7 d7 x7 s7 r7 w9=>by obtain⟨k,rfl,rfl,m⟩:=fq w9 r7;exact⟨k,rfl,m v J k .refl s7 rfl⟩)⟩⟩
      |false=>rw[if_neg (by decide)]at h⊢;exact h f I _ .refl A rfl)⟩⟩
    |false=>rw[if_neg (by decide)]at W⊢;exact W e G _ .refl y rfl)⟩⟩⟩
end
theorem mY{E:XK}{c:CE}(h:∀ρ S,ao Φ Γ c ρ S=.fail):PW X e (tT X.K X.mg E Φ Γ c):=λW p s f H Q I z=>aE z λF d ρ S b a w=>by rw[h]at w;exact w.elim
theorem zZ{l:List α}{d:Nat}{x:α}{r:List α}(h:l.drop d=x::r):l[d]?=some x:=by have:=congrArg (λl=>l[0]?) h;simpa using this
theorem GU{l:List α}{d:Nat}(h:l.drop d=[]):l[d]?=none:=by simp_all
theorem GV{l:List α}{d:Nat}{x:α}{r:List α}(h:l.drop d=x::r):l.drop (d+1)=r:=by
 have:(l.drop d).drop 1=r:=by simp_all
 rwa [List.drop_drop]at this
section
variable {E:XK}{a b:CE}{l x y:Expr}{pos:Pos}{n:Bool}
theorem tr(h:PE X l (tE X.K X.mg E Φ Γ a))(h1:n=true->PE X x (tE X.K X.mg E Φ Γ b))(H:n=false->∃r rest,y=.BoolOp .And (r::rest) pos/\PE X y (tE X.K X.mg E Φ Γ b)):PE X (.BoolOp .And (l::cond n [x] (vw y).es) pos) (tE X.K X.mg E Φ Γ (.band a b)):=by
 cases n with
 |true=>exact pZ h (i7 (h1 rfl))
 |false=>obtain⟨r,rest,rfl,q⟩:=H rfl;exact pZ h q
theorem z0(h:PE X l (tE X.K X.mg E Φ Γ a))(h1:n=true->PE X x (tE X.K X.mg E Φ Γ b))(H:n=false->∃r rest,y=.BoolOp .Or (r::rest) pos/\PE X y (tE X.K X.mg E Φ Γ b)):PE X (.BoolOp .Or (l::cond n [x] (vw y).es) pos) (tE X.K X.mg E Φ Γ (.bor a b)):=by
 cases n with
 |true=>exact yf h (i7 (h1 rfl))
 |false=>obtain⟨r,rest,rfl,q⟩:=H rfl;exact yf h q
theorem z7(h:PT X l (tT X.K X.mg E Φ Γ a))(h1:n=true->PT X x (tT X.K X.mg E Φ Γ b))(H:n=false->∃r rest,y=.BoolOp .And (r::rest) pos/\PW X y (tT X.K X.mg E Φ Γ b)):PW X (.BoolOp .And (l::cond n [x] (vw y).es) pos) (tT X.K X.mg E Φ Γ (.band a b)):=by
 cases n with
 |true=>exact p6 h (k9 (h1 rfl))
 |false=>obtain⟨r,rest,rfl,q⟩:=H rfl;exact p6 h q
theorem jS(h:PT X l (tT X.K X.mg E Φ Γ a))(h1:n=true->PT X x (tT X.K X.mg E Φ Γ b))(H:n=false->∃r rest,y=.BoolOp .Or (r::rest) pos/\PW X y (tT X.K X.mg E Φ Γ b)):PW X (.BoolOp .Or (l::cond n [x] (vw y).es) pos) (tT X.K X.mg E Φ Γ (.bor a b)):=by
 cases n with
 |true=>exact yj h (i5 (h1 rfl))
 |false=>obtain⟨r,rest,rfl,q⟩:=H rfl;exact yj h q
theorem tt(h:r_ b=true):∃r rest,aY b N (.BoolOp .And es pos)=.BoolOp .And (r::rest) pos:=by cases b<;>first|exact⟨_,_,rfl⟩|cases h
theorem tw(h:jz b=true):∃r rest,aY b N (.BoolOp .Or es pos)=.BoolOp .Or (r::rest) pos:=by cases b<;>first|exact⟨_,_,rfl⟩|cases h
theorem jT{t:CT}(h:mf t=true):eS (ib t N e)=true:=by
 cases t with
 |var i=>cases h
 |tup T=>rfl
theorem eV{a b:Bool}(h:cond n a b=true)(z:n=true):a=true:=by lia
theorem cv{a b:Bool}(h:cond n a b=true)(z:n=false):b=true:=by lia
end
mutual
theorem aP(c:CE):∀{X:Cx} {cell:Str->Bool} {N:Ls} {sc:Sc} {CX:c_} {E:XK} {Φ:FT} {Γ:Str->Option D} {k:Nat} {e:Expr},cg X cell N sc CX E Φ Γ k->bL c N sc e=true->PE X (aY c N e) (tE X.K X.mg E Φ Γ c):=by
 intro X cell N sc CX E Φ Γ k e O h;cases c with
 |var i=>exact p8 O (ae h).1 (ae (ae h).2).1 (ae (ae h).2).2
 |dct=>exact yq
 |rv0 a b c=>cases h
 |odd a b c=>cases h
 |evn a b=>cases h
 |rev a b=>exact yt (aP a O (ae h).1) (aP b O (ae h).2)
 |lit d=>exact p9 h
 |glob y=>exact sm O h
 |ty n=>exact Fu O (ae h).1 (ae h).2
 |bin op a b=>exact yc (aP a O (ae h).1) (aP b O (ae h).2)
 |binB a b=>cases h
 |catB a b=>exact sg (aP a O (ae h).1) (aP b O (ae h).2)
 |neg a=>exact yi (aP a O h)
 |cmp op a b=>exact yd O.room.units (aP a O (ae h).1) (aP b O (ae (ae h).2).1) (fS (ae (ae h).2).2)
 |chain op K a b c=>exact mj O.room.units (aP a O (ae h).1) (aP b O (ae (ae h).2).1) (aP c O (ae (ae (ae h).2).2).1) (fS (ae (ae (ae h).2).2).2)
 |band a b=>exact tr (aP a O (ae h).1) (λz=>aP b O (eV (ae h).2 z)) λz=>by obtain⟨r,R,q⟩:=tt (pos:=(vw e).pos) (N:=N) (es:=(vw e).es.tail) (ae (cv (ae h).2 z)).1;exact⟨r,R,q,aP b O (ae (cv (ae h).2 z)).2⟩
 |bor a b=>exact z0 (aP a O (ae h).1) (λz=>aP b O (eV (ae h).2 z)) λz=>by obtain⟨r,R,q⟩:=tw (pos:=(vw e).pos) (N:=N) (es:=(vw e).es.tail) (ae (cv (ae h).2 z)).1;exact⟨r,R,q,aP b O (ae (cv (ae h).2 z)).2⟩
 |bnot a=>exact yh (aP a O h)
 |ite c a b=>exact yl (dI c O (ae h).1) (aP a O (ae (ae h).2).1) (aP b O (ae (ae h).2).2)
 |tup j=>exact yo (fR (ae h).2) (dk j O (ae h).1)
 |lst box j=>exact yp (fR (ae h).2) (dk j O (ae h).1)
 |idx a b=>exact yr (ae (ae h).2).2 (aP a O (ae h).1) (aP b O (ae (ae h).2).1)
 |sl a lo hi=>exact Fv (aP a O (ae h).1) (jU lo O (ae (ae h).2).1 (fR (ae (ae (ae (ae h).2).2).2).1)) (jU hi O (ae (ae (ae h).2).2).1 (fR (ae (ae (ae (ae h).2).2).2).2))
 |call f j=>
  have J:=dk j O (ae (ae h).2).1;cases j with
  |nil=>cases(ae (ae h).2).2
  |cons c u=>exact jD O (ae h).1 (eH (cs:=c::u) (ae (ae h).2).1) J
 |blt b j=>
  have J:=dk j O (ae (ae h).2).1;cases j with
  |nil=>cases(ae (ae (ae h).2).2).1
  |cons c u=>exact p_ O (jR O b (ae (ae (ae h).2).2).2) (ae h).1 (eH (cs:=c::u) (ae (ae h).2).1) J
 |fst ps=>exact zY O h
 |chain3 op K L a b c d=>exact λpq s σ H Q I zz=>aE zz λF μ ρ S sk en w=>w.elim
 |sel fs i j=>cases h
 |tix o j=>have l:=(ae (ae (ae (ae h).2).2).2).1;exact yy (ae h).1 (ae (ae h).2).1 (eH l) (by rw[jA];exact fR (ae (ae (ae (ae h).2).2).2).2) (aP o O (ae (ae (ae h).2).2).1) (dk j O l)
 |join x j=>have l:=(ae (ae h).2).1;exact ss (ae h).1 (eH l) (by rw[jA];exact fR (ae (ae h).2).2) (dk j O l)
 |meth m o j=>have l:=(ae (ae (ae (ae h).2).2).2).1;exact sr (ae h).1 (ae (ae h).2).1 (eH l) (by rw[jA];exact fR (ae (ae (ae (ae h).2).2).2).2) jA.symm (aP o O (ae (ae (ae h).2).2).1) (dk j O l)
 |lenset a=>exact GP O (ae h).1 (ae (ae h).2).1 (ae (ae (ae h).2).2).2 (aP a O (ae (ae (ae h).2).2).1)
 |sset a=>exact tq O (ae h).1 (ae (ae h).2).1 (ae (ae (ae h).2).2).2 (aP a O (ae (ae (ae h).2).2).1)
 |sumL=>cases h
 |rng=>cases h
 |comp box B U T it t body=>
  obtain⟨V,h⟩:=ae h;obtain⟨W,h⟩:=ae h;obtain⟨Y,h⟩:=ae h;obtain⟨l,h⟩:=ae h;obtain⟨Z,h⟩:=ae h;obtain⟨h6,h⟩:=ae h;obtain⟨h7,h8⟩:=ae h;have v:=zT O V
  refine aO (l4 (N:=B) (g:=qb X.K T) (tb:=tC X.K X.mg oL Φ Γ t body) O.calm v (zU O W) (m6 it O Z jT) (λA p=>eI _ p>>=λok=>if ok=true then bq (zR false _ _ _ _) (GO false _ _ p) (_::_) 0 (.ref A) p else pure ())
   (λit A p=>ti (kd:=false) rfl) (λC s0 M P A=>?_) (mW h6)) λσ H Q q=>jI (tg0:=ib T B ((vw e).gs.headD dG).target) q
  have G:=zV O v.kind Y C s0 M P;exact⟨jH G l,sJ (m5 t G h7) (tx body (kd:=false) G rfl rfl h8)⟩
 |ssc B U T it t body=>cases h
 |emitK e=>cases h
 |sortd a=>cases h
 |emit e=>cases h
 |inner a b c d=>cases h
 |seq a=>cases h
 |range a=>cases h
 |zip a=>cases h
 |enum a=>cases h
 |revl a=>cases h
 |by2 a=>cases h
 |down a=>cases h
theorem dI(c:CE):∀{X:Cx} {cell:Str->Bool} {N:Ls} {sc:Sc} {CX:c_} {E:XK} {Φ:FT} {Γ:Str->Option D} {k:Nat} {e:Expr},cg X cell N sc CX E Φ Γ k->bL c N sc e=true->PT X (aY c N e) (tT X.K X.mg E Φ Γ c):=by
 intro X cell N sc CX E Φ Γ k e O h;cases c with
 |var i=>
  refine df (gY (σ:=[]) (p8 O (ae h).1 (ae (ae h).2).1 (ae (ae h).2).2) λ_=>rfl) λu H Q Z=>aE Z λF t j S s n w=>⟨F,t,j,S,s,n,?_⟩;cases l:j[i]? with
  |none=>simp only[ao,l]at w;exact w.elim
  |some o=>
   cases o with
   |none=>simp only[ao,l]at w;exact w.elim
   |some d=>simp only[ao,l]at w;simp only[ah,l];exact w
 |lit d=>exact df (gY (Φ:=Φ) (Γ:=Γ) (σ:=[]) (p9 h) λ_=>rfl) λu H Q Z=>aE Z λF t j S s n w=>⟨F,t,j,S,s,n,w⟩
 |call f p=>
  have A:=dk p O (ae (ae h).2).1;cases p with
  |nil=>cases(ae (ae h).2).2
  |cons c C=>
   refine df (gY (σ:=[]) (jD O (ae h).1 (eH (cs:=c::C) (ae (ae h).2).1) A) λ_=>rfl) λu H Q Z=>aE Z λF t j S s n w=>⟨F,t,j,S,s,n,?_⟩;simp only[ao]at w;simp only[ah];cases l:Φ f with
   |none=>rw[l]at w;exact w
   |some I=>
    rw[l]at w;show ak _ _ _ _ _ _ _ (((ai Φ Γ (c::C) j S).bind λx v=>I x v).bind _);cases m:ai Φ Γ (c::C) j S with
    |ok x v=>rw[m]at w;exact w
    |err y v=>rw[m]at w;exact w
    |fail=>rw[m]at w;exact w
 |blt b p=>
  have A:=dk p O (ae (ae h).2).1;cases p with
  |nil=>cases(ae (ae (ae h).2).2).1
  |cons c C=>
   refine df (gY (σ:=[]) (p_ O (jR O b (ae (ae (ae h).2).2).2) (ae h).1 (eH (cs:=c::C) (ae (ae h).2).1) A) λ_=>rfl) λu H Q Z=>aE Z λF t j S s n w=>⟨F,t,j,S,s,n,?_⟩;simp only[ao]at w;simp only[ah];cases m:ai Φ Γ (c::C) j S with
   |ok x v=>rw[m]at w;exact w
   |err y v=>rw[m]at w;exact w
   |fail=>rw[m]at w;exact w
 |cmp op a b=>exact ye O.room.units (aP a O (ae h).1) (aP b O (ae (ae h).2).1) (fS (ae (ae h).2).2)
 |chain3 op B G a b c d=>exact GR O.room.units (aP a O (ae h).1) (aP b O (ae (ae h).2).1) (aP c O (ae (ae (ae h).2).2).1) (aP d O (ae (ae (ae (ae h).2).2).2).1) (fS (ae (ae (ae (ae h).2).2).2).2)
 |chain op B a b c=>exact ml O.room.units (aP a O (ae h).1) (aP b O (ae (ae h).2).1) (aP c O (ae (ae (ae h).2).2).1) (fS (ae (ae (ae h).2).2).2)
 |band a b=>exact(z7 (dI a O (ae h).1) (λz=>dI b O (eV (ae h).2 z)) λz=>by have g:=(ae (cv (ae h).2 z)).1;obtain⟨r,R,q⟩:=tt (pos:=(vw e).pos) (N:=N) (es:=(vw e).es.tail) g;exact⟨r,R,q,mZ b O (ae (cv (ae h).2 z)).2 (by rw[g];rfl)⟩).pt
 |bor a b=>exact(jS (dI a O (ae h).1) (λz=>dI b O (eV (ae h).2 z)) λz=>by have g:=(ae (cv (ae h).2 z)).1;obtain⟨r,R,q⟩:=tw (pos:=(vw e).pos) (N:=N) (es:=(vw e).es.tail) g;exact⟨r,R,q,mZ b O (ae (cv (ae h).2 z)).2 (by rw[g,Bool.or_true])⟩).pt
 |bnot a=>exact yk (dI a O h)
 |_=>exact(mY λ_ _=>by simp only[ao]).pt
theorem mZ(c:CE):∀{X:Cx} {cell:Str->Bool} {N:Ls} {sc:Sc} {CX:c_} {E:XK} {Φ:FT} {Γ:Str->Option D} {k:Nat} {e:Expr},cg X cell N sc CX E Φ Γ k->bL c N sc e=true->(r_ c||jz c)=true->PW X (aY c N e) (tT X.K X.mg E Φ Γ c):=by
 intro X cell N sc CX E Φ Γ k e O h H;cases c with
 |band a b=>exact z7 (dI a O (ae h).1) (λz=>dI b O (eV (ae h).2 z)) λz=>by have g:=(ae (cv (ae h).2 z)).1;obtain⟨r,R,q⟩:=tt (pos:=(vw e).pos) (N:=N) (es:=(vw e).es.tail) g;exact⟨r,R,q,mZ b O (ae (cv (ae h).2 z)).2 (by rw[g];rfl)⟩
 |bor a b=>exact jS (dI a O (ae h).1) (λz=>dI b O (eV (ae h).2 z)) λz=>by have g:=(ae (cv (ae h).2 z)).1;obtain⟨r,R,q⟩:=tw (pos:=(vw e).pos) (N:=N) (es:=(vw e).es.tail) g;exact⟨r,R,q,mZ b O (ae (cv (ae h).2 z)).2 (by rw[g,Bool.or_true])⟩
 |_=>cases H
theorem dk(cs:List CE):∀{X:Cx} {cell:Str->Bool} {N:Ls} {sc:Sc} {CX:c_} {E:XK} {Φ:FT} {Γ:Str->Option D} {k:Nat} {es:Lx},cg X cell N sc CX E Φ Γ k->eT cs N sc es=true->PA X (dg cs N es) (tL X.K X.mg E Φ Γ cs):=by
 intro X cell N sc CX E Φ Γ k es O h;cases cs with
 |nil=>exact ym
 |cons c cs=>exact si (ae (ae h).2).1 (aP c O (ae h).1) (dk cs O (ae (ae h).2).2)
theorem jU(cs:List CE):∀{X:Cx} {cell:Str->Bool} {N:Ls} {sc:Sc} {CX:c_} {E:XK} {Φ:FT} {Γ:Str->Option D} {k:Nat} {es:Lx},cg X cell N sc CX E Φ Γ k->eT cs N sc es=true->cs.length<2->PO X (dg cs N es).head? (yu X.K X.mg E Φ Γ cs):=by
 intro X cell N sc CX E Φ Γ k es O h H;cases cs with
 |nil=>exact mq
 |cons c cs=>cases cs with
  |nil=>exact mr (aP c O (ae h).1)
  |cons _ _=>exact absurd H (by simp)
theorem m5(cs:List CE):∀{X:Cx} {cell:Str->Bool} {N:Ls} {sc:Sc} {CX:c_} {E:XK} {Φ:FT} {Γ:Str->Option D} {k:Nat} {es:Lx},cg X cell N sc CX E Φ Γ k->eT cs N sc es=true->xH X (dg cs N es) (cs.map (tT X.K X.mg E Φ Γ)):=by
 intro X cell N sc CX E Φ Γ k es O h;cases cs with
 |nil=>trivial
 |cons c cs=>exact⟨dI c O (ae h).1,m5 cs O (ae (ae h).2).2⟩
theorem m6(c:CE):∀{X:Cx} {cell:Str->Bool} {N:Ls} {sc:Sc} {CX:c_} {E:XK} {Φ:FT} {Γ:Str->Option D} {k:Nat} {tg:CT} {t e:Expr},cg X cell N sc CX E Φ Γ k->Dl c N sc tg e=true->(mf tg=true->eS t=true)->PI X t (se c N e) (tI X.K X.mg E Φ Γ c):=by
 intro X cell N sc CX E Φ Γ k tg t e O h l;cases c with
 |seq a=>exact yJ (aP a O h)
 |range f=>
  have i:=(ae (ae h).2).1;have H:=(ae (ae h).2).2;have g:=eH i;have j:=dk f O i;cases f with
  |nil=>cases H
  |cons a f=>cases f with
   |nil=>exact FI O (ae h).1 (g _ Ze) rfl j
   |cons b f=>cases f with
    |nil=>exact FJ O (ae h).1 (g _ Ze) (g _ (Zc _ Ze)) rfl j
    |cons d f=>cases H
 |down f=>cases h
 |by2 f=>cases h
 |revl f=>cases h
 |enum f=>cases h
 |zip f=>
  have i:=(ae (ae h).2).1;have H:=(ae (ae h).2).2;have g:=eH i;have j:=dk f O i;cases f with
  |nil=>cases(ae H).1
  |cons a f=>cases f with
   |nil=>cases(ae H).1
   |cons b f=>cases f with
    |nil=>exact yN O (ae h).1 (l (ae H).2) (g _ Ze) (g _ (Zc _ Ze)) j
    |cons d f=>cases(ae H).1
 |_=>cases h
theorem tx(c:CE):∀{X:Cx} {cell:Str->Bool} {N:Ls} {sc:Sc} {CX:c_} {E:XK} {Φ:FT} {Γ:Str->Option D} {k:Nat} {kd:Bool} {e:Expr} {gens g:List Comprehension} {scope:Scope} {pos:Pos} {d:Nat} {acc:Addr},cg X cell N sc CX E Φ Γ k->X.xe=(λ_ _=>False)->gens.drop (d+1)=sd c N g->Ft c kd cell N sc g e=true->
  PB X (bq (zR kd (mi c N e) gens scope pos) (GO kd (mi c N e) (.ref acc) X.env) gens d (.ref acc) X.env) (tB X.K X.mg (oK X kd) Φ Γ c acc):=by
 intro X cell N sc CX E Φ Γ k kd e gens g scope pos d acc O b H h;cases c with
 |emit a=>
  cases kd with
  |true=>cases h
  |false=>exact sK (GU H) (aP a O h)
 |emitK a=>cases h
 |inner t it i body=>obtain⟨f,h⟩:=ae h;obtain⟨j,h⟩:=ae h;obtain⟨l,h⟩:=ae h;obtain⟨m,n⟩:=ae h;exact mz (by cases kd<;>rfl) (by cases kd<;>rfl) (λit=>ti (zZ H)) b O.calm (zZ H) (m6 it O j jT) (mW l) (jH O f) (sJ (m5 i O m) (tx body O b (GV H) n))
 |_=>cases h
end
noncomputable def ax(K:Fg)(m:GS)(E:XK)(D:Ends)(μ:La)(H:Hp):Res Fl->Prop
 | .ok (.next ρ') S'=>∀μ' H' σ',Ext μ H μ' H'->aM K m μ' S' H'->aW K m μ' H' ρ' σ'->D.nx σ' H'
 | .ok (.ret d) S'=>∀μ' H' v,Ext μ H μ' H'->aM K m μ' S' H'->Rep K m μ' H' d v->D.rt v H'
 | .ok (.brk ρ') S'=>∀μ' H' σ',Ext μ H μ' H'->aM K m μ' S' H'->aW K m μ' H' ρ' σ'->D.bk σ' H'
 | .ok (.cont ρ') S'=>∀μ' H' σ',Ext μ H μ' H'->aM K m μ' S' H'->aW K m μ' H' ρ' σ'->D.ct σ' H'
 | .err x S'=>∀μ' H',Ext μ H μ' H'->aM K m μ' S' H'->x_ m.mg E x H'
 | .fail=>False
noncomputable def tS(K:Fg)(m:Mg)(E:XK)(Φ:FT)(Γ:Str->Option D)(c:CS):TS:=λD σ H=>∃F μ ρ S,aM K ⟨m,F⟩ μ S H/\aW K ⟨m,F⟩ μ H ρ σ/\ax K ⟨m,F⟩ E D μ H (ar Φ Γ c ρ S)
noncomputable def jV(K:Fg)(m:Mg)(E:XK)(Φ:FT)(Γ:Str->Option D)(cs:List CS):TS:=λD σ H=>∃F μ ρ S,aM K ⟨m,F⟩ μ S H/\aW K ⟨m,F⟩ μ H ρ σ/\ax K ⟨m,F⟩ E D μ H (ag Φ Γ cs ρ S)
section
variable {mg:GS}{E:XK}{D D':Ends}
theorem ax.ext{r:Res Fl}(x:Ext μ H μ' H')(w:ax K mg E D μ H r):ax K mg E D μ' H' r:=by
 cases r with
 |ok f S=>
  cases f with
  |next a=>exact λm h s y=>w m h s (x.trans y)
  |ret d=>exact λm h s y=>w m h s (x.trans y)
  |brk a=>exact λm h s y=>w m h s (x.trans y)
  |cont a=>exact λm h s y=>w m h s (x.trans y)
 |err z S=>exact λm h y=>w m h (x.trans y)
 |fail=>exact w
theorem ax.bind{Rel:La->Hp->α->β->Prop}{r:Res α}{f:α->af->Res Fl}(w:ax K mg E D μ H (r.bind f)):
  ak K mg E Rel μ H (λb H'=>∃μ' S' a,Ext μ H μ' H'/\aM K mg μ' S' H'/\Rel μ' H' a b/\ax K mg E D μ' H' (f a S')) r:=by
 cases r with
 |ok a S'=>exact λc d b x s r=>⟨_,_,a,x,s,r,ax.ext x (show ax K _ E D _ H _ from w)⟩
 |err y S'=>exact w
 |fail=>exact w
theorem ax.seq{r:Res Fl}{f:bt->af->Res Fl}{N:L2.St->Hp->Prop}(w:ax K mg E D μ H (r.bind λF S1=>match F with
   | .next ρ'=>f ρ' S1
   |F=>.ok F S1)) (b:∀μ' H' σ' ρ' S',Ext μ H μ' H'->aM K mg μ' S' H'->aW K mg μ' H' ρ' σ'->ax K mg E D μ' H' (f ρ' S')->N σ' H'):ax K mg E {D with nx:=N} μ H r:=by
 cases r with
 |ok F S=>
  cases F with
  |next a=>exact λm h s x k e=>b m h s _ S x k e (ax.ext x (show ax K _ E D _ H _ from w))
  |ret d=>exact w
  |brk a=>exact w
  |cont a=>exact w
 |err z S=>exact w
 |fail=>exact w
end
theorem b3{t t':TS}(h:PS X st t)(w:∀D σ H,t' D σ H->t D σ H):PS X st t':=λp s σ H D I q=>h _ s _ H D I (w D _ H q)
theorem jW{st:List Stmt}{t t':TS}(h:dW X st t)(w:∀D σ H,t' D σ H->t D σ H):dW X st t':=λp s σ H D I q=>h _ s _ H D I (w D _ H q)
noncomputable def ft:Expr->Bool
 | .ListComp .. =>false
 | .SetComp .. =>false
 | .DictComp .. =>false
 |_=>true
noncomputable def tz:Expr->Bool
 | .ListComp .. =>true
 |_=>false
noncomputable def tD(s:Sc)(x:Str):Bool:=s.lookup x==some .local||s.lookup x==some .cell
noncomputable def J3(s:Sc)(x:Str)(p:Pos)(v:Expr):Bool:=s.lookup x==some .local&&(p.line==(vw v).pos.line&& !((vw v).sc.names.any λ(n,k)=>n==x&&(k== .local||k== .cell)))
noncomputable def tF(s:Sc)(ts vs:Lx)(n:Ls):Bool:=(ts.length==2||ts.length==3)&&(vs.length==ts.length&&(!(vs.any fun| .Starred .. =>true|_=>false)&&((ts.filterMap fun
  | .Name id pos=>if s.lookup id==some .local&&pos.line==(ts.head?.map (·.pos.line)).getD 0 then some id else none
  |_=>none)==n&&(n.length==ts.length&&(n.eraseDups.length==n.length&&(!(vs.all (foldedForSure 8))&& !(vs.all (constantsAlone 8))))))))
theorem tG{ts vs:Lx}{n:Ls}{k K p P}(h:tF sc ts vs n=true)(hs:env.scope.names=sc)(g:env.scope.kind=.function):swappedStores [.Tuple ts k p] (.Tuple vs K P) env=pure (some n):=by
 subst hs;obtain⟨l,h⟩:=ae h;obtain⟨a,h⟩:=ae h;obtain⟨b,h⟩:=ae h;obtain⟨H,h⟩:=ae h;obtain⟨m,h⟩:=ae h;obtain⟨o,h⟩:=ae h;obtain⟨d,f⟩:=ae h;have H:=ZU H;have a:=ZU a;have q:(env.blockKind !=.function)=false:=by unfold Env.blockKind;rw[g];rfl
 unfold swappedStores;have c:(!(ts.length==2||ts.length==3)||vs.length !=ts.length||env.blockKind !=.function)=false:=by lia
 have C:=Bool.not_eq_true' _▸b;have i:=Bool.not_eq_true' _▸d;have j:=Bool.not_eq_true' _▸f;simp only[c];simp only[Zr,ZR];rw[if_neg λz=>by have:=C.symm.trans z;cases this];generalize e:List.filterMap _ _=L;have E:=e.symm.trans H;lia
noncomputable def dS:Stmt:=.Pass ⟨0,0,0,0⟩
set_option genInjectivity false in
structure Km where
 e0:Expr:=dE
 e1:Expr:=dE
 a:List Stmt:=[]
 b:List Stmt:=[]
 pos:Pos:=⟨0,0,0,0⟩
 hp:Pos:=⟨0,0,0,0⟩
noncomputable def vs:Stmt->Km
 | .Assign ts v p=>{e0:=ts.headD dE,e1:=v,pos:=p}
 | .AugAssign t _ v p=>{e0:=t,e1:=v,pos:=p}
 | .Expr v p=>{e0:=v,pos:=p}
 | .Return v p=>{e0:=v.getD dE,pos:=p}
 | .Pass p=>{pos:=p}
 | .Break p=>{pos:=p}
 | .Continue p=>{pos:=p}
 | .If t x y p=>{e0:=t,a:=x,b:=y,pos:=p}
 | .For t i x _ p=>{e0:=t,e1:=i,a:=x,pos:=p}
 | .While t x _ p=>{e0:=t,a:=x,pos:=p}
 | .Raise v _ p=>{e0:=v.getD dE,pos:=p}
 | .Try x [.ExceptHandler t _ y hp] _ _ p=>{e0:=t.getD dE,a:=x,b:=y,pos:=p,hp:=hp}
 |_=>{}
noncomputable def z8(o i:CE)(N:Ls)(e:Expr):Expr:=.Subscript (aY o N (vw e).e0) (aY i N (vw e).e1) (vw e).pos
noncomputable def z9(o i:CE)(N:Ls)(s:Sc)(e:Expr):Bool:=ia (aY i N (vw e).e1)&&(bL o N s (vw e).e0&&bL i N s (vw e).e1)
noncomputable def GW(nb:Option (Str×Nat×Pos×Pos))(e:Expr):Expr:=match nb with
 |none=>e
 |some (x,k,p,q)=>.List [.Constant (.str x) k p,e] q
noncomputable def iq(nb:Option (Str×Nat×Pos×Pos))(p n y:Str)(t np vp c r h:Pos):ExceptHandler:=.ExceptHandler (some (.Name p t)) (some n) [.Return (some (GW nb (.Call (.Name y np) [.Name n vp] [] c))) r] h
mutual
noncomputable def i3:CS->Ls->Stmt->Stmt
 | .asg i e,N,st=>.Assign [.Name (N.getD i "") (vw (vs st).e0).pos] (aY e N (vs st).e1) (vs st).pos
 | .asgT t e,N,st=>.Assign [ib t N (vs st).e0] (aY e N (vs st).e1) (vs st).pos
 | .par is es,N,st=>.Assign [.Tuple (fo (is.map CT.var) N (vw (vs st).e0).es) (vw (vs st).e0).k (vw (vs st).e0).pos] (.Tuple (dg es N (vw (vs st).e1).es) (vw (vs st).e1).k (vw (vs st).e1).pos) (vs st).pos
 | .aug _ _,_,st=>st
 | .set o i v,N,st=>.Assign [z8 o i N (vs st).e0] (aY v N (vs st).e1) (vs st).pos
 | .set2 _ _ _ _ _,_,st=>st
 | .expr e,N,st=>.Expr (aY e N (vs st).e0) (vs st).pos
 | .ret e,N,st=>.Return (some (aY e N (vs st).e0)) (vs st).pos
 | .retN,_,st=>.Return none (vs st).pos
 | .pass,_,st=>.Pass (vs st).pos
 | .brk,_,st=>.Break (vs st).pos
 | .cont,_,st=>.Continue (vs st).pos
 | .ite c a b,N,st=>.If (aY c N (vs st).e0) (cj a N (vs st).a) (cj b N (vs st).b) (vs st).pos
 | .for_ t it body,N,st=>.For (ib t N (vs st).e0) (se it N (vs st).e1) (cj body N (vs st).a) [] (vs st).pos
 | .while_ _ c body,N,st=>.While (aY c N (vs st).e0) (cj body N (vs st).a) [] (vs st).pos
 | .never,_,st=>st
 | .dloop _ _ _ _,_,st=>st
 | .raise_ x es,N,st=>.Raise (some (.Call (.Name x (vw (vw (vs st).e0).e0).pos) (dg es N (vw (vs st).e0).es) [] (vw (vs st).e0).pos)) none (vs st).pos
 | .tryK i body f _ _,N,st=>.Try (cj body N (vs st).a) [iq none "PairError" (N.getD i "") f (vw (vs st).e0).pos (vw (vw (vs ((vs st).b.headD dS)).e0).e0).pos (vw ((vw (vs ((vs st).b.headD dS)).e0).es.headD dE)).pos (vw (vs ((vs st).b.headD dS)).e0).pos (vs ((vs st).b.headD dS)).pos (vs st).hp] [] [] (vs st).pos
 | .tryN x i body f _ _,N,st=>.Try (cj body N (vs st).a) [iq (some (x,(vw ((vw (vs ((vs st).b.headD dS)).e0).es.headD dE)).k,(vw ((vw (vs ((vs st).b.headD dS)).e0).es.headD dE)).pos,(vw (vs ((vs st).b.headD dS)).e0).pos)) "PairError" (N.getD i "") f (vw (vs st).e0).pos (vw (vw ((vw (vs ((vs st).b.headD dS)).e0).es.getD 1 dE)).e0).pos (vw ((vw ((vw (vs ((vs st).b.headD dS)).e0).es.getD 1 dE)).es.headD dE)).pos (vw ((vw (vs ((vs st).b.headD dS)).e0).es.getD 1 dE)).pos (vs ((vs st).b.headD dS)).pos (vs st).hp] [] [] (vs st).pos
noncomputable def cj:List CS->Ls->List Stmt->List Stmt
 | [],_,_=>[]
 |c::cs,N,st=>i3 c N (st.headD dS)::cj cs N st.tail
end
noncomputable def jX:Expr->Bool
 | .Tuple xs _ _=>xs.all (foldedForSure 8)
 |_=>true
noncomputable def jY(s:Sc):Expr->Bool
 | .Tuple ts _ _=>ts.any fun
  | .Name id _=>s.lookup id==some .cell
  |_=>false
 |_=>false
mutual
noncomputable def vW:CS->Ls->Sc->Stmt->Bool
 | .asg i e,N,sc,st=>N[i]?==some (N.getD i "")&&(tD sc (N.getD i "")&&(bL e N sc (vs st).e1&&(ft (aY e N (vs st).e1)||(yb e&&(sc.lookup (N.getD i "")==some .cell||J3 sc (N.getD i "") (vw (vs st).e0).pos (aY e N (vs st).e1))))))
 | .asgT t e,N,sc,st=>mf t&&((jX (aY e N (vs st).e1)||jY sc (ib t N (vs st).e0))&&(ft (aY e N (vs st).e1)&&(pY (λ_=>true) N sc t&&bL e N sc (vs st).e1)))
 | .par is es,N,sc,st=>is.all (λi=>N[i]?==some (N.getD i "")&&sc.lookup (N.getD i "")==some .local)&&(decide (is.length<=3)&&(eT es N sc (vw (vs st).e1).es&&tF sc (fo (is.map CT.var) N (vw (vs st).e0).es) (dg es N (vw (vs st).e1).es) (is.map λi=>N.getD i "")))
 | .aug _ _,_,_,_=>false
 | .set o i v,N,sc,st=>z9 o i N sc (vs st).e0&&(ft (aY v N (vs st).e1)&&bL v N sc (vs st).e1)
 | .set2 _ _ _ _ _,_,_,_=>false
 | .expr e,N,sc,st=>ft (aY e N (vs st).e0)&&bL e N sc (vs st).e0
 | .ret e,N,sc,st=>bL e N sc (vs st).e0
 | .retN,_,_,_=>true
 | .pass,_,_,_=>true
 | .brk,_,_,_=>true
 | .cont,_,_,_=>true
 | .ite c a b,N,sc,st=>bL c N sc (vs st).e0&&(dY a N sc (vs st).a&&dY b N sc (vs st).b)
 | .for_ t it body,N,sc,st=>pY (λ_=>true) N sc t&&(Dl it N sc t (vs st).e1&&(me (se it N (vs st).e1)&&dY body N sc (vs st).a))
 | .while_ _ c body,N,sc,st=>bL c N sc (vs st).e0&&dY body N sc (vs st).a
 | .never,_,_,_=>true
 | .dloop _ _ _ _,_,_,_=>false
 | .raise_ x es,N,sc,st=>a8 sc x&&(eT es N sc (vw (vs st).e0).es&&(0<es.length&&(dg es N (vw (vs st).e0).es).all bJ))
 | .tryK i body f _ _,N,sc,st=>N[i]?==some (N.getD i "")&&(sc.lookup (N.getD i "")==some .local&&(dF (N.getD i "")&&(a8 sc "PairError"&&(a8 sc f&&dY body N sc (vs st).a))))
 | .tryN _ i body f _ _,N,sc,st=>N[i]?==some (N.getD i "")&&(sc.lookup (N.getD i "")==some .local&&(dF (N.getD i "")&&(a8 sc "PairError"&&(a8 sc f&&dY body N sc (vs st).a))))
noncomputable def dY:List CS->Ls->Sc->List Stmt->Bool
 | [],_,_,_=>true
 |c::cs,N,sc,st=>vW c N sc (st.headD dS)&&dY cs N sc st.tail
end
section
variable {E:XK}{k:Nat}{pos:Pos}
theorem ir{v:Expr}{o:Option Expr}(h:ft v=true):swapsWith v o line env=pure false:=by cases v<;>first|rfl|cases h
theorem z_(O:cg X cell N sc CX E Φ Γ k):X.env.blockKind=.function:=by unfold Env.blockKind;rw[O.kd];rfl
theorem m9(O:cg X cell N sc CX E Φ Γ k){v:Expr}{x:Str}{p:Pos}(h:tz v=true)(H:sc.lookup x=some .cell):swapsWith v (some (.Name x p)) line X.env=pure false:=by
 have e:X.env.kindOf x=some .cell:=by show X.env.scope.names.lookup x=_;rw[O.sc];exact H
 cases v<;>first| (cases h)|skip
 show(pure _)=pure _;have a:(some NameKind.cell==some NameKind.local)=false:=by lia
 lia
theorem tH(O:cg X cell N sc CX E Φ Γ k){e:Expr}{g:List Comprehension}{p:Pos}{x:Str}(h:J3 sc x p (.ListComp e g scope vp)=true):swapsWith (.ListComp e g scope vp) (some (.Name x p)) line X.env=pure true:=by
 obtain⟨d,h⟩:=ae h;obtain⟨H,a⟩:=ae h;have c:X.env.kindOf x=some .local:=by show X.env.scope.names.lookup x=_;rw[O.sc];simp_all
 show pure (X.env.blockKind== .function&&X.env.kindOf x==some _&&p.line==vp.line&& !_)=pure _;rw[z_ O,show(p.line==vp.line)=true from H];have b:(!scope.names.any _)=true:=a;lia
theorem tJ(O:cg X (λ_=>true) N sc CX E Φ Γ k){x:Str}(h:tD sc x=true):L2.Loc X.env.scope x:=by unfold L2.Loc;rw[O.sc];unfold tD at h;simpa using h
theorem Aa{D:Ends}{i:Nat}{e:CE}(h:tS X.K X.mg E Φ Γ (.asg i e) D σ H):tE X.K X.mg E Φ Γ e σ H λv H1=>D.nx (σ.set i (some v)) H1:=by obtain⟨F,g,j,S,b,a,w⟩:=h;exact⟨F,_,_,S,b,a,(ax.bind w).mono λv H1 z=>ay z λc f d x s r W=>W _ _ _ .refl s ((a.mono x).set r)⟩
theorem Ab(O:cg X (λ_=>true) N sc CX E Φ Γ k){i:Nat}{e:CE}(h:vW (.asg i e) N sc st=true):PS X (i3 (.asg i e) N st) (tS X.K X.mg E Φ Γ (.asg i e)):=by
 obtain⟨c,h⟩:=ae h;obtain⟨r,h⟩:=ae h;obtain⟨l,a⟩:=ae h;have c:=beq_iff_eq.mp c
 have p:swapsWith (aY e N (vs st).e1) (some (.Name (N.getD i "") (vw (vs st).e0).pos)) (vs st).pos.line X.env=pure false->PS X (i3 (.asg i e) N st) (tS X.K X.mg E Φ Γ (.asg i e)):=λt=>
  b3 (i9 (i:=i) (by rw[O.n];exact O.nd) (by rw[O.n];exact c) (tJ O r) (aP e O l) t (.inl (O.fn _ rfl))) λD M H q=>Aa q
 rcases Bool.or_eq_true_iff.mp a with a|a
 ·exact p (ir a)
 ·obtain⟨a,b⟩:=ae a;cases e with
  |comp box n P T it I body=>
   rcases Bool.or_eq_true_iff.mp b with b|b
   ·exact p (m9 O rfl (beq_iff_eq.mp b))
   ·have f:=tH O (line:=(vs st).pos.line) b;have u:X.env.scope.names.lookup (N.getD i "")=some .local:=by rw[O.sc];exact beq_iff_eq.mp (ae b).1
    obtain⟨K,h⟩:=ae l;obtain⟨v,h⟩:=ae h;obtain⟨w,h⟩:=ae h;obtain⟨x,h⟩:=ae h;obtain⟨y,h⟩:=ae h;obtain⟨z,h⟩:=ae h;obtain⟨B,G⟩:=ae h;have s:=zT O K
    refine b3 (l5 (N:=n) (j:=i) (g:=qb X.K T) (tb:=tC X.K X.mg oL Φ Γ I body) O.calm (by rw[O.n];exact O.nd) (by rw[O.n];exact c) u f s (zU O v) (m6 it O y jT) _
     (λit A o=>ti (kd:=false) rfl) (λC S m F A=>?_) (mW z)) λD M H q=>jI (tg0:=.Name (N.getD i "") (vw (vs st).e0).pos) (Aa q)
    have d:=zV O s.kind w C S m F;exact⟨jH d x,sJ (m5 I d B) (tx body (kd:=false) d rfl rfl G)⟩
  |_=>cases a
end
def vX(h:Heap)(H:Hp)(h':Heap)(e:Addr)(cls:Value):Prop:=
 ∃o vs a0 T O ts,h'.get? e=some o/\(o.cls=cls/\vs[0]?=some a0)/\o.data=.fields vs/\vs[1]?=some (.ref T)/\T≠e/\h'.get? T=some O/\O.data=.fields ts/\ts[3]?=some .none/\(h.get? e=none/\h.get? T=none)/\H e=none/\H T=none
noncomputable def bn(P:Program)(w:World):c_:=λouter H s E v s'=>∃e cls H',v=.ref e/\s'.os=s.os/\AllBare s'.gens/\Un (bG outer) [] H H' s.heap s'.heap/\dO P w H' s'.heap/\E cls none H'/\vX s.heap H' s'.heap e cls
theorem qj{P:Program}(o:List Env)(H:Hp)(s:Shared)(e:Value)(S:Shared)(z:bn P w o H s E0 e S):False:=by obtain⟨_,_,_,_,_,_,_,_,q,_⟩:=z;exact q
theorem tK{P:Program}{o:HO}(x:a7 P w H h a o):∃u,h.get? a=some u:=by
 cases o with
 |lst X=>obtain⟨_,_,_,_,e⟩:=x;exact⟨_,e⟩
 |tup X=>obtain⟨_,_,_,_,u,e,_⟩:=x;exact⟨_,e⟩
 |dK k=>obtain⟨_,_,_,_,o,_,_,e,_⟩:=x;exact⟨_,e⟩
 |dT k=>obtain⟨_,_,_,_,o,_,_,e,_⟩:=x;exact⟨_,e⟩
 |set S n=>obtain⟨o,_,_,_,e,_⟩:=x;exact⟨_,e⟩
 |ins C d fs=>obtain⟨_,_,_,e,_⟩:=x;exact⟨_,e⟩
 |own y=>obtain⟨_,e⟩:=x;exact⟨_,e⟩
 |xd fs=>obtain⟨_,⟨_,_,_,e,_⟩,_⟩:=x;exact⟨_,e⟩
 |rng lo b=>obtain⟨_,_,_,e⟩:=x;exact⟨_,e⟩
 |frz O u=>obtain⟨e,_⟩:=x;exact⟨_,e⟩
 |tbl p=>exact⟨_,show h.get? a=some _ from x⟩
 |met f y=>exact⟨_,show h.get? a=some _ from x⟩
 |ext c=>obtain⟨_,e,_⟩:=x;exact e
section
variable {s3:Shared}{e T:Addr}{B:Heap}{E:XK}
theorem Ac(I:Inv X pq σ H' s2)(F:X.ex=[])(K:X.stack=X.env::X.outer)(P:∀b o,s2.heap.get? b=some o->b∉bG X.stack->b≠e->b≠T->B.get? b=some o)
  (A:X.s₀.heap.get? e=none/\X.s₀.heap.get? T=none) (w:H' e=none/\H' T=none) (N:Heap.FlyingW B X.outer e cls a0 h') (up:s2.heap.UpToSlots h') (q:E cls none H')
  (R:s3.os=s2.os) (V:s3.gens=s2.gens) (C:s3.heap=h'):bn X.prog X.w X.outer X.H₀ X.s₀ E (.ref e) s3:=by
 have U:=I.base;rw[F]at U;have L:=I.stack;have m:∀b,b∈bG X.stack->∃o,s2.heap.get? b=some o/\∀vs,o.data≠.fields vs:=λb d=>(L.mem d).2;have n:∀b∈bG X.stack,H' b=none:=I.stkFree;have k:∀b o,s2.heap.get? b=some o->b∉bG X.stack->b≠e->b≠T->h'.get? b=some o:=λb o h H c g=>N.1 b o (P b o h H c g);have old:∀b o,X.s₀.heap.get? b=some o->b≠e/\b≠T:=λb o h=>⟨λz=>(by rw[z,A.1]at h;cases h),λz=>(by rw[z,A.2]at h;cases h)⟩
 have nl:∀b o,X.s₀.heap.get? b=some o->b∉bG X.outer->b∉bG X.stack:=λb o h H c=>by
  rcases Zk.mp (I.stkSub b c)with z|z
  ·have:=Zi h;rw[z]at this;exact absurd this (Nat.not_lt.mpr I.ok.above)
  ·exact H z
 have M:∀b∈bG X.outer,b∈bG X.stack:=λb d=>by rw[K];obtain⟨Y,h,H⟩:=ZP.mp d;exact ZP.mpr ⟨Y,Zc _ h,H⟩
 have r:∀b o,s2.heap.get? b=some o->b≠e->b≠T->∃O,h'.get? b=some O:=λb o h H c=>by
  by_cases d:b∈bG X.stack
  ·obtain⟨o1,g,i⟩:=m b d;obtain⟨sl,l⟩:=up b o1 g i;exact⟨_,l⟩
  ·exact⟨o,k b o h d H c⟩
 have Q:Un (bG X.outer) [] X.H₀ H' X.s₀.heap h':=by
  refine⟨λb o h H c g=>k b o (U.keep b o h H c g) (nl b o h c) (old b o h).1 (old b o h).2,λb o h H c g=>?_,U.free,λb o h H=>?_,U.tups,U.frzs,U.tbls⟩
  ·obtain⟨sl,i⟩:=U.slot b o h H c g;obtain⟨o1,l,x⟩:=m b (M b c);rw[i]at l;cases l;obtain⟨S,y⟩:=up b _ i x;exact⟨S,y⟩
  ·obtain⟨O,i⟩:=U.there b o h H;exact r b O i (old b o h).1 (old b o h).2
 have t:∀b u,H' b=some u->b∉bG X.stack/\b≠e/\b≠T:=λb u h=>
  ⟨λz=>(by rw[n b z]at h;cases h),λz=>(by rw[z,w.1]at h;cases h),λz=>(by rw[z,w.2]at h;cases h)⟩
 have J:dO X.prog X.w H' h':=λa o W=>(I.hok a o W).stay (λb u d h=>by
  have D:∃u,H' b=some u:=by rcases d with rfl|d<;>exact⟨_,by assumption⟩
  obtain⟨u',hu⟩:=D;obtain⟨t1,t2,t3⟩:=t b u' hu;exact k b u h t1 t2 t3) (λ_ q=>q) λ_ _ q=>q
 obtain⟨k1,k2,k3,oe,vs,f,oT,ts,h,H,c,g,i,l,x,y,Z⟩:=N
 have fS:∀o,s2.heap.get? f=some o->f=T:=λo G=>by
  refine Classical.byContradiction λhn=>?_;by_cases d:f∈bG X.stack
  ·obtain⟨o1,j,s⟩:=m f d;obtain⟨sl,v⟩:=up f o1 j s;rw[x]at v;cases v;exact s _ y
  ·rw[P f o G d l hn]at i;cases i
 refine⟨e,cls,H',rfl,by rw[R];exact I.os,by rw[V];exact I.bare,by rw[C];exact Q,by rw[C];exact J,q,?_⟩;rw[C];refine⟨oe,vs,a0,f,oT,ts,h,H,c,g,l,x,y,Z,⟨A.1,?_⟩,w.1,?_⟩
 ·cases p:X.s₀.heap.get? f with
  |none=>rfl
  |some o=>obtain⟨O,j⟩:=U.there f o p (by simp);rw[fS O j,A.2]at p;cases p
 ·cases p:H' f with
  |none=>rfl
  |some u=>obtain⟨o,G⟩:=tK (I.hok f u p);rw[fS o G,w.2]at p;cases p
theorem Ad{l:List Env}(f:vX h0 Hx h e cls)(t:h.FunFrames base l):∃T a0,(h0.get? e=none/\h0.get? T=none)/\(Hx e=none/\Hx T=none)/\Heap.FlyingW (PySem.W.hideAll h (e::T::bG l)) l e cls a0 h:=by obtain⟨u,vs,a0,T,O,v,d,g,i,j,k,m,n,p,H,c⟩:=f;refine⟨T,a0,H,c,λb o q=>PySem.W.of_hideAll _ q,PySem.W.hideAll_none _ (by simp),PySem.W.funFrames_hide t (λE s a r=>?_),u,vs,T,O,v,d,g,i,j,PySem.W.hideAll_none _ (by simp),k,m,n,p⟩;exact Zc _ (Zc _ (ZP.mpr ⟨E,s,r⟩))
theorem Ae{l:List Env}:∀b o,h.get? b=some o->b∉bG l->b≠e->b≠T->(PySem.W.hideAll h (e::T::bG l)).get? b=some o:=λb o a c d f=>
 PySem.W.hideAll_get _ a λH=>by
  rcases Zk.mp H with z|H
  ·exact d z
  ·rcases Zk.mp H with z|H
   ·exact f z
   ·exact c H
theorem Af{v:Value}(I:Inv X pq σ H s)(c:bn X.prog X.w X.stack H s E v s2)(a:X.ex=[]):∃e cls H',v=.ref e/\Inv X pq σ H' s2/\E cls none H'/\vX s.heap H' s2.heap e cls:=by obtain⟨e,cls,H',rfl,o,B,un,h,q,f⟩:=c;exact⟨e,cls,H',rfl,I.call' o un h B (λb z=>absurd z (by simp)),q,f⟩
theorem vX.old(f:vX h0 Hx h e cls)(t:∀b o,h1.get? b=some o->∃o',h0.get? b=some o'):vX h1 Hx h e cls:=by
 obtain⟨r,vs,a,T,O,s,c,d,i,j,k,l,m,p,g,G⟩:=f
 have n:∀b,h0.get? b=none->h1.get? b=none:=λb H=>by
  cases q:h1.get? b with
  |none=>rfl
  |some o=>obtain⟨o',E⟩:=t b o q;rw[H]at E;cases E
 exact⟨r,vs,a,T,O,s,c,d,i,j,k,l,m,p,⟨n _ g.1,n _ g.2⟩,G⟩
end
section
variable {E:XK}
def kT(X:Cx)(E:XK):Prop:=X.ex=[]/\X.stack=X.env::X.outer/\X.env.frame=some X.env.locals/\X.xe=λe s'=>wpAny (model X.prog X.w) X.A (leaving X.env e) (λ_ s=>bn X.prog X.w X.outer X.H₀ X.s₀ E e s) (λa s=>bn X.prog X.w X.outer X.H₀ X.s₀ E a s) s'
theorem kT.of{P:Program}{E:XK}:kT (fg (bn P w) P w K mg base N qual scope f cd A outer s H E) E:=
 ⟨rfl,rfl,rfl,rfl⟩
theorem kT.own(L:kT X E):PassesOwn (model X.prog X.w) X.A X.env X.xe:=by rw[L.2.2.2];exact PassesOwn.leaving
theorem kT.pass(L:kT X E):jd (bn X.prog X.w) X E:=by intro P t H s v S I c;obtain⟨a,h,l,d⟩:=L;obtain⟨e,cls,m,rfl,g,q,f⟩:=Af I c a;have F:=f.old (h1:=X.s₀.heap) λb o k=>I.base.there b o k (by rw[a];simp);obtain⟨T,A,n,N,j⟩:=Ad F (h▸g.stack);rw[d];refine wpAny_leaves_onW (by rw[I.ok.frames,h]) l j λp i up=>?_;exact Ac (T:=T) g a h (by rw[h];exact Ae) n N i up q rfl rfl rfl
theorem kT.made{e:Addr}(L:kT X E)(I:Inv X pq σ H s)(m:Heap.MadeExcOf s.heap h2 e (.ref C) args)(q:E (.ref C) none H):X.xe (.ref e) {s with heap:=h2}:=by
 obtain⟨g,c,w,k⟩:=L;rw[k];have i:∀d∈X.env::X.outer,∀a,d.frame=some a->a∈bG (X.env::X.outer):=λd v a r=>ZP.mpr ⟨d,v,r⟩;refine wpAny_leaves_madeW (base:=PySem.W.hideAll s.heap (bG X.stack)) (h:=s.heap) (by rw[I.ok.frames,c]) w (λb o z=>PySem.W.of_hideAll _ z) (PySem.W.funFrames_hide (c▸I.stack) (by rw[c];exact i)) m λx t F y B up=>?_
 have ne:X.s₀.heap.get? e=none:=by
  cases j:X.s₀.heap.get? e with
  |none=>rfl
  |some o=>obtain⟨O,f⟩:=I.base.there e o j (by rw[g];simp);rw[m.new]at f;cases f
 have N:H e=none:=by
  cases j:H e with
  |none=>rfl
  |some u=>obtain⟨o,n⟩:=tK (I.hok e u j);rw[m.new]at n;cases n
 exact Ac (T:=e) I g c (λb o p h2 _ _=>PySem.W.hideAll_get _ p h2) ⟨ne,ne⟩ ⟨N,N⟩ F ((Heap.UpToSlots.of_keeps m.keeps).trans up) q rfl rfl rfl
end
noncomputable def jZ:Lv:=[.type "ValueError",.type "Exception",.type "BaseException",.type "object"]
section
variable {E:XK}{x:Str}
end
open PySem PySem.Spec PySem.Calls PyProof.Rows PySem.W
def tM(x C:Addr)(h:Heap):Prop:=∃o,h.get? x=some o/\o.cls=.ref C
theorem tM.type{x:Addr}(I:tM x C h):Looks M h (typeOf (.ref x)) (.ref C):=by obtain⟨o,H,a⟩:=I;exact a▸(Looks.ld H).andThen .now
theorem GX{Q:Unit->Shared->Prop}{x:Addr}{n:Value}(L:Looks M s.heap (typeOf (.ref x)) (.ref C))(c:Looks M s.heap (isSubtype (.ref C) (.type "BaseException")) true)(a:Q () s):
  wpAny M A (checkBuiltinCall "BaseException.__getattribute__" ⟨[.ref x,n],[]⟩) Q E s:=by
 have f:builtinKind "BaseException.__getattribute__"=some .slot:=by decide+kernel
 have h:splitId "BaseException.__getattribute__"=some ("BaseException","__getattribute__"):=by decide+kernel
 have b:=PySem.F.args_bexc_ga (.ref x) n;obtain⟨i,g,d,t,o⟩:=s;simp only[checkBuiltinCall,f,h];refine Za ?_;unfold isInstance;refine Za (L.at (c.at ?_));simp only[Bool.not_true,Zr,ZR];cases H:Manifest.signature? "BaseException.__getattribute__" with
 |none=>exact Zd a
 |some S=>simp only[argsOk,H]at b;have e:Bind.checkArgs "BaseException.__getattribute__" S ⟨[.ref x,n],[]⟩=pure ():=b;show wpAny M A (Bind.checkArgs "BaseException.__getattribute__" S ⟨[.ref x,n],[]⟩) Q E _;rw[e];exact Zd a
section
variable {x:Addr}
theorem m_{T:Value}{R:Result->Shared->Prop}(X:K.In s.heap)(I:tM x C s.heap)(H:mroIn K C (.type "object")=some true)
  (h:R (.ok (.ret (.ref C))) s):codeAny (model prog w) A (.call (.builtin "getset_descriptor.__get__") ⟨[.builtin "object.__class__",.ref x,T],[]⟩) R s:=by
 obtain⟨b,g,d,t,o⟩:=s;have L:=I.type (M:=model prog w);have a:=looks_mroIn (M:=model prog w) X H;refine codeAny_call_builtin KF.slot_gs.plain KF.entry_gs (KF.slot_gs.check _ _ _ _ _ _ _ _ KF.type_class (KF.args_gs _ _ _) ?_);unfold Builtin.«getset_descriptor.__get__» Builtin.Getset_descriptor.descrGet;rw[dga_obj];refine Za (Zd ?_);unfold Builtin.Getset_descriptor.descrGetter Builtin.Getset_descriptor.descrCheckInstance Builtin.Getset_descriptor.descrNameAndClass isInstance;simp only[KF.owner_class]
 repeat lk
 refine⟨Code.quiet_builtin _ (by decide+kernel),codeAny_builtin KF.entry_class ?_⟩;unfold Builtin.«object.__class__» shownTypeOf
 repeat lk
 exact h
structure j0 (K:Fg)(C:Addr):Prop where
 cls:∃cd,clsIn K C=some cd
 ga:findIn K (.ref C) "__getattribute__"=some (some (.builtin "BaseException.__getattribute__"))
 gn:findIn K (.ref C) "__getattr__"=some none
 at_:findIn K (.ref C) "__class__"=some (some (.builtin "object.__class__"))
 ob:mroIn K C (.type "object")=some true
 be:mroIn K C (.type "BaseException")=some true
 sp:specialIn K (.builtin "object.__class__") "__get__"=some (some (.builtin "getset_descriptor.__get__"))
 tk:takesIn K (.builtin "object.__class__")=some true
theorem GY{Q:Ov->Shared->Prop}(Z:j0 K C)(X:K.In s.heap)(I:tM x C s.heap)(h:Q (some (.ref C)) {s with toks:=s.toks+1}):wpAny (model prog w) A (getAttr? (.ref x) "__class__") Q E s:=by
 obtain⟨H,g,d,t,o⟩:=s;have L:=I.type (M:=model prog w);have b:=looks_findIn (M:=model prog w) X Z.ga;have L2:=looks_findIn (M:=model prog w) X Z.gn
 have c:Looks (model prog w) H (Builtin.ObjectAttr.find (.ref x) (.ref C) "__class__") (.bind (.builtin "getset_descriptor.__get__") (.builtin "object.__class__")):=
  (looks_findIn (M:=model prog w) X Z.at_).andThen ((looks_specialIn X Z.sp).andThen
   ((show Looks (model prog w) H (Builtin.ObjectAttr.dataDescriptor? (some (.builtin "object.__class__")) (some (.builtin "getset_descriptor.__get__"))) (some (.builtin "getset_descriptor.__get__",.builtin "object.__class__"))from(looks_takesIn (M:=model prog w) X Z.tk).andThen .now).andThen (Looks.tag .now)))
 have e:=looks_mroIn (M:=model prog w) X Z.be;unfold getAttr? getAttrBy? getAttrBy;refine Za (wpAny_mkText (Za (wpAny_attempt (ZL (Za (L.at (Za (b.at ?_))))))));show wpAny _ _ (getAttrByItsOwn _ _ _ _ _ _) _ _ _;unfold getAttrByItsOwn hookBefore;refine Za ?_;show wpAny _ _ (typeLookup (.ref C) "__getattr__") _ _ _;refine L2.at ?_;refine Za (wpAny_attempt (ZL ?_));show wpAny _ _ (boundAndCalled _ _ _) _ _ _;unfold boundAndCalled;have a:bindSpecial (.builtin "BaseException.__getattribute__") (.ref x)=pure (.builtin "BaseException.__getattribute__",[.ref x]):=PySem.F.attr_ValueError.ga.bind _;rw[a];refine Za (Zd ?_);refine wpAny_call (codeAny_call_builtin PySem.F.attr_ValueError.ga.plain PySem.F.entry_bexc_ga (GX (s:=⟨H,g,d,t+1,o⟩) L e ?_));unfold Builtin.«object.__getattribute__»;refine Za (Zd ?_);refine Za (Zd ?_);refine Za (L.at (Za (c.at ?_)));show wpAny _ _ (Builtin.ObjectAttr.bindTo _ _ _ _) _ _ _;unfold Builtin.ObjectAttr.bindTo
 repeat(any_goals (first|assumption|wp_step))
 refine m_ (s:=⟨H,g,d,t+1,o⟩) X I Z.ob ?_
 repeat(any_goals (first|assumption|wp_step))
theorem GZ(Z:j0 K C):KitX K (.ref x) (.ref C) (tM x C) where
 ty:=λ_ _ _ I=>I.type
 it:=λ_ _ X _=>by
  obtain⟨cdD,hcD⟩:=Z.cls;unfold clsIn at hcD;split at hcD
  ·rename_i c' d' cd' sl' ho;intro A' Q' E' s' k q;unfold isType loadHead;exact Za (wpAny_loadPart (k _ _ (X _ _ ho)) (Zd q))
  ·cases hcD
 ne:=λh tp dd its n sl X htp=>by
  obtain⟨cdD,hcD⟩:=Z.cls;refine Bool.eq_false_iff.mpr λq=>?_;have e:C=tp:=Value.ref.inj (beq_iff_eq.mp q);subst e;unfold clsIn at hcD;split at hcD
  ·rename_i c' d' cd' sl' ho;have z:=(X _ _ ho).symm.trans htp;cases z
  ·cases hcD
 ca:=λX I k=>GY Z X I k
end
section
variable {x:Addr}
noncomputable def dn(x C:Addr):HO:=.ext (tM x C)
theorem ng{P:Program}(i:tM x C h):a7 P w H h x (dn x C):=
 ⟨i,let⟨o,e,_⟩:=i;⟨o,e⟩,λa b ⟨o,e,c⟩ k=>⟨o,k o e,c⟩⟩
theorem Ag{D:Value}{b:Bool}(Z:j0 X.K C)(e:kitOne X.K (.ref C) D=some b):ba X (.builtin "isinstance") (λxs H Q=>∃v,xs=[.ref x,v]/\RelV v D/\(∀u,RelV v u->u=D)/\H x=some (dn x C)/\Q (.bl b) H):=by
 intro p s k H vs U Q I r h;obtain⟨v,rfl,j,a,c,q⟩:=h;cases r with
 |cons R d=>
  cases d with
  |cons f g=>cases g;cases R;rw[a _ f];obtain⟨i,_,_⟩:=(show a7 X.prog X.w H s.heap x (dn x C)from I.hok x _ c);exact kia_one (GZ Z) I.kIn i e (λz=>nomatch z) λt=>⟨.bl b,H,I.kept (t':=t) λb o e=>e,rfl,q⟩
end
end Py
namespace Py
open PySem PySem.Spec PySem.SeqAt PyProof.Rows L2
def Sub(H a:Hp):Prop:=∀b o,H b=some o->a b=some o
theorem Sub.refl:Sub H H:=λ_ _ h=>h
theorem Sub.laid{p:Addr}{o:HO}(s:Sub H H')(c:H' p=none):Sub H (aZ H' p o):=λb u h=>by have a:=s b u h;rw[aF (λz=>by rw[z,c]at a;cases a)];exact a
theorem tN:∀{bs:List Bool} {us:Lv},Vals (bs.map V.bl) us->us=bs.map Value.bool
 | [],_,.nil=>rfl
 |b::bs,_,.cons r t=>by rw[tN t,show _=Value.bool b from r];rfl
theorem Ah(bs:List Bool)(A:Around)(s:Shared):∀y,y∈(bs.map Value.bool).toArray->EqAt A s y (.bool true) (isBoolOf true y):=λy h=>by obtain⟨b,_,rfl⟩:=Zp.mp (List.mem_toArray.mp h);exact EqAt.bool_bool b true
theorem G1:je X "list.count" (λx xs H Q=>∃(l:Addr) (bs:List Bool),x=.ref l/\xs=[.bl true]/\H l=some (.lst (bs.map V.bl))/\Q (.int (bs.count true:Nat)) H):=by
 intro p s j H x xs v u Q I g d h;obtain⟨l,bs,rfl,rfl,c,q⟩:=h;cases g;cases d with
 |cons r R=>
  cases R;cases r;obtain⟨_,i,n,f,a⟩:=(show a7 X.prog X.w H s.heap l (.lst (bs.map V.bl))from I.hok l _ c);rw[tN f]at a;refine call_meets PySem.F.slot_list_count ⟨_,a,rfl⟩ PySem.F.entry_list_count (PySem.F.args_list_count_2 _ _) (list_countAt l _ n none #[] (.bool true) (isBoolOf true)) ⟨a,Ah bs _ _,?_⟩;have e:List.countP (isBoolOf true) (bs.map Value.bool).toArray.toList=bs.count true:=by rw[List.toList_toArray,List.countP_map];rfl
  rw[e];exact⟨.int _,H,I.kept (t':=s.toks+1) λb o e=>e,⟨_,rfl⟩,q⟩
theorem G2:je X "list.index" (λx xs H Q=>∃(l:Addr) (bs:List Bool),x=.ref l/\xs=[.bl true]/\H l=some (.lst (bs.map V.bl))/\true∈bs/\bs.length<1000/\Q (.int (bs.idxOf true:Nat)) H):=by
 intro P s z H x xs v U Q I w t h;obtain⟨l,bs,rfl,rfl,f,g,y,q⟩:=h;cases w;cases t with
 |cons r R=>
  cases R;cases r;obtain⟨_,k,n,u,c⟩:=(show a7 X.prog X.w H s.heap l (.lst (bs.map V.bl))from I.hok l _ f);rw[tN u]at c;have d:bs.idxOf true<bs.length:=List.idxOf_lt_length_of_mem g;refine call_meets PySem.F.slot_list_index ⟨_,c,rfl⟩ PySem.F.entry_list_index (PySem.F.args_list_index_2 _ _) (list_indexAt l _ n none #[] (.bool true) (isBoolOf true) (bs.idxOf true) (by simpa using d) (by omega) ?_ ?_) ⟨c,Ah bs _ _,?_⟩
  ·simp[isBoolOf]
  ·intro m j a;have:=List.not_of_lt_findIdx (p:=(· ==true)) (xs:=bs) (i:=m) a;simpa[isBoolOf]using this
  ·exact⟨.int _,H,I.kept (t':=s.toks+1) λb o e=>e,⟨_,rfl⟩,q⟩
noncomputable def iu(y:Str):CE:=.blt .isinst [.var 0,.glob y]
noncomputable def j1(y:Str):CE:=.lit (.str y)
noncomputable def f6(a b c d w v:Ls):List CS:=
 [.asg 1 (.lst false (a.map iu)),.asg 1 (.bin .Add (.var 1) (.lst false (b.map iu))),.asg 1 (.bin .Add (.var 1) (.lst false (c.map iu))),.asg 1 (.bin .Add (.var 1) (.lst false (d.map iu))),
  .ite (.bor (.bnot (iu "ValueError")) (.cmp .NotEq (.meth .count (.var 1) [.lit (.bl true)]) (.lit (.int 1)))) [.ret (.lit (.str "other"))] [],
  .asg 2 (.lst false (w.map j1)),.ret (.idx (.bin .Add (.var 2) (.lst false (v.map j1))) (.tix (.var 1) [.lit (.bl true)]))]
noncomputable def j2(st:List Stmt):Bool:=((st.drop 4).take 1).all (λs=>(vw (vs s).e0).es.length==2&&(vw (vw (vw ((vw (vs s).e0).es.tail.headD dE)).e0).e0).pos.endLine==(vw (vw ((vw (vs s).e0).es.tail.headD dE)).e0).pos.line)&&(st.length==7&&
 ((st.drop 6).take 1).all λs=>(vw (vw (vw (vs s).e0).e1).e0).pos.endLine==(vw (vw (vs s).e0).e1).pos.line)
structure KX (X:Cx)(N:Ls)(C:Addr)(bf:Str->Bool)(ys:Ls):Prop where
 n:X.N=N
 nd:N.Nodup
 len:N.length=3
 loc:∀(i:Nat) (y:Str),N[i]?=some y->X.env.scope.names.lookup y=some .local/\dF y=true
 fn:∀y,X.fn y=true
 isi:Gl X "isinstance"/\X.mg "isinstance"=none
 ve:Gl X "ValueError"/\X.mg "ValueError"=none
 kv:PySem.W.kitOne X.K (.ref C) (.type "ValueError")=some true
 z:j0 X.K C
 cl:∀y∈ys,Gl X y/\(y==("__debug__":Str))=false/\∃D,X.mg y=some (.ref D)/\PySem.W.kitOne X.K (.ref C) (.ref D)=some (bf y)
section
variable {x:Addr}{ys:Ls}
theorem gZ(O:KX X N C bf ys){i:Nat}(h:i<3):N[i]?=some (N.getD i ""):=by rw[List.getD_eq_getElem?_getD,Zj (by rw[O.len];exact h)];rfl
theorem f7(O:KX X N C bf ys){i:Nat}{pos:Pos}(H:i<3):PE X (.Name (N.getD i "") pos) (qB i):=by obtain⟨a,h⟩:=O.loc i _ (gZ O H);exact k7 (by rw[O.n];exact gZ O H) (.inl a) (fU h).1 (fU h).2
noncomputable def J4(x C:Addr)(b:Bool):TE:=λσ H Q=>σ[0]?=some (some (.ref x))/\H x=some (dn x C)/\Q (.bl b) H
theorem Ai(O:KX X N C bf ys)(c:y∈ys):PE X (aY (iu y) N e) (J4 x C (bf y)):=by obtain⟨g,G,D,a,b⟩:=O.cl y c;refine aO (rg (x:="isinstance") (Ag (x:=x) O.z b) O.isi.1 O.isi.2 (by decide+kernel) (dy (f7 O (by decide)) (dy (wh (v:=.ref D) g a rfl G) eG))) λd H Q h=>?_;exact⟨_,h.1,.ref D,rfl,rfl,λu r=>r,h.2.1,h.2.2⟩
theorem Aj(O:KX X N C bf ys):PE X (aY (iu "ValueError") N e) (J4 x C true):=by refine aO (rg (x:="isinstance") (Ag (x:=x) O.z O.kv) O.isi.1 O.isi.2 (by decide+kernel) (dy (f7 O (by decide)) (dy (wj (v:=.ty "ValueError") O.ve.1 O.ve.2 (by decide+kernel) rfl) eG))) λa H Q h=>?_;exact⟨_,h.1,.ty "ValueError",rfl,rfl,λu r=>r,h.2.1,h.2.2⟩
theorem j3(O:KX X N C bf ys):∀{zs:Ls} {es:Lx},(∀y∈zs,y∈ys)->PA X (dg (zs.map iu) N es) (λσ H Q=>σ[0]?=some (some (.ref x))/\H x=some (dn x C)/\Q ((zs.map bf).map V.bl) H)
 | [],es,_=>eQ eG λσ H Q h=>h.2.2
 |z::zs,es,a=>by refine eQ (dy (Ai (x:=x) O (a z Ze)) (j3 O (es:=es.tail) λy b=>a y (Zc _ b))) λσ H Q h=>?_;exact⟨h.1,h.2.1,h.1,h.2.1,h.2.2⟩
theorem tO:∀{zs:Ls} {es:Lx},PA X (dg (zs.map j1) N es) (λσ H Q=>Q (zs.map V.str) H)
 | [],es=>eQ eG λσ H Q h=>h
 |z::zs,es=>eQ (dy (k8 (x:=z)) (tO (zs:=zs) (es:=es.tail))) λσ H Q h=>h
theorem j4{t t':TS}(h:PS X st t)(w:∀D σ H,t' D σ H->t D σ H):PS X st t':=λp s σ H D I q=>h p s σ H D I (w D σ H q)
def Mk(x C:Addr)(bs:List Bool)(σ:L2.St)(H:Hp):Prop:=σ.length=3/\σ[0]?=some (some (.ref x))/\H x=some (dn x C)/\∃p,σ[1]?=some (some (.ref p))/\H p=some (.lst (bs.map V.bl))
theorem j5(O:KX X N C bf ys){i:Nat}{p pos:Pos}(h:i<3)(H:PE X e te)(a:ft e=true):PS X (.Assign [.Name (N.getD i "") p] e pos) (li te (dP i)):=
 i9 (by rw[O.n];exact O.nd) (by rw[O.n];exact gZ O h) (.inl (O.loc i _ (gZ O h)).1) H (ir a) (.inl (O.fn _))
theorem nh(O:KX X N C bf ys){a:Ls}(f:∀y∈a,y∈ys)(g:a.length<=1000):PS X (i3 (.asg 1 (.lst false (a.map iu))) N st)
  (λD σ H=>(σ.length=3/\σ[0]?=some (some (.ref x))/\H x=some (dn x C))/\∀σ' H',Mk x C (a.map bf) σ' H'->Sub H H'->D.nx σ' H'):=
 j4 (j5 O (by decide) (hO (j3 (x:=x) O f)) rfl) λD σ H ⟨⟨b,c,h⟩,e⟩=>⟨c,h,by simp;exact ZC g (by decide),λp d=>e _ _ ⟨by simp[b],by simpa using c,by rw[aF (bN h d)];exact h,p,by simp[b],bM⟩ (Sub.refl.laid d)⟩
theorem tP(O:KX X N C bf ys){a:Ls}(bs:List Bool)(m:∀y∈a,y∈ys)(f:bs.length+a.length<=1000):PS X (i3 (.asg 1 (.bin .Add (.var 1) (.lst false (a.map iu)))) N st)
  (λD σ H=>Mk x C bs σ H/\∀σ' H',Mk x C (bs++a.map bf) σ' H'->Sub H H'->D.nx σ' H'):=
 j4 (j5 O (by decide) (gQ lH (f7 O (i:=1) (by decide)) (hO (j3 (x:=x) O m))) rfl) λD σ H ⟨⟨c,d,h,p,l,e⟩,k⟩=>⟨_,l,d,h,by simp;exact ZC (ZC (Nat.le_add_left _ _) f) (by decide),λq b=>
  ⟨p,q,bs.map V.bl,(a.map bf).map V.bl,rfl,rfl,by rw[aF (bN e b)];exact e,bM,by simp;exact ZC f (by decide),λr g=>by
   have j:aZ H q (.lst ((a.map bf).map V.bl)) x=some (dn x C):=by rw[aF (bN h b)];exact h
   exact k _ _ ⟨by simp[c],by simpa using d,by rw[aF (bN j g)];exact j,r,by simp[c],by rw[bM,List.map_append]⟩ ((Sub.refl.laid b).laid g)⟩⟩
theorem tQ(h:bJ e=true):((backTo cpos (starEach [e] env)).all (λx=> !x.1)&&(backToKw cpos (keywordEach [] env)).all (λx=>x.1.isSome)&&decide ([e].length+([]:List Keyword).length+(if([]:List Keyword).isEmpty then 0 else 1)<30))=true:=by rw[jB (es:=[e]) (λx H=>by rw[List.mem_singleton.mp H];exact h)];rfl
theorem j6(O:KX X N C bf ys){id:String}{p:Pos}{j}(s:Slot "list" name id)(h:typeOf (.builtin id)=pure (.type "method_descriptor"))(a:je X id r)(H:(apos.endLine==cpos.line)=true):
  PE X (.Call (.Attribute (.Name (N.getD 1 "") vp) name apos) [.Constant (.bool true) j p] [] cpos) (JX X.K "list" r (qB 1) (gR (L2.tC (.bl true)) lx)):=
 pU PySem.F.plainAttrs_list s h a (f7 O (by decide)) (dy pM eG) rfl (tQ rfl) H rfl rfl
theorem tR(O:KX X N C bf ys)(bs:List Bool)(g:bs.count true=1)(a:(vw (vs st).e0).es.length=2)(i:((vw (vw (vw ((vw (vs st).e0).es.tail.headD dE)).e0).e0).pos.endLine==(vw (vw ((vw (vs st).e0).es.tail.headD dE)).e0).pos.line)=true):
  PS X (i3 (.ite (.bor (.bnot (iu "ValueError")) (.cmp .NotEq (.meth .count (.var 1) [.lit (.bl true)]) (.lit (.int 1)))) [.ret (.lit (.str "other"))] []) N st) (λD σ H=>Mk x C bs σ H/\D.nx σ H):=by
 have e:aY (.bor (.bnot (iu "ValueError")) (.cmp .NotEq (.meth .count (.var 1) [.lit (.bl true)]) (.lit (.int 1)))) N (vs st).e0=.BoolOp .Or [aY (.bnot (iu "ValueError")) N ((vw (vs st).e0).es.headD dE),aY (.cmp .NotEq (.meth .count (.var 1) [.lit (.bl true)]) (.lit (.int 1))) N ((vw (vs st).e0).es.tail.headD dE)] (vw (vs st).e0).pos:=by show Expr.BoolOp _ (_::cond ((vw (vs st).e0).es.length==2) _ _) _=_;rw[a];rfl
 show PS X (.If (aY (.bor _ _) N (vs st).e0) (cj [_] N _) [] _) _;rw[e];refine j4 (pP (PW.pt (pN (i6 (qD (Aj (x:=x) O))) (i5 (wG wC (j6 O PySem.F.slot_list_count PySem.F.type_list_count G1 i) i4 rfl)))) (DK) k_) λD σ H ⟨⟨j,b,c,p,d,h⟩,f⟩=>?_;refine⟨b,c,true,rfl,_,d,.inl ⟨rfl,_,.of h⟩,p,bs,rfl,rfl,h,rfl,?_⟩;rw[g];exact⟨_,rfl,f⟩
theorem ni(O:KX X N C bf ys)(bs:List Bool){w:Ls}(g:w.length<=1000):PS X (i3 (.asg 2 (.lst false (w.map j1))) N st)
  (λD σ H=>Mk x C bs σ H/\∀σ' H',(Mk x C bs σ' H'/\∃q,σ'[2]?=some (some (.ref q))/\H' q=some (.lst (w.map V.str)))->Sub H H'->D.nx σ' H'):=
 j4 (j5 O (by decide) (hO tO) rfl) λD σ H ⟨⟨a,d,b,p,f,c⟩,e⟩=>⟨by simp;exact ZC g (by decide),λq h=>e _ _ ⟨⟨by simp[a],by simpa using d,by rw[aF (bN b h)];exact b,p,by simpa using f,by rw[aF (bN c h)];exact c⟩,q,by simp[a],bM⟩ (Sub.refl.laid h)⟩
theorem Ak(O:KX X N C bf ys)(bs:List Bool){w v:Ls}{r:Str}(o:true∈bs)(c:bs.length<1000)(j:(w++v)[bs.idxOf true]?=some r)(hw:w.length+v.length<=1000)
  (n:((vw (vw (vw (vs st).e0).e1).e0).pos.endLine==(vw (vw (vs st).e0).e1).pos.line)=true):PS X (i3 (.ret (.idx (.bin .Add (.var 2) (.lst false (v.map j1))) (.tix (.var 1) [.lit (.bl true)]))) N st)
  (λD σ H=>(Mk x C bs σ H/\∃q,σ[2]?=some (some (.ref q))/\H q=some (.lst (w.map V.str)))/\∀H',Sub H H'->D.rt (.str r) H'):=by
 refine j4 (qH (pT w4 (gQ lH (f7 O (i:=2) (by decide)) (hO tO)) (j6 O PySem.F.slot_list_index PySem.F.type_list_index G2 n) (λ_ _=>rfl))) λD σ H ⟨⟨⟨s,t,u,p,l,d⟩,q,m,f⟩,k⟩=>?_;refine⟨_,m,by simp;exact ZC (ZC (Nat.le_add_left _ _) hw) (by decide),λa h=>⟨q,a,w.map V.str,v.map V.str,rfl,rfl,by rw[aF (bN f h)];exact f,bM,by simp;exact ZC hw (by decide),λb g=>?_⟩⟩
 have e:aZ (aZ H a (.lst (v.map V.str))) b (.lst (w.map V.str++v.map V.str)) p=some (.lst (bs.map V.bl)):=by
  have:aZ H a (.lst (v.map V.str)) p=some (.lst (bs.map V.bl)):=by rw[aF (bN d h)];exact d
  rw[aF (bN this g)];exact this
 refine⟨_,l,.inl ⟨rfl,_,.of e⟩,p,bs,rfl,rfl,e,o,c,b,w.map V.str++v.map V.str,_,_,rfl,rfl,.of bM,?_,k _ ((Sub.refl.laid h).laid g)⟩;have y:=(Zg.mp j).1;unfold gz gx;rw[<-List.map_append];simp only[Zm];rw[if_pos (by omega),if_pos (by omega)];show(List.map V.str (w++v))[_]?=_;rw[List.getElem?_map,Int.toNat_natCast,j];rfl
theorem tU(O:KX X N C bf ys){a b c d w v:Ls}{r:Str}{st:List Stmt}(e:ys=a++b++c++d)(f:ys.length<1000)(hw:w.length+v.length<=1000)(h1:(ys.map bf).count true=1)(q:(w++v)[(ys.map bf).idxOf true]?=some r)(n:j2 st=true):
  dW X (cj (f6 a b c d w v) N st) (λD σ H=>(σ.length=3/\σ[0]?=some (some (.ref x))/\H x=some (dn x C))/\∀H',Sub H H'->D.rt (.str r) H'):=by
 obtain⟨K,k⟩:=ae n;obtain⟨k,i⟩:=ae k;have k:=ZU k;obtain⟨F,st,rfl⟩:=ZH (show st.length=6+1 from k);obtain⟨G,st,rfl⟩:=ZH (show st.length=5+1 from ZF k);obtain⟨J,st,rfl⟩:=ZH (show st.length=4+1 from ZF (ZF k));obtain⟨L,st,rfl⟩:=ZH (show st.length=3+1 from ZF (ZF (ZF k)));obtain⟨S,st,rfl⟩:=ZH (show st.length=2+1 from ZF (ZF (ZF (ZF k))));obtain⟨Q,st,rfl⟩:=ZH (show st.length=1+1 from ZF (ZF (ZF (ZF (ZF k)))));obtain⟨R,st,rfl⟩:=ZH (show st.length=0+1 from ZF (ZF (ZF (ZF (ZF (ZF k))))));have K:((vw (vs S).e0).es.length==2&&_)=true:=(ae (show(_&&true)=true from K)).1;have i:=(ae (show(_&&true)=true from i)).1;obtain⟨K,t⟩:=ae K;have j:a.length+b.length+c.length+d.length<1000:=by rw[e]at f;simpa[Nat.add_assoc]using f
 have p:true∈ys.map bf:=List.count_pos_iff.mp (by omega);have E:ys.map bf=((a.map bf++b.map bf)++c.map bf)++d.map bf:=by rw[e];simp
 refine λP s σ H D I g=>ff (nh (x:=x) O (a:=a) (st:=F) (λy h=>by rw[e];simp[h]) (by omega)) (ff (tP (x:=x) O (st:=G) (a.map bf) (λy h=>by rw[e];simp[h]) (by simp;omega)) (ff (tP (x:=x) O (st:=J) (a.map bf++b.map bf) (λy h=>by rw[e];simp[h]) (by simp;omega))
  (ff (tP (x:=x) O (st:=L) (a.map bf++b.map bf++c.map bf) (λy h=>by rw[e];simp[h]) (by simp;omega)) (ff (tR (x:=x) O (ys.map bf) (st:=S) h1 (ZU K) t) (ff (ni (x:=x) O (ys.map bf) (w:=w) (st:=Q) (by omega)) (ff (Ak (x:=x) O (ys.map bf) (w:=w) (v:=v) (r:=r) (st:=R) p (by simpa using f) q hw i) k_)))))) P s σ H D I ?_
 obtain⟨g,hD⟩:=g;refine⟨g,λσ1 H1 M U=>⟨M,λσ2 H2 u T=>⟨u,λσ3 H3 A V=>⟨A,λσ4 H4 m W=>?_⟩⟩⟩⟩;rw[<-E]at m;exact⟨m,m,λσ5 H5 B Y=>⟨B,λl Z=>hD l λb o z=>Z b o (Y b o (W b o (V b o (T b o (U b o z)))))⟩⟩
end
end Py
namespace Py
abbrev nj(X:Cx)(A:Around):Cx:={X with A:=A,calm:=false,xe:=λ_ _=>False}
theorem tV(I:L2.Inv X pq σ H s)(h:A.frames=X.A.frames):L2.Inv (nj X A) pq σ H s:=
 ⟨⟨I.ok.mod,I.ok.kind,I.ok.glob,I.ok.blt,I.ok.above,I.ok.inj,I.ok.has,I.ok.cab,(λz=>by cases z),h.trans I.ok.frames,I.ok.stk,I.ok.exf,I.ok.bs,I.ok.bsz,I.ok.noex,I.ok.exfs,I.ok.funs,I.ok.frf⟩,I.os,I.bare,I.base,I.loc,I.cell,I.free,I.freeC,I.pin,I.hok,I.len⟩
theorem Al(I:L2.Inv (nj X A) pq σ H s)(ok:X.Ok):L2.Inv X pq σ H s:=⟨ok,I.os,I.bare,I.base,I.loc,I.cell,I.free,I.freeC,I.pin,I.hok,I.len⟩
def j7(P:Program)(w:World)(K:Fg)(m:Mg)(base:Heap)(f:Addr)(C:Addr)(r:Str):Prop:=
 ∀(A:Around) (outer:List Env) (s:Shared) (H:Hp) (e:Addr),A.depth<recursionLimit->jc P w K m base A outer s H->H e=some (dn e C)->codeAny (model P w) A (.call (.ref f) ⟨[.ref e],[]⟩) (CR EI outer P w H s (λv H'=>v=.str r/\Sub H H') E0) s
structure Ko (K:Fg)(mg:Mg)(C:Addr)(bf:Str->Bool)(ys:Ls):Prop where
 kv:PySem.W.kitOne K (.ref C) (.type "ValueError")=some true
 z:j0 K C
 cl:∀y∈ys,∃D,mg y=some (.ref D)/\PySem.W.kitOne K (.ref C) (.ref D)=some (bf y)
noncomputable def j8(N Y:Ls)(s:Scope):Bool:=(N.length==3&&N.all (λy=>s.names.lookup y==some .local&&dF y))&&(a8 s.names "isinstance"&&(a8 s.names "ValueError"&&Y.all (λy=>a8 s.names y)))
theorem G3{P:Program}{x e0:Str}{U:FuncData}{a b c d wd v:Ls}{r:Str}
  (F:lL K x qual st f U) (S:bH N [e0] (bi st)) (hb:Binds K U [e0] []) (D:cj (f6 a b c d wd v) N (bO st)=bO st) (hk:j2 (bO st)=true) (G:j8 N (a++b++c++d) (bi st)=true)
  (R:Ko K mg C bf (a++b++c++d)) (hi:mg "isinstance"=none) (hv:mg "ValueError"=none) (hl:(a++b++c++d).length<1000) (hw:wd.length+v.length<=1000) (h1:((a++b++c++d).map bf).count true=1) (hr:(wd++v)[((a++b++c++d).map bf).idxOf true]?=some r):
  j7 P w K mg base f C r:=by
 intro A g s H e z E he;obtain⟨oc,od,kV,doc,pm,an,j,ct,osl,rfl,lk,t⟩:=F.ex;have k:K.In s.heap:=E.mod.kin.keeps λb o e=>(E.bs b o e).1;have T:s.heap.NoLimit:=E.mod.nolimit.keeps λb o e=>(E.bs b o e).1
 have l:∀y∈[e0].zip [Value.ref e],(bi st).names.lookup y.1=some .local\/((bi st).names.lookup y.1=some .cell/\((cellsFrom (s.heap.objs.size+1) (bi st).names []).lookup y.1).isSome=true):=λ⟨n,v⟩ h=>by
  rcases S.par n (List.of_mem_zip h).1 with q|q
  ·exact .inl q
  ·exact .inr ⟨q,PySem.W.cellsFrom_some _ _ _ (.inl q)⟩
 refine codeAny_call_function z (k _ _ lk) rfl S.co S.gen rfl (PySem.W.codeRec_of k t) (hb s [.ref e] k rfl _ _ _ _ ?_);refine wpAny_newFunctionEnv_cells S.kind l λenv B Y Z=>?_;subst B;refine⟨T.keeps Z.toInCall.keep,codeAny_func ?_⟩;have I0:L2.Inv (fg EI P w K mg base N qual (bi st) f j {A with handled:=none} g s H E0) [] (start N [.ref e]) H Y:=wP S rfl ⟨E.frames,E.mod,E.bs,E.bsz,E.funs,E.frf,E.hok,E.bare⟩ rfl (.cons rfl .nil) Z;have I:=tV (A:=A.deeper (envOfC qual (bi st) s.heap.objs.size f j)) I0 rfl;obtain⟨L,M⟩:=ae G;obtain⟨L,k3⟩:=ae L;obtain⟨M,Q⟩:=ae M;obtain⟨Q,X⟩:=ae Q;have V:=ZU L;have gl:∀y,a8 (bi st).names y=true->(bi st).names.lookup y=some .globalImplicit/\(y==("__debug__":Str))=false:=λy h=>⟨(cH h).1,(cH h).2.1⟩
 have O:KX (nj (fg EI P w K mg base N qual (bi st) f j {A with handled:=none} g s H E0) (A.deeper (envOfC qual (bi st) s.heap.objs.size f j))) N C bf (a++b++c++d):=
  ⟨rfl,S.nd,V,λi y h=>by have:=Zn.mp k3 y (Zu h);obtain⟨q1,q2⟩:=ae this;exact⟨ZU q1,q2⟩,λ_=>rfl,⟨(gl _ M).1,hi⟩,⟨(gl _ Q).1,hv⟩,R.kv,R.z,λy h=>⟨(gl y (Zn.mp X y h)).1,(gl y (Zn.mp X y h)).2,R.cl y h⟩⟩
 have W:=tU (x:=e) O (st:=bO st) rfl hl hw h1 hr hk;rw[D]at W;refine wpAny_mono (W [] Y (start N [.ref e]) H {nx:=λ_ _=>False,rt:=λv p=>v=.str r/\Sub H p} I ⟨⟨by simp[L2.start,V],by simp[L2.start],he⟩,λp h'=>⟨rfl,h'⟩⟩) (λfl s' m=>?_) λe s' m=>m.elim;cases fl with
 |ret u=>obtain⟨v,σ',p,J,rv,q⟩:=m;exact⟨v,p,J.os,J.bare,J.base,J.hok,rv,q⟩
 |next=>obtain⟨_,_,_,q⟩:=m;exact False.elim q
 |brk=>obtain⟨_,_,_,q⟩:=m;exact False.elim q
 |cont=>obtain⟨_,_,_,q⟩:=m;exact False.elim q
section
variable {e T:Addr}{B:Heap}
theorem Am(I:L2.Inv X pq σ H s)(f:L2.Inv X pq σ H' s2)(N:s.heap.get? e=none/\s.heap.get? T=none)(M:H' e=none/\H' T=none)(hB:∀b o,s2.heap.get? b=some o->b∉bG X.stack->b≠e->b≠T->B.get? b=some o)(st:B.StaysIn h3)(up:s2.heap.UpToSlots h3)
  (l:X.ex=[]) (J:X.stack=X.env::X.outer):L2.Inv X pq σ H' {s2 with heap:=h3,toks:=tk}:=by
 have K:∀b o,s2.heap.get? b=some o->b∉bG X.stack->b≠e->b≠T->h3.get? b=some o:=λb o h d h3 g=>st b o (hB b o h d h3 g);have A:∀b,b∈bG X.stack->∃o,s2.heap.get? b=some o/\∀vs,o.data≠.fields vs:=λb j=>(f.stack.mem j).2;have n:∀b∈bG X.stack,H' b=none:=f.stkFree;have U:=f.base;rw[l]at U;have O:∀b o,s.heap.get? b=some o->b≠e/\b≠T:=λb o h=>⟨λz=>(by rw[z,N.1]at h;cases h),λz=>(by rw[z,N.2]at h;cases h)⟩
 have old:∀b o,X.s₀.heap.get? b=some o->b≠e/\b≠T:=λb o h=>by obtain⟨D,d⟩:=I.base.there b o h (by rw[l];simp);exact O b D d
 have nl:∀b o,X.s₀.heap.get? b=some o->b∉bG X.outer->b∉bG X.stack:=λb o h d h3=>by
  rcases Zk.mp (f.stkSub b h3)with z|z
  ·have:=Zi h;rw[z]at this;exact absurd this (Nat.not_lt.mpr f.ok.above)
  ·exact d z
 have L:∀b∈bG X.outer,b∈bG X.stack:=λb j=>by rw[J];obtain⟨en,h,d⟩:=ZP.mp j;exact ZP.mpr ⟨en,Zc _ h,d⟩
 have w:∀b o,s2.heap.get? b=some o->b≠e->b≠T->∃D,h3.get? b=some D:=λb o h d h3=>by
  by_cases j:b∈bG X.stack
  ·obtain⟨o1,g,y⟩:=A b j;obtain⟨sl,E⟩:=up b o1 g y;exact⟨_,E⟩
  ·exact⟨o,K b o h j d h3⟩
 have t:∀b u,H' b=some u->b∉bG X.stack/\b≠e/\b≠T:=λb u h=>
  ⟨λz=>(by rw[n b z]at h;cases h),λz=>(by rw[z,M.1]at h;cases h),λz=>(by rw[z,M.2]at h;cases h)⟩
 have G:dO X.prog X.w H' h3:=λa o Z=>(f.hok a o Z).stay (λb u j h=>by
  have F:∃u,H' b=some u:=by rcases j with rfl|j<;>exact⟨_,by assumption⟩
  obtain⟨u',hu⟩:=F;obtain⟨t1,t2,t3⟩:=t b u' hu;exact K b u h t1 t2 t3) (λ_ q=>q) λ_ _ q=>q
 have C:∀c v,s2.heap.IsCell c v->h3.IsCell c v:=λc v ⟨o,h,d⟩=>by obtain⟨sl,g⟩:=up c o h (λvs q=>by rw[d]at q;cases q);exact⟨_,g,d⟩
 obtain⟨m,hm,hl⟩:=f.loc;refine⟨f.ok,f.os,f.bare,?_,⟨m,up.ns hm,λi x v h d h3=>?_⟩,λx c h=>?_,f.free,f.freeC,λp Q=>?_,G,f.len⟩
 ·rw[l];refine⟨λb o h d h3 g=>K b o (U.keep b o h d h3 g) (nl b o h h3) (old b o h).1 (old b o h).2,λb o h d h3 g=>?_,U.free,λb o h d=>?_,U.tups,U.frzs,U.tbls⟩
  ·obtain⟨sl,y⟩:=U.slot b o h d h3 g;obtain⟨o1,E,h7⟩:=A b (L b h3);rw[y]at E;cases E;obtain⟨S,h8⟩:=up b _ y h7;exact⟨S,h8⟩
  ·obtain⟨D,y⟩:=U.there b o h d;exact w b D y (old b o h).1 (old b o h).2
 ·obtain⟨u,r,q⟩:=hl i x v h d h3;refine⟨u,r,?_⟩;rcases q with⟨k,z⟩| ⟨k,c,z1,z2⟩
  ·exact .inl ⟨k,z⟩
  ·exact .inr ⟨k,c,z1,C c _ z2⟩
 ·obtain⟨v,hv⟩:=f.cell x c h;exact⟨v,C c v hv⟩
 ·obtain⟨p1,p2,R,V,p5⟩:=f.pin p Q;have W:=(I.pin p Q).1;refine⟨K p.1 p.2 p1 (λz=>?_) (O _ _ W).1 (O _ _ W).2,p2,R,V,p5⟩;rcases Zk.mp (f.stkSub p.1 z)with z|z
  ·exact R z
  ·exact V z
theorem G4{vs:Av}{O:Obj}(I:L2.Inv X pq σ H s)(w:X.ex=[])(r:X.s₀.heap.get? e=none)(A:∀p∈X.pn++pq,p.1≠e)(n:H e=none)(i:s.heap.get? e=some O)(t:O.cls=.ref C)(j:O.data=.fields vs):
  L2.Inv X pq σ (aZ H e (dn e C)) s:=by
 obtain⟨m,y,J⟩:=id I.loc;have ne:∀b,H b≠none->b≠e:=λb d z=>d (by rw[z];exact n);refine⟨I.ok,I.os,I.bare,?_,I.loc,I.cell,?_,λx c h=>?_,λp k=>?_,λb u d=>?_,I.len⟩
 ·have U:=I.base;refine⟨U.keep,U.slot,λb o h a g=>?_,U.there,λb l h=>?_,λb o u h=>?_,λb E h=>?_⟩
  ·rw[aF (λz=>by rw[z,r]at h;cases h)];exact U.free b o h a g
  ·have:=U.tups b l h;rw[aF (ne b (by rw[this];simp))];exact this
  ·have:=U.frzs b o u h;rw[aF (ne b (by rw[this];simp))];exact this
  ·obtain⟨m,this⟩:=U.tbls b E h;exact⟨m,by rw[aF (ne b (by rw[this];simp))];exact this⟩
 ·obtain⟨o,G,F,h,a,_⟩:=y;rw[aF (λz=>by rw[z,i]at h;cases h;rw[j]at a;cases a)];exact I.free
 ·obtain⟨v,o,a,g⟩:=I.cell x c h;rw[aF (λz=>by rw[z,i]at a;cases a;rw[j]at g;cases g)];exact I.freeC x c h
 ·obtain⟨P,B,D⟩:=I.pin p k;exact⟨P,by rw[aF (A p k)];exact B,D⟩
 ·by_cases f:b=e
  ·subst f;rw[bM]at d;cases d;exact ng ⟨O,i,t⟩
  ·rw[aF f]at d;exact(I.hok b u d).stay (λ_ _ _ q=>q) (λc q=>by rw[aF (ne c (by rw[q];simp))];exact q) λc l q=>by rw[aF (ne c (by rw[q];simp))];exact q
theorem G5{M:Mg}(I:L2.Inv X pq σ H s)(u:h3.Ns X.env.locals M)(hs:Heap.SameBut X.env.locals s.heap h3):L2.Inv X pq (List.replicate X.N.length none) H {s with heap:=h3,toks:=tk}:=by
 obtain⟨m,r,_⟩:=id I.loc;obtain⟨oL,_,_,w,_⟩:=id r;have low:∀b o,X.s₀.heap.get? b=some o->b≠X.env.locals:=λb o e=>Zt (ZB (Zi e) I.ok.above);refine⟨I.ok,I.os,I.bare,⟨λb o e n g h=>(hs.2 b (low b o e)).trans (I.base.keep b o e n g h),λb o e n g h=>?_,I.base.free,λb o e h=>?_,I.base.tups,I.base.frzs,I.base.tbls⟩,⟨M,u,λj y V E d D=>?_⟩,λy c e=>?_,I.free,I.freeC,λp x=>?_,λb z f=>?_,by simp⟩
 ·obtain⟨sl,E⟩:=I.base.slot b o e n g h;exact⟨sl,(hs.2 b (low b o e)).trans E⟩
 ·obtain⟨O,E⟩:=I.base.there b o e h;exact⟨O,(hs.2 b (low b o e)).trans E⟩
 ·rw[List.getElem?_replicate]at d;split at d<;>cases d
 ·obtain⟨v,o,k,l⟩:=I.cell y c e;exact⟨v,o,(hs.2 c (I.cne y c e)).trans k,l⟩
 ·obtain⟨A,B,P,C⟩:=I.pin p x;exact⟨(hs.2 _ P).trans A,B,P,C⟩
 ·refine(I.hok b z f).stay (λc W a q=>(hs.2 c ?_).trans q) (λ_ q=>q) λ_ _ q=>q;rintro rfl;rcases a with rfl|a
  ·rw[I.free]at f;cases f
  ·rw[I.free]at a;cases a
end
section
variable {n:Str}{i:Nat}
theorem nk{x:Addr}{r:Str}{np pos:Pos}(K:j7 X.prog X.w X.K X.mg X.base fa C r)(d:A.depth<recursionLimit)(l:Gl X y)(p:X.mg y=some (.ref fa))(m:PySem.W.keepIn X.K (.ref fa)=true)(c:(y==("__debug__":Str))=false)
  (q:X.N[i]?=some n) (o:X.env.scope.names.lookup n=some .local) (g:dF n=true):PE (nj X A) (.Call (.Name y np) [.Name n vp] [] pos) (λσ H Q=>(σ[i]?=some (some (.ref x))/\H x=some (dn x C))/\∀H',Sub H H'->Q (.str r) H'):=by
 intro P s σ H Q I h;refine wpAny_Call_Name_kw (hH I l p ?_ c);refine PySem.W.callWith_K (h₀:=X.base) I.ok.mod.kin m (aR ((dy (k7 (X:=nj X A) q (.inl o) (fU g).1 (fU g).2) eG) pos P s σ H (λG H1=>G=[.ref x]/\H1=H) I ⟨_,h.1.1,rfl,rfl⟩) λL S ⟨vs,H1,b,B,t,w⟩=>⟨b.kIn,?_⟩) rfl rfl;subst t w;cases B with
 |cons z R=>
  cases R;cases z;refine wpAny_call (codeAny_mono (K A X.stack S H1 x d b.env0 h.1.2) λD J a=>?_);cases D with
  |error e=>exact False.elim a
  |ok F=>
   cases F with
   |ret u=>obtain⟨v,f,k,R,E,U⟩:=b.after a;subst E;exact⟨_,f,k,R,h.2 f U⟩
   |next=>exact False.elim a
   |brk=>exact False.elim a
   |cont=>exact False.elim a
def RV(nb:Option (Str×Nat×Pos×Pos))(r:Str)(v:V)(H a:Hp):Prop:=match nb with
 |none=>v=.str r/\Sub H a
 |some (x,_)=>∃p H1,Sub H H1/\H1 p=none/\v=.ref p/\a=aZ H1 p (.lst [.str x,.str r])
theorem RV.up{r:Str}{b:Hp}(h:RV nb r v H' b)(s:Sub H H'):RV nb r v H b:=by
 have t:∀{H1},Sub H' H1->Sub H H1:=λu a o e=>u a o (s a o e);cases nb with
 |none=>exact⟨h.1,t h.2⟩
 |some q=>obtain⟨p,H1,c,d⟩:=h;exact⟨p,H1,t c,d⟩
theorem G6{x:Addr}{r:Str}{np pos:Pos}(K:j7 X.prog X.w X.K X.mg X.base fa C r)(b:A.depth<recursionLimit)(d:Gl X y)(g:X.mg y=some (.ref fa))(e:PySem.W.keepIn X.K (.ref fa)=true)(a:(y==("__debug__":Str))=false)
  (j:X.N[i]?=some n) (f:X.env.scope.names.lookup n=some .local) (c:dF n=true) (nb:Option (Str×Nat×Pos×Pos)):PE (nj X A) (GW nb (.Call (.Name y np) [.Name n vp] [] pos)) (λσ H Q=>(σ[i]?=some (some (.ref x))/\H x=some (dn x C))/\∀v H',RV nb r v H H'->Q v H'):=by
 have h:=nk (x:=x) (r:=r) (np:=np) (vp:=vp) (pos:=pos) (A:=A) K b d g e a j f c;cases nb with
 |none=>exact aO h λσ H Q q=>⟨q.1,λH' u=>q.2 _ _ ⟨rfl,u⟩⟩
 |some q=>exact aO (hO (dy k8 (dy h eG))) λσ H Q q=>⟨q.1,λH' u=>⟨(by show 2<=sizeLine;decide),λp c=>q.2 _ _ ⟨p,H',u,c,rfl,rfl⟩⟩⟩
noncomputable def EH(X:Cx)(nb:Option (Str×Nat×Pos×Pos))(f p:Addr)(D:Ends):XK:=λcls _ H'=>∃C r,cls=.ref C/\j7 X.prog X.w X.K X.mg X.base f C r/\PySem.W.exmOne X.K (.ref C) (.ref p)=some true/\∀v H'',RV nb r v H' H''->D.rt v H''
structure nq (X:Cx)(pe n y:Str)(i:Nat)(fa pa:Addr):Prop where
 ex:X.ex=[]
 st:X.stack=X.env::X.outer
 fr:X.env.frame=some X.env.locals
 dp:X.A.depth<recursionLimit
 gp:Gl X pe/\X.mg pe=some (.ref pa)/\(pe==("__debug__":Str))=false
 gy:Gl X y/\X.mg y=some (.ref fa)/\(y==("__debug__":Str))=false
 kp:PySem.W.keepIn X.K (.ref fa)=true
 nd:X.N.Nodup
 at_:X.N[i]?=some n
 nl:X.env.scope.names.lookup n=some .local
 np:dF n=true
 fn:X.fn n=true
noncomputable def An(X:Cx)(p:Lp)(D:Ends)(h:ExceptHandler):Vs:=λe s=>wpAny (model X.prog X.w) X.A (noteFrame e X.env) (λ_ S=>wpAny (model X.prog X.w) X.A (setFlight e none) (λ_ a=>wpAny (model X.prog X.w) X.A (handleBy e X.env [h]) (SP X p D) X.xe a) X.xe S) X.xe s
theorem handled{e T:Addr}{B:Heap}{D:Ends}{np:Pos}(Z:nq X pe n y i fa pa)(I:L2.Inv X pq σ H s)(J:L2.Inv X pq σ H' s2)(j:s.heap.get? e=none/\s.heap.get? T=none)(d:H' e=none/\H' T=none)
  (L:∀b o,s2.heap.get? b=some o->b∉bG X.stack->b≠e->b≠T->B.get? b=some o)  (l:Heap.FlyingW B X.stack e cls a0 h3) (up:s2.heap.UpToSlots h3) (q:EH X nb fa pa D cls none H'):
  wpAny (model X.prog X.w) X.A (handleBy (.ref e) X.env [iq nb pe n y tp np vp cp rp hp]) (SP X pq D) X.xe {s2 with heap:=h3}:=by
 obtain⟨C,r,rfl,Q,hm,hD⟩:=q
 have Y:X.s₀.heap.get? e=none:=by
  cases hq:X.s₀.heap.get? e with
  |none=>rfl
  |some o=>obtain⟨o',a⟩:=I.base.there e o hq (by rw[Z.ex];simp);rw[j.1]at a;cases a
 have k:L2.Inv X pq σ H' {s2 with heap:=h3,toks:=s2.toks}:=Am I J j d L l.1 up Z.ex Z.st;have c:(X.A.mark (some (.ref e))).frames=X.A.frames:=rfl;unfold iq;refine wpAny_handleBy_cons (codeAny_handlers_test ?_) (by intro q;cases q);refine hH (X:=nj X (X.A.mark (some (.ref e)))) (tV k c) Z.gp.1 Z.gp.2.1 ?_ Z.gp.2.2
 have LT:PySem.W.Looks (model X.prog X.w) h3 (typeOf (.ref e)) (.ref C):=by obtain⟨ob,h1,h2⟩:=l.there;exact h2▸(PySem.W.Looks.ld h1).andThen .now
 refine(PySem.W.exm_one (M:=model X.prog X.w) k.kIn LT hm).here ?_;refine codeAny_handlers_suite_as ?_;refine lands_againW (s:={s2 with heap:=h3}) l λh4 F U=>?_;have N:L2.Inv X pq σ H' {s2 with heap:=h4,toks:=s2.toks}:=Am I J j d L F.1 (up.trans U) Z.ex Z.st;obtain⟨oe,vs,S,V,W,_⟩:=F.first
 have pn:∀p∈X.pn++pq,p.1≠e:=λp hp z=>by have:=(I.pin p hp).1;rw[z,j.1]at this;cases this
 have O:=tV (A:=X.A.mark (some (.ref e))) (G4 N Z.ex Y pn d.1 S V W) c;refine k6 (X:=nj X (X.A.mark (some (.ref e)))) O Z.nd Z.at_ (.inl Z.nl) (v:=.ref e) rfl (λs6 P=>?_) (.inl Z.fn);have hs:dW (nj X (X.A.mark (some (.ref e)))) [.Return (some (GW nb (.Call (.Name y np) [.Name n vp] [] cp))) rp] _:=ff (qH (G6 (A:=X.A.mark (some (.ref e))) (x:=e) Q Z.dp Z.gy.1 Z.gy.2.1 Z.kp Z.gy.2.2 Z.at_ Z.nl Z.np nb)) k_;refine wpAny_mono (hs pq s6 _ _ {nx:=λ_ _=>False,rt:=λv E=>RV nb r v (aZ H' e (dn e C)) E} P ⟨⟨by rw[ZZ (by rw[k.len];exact(Zg.mp Z.at_).1)],bM⟩,λv E h6=>h6⟩) (λf s7 g=>?_) λ_ _ z=>z.elim;cases f with
 |ret u=>obtain⟨v,σ7,G,K,r7,u7⟩:=g;obtain⟨m7,w,_⟩:=K.loc;refine wpAny_nameGoes (env:=X.env) Z.nl w (by rw[I.ok.kind];rfl) λh8 m8 n8 s8=>?_;refine⟨_,_,G,G5 (Al K I.ok) n8 s8,r7,hD v G (u7.up λb o m=>?_)⟩;rw[aF (λz=>by rw[z,d.1]at m;cases m)];exact m
 |next=>obtain⟨_,_,_,z⟩:=g;exact z.elim
 |brk=>obtain⟨_,_,_,z⟩:=g;exact z.elim
 |cont=>obtain⟨_,_,_,z⟩:=g;exact z.elim
end
abbrev XB(X:Cx)(pq:Lp)(D:Ends)(h:ExceptHandler):Cx:={X with xe:=An X pq D h,pn:=X.pn++pq}
section
variable {D:Ends}{h:ExceptHandler}
theorem Kp(ok:X.Ok):(XB X pq D h).Ok:=⟨ok.mod,ok.kind,ok.glob,ok.blt,ok.above,ok.inj,ok.has,ok.cab,ok.hd,ok.frames,ok.stk,ok.exf,ok.bs,ok.bsz,ok.noex,ok.exfs,ok.funs,ok.frf⟩
theorem Ao(ok:(XB X pq D h).Ok):X.Ok:=⟨ok.mod,ok.kind,ok.glob,ok.blt,ok.above,ok.inj,ok.has,ok.cab,ok.hd,ok.frames,ok.stk,ok.exf,ok.bs,ok.bsz,ok.noex,ok.exfs,ok.funs,ok.frf⟩
theorem G7(I:L2.Inv X pq σ H s):L2.Inv (XB X pq D h) [] σ H s:=⟨Kp I.ok,I.os,I.bare,I.base,I.loc,I.cell,I.free,I.freeC,λp a=>I.pin p (by simpa using a),I.hok,I.len⟩
theorem iv(I:L2.Inv (XB X pq D h) pins' σ H s):L2.Inv X pq σ H s:=⟨Ao I.ok,I.os,I.bare,I.base,I.loc,I.cell,I.free,I.freeC,λp a=>I.pin p (ZX _ a),I.hok,I.len⟩
theorem nr{f:Flow}(q:SP (XB X pq D h) pins' D f s):SP X pq D f s:=by
 cases f with
 |next=>obtain⟨a,H,I,q⟩:=q;exact⟨a,H,iv I,q⟩
 |brk=>obtain⟨a,H,I,q⟩:=q;exact⟨a,H,iv I,q⟩
 |cont=>obtain⟨a,H,I,q⟩:=q;exact⟨a,H,iv I,q⟩
 |ret u=>obtain⟨v,a,H,I,r,q⟩:=q;exact⟨v,a,H,iv I,r,q⟩
theorem Ap:PassesOwn (model X.prog X.w) X.A X.env (XB X pq D h).xe:=PassesOwn.looking
variable {n:Str}{i:Nat}{np:Pos}
theorem Aq(Z:nq X pe n y i fa pa):jd (bn X.prog X.w) (XB X pq D (iq nb pe n y tp np vp cp rp hp)) (EH X nb fa pa D):=by intro p o H s v S d c;have I:=iv d;obtain⟨e,cls,l,rfl,a,q,f⟩:=Af I c Z.ex;obtain⟨T,A,N,k,g⟩:=Ad f a.stack;show An X pq D _ (.ref e) S;unfold An;refine wpAny_looks_onW (by rw[I.ok.frames,Z.st]) Z.fr (Z.st▸g) λj h up=>?_;refine wpAny_landsW (s:={S with heap:=j}) h λm F u=>?_;exact handled (s2:=S) (B:=PySem.W.hideAll S.heap (e::T::bG X.stack)) (a0:=A) Z I a N k Ae (Z.st▸F) (up.trans u) q
theorem Ar(Z:nq X pe n y i fa pa){e:Addr}(r:L2.Inv (XB X pq D (iq nb pe n y tp np vp cp rp hp)) pins' σ H s)(m:Heap.MadeExcOf s.heap h2 e (.ref C) args)(q:EH X nb fa pa D (.ref C) none H):(XB X pq D (iq nb pe n y tp np vp cp rp hp)).xe (.ref e) {s with heap:=h2}:=by
 have I:=iv r;show An X pq D _ (.ref e) _;unfold An;obtain⟨t,c,z,Q⟩:=m.there;have g:∀E∈X.env::X.outer,∀a,E.frame=some a->a∈bG (X.env::X.outer):=λE c a w=>ZP.mpr ⟨E,c,w⟩
 have f:∀b,s.heap.get? b=none->(PySem.W.hideAll s.heap (bG X.stack)).get? b=none:=λb h=>by
  cases j:(PySem.W.hideAll s.heap (bG X.stack)).get? b with
  |none=>rfl
  |some R=>have:=PySem.W.of_hideAll _ j;rw[h]at this;cases this
 have N:H e=none:=by
  cases j:H e with
  |none=>rfl
  |some u=>obtain⟨o,p⟩:=tK (I.hok e u j);rw[m.new]at p;cases p
 have d:s.heap.FunFrames (PySem.W.hideAll s.heap (bG X.stack)) (X.env::X.outer):=PySem.W.funFrames_hide (Z.st▸I.stack) (by rw[Z.st];exact g);unfold noteFrame;simp only[Z.fr];refine Za (ZO c rfl (x:=.none) rfl ?_);rw[if_neg (by decide)];refine wpAny_entryW (base:=PySem.W.hideAll s.heap (bG X.stack)) (a0:=.ref t) (by rw[I.ok.frames,Z.st]) (d.of_keeps λb o h _=>⟨o,m.keeps b o h,rfl⟩) Z.fr c (λb o h=>m.keeps b o (PySem.W.of_hideAll _ h)) (f e m.new) rfl (show 1<6 by decide) rfl λO nt=>?_;obtain⟨K,G,J,M⟩:=nt;refine wpAny_landsW (base:=PySem.W.hideAll s.heap (bG X.stack)) (l:=X.env::X.outer) (L:=X.env.locals) (cls:=.ref C) (a0:=.ref t) ⟨K,f e m.new,G,J⟩ λP F U=>?_;exact handled (s2:=s) (T:=e) (B:=PySem.W.hideAll s.heap (bG X.stack)) (a0:=.ref t) Z I I ⟨m.new,m.new⟩ ⟨N,N⟩ (λb o v h2 _ _=>PySem.W.hideAll_get _ v h2) (Z.st▸F) (((Heap.UpToSlots.of_keeps m.keeps).trans M).trans U) q
theorem tW{body:List Stmt}{pos:Pos}{t:TS}(I:L2.Inv X pq σ H s)(d:dW (XB X pq D (iq nb pe n y tp np vp cp rp hp)) body t)(h:t D σ H):
  wpAny (model X.prog X.w) X.A (exec (.Try body [iq nb pe n y tp np vp cp rp hp] [] [] pos) X.env) (SP X pq D) X.xe s:=by
 refine wpAny_Try_except (wpAny_mono (d [] s σ H D (G7 I) h) (λf S q=>?_) λe S q=>q);have q:=nr q;cases f with
 |next=>obtain⟨a,b,c,q⟩:=q;exact wpAny_execs_nil ⟨a,b,c,q⟩
 |brk=>exact q
 |cont=>exact q
 |ret u=>exact q
end
set_option genInjectivity false in
inductive Rz where
 |cls (x:Str)|kind (f:Str) (ys ws:Ls)
 deriving DecidableEq
mutual
noncomputable def J5:CS->List Rz
 | .raise_ x _=>[.cls x]
 | .tryK _ body f ys w=>.kind f ys w::dZ body
 | .tryN _ _ body f ys w=>.kind f ys w::dZ body
 | .ite _ a b=>dZ a++dZ b
 | .for_ _ _ body=>dZ body
 | .while_ _ _ body=>dZ body
 |_=>[]
noncomputable def dZ:List CS->List Rz
 | []=>[]
 |c::cs=>J5 c++dZ cs
end
noncomputable def XC(P:Program)(w:World)(K:Fg)(m:Mg):Rz->Prop
 | .cls x=>∃C,m x=some (.ref C)/\PySem.W.excIn K C jZ "ValueError.__new__"=true
 | .kind f ys W=>∃fa pa,m f=some (.ref fa)/\PySem.W.keepIn K (.ref fa)=true/\m "PairError"=some (.ref pa)/\
   ∀x r,(ys.zip W).lookup x=some r->∀v,m x=some v->∃C,v=.ref C/\PySem.W.exmOne K (.ref C) (.ref pa)=some true/\∀base,j7 P w K m base fa C r
theorem tX{x:Str}(X:K.In h)(e:mg x=some (.ref C))(q:PySem.W.excIn K C jZ "ValueError.__new__"=true):OwnCls x C jZ "ValueError.__new__" mg h:=by
 refine⟨e,?_⟩;unfold PySem.W.excIn at q;split at q
 ·rename_i D p sl u;split at q
  ·rename_i y B k i j m n o f g;simp only[ZY,beq_iff_eq,Bool.not_eq_true']at q;obtain⟨⟨⟨⟨⟨rfl,rfl⟩,H⟩,v⟩,a⟩,b⟩:=q;obtain⟨N,bs,M,w,Q,t,S,s,A,c,r⟩:=p;dsimp only at f H a b;subst f H;have d:sl= #[k,i,j,m,some (.builtin "ValueError.__new__"),o]:=by obtain⟨l⟩:=sl;simp only at g;rw[g]
   subst d;exact⟨B,w,N,Q,bs,t,S,s,A,c,D,k,i,j,m,o,_,X _ _ u,.of_isNs (PySem.W.isNs_of_in X a),PySem.W.nsMap_none_of_in X a b,PySem.W.tail_of_in X v⟩
  ·cases q
 ·cases q
theorem Sub.ext(s:Sub H H'):Ext μ H μ H':=⟨⟨[],by simp⟩,λa o h _=>s a o h,λa o h=>⟨o,s a o h⟩,λ_ h=>.inl h⟩
theorem Sub.sok{m:GS}(s:Sub H H')(k:aM K m μ S H):aM K m μ S H':=
 ⟨λa h=>let⟨o,e⟩:=k.live a h;⟨o,s a o e⟩,k.len,k.nd,λn a d b c=>let⟨vs,e,r⟩:=k.at_ n a d b c;⟨vs,s a _ e,aj.mono s.ext _ _ r⟩⟩
theorem nu{o i:Expr}{p:Pos}(h:ia i=true):∀v,assign (.Subscript o i p) env v=(do
   let O <-holding [v] (eval o env)
   let I <-holding [v,O] (eval i env)
   standAt p
   holding [v,O,I] (setItem O I v)
   release [v,O,I] []):=by
 intro v;cases i<;>first|rfl|cases h
section
variable {E:XK}{k:Nat}{pos:Pos}
end
structure kU (X:Cx)(N:Ls)(sc:Sc)(CX:c_)(E:XK)(Φ:FT)(Γ:Str->Option D)(k:Nat):Prop where
 x:cg X (λ_=>true) N sc CX E Φ Γ k
 own:PassesOwn (model X.prog X.w) X.A X.env X.xe
 cx:CX=bn X.prog X.w
 fr:X.ex=[]/\X.stack=X.env::X.outer/\X.env.frame=some X.env.locals
 made:∀(pq:Lp) (σ:L2.St) (H:Hp) (s:Shared) (h2:Heap) (e C:Addr) (args:Lv),L2.Inv X pq σ H s->Heap.MadeExcOf s.heap h2 e (.ref C) args->E (.ref C) none H->X.xe (.ref e) {s with heap:=h2}
section
variable {E:XK}{k:Nat}{pos:Pos}
theorem qk{a b:Type}{f:a->Option b}{x:a}(h:f x=none):∀{l:List a},x∈l->(l.filterMap f).length<l.length
 | [],H=>by cases H
 |y::l,H=>by
  rcases Zk.mp H with rfl|H
  ·grind
  ·have:=qk h H
   grind
theorem nv{v:Expr}(hs:env.scope.names=sc)(h1:eS tg=true)(a:(jX v||jY sc tg)=true):swappedStores [tg] v env=pure none:=by
 cases tg<;>first| (cases h1;done)|skip
 cases v<;>first|rfl|skip
 rename_i t _ _ u _ _;unfold swappedStores;simp only[];split
 ·rfl
 ·split
  ·rfl
  ·split
   ·rfl
   ·rename_i c;rcases Bool.or_eq_true_iff.mp a with h|h
    ·have h:(List.all u (foldedForSure 8))=true:=h
     first|rfl|rw[if_pos h]
    ·exfalso
     have h:(t.any λx=>match x with
      | .Name id _=>sc.lookup id==some .cell
      |_=>false)=true:=h
     obtain⟨x,d,H⟩:=List.any_eq_true.mp h;refine c ?_
     have b:=qk (f:=λx=>match x with
      |Expr.Name id pos=>if env.kindOf id==some .local&&pos.line==(t.head?.map (·.pos.line)).getD 0 then some id else none
      |_=>none) (x:=x) (by
       cases x<;>first|rfl|skip
       rename_i id pos;have H:(sc.lookup id==some .cell)=true:=H
       have e:env.kindOf id=some .cell:=by show env.scope.names.lookup id=_;rw[hs];exact ZU H
       show(if(env.kindOf id==some .local&&_)=true then _ else _)=none;rw[e];rfl) d
     rw[Bool.or_eq_true];exact .inl (bne_iff_ne.mpr (Zt b))
theorem G8(h1:eS tg=true):(assignEach [tg] env).map (·.2)=[assign tg env]:=by cases tg<;>first|rfl|cases h1
theorem As{t v:Expr}(h:swapsWith v (some t) line env=pure false):swapsWithSole [t] v line env=pure false:=h
theorem Au{K:Fg}{m:GS}{μ:La}{H:Hp}:∀{is:List Nat} {ds:List D} {vs:List V} {ρ:bt} {σ:L2.St},aj K m μ H ds vs->aW K m μ H ρ σ->aW K m μ H (eh is ds ρ) (eh is vs σ)
 | [],ds,vs,ρ,σ,r,e=>by exact e
 |i::is,[],vs,ρ,σ,r,e=>by subst r;exact e
 |i::is,d::ds,vs,ρ,σ,r,e=>by obtain⟨v,w,rfl,R,a⟩:=r.uncons;unfold eh;exact Au a (e.set R)
theorem tY(O:cg X (λ_=>true) N sc CX E Φ Γ k){t:CT}{e:CE}{v:Expr}(h1:eS (ib t N tg)=true)(h:(jX v||jY sc (ib t N tg))=true)(f:ft v=true)(g:pY (λ_=>true) N sc t=true)(i:PE X v (tE X.K X.mg E Φ Γ e)):PS X (.Assign [ib t N tg] v pos) (tS X.K X.mg E Φ Γ (.asgT t e)):=
 b3 (i8 i (jH O g) (ir f) (nv O.sc h1 h) (G8 h1)) λD u H z=>aE z λF p q S j c w=>by
  refine⟨F,_,_,S,j,c,(ax.bind w).mono λv H1 z=>ay z λl o d x s r W=>?_⟩;cases a:aQ t d _ with
  |none=>rw[a]at W;exact W.elim
  |some m=>rw[a]at W;exact sI a r (c.mono x) λn b=>W _ _ _ .refl s b
theorem Aw(O:cg X (λ_=>true) N sc CX E Φ Γ k){es:List CE}{ts xs:Lx}{pt:Pos}{K k2}(h1:is.all (λi=>N[i]?==some (N.getD i "")&&sc.lookup (N.getD i "")==some .local)=true)(h:is.length<=3)(a:tF sc ts xs (is.map λi=>N.getD i "")=true)(b:PA X xs (tL X.K X.mg E Φ Γ es)):
  PS X (.Assign [.Tuple ts K pt] (.Tuple xs k2 pt2) pos) (tS X.K X.mg E Φ Γ (.par is es)):=by
 refine b3 (l7 O.calm (by rw[O.n];exact O.nd) (λi c=>?_) h b (tG a O.sc O.kd) (As (ir rfl))) λD o H z=>aE z λF m n S f e w=>?_
 ·have:=Zn.mp h1 i c;rw[O.n,O.sc];lia
 ·refine⟨F,_,_,S,f,e,(ax.bind w).mono λvs H1 z=>ay z λg j l x s r W=>?_⟩;split at W
  ·rename_i d;refine⟨by rw[<-r.length,d],?_⟩;exact W _ _ _ .refl s (Au r.reverse (e.mono x))
  ·exact W.elim
theorem Ax{o i v:CE}{k b g:Expr}{p:Pos}(q:ia b=true)(m:ft g=true)(r:PE X k (tE X.K X.mg E Φ Γ o))(n:PE X b (tE X.K X.mg E Φ Γ i))(s:PE X g (tE X.K X.mg E Φ Γ v)):PS X (.Assign [.Subscript k b p] g pos) (tS X.K X.mg E Φ Γ (.set o i v)):=
 b3 (i8 s (qL r n xy (nu q)) (As (ir m)) rfl) λD σ H z=>aE z λF μ ρ S G a w=>by
  refine⟨F,_,_,S,G,a,(ax.bind w).mono λvv H1 z=>ay z λK T f x y R I=>?_⟩;refine⟨F,_,_,_,y,a.mono x,(ax.bind I).mono λvo O z=>ay z λL U d h A t J=>?_⟩;refine⟨F,_,_,_,A,(a.mono x).mono h,(ax.bind J).mono λZ P z=>ay z λM V e j B u W=>?_⟩;cases c:hW d e f _ with
  |none=>rw[c]at W;exact W.elim
  |some Y=>rw[c]at W;exact⟨F,_,_,d,e,f,B,Rep.mono j _ _ t,u,Rep.mono (h.trans j) _ _ R,_,c,λN Q l C=>W _ _ _ l C ((((a.mono x).mono h).mono j).mono l)⟩
theorem tZ{e:CE}{v:Expr}(h:ft v=true)(b:PE X v (tE X.K X.mg E Φ Γ e)):PS X (.Expr v pos) (tS X.K X.mg E Φ Γ (.expr e)):=
 b3 (lb b (ir h)) λD k H z=>aE z λF i j S c a w=>by exact⟨F,_,_,S,c,a,(ax.bind w).mono λv H1 z=>ay z λf g d x s r W=>W _ _ _ .refl s (a.mono x)⟩
theorem Ay{e:CE}{v:Expr}(h:PE X v (tE X.K X.mg E Φ Γ e)):PS X (.Return (some v) pos) (tS X.K X.mg E Φ Γ (.ret e)):=
 b3 (qH h) λD j H z=>aE z λF g i S b a w=>by exact⟨F,_,_,S,b,a,(ax.bind w).mono λv H1 z=>ay z λc f d x s r W=>W _ _ v .refl s r⟩
theorem t0:PS X (.Return none pos) (tS X.K X.mg E Φ Γ .retN):=b3 lc λD c H z=>aE z λF a b S s e w=>w _ H _ .refl s lM
theorem t5:PS X (.Pass pos) (tS X.K X.mg E Φ Γ .pass):=b3 la λD c H z=>aE z λF a b S s e w=>w _ H _ .refl s e
theorem Az:PS X (.Break pos) (tS X.K X.mg E Φ Γ .brk):=b3 DG λD c H z=>aE z λF a b S s e w=>w _ H _ .refl s e
theorem t6:PS X (.Continue pos) (tS X.K X.mg E Φ Γ .cont):=b3 DH λD c H z=>aE z λF a b S s e w=>w _ H _ .refl s e
theorem G9{c:CE}{a b:List CS}{t:Expr}{x y:List Stmt}(i:PT X t (tT X.K X.mg E Φ Γ c))(h:dW X x (jV X.K X.mg E Φ Γ a))(g:dW X y (jV X.K X.mg E Φ Γ b)):PS X (.If t x y pos) (tS X.K X.mg E Φ Γ (.ite c a b)):=
 b3 (pP i h g) λD p H z=>aE z λF n o S j e w=>by
  refine⟨F,_,_,S,j,e,(ax.bind w).mono λk H1 z=>ay z λl m K d s f W=>?_⟩;subst f;cases K with
  |true=>exact⟨F,_,_,_,s,e.mono d,W⟩
  |false=>exact⟨F,_,_,_,s,e.mono d,W⟩
theorem t7:dW X [] (jV X.K X.mg E Φ Γ []):=jW k_ λD c H z=>aE z λF a b S s e w=>w _ H _ .refl s e
theorem nw{c:CS}{s:Stmt}{st:List Stmt}(h1:PS X s (tS X.K X.mg E Φ Γ c))(h:dW X st (jV X.K X.mg E Φ Γ cs)):dW X (s::st) (jV X.K X.mg E Φ Γ (c::cs)):=
 jW (ff h1 h) λD n H z=>aE z λF l m S b a w=>by exact⟨F,_,_,S,b,a,ax.seq w λd i g f j x k e W=>⟨F,_,_,_,k,e,W⟩⟩
theorem AA{M:GS}{D:Ends}{r:Res Fl}{f:bt->af->Res Fl}{Nx:L2.St->Hp->Prop}(w:ax K M E D μ H (r.bind λF S'=>match F with
   | .next ρ'=>f ρ' S'
   | .cont ρ'=>f ρ' S'
   | .brk ρ'=>.ok (.next ρ') S'
   | .ret d=>.ok (.ret d) S')) (a:∀μ' H' σ' ρ' S',Ext μ H μ' H'->aM K M μ' S' H'->aW K M μ' H' ρ' σ'->ax K M E D μ' H' (f ρ' S')->Nx σ' H'):ax K M E {D with nx:=Nx,ct:=Nx,bk:=D.nx} μ H r:=by
 cases r with
 |ok F S=>
  cases F with
  |next b=>exact λm h s x k e=>a m h s _ S x k e (ax.ext x (show ax K _ E D _ H _ from w))
  |ret d=>exact w
  |brk b=>exact w
  |cont b=>exact λm h s x k e=>a m h s _ S x k e (ax.ext x (show ax K _ E D _ H _ from w))
 |err z S=>exact w
 |fail=>exact w
theorem ny{c:CE}{t:Expr}{x:List Stmt}(r:PassesOwn (model X.prog X.w) X.A X.env X.xe)(p:PT X t (tT X.K X.mg E Φ Γ c))(o:dW X x (jV X.K X.mg E Φ Γ body)):PS X (.While t x [] pos) (tS X.K X.mg E Φ Γ (.while_ n c body)):=
 b3 (DN r p o) λD f H z=>aE z λF a b S s e w=>by
  refine⟨λm f H=>∃a b S,aM _ _ a S H/\aW _ _ a H b f/\ax _ _ E D a H (fQ _ _ m b S),⟨n,_,_,S,s,e,w⟩,?_⟩;rintro m f H ⟨a,b,S,s,e,w⟩;cases m with
  |zero=>exact w.elim
  |succ m=>
   refine⟨F,_,_,S,s,e,(ax.bind w).mono λk H1 z=>ay z λy C K i h l W=>?_⟩;subst l;cases K with
   |true=>refine⟨_,λg j q=>⟨m,Nat.lt_succ_self m,q⟩,F,_,_,_,h,e.mono i,?_⟩;exact AA W λv j g A B x k d u=>⟨_,_,_,k,d,u⟩
   |false=>exact W _ _ _ .refl h (e.mono i)
end
theorem t8(step:D->bt->af->Res Fl)(xs:List D):∀(n i:Nat) (ρ:bt) (S:af),i+n=xs.length->fm step (λ_ i=>some xs[i]?) (n+1) i ρ S=cV step (xs.drop i) ρ S
 |0,i,ρ,S,h=>by rw[List.drop_eq_nil_of_le (by omega)];unfold fm;have:xs[i]?=none:=List.getElem?_eq_none_iff.mpr (by omega);rw[this];rfl
 |n+1,i,ρ,S,h=>by
  have H:i<xs.length:=by omega
  rw[List.drop_eq_getElem_cons H];unfold fm;rw[Zj H];show(step _ _ S).bind _=(step _ _ S).bind _;congr 1;funext f b;cases f with
  |next a=>exact t8 _ _ n _ _ _ (by omega)
  |cont a=>exact t8 _ _ n _ _ _ (by omega)
  |brk a=>rfl
  |ret d=>rfl
theorem nz(step:D->bt->af->Res Fl)(its:hY)(ρ:bt)(S:af):r8 step its ρ S=fm step (bV its) (sL its) 0 ρ S:=by
 cases its with
 |items x=>exact(t8 _ _ _ 0 _ S (by omega)).symm
 |live f get=>rfl
noncomputable def AB(Φ:FT)(Γ:Str->Option D)(t:CT)(body:List CS):D->bt->af->Res Fl:=λx ρ S=>match aQ t x ρ with
 |some ρ'=>ag Φ Γ body ρ' S
 |none=>.fail
section
variable {E:XK}{k:Nat}{pos:Pos}
theorem AD{t:CT}{it:CE}{i:Expr}{x:List Stmt}(Q:PassesOwn (model X.prog X.w) X.A X.env X.xe)(N:X.calm=true)(P:PI X tg i (tI X.K X.mg E Φ Γ it))(O:PG X tg (qb X.K t))(hs:∀x,foldedSetIterable i X.env x=pure x)(M:dW X x (jV X.K X.mg E Φ Γ body)):
  PS X (.For tg i x [] pos) (tS X.K X.mg E Φ Γ (.for_ t it body)):=
 b3 (qN Q N P O M hs) λD u H zz=>aE zz λF a b S s d w=>by
  refine⟨F,a,b,S,s,d,ak.mono (ax.bind w) λJ H1 h=>?_⟩;obtain⟨μ1,K,T,x1,s1,ok,w1⟩:=h;have B:=w1;rw[nz]at B;refine⟨λi m u H=>∃a b S,c8 X.K F _ H1 F a H/\aM _ _ a S H/\aW _ _ a H b u/\ax _ _ E D a H (fm _ _ m i b S),⟨_,_,b,K,.refl,s1,d.mono x1,B⟩,?_⟩;rintro i m u H ⟨a,b,S,A,s,d,w⟩;cases m with
  |zero=>exact w.elim
  |succ m=>
   unfold fm at w;obtain⟨U,V⟩:=ok i a S H F A s;cases e:bV _ S i with
   |none=>rw[e]at w;exact w.elim
   |some o=>
    cases o with
    |none=>rw[e]at w;exact .inl ⟨V e,w a H _ .refl s d⟩
    |some y=>
     rw[e]at w;obtain⟨L,Y⟩:=U y e;refine .inr ⟨L,_,λf c q=>⟨m,Nat.lt_succ_self m,q⟩,λv c R=>?_⟩;obtain⟨p,s2,Z⟩:=Y v c R;have C:=A.trans (.of_ext p λ_ z=>.inl z);have w':=ax.ext p w;have w3:=w'
     have W:=AA (Nx:=λf c=>∃a b S,c8 _ F _ H1 F a c/\aM _ _ a S c/\aW _ _ a c b _/\ax _ _ E D a c _) w3
      λμ' G f r I x3 k j n=>⟨_,_,I,C.trans (.of_ext x3 λ_ z=>.inl z),k,j,n⟩
     unfold AB at W;cases g:aQ t y b with
     |none=>simp[g]at W;exact W.elim
     |some r=>simp only[g]at W;exact sI g Z (d.mono p) λσ2 l=>⟨F,a,_,S,s2,l,W⟩
end
section
variable {E:XK}{k:Nat}
theorem nA(O:kU X N sc CX E Φ Γ k){x:Str}{es:List CE}(h:vW (.raise_ x es) N sc st=true)(hx:XC X.prog X.w X.K X.mg (.cls x))(ha:PA X (dg es N (vw (vs st).e0).es) (tL X.K X.mg E Φ Γ es)):PS X (i3 (.raise_ x es) N st) (tS X.K X.mg E Φ Γ (.raise_ x es)):=by
 obtain⟨h1,h⟩:=ae h;obtain⟨_,h⟩:=ae h;obtain⟨h2,h3⟩:=ae h;obtain⟨C,J,hq⟩:=hx;obtain⟨g1,g2,_⟩:=cH h1;intro V s σ H D I zz;have own:=tX I.mod.kin J hq;cases es with
 |nil=>cases h2
 |cons e es=>
  have d:=Zn.mp h3;obtain⟨tl,N0,U,q,bs,a,Y,g,B,c,G,K,L,M,P,Q,R,hC,hN,n,T⟩:=own.obj;show wpAny _ _ (exec (.Raise (some (.Call (.Name x _) (aY e N _::dg es N _) [] _)) none _) X.env) _ _ s
  refine wpAny_Raise_call_subU (C:=C) (nm:=U) (q:=q) (N:=N0) (bs:=bs) (bm:=tl) (hdct:=a) (sn:=Y) (sub:=g) (ab:=B) (col:=c) (dd:=G) (k0:=K) (k1:=L) (k2:=M) (k3:=P) (k5:=Q)
   PySem.F.excBase_ValueError (bmB:=jZ) (by decide+kernel) PySem.F.excBase_ValueError (mN:=R) (T.hasType (by decide+kernel)) (I.ok.hd O.x.calm) (gH d) n (hH I (O.x.gl g1) own.bound ⟨rfl,?_⟩ g2)
  obtain⟨F,t,v,S,sk,en,w⟩:=zz;have l:=ha (vw (vs st).e0).pos V s σ H (λp H1=>p.length<=sizeLine/\E (.ref C) none H1) I ⟨F,t,v,S,sk,en,?_⟩
  ·have he:=cG (env:=X.env) (es:=dg es N (vw (vs st).e0).es.tail) (d _ Ze);have b:wpAny _ _ (spliced (backTo _ (starEach (aY e N ((vw (vs st).e0).es.headD dE)::dg es N (vw (vs st).e0).es.tail) X.env))) _ _ s:=l;rw[he]at b⊢;refine Calls.evalArgs_plain (wpAny_mono b (λus Z f=>?_) λ_ _ y=>y);obtain⟨p,H1,i,r,z,q⟩:=f;exact⟨rfl,by rw[<-r.length];exact z,(i.bs _ _ hC).1,hN.keeps i.bk,T.keeps i.bk,λl e m=>O.made V σ H1 _ l e C _ i m q⟩
  ·have W:ax X.K ⟨X.mg,F⟩ E D t H ((ai Φ Γ (e::es) v S).bind _):=w;cases j:ai Φ Γ (e::es) v S with
   |ok ds A=>
    rw[j]at W;intro u H' p x1 s1 r1;have o:ax X.K ⟨X.mg,F⟩ E D t H (if ds.length<=1000 then .err ⟨x,[]⟩ A else .fail):=W;split at o
    ·rename_i hl;exact⟨by rw[<-r1.length];exact ZC hl (by decide),o u H' x1 s1 (.ref C) none ⟨J,rfl⟩⟩
    ·exact o.elim
   |err y A=>rw[j]at W;exact W
   |fail=>rw[j]at W;exact W
noncomputable def J6(nb:Option (Str×Nat×Pos×Pos))(r:Str):D:=match nb with
 |none=>.str r
 |some (y,_)=>.lst [.str y,.str r]
noncomputable def f8(nb:Option (Str×Nat×Pos×Pos))(y w:Ls):Res Fl->Res Fl
 | .err x S'=>(match x.fs,(y.zip w).lookup x.cls with
  | [],some r=>.ok (.ret (J6 nb r)) S'
  |_,_=>.fail)
 |r=>r
theorem j9(O:kU X N sc CX E Φ Γ k){i:Nat}{f:Str}{y W:Ls}{np pos:Pos}(h:(N[i]?==some (N.getD i "")&&(sc.lookup (N.getD i "")==some .local&&(dF (N.getD i "")&&(a8 sc "PairError"&&(a8 sc f&&dY body N sc (vs st).a)))))=true)(hx:XC X.prog X.w X.K X.mg (.kind f y W))
  (hb:∀{X':Cx} {E':XK},X'.prog=X.prog->X'.w=X.w->X'.K=X.K->X'.mg=X.mg->kU X' N sc CX E' Φ Γ k->dW X' (cj body N (vs st).a) (jV X'.K X'.mg E' Φ Γ body)):
  PS X (.Try (cj body N (vs st).a) [iq nb "PairError" (N.getD i "") f tp np vp cp rp hp] [] [] pos) (λD σ H=>∃F μ ρ S,aM X.K ⟨X.mg,F⟩ μ S H/\aW X.K ⟨X.mg,F⟩ μ H ρ σ/\ax X.K ⟨X.mg,F⟩ E D μ H (f8 nb y W (ag Φ Γ body ρ S))):=by
 obtain⟨h1,h⟩:=ae h;obtain⟨h2,h⟩:=ae h;obtain⟨h3,h⟩:=ae h;obtain⟨h4,h⟩:=ae h;obtain⟨h5,h6⟩:=ae h;obtain⟨g,P,m1,m2,m3,m4⟩:=hx;obtain⟨T,U,_⟩:=cH h4;obtain⟨V,Y,_⟩:=cH h5;have Z:nq X "PairError" (N.getD i "") f i g P:=⟨O.fr.1,O.fr.2.1,O.fr.2.2,O.x.room.depth,⟨O.x.gl T,m3,U⟩,⟨O.x.gl V,m1,Y⟩,m2,by rw[O.x.n];exact O.x.nd,by rw[O.x.n];exact ZU h1,by rw[O.x.sc];exact ZU h2,h3,O.x.fn _ rfl⟩;intro pq s σ H D I zz;obtain⟨F,μ,ρ,S,sk,Q,w⟩:=zz;refine tW I (hb (X':=XB X pq D _) (E':=EH X nb g P D) rfl rfl rfl rfl ⟨⟨O.x.n,O.x.nd,O.x.sc,O.x.kd,O.x.calm,O.x.room,O.x.fn,O.x.mod,?_,O.x.cx0⟩,Ap,O.cx,O.fr,λj σ' G s' h2' e C A J m q=>Ar Z J m q⟩) ⟨F,μ,ρ,S,sk,Q,?_⟩
 ·rw[O.cx];exact Aq Z
 ·show ax X.K ⟨X.mg,F⟩ (EH X nb g P D) D μ H (ag Φ Γ body ρ S);cases c:ag Φ Γ body ρ S with
  |ok R n=>rw[c]at w;cases R<;>exact w
  |fail=>rw[c]at w;exact w
  |err x n=>
   rw[c]at w;obtain⟨cls,fs⟩:=x;cases fs with
   |cons _ _=>exact False.elim w
   |nil=>
    cases d:(y.zip W).lookup cls with
    |none=>dsimp only[f8]at w;rw[d]at w;exact False.elim w
    |some r=>
     dsimp only[f8]at w;rw[d]at w;have z:ax X.K ⟨X.mg,F⟩ E D μ H (.ok (.ret (J6 nb r)) n):=w;intro a G B t v o hv;obtain⟨C,K,L,M⟩:=m4 cls r d v hv.1;refine⟨C,r,K,M _,L,λv b u=>?_⟩;cases nb with
     |none=>obtain⟨rfl,u⟩:=u;exact z a b (.str r) (B.trans u.ext) (u.sok t) fj
     |some q=>obtain⟨p,H1,u,hp,rfl,rfl⟩:=u;have l:=u.sok t;exact z a _ _ ((B.trans u.ext).trans (.laid hp)) (l.laid hp) (by unfold Rep;exact⟨p,_,rfl,bM,⟨l.notin hp,l.notF hp⟩,.cons fj (.cons fj .nil)⟩)
theorem AE(O:kU X N sc CX E Φ Γ k){i:Nat}{f:Str}{y W:Ls}(h:vW (.tryK i body f y W) N sc st=true)(d:XC X.prog X.w X.K X.mg (.kind f y W))
  (c:∀{X':Cx} {E':XK},X'.prog=X.prog->X'.w=X.w->X'.K=X.K->X'.mg=X.mg->kU X' N sc CX E' Φ Γ k->dW X' (cj body N (vs st).a) (jV X'.K X'.mg E' Φ Γ body)):PS X (i3 (.tryK i body f y W) N st) (tS X.K X.mg E Φ Γ (.tryK i body f y W)):=by
 intro p s l H D I ⟨F,j,a,S,g,b,w⟩;refine j9 O (nb:=none) h d c p s l H D I ⟨F,j,a,S,g,b,?_⟩;have e:f8 none y W (ag Φ Γ body a S)=ar Φ Γ (.tryK i body f y W) a S:=by rw[ar];cases ag Φ Γ body a S<;>rfl
 exact e▸w
theorem t9(O:kU X N sc CX E Φ Γ k){i:Nat}{f:Str}{Y W:Ls}(h:vW (.tryN y i body f Y W) N sc st=true)(d:XC X.prog X.w X.K X.mg (.kind f Y W))
  (c:∀{X':Cx} {E':XK},X'.prog=X.prog->X'.w=X.w->X'.K=X.K->X'.mg=X.mg->kU X' N sc CX E' Φ Γ k->dW X' (cj body N (vs st).a) (jV X'.K X'.mg E' Φ Γ body)):PS X (i3 (.tryN y i body f Y W) N st) (tS X.K X.mg E Φ Γ (.tryN y i body f Y W)):=by
 intro p s l H D I ⟨F,j,a,S,g,b,w⟩;refine j9 O (nb:=some (y,_,_,_)) h d c p s l H D I ⟨F,j,a,S,g,b,?_⟩;have e:f8 (some (y,0,default,default)) Y W (ag Φ Γ body a S)=ar Φ Γ (.tryN y i body f Y W) a S:=by rw[ar];cases ag Φ Γ body a S<;>rfl
 exact e▸w
end
mutual
theorem t_(c:CS):∀{X:Cx} {N:Ls} {sc:Sc} {CX:c_} {E:XK} {Φ:FT} {Γ:Str->Option D} {k:Nat} {st:Stmt},kU X N sc CX E Φ Γ k->vW c N sc st=true->(∀z∈J5 c,XC X.prog X.w X.K X.mg z)->PS X (i3 c N st) (tS X.K X.mg E Φ Γ c):=by
 intro X N sc CX E Φ Γ k st O h d;cases c with
 |asg i e=>exact Ab O.x h
 |asgT t e=>exact tY O.x (jT (ae h).1) ((ae (ae h).2).1) (ae (ae (ae h).2).2).1 (ae (ae (ae (ae h).2).2).2).1 (aP e O.x (ae (ae (ae (ae h).2).2).2).2)
 |par is r=>exact Aw O.x (ae h).1 (fR (ae (ae h).2).1) (ae (ae (ae h).2).2).2 (dk r O.x (ae (ae (ae h).2).2).1)
 |aug=>cases h
 |set o i v=>exact Ax (ae (ae h).1).1 (ae (ae h).2).1 (aP o O.x (ae (ae (ae h).1).2).1) (aP i O.x (ae (ae (ae h).1).2).2) (aP v O.x (ae (ae h).2).2)
 |set2=>cases h
 |expr e=>exact tZ (ae h).1 (aP e O.x (ae h).2)
 |ret e=>exact Ay (aP e O.x h)
 |retN=>exact t0
 |pass=>exact t5
 |brk=>exact Az
 |cont=>exact t6
 |ite c a b=>exact G9 (dI c O.x (ae h).1) (f9 a O (ae (ae h).2).1 λz g=>d z (ZX _ g)) (f9 b O (ae (ae h).2).2 λz g=>d z (Zz _ g))
 |for_ t it body=>exact AD O.own O.x.calm (m6 it O.x (ae (ae h).2).1 jT) (jH O.x (ae h).1) (mW (ae (ae (ae h).2).2).1) (f9 body O (ae (ae (ae h).2).2).2 d)
 |while_ n c body=>exact ny O.own (dI c O.x (ae h).1) (f9 body O (ae h).2 d)
 |never=>exact λP s L H D I Z=>aE Z λF J K S G B w=>w.elim
 |dloop i t it C=>cases h
 |raise_ x r=>exact nA O h (d _ Ze) (dk r O.x (ae (ae h).2).1)
 |tryK i body f Y W=>exact AE O h (d _ Ze) λ{A u} l m p q j=>f9 body j (ae (ae (ae (ae (ae h).2).2).2).2).2 λz g=>by rw[l,m,p,q];exact d z (Zc _ g)
 |tryN y i body f Y W=>exact t9 O h (d _ Ze) λ{A u} l m p q j=>f9 body j (ae (ae (ae (ae (ae h).2).2).2).2).2 λz g=>by rw[l,m,p,q];exact d z (Zc _ g)
theorem f9(cs:List CS):∀{X:Cx} {N:Ls} {sc:Sc} {CX:c_} {E:XK} {Φ:FT} {Γ:Str->Option D} {k:Nat} {st:List Stmt},kU X N sc CX E Φ Γ k->dY cs N sc st=true->(∀z∈dZ cs,XC X.prog X.w X.K X.mg z)->dW X (cj cs N st) (jV X.K X.mg E Φ Γ cs):=by
 intro X N sc CX E Φ Γ k st O h a;cases cs with
 |nil=>exact t7
 |cons c cs=>exact nw (t_ c O (ae h).1 λz H=>a z (ZX _ H)) (f9 cs O (ae h).2 λz H=>a z (Zz _ H))
end
mutual
noncomputable def bd(k:Nat):D->Bool
 | .tup xs=>bo k xs
 | .lst xs=>bo k xs
 | .scr xs=>bo k xs
 | .ref n=>decide (n<k)
 |_=>true
noncomputable def bo(k:Nat):List D->Bool
 | []=>true
 |x::xs=>bd k x&&bo k xs
end
noncomputable def d0(k:Nat)(d:D)(S':af):Res D:=
 if(S'.take k).all (bo k)=true then
  (if bd k d=true then .ok d (S'.take k)else match d with
   | .ref n=>(match S'[n]? with
    |some xs=>if bo k xs=true/\k<=n then .ok (.ref k) (S'.take k++[xs])else .fail
    |none=>.fail)
   |_=>.fail)
 else .fail
noncomputable def aJ(Φ:FT)(Γ:Str->Option D)(body:List CS)(n np:Nat)(ds:List D)(S:af):Res D:=
 if ds.length=np then
  (match ag Φ Γ body (ds.map some++List.replicate (n-np) none) S with
  | .ok (.ret d) S'=>d0 S.length d S'
  | .ok (.next _) S'=>d0 S.length .non S'
  | .err x S'=>if(S'.take S.length).all (bo S.length)=true then .err x (S'.take S.length)else .fail
  |_=>.fail)
 else .fail
section
variable {mg:GS}{μ'':La}{k:Nat}
mutual
theorem Rep.low(b:∀n,n<k->μ''[n]?=μ'[n]?)(hs:∀a∈μ'',a∈μ'):∀(d:D) (v:V),bd k d=true->Rep K mg μ' H d v->Rep K mg μ'' H d v
 | .non,_,_,h=>h
 | .bl _,_,_,h=>h
 | .int _,_,_,h=>h
 | .str _,_,_,h=>h
 | .tup _,v,l,h=>by obtain⟨a,vs,e,q,r⟩:=h;exact⟨a,_,e,q,aj.low b hs _ _ l r⟩
 | .lst _,v,l,h=>by obtain⟨a,vs,e,q,n,r⟩:=h;exact⟨a,_,e,q,⟨λz=>n.1 (hs a z),n.2⟩,aj.low b hs _ _ l r⟩
 | .scr _,v,l,h=>by obtain⟨a,vs,e,q,r⟩:=h;exact⟨a,_,e,q,aj.low b hs _ _ l r⟩
 | .ref n,v,l,h=>by unfold Rep at h⊢;unfold bd at l;simp_all
 | .fn y,v,_,h=>h
 | .ty y,v,_,h=>h
 | .dct,v,_,h=>h
 | .dks _,v,_,h=>h
theorem aj.low(b:∀n,n<k->μ''[n]?=μ'[n]?)(hs:∀a∈μ'',a∈μ'):∀(ds:List D) (vs:List V),bo k ds=true->aj K mg μ' H ds vs->aj K mg μ'' H ds vs
 | [],vs,_,h=>h
 |d::ds,vs,l,h=>by unfold bo at l;simp at l;obtain⟨w,W,e,r,q⟩:=h;exact⟨w,_,e,Rep.low b hs d w l.1 r,aj.low b hs _ _ l.2 q⟩
end
theorem Ext.cut(x:Ext μ H μ' H'):Ext μ H μ H':=⟨⟨[],by simp⟩,x.keep,x.there,λ_ h=>.inl h⟩
theorem aM.cut(x:Ext μ H μ' H')(f:μ.length=k)(s:aM K mg μ' S' H')(l:(S'.take k).all (bo k)=true):aM K mg μ (S'.take k) H':=by
 obtain⟨r,rfl⟩:=x.pre;have g:=s.len;simp at g;refine⟨s.live,by rw[List.length_take];omega,(Z3.mp s.nd).1,λn a D d h=>?_⟩;have i:n<k:=by rw[<-f];exact(Zg.mp d).1
 have c:=h;rw[List.getElem?_take_of_lt i]at h;obtain⟨vs,q,R⟩:=s.at_ n a _ (by rw[Zw (by omega)];exact d) h;exact⟨_,q,aj.low λm j=>by rw[Zw (by omega)] (λb e=>ZX _ e) _ _ (Zn.mp l _ (Zu c)) R⟩
theorem AF{E:XK}{Q:VK}(x:Ext μ H μ' H')(u:μ.length=k)(s:aM K mg μ' S' H')(r:Rep K mg μ' H' d v)(w:ak K mg E (Rep K mg) μ H Q (d0 k d S')):Q v H':=by
 unfold d0 at w;split at w
 ·rename_i y;split at w
  ·rename_i J;refine w μ H' v x.cut (aM.cut x u s y) ?_;obtain⟨R,rfl⟩:=x.pre;exact Rep.low (k:=k) (λm l=>by rw[Zw (by omega)]) (λb f=>ZX _ f) _ _ J r
  ·split at w
   ·rename_i n M;split at w
    ·rename_i X N;split at w
     ·rename_i B;unfold Rep at r;obtain⟨a,rfl,p⟩:=r;obtain⟨vs,q,P⟩:=s.at_ n a X p N;have T:=aM.cut x u s y;obtain⟨R,rfl⟩:=x.pre;have iq:=Z3.mp s.nd;have L:μ.length<=n:=by omega
      have e:a∈R:=by rw[Zy L]at p;exact Zu p
      have i:a∉μ:=λz=>iq.2.2 a z a e rfl
      have t:H a=none:=by
       rcases x.fresh a (Zz _ e)with z|z
       ·exact absurd z i
       ·exact z
      have j:∀b∈μ++[a],b∈μ++R:=λb f=>by
       rcases ZE.mp f with z|z
       ·exact ZX _ z
       ·have:b=a:=by simpa using z
        subst this;exact Zz _ e
      have S:∀m,m<k->(μ++[a])[m]?=(μ++R)[m]? :=λm l=>by rw[Zw (by omega),Zw (by omega)]
      have A:=s.len;simp at A;refine w (μ++[a]) H' (.ref a) ⟨⟨[a],rfl⟩,x.keep,x.there,λb f=>?_⟩ ⟨s.live,?_,?_,λm b D g h=>?_⟩ ?_
      ·rcases ZE.mp f with z|z
       ·exact .inl z
       ·have:b=a:=by simpa using z
        subst this;exact .inr t
      ·rw[Zo,Zo,List.length_take];simp;omega
      ·rw[Z3]
       exact⟨iq.1,by simp,λb f c I=>by
        have:c=a:=by simpa using I
        subst this;intro z;subst z;exact i f⟩
      ·by_cases l:m<μ.length
       ·rw[Zw l]at g;rw[Zw (by rw[List.length_take];omega)]at h;have o:=h;rw[List.getElem?_take_of_lt (by omega)]at h;obtain⟨W,O,C⟩:=s.at_ m b D (by rw[Zw l];exact g) h;exact⟨W,O,aj.low (k:=k) S j _ _ (Zn.mp y D (Zu o)) C⟩
       ·have F:m=μ.length:=by
         have:=(Zg.mp g).1;simp at this;omega
        subst F;rw[Zy (Zf _)]at g;rw[Zy (by rw[List.length_take];omega)]at h;have G:μ.length-(S'.take k).length=0:=by rw[List.length_take];omega
        rw[G]at h;simp at g h;subst g;subst h;exact⟨vs,q,aj.low (k:=k) S j _ _ B.1 P⟩
      ·unfold Rep;exact⟨a,rfl,by rw[<-u,Zy (Zf _)];simp⟩
     ·exact w.elim
    ·exact w.elim
   ·exact w.elim
 ·exact w.elim
end
theorem G_{m:GS}{vs:List V}(r:aj K m μ H ds vs):aW K m μ H (ds.map some++List.replicate (N.length-ds.length) none) (L2.start N vs):=by
 unfold L2.start;have c:=r.length;refine⟨by simp_all,λi d e=>?_⟩;by_cases b:i<ds.length
 ·rw[Zw (by simp_all)]at e;cases E:ds[i]? with
  |none=>simp_all
  |some D=>
   obtain⟨v,h,a⟩:=r.get E
   grind
 grind
section
variable {P:Program}{k:Nat}
theorem bK.mono{j:Nat}{f:Str}(F:bK P w K mg base CX j f φ)(h:j<=k):bK P w K mg base CX k f φ:=by obtain⟨d,e,p,m,M,a,b,c⟩:=F.ex;exact⟨_,_,_,m,M,a,b.mono h,c⟩
theorem AG{x:Str}{B:FuncData}{ps:Ls}(F:lL K x qual st f B)(S:bH N ps (bi st))(M:Dm P w K mg base (bn P w) Φ Γ k)(V:cj body N (bO st)=bO st)(U:dY body N (bi st).names (bO st)=true)(Z:∀z∈dZ body,XC P w K mg z):
  cN P w K mg base (bn P w) (k+1) f B ps (sf K mg ps.length (aJ Φ Γ body N.length ps.length)):=by
 obtain⟨oc,od,kV,J,pm,an,i,ct,osl,rfl,lk,j⟩:=F.ex;refine wQ lk j S (λvs H Q E h=>h.1) λA o s H vs Q E Y h=>?_
 ·obtain⟨X,F',μ,t,R,D,r,W⟩:=h;have L:kT (fg _ P w K mg base N qual (bi st) f i A o s H E) E:=kT.of;have O:kU _ N _ _ E _ _ k:=⟨⟨rfl,S.nd,rfl,S.kind,rfl,Y,λ_ _=>rfl,M,L.pass,qj⟩,L.own,rfl,⟨rfl,rfl,rfl⟩,λpq σ H1 s1 h2 e C u I m q=>L.made I m q⟩;refine⟨_,V▸f9 _ O U Z,_,_,_,_,D,G_ r,?_⟩;have b:R.length=ps.length:=by rw[r.length];exact X
  unfold aJ at W;rw[if_pos b,<-b]at W;have a:=D.len;cases e:ag _ _ _ _ _ with
  |ok T p=>
   rw[e]at W;cases T with
   |next G=>exact λg n σ' x c _=>AF x a c lM W
   |ret d=>exact λg n v x c r'=>AF x a c r' W
   |brk G=>exact W.elim
   |cont G=>exact W.elim
  |err y p=>
   rw[e]at W;intro g n x c;by_cases l:(p.take t.length).all (bo t.length)=true
   ·simp[l]at W;exact W _ _ x.cut (aM.cut x a c l)
   ·simp[l]at W;exact W.elim
  |fail=>rw[e]at W;exact W.elim
theorem Kq{x:Str}{a:FuncData}{ps:Ls}(F:lL K x qual st f a)(S:bH N ps (bi st))(d:mg x=some (.ref f))(H:Binds K a ps [])(M:Dm P w K mg base (bn P w) Φ Γ k)(c:cj body N (bO st)=bO st)(b:dY body N (bi st).names (bO st)=true)(e:∀z∈dZ body,XC P w K mg z):
  bK P w K mg base (bn P w) (k+1) x (aJ Φ Γ body N.length ps.length):=by
 refine⟨f,_,_,d,F.kp,H,AG F S M c b e,λD g h=>?_⟩;unfold aJ at h
 grind
theorem G'{x:Str}{b:FuncData}{ps:Ls}(F:lL K x qual st f b)(S:bH N ps (bi st))(d:mg x=some (.ref f))(c:Binds K b ps []):bK P w K mg base (bn P w) k x (λ_ _=>.fail):=
 ⟨f,_,_,d,F.kp,c,⟨λvs H Q E h=>h.1,λA o s H a u vs Q E _ _ _ _ h=>by obtain⟨_,_,_,_,_,_,_,z⟩:=h;exact z.elim⟩,λ_ _ h=>absurd rfl h⟩
theorem cJ{P:Lv->Prop}(h:∀a,P [a]):∀us:Lv,us.length=1->P us:=λus H=>by obtain⟨a,rfl⟩:=List.length_eq_one_iff.mp H;exact h a
theorem cy{P:Lv->Prop}(h:∀a b,P [a,b]):∀us:Lv,us.length=2->P us:=λus H=>by
 cases us with
 |nil=>cases H
 |cons a us=>exact cJ (P:=λus=>P _) (h a) _ (ZF H)
theorem nB{P:Lv->Prop}(h:∀a b c,P [a,b,c]):∀us:Lv,us.length=3->P us:=λus H=>by
 cases us with
 |nil=>cases H
 |cons a us=>exact cy (P:=λus=>P _) (h a) _ (ZF H)
noncomputable def tbl(l:List (Str×(List D->af->Res D))):FT:=λf=>l.lookup f
theorem J7(h:∀p∈l,bK P w K mg base (bn P w) k p.1 p.2)(b:∀x d,Γ x=some d->∃v u,mg x=some u/\RelV v u/\∀F μ H,Rep K ⟨mg,F⟩ μ H d v)(a:∀x∈fT,mg x=none):Dm P w K mg base (bn P w) (tbl l) Γ k:=
 ⟨λf c e=>h _ (ZA e),b,a⟩
end
end Py
namespace K90
noncomputable def vY:Ls:=["NoWeb","NoPlace","NoPlaces","NoTie","NoNumber","NoPairing","NoWay","NoRing","NoArrows","NoSides","NoText","NoLine","NoDeed","TooGreat"]
noncomputable def ua:Ls:=["web","place","places","tie","number","pairing","way","ring","arrows","sides","text","line","deed","great"]
noncomputable def G0:Str->Option D:=λx=>[(("MOST_PLACES":Str),D.int 8),(("NONE":Str),D.str "none")].lookup x
noncomputable def Hc:Ls:=["thing"]
noncomputable def f_:List CS:=[.ret (.band (.blt .isinst [.var 0,.ty "int"]) (.bnot (.blt .isinst [.var 0,.ty "bool"])))]
noncomputable def AH:FT:=tbl []
noncomputable def f':List D->af->Res D:=aJ AH G0 f_ Hc.length 1
noncomputable def Hd:Ls:=["thing","low","high"]
noncomputable def iw:List CS:=[.ret (.band (.call "is_number" [.var 0]) (.chain .LtE .LtE (.var 1) (.var 0) (.var 2)))]
noncomputable def nC:FT:=tbl [("is_number",f')]
theorem ub:nC "is_number"=some f':=rfl
noncomputable def eL:List D->af->Res D:=aJ nC G0 iw Hd.length 3
noncomputable def He:Ls:=["many","thing"]
noncomputable def nD:List CS:=[.ret (.call "is_number_from" [.var 1,.lit (.int 0),.bin .Sub (.var 0) (.lit (.int 1))])]
noncomputable def uc:FT:=tbl [("is_number_from",eL)]
theorem AI:uc "is_number_from"=some eL:=rfl
noncomputable def gK:List D->af->Res D:=aJ uc G0 nD He.length 2
noncomputable def ud:Ls:=["things"]
noncomputable def ue:List CS:=[.ret (.blt .all [.comp false ["one","other"] [none,none] (.tup [.var 0,.var 1]) (.zip [.var 0,.sl (.var 0) [.lit (.int 1)] []]) [] (.emit (.cmp .Lt (.var 0) (.var 1)))])]
noncomputable def Hf:FT:=tbl []
noncomputable def dq:List D->af->Res D:=aJ Hf G0 ue ud.length 1
noncomputable def Hg:Ls:=["many","thing"]
noncomputable def Dt:CE:=.comp false ["place","many"] [none,some 0] (.var 0) (.seq (.var 1)) [] (.emit (.call "is_place" [.var 1,.var 0]))
noncomputable def j_:List CS:=[.ret (.band (.blt .isinst [.var 1,.ty "tuple"]) (.blt .all [Dt]))]
noncomputable def ix:FT:=tbl [("is_place",gK)]
theorem AJ:ix "is_place"=some gK:=rfl
noncomputable def fu:List D->af->Res D:=aJ ix G0 j_ Hg.length 2
noncomputable def AK:Ls:=["things"]
noncomputable def uf:List CS:=[.ret (.cmp .Eq (.lenset (.var 0)) (.blt .len [.var 0]))]
noncomputable def Hh:FT:=tbl []
noncomputable def ka:List D->af->Res D:=aJ Hh G0 uf AK.length 1
noncomputable def Hi:Ls:=["many","thing"]
noncomputable def gb:List CS:=[.ret (.band (.call "are_places" [.var 0,.var 1]) (.band (.cmp .Eq (.blt .len [.var 1]) (.lit (.int 2))) (.call "is_rising" [.var 1])))]
noncomputable def iy:FT:=tbl [("are_places",fu),("is_rising",dq)]
theorem nE:iy "are_places"=some fu:=rfl
theorem AL:iy "is_rising"=some dq:=rfl
noncomputable def ez:List D->af->Res D:=aJ iy G0 gb Hi.length 2
noncomputable def AM:Ls:=["thing","many","ties"]
noncomputable def AN:CE:=.bor (.bnot (.blt .isinst [.var 0,.ty "tuple"])) (.cmp .NotEq (.blt .len [.var 0]) (.lit (.int 2)))
noncomputable def Hj:CE:=.bor (.bnot (.call "is_number_from" [.var 1,.lit (.int 1),.glob "MOST_PLACES"])) (.bnot (.blt .isinst [.var 2,.ty "tuple"]))
noncomputable def vZ:CE:=.comp false ["tie","many"] [none,some 1] (.var 0) (.seq (.var 2)) [] (.emit (.call "is_tie" [.var 1,.var 0]))
noncomputable def iz:List CS:=[.ite AN [.ret (.lit (.bl false))] [],.asgT (.tup [.var 1,.var 2]) (.var 0),.ite Hj [.ret (.lit (.bl false))] [],.ret (.band (.blt .all [vZ]) (.call "is_rising" [.var 2]))]
noncomputable def cY:FT:=tbl [("is_rising",dq),("is_number_from",eL),("is_tie",ez)]
theorem AO:cY "is_rising"=some dq:=rfl
theorem AQ:cY "is_number_from"=some eL:=rfl
theorem ug:cY "is_tie"=some ez:=rfl
noncomputable def cZ:List D->af->Res D:=aJ cY G0 iz AM.length 1
noncomputable def Hk:Ls:=["web","thing"]
noncomputable def AR:CE:=.band (.call "is_tie" [.idx (.var 1) (.lit (.int 0)),.var 0]) (.cmp .In (.var 0) (.idx (.var 1) (.lit (.int 1))))
noncomputable def AS:CE:=.comp false ["tie","web"] [none,some 0] (.var 0) (.seq (.var 1)) [] (.emit AR)
noncomputable def kb:List CS:=[.ite (.bnot (.blt .isinst [.var 1,.ty "tuple"])) [.ret (.lit (.bl false))] [],.ret (.band (.blt .all [AS]) (.call "is_rising" [.var 1]))]
noncomputable def eM:FT:=tbl [("is_rising",dq),("is_tie",ez)]
theorem AU:eM "is_rising"=some dq:=rfl
theorem nF:eM "is_tie"=some ez:=rfl
noncomputable def gc:List D->af->Res D:=aJ eM G0 kb Hk.length 2
noncomputable def uh:Ls:=["thing"]
noncomputable def ui:List CS:=[.ite (.bnot (.call "is_web" [.var 0])) [.raise_ "NoWeb" [.lit (.str "this is no web")]] []]
noncomputable def AV:FT:=tbl [("is_web",cZ)]
theorem AW:AV "is_web"=some cZ:=rfl
noncomputable def d6:List D->af->Res D:=aJ AV G0 ui uh.length 1
noncomputable def uj:Ls:=["web","thing"]
noncomputable def AX:CE:=.comp false ["tie","place"] [none,none] (.var 0) (.seq (.var 1)) [] (.inner (.var 1) (.seq (.var 0)) [] (.emit (.var 1)))
noncomputable def kc:List CS:=[.expr (.call "must_be_web" [.var 0]),.ret (.band (.call "are_ties" [.var 0,.var 1]) (.call "are_unlike" [AX]))]
noncomputable def fv:FT:=tbl [("must_be_web",d6),("are_ties",gc),("are_unlike",ka)]
theorem uk:fv "must_be_web"=some d6:=rfl
theorem ul:fv "are_ties"=some gc:=rfl
theorem AY:fv "are_unlike"=some ka:=rfl
noncomputable def eA:List D->af->Res D:=aJ fv G0 kc uj.length 2
noncomputable def nG:Ls:=["web","thing"]
noncomputable def nH:List CS:=[.ite (.bnot (.call "is_pairing" [.var 0,.var 1])) [.raise_ "NoPairing" [.lit (.str "this is no pairing of the web")]] []]
noncomputable def AZ:FT:=tbl [("is_pairing",eA)]
theorem um:AZ "is_pairing"=some eA:=rfl
noncomputable def dr:List D->af->Res D:=aJ AZ G0 nH nG.length 2
noncomputable def Hl:Ls:=["tie","low","high"]
noncomputable def uo:List CS:=[.asgT (.tup [.var 1,.var 2]) (.var 0),.ret (.fst [.v 1,.s "-",.v 2])]
noncomputable def nI:FT:=tbl []
noncomputable def gL:List D->af->Res D:=aJ nI G0 uo Hl.length 1
noncomputable def Hm:Ls:=["ties"]
noncomputable def A0:List CS:=[.ret (.ite (.var 0) (.join "," [.comp false ["tie"] [none] (.var 0) (.seq (.var 0)) [] (.emit (.call "shown_tie" [.var 0]))]) (.glob "NONE"))]
noncomputable def nJ:FT:=tbl [("shown_tie",gL)]
theorem Hn:nJ "shown_tie"=some gL:=rfl
noncomputable def nK:List D->af->Res D:=aJ nJ G0 A0 Hm.length 1
noncomputable def A1:Ls:=["web","many","ties"]
noncomputable def nL:List CS:=[.expr (.call "must_be_web" [.var 0]),.asgT (.tup [.var 1,.var 2]) (.var 0),.ret (.join " " [.bin .Add (.lst false [.blt .str [.var 1]]) (.comp false ["tie"] [none] (.var 0) (.seq (.var 2)) [] (.emit (.call "shown_tie" [.var 0])))])]
noncomputable def nM:FT:=tbl [("must_be_web",d6),("shown_tie",gL)]
theorem A2:nM "must_be_web"=some d6:=rfl
theorem Ho:nM "shown_tie"=some gL:=rfl
noncomputable def fw:List D->af->Res D:=aJ nM G0 nL A1.length 1
noncomputable def uq:Ls:=["web","pairing"]
noncomputable def ur:List CS:=[.expr (.call "must_be_pairing" [.var 0,.var 1]),.ret (.call "shown_ties" [.var 1])]
noncomputable def ut:FT:=tbl [("must_be_pairing",dr),("shown_ties",nK)]
theorem A3:ut "must_be_pairing"=some dr:=rfl
theorem Hq:ut "shown_ties"=some nK:=rfl
noncomputable def eB:List D->af->Res D:=aJ ut G0 ur uq.length 2
noncomputable def A4:Ls:=["_law_script","_law_k"]
noncomputable def A5:List CS:=[.ite (.cmp .Lt (.var 1) (.blt .len [.var 0])) [.ret (.idx (.var 0) (.var 1))] [],.ret (.lit (.int 0))]
noncomputable def Hr:FT:=tbl []
noncomputable def iA:List D->af->Res D:=aJ Hr G0 A5 A4.length 2
noncomputable def nN:Ls:=["_law_cell_here"]
noncomputable def nO:List CS:=[.ret (.lst true [.var 0,.blt .int [.cmp .GtE (.var 0) (.bin .Pow (.lit (.int 10)) (.lit (.int 18)))]])]
noncomputable def uu:FT:=tbl []
noncomputable def iB:List D->af->Res D:=aJ uu G0 nO nN.length 1
noncomputable def uv:Ls:=["_law_pen_here","_law_many","_law_found"]
noncomputable def uw:List CS:=[.ite (.cmp .Eq (.idx (.var 0) (.lit (.int 1))) (.lit (.int 1))) [.asg 2 (.bin .Mod (.idx (.var 0) (.lit (.int 0))) (.var 1)),.set (.var 0) (.lit (.int 0)) (.bin .FloorDiv (.idx (.var 0) (.lit (.int 0))) (.var 1)),.ret (.var 2)] [],.set (.var 0) (.lit (.int 0)) (.bin .Mod (.bin .Add (.bin .Mult (.bin .Mod (.idx (.var 0) (.lit (.int 0))) (.lit (.int 2147483629))) (.lit (.int 48271))) (.lit (.int 11))) (.lit (.int 2147483629))),.ret (.bin .Mod (.bin .FloorDiv (.bin .Mod (.bin .Add (.bin .Mult (.idx (.var 0) (.lit (.int 0))) (.idx (.var 0) (.lit (.int 0)))) (.bin .Mult (.lit (.int 40692)) (.idx (.var 0) (.lit (.int 0))))) (.lit (.int 2147483647))) (.lit (.int 8))) (.var 1))]
noncomputable def Hs:FT:=tbl []
noncomputable def cc:List D->af->Res D:=aJ Hs G0 uw uv.length 2
noncomputable def A6:Ls:=["_law_many","_law_found","_law_one"]
noncomputable def A7:List CS:=[.asg 1 (.lst false []),.for_ (.var 2) (.range [.var 0]) [.asg 1 (.bin .Add (.var 1) (.comp false ["_law_other","_law_one"] [none,some 2] (.var 0) (.range [.bin .Add (.var 2) (.lit (.int 1)),.var 0]) [] (.emit (.tup [.var 1,.var 0]))))],.ret (.var 1)]
noncomputable def A8:FT:=tbl []
noncomputable def nP:List D->af->Res D:=aJ A8 G0 A7 A6.length 1
noncomputable def Ht:Ls:=["_law_pen_here","_law_upto","_law_many","_law_way","_law_rest","_law_mids","_law_often"]
noncomputable def ux:List CS:=[.asg 2 (.bin .Sub (.bin .Sub (.bin .Add (.lit (.int 1)) (.var 1)) (.lit (.int 1))) (.bin .Mod (.idx (.lst false [.lit (.int 0),.lit (.int 0),.lit (.int 1),.lit (.int 0),.lit (.int 2),.lit (.int 1),.lit (.int 3),.lit (.int 4),.lit (.int 5),.lit (.int 6),.lit (.int 7),.lit (.int 0)]) (.call "_law_draw" [.var 0,.lit (.int 12)])) (.var 1))),.asg 3 (.call "_law_draw" [.var 0,.lit (.int 9)]),.ite (.band (.cmp .Eq (.var 3) (.lit (.int 0))) (.cmp .Gt (.var 2) (.lit (.int 2)))) [.ret (.tup [.var 2,.blt .tuple [.blt (.sorted false (.seq .int)) [.bin .Add (.comp false ["_law_k"] [none] (.var 0) (.range [.bin .Sub (.var 2) (.lit (.int 1))]) [] (.emit (.tup [.var 0,.bin .Add (.var 0) (.lit (.int 1))]))) (.lst false [.tup [.lit (.int 0),.bin .Sub (.var 2) (.lit (.int 1))]])]]])] [],.ite (.band (.cmp .Eq (.var 3) (.lit (.int 1))) (.cmp .Gt (.var 2) (.lit (.int 5)))) [.asg 4 (.bin .Add (.comp false ["_law_k"] [none] (.var 0) (.range [.lit (.int 3),.bin .Sub (.var 2) (.lit (.int 1))]) [] (.emit (.tup [.var 0,.bin .Add (.var 0) (.lit (.int 1))]))) (.lst false [.tup [.lit (.int 3),.bin .Sub (.var 2) (.lit (.int 1))],.tup [.lit (.int 2),.lit (.int 3)]])),.ret (.tup [.var 2,.blt .tuple [.blt (.sorted false (.seq .int)) [.bin .Add (.lst false [.tup [.lit (.int 0),.lit (.int 1)],.tup [.lit (.int 0),.lit (.int 2)],.tup [.lit (.int 1),.lit (.int 2)]]) (.var 4)]]])] [],.ite (.band (.cmp .Eq (.var 3) (.lit (.int 2))) (.cmp .Gt (.var 2) (.lit (.int 2)))) [.asg 5 (.bin .Add (.lit (.int 1)) (.call "_law_draw" [.var 0,.lit (.int 2)])),.ret (.tup [.var 2,.blt .tuple [.comp false ["_law_tie","_law_mids"] [none,some 5] (.var 0) (.seq (.call "_law_pairs" [.var 2])) [.chain .Lt .LtE (.idx (.var 0) (.lit (.int 0))) (.var 1) (.idx (.var 0) (.lit (.int 1)))] (.emit (.var 0))]])] [],.ite (.cmp .Eq (.var 3) (.lit (.int 3))) [.ret (.tup [.var 2,.blt .tuple [.blt (.sorted false (.seq .int)) [.comp false ["_law_place","_law_pen_here"] [none,some 0] (.var 0) (.range [.lit (.int 1),.var 2]) [] (.emit (.tup [.call "_law_draw" [.var 1,.var 0],.var 0]))]]])] [],.asg 6 (.idx (.lst false [.lit (.int 2),.lit (.int 3),.lit (.int 4),.lit (.int 6),.lit (.int 8)]) (.call "_law_draw" [.var 0,.lit (.int 5)])),.ret (.tup [.var 2,.blt .tuple [.comp false ["_law_tie","_law_pen_here","_law_often"] [none,some 0,some 6] (.var 0) (.seq (.call "_law_pairs" [.var 2])) [.cmp .Lt (.call "_law_draw" [.var 1,.lit (.int 8)]) (.var 2)] (.emit (.var 0))]])]
noncomputable def d8:FT:=tbl [("_law_draw",cc),("_law_pairs",nP)]
theorem iC:d8 "_law_draw"=some cc:=rfl
theorem A9:d8 "_law_pairs"=some nP:=rfl
noncomputable def iD:List D->af->Res D:=aJ d8 G0 ux Ht.length 2
noncomputable def uy:Ls:=["_law_pen_here","_law_web_here","_law_left","_law_found","_law_tie"]
noncomputable def ke:List CS:=[.asg 2 (.blt (.list true) [.idx (.var 1) (.lit (.int 1))]),.asg 3 (.lst true []),.while_ 40 (.cmp .NotEq (.var 2) (.lst false [])) [.asg 4 (.meth .pop (.var 2) [.call "_law_draw" [.var 0,.blt .len [.var 2]]]),.ite (.band (.blt .all [.comp false ["_law_one","_law_tie"] [none,some 4] (.var 0) (.seq (.var 3)) [] (.emit (.band (.cmp .NotIn (.idx (.var 1) (.lit (.int 0))) (.var 0)) (.cmp .NotIn (.idx (.var 1) (.lit (.int 1))) (.var 0))))]) (.cmp .Gt (.call "_law_draw" [.var 0,.lit (.int 4)]) (.lit (.int 0)))) [.expr (.meth .append (.var 3) [.var 4])] []],.ret (.blt .tuple [.blt (.sorted false (.seq .int)) [.var 3]])]
noncomputable def bW:FT:=tbl [("_law_draw",cc)]
theorem A_:bW "_law_draw"=some cc:=rfl
noncomputable def iE:List D->af->Res D:=aJ bW G0 ke uy.length 2
noncomputable def uz:Ls:=["_law_found","_law_due","_law_one","_law_other"]
noncomputable def Ba:List CS:=[.ite (.cmp .Is (.var 1) (.lit (.non))) [.ret (.cmp .Is (.var 0) (.lit (.non)))] [],.ite (.blt .isinst [.var 1,.ty "bool"]) [.ret (.band (.blt .isinst [.var 0,.ty "bool"]) (.cmp .Eq (.var 0) (.var 1)))] [],.ite (.blt .isinst [.var 1,.ty "int"]) [.ret (.band (.blt .isinst [.var 0,.ty "int"]) (.band (.bnot (.blt .isinst [.var 0,.ty "bool"])) (.cmp .Eq (.var 0) (.var 1))))] [],.ite (.blt .isinst [.var 1,.ty "str"]) [.ret (.band (.blt .isinst [.var 0,.ty "str"]) (.cmp .Eq (.var 0) (.var 1)))] [],.ite (.bor (.cmp .NotEq (.blt .isinst [.var 1,.ty "list"]) (.blt .isinst [.var 0,.ty "list"])) (.cmp .NotEq (.blt .isinst [.var 1,.ty "tuple"]) (.blt .isinst [.var 0,.ty "tuple"]))) [.ret (.lit (.bl false))] [],.ite (.cmp .NotEq (.blt .len [.var 0]) (.blt .len [.var 1])) [.ret (.lit (.bl false))] [],.for_ (.tup [.var 2,.var 3]) (.zip [.var 0,.var 1]) [.ite (.bnot (.call "_law_same" [.var 2,.var 3])) [.ret (.lit (.bl false))] []],.ret (.lit (.bl true))]
noncomputable def nQ:Nat->List D->af->Res D
 |0=>λ_ _=>.fail
 |n+1=>aJ (tbl [("_law_same",nQ n)]) G0 Ba uz.length 2
noncomputable def iF:List D->af->Res D:=nQ 6
noncomputable def Hu:Ls:=["_law_web_here"]
noncomputable def Bb:List CS:=[.ret (.join " " [.bin .Add (.lst false [.blt .str [.idx (.var 0) (.lit (.int 0))]]) (.comp false ["_law_one","_law_other"] [none,none] (.tup [.var 0,.var 1]) (.seq (.idx (.var 0) (.lit (.int 1)))) [] (.emit (.bin .Add (.bin .Add (.blt .str [.var 0]) (.lit (.str "-"))) (.blt .str [.var 1]))))])]
noncomputable def Bc:FT:=tbl []
noncomputable def nR:List D->af->Res D:=aJ Bc G0 Bb Hu.length 1
noncomputable def Hv:Ls:=["_law_pairing_here"]
noncomputable def Bd:List CS:=[.ite (.cmp .Eq (.var 0) (.tup [])) [.ret (.lit (.str "none"))] [],.ret (.join "," [.comp false ["_law_one","_law_other"] [none,none] (.tup [.var 0,.var 1]) (.seq (.var 0)) [] (.emit (.bin .Add (.bin .Add (.blt .str [.var 0]) (.lit (.str "-"))) (.blt .str [.var 1])))])]
noncomputable def uA:FT:=tbl []
noncomputable def nT:List D->af->Res D:=aJ uA G0 Bd Hv.length 1
noncomputable def Hw:Ls:=["_law_pen_here","_law_web_here","_law_many","_law_ties","_law_at","_law_odd","_law_rows","_law_turned","_law_some"]
noncomputable def fx(e:CE):CE:=.call "_law_draw" [.var 0,e]
noncomputable def nU:List CE:=[.tup [.lit (.int 0),.lit (.int 0)],.tup [.lit (.int 1),.lit (.int 0)],.tup [.lit (.int 0),.var 2],.tup [.neg (.lit (.int 1)),.lit (.int 0)],.tup [.lit (.bl false),.lit (.bl true)],.tup [.lit (.int 0),.lit (.bl true)],.tup [.lit (.int 0)],.tup [.lit (.int 0),.lit (.int 1),.lit (.int 2)],.lst false [.lit (.int 0),.lit (.int 1)],.lit (.non),.lit (.str "01")]
noncomputable def nV:List CE:=[.tup [.bin .Sub (.var 2) (.lit (.int 1)),.bin .Sub (.var 2) (.lit (.int 1))],.tup [.lit (.int 0),.bin .Pow (.lit (.int 10)) (.lit (.int 30))],.tup [.lit (.int 0),.lit (.int 1)],.var 3]
noncomputable def sA:CE:=.sl (.var 3) [] [.var 4]
noncomputable def sB:CE:=.sl (.var 3) [.var 4] []
noncomputable def sC:CE:=.sl (.var 3) [.bin .Add (.var 4) (.lit (.int 1))] []
noncomputable def nW:List CE:=[.bin .Add (.bin .Add sA (.tup [.var 5])) sB,.bin .Add (.bin .Add sA (.tup [.var 5])) sC,.rev (.var 3) (.neg (.lit (.int 1)))]
noncomputable def nX:CE:=.bin .Add sA sC
noncomputable def sD:CE:=.sl (.var 3) [.var 4] [.bin .Add (.var 4) (.lit (.int 1))]
noncomputable def nY:List CE:=[.bin .Add (.bin .Add sA sD) sB,.blt (.list false) [.var 3],.bin .Add sB sA,.lit (.non),.tup [.var 3]]
noncomputable def sE:CE:=.sl (.var 3) [.bin .Add (.var 4) (.lit (.int 1))] [.bin .Add (.var 4) (.lit (.int 2))]
noncomputable def nZ:CE:=.bin .Add sE sD
noncomputable def sF:CE:=.sl (.var 3) [.bin .Add (.var 4) (.lit (.int 2))] []
noncomputable def n_:CE:=.bin .Add (.bin .Add sA (.var 7)) sF
noncomputable def uB:List CE:=[.tup [.bin .Add (.var 2) (.lit (.int 1)),.var 3],.tup [.bin .Sub (.var 2) (.lit (.int 1)),.var 3],.tup [.lit (.bl true),.var 3],.tup [.lit (.int 9),.var 3],.tup [.lit (.int 0),.tup []],.tup [.lit (.non),.var 3],.lst false [.var 2,.var 3],.tup [.var 2]]
noncomputable def uC:List CE:=[.tup [.var 2,.var 3,.tup []],.tup [.blt .str [.var 2],.var 3],.tup [.var 3,.var 2],.var 3,.lit (.non),.var 2,.dct,.lit (.str "web"),.tup [.neg (.lit (.int 1)),.tup []]]
noncomputable def uD:CE:=.tup [.bin .Pow (.lit (.int 10)) (.lit (.int 30)),.tup []]
noncomputable def uE:List CS:=[.asgT (.tup [.var 2,.var 3]) (.var 1),.asg 4 (fx (.bin .Add (.blt .len [.var 3]) (.lit (.int 1)))),.asg 5 (.lst false nU),.asg 5 (.idx (.bin .Add (.var 5) (.lst false nV)) (fx (.lit (.int 15)))),.asg 6 (.lst true nW),.expr (.meth .append (.var 6) [nX]),.asg 6 (.catB (.var 6) (.lst false nY)),.asg 7 nZ,.expr (.meth .append (.var 6) [n_]),.ite (.cmp .Gt (fx (.lit (.int 3))) (.lit (.int 0))) [.ret (.tup [.var 2,.idx (.var 6) (fx (.lit (.int 10)))])] [],.asg 8 (.lst true uB),.asg 8 (.catB (.var 8) (.lst false uC)),.expr (.meth .append (.var 8) [uD]),.ret (.idx (.var 8) (fx (.lit (.int 18))))]
noncomputable def bu:FT:=tbl [("_law_draw",cc)]
theorem Hy:bu "_law_draw"=some cc:=rfl
noncomputable def gM:List D->af->Res D:=aJ bu G0 uE Hw.length 2
noncomputable def Hz:Ls:=["_law_found"]
noncomputable def HA:List CS:=[.ret (.band (.blt .isinst [.var 0,.ty "int"]) (.bnot (.blt .isinst [.var 0,.ty "bool"])))]
noncomputable def HB:FT:=tbl []
noncomputable def gN:List D->af->Res D:=aJ HB G0 HA Hz.length 1
noncomputable def HC:Ls:=["_law_thing","_law_tie"]
noncomputable def v8:CE:=.idx (.var 0) (.lit (.int 0))
noncomputable def Du:CE:=.chain .LtE .LtE (.lit (.int 1)) v8 (.lit (.int 8))
noncomputable def v9:CE:=.bor (.bnot (.blt .isinst [.var 0,.ty "tuple"])) (.bor (.cmp .NotEq (.blt .len [.var 0]) (.lit (.int 2))) (.bor (.bnot (.call "_law_whole" [v8])) (.bnot Du)))
noncomputable def fy:CE:=.idx (.var 0) (.lit (.int 1))
noncomputable def J8:CE:=.comp false ["_law_place"] [none] (.var 0) (.seq (.var 1)) [] (.emit (.call "_law_whole" [.var 0]))
noncomputable def HD:CE:=.bor (.bnot (.blt .isinst [.var 1,.ty "tuple"])) (.bor (.cmp .NotEq (.blt .len [.var 1]) (.lit (.int 2))) (.bnot (.blt .all [J8])))
noncomputable def J9:CE:=.chain3 .LtE .Lt .Lt (.lit (.int 0)) (.idx (.var 1) (.lit (.int 0))) (.idx (.var 1) (.lit (.int 1))) v8
noncomputable def qm:List CS:=[.ite HD [.ret (.lit (.bl false))] [],.ite (.bnot J9) [.ret (.lit (.bl false))] []]
noncomputable def kf:List CS:=[.ite v9 [.ret (.lit (.bl false))] [],.ite (.bnot (.blt .isinst [fy,.ty "tuple"])) [.ret (.lit (.bl false))] [],.for_ (.var 1) (.seq fy) qm,.ret (.cmp .Eq (.blt (.list false) [fy]) (.sset fy))]
noncomputable def br:FT:=tbl [("_law_whole",gN)]
theorem Be:br "_law_whole"=some gN:=rfl
noncomputable def d9:List D->af->Res D:=aJ br G0 kf HC.length 1
noncomputable def uF:Ls:=["_law_pen_here","_law_web_here","_law_thing"]
noncomputable def uG:List CS:=[.asg 2 (.call "_law_bent_web" [.var 0,.var 1]),.ret (.ite (.call "_law_is_web" [.var 2]) (.tup [.idx (.var 1) (.lit (.int 0)),.idx (.var 1) (.lit (.int 1)),.tup []]) (.var 2))]
noncomputable def uH:FT:=tbl [("_law_bent_web",gM),("_law_is_web",d9)]
theorem Bf:uH "_law_bent_web"=some gM:=rfl
theorem Bg:uH "_law_is_web"=some d9:=rfl
noncomputable def iG:List D->af->Res D:=aJ uH G0 uG uF.length 2
noncomputable def HE:Ls:=["_law_pen_here","_law_web_here","_law_pairing_here","_law_at","_law_own","_law_odd","_law_rows"]
noncomputable def kW(e:CE):CE:=.call "_law_draw" [.var 0,e]
noncomputable def kg:CE:=.bin .Add (.idx (.var 1) (.lit (.int 1))) (.tup [.tup [.lit (.int 0),.lit (.int 1)]])
noncomputable def g9:CE:=.lst false [.var 4,.rev (.var 4) (.neg (.lit (.int 1))),.bin .Add (.var 4) (.tup [.lit (.int 0)]),.blt (.list false) [.var 4],.sl (.var 4) [] [.lit (.int 1)],.lit (.non),.tup [.lit (.bl true),.idx (.var 4) (.lit (.int 1))],.tup [.lit (.int 0),.lit (.int 0)],.tup [.lit (.int 0),.idx (.var 1) (.lit (.int 0))],.lit (.str "0-1"),.lit (.int 7)]
noncomputable def og:CE:=.lst false [.bin .Add (.bin .Add (.sl (.var 2) [] [.var 3]) (.tup [.var 5])) (.sl (.var 2) [.var 3] []),.bin .Add (.bin .Add (.sl (.var 2) [] [.var 3]) (.tup [.var 5])) (.sl (.var 2) [.bin .Add (.var 3) (.lit (.int 1))] []),.rev (.var 2) (.neg (.lit (.int 1)))]
noncomputable def oh:CE:=.lst false [.blt (.list false) [.var 2],.tup [.var 2],.lit (.non),.bin .Add (.var 2) (.sl (.var 2) [.neg (.lit (.int 1))] []),.bin .Add (.sl (.var 2) [.var 3] []) (.sl (.var 2) [] [.var 3]),.lit (.int 0),.dct,.tup []]
noncomputable def oj:CE:=.lst false [.bin .Add (.sl (.var 2) [] [.var 3]) (.sl (.var 2) [.bin .Add (.var 3) (.lit (.int 1))] []),.blt .tuple [.blt (.sorted false (.seq .int)) [.bin .Add (.var 2) (.tup [.var 4])]]]
noncomputable def uI:List CS:=[.asg 3 (kW (.bin .Add (.blt .len [.var 2]) (.lit (.int 1)))),.asg 4 (.idx kg (kW (.bin .Add (.blt .len [.idx (.var 1) (.lit (.int 1))]) (.lit (.int 1))))),.asg 5 g9,.asg 5 (.idx (.var 5) (kW (.lit (.int 11)))),.asg 6 og,.asg 6 (.bin .Add (.var 6) oh),.ret (.idx (.bin .Add (.var 6) oj) (kW (.lit (.int 13))))]
noncomputable def c5:FT:=tbl [("_law_draw",cc)]
theorem HF:c5 "_law_draw"=some cc:=rfl
noncomputable def iH:List D->af->Res D:=aJ c5 G0 uI HE.length 3
noncomputable def HG:Ls:=["_law_web_here","_law_thing","_law_places","_law_tie"]
noncomputable def HH:CE:=.comp false ["_law_place"] [none] (.var 0) (.seq (.var 3)) [] (.emit (.call "_law_whole" [.var 0]))
noncomputable def qo:CE:=.bor (.bnot (.blt .isinst [.var 3,.ty "tuple"])) (.bor (.cmp .NotEq (.blt .len [.var 3]) (.lit (.int 2))) (.bnot (.blt .all [HH])))
noncomputable def qp:List CS:=[.ite qo [.ret (.lit (.bl false))] [],.ite (.cmp .NotIn (.var 3) (.idx (.var 0) (.lit (.int 1)))) [.ret (.lit (.bl false))] [],.asg 2 (.bin .Add (.var 2) (.blt (.list false) [.var 3]))]
noncomputable def HI:CE:=.band (.cmp .Eq (.lenset (.var 2)) (.blt .len [.var 2])) (.cmp .Eq (.blt (.list false) [.var 1]) (.blt (.sorted false (.seq .int)) [.var 1]))
noncomputable def kh:List CS:=[.ite (.bnot (.blt .isinst [.var 1,.ty "tuple"])) [.ret (.lit (.bl false))] [],.asg 2 (.lst false []),.for_ (.var 3) (.seq (.var 1)) qp,.ret HI]
noncomputable def bB:FT:=tbl [("_law_whole",gN)]
theorem HJ:bB "_law_whole"=some gN:=rfl
noncomputable def fA:List D->af->Res D:=aJ bB G0 kh HG.length 2
noncomputable def uJ:Ls:=["_law_pen_here","_law_web_here","_law_pairing_here","_law_thing"]
noncomputable def uK:List CS:=[.asg 3 (.call "_law_bent_pairing" [.var 0,.var 1,.var 2]),.ret (.ite (.call "_law_good" [.var 1,.var 3]) (.blt (.list false) [.var 2]) (.var 3))]
noncomputable def uL:FT:=tbl [("_law_bent_pairing",iH),("_law_good",fA)]
theorem Bh:uL "_law_bent_pairing"=some iH:=rfl
theorem Bi:uL "_law_good"=some fA:=rfl
noncomputable def iI:List D->af->Res D:=aJ uL G0 uK uJ.length 3
noncomputable def HK:Ls:=["_law_way","_law_web_here","_law_pairing_here","_law_e"]
noncomputable def kX:CE:=.ite (.cmp .Eq (.var 0) (.lit (.int 0))) (.call "shown" [.var 1]) (.call "shown_pairing" [.var 1,.var 2])
noncomputable def om:List CS:=[.tryN "no" 3 [.ret kX] "_law_kinds" vY ua]
noncomputable def c6:FT:=tbl [("shown",fw),("shown_pairing",eB)]
theorem HL:c6 "shown"=some fw:=rfl
theorem HM:c6 "shown_pairing"=some eB:=rfl
noncomputable def eN:List D->af->Res D:=aJ c6 G0 om HK.length 3
noncomputable def g_:Ls:=["_law_script","_law_two","_law_cell_here","_law_pen_here","_law_web_here","_law_pairing_here","_law_bad","_law_no_pairing_here"]
noncomputable def Bj:CE:=.tup [.tup [.lit (.int 0),.lit (.int 1)],.tup [.lit (.int 2),.lit (.int 3)]]
noncomputable def uM:CE:=.bor (.cmp .NotEq (.call "shown" [.tup [.lit (.int 4),.tup [.tup [.lit (.int 0),.lit (.int 1)],.tup [.lit (.int 0),.lit (.int 3)]]]]) (.lit (.str "4 0-1 0-3"))) (.cmp .NotEq (.call "shown_pairing" [.tup [.lit (.int 4),.var 1],.var 1]) (.lit (.str "0-1,2-3")))
noncomputable def oo:CE:=.seq (.bin .Add (.lst false [.call "_law_cell" [.var 0,.lit (.int 0)]]) (.sl (.var 0) [.lit (.int 1)] [.lit (.int 8)]))
noncomputable def Bk:CE:=.bor (.bnot (.call "_law_same" [.call "_law_told" [.lit (.int 0),.var 4,.lit (.non)],.call "_law_web_text" [.var 4]])) (.cmp .NotEq (.call "shown_pairing" [.var 4,.tup []]) (.lit (.str "none")))
noncomputable def Bl:CE:=.bnot (.call "_law_same" [.call "_law_told" [.lit (.int 1),.var 4,.var 5],.call "_law_pairing_text" [.var 5]])
noncomputable def Bm:CE:=.lst false [.lit (.str "no"),.lit (.str "web")]
noncomputable def Bn:CE:=.bor (.cmp .NotEq (.call "_law_told" [.lit (.int 0),.var 6,.lit (.non)]) Bm) (.cmp .NotEq (.call "_law_told" [.lit (.int 1),.var 6,.var 7]) Bm)
noncomputable def Bo:CE:=.cmp .NotEq (.call "_law_told" [.lit (.int 1),.var 4,.var 7]) (.lst false [.lit (.str "no"),.lit (.str "pairing")])
noncomputable def ki:List CS:=[.asg 3 (.call "_law_pen" [.var 2]),.asg 4 (.call "_law_web" [.var 3,.lit (.int 8)]),.asg 5 (.call "_law_pairing" [.var 3,.var 4]),.ite Bk [.ret (.lit (.bl false))] [],.ite Bl [.ret (.lit (.bl false))] [],.par [6,7] [.call "_law_no_web" [.var 3,.var 4],.call "_law_no_pairing" [.var 3,.var 4,.var 5]],.ite Bn [.ret (.lit (.bl false))] [],.ite Bo [.ret (.lit (.bl false))] []]
noncomputable def eW:List CS:=[.asg 1 Bj,.ite uM [.ret (.lit (.bl false))] [],.for_ (.var 2) oo ki,.ret (.lit (.bl true))]
noncomputable def aN:FT:=tbl [("_law_pen",iB),("_law_web",iD),("_law_pairing",iE),("shown",fw),("shown_pairing",eB),("_law_cell",iA),("_law_same",iF),("_law_no_web",iG),("_law_no_pairing",iI),("_law_told",eN),("_law_pairing_text",nT),("_law_web_text",nR)]
theorem HN:aN "_law_pen"=some iB:=rfl
theorem HP:aN "_law_web"=some iD:=rfl
theorem HQ:aN "_law_pairing"=some iE:=rfl
theorem HR:aN "shown"=some fw:=rfl
theorem Bp:aN "shown_pairing"=some eB:=rfl
theorem HS:aN "_law_cell"=some iA:=rfl
theorem HU:aN "_law_same"=some iF:=rfl
theorem HV:aN "_law_no_web"=some iG:=rfl
theorem HW:aN "_law_no_pairing"=some iI:=rfl
theorem kj:aN "_law_told"=some eN:=rfl
theorem HX:aN "_law_pairing_text"=some nT:=rfl
theorem HY:aN "_law_web_text"=some nR:=rfl
noncomputable def kl:List D->af->Res D:=aJ aN G0 eW g_.length 1
end K90
namespace Py
noncomputable def km(K:Fg)(y:Str):Addr:=match PySem.W.nsIn K mainGlobals y with
 |some (some (.ref C))=>C
 |_=>0
noncomputable def gf(K:Fg)(y:Str):Bool:=match PySem.W.nsIn K mainGlobals y with
 |some (some (.ref _))=>true
 |_=>false
theorem oq(h:gf K y=true):PySem.W.nsIn K mainGlobals y=some (some (.ref (km K y))):=by
 unfold gf at h;unfold km;split at h
 ·rename_i C e;rw[e]
 ·cases h
noncomputable def ot(K:Fg)(C:Addr):Bool:=(PySem.W.clsIn K C).isSome&&(PySem.W.findIn K (.ref C) "__getattribute__"==some (some (.builtin "BaseException.__getattribute__"))&&(PySem.W.findIn K (.ref C) "__getattr__"==some none&&
 (PySem.W.findIn K (.ref C) "__class__"==some (some (.builtin "object.__class__"))&&(PySem.W.mroIn K C (.type "object")==some true&&(PySem.W.mroIn K C (.type "BaseException")==some true&&PySem.W.kitOne K (.ref C) (.type "ValueError")==some true)))))
noncomputable def HZ(K:Fg):Rz->Bool
 | .cls x=>gf K x&&PySem.W.excIn K (km K x) jZ "ValueError.__new__"
 | .kind _ ys _=>gf K "PairError"&&(PySem.W.specialIn K (.builtin "object.__class__") "__get__"==some (some (.builtin "getset_descriptor.__get__"))&&(PySem.W.takesIn K (.builtin "object.__class__")==some true&&(PySem.W.nsIn K mainGlobals "isinstance"==some none&&(PySem.W.nsIn K mainGlobals "ValueError"==some none&&
   ys.all λx=>gf K x&&(ot K (km K x)&&(PySem.W.exmOne K (.ref (km K x)) (.ref (km K "PairError"))==some true&&ys.all λy=>PySem.W.kitOne K (.ref (km K x)) (.ref (km K y))==some (y==x)))))))
noncomputable def Kr(y w:Ls):Bool:=decide (y.length<1000)&&(decide (w.length<=1000)&&y.all λx=>decide ((y.map (· ==x)).count true=1)&&decide (w[(y.map (· ==x)).idxOf true]?=(y.zip w).lookup x))
theorem H7{y w:Ls}{x r:Str}(h:(y.zip w).lookup x=some r):x∈y:=(List.of_mem_zip (ZA h)).1
section
variable {P:Program}
theorem ko(X:K.In h)(G:h.Ns mainGlobals mg){x:Str}(H:HZ K (.cls x)=true):XC P w K mg (.cls x):=
 ⟨km K x,PySem.W.mg_of X G (oq (ae H).1),(ae H).2⟩
theorem ou(X:K.In h)(G:h.Ns mainGlobals mg){f e0:Str}{q:FuncData}{a b c d wd v Y W:Ls}(E:HZ K (.kind f Y W)=true)(hw:Kr Y W=true)(F:lL K f f st fa q)(j:PySem.W.nsIn K mainGlobals f=some (some (.ref fa)))
  (S:bH N [e0] (bi st)) (A:Binds K q [e0] []) (i:cj (f6 a b c d wd v) N (bO st)=bO st) (s:(j2 (bO st)&&j8 N Y (bi st))=true) (g:Y=a++b++c++d) (D:W=wd++v):XC P w K mg (.kind f Y W):=by
 subst g;subst D;obtain⟨z1,m⟩:=ae E;obtain⟨z2,n⟩:=ae m;obtain⟨z3,o⟩:=ae n;obtain⟨z4,p⟩:=ae o;obtain⟨z5,e⟩:=ae p;obtain⟨w1,k⟩:=ae hw;obtain⟨w2,l⟩:=ae k;refine⟨fa,km K "PairError",PySem.W.mg_of X G j,F.kp,PySem.W.mg_of X G (oq z1),λx r t u C=>?_⟩;have z:=H7 t;obtain⟨U,T⟩:=ae (Zn.mp e x z);obtain⟨V,q5⟩:=ae T;obtain⟨Z,q4⟩:=ae q5;obtain⟨I,s1⟩:=ae V;obtain⟨J,s2⟩:=ae s1;obtain⟨L,s3⟩:=ae s2;obtain⟨M,s4⟩:=ae s3;obtain⟨O,s5⟩:=ae s4;obtain⟨Q,R⟩:=ae s5;obtain⟨r1,r2⟩:=ae (Zn.mp l x z);have H:=PySem.W.mg_of X G (oq U);rw[C]at H;cases H
 refine⟨_,rfl,ZU Z,λB=>G3 (bf:=λy=>y==x) F S A i (ae s).1 (ae s).2 ⟨ZU R,⟨Option.isSome_iff_exists.mp I,ZU J,ZU L,ZU M,ZU O,ZU Q,ZU z2,ZU z3⟩,λy g=>?_⟩
  (PySem.W.mg_none_of X G (ZU z4)) (PySem.W.mg_none_of X G (ZU z5)) (ZT w1) (by simpa using ZT w2) (ZT r1) (by rw[<-t];exact ZT r2)⟩
 exact⟨km K y,PySem.W.mg_of X G (oq (ae (Zn.mp e y g)).1),ZU (Zn.mp q4 y g)⟩
end
end Py
namespace K90
noncomputable def cA(i:Nat):Stmt:=PySem.Challenge.pw_pairwebs_k90_webs_and_pairings_written.main.body.getD i (.Pass ⟨0,0,0,0⟩)
def aH(K:Fg)(x:Str)(st:Stmt):Prop:=∃f fd,PySem.W.nsIn K mainGlobals x=some (some (.ref f))/\lL K x x st f fd
theorem dm{x:Str}{an:Option Addr}{kV:Value}(a:PySem.W.nsIn K mainGlobals x=some (some (.ref f)))(l:K.lookup f=some ⟨oc,od,.func (PySem.W.fnOf x x (gA st) (bO st) (bi st) .none kV doc pm an cdv ct),osl⟩)
  (c:PySem.W.codeIn K cdv x=true) (k:PySem.W.keepIn K (.ref f)=true):aH K x st:=⟨f,_,a,ry l c k⟩
noncomputable def ov(N P:Ls)(s:Scope):Bool:=(s.kind== .function)&& !s.isCoroutine&& !s.isGenerator&&h_ N&&(N.take P.length==P)&&P.all (λx=>s.names.lookup x==some .local||s.names.lookup x==some .cell)&&s.names.all (λy=>y.2 !=.free)
theorem ox{P:Ls}{s:Scope}(h:ov N P s=true):bH N P s:=by unfold ov at h;simp only[ZY,beq_iff_eq,Zn,Bool.or_eq_true,bne_iff_ne,Bool.not_eq_true']at h;obtain⟨⟨⟨⟨⟨⟨H,a⟩,b⟩,c⟩,d⟩,e⟩,f⟩:=h;exact⟨H,a,b,tj c,d,e,f⟩
noncomputable def RZ:List Rz:=[.cls "NoPairing",.cls "NoWeb",.kind "_law_kinds" vY ua]
structure En (P:Program)(w:World)(K:Fg)(mg:Mg)(h:Heap):Prop where
 X:K.In h
 G:h.Ns mainGlobals mg
 hg:∀x d,G0 x=some d->∃v u,mg x=some u/\RelV v u/\∀F μ H,Rep K ⟨mg,F⟩ μ H d v
 hb:∀x∈fT,mg x=none
 xc:∀z∈RZ,XC P w K mg z
section
variable {P:Program}{k j:Nat}
theorem fe{x:Str}{ps:Ls}(E:En P w K mg h)(d:aH K x st)
  (c:∀(kV doc pm:Value) (an:Option Addr) (cdv ct:Value) (us:Lv),us.length=ps.length->bindArgs (PySem.W.fnOf x x (gA st) (bO st) (bi st) .none kV doc pm an cdv ct) ⟨us,[]⟩=pure (ps.zip us))
  (H:∀p∈l,bK P w K mg base (bn P w) k p.1 p.2) (e:cj body N (bO st)=bO st) (S:(ov N ps (bi st)&&(dY body N (bi st).names (bO st)&&(dZ body).all λz=>decide (z∈RZ)))=true):bK P w K mg base (bn P w) (k+1) x (aJ (tbl l) G0 body N.length ps.length):=by
 obtain⟨f,i,a,F⟩:=d;have S:=Bool.and_eq_true_iff.mp S;have b:=Bool.and_eq_true_iff.mp S.2;exact Kq F (ox S.1) (PySem.W.mg_of E.X E.G a) (F.binds c) (J7 H E.hg E.hb) e b.1 λz g=>E.xc z (ZT (Zn.mp b.2 z g))
theorem f0{x:Str}{ps:Ls}(E:En P w K mg h)(d:aH K x st)(S:ov N ps (bi st)=true)
  (H:∀(kV doc pm:Value) (an:Option Addr) (cdv ct:Value) (us:Lv),us.length=ps.length->bindArgs (PySem.W.fnOf x x (gA st) (bO st) (bi st) .none kV doc pm an cdv ct) ⟨us,[]⟩=pure (ps.zip us)):bK P w K mg base (bn P w) k x (λ_ _=>.fail):=by
 obtain⟨f,b,a,F⟩:=d;exact G' F (ox S) (PySem.W.mg_of E.X E.G a) (F.binds H)
theorem an:∀p∈([]:List (Str×(List D->af->Res D))),bK P w K mg base (bn P w) k p.1 p.2:=λp h=>(Zv h).elim
theorem ac{x:Str}(F:bK P w K mg base (bn P w) j x φ)(H:j<=k)(r:∀p∈l,bK P w K mg base (bn P w) k p.1 p.2):∀p∈(x,φ)::l,bK P w K mg base (bn P w) k p.1 p.2:=λp a=>by
 rcases Zk.mp a with rfl|h
 ·exact F.mono H
 ·exact r p h
end
structure Df (K:Fg):Prop where
 d_is_number:aH K "is_number" (cA 18)
 d_is_number_from:aH K "is_number_from" (cA 19)
 d_is_place:aH K "is_place" (cA 20)
 d_is_rising:aH K "is_rising" (cA 21)
 d_are_places:aH K "are_places" (cA 22)
 d_are_unlike:aH K "are_unlike" (cA 23)
 d_is_tie:aH K "is_tie" (cA 24)
 d_is_web:aH K "is_web" (cA 25)
 d_are_ties:aH K "are_ties" (cA 26)
 d_must_be_web:aH K "must_be_web" (cA 27)
 d_is_pairing:aH K "is_pairing" (cA 29)
 d_must_be_pairing:aH K "must_be_pairing" (cA 30)
 d_shown_tie:aH K "shown_tie" (cA 33)
 d_shown_ties:aH K "shown_ties" (cA 34)
 d_shown:aH K "shown" (cA 35)
 d_shown_pairing:aH K "shown_pairing" (cA 36)
 d_law_cell:aH K "_law_cell" (cA 39)
 d_law_pen:aH K "_law_pen" (cA 40)
 d_law_draw:aH K "_law_draw" (cA 41)
 d_law_pairs:aH K "_law_pairs" (cA 42)
 d_law_web:aH K "_law_web" (cA 43)
 d_law_pairing:aH K "_law_pairing" (cA 44)
 d_law_same:aH K "_law_same" (cA 45)
 d_law_web_text:aH K "_law_web_text" (cA 46)
 d_law_pairing_text:aH K "_law_pairing_text" (cA 47)
 d_law_bent_web:aH K "_law_bent_web" (cA 48)
 d_law_whole:aH K "_law_whole" (cA 49)
 d_law_is_web:aH K "_law_is_web" (cA 50)
 d_law_no_web:aH K "_law_no_web" (cA 51)
 d_law_bent_pairing:aH K "_law_bent_pairing" (cA 52)
 d_law_good:aH K "_law_good" (cA 53)
 d_law_no_pairing:aH K "_law_no_pairing" (cA 54)
 d_law_told:aH K "_law_told" (cA 55)
 d_law:aH K "law" (cA 56)
 d_law_kinds:aH K "_law_kinds" (cA 38)
section
variable {P:Program}(E9:En P w K mg h)(D9:Df K)
include E9 D9
theorem H8:bK P w K mg base (bn P w) 1 "is_number" f':=fe (ps:=["thing"]) E9 D9.d_is_number (λ_ _ _ _ _ _=>cJ λ_=>rfl) an rfl (by decide+kernel)
theorem Bq:bK P w K mg base (bn P w) 2 "is_number_from" eL:=fe (ps:=["thing","low","high"]) E9 D9.d_is_number_from (λ_ _ _ _ _ _=>nB λ_ _ _=>rfl) (ac (H8 E9 D9) (by decide) an) rfl (by decide+kernel)
theorem H9:bK P w K mg base (bn P w) 3 "is_place" gK:=fe (ps:=["many","thing"]) E9 D9.d_is_place (λ_ _ _ _ _ _=>cy λ_ _=>rfl) (ac (Bq E9 D9) (by decide) an) rfl (by decide+kernel)
theorem uN:bK P w K mg base (bn P w) 1 "is_rising" dq:=fe (ps:=["things"]) E9 D9.d_is_rising (λ_ _ _ _ _ _=>cJ λ_=>rfl) an rfl (by decide+kernel)
theorem H_:bK P w K mg base (bn P w) 4 "are_places" fu:=fe (ps:=["many","thing"]) E9 D9.d_are_places (λ_ _ _ _ _ _=>cy λ_ _=>rfl) (ac (H9 E9 D9) (by decide) an) rfl (by decide+kernel)
theorem Ia:bK P w K mg base (bn P w) 1 "are_unlike" ka:=fe (ps:=["things"]) E9 D9.d_are_unlike (λ_ _ _ _ _ _=>cJ λ_=>rfl) an rfl (by decide+kernel)
theorem Br:bK P w K mg base (bn P w) 5 "is_tie" ez:=fe (ps:=["many","thing"]) E9 D9.d_is_tie (λ_ _ _ _ _ _=>cy λ_ _=>rfl) (ac (H_ E9 D9) (by decide) (ac (uN E9 D9) (by decide) an)) rfl (by decide+kernel)
theorem Ib:bK P w K mg base (bn P w) 6 "is_web" cZ:=fe (ps:=["thing"]) E9 D9.d_is_web (λ_ _ _ _ _ _=>cJ λ_=>rfl) (ac (uN E9 D9) (by decide) (ac (Bq E9 D9) (by decide) (ac (Br E9 D9) (by decide) an))) rfl (by decide+kernel)
theorem Ic:bK P w K mg base (bn P w) 6 "are_ties" gc:=fe (ps:=["web","thing"]) E9 D9.d_are_ties (λ_ _ _ _ _ _=>cy λ_ _=>rfl) (ac (uN E9 D9) (by decide) (ac (Br E9 D9) (by decide) an)) rfl (by decide+kernel)
theorem Bs:bK P w K mg base (bn P w) 7 "must_be_web" d6:=fe (ps:=["thing"]) E9 D9.d_must_be_web (λ_ _ _ _ _ _=>cJ λ_=>rfl) (ac (Ib E9 D9) (by decide) an) rfl (by decide+kernel)
theorem Ie:bK P w K mg base (bn P w) 8 "is_pairing" eA:=fe (ps:=["web","thing"]) E9 D9.d_is_pairing (λ_ _ _ _ _ _=>cy λ_ _=>rfl) (ac (Bs E9 D9) (by decide) (ac (Ic E9 D9) (by decide) (ac (Ia E9 D9) (by decide) an))) rfl (by decide+kernel)
theorem Ig:bK P w K mg base (bn P w) 9 "must_be_pairing" dr:=fe (ps:=["web","thing"]) E9 D9.d_must_be_pairing (λ_ _ _ _ _ _=>cy λ_ _=>rfl) (ac (Ie E9 D9) (by decide) an) rfl (by decide+kernel)
theorem Bt:bK P w K mg base (bn P w) 1 "shown_tie" gL:=fe (ps:=["tie"]) E9 D9.d_shown_tie (λ_ _ _ _ _ _=>cJ λ_=>rfl) an rfl (by decide+kernel)
theorem Ih:bK P w K mg base (bn P w) 2 "shown_ties" nK:=fe (ps:=["ties"]) E9 D9.d_shown_ties (λ_ _ _ _ _ _=>cJ λ_=>rfl) (ac (Bt E9 D9) (by decide) an) rfl (by decide+kernel)
theorem uO:bK P w K mg base (bn P w) 8 "shown" fw:=fe (ps:=["web"]) E9 D9.d_shown (λ_ _ _ _ _ _=>cJ λ_=>rfl) (ac (Bs E9 D9) (by decide) (ac (Bt E9 D9) (by decide) an)) rfl (by decide+kernel)
theorem uP:bK P w K mg base (bn P w) 10 "shown_pairing" eB:=fe (ps:=["web","pairing"]) E9 D9.d_shown_pairing (λ_ _ _ _ _ _=>cy λ_ _=>rfl) (ac (Ig E9 D9) (by decide) (ac (Ih E9 D9) (by decide) an)) rfl (by decide+kernel)
theorem Bu:bK P w K mg base (bn P w) 1 "_law_cell" iA:=fe (ps:=["_law_script","_law_k"]) E9 D9.d_law_cell (λ_ _ _ _ _ _=>cy λ_ _=>rfl) an rfl (by decide+kernel)
theorem Bv:bK P w K mg base (bn P w) 1 "_law_pen" iB:=fe (ps:=["_law_cell_here"]) E9 D9.d_law_pen (λ_ _ _ _ _ _=>cJ λ_=>rfl) an rfl (by decide+kernel)
theorem oy:bK P w K mg base (bn P w) 1 "_law_draw" cc:=fe (ps:=["_law_pen_here","_law_many"]) E9 D9.d_law_draw (λ_ _ _ _ _ _=>cy λ_ _=>rfl) an rfl (by decide+kernel)
theorem Ii:bK P w K mg base (bn P w) 1 "_law_pairs" nP:=fe (ps:=["_law_many"]) E9 D9.d_law_pairs (λ_ _ _ _ _ _=>cJ λ_=>rfl) an rfl (by decide+kernel)
theorem Bw:bK P w K mg base (bn P w) 2 "_law_web" iD:=fe (ps:=["_law_pen_here","_law_upto"]) E9 D9.d_law_web (λ_ _ _ _ _ _=>cy λ_ _=>rfl) (ac (oy E9 D9) (by decide) (ac (Ii E9 D9) (by decide) an)) rfl (by decide+kernel)
theorem Bx:bK P w K mg base (bn P w) 2 "_law_pairing" iE:=fe (ps:=["_law_pen_here","_law_web_here"]) E9 D9.d_law_pairing (λ_ _ _ _ _ _=>cy λ_ _=>rfl) (ac (oy E9 D9) (by decide) an) rfl (by decide+kernel)
theorem By:∀n,bK P w K mg base (bn P w) (0+n) "_law_same" (nQ n)
 |0=>f0 (N:=uz) (ps:=["_law_found","_law_due"]) E9 D9.d_law_same (by decide+kernel) (λ_ _ _ _ _ _=>cy λ_ _=>rfl)
 |n+1=>fe (ps:=["_law_found","_law_due"]) (k:=0+n) E9 D9.d_law_same (λ_ _ _ _ _ _=>cy λ_ _=>rfl) (ac (By n) (Zf _) an) rfl (by decide+kernel)
theorem Bz:bK P w K mg base (bn P w) 6 "_law_same" iF:=By E9 D9 6
theorem BA:bK P w K mg base (bn P w) 1 "_law_web_text" nR:=fe (ps:=["_law_web_here"]) E9 D9.d_law_web_text (λ_ _ _ _ _ _=>cJ λ_=>rfl) an rfl (by decide+kernel)
theorem BB:bK P w K mg base (bn P w) 1 "_law_pairing_text" nT:=fe (ps:=["_law_pairing_here"]) E9 D9.d_law_pairing_text (λ_ _ _ _ _ _=>cJ λ_=>rfl) an rfl (by decide+kernel)
theorem Ij:bK P w K mg base (bn P w) 2 "_law_bent_web" gM:=fe (ps:=["_law_pen_here","_law_web_here"]) E9 D9.d_law_bent_web (λ_ _ _ _ _ _=>cy λ_ _=>rfl) (ac (oy E9 D9) (by decide) an) rfl (by decide+kernel)
theorem BC:bK P w K mg base (bn P w) 1 "_law_whole" gN:=fe (ps:=["_law_found"]) E9 D9.d_law_whole (λ_ _ _ _ _ _=>cJ λ_=>rfl) an rfl (by decide+kernel)
theorem Ik:bK P w K mg base (bn P w) 2 "_law_is_web" d9:=fe (ps:=["_law_thing"]) E9 D9.d_law_is_web (λ_ _ _ _ _ _=>cJ λ_=>rfl) (ac (BC E9 D9) (by decide) an) rfl (by decide+kernel)
theorem BD:bK P w K mg base (bn P w) 3 "_law_no_web" iG:=fe (ps:=["_law_pen_here","_law_web_here"]) E9 D9.d_law_no_web (λ_ _ _ _ _ _=>cy λ_ _=>rfl) (ac (Ij E9 D9) (by decide) (ac (Ik E9 D9) (by decide) an)) rfl (by decide+kernel)
theorem Il:bK P w K mg base (bn P w) 2 "_law_bent_pairing" iH:=fe (ps:=["_law_pen_here","_law_web_here","_law_pairing_here"]) E9 D9.d_law_bent_pairing (λ_ _ _ _ _ _=>nB λ_ _ _=>rfl) (ac (oy E9 D9) (by decide) an) rfl (by decide+kernel)
theorem Io:bK P w K mg base (bn P w) 2 "_law_good" fA:=fe (ps:=["_law_web_here","_law_thing"]) E9 D9.d_law_good (λ_ _ _ _ _ _=>cy λ_ _=>rfl) (ac (BC E9 D9) (by decide) an) rfl (by decide+kernel)
theorem BE:bK P w K mg base (bn P w) 3 "_law_no_pairing" iI:=fe (ps:=["_law_pen_here","_law_web_here","_law_pairing_here"]) E9 D9.d_law_no_pairing (λ_ _ _ _ _ _=>nB λ_ _ _=>rfl) (ac (Il E9 D9) (by decide) (ac (Io E9 D9) (by decide) an)) rfl (by decide+kernel)
theorem BF:bK P w K mg base (bn P w) 11 "_law_told" eN:=fe (ps:=["_law_way","_law_web_here","_law_pairing_here"]) E9 D9.d_law_told (λ_ _ _ _ _ _=>nB λ_ _ _=>rfl) (ac (uO E9 D9) (by decide) (ac (uP E9 D9) (by decide) an)) rfl (by decide+kernel)
theorem Ip:bK P w K mg base (bn P w) 12 "law" kl:=fe (ps:=["_law_script"]) E9 D9.d_law (λ_ _ _ _ _ _=>cJ λ_=>rfl) (ac (Bv E9 D9) (by decide) (ac (Bw E9 D9) (by decide) (ac (Bx E9 D9) (by decide) (ac (uO E9 D9) (by decide) (ac (uP E9 D9) (by decide) (ac (Bu E9 D9) (by decide) (ac (Bz E9 D9) (by decide) (ac (BD E9 D9) (by decide) (ac (BE E9 D9) (by decide) (ac (BF E9 D9) (by decide) (ac (BB E9 D9) (by decide) (ac (BA E9 D9) (by decide) an)))))))))))) rfl (by decide+kernel)
end
noncomputable def hE(K:Fg):Sp:=λvs H Q _=>∃(a:Addr) (ns:Li),vs=[.ref a]/\lJ H/\cM K H a (ns.map V.int)/\ns.length<=63/\∀H',Q (.bl true) H'
def Good(f:List D->af->Res D):Prop:=∀ns:Li,ns.length<=63->∃S',f [.scr (ns.map D.int)] []=.ok (.bl true) S'
theorem BG{K:Fg}{m:GS}{μ:La}{H:Hp}:∀ns:Li,aj K m μ H (ns.map D.int) (ns.map V.int)
 | []=>.nil
 |n::ns=>.cons bQ (BG ns)
theorem BH{f:List D->af->Res D}(g:Good f):∀vs H Q E,hE K vs H Q E->sf K mg 1 f vs H Q E:=by
 rintro vs H Q E ⟨a,N,rfl,i,j,d,q⟩;refine⟨rfl,[],[],[],[.scr (N.map D.int)],⟨λa h=>(by cases h),rfl,List.nodup_nil,λn a l h=>(by cases h)⟩,.cons ?_ .nil,?_⟩
 ·unfold Rep;refine⟨a,N.map V.int,rfl,?_,BG N⟩;rcases j with(h| ⟨o,h⟩)|h
  ·rcases i a with z| ⟨o,X,z⟩<;>rw[z]at h<;>cases h
  ·exact .inl ⟨o,h⟩
  ·exact .inr h
 ·obtain⟨S,e⟩:=g N d;rw[e];intro k c b x s r;unfold Rep at r;rw[r];exact q c
theorem uQ{l:PySem.W.OpenLaw}(X:K.In h)(G:h.Ns mainGlobals mg)(p:mg "law"=some (.ref fa))(good:Good kl)(D:Df K)(Z:∀x∈fT,PySem.W.nsIn K mainGlobals x=some none)
  {m:Tok} (M:PySem.W.nsIn K mainGlobals "MOST_PLACES"=some (some (.int 8 m))) {n:Tok} (q:PySem.W.nsIn K mainGlobals "NONE"=some (some (.str "none" n))) (B:RZ.all (HZ K)=true):
  ∃fd:FuncData,(∀(s:Shared) (v:Value),BindsTo s fd ⟨[v],[]⟩ [("_law_script",v)])/\∀base:Heap,K.In base->base.Ns mainGlobals mg->cN l.prog w K mg base (bn l.prog w) 12 fa fd ["_law_script"] (hE K):=by
 have r:∀x d,G0 x=some d->∃v u,mg x=some u/\RelV v u/\∀F J H,Rep K ⟨mg,F⟩ J H d v:=λx d e=>by
  unfold G0 at e;rw[List.lookup_cons]at e;split at e
  ·rename_i j;cases e;have g:x="MOST_PLACES":=by simpa using j
   subst g;exact⟨.int 8,_,PySem.W.mg_of X G M,⟨_,rfl⟩,λ_ _ _=>bQ⟩
  rw[List.lookup_cons]at e;split at e
  ·rename_i j;cases e;have g:x="NONE":=by simpa using j
   subst g;exact⟨.str "none",_,PySem.W.mg_of X G q,⟨_,rfl⟩,λ_ _ _=>fj⟩
  cases e
 have y:=Zn.mp B
 have I:∀z∈RZ,XC l.prog w K mg z:=λz i=>by
  have o:=y z i;simp only[RZ,Zk,List.mem_nil_iff,or_false]at i;rcases i with rfl|rfl|rfl
  ·exact ko X G o
  ·exact ko X G o
  ·obtain⟨f,fd,a,F⟩:=D.d_law_kinds;exact ou (e0:="_law_e") (N:=["_law_e","_law_found","_law_words"]) (a:=["NoWeb","NoPlace","NoPlaces","NoTie"]) (b:=["NoNumber","NoPairing","NoWay","NoRing"]) (c:=["NoArrows","NoSides","NoText","NoLine"]) (d:=["NoDeed","TooGreat"]) (wd:=["web","place","places","tie","number","pairing","way","ring","arrows","sides","text","line"]) (v:=["deed","great"]) X G o (by decide+kernel) F a (ox (by decide+kernel)) (F.binds λ_ _ _ _ _ _=>cJ λ_=>rfl) rfl (by decide+kernel) rfl rfl
 have E:En l.prog w K mg h:=⟨X,G,r,λx j=>PySem.W.mg_none_of X G (Z x j),I⟩;obtain⟨f,fd,a,F⟩:=D.d_law;have e:=p.symm.trans (PySem.W.mg_of X G a);cases e;have S:bH g_ ["_law_script"] (bi (cA 56)):=ox (by decide+kernel);refine⟨fd,λs v=>?_,λbase _ _=>?_⟩
 ·obtain⟨Q,R,kV,t,T,an,C,L,O,rfl,lk,A⟩:=F.ex;exact .of_eq rfl
 ·exact cN.imp (AG (k:=11) F S (J7 (ac (Bv E D) (by decide) (ac (Bw E D) (by decide) (ac (Bx E D) (by decide) (ac (uO E D) (by decide) (ac (uP E D) (by decide) (ac (Bu E D) (by decide) (ac (Bz E D) (by decide) (ac (BD E D) (by decide) (ac (BE E D) (by decide) (ac (BF E D) (by decide) (ac (BB E D) (by decide) (ac (BA E D) (by decide) an)))))))))))) r E.hb) rfl (by decide+kernel) λz i=>E.xc z (ZT (Zn.mp (by decide+kernel:((dZ eW).all λz=>decide (z∈RZ))=true) z i))) (BH good)
mutual
theorem BI{k:Nat}:∀(d:D),bd 0 d=true->bd k d=true
 | .non,_=>rfl
 | .bl _,_=>rfl
 | .int _,_=>rfl
 | .str _,_=>rfl
 | .tup _,h=>by exact kq _ h
 | .lst _,h=>by exact kq _ h
 | .scr _,h=>by exact kq _ h
 | .ref n,h=>by unfold bd at h;simp at h
 | .fn y,_=>rfl
 | .ty y,_=>rfl
 | .dct,_=>rfl
 | .dks _,_=>rfl
theorem kq{k:Nat}:∀(ds:List D),bo 0 ds=true->bo k ds=true
 | [],_=>rfl
 |d::ds,h=>by unfold bo at h⊢;simp at h⊢;exact⟨BI d h.1,kq _ h.2⟩
end
def Flat(S:af):Prop:=∀xs∈S,bo 0 xs=true
theorem Flat.all{k:Nat}(h:Flat S):S.all (bo k)=true:=Zn.mpr λx H=>kq _ (h _ H)
theorem Flat.nil:Flat []:=λ_ h=>by cases h
theorem Flat.snoc(h:Flat S)(a:bo 0 xs=true):Flat (S++[xs]):=λy H=>by
 rcases ZE.mp H with z|z
 ·exact h _ z
 simp_all
theorem Flat.set(h:Flat S)(a:bo 0 xs=true):Flat (S.set n xs):=λy H=>by
 rcases List.mem_or_eq_of_mem_set H with z|z
 ·exact h _ z
 simp_all
theorem uR{k:Nat}(h:Flat (S'.take k))(H:bd 0 d=true):d0 k d S'=.ok d (S'.take k):=by unfold d0;rw[if_pos h.all,if_pos (BI d H)]
theorem Iq(h:Flat S)(H:bd 0 d=true):d0 S.length d S=.ok d S:=by rw[uR (by simp_all) H,List.take_length]
theorem uS{k:Nat}(a:S.length=k)(h:Flat S)(H:bd 0 d=true):d0 k d S=.ok d S:=by subst a;exact Iq h H
theorem uT{step:D->List D->af->Res (List D)}{S:af}(g:D->Option D):∀(xs acc:List D),(∀x∈xs,∀acc,acc.length<bx->step x acc S=.ok (acc++(g x).toList) S)->acc.length+xs.length<=bx->aS step xs acc S=.ok (acc++xs.filterMap g) S
 | [],acc,_,_=>by simp[aS]
 |x::xs,acc,h,H=>by
  simp at H;unfold aS;rw[h x Ze _ (by omega)];unfold Res.bind;dsimp
  rw[uT g _ _ (λy a=>h y (Zc _ a)) (by
   grind)]
  cases e:g x<;>simp[e]
theorem Ir{l:List α}{f:α->Option Bool}(h:∀x∈l,f x=some true):a_ (l.map f)=some true:=by
 induction l with
 |nil=>rfl
 |cons x l i=>
  unfold a_
  grind
theorem allO_map{l:List α}{f:α->Bool}:a_ (l.map λx=>some (f x))=some (l.all f):=by
 induction l with
 |nil=>rfl
 |cons x l i=>unfold a_;simp_all
theorem Iu{l:List α}{f:α->Bool}:jm (l.map λx=>some (f x))=some (l.any f):=by unfold jm;rw[List.map_map];have e:(λo=>o.map not)∘(λx=>some _)=λx=>some !f x:=rfl;rw[e,allO_map];simp[List.not_all_eq_any_not]
noncomputable def al(t:Int×Int):D:=.tup [.int t.1,.int t.2]
noncomputable def aa(ts:Lq):List D:=ts.map al
noncomputable def aq(m:Int)(ts:Lq):D:=.tup [.int m,.tup (aa ts)]
theorem Dv(t:Int×Int):bd 0 (al t)=true:=rfl
theorem dJ:∀(ts:Lq),bo 0 (aa ts)=true
 | []=>rfl
 |t::ts=>by show(bd 0 _&&bo 0 (aa _))=true;rw[dJ _];rfl
theorem oz(m:Int)(ts:Lq):bd 0 (aq m ts)=true:=by show(true&&(bo 0 _&&true))=true;rw[dJ];rfl
def aA(a b:Int×Int):Prop:=a.1<b.1\/(a.1=b.1/\a.2<b.2)
instance (a b:Int×Int):Decidable (aA a b):=by unfold aA;exact inferInstance
theorem BJ(S:af)(n:Nat)(a b:Int):b7 S (n+1) (.int a) (.int b)=some (a==b):=rfl
theorem BK(S:af)(n:Nat)(a b:Int×Int):b7 S (n+2) (al a) (al b)=some (decide (a=b)):=by
 have e:b7 S (n+2) (al a) (al b)=some _:=rfl;simp[Prod.ext_iff]
 grind
theorem BL(S:af)(n:Nat)(a b:Int×Int):iY S (n+2) (al a) (al b)=some (decide (aA a b)):=by
 have e:iY S (n+2) (al a) (al b)=match b7 S _ _ _ with
  |some true=>(match b7 S _ _ _ with
   |some true=>some _
   |some false=>some _
   |none=>none)
  |some false=>some _
  |none=>none:=rfl
 rw[e,BJ,BJ];unfold aA
 grind
theorem uU(S:af)(t:Int×Int)(ts:Lq):iZ (al t) (.tup (aa ts)) S=some (decide (t∈ts)):=by
 have e:iZ (al t) (.tup (aa ts)) S=jm _:=rfl;rw[e];unfold aa;rw[List.map_map];have E:(λy=>b7 S bC y (al t))∘al=λu=>some (decide (u=t)):=by funext u;exact BK S 38 u t
 rw[E,Iu]
 grind
theorem kr(S:af)(p:Int)(t:Int×Int):iZ (.int p) (al t) S=some (decide (p=t.1\/p=t.2)):=by
 have e:iZ (.int p) (al t) S=some _:=rfl;rw[e];congr 1
 grind
def aT(S:af)(n:Nat):Prop:=∃a b,S[n]?=some [.int a,.int b]
theorem aT.set{m:Nat}{a b:Int}(h:aT S n):aT (S.set m [.int a,.int b]) n:=by
 obtain⟨x,y,h⟩:=h;by_cases e:m=n
 ·subst e;have H:=(Zg.mp h).1;exact⟨a,b,by rw[ZZ H]⟩
 ·exact⟨x,y,by rw[List.getElem?_set_ne e];exact h⟩
theorem oA(o:Flat S)(c:aT S n)(H:0<m)(h1:m<1000):∃r a b,0<=r/\r<m/\cc [.ref n,.int m] S=.ok (.int r) (S.set n [.int a,.int b]):=by
 obtain⟨a,b,h⟩:=c;have j:=(Zg.mp h).1;have F:∀x y:Int,Flat (S.set n [.int x,.int y]):=λx y=>o.set rfl;have t:∀(r x y:Int),d0 S.length (.int r) (S.set n [.int x,.int y])=.ok (.int r) (S.set n [.int x,.int y]):=λr x y=>uS (by simp) (F x y) rfl;by_cases d:b=1
 ·subst d;refine⟨a%m,a/m,1,Int.emod_nonneg _ (by omega),Int.emod_lt_of_pos _ H,?_⟩;rw[<-t];have q:m<1073741824:=by omega
  simp[cc,aJ,uw,uv,ag,ar,ao,ah,ai,Res.bind,Res.noErr,aB,bp,az,h,gz,gx,aD,bg,b7,sh,rG,bC,dz,hV,fG,hW,H,q]
 ·have e:(b==1)=false:=by simpa using d
  have f:0<=(a%2147483629*48271+11)%2147483629:=Int.emod_nonneg _ (by omega);have g:(a%2147483629*48271+11)%2147483629<2147483629:=Int.emod_lt_of_pos _ (by omega)
  have E:∀p:Int,(a%2147483629*48271+11)%2147483629=p->cc [.ref n,.int m] S=.ok (.int ((p*p+40692*p)%2147483647/8%m)) (S.set n [.int p,.int b]):=λp c=>by
   rw[c]at f g;have k: -(18446744073709551616:Int)<p:=by omega
   have l:p<(18446744073709551616:Int):=by omega
   have s:∀x,(S.set n x)[n]?=some x:=λx=>ZZ j;have i:∀x y:List D,(S.set n x).set n y=S.set n y:=λx y=>List.set_set ..;clear j;rw[<-t];simp[cc,aJ,uw,uv,ag,ar,ao,ah,ai,Res.bind,Res.noErr,aB,bp,az,h,gz,gx,aD,bg,b7,sh,rG,bC,dz,hV,fG,lN,fF,hW,H,e,d,s,i,c,k,l]
  exact⟨_,_,b,Int.emod_nonneg _ (show m≠0 by omega),Int.emod_lt_of_pos _ H,E _ rfl⟩
structure cz (m:Int)(ts:Lq):Prop where
 lo:1<=m
 hi:m<=8
 ris:ts.Pairwise aA
 tie:∀t∈ts,0<=t.1/\t.1<t.2/\t.2<m
 few:ts.length<=28
structure b4 (ts ps:Lq):Prop where
 ris:ps.Pairwise aA
 sub:∀t∈ps,t∈ts
 un:(ps.flatMap λt=>[t.1,t.2]).Nodup
theorem aL(c:ds.length=np)(h:ag Φ Γ body (ds.map some++List.replicate (n-np) none) S=.ok (.ret d) S')(b:S'.length=S.length)(a:Flat S')(H:bd 0 d=true):aJ Φ Γ body n np ds S=.ok d S':=by unfold aJ;rw[if_pos c,h];exact uS b a H
theorem run_next(b:ds.length=np)(h:ag Φ Γ body (ds.map some++List.replicate (n-np) none) S=.ok (.next ρ) S')(a:S'.length=S.length)(H:Flat S'):aJ Φ Γ body n np ds S=.ok .non S':=by unfold aJ;rw[if_pos b,h];exact uS a H rfl
theorem Iv(h:Flat S)(i:Int):f' [.int i] S=.ok (.bl true) S:=aL rfl rfl rfl h rfl
theorem uV(h:Flat S)(i l H:Int):eL [.int i,.int l,.int H] S=.ok (.bl (decide (l<=i/\i<=H))) S:=by refine aL rfl ?_ rfl h rfl;simp[iw,ag,ar,ah,ai,Res.bind,Res.noErr,aB,ub,Iv h,aD,Di];lia
theorem BM(h:Flat S)(m i:Int):gK [.int m,.int i] S=.ok (.bl (decide (0<=i/\i<m))) S:=by refine aL rfl ?_ rfl h rfl;have e:(i<=m-1)=(i<m):=propext (by omega);simp[nD,ag,ar,ah,ai,Res.bind,Res.noErr,AI,uV h,dz,jh,e]
theorem oB{step:D->List D->af->Res (List D)}(h:∀x∈xs,∀acc,acc.length<bx->step x acc S=.ok (acc++[.bl true]) S)(b:xs.length<=bx):aS step xs [] S=.ok (xs.map λ_=>D.bl true) S:=by rw[uT (λ_=>some _) _ _ (λx a acc H=>h x a _ H) (by simp_all)];simp
theorem oC:fK [.lst (xs.map λ_=>D.bl true)] S=.ok (.bl true) S:=by unfold fK;simp only[az];rw[List.map_map,show a_ (xs.map (gT∘λx=>D.bl _))=some _ from Ir λx h=>rfl];rfl
theorem BN(xs:List D):aK xs (some 1) none=xs.drop 1:=by
 unfold aK;have e:HT.bE xs.length 0 (some 1)=min 1 _:=rfl;have E:HT.bE xs.length _ none=xs.length:=rfl;rw[e,E];cases xs with
 |nil=>rfl
 |cons x r=>simp
theorem BO(c:Flat S)(g:xs.length<=1000)(h:∀(i:Nat) x y,xs[i]?=some x->xs[i+1]?=some y->iY S bC x y=some true):dq [.tup xs] S=.ok (.bl true) S:=by
 refine aL rfl ?_ rfl c rfl;have b:ej S (.tup xs) (.tup (xs.drop 1))=some (.items (List.zipWith (λx y=>.tup [x,y]) xs (xs.drop 1))):=rfl;have f:=BN xs;simp[ue,ud,ag,ar,ao,ah,ai,bj,Res.bind,Res.noErr,aB,kS,b9,cr,aG];simp only[f,b,bS];rw[oB]
 ·simp only[Res.noErr];rw[oC]
 ·intro z b A d;obtain⟨i,H⟩:=List.mem_iff_getElem?.mp b;rw[List.getElem?_zipWith]at H;cases e:xs[i]? with
  |none=>rw[e]at H;cases H
  |some x=>
   cases E:(xs.drop 1)[i]? with
   |none=>rw[e,E]at H;cases H
   |some y=>rw[e,E]at H;cases H;rw[List.getElem?_drop,Nat.add_comm]at E;have a:=h i x y e E;simp[bh,bR,slots,dB,aQ,bZ,aX,bz,ah,Res.bind,aD,a,bg,Res.noErr];unfold bx at d;omega
 ·simp;unfold bx;omega
theorem Iw(H:Flat S)(i:ns.length<=1000)(h:∀n∈ns,0<=n/\n<m):fu [.int m,.tup (ns.map D.int)] S=.ok (.bl true) S:=by
 refine aL rfl ?_ rfl H rfl;have b:b5 [.tup (ns.map D.int),.ty "tuple"] S=.ok _ S:=rfl;simp[j_,ag,ar,ah,ai,bj,Res.bind,Res.noErr,aB,aG,b,dC,Dt];simp only[bS];rw[oB]
 ·simp only[Res.noErr];rw[oC]
 ·intro z e a f;obtain⟨n,c,rfl⟩:=Zp.mp e;have d:=BM H m n;have g:=ZD (h n c);simp[bh,bR,slots,aQ,aX,bz,ah,ai,Res.bind,AJ,d];simp_all
 ·simp;lia
theorem BP(H:Flat S){t:Int×Int}(h:0<=t.1/\t.1<t.2/\t.2<m):ez [.int m,al t] S=.ok (.bl true) S:=by
 refine aL rfl ?_ rfl H rfl;have a:fu [.int m,al t] S=.ok _ S:=Iw H (ns:=[t.1,t.2]) (by simp) (by intro n g;simp at g;lia)
 have b:dq [al t] S=.ok _ S:=BO H (by simp) (by
  intro i x y e E
  have f:i=0:=by
   grind
  subst f;simp at e E;subst e;subst E;show some _=some _;simp[h.2.1])
 have c:aG .len [al t] S=.ok _ S:=rfl;have d:aD .Eq (.int 2) (.int 2) S=.ok _ S:=rfl;simp[gb,ag,ar,ah,ai,Res.bind,Res.noErr,aB,nE,AL,a,b,c,d]
theorem BQ{i:Nat}{x:D}(h:(aa ts)[i]?=some x):∃t,ts[i]?=some t/\x=al t:=by
 unfold aa at h
 grind
theorem BR(H:Flat S)(a:ts.length<=1000)(h:ts.Pairwise aA):dq [.tup (aa ts)] S=.ok (.bl true) S:=
 BO H (by unfold aa;simpa using a) λi x y e E=>by obtain⟨t,f,rfl⟩:=BQ e;obtain⟨u,F,rfl⟩:=BQ E;rw[show iY S bC _ _=some _ from BL S _ t u];obtain⟨g,rfl⟩:=Zg.mp f;obtain⟨G,rfl⟩:=Zg.mp F;rw[ZD (List.pairwise_iff_getElem.mp h i _ _ _ (by omega))]
theorem Iy(h:Flat S)(W:cz m ts):cZ [aq m ts] S=.ok (.bl true) S:=by
 have n:=W.few;refine aL rfl ?_ rfl h rfl;have b:b5 [aq m ts,.ty "tuple"] S=.ok (.bl true) S:=rfl;have c:ef [aq m ts] S=.ok (.int 2) S:=rfl;have d:aD .NotEq (.int 2) (.int 2) S=.ok (.bl false) S:=rfl;have H:=uV h m 1 8;rw[ZD (⟨W.lo,W.hi⟩:1<=m/\m<=8)]at H;have e:b5 [.tup (aa ts),.ty "tuple"] S=.ok (.bl true) S:=rfl;have a:=BR h (show ts.length<=1000 by omega) W.ris;have f:G0 "MOST_PLACES"=some (.int 8):=rfl;have g:aQ (.tup [.var 1,.var 2]) (aq m ts) [some (aq m ts),none,none]=some _:=rfl;simp[iz,AM,ag,ar,ao,ah,ai,bj,Res.bind,Res.noErr,aB,aG,b,c,d,AO,AQ,ug,H,e,a',a,f,g,dC,AN,Hj,vZ];simp only[bS];rw[oB]
 ·simp only[Res.noErr];rw[oC];simp[a]
 ·intro z l A i;obtain⟨t,k,rfl⟩:=Zp.mp l;have j:=BP h (W.tie t k);simp[bh,bR,slots,dB,aQ,bZ,aX,bz,ah,ai,Res.bind,ug,j,Res.noErr];unfold bx at i;omega
 ·unfold aa bx;simp;omega
theorem uW(h:Flat S)(W:cz m ts):d6 [aq m ts] S=.ok .non S:=by refine run_next (ρ:=[some (aq m ts)]) rfl ?_ rfl h;simp[ui,uh,ag,ar,ao,ah,ai,Res.bind,AW,Iy h W,a']
theorem BS{b:Type}{f e:b->D}{p:b->Bool}{step:D->List D->af->Res (List D)}{S:af}:∀(xs:List b) (acc:List D),(∀x∈xs,∀acc,acc.length<bx->step (f x) acc S=.ok (if p x=true then acc++[e x]else acc) S)->acc.length+xs.length<=bx->aS step (xs.map f) acc S=.ok (acc++(xs.filter p).map e) S
 | [],acc,_,_=>by simp[aS]
 |x::xs,acc,h,c=>by
  unfold aS;unfold Res.bind;have i:=λa=>BS _ a λy H=>h y (Zc _ H)
  grind
theorem uX{f e:α->D}{p:α->Bool}{step:D->List D->af->Res (List D)}{xs:List α}(h:∀x∈xs,∀acc,acc.length<bx->step (f x) acc S=.ok (if p x=true then acc++[e x]else acc) S)(H:xs.length<=bx):aS step (xs.map f) [] S=.ok ((xs.filter p).map e) S:=by rw[BS _ _ h (by simp_all)];simp
theorem bv{c:CS}(h:ar Φ Γ c ρ S=.ok (.next ρ') S'):ag Φ Γ (c::cs) ρ S=ag Φ Γ cs ρ' S':=by rw[ag,h];rfl
theorem a9{c:CS}(h:ar Φ Γ c ρ S=.ok (.ret d) S'):ag Φ Γ (c::cs) ρ S=.ok (.ret d) S':=by rw[ag,h];rfl
theorem kt{t:CT}{it:CE}{its:hY}(h:bj Φ Γ it ρ S=.ok its S1):ar Φ Γ (.for_ t it body) ρ S=r8 (λx ρ S=>match aQ t x ρ with
   |some ρ'=>ag Φ Γ body ρ' S
   |none=>.fail) its ρ S1:=by
 rw[ar,h];rfl
theorem bw{i:Nat}{e:CE}(h:ah Φ Γ e ρ S=.ok d S'):ag Φ Γ (.asg i e::cs) ρ S=ag Φ Γ cs (ρ.set i (some d)) S':=
 bv (by rw[ar,h];rfl)
noncomputable def cQ(l:Int):Nat->Li
 |0=>[]
 |n+1=>l::cQ (l+1) n
theorem Iz(l:Int)(n:Nat):dX l n=(cQ l n).map D.int:=by
 induction n generalizing l with
 |zero=>rfl
 |succ n i=>unfold dX cQ;rw[i];rfl
theorem IA{l x:Int}:x∈cQ l n->l<=x/\x<l+n:=by
 induction n generalizing l with
 |zero=>intro h;cases h
 |succ n i=>
  intro h;unfold cQ at h
  grind
theorem IB{l:Int}:(cQ l n).length=n:=by
 induction n generalizing l with
 |zero=>rfl
 |succ n i=>unfold cQ;simp[i]
noncomputable def cK(p:Int)(t:Int×Int):Bool:=decide (p=t.1\/p=t.2)
theorem uY{a:Type}{f:a->D}{g:a->List D}{c:Nat}{step:D->List D->af->Res (List D)}{S:af}(H:∀x,(g x).length<=c):∀(xs:List a) (acc:List D),(∀x∈xs,∀acc,acc.length+c<=bx->step (f x) acc S=.ok (acc++g x) S)->acc.length+c*xs.length<=bx->aS step (xs.map f) acc S=.ok (acc++xs.flatMap g) S
 | [],acc,_,_=>by simp[aS]
 |x::xs,acc,h,b=>by simp[Nat.mul_add]at b;simp;unfold aS;rw[h x Ze _ (by omega)];unfold Res.bind;dsimp;rw[uY H _ _ (λy d=>h y (Zc _ d)) (by have:=H x;simp;omega)];simp
theorem BU:∀(ns acc:Li),(acc++ns).Nodup->ns.foldl step_dedup acc=acc++ns
 | [],acc,_=>by simp
 |n::ns,acc,h=>by
  simp
  have H:acc.any (· ==n)=false:=by
   grind
  have e:step_dedup acc n=acc++[n]:=by unfold step_dedup;rw[H];rfl
  rw[e,BU _ _ (by simp_all),Z4];rfl
theorem IC(c:Flat S)(g:ns.length<1000)(h:ns.Nodup):ka [.lst (ns.map D.int)] S=.ok (.bl true) S:=by
 refine aL rfl ?_ rfl c rfl
 have H:hZ (.lst (ns.map D.int)) S=.ok (.int ns.length) S:=by
  have e:(ns.map D.int).all (aw .int)=true:=by rw[Zn];intro x d;obtain⟨n,_,rfl⟩:=Zp.mp d;rfl
  have E:(ns.map D.int).filterMap cS=ns:=by rw[List.filterMap_map];exact List.filterMap_some
  have f:cE ns=ns:=by unfold cE;have:=BU ns [] (by simp_all);simp_all
  show(if(ns.map _).all _=true/\(ns.map _).length<1000 then Res.ok _ S else _)=_;simp_all
 have a:ef [.lst (ns.map D.int)] S=.ok (.int ns.length) S:=by simp[ef,az]
 have b:aD .Eq (.int ns.length) (.int ns.length) S=.ok (.bl true) S:=by have:aD .Eq (.int ns.length) (.int ns.length) S=.ok _ S:=rfl;simp_all
 simp[uf,ag,ar,ah,ai,Res.bind,Res.noErr,aG,H,a,b]
noncomputable def av(ps:Lq):Li:=ps.flatMap λt=>[t.1,t.2]
theorem BV(ps:Lq):ps.flatMap (λt=>[D.int t.1,D.int t.2])=(av ps).map D.int:=by unfold av;rw[List.map_flatMap];rfl
theorem uZ(ps:Lq):(av ps).length=2*ps.length:=by
 unfold av
 induction ps with
 |nil=>rfl
 |cons t T i=>grind
theorem ID(a:Flat S)(W:cz m ts)(P:b4 ts ps)(k:ps.length<=100):gc [aq m ts,.tup (aa ps)] S=.ok (.bl true) S:=by
 refine aL rfl ?_ rfl a rfl;have d:bp (aq m ts) (.int 0) S=.ok (.int m) S:=rfl;have H:bp (aq m ts) (.int 1) S=.ok (.tup (aa ts)) S:=rfl;have e:=BR a (show ps.length<=1000 by omega) P.ris;refine(bv (S':=S) (rfl)).trans ?_;refine a9 ?_;simp[AS,AR,ar,ah,ai,bj,Res.bind,Res.noErr,aB,aG,dC,bS];rw[oB]
 ·simp only[Res.noErr];rw[oC];simp[AU,e]
 ·intro z i A f;obtain⟨t,c,rfl⟩:=Zp.mp i;have g:=BP a (W.tie t (P.sub t c));have h:=uU S t ts;rw[ZD (P.sub t c)]at h;have b:=f;simp[bh,bR,slots,dB,aQ,bZ,aX,bz,ah,ai,Res.bind,nF,g,Res.noErr,d,H,aD,h,bg,aB,b]
 ·unfold aa bx;simp;omega
theorem IE(h:Flat S)(W:cz m ts)(P:b4 ts ps)(i:ps.length<=100):eA [aq m ts,.tup (aa ps)] S=.ok (.bl true) S:=by
 refine aL rfl ?_ rfl h rfl;have H:=uW h W;have b:=ID h W P i;have l:=IC h (ns:=av ps) (by rw[uZ];omega) P.un;refine(bv (ρ':=[some (aq m ts),some (.tup (aa ps))]) (S':=S) (by simp[uj,ar,ah,ai,Res.bind,uk,H])).trans ?_;refine a9 ?_;simp[AX,ar,ah,ai,bj,Res.bind,Res.noErr,aB,ul,AY,b,dC,bS];unfold aa;rw[uY (g:=λt=>[.int t.1,.int t.2]) (c:=2) (λx=>by simp)]
 ·rw[BV];simp_all
 ·intro t n a d;have f:a.length+2<=16777216:=d;have e:bh (.var 0) (al t) [none,none]=some _:=rfl;have E:dC S (al t)=some _:=rfl;simp[e,bh,bR,slots,aQ,aX,bz,ah,bj,Res.bind,E,bS,aS,show a.length<16777216 by omega,show a.length+1<16777216 by omega]
 ·unfold bx;simp;omega
theorem IF(h:Flat S)(W:cz m ts)(P:b4 ts ps)(H:ps.length<=100):dr [aq m ts,.tup (aa ps)] S=.ok .non S:=by refine run_next (ρ:=[some (aq m ts),some (.tup (aa ps))]) rfl ?_ rfl h;simp[nH,nG,ag,ar,ao,ah,ai,Res.bind,um,IE h W P H,a']
noncomputable def insI(x:Int×Int):Lq->Lq
 | []=>[x]
 |y::ys=>if aA x y then x::y::ys else y::insI x ys
noncomputable def sortI(l:Lq):Lq:=l.foldl (λacc x=>insI x acc) []
theorem oD(a b:Int×Int):bT (.seq .int) (al a) (al b)=decide (aA a b):=by
 have e:bT (.seq .int) (al a) (al b)=if decide _=true then true else if decide _=true then false else if decide _=true then true else if decide _=true then false else false:=rfl;by_cases h:aA a b
 ·rw[ZD h];unfold aA at h;lia
 ·rw[Zx h];unfold aA at h;lia
theorem BW(x:Int×Int):∀l:Lq,dD (bT (.seq .int)) (al x) (aa l)=aa (insI x l)
 | []=>rfl
 |y::Y=>by
  show(if bT _ _ _=true then al x::al y::aa _ else al y::dD _ _ (aa _))=aa _;have e:insI x (y::Y)=if aA x y then x::y::Y else y::insI x _:=rfl;rw[oD,BW x _,e];by_cases h:aA x y
  ·rw[ZD h,if_pos h];rfl
  ·rw[Zx h,if_neg h];rfl
theorem BX:∀(l acc:Lq),(aa l).foldl (λacc x=>dD (bT (.seq .int)) x acc) (aa acc)=aa (l.foldl (λacc x=>insI x acc) acc)
 | [],acc=>rfl
 |x::l,acc=>by show(aa l).foldl _ (dD _ _ _)=_;rw[BW,BX l];rfl
theorem BY(l:Lq):ek (bT (.seq .int)) (aa l)=aa (sortI l):=BX l []
theorem oE(x:Int×Int):∀l,(insI x l).Perm (x::l)
 | []=>.refl _
 |y::Y=>by
  unfold insI;split
  ·exact .refl _
  ·exact((oE x _).cons y).trans (.swap x y _)
theorem BZ:∀(l acc:Lq),(l.foldl (λacc x=>insI x acc) acc).Perm (l++acc)
 | [],acc=>.refl _
 |x::l,acc=>by refine(BZ l _).trans ?_;exact((oE x _).append_left l).trans List.perm_middle
theorem gg(l:Lq):(sortI l).Perm l:=by have:=BZ l [];rw[List.append_nil]at this;exact this
theorem lex_tot{x y:Int×Int}(h:¬aA x y)(n:x≠y):aA y x:=by
 unfold aA at h⊢
 grind
theorem B0{x y z:Int×Int}(a:aA x y)(b:aA y z):aA x z:=by unfold aA at*;omega
theorem B1(x:Int×Int):∀l,l.Pairwise aA->x∉l->(insI x l).Pairwise aA
 | [],_,_=>List.pairwise_singleton _ _
 |y::Y,h,n=>by
  obtain⟨a,b⟩:=ZW.mp h;unfold insI;by_cases e:aA x y
  ·rw[if_pos e];refine ZW.mpr ⟨λz H=>?_,h⟩;rcases Zk.mp H with rfl|H
   ·exact e
   ·exact B0 e (a z H)
  ·rw[if_neg e];refine ZW.mpr ⟨λz H=>?_,B1 x _ b λz=>n (Zc _ z)⟩;rcases Zk.mp ((oE x _).mem_iff.mp H)with rfl|H
   ·exact lex_tot e λz=>n (by simp_all)
   simp_all
theorem B2:∀(l acc:Lq),acc.Pairwise aA->(l++acc).Nodup->(l.foldl (λacc x=>insI x acc) acc).Pairwise aA
 | [],acc,h,_=>h
 |x::l,acc,h,n=>by have N:=n;obtain⟨a,b⟩:=List.nodup_cons.mp N;refine B2 l _ (B1 x _ h λz=>a (Zz _ z)) ?_;exact(((oE x _).append_left l).trans List.perm_middle).nodup_iff.mpr N
theorem oF{l:Lq}(h:l.Nodup):(sortI l).Pairwise aA:=B2 l _ .nil (by simp_all)
theorem oG{l:Lq}(H:az S d=some (aa l))(b:l.length<64):jt false (.seq .int) [d] S=.ok (.lst (aa (sortI l))) S:=by
 have e:(aa l).all (aw (.seq .int))=true:=by rw[Zn];intro x h;obtain⟨t,_,rfl⟩:=Zp.mp h;rfl
 have E:fP (.seq .int) (aa l)=true:=by
  have:((aa l).all λd=> !eO d)=true:=by rw[Zn];intro x h;obtain⟨t,_,rfl⟩:=Zp.mp h;rfl
  show(true&&((aa l).all λd=> !eO d))=true;rw[this];rfl
 have a:(aa l).length<64:=by unfold aa;rw[Zm];omega
 unfold jt;simp only[H];rw[if_pos ⟨e,a,E⟩,BY];rfl
theorem u0{l:Lq}(h1:1<=m)(h:m<=8)(a:l.Nodup)(c:∀t∈l,0<=t.1/\t.1<t.2/\t.2<m)(H:l.length<=28):cz m (sortI l):=
 ⟨h1,h,oF a,λt b=>c t ((gg l).mem_iff.mp b),by rw[(gg l).length_eq];exact H⟩
noncomputable def iJ(m:Nat):Lq:=(cQ 0 m).flatMap λi=>(cQ (i+1) (m-1-i.toNat)).map λj=>(i,j)
theorem qq(h1:1<=m)(h:m<=8):m=1\/m=2\/m=3\/m=4\/m=5\/m=6\/m=7\/m=8:=by omega
theorem IG(h1:1<=m)(h:m<=8):ag A8 G0 A7 ([D.int m].map some++List.replicate (A6.length-1) none) S=.ok (.ret (.lst (aa (iJ m.toNat)))) S:=by rcases qq h1 h with rfl|rfl|rfl|rfl|rfl|rfl|rfl|rfl<;>rfl
theorem B3(H:Flat S)(h1:1<=m)(h:m<=8):nP [.int m] S=.ok (.lst (aa (iJ m.toNat))) S:=
 aL rfl (IG h1 h) rfl H (dJ _)
theorem IH(h1:1<=m)(h:m<=8):cz m (iJ m.toNat):=by rcases qq h1 h with rfl|rfl|rfl|rfl|rfl|rfl|rfl|rfl<;>exact⟨by decide,by decide,by decide+kernel,by decide+kernel,by decide+kernel⟩
theorem B4{u:Lq}(W:cz m ts)(h:u.Sublist ts):cz m u:=
 ⟨W.lo,W.hi,W.ris.sublist h,λt H=>W.tie t (h.subset H),ZC h.length_le W.few⟩
def Drawn(n:Nat)(S S':af):Prop:=∃a b:Int,S'=S.set n [.int a,.int b]
theorem Drawn.refl(h:aT S n):Drawn n S S:=by obtain⟨a,b,h⟩:=h;obtain⟨H,e⟩:=Zg.mp h;exact⟨a,b,by rw[<-e,List.set_getElem_self]⟩
theorem Drawn.trans(a:Drawn n S S1)(b:Drawn n S1 S2):Drawn n S S2:=by obtain⟨x,y,rfl⟩:=a;obtain⟨z,w,rfl⟩:=b;exact⟨z,w,by rw[List.set_set]⟩
theorem Drawn.flat(h:Drawn n S S')(H:Flat S):Flat S':=by obtain⟨a,b,rfl⟩:=h;exact H.set rfl
theorem Drawn.pen(h:Drawn n S S')(H:aT S n):aT S' n:=by obtain⟨a,b,rfl⟩:=h;exact H.set
theorem Drawn.len(h:Drawn n S S'):S'.length=S.length:=by obtain⟨a,b,rfl⟩:=h;simp
theorem fB(H:Flat S)(c:aT S n)(h:0<m)(h1:m<1000):∃r S',0<=r/\r<m/\Drawn n S S'/\cc [.ref n,.int m] S=.ok (.int r) S':=by obtain⟨r,a,b,x,y,e⟩:=oA H c h h1;exact⟨r,_,x,y,⟨a,b,rfl⟩,e⟩
theorem u1{n:Nat}{step:D->List D->af->Res (List D)}{f:Int×Int->D}:∀(ts:Lq) (acc:List D) (S:af),Flat S->aT S n->acc.length+ts.length<=1000->
  (∀t∈ts,∀acc S,Flat S->aT S n->acc.length<=1000->∃k S',Drawn n S S'/\step (f t) acc S=.ok (if k=true then acc++[f t]else acc) S')->
  ∃(us:Lq) (S':af),us.Sublist ts/\Drawn n S S'/\aS step (ts.map f) acc S=.ok (acc++us.map f) S'
 | [],acc,S,b,H,_,_=>⟨[],S,.slnil,.refl H,by simp[aS]⟩
 |t::ts,acc,S,b,H,g,h=>by
  simp only[ZG]at g;obtain⟨k,a,d1,E⟩:=h t Ze acc S b H (by omega);simp only[List.map_cons];unfold aS;rw[E];cases k with
  |true=>obtain⟨us,c,s,d2,e⟩:=u1 ts (acc++[f t]) a (d1.flat b) (d1.pen H) (by simp;omega) λu d=>h u (Zc _ d);exact⟨t::us,c,s.cons_cons t,d1.trans d2,by show aS step (ts.map f) (acc++[f t]) a=_;rw[e];simp⟩
  |false=>obtain⟨us,c,s,d2,e⟩:=u1 ts acc a (d1.flat b) (d1.pen H) (by omega) λu d=>h u (Zc _ d);exact⟨us,c,s.cons t,d1.trans d2,by show aS step (ts.map f) acc a=_;rw[e]⟩
theorem B5{n:Nat}{step:D->List D->af->Res (List D)}:∀(k:Nat) (lo:Int) (acc:List D) (S:af),1<=lo->lo+k<=100->Flat S->aT S n->acc.length+k<=1000->
  (∀p:Int,1<=p->p<100->∀acc S,Flat S->aT S n->acc.length<=1000->∃r S',0<=r/\r<p/\Drawn n S S'/\step (.int p) acc S=.ok (acc++[al (r,p)]) S')->
  ∃(us:Lq) (S':af),us.map (·.2)=cQ lo k/\(∀t∈us,0<=t.1/\t.1<t.2/\lo<=t.2/\t.2<lo+k)/\Drawn n S S'/\aS step ((cQ lo k).map D.int) acc S=.ok (acc++aa us) S'
 |0,lo,acc,S,_,_,a,H,_,_=>⟨[],S,rfl,λt h=>(by cases h),.refl H,by simp[aS,cQ,aa]⟩
 |k+1,lo,acc,S,f,g,a,H,i,h=>by
  obtain⟨r,c,R,j,d1,e⟩:=h lo f (by omega) acc S a H (by omega);obtain⟨us,d,s,v,d2,E⟩:=B5 k (lo+1) (acc++[al (r,lo)]) c (by omega) (by omega) (d1.flat a) (d1.pen H) (by simp;omega) h;refine⟨(r,lo)::us,d,?_,λt b=>?_,d1.trans d2,?_⟩
  ·simp only[List.map_cons,s];rfl
  ·rcases Zk.mp b with rfl|b
   ·dsimp only;omega
   ·have:=v t b;omega
  ·show aS step (D.int lo::(cQ (lo+1) k).map D.int) acc S=_;unfold aS;rw[e];show aS step _ (acc++[al (r,lo)]) c=_;rw[E];simp[aa]
theorem II{l:Int}:(cQ l n).Nodup:=by
 induction n generalizing l with
 |zero=>exact List.nodup_nil
 |succ n i=>refine List.nodup_cons.mpr ⟨λh=>?_,i⟩;have:=IA h;omega
theorem dL{c:CE}{a b:List CS}{k:Bool}(h:ao Φ Γ c ρ S=.ok k S1):ar Φ Γ (.ite c a b) ρ S=if k=true then ag Φ Γ a ρ S1 else ag Φ Γ b ρ S1:=by rw[ar,h];rfl
theorem iK{t:CT}{it:CE}{i:List CE}{body:CE}{a:af}{its:hY}(h:bj Φ Γ it ρ S=.ok its S1)
  (H:bS (λx acc S2=>match bh t x (fr.map λj=>j.bind λj=>(ρ[j]?).join)with
    |some ρ'=>(aX Φ Γ i ρ' S2).bind λk S3=>if k=true then bz Φ Γ body ρ' acc S3 else .ok acc S3
    |none=>.fail) its [] S1=.ok ys a):ah Φ Γ (.comp false N fr t it i body) ρ S=.ok (.lst ys) a:=by
 rw[ah,h];exact Eq.trans (congrArg (λr=>Res.bind _ λys a=>if false=true then Res.ok (D.ref a.length) (a++[ys])else Res.ok (.lst ys) a) H) rfl
section
variable {S3:af}{d2 r x y:D}{e a b:CE}
theorem am{i:Nat}(h:ρ[i]?=some (some d)):ah Φ Γ (.var i) ρ S=.ok d S:=by rw[ah,h]
theorem ku{k:gF}(h:ah Φ Γ e ρ S=.ok d S1)(H:aG k [d] S1=.ok r S2):ah Φ Γ (.blt k [e]) ρ S=.ok r S2:=by simp[ah,ai,h,Res.bind,H,Res.noErr]
theorem B6(h1:ah Φ Γ a ρ S=.ok x S1)(h:ah Φ Γ b ρ S1=.ok y S2):ah Φ Γ (.tup [a,b]) ρ S=.ok (.tup [x,y]) S2:=by simp[ah,ai,h1,h,Res.bind]
theorem oH{f:Str}(H:Φ f=some φ)(h1:ah Φ Γ a ρ S=.ok x S1)(h:φ [x] S1=.ok r S2):ah Φ Γ (.call f [a]) ρ S=.ok r S2:=by simp[ah,ai,H,h1,h,Res.bind]
theorem iL{f:Str}(c:Φ f=some φ)(h1:ah Φ Γ a ρ S=.ok x S1)(H:ah Φ Γ b ρ S1=.ok y S2)(h:φ [x,y] S2=.ok r S3):ah Φ Γ (.call f [a,b]) ρ S=.ok r S3:=by simp[ah,ai,c,h1,H,h,Res.bind]
theorem dt(h:ah Φ Γ e ρ S=.ok d S1):ar Φ Γ (.ret e) ρ S=.ok (.ret d) S1:=by rw[ar,h];rfl
end
theorem iM{w k j:Int}(a:ρ[2]?=some (some (.int m)))(b:ρ[3]?=some (some (.int w))):ao Φ Γ (.band (.cmp .Eq (.var 3) (.lit (.int k))) (.cmp .Gt (.var 2) (.lit (.int j)))) ρ S=.ok (decide (w=k/\j<m)) S:=by
 have e:aD .Eq (.int w) (.int k) S=.ok (.bl (w==k)) S:=rfl;have E:aD .Gt (.int m) (.int j) S=.ok (.bl (decide (j<m))) S:=rfl;by_cases h:w=k
 ·subst h;have H:(w==w)=true:=by simp
  rw[H]at e;simp[ao,ah,Res.bind,Res.noErr,aB,a,b,e,E]
 ·have H:(w==k)=false:=by simpa using h
  rw[H]at e;simp[ao,ah,Res.bind,Res.noErr,aB,a,b,e,E,h]
theorem B7{w k:Int}(h:ρ[3]?=some (some (.int w))):ao Φ Γ (.cmp .Eq (.var 3) (.lit (.int k))) ρ S=.ok (decide (w=k)) S:=by have e:aD .Eq (.int w) (.int k) S=.ok (.bl (w==k)) S:=rfl;have E:(w==k)=decide (w=k):=rfl;simp[ao,ah,Res.bind,Res.noErr,aB,h,e,E]
theorem oI{c:CE}{a:List CS}{P:Prop} [Decidable P] (h:ao Φ Γ c ρ S=.ok (decide P) S)(H:¬P):ag Φ Γ (.ite c a []::cs) ρ S=ag Φ Γ cs ρ S:=
 bv (by rw[dL h,Zx H,if_neg Bool.false_ne_true,ag])
theorem oJ{c:CE}{a:List CS}{P:Prop} [Decidable P] (h:ao Φ Γ c ρ S=.ok (decide P) S)(b:P)(H:ag Φ Γ a ρ S=.ok (.ret d) S'):ag Φ Γ (.ite c a []::cs) ρ S=.ok (.ret d) S':=
 a9 (by rw[dL h,ZD b,if_pos rfl,H])
theorem IJ{r:Int}(h:0<=r)(h1:r<12):∃v,0<=v/\v<8/\bp (.lst [.int 0,.int 0,.int 1,.int 0,.int 2,.int 1,.int 3,.int 4,.int 5,.int 6,.int 7,.int 0]) (.int r) S=.ok (.int v) S:=by
 have:r=0\/r=1\/r=2\/r=3\/r=4\/r=5\/r=6\/r=7\/r=8\/r=9\/r=10\/r=11:=by omega
 rcases this with rfl|rfl|rfl|rfl|rfl|rfl|rfl|rfl|rfl|rfl|rfl|rfl<;>exact⟨_,by decide,by decide,rfl⟩
theorem IK{r:Int}(h:0<=r)(h1:r<5):∃v:Int,bp (.lst [.int 2,.int 3,.int 4,.int 6,.int 8]) (.int r) S=.ok (.int v) S:=by
 have:r=0\/r=1\/r=2\/r=3\/r=4:=by omega
 rcases this with rfl|rfl|rfl|rfl|rfl<;>exact⟨_,rfl⟩
noncomputable def B8(m:Nat):Lq:=(cQ 0 (m-1)).map (λk=>(k,k+1))++[(0,(m:Int)-1)]
noncomputable def u2(m:Nat):Lq:=[(0,1),(0,2),(1,2)]++((cQ 3 (m-4)).map (λk=>(k,k+1))++[(3,(m:Int)-1),(2,3)])
theorem u3(C:Flat S)(E:aT S n):∃m ts S',cz m ts/\Drawn n S S'/\iD [.ref n,.int 8] S=.ok (aq m ts) S':=by
 suffices h:∃m ts S',cz m ts/\Drawn n S S'/\ag d8 G0 ux [some (.ref n),some (.int 8),none,none,none,none,none] S=.ok (.ret (aq m ts)) S' by obtain⟨m,ts,S',W,d,e⟩:=h;exact⟨m,ts,S',W,d,aL rfl e d.len (d.flat C) (oz m ts)⟩
 obtain⟨r,U,R,N,d1,e1⟩:=fB C E (m:=12) (by decide) (by decide);have G:=d1.flat C;have I:=d1.pen E;obtain⟨v,v0,v1,ev⟩:=IJ (S:=U) R N;obtain⟨w,b,w0,w1,d2,e2⟩:=fB G I (m:=9) (by decide) (by decide);have H:=d2.flat G;have j:=d2.pen I;have D:=d1.trans d2;have hm:∃m:Int,1<=m/\m<=8/\1+8-1-v%8=m:=⟨8-v,by omega,by omega,by omega⟩;obtain⟨m,M,L,em⟩:=hm;unfold ux
 rw[bw (d:=.int m) (S':=U) (by simp[ah,ai,Res.bind,Res.noErr,iC,e1,ev,dz,fF,jh,hV];omega)];rw[bw (d:=.int w) (S':=b) (by simp[ah,ai,Res.bind,Res.noErr,iC,e2])];simp only[List.set_cons_succ,List.set_cons_zero];by_cases Y:w=0/\2<m
 ·refine⟨m,sortI (B8 m.toNat),b,?_,D,?_⟩
  ·have:m=3\/m=4\/m=5\/m=6\/m=7\/m=8:=by omega
   rcases this with rfl|rfl|rfl|rfl|rfl|rfl<;>exact u0 (by decide) (by decide) (by decide+kernel) (by decide+kernel) (by decide+kernel)
  ·refine oJ (iM rfl rfl) Y ?_;have:m=3\/m=4\/m=5\/m=6\/m=7\/m=8:=by omega
   rcases this with rfl|rfl|rfl|rfl|rfl|rfl<;>rfl
 rw[oI (iM rfl rfl) Y];by_cases Z:w=1/\5<m
 ·refine⟨m,sortI (u2 m.toNat),b,?_,D,?_⟩
  ·have:m=6\/m=7\/m=8:=by omega
   rcases this with rfl|rfl|rfl<;>exact u0 (by decide) (by decide) (by decide+kernel) (by decide+kernel) (by decide+kernel)
  ·refine oJ (iM rfl rfl) Z ?_;have:m=6\/m=7\/m=8:=by omega
   rcases this with rfl|rfl|rfl<;>rfl
 rw[oI (iM rfl rfl) Z];have s:=IH M L;by_cases c3:w=2/\2<m
 ·obtain⟨q,a,q0,q1,B,F⟩:=fB H j (m:=2) (by decide) (by decide);have i:=B.flat H;refine⟨m,(iJ m.toNat).filter (λt=>decide (t.1<1+q/\1+q<=t.2)),a,B4 s List.filter_sublist,D.trans B,?_⟩;refine oJ (iM rfl rfl) c3 ?_;rw[bw (d:=.int (1+q)) (S':=a) (by simp[ah,ai,Res.bind,Res.noErr,iC,F,dz,fF])];refine a9 ?_;simp[ar,ah,ai,bj,Res.bind,Res.noErr,aB,aG,bS,A9,B3 i M L,dC];unfold aa;rw[uX (f:=al) (e:=al) (p:=λt=>decide (t.1<1+q/\1+q<=t.2))]
  ·simp[Res.noErr,lT,az,aq,aa]
  ·intro t T A O;have c:A.length<16777216:=O;have x0:bp (al t) (.int 0) a=.ok (.int t.1) a:=rfl;have x1:bp (al t) (.int 1) a=.ok (.int t.2) a:=rfl;have X:aD .Lt (.int t.1) (.int (1+q)) a=.ok (.bl (decide (t.1<1+q))) a:=rfl;have x3:aD .LtE (.int (1+q)) (.int t.2) a=.ok (.bl (decide (1+q<=t.2))) a:=rfl;by_cases y1:t.1<1+q<;>by_cases y2:1+q<=t.2<;>simp[bh,bR,slots,dB,aQ,bZ,aX,ao,bz,ah,Res.bind,Res.noErr,aB,x0,x1,X,x3,y1,y2,c]
  ·have:=s.few;unfold bx;omega
 rw[oI (iM rfl rfl) c3];by_cases c4:w=3
 ·obtain⟨u,a,s3,v3,B,F⟩:=B5 (n:=n) (step:=λx A b=>match bh (.var 0) x [none,some (.ref n)]with
    |some g=>(aX d8 G0 [] g b).bind λk a=>if k=true then bz d8 G0 (.emit (.tup [.call "_law_draw" [.var 1,.var 0],.var 0])) g A a else .ok A a
    |none=>.fail) (m-1).toNat 1 [] b (by decide) (by omega) H j (by simp;omega) (λp p0 p1 A S C E O=>by
     obtain⟨r,S',R,N,d,e⟩:=fB C E (m:=p) (by omega) (by omega);refine⟨r,S',R,N,d,?_⟩;have c:A.length<16777216:=by omega
     simp[bh,bR,slots,dB,aQ,bZ,aX,bz,ah,ai,Res.bind,iC,e,al,c])
  have hl:u.length=(m-1).toNat:=by have:=congrArg List.length s3;simpa[IB]using this
  have hn:u.Nodup:=by
   have h:(u.map (·.2)).Nodup:=by rw[s3];exact II
   exact(List.pairwise_map.mp h).imp λz e=>z (by rw[e])
  refine⟨m,sortI u,a,u0 M L hn (λt T=>by have:=v3 t T;omega) (by omega),D.trans B,?_⟩;refine oJ (B7 rfl) c4 (a9 ?_);have K:bj d8 G0 (.range [.lit (.int 1),.var 2]) [some (.ref n),some (.int 8),some (.int m),some (.int w),none,none,none] b=.ok (.items (dX 1 (m-1).toNat)) b:=by simp[bj,ai,ah,Res.bind];omega
  have P:ah d8 G0 (.comp false ["_law_place","_law_pen_here"] [none,some 0] (.var 0) (.range [.lit (.int 1),.var 2]) [] (.emit (.tup [.call "_law_draw" [.var 1,.var 0],.var 0]))) [some (.ref n),some (.int 8),some (.int m),some (.int w),none,none,none] b=.ok (.lst (aa u)) a:=by rw[Iz]at K;exact iK K F
  have J:=oG (S:=a) (d:=.lst (aa u)) (l:=u) rfl (by omega);exact dt (B6 (am rfl) (ku (ku P J) rfl))
 rw[oI (B7 rfl) c4];obtain⟨q,a,q0,q1,B,F⟩:=fB H j (m:=5) (by decide) (by decide);have i:=B.flat H;have Q:=B.pen j;obtain⟨o,eo⟩:=IK (S:=a) q0 q1;rw[bw (d:=.int o) (S':=a) (by simp[ah,ai,Res.bind,Res.noErr,iC,F,eo])];simp only[List.set_cons_succ,List.set_cons_zero]
 obtain⟨u,V,s4,d4,e4⟩:=u1 (n:=n) (f:=al) (step:=λx A b=>match bh (.var 0) x [none,some (.ref n),some (.int o)]with
    |some g=>(aX d8 G0 [.cmp .Lt (.call "_law_draw" [.var 1,.lit (.int 8)]) (.var 2)] g b).bind λk a=>if k=true then bz d8 G0 (.emit (.var 0)) g A a else .ok A a
    |none=>.fail) (iJ m.toNat) [] a i Q (by have:=s.few;simp;omega) (λt T A S C E O=>by
     obtain⟨r,S',R,N,d,e⟩:=fB C E (m:=8) (by decide) (by decide);refine⟨decide (r<o),S',d,?_⟩;have X:aD .Lt (.int r) (.int o) S'=.ok (.bl (decide (r<o))) S':=rfl;have c:A.length<16777216:=by omega
     by_cases y:r<o<;>simp[bh,bR,slots,dB,aQ,bZ,aX,ao,bz,ah,ai,Res.bind,Res.noErr,aB,iC,e,X,y,c])
 refine⟨m,u,V,B4 s s4,(D.trans B).trans d4,a9 ?_⟩
 have P:ah d8 G0 (.comp false ["_law_tie","_law_pen_here","_law_often"] [none,some 0,some 6] (.var 0) (.seq (.call "_law_pairs" [.var 2])) [.cmp .Lt (.call "_law_draw" [.var 1,.lit (.int 8)]) (.var 2)] (.emit (.var 0))) [some (.ref n),some (.int 8),some (.int m),some (.int w),none,none,some (.int o)] a=.ok (.lst (aa u)) V:=by
  have K:bj d8 G0 (.seq (.call "_law_pairs" [.var 2])) [some (.ref n),some (.int 8),some (.int m),some (.int w),none,none,some (.int o)] a=.ok (.items ((iJ m.toNat).map al)) a:=by simp[bj,ai,ah,Res.bind,A9,B3 i M L,dC,aa]
  exact iK K e4
 exact dt (B6 (am rfl) (ku P rfl))
section
variable {A B:List D}
theorem u4:(S++[A,B])[S.length]?=some A:=by rw[Zy (Zf _)];simp
theorem oM:(S++[A,B])[S.length+1]?=some B:=by simp_all
theorem IM{X:List D}:(S++[A,B]).set S.length X=S++[X,B]:=by simp_all
theorem IP{X:List D}:(S++[A,B]).set (S.length+1) X=S++[A,X]:=by simp_all
theorem B9(h:Flat S)(H:bo 0 A=true)(a:bo 0 B=true):Flat (S++[A,B]):=by have:=(h.snoc H).snoc a;simp_all
theorem IQ(h:aT S n):aT (S++[A,B]) n:=by obtain⟨a,b,h⟩:=h;exact⟨a,b,by rw[Zw (Zg.mp h).1];exact h⟩
theorem qr(d:Flat S)(H:aT S n)(f:bo 0 A=true)(g:bo 0 B=true)(c:0<m)(h1:m<1000):∃r S',0<=r/\r<m/\Drawn n S S'/\cc [.ref n,.int m] (S++[A,B])=.ok (.int r) (S'++[A,B]):=by obtain⟨r,T,R,i,⟨a,b,rfl⟩,e⟩:=fB (B9 d f g) (IQ H) c h1;obtain⟨x,y,h⟩:=H;refine⟨r,S.set n [.int a,.int b],R,i,⟨a,b,rfl⟩,?_⟩;rw[e,List.set_append_left _ _ (Zg.mp h).1]
end
theorem B_:∀(l:Lq) (k:Nat),(aa l).eraseIdx k=aa (l.eraseIdx k)
 | [],k=>by simp[aa]
 |t::l,0=>rfl
 |t::l,k+1=>by show al t::(aa l).eraseIdx k=al t::aa (l.eraseIdx k);rw[B_ l k]
theorem oN(l:Lq):(aa l).length=l.length:=by unfold aa;simp
theorem B'{step:D->List D->af->Res (List D)}{S:af}{k:Nat}{xs:List D}(a:S[k]?=some xs)(hs:∀x∈xs,∀acc,acc.length<bx->step x acc S=.ok (acc++[.bl true]) S\/step x acc S=.ok (acc++[.bl false]) S):
  ∀(f i:Nat) (acc:List D),xs.length<f+i->i<=xs.length->cq step (fO k) f i acc S=aS step (xs.drop i) acc S\/bx<=acc.length+(xs.length-i)
 |0,i,acc,H,b=>absurd H (by omega)
 |f+1,i,acc,H,b=>by
  unfold cq;have d:fO k S i=some xs[i]? :=by unfold fO;rw[a];rfl
  rw[d];by_cases h:i<xs.length
  ·rw[Zj h,List.drop_eq_getElem_cons h];by_cases c:acc.length<bx
   ·dsimp only;unfold aS;rcases hs xs[i] (List.getElem_mem h) acc c with e|e<;>rw[e]<;>dsimp only[Res.bind]
    all_goals
     rcases B' a hs f (i+1) (acc++[_]) (by omega) (by omega)with z|z
     ·exact .inl z
     ·right;simp at z;omega
   ·right;omega
  ·rw[List.getElem?_eq_none (by omega),List.drop_eq_nil_of_le (by omega)];exact .inl rfl
noncomputable def iN(t:Int×Int)(fs:Lq):Bool:=fs.all λo=> !cK t.1 o&& !cK t.2 o
noncomputable def eX:CE:=.comp false ["_law_one","_law_tie"] [none,some 4] (.var 0) (.seq (.var 3)) [] (.emit (.band (.cmp .NotIn (.idx (.var 1) (.lit (.int 0))) (.var 0)) (.cmp .NotIn (.idx (.var 1) (.lit (.int 1))) (.var 0))))
noncomputable def iO:List CS:=[.asg 4 (.meth .pop (.var 2) [.call "_law_draw" [.var 0,.blt .len [.var 2]]]),.ite (.band (.blt .all [eX]) (.cmp .Gt (.call "_law_draw" [.var 0,.lit (.int 4)]) (.lit (.int 0)))) [.expr (.meth .append (.var 3) [.var 4])] []]
noncomputable def kw:CE:=.cmp .NotEq (.var 2) (.lst false [])
theorem oO{w:D}{t:Int×Int}{fs:Lq}{A:List D}(u:fs.length<=100):ah bW G0 eX [some (.ref n),some w,some (.ref S.length),some (.ref (S.length+1)),some (al t)] (S++[A,aa fs])=.ok (.lst (fs.map λo=>D.bl (!cK t.1 o&& !cK t.2 o))) (S++[A,aa fs]):=by
 have H:∀(x:Int×Int) (a:List D),a.length<bx->(λx a d=>match bh (.var 0) x (([none,some 4]:List (Option Nat)).map λj=>j.bind λj=>(([some (.ref n),some w,some (.ref S.length),some (.ref (S.length+1)),some (al t)]:bt)[j]?).join)with
    |some b=>(aX bW G0 [] b d).bind λk c=>if k=true then bz bW G0 (.emit (.band (.cmp .NotIn (.idx (.var 1) (.lit (.int 0))) (.var 0)) (.cmp .NotIn (.idx (.var 1) (.lit (.int 1))) (.var 0)))) b a c else .ok a c
    |none=>.fail) (al x) a (S++[A,aa fs])=.ok (a++[.bl (!cK t.1 x&& !cK t.2 x)]) (S++[A,aa fs]):=by
  intro x a h;generalize S++[A,aa fs]=T;have g:a.length<16777216:=h;have X:bp (al t) (.int 0) T=.ok (.int t.1) T:=rfl;have q:bp (al t) (.int 1) T=.ok (.int t.2) T:=rfl;have I:iZ (.int t.1) (al x) T=some (cK t.1 x):=kr T t.1 x;have l:iZ (.int t.2) (al x) T=some (cK t.2 x):=kr T t.2 x;cases Y:cK t.1 x<;>cases r:cK t.2 x<;>rw[Y]at I<;>rw[r]at l<;>simp[bh,bR,slots,dB,aQ,bZ,aX,bz,ah,Res.bind,Res.noErr,aB,X,q,aD,I,l,bg,g]
 refine iK (its:=.live ((aa fs).length+1) (fO (S.length+1))) (S1:=S++[A,aa fs]) ?_ ?_
 ·simp only[bj,ah,Res.bind,Zq,Zl,dC,oM];rfl
 ·rcases B' (step:=λx a d=>match bh (.var 0) x (([none,some 4]:List (Option Nat)).map λj=>j.bind λj=>(([some (.ref n),some w,some (.ref S.length),some (.ref (S.length+1)),some (al t)]:bt)[j]?).join)with
    |some b=>(aX bW G0 [] b d).bind λk c=>if k=true then bz bW G0 (.emit (.band (.cmp .NotIn (.idx (.var 1) (.lit (.int 0))) (.var 0)) (.cmp .NotIn (.idx (.var 1) (.lit (.int 1))) (.var 0)))) b a c else .ok a c
    |none=>.fail) (oM (S:=S) (A:=A) (B:=aa fs)) (λx i a h=>by
     obtain⟨o,v,rfl⟩:=Zp.mp i;have:=H o a h;cases y:(!cK t.1 o&& !cK t.2 o)<;>rw[y]at this
     ·exact .inr this
     ·exact .inl this) ((aa fs).length+1) 0 [] (by omega) (by omega)with z|z
  ·rw[List.drop_zero]at z;refine Eq.trans z ?_;refine Eq.trans (uX (xs:=fs) (f:=al) (p:=λ_=>true) (e:=λo=>D.bl (!cK t.1 o&& !cK t.2 o)) (λx i a h=>Eq.trans (H x a h) rfl) (by unfold bx;omega)) ?_;rw[List.filter_eq_self.mpr (λ_ _=>rfl)]
  ·rw[oN]at z;unfold bx at z;simp at z;omega
theorem IS{w:D}{x:Option D}{B:List D}:ao bW G0 kw [some (.ref n),some w,some (.ref S.length),some (.ref (S.length+1)),x] (S++[aa ls,B])=.ok (!ls.isEmpty) (S++[aa ls,B]):=by
 have e:b7 (S++[aa ls,B]) bC (.ref S.length) (.lst [])=some ls.isEmpty:=by
  show(match((S++[aa ls,B])[S.length]?).map Sh.lst,some (Sh.lst [])with
   |some x,some y=>rG (b7 (S++[aa ls,B]) 39) x y
   |_,_=>none)=_
  rw[u4];cases ls with
  |nil=>rfl
  |cons t ls=>rfl
 simp[kw,ao,ah,ai,Res.bind,Res.noErr,aB,aD,e,bg]
theorem oP{w:D}{x:Option D}{fs:Lq}(f:Flat S)(j:aT S n)(o:ls.length<=100)(b:ls≠[]):∃t k S',t∈ls/\k<ls.length/\Drawn n S S'/\
  ah bW G0 (.meth .pop (.var 2) [.call "_law_draw" [.var 0,.blt .len [.var 2]]]) [some (.ref n),some w,some (.ref S.length),some (.ref (S.length+1)),x] (S++[aa ls,aa fs])=.ok (al t) (S'++[aa (ls.eraseIdx k),aa fs]):=by
 have c:0<ls.length:=List.length_pos_iff.mpr b;obtain⟨r,S',R,l,d,e⟩:=qr (A:=aa ls) (B:=aa fs) f j (dJ _) (dJ _) (m:=ls.length) (by omega) (by omega);have h:ef [.ref S.length] (S++[aa ls,aa fs])=.ok (.int ls.length) (S++[aa ls,aa fs]):=by simp only[ef,az,u4,oN]
 have a:r.toNat<ls.length:=by omega
 have H:xY (.ref S.length) [.int r] (S'++[aa ls,aa fs])=.ok (al ls[r.toNat]) (S'++[aa (ls.eraseIdx r.toNat),aa fs]):=by
  show jr (.ref S.length) [.int r] (S'++[aa ls,aa fs])=_;unfold jr;rw[<-d.len];simp only[u4,oN];have i:gx ls.length r=some r.toNat:=by unfold gx;rw[if_pos R,if_pos l]
  have g:(aa ls)[r.toNat]?=some (al ls[r.toNat]):=by unfold aa;rw[List.getElem?_map,Zj a];rfl
  rw[i];simp only[g];rw[if_pos (by unfold bx;omega),IM,B_]
 refine⟨ls[r.toNat],r.toNat,S',List.getElem_mem a,a,d,?_⟩;simp[ah,ai,Res.bind,Res.noErr,aG,h,A_,e,er,H]
theorem oQ{fs:Lq}{g:Int×Int->Bool}:fK [.lst (fs.map λo=>D.bl (g o))] S=.ok (.bl (fs.all g)) S:=by unfold fK;simp only[az];rw[List.map_map];rw[show a_ (fs.map (gT∘λo=>D.bl (g o)))=some (fs.all g)from allO_map];rfl
theorem IT{w:D}{x:Option D}{fs:Lq}(s:Flat S)(v:aT S n)(I:ls.length<=100)(G:fs.length<=100)(l:ls≠[]):
  ∃t k fs' S',t∈ls/\k<ls.length/\Drawn n S S'/\(fs'=fs\/(iN t fs=true/\fs'=fs++[t]))/\
  ag bW G0 iO [some (.ref n),some w,some (.ref S.length),some (.ref (S.length+1)),x] (S++[aa ls,aa fs])=.ok (.next [some (.ref n),some w,some (.ref S.length),some (.ref (S.length+1)),some (al t)]) (S'++[aa (ls.eraseIdx k),aa fs']):=by
 obtain⟨t,k,a,q,j,d1,z⟩:=oP (w:=w) (x:=x) (fs:=fs) s v I l;have g:=d1.flat s;have p:=d1.pen v;have f:=oO (S:=a) (n:=n) (w:=w) (t:=t) (fs:=fs) (A:=aa (ls.eraseIdx k)) G;rw[d1.len]at f
 have u:ao bW G0 (.blt .all [eX]) [some (.ref n),some w,some (.ref S.length),some (.ref (S.length+1)),some (al t)] (a++[aa (ls.eraseIdx k),aa fs])=.ok (iN t fs) (a++[aa (ls.eraseIdx k),aa fs]):=by have d:aG .all [.lst (fs.map λo=>D.bl (!cK t.1 o&& !cK t.2 o))] (a++[aa (ls.eraseIdx k),aa fs])=.ok (.bl (iN t fs)) (a++[aa (ls.eraseIdx k),aa fs]):=oQ;revert f;generalize eX=E;intro f;simp[ao,ai,f,Res.bind,Res.noErr,d,a']
 unfold iO;rw[bw z];simp only[List.set_cons_succ,List.set_cons_zero];by_cases h:iN t fs=true
 ·obtain⟨r,b,R,J,d2,C⟩:=qr (A:=aa (ls.eraseIdx k)) (B:=aa fs) g p (dJ _) (dJ _) (m:=4) (by decide) (by decide);have i:aD .Gt (.int r) (.int 0) (b++[aa (ls.eraseIdx k),aa fs])=.ok (.bl (decide (0<r))) (b++[aa (ls.eraseIdx k),aa fs]):=rfl
  have c:ao bW G0 (.band (.blt .all [eX]) (.cmp .Gt (.call "_law_draw" [.var 0,.lit (.int 4)]) (.lit (.int 0)))) [some (.ref n),some w,some (.ref S.length),some (.ref (S.length+1)),some (al t)] (a++[aa (ls.eraseIdx k),aa fs])=.ok (decide (0<r)) (b++[aa (ls.eraseIdx k),aa fs]):=by rw[ao,u,h];simp[ao,ah,ai,Res.bind,Res.noErr,aB,A_,C,i]
  by_cases y:0<r
  ·refine⟨t,k,fs++[t],b,q,j,d1.trans d2,.inr ⟨h,rfl⟩,?_⟩;rw[ZD y]at c;have e:gD (.ref (S.length+1)) [al t] (b++[aa (ls.eraseIdx k),aa fs])=.ok .non (b++[aa (ls.eraseIdx k),aa (fs++[t])]):=by have F:=(d1.trans d2).len;unfold gD;rw[<-F];simp only[oM,oN];rw[if_pos (by unfold bx;omega),IP];unfold aa;simp
   refine bv ?_;rw[dL c,if_pos rfl];simp[ag,ar,ah,ai,Res.bind,Res.noErr,er,e]
  ·refine⟨t,k,fs,b,q,j,d1.trans d2,.inl rfl,?_⟩;rw[Zx y]at c;refine bv ?_;rw[dL c,if_neg Bool.false_ne_true,ag]
 ·refine⟨t,k,fs,a,q,j,d1,.inl rfl,?_⟩;have H:iN t fs=false:=by simpa using h
  have c:ao bW G0 (.band (.blt .all [eX]) (.cmp .Gt (.call "_law_draw" [.var 0,.lit (.int 4)]) (.lit (.int 0)))) [some (.ref n),some w,some (.ref S.length),some (.ref (S.length+1)),some (al t)] (a++[aa (ls.eraseIdx k),aa fs])=.ok false (a++[aa (ls.eraseIdx k),aa fs]):=by rw[ao,u,H];simp[Res.bind]
  refine bv ?_;rw[dL c,if_neg Bool.false_ne_true,ag]
structure Found (ts fs:Lq):Prop where
 sub:∀t∈fs,t∈ts
 un:(av fs).Nodup
theorem IU(fs:Lq)(t:Int×Int):av (fs++[t])=av fs++[t.1,t.2]:=by unfold av;simp
theorem IV{fs:Lq}{p:Int}(h:p∈av fs):∃o∈fs,p=o.1\/p=o.2:=by unfold av at h;simp_all
theorem Found.add{fs:Lq}{t:Int×Int}(W:cz m ts)(F:Found ts fs)(d:t∈ts)(h:iN t fs=true):Found ts (fs++[t]):=by
 have i:=λo H=>by have:=Zn.mp h o H;simp[cK]at this;exact this
 refine⟨λu f=>?_,?_⟩
 ·rcases ZE.mp f with z|z
  ·exact F.sub u z
  simp_all
 ·rw[IU,Z3];have:=W.tie t d;refine⟨F.un,?_,λa c b g=>?_⟩
  ·simp;omega
  ·obtain⟨o,H,e⟩:=IV c
   grind
theorem Found.length{fs:Lq}(W:cz m ts)(F:Found ts fs):fs.length<=28:=by
 have b:fs.Nodup:=by
  have h:=F.un;clear F
  induction fs with
  |nil=>simp_all
  |cons t fs i=>have e:av (t::fs)=[t.1,t.2]++av _:=rfl;obtain⟨d,H,a⟩:=Z3.mp h;refine List.nodup_cons.mpr ⟨λz=>?_,i H⟩;exact a _ (by simp) t.1 (by exact List.mem_flatMap.mpr ⟨t,z,by simp⟩) rfl
 exact ZC (b.length_le_of_subset λt c=>F.sub t c) W.few
theorem Found.nodup{fs:Lq}(F:Found ts fs):fs.Nodup:=by
 have h:=F.un;clear F
 induction fs with
 |nil=>simp_all
 |cons t fs i=>have e:av (t::fs)=[t.1,t.2]++av _:=rfl;obtain⟨b,H,a⟩:=Z3.mp h;refine List.nodup_cons.mpr ⟨λz=>?_,i H⟩;exact a t.1 (by simp) _ (by exact List.mem_flatMap.mpr ⟨t,z,by simp⟩) rfl
theorem Found.pairing{fs:Lq}(F:Found ts fs):b4 ts (sortI fs):=
 ⟨oF F.nodup,λt h=>F.sub t ((gg _).mem_iff.mp h),((gg _).flatMap_right _).nodup_iff.mpr F.un⟩
theorem Ca{n:Nat}{w:D}{m:Int}{ts:Lq}(W:cz m ts):∀(f:Nat) (S:af) (x:Option D) (ls fs:Lq),ls.length<f->ls.length<=100->(∀t∈ls,t∈ts)->Found ts fs->Flat S->aT S n->
  ∃X fs' S',Found ts fs'/\Drawn n S S'/\fQ (ao bW G0 kw) (ag bW G0 iO) f [some (.ref n),some w,some (.ref S.length),some (.ref (S.length+1)),x] (S++[aa ls,aa fs])=.ok (.next [some (.ref n),some w,some (.ref S.length),some (.ref (S.length+1)),X]) (S'++[[],aa fs'])
 |0,S,x,ls,fs,h,_,_,_,_,_=>absurd h (by omega)
 |f+1,S,x,ls,fs,h,i,H,F,g,e=>by
  unfold fQ;rw[IS];cases ls with
  |nil=>exact⟨x,fs,S,F,.refl e,rfl⟩
  |cons T ls=>
   obtain⟨t,k,fs',p,z,y,d1,c,r⟩:=IT (w:=w) (x:=x) (ls:=T::ls) (fs:=fs) g e i (by have:=F.length W;omega) (by simp)
   have l:Found ts fs':=by
    rcases c with rfl| ⟨v,rfl⟩
    ·exact F
    ·exact F.add W (H t z) v
   have j:((T::ls).eraseIdx k).length=ls.length:=by rw[List.length_eraseIdx_of_lt y];rfl
   simp only[ZG]at h i;obtain⟨X,b,q,o,d2,E⟩:=Ca W f p (some (al t)) ((T::ls).eraseIdx k) fs' (by omega) (by omega) (λu A=>H u (List.mem_of_mem_eraseIdx A)) l (d1.flat g) (d1.pen e);refine⟨X,b,q,o,d1.trans d2,?_⟩
   show(Res.bind (ag bW G0 iO [some (.ref n),some w,some (.ref S.length),some (.ref (S.length+1)),x] (S++[aa (T::ls),aa fs])) λs S'=>match s with
    | .next a=>fQ (ao bW G0 kw) (ag bW G0 iO) f a S'
    | .cont a=>fQ (ao bW G0 kw) (ag bW G0 iO) f a S'
    | .brk a=>.ok (.next a) S'
    | .ret d=>.ok (.ret d) S')=_
   rw[r];rw[d1.len]at E;exact E
theorem IW(W:cz m ts)(H:Flat S)(g:aT S n):∃ps S',b4 ts ps/\ps.length<=28/\Drawn n S S'/\iE [.ref n,aq m ts] S=.ok (.tup (aa ps)) S':=by
 obtain⟨x,fs,a,F,d,e⟩:=Ca (n:=n) (w:=aq m ts) W 40 S none ts [] (by have:=W.few;omega) (by have:=W.few;omega) (λt h=>h) ⟨λt h=>(by cases h),List.nodup_nil⟩ H g;have f:=F.length W;refine⟨sortI fs,a,F.pairing,by rw[(gg fs).length_eq];exact f,d,?_⟩
 have c:ag bW G0 ke [some (.ref n),some (aq m ts),none,none,none] S=.ok (.ret (.tup (aa (sortI fs)))) (a++[[],aa fs]):=by
  unfold ke;have X:bp (aq m ts) (.int 1) S=.ok (.tup (aa ts)) S:=rfl;have L:gS true [.tup (aa ts)] S=.ok (.ref S.length) (S++[aa ts]):=rfl;rw[bw (d:=.ref S.length) (S':=S++[aa ts]) (by simp[ah,ai,Res.bind,Res.noErr,aG,X,L])];rw[bw (d:=.ref (S.length+1)) (S':=S++[aa ts,[]]) (by simp[ah,ai,Res.bind])];simp only[List.set_cons_succ,List.set_cons_zero];refine(bv (ρ':=[some (.ref n),some (aq m ts),some (.ref S.length),some (.ref (S.length+1)),x]) (S':=a++[[],aa fs]) ?_).trans ?_
  ·rw[ar];exact e
  ·refine a9 (dt (ku (ku (am rfl) (oG (l:=fs) ?_ (by omega))) rfl));rw[<-d.len];exact oM
 show aJ bW G0 ke uy.length 2 [.ref n,aq m ts] S=_;unfold aJ;rw[if_pos (show [D.ref n,aq m ts].length=2 from rfl)];rw[show ag bW G0 ke ([D.ref n,aq m ts].map some++List.replicate (uy.length-2) none) S=_ from c];have b:(a++[[],aa fs]).take S.length=a:=by rw[<-d.len];simp
 have:=uR (k:=S.length) (d:=.tup (aa (sortI fs))) (S':=a++[[],aa fs]) (by rw[b];exact d.flat H) (dJ _);rw[b]at this;exact this
theorem IX:gK=K90.gK:=rfl
theorem IY:gN=f':=rfl
noncomputable def Kn(d:D):Prop:=(∃i,d=.int i)\/(∃b,d=.bl b)\/(∃x,d=.str x)\/d=.non\/(∃xs,d=.tup xs)\/∃xs,d=.lst xs
noncomputable def fC:D->Bool
 | .int _=>true
 |_=>false
noncomputable def oR(m:Int):D->Bool
 | .int i=>decide (0<=i/\i<m)
 |_=>false
theorem kx(c:Flat S)(h:Kn d):f' [d] S=.ok (.bl (fC d)) S:=by
 refine aL rfl ?_ rfl c rfl;show ag AH G0 f_ [some d] S=_;rcases h with⟨i,rfl⟩| ⟨b,rfl⟩| ⟨x,rfl⟩|rfl| ⟨X,rfl⟩| ⟨X,rfl⟩
 ·have H:b5 [.int i,.ty "int"] S=.ok (.bl true) S:=rfl;have a:b5 [.int i,.ty "bool"] S=.ok (.bl false) S:=rfl;simp[f_,ag,ar,ah,ai,Res.bind,Res.noErr,aB,aG,a',H,a,fC]
 ·have H:b5 [.bl b,.ty "int"] S=.ok (.bl true) S:=rfl;have a:b5 [.bl b,.ty "bool"] S=.ok (.bl true) S:=rfl;simp[f_,ag,ar,ah,ai,Res.bind,Res.noErr,aB,aG,a',H,a,fC]
 ·have H:b5 [.str x,.ty "int"] S=.ok (.bl false) S:=rfl;simp[f_,ag,ar,ah,ai,Res.bind,Res.noErr,aB,aG,a',H,fC]
 ·have H:b5 [.non,.ty "int"] S=.ok (.bl false) S:=rfl;simp[f_,ag,ar,ah,ai,Res.bind,Res.noErr,aB,aG,a',H,fC]
 ·have H:b5 [.tup X,.ty "int"] S=.ok (.bl false) S:=rfl;simp[f_,ag,ar,ah,ai,Res.bind,Res.noErr,aB,aG,a',H,fC]
 ·have H:b5 [.lst X,.ty "int"] S=.ok (.bl false) S:=rfl;simp[f_,ag,ar,ah,ai,Res.bind,Res.noErr,aB,aG,a',H,fC]
theorem Kn.isI_or(h:Kn d):(∃i,d=.int i)\/(fC d=false/\∀m,oR m d=false):=by
 rcases h with h| ⟨b,rfl⟩| ⟨x,rfl⟩|rfl| ⟨X,rfl⟩| ⟨X,rfl⟩
 ·exact .inl h
 all_goals exact .inr ⟨rfl,λ_=>rfl⟩
theorem IZ(a:Flat S)(m:Int)(h:Kn d):gK [.int m,d] S=.ok (.bl (oR m d)) S:=by
 rcases h.isI_or with⟨i,rfl⟩| ⟨H,e⟩
 ·rw[IX];exact K90.BM a m i
 ·rw[e m];have b:=kx a h;rw[H]at b
  have c:∀l H:Int,eL [d,.int l,.int H] S=.ok (.bl false) S:=λl H=>by refine aL rfl ?_ rfl a rfl;show ag nC G0 iw [some d,some (.int l),some (.int H)] S=_;simp[iw,ag,ar,ah,ai,Res.bind,Res.noErr,aB,ub,b]
  refine aL rfl ?_ rfl a rfl;show ag uc G0 nD [some (.int m),some d] S=_;have f:dz .Sub (.int m) (.int 1) S=.ok (.int (m-1)) S:=rfl;simp only[nD,ag,ar,ah,ai,Res.bind,Res.noErr,AI,c,f,Zl,Zq]
theorem ky{f:D->Bool}:fK [.lst (ds.map λd=>.bl (f d))] S=.ok (.bl (ds.all f)) S:=by show bg (a_ ((ds.map λd=>D.bl (f d)).map gT)) S=_;rw[List.map_map];have:a_ (ds.map (gT∘λd=>D.bl (f d)))=some (ds.all f):=allO_map;rw[this];rfl
theorem Cb{step:D->List D->af->Res (List D)}(f:D->Bool)(h:∀x∈xs,∀acc,acc.length<bx->step x acc S=.ok (acc++[.bl (f x)]) S)(a:xs.length<=bx):aS step xs [] S=.ok (xs.map λx=>D.bl (f x)) S:=by rw[uT (λx=>some (.bl (f x))) xs [] (λx b acc H=>h x b acc H) (by simpa using a)];simp
theorem kz{e:CE}{rs:List (Option D)}{it:CE}{f:D->Bool}(m:bj Φ G0 it ρ S=.ok (.items ds) S)(n:fr.map (λj=>j.bind λj=>(ρ[j]?).join)=none::rs)(o:ds.length<=1000)(l:∀d∈ds,ah Φ G0 e (some d::rs) S=.ok (.bl (f d)) S):
  ah Φ G0 (.comp false N fr (.var 0) it [] (.emit e)) ρ S=.ok (.lst (ds.map λd=>.bl (f d))) S:=by
 refine iK m ?_;rw[n];refine Cb f (λd i a g=>?_) (show ds.length<=16777216 by omega);have h:a.length<16777216:=g;have H:bh (.var 0) d (none::rs)=some (some d::rs):=rfl
 show(match bh (.var 0) d (none::rs)with
  |some b=>(aX Φ G0 [] b S).bind λk c=>if k=true then bz Φ G0 (.emit e) b a c else .ok a c
  |none=>.fail)=_
 rw[H];simp[aX,bz,Res.bind,l d i,h]
theorem gh{i:Nat}(h:ρ[i]?=some (some (.tup ds))):bj Φ G0 (.seq (.var i)) ρ S=.ok (.items ds) S:=by simp[bj,ah,h,Res.bind,dC]
theorem kA{e:CE}{f:D->Bool}(h:ah Φ G0 e ρ S=.ok (.lst (ds.map λd=>.bl (f d))) S):ah Φ G0 (.blt .all [e]) ρ S=.ok (.bl (ds.all f)) S:=by have H:aG .all [.lst (ds.map λd=>D.bl (f d))] S=.ok (.bl (ds.all f)) S:=ky;simp only[ah,ai,h,Res.bind,H,Res.noErr]
theorem Cc:j_=[.ret (.band (.blt .isinst [.var 1,.ty "tuple"]) (.blt .all [Dt]))]:=rfl
theorem u5(a:Flat S)(m:Int)(h:∀x∈xs,Kn x)(j:xs.length<=1000):fu [.int m,.tup xs] S=.ok (.bl (xs.all (oR m))) S:=by
 refine aL rfl ?_ rfl a rfl;show ag ix G0 j_ [some (.int m),some (.tup xs)] S=_;have g:aG .isinst [.tup xs,.ty "tuple"] S=.ok (.bl true) S:=rfl
 have b:=kA (S:=S) (kz (S:=S) (Φ:=ix) (N:=["place","many"]) (fr:=[none,some 0]) (e:=.call "is_place" [.var 1,.var 0]) (ρ:=[some (.int m),some (.tup xs)]) (rs:=[some (.int m)]) (f:=oR m) (gh (i:=1) rfl) rfl j λd c=>by have k:=IZ a m (h d c);simp only[ah,ai,Res.bind,AJ,k,Zl,Zq]);rw[Cc];refine a9 ?_;generalize l:(CE.blt gF.all [Dt])=q;have H:ah ix G0 q [some (.int m),some (.tup xs)] S=.ok (.bl (xs.all (oR m))) S:=l▸b;simp only[ar,ah,ai,Res.bind,Res.noErr,g,aB,H,Zl,Zq,if_true]
def NT(d:D):Prop:=∀S,b5 [d,.ty "tuple"] S=.ok (.bl false) S
theorem I3(H:Flat S)(m:Int)(h:NT d):fu [.int m,d] S=.ok (.bl false) S:=by refine aL rfl ?_ rfl H rfl;show ag ix G0 j_ [some (.int m),some d] S=_;have a:aG .isinst [d,.ty "tuple"] S=.ok (.bl false) S:=h S;rw[Cc];refine a9 ?_;simp only[ar,ah,ai,Res.bind,Res.noErr,a,aB,Zl,Zq,Zr,ZR]
theorem oS(H:Flat S)(h:fu [.int m,d] S=.ok (.bl false) S):ez [.int m,d] S=.ok (.bl false) S:=by refine aL rfl ?_ rfl H rfl;show ag iy G0 gb [some (.int m),some d] S=_;simp[gb,ag,ar,ah,ai,Res.bind,aB,nE,h]
theorem I7(a:Flat S)(h:∀x∈xs,Kn x)(d:xs.length<=1000)(f:xs.length≠2):ez [.int m,.tup xs] S=.ok (.bl false) S:=by
 have H:=u5 a m h d;cases e:xs.all (oR m)with
 |false=>rw[e]at H;exact oS a H
 |true=>
  rw[e]at H;refine aL rfl ?_ rfl a rfl;show ag iy G0 gb [some (.int m),some (.tup xs)] S=_;have b:aG .len [.tup xs] S=.ok (.int (xs.length:Nat)) S:=rfl
  have c:aD .Eq (.int (xs.length:Nat)) (.int 2) S=.ok (.bl false) S:=by
   have:aD .Eq (.int (xs.length:Nat)) (.int 2) S=.ok (.bl (((xs.length:Nat):Int)==2)) S:=rfl;rw[this];have:¬(((xs.length:Nat):Int)=2):=by omega
   simp[this]
  simp[gb,ag,ar,ah,ai,Res.bind,Res.noErr,aB,nE,H,b,c]
structure iP (e:D):Prop where
 kn:Kn e
 tu:∀xs,e=.tup xs->(∀x∈xs,Kn x)/\xs.length<=1000/\(xs.length≠2\/xs.all fC=false)
theorem Kn.nt(h:Kn d):NT d\/∃xs,d=.tup xs:=by
 rcases h with⟨i,rfl⟩| ⟨b,rfl⟩| ⟨x,rfl⟩|rfl|h| ⟨xs,rfl⟩
 ·exact .inl λ_=>rfl
 ·exact .inl λ_=>rfl
 ·exact .inl λ_=>rfl
 ·exact .inl λ_=>rfl
 ·exact .inr h
 ·exact .inl λ_=>rfl
theorem I8(h:xs.all fC=false):xs.all (oR m)=false:=by rw[List.all_eq_false]at h⊢;obtain⟨x,H,q⟩:=h;refine⟨x,H,λz=>q ?_⟩;cases x<;>first|rfl|cases z
theorem Cd(a:Flat S)(m:Int){e:D}(h:iP e):ez [.int m,e] S=.ok (.bl false) S:=by
 rcases h.kn.nt with g| ⟨x,rfl⟩
 ·exact oS a (I3 a m g)
 ·obtain⟨b,c,H⟩:=h.tu x rfl;by_cases d:x.length=2
  ·rcases H with H|H
   ·exact absurd d H
   ·have f:=u5 a m b c;rw[I8 H]at f;exact oS a f
  ·exact I7 a b c d
theorem Ce(j:Flat S)(g:D->D->Bool)(l:xs.length<=1000)(h:∀x∈xs,∀y∈xs,iY S bC x y=some (g x y)):dq [.tup xs] S=.ok (.bl ((List.zipWith g xs (xs.drop 1)).all id)) S:=by
 refine aL rfl ?_ rfl j rfl;have b:ej S (.tup xs) (.tup (xs.drop 1))=some (.items (List.zipWith (λx y=>.tup [x,y]) xs (xs.drop 1))):=rfl;have f:=K90.BN xs;simp[ue,ud,ag,ar,ao,ah,ai,bj,Res.bind,Res.noErr,aB,kS,b9,cr,aG];simp only[f,b,bS]
 have a:(List.zipWith g xs (xs.drop 1)).all id=(List.zipWith (λx y=>D.tup [x,y]) xs (xs.drop 1)).all λd=>match d with
   | .tup [x,y]=>g x y
   |_=>false:=by
  generalize xs.drop 1=Y;clear b f l h
  induction xs generalizing Y with
  |nil=>rfl
  |cons x xs I=>
   cases Y with
   |nil=>rfl
   |cons y Y=>simp only[List.zipWith_cons_cons,List.all_cons,I Y,id]
 rw[Cb (λd=>match d with
   | .tup [x,y]=>g x y
   |_=>false)]
 ·simp only[Res.noErr];rw[ky,<-a,List.drop_one]
 ·intro z b A k;obtain⟨i,H⟩:=List.mem_iff_getElem?.mp b;rw[List.getElem?_zipWith]at H;cases e:xs[i]? with
  |none=>rw[e]at H;cases H
  |some x=>
   cases E:(xs.drop 1)[i]? with
   |none=>rw[e,E]at H;cases H
   |some y=>rw[e,E]at H;cases H;rw[List.getElem?_drop,Nat.add_comm]at E;have c:=h x (Zu e) y (Zu E);simp[bh,bR,slots,dB,aQ,bZ,aX,bz,ah,Res.bind,aD,c,bg,Res.noErr];unfold bx at k;omega
 ·simp;unfold bx;omega
noncomputable def cL(ps:Lq):Bool:=(List.zipWith (λx y=>decide (aA x y)) ps (ps.drop 1)).all id
theorem iQ:∀ps:Lq,cL ps=true↔ps.Pairwise aA
 | []=>by simp[cL]
 | [x]=>by simp[cL]
 |x::y::ps=>by
  have i:=iQ (y::ps);have e:cL (x::y::ps)=(decide (aA x y)&&cL (y::ps)):=rfl;rw[e,ZY,decide_eq_true_eq,i,ZW (a:=x)];constructor
  ·intro⟨h,H⟩;refine⟨λz b=>?_,H⟩;rcases Zk.mp b with rfl|b
   ·exact h
   ·exact K90.B0 h ((ZW.mp H).1 z b)
  ·intro⟨h,H⟩;exact⟨h y Ze,H⟩
noncomputable def Ks:D->D->Bool
 | .tup [.int a,.int b],.tup [.int c,.int d]=>decide (aA (a,b) (c,d))
 |_,_=>false
theorem u6(H:Flat S)(a:ps.length<=1000):dq [.tup (aa ps)] S=.ok (.bl (cL ps)) S:=by
 have h:=Ce H (xs:=aa ps) Ks (by unfold aa;simpa using a) λx b y c=>by obtain⟨t,_,rfl⟩:=Zp.mp b;obtain⟨u,_,rfl⟩:=Zp.mp c;exact K90.BL S 38 t u
 rw[h];unfold aa cL;rw[<-List.map_drop,List.zipWith_map];rfl
theorem Cf(c:Flat S)(m:Int)(t:Int×Int):ez [.int m,al t] S=.ok (.bl (decide (0<=t.1/\t.1<t.2/\t.2<m))) S:=by
 have h:=u5 c m (xs:=[.int t.1,.int t.2]) (by intro x H;simp at H;rcases H with rfl|rfl<;>exact .inl ⟨_,rfl⟩) (by simp);have g:[D.int t.1,D.int t.2].all (oR m)=decide ((0<=t.1/\t.1<m)/\0<=t.2/\t.2<m):=by simp[oR]
 rw[g]at h;by_cases d:(0<=t.1/\t.1<m)/\0<=t.2/\t.2<m
 ·rw[ZD d]at h
  have e:=Ce c (xs:=[.int t.1,.int t.2]) (λx y=>match x,y with
   | .int a,.int b=>decide (a<b)
   |_,_=>false) (by simp) (by intro x H y f;simp at H f;rcases H with rfl|rfl<;>rcases f with rfl|rfl<;>rfl)
  have i:(List.zipWith (λx y=>match x,y with
   |D.int a,D.int b=>decide (a<b)
   |_,_=>false) [D.int t.1,D.int t.2] ([D.int t.1,D.int t.2].drop 1)).all id=decide (t.1<t.2):=by simp
  rw[i]at e;refine aL rfl ?_ rfl c rfl;show ag iy G0 gb [some (.int m),some (al t)] S=_;have j:fu [.int m,al t] S=.ok (.bl true) S:=h;have k:dq [al t] S=.ok (.bl (decide (t.1<t.2))) S:=e;have l:aG .len [al t] S=.ok (.int 2) S:=rfl;have n:aD .Eq (.int 2) (.int 2) S=.ok (.bl true) S:=rfl
  have E:decide (0<=t.1/\t.1<t.2/\t.2<m)=decide (t.1<t.2):=by apply decide_eq_decide.mpr;omega
  rw[E];simp only[gb,ag,ar,ao,ah,ai,Res.bind,Res.noErr,aB,nE,AL,j,k,l,n,Zl,Zq,if_true]
 ·rw[Zx d]at h;rw[Zx (by omega)];exact oS c h
noncomputable def gw(ts:Lq):D->Bool
 | .tup [.int a,.int b]=>decide ((a,b)∈ts)
 |_=>false
def Item(e:D):Prop:=(∃t,e=al t)\/iP e
theorem iP.not{e:D}(h:iP e)(ts:Lq):gw ts e=false:=by
 unfold gw;split
 ·rename_i a b;obtain⟨_,_,q⟩:=h.tu _ rfl;rcases q with q|q
  ·exact absurd rfl q
  ·cases q
 ·rfl
theorem oU(ts:Lq)(t:Int×Int):gw ts (al t)=decide (t∈ts):=rfl
theorem u8{ts:Lq}:∀{es:List D},es.all (gw ts)=true->∃ps,es=aa ps/\∀t∈ps,t∈ts
 | [],_=>⟨[],rfl,λ_ h=>by cases h⟩
 |e::es,h=>by
  rw[List.all_cons,ZY]at h;obtain⟨ps,rfl,d⟩:=u8 h.2;have H:=h.1;unfold gw at H;split at H
  ·rename_i a b;refine⟨(a,b)::ps,rfl,λt c=>?_⟩;rcases Zk.mp c with rfl|c
   ·exact ZT H
   ·exact d t c
  ·cases H
theorem Cg(h:∀t∈ps,t∈ts):(aa ps).all (gw ts)=true:=by rw[Zn];intro e H;obtain⟨t,a,rfl⟩:=Zp.mp H;rw[oU];exact ZD (h t a)
theorem u9:kb=[.ite (.bnot (.blt .isinst [.var 1,.ty "tuple"])) [.ret (.lit (.bl false))] [],.ret (.band (.blt .all [AS]) (.call "is_rising" [.var 1]))]:=rfl
theorem Ch(f:Flat S)(W:cz m ts){e:D}(h:Item e):ah eM G0 AR [some e,some (aq m ts)] S=.ok (.bl (gw ts e)) S:=by
 have a:bp (aq m ts) (.int 0) S=.ok (.int m) S:=rfl;have b:bp (aq m ts) (.int 1) S=.ok (.tup (aa ts)) S:=rfl;rcases h with⟨t,rfl⟩|h
 ·have H:=Cf f m t;have d:=uU S t ts;by_cases c:0<=t.1/\t.1<t.2/\t.2<m
  ·rw[ZD c]at H;simp only[AR,ah,ai,Res.bind,Res.noErr,nF,a,b,H,aB,aD,d,bg,Zl,Zq,if_true];rfl
  ·rw[Zx c]at H;have g:gw ts (al t)=false:=by rw[oU];exact Zx λq=>c (W.tie t q)
   rw[g];simp only[AR,ah,ai,Res.bind,Res.noErr,nF,a,b,H,aB,Zl,Zq,Zr,ZR]
 ·have H:=Cd f m h;rw[h.not ts];simp only[AR,ah,ai,Res.bind,Res.noErr,nF,a,b,H,aB,Zl,Zq,Zr,ZR]
theorem Ci{w:D}:ag eM G0 (.ite (.bnot (.blt .isinst [.var 1,.ty "tuple"])) [.ret (.lit (.bl false))] []::cs) [some w,some (.tup xs)] S=ag eM G0 cs [some w,some (.tup xs)] S:=by have h:b5 [.tup xs,.ty "tuple"] S=.ok (.bl true) S:=rfl;exact bv (by simp[ar,ag,ao,ah,ai,Res.bind,Res.noErr,aG,h,a'])
theorem Cj(H:Flat S){w:D}(h:NT d):gc [w,d] S=.ok (.bl false) S:=by refine aL rfl ?_ rfl H rfl;show ag eM G0 kb [some w,some d] S=_;rw[u9];refine a9 ?_;simp[ar,ag,ao,ah,ai,Res.bind,Res.noErr,aG,h S,a']
theorem kB(H:Flat S)(W:cz m ts){es:List D}(h:∀e∈es,Item e)(b:es.length<=1000):ah eM G0 (.blt .all [AS]) [some (aq m ts),some (.tup es)] S=.ok (.bl (es.all (gw ts))) S:=
 kA (S:=S) (kz (S:=S) (rs:=[some (aq m ts)]) (f:=gw ts) (gh (i:=1) rfl) rfl b λd a=>Ch H W (h d a))
theorem I9(a:Flat S)(W:cz m ts){es:List D}(h:∀e∈es,Item e)(b:es.length<=1000)(c:es.all (gw ts)=false):gc [aq m ts,.tup es] S=.ok (.bl false) S:=by refine aL rfl ?_ rfl a rfl;show ag eM G0 kb [some (aq m ts),some (.tup es)] S=_;rw[u9,Ci];refine a9 ?_;have H:=kB a W h b;rw[c]at H;generalize(CE.blt gF.all [AS])=q at H;simp only[ar,ah,Res.bind,H,aB,Zr,ZR]
theorem I_(H:Flat S)(W:cz m ts)(h:∀t∈ps,t∈ts)(b:ps.length<=1000):gc [aq m ts,.tup (aa ps)] S=.ok (.bl (cL ps)) S:=by
 refine aL rfl ?_ rfl H rfl;show ag eM G0 kb [some (aq m ts),some (.tup (aa ps))] S=_;rw[u9,Ci];refine a9 ?_
 have a:=kB H W (es:=aa ps) (λe c=>by obtain⟨t,_,rfl⟩:=Zp.mp c;exact .inl ⟨t,rfl⟩) (by unfold aa;simpa using b);rw[Cg h]at a;generalize(CE.blt gF.all [AS])=q at a;have d:=u6 H b;simp only[ar,ah,ai,Res.bind,a,aB,if_true,AU,d,Zl,Zq]
theorem kC:∀(ns acc:Li),(ns.foldl step_dedup acc).length<=acc.length+ns.length
 | [],acc=>by simp
 |n::ns,acc=>by
  have h:=kC ns (step_dedup acc n);have:(step_dedup acc n).length<=acc.length+1:=by unfold step_dedup;split<;>simp
  simp;omega
theorem Ck:∀(ns acc:Li),acc.Nodup->((ns.foldl step_dedup acc).length=acc.length+ns.length↔(acc++ns).Nodup)
 | [],acc,h=>by simp[h]
 |n::ns,acc,h=>by
  simp;by_cases a:n∈acc
  ·have e:step_dedup acc n=acc:=by
    unfold step_dedup;simp_all
   have:=kC ns acc
   grind
  ·have e:step_dedup acc n=acc++[n]:=by
    unfold step_dedup;simp_all
   have H:(acc++[n]).Nodup:=by
    grind
   have i:=Ck ns _ H
   grind
theorem I'(h:ns.length<1000):hZ (.lst (ns.map D.int)) S=.ok (.int ((cE ns).length:Nat)) S:=by
 have e:(ns.map D.int).all (aw .int)=true:=by rw[Zn];intro x H;obtain⟨n,_,rfl⟩:=Zp.mp H;rfl
 have E:(ns.map D.int).filterMap cS=ns:=by rw[List.filterMap_map];exact List.filterMap_some
 show(if(ns.map D.int).all (aw .int)=true/\(ns.map D.int).length<1000 then Res.ok (D.int ((cE ((ns.map D.int).filterMap cS)).length:Nat)) S else _)=_;rw[if_pos ⟨e,by simpa using h⟩,E]
theorem Cm(H:ns.length<1000):∃a b:Int,hZ (.lst (ns.map D.int)) S=.ok (.int a) S/\ef [.lst (ns.map D.int)] S=.ok (.int b) S/\aD .Eq (.int a) (.int b) S=.ok (.bl (decide ns.Nodup)) S:=by
 refine⟨_,(ns.length:Nat),I' H,?_,?_⟩
 ·simp[ef,az]
 ·have e:aD .Eq (.int ((cE ns).length:Nat)) (.int (ns.length:Nat)) S=.ok (.bl (((cE ns).length:Int)==(ns.length:Int))) S:=rfl;rw[e];have h:=Ck ns [] (by simp);simp only[ZQ,Nat.zero_add,List.nil_append]at h
  have:(((cE ns).length:Int)==(ns.length:Int))=decide ns.Nodup:=by rw[Bool.eq_iff_iff,decide_eq_true_eq,<-h];unfold cE;rw[beq_iff_eq];omega
  rw[this]
theorem Ja(d:Flat S)(e:ns.length<1000):ka [.lst (ns.map D.int)] S=.ok (.bl (decide ns.Nodup)) S:=by refine aL rfl ?_ rfl d rfl;obtain⟨a,b,h,H,c⟩:=Cm (S:=S) e;simp[uf,AK,ag,ar,ah,ai,Res.bind,Res.noErr,aG,h,H,c]
theorem Cn:kc=[.expr (.call "must_be_web" [.var 0]),.ret (.band (.call "are_ties" [.var 0,.var 1]) (.call "are_unlike" [AX]))]:=rfl
theorem Co(H:Flat S)(W:cz m ts):ag fv G0 (.expr (.call "must_be_web" [.var 0])::cs) [some (aq m ts),some d] S=ag fv G0 cs [some (aq m ts),some d] S:=by have h:d6 [aq m ts] S=.ok .non S:=K90.uW H W;exact bv (by simp[ar,ah,ai,Res.bind,uk,h])
theorem oV(H:Flat S)(W:cz m ts)(h:gc [aq m ts,d] S=.ok (.bl false) S):eA [aq m ts,d] S=.ok (.bl false) S:=by refine aL rfl ?_ rfl H rfl;show ag fv G0 kc [some (aq m ts),some d] S=_;rw[Cn,Co H W];refine a9 ?_;simp only[ar,ah,ai,Res.bind,ul,h,aB,Zl,Zq,Zr,ZR]
theorem Jb(h:ρ[1]?=some (some (.tup (aa ps))))(d:ps.length<=100):ah fv G0 AX ρ S=.ok (.lst ((av ps).map D.int)) S:=by
 refine iK (gh h) ?_;unfold aa;show aS _ (ps.map al) [] S=_;rw[uY (f:=al) (g:=λt=>[.int t.1,.int t.2]) (c:=2) (λx=>by simp)]
 ·rw[BV];rfl
 ·intro t i a H;have b:a.length+2<=16777216:=H;have e:bh (.var 0) (al t) [none,none]=some [some (al t),none]:=rfl;have E:dC S (al t)=some (.items [.int t.1,.int t.2]):=rfl;simp[e,bh,bR,slots,dB,aQ,bZ,aX,bz,ah,bj,Res.bind,Res.noErr,E,bS,aS,show a.length<16777216 by omega,show a.length+1<16777216 by omega]
 ·unfold bx;simp;omega
theorem Jc(H:Flat S)(W:cz m ts)(h:∀t∈ps,t∈ts)(c:ps.length<=100):eA [aq m ts,.tup (aa ps)] S=.ok (.bl (cL ps&&decide (av ps).Nodup)) S:=by
 have a:=I_ H W h (show ps.length<=1000 by omega);cases e:cL ps with
 |false=>rw[e]at a;exact oV H W a
 |true=>rw[e]at a;refine aL rfl ?_ rfl H rfl;show ag fv G0 kc [some (aq m ts),some (.tup (aa ps))] S=_;rw[Cn,Co H W];refine a9 ?_;have b:=Jb (S:=S) (ρ:=[some (aq m ts),some (.tup (aa ps))]) rfl c;have d:=Ja H (ns:=av ps) (by rw[uZ];omega);generalize AX=q at b;simp only[ar,ah,ai,Res.bind,ul,AY,a,b,d,aB,Zl,Zq,if_true,Bool.true_and]
theorem u_:kh=[.ite (.bnot (.blt .isinst [.var 1,.ty "tuple"])) [.ret (.lit (.bl false))] [],.asg 2 (.lst false []),.for_ (.var 3) (.seq (.var 1)) qp,.ret HI]:=rfl
theorem vc(b:Flat S)(a:ρ[3]?=some (some (.tup xs)))(h:∀x∈xs,Kn x)(e:xs.length<=1000):ah bB G0 (.blt .all [HH]) ρ S=.ok (.bl (xs.all fC)) S:=
 kA (S:=S) (kz (S:=S) (rs:=[]) (f:=fC) (gh a) rfl e λd c=>by have H:=kx b (h d c);rw[<-IY]at H;simp only[ah,ai,Res.bind,HJ,H,Zl])
theorem vd{b:gF}{es:List CE}{k:Bool}(h:ah Φ G0 (.blt b es) ρ S=.ok (.bl k) S):ao Φ G0 (.blt b es) ρ S=.ok k S:=by
 rw[ah]at h;rw[ao];cases e:ai Φ G0 es ρ S with
 |ok D a=>
  rw[e]at h;simp only[Res.bind]at h⊢;cases E:(aG b D a)with
  |ok d c=>rw[E]at h;simp only[Res.noErr]at h⊢;cases h;rfl
  |err x c=>rw[E]at h;cases h
  |fail=>rw[E]at h;cases h
 |err x a=>rw[e]at h;cases h
 |fail=>rw[e]at h;cases h
theorem Cp{e:D}(a:ρ[3]?=some (some e))(h:NT e):ao bB G0 qo ρ S=.ok true S:=by have b:aG .isinst [e,.ty "tuple"] S=.ok (.bl false) S:=h S;have H:ao bB G0 (.blt .isinst [.var 3,.ty "tuple"]) ρ S=.ok false S:=vd (by simp only[ah,ai,a,Res.bind,b,Res.noErr]);unfold qo;generalize(CE.blt .isinst [.var 3,.ty "tuple"])=q at H⊢;simp only[ao,H,Res.bind,Bool.not_false,if_true]
theorem kD(d:Flat S)(H:ρ[3]?=some (some (.tup xs)))(h:∀x∈xs,Kn x)(i:xs.length<=1000):ao bB G0 qo ρ S=.ok (!(decide (xs.length=2)&&xs.all fC)) S:=by
 have g:aG .isinst [.tup xs,.ty "tuple"] S=.ok (.bl true) S:=rfl;have a:ao bB G0 (.blt .isinst [.var 3,.ty "tuple"]) ρ S=.ok true S:=vd (by simp only[ah,ai,H,Res.bind,g,Res.noErr]);have j:aG .len [.tup xs] S=.ok (.int (xs.length:Nat)) S:=rfl
 have f:aD .NotEq (.int (xs.length:Nat)) (.int 2) S=.ok (.bl (!(decide (xs.length=2)))) S:=by
  have:aD .NotEq (.int (xs.length:Nat)) (.int 2) S=.ok (.bl (!(((xs.length:Nat):Int)==2))) S:=rfl;rw[this];have e:(((xs.length:Nat):Int)==2)=decide (xs.length=2):=by rw[Bool.eq_iff_iff,beq_iff_eq,decide_eq_true_eq];omega
  rw[e]
 have b:ao bB G0 (.cmp .NotEq (.blt .len [.var 3]) (.lit (.int 2))) ρ S=.ok (!(decide (xs.length=2))) S:=by simp only[ao,ah,ai,H,Res.bind,j,Res.noErr,f,aB]
 have c:=vd (vc d H h i);unfold qo;generalize(CE.blt .isinst [.var 3,.ty "tuple"])=q at a⊢;generalize(CE.cmp .NotEq (.blt .len [.var 3]) (.lit (.int 2)))=Q at b⊢;generalize(CE.blt .all [HH])=k at c⊢;simp only[ao,a,b,c,Res.bind,Bool.not_true,Zr,ZR];cases decide (xs.length=2)<;>simp
theorem vf(c:Flat S){e:D}(H:ρ[3]?=some (some e))(h:iP e):ao bB G0 qo ρ S=.ok true S:=by
 rcases h.kn.nt with d| ⟨x,rfl⟩
 ·exact Cp H d
 ·obtain⟨a,b,q⟩:=h.tu x rfl;rw[kD c H a b];rcases q with q|q
  ·rw[Zx q];rfl
  ·rw[q];simp
theorem vg(a:Flat S){t:Int×Int}(H:ρ[3]?=some (some (al t))):ao bB G0 qo ρ S=.ok false S:=by rw[kD a (xs:=[.int t.1,.int t.2]) H (by intro x h;simp at h;rcases h with rfl|rfl<;>exact .inl ⟨_,rfl⟩) (by simp)];rfl
theorem oW(g:Flat S){w th:D}{e:D}(h:Item e){ac:Li}(o:ac.length<=1000):
  ag bB G0 qp [some (aq m ts),some th,some (.lst (ac.map D.int)),some e] S=(if gw ts e=true then .ok (.next [some (aq m ts),some th,some (.lst ((ac++(match e with
   | .tup [.int a,.int b]=>[a,b]
   |_=>[])).map D.int)),some e]) S else .ok (.ret (.bl false)) S):=by
 unfold qp;rcases h with⟨t,rfl⟩|h
 ·have i:ar bB G0 (.ite qo [.ret (.lit (.bl false))] []) [some (aq m ts),some th,some (.lst (ac.map D.int)),some (al t)] S=.ok (.next [some (aq m ts),some th,some (.lst (ac.map D.int)),some (al t)]) S:=by
   rw[dL (vg g rfl)];simp only[Zr,ZR,ag]
  rw[bv i];have n:bp (aq m ts) (.int 1) S=.ok (.tup (aa ts)) S:=rfl;have f:=uU S t ts
  have j:ao bB G0 (.cmp .NotIn (.var 3) (.idx (.var 0) (.lit (.int 1)))) [some (aq m ts),some th,some (.lst (ac.map D.int)),some (al t)] S=.ok (!decide (t∈ts)) S:=by simp only[ao,ah,Res.bind,Res.noErr,n,aD,f,bg,aB,Zl,Zq,Option.map_some]
  have H:=dL (a:=[.ret (.lit (.bl false))]) (b:=[]) j;by_cases d:t∈ts
  ·rw[ZD d]at H;simp only[Bool.not_true,Zr,ZR,ag]at H;rw[bv H,oU,ZD d,if_pos rfl];have l:aG (.list false) [al t] S=.ok (.lst [.int t.1,.int t.2]) S:=rfl
   have c:dz .Add (.lst (ac.map D.int)) (.lst [.int t.1,.int t.2]) S=.ok (.lst (ac.map D.int++[.int t.1,.int t.2])) S:=by show(if(ac.map D.int).length+2<=bx then Res.ok (D.lst (ac.map D.int++[.int t.1,.int t.2])) S else .fail)=_;rw[if_pos (by rw[Zm];unfold bx;omega)]
   have k:ah bB G0 (.bin .Add (.var 2) (.blt (.list false) [.var 3])) [some (aq m ts),some th,some (.lst (ac.map D.int)),some (al t)] S=.ok (.lst (ac.map D.int++[.int t.1,.int t.2])) S:=by simp only[ah,ai,Res.bind,Res.noErr,l,c,Zl,Zq]
   rw[bw k];simp[ag,al]
  ·rw[Zx d]at H;simp only[Bool.not_false,if_true,ag,ar,ah,Res.bind]at H;rw[oU,Zx d,if_neg (by simp)];exact a9 H
 ·rw[h.not ts,if_neg (by simp)];have H:=dL (a:=[.ret (.lit (.bl false))]) (b:=[]) (vf g (ρ:=[some (aq m ts),some th,some (.lst (ac.map D.int)),some e]) rfl h);simp only[if_true,ag,ar,ah,Res.bind]at H;exact a9 H
theorem vh(l:Flat S){m:Int}{ts:Lq}{th:D}{step:D->bt->af->Res Fl}(hs:∀e ρ,ρ.length=4->step e ρ S=ag bB G0 qp (ρ.set 3 (some e)) S):∀(es:List D) (ac:Li) (x:Option D),(∀e∈es,Item e)->ac.length+2*es.length<=1000->
  (es.all (gw ts)=false->cV step es [some (aq m ts),some th,some (.lst (ac.map D.int)),x] S=.ok (.ret (.bl false)) S)/\(∀ps,es=aa ps->(∀t∈ps,t∈ts)->∃y,cV step es [some (aq m ts),some th,some (.lst (ac.map D.int)),x] S=.ok (.next [some (aq m ts),some th,some (.lst ((ac++av ps).map D.int)),y]) S)
 | [],ac,x,_,_=>by
  refine⟨λh=>(by cases h),λps H _=>⟨x,?_⟩⟩
  have:ps=[]:=by cases ps with
   |nil=>rfl
   |cons a b=>cases H
  subst this;show Res.ok _ _=_;simp[av]
 |e::es,ac,x,n,B=>by
  simp only[ZG]at B;have s:=oW l (m:=m) (ts:=ts) (w:=.non) (th:=th) (n e Ze) (ac:=ac) (by omega);have d:step e [some (aq m ts),some th,some (.lst (ac.map D.int)),x] S=ag bB G0 qp [some (aq m ts),some th,some (.lst (ac.map D.int)),some e] S:=hs e _ rfl;rw[s]at d;cases i:gw ts e with
  |false=>rw[i,if_neg (by simp)]at d;refine⟨λ_=>by unfold cV;rw[d];rfl,λps H g=>?_⟩;have:=Cg g;rw[<-H,List.all_cons,i]at this;cases this
  |true=>
   rw[i,if_pos rfl]at d
   obtain⟨t,F,A⟩:∃t,t∈ts/\e=al t:=by
    obtain⟨ps,j,g⟩:=u8 (es:=[e]) (ts:=ts) (by rw[List.all_cons,i];rfl);cases ps with
    |nil=>cases j
    |cons t r=>exact⟨t,g t Ze,by injection j⟩
   subst A;have I:=vh l (m:=m) (ts:=ts) (th:=th) hs es (ac++[t.1,t.2]) (some (al t)) (λy k=>n y (Zc _ k)) (by simp only[Zo,ZG,ZQ];omega);have f:step (al t) [some (aq m ts),some th,some (.lst (ac.map D.int)),x] S=.ok (.next [some (aq m ts),some th,some (.lst ((ac++[t.1,t.2]).map D.int)),some (al t)]) S:=d;refine⟨λo=>?_,λps H g=>?_⟩
   ·rw[List.all_cons,i,Bool.true_and]at o;unfold cV;rw[f];exact I.1 o
   ·cases ps with
    |nil=>cases H
    |cons u r=>
     have E:al t=al u/\es=aa r:=by
      have:al t::es=al u::aa r:=H;injection this with a b
      exact⟨a,b⟩
     have p:t=u:=by
      have:=E.1;unfold al at this;injection this with z
      injection z with a b
      injection b with b c
      injection a with a
      injection b with b
      exact Prod.ext a b
     subst p;obtain⟨y,k⟩:=I.2 r E.2 λv C=>g v (Zc _ C);refine⟨y,?_⟩;unfold cV;rw[f];have q:ac++av (t::r)=ac++[t.1,t.2]++av r:=by rw[Z4];rfl
     rw[q];exact k
theorem Cq(n:Nat):∀(a b:Lq),a_ (List.zipWith (b7 S (n+2)) (aa a) (aa b))=some (decide (a.take b.length=b.take a.length))
 | [],b=>by simp[aa,a_]
 |a::as,[]=>by simp[aa,a_]
 |a::as,b::bs=>by
  have i:=Cq n as bs;have e:List.zipWith (b7 S (n+2)) (aa (a::as)) (aa (b::bs))=b7 S (n+2) (al a) (al b)::List.zipWith (b7 S (n+2)) (aa as) (aa bs):=rfl;rw[e,K90.BK]
  show(match some (decide (a=b)),a_ (List.zipWith (b7 S (n+2)) (aa as) (aa bs))with
   |some b,some c=>some (b&&c)
   |_,_=>none)=_
  rw[i];by_cases h:a=b<;>simp[h]
theorem kE(a b:Lq)(h:a.length=b.length):aD .Eq (.lst (aa a)) (.lst (aa b)) S=.ok (.bl (decide (a=b))) S:=by show bg (if(aa a).length=(aa b).length then a_ (List.zipWith (b7 S (37+2)) (aa a) (aa b))else some false) S=_;rw[if_pos (by unfold aa;simpa using h),Cq,h,List.take_length,<-h,List.take_length];rfl
theorem Cr(x:Int×Int):∀l:Lq,(∀y∈l,aA y x)->K90.insI x l=l++[x]
 | [],_=>rfl
 |y::l,h=>by
  have H:aA y x:=h y Ze;have a:¬aA x y:=by unfold aA at H⊢;omega
  have i:=Cr x l λz b=>h z (Zc _ b);unfold K90.insI;simp[a,i]
theorem Cs:∀(l acc:Lq),(acc++l).Pairwise aA->l.foldl (λacc x=>K90.insI x acc) acc=acc++l
 | [],acc,_=>by simp
 |x::l,acc,h=>by rw[List.foldl_cons,Cr x acc λy H=>(List.pairwise_append.mp h).2.2 y H x Ze];have:=Cs l (acc++[x]) (by rw[Z4];exact h);rw[this,Z4];rfl
theorem Jd(h:(av ps).Nodup):ps.Nodup:=by
 induction ps with
 |nil=>exact List.nodup_nil
 |cons t r i=>have e:av (t::r)=[t.1,t.2]++av r:=rfl;rw[e,Z3]at h;rw[List.nodup_cons];refine⟨λH=>?_,i h.2.1⟩;exact h.2.2 t.1 (by simp) t.1 (by unfold av;exact List.mem_flatMap.mpr ⟨t,H,by simp⟩) rfl
theorem Je(h:(av ps).Nodup):decide (ps=sortI ps)=cL ps:=by
 rw[Bool.eq_iff_iff,decide_eq_true_eq,iQ];constructor
 ·intro e;rw[e];exact K90.oF (Jd h)
 ·intro q;exact(Cs ps [] (by simpa using q)).symm
theorem Ct{w:D}{x y:Option D}:ag bB G0 (.ite (.bnot (.blt .isinst [.var 1,.ty "tuple"])) [.ret (.lit (.bl false))] []:: .asg 2 (.lst false [])::cs) [some w,some (.tup xs),x,y] S=ag bB G0 cs [some w,some (.tup xs),some (.lst ([].map D.int)),y] S:=by
 have h:b5 [.tup xs,.ty "tuple"] S=.ok (.bl true) S:=rfl;have H:ar bB G0 (.ite (.bnot (.blt .isinst [.var 1,.ty "tuple"])) [.ret (.lit (.bl false))] []) [some w,some (.tup xs),x,y] S=.ok (.next [some w,some (.tup xs),x,y]) S:=by simp[ar,ag,ao,ah,ai,Res.bind,Res.noErr,aG,h,a']
 rw[bv H,bw (d:=.lst []) (S':=S) (by simp[ah,ai,Res.bind])];rfl
theorem oX(H:Flat S){w:D}(h:NT d):fA [w,d] S=.ok (.bl false) S:=by refine aL rfl ?_ rfl H rfl;show ag bB G0 kh [some w,some d,none,none] S=_;rw[u_];refine a9 ?_;simp[ar,ag,ao,ah,ai,Res.bind,Res.noErr,aG,h S,a']
theorem oY(H:Flat S){es:List D}(h:∀e∈es,Item e)(d:es.length<=100)(b:es.all (gw ts)=false):fA [aq m ts,.tup es] S=.ok (.bl false) S:=by
 refine aL rfl ?_ rfl H rfl;show ag bB G0 kh [some (aq m ts),some (.tup es),none,none] S=_;rw[u_,Ct];refine a9 ?_;rw[kt (gh rfl)]
 exact(vh H (m:=m) (ts:=ts) (th:=.tup es) (λe a c=>by
  have:aQ (.var 3) e a=some (a.set 3 (some e)):=by simp[aQ,c]
  simp only[this]) es [] none h (by simp;omega)).1 b
theorem Jf(o:Flat S)(h:∀t∈ps,t∈ts)(w:ps.length<64):fA [aq m ts,.tup (aa ps)] S=.ok (.bl (cL ps&&decide (av ps).Nodup)) S:=by
 refine aL rfl ?_ rfl o rfl;show ag bB G0 kh [some (aq m ts),some (.tup (aa ps)),none,none] S=_;rw[u_,Ct]
 obtain⟨y,p⟩:=(vh o (m:=m) (ts:=ts) (th:=.tup (aa ps)) (step:=λx f S=>match aQ (.var 3) x f with
   |some n=>ag bB G0 qp n S
   |none=>.fail) (λe f A=>by
  have:aQ (.var 3) e f=some (f.set 3 (some e)):=by simp[aQ,A]
  simp only[this]) (aa ps) [] none (λe u=>by
  obtain⟨t,_,rfl⟩:=Zp.mp u;exact .inl ⟨t,rfl⟩) (by unfold aa;simp;omega)).2 ps rfl h
 rw[List.nil_append]at p;have v:ar bB G0 (.for_ (.var 3) (.seq (.var 1)) qp) [some (aq m ts),some (.tup (aa ps)),some (.lst ([].map D.int)),none] S=.ok (.next [some (aq m ts),some (.tup (aa ps)),some (.lst ((av ps).map D.int)),y]) S:=by rw[kt (gh rfl)];exact p
 rw[bv v];refine a9 ?_;obtain⟨a,b,q,r,s⟩:=Cm (S:=S) (ns:=av ps) (by rw[uZ];omega);have g:aG .len [.lst ((av ps).map D.int)] S=.ok (.int b) S:=r
 have H:ah bB G0 (.cmp .Eq (.lenset (.var 2)) (.blt .len [.var 2])) [some (aq m ts),some (.tup (aa ps)),some (.lst ((av ps).map D.int)),y] S=.ok (.bl (decide (av ps).Nodup)) S:=by simp only[ah,ai,Res.bind,Res.noErr,q,g,s,Zl,Zq]
 have i:aG (.list false) [.tup (aa ps)] S=.ok (.lst (aa ps)) S:=rfl;have j:aG (.sorted false (.seq .int)) [.tup (aa ps)] S=.ok (.lst (aa (sortI ps))) S:=oG (S:=S) (d:=.tup (aa ps)) (l:=ps) rfl w
 have c:ah bB G0 (.cmp .Eq (.blt (.list false) [.var 1]) (.blt (.sorted false (.seq .int)) [.var 1])) [some (aq m ts),some (.tup (aa ps)),some (.lst ((av ps).map D.int)),y] S=.ok (.bl (decide (ps=sortI ps))) S:=by have z:=kE (S:=S) ps (sortI ps) (K90.gg ps).length_eq.symm;simp only[ah,ai,Res.bind,Res.noErr,i,j,z,Zl,Zq]
 unfold HI;generalize(CE.cmp .Eq (.lenset (.var 2)) (.blt .len [.var 2]))=Q at H⊢;generalize(CE.cmp .Eq (.blt (.list false) [.var 1]) (.blt (.sorted false (.seq .int)) [.var 1]))=B at c⊢;by_cases k:(av ps).Nodup
 ·rw[Je k]at c;rw[ZD k]at H⊢;simp only[ar,ah,Res.bind,H,c,aB,if_true,Bool.and_true]
 ·rw[Zx k]at H⊢;simp only[ar,ah,Res.bind,H,aB,Zr,ZR,Bool.and_false]
theorem Jg:cc=K90.cc:=rfl
theorem gO:∀{es:List D},(∀e∈es,bd 0 e=true)->bo 0 es=true
 | [],_=>rfl
 |e::es,h=>by show(bd 0 e&&bo 0 es)=true;rw[h e Ze,gO λx H=>h x (Zc _ H)];rfl
def It(e:D):Prop:=Item e/\bd 0 e=true
structure bY (d:D):Prop where
 is:NT d\/∃es,d=.tup es/\(∀e∈es,Item e)/\es.length<64
 lo:bd 0 d=true
theorem du{es:List D}(a:es.length<64)(h:∀e∈es,It e):bY (.tup es):=⟨.inr ⟨es,rfl,λe H=>(h e H).1,a⟩,gO λe H=>(h e H).2⟩
theorem Cu{es:List D}(h:∀e∈es,It e):bY (.lst es):=⟨.inl λ_=>rfl,gO λe H=>(h e H).2⟩
theorem c7(t:Int×Int):It (al t):=⟨.inl ⟨t,rfl⟩,rfl⟩
theorem gj{e:D}(h:Kn e)(a:NT e)(H:bd 0 e=true):It e:=⟨.inr ⟨h,λx q=>by subst q;have:=a [];cases this⟩,H⟩
theorem eC(h:∀x∈xs,Kn x)(b:xs.length<=1000)(a:xs.length≠2\/xs.all fC=false)(H:bd 0 (.tup xs)=true):It (.tup xs):=⟨.inr ⟨.inr (.inr (.inr (.inr (.inl ⟨xs,rfl⟩)))),λy q=>by cases q;exact⟨h,b,a⟩⟩,H⟩
theorem iR{r:Int}(H:az S d=some xs)(h:0<=r)(h1:r<(xs.length:Nat)):∃x∈xs,bp d (.int r) S=.ok x S:=by
 have a:r.toNat<xs.length:=by omega
 have:gz xs r=some xs[r.toNat]:=by unfold gz gx;simp_all
 unfold bp;simp_all
theorem fD{p q:List D}(h:p.length+q.length<=1000):dz .Add (.tup p) (.tup q) S=.ok (.tup (p++q)) S:=by have e:dz .Add (.tup p) (.tup q) S=if p.length+q.length<=bx then .ok _ S else .fail:=rfl;lia
theorem oZ{p q:List D}(h:p.length+q.length<=1000):dz .Add (.lst p) (.lst q) S=.ok (.lst (p++q)) S:=by
 have e:dz .Add (.lst p) (.lst q) S=if p.length+q.length<=bx then .ok (.lst (p++q)) S else .fail:=by simp only[dz,fF,Py.cU]
 rw[e,if_pos (by show _<=16777216;omega)]
theorem kF(l:List D)(L h:Option Int):(aK l L h).Sublist l:=(List.take_sublist _ _).trans (List.drop_sublist _ _)
theorem o2(l:List D)(L h:Option Int):(aK l L h).length<=l.length:=(kF l _ _).length_le
theorem Jh:uI=[.asg 3 (kW (.bin .Add (.blt .len [.var 2]) (.lit (.int 1)))),.asg 4 (.idx kg (kW (.bin .Add (.blt .len [.idx (.var 1) (.lit (.int 1))]) (.lit (.int 1))))),.asg 5 g9,.asg 5 (.idx (.var 5) (kW (.lit (.int 11)))),.asg 6 og,.asg 6 (.bin .Add (.var 6) oh),.ret (.idx (.bin .Add (.var 6) oj) (kW (.lit (.int 13))))]:=rfl
theorem o3{e:CE}{k:Int}(H:Flat S)(g:aT S n)(h:0<k)(h1:k<1000)(i:ρ[0]?=some (some (.ref n)))(f:ah c5 G0 e ρ S=.ok (.int k) S):∃r S',0<=r/\r<k/\Drawn n S S'/\ah c5 G0 (kW e) ρ S=.ok (.int r) S':=by obtain⟨r,S',a,b,c,d⟩:=fB H g h h1;rw[<-Jg]at d;refine⟨r,S',a,b,c,?_⟩;unfold kW;simp only[ah,ai,i,f,Res.bind,HF,d]
theorem kG(l:List D):js (.tup l) (.int (-1)) S=.ok (.tup l.reverse) S:=rfl
theorem o4{T:D}{o:Int×Int}(h1:ρ[1]?=some (some (.tup [.int m,T])))(l:ρ[4]?=some (some (al o))):∃O:List D,(∀e∈O,It e)/\O.length=11/\ah c5 G0 g9 ρ S=.ok (.lst O) S:=by
 obtain⟨a,b⟩:=o;have H:∀i:Int,Kn (.int i):=λi=>.inl ⟨i,rfl⟩;refine⟨[al (a,b),al (b,a),.tup [.int a,.int b,.int 0],.lst [.int a,.int b],.tup [.int a],.non,.tup [.bl true,.int b],al (0,0),al (0,m),.str "0-1",.int 7],λe c=>?_,rfl,?_⟩
 ·simp only[Zk,Zv,or_false]at c;rcases c with rfl|rfl|rfl|rfl|rfl|rfl|rfl|rfl|rfl|rfl|rfl
  ·exact c7 _
  ·exact c7 _
  ·exact eC (by intro x h;simp at h;rcases h with rfl|rfl|rfl<;>exact H _) (by simp) (.inl (by simp)) rfl
  ·exact gj (.inr (.inr (.inr (.inr (.inr ⟨_,rfl⟩))))) (λ_=>rfl) rfl
  ·exact eC (by intro x h;simp at h;rcases h with rfl;exact H _) (by simp) (.inl (by simp)) rfl
  ·exact gj (.inr (.inr (.inr (.inl rfl)))) (λ_=>rfl) rfl
  ·exact eC (by intro x h;simp at h;rcases h with rfl|rfl;exact .inr (.inl ⟨_,rfl⟩);exact H _) (by simp) (.inr rfl) rfl
  ·exact c7 _
  ·exact c7 _
  ·exact gj (.inr (.inr (.inl ⟨_,rfl⟩))) (λ_=>rfl) rfl
  ·exact gj (H 7) (λ_=>rfl) rfl
 ·have E:js (al (a,b)) (.int (-1)) S=.ok (al (b,a)) S:=rfl;have d:dz .Add (al (a,b)) (.tup [.int 0]) S=.ok (.tup [.int a,.int b,.int 0]) S:=fD (p:=[.int a,.int b]) (by simp);have f:aG (.list false) [al (a,b)] S=.ok (.lst [.int a,.int b]) S:=rfl;have g:kS (al (a,b)) none (some 1) S=.ok (.tup [.int a]) S:=rfl;have j:bp (al (a,b)) (.int 1) S=.ok (.int b) S:=rfl;have k:bp (.tup [.int m,T]) (.int 0) S=.ok (.int m) S:=rfl;have t:cr [.int 1]=some (some 1):=rfl;have n:cr []=some none:=rfl;have z:D.tup [.int 0,.int 0]=al (0,0):=rfl;have Z:D.tup [.int 0,.int m]=al (0,m):=rfl;generalize al (a,b)=o at*;generalize al (b,a)=q at*;generalize D.tup [.int m,T]=w at*;simp only[g9,ah,ai,Res.bind,Res.noErr,h1,l,E,d,f,g,j,k,b9,t,n,z,Z,Zr,ZR]
theorem sl_tup(l:List D)(L h:Option Int):kS (.tup l) L h S=.ok (.tup (aK l L h)) S:=rfl
theorem vi{l:List D}{a:Int}{o:D}(q:l.length<=28)(g:ρ[2]?=some (some (.tup l)))(j:ρ[3]?=some (some (.int a)))(k:ρ[5]?=some (some o))(h:∀e∈l,It e)(m:It o):∃rs:List D,(∀e∈rs,bY e)/\rs.length=3/\ah c5 G0 og ρ S=.ok (.lst rs) S:=by
 have c:=o2 l;have C:∀L h,∀e∈aK l L h,It e:=λL f e d=>h e ((kF l L f).subset d);refine⟨[.tup (aK l none (some a)++[o]++aK l (some a) none),.tup (aK l none (some a)++[o]++aK l (some (a+1)) none),.tup l.reverse],λe d=>?_,rfl,?_⟩
 ·simp only[Zk,Zv,or_false]at d
  have z:∀L h b H,bY (.tup (aK l L h++[o]++aK l b H)):=λL h b H=>du (by
   have:=c L h;have:=c b H
   simp only[Zo,ZG,ZQ];omega) λe d=>by
    rcases ZE.mp d with d|d
    ·rcases ZE.mp d with d|d
     ·exact C _ _ e d
     ·rw[List.mem_singleton.mp d];exact m
    ·exact C _ _ e d
  rcases d with rfl|rfl|rfl
  ·exact z _ _ _ _
  ·exact z _ _ _ _
  ·exact du (by rw[List.length_reverse];omega) λe d=>h e (List.mem_reverse.mp d)
 ·have K:∀L h,dz .Add (.tup (aK l L h)) (.tup [o]) S=.ok (.tup (aK l L h++[o])) S:=λL h=>fD (by have:=c L h;simp only[ZG,ZQ];omega);have n:∀L h b H,dz .Add (.tup (aK l L h++[o])) (.tup (aK l b H)) S=.ok (.tup (aK l L h++[o]++aK l b H)) S:=λL h b H=>fD (by have:=c L h;have:=c b H;simp only[Zo,ZG,ZQ];omega);have p:dz .Add (.int a) (.int 1) S=.ok (.int (a+1)) S:=rfl;have T:∀i:Int,cr [.int i]=some (some i):=λi=>rfl;have t:cr []=some none:=rfl;simp only[og,ah,ai,Res.bind,Res.noErr,g,j,k,b9,T,t,sl_tup,K,n,p,kG,Zr,ZR]
theorem vj{l:List D}{a:Int}(o:l.length<=28)(g:ρ[2]?=some (some (.tup l)))(j:ρ[3]?=some (some (.int a)))(H:∀e∈l,It e)(k:It (.tup l)):∃rs:List D,(∀e∈rs,bY e)/\rs.length=8/\ah c5 G0 oh ρ S=.ok (.lst rs) S:=by
 have c:=o2 l;have C:∀L H,∀e∈aK l L H,It e:=λL f e h=>H e ((kF l L f).subset h);refine⟨[.lst l,.tup [.tup l],.non,.tup (l++aK l (some (-1)) none),.tup (aK l (some a) none++aK l none (some a)),.int 0,.dct,.tup []],λe h=>?_,rfl,?_⟩
 ·simp only[Zk,Zv,or_false]at h;rcases h with rfl|rfl|rfl|rfl|rfl|rfl|rfl|rfl
  ·exact Cu H
  ·exact du (by simp) λe h=>by rw[List.mem_singleton.mp h];exact k
  ·exact⟨.inl λ_=>rfl,rfl⟩
  ·refine du (by have:=c (some (-1)) none;simp only[Zo];omega) λe h=>?_;rcases ZE.mp h with h|h
   ·exact H e h
   ·exact C _ _ e h
  ·refine du (by have:=c (some a) none;have:=c none (some a);simp only[Zo];omega) λe h=>?_;rcases ZE.mp h with h|h<;>exact C _ _ e h
  ·exact⟨.inl λ_=>rfl,rfl⟩
  ·exact⟨.inl λ_=>rfl,rfl⟩
  ·exact du (by simp) λe h=>by cases h
 ·have K:aG (.list false) [.tup l] S=.ok (.lst l) S:=rfl;have m:∀L H,dz .Add (.tup l) (.tup (aK l L H)) S=.ok (.tup (l++aK l L H)) S:=λL H=>fD (by have:=c L H;omega);have n:∀L H d b,dz .Add (.tup (aK l L H)) (.tup (aK l d b)) S=.ok (.tup (aK l L H++aK l d b)) S:=λL H d b=>fD (by have:=c L H;have:=c d b;omega);have T:∀i:Int,cr [.int i]=some (some i):=λi=>rfl;have t:cr []=some none:=rfl;simp only[oh,ah,ai,Res.bind,Res.noErr,g,j,b9,T,t,sl_tup,K,m,n,Zr,ZR]
theorem vk{a:Int}{o:Int×Int}(p:ps.length<=28)(k:ρ[2]?=some (some (.tup (aa ps))))(m:ρ[3]?=some (some (.int a)))(n:ρ[4]?=some (some (al o))):∃rs:List D,(∀e∈rs,bY e)/\rs.length=2/\ah c5 G0 oj ρ S=.ok (.lst rs) S:=by
 have H:∀(Q:Lq),∀e∈aa Q,It e:=λQ e h=>by obtain⟨t,_,rfl⟩:=Zp.mp h;exact c7 t
 have y:(aa ps).length<=28:=by unfold aa;simpa using p
 have s:aG (.sorted false (.seq .int)) [.tup (aa ps++[al o])] S=.ok (.lst (aa (sortI (ps++[o])))) S:=oG (S:=S) (d:=.tup (aa ps++[al o])) (l:=ps++[o]) (by show some (aa ps++[al o])=_;unfold aa;simp) (by simp;omega);have u:(aa (sortI (ps++[o]))).length<=29:=by unfold aa;rw[Zm,(K90.gg _).length_eq];simp;omega
 have j:=H (sortI (ps++[o]));have g:=H ps;have r:dz .Add (.tup (aa ps)) (.tup [al o]) S=.ok (.tup (aa ps++[al o])) S:=fD (by simp only[ZG,ZQ];omega);generalize aa (sortI (ps++[o]))=q at*;generalize aa ps=l at*;generalize al o=O at*;have c:=o2 l;have C:∀f H,∀e∈aK l f H,It e:=λf H e h=>g e ((kF l f H).subset h);refine⟨[.tup (aK l none (some a)++aK l (some (a+1)) none),.tup q],λe h=>?_,rfl,?_⟩
 ·simp only[Zk,Zv,or_false]at h;rcases h with rfl|rfl
  ·refine du (by have:=c none (some a);have:=c (some (a+1)) none;simp only[Zo];omega) λe h=>?_;rcases ZE.mp h with h|h<;>exact C _ _ e h
  ·exact du (by omega) j
 ·have K:∀f H L b,dz .Add (.tup (aK l f H)) (.tup (aK l L b)) S=.ok (.tup (aK l f H++aK l L b)) S:=λf H L b=>fD (by have:=c f H;have:=c L b;omega);have v:dz .Add (.int a) (.int 1) S=.ok (.int (a+1)) S:=rfl;have w:aG .tuple [.lst q] S=.ok (.tup q) S:=rfl;have x:∀i:Int,cr [.int i]=some (some i):=λi=>rfl;have T:cr []=some none:=rfl;simp only[oj,ah,ai,Res.bind,Res.noErr,k,m,n,b9,x,T,sl_tup,K,v,w,s,r,Zr,ZR]
theorem o5{a b:CE}{x e:D}(h1:ah Φ G0 a ρ S=.ok d S1)(h:ah Φ G0 b ρ S1=.ok e S2)(H:bp d e S2=.ok x S2):ah Φ G0 (.idx a b) ρ S=.ok x S2:=by simp only[ah,h1,h,Res.bind,H,Res.noErr]
theorem kH{a b:CE}{x e:D}(h1:ah Φ G0 a ρ S=.ok d S1)(h:ah Φ G0 b ρ S1=.ok e S2)(H:dz .Add d e S2=.ok x S2):ah Φ G0 (.bin .Add a b) ρ S=.ok x S2:=by simp only[ah,h1,h,Res.bind,H,Res.noErr]
theorem o6{i:Nat}(h:ρ[i]?=some (some d)):ah Φ G0 (.var i) ρ S=.ok d S:=by simp only[ah,h]
theorem kI:ah Φ G0 (.lit d) ρ S=.ok d S:=by simp only[ah]
theorem o7{l:List D}(h:ρ[2]?=some (some (.tup l))):ah c5 G0 (.bin .Add (.blt .len [.var 2]) (.lit (.int 1))) ρ S=.ok (.int ((l.length:Nat)+1)) S:=by have H:aG .len [.tup l] S=.ok (.int (l.length:Nat)) S:=rfl;refine kH (d:=.int (l.length:Nat)) (S1:=S) ?_ kI rfl;simp only[ah,ai,h,Res.bind,H,Res.noErr]
theorem Ji(h:ρ[1]?=some (some (aq m ts))):ah c5 G0 (.bin .Add (.blt .len [.idx (.var 1) (.lit (.int 1))]) (.lit (.int 1))) ρ S=.ok (.int ((ts.length:Nat)+1)) S:=by
 have H:bp (aq m ts) (.int 1) S=.ok (.tup (aa ts)) S:=rfl;have a:aG .len [.tup (aa ts)] S=.ok (.int (ts.length:Nat)) S:=by show Res.ok (D.int ((aa ts).length:Nat)) S=_;unfold aa;rw[Zm]
 refine kH (d:=.int (ts.length:Nat)) (S1:=S) ?_ kI rfl;generalize aq m ts=w at*;generalize aa ts=T at*;simp only[ah,ai,h,Res.bind,H,a,Res.noErr]
theorem o8(b:ts.length<=28)(h:ρ[1]?=some (some (aq m ts))):ah c5 G0 kg ρ S=.ok (.tup (aa (ts++[(0,1)]))) S:=by
 have H:bp (aq m ts) (.int 1) S=.ok (.tup (aa ts)) S:=rfl;have e:aa (ts++[(0,1)])=aa ts++[.tup [.int 0,.int 1]]:=by unfold aa;rw[List.map_append];rfl
 rw[e];refine kH (d:=.tup (aa ts)) (S1:=S) (e:=.tup [.tup [.int 0,.int 1]]) ?_ ?_ (fD (by unfold aa;simp;omega))
 ·exact o5 (o6 h) kI H
 ·simp only[ah,ai,Res.bind]
theorem o9(W:cz m ts)(hl:ps.length<=28)(Q:Flat S)(V:aT S n):∃d S',bY d/\Drawn n S S'/\iH [.ref n,aq m ts,.tup (aa ps)] S=.ok d S':=by
 have hf:=W.few;have hL:(aa ps).length=ps.length:=by unfold aa;simp
 have U:∀(X:Lq),∀e∈aa X,It e:=λX e he=>by obtain⟨t,_,rfl⟩:=Zp.mp he;exact c7 t
 obtain⟨a,P,a0,a1,D,e1⟩:=o3 (ρ:=[some (.ref n),some (aq m ts),some (.tup (aa ps)),none,none,none,none]) Q V (k:=((aa ps).length:Nat)+1) (by omega) (by omega) rfl (o7 rfl);have H:=D.flat Q;have y:=D.pen V;obtain⟨b,q,b0,b1,C,e2⟩:=o3 (ρ:=[some (.ref n),some (aq m ts),some (.tup (aa ps)),some (.int a),none,none,none]) H y (k:=(ts.length:Nat)+1) (by omega) (by omega) rfl (Ji rfl);have s:=C.flat H;have z:=C.pen y;obtain⟨x,A,e3⟩:=iR (S:=q) (d:=.tup (aa (ts++[(0,1)]))) (xs:=aa (ts++[(0,1)])) (r:=b) rfl b0 (by unfold aa;simp;omega);obtain⟨o,_,rfl⟩:=Zp.mp A;obtain⟨B,ho,hol,e4⟩:=o4 (S:=q) (ρ:=[some (.ref n),some (aq m ts),some (.tup (aa ps)),some (.int a),some (al o),none,none]) (m:=m) (T:=.tup (aa ts)) (o:=o) rfl rfl;obtain⟨c,h,c0,c1,E,e5⟩:=o3 (ρ:=[some (.ref n),some (aq m ts),some (.tup (aa ps)),some (.int a),some (al o),some (.lst B),none]) s z (k:=11) (by omega) (by omega) rfl kI;have u:=E.flat s;have M:=E.pen z;obtain⟨O,L,e6⟩:=iR (S:=h) (d:=.lst B) (xs:=B) (r:=c) rfl c0 (by omega);obtain⟨R,f1,l1,e7⟩:=vi (S:=h) (ρ:=[some (.ref n),some (aq m ts),some (.tup (aa ps)),some (.int a),some (al o),some O,none]) (l:=aa ps) (a:=a) (o:=O) (by omega) rfl rfl rfl (U ps) (ho O L)
 have K:It (.tup (aa ps)):=by
  cases ps with
  |nil=>exact eC (λx A=>by cases A) (by simp[aa]) (.inl (by simp[aa])) rfl
  |cons p r=>refine eC (λx A=>?_) (by omega) (.inr rfl) (K90.dJ _);obtain⟨t,_,rfl⟩:=Zp.mp A;exact .inr (.inr (.inr (.inr (.inl ⟨_,rfl⟩))))
 obtain⟨j,f2,l2,e8⟩:=vj (S:=h) (ρ:=[some (.ref n),some (aq m ts),some (.tup (aa ps)),some (.int a),some (al o),some O,some (.lst R)]) (l:=aa ps) (a:=a) (by omega) rfl rfl (U ps) K;obtain⟨Y,f3,l3,e9⟩:=vk (S:=h) (ρ:=[some (.ref n),some (aq m ts),some (.tup (aa ps)),some (.int a),some (al o),some O,some (.lst (R++j))]) (ps:=ps) (a:=a) (o:=o) hl rfl rfl rfl;obtain⟨g,F,g0,g1,N,G⟩:=o3 (ρ:=[some (.ref n),some (aq m ts),some (.tup (aa ps)),some (.int a),some (al o),some O,some (.lst (R++j))]) u M (k:=13) (by omega) (by omega) rfl kI;have J:=N.flat u;obtain⟨d,hd,I⟩:=iR (S:=F) (d:=.lst (R++j++Y)) (xs:=R++j++Y) (r:=g) rfl g0 (by simp only[Zo];omega)
 have v:bY d:=by
  rcases ZE.mp hd with hd|hd
  ·rcases ZE.mp hd with hd|hd
   ·exact f1 d hd
   ·exact f2 d hd
  ·exact f3 d hd
 have hD:Drawn n S F:=((D.trans C).trans E).trans N;refine⟨d,F,v,hD,aL rfl ?_ hD.len J v.lo⟩;show ag c5 G0 uI [some (.ref n),some (aq m ts),some (.tup (aa ps)),none,none,none,none] S=_;have q4:=o5 (o8 (S:=P) (ρ:=[some (.ref n),some (aq m ts),some (.tup (aa ps)),some (.int a),none,none,none]) hf rfl) e2 e3;have q5:=o5 (o6 (Φ:=c5) (S:=q) (ρ:=[some (.ref n),some (aq m ts),some (.tup (aa ps)),some (.int a),some (al o),some (.lst B),none]) (i:=5) rfl) e5 e6;have q6:=kH (o6 (Φ:=c5) (S:=h) (ρ:=[some (.ref n),some (aq m ts),some (.tup (aa ps)),some (.int a),some (al o),some O,some (.lst R)]) (i:=6) rfl) e8 (oZ (by omega));have q7:=kH (o6 (Φ:=c5) (S:=h) (ρ:=[some (.ref n),some (aq m ts),some (.tup (aa ps)),some (.int a),some (al o),some O,some (.lst (R++j))]) (i:=6) rfl) e9 (oZ (by simp only[Zo];omega));have q8:=o5 q7 G I;rw[Jh];generalize aa ps=l at*;generalize aq m ts=w at*;generalize al o=own at*;rw[bw e1];show ag _ _ _ [some (.ref n),some w,some (.tup l),some (.int a),none,none,none] P=_;rw[bw q4];show ag _ _ _ [some (.ref n),some w,some (.tup l),some (.int a),some own,none,none] q=_;rw[bw e4];show ag _ _ _ [some (.ref n),some w,some (.tup l),some (.int a),some own,some (.lst B),none] q=_;rw[bw q5];show ag _ _ _ [some (.ref n),some w,some (.tup l),some (.int a),some own,some O,none] h=_;rw[bw e7];show ag _ _ _ [some (.ref n),some w,some (.tup l),some (.int a),some own,some O,some (.lst R)] h=_;rw[bw q6];show ag _ _ _ [some (.ref n),some w,some (.tup l),some (.int a),some own,some O,some (.lst (R++j))] h=_;exact a9 (K90.dt q8)
end K90
namespace Py
end Py
namespace Pc
open K90
section
variable {m:Nat}{so:Li}
end
end Pc
namespace K90
open Pc
theorem o_{A:List D}:(S++[A])[S.length]?=some A:=by rw[Zy (Zf _)];simp
theorem Jj{A B:List D}:(S++[A]).set S.length B=S++[B]:=by simp_all
theorem Cv{step:D->bt->af->Res Fl}(J:bt->af->Prop):∀(xs:List D),(∀x∈xs,∀ρ S,J ρ S->∃ρ' S',J ρ' S'/\step x ρ S=.ok (.next ρ') S')->∀ρ S,J ρ S->∃ρ' S',J ρ' S'/\cV step xs ρ S=.ok (.next ρ') S'
 | [],_,ρ,S,j=>⟨_,S,j,rfl⟩
 |x::xs,h,ρ,S,j=>by obtain⟨c,f,a,e⟩:=h x Ze _ S j;obtain⟨d,g,b,E⟩:=Cv J _ (λy H=>h y (Zc _ H)) _ _ a;refine⟨_,_,b,?_⟩;unfold cV;rw[e];exact E
theorem Jk{A:List D}(h:A.length<bx):gD (.ref T.length) [d] (T++[A])=.ok .non (T++[A++[d]]):=by unfold gD;simp only[o_];rw[if_pos h,Jj]
end K90
namespace K90
section
variable {T A:List (List D)}{a u b:Int}{ts c:List Ti}
end
section
variable {u a r:Int}{ts:List Ti}{ks:List Nat}
end
section
variable {u:Int}{ts:List Ti}{ks:List Nat}
end
section
variable {A B C:List D}{P:List (List Ti)}
end
section
variable {ts:List Ti}{P:List (List Ti)}{x2 x3 x4 x5:Option D}
end
section
variable {c t l w a b:Int}{x8 x9:Option D}
end
section
variable {ts:List Ti}
end
theorem kJ{e:CE}{t:CT}{rs:α->bt}{r0:bt}{it:CE}{ds:List α}{h:α->D}{f:α->D}(o:bj Φ G0 it ρ S=.ok (.items (ds.map h)) S)(q:fr.map (λj=>j.bind λj=>(ρ[j]?).join)=r0)
  (m:∀d∈ds,bh t (h d) r0=some (rs d)) (r:ds.length<=100000) (n:∀d∈ds,ah Φ G0 e (rs d) S=.ok (f d) S):ah Φ G0 (.comp false N fr t it [] (.emit e)) ρ S=.ok (.lst (ds.map f)) S:=by
 refine iK o ?_;rw[q]
 have:=uX (p:=λ_=>true) (e:=f) (S:=S) (step:=λy a l=>match bh _ y _ with
    |some b=>(aX Φ G0 [] b l).bind λk g=>if k=true then bz Φ G0 (.emit e) b a g else .ok a g
    |none=>.fail) λd i a c=>by have H:=c;rw[m d i];simp[aX,bz,Res.bind,n d i,H] (show ds.length<=16777216 by omega)
 rw[List.filter_eq_self.mpr λ_ _=>rfl]at this;exact this
theorem iS{b:gF}{e:CE}{r:D}(h:ah Φ G0 e ρ S=.ok d S)(H:aG b [d] S=.ok r S):ah Φ G0 (.blt b [e]) ρ S=.ok r S:=by simp[ah,ai,h,Res.bind,H,Res.noErr]
theorem hG{b:gF}{es:List CE}{k:Bool}(h:ah Φ G0 (.blt b es) ρ S=.ok (.bl k) S):ao Φ G0 (.blt b es) ρ S=.ok k S:=by
 rw[ah]at h;rw[ao];cases e:ai _ _ _ _ S with
 |ok D a=>
  rw[e]at h;simp[Res.bind]at h⊢;cases E:aG b _ _ with
  |ok d c=>rw[E]at h;cases h;rfl
  |err x c=>rw[E]at h;cases h
  |fail=>rw[E]at h;cases h
 |err x a=>rw[e]at h;cases h
 |fail=>rw[e]at h;cases h
theorem vm{e:CE}(h:ah Φ G0 e ρ S=.ok d S)(H:dC S d=some (.items ds)):bj Φ G0 (.seq e) ρ S=.ok (.items ds) S:=by rw[bj,h];simp[Res.bind,H]
theorem au:ah Φ G0 (.lit d) ρ S=.ok d S:=rfl
theorem eD{a b:CE}{x e:D}(h1:ah Φ G0 a ρ S=.ok d S1)(h:ah Φ G0 b ρ S1=.ok e S2)(H:bp d e S2=.ok x S2):ah Φ G0 (.idx a b) ρ S=.ok x S2:=by simp[ah,h1,h,Res.bind,H,Res.noErr]
theorem gk{o:Operator}{a b:CE}{x e:D}(h1:ah Φ G0 a ρ S=.ok d S1)(h:ah Φ G0 b ρ S1=.ok e S2)(H:dz o d e S2=.ok x S2):ah Φ G0 (.bin o a b) ρ S=.ok x S2:=by simp[ah,h1,h,Res.bind,H,Res.noErr]
theorem vn{o:CmpOp}{a b:CE}{x e:D}(h1:ah Φ G0 a ρ S=.ok d S1)(h:ah Φ G0 b ρ S1=.ok e S2)(H:aD o d e S2=.ok x S2):ah Φ G0 (.cmp o a b) ρ S=.ok x S2:=by simp[ah,h1,h,Res.bind,H,Res.noErr]
theorem vq{f:Str}{a b:CE}{x y:D}{k:Bool}(c:Φ f=some φ)(h1:ah Φ G0 a ρ S=.ok x S)(H:ah Φ G0 b ρ S=.ok y S)(h:φ [x,y] S=.ok (.bl k) S):ao Φ G0 (.call f [a,b]) ρ S=.ok k S:=by simp[ao,ai,c,h1,H,Res.bind,h,a']
theorem bb{e:CE}{k:Bool}(h:ao Φ G0 e ρ S=.ok k S):ao Φ G0 (.bnot e) ρ S=.ok (!k) S:=by simp[ao,h,Res.bind]
theorem iT{c:CE}(h:ao Φ G0 c ρ S=.ok true S):ag Φ G0 (.ite c [.ret (.lit (.bl false))] []::cs) ρ S=.ok (.ret (.bl false)) S:=by refine a9 ?_;rw[dL h];rfl
theorem d_{c:CE}(h:ao Φ G0 c ρ S=.ok false S):ag Φ G0 (.ite c [.ret (.lit (.bl false))] []::cs) ρ S=ag Φ G0 cs ρ S:=by refine bv ?_;rw[dL h];rfl
theorem dM{a b:CE}{x y:Bool}(h1:ao Φ G0 a ρ S=.ok x S)(h:ao Φ G0 b ρ S=.ok y S):ao Φ G0 (.bor a b) ρ S=.ok (x||y) S:=by simp[ao,Res.bind];lia
theorem eY{a b:CE}(h1:ao Φ G0 a ρ S=.ok true S):ao Φ G0 (.bor a b) ρ S=.ok true S:=by simp only[ao,h1,Res.bind,if_true]
theorem gP{o:CmpOp}{a b:CE}{e:D}{k:Bool}(h1:ah Φ G0 a ρ S=.ok d S)(h:ah Φ G0 b ρ S=.ok e S)(H:aD o d e S=.ok (.bl k) S):ao Φ G0 (.cmp o a b) ρ S=.ok k S:=by simp[ao,h1,h,Res.bind,H,Res.noErr,aB]
theorem pc{f:Str}{a:CE}{x:D}{k:Bool}(H:Φ f=some φ)(h1:ah Φ G0 a ρ S=.ok x S)(h:φ [x] S=.ok (.bl k) S):ao Φ G0 (.call f [a]) ρ S=.ok k S:=by simp[ao,ai,H,h1,Res.bind,h,a']
theorem Jl:f'=K90.f':=rfl
theorem Jm:eL=K90.eL:=rfl
noncomputable def gm(m:Int):D->Bool
 | .tup [.int a,.int b]=>decide (0<=a/\a<b/\b<m)
 |_=>false
theorem Cw{e:D}(h:iP e)(m:Int):gm m e=false:=by
 unfold gm;split
 ·rename_i a b;obtain⟨_,_,q⟩:=h.tu _ rfl;rcases q with q|q
  ·exact absurd rfl q
  ·cases q
 ·rfl
theorem vr{m:Int}:∀{es:List D},es.all (gm m)=true->∃ps,es=aa ps
 | [],_=>⟨[],rfl⟩
 |e::es,h=>by
  rw[List.all_cons,ZY]at h;obtain⟨ps,rfl⟩:=vr h.2;have H:=h.1;unfold gm at H;split at H
  ·rename_i a b;exact⟨(a,b)::ps,rfl⟩
  ·cases H
noncomputable def frB:D->Bool
 | .int i=>decide (1<=i/\i<=8)
 |_=>false
theorem pd(H:Flat S){a:D}(h:Kn a):eL [a,.int 1,.int 8] S=.ok (.bl (frB a)) S:=by
 rcases h.isI_or with⟨i,rfl⟩| ⟨b,d⟩
 ·rw[Jm];exact K90.uV H i 1 8
 ·have c:=K90.kx H h;rw[b,<-Jl]at c;have:frB a=false:=by cases a<;>first|rfl|cases b
  rw[this];refine aL rfl ?_ rfl H rfl;show ag nC G0 iw [some a,some (.int 1),some (.int 8)] S=_;simp[iw,ag,ar,ah,ai,Res.bind,Res.noErr,aB,ub,c]
theorem cT{i:Nat}{k:Bool}(h:ρ[i]?=some (some d))(H:b5 [d,.ty "tuple"] S=.ok (.bl k) S):ao Φ G0 (.blt .isinst [.var i,.ty "tuple"]) ρ S=.ok k S:=by have H:aG .isinst [d,.ty "tuple"] S=.ok (.bl k) S:=H;exact hG (by simp only[ah,ai,h,Res.bind,H,Res.noErr])
theorem gq{i:Nat}(h:ρ[i]?=some (some (.tup xs))):ao Φ G0 (.cmp .NotEq (.blt .len [.var i]) (.lit (.int 2))) ρ S=.ok (!(decide (xs.length=2))) S:=by
 have H:aG .len [.tup xs] S=.ok (.int (xs.length:Nat)) S:=rfl;refine gP (iS (am h) H) au ?_;have:aD .NotEq (.int (xs.length:Nat)) (.int 2) S=.ok (.bl (!(((xs.length:Nat):Int)==2))) S:=rfl;rw[this]
 have e:(((xs.length:Nat):Int)==2)=decide (xs.length=2):=by rw[Bool.eq_iff_iff,beq_iff_eq,decide_eq_true_eq];omega
 rw[e]
theorem vt:iz=[.ite AN [.ret (.lit (.bl false))] [],.asgT (.tup [.var 1,.var 2]) (.var 0),.ite Hj [.ret (.lit (.bl false))] [],.ret (.band (.blt .all [vZ]) (.call "is_rising" [.var 2]))]:=rfl
theorem kK(e:Flat S){a b:D}(h:Kn a):ao cY G0 (.call "is_number_from" [.var 1,.lit (.int 1),.glob "MOST_PLACES"]) [some d,some a,some b] S=.ok (frB a) S:=by have H:=pd e h;have c:G0 "MOST_PLACES"=some (.int 8):=rfl;simp only[ao,ah,ai,Res.bind,Zq,Zl,c,AQ,H,a']
theorem kL(H:Flat S)(h:ao cY G0 AN [some d,none,none] S=.ok true S):cZ [d] S=.ok (.bl false) S:=by refine aL rfl ?_ rfl H rfl;show ag cY G0 iz [some d,none,none] S=_;rw[vt];exact iT h
theorem vx(H:Flat S)(h:NT d):cZ [d] S=.ok (.bl false) S:=kL H (eY (bb (cT rfl (h S))))
theorem Cy(H:Flat S)(h:xs.length≠2):cZ [.tup xs] S=.ok (.bl false) S:=kL H (by have:=dM (Φ:=cY) (bb (cT (i:=0) (S:=S) (d:=.tup xs) (ρ:=[some (.tup xs),none,none]) (k:=true) rfl rfl)) (gq (i:=0) (xs:=xs) rfl);rw[Zx h]at this;exact this)
theorem Cz{a b:D}:ag cY G0 (.ite AN [.ret (.lit (.bl false))] []:: .asgT (.tup [.var 1,.var 2]) (.var 0)::cs) [some (.tup [a,b]),none,none] S=ag cY G0 cs [some (.tup [a,b]),some a,some b] S:=by have:=dM (Φ:=cY) (bb (cT (i:=0) (S:=S) (d:=.tup [a,b]) (ρ:=[some (.tup [a,b]),none,none]) (k:=true) rfl rfl)) (gq (i:=0) (xs:=[a,b]) rfl);refine(d_ this).trans ?_;refine bv ?_;rw[ar,am (d:=.tup [a,b]) rfl];rfl
theorem CA(c:Flat S){a b:D}(f:Kn a)(h:frB a=false\/NT b):cZ [.tup [a,b]] S=.ok (.bl false) S:=by
 refine aL rfl ?_ rfl c rfl;show ag cY G0 iz [some (.tup [a,b]),none,none] S=_;rw[vt,Cz];have H:=kK (b:=b) (d:=.tup [a,b]) c f;refine iT ?_;cases e:frB a with
 |false=>rw[e]at H;exact eY (bb H)
 |true=>
  rw[e]at h H;rcases h with h|h
  ·cases h
  ·exact dM (bb H) (bb (cT rfl (h S)))
theorem Jn(H:Flat S){e:D}(h:Item e):ez [.int m,e] S=.ok (.bl (gm m e)) S:=by
 rcases h with⟨t,rfl⟩|h
 ·exact K90.Cf H m t
 ·rw[Cw h];exact K90.Cd H m h
theorem pf(c:Flat S){es:List D}{k:Bool}(o:1<=m/\m<=8)(j:∀e∈es,Item e)(n:es.length<=1000)(l:es.all (gm m)=true->dq [.tup es] S=.ok (.bl k) S):cZ [.tup [.int m,.tup es]] S=.ok (.bl (es.all (gm m)&&k)) S:=by
 refine aL rfl ?_ rfl c rfl;show ag cY G0 iz [some (.tup [.int m,.tup es]),none,none] S=_;rw[vt,Cz];have g:=kK (a:=.int m) (b:=.tup es) (d:=.tup [.int m,.tup es]) c (.inl ⟨m,rfl⟩);rw[show frB (.int m)=true from ZD o]at g;refine(d_ (dM (bb g) (bb (cT (k:=true) rfl rfl)))).trans ?_
 have H:ah cY G0 (.blt .all [vZ]) [some (.tup [.int m,.tup es]),some (.int m),some (.tup es)] S=.ok (.bl (es.all (gm m))) S:=kA (S:=S) (kz (S:=S) (rs:=[some (.int m)]) (f:=gm m) (gh rfl) rfl n λe i=>by have h:=Jn c (m:=m) (j e i);simp only[ah,ai,Res.bind,Zq,Zl,ug,h]);show ag cY G0 [.ret (.band (.blt .all [vZ]) (.call "is_rising" [.var 2]))] [some (.tup [.int m,.tup es]),some (.int m),some (.tup es)] S=_;refine a9 (dt ?_);generalize CE.blt .all [vZ]=q at H⊢;cases e:es.all (gm m)with
 |false=>rw[e]at H;simp only[ah,H,Res.bind,aB,Zr,ZR,Bool.false_and]
 |true=>rw[e]at H;simp only[ah,ai,H,Res.bind,aB,AO,l e,if_true,Bool.true_and,Zq,Zl]
theorem vy:kf=[.ite v9 [.ret (.lit (.bl false))] [],.ite (.bnot (.blt .isinst [fy,.ty "tuple"])) [.ret (.lit (.bl false))] [],.for_ (.var 1) (.seq fy) qm,.ret (.cmp .Eq (.blt (.list false) [fy]) (.sset fy))]:=rfl
theorem kM(H:Flat S)(h:ao br G0 v9 [some d,none] S=.ok true S):d9 [d] S=.ok (.bl false) S:=by refine aL rfl ?_ rfl H rfl;show ag br G0 kf [some d,none] S=_;rw[vy];exact iT h
theorem CB(H:Flat S)(h:NT d):d9 [d] S=.ok (.bl false) S:=kM H (eY (bb (cT rfl (h S))))
theorem vz(a:Flat S)(h:xs.length≠2):d9 [.tup xs] S=.ok (.bl false) S:=kM a (by have H:=gq (Φ:=br) (S:=S) (ρ:=[some (.tup xs),none]) (i:=0) (xs:=xs) rfl;rw[Zx h]at H;exact dM (bb (cT (k:=true) rfl rfl)) (eY H))
theorem pg(H:Flat S){a b:D}{x:Option D}(h:Kn a):ao br G0 (.call "_law_whole" [v8]) [some (.tup [a,b]),x] S=.ok (fC a) S:=
 pc Be (eD (am rfl) au rfl) (K90.kx H h)
theorem kN(f:Flat S){a b:D}(h:Kn a):ao br G0 v9 [some (.tup [a,b]),none] S=.ok (!(frB a)) S:=by
 have H:=pg (b:=b) (x:=none) f h
 have e:∀y,ao br G0 (.bor (.bnot (.call "_law_whole" [v8])) (.bnot Du)) [some (.tup [a,b]),none] S=.ok y S->ao br G0 v9 [some (.tup [a,b]),none] S=.ok y S:=λy j=>
  dM (bb (cT (k:=true) rfl rfl)) (dM (gq (xs:=[a,b]) rfl) j)
 refine e _ ?_;rcases h.isI_or with⟨i,rfl⟩| ⟨c,l⟩
 ·have g:ao br G0 Du [some (.tup [.int i,b]),none] S=.ok (decide (1<=i/\i<=8)) S:=by
   have d1:ah br G0 v8 [some (.tup [.int i,b]),none] S=.ok (.int i) S:=eD (am rfl) au rfl;have C:aD .LtE (.int 1) (.int i) S=.ok (.bl (decide (1<=i))) S:=rfl;have d:aD .LtE (.int i) (.int 8) S=.ok (.bl (decide (i<=8))) S:=rfl;unfold Du;simp only[ao,ah,d1,Res.bind,C,d,Res.noErr,aB];by_cases q:1<=i<;>simp[q]
  exact dM (bb H) (bb g)
 ·rw[c]at H;have:frB a=false:=by cases a<;>first|rfl|cases c
  rw[this];exact eY (bb H)
theorem kO(c:Flat S){a b:D}(d:Kn a)(h:frB a=false\/NT b):d9 [.tup [a,b]] S=.ok (.bl false) S:=by
 have H:=kN (b:=b) c d;cases e:frB a with
 |false=>rw[e]at H;exact kM c H
 |true=>
  rw[e]at h H;rcases h with h|h
  ·cases h
  ·refine aL rfl ?_ rfl c rfl;show ag br G0 kf [some (.tup [a,b]),none] S=_;rw[vy];refine(d_ H).trans (iT (bb (k:=false) (hG ?_)));have f:aG .isinst [b,.ty "tuple"] S=.ok (.bl false) S:=h S;have d1:ah br G0 fy [some (.tup [a,b]),none] S=.ok b S:=eD (am rfl) au rfl;show ah br G0 (.blt .isinst [fy,.ty "tuple"]) [some (.tup [a,b]),none] S=_;generalize fy=q at d1⊢;simp only[ah,ai,d1,Res.bind,f,Res.noErr]
theorem Jo{a b c d:CE}{i j k l:Int}(h1:ah Φ G0 a ρ S=.ok (.int i) S)(h:ah Φ G0 b ρ S=.ok (.int j) S)(H:ah Φ G0 c ρ S=.ok (.int k) S)(g:ah Φ G0 d ρ S=.ok (.int l) S):ao Φ G0 (.chain3 .LtE .Lt .Lt a b c d) ρ S=.ok (decide (i<=j/\j<k/\k<l)) S:=by have C:aD .LtE (.int i) (.int j) S=.ok (.bl (decide (i<=j))) S:=rfl;have e:aD .Lt (.int j) (.int k) S=.ok (.bl (decide (j<k))) S:=rfl;have f:aD .Lt (.int k) (.int l) S=.ok (.bl (decide (k<l))) S:=rfl;simp only[ao,h1,h,H,g,Res.bind,C,e,f,Res.noErr,aB];by_cases q:i<=j<;>by_cases Q:j<k<;>simp[q,Q]
theorem CC(a:Flat S)(h:∀x∈xs,Kn x)(c:xs.length<=1000):ao br G0 HD [some d,some (.tup xs)] S=.ok (!(decide (xs.length=2)&&xs.all fC)) S:=by have H:ah br G0 (.blt .all [J8]) [some d,some (.tup xs)] S=.ok (.bl (xs.all fC)) S:=kA (S:=S) (kz (S:=S) (rs:=[]) (f:=fC) (gh rfl) rfl c λd b=>by have e:gN [d] S=.ok (.bl (fC d)) S:=K90.kx a (h d b);simp only[ah,ai,Res.bind,Be,e,Zl]);have:=dM (bb (cT (Φ:=br) (S:=S) (ρ:=[some d,some (.tup xs)]) (i:=1) (d:=.tup xs) (k:=true) rfl rfl)) (dM (gq (i:=1) (xs:=xs) rfl) (bb (hG H)));refine Eq.trans this ?_;cases decide (xs.length=2)<;>simp
theorem ph(b:Flat S){T e:D}(h:Item e):ag br G0 qm [some (.tup [.int m,T]),some e] S=if gm m e=true then .ok (.next [some (.tup [.int m,T]),some e]) S else .ok (.ret (.bl false)) S:=by
 rcases h with⟨t,rfl⟩|h
 ·have a:ao br G0 HD [some (.tup [.int m,T]),some (al t)] S=.ok false S:=CC b (xs:=[.int t.1,.int t.2]) (by intro x c;simp at c;rcases c with rfl|rfl<;>exact .inl ⟨_,rfl⟩) (by simp);have H:ao br G0 J9 [some (.tup [.int m,T]),some (al t)] S=.ok (gm m (al t)) S:=Jo au (eD (am rfl) au rfl) (eD (am rfl) au rfl) (eD (am rfl) au rfl);refine(d_ a).trans ?_;cases e:gm m (al t)with
  |true=>rw[e]at H;exact(d_ (bb H)).trans rfl
  |false=>rw[e]at H;exact iT (bb H)
 ·rw[Cw h,if_neg (by decide)];refine iT ?_;rcases h.kn.nt with d| ⟨X,rfl⟩
  ·exact eY (bb (cT rfl (d S)))
  ·obtain⟨a,H,q⟩:=h.tu X rfl;refine(CC b a H).trans ?_;rcases q with q|q
   ·rw[Zx q];rfl
   ·rw[q];simp
theorem CD(a:Flat S){m:Int}{T:D}:∀(es:List D) (x:Option D),(∀e∈es,Item e)->if es.all (gm m)=true then ∃y,cV (λx ρ S=>match aQ (.var 1) x ρ with
   |some ρ'=>ag br G0 qm ρ' S
   |none=>.fail) es [some (.tup [.int m,T]),x] S=.ok (.next [some (.tup [.int m,T]),y]) S else cV (λx ρ S=>match aQ (.var 1) x ρ with
   |some ρ'=>ag br G0 qm ρ' S
   |none=>.fail) es [some (.tup [.int m,T]),x] S=.ok (.ret (.bl false)) S
 | [],x,_=>⟨x,rfl⟩
 |e::es,x,h=>by
  have H:=ph a (m:=m) (T:=T) (h e Ze);have i:=CD a (m:=m) (T:=T) es (some e) λz d=>h z (Zc _ d);have b:aQ (.var 1) e [some (.tup [.int m,T]),x]=some [some (.tup [.int m,T]),some e]:=rfl;rw[List.all_cons];cases c:gm m e with
  |false=>rw[c,if_neg (by decide)]at H;rw[Bool.false_and,if_neg (by decide)];unfold cV;rw[b];dsimp only;rw[H];rfl
  |true=>rw[c,if_pos rfl]at H;rw[Bool.true_and];unfold cV;rw[b];dsimp only;rw[H];exact i
noncomputable def v_(t:Int×Int):Li:=[t.1,t.2]
theorem CF:∀{l:List (Li)},(∀k∈l,∃t,k=v_ t)->∃rs:Lq,l=rs.map v_
 | [],_=>⟨[],rfl⟩
 |k::l,h=>by obtain⟨t,rfl⟩:=h k Ze;obtain⟨rs,rfl⟩:=CF λz H=>h z (Zc _ H);exact⟨t::rs,rfl⟩
theorem Jp(s:ps.length<64):∃q,dU (.tup (aa ps)) S=.ok (.lst (aa q)) S/\q.Pairwise aA/\∀t,t∈q↔t∈ps:=by
 cases ps with
 |nil=>exact⟨[],rfl,.nil,λ_=>Iff.rfl⟩
 |cons p ps=>
  have i:(aa (p::ps)).map eP=(p::ps).map v_:=by unfold aa;rw[List.map_map];exact List.map_congr_left λt _=>rfl
  obtain⟨n,N⟩:=zm ((p::ps).map v_);obtain⟨r,E⟩:=CF (l:=ju ((p::ps).map v_)) λk j=>by obtain⟨t,_,e⟩:=Zp.mp ((N k).mp j);exact⟨t,e.symm⟩
  have m:r.Nodup:=by rw[E]at n;exact(List.pairwise_map.mp n).imp λh e=>h (by rw[e])
  refine⟨sortI r,?_,K90.oF m,λt=>?_⟩
  ·have g:¬((aa (p::ps)).all xX=true):=λz=>by
    have:aa (p::ps)=al p::aa ps:=rfl;rw[this,List.all_cons]at z;have e:xX (al p)=false:=rfl;rw[e]at z;cases z
   have C:(aa (p::ps)).all (aw (.seq .int))=true/\(aa (p::ps)).length<64/\((aa (p::ps)).all λd=> !eO d)=true:=by
    refine⟨Zn.mpr λx f=>?_,by unfold aa;rw[Zm];omega,Zn.mpr λx f=>?_⟩<;>
    ·obtain⟨t,_,rfl⟩:=Zp.mp f;rfl
   have o:dU (.tup (aa (p::ps))) S=.ok (.lst (dR ((aa (p::ps)).map eP))) S:=by
    unfold dU
    first
     |exact(if_neg g).trans (if_pos C)
     |exact if_pos C
   rw[o,i];unfold dR;rw[E,List.map_map,<-K90.BY];rfl
  ·rw[(K90.gg r).mem_iff];have:=N (v_ t);rw[E]at this;constructor
   ·intro h;obtain⟨u,H,e⟩:=Zp.mp (this.mp (List.mem_map_of_mem h));obtain⟨a,b⟩:=u;obtain⟨c,d⟩:=t;cases e;exact H
   ·intro h;obtain⟨u,H,e⟩:=Zp.mp (this.mpr (List.mem_map_of_mem h));obtain⟨a,b⟩:=u;obtain⟨c,d⟩:=t;cases e;exact H
theorem pi:∀{l k:Lq},l.Pairwise aA->k.Pairwise aA->(∀p,p∈l↔p∈k)->l=k:=λ{l k} H c h=>by
 refine List.Perm.eq_of_pairwise (le:=aA) (λx y _ _ H c=>?_) H c ?_
 ·unfold aA at H c;omega
 ·have n:∀{l:Lq},l.Pairwise aA->l.Nodup:=λh=>h.imp λ{a b} h e=>by
   subst e;unfold aA at h;omega
  exact(List.perm_ext_iff_of_nodup (n H) (n c)).mpr h
theorem vA(a b:Lq):aD .Eq (.lst (aa a)) (.lst (aa b)) S=.ok (.bl (decide (a=b))) S:=by
 by_cases h:a.length=b.length
 ·exact K90.kE a b h
 ·show bg (if(aa a).length=(aa b).length then a_ (List.zipWith (b7 S 39) (aa a) (aa b))else some false) S=_;rw[if_neg (by unfold aa;rw[Zm,Zm];exact h),Zx λe=>h (by rw[e])];rfl
theorem vB(f:Flat S){es:List D}(l:1<=m/\m<=8)(i:∀e∈es,Item e)(j:es.length<64):∃k,cZ [.tup [.int m,.tup es]] S=.ok (.bl k) S/\d9 [.tup [.int m,.tup es]] S=.ok (.bl k) S:=by
 have w:ao br G0 v9 [some (.tup [.int m,.tup es]),none] S=.ok false S:=by have:=kN (b:=.tup es) f (a:=.int m) (.inl ⟨m,rfl⟩);rw[show frB (.int m)=true from ZD l]at this;exact this
 have dT:∀x,ah br G0 fy [some (.tup [.int m,.tup es]),x] S=.ok (.tup es) S:=λx=>eD (am rfl) au rfl;have A:ao br G0 (.bnot (.blt .isinst [fy,.ty "tuple"])) [some (.tup [.int m,.tup es]),none] S=.ok false S:=by refine bb (k:=true) (hG ?_);have i:aG .isinst [.tup es,.ty "tuple"] S=.ok (.bl true) S:=rfl;have d1:=dT none;show ah br G0 (.blt .isinst [fy,.ty "tuple"]) _ S=_;generalize fy=q at d1⊢;simp only[ah,ai,d1,Res.bind,i,Res.noErr]
 have s:bj br G0 (.seq fy) [some (.tup [.int m,.tup es]),none] S=.ok (.items es) S:=K90.vm (dT none) rfl;have H:=CD f (m:=m) (T:=.tup es) es none i
 have c:∀{F:Bool},ag br G0 [.for_ (.var 1) (.seq fy) qm,.ret (.cmp .Eq (.blt (.list false) [fy]) (.sset fy))] [some (.tup [.int m,.tup es]),none] S=.ok (.ret (.bl F)) S->d9 [.tup [.int m,.tup es]] S=.ok (.bl F) S:=λ{F} h=>by refine aL rfl ?_ rfl f rfl;show ag br G0 kf [some (.tup [.int m,.tup es]),none] S=_;rw[vy];exact(d_ w).trans ((d_ A).trans h)
 cases g:es.all (gm m)with
 |false=>rw[g,if_neg (by decide)]at H;refine⟨false,?_,c (a9 (Eq.trans (kt (t:=.var 1) (body:=qm) s) H))⟩;have:=pf f (k:=false) l i (by omega) (λz=>by rw[g]at z;cases z);rw[g]at this;exact this
 |true=>
  rw[g,if_pos rfl]at H;obtain⟨y,H⟩:=H;obtain⟨P,rfl⟩:=vr g;have n:P.length<64:=by unfold aa at j;rw[Zm]at j;exact j
  have C:=K90.u6 (S:=S) f (ps:=P) (by omega);refine⟨cL P,?_,c ((bv (Eq.trans (kt (t:=.var 1) (body:=qm) s) H)).trans (a9 (dt ?_)))⟩
  ·have:=pf f (k:=cL P) l i (by omega) λ_=>C;rw[g]at this;exact this
  ·obtain⟨Q,u,E,v⟩:=Jp (S:=S) n;have d1:=dT y
   have B:decide (P=Q)=cL P:=by rw[Bool.eq_iff_iff,decide_eq_true_eq,K90.iQ];exact⟨λe=>by rw[e];exact E,λh=>pi h E λp=>(v p).symm⟩
   refine vn (d:=.lst (aa P)) (e:=.lst (aa Q)) (S1:=S) (iS d1 rfl) ?_ (by rw[vA,B]);rw[ah];refine Eq.trans (congrArg (λr=>Res.bind r λd o=>(dU d o).noErr) d1) ?_;show(dU (.tup (aa P)) S).noErr=_;rw[u];rfl
structure cf (d:D):Prop where
 is:NT d\/∃xs,d=.tup xs/\(xs.length≠2\/∃a b,xs=[a,b]/\Kn a/\(NT b\/∃es,b=.tup es/\(∀e∈es,Item e)/\es.length<64))
 lo:bd 0 d=true
theorem pj(b:Flat S)(ns:Li):∃c:Int,iA [.scr (ns.map D.int),.int 0] S=.ok (.int c) S:=by
 cases ns with
 |nil=>exact⟨0,aL rfl rfl rfl b rfl⟩
 |cons n ns=>
  refine⟨n,aL rfl ?_ rfl b rfl⟩;have h:ef [.scr ((n::ns).map D.int)] S=.ok (.int ((n::ns).map D.int).length) S:=rfl
  have H:aD .Lt (.int 0) (.int ((n::ns).map D.int).length) S=.ok (.bl true) S:=by have:aD .Lt (.int 0) (.int ((n::ns).map D.int).length) S=.ok (.bl (decide ((0:Int)<((n::ns).map D.int).length))) S:=rfl;rw[this,ZD (by simp)]
  have a:bp (.scr ((n::ns).map D.int)) (.int 0) S=.ok (.int n) S:=by
   unfold bp
   have:gz ((n::ns).map D.int) 0=some (.int n):=by
    unfold gz gx;simp
    try omega
   simp only[az,this]
  generalize(n::ns).map D.int=x at h H a;simp[A5,A4,ag,ar,ao,ah,ai,Res.bind,Res.noErr,aB,aG,h,H,a]
theorem vC(d:Flat S)(c:Int):∃b:Int,iB [.int c] S=.ok (.ref S.length) (S++[[.int c,.int b]]):=by
 refine⟨if decide ((10:Int)^18<=c)=true then 1 else 0,?_⟩;have e:ag uu G0 nO ([D.int c].map some++List.replicate (nN.length-1) none) S=.ok (.ret (.ref S.length)) (S++[[.int c,.int (if decide ((10:Int)^18<=c)=true then 1 else 0)]]):=by have h:lO (.int 10) (.int 18) S=.ok (.int ((10:Int)^18)) S:=rfl;have H:aD .GtE (.int c) (.int ((10:Int)^18)) S=.ok (.bl (decide ((10:Int)^18<=c))) S:=rfl;have a:∀k,intD [.bl k] S=.ok (.int (if k=true then 1 else 0)) S:=λk=>rfl;generalize(10:Int)^18=T at*;simp only[nO,nN,ag,ar,ah,ai,Res.bind,Res.noErr,aG,dz,h,H,a,List.map_cons,List.map_nil,ZG,ZQ,List.cons_append,Zl,if_true]
 show aJ uu G0 nO nN.length 1 [.int c] S=_;unfold aJ;rw[if_pos (show [D.int c].length=1 from rfl),e];show d0 S.length (.ref S.length) _=_;unfold d0;rw[List.take_left' rfl,if_pos d.all,if_neg (by unfold bd;simp)];simp[bo,bd]
theorem Jq:cc=K90.cc:=rfl
section
variable {l:List D}{a:Int}{k:Nat}{o:D}
theorem ck:ai Φ G0 [] ρ S=.ok [] S:=by rw[ai]
theorem aU{e:CE}{es:List CE}(h1:ah Φ G0 e ρ S=.ok d S)(h:ai Φ G0 es ρ S=.ok ds S):ai Φ G0 (e::es) ρ S=.ok (d::ds) S:=by simp only[ai,h1,h,Res.bind]
theorem dN{es:List CE}(h:ai Φ G0 es ρ S=.ok ds S):ah Φ G0 (.tup es) ρ S=.ok (.tup ds) S:=by simp only[ah,h,Res.bind]
theorem qs{es:List CE}(h:ai Φ G0 es ρ S=.ok ds S):ah Φ G0 (.lst false es) ρ S=.ok (.lst ds) S:=by simp only[ah,h,Res.bind,Zr,ZR]
theorem J_{es:List CE}(h:ai Φ G0 es ρ S=.ok ds S):ah Φ G0 (.lst true es) ρ S=.ok (.ref S.length) (S++[ds]):=by simp only[ah,h,Res.bind,if_true]
theorem Jr:ah Φ G0 (.neg (.lit (.int 1))) ρ S=.ok (.int (-1)) S:=by rw[ah];rfl
theorem o0:(ai Φ G0 [] ρ S).bind b9=.ok none S:=by rw[ai];rfl
theorem o1{e:CE}{i:Int}(h:ah Φ G0 e ρ S=.ok (.int i) S):(ai Φ G0 [e] ρ S).bind b9=.ok (some i) S:=by simp only[ai,h,Res.bind];rfl
theorem wa{e:CE}{L H:List CE}{x y:Option Int}(h:ah Φ G0 e ρ S=.ok (.tup l) S)(h1:(ai Φ G0 L ρ S).bind b9=.ok x S)(c:(ai Φ G0 H ρ S).bind b9=.ok y S):ah Φ G0 (.sl e L H) ρ S=.ok (.tup (aK l x y)) S:=by rw[ah,h];show(((ai Φ G0 L ρ S).bind b9).bind λd b=>((ai Φ G0 H ρ b).bind b9).bind λh a=>(kS (.tup l) d h a).noErr)=_;rw[h1];show(((ai Φ G0 H ρ S).bind b9).bind λh a=>(kS (.tup l) x h a).noErr)=_;rw[c];rfl
theorem kP{e f:CE}{p q:List D}(h1:ah Φ G0 e ρ S=.ok (.tup p) S)(H:ah Φ G0 f ρ S=.ok (.tup q) S)(h:p.length+q.length<=1000):ah Φ G0 (.bin .Add e f) ρ S=.ok (.tup (p++q)) S:=gk h1 H (fD h)
theorem d1{e:CE}{i:Int}(h:ah Φ G0 e ρ S=.ok (.int i) S):ah Φ G0 (.bin .Add e (.lit (.int 1))) ρ S=.ok (.int (i+1)) S:=gk h au rfl
theorem d2{e:CE}{i:Int}(h:ah Φ G0 e ρ S=.ok (.int i) S):ah Φ G0 (.bin .Add e (.lit (.int 2))) ρ S=.ok (.int (i+2)) S:=gk h au rfl
theorem Js{e:CE}{i:Int}(h:ah Φ G0 e ρ S=.ok (.int i) S):ah Φ G0 (.bin .Sub e (.lit (.int 1))) ρ S=.ok (.int (i-1)) S:=gk h au rfl
theorem J':ah Φ G0 (.bin .Pow (.lit (.int 10)) (.lit (.int 30))) ρ S=.ok (.int (10^30)) S:=gk au au rfl
theorem CG{R:af}(b:Flat (S++R))(d:aT S n){c:Int}(a:0<c)(h1:c<1000):∃r S',0<=r/\r<c/\Drawn n S S'/\cc [.ref n,.int c] (S++R)=.ok (.int r) (S'++R):=by obtain⟨x,y,H⟩:=d;have h:=(Zg.mp H).1;obtain⟨r,T,f,g,⟨u,v,rfl⟩,e⟩:=fB b (n:=n) ⟨x,y,by rw[Zw h];exact H⟩ a h1;exact⟨r,S.set n [.int u,.int v],f,g,⟨u,v,rfl⟩,by rw[Jq,e,List.set_append_left _ _ h]⟩
theorem po{R:af}(H:Flat (S++R))(g:aT S n){e:CE}{c:Int}(h:0<c)(h1:c<1000)(i:ρ[0]?=some (some (.ref n)))(f:ah bu G0 e ρ (S++R)=.ok (.int c) (S++R)):∃r S',0<=r/\r<c/\Drawn n S S'/\ah bu G0 (fx e) ρ (S++R)=.ok (.int r) (S'++R):=by obtain⟨r,S',a,b,c,d⟩:=CG H g h h1;exact⟨r,S',a,b,c,K90.iL Hy (am i) f d⟩
theorem pp(l:List D)(k:Nat):(aK l (some (k:Int)) (some ((k:Int)+1))).length<=1:=by
 have e:((k:Int)+1)=((k+1:Nat):Int):=by omega
 rw[e];unfold aK;rw[HT.wR,HT.wR,List.length_take];omega
def IL(c:Nat)(xs:List D):Prop:=xs.length<=c/\∀e∈xs,It e
theorem IL.cut{c:Nat}(h:IL c l)(x y:Option Int):IL c (aK l x y):=⟨ZC (o2 l x y) h.1,λe H=>h.2 e ((kF l x y).subset H)⟩
theorem IL.app{b c:Nat}(h:IL b xs)(h':IL c ys):IL (b+c) (xs++ys):=⟨by rw[Zo];have:=h.1;have:=h'.1;omega,λe H=>(ZE.mp H).elim (h.2 e) (h'.2 e)⟩
theorem IL.one(h:It o):IL 1 [o]:=⟨Zf _,λe H=>by rw[List.mem_singleton.mp H];exact h⟩
theorem IL.fine{c:Nat}(h:IL c l)(H:c<64):bY (.tup l):=du (by have:=h.1;omega) h.2
theorem IL.at_(h:IL 28 l)(k:Nat):IL 1 (aK l (some (k:Int)) (some ((k:Int)+1))):=⟨pp l k,(h.cut _ _).2⟩
theorem Jt:uE=[.asgT (.tup [.var 2,.var 3]) (.var 1),.asg 4 (fx (.bin .Add (.blt .len [.var 3]) (.lit (.int 1)))),.asg 5 (.lst false nU),.asg 5 (.idx (.bin .Add (.var 5) (.lst false nV)) (fx (.lit (.int 15)))),.asg 6 (.lst true nW),.expr (.meth .append (.var 6) [nX]),.asg 6 (.catB (.var 6) (.lst false nY)),.asg 7 nZ,.expr (.meth .append (.var 6) [n_]),.ite (.cmp .Gt (fx (.lit (.int 3))) (.lit (.int 0))) [.ret (.tup [.var 2,.idx (.var 6) (fx (.lit (.int 10)))])] [],.asg 8 (.lst true uB),.asg 8 (.catB (.var 8) (.lst false uC)),.expr (.meth .append (.var 8) [uD]),.ret (.idx (.var 8) (fx (.lit (.int 18))))]:=rfl
theorem kQ(H:ρ[2]?=some (some (.int m)))(j:ρ[3]?=some (some (.tup l)))(k:It (.tup l)):∃o q:List D,(∀e∈o++q,It e)/\o.length=11/\q.length=4/\ai Φ G0 nU ρ S=.ok o S/\ai Φ G0 nV ρ S=.ok q S:=by
 have d:∀i:Int,Kn (.int i):=λi=>.inl ⟨i,rfl⟩;have f:∀i:Bool,Kn (.bl i):=λi=>.inr (.inl ⟨i,rfl⟩);refine⟨[al (0,0),al (1,0),al (0,m),al (-1,0),.tup [.bl false,.bl true],.tup [.int 0,.bl true],.tup [.int 0],.tup [.int 0,.int 1,.int 2],.lst [.int 0,.int 1],.non,.str "01"],[al (m-1,m-1),al (0,10^30),al (0,1),.tup l],λe g=>?_,rfl,rfl,?_,?_⟩
 ·simp only[ZE,Zk,Zv,or_false]at g;rcases g with(rfl|rfl|rfl|rfl|rfl|rfl|rfl|rfl|rfl|rfl|rfl)| (rfl|rfl|rfl|rfl)
  ·exact c7 _
  ·exact c7 _
  ·exact c7 _
  ·exact c7 _
  ·exact eC (by intro x h;simp at h;rcases h with rfl|rfl<;>exact f _) (by simp) (.inr rfl) rfl
  ·exact eC (by intro x h;simp at h;rcases h with rfl|rfl;exact d _;exact f _) (by simp) (.inr rfl) rfl
  ·exact eC (by intro x h;simp at h;rcases h with rfl;exact d _) (by simp) (.inl (by simp)) rfl
  ·exact eC (by intro x h;simp at h;rcases h with rfl|rfl|rfl<;>exact d _) (by simp) (.inl (by simp)) rfl
  ·exact gj (.inr (.inr (.inr (.inr (.inr ⟨_,rfl⟩))))) (λ_=>rfl) rfl
  ·exact gj (.inr (.inr (.inr (.inl rfl)))) (λ_=>rfl) rfl
  ·exact gj (.inr (.inr (.inl ⟨_,rfl⟩))) (λ_=>rfl) rfl
  ·exact c7 _
  ·exact c7 _
  ·exact c7 _
  ·exact k
 ·have t:∀{a b:CE} {x y:Int},ah Φ G0 a ρ S=.ok (.int x) S->ah Φ G0 b ρ S=.ok (.int y) S->ah Φ G0 (.tup [a,b]) ρ S=.ok (al (x,y)) S:=λc H=>dN (aU c (aU H ck));exact aU (t au au) (aU (t au au) (aU (t au (am H)) (aU (t Jr au) (aU (dN (aU au (aU au ck))) (aU (dN (aU au (aU au ck))) (aU (dN (aU au ck)) (aU (dN (aU au (aU au (aU au ck)))) (aU (qs (aU au (aU au ck))) (aU au (aU au ck))))))))))
 ·have t:∀{a b:CE} {x y:Int},ah Φ G0 a ρ S=.ok (.int x) S->ah Φ G0 b ρ S=.ok (.int y) S->ah Φ G0 (.tup [a,b]) ρ S=.ok (al (x,y)) S:=λc H=>dN (aU c (aU H ck));exact aU (t (Js (am H)) (Js (am H))) (aU (t au J') (aU (t au au) (aU (am j) ck)))
variable (h39:ρ[3]?=some (some (.tup l)))(h49:ρ[4]?=some (some (.int (k:Int))))(hl9:IL 28 l)
include h39 h49
theorem wb:ah Φ G0 sA ρ S=.ok (.tup (aK l none (some (k:Int)))) S:=wa (am h39) o0 (o1 (am h49))
theorem Ju:ah Φ G0 sB ρ S=.ok (.tup (aK l (some (k:Int)) none)) S:=wa (am h39) (o1 (am h49)) o0
theorem Ka:ah Φ G0 sC ρ S=.ok (.tup (aK l (some ((k:Int)+1)) none)) S:=wa (am h39) (o1 (d1 (am h49))) o0
theorem CH:ah Φ G0 sD ρ S=.ok (.tup (aK l (some (k:Int)) (some ((k:Int)+1)))) S:=wa (am h39) (o1 (am h49)) (o1 (d1 (am h49)))
theorem Kt:ah Φ G0 sE ρ S=.ok (.tup (aK l (some ((k+1:Nat):Int)) (some (((k+1:Nat):Int)+1)))) S:=by have:=wa (am (Γ:=G0) (Φ:=Φ) (S:=S) h39) (o1 (d1 (am h49))) (o1 (d2 (am h49)));rw[show((k+1:Nat):Int)=(k:Int)+1 by omega,show(k:Int)+1+1=(k:Int)+2 by omega];exact this
theorem Ku:ah Φ G0 sF ρ S=.ok (.tup (aK l (some ((k:Int)+2)) none)) S:=wa (am h39) (o1 (d2 (am h49))) o0
include hl9
theorem CI(H:ρ[5]?=some (some o))(b:It o):∃rs:List D,(∀e∈rs,bY e)/\rs.length=3/\ai Φ G0 nW ρ S=.ok rs S:=by
 have a:=hl9.cut none (some (k:Int));have c:=hl9.cut (some (k:Int)) none;have C:=hl9.cut (some ((k:Int)+1)) none;have i:=a.app (.one b);refine⟨[_,_,.tup l.reverse],λe h=>?_,rfl,aU (kP (kP (wb h39 h49) (dN (aU (am H) ck)) (by have:=i.1;rw[Zo]at this;omega)) (Ju h39 h49) (by have:=i.1;have:=c.1;omega)) (aU (kP (kP (wb h39 h49) (dN (aU (am H) ck)) (by have:=i.1;rw[Zo]at this;omega)) (Ka h39 h49) (by have:=i.1;have:=C.1;omega)) (aU ?_ ck))⟩
 ·simp only[Zk,Zv,or_false]at h;rcases h with rfl|rfl|rfl
  ·exact(i.app c).fine (by omega)
  ·exact(i.app C).fine (by omega)
  ·exact du (by rw[List.length_reverse];have:=hl9.1;omega) λe h=>hl9.2 e (List.mem_reverse.mp h)
 ·simp only[ah,h39,Res.bind,Jr,K90.kG,Res.noErr]
theorem Jv:∃r,bY r/\ah Φ G0 nX ρ S=.ok r S:=by have i:=(hl9.cut none (some (k:Int))).app (hl9.cut (some ((k:Int)+1)) none);exact⟨_,i.fine (by omega),kP (wb h39 h49) (Ka h39 h49) (by have:=i.1;rw[Zo]at this;omega)⟩
theorem CJ(H:It (.tup l)):∃rs:List D,(∀e∈rs,bY e)/\rs.length=5/\ai Φ G0 nY ρ S=.ok rs S:=by
 have i:=(hl9.cut none (some (k:Int))).app (hl9.at_ k);have c:=hl9.cut (some (k:Int)) none;have I:=c.app (hl9.cut none (some (k:Int)));refine⟨[_,.lst l,_,.non,.tup [.tup l]],λe h=>?_,rfl,aU (kP (kP (wb h39 h49) (CH h39 h49) (by have:=i.1;rw[Zo]at this;omega)) (Ju h39 h49) (by have:=i.1;have:=c.1;omega)) (aU (iS (am h39) rfl) (aU (kP (Ju h39 h49) (wb h39 h49) (by have:=I.1;rw[Zo]at this;omega)) (aU au (aU (dN (aU (am h39) ck)) ck))))⟩;simp only[Zk,Zv,or_false]at h;rcases h with rfl|rfl|rfl|rfl|rfl
 ·exact(i.app c).fine (by omega)
 ·exact Cu hl9.2
 ·exact I.fine (by omega)
 ·exact⟨.inl λ_=>rfl,rfl⟩
 ·exact du (by simp) λe h=>by rw[List.mem_singleton.mp h];exact H
theorem Jw:∃t,IL 2 t/\ah Φ G0 nZ ρ S=.ok (.tup t) S:=by have i:=(hl9.at_ (k+1)).app (hl9.at_ k);exact⟨_,i,kP (Kt h39 h49) (CH h39 h49) (by have:=i.1;rw[Zo]at this;omega)⟩
theorem Jx{t:List D}(h:ρ[7]?=some (some (.tup t)))(H:IL 2 t):∃r,bY r/\ah Φ G0 n_ ρ S=.ok r S:=by have i:=(hl9.cut none (some (k:Int))).app H;have c:=hl9.cut (some ((k:Int)+2)) none;exact⟨_,(i.app c).fine (by omega),kP (kP (wb h39 h49) (am h) (by have:=i.1;rw[Zo]at this;omega)) (Ku h39 h49) (by have:=i.1;have:=c.1;omega)⟩
omit h39 h49 hl9
end
section
variable {l:List D}{a:Int}{k:Nat}{o:D}
theorem ea{a b:D}(H:Kn a)(l:bd 0 a=true)(h:bY b):cf (.tup [a,b]):=⟨.inr ⟨_,rfl,.inr ⟨a,b,rfl,H,h.is⟩⟩,by show(bd 0 a&&(bd 0 b&&true))=true;rw[l,h.lo];rfl⟩
theorem vD(h:xs.length≠2)(H:∀x∈xs,bd 0 x=true):cf (.tup xs):=⟨.inr ⟨_,rfl,.inl h⟩,gO H⟩
theorem gr(h:NT d)(H:bd 0 d=true):cf d:=⟨.inl h,H⟩
theorem gu(i:Int):Kn (.int i):=.inl ⟨i,rfl⟩
theorem vE(i:Int):bY (.int i):=⟨.inl λ_=>rfl,rfl⟩
theorem vF:bY (.tup []):=du (by simp) λe h=>by cases h
theorem pr(h:ts.length<=28):cf (.tup (aa ts)):=by
 have l:bd 0 (.tup (aa ts))=true:=K90.dJ ts;by_cases H:ts.length=2
 ·match ts,H with
  | [t,u],_=>refine ea (.inr (.inr (.inr (.inr (.inl ⟨_,rfl⟩))))) rfl (du (by simp) λe a=>?_);simp only[Zk,Zv,or_false]at a;rcases a with rfl|rfl<;>exact gj (gu _) (λ_=>rfl) rfl
 ·exact⟨.inr ⟨_,rfl,.inl (by unfold aa;rw[Zm];exact H)⟩,l⟩
theorem vG(h1:1<=m)(h:m<=8):∃x,aG .str [.int m] S=.ok (.str x) S:=by refine⟨(toString m:String),?_⟩;show(if m.natAbs<2^64 then Res.ok (D.str (toString m:String)) S else .fail)=_;rw[if_pos (by omega)]
variable (h29:ρ[2]?=some (some (.int m)))(h39:ρ[3]?=some (some (.tup (aa ts))))(hl9:ts.length<=28)
include h29 h39 hl9
theorem vH(h:bY (.tup (aa ts))):∃rs:List D,(∀e∈rs,cf e)/\rs.length=8/\ai Φ G0 uB ρ S=.ok rs S:=by
 have t:∀{a b:CE} {x y:D},ah Φ G0 a ρ S=.ok x S->ah Φ G0 b ρ S=.ok y S->ah Φ G0 (.tup [a,b]) ρ S=.ok (.tup [x,y]) S:=λd h29=>dN (aU d (aU h29 ck));refine⟨_,λe c=>?_,?_,aU (t (d1 (am h29)) (am h39)) (aU (t (Js (am h29)) (am h39)) (aU (t au (am h39)) (aU (t au (am h39)) (aU (t au (dN ck)) (aU (t au (am h39)) (aU (qs (aU (am h29) (aU (am h39) ck))) (aU (dN (aU (am h29) ck)) ck)))))))⟩
 ·simp only[Zk,Zv,or_false]at c;rcases c with rfl|rfl|rfl|rfl|rfl|rfl|rfl|rfl
  ·exact ea (gu _) rfl h
  ·exact ea (gu _) rfl h
  ·exact ea (.inr (.inl ⟨_,rfl⟩)) rfl h
  ·exact ea (gu _) rfl h
  ·exact ea (gu _) rfl vF
  ·exact ea (.inr (.inr (.inr (.inl rfl)))) rfl h
  ·exact gr (λ_=>rfl) (gO λx H=>by simp only[Zk,Zv,or_false]at H;rcases H with rfl|rfl;rfl;exact h.lo)
  ·exact vD (by simp) λx H=>by rw[List.mem_singleton.mp H];rfl
 ·rfl
theorem vI(h1:1<=m)(d:m<=8)(H:bY (.tup (aa ts))):∃rs:List D,(∀e∈rs,cf e)/\rs.length=9/\ai Φ G0 uC ρ S=.ok rs S:=by
 have t:∀{a b:CE} {x y:D},ah Φ G0 a ρ S=.ok x S->ah Φ G0 b ρ S=.ok y S->ah Φ G0 (.tup [a,b]) ρ S=.ok (.tup [x,y]) S:=λh1 h29=>dN (aU h1 (aU h29 ck));obtain⟨x,h⟩:=vG (S:=S) h1 d;have f:ah Φ G0 .dct ρ S=.ok .dct S:=by rw[ah]
 refine⟨_,λe c=>?_,?_,aU (dN (aU (am h29) (aU (am h39) (aU (dN ck) ck)))) (aU (t (iS (am h29) h) (am h39)) (aU (t (am h39) (am h29)) (aU (am h39) (aU au (aU (am h29) (aU f (aU au (aU (t Jr (dN ck)) ck))))))))⟩
 ·simp only[Zk,Zv,or_false]at c;rcases c with rfl|rfl|rfl|rfl|rfl|rfl|rfl|rfl|rfl
  ·exact vD (by simp) λx h=>by simp only[Zk,Zv,or_false]at h;rcases h with rfl|rfl|rfl;rfl;exact H.lo;rfl
  ·exact ea (.inr (.inr (.inl ⟨_,rfl⟩))) rfl H
  ·exact ea (.inr (.inr (.inr (.inr (.inl ⟨_,rfl⟩))))) H.lo (vE _)
  ·exact pr hl9
  ·exact gr (λ_=>rfl) rfl
  ·exact gr (λ_=>rfl) rfl
  ·exact gr (λ_=>rfl) rfl
  ·exact gr (λ_=>rfl) rfl
  ·exact ea (gu _) rfl vF
 ·rfl
omit h29 h39 hl9
theorem CK:∃r,cf r/\ah Φ G0 uD ρ S=.ok r S:=⟨_,ea (gu _) rfl vF,dN (aU J' (aU (dN ck) ck))⟩
theorem vJ{b:Nat}{e:CE}{i:Nat}{A:List D}{r:D}(a:ρ[i]?=some (some (.ref S.length)))(H:ah bu G0 e ρ (S++[A])=.ok r (S++[A]))(c:A.length<=1000):ar bu G0 (.expr (.meth .append (.var i) [e])) ρ (S++[A])=.ok (.next ρ) (S++[A++[r]]):=by have h:=Jk (T:=S) (A:=A) (d:=r) (by show _<16777216;omega);simp only[ar,ah,a,Res.bind,ai,H,er,h,Res.noErr]
theorem CL{b:Nat}{i:Nat}{es:List CE}{A B:List D}(c:ρ[i]?=some (some (.ref b)))(H:S[b]?=some A)(a:ai bu G0 es ρ S=.ok B S)(hl9:A.length+B.length<=1000):ah bu G0 (.catB (.var i) (.lst false es)) ρ S=.ok (.ref S.length) (S++[A++B]):=by
 have h:fH (.ref b) (.lst B) S=.ok (.ref S.length) (S++[A++B]):=by
  have e:Py.cU S (.ref b)=some A:=by simp[Py.cU,H]
  have E:Py.cU S (.lst B)=some B:=rfl;unfold fH;rw[e,E];dsimp only;rw[if_pos (by show _<=16777216;omega)]
 simp only[ah,c,Res.bind,a,h,Res.noErr,Zr,ZR]
end
section
variable {l:List D}{a:Int}{k:Nat}{o:D}
theorem CM(H:Flat S)(b:aT S n){e:CE}{c:Int}(h:0<c)(h1:c<1000)(d:ρ[0]?=some (some (.ref n)))(a:ah bu G0 e ρ S=.ok (.int c) S):∃r S',0<=r/\r<c/\Drawn n S S'/\ah bu G0 (fx e) ρ S=.ok (.int r) S':=by have:=po (R:=[]) (S:=S) (n:=n) (ρ:=ρ) (e:=e) (c:=c) (by rw[List.append_nil];exact H) b h h1 d (by rw[List.append_nil];exact a);simpa only[List.append_nil]using this
theorem Jy{k:Nat}{R:af}(c:ds.length=np)(h:ag Φ Γ body (ds.map some++List.replicate (k-np) none) S=.ok (.ret d) (S'++R))(b:S'.length=S.length)(a:Flat S')(H:bd 0 d=true):aJ Φ Γ body k np ds S=.ok d S':=by unfold aJ;rw[if_pos c,h];show d0 S.length d (S'++R)=_;rw[<-b,K90.uR (by rw[List.take_left' rfl];exact a) H,List.take_left' rfl]
theorem qt{es:List D}(h:∀e∈es,bY e):bo 0 es=true:=gO λe H=>(h e H).lo
theorem qu{es:List D}(h:∀e∈es,cf e):bo 0 es=true:=gO λe H=>(h e H).lo
theorem pu{P:D->Prop}{A:List D}{r:D}(h:∀e∈A,P e)(a:P r):∀e∈A++[r],P e:=λe H=>by
 rcases ZE.mp H with H|H
 ·exact h e H
 ·rw[List.mem_singleton.mp H];exact a
theorem CN{P:D->Prop}{A B:List D}(h:∀e∈A,P e)(a:∀e∈B,P e):∀e∈A++B,P e:=λe H=>(ZE.mp H).elim (h e) (a e)
theorem vK(W:cz m ts)(X:Flat S)(Y:aT S n):∃S' R g x4 x5 x7,Drawn n S S'/\Flat (S'++R)/\(∀e∈g,bY e)/\g.length=10/\(S'++R)[S.length+1]?=some g/\R.length=2/\∀cs,ag bu G0 (.asgT (.tup [.var 2,.var 3]) (.var 1):: .asg 4 (fx (.bin .Add (.blt .len [.var 3]) (.lit (.int 1)))):: .asg 5 (.lst false nU):: .asg 5 (.idx (.bin .Add (.var 5) (.lst false nV)) (fx (.lit (.int 15)))):: .asg 6 (.lst true nW):: .expr (.meth .append (.var 6) [nX]):: .asg 6 (.catB (.var 6) (.lst false nY)):: .asg 7 nZ:: .expr (.meth .append (.var 6) [n_])::cs) [some (.ref n),some (aq m ts),none,none,none,none,none,none,none] S=ag bu G0 cs [some (.ref n),some (aq m ts),some (.int m),some (.tup (aa ts)),x4,x5,some (.ref (S.length+1)),x7,none] (S'++R):=by
 have hf:=W.few;have hL:(aa ts).length=ts.length:=by unfold aa;simp
 have hi:∀e∈aa ts,It e:=λe he=>by obtain⟨t,_,rfl⟩:=Zp.mp he;exact c7 t
 have I:IL 28 (aa ts):=⟨by omega,hi⟩
 have q:It (.tup (aa ts)):=by
  cases ts with
  |nil=>exact eC (λx P=>by cases P) (by simp[aa]) (.inl (by simp[aa])) rfl
  |cons p r=>refine eC (λx P=>?_) (by omega) (.inr rfl) (K90.dJ _);obtain⟨t,_,rfl⟩:=Zp.mp P;exact .inr (.inr (.inr (.inr (.inl ⟨_,rfl⟩))))
 have hw:aq m ts=.tup [.int m,.tup (aa ts)]:=rfl;generalize aq m ts=w at*;generalize aa ts=l at*;have s0:ar bu G0 (.asgT (.tup [.var 2,.var 3]) (.var 1)) [some (.ref n),some w,none,none,none,none,none,none,none] S=.ok (.next [some (.ref n),some w,some (.int m),some (.tup l),none,none,none,none,none]) S:=by rw[ar,am (d:=w) rfl,hw];rfl
 obtain⟨a,L,a0,a1,J,e1⟩:=CM (ρ:=[some (.ref n),some w,some (.int m),some (.tup l),none,none,none,none,none]) (e:=.bin .Add (.blt .len [.var 3]) (.lit (.int 1))) X Y (c:=(l.length:Int)+1) (by omega) (by omega) rfl (d1 (iS (d:=.tup l) (r:=.int (l.length:Nat)) (am rfl) rfl));obtain⟨k,rfl⟩:∃k:Nat,a=(k:Int):=⟨a.toNat,by omega⟩;have z:=J.flat X;have C:=J.pen Y;obtain⟨D,Q,ho,ol,ql,eo,eq⟩:=kQ (Φ:=bu) (S:=L) (ρ:=[some (.ref n),some w,some (.int m),some (.tup l),some (.int (k:Int)),none,none,none,none]) rfl rfl q;have eq:=kQ (Φ:=bu) (S:=L) (ρ:=[some (.ref n),some w,some (.int m),some (.tup l),some (.int (k:Int)),some (.lst D),none,none,none]) rfl rfl q;obtain⟨os2,Q,N,ol2,ql,_,eq⟩:=eq;obtain⟨b,f,b0,b1,K,e2⟩:=CM (ρ:=[some (.ref n),some w,some (.int m),some (.tup l),some (.int (k:Int)),some (.lst D),none,none,none]) (e:=.lit (.int 15)) z C (c:=15) (by omega) (by omega) rfl au;have M:=K.flat z;have hp2:=K.pen C;obtain⟨O,s,e3⟩:=iR (S:=f) (d:=.lst (D++Q)) (xs:=D++Q) (r:=b) rfl b0 (by rw[Zo];omega)
 have s:It O:=by
  rcases ZE.mp s with h|h
  ·exact ho O (ZX _ h)
  ·exact N O (Zz _ h)
 have s3:=eD (gk (am (Φ:=bu) (Γ:=G0) (S:=L) (ρ:=[some (.ref n),some w,some (.int m),some (.tup l),some (.int (k:Int)),some (.lst D),none,none,none]) (i:=5) rfl) (qs eq) (oZ (by omega))) e2 e3;obtain⟨u,f1,l1,e4⟩:=CI (Φ:=bu) (S:=f) (l:=l) (k:=k) (o:=O) (ρ:=[some (.ref n),some w,some (.int m),some (.tup l),some (.int (k:Int)),some O,none,none,none]) rfl rfl I rfl s;obtain⟨E,f2,e5⟩:=Jv (Φ:=bu) (S:=f++[u]) (l:=l) (k:=k) (ρ:=[some (.ref n),some w,some (.int m),some (.tup l),some (.int (k:Int)),some O,some (.ref f.length),none,none]) rfl rfl I;have s5:=vJ (b:=0) (i:=6) (S:=f) (A:=u) rfl e5 (by omega);have y:=pu f1 f2;obtain⟨T,f3,l3,e6⟩:=CJ (Φ:=bu) (S:=f++[u++[E]]) (l:=l) (k:=k) (ρ:=[some (.ref n),some w,some (.int m),some (.tup l),some (.int (k:Int)),some O,some (.ref f.length),none,none]) rfl rfl I q;have s6:=CL (i:=6) (b:=f.length) (S:=f++[u++[E]]) (A:=u++[E]) (B:=T) rfl o_ e6 (by rw[Zo,List.length_singleton];omega);have F:=CN y f3;have Z:(u++[E]++T).length=9:=by rw[Zo,Zo,List.length_singleton];omega
 generalize hA:u++[E]=A at*;generalize hB:A++T=B at*;have H:(f++[A]).length=S.length+1:=by rw[Zo,K.len,J.len];rfl
 obtain⟨t,ht,e7⟩:=Jw (Φ:=bu) (S:=f++[A]++[B]) (l:=l) (k:=k) (ρ:=[some (.ref n),some w,some (.int m),some (.tup l),some (.int (k:Int)),some O,some (.ref (f++[A]).length),none,none]) rfl rfl I;obtain⟨G,U,e8⟩:=Jx (Φ:=bu) (S:=f++[A]++[B]) (l:=l) (k:=k) (t:=t) (ρ:=[some (.ref n),some w,some (.int m),some (.tup l),some (.int (k:Int)),some O,some (.ref (f++[A]).length),some (.tup t),none]) rfl rfl I rfl ht;have s8:=vJ (b:=0) (i:=6) (S:=f++[A]) (A:=B) rfl e8 (by omega);have V:Flat (f++[A]++[B++[G]]):=(M.snoc (qt y)).snoc (qt (pu F U));refine⟨f,[A,B++[G]],B++[G],some (.int (k:Int)),some O,some (.tup t),J.trans K,?_,pu F U,by rw[Zo,List.length_singleton];omega,?_,rfl,λcs=>?_⟩
 ·rw[Z4]at V;exact V
 ·have:(f++[A]++[B++[G]])[(f++[A]).length]?=some (B++[G]):=o_;rw[H,Z4]at this;exact this
 ·refine(bv s0).trans ?_;refine(bw e1).trans ((bw (qs eo)).trans ((bw s3).trans ((bw (J_ e4)).trans ((bv s5).trans ((bw s6).trans ((bw e7).trans ((bv s8).trans ?_)))))));rw[H,Z4];rfl
end
section
variable {l:List D}{a:Int}{k:Nat}{o:D}
noncomputable def Dw:CE:=.cmp .Gt (fx (.lit (.int 3))) (.lit (.int 0))
theorem vL(W:cz m ts)(U:Flat S)(hp:aT S n):∃d S',cf d/\Drawn n S S'/\gM [.ref n,aq m ts] S=.ok d S':=by
 have hf:=W.few;obtain⟨Z,R,j,X,k,l,f,hF,hr,hrl,O,hR,ha⟩:=vK W U hp;have V:=f.flat U;have p:=f.pen hp
 have fz:bY (.tup (aa ts)):=du (by unfold aa;rw[Zm];omega) λe he=>by obtain⟨t,_,rfl⟩:=Zp.mp he;exact c7 t
 obtain⟨g,a,g0,g1,h,e1⟩:=po (R:=R) (ρ:=[some (.ref n),some (aq m ts),some (.int m),some (.tup (aa ts)),X,k,some (.ref (S.length+1)),l,none]) (e:=.lit (.int 3)) hF p (c:=3) (by omega) (by omega) rfl au;have hS2:=h.flat V;have K:=h.pen p
 have I:Flat (a++R):=by obtain⟨u,v,e⟩:=h;have:Drawn n (Z++R) (a++R):=⟨u,v,by obtain⟨x,y,hx⟩:=p;rw[e,List.set_append_left _ _ (Zg.mp hx).1]⟩;exact this.flat hF
 have hk2:(a++R)[S.length+1]?=some j:=by rw[Zy (by rw[h.len,f.len];omega),h.len,f.len];rw[Zy (by rw[f.len];omega),f.len]at O;exact O
 have N:ao bu G0 Dw [some (.ref n),some (aq m ts),some (.int m),some (.tup (aa ts)),X,k,some (.ref (S.length+1)),l,none] (Z++R)=.ok (decide (0<g)) (a++R):=by have c1:aD .Gt (.int g) (.int 0) (a++R)=.ok (.bl (decide (0<g))) (a++R):=rfl;unfold Dw;generalize fx (.lit (.int 3))=q at e1⊢;simp only[ao,ah,e1,Res.bind,c1,Res.noErr,aB]
 have fin:∀{d:D} {S' R':af},cf d->Drawn n S S'->ag bu G0 uE [some (.ref n),some (aq m ts),none,none,none,none,none,none,none] S=.ok (.ret d) (S'++R')->∃d S',cf d/\Drawn n S S'/\gM [.ref n,aq m ts] S=.ok d S':=λ{d S' R'} h1 T h3=>⟨d,S',h1,T,Jy (R:=R') rfl h3 T.len (T.flat U) h1.lo⟩;rw[Jt,ha]at fin;generalize hw:aq m ts=w at*;cases hg:decide (0<g)with
 |true=>
  rw[hg]at N;obtain⟨b,G,P,b1,o,M⟩:=po (R:=R) (ρ:=[some (.ref n),some w,some (.int m),some (.tup (aa ts)),X,k,some (.ref (S.length+1)),l,none]) (e:=.lit (.int 10)) I K (c:=10) (by omega) (by omega) rfl au;have H:az (G++R) (.ref (S.length+1))=some j:=by show(G++R)[S.length+1]?=some j;rw[Zy (by rw[o.len,h.len,f.len];omega),o.len,h.len,f.len];rw[Zy (by rw[f.len];omega),f.len]at O;exact O
  obtain⟨r,z,Q⟩:=iR H P (by omega);refine fin (R':=R) (ea (gu m) rfl (hr r z)) ((f.trans h).trans o) (a9 ?_);show ar bu G0 (.ite Dw [.ret (.tup [.var 2,.idx (.var 6) (fx (.lit (.int 10)))])] []) _ _=_;rw[dL N,if_pos rfl];refine a9 (dt ?_);generalize fx (.lit (.int 10))=q at M⊢;simp only[ah,ai,Res.bind,Zq,Zl,M,Q,Res.noErr]
 |false=>
  rw[hg]at N;obtain⟨s,f1,l1,M⟩:=vH (Φ:=bu) (S:=a++R) (ρ:=[some (.ref n),some w,some (.int m),some (.tup (aa ts)),X,k,some (.ref (S.length+1)),l,none]) rfl rfl hf fz;obtain⟨E,f2,l2,Q⟩:=vI (Φ:=bu) (S:=a++R++[s]) (ρ:=[some (.ref n),some w,some (.int m),some (.tup (aa ts)),X,k,some (.ref (S.length+1)),l,some (.ref (a++R).length)]) rfl rfl hf W.lo W.hi fz;have s3:=CL (i:=8) (b:=(a++R).length) (S:=a++R++[s]) (A:=s) (B:=E) rfl o_ Q (by omega);obtain⟨r4,f4,e4⟩:=CK (Φ:=bu) (S:=a++R++[s]++[s++E]) (ρ:=[some (.ref n),some w,some (.int m),some (.tup (aa ts)),X,k,some (.ref (S.length+1)),l,some (.ref (a++R++[s]).length)]);have Y:(s++E).length=17:=by rw[Zo];omega
  have s4:=vJ (b:=0) (i:=8) (S:=a++R++[s]) (A:=s++E) rfl e4 (by omega);have F:=pu (CN f1 f2) f4;have fl:Flat (a++R++[s]++[s++E++[r4]]):=(I.snoc (qu f1)).snoc (qu F);generalize hC:s++E++[r4]=C at*;have hCl:C.length=18:=by rw[<-hC,Zo,Y];rfl
  have J:(a++R++[s]).length=S.length+3:=by rw[Zo,Zo,h.len,f.len,hR];rfl
  have eR:a++R++[s]++[C]=a++(R++[s,C]):=by rw[Z4,Z4];rfl
  rw[eR]at fl;obtain⟨b,G,P,b1,o,e5⟩:=po (R:=R++[s,C]) (ρ:=[some (.ref n),some w,some (.int m),some (.tup (aa ts)),X,k,some (.ref (S.length+1)),l,some (.ref (S.length+3))]) (e:=.lit (.int 18)) fl K (c:=18) (by omega) (by omega) rfl au;have H:az (G++(R++[s,C])) (.ref (S.length+3))=some C:=by show(G++(R++[s,C]))[S.length+3]?=some C;rw[Zy (by rw[o.len,h.len,f.len];omega),o.len,h.len,f.len,Zy (by omega),hR,show S.length+3-S.length-2=1 by omega];rfl
  obtain⟨r,z,e6⟩:=iR H P (by omega);refine fin (R':=R++[s,C]) (F r z) ((f.trans h).trans o) ?_;refine(bv (ρ':=[some (.ref n),some w,some (.int m),some (.tup (aa ts)),X,k,some (.ref (S.length+1)),l,none]) (S':=a++R) ?_).trans ?_
  ·show ar bu G0 (.ite Dw [.ret (.tup [.var 2,.idx (.var 6) (fx (.lit (.int 10)))])] []) _ _=_;rw[dL N,if_neg (by decide)];rfl
  ·refine(bw (J_ M)).trans ((bw s3).trans ((bv s4).trans ?_));rw[J,eR];exact a9 (dt (eD (am rfl) e5 e6))
end
section
variable {ts:List Ti}{G:List (List Ti)}{k:Nat}
end
section
variable {ts:List Ti}{G:List (List Ti)}{k:Nat}{x0 x1 x2 x3 x4 x5 x6:Option D}
end
section
variable {ts p:List Ti}
end
section
variable {ts p:List Ti}
end
theorem CO:cZ=K90.cZ:=rfl
theorem Jz:d9=K90.d9:=rfl
theorem CP:eA=K90.eA:=rfl
theorem JA:fA=K90.fA:=rfl
theorem JB:dr=K90.dr:=rfl
section
variable {w p:D}
theorem iU{x:Exc}(a:ds.length=np)(h:ag Φ Γ body (ds.map some++List.replicate (n-np) none) S=.err x S)(H:Flat S):aJ Φ Γ body n np ds S=.err x S:=by unfold aJ;rw[if_pos a,h];dsimp only;rw[List.take_length,if_pos H.all]
abbrev vM:Exc:=⟨"NoWeb",[]⟩
abbrev JC:Exc:=⟨"NoPairing",[]⟩
theorem CQ(h:cf d):∃k,∀S,Flat S->cZ [d] S=.ok (.bl k) S/\d9 [d] S=.ok (.bl k) S:=by
 rw[CO,Jz];rcases h.is with h| ⟨x,rfl,h| ⟨a,b,rfl,c,h⟩⟩
 ·exact⟨false,λS H=>⟨vx H h,CB H h⟩⟩
 ·exact⟨false,λS H=>⟨Cy H h,vz H h⟩⟩
 ·cases e:K90.frB a with
  |false=>exact⟨false,λS H=>⟨CA H c (.inl e),kO H c (.inl e)⟩⟩
  |true=>
   rcases h with h| ⟨E,rfl,i,g⟩
   ·exact⟨false,λS H=>⟨CA H c (.inr h),kO H c (.inr h)⟩⟩
   ·unfold K90.frB at e;split at e
    ·rename_i m;have j:=ZT e
     obtain⟨k,n⟩:∃k,∀S,Flat S->K90.cZ [.tup [.int m,.tup E]] S=.ok (.bl k) S:=by
      cases f:E.all (gm m)with
      |false=>exact⟨false,λS H=>by have:=pf H (k:=false) j i (by omega) (λz=>by rw[f]at z;cases z);rw[f]at this;exact this⟩
      |true=>
       obtain⟨p,rfl⟩:=vr f;have q:p.length<64:=by unfold aa at g;rw[Zm]at g;exact g
       exact⟨K90.cL p,λS H=>by have:=pf H (k:=K90.cL p) j i (by omega) λ_=>K90.u6 H (by omega);rw[f]at this;exact this⟩
     refine⟨k,λS H=>⟨n S H,?_⟩⟩;obtain⟨K,l,o⟩:=vB H j i g;rw[n S H]at l;cases l;exact o
    ·cases e
theorem vN(W:cz m ts)(h:bY d):∃k,∀S,Flat S->eA [aq m ts,d] S=.ok (.bl k) S/\fA [aq m ts,d] S=.ok (.bl k) S:=by
 rw[CP,JA];rcases h.is with h| ⟨E,rfl,a,b⟩
 ·exact⟨false,λS H=>⟨K90.oV H W (K90.Cj H h),K90.oX H h⟩⟩
 ·cases e:E.all (gw ts)with
  |false=>exact⟨false,λS H=>⟨K90.oV H W (K90.I9 H W a (by omega) e),K90.oY H a (by omega) e⟩⟩
  |true=>
   obtain⟨p,rfl,c⟩:=K90.u8 e;have:p.length<64:=by unfold aa at b;simpa using b
   exact⟨_,λS H=>⟨K90.Jc H W c (by omega),K90.Jf H c this⟩⟩
def iV(d:D):Prop:=∀S,Flat S->cZ [d] S=.ok (.bl false) S
def pw(w p:D):Prop:=∀S,Flat S->eA [w,p] S=.ok (.bl false) S
theorem CU(H:Flat S)(h:iV d):d6 [d] S=.err vM S:=by have e:=h S H;refine iU rfl ?_ H;simp[ui,uh,ag,ar,ao,ah,ai,Res.bind,Res.noErr,AW,e,a']
theorem px(H:Flat S)(h:iV d):eA [d,p] S=.err vM S:=by have e:=CU H h;refine iU rfl ?_ H;simp[kc,uj,ag,ar,ah,ai,Res.bind,uk,e,AX]
theorem JD(H:Flat S)(h:iV d):dr [d,p] S=.err vM S:=by have e:=px (p:=p) H h;refine iU rfl ?_ H;simp[nH,nG,ag,ar,ao,ah,ai,Res.bind,um,e]
theorem JE(H:Flat S)(h:pw w p):dr [w,p] S=.err JC S:=by have e:=h S H;refine iU rfl ?_ H;simp[nH,nG,ag,ar,ao,ah,ai,Res.bind,Res.noErr,um,e,a']
variable {x:Exc}
variable {a b c:D}{i:Int}
theorem Kw:aD .Eq (.int i) (.int 0) S=.ok (.bl (i==0)) S:=rfl
theorem Kx:aD .Lt (.int i) (.int 6) S=.ok (.bl (decide (i<6))) S:=rfl
end
theorem JF:gM=K90.gM:=rfl
theorem JG:iH=K90.iH:=rfl
theorem JH(W:cz m ts)(H:Flat S)(g:aT S n):∃d S',iV d/\Drawn n S S'/\iG [.ref n,aq m ts] S=.ok d S':=by
 obtain⟨d,a,b,D,e⟩:=K90.vL W H g;rw[<-JF]at e;have h:=D.flat H;obtain⟨k,c⟩:=CQ b;have E:=(c a h).2;have L:bd 0 (.tup (aa ts))=true:=K90.dJ ts
 have F:cf (.tup [.int m,.tup (aa ts),.tup []]):=vD (by simp) λx f=>by
  simp only[Zk,Zv,or_false]at f;rcases f with rfl|rfl|rfl
  ·rfl
  ·exact L
  ·rfl
 have i:bp (aq m ts) (.int 0) a=.ok (.int m) a:=rfl;have I:bp (aq m ts) (.int 1) a=.ok (.tup (aa ts)) a:=rfl;generalize aq m ts=w at*;cases k with
 |false=>refine⟨d,a,λS H=>(c S H).1,D,aL rfl ?_ D.len h b.lo⟩;simp[uG,uF,ag,ar,ao,ah,ai,Res.bind,Bf,Bg,e,E,a']
 |true=>refine⟨.tup [.int m,.tup (aa ts),.tup []],a,λS H=>by rw[CO];exact K90.Cy H (by simp),D,aL rfl ?_ D.len h F.lo⟩;generalize aa ts=l at*;simp[uG,uF,ag,ar,ao,ah,ai,Res.bind,Res.noErr,Bf,Bg,e,E,i,I,a']
theorem JI(W:cz m ts)(g:ps.length<=28)(h:Flat S)(j:aT S n):∃d S',pw (aq m ts) d/\Drawn n S S'/\iI [.ref n,aq m ts,.tup (aa ps)] S=.ok d S':=by
 obtain⟨d,a,b,D,e⟩:=K90.o9 W g h j;rw[<-JG]at e;have H:=D.flat h;obtain⟨k,c⟩:=vN W b;have E:=(c a H).2
 have i:pw (aq m ts) (.lst (aa ps)):=λS h=>by rw[CP];exact K90.oV h W (K90.Cj h λ_=>rfl)
 have L:bd 0 (.lst (aa ps))=true:=K90.dJ ps;have f:aG (.list false) [.tup (aa ps)] a=.ok (.lst (aa ps)) a:=rfl;generalize aq m ts=w at*;generalize aa ps=l at*;cases k with
 |false=>refine⟨d,a,λS h=>(c S h).1,D,aL rfl ?_ D.len H b.lo⟩;simp[uK,uJ,ag,ar,ao,ah,ai,Res.bind,Bh,Bi,e,E,a']
 |true=>refine⟨.lst l,a,i,D,aL rfl ?_ D.len H L⟩;simp[uK,uJ,ag,ar,ao,ah,ai,Res.bind,Res.noErr,Bh,Bi,e,E,f,a']
theorem py:d6=K90.d6:=rfl
theorem vO:dr=K90.dr:=rfl
theorem JJ:iF=K90.iF:=rfl
section
variable {w p q:D}{x:Exc}
noncomputable def nS(i:Int):Str:=(toString i:String)
noncomputable def dv(t:Int×Int):Str:=nS t.1++"-"++nS t.2
theorem n8:∀i∈([0,1,2,3,4,5,6,7,8]:Li),(nS i).length=1:=by decide+kernel
theorem Kv{i:Int}(h:0<=i/\i<=8):i∈([0,1,2,3,4,5,6,7,8]:Li):=by rcases(by omega:i=0\/i=1\/i=2\/i=3\/i=4\/i=5\/i=6\/i=7\/i=8)with rfl|rfl|rfl|rfl|rfl|rfl|rfl|rfl|rfl<;>decide
theorem nl{i:Int}(h:0<=i/\i<=8):(nS i).length=1:=n8 i (Kv h)
theorem pz(a b:Str):(a++b).length=a.length+b.length:=by show(a.cps++b.cps).size=_;exact Array.size_append
theorem pA(a:Str):Str.empty++a=a:=by show(⟨#[]++a.cps⟩:Str)=a;rw[Array.empty_append]
theorem pB{e:CE}{i:Int}(h:0<=i/\i<=8)(H:ah Φ G0 e ρ S=.ok (.int i) S):ah Φ G0 (.blt .str [e]) ρ S=.ok (.str (nS i)) S:=by refine iS H ?_;show(if i.natAbs<2^64 then Res.ok (D.str (nS i)) S else .fail)=_;rw[if_pos (by omega)]
theorem CV{e f:CE}{a b:Str}(h:a.length+b.length<=100)(h1:ah Φ G0 e ρ S=.ok (.str a) S)(H:ah Φ G0 f ρ S=.ok (.str b) S):ah Φ G0 (.bin .Add e f) ρ S=.ok (.str (a++b)) S:=by refine gk h1 H ?_;show(if a.length+b.length<=bx then Res.ok (D.str (a++b)) S else .fail)=_;rw[if_pos (by unfold bx;omega)]
def kY(t:Int×Int):Prop:=(0<=t.1/\t.1<=8)/\0<=t.2/\t.2<=8
theorem pC{e f:CE}{t:Int×Int}(h:kY t)(h1:ah Φ G0 e ρ S=.ok (.int t.1) S)(H:ah Φ G0 f ρ S=.ok (.int t.2) S):ah Φ G0 (.bin .Add (.bin .Add (.blt .str [e]) (.lit (.str "-"))) (.blt .str [f])) ρ S=.ok (.str (dv t)) S:=by
 have a:=nl h.1;have b:=nl h.2;have c:(("-":Str)).length=1:=by decide
 exact CV (by rw[pz];omega) (CV (by omega) (pB h.1 h1) au) (pB h.2 H)
theorem CW{t:Int×Int}(h:kY t):(dv t).length<=1000:=by
 have a:=nl h.1;have b:=nl h.2;have c:(("-":Str)).length=1:=by decide
 unfold dv;rw[pz,pz];omega
theorem JK(g:Flat S){t:Int×Int}(H:kY t):gL [al t] S=.ok (.str (dv t)) S:=by
 have a:=nl H.1;have b:=nl H.2;have c:(("-":Str)).length=1:=by decide
 refine aL rfl ?_ rfl g rfl;have f:∀i:Int,0<=i/\i<=8->(if i.natAbs<2^64 then some (nS i)else(none:Option Str))=some (nS i):=λi h=>by rw[if_pos (by omega)]
 have e:fJ ([.v 1,.s "-",.v 2].map (rX G0 [some (al t),some (.int t.1),some (.int t.2)])) Str.empty=some (dv t):=by show fJ [(if t.1.natAbs<2^64 then some (nS t.1)else(none:Option Str)),some ("-":Str),(if t.2.natAbs<2^64 then some (nS t.2)else(none:Option Str))] Str.empty=_;rw[f _ H.1,f _ H.2];simp only[fJ,pA,pz];rw[if_pos (by omega),if_pos (by omega),if_pos (by omega),if_pos (by omega)];rfl
 have d:ag nI G0 uo [some (al t),none,none] S=ag nI G0 [.ret (.fst [.v 1,.s "-",.v 2])] [some (al t),some (.int t.1),some (.int t.2)] S:=rfl;show ag nI G0 uo [some (al t),none,none] S=_;rw[d];refine a9 (dt ?_);rw[ah];simp only[e]
theorem CY{xs:Ls}{e:CE}(hs:sep.length<=100)(H:xs.length<=1000)(b:∀z∈xs,z.length<=1000)(h:ah Φ G0 e ρ S=.ok (.lst (xs.map D.str)) S):ah Φ G0 (.join sep [e]) ρ S=.ok (.str (Txt.join sep xs)) S:=by
 have E:∀xs:Ls,dQ (xs.map D.str)=some xs:=λxs=>by
  induction xs with
  |nil=>rfl
  |cons z Z i=>show(dQ (Z.map D.str)).map (z:: ·)=_;rw[i];rfl
 have a:fN sep [.lst (xs.map D.str)] S=.ok (.str (Txt.join sep xs)) S:=by
  show(match(dQ (xs.map D.str))with
   |some xs=>if sep.length<=100/\xs.length<=1000/\(xs.all λx=>decide (x.length<=1000))=true then Res.ok (D.str (Txt.join sep xs)) S else .fail
   |none=>.fail)=_
  rw[E];exact if_pos ⟨hs,H,Zn.mpr λz c=>ZD (b z c)⟩
 simp only[ah,ai,h,a,Res.bind,Res.noErr]
noncomputable def iW(m:Int)(ts:Lq):Str:=Txt.join " " (nS m::ts.map dv)
noncomputable def eZ(ps:Lq):Str:=if ps=[]then "none" else Txt.join "," (ps.map dv)
theorem pD(W:cz m ts){t:Int×Int}(h:t∈ts):kY t:=by have H:=W.tie t h;have a:=W.hi;exact⟨⟨by omega,by omega⟩,by omega,by omega⟩
theorem CZ(f:Int×Int->D)(ts:Lq):(ts.map dv).map D.str=ts.map λt=>D.str (dv t):=by rw[List.map_map];rfl
theorem C0(H:Flat S){i:Nat}{f:FT}(a:f "shown_tie"=some gL)(b:∀t∈ts,kY t)(g:ts.length<=100)(h:ρ[i]?=some (some (.tup (aa ts)))):ah f G0 (.comp false ["tie"] [none] (.var 0) (.seq (.var i)) [] (.emit (.call "shown_tie" [.var 0]))) ρ S=.ok (.lst ((ts.map dv).map D.str)) S:=by rw[CZ (λ_=>.non)];refine kJ (ds:=ts) (h:=al) (r0:=[none]) (rs:=λt=>[some (al t)]) (vm (am h) rfl) rfl (λ_ _=>rfl) (by omega) λt c=>?_;have e:=JK H (b t c);generalize al t=z at e⊢;simp only[ah,ai,Res.bind,a,Zl,e]
theorem C1{e:CE}(H:∀t∈ts,kY t)(b:ts.length<=100)(h:ah Φ G0 e ρ S=.ok (.tup (aa ts)) S):ah Φ G0 (.comp false ["_law_one","_law_other"] [none,none] (.tup [.var 0,.var 1]) (.seq e) [] (.emit (.bin .Add (.bin .Add (.blt .str [.var 0]) (.lit (.str "-"))) (.blt .str [.var 1])))) ρ S=.ok (.lst ((ts.map dv).map D.str)) S:=by rw[CZ (λ_=>.non)];exact kJ (ds:=ts) (h:=al) (r0:=[none,none]) (rs:=λt=>[some (.int t.1),some (.int t.2)]) (vm h rfl) rfl (λ_ _=>rfl) (by omega) λt a=>pC (H t a) (am rfl) (am rfl)
theorem pE(h:Flat S)(W:cz m ts):d6 [aq m ts] S=.ok .non S:=K90.uW h W
theorem C2{a b:CE}(W:cz m ts)(h1:ah Φ G0 a ρ S=.ok (.str (nS m)) S)(H:ah Φ G0 b ρ S=.ok (.lst ((ts.map dv).map D.str)) S):ah Φ G0 (.join " " [.bin .Add (.lst false [a]) b]) ρ S=.ok (.str (iW m ts)) S:=by
 have w:=W.lo;have d:=W.hi;have e:=W.few;refine CY (by decide) (by simp;omega) (λz h=>?_) (gk (qs (aU h1 ck)) H (oZ (by simp;omega)));rcases Zk.mp h with rfl|h
 ·rw[nl (by omega)];omega
 ·obtain⟨t,c,rfl⟩:=Zp.mp h;exact CW (pD W c)
theorem C3(h:Flat S)(W:cz m ts):fw [aq m ts] S=.ok (.str (iW m ts)) S:=by
 have c:=W.lo;have d:=W.hi;have f:=W.few;have e:=pE h W;refine aL rfl ?_ rfl h rfl;show ag nM G0 nL [some (aq m ts),none,none] S=_;unfold nL;refine(bv (ρ':=[some (aq m ts),none,none]) (S':=S) ?_).trans ?_
 ·generalize aq m ts=w at e⊢;simp only[ar,ah,ai,Res.bind,A2,e,Zl]
 refine(bv (ρ':=[some (aq m ts),some (.int m),some (.tup (aa ts))]) (S':=S) rfl).trans ?_;exact a9 (dt (C2 W (pB (by omega) (am rfl)) (C0 h Ho (λt H=>pD W H) (by omega) rfl)))
theorem JL(h:Flat S)(W:cz m ts):nR [aq m ts] S=.ok (.str (iW m ts)) S:=by have w:=W.lo;have a:=W.hi;have b:=W.few;refine aL rfl ?_ rfl h rfl;show ag Bc G0 Bb [some (aq m ts)] S=_;exact a9 (dt (C2 W (pB (by omega) (eD (am (i:=0) rfl) au rfl)) (C1 (λt H=>pD W H) (by omega) (eD (am (i:=0) rfl) au rfl))))
theorem C4{e:CE}(H:∀t∈ps,kY t)(c:ps.length<=100)(h:ah Φ G0 e ρ S=.ok (.lst ((ps.map dv).map D.str)) S):ah Φ G0 (.join "," [e]) ρ S=.ok (.str (Txt.join "," (ps.map dv))) S:=
 CY (by decide) (by simp;omega) (λz b=>by obtain⟨t,a,rfl⟩:=Zp.mp b;exact CW (H t a)) h
theorem JM(h:Flat S)(H:∀t∈ps,kY t)(a:ps.length<=100):nK [.tup (aa ps)] S=.ok (.str (eZ ps)) S:=by
 refine aL rfl ?_ rfl h rfl;show ag nJ G0 A0 [some (.tup (aa ps))] S=_;refine a9 (dt ?_);have b:=C4 H a (C0 h (ρ:=[some (.tup (aa ps))]) (i:=0) Hn H a rfl);cases ps with
 |nil=>rfl
 |cons t ps=>have c:ao nJ G0 (.var 0) [some (.tup (aa (t::ps)))] S=.ok true S:=rfl;rw[ah,c];exact b
theorem JN(a:Flat S)(h:∀t∈ps,kY t)(H:ps.length<=100):nT [.tup (aa ps)] S=.ok (.str (eZ ps)) S:=by
 refine aL rfl ?_ rfl a rfl;show ag uA G0 Bd [some (.tup (aa ps))] S=_;cases ps with
 |nil=>rfl
 |cons t ps=>have b:ao uA G0 (.cmp .Eq (.var 0) (.tup [])) [some (.tup (aa (t::ps)))] S=.ok false S:=rfl;refine(bv (ρ':=[some (.tup (aa (t::ps)))]) (S':=S) ((dL b).trans rfl)).trans ?_;exact a9 (dt (C4 h H (C1 h H (am rfl))))
theorem C5(W:cz m ts)(P:b4 ts ps){t:Int×Int}(h:t∈ps):kY t:=pD W (P.sub t h)
theorem vP(h:Flat S)(W:cz m ts)(P:b4 ts ps)(a:ps.length<=28):eB [aq m ts,.tup (aa ps)] S=.ok (.str (eZ ps)) S:=by
 have e:dr [aq m ts,.tup (aa ps)] S=.ok .non S:=by rw[vO,K90.JB];exact K90.IF h W P (by omega)
 have E:=JM h (λt H=>C5 W P H) (by omega:ps.length<=100);generalize aq m ts=w at*;generalize D.tup (aa ps)=l at*;refine aL rfl ?_ rfl h rfl;simp[ur,uq,ag,ar,ah,ai,Res.bind,A3,Hq,e,E]
end
theorem JO:iG=K90.iG:=rfl
theorem JP:iI=K90.iI:=rfl
theorem pF:iD=K90.iD:=rfl
theorem JQ:iE=K90.iE:=rfl
theorem pG:iB=K90.iB:=rfl
theorem JR:iA=K90.iA:=rfl
section
variable {w p q a b v:D}{x:Exc}
theorem JS(d:Flat S)(x:Str):iF [.str x,.str x] S=.ok (.bl true) S:=by
 rw[JJ];show K90.nQ (5+1) [.str x,.str x] S=_;refine aL rfl ?_ rfl d rfl;have h:b5 [.str x,.ty "bool"] S=.ok (.bl false) S:=rfl;have H:b5 [.str x,.ty "int"] S=.ok (.bl false) S:=rfl;have c:b5 [.str x,.ty "str"] S=.ok (.bl true) S:=rfl
 have a:aD .Eq (.str x) (.str x) S=.ok (.bl true) S:=by have:aD .Eq (.str x) (.str x) S=.ok (.bl (x==x)) S:=rfl;rw[this];simp
 have b:aD .Is (.str x) .non S=.ok (.bl false) S:=rfl;simp[K90.Ba,K90.uz,ag,ar,ao,ah,ai,Res.bind,Res.noErr,aB,aG,h,H,a,b,c,a']
theorem JT(H:Flat S)(h:iV d):fw [d] S=.err vM S:=by
 have e:d6 [d] S=.err vM S:=by rw[py];exact K90.CU H h
 refine iU rfl ?_ H;simp[nL,A1,ag,ar,ah,ai,Res.bind,A2,e]
theorem C6(h:Flat S)(e:dr [w,p] S=.err x S):eB [w,p] S=.err x S:=by refine iU rfl ?_ h;simp[ur,uq,ag,ar,ah,ai,Res.bind,A3,e]
theorem C7:om=[.tryN "no" 3 [.ret kX] "_law_kinds" vY ua]:=rfl
theorem C8{i:Int}(H:Flat S)(c:bd 0 v=true)(h:ah c6 G0 kX [some (.int i),some a,some b,none] S=.ok v S):eN [.int i,a,b] S=.ok v S:=by refine aL rfl ?_ rfl H c;show ag c6 G0 om [some (.int i),some a,some b,none] S=_;rw[C7];refine a9 ?_;have e:ag c6 G0 [.ret kX] [some (.int i),some a,some b,none] S=.ok (.ret v) S:=a9 (dt h);rw[ar,e]
theorem vQ{i:Int}(H:Flat S)(h:ah c6 G0 kX [some (.int i),some a,some b,none] S=.err x S)(d:x.fs=[])(c:(vY.zip ua).lookup x.cls=some y):eN [.int i,a,b] S=.ok (.lst [.str "no",.str y]) S:=by
 refine aL rfl ?_ rfl H rfl;show ag c6 G0 om [some (.int i),some a,some b,none] S=_;rw[C7];refine a9 ?_
 have e:ag c6 G0 [.ret kX] [some (.int i),some a,some b,none] S=.err x S:=by rw[ag,ar,h];rfl
 rw[ar,e];simp only[d,c]
theorem Kb:ah c6 G0 kX [some (.int 0),some a,some b,none] S=fw [a] S:=by
 have t:ao c6 G0 (.cmp .Eq (.var 0) (.lit (.int 0))) [some (.int 0),some a,some b,none] S=.ok true S:=rfl;have e:ah c6 G0 (.call "shown" [.var 1]) [some (.int 0),some a,some b,none] S=fw [a] S:=by simp[ah,ai,Res.bind,HL]
 unfold kX;rw[ah,t];exact e
theorem JU:ah c6 G0 kX [some (.int 1),some a,some b,none] S=eB [a,b] S:=by
 have t:ao c6 G0 (.cmp .Eq (.var 0) (.lit (.int 0))) [some (.int 1),some a,some b,none] S=.ok false S:=rfl;have e:ah c6 G0 (.call "shown_pairing" [.var 1,.var 2]) [some (.int 1),some a,some b,none] S=eB [a,b] S:=by simp[ah,ai,Res.bind,HM]
 unfold kX;rw[ah,t];exact e
theorem qv:(vY.zip ua).lookup vM.cls=some "web":=by decide+kernel
theorem C9:(vY.zip ua).lookup JC.cls=some "pairing":=by decide+kernel
theorem C_(H:Flat S)(h:iV d):eN [.int 0,d,b] S=.ok (.lst [.str "no",.str "web"]) S/\eN [.int 1,d,b] S=.ok (.lst [.str "no",.str "web"]) S:=by
 have e:dr [d,b] S=.err vM S:=by rw[vO];exact K90.JD H h
 exact⟨vQ H (Kb.trans (JT H h)) rfl qv,vQ H (JU.trans (C6 H e)) rfl qv⟩
theorem JV(H:Flat S)(h:pw w p):eN [.int 1,w,p] S=.ok (.lst [.str "no",.str "pairing"]) S:=by
 have e:dr [w,p] S=.err JC S:=by rw[vO];exact K90.JE H h
 exact vQ H (JU.trans (C6 H e)) rfl C9
theorem pH:eW=[.asg 1 Bj,.ite uM [.ret (.lit (.bl false))] [],.for_ (.var 2) oo ki,.ret (.lit (.bl true))]:=rfl
theorem vR(x:Str):aD .NotEq (.str x) (.str x) S=.ok (.bl false) S:=by have:aD .NotEq (.str x) (.str x) S=.ok (.bl (!(x==x))) S:=rfl;rw[this];simp
theorem pI:ao aN G0 uM (some a::some (.tup (aa [(0,1),(2,3)]))::ρ) []=.ok false []:=by have W1:cz 4 [(0,1),(0,3)]:=⟨by decide,by decide,(K90.iQ _).mp (by decide),by decide,by decide⟩;have W:cz 4 [(0,1),(2,3)]:=⟨by decide,by decide,(K90.iQ _).mp (by decide),by decide,by decide⟩;have P:b4 [(0,1),(2,3)] [(0,1),(2,3)]:=⟨(K90.iQ _).mp (by decide),λt h=>h,by decide⟩;have e:=C3 Flat.nil W1;have E:=vP Flat.nil W P (by decide);rw[show iW 4 [(0,1),(0,3)]="4 0-1 0-3" from by decide+kernel]at e;rw[show eZ [(0,1),(2,3)]="0-1,2-3" from by decide+kernel]at E;have d1:ah aN G0 (.tup [.lit (.int 4),.tup [.tup [.lit (.int 0),.lit (.int 1)],.tup [.lit (.int 0),.lit (.int 3)]]]) (some a::some (.tup (aa [(0,1),(2,3)]))::ρ) []=.ok (aq 4 [(0,1),(0,3)]) []:=dN (aU au (aU (dN (aU (dN (aU au (aU au ck))) (aU (dN (aU au (aU au ck))) ck))) ck));have d2:ah aN G0 (.tup [.lit (.int 4),.var 1]) (some a::some (.tup (aa [(0,1),(2,3)]))::ρ) []=.ok (aq 4 [(0,1),(2,3)]) []:=dN (aU au (aU (am rfl) ck));exact dM (gP (oH HR d1 e) au (vR _)) (gP (iL Bp d2 (am rfl) E) au (vR _))
theorem iX{f:Str}{e E a:CE}{x y z r:D}(c:Φ f=some φ)(h1:ah Φ G0 e ρ S=.ok x S)(H:ah Φ G0 E ρ S=.ok y S)(b:ah Φ G0 a ρ S=.ok z S)(h:φ [x,y,z] S=.ok r S1):ah Φ G0 (.call f [e,E,a]) ρ S=.ok r S1:=by simp only[ah,ai,h1,H,b,Res.bind,c,h]
theorem kR{e E:CE}{x:Str}(H:Flat S)(h1:ah aN G0 e ρ S=.ok (.str x) S)(h:ah aN G0 E ρ S=.ok (.str x) S):ao aN G0 (.bnot (.call "_law_same" [e,E])) ρ S=.ok false S:=
 bb (K90.vq HU h1 h (JS H x))
theorem vS(L:Flat S){s0 s1 x3 x4 x5 x6 x7:Option D}(c:Int):∃y3 y4 y5 y6 y7 S',Flat S'/\ag aN G0 ki [s0,s1,some (.int c),x3,x4,x5,x6,x7] S=.ok (.next [s0,s1,some (.int c),y3,y4,y5,y6,y7]) S':=by
 obtain⟨b,J⟩:=K90.vC L c;rw[<-pG]at J;have j:Flat (S++[[.int c,.int b]]):=L.snoc rfl;have r:aT (S++[[.int c,.int b]]) S.length:=⟨c,b,by rw[Zy (Zf _)];simp⟩;obtain⟨m,i,N,W,d2,E⟩:=K90.u3 j r;rw[<-pF]at E;have k:=d2.flat j;have s:=d2.pen r;obtain⟨p,a,P,M,A,F⟩:=K90.IW W k s;rw[<-JQ]at F;have H:=A.flat k;have u:=A.pen s;obtain⟨B,z,g,C,G⟩:=K90.JH W H u;rw[<-JO]at G;have o:=C.flat H;have v:=C.pen u;obtain⟨n,e,q,V,I⟩:=K90.JI W M o v;rw[<-JP]at I;have f:=V.flat o;have X:eN [.int 0,aq m i,.non] a=.ok (.str (iW m i)) a:=C8 H rfl (Kb.trans (C3 H W));have Y:=JL H W;have K:eB [aq m i,.tup (aa [])] a=.ok (.str "none") a:=vP (ps:=[]) H W ⟨.nil,(λ_ h=>nomatch h),.nil⟩ (by decide);have Z:eN [.int 1,aq m i,.tup (aa p)] a=.ok (.str (eZ p)) a:=C8 H rfl (JU.trans (vP H W P M));have g5:=JN H (λt ht=>C5 W P ht) (by omega:p.length<=100);have g6:=C_ (b:=.non) f g;have g7:=C_ (b:=n) f g;have g8:=JV f q;change eB [aq m i,.tup []] a=.ok (.str "none") a at K;generalize iW m i=wt at*;generalize eZ p=pt at*;generalize aq m i=w at*;generalize D.tup (aa p)=l at*;refine⟨some (.ref S.length),some w,some l,some B,some n,e,f,?_⟩;unfold ki;refine(bw (d:=.ref S.length) (S':=S++[[.int c,.int b]]) (oH HN (am rfl) J)).trans ?_;refine(bw (d:=w) (S':=N) (iL HP (am rfl) au E)).trans ?_;refine(bw (d:=l) (S':=a) (iL HQ (am rfl) (am rfl) F)).trans ?_
 have t1:ao aN G0 Bk [s0,s1,some (.int c),some (.ref S.length),some w,some l,x6,x7] a=.ok false a:=
  dM (kR H (iX kj au (am rfl) au X) (oH HY (am rfl) Y)) (gP (iL Bp (am rfl) (dN ck) K) au (vR _))
 have t2:ao aN G0 Bl [s0,s1,some (.int c),some (.ref S.length),some w,some l,x6,x7] a=.ok false a:=
  kR H (iX kj au (am rfl) (am rfl) Z) (oH HX (am rfl) g5)
 have Q:aD .NotEq (.lst [.str "no",.str "web"]) (.lst [.str "no",.str "web"]) e=.ok (.bl false) e:=rfl
 have t3:ao aN G0 Bn [s0,s1,some (.int c),some (.ref S.length),some w,some l,some B,some n] e=.ok false e:=
  dM (x:=false) (y:=false) (gP (iX kj au (am rfl) au g6.1) (qs (aU au (aU au ck))) Q) (gP (iX kj au (am rfl) (am rfl) g7.2) (qs (aU au (aU au ck))) Q)
 have t4:ao aN G0 Bo [s0,s1,some (.int c),some (.ref S.length),some w,some l,some B,some n] e=.ok false e:=
  gP (iX kj au (am rfl) (am rfl) g8) (qs (aU au (aU au ck))) rfl
 refine(d_ t1).trans ((d_ t2).trans ?_);refine(bv (ρ':=[s0,s1,some (.int c),some (.ref S.length),some w,some l,some B,some n]) (S':=e) ?_).trans ((d_ t3).trans ((d_ t4).trans rfl));have v3:∀T,ah aN G0 (.var 3) [s0,s1,some (.int c),some (.ref S.length),some w,some l,x6,x7] T=.ok (.ref S.length) T:=λT=>am rfl;have O:ah aN G0 (.call "_law_no_web" [.var 3,.var 4]) [s0,s1,some (.int c),some (.ref S.length),some w,some l,x6,x7] a=.ok B z:=iL HV (am rfl) (am rfl) G;have R:ah aN G0 (.call "_law_no_pairing" [.var 3,.var 4,.var 5]) [s0,s1,some (.int c),some (.ref S.length),some w,some l,x6,x7] z=.ok n e:=iX HW (am rfl) (am rfl) (am rfl) I
 have U:ai aN G0 [.call "_law_no_web" [.var 3,.var 4],.call "_law_no_pairing" [.var 3,.var 4,.var 5]] [s0,s1,some (.int c),some (.ref S.length),some w,some l,x6,x7] a=.ok [B,n] e:=by simp only[ai,O,R,Res.bind]
 show ar aN G0 (.par [6,7] _) _ a=_;rw[ar,U];rfl
theorem pJ(a:Flat S)(f:ns.length<=63){x:List (Option D)}:∃cs:Li,bj aN G0 oo (some (.scr (ns.map D.int))::x) S=.ok (.items (cs.map D.int)) S:=by
 obtain⟨c,e⟩:=K90.pj a ns;rw[<-JR]at e;obtain⟨cs,b,d⟩:∃cs:Li,aK (ns.map D.int) (some 1) (some 8)=cs.map D.int/\cs.length<=63:=by refine⟨(ns.drop _).take _,by unfold aK;rw[<-List.map_drop,<-List.map_take],?_⟩;simp;omega
 refine⟨c::cs,?_⟩;have h:kS (.scr (ns.map D.int)) (some 1) (some 8) S=.ok (.lst (cs.map D.int)) S:=by rw[<-b];rfl
 have H:fF (.lst [.int c]) (.lst (cs.map D.int)) S=.ok (.lst ([.int c]++cs.map D.int)) S:=by show(if 1+(cs.map D.int).length<=bx then Res.ok (D.lst ([.int c]++cs.map D.int)) S else .fail)=_;rw[if_pos (by unfold bx;simp;omega)]
 simp[oo,bj,ah,ai,Res.bind,Res.noErr,HS,e,b9,cr,h,dz,H,dC]
end
theorem good(ns:Li)(q:ns.length<=63):∃S',kl [.scr (ns.map D.int)] []=.ok (.bl true) S':=by
 obtain⟨C,k⟩:=pJ (S:=[]) Flat.nil q (x:=[some (.tup (aa [(0,1),(2,3)])),none,none,none,none,none,none])
 obtain⟨b,S',_,p⟩:=Cv (step:=λx f S=>match aQ (.var 2) x f with
   |some b=>ag aN G0 ki b S
   |none=>.fail) (λf S=>(∃l X g h i j,f=[some (.scr (ns.map D.int)),some (.tup (aa [(0,1),(2,3)])),l,X,g,h,i,j])/\Flat S) (C.map D.int) (by rintro x r f S ⟨⟨l,X,g,h,i,j,rfl⟩,n⟩;obtain⟨c,_,rfl⟩:=Zp.mp r;obtain⟨y,Y,u,v,w,m,H,e⟩:=vS n (s0:=some (.scr (ns.map D.int))) (s1:=some (.tup (aa [(0,1),(2,3)]))) (x3:=X) (x4:=g) (x5:=h) (x6:=i) (x7:=j) c;exact⟨_,m,⟨⟨_,_,_,_,_,_,rfl⟩,H⟩,e⟩) [some (.scr (ns.map D.int)),some (.tup (aa [(0,1),(2,3)])),none,none,none,none,none,none] [] ⟨⟨_,_,_,_,_,_,rfl⟩,Flat.nil⟩
 have o:ag aN G0 eW [some (.scr (ns.map D.int)),none,none,none,none,none,none,none] []=.ok (.ret (.bl true)) S':=by rw[pH];refine(bw (d:=.tup (aa [(0,1),(2,3)])) (S':=[]) (dN (aU (dN (aU au (aU au ck))) (aU (dN (aU au (aU au ck))) ck)))).trans ?_;refine(d_ (pI (a:=.scr (ns.map D.int)) (ρ:=[none,none,none,none,none,none]))).trans ?_;refine(bv (ρ':=b) (S':=S') ?_).trans rfl;refine(kt k).trans ?_;exact p
 refine⟨[],?_⟩;show aJ aN G0 eW g_.length 1 [.scr (ns.map D.int)] []=_;unfold aJ;rw[if_pos (show [D.scr (ns.map D.int)].length=1 from rfl)];rw[show ag aN G0 eW ([D.scr (ns.map D.int)].map some++List.replicate (g_.length-1) none) []=_ from o];rfl
end K90
section
namespace K90
theorem walk{l:PySem.W.OpenLaw}{d:DefRec}{K:Params->Fg}(i:l.most=some 63)(H:d.params.defaults=[])
  (e:∀(w:World) (h:Heap),YP w h->(K w.params).In h)
  (F:∀(w:World) (mg:Mg) (fa:Addr) (h:Heap),(K w.params).In h->h.Ns mainGlobals mg->mg d.name=some (.ref fa)->
   ∃fd:FuncData,(∀(s:Shared) (u:Value),BindsTo s fd ⟨[u],[]⟩ [("_law_script",u)])/\∀base:Heap,(K w.params).In base->base.Ns mainGlobals mg->cN l.prog w (K w.params) mg base (bn l.prog w) 12 fa fd ["_law_script"] (hE (K w.params))):
  PySem.W.WalkO q loose XP YP l.row.toRowW d [] (λf vs=>PySem.call f vs):=
 L2.lK (n:=63) (k:=12) (x:="_law_script") (CX:=λw=>bn l.prog w) (sp:=λw=>hE (K w.params)) i (by decide) H ⟨rfl,by decide,by decide,rfl⟩ e F (λ_ _ a N g b c=>⟨a,N,rfl,b,c,g,λ_=>rfl⟩) λ_ _ _ _ _ z=>qj _ _ _ _ _ z
end K90
namespace PySem.W.Fast
def tw7160064701535962641:=Nat
def tw13590305508203859781:=Nat
def tw16520888110621117102:=Nat
def tw9199066770280666377:=Nat
def tw9448495172589664312:=Nat
def tw14327712074544205109:=Nat
def tw4436413405515672660:=Nat
def tw17668781905255857917:=Nat
def tw9922523093754459382:=Nat
def tw18444092509356589838:=Nat
def tw2766857523805219095:=Nat
def tw12673114923520805719:=Nat
def tw14258802265436964697:=Nat
def tw14114331625843118265:=Nat
def tw8984551342838656914:=Nat
def tw6959023304218304736:=Nat
def tw7354045359700555474:=Nat
def tw4018173827717319943:=Nat
def tw13867587143165356299:=Nat
def tw13719363290355279264:=Nat
def tw17870040103234082598:=Nat
def tw14673420879848689489:=Nat
def tw13828708621454575308:=Nat
def tw4557298161618664966:=Nat
def tw10696737054306047019:=Nat
def tw681776412433951175:=Nat
def tw3401862968600369153:=Nat
def tw1643920055557306769:=Nat
def tw15010233573746284806:=Nat
def tw11266546382252831040:=Nat
def tw12913870665830696038:=Nat
def tw17695330355067230526:=Nat
def tw13680074909015139555:=Nat
def tw5875897841939525469:=Nat
def tw3243297853977837191:=Nat
def tw12027549734193293469:=Nat
def tw3855616353335280688:=Nat
def tw8629272728247395695:=Nat
def tw5966527832117999645:=Nat
def tw4080231706672540227:=Nat
def tw17075762075032872910:=Nat
def tw2427556593850799193:=Nat
def tw18180865410644076763:=Nat
def tw3261982852069485745:=Nat
def tw8887218135926976464:=Nat
def tw13784973348973534468:=Nat
def tw15082877272574810294:=Nat
def tw12213116376653768349:=Nat
def tw11389491694205210620:=Nat
def tw14730010597668515007:=Nat
def tw3466006451969428531:=Nat
def tw11745851921396305557:=Nat
def tw14415975002843832048:=Nat
def tw10372736336069088922:=Nat
def tw14043818005564546899:=Nat
def tw3863537865511340984:=Nat
def tw4927067917186711825:=Nat
def tw8717445926519749758:=Nat
def tw16661489771584458669:=Nat
def tw16494912463340902432:=Nat
def tw1119497601732218704:=Nat
def tw5538087150998243546:=Nat
def tw6098435626354125665:=Nat
def tw12089696439694003555:=Nat
def tw15708648922828380985:=Nat
def tw13397818962279571410:=Nat
def tw2168001124115242177:=Nat
def tw3680711737706201220:=Nat
def tw14827541958253044003:=Nat
def tw3573804997550886636:=Nat
def tw9127401450644417922:=Nat
def tw8188349343368132721:=Nat
def tw3400515783611815168:=Nat
def tw12601038521891453186:=Nat
def tw16468142929130525610:=Nat
def tw4578455260614755477:=Nat
def tw4810898280458913647:=Nat
def tw3729440594336907042:=Nat
def tw6630267108237632000:=Nat
def tw13243346344699897537:=Nat
def tw17839516636414174659:=Nat
def tw5303793048305681074:=Nat
def tw6660472197634252906:=Nat
def tw1586099212202536612:=Nat
def tw12075555791434329820:=Nat
def tw7633081232303644791:=Nat
def tw2965521999597046299:=Nat
def tw18147178666039327680:=Nat
def tw4833837894207856425:=Nat
def tw3667097527905532391:=Nat
def tw2154459577421130604:=Nat
def tw14080489969814123340:=Nat
def tw10828629655984180051:=Nat
def tw8327036474125488483:=Nat
def tw14671034916179206038:=Nat
def tw869771300500076586:=Nat
def tw4823979550421473976:=Nat
def tw13882801777890997949:=Nat
def tw12586655382215786455:=Nat
def tw6045567730356774611:=Nat
def tw14919180308895666519:=Nat
def tw4441500191777640262:=Nat
def tw3821537660169125646:=Nat
def tw12348853756115839736:=Nat
def tw9493611975999335827:=Nat
def tw16513400697910185356:=Nat
def tw4488726647332145305:=Nat
def tw1993103935629647159:=Nat
def tw14493023414828838086:=Nat
def tw7521410381478373066:=Nat
def tw3947442694148553119:=Nat
def tw12874397746169338053:=Nat
def tw16090034644854165081:=Nat
def tw16350047165474802460:=Nat
def tw6947590003711305642:=Nat
def tw12113456199838779519:=Nat
def tw18369154678484746417:=Nat
def tw2234266252322435640:=Nat
def tw4429269468408527319:=Nat
def tw5030898896443969814:=Nat
def tw1754213218384807010:=Nat
def tw12645760844285067521:=Nat
def tw4256270465978716209:=Nat
def tw2890513342460163507:=Nat
def tw17529495485857358383:=Nat
def tw16926518898386281438:=Nat
def tw15147188244490129951:=Nat
def tw13512225862006699376:=Nat
def tw12082660258927261937:=Nat
def tw10613969539248054964:=Nat
def tw7903692445969534489:=Nat
def tw4656907089133390847:=Nat
def tw4833355855743915214:=Nat
def tw2219519755596840916:=Nat
def tw13087185850633589807:=Nat
def tw5574575483176016470:=Nat
def tw17469561898501239964:=Nat
def tw9882555660610091921:=Nat
def tw13659501559953989065:=Nat
def tw7485989904714789024:=Nat
def tw7156713498405536005:=Nat
def tw6263691506141848424:=Nat
def tw4418464427840365459:=Nat
def tw16000528145188058381:=Nat
def tw13924947453151863491:=Nat
def tw12018040930345742119:=Nat
def tw17934484914607438457:=Nat
def tw5705788021039449674:=Nat
def tw17151218644029026575:=Nat
def tw15041442851835601666:=Nat
def tw10935165795680959154:=Nat
def tw14124953417207899468:=Nat
def tw6436199254955696708:=Nat
def tw11668704871599823549:=Nat
def tw2294783923097126088:=Nat
def tw9807871925417871406:=Nat
def tw9259592187968979762:=Nat
def tw7509705231918483743:=Nat
def tw15760207196849749566:=Nat
def tw13872854479744022647:=Nat
def tw10169813902412490832:=Nat
def tw5833353192493156444:=Nat
def tw309274140842865895:=Nat
def tw8580723227951084808:=Nat
def tw16716208184124359964:=Nat
def tw1146695045180038680:=Nat
def tw7213881280020013484:=Nat
def tw15351928476276891233:=Nat
def tw9247612251380250273:=Nat
def tw2456077230885973929:=Nat
def tw567712510677348859:=Nat
def tw12212285797597592926:=Nat
def tw14866167649769779882:=Nat
def tw16342728568187428396:=Nat
def tw18046818406888397462:=Nat
def tw12797032103955721407:=Nat
def tw17781922690652084934:=Nat
def tw5078404833616980626:=Nat
def tw16294884589902234615:=Nat
def tw1910689413061424452:=Nat
def tw5725299428440468928:=Nat
def tw2921592316230083355:=Nat
def tw12444235939270239970:=Nat
def tw1032818278624156496:=Nat
def tw4752142633806803024:=Nat
def tw12526562183675965042:=Nat
def tw3757807237021654245:=Nat
def tw11820182822465883207:=Nat
def tw11924077441869661628:=Nat
def tw463265475782279492:=Nat
def tw1460931183704368251:=Nat
def tw15033702360448015668:=Nat
def tw10127289817444327356:=Nat
def tw17530248986300942872:=Nat
def tw4387154328677999294:=Nat
def tw6825453528872372652:=Nat
def tw10851507084821435319:=Nat
def tw6443268957483014504:=Nat
def tw2388735703721016169:=Nat
def tw1607144992681214257:=Nat
def tw7821938046096772780:=Nat
def tw16753451144875617982:=Nat
def tw4234850115839536022:=Nat
def tw11975884181137985230:=Nat
def tw3375856572979407312:=Nat
def tw6425423787328077724:=Nat
def tw9150242830481058216:=Nat
def tw1390360452958347477:=Nat
def tw15337483251004788719:=Nat
def tw17247587519232479360:=Nat
def tw15451141717633686567:=Nat
def tw12040000625972840499:=Nat
def tw16464581776831421460:=Nat
def tw14531589812886283165:=Nat
def tw9494816137822576605:=Nat
def tw456362383518360067:=Nat
def tw12673406256829549022:=Nat
def tw6679634747658174014:=Nat
def tw12022480703125478757:=Nat
def tw9867890687161326681:=Nat
def tw11243439937486781353:=Nat
def tw4718017600058101679:=Nat
def tw15877502484951646352:=Nat
def tw18318385453336365213:=Nat
def tw12016092072746480045:=Nat
def tw7852382258901718915:=Nat
def tw17463309373838980602:=Nat
def tw13252113300860204604:=Nat
def tw8017045642757532376:=Nat
def tw17094414924093769557:=Nat
def tw215503690295821036:=Nat
def tw4062053869619838601:=Nat
def tw15974826429261833858:=Nat
def tw11165779805640583197:=Nat
def tw7144282044876677483:=Nat
def tw15081324967550707927:=Nat
def tw6609333636607437847:=Nat
def tw691557389489724571:=Nat
def tw14599791155826348239:=Nat
def tw1268489139453299986:=Nat
def tw2954483158641942171:=Nat
def tw16589325250051781271:=Nat
def tw11380077206545428361:=Nat
def tw2135031435679725380:=Nat
def tw390796995433114686:=Nat
def tw10922553960794766488:=Nat
def tw12094119179301060487:=Nat
def tw11975326468384162858:=Nat
def tw12455397246913085262:=Nat
def tw11664698594959260723:=Nat
def tw7319039875453892027:=Nat
def tw6312938676054860908:=Nat
def tw15212977041021308001:=Nat
def tw12881848061100168494:=Nat
def tw8747157323312080733:=Nat
def tw3088489876482606929:=Nat
def tw13707402885918391830:=Nat
def tw726618032821372028:=Nat
def tw16739925479185641960:=Nat
def tw16301923212617147033:=Nat
def tw15867153454428506071:=Nat
def tw16451344388347425792:=Nat
def tw2515460950263483823:=Nat
def tw7242557808713171685:=Nat
def tw16173557619825307154:=Nat
def tw14513989777214826007:=Nat
def tw5153409277651558775:=Nat
def tw14599367566010062527:=Nat
def tw15532447844503670134:=Nat
def tw13707298769844279872:=Nat
def tw15405275367785333549:=Nat
def tw7127061539794528936:=Nat
def tw15196457617822459308:=Nat
def tw3401792680333686179:=Nat
def tw4564948239505622580:=Nat
def tw2231710752606449833:=Nat
def tw4199399416350419403:=Nat
def tw2950529319790953554:=Nat
def tw13893082912989333224:=Nat
def tw16867190585407599340:=Nat
def tw5664884581493716182:=Nat
def tw9786449274885502588:=Nat
def tw3756940725093330314:=Nat
def tw248553282318648498:=Nat
def tw15524773502697626468:=Nat
def tw8220456073422864103:=Nat
def tw6145698574056946349:=Nat
def tw14788675969860279965:=Nat
def tw9159347963765638392:=Nat
def tw18025734246437364515:=Nat
def tw13104912832057607180:=Nat
def tw9747686002199850577:=Nat
def tw830854079288384097:=Nat
def tw3912955188218574416:=Nat
def tw17806345731740253920:=Nat
def tw15447730037176198673:=Nat
def tw12102162654231462647:=Nat
def tw12013135125365606433:=Nat
def tw10412847576943673211:=Nat
def tw15889693309219525338:=Nat
def tw14851327756604170474:=Nat
def tw17583158117877332856:=Nat
def tw12536975539439863779:=Nat
def tw17136111375205050806:=Nat
def tw2777079462367169843:=Nat
def tw2007616650096520711:=Nat
def tw12882878367672830567:=Nat
def tw11073540229785230571:=Nat
def tw1050860046228519545:=Nat
def tw3717227753137902920:=Nat
def tw14305688720077893065:=Nat
def tw11010530751435979025:=Nat
def tw13167067214845187406:=Nat
end PySem.W.Fast
open PySem PySem.W PyProof.Rows
set_option maxRecDepth 100000 in
set_option maxHeartbeats 0 in
theorem PySem.Challenge.cw_pairwebs_k90_webs_and_pairings_written_holds : PySem.Challenge.rw_pairwebs_k90_webs_and_pairings_written.Holds := by
 w_on;o_law;k_head;(case hw=>w_witness2)
 k_fill
 refine K90.walk (l:=PySem.Challenge.rw_pairwebs_k90_webs_and_pairings_written) rfl rfl (λw h Y=>PySem.W.kIn_of Y) ?F
 case F=>
  intro w mg fa h KX G hmg
  refine' K90.uQ KX G hmg K90.good ⟨K90.dm ?_ ?_ ?_ ?_,K90.dm ?_ ?_ ?_ ?_,K90.dm ?_ ?_ ?_ ?_,K90.dm ?_ ?_ ?_ ?_,K90.dm ?_ ?_ ?_ ?_,K90.dm ?_ ?_ ?_ ?_,K90.dm ?_ ?_ ?_ ?_,K90.dm ?_ ?_ ?_ ?_,K90.dm ?_ ?_ ?_ ?_,K90.dm ?_ ?_ ?_ ?_,K90.dm ?_ ?_ ?_ ?_,K90.dm ?_ ?_ ?_ ?_,K90.dm ?_ ?_ ?_ ?_,K90.dm ?_ ?_ ?_ ?_,K90.dm ?_ ?_ ?_ ?_,K90.dm ?_ ?_ ?_ ?_,K90.dm ?_ ?_ ?_ ?_,K90.dm ?_ ?_ ?_ ?_,K90.dm ?_ ?_ ?_ ?_,K90.dm ?_ ?_ ?_ ?_,K90.dm ?_ ?_ ?_ ?_,K90.dm ?_ ?_ ?_ ?_,K90.dm ?_ ?_ ?_ ?_,K90.dm ?_ ?_ ?_ ?_,K90.dm ?_ ?_ ?_ ?_,K90.dm ?_ ?_ ?_ ?_,K90.dm ?_ ?_ ?_ ?_,K90.dm ?_ ?_ ?_ ?_,K90.dm ?_ ?_ ?_ ?_,K90.dm ?_ ?_ ?_ ?_,K90.dm ?_ ?_ ?_ ?_,K90.dm ?_ ?_ ?_ ?_,K90.dm ?_ ?_ ?_ ?_,K90.dm ?_ ?_ ?_ ?_,K90.dm ?_ ?_ ?_ ?_⟩ ?Z ?_ ?_ ?R
  case R=>kernel_rfl
  case Z=>intro x hx;simp only[Py.fT,Zk,List.mem_nil_iff,or_false]at hx;rcases hx with rfl|rfl|rfl|rfl|rfl|rfl|rfl|rfl|rfl|rfl|rfl|rfl|rfl|rfl|rfl|rfl|rfl|rfl|rfl|rfl|rfl<;>k_is
  all_goals first|k_is|skip
end
