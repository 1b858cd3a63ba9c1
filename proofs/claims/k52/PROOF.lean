import PyProof.Rows.All
import Wide.All
import OpenK.AllK
import Wide.FinOn
import Lean
import PyProof.EqAt
import PyProof.EqKinds
import PyProof.TupleCall
import PyProof.ListMulAny
import PyProof.FactsAll.tuple
import KE.IntBitsLaws
import PyProof.NeKinds
import PyProof.FactsAll.tuple_2
import PyProof.SumWalkG
import PyProof.WalksMore
import PyProof.MinMaxWalk
import PyProof.Rows.SeqMore
import PyProof.FactsAll.tuple_3
import KE.KRevIter
import PyProof.FactsAll.range_2
import PyProof.EnumFor
import PyProof.TupleOfGen
import PyProof.ListRange
import PyProof.Rows.SetFrom
import PyProof.FactsAll.subtypes_4
import PyProof.TupleKey
import PyProof.IsRules
import PyProof.RangeFor
import PyProof.FactsAll.set_1
import PyProof.CollectIter
import PyProof.FactsAll.set_2
import PyProof.Rows.SortRuns
import KE.KSortAsk
import KE.KSortTup
import PyProof.DictWalks
import PyProof.DictRoadsH
import PyProof.CallStr
import PyProof.Rows.FStr
import PyProof.ExcBaseAll.ValueError
import PyProof.Rows.TopTwo
import PyProof.ExcAttrAll.ValueError
import KE.KIsAll
import KE.KTryMore
import PySem.Challenge.RW_pairwebs_k52_pairings_well_parted
noncomputable section
set_option genSizeOfSpec false
set_option Elab.async false
set_option linter.all false
set_option maxRecDepth 100000
set_option maxHeartbeats 16000000
namespace L2
end L2
namespace Py
end Py
open PySem PySem.Spec PyProof.Rows L2 Py
abbrev Mg:=Str->Option Value
abbrev Vs:=Value->Shared->Prop
abbrev Fg:=PySem.W.Frag
abbrev Lp:=List (Addr×Obj)
abbrev Lq:=List (Int×Int)
abbrev Li:=List Int
abbrev La:=List Addr
abbrev Lv:=List Value
abbrev Ls:=List Str
abbrev Lx:=List Expr
abbrev Ov:=Option Value
abbrev Av:=Array Value
def Za:=@PySem.wpAny_bind
def Zb:=@PySem.Heap.get?_push_of_some
def Zc:=@List.mem_cons_of_mem
def Zd:=@List.mem_cons_self
def Ze:=@PySem.wpAny_pure
def Zf:=@List.length_map
def Zg:=@Nat.le_refl
def Zh:=@List.getElem?_cons_zero
def Zi:=@PySem.Heap.get?_push_size
def Zj:=@List.getElem?_eq_getElem
def Zk:=@List.getElem?_cons_succ
def Zl:=@PySem.Heap.lt_size
def Zm:=@List.mem_filter
def Zn:=@List.mem_cons
def Zo:=@PyProof.Rows.wpS_bind
def Zp:=@List.getElem?_eq_some_iff
def Zq:=@List.mem_append
def Zr:=@List.mem_map
def Zs:=@PyProof.Rows.wpS_pure
def Zt:=@Array.length_toList
def Zu:=@List.mem_append_right
def Zv:=@List.size_toArray
def Zw:=@List.getElem?_append_left
def Zx:=@Nat.ne_of_lt
def Zy:=@List.mem_iff_getElem
def Zz:=@List.filter_sublist
def ZA:=@List.length_append
def ZB:=@Nat.le_trans
def ZC:=@List.mem_of_getElem?
def ZD:=@List.mem_append_left
def ZE:=@List.length_filter_le
def ZF:=@List.eq_nil_of_length_eq_zero
def ZG:=@List.all_eq_true
def ZH:=@List.pairwise_cons
def ZI:=@List.pairwise_append
def ZJ:=@List.nodup_append
def ZK:=@decide_eq_false
def ZL:=@Nat.lt_of_lt_of_le
def ZM:=@List.mem_singleton
def ZN:=@PySem.mem_of_lookup
def ZO:=@List.length_cons
def ZP:=@List.map_map
def ZQ:=@Array.getElem?_toList
def ZR:=@decide_eq_true
def ZS:=@List.getElem?_append_right
def ZT:=@List.mem_range
def ZU:=@List.set_cons_zero
def ZV:=@List.set_cons_succ
def ZW:=@Bool.and_eq_true
def ZX:=@List.map_cons
def ZY:=@PySem.wpAny_call_entry
def ZZ:=@List.not_mem_nil
def Z0:=@PyProof.Rows.callWith_type1
def Z1:=@PySem.wpAny_callSpecial?_slot
def Z2:=@Array.toList_append
def Z3:=@List.pairwise_map
def Z4:=@PySem.wpAny_field
def Z5:=@PySem.wpAny_holding
def Z6:=@PySem.Heap.SameBut.update
def Z7:=@List.append_assoc
def Z8:=@PySem.wpAny_setField_rec
def Z9:=@List.take_left'
def Ya:=@List.pairwise_iff_getElem
def Yb:=@List.nodup_cons
def Yc:=@List.append_nil
def Yd:=@PyProof.Rows.wpS_forRange
def Ye:=@PySem.wpAny_pyIter_tuple
def Yf:=@Nat.lt_irrefl
def Yg:=@List.zip_cons_cons
def Yh:=@PySem.wpAny_truthy_bool
def Yi:=@PySem.wpAny_pyIter_list
def Yj:=@Nat.zero_le
variable {us its its':Lv}{u cd doc pm cdv ct oc vl vu:Value}{a it dx f sl fa acc I:Addr}{o ob:Obj}{P prog:Program}{w:World}{h h' h1 h2 base h0:Heap}{β:Type}{e tg iter r' z ce elt:Expr}{pq pins':Lp}{s s' s2:Shared}{g':Array GenState}{t' k n tk mask wanted ep j2 nrem src line np:Nat}{d':Drawn}{ch fp μ μ' F μ1 μ0 wr:La}{N ps loose N':Ls}{M:Model}{A:Around}{E Q Q₁ E':Vs}{rest ifs:Lx}{y lo m q:Int}{K:Fg}{st:SortSt}{es es':Array (Int×Value)}{g:Int->Int->Int}{pos' apos p2 p1 p3 p4:Pos}{hi:Option Int}{C:List (Li)}{op':CmpOp}{κ:SortKind}{name qual:Str}{mg:Mg}{ks:List Nat}{scope:Scope}{outer:List Env}{od:Option Addr}{osl:Array (Ov)}{items:Av}{ns l hs left so:Li}{XP:(Mg)->Heap->Prop}{YP:World->Heap->Prop}{env:Env}{tn:Nat->Heap->Prop}{cs:List (Li×Addr)}{cell:Str->Bool}{b1 b2 led:Bool}{gens:List Comprehension}{ts:Lq}{fr:List (Option Nat)}{key:Keyed}{o2 a0:Array Keyed}{c1:Nat->Prop}{L:List (Nat×Nat×Nat)}{tie:Int->Int->Bool}
namespace L2
abbrev Key:=Sum Int Str
noncomputable def pY:Key->Value->Bool
 | .inl k,v=>Value.isInt k v
 | .inr x,v=>Value.isStrOf x v
noncomputable def Eb(w:World):Key->Int
 | .inl k=>hashInt k
 | .inr x=>hashStr w x
theorem fG:∀{k:Key} {v:Value},pY k v=true->(∃i t,k=Sum.inl i/\v=Value.int i t)\/(∃x t,k=Sum.inr x/\v=Value.str x t)
 | .inl i,v,h=>by obtain⟨t,e⟩:=Value.isInt_shape h;exact .inl ⟨i,t,rfl,e⟩
 | .inr x,v,h=>by obtain⟨t,e⟩:=Value.isStrOf_shape h;exact .inr ⟨x,t,rfl,e⟩
theorem qC(a b:Int):decide ((Sum.inl a:Key)=Sum.inl b)=(a==b):=by lia
theorem qD(a b:Str):decide ((Sum.inr a:Key)=Sum.inr b)=decide (a=b):=by lia
theorem qE(a:Int)(b:Str):decide ((Sum.inl a:Key)=Sum.inr b)=false:=ZK λq=>nomatch q
theorem qF(a:Str)(b:Int):decide ((Sum.inr a:Key)=Sum.inl b)=false:=ZK λq=>nomatch q
noncomputable def qG(prog:Program)(w:World):PySem.KeyKind prog w Key where
 is:=pY
 hash:=Eb w
 inj:=λv a b ha hb=>by
  rcases fG ha with⟨i,t,rfl,rfl⟩| ⟨x,t,rfl,rfl⟩
  ·rcases fG hb with⟨j,u,rfl,e⟩| ⟨y,u,rfl,e⟩
   ·injection e with e1 _;rw[e1]
   ·exact nomatch e
  ·rcases fG hb with⟨j,u,rfl,e⟩| ⟨y,u,rfl,e⟩
   ·exact nomatch e
   ·injection e with e1 _;rw[e1]
 byValue:=λk v h=>by rcases fG h with⟨i,t,rfl,rfl⟩| ⟨x,t,rfl,rfl⟩<;>rfl
 pyHash:=λhv h=>by
  rcases fG hv with⟨i,t,rfl,rfl⟩| ⟨x,t,rfl,rfl⟩
  ·exact wpAny_pyHash_int h
  ·exact wpAny_pyHash_str h
 eqBool:=λhu hv h=>by
  rcases fG hu with⟨i,t,rfl,rfl⟩| ⟨x,t,rfl,rfl⟩
  ·rcases fG hv with⟨j,u,rfl,rfl⟩| ⟨y,u,rfl,rfl⟩
   ·rw[qC]at h;exact wpAny_eqBool_int h
   ·rw[qE]at h;exact SeqAt.EqAt.int_str i t y u _ _ _ _ h
  ·rcases fG hv with⟨j,u,rfl,rfl⟩| ⟨y,u,rfl,rfl⟩
   ·rw[qF]at h;exact SeqAt.EqAt.str_int x t j u _ _ _ _ h
   ·rw[qD]at h;exact wpAny_eqBool_str h
 «strs»:=λk x t v h=>by
  rcases fG h with⟨i,u,rfl,e⟩| ⟨y,u,rfl,e⟩
  ·exact nomatch e
  ·injection e with e1 _
   subst e1;cases v<;>rfl
inductive V where
 |non|bl (b:Bool)|int (i:Int)|str (x:Str)|byt (b:Array UInt8)|flt (b:UInt64)|ref (a:Addr)|ty (n:String)
 deriving DecidableEq
def RelV:V->Value->Prop
 | .non,u=>u=Value.none
 | .bl b,u=>u=Value.bool b
 | .int i,u=>∃t,u=Value.int i t
 | .str x,u=>∃t,u=Value.str x t
 | .byt b,u=>∃t,u=Value.bytes b t
 | .flt b,u=>∃t,u=Value.float b t
 | .ref a,u=>u=Value.ref a
 | .ty n,u=>u=Value.type n
abbrev Vals:List V->Lv->Prop:=Paired RelV
theorem Vals.length{xs:List V}(r:Vals xs us):xs.length=us.length:=Paired.length r
theorem Vals.get:∀{xs:List V} {us:Lv} {i:Nat} {x:V},Vals xs us->xs[i]?=some x->∃u,us[i]?=some u/\RelV x u
 |_,_,_,_,.nil,e=>by simp_all
 |_,_,0,_,.cons r _,e=>by simp_all
 |_,_,i+1,x,.cons _ t,e=>by obtain⟨u,h,H⟩:=Vals.get t (by simpa using e);simp_all
theorem Vals.set{x:V}(r:RelV x u):∀{xs:List V} {us:Lv} (i:Nat),Vals xs us->Vals (xs.set i x) (us.set i u)
 |_,_,_,.nil=>.nil
 |_,_,0,.cons _ t=>.cons r t
 |_,_,i+1,.cons q t=>.cons q (Vals.set r i t)
theorem Vals.append:∀{xs ys:List V} {us w:Lv},Vals xs us->Vals ys w->Vals (xs++ys) (us++w)
 |_,_,_,_,.nil,s=>s
 |_,_,_,_,.cons r t,s=>.cons r (Vals.append t s)
theorem Vals.take:∀{xs:List V} {us:Lv} (n:Nat),Vals xs us->Vals (xs.take n) (us.take n)
 |_,_,0,_=>.nil
 |_,_,_+1,.nil=>.nil
 |_,_,n+1,.cons r t=>.cons r (Vals.take n t)
theorem Vals.drop:∀{xs:List V} {us:Lv} (n:Nat),Vals xs us->Vals (xs.drop n) (us.drop n)
 |_,_,0,r=>r
 |_,_,_+1,.nil=>.nil
 |_,_,n+1,.cons _ t=>Vals.drop n t
def vN:Option V->Ov->Prop
 |some v,some u=>RelV v u
 |none,none=>True
 |_,_=>False
def KV{a:Type}:List (a×V)->List (a×Value)->Prop:=Paired λ(p:a×V) (q:a×Value)=>p.1=q.1/\RelV p.2 q.2
def kV:Key->V
 | .inl i=>.int i
 | .inr x=>.str x
inductive HO where
 |lst (xs:List V)
 |tup (xs:List V)
 |dK (kvs:List (Key×V))|dT (kvs:List (List Key×V))
 |set (S:Int->Bool) (n:Nat)
 |ins (C dx:Addr) (fs:List (Str×V))
 |own (x:Addr)
 |xd (fs:List (Str×V))
 |met (f x:Addr)
 |rng (lo hi:Int)
 |frz (o:Obj) (u:HO)
 |tbl (ps:Av)
 |ext (φ:Heap->Prop)
abbrev Hp:=Addr->Option HO
noncomputable def bg(H:Hp)(a:Addr)(o:HO):Hp:=λb=>if b=a then some o else H b
theorem dk{H:Hp}{o:HO}:bg H a o a=some o:=by unfold bg;simp_all
theorem a_{H:Hp}{b:Addr}{o:HO}(h:b≠a):bg H a o b=H b:=by unfold bg;rw[if_neg h]
theorem dC{H:Hp}{b:Addr}{o:HO}(h:H a=some o)(h':H b=none):a≠b:=by lia
def vF(h:Heap)(a:Addr):Prop:=∃o,h.get? a=some o/\o.dict=none
theorem vF.new(h:Heap)(items:Av):vF (h.push {cls:=.type "tuple",data:=.seq items}) h.objs.size:=⟨_,Zi _ rfl,rfl⟩
section
variable (P:Program)(w:World)
def bw(H:Hp)(h:Heap)(a:Addr):HO->Prop
 | .lst xs=>xs.length<=sizeLine/\∃(its:Lv) (n:Nat),Vals xs its/\h.get? a=some {cls:=.type "list",data:=.seq its.toArray n}
 | .tup xs=>xs.length<=sizeLine/\∃its:Lv,Vals xs its/\IsTup h a its.toArray/\vF h a
 | .dK k=>k.length<=sizeLine/\(a==sysModules)=false/\∃vs,KV k vs/\h.DictOf (qG P w) a vs
 | .dT k=>k.length<=sizeLine/\(a==sysModules)=false/\∃xs:List (List Key×Addr×Value),
   Paired (λ(p:List Key×V) (q:List Key×Addr×Value)=>p.1=q.1/\H q.2.1=some (.tup (p.1.map kV))/\RelV p.2 q.2.2) k xs/\
   ∃o es ep,h.get? a=some o/\o.ExactDict/\o.data=.dict es ep/\es.toList=xs.map (entryOfKey (tupleKind (qG P w)))/\(xs.map (·.1)).Nodup
 | .set S n=>h.SetOf (intKind P w) a S n
 | .ins C dx fs=>H dx=some (.own a)/\fs.length<=1000/\dx≠a/\h.get? a=some (PySem.W.instObj C dx)/\
   ∃mA,h.Ns1 dx mA/\(∀f,vN (fs.lookup f) (mA f))/\PySem.Within mA (fs.map (·.1))
 | .own _=>∃o,h.get? a=some o
 | .xd fs=>∃mA,h.Ns1 a mA/\∀f,vN (fs.lookup f) (mA f)
 | .rng lo hi=>∃t u v,h.get? a=some {cls:=.type "range",data:=.fields #[.int lo t,.int hi u,.int 1 v]}
 | .frz o u=>h.get? a=some o/\bw H h a u
 | .tbl ps=>h.get? a=some {cls:=.none,data:=.fields ps}
 | .met f x=>h.get? a=some (PySem.W.methodObj (.ref f) (.ref x))
 | .ext φ=>φ h/\(∃o,h.get? a=some o)/\∀h1 h2:Heap,φ h1->(∀o,h1.get? a=some o->h2.get? a=some o)->φ h2
def eG(H:Hp)(h:Heap):Prop:=∀a o,H a=some o->bw P w H h a o
end
section
variable {H H':Hp}{o:HO}
theorem bw.lt(x:bw P w H h a o):a<h.objs.size:=by
 cases o with
 |lst X=>obtain⟨_,_,_,_,e⟩:=x;exact Zl e
 |tup X=>obtain⟨_,_,_,p,_⟩:=x;exact p.lt
 |dK k=>obtain⟨_,_,_,_,o,_,_,e,_⟩:=x;exact Zl e
 |dT k=>obtain⟨_,_,_,_,o,_,_,e,_⟩:=x;exact Zl e
 |set S n=>obtain⟨o,_,_,_,e,_⟩:=x;exact Zl e
 |ins C d fs=>obtain⟨_,_,_,e,_⟩:=x;exact Zl e
 |own y=>obtain⟨_,e⟩:=x;exact Zl e
 |xd fs=>obtain⟨_,⟨_,_,_,e,_⟩,_⟩:=x;exact Zl e
 |rng lo b=>obtain⟨_,_,_,e⟩:=x;exact Zl e
 |frz O u=>obtain⟨e,_⟩:=x;exact Zl e
 |tbl c=>exact Zl (show h.get? a=some _ from x)
 |met f y=>exact Zl (show h.get? a=some _ from x)
 |ext g=>obtain⟨_,⟨_,e⟩,_⟩:=x;exact Zl e
theorem Paired.mapP{c:Type}{F G:c->β->Prop}:∀{l:List c} {L:List β},Paired F l L->(∀a b,F a b->G a b)->Paired G l L
 |_,_,.nil,_=>.nil
 |_,_,.cons r t,f=>.cons (f _ _ r) (Paired.mapP t f)
theorem bw.stay(x:bw P w H h a o)(k:∀b u,(b=a\/H b=some (.own a))->h.get? b=some u->h'.get? b=some u)
  (A:∀b,H b=some (.own a)->H' b=some (.own a)) (B:∀b xs,H b=some (.tup xs)->H' b=some (.tup xs)):bw P w H' h' a o:=by
 induction o with
 |lst xs=>obtain⟨z,i,n,r,e⟩:=x;exact⟨z,_,n,r,k _ _ (.inl rfl) e⟩
 |tup xs=>obtain⟨z,i,r,⟨O,e,c⟩,D,l,j⟩:=x;exact⟨z,_,r,⟨_,k _ _ (.inl rfl) e,c⟩,_,k _ _ (.inl rfl) l,j⟩
 |dK K=>obtain⟨z,y,vs,r,O,g,E,e,c⟩:=x;exact⟨z,y,_,r,_,_,_,k _ _ (.inl rfl) e,c⟩
 |dT K=>obtain⟨z,y,xs,r,O,g,E,e,c⟩:=x;exact⟨z,y,_,Paired.mapP r λp q z=>⟨z.1,B _ _ z.2.1,z.2.2⟩,_,_,_,k _ _ (.inl rfl) e,c⟩
 |set S n=>obtain⟨O,g,E,t,e,c⟩:=x;exact⟨_,_,_,t,k _ _ (.inl rfl) e,c⟩
 |ins C G fs=>obtain⟨d,z,ne,e,M,⟨F,g,E,m,c⟩,r⟩:=x;exact⟨A _ d,z,ne,k _ _ (.inl rfl) e,_,⟨_,_,_,k _ _ (.inr d) m,c⟩,r⟩
 |own y=>obtain⟨O,e⟩:=x;exact⟨_,k _ _ (.inl rfl) e⟩
 |xd fs=>obtain⟨M,⟨F,g,E,e,c⟩,r⟩:=x;exact⟨_,⟨_,_,_,k _ _ (.inl rfl) e,c⟩,r⟩
 |rng lo J=>obtain⟨t,u,v,e⟩:=x;exact⟨t,u,v,k _ _ (.inl rfl) e⟩
 |frz O u I=>obtain⟨e,q⟩:=x;exact⟨k _ _ (.inl rfl) e,I q⟩
 |tbl L=>have e:=x;exact k a _ (.inl rfl) e
 |met f y=>have e:=x;exact k a _ (.inl rfl) e
 |ext N=>obtain⟨p,⟨o,e⟩,s⟩:=x;exact⟨s _ _ p λo q=>k _ _ (.inl rfl) q,⟨o,k _ _ (.inl rfl) e⟩,s⟩
theorem eG.lt(x:eG P w H h)(e:H a=some o):a<h.objs.size:=(x a o e).lt
theorem eG.fresh(x:eG P w H h)(e:h.objs.size<=a):H a=none:=by
 cases q:H a with
 |none=>rfl
 |some u=>exact absurd (ZL (x.lt q) e) (Yf _)
theorem eG.kept(x:eG P w H h)(k:∀b u,h.get? b=some u->h'.get? b=some u):eG P w H h':=λa o e=>
 (x a o e).stay (λb u _ q=>k b u q) (λ_ q=>q) λ_ _ q=>q
theorem eG.laid(x:eG P w H h)(k:∀b u,h.get? b=some u->h'.get? b=some u)(g:h.objs.size<=a)(new:bw P w (bg H a o) h' a o):eG P w (bg H a o) h':=λb u e=>by
 have f:=x.fresh g;by_cases d:b=a
 ·subst d;rw[dk]at e;simp_all
 ·rw[a_ d]at e;exact(x b u e).stay (λc v _ q=>k c v q) (λc q=>by rw[a_ (dC q f)];exact q) λc X q=>by rw[a_ (dC q f)];exact q
end
def Rd(H:Hp)(a:Addr)(u:HO):Prop:=H a=some u\/∃o,H a=some (.frz o u)
theorem Rd.ok{H:Hp}{u:HO}(r:Rd H a u)(x:eG P w H h):bw P w H h a u:=by
 rcases r with r| ⟨o,r⟩
 ·exact x a u r
 ·obtain⟨_,q⟩:=x a _ r;exact q
def DJ:Option HO->Prop
 |some (.lst _)=>True
 |some (.dK _)=>True
 |some (.dT _)=>True
 |some (.set _ _)=>True
 |some (.ins _ _ _)=>True
 |some (.ext _)=>True
 |_=>False
section
variable {H:Hp}{x e:Addr}{o':HO}
theorem eG.write(ok:eG P w H h)(m:DJ (H x))(i:e=x\/H e=some (.own x))(k:∀b u,b≠e->h.get? b=some u->h'.get? b=some u)(a:∃u,h'.get? e=some u)
  (new:bw P w (bg H x o') h' x o'):eG P w (bg H x o') h':=λb u q=>by
 have n:∀c y,H c=some (.own y)->c≠x:=λc y r z=>by subst z;rw[r]at m;exact m
 have N:∀c X,H c=some (.tup X)->c≠x:=λc X r z=>by subst z;rw[r]at m;exact m
 by_cases d:b=x
 ·subst d;rw[dk]at q;simp_all
 ·rw[a_ d]at q;by_cases f:b=e
  ·have Q:H b=some (.own x):=by lia
   rw[q]at Q;cases Q;obtain⟨v,j⟩:=a;exact⟨v,by lia⟩
  ·refine(ok b u q).stay (λc v g r=>k c v ?_ r) (λc r=>by rw[a_ (n c b r)];exact r) λc X r=>by rw[a_ (N c _ r)];exact r
   grind
end
structure Un (fs ex:La)(H H':Hp)(h h':Heap):Prop where
 keep:∀b o,h.get? b=some o->H b=none->b∉fs->b∉ex->h'.get? b=some o
 slot:∀b o,h.get? b=some o->H b=none->b∈fs->b∉ex->∃sl,h'.get? b=some {o with slots:=sl}
 free:∀b o,h.get? b=some o->H b=none->b∉ex->H' b=none
 there:∀b o,h.get? b=some o->b∉ex->∃o',h'.get? b=some o'
 tups:∀b xs,H b=some (.tup xs)->H' b=some (.tup xs)
 frzs:∀b o u,H b=some (.frz o u)->H' b=some (.frz o u)
 tbls:∀b ps,H b=some (.tbl ps)->∃more,H' b=some (.tbl (ps++more))
section
variable {fs fs' ex ex':La}{H H1 H2:Hp}{x e:Addr}{o:HO}
theorem Un.any(u:Un fs ex H H1 h h1){b:Addr}(q:h.get? b=some ob)(n:H b=none)(c:b∉ex):∃sl,h1.get? b=some {ob with slots:=sl}:=by
 by_cases a:b∈fs
 ·exact u.slot b _ q n a c
 ·exact⟨_,u.keep b _ q n a c⟩
theorem Un.kept(k:∀b u,h.get? b=some u->h'.get? b=some u):Un fs ex H H h h':=
 ⟨λb o q _ _ _=>k b _ q,λb o q _ _ _=>⟨_,k b _ q⟩,λ_ _ _ n _=>n,λb o q _=>⟨_,k b _ q⟩,λ_ _ q=>q,λ_ _ _ q=>q,λ_ p q=>⟨#[],by simp_all⟩⟩
theorem Un.refl:Un fs ex H H h h:=Un.kept λ_ _ q=>q
theorem Un.laid(k:∀b u,h.get? b=some u->h'.get? b=some u)(hp:h.objs.size<=a)(hn:H a=none):Un fs ex H (bg H a o) h h' where
 keep:=λb u q _ _ _=>k b u q
 slot:=λb u q _ _ _=>⟨_,k b u q⟩
 free:=λb u q n _=>by rw[a_ (Zx (ZL (Zl q) hp))];exact n
 there:=λb u q _=>⟨u,k b u q⟩
 tups:=λb xs q=>by rw[a_ (dC q hn)];exact q
 frzs:=λb u xs q=>by rw[a_ (dC q hn)];exact q
 tbls:=λb ps q=>⟨#[],by rw[a_ (dC q hn),q];simp⟩
theorem Un.write(m:DJ (H x))(g:e=x\/H e=some (.own x))(k:∀b u,b≠e->h.get? b=some u->h'.get? b=some u)(d:∃u,h'.get? e=some u):Un fs ex H (bg H x o) h h':=by
 have f:∀b,H b=none->b≠x:=λb n z=>by subst z;rw[n]at m;exact m
 have c:∀b,H b=none->b≠e:=λb n z=>by lia
 have a:∀b u,H b=some u->¬DJ (some u)->b≠x:=λb u q nm z=>by lia
 refine⟨λb u q n _ _=>k b u (c b n) q,λb u q n _ _=>⟨_,k b u (c b n) q⟩,λb u q n _=>by rw[a_ (f b n)];exact n,λb u q _=>?_,
  λb X q=>by rw[a_ (a b _ q λz=>z)];exact q,λb u X q=>by rw[a_ (a b _ q λz=>z)];exact q,λb p q=>⟨#[],by rw[a_ (a b _ q λz=>z),q];simp⟩⟩
 grind
end
noncomputable def Mm(h:Heap)(H:Hp):La:=(List.range h.objs.size).filter λa=>(H a).isSome
def fH(h:Heap)(H:Hp):Heap:=PySem.W.hideAll h (Mm h H)
theorem Ec(h:Heap)(H:Hp):(fH h H).objs.size=h.objs.size:=PySem.W.hideAll_size _ _
theorem Ed{H:Hp}{b:Addr}(e:h.get? b=some o)(n:H b=none):(fH h H).get? b=some o:=
 PySem.W.hideAll_get _ e λa=>by have q:=(Zm.mp a).2;simp_all
theorem lq{H:Hp}{b:Addr}(e:(fH h H).get? b=some o):h.get? b=some o/\H b=none:=by
 have E:=PySem.W.of_hideAll _ e;refine⟨E,?_⟩;cases q:H b with
 |none=>rfl
 |some x=>have a:b∈Mm h H:=Zm.mpr ⟨ZT.mpr (Zl E),by simp[q]⟩;have z:(fH h H).get? b=none:=PySem.W.hideAll_none _ a;simp_all
structure Mod (K:Fg)(mg:Mg)(base:Heap):Prop where
 kin:K.In base
 glob:base.Ns mainGlobals mg
 blt:∃mb,base.Ns builtinsNs mb/\∀x:Str,x≠"__name__"->mb x=bootBuiltins x
 nolimit:base.NoLimit
structure Cx where
 prog:Program
 w:World
 K:Fg
 mg:Mg
 base:Heap
 A:Around
 N:Ls
 s₀:Shared
 H₀:Hp
 env:Env
 outer:List Env
 stack:List Env
 ex:La
 fn:Str->Bool
 calm:Bool
 pn:Lp
 xe:Vs
def dw(l:List Env):La:=l.filterMap (·.frame)
abbrev Cx.fs(X:Cx):La:=dw X.outer
def vO(s:Scope)(x:Str):Prop:=s.names.lookup x=some .local\/s.names.lookup x=some .cell\/s.names.lookup x=some .free
def Loc(s:Scope)(x:Str):Prop:=s.names.lookup x=some .local\/s.names.lookup x=some .cell
def Look(env:Env)(h:Heap)(m:Mg)(x:Str)(u:Value):Prop:=
 (env.kindOf x=some .local/\m x=some u)\/((env.kindOf x=some .cell\/env.kindOf x=some .free)/\∃c,env.cells.lookup x=some c/\h.IsCell c (some u))
structure Cx.Ok (X:Cx):Prop where
 mod:Mod X.K X.mg X.base
 kind:X.env.scope.kind=.function
 glob:X.env.globals=mainGlobals
 blt:X.env.builtins=builtinsNs
 above:X.s₀.heap.objs.size<=X.env.locals
 inj:∀x y c,X.env.cells.lookup x=some c->X.env.cells.lookup y=some c->x=y
 has:∀x,(X.env.kindOf x=some .cell\/X.env.kindOf x=some .free)->∃c,X.env.cells.lookup x=some c
 cab:∀x c,X.fn x=true->X.env.cells.lookup x=some c->X.s₀.heap.objs.size<=c
 hd:X.calm=true->X.A.handled=none
 frames:X.A.frames=some X.stack
 stk:X.stack=X.outer\/(X.stack=X.env::X.outer/\X.env.frame=some X.env.locals)
 exf:∀b∈X.ex,b≠X.env.locals/\∀x c,X.env.cells.lookup x=some c->c≠b
 bs:∀b o,X.base.get? b=some o->X.s₀.heap.get? b=some o/\X.H₀ b=none
 bsz:X.base.objs.size<=X.s₀.heap.objs.size
 noex:∀b o,X.base.get? b=some o->b∉X.ex
 exfs:∀b∈X.ex,b∉X.fs
 funs:X.s₀.heap.FunFrames X.base X.outer
 frf:∀b∈X.fs,X.H₀ b=none
structure Inv (X:Cx)(pq:Lp)(σ:List (Option V))(H:Hp)(s:Shared):Prop where
 ok:X.Ok
 os:s.os=X.s₀.os
 bare:AllBare s.gens
 base:Un X.fs X.ex X.H₀ H X.s₀.heap s.heap
 loc:∃m,s.heap.Ns X.env.locals m/\∀(i:Nat) (x:Str) (v:V),X.N[i]?=some x->σ[i]?=some (some v)->vO X.env.scope x->∃u,RelV v u/\Look X.env s.heap m x u
 cell:∀x c,X.env.cells.lookup x=some c->∃v,s.heap.IsCell c v
 free:H X.env.locals=none
 freeC:∀x c,X.env.cells.lookup x=some c->H c=none
 pin:∀p∈X.pn++pq,s.heap.get? p.1=some p.2/\H p.1=none/\p.1≠X.env.locals/\p.1∉X.fs/\∀v,p.2.data≠.cell v
 hok:eG X.prog X.w H s.heap
 len:σ.length=X.N.length
section
variable {X:Cx}{σ:List (Option V)}{H H':Hp}
theorem Cx.Ok.nofr(ok:X.Ok){b:Addr}(e:X.base.get? b=some o):b∉X.fs:=λh=>by have:=(ok.funs.mem h).1;simp_all
theorem Inv.bs(I:Inv X pq σ H s):∀b o,X.base.get? b=some o->s.heap.get? b=some o/\H b=none:=λb o e=>
 ⟨I.base.keep b o (I.ok.bs b o e).1 (I.ok.bs b o e).2 (I.ok.nofr e) (I.ok.noex b o e),I.base.free b o (I.ok.bs b o e).1 (I.ok.bs b o e).2 (I.ok.noex b o e)⟩
theorem Inv.bk(I:Inv X pq σ H s):∀b o,X.base.get? b=some o->s.heap.get? b=some o:=λb o e=>(I.bs b o e).1
theorem Inv.mod(I:Inv X pq σ H s):Mod X.K X.mg X.base:=I.ok.mod
theorem Inv.kIn(I:Inv X pq σ H s):X.K.In s.heap:=I.ok.mod.kin.keeps I.bk
theorem Inv.lt(I:Inv X pq σ H s):X.env.locals<s.heap.objs.size:=let⟨_,h,_⟩:=I.loc;h.lt
theorem Inv.sz(I:Inv X pq σ H s):X.s₀.heap.objs.size<=s.heap.objs.size:=ZB I.ok.above (Nat.le_of_lt I.lt)
theorem Inv.nofs(I:Inv X pq σ H s)(h:s.heap.objs.size<=a):a∉X.fs:=λb=>by obtain⟨_,o,c,_⟩:=I.ok.funs.mem b;exact absurd (ZL (Zl c) (ZB I.sz h)) (Yf _)
theorem Inv.cne(I:Inv X pq σ H s):∀x c,X.env.cells.lookup x=some c->c≠X.env.locals:=λx c e z=>by obtain⟨v,o,f,d⟩:=I.cell x c e;obtain⟨m,⟨O,b,E,a,h,_⟩,_⟩:=I.loc;simp_all
theorem Inv.funs(I:Inv X pq σ H s):s.heap.FunFrames X.base X.outer:=by
 have all:∀(l:List _),(∀b∈dw l,b∈X.fs)->X.s₀.heap.FunFrames X.base l->s.heap.FunFrames X.base l:=by
  intro l
  induction l with
  |nil=>intro _ _;trivial
  |cons E r n=>intro d i;obtain⟨g,⟨L,o,c,j,k,f⟩,m⟩:=i;have h:=d L (by unfold dw;simp_all);obtain⟨sl,e⟩:=I.base.slot L o k (I.ok.frf L h) h λz=>I.ok.exfs L z h;exact⟨g,⟨L,_,c,j,e,f⟩,n (λb a=>d b (by unfold dw;rw[List.filterMap_cons,c];exact Zc _ a)) m⟩
 exact all _ (λ_ a=>a) I.ok.funs
theorem Inv.stack(I:Inv X pq σ H s):s.heap.FunFrames X.base X.stack:=by
 rcases I.ok.stk with e| ⟨e,h⟩
 ·rw[e];exact I.funs
 ·rw[e];obtain⟨m,a,_⟩:=I.loc;refine .cons (by rw[I.ok.kind];decide) h a ?_ I.funs;exact Heap.get?_none_of_le (ZB I.ok.bsz I.ok.above)
theorem Inv.stkSub(I:Inv X pq σ H s):∀b∈dw X.stack,b∈X.env.locals::X.fs:=λb h=>by
 rcases I.ok.stk with e| ⟨e,a⟩
 ·simp_all
 ·rw[e]at h;unfold dw at h;rw[List.filterMap_cons,a]at h;exact h
theorem Inv.stkFree(I:Inv X pq σ H s):∀b∈dw X.stack,H b=none:=λb h=>by
 rcases Zn.mp (I.stkSub b h)with e|h
 ·rw[e];exact I.free
 ·obtain⟨_,o,a,_⟩:=I.ok.funs.mem h;exact I.base.free b o a (I.ok.frf b h) λz=>I.ok.exfs b z h
theorem Inv.step{J:Array GenState}{t':Nat}{Q:Drawn}(I:Inv X pq σ H s)
  (a:∀b∈ch,(b∈X.ex\/X.s₀.heap.objs.size<=b)/\b≠X.env.locals/\(∀x c,X.env.cells.lookup x=some c->c≠b)/\∀p∈X.pn++pq,p.1≠b)
  (K:∀b o,b≠X.env.locals->b∉X.fs->b∉ch->s.heap.get? b=some o->H b=none->h'.get? b=some o)
  (S:∀b o,b≠X.env.locals->b∈X.fs->b∉ch->s.heap.get? b=some o->H b=none->∃sl,h'.get? b=some {o with slots:=sl}) (f:∀b o,b∉ch->s.heap.get? b=some o->H b=none->H' b=none)
  (t:∀b o,b∉ch->s.heap.get? b=some o->∃o',h'.get? b=some o')
  (T:∀b xs,H b=some (.tup xs)->H' b=some (.tup xs)) (F:∀b o u,H b=some (.frz o u)->H' b=some (.frz o u)) (O:∀b ps,H b=some (.tbl ps)->∃more,H' b=some (.tbl (ps++more)))
  (ns:∀m,s.heap.Ns X.env.locals m->h'.Ns X.env.locals m) (D:eG X.prog X.w H' h') (U:AllBare J):
  Inv X pq σ H' {s with heap:=h',gens:=J,drawn:=Q,toks:=t'}:=by
 have y:∀b o,X.s₀.heap.get? b=some o->b≠X.env.locals:=λb o e=>Zx (ZL (Zl e) I.ok.above)
 have N:∀b o,X.s₀.heap.get? b=some o->b∉X.ex->b∉ch:=λb o e h g=>by
  rcases(a b g).1 with z|z
  ·exact h z
  ·exact absurd (ZL (Zl e) z) (Yf _)
 have C:∀x c,X.env.cells.lookup x=some c->∀v,s.heap.IsCell c v->h'.IsCell c v:=λx c e v ⟨o,j,B⟩=>by
  have w:c∉ch:=λz=>(a c z).2.2.1 x c e rfl;by_cases L:c∈X.fs
  ·obtain⟨sl,q⟩:=S c o (I.cne x c e) L w j (I.freeC x c e);exact⟨_,q,B⟩
  ·exact⟨o,K c o (I.cne x c e) L w j (I.freeC x c e),B⟩
 refine⟨I.ok,I.os,U,⟨λb o e n g h=>?_,λb o e n g h=>?_,λb o e n h=>?_,λb o e h=>?_,λb xs e=>T b xs (I.base.tups b xs e),λb o xs e=>F b o xs (I.base.frzs b o xs e),λb ps e=>?_⟩,?_,λx c e=>?_,?_,λx c e=>?_,λp Y=>?_,D,I.len⟩
 ·exact K b o (y b o e) g (N b o e h) (I.base.keep b o e n g h) (I.base.free b o e n h)
 ·obtain⟨sl,E⟩:=I.base.slot b o e n g h;obtain⟨G,A⟩:=S b _ (y b o e) g (N b o e h) E (I.base.free b o e n h);exact⟨G,A⟩
 ·obtain⟨o',E⟩:=I.base.there b o e h;exact f b o' (N b o e h) E (I.base.free b o e n h)
 ·obtain⟨o',E⟩:=I.base.there b o e h;exact t b o' (N b o e h) E
 ·obtain⟨Z,E⟩:=I.base.tbls b ps e
  grind
 ·obtain⟨m,W,V⟩:=I.loc;refine⟨m,ns m W,λi x v E A R=>?_⟩;obtain⟨u,r,l⟩:=V i x v E A R;refine⟨u,r,?_⟩;rcases l with l| ⟨k,c,e,z⟩
  ·exact .inl l
  ·exact .inr ⟨k,c,e,C x c e _ z⟩
 ·obtain⟨v,z⟩:=I.cell x c e;exact⟨v,C x c e v z⟩
 ·obtain⟨m,⟨o,_,_,j,_⟩,_⟩:=I.loc;exact f _ o (λz=>(a _ z).2.1 rfl) j I.free
 ·obtain⟨v,o,j,B⟩:=I.cell x c e;exact f c o (λz=>(a c z).2.2.1 x c e rfl) j (I.freeC x c e)
 ·obtain⟨e,n,ne,nf,d⟩:=I.pin p Y
  grind
theorem Inv.un{t':Nat}(I:Inv X pq σ H s)(u:Un X.fs [] H H' s.heap h')(c:eG X.prog X.w H' h'):Inv X pq σ H' {s with heap:=h',toks:=t'}:=by obtain⟨m,⟨o,l,k,f,r⟩,_⟩:=id I.loc;obtain⟨sl,i⟩:=u.any f I.free (by simp);exact I.step (ch:=[]) (λ_ z=>nomatch z) (λb o _ a _ e n=>u.keep b o e n a (by simp)) (λb o _ a _ e n=>u.slot b o e n a (by simp)) (λb o _ e n=>u.free b o e n (by simp)) (λb o _ e=>u.there b o e (by simp)) u.tups u.frzs u.tbls (λM j=>by obtain⟨O,g,E,h,R⟩:=j;rw[f]at h;cases h;exact⟨_,_,_,i,R⟩) c I.bare
theorem Inv.call{t':Nat}{D:Drawn}(I:Inv X pq σ H s)(u:Un (dw X.stack) ch H H' s.heap h')(g:eG X.prog X.w H' h')(q:AllBare g')
  (a:∀b∈ch,(b∈X.ex\/X.s₀.heap.objs.size<=b)/\b≠X.env.locals/\(∀x c,X.env.cells.lookup x=some c->c≠b)/\∀p∈X.pn++pq,p.1≠b):
  Inv X pq σ H' {s with heap:=h',gens:=g',drawn:=D,toks:=t'}:=by
 obtain⟨m,⟨o,y,w,j,r⟩,_⟩:=id I.loc;obtain⟨sl,f⟩:=u.any j I.free λz=>(a _ z).2.1 rfl;exact I.step a (λb o f l h e n=>u.keep b o e n (λz=>(Zn.mp (I.stkSub b z)).elim f l) h) (λb o _ _ h e n=>u.any e n h) (λb o h e n=>u.free b o e n h) (λb o h e=>u.there b o e h) u.tups u.frzs u.tbls (λM v=>by obtain⟨O,k,E,d,R⟩:=v;rw[j]at d;cases d;exact⟨_,_,_,f,R⟩) g q
theorem Inv.turned{t':Nat}(I:Inv X pq σ H s)(k:∀b o,b≠it->s.heap.get? b=some o->h'.get? b=some o)(y:H it=none)(d:it≠X.env.locals)
  (h1:it∈X.ex\/X.s₀.heap.objs.size<=it) (j:∀x c,X.env.cells.lookup x=some c->c≠it) (l:∀p∈X.pn++pq,p.1≠it):Inv X pq σ H {s with heap:=h',toks:=t'}:=by
 refine I.step (ch:=[it]) (λb w=>?_) (λb o _ _ h e _=>k b o (λz=>h (by simp[z])) e) (λb o _ _ h e _=>⟨_,k b o (λz=>h (by simp[z])) e⟩) (λ_ _ _ _ n=>n)
  (λb o h e=>⟨o,k b o (λz=>h (by simp[z])) e⟩) (λ_ _ e=>e) (λ_ _ _ e=>e) (λb P e=>⟨#[],by simp_all⟩) (λm f=>?_) (λb u e=>?_) I.bare
 ·grind
 ·obtain⟨o,i,E,g,r⟩:=f;exact⟨o,_,_,k _ o (Ne.symm d) g,r⟩
 ·refine(I.hok b u e).stay (λc v h q=>k c v ?_ q) (λ_ q=>q) λ_ _ q=>q
  grind
theorem Inv.tok(I:Inv X pq σ H s)(t:Nat):Inv X pq σ H {s with toks:=t}:=I.un Un.refl I.hok
theorem Inv.kept{t':Nat}(I:Inv X pq σ H s)(k:∀b u,s.heap.get? b=some u->h'.get? b=some u):Inv X pq σ H {s with heap:=h',toks:=t'}:=I.un (Un.kept k) (I.hok.kept k)
theorem Inv.laid{o:HO}{t':Nat}(I:Inv X pq σ H s)(k:∀b u,s.heap.get? b=some u->h'.get? b=some u)(h:s.heap.objs.size<=a)(new:bw X.prog X.w (bg H a o) h' a o):
  Inv X pq σ (bg H a o) {s with heap:=h',toks:=t'}:=I.un (Un.laid k h (I.hok.fresh h)) (I.hok.laid k h new)
theorem Inv.write{x e:Addr}{o:HO}{t':Nat}(I:Inv X pq σ H s)(m:DJ (H x))(a:e=x\/H e=some (.own x))(k:∀b u,b≠e->s.heap.get? b=some u->h'.get? b=some u)(h:∃u,h'.get? e=some u)
  (new:bw X.prog X.w (bg H x o) h' x o):Inv X pq σ (bg H x o) {s with heap:=h',toks:=t'}:=I.un (Un.write m a k h) (I.hok.write m a k h new)
theorem Inv.pins_of(I:Inv X pq σ H s)(h:∀p∈pins',s.heap.get? p.1=some p.2/\H p.1=none/\p.1≠X.env.locals/\p.1∉X.fs/\∀v,p.2.data≠.cell v):Inv X pins' σ H s:=
 ⟨I.ok,I.os,I.bare,I.base,I.loc,I.cell,I.free,I.freeC,λp a=>(Zq.mp a).elim (λz=>I.pin p (ZD _ z)) (h p),I.hok,I.len⟩
theorem vP(h:N.Nodup){i j:Nat}{x:Str}(a:N[i]?=some x)(b:N[j]?=some x):i=j:=by obtain⟨H,e⟩:=Zp.mp a;obtain⟨c,E⟩:=Zp.mp b;exact(List.getElem_inj h).mp (e.trans E.symm)
theorem vQ{M:Model}{A:Around}{E:Vs}{i:Nat}{x:Str}{v:V}{Q:Unit->Shared->Prop}(I:Inv X pq σ H s)(hN:X.N.Nodup)(hi:X.N[i]?=some x)(w:Loc X.env.scope x)(r:RelV v u)
  (h:∀s',Inv X pq (σ.set i (some v)) H s'->(∃a,Heap.SameBut a s.heap s'.heap/\(a=X.env.locals\/X.env.cells.lookup x=some a))->Q () s') (hf:X.fn x=true\/X.env.scope.names.lookup x=some .local:=by first|exact .inl rfl|exact .inr rfl|assumption):wpAny M A (storeName X.env x u) Q E s:=by
 obtain⟨m,Y,hl⟩:=id I.loc;have P:(X.env.scope.kind== .class||(X.env.scope.kind== .module&&X.env.locals !=X.env.globals))=false:=by rw[I.ok.kind];rfl
 have D:i<σ.length:=by rw[I.len];exact(Zp.mp hi).1
 have cne:=I.cne
 have t:∀{a:Addr} {L:Heap},(∃o,s.heap.get? a=some o/\H a=none)->Heap.SameBut a s.heap L->eG X.prog X.w H L:=λ{a L} ha f b ob e=>by
  obtain⟨_,_,B⟩:=ha;refine(I.hok b ob e).stay (λc W l q=>(f.2 c ?_).trans q) (λ_ q=>q) λ_ _ q=>q;rintro rfl;rcases l with rfl|l
  ·rw[B]at e;cases e
  ·rw[B]at l;cases l
 rcases w with F|F
 ·refine wpAny_storeName_local F Y (λL Z f=>?_) P;obtain⟨oL,_,_,hoL,_⟩:=id Y;refine h _ ⟨I.ok,I.os,I.bare,⟨λb o e n G w=>?_,λb o e n G w=>?_,I.base.free,λb o e w=>?_,I.base.tups,I.base.frzs,I.base.tbls⟩,⟨_,Z,λj y v' g C U=>?_⟩,λy c e=>?_,I.free,I.freeC,λp hp=>?_,t ⟨oL,hoL,I.free⟩ f,by simpa using I.len⟩ ⟨_,f,.inl rfl⟩
  ·exact(f.2 b (Zx (ZL (Zl e) I.ok.above))).trans (I.base.keep b o e n G w)
  ·obtain⟨sl,g⟩:=I.base.slot b o e n G w;exact⟨sl,(f.2 b (Zx (ZL (Zl e) I.ok.above))).trans g⟩
  ·obtain⟨o',g⟩:=I.base.there b o e w;exact⟨o',(f.2 b (Zx (ZL (Zl e) I.ok.above))).trans g⟩
  ·by_cases K:j=i
   ·subst K;rw[hi]at g;cases g;rw[List.getElem?_set_self D]at C;cases C;exact⟨u,r,.inl ⟨F,by simp⟩⟩
   ·rw[List.getElem?_set_ne (Ne.symm K)]at C;obtain⟨u',r',q⟩:=hl j y v' g C U;refine⟨u',r',?_⟩;rcases q with⟨k,e⟩| ⟨k,c,e,z⟩
    ·refine .inl ⟨k,?_⟩;have:y≠x:=λe=>K (vP hN g (e▸hi));simp[this,e]
    ·exact .inr ⟨k,c,e,z.sameBut f (cne y c e)⟩
  ·obtain⟨W,z⟩:=I.cell y c e;exact⟨W,z.sameBut f (cne y c e)⟩
  ·obtain⟨e,n,ne,nf,d⟩:=I.pin p hp;exact⟨(f.2 p.1 ne).trans e,n,ne,nf,d⟩
 ·have J:X.fn x=true:=by
   rcases hf with z|z
   ·exact z
   ·rw[z]at F;cases F
  obtain⟨c,l⟩:=I.ok.has x (.inl F);obtain⟨W,z⟩:=I.cell x c l;refine wpAny_storeName_cell I.ok.kind F l z (λL N f=>?_);obtain⟨oc,R,S⟩:=id z;refine h {s with heap:=L} ⟨I.ok,I.os,I.bare,⟨λb o e n G w=>?_,λb o e n G w=>?_,I.base.free,λb o e w=>?_,I.base.tups,I.base.frzs,I.base.tbls⟩,⟨m,Y.sameBut f (Ne.symm (cne x c l)),λj y v' g C U=>?_⟩,λy T e=>?_,I.free,I.freeC,λp hp=>?_,t ⟨oc,R,I.freeC x c l⟩ f,by simpa using I.len⟩ ⟨c,f,.inr l⟩
  ·exact(f.2 b (Zx (ZL (Zl e) (I.ok.cab x c J l)))).trans (I.base.keep b o e n G w)
  ·obtain⟨sl,g⟩:=I.base.slot b o e n G w;exact⟨sl,(f.2 b (Zx (ZL (Zl e) (I.ok.cab x c J l)))).trans g⟩
  ·obtain⟨o',g⟩:=I.base.there b o e w;exact⟨o',(f.2 b (Zx (ZL (Zl e) (I.ok.cab x c J l)))).trans g⟩
  ·by_cases K:j=i
   ·subst K;rw[hi]at g;cases g;rw[List.getElem?_set_self D]at C;cases C;exact⟨u,r,.inr ⟨.inl F,c,l,N⟩⟩
   ·rw[List.getElem?_set_ne (Ne.symm K)]at C;obtain⟨u',r',q⟩:=hl j y v' g C U;refine⟨u',r',?_⟩;rcases q with q| ⟨k,T,e,z'⟩
    ·exact .inl q
    ·refine .inr ⟨k,T,e,z'.sameBut f ?_⟩;rintro rfl;exact K (vP hN g (I.ok.inj _ _ _ e l▸hi))
  ·by_cases O:T=c
   ·subst O;exact⟨_,N⟩
   ·obtain⟨w2,z2⟩:=I.cell y T e;exact⟨w2,z2.sameBut f O⟩
  ·obtain⟨e,n,ne,nf,d⟩:=I.pin p hp;refine⟨(f.2 p.1 ?_).trans e,n,ne,nf,d⟩;intro q;rw[q,R]at e;have q':oc=p.2:=Option.some.inj e;exact d W (by rw[<-q'];exact S)
theorem vR{M:Model}{A:Around}{E:Vs}{i:Nat}{x:Str}{v:V}{Q:Unit->Shared->Prop}(I:Inv X pq σ H s)(b:X.N.Nodup)(hi:X.N[i]?=some x)(d:Loc X.env.scope x)(r:RelV v u)
  (h:∀s',Inv X pq (σ.set i (some v)) H s'->Q () s') (c:X.fn x=true\/X.env.scope.names.lookup x=some .local:=by first|exact .inl rfl|exact .inr rfl|assumption):wpAny M A (storeName X.env x u) Q E s:=
 vQ I b hi d r (λs' a _=>h _ a) c
theorem Inv.call'(I:Inv X pq σ H s)(f:s'.os=s.os)(u:Un (dw X.stack) ch H H' s.heap s'.heap)(a:eG X.prog X.w H' s'.heap)(d:AllBare s'.gens)
  (h:∀b∈ch,(b∈X.ex\/X.s₀.heap.objs.size<=b)/\b≠X.env.locals/\(∀x c,X.env.cells.lookup x=some c->c≠b)/\∀p∈X.pn++pq,p.1≠b):Inv X pq σ H' s':=by
 obtain⟨i,g,D,t,o⟩:=s';have e:=f;subst e;exact I.call u a d h
end
abbrev XK:=Value->Option Addr->Hp->Prop
abbrev St:=List (Option V)
abbrev VK:=V->Hp->Prop
abbrev TE:=St->Hp->VK->Prop
abbrev TT:=St->Hp->(Bool->Hp->Prop)->Prop
abbrev TA:=St->Hp->(List V->Hp->Prop)->Prop
structure Ends where
 nx:St->Hp->Prop
 rt:VK
 bk:St->Hp->Prop:=λ_ _=>False
 ct:St->Hp->Prop:=λ_ _=>False
abbrev TS:=Ends->St->Hp->Prop
def EP(X:Cx)(p:Lp)(σ:St)(Q:VK)(u:Value)(s:Shared):Prop:=∃v H',Inv X p σ H' s/\RelV v u/\Q v H'
def TP(X:Cx)(p:Lp)(σ:St)(Q:Bool->Hp->Prop)(b:Bool)(s:Shared):Prop:=∃H',Inv X p σ H' s/\Q b H'
def AP(X:Cx)(p:Lp)(σ:St)(Q:List V->Hp->Prop)(us:Lv)(s:Shared):Prop:=∃vs H',Inv X p σ H' s/\Vals vs us/\Q vs H'
def SP(X:Cx)(p:Lp)(D:Ends)(f:Flow)(s:Shared):Prop:=
 match f with
 | .next=>∃σ' H',Inv X p σ' H' s/\D.nx σ' H'
 | .brk=>∃σ' H',Inv X p σ' H' s/\D.bk σ' H'
 | .cont=>∃σ' H',Inv X p σ' H' s/\D.ct σ' H'
 | .ret u=>∃v σ' H',Inv X p σ' H' s/\RelV v u/\D.rt v H'
def PE(X:Cx)(e:Expr)(t:TE):Prop:=
 ∀(pq:Lp) (s:Shared) (σ:St) (H:Hp) (Q:VK),Inv X pq σ H s->t σ H Q->wpAny (model X.prog X.w) X.A (eval e X.env) (EP X pq σ Q) X.xe s
def PT(X:Cx)(e:Expr)(t:TT):Prop:=
 ∀(pq:Lp) (s:Shared) (σ:St) (H:Hp) (Q:Bool->Hp->Prop),Inv X pq σ H s->t σ H Q->wpAny (model X.prog X.w) X.A (isTrue e X.env (eval e X.env)) (TP X pq σ Q) X.xe s
def PW(X:Cx)(e:Expr)(t:TT):Prop:=
 ∀(whole:Sem Value) (pq:Lp) (s:Shared) (σ:St) (H:Hp) (Q:Bool->Hp->Prop),Inv X pq σ H s->t σ H Q->wpAny (model X.prog X.w) X.A (isTrue e X.env whole) (TP X pq σ Q) X.xe s
theorem PW.pt{X:Cx}{t:TT}(h:PW X e t):PT X e t:=h _
def PA(X:Cx)(es:Lx)(t:TA):Prop:=
 ∀(pos:Pos) (pq:Lp) (s:Shared) (σ:St) (H:Hp) (Q:List V->Hp->Prop),Inv X pq σ H s->t σ H Q->wpAny (model X.prog X.w) X.A (spliced (backTo pos (starEach es X.env))) (AP X pq σ Q) X.xe s
def PS(X:Cx)(st:Stmt)(t:TS):Prop:=
 ∀(pq:Lp) (s:Shared) (σ:St) (H:Hp) (D:Ends),Inv X pq σ H s->t D σ H->wpAny (model X.prog X.w) X.A (exec st X.env) (SP X pq D) X.xe s
def fW(X:Cx)(st:List Stmt)(t:TS):Prop:=
 ∀(pq:Lp) (s:Shared) (σ:St) (H:Hp) (D:Ends),Inv X pq σ H s->t D σ H->wpAny (model X.prog X.w) X.A (execs st X.env) (SP X pq D) X.xe s
theorem a'{c:Type}{t:Sem c}{Q b:c->Shared->Prop}(h:wpAny M A t Q E s)(H:∀a s,Q a s->b a s):wpAny M A t b E s:=wpAny_mono h H λ_ _ x=>x
section
variable {X:Cx}
def Ee(i:Nat):TE:=λσ H Q=>∃v,σ[i]?=some (some v)/\Q v H
def tC(v:V):TE:=λ_ H Q=>Q v H
theorem qH{i:Nat}{x:Str}{pos:Pos}(j:X.N[i]?=some x)(p:vO X.env.scope x)(f:(x==("__debug__":Str))=false:=by decide)(d:(x==("__classdict__":Str))=false:=by decide):PE X (.Name x pos) (Ee i):=by
 intro P s q H Q I h;obtain⟨v,e,h⟩:=h;obtain⟨m,o,k⟩:=I.loc;obtain⟨u,r,l⟩:=k i x v j e p;have aF:EP X _ _ Q u s:=⟨v,H,I,r,h⟩;rcases l with⟨b,n⟩| ⟨b,c,g,a⟩
 ·exact wpAny_Name (wpAny_loadName_local I.ok.kind b o n aF) f
 ·rcases b with b|b
  ·exact wpAny_Name (wpAny_loadName_cell I.ok.kind b g a aF) f
  ·exact wpAny_Name (wpAny_loadName_free I.ok.kind b g a aF d) f
theorem qI{i j pos}:PE X (.Constant (.int i) j pos) (tC (.int i)):=λ_ _ _ H _ I h=>wpAny_Constant_int ⟨.int i,H,I.tok _,⟨_,rfl⟩,h⟩
theorem vS{b j pos}:PE X (.Constant (.bool b) j pos) (tC (.bl b)):=λ_ _ _ H _ I h=>Constant_bool ⟨.bl b,H,I,rfl,h⟩
theorem qJ{j pos}:PE X (.Constant .none j pos) (tC .non):=λ_ _ _ H _ I h=>Constant_none ⟨.non,H,I,rfl,h⟩
theorem qK{x j pos}:PE X (.Constant (.str x) j pos) (tC (.str x)):=λ_ _ _ H _ I h=>Calls.Constant_str ⟨.str x,H,I.tok _,⟨_,rfl⟩,h⟩
def Gl(X:Cx)(x:Str):Prop:=X.env.kindOf x=some .globalImplicit
theorem vT{E:Vs}{σ:St}{H:Hp}{x:Str}{pos:Pos}(I:Inv X pq σ H s)(b:Gl X x)(c:X.mg x=some u)(h:Q u s)
  (a:(x==("__debug__":Str))=false:=by decide):wpAny (model X.prog X.w) X.A (eval (.Name x pos) X.env) Q E s:=
 Calls.Name_function_global I.ok.kind b (Calls.loadGlobal_global (by rw[I.ok.glob];exact I.mod.glob.keeps I.bk) c h) a
theorem ef{E:Vs}{σ:St}{H:Hp}{x:Str}{pos:Pos}(I:Inv X pq σ H s)(d:Gl X x)(e:X.mg x=none)(g:bootBuiltins x=some u)(h:Q u s)
  (f:x≠"__name__":=by decide) (c:(x==("__debug__":Str))=false:=by decide):wpAny (model X.prog X.w) X.A (eval (.Name x pos) X.env) Q E s:=by
 obtain⟨m,a,b⟩:=I.mod.blt;exact Calls.Name_function_global I.ok.kind d (Calls.loadGlobal_builtin (by rw[I.ok.glob];exact I.mod.glob.keeps I.bk) e (by rw[I.ok.blt];exact a.keeps I.bk) ((b x f).trans g) h) c
theorem lr{x:Str}{v:V}{pos:Pos}(b:Gl X x)(c:X.mg x=some u)(r:RelV v u)(a:(x==("__debug__":Str))=false:=by decide):PE X (.Name x pos) (tC v):=
 λ_ _ _ H _ I h=>vT I b c ⟨v,H,I,r,h⟩ a
theorem ls{x:Str}{v:V}{pos:Pos}(b:Gl X x)(c:X.mg x=none)(e:bootBuiltins x=some u)(r:RelV v u)(d:x≠"__name__":=by decide)(a:(x==("__debug__":Str))=false:=by decide):PE X (.Name x pos) (tC v):=
 λ_ _ _ H _ I h=>ef I b c e ⟨v,H,I,r,h⟩ d a
variable {a b:Expr}{ta tb:TE}{pos:Pos}
variable {tA tB':TT}
def Ef(t u:TT):TT:=λσ H Q=>t σ H λc H1=>if c=true then u σ H1 Q else Q false H1
def MD(t u:TT):TT:=λσ H Q=>t σ H λc H1=>if c=true then Q true H1 else u σ H1 Q
def Eg(t:TT):TT:=λσ H Q=>t σ H λc H1=>Q (!c) H1
theorem lu(b:PT X a tA):PW X (.BoolOp .And [a] pos) tA:=by
 intro w p s d H Q I h;refine isTrue_and (a' (b _ s _ H Q I h) λc S e=>?_);cases c with
 |true=>exact isTrue_and_nil e
 |false=>exact e
theorem qL(b:PT X a tA):PW X (.BoolOp .Or [a] pos) tA:=by
 intro w p s d H Q I h;refine isTrue_or (a' (b _ s _ H Q I h) λc S e=>?_);cases c with
 |false=>exact isTrue_or_nil e
 |true=>exact e
theorem qM(e:PT X a tA)(f:PW X (.BoolOp .And (b::rest) pos) tB'):PW X (.BoolOp .And (a::b::rest) pos) (Ef tA tB'):=by
 intro w p s g H Q I h;refine isTrue_and (a' (e _ s _ H _ I h) λc S ⟨_,d,q⟩=>?_);cases c with
 |true=>exact f _ _ _ _ _ Q d q
 |false=>exact⟨_,d,q⟩
theorem vU(e:PT X a tA)(f:PW X (.BoolOp .Or (b::rest) pos) tB'):PW X (.BoolOp .Or (a::b::rest) pos) (MD tA tB'):=by
 intro w p s g H Q I h;refine isTrue_or (a' (e _ s _ H _ I h) λc S ⟨_,d,q⟩=>?_);cases c with
 |true=>exact⟨_,d,q⟩
 |false=>exact f _ _ _ _ _ Q d q
theorem qN(b:PT X a tA):PT X (.UnaryOp .Not a pos) (Eg tA):=by intro p s c H Q I h;exact isTrue_not (b _ s _ H _ I h)
def vV(t tb:TE):TE:=λσ H Q=>t σ H λx H1=>∃c,x=.bl c/\if c=true then tb σ H1 Q else Q (.bl false) H1
def Eh(t tb:TE):TE:=λσ H Q=>t σ H λx H1=>∃c,x=.bl c/\if c=true then Q (.bl true) H1 else tb σ H1 Q
theorem jm{op}{t:TE}(h:PE X a t):PE X (.BoolOp op [a] pos) t:=λp s c H Q I b=>BoolOp_one (h _ s _ H Q I b)
theorem qO(e:PE X a ta)(f:PE X (.BoolOp .And (b::rest) pos) tb):PE X (.BoolOp .And (a::b::rest) pos) (vV ta tb):=by
 intro p s g H Q I h;refine BoolOp_and (a' (e _ s _ H _ I h) λv S ⟨x,_,d,r,q⟩=>?_);obtain⟨c,rfl,q⟩:=q;cases r;refine Yh ?_;cases c with
 |true=>exact f _ _ _ _ Q d q
 |false=>exact⟨.bl _,_,d,rfl,q⟩
theorem vW(e:PE X a ta)(f:PE X (.BoolOp .Or (b::rest) pos) tb):PE X (.BoolOp .Or (a::b::rest) pos) (Eh ta tb):=by
 intro p s g H Q I h;refine BoolOp_or (a' (e _ s _ H _ I h) λv S ⟨x,_,d,r,q⟩=>?_);obtain⟨c,rfl,q⟩:=q;cases r;refine Yh ?_;cases c with
 |false=>exact f _ _ _ _ Q d q
 |true=>exact⟨.bl _,_,d,rfl,q⟩
def ME(t:TT)(T tb:TE):TE:=λσ H Q=>t σ H λc H1=>if c=true then T σ H1 Q else tb σ H1 Q
theorem Ei{c:Expr}(i:PT X c tA)(f:PE X a ta)(g:PE X b tb):PE X (.IfExp c a b pos) (ME tA ta tb):=by
 intro p s j H Q I h;refine wpAny_IfExp (a' (i _ s _ H _ I h) λd S ⟨_,e,q⟩=>?_);cases d with
 |true=>exact f _ _ _ _ Q e q
 |false=>exact g _ _ _ _ Q e q
end
def c6(K:Fg)(H:Hp)(a:Addr)(xs:List V):Prop:=
 Rd H a (.lst xs)\/
  ∃(o:Obj) (its:Av) (n:Nat),K.lookup a=some o/\o.cls=.type "list"/\o.dict=none/\o.data=.seq its n/\its.size<=sizeLine/\Vals xs its.toList
def cf(K:Fg)(H:Hp)(a:Addr)(xs:List V):Prop:=
 Rd H a (.tup xs)\/
  ∃(o:Obj) (its:Av) (n:Nat),K.lookup a=some o/\o.cls=.type "tuple"/\o.dict=none/\o.data=.seq its n/\its.size<=sizeLine/\Vals xs its.toList
noncomputable def Ej:Value->Option V
 | .none=>some .non
 | .bool b=>some (.bl b)
 | .int i _=>some (.int i)
 | .str x _=>some (.str x)
 | .bytes b _=>some (.byt b)
 | .float b _=>some (.flt b)
 | .ref a=>some (.ref a)
 | .type n=>some (.ty n)
 |_=>none
theorem RelV.abs{x:V}(r:RelV x u):Ej u=some x:=by
 cases x with
 |non=>cases r;rfl
 |bl _=>cases r;rfl
 |int _=>obtain⟨t,rfl⟩:=r;rfl
 |str _=>obtain⟨t,rfl⟩:=r;rfl
 |byt _=>obtain⟨t,rfl⟩:=r;rfl
 |flt _=>obtain⟨t,rfl⟩:=r;rfl
 |ref _=>cases r;rfl
 |ty _=>cases r;rfl
theorem RelV.inj{x y:V}(r:RelV x u)(q:RelV y u):x=y:=Option.some.inj (r.abs.symm.trans q.abs)
theorem Vals.inj:∀{xs ys:List V} {us:Lv},Vals xs us->Vals ys us->xs=ys
 |_,_,_,.nil,.nil=>rfl
 |_,_,_,.cons r t,.cons R T=>by rw[r.inj R,Vals.inj t T]
section
variable {X:Cx}{σ:St}{H:Hp}{xs ys:List V}
theorem c6.of(h:H a=some (.lst xs)):c6 K H a xs:=.inl (.inl h)
theorem cf.of(h:H a=some (.tup xs)):cf K H a xs:=.inl (.inl h)
theorem Inv.list(I:Inv X pq σ H s)(h:c6 X.K H a xs):∃its:Lv,Vals xs its/\PlainL s.heap a its.toArray/\xs.length<=sizeLine:=by
 rcases h with h| ⟨o,its,n,c,b,hd,d,f,r⟩
 ·obtain⟨z,its,n,r,e⟩:=h.ok I.hok;exact⟨_,r,⟨_,n,e,rfl,rfl,rfl⟩,z⟩
 ·refine⟨_,r,⟨o,n,I.kIn a o c,b,hd,by simp_all⟩,?_⟩;have e:=r.length;simp_all
theorem Inv.tuple(I:Inv X pq σ H s)(h:cf X.K H a xs):∃its:Lv,Vals xs its/\IsTup s.heap a its.toArray/\xs.length<=sizeLine:=by
 rcases h with h| ⟨o,its,n,c,b,_,d,f,r⟩
 ·obtain⟨z,its,r,p,_⟩:=h.ok I.hok;exact⟨_,r,p,z⟩
 ·refine⟨_,r,⟨o,I.kIn a o c,b,n,by simp_all⟩,?_⟩;have e:=r.length;simp_all
theorem Inv.list_inj(I:Inv X pq σ H s)(h:c6 X.K H a xs)(h':c6 X.K H a ys):xs=ys:=by
 obtain⟨b,r,⟨o,n,e,_,_,d⟩,_⟩:=I.list h;obtain⟨i,R,⟨O,N,E,_,_,D⟩,_⟩:=I.list h';have:b=i:=by lia
 subst this;exact r.inj R
theorem Inv.tuple_inj(I:Inv X pq σ H s)(h:cf X.K H a xs)(h':cf X.K H a ys):xs=ys:=by
 obtain⟨b,r,⟨o,e,_,n,d⟩,_⟩:=I.tuple h;obtain⟨i,R,⟨O,E,_,N,D⟩,_⟩:=I.tuple h';have:b=i:=by lia
 subst this;exact r.inj R
end
section
variable {X:Cx}{σ:St}{H:Hp}
end
section
variable {X:Cx}{st:Stmt}{rest:List Stmt}{t u:TS}{te:TE}{pos:Pos}
def pZ:TS:=λD σ H=>D.nx σ H
def Ek(t u:TS):TS:=λD σ H=>t {D with nx:=u D} σ H
theorem lv:fW X [] pZ:=λ_ _ a H _ I h=>wpAny_execs_nil ⟨_,H,I,h⟩
theorem El(h1:PS X st t)(b:fW X rest u):fW X (st::rest) (Ek t u):=by
 intro p s e H D I h;refine wpAny_execs_cons (a' (h1 _ s _ H _ I h) λf S q=>?_);cases f with
 |next=>obtain⟨c,d,a,q⟩:=q;exact b _ _ _ _ D a q
 |ret v=>exact q
 |brk=>exact q
 |cont=>exact q
def qP:TS:=λD σ H=>D.bk σ H
def vX:TS:=λD σ H=>D.ct σ H
theorem lw:PS X (.Pass pos) pZ:=λ_ _ a H _ I h=>wpAny_Pass ⟨_,H,I,h⟩
theorem Em:PS X (.Break pos) qP:=λ_ _ a H _ I h=>wpAny_Break ⟨_,H,I,h⟩
theorem Eo:PS X (.Continue pos) vX:=λ_ _ a H _ I h=>wpAny_Continue ⟨_,H,I,h⟩
theorem Inv.quiet{σ:St}{H:Hp}(I:Inv X pq σ H s):interactive X.env=false:=by simp[interactive,I.ok.kind]
def vY(t:TE):TS:=λD σ H=>t σ H λ_ H1=>D.nx σ H1
theorem lx(b:PE X e te)(hs:swapsWith e none pos.line X.env=pure false:=by rfl):PS X (.Expr e pos) (vY te):=by intro p s c H D I h;exact wpAny_Expr_any (a' (b _ s _ H _ I h) λv S ⟨x,_,a,_,q⟩=>⟨_,_,a,q⟩) I.quiet hs
def Ep(t:TE):TS:=λD σ H=>t σ H D.rt
theorem qQ(b:PE X e te):PS X (.Return (some e) pos) (Ep te):=by intro p s c H D I h;exact wpAny_Return_some (a' (b _ s _ H _ I h) λv S ⟨x,_,a,r,q⟩=>⟨x,_,_,a,r,q⟩)
def vZ:TS:=λD _ H=>D.rt .non H
theorem ly:PS X (.Return none pos) vZ:=λ_ _ a H _ I h=>wpAny_Return_none ⟨.non,_,H,I,rfl,h⟩
def Er(c:TT)(t u:TS):TS:=λD σ H=>c σ H λb H1=>if b=true then t D σ H1 else u D σ H1
theorem v6{c:Expr}{a b:List Stmt}{T:TT}(i:PT X c T)(f:fW X a t)(g:fW X b u):PS X (.If c a b pos) (Er T t u):=by
 intro p s j H D I h;refine wpAny_If (a' (i _ s _ H _ I h) λd S ⟨_,e,q⟩=>?_);cases d with
 |true=>exact f _ _ _ _ D e q
 |false=>exact g _ _ _ _ D e q
end
abbrev TG:=V->St->Hp->(St->Hp->Prop)->Prop
abbrev p6:=List V->St->Hp->(St->Hp->Prop)->Prop
def PG(X:Cx)(target:Expr)(t:TG):Prop:=
 ∀(pq:Lp) (s:Shared) (σ:St) (H:Hp) (v:V) (u:Value) (Q:St->Hp->Prop),Inv X pq σ H s->RelV v u->t v σ H Q->
  wpAny (model X.prog X.w) X.A (assign target X.env u) (λ_ s'=>∃σ' H',Inv X pq σ' H' s'/\Q σ' H') X.xe s
def v7(X:Cx)(ts:Lx)(t:p6):Prop:=
 ∀(pq:Lp) (s:Shared) (σ:St) (H:Hp) (vs:List V) (us:Lv) (Q:St->Hp->Prop),Inv X pq σ H s->Vals vs us->t vs σ H Q->
  wpAny (model X.prog X.w) X.A (assignInOrder ((assignEach ts X.env).map (·.2)) us) (λ_ s'=>∃σ' H',Inv X pq σ' H' s'/\Q σ' H') X.xe s
abbrev lz:=V->V->V->Hp->(Hp->Prop)->Prop
def qR(X:Cx)(t:lz):Prop:=
 ∀(pq:Lp) (s:Shared) (σ:St) (H:Hp) (o i v:V) (O I u:Value) (Q:Hp->Prop),Inv X pq σ H s->RelV o O->RelV i I->RelV v u->t o i v H Q->
  wpAny (model X.prog X.w) X.A (setItem O I u) (λ_ s'=>∃H',Inv X pq σ H' s'/\Q H') X.xe s
section
variable {X:Cx}{pos:Pos}
def eO(i:Nat):TG:=λv σ H Q=>Q (σ.set i (some v)) H
theorem lD{i:Nat}{x:Str}(b:X.N.Nodup)(hi:X.N[i]?=some x)(d:Loc X.env.scope x)(c:X.fn x=true\/X.env.scope.names.lookup x=some .local:=by first|exact .inl rfl|exact .inr rfl|assumption):PG X (.Name x pos) (eO i):=by intro p s e H v u Q I r h;exact wpAny_assign_Name (vR I b hi d r (λS a=>⟨_,H,a,h⟩) c)
def v9:p6:=λvs σ H Q=>vs=[]/\Q σ H
noncomputable def p9(t:TG)(u:p6):p6:=λvs σ H Q=>∃v r,vs=v::r/\t v σ H λσ' H'=>u r σ' H' Q
theorem lE:v7 X [] v9:=by intro p s a H vs u Q I r h;obtain⟨e,h⟩:=h;exact assignInOrder_nil ⟨_,H,I,h⟩
theorem Es{es:Lx}{t:TG}{u:p6}(h1:PG X e t)(b:v7 X es u)
  (hs:(assignEach (e::es) X.env).map (·.2)=assign e X.env::(assignEach es X.env).map (·.2):=by rfl):v7 X (e::es) (p9 t u):=by
 intro p s c H vs U Q I r h;obtain⟨v,V,E,h⟩:=h;subst E;cases r with
 |cons r R=>rw[hs];refine assignInOrder_cons (a' (h1 _ s _ H _ _ _ I r h) λ_ S ⟨_,_,a,q⟩=>?_);exact b _ _ _ _ _ _ Q a R q
def v_(K:Fg)(n:Nat)(t:p6):TG:=λv σ H Q=>∃a xs,v=.ref a/\cf K H a xs/\xs.length=n/\t xs σ H Q
theorem qS{es:Lx}{k:Nat}{t:p6}(g:X.calm=true)(h:v7 X es t)
  (j:(assignEach es X.env).length=n:=by rfl) (c:(assignEach es X.env).findIdx? (·.1)=none:=by rfl):PG X (.Tuple es k pos) (v_ X.K n t):=by
 intro P s z H v u Q I r d;obtain⟨a,y,E,l,i,d⟩:=d;subst E;cases r;obtain⟨q,R,m,x⟩:=I.tuple l;refine assign_Tuple_tuple (I.ok.hd g) m (by simp[j,<-i,R.length]) c λw p=>?_;have f:=I.kept (t':=s.toks) λb o e=>p b o (Zx (Zl e)) e;exact h _ _ _ H _ _ Q f (by lia) d
def Et(to T:TE)(t:lz):TG:=λv σ H Q=>to σ H λo H1=>T σ H1 λi H2=>t o i v H2 λa=>Q σ a
theorem qT{o i:Expr}{to T:TE}{t:lz}(e:PE X o to)(hi:PE X i T)(hs:qR X t)
  (k:∀v,assign (.Subscript o i pos) X.env v=(do
   let O <-holding [v] (eval o X.env)
   let a <-holding [v,O] (eval i X.env)
   standAt pos
   holding [v,O,a] (setItem O a v)
   release [v,O,a] []):=by intro _;rfl):PG X (.Subscript o i pos) (Et to T t):=by
 intro p s n H v u Q I r h;refine Za (Z5 (a' (e _ s _ H _ I h) λO S ⟨x,_,b,R,q⟩=>?_));refine Za (Z5 (a' (hi _ _ _ _ _ b q) λa l ⟨y,_,c,j,f⟩=>?_));refine Za (wpAny_standAt (Za (Z5 (a' (hs _ _ _ _ x y v _ _ u _ c R j r f) λ_ m ⟨_,d,g⟩=>?_))));exact wpAny_release ⟨_,_,d,g⟩
def qU(t:TE)(g:TG):TS:=λD σ H=>t σ H λx H1=>g x σ H1 D.nx
theorem jn{t:TE}{g:TG}(b:PE X e t)(c:PG X tg g)(hs:swapsWithSole [tg] e pos.line X.env=pure false:=by rfl)(d:swappedStores [tg] e X.env=pure none:=by rfl)
  (h1:(assignEach [tg] X.env).map (·.2)=[assign tg X.env]:=by rfl):PS X (.Assign [tg] e pos) (qU t g):=by
 intro p s i H D I h;refine wpAny_Assign_stores (a' (b _ s _ H _ I h) λv S ⟨x,_,a,r,Q⟩=>?_) hs d;rw[h1];exact a' (c _ _ _ _ x v _ a r Q) λ_ f q=>q
theorem qV{i:Nat}{x:Str}{t:TE}(c:X.N.Nodup)(hi:X.N[i]?=some x)(g:Loc X.env.scope x)(d:PE X e t)(hs:swapsWith e (some (.Name x pos')) pos.line X.env=pure false:=by rfl)(f:X.fn x=true\/X.env.scope.names.lookup x=some .local:=by first|exact .inl rfl|exact .inr rfl|assumption):
  PS X (.Assign [.Name x pos'] e pos) (qU t (eO i)):=by
 intro p s k H D I h;refine wpAny_Assign_Name (a' (d _ s _ H _ I h) λv S ⟨y,_,a,r,q⟩=>?_) hs;exact vR a c hi g r (λj b=>⟨_,_,b,q⟩) f
end
section
variable {X:Cx}{pos:Pos}
def qW(c:TT)(tb:TS):TS:=λD σ H=>∃W:Nat->St->Hp->Prop,(∃m,W m σ H)/\∀m σ H,W m σ H->
 c σ H λb H1=>if b=true then ∃N:St->Hp->Prop,(∀σ' H',N σ' H'->∃M,M<m/\W M σ' H')/\tb {D with nx:=N,ct:=N,bk:=D.nx} σ H1 else D.nx σ H1
theorem Eu{c:Expr}{body:List Stmt}{T:TT}{tb:TS}(i:PassesOwn (model X.prog X.w) X.A X.env X.xe)(o:PT X c T)(m:fW X body tb):PS X (.While c body [] pos) (qW T tb):=by
 intro P s B H D I h;obtain⟨W,⟨M,w⟩,t⟩:=h;refine wpAny_While (codeAny_whileLoop (λn S=>∃a e,Inv X _ a e S/\W n a e) ?_ _ ⟨_,H,I,w⟩);rintro n y ⟨u,H1,k,r⟩;refine wpAny_passesOwn i (a' (o _ _ _ _ _ k (t n _ _ r)) λb z ⟨_,g,q⟩=>?_);cases b with
 |true=>
  obtain⟨N,x,q⟩:=q;refine wpAny_passesOwn i (a' (m _ _ _ _ _ g q) λf A Q=>?_);cases f with
  |next=>
   obtain⟨d,j,l,p⟩:=Q
   grind
  |cont=>
   obtain⟨d,j,l,p⟩:=Q
   grind
  |brk=>exact Q
  |ret v=>exact Q
 |false=>exact wpAny_execs_nil ⟨_,_,g,q⟩
end
structure It where
 go:Nat->Hp->Prop
 yld:Nat->Hp->V->Hp->Prop
 stop:Nat->Hp->Prop
def dD(X:Cx)(P:Lp)(H:Hp)(b:Addr):Prop:=
 H b=none/\b≠X.env.locals/\b∉X.fs/\(b∈X.ex\/X.s₀.heap.objs.size<=b)/\(∀x c,X.env.cells.lookup x=some c->c≠b)/\∀p∈X.pn++P,p.1≠b
theorem Inv.fpOk{X:Cx}{σ:St}{H a:Hp}{b:Addr}(I:Inv X pq σ H s)(h:s.heap.objs.size<=b)(d:a b=none):dD X pq a b:=by
 refine⟨d,Nat.ne_of_gt (ZL I.lt h),I.nofs h,.inr (ZB I.sz h),λx c e z=>?_,λp f z=>?_⟩
 ·obtain⟨v,q⟩:=I.cell x c e;exact absurd (ZL q.lt (by lia)) (Yf _)
 ·exact absurd (ZL (Zl (I.pin p f).1) (by lia)) (Yf _)
structure Turn (P:Program)(w:World)(K:Fg)(tg:Expr)(J:It)(fp:La)(it:Addr)(tn:Nat->Heap->Prop):Prop where
 mem:it∈fp
 obj:∀i h,tn i h->∀b∈fp,∃o,h.get? b=some o/\∀v,o.data≠.cell v
 keep:∀i h h',tn i h->(∀b∈fp,∀o,h.get? b=some o->h'.get? b=some o)->tn i h'
 item:∀(X:Cx),X.prog=P->X.w=w->X.K=K->X.calm=true->∀(i:Nat) (pq:Lp) (s:Shared) (σ:St) (H:Hp) (E:Vs),Inv X pq σ H s->(∀b∈fp,dD X pq H b)->tn i s.heap->J.go i H->
  wpAny (model P w) X.A (pyNext (.ref it)) (λr s1=>∃u,r=some u/\
   wpAny (model P w) X.A (letOwnedTupleGo tg (.ref it) u) (λ_ s2=>∃x H',Inv X pq σ H' s2/\RelV x u/\J.yld i H x H'/\tn (i+1) s2.heap/\∀b∈fp,H' b=none) E s1) E s
 done:∀(X:Cx),X.prog=P->X.w=w->X.K=K->X.calm=true->∀(i:Nat) (pq:Lp) (s:Shared) (σ:St) (H:Hp) (E:Vs),Inv X pq σ H s->(∀b∈fp,dD X pq H b)->tn i s.heap->J.stop i H->
  wpAny (model P w) X.A (pyNext (.ref it)) (λr s1=>r=none/\Inv X pq σ H s1) E s
 self:∀(A:Around) (i:Nat) (s:Shared) (Q:Vs) (E:Vs),tn i s.heap->Q (.ref it) s->wpAny (model P w) A (pyIter (.ref it)) Q E s
abbrev TI:=St->Hp->(It->Hp->Prop)->Prop
def DK(X:Cx)(p:Lp)(σ:St)(tg:Expr)(R:It->Hp->Prop)(i:Value)(s:Shared):Prop:=
 ∃(it:Addr) (fp:La) (tn:Nat->Heap->Prop) (J:It) (H':Hp),i=.ref it/\Inv X p σ H' s/\Turn X.prog X.w X.K tg J fp it tn/\tn 0 s.heap/\(∀b∈fp,dD X p H' b)/\R J H'
def PI(X:Cx)(tg i:Expr)(w:TI):Prop:=
 ∀(pq:Lp) (s:Shared) (σ:St) (H:Hp) (R:It->Hp->Prop),Inv X pq σ H s->w σ H R->
  wpAny (model X.prog X.w) X.A (eval i X.env) (λv S=>wpAny (model X.prog X.w) X.A (pyIter v) (DK X pq σ tg R) X.xe S) X.xe s
theorem ic{n:String}{vs:Av}{Q:Unit->Shared->Prop}(b:s.heap.get? it=some o)(H:o.cls=.type n)(a:o.data=.fields vs)
  (c:["enumerate","zip","dict_itemiterator","dict_reverseitemiterator","odict_iterator","itertools.zip_longest","itertools.pairwise"].contains n=false) (h:Q () s):wpAny M A (letOwnedTupleGo tg (.ref it) u) Q E s:=by
 cases tg<;>first
  |exact Ze h
  | (cases u<;>first
    |exact Ze h
    | (refine Za (wpAny_load b ?_)
       rw[H,a];show wpAny M A (if(["enumerate","zip","dict_itemiterator","dict_reverseitemiterator","odict_iterator","itertools.zip_longest","itertools.pairwise"].contains n&&vs[0]?==some _)=true then _ else _) Q E s;rw[if_neg (by lia)];exact Ze h))
noncomputable def DL(K:Fg)(a:Addr):It:=
 ⟨λi H=>∃xs x,c6 K H a xs/\xs[i]?=some x,λi H x H'=>H'=H/\∀xs,c6 K H a xs->xs[i]?=some x,λi H=>∃xs,c6 K H a xs/\xs.length<=i⟩
noncomputable def Ew(K:Fg)(a:Addr):It:=
 ⟨λi H=>∃xs x,cf K H a xs/\xs[i]?=some x,λi H x H'=>H'=H/\∀xs,cf K H a xs->xs[i]?=some x,λi H=>∃xs,cf K H a xs/\xs.length<=i⟩
noncomputable def wa(lo:Int)(n:Nat):It:=⟨λi _=>i<n,λi H x H'=>H'=H/\x=.int (lo+i),λi _=>n<=i⟩
theorem Ex(a it:Addr):Turn P w K tg (DL K a) [it] it (λi h=>h.IsListIter it a i) where
 mem:=by simp
 obj:=λi h st b hb=>by
  have e:=by simpa using hb
  obtain⟨o,e,c,d⟩:=st;simp_all
 keep:=λi h h' st k=>st.at λo e=>k _ (by simp) o e
 item:=by intro X hP hw hK hc i pq s σ H E I hf st hg;subst hP hw hK;obtain⟨xs,x,hq,hx⟩:=hg;obtain⟨its,rv,p,hz⟩:=I.list hq;obtain⟨u,hu,ru⟩:=rv.get hx;obtain⟨f0,f1,f2,f3,f4,f5⟩:=hf it (by simp);refine wpAny_pyNext_list_item st p.isList (by simpa using hu) λh' st' sb=>?_;have I1:=I.turned (t':=s.toks) (λb o hb e=>(sb.2 b hb).trans e) f0 f1 f3 f4 f5;obtain⟨o,e,c,d⟩:=id st';exact⟨u,rfl,ic e c d (rfl) ⟨x,H,I1,ru,⟨rfl,λys hy=>by rw[I.list_inj hy hq];exact hx⟩,st',λb hb=>(hf b hb).1⟩⟩
 done:=by intro X hP hw hK hc i pq s σ H E I hf st hg;subst hP hw hK;obtain⟨xs,hq,hx⟩:=hg;obtain⟨its,rv,p,hz⟩:=I.list hq;obtain⟨f0,f1,f2,f3,f4,f5⟩:=hf it (by simp);have hl:=rv.length;exact wpAny_pyNext_list_end (I.ok.hd hc) st p.isList (by simp_all) λh' eb=>⟨rfl,I.turned (λb o hb e=>eb b o hb e) f0 f1 f3 f4 f5⟩
 self:=λ_ _ _ _ _ st h=>wpAny_pyIter_listiter st h
theorem Ey(a it:Addr):Turn P w K tg (Ew K a) [it] it (λi h=>h.IsTupleIter it a i) where
 mem:=by simp
 obj:=λi h st b hb=>by
  have e:=by simpa using hb
  obtain⟨o,e,c,d⟩:=st;simp_all
 keep:=λi h h' st k=>st.at λo e=>k _ (by simp) o e
 item:=by intro X hP hw hK hc i pq s σ H E I hf st hg;subst hP hw hK;obtain⟨xs,x,hq,hx⟩:=hg;obtain⟨its,rv,p,hz⟩:=I.tuple hq;obtain⟨u,hu,ru⟩:=rv.get hx;obtain⟨f0,f1,f2,f3,f4,f5⟩:=hf it (by simp);refine wpAny_pyNext_tuple_item st (show s.heap.IsTuple a _ from p) (by simpa using hu) λh' st' sb=>?_;have I1:=I.turned (t':=s.toks) (λb o hb e=>(sb.2 b hb).trans e) f0 f1 f3 f4 f5;obtain⟨o,e,c,d⟩:=id st';exact⟨u,rfl,ic e c d (rfl) ⟨x,H,I1,ru,⟨rfl,λys hy=>by rw[I.tuple_inj hy hq];exact hx⟩,st',λb hb=>(hf b hb).1⟩⟩
 done:=by intro X hP hw hK hc i pq s σ H E I hf st hg;subst hP hw hK;obtain⟨xs,hq,hx⟩:=hg;obtain⟨its,rv,p,hz⟩:=I.tuple hq;obtain⟨f0,f1,f2,f3,f4,f5⟩:=hf it (by simp);have hl:=rv.length;exact wpAny_pyNext_tuple_end (I.ok.hd hc) st (show s.heap.IsTuple a _ from p) (by simp_all) λh' eb=>⟨rfl,I.turned (λb o hb e=>eb b o hb e) f0 f1 f3 f4 f5⟩
 self:=λ_ _ _ _ _ st h=>wpAny_pyIter_tupleiter st h
theorem Ez(it:Addr)(lo:Int)(n:Nat):Turn P w K tg (wa lo n) [it] it (λi h=>IsRangeIter h it (lo+(i:Nat)*1) ((n:Int)-(i:Nat)) 1) where
 mem:=by simp
 obj:=λi h st b hb=>by simp_all
 keep:=λi h h' st k=>k _ (by simp) _ st
 item:=by intro X hP hw hK hc i pq s σ H E I hf st hg;subst hP hw hK;obtain⟨f0,f1,f2,f3,f4,f5⟩:=hf it (by simp);have W:=Walks.range (prog:=X.prog) (w:=X.w) (I.ok.hd hc) it lo 1 n;refine W.item i s _ _ hg st λv h' tk hv st' kk=>?_;obtain⟨t,rfl⟩:=hv;have I1:Inv X _ _ H {s with heap:=h',toks:=tk}:=I.turned (λb o hb e=>kk b o (by simp_all) e) f0 f1 f3 f4 f5;refine⟨_,rfl,ic st' rfl rfl (rfl) ⟨.int _,H,I1,⟨t,?_⟩,⟨rfl,rfl⟩,st',λb hb=>(hf b hb).1⟩⟩;simp_all
 done:=by intro X hP hw hK hc i pq s σ H E I hf st hg;obtain⟨f0,f1,f2,f3,f4,f5⟩:=hf it (by simp);exact wpAny_pyNext_range_end (I.ok.hd hc) st (by have:n<=i:=hg;omega) λh' eb=>⟨rfl,I.turned (λb o hb e=>eb b o hb e) f0 f1 f3 f4 f5⟩
 self:=λ_ _ _ _ _ st h=>wpAny_pyIter_rangeiter st h
section
variable {X:Cx}
theorem wb{σ:St}{H:Hp}{R:It->Hp->Prop}{hi:Int}{t u v:Tok}{tk:Nat}(I:Inv X pq σ H s)(h1: -(2^62)<=lo)(f:lo<2^62)(g: -(2^62)<=hi)(i:hi<2^62)
  (q:R (wa lo (hi-lo).toNat) H):wpAny (model X.prog X.w) X.A (pyIter (.ref s.heap.objs.size)) (DK X pq σ tg R) E {s with heap:=s.heap.push {cls:=.type "range",data:=.fields #[.int lo t,.int hi u,.int 1 v]},toks:=tk}:=by
 refine wpAny_pyIter_range (IsRange.new ..) (small_one h1 f g i) ?_;have a:Inv X _ _ H {s with heap:=s.heap.push {cls:=.type "range",data:=.fields #[.int lo t,.int hi u,.int 1 v]},toks:=tk}:=I.kept λb o e=>Zb _ e
 refine⟨_,_,_,_,H,rfl,
  a.kept λb o e=>Zb _ e,Ez _ _ _,?_,λb j=>?_,q⟩
 ·have c:lo+(0:Nat)*1=lo:=by simp
  have d:(hi-lo).toNat-(0:Nat)=Builtin.Range.rangeSize lo hi 1:=by rw[rangeSize_one];lia
  rw[c,d];exact Zi _ rfl
 ·have e:b=(s.heap.push {cls:=.type "range",data:=.fields #[.int lo t,.int hi u,.int 1 v]}).objs.size:=by simp_all
  subst e;exact a.fpOk (Zg _) (a.hok.fresh (Zg _))
def wc(t:TA):TI:=λσ H R=>t σ H λvs H1=>∃j:Int,vs=[.int j]/\ -(2^62)<=j/\j<2^62/\R (wa 0 j.toNat) H1
def wd(t:TA):TI:=λσ H R=>t σ H λvs H1=>∃i j:Int,vs=[.int i,.int j]/\(-(2^62)<=i/\i<2^62/\ -(2^62)<=j/\j<2^62)/\R (wa i (j-i).toNat) H1
theorem EA{a:Expr}{T:TA}{p pos:Pos}(d:Gl X "range")(f:X.mg "range"=none)(c:PA X [a] T)(hs:starEach [a] X.env=[(false,eval a X.env)]:=by rfl):PI X tg (.Call (.Name "range" p) [a] [] pos) (wc T):=by
 intro P s l H R I h;refine Call_ (ef I d f boot_range (Z0 (a' (c _ _ s _ H _ I h) λu S ⟨_,_,b,i,Q⟩=>?_) hs rfl));obtain⟨j,e,Q,g,q⟩:=Q;subst e;cases i with
 |cons r k=>cases k;obtain⟨t,rfl⟩:=r;exact call_range_1 (wb b (by omega) (by omega) Q g (by lia))
theorem EB{a b:Expr}{T:TA}{p pos:Pos}(k:Gl X "range")(l:X.mg "range"=none)(g:PA X [a,b] T)(hs:starEach [a,b] X.env=[(false,eval a X.env),(false,eval b X.env)]:=by rfl)(c:starEach [b] X.env=[(false,eval b X.env)]:=by rfl):
  PI X tg (.Call (.Name "range" p) [a,b] [] pos) (wd T):=by
 intro P s x H R I h;refine Call_ (ef I k l boot_range (Z0 (a' (g _ _ s _ H _ I h) λU S ⟨_,_,f,v,Q⟩=>?_) (by lia) (by rw[c];rfl)));obtain⟨i,j,e,⟨Q,m,n,o⟩,q⟩:=Q;subst e;cases v with
 |cons r d=>
  cases d with
  |cons u d=>cases d;obtain⟨t,rfl⟩:=r;obtain⟨w,rfl⟩:=u;exact call_range_2 (wb f Q m n o q)
def EC(w:TI)(g:TG)(tb:TS):TS:=λD σ H=>w σ H λJ H1=>∃W:Nat->Nat->St->Hp->Prop,(∃m,W 0 m σ H1)/\∀i m σ H,W i m σ H->
 (J.stop i H/\D.nx σ H)\/(J.go i H/\∃N:St->Hp->Prop,(∀σ' H',N σ' H'->∃M,M<m/\W (i+1) M σ' H')/\∀x H',J.yld i H x H'->g x σ H' λa H2=>tb {D with nx:=N,ct:=N,bk:=D.nx} a H2)
noncomputable def lF(f:La)(h:Heap):Lp:=f.filterMap λb=>(h.get? b).map λo=>(b,o)
theorem lG{b:Addr}(H:b∈fp)(e:h.get? b=some o):(b,o)∈lF fp h:=List.mem_filterMap.mpr ⟨b,H,by simp_all⟩
theorem ED{p:Addr×Obj}(H:p∈lF fp h):p.1∈fp/\h.get? p.1=some p.2:=by
 obtain⟨b,a,e⟩:=List.mem_filterMap.mp H;cases q:h.get? b with
 |none=>simp_all
 |some o=>
  grind
theorem Inv.pinned{σ:St}{H:Hp}(I:Inv X pq σ H s)(a:∀b∈fp,dD X pq H b)(g:∀b∈fp,∃o,s.heap.get? b=some o/\∀v,o.data≠.cell v):Inv X (pq++lF fp s.heap) σ H s:=
 I.pins_of λp c=>(Zq.mp c).elim (λz=>I.pin p (Zu _ z)) λz=>by
  obtain⟨h,e⟩:=ED z;obtain⟨f,F,d,_⟩:=a _ h
  grind
theorem Inv.unpinned{pl:Lp}{σ:St}{H:Hp}(I:Inv X (pq++pl) σ H s):Inv X pq σ H s:=I.pins_of λp h=>I.pin p (Zu _ (ZD _ h))
theorem qX{body:List Stmt}{wi:TI}{g:TG}{tb:TS}{pos:Pos}(y:PassesOwn (model X.prog X.w) X.A X.env X.xe)(Z:X.calm=true)(hi:PI X tg iter wi)(hg:PG X tg g)(k:fW X body tb)
  (hs:∀x,foldedSetIterable iter X.env x=pure x:=by intro _;rfl):PS X (.For tg iter body [] pos) (EC wi g tb):=by
 intro P s σ H D I h;refine wpAny_For (a' (hi P s σ H _ I h) λv s1 h1=>a' h1 λitv s2 h2=>?_) hs;obtain⟨it,F,tn,J,H2,e,I2,T,O,Y,W,⟨m0,w0⟩,C⟩:=h2;subst e;have S:∀{q:Hp},(∀b∈F,q b=none)->∀b∈F,dD X P q b:=λhn b k=>⟨hn b k,(Y b k).2⟩;refine codeAny_forLoop_any (λn s'=>∃i l q,Inv X P l q s'/\tn i s'.heap/\(∀b∈F,q b=none)/\W i n l q) ?_ m0 ⟨0,σ,H2,I2,O,λb k=>(Y b k).1,w0⟩;rintro n s3 ⟨i,p,E,V,B,w,w3⟩;rcases C i n p E w3 with⟨stop,qn⟩| ⟨go,N,hN,step⟩
 ·refine wpAny_passesOwn y (a' (T.done X rfl rfl rfl Z i P s3 p E X.xe V (S w) B stop) λr s4 ⟨L,I4⟩=>?_);subst L;exact wpAny_execs_nil ⟨p,E,I4,qn⟩
 ·refine wpAny_passesOwn y (a' (T.item X rfl rfl rfl Z i P s3 p E X.xe V (S w) B go) λr s4 ⟨u,L,h4⟩=>?_);subst L;refine wpAny_passesOwn y (a' h4 λ_ s5 ⟨x,U,I5,r5,y5,t,K⟩=>?_);have G:=I5.pinned (S K) (T.obj _ _ t);refine wpAny_passesOwn y (a' (hg _ s5 p U x u _ G r5 (step x U y5)) λ_ s6 ⟨R,H6,I6,q6⟩=>?_);refine wpAny_passesOwn y (a' (k _ s6 R H6 _ I6 q6) λf M Q=>?_)
  have A:∀{a:St} {c:Hp},Inv X (P++lF F s5.heap) a c M->N a c->∃m,m<n/\∃i l q,Inv X P l q M/\tn i M.heap/\(∀b∈F,q b=none)/\W i m l q:=λ{a c} j z=>by obtain⟨m',hm,w7⟩:=hN a c z;refine⟨m',hm,i+1,a,c,j.unpinned,T.keep _ _ _ t λb k o e=>(j.pin (b,o) (Zu _ (Zu _ (lG k e)))).1,λb k=>?_,w7⟩;obtain⟨o,e,d⟩:=T.obj _ _ t b k;exact(j.pin (b,o) (Zu _ (Zu _ (lG k e)))).2.1
  cases f with
  |next=>obtain⟨a,c,j,z⟩:=Q;exact A j z
  |cont=>obtain⟨a,c,j,z⟩:=Q;exact A j z
  |brk=>obtain⟨a,c,j,Q⟩:=Q;exact⟨a,c,j.unpinned,Q⟩
  |ret v=>obtain⟨x7,a,c,j,r7,Q⟩:=Q;exact⟨x7,a,c,j.unpinned,r7,Q⟩
end
abbrev R2:=V->V->Hp->VK->Prop
def c8(X:Cx)(f:Value->Value->Sem Value)(r:R2):Prop:=
 ∀(pq:Lp) (s:Shared) (σ:St) (H:Hp) (x y:V) (v u:Value) (Q:VK),Inv X pq σ H s->RelV x v->RelV y u->r x y H Q->
  wpAny (model X.prog X.w) X.A (f v u) (EP X pq σ Q) X.xe s
def EE(X:Cx)(f:Value->Sem Value)(r:V->Hp->VK->Prop):Prop:=
 ∀(pq:Lp) (s:Shared) (σ:St) (H:Hp) (x:V) (v:Value) (Q:VK),Inv X pq σ H s->RelV x v->r x H Q->
  wpAny (model X.prog X.w) X.A (f v) (EP X pq σ Q) X.xe s
def aW(X:Cx)(f:Value)(r:List V->Hp->VK->Prop):Prop:=
 ∀(pq:Lp) (s:Shared) (σ:St) (H:Hp) (xs:List V) (us:Lv) (Q:VK),Inv X pq σ H s->Vals xs us->r xs H Q->
  wpAny (model X.prog X.w) X.A (call f us) (EP X pq σ Q) X.xe s
def EF(X:Cx)(r:V->Hp->(Bool->Hp->Prop)->Prop):Prop:=
 ∀(pq:Lp) (s:Shared) (σ:St) (H:Hp) (x:V) (v:Value) (Q:Bool->Hp->Prop),Inv X pq σ H s->RelV x v->r x H Q->
  wpAny (model X.prog X.w) X.A (truthy v) (TP X pq σ Q) X.xe s
def DM(r:R2)(t tb:TE):TE:=λσ H Q=>t σ H λx H1=>tb σ H1 λy H2=>r x y H2 Q
def MF(r:V->Hp->VK->Prop)(t:TE):TE:=λσ H Q=>t σ H λx H1=>r x H1 Q
def rI(C:Int->Int->Prop)(g:Int->Int->V):R2:=λx y H Q=>∃i j,x=.int i/\y=.int j/\C i j/\Q (g i j) H
def lH(g:Int->Int->V):R2:=λx y H Q=>∃i j,x=.int i/\y=.int j/\Q (g i j) H
def rU(g:Int->V):V->Hp->VK->Prop:=λx H Q=>∃i,x=.int i/\Q (g i) H
section
variable {X:Cx}{a b c:Expr}{ta tb tc:TE}{pos:Pos}
theorem qY(g:PE X a ta)(i:PE X b tb){σ:St}{H:Hp}{R:V->V->Hp->Prop}(I:Inv X pq σ H s)
  (h:ta σ H λx H1=>tb σ H1 λy H2=>R x y H2)  {f:Value->Value->Sem Value}
  (j:∀v u s2 x y H2,Inv X pq σ H2 s2->RelV x v->RelV y u->R x y H2->wpAny (model X.prog X.w) X.A (f v u) Q X.xe s2):
  wpAny (model X.prog X.w) X.A (eval a X.env) (λv S=>wpAny (model X.prog X.w) X.A (eval b X.env) (λu c=>wpAny (model X.prog X.w) X.A (f v u) Q X.xe c) X.xe S) X.xe s:=by
 refine a' (g _ s _ H _ I h) λv m ⟨x,_,d,r,q⟩=>?_;refine a' (i _ _ _ _ _ d q) λu s2 ⟨y,_,e,l,k⟩=>?_;exact j v u _ x y _ e r l k
theorem p_{o:Operator}{r:R2}(f:c8 X (binaryOp o) r)(d:PE X a ta)(e:PE X b tb):PE X (.BinOp a o b pos) (DM r ta tb):=by intro p s j H Q I h;exact wpAny_BinOp (qY d e I h λv u S x y i c R g q=>f _ _ _ _ x y v u Q c R g q)
theorem we{o:UnaryOp}{r:V->Hp->VK->Prop}(d:EE X (unaryOp o) r)(c:PE X a ta):PE X (.UnaryOp o a pos) (MF r ta):=by intro p s e H Q I h;exact UnaryOp_ (a' (c _ s _ H _ I h) λv S ⟨x,_,b,R,q⟩=>d _ _ _ _ x v Q b R q)
theorem vG{f:Value->Value->Sem Value}{C:Int->Int->Prop}
  (r:∀(i j:Int) (t u:Tok) (s:Shared) (Q:Vs) (E:Vs),C i j->Q (.int (g i j) s.toks) {s with toks:=s.toks+1}->wpAny (model X.prog X.w) X.A (f (.int i t) (.int j u)) Q E s):
  c8 X f (rI C λi j=>.int (g i j)):=by
 intro p s d H x y v u Q I R b h;obtain⟨i,j,rfl,rfl,a,q⟩:=h;obtain⟨t,rfl⟩:=R;obtain⟨c,rfl⟩:=b;exact r i j t _ s _ _ a ⟨.int _,H,I.tok _,⟨_,rfl⟩,q⟩
theorem lI{f:Value->Value->Sem Value}
  (r:∀(i j:Int) (t u:Tok) (s:Shared) (Q:Vs) (E:Vs),Q (.int (g i j) s.toks) {s with toks:=s.toks+1}->wpAny (model X.prog X.w) X.A (f (.int i t) (.int j u)) Q E s):
  c8 X f (lH λi j=>.int (g i j)):=by
 intro p s c H x y v u Q I R a h;obtain⟨i,j,rfl,rfl,q⟩:=h;obtain⟨t,rfl⟩:=R;obtain⟨b,rfl⟩:=a;exact r i j t _ s _ _ ⟨.int _,H,I.tok _,⟨_,rfl⟩,q⟩
theorem qZ{f:Value->Value->Sem Value}{g:Int->Int->Bool}
  (r:∀(i j:Int) (t u:Tok) (s:Shared) (Q:Vs) (E:Vs),Q (.bool (g i j)) s->wpAny (model X.prog X.w) X.A (f (.int i t) (.int j u)) Q E s):
  c8 X f (lH λi j=>.bl (g i j)):=by
 intro p s b H x y v u Q I R a h;obtain⟨i,j,rfl,rfl,q⟩:=h;obtain⟨t,rfl⟩:=R;obtain⟨T,rfl⟩:=a;exact r i j t _ s _ _ ⟨.bl _,H,I,rfl,q⟩
def EG(i j:Int):Prop:=0<j/\j<1073741824
noncomputable def q0(i j:Int):Prop:=(-(2^64)<i/\i<2^64)\/(-(2^64)<j/\j<2^64)
theorem q0.ok{i j:Int}(h:q0 i j):IntMulOk i j:=by
 rcases h with⟨H,a⟩| ⟨H,a⟩
 ·exact .of_left (intBits_le_64 H a)
 ·exact .of_right (intBits_le_64 H a)
theorem EH(k:Nat):(0:Int)<=2^k:=by lia
theorem q7:c8 X (binaryOp .Add) (lH λi j=>.int (i+j)):=lI λ_ _ _ _ _ _ _ q=>add_int q
theorem q8:c8 X (binaryOp .Sub) (lH λi j=>.int (i-j)):=lI λ_ _ _ _ _ _ _ q=>sub_int q
theorem q9:c8 X (binaryOp .Mult) (rI q0 λi j=>.int (i*j)):=vG λ_ _ _ _ _ _ _ h q=>mul_int q h.ok
theorem lJ:c8 X (binaryOp .FloorDiv) (rI EG λi j=>.int (i/j)):=vG λi j _ _ _ _ _ h q=>by have H:=h.1;have a:=h.2;exact floordiv_int (by omega) (by rw[Int.fdiv_eq_ediv_of_nonneg i (by omega)];exact q) (.inl (PyProof.noPylong_small (by omega)))
theorem q_:c8 X (binaryOp .Mod) (rI (λ_ j=>0<j) λi j=>.int (i%j)):=vG λi j _ _ _ _ _ h q=>by exact mod_int' (by omega) (by rw[Int.fmod_eq_emod_of_nonneg i (by omega)];exact q)
theorem rc:c8 X (binaryOp .RShift) (rI (λ_ j=>0<=j) λi j=>.int (i/2^j.toNat)):=vG λi j _ _ _ _ _ h q=>
 rshift_int h (by rw[Int.fdiv_eq_ediv_of_nonneg i (EH _)];exact q)
theorem rf:c8 X (binaryOp .BitAnd) (lH λi j=>.int (Builtin.bitAnd i j)):=lI λ_ _ _ _ _ _ _ q=>and_int q
theorem wf:c8 X (binaryOp .BitOr) (lH λi j=>.int (Builtin.bitOr i j)):=lI λ_ _ _ _ _ _ _ q=>or_int q
theorem MG{f:Value->Sem Value}{g:Int->Int}
  (r:∀(i:Int) (t:Tok) (s:Shared) (Q:Vs) (E:Vs),Q (.int (g i) s.toks) {s with toks:=s.toks+1}->wpAny (model X.prog X.w) X.A (f (.int i t)) Q E s):
  EE X f (rU λi=>.int (g i)):=by
 intro p s a H x v Q I R h;obtain⟨i,rfl,q⟩:=h;obtain⟨t,rfl⟩:=R;exact r i t s _ _ ⟨.int _,H,I.tok _,⟨_,rfl⟩,q⟩
theorem rg:EE X (unaryOp .USub) (rU λi=>.int (-i)):=MG λ_ _ _ _ _ q=>neg_int q
end
section
variable {X:Cx}{a b c:Expr}{ta tb tc:TE}{pos:Pos}
theorem jo{σ:St}{H:Hp}{Q:VK}{k K:Bool}(I:Inv X pq σ H s)(q:Q (.bl k) H)(e:k=K):EP X pq σ Q (.bool K) s:=by subst e;exact⟨.bl k,H,I,rfl,q⟩
theorem wg:c8 X (compareOp .LtE) (lH λi j=>.bl (decide (i<=j))):=qZ λ_ _ _ _ _ _ _ q=>le_int q
theorem wh:c8 X (compareOp .Gt) (lH λi j=>.bl (decide (j<i))):=qZ λ_ _ _ _ _ _ _ q=>gt_int q
theorem wj:c8 X (compareOp .GtE) (lH λi j=>.bl (decide (j<=i))):=qZ λ_ _ _ _ _ _ _ q=>ge_int q
theorem rh:c8 X (compareOp .Is) (λx y H Q=>y=.non/\Q (.bl (decide (x=.non))) H):=by
 intro p s a H x y v u Q I r R h;obtain⟨rfl,q⟩:=h;cases R;refine is_none_gen (jo I q ?_)
 cases x<;>first
  |lia
  | (obtain⟨t,rfl⟩:=r;rfl)
theorem lK:c8 X (compareOp .IsNot) (λx y H Q=>y=.non/\Q (.bl (!decide (x=.non))) H):=by
 intro p s a H x y v u Q I r R h;obtain⟨rfl,q⟩:=h;cases R;refine isnot_none_gen (jo I q ?_)
 cases x<;>first
  |lia
  | (obtain⟨t,rfl⟩:=r;rfl)
theorem lL{o:CmpOp}{r:R2}(g:c8 X (compareOp o) r)(d:PE X a ta)(e:PE X b tb)(f:behindInMarks o b=false):PE X (.Compare a [o] [b] pos) (DM r ta tb):=by intro p s k H Q I h;exact wpAny_Compare1 (qY d e I h λv u S x y j c R i q=>g _ _ _ _ x y v u Q c R i q) f
def qa(t:TE):TT:=λσ H Q=>t σ H λx H'=>∃k,x=.bl k/\Q k H'
theorem lM{o:CmpOp}{r:R2}(m:c8 X (compareOp o) r)(i:PE X a ta)(j:PE X b tb)(l:behindInMarks o b=false):PT X (.Compare a [o] [b] pos) (qa (DM r ta tb)):=by
 intro P s C H Q I h
 refine wpAny_isTrue_Compare1 (a' (i _ s _ H _ I h) λv S ⟨x,_,d,R,q⟩=>a' (j _ _ _ _ _ d q) λu A ⟨y,_,f,t,n⟩=>
  a' (m _ _ _ _ x y v u _ f R t n) λc B ⟨z,_,g,w,k,e,p⟩=>?_) l
 subst e;cases w;exact Yh ⟨_,g,p⟩
def jp(r R:R2)(t tb T:TE):TE:=λσ H Q=>t σ H λx H1=>tb σ H1 λy H2=>r x y H2 λz a=>∃k,z=.bl k/\
 (if k=true then T σ a λw b=>R y w b Q else Q (.bl false) a)
theorem EI{o:CmpOp}{r R:R2}(A:c8 X (compareOp o) r)(f:c8 X (compareOp op') R)(n:PE X a ta)(p:PE X b tb)(t:PE X c tc)
  (w:lastMarks [o,op'] [b,c]=false:=by with_unfolding_all rfl):PE X (.Compare a [o,op'] [b,c] pos) (jp r R ta tb tc):=by
 intro P s M H Q I h
 refine Compare_chain (a' (n _ s _ H _ I h) λv S ⟨x,_,j,E,B⟩=>chain_link (a' (p _ _ _ _ _ j B) λu J ⟨y,_,l,i,C⟩=>
  a' (A _ _ _ _ x y v u _ l E i C) λd K ⟨z,_,g,F,k,e,q⟩=>?_)) w
 subst e;cases F;refine Yh ?_;cases k with
 |false=>exact ite_ff ⟨.bl _,_,g,rfl,q⟩
 |true=>exact ite_tt (chain_last (a' (t _ _ _ _ _ g q) λW L ⟨_,_,m,G,D⟩=>f _ _ _ _ y _ u _ Q m i G D))
theorem EJ{o:CmpOp}{r R:R2}(C:c8 X (compareOp o) r)(f:c8 X (compareOp op') R)(t:PE X a ta)(w:PE X b tb)(A:PE X c tc)
  (B:lastMarks [o,op'] [b,c]=false:=by with_unfolding_all rfl):PT X (.Compare a [o,op'] [b,c] pos) (qa (jp r R ta tb tc)):=by
 intro T s σ H Q I h
 refine isTrue_chain (a' (t _ s _ H _ I h) λv U ⟨x,_,j,L,F⟩=>test_link (a' (w _ _ _ _ _ j F) λu V ⟨y,_,l,i,G⟩=>
  a' (C _ _ _ _ x y v u _ l L i G) λd W ⟨z,_,g,M,k,e,q⟩=>?_)) B
 subst e;cases M;refine Yh ?_;cases k with
 |false=>obtain⟨S,E,D⟩:=q;cases E;exact ite_ff ⟨_,g,D⟩
 |true=>refine ite_tt (test_last (a' (A _ _ _ _ _ g q) λw' Y ⟨_,_,m,N,J⟩=>a' (f _ _ _ _ y _ u _ _ m i N J) λP Z ⟨_,_,n,O,_,p,K⟩=>?_));subst p;cases O;exact Yh ⟨_,n,K⟩
def iy(K:Fg)(x:V)(H:Hp)(k:Bool):Prop:=
 match x with
 | .non=>k=false
 | .bl b=>k=b
 | .int i=>k=(i !=0)
 | .str y=>y.length<=sizeLine/\k=((y.length:Int) !=0)
 | .byt y=>y.size<=sizeLine/\k=((y.size:Int) !=0)
 | .ref p=>(∃xs,c6 K H p xs/\k= !xs.isEmpty)\/(∃xs,cf K H p xs/\k= !xs.isEmpty)\/∃a,H p=some (.dK a)/\k= !a.isEmpty
 |_=>False
theorem EK{a:Type}{k:List (a×V)}{vs:List (a×Value)}(r:KV k vs):(!vs.isEmpty)= !k.isEmpty:=by cases r<;>rfl
theorem wk{xs:List V}(r:Vals xs its):(!its.toArray.isEmpty)= !xs.isEmpty:=by cases r<;>simp
theorem iz:(sizeLine:Nat)<2^63:=by decide
theorem jq:EF X (λx H Q=>∃k,iy X.K x H k/\Q k H):=by
 intro u s w H x v Q I R h;obtain⟨k,e,q⟩:=h;have n:=iz;have o:sizeLine=16777216:=sizeLine_eq;cases x with
 |non=>cases R;have E:k=false:=e;subst E;exact truthy_none ⟨H,I,q⟩
 |bl b=>cases R;have E:k=b:=e;subst E;exact Yh ⟨H,I,q⟩
 |int i=>obtain⟨t,rfl⟩:=R;have E:k=(i !=0):=e;subst E;exact PySem.P.truthy_int ⟨H,I,q⟩
 |str y=>obtain⟨t,rfl⟩:=R;obtain⟨l,E⟩:y.length<=sizeLine/\k=((y.length:Int) !=0):=e;subst E;exact PySem.P.truthy_str (by omega) ⟨H,I.tok _,q⟩
 |byt y=>obtain⟨t,rfl⟩:=R;obtain⟨l,E⟩:y.size<=sizeLine/\k=((y.size:Int) !=0):=e;subst E;exact PySem.W.truthy_bytes (by omega) ⟨H,I.tok _,q⟩
 |ref p=>
  cases R;have E:(∃c,c6 X.K H p c/\k= !c.isEmpty)\/(∃c,cf X.K H p c/\k= !c.isEmpty)\/∃K,H p=some (.dK K)/\k= !K.isEmpty:=e;rcases E with⟨c,d,E⟩| ⟨c,d,E⟩| ⟨K,d,E⟩
  ·subst E;obtain⟨f,r,P,g⟩:=I.list d;have a:=r.length;exact wpAny_truthy_list P.isList (by simp only[Zv];omega) ⟨H,I.tok _,by rw[wk r];exact q⟩
  ·subst E;obtain⟨f,r,P,g⟩:=I.tuple d;have a:=r.length;exact truthy_tuple P (by simp only[Zv];omega) ⟨H,I.tok _,by rw[wk r];exact q⟩
  ·subst E;obtain⟨g,j,vs,r,m⟩:K.length<=sizeLine/\(p==sysModules)=false/\∃vs,KV K vs/\s.heap.DictOf (qG X.prog X.w) p vs:=I.hok p _ d;have a:K.length=vs.length:=Paired.length r;exact wpAny_truthy_dict j m (by omega) ⟨H,I.tok _,by rw[EK r];exact q⟩
 |_=>exact(show False from e).elim
theorem EL(c:PE X a ta)(d:∀w,isTrue a X.env w=(do let v <-w;standAt a.pos;holding [v] (truthy v))):
  PT X a (λσ H Q=>ta σ H λx H'=>∃k,iy X.K x H' k/\Q k H'):=by
 intro p s σ H Q I h;exact isTrue_plain (a' (c _ s _ H _ I h) λv S ⟨x,_,b,r,q⟩=>jq _ _ _ _ x v Q b r q) (d _)
theorem EM:c8 X (binaryOp .Add) (λx y H Q=>∃i j,x=.str i/\y=.str j/\i.length+j.length<=sizeLine/\Q (.str (i++j)) H):=by intro p s c H x y v u Q I r R h;obtain⟨i,j,rfl,rfl,a,q⟩:=h;obtain⟨t,rfl⟩:=r;obtain⟨T,rfl⟩:=R;exact add_str (λT b=>⟨.str _,H,I.tok _,⟨_,rfl⟩,q⟩) a
theorem vals1{x:V}(r:Vals [x] us):∃u,us=[u]/\RelV x u:=by
 cases r with
 |cons a R=>cases R;simp_all
theorem vals2{x y:V}(r:Vals [x,y] us):∃u w,us=[u,w]/\RelV x u/\RelV y w:=by
 cases r with
 |cons b R=>
  cases R with
  |cons c a=>cases a;lia
theorem EN(b:X.calm=true):aW X (.builtin "max") (λxs H Q=>∃i j,xs=[.int i,.int j]/\Q (.int (if j>i then j else i)) H):=by
 intro p s e H xs U Q I r h;obtain⟨i,j,rfl,q⟩:=h;obtain⟨u,w,rfl,⟨t,rfl⟩,⟨T,rfl⟩⟩:=vals2 r;refine max_two_ints (I.ok.hd b) λc d k=>⟨_,H,I.kept k,?_,q⟩;by_cases a:j>i
 ·rw[if_pos a,if_pos a];exact⟨_,rfl⟩
 ·rw[if_neg a,if_neg a];exact⟨_,rfl⟩
theorem EO(b:X.calm=true):aW X (.builtin "min") (λxs H Q=>∃i j,xs=[.int i,.int j]/\Q (.int (if j<i then j else i)) H):=by
 intro p s e H xs U Q I r h;obtain⟨i,j,rfl,q⟩:=h;obtain⟨u,w,rfl,⟨t,rfl⟩,⟨T,rfl⟩⟩:=vals2 r;refine min_two_ints (I.ok.hd b) λc d k=>⟨_,H,I.kept k,?_,q⟩;by_cases a:j<i
 ·rw[if_pos a,if_pos a];exact⟨_,rfl⟩
 ·rw[if_neg a,if_neg a];exact⟨_,rfl⟩
theorem wl:aW X (.type "int") (λxs H Q=>(∃i,xs=[.int i]/\Q (.int i) H)\/∃k,xs=[.bl k]/\Q (.int (if k then 1 else 0)) H):=by
 intro p s a H xs U Q I r h;rcases h with⟨i,rfl,q⟩| ⟨k,rfl,q⟩
 ·obtain⟨u,rfl,t,rfl⟩:=vals1 r;exact call_int_int ⟨.int i,H,I,⟨_,rfl⟩,q⟩
 ·obtain⟨u,rfl,R⟩:=vals1 r;cases R;exact call_int_bool ⟨.int _,H,I.tok _,⟨_,rfl⟩,q⟩
end
section
variable {x C:Addr}{mA:Mg}{v:Value}
end
section
variable {H H':Hp}{C:Addr}{fs fs':List (Str×V)}
end
section
variable {X:Cx}{σ:St}{H:Hp}{C:Addr}{fs:List (Str×V)}{f:Str}{v:V}
end
section
variable {X:Cx}{o value:Expr}{f:Str}{pos tpos:Pos}{ta tv:TE}
end
section
variable {X:Cx}{σ:St}{H:Hp}{c:Value}{b:Bool}
end
structure cR (k:Nat)(A:Around):Prop where
 hd:A.handled=none
 dp:A.depth+3*k+5<recursionLimit
 un:A.units+16*k+200<cLine
 gd:A.guards=some []
theorem cR.mono{j:Nat}(r:cR k A)(h:j<=k):cR j A:=⟨r.hd,by have:=r.dp;omega,by have:=r.un;omega,r.gd⟩
theorem cR.deeper(r:cR (k+1) A)(env:Env):cR k (A.deeper env):=
 ⟨r.hd,by have:=r.dp;show A.depth+1+3*k+5<_;omega,by have:=r.un;show A.units+3+16*k+200<_;omega,r.gd⟩
theorem cR.depth(r:cR k A):A.depth<recursionLimit:=by have:=r.dp;omega
theorem cR.units(r:cR k A):A.units+64<cLine:=by have:=r.un;omega
def rj:TA:=λ_ H Q=>Q [] H
def jr(t:TE)(T:TA):TA:=λσ H Q=>t σ H λx H1=>T σ H1 λxs H2=>Q (x::xs) H2
section
variable {X:Cx}{es:Lx}{te:TE}{t:TA}{pos:Pos}
theorem rk:PA X [] rj:=λ_ _ _ _ H Q I h=>Calls.spliced_nil ⟨_,H,I,.nil,h⟩
theorem rn(c:PE X e te)(d:PA X es t)(hs:starEach (e::es) X.env=(false,eval e X.env)::starEach es X.env:=by rfl):PA X (e::es) (jr te t):=by intro pos p s i H Q I h;rw[hs];show wpAny _ _ (spliced ((false,eval e _)::backTo _ _)) _ _ s;refine Calls.spliced_cons (a' (c _ s _ H _ I h) λu S ⟨x,_,a,r,q⟩=>?_);exact a' (d _ _ _ _ _ _ a q) λU g ⟨_,_,b,R,f⟩=>⟨_,_,b,.cons r R,f⟩
def EQ(t:TA):TE:=λσ H Q=>t σ H λxs H1=>xs.length<=sizeLine/\∀p,H1 p=none->Q (.ref p) (bg H1 p (.tup xs))
def ER(t:TA):TE:=λσ H Q=>t σ H λxs H1=>xs.length<=sizeLine/\∀p,H1 p=none->Q (.ref p) (bg H1 p (.lst xs))
theorem ro{x1}(h:PA X es t):PE X (.Tuple es x1 pos) (EQ t):=by intro p s f H Q I d;refine wpAny_Tuple_spliced (a' (h _ _ s _ H _ I d) λU S ⟨_,_,a,r,z,q⟩=>⟨by rw[<-r.length];exact z,?_⟩);have c:=a.hok.fresh (Zg _);refine⟨.ref _,_,a.laid (λb u e=>Zb _ e) (Zg _) ?_,rfl,q _ c⟩;exact⟨z,_,r,⟨_,Zi _ rfl,rfl,_,rfl⟩,_,Zi _ rfl,rfl⟩
theorem rx(h:PA X es t):PE X (.List es pos) (ER t):=by intro p s f H Q I d;refine wpAny_List_spliced (a' (h _ _ s _ H _ I d) λU S ⟨_,_,a,r,z,q⟩=>⟨by rw[<-r.length];exact z,?_⟩);have c:=a.hok.fresh (Zg _);refine⟨.ref _,_,a.laid (λb u e=>Zb _ e) (Zg _) ?_,rfl,q _ c⟩;exact⟨z,_,0,r,Zi _ rfl⟩
end
abbrev Sp:=List V->Hp->VK->XK->Prop
abbrev ee:=List Env->Hp->Shared->XK->Vs
structure lO (P:Program)(w:World)(K:Fg)(mg:Mg)(base:Heap)(A:Around)(outer:List Env)(s:Shared)(H:Hp):Prop where
 frames:A.frames=some outer
 mod:Mod K mg base
 bs:∀b o,base.get? b=some o->s.heap.get? b=some o/\H b=none
 bsz:base.objs.size<=s.heap.objs.size
 funs:s.heap.FunFrames base outer
 frf:∀b∈dw outer,H b=none
 hok:eG P w H s.heap
 bare:AllBare s.gens
def CE(o:List Env)(P:Program)(w:World)(H:Hp)(s:Shared)(Q:VK)(u:Value)(S:Shared):Prop:=
 ∃v H',S.os=s.os/\AllBare S.gens/\Un (dw o) [] H H' s.heap S.heap/\eG P w H' S.heap/\RelV v u/\Q v H'
def CR(CX:ee)(o:List Env)(P:Program)(w:World)(H:Hp)(s:Shared)(Q:VK)(E:XK)(r:Result)(S:Shared):Prop:=
 match r with
 | .ok (.ret u)=>CE o P w H s Q u S
 | .ok _=>False
 | .error e=>CX o H s E e S
structure c9 (P:Program)(w:World)(K:Fg)(mg:Mg)(base:Heap)(CX:ee)(k:Nat)(f:Addr)(fd:FuncData)(ps:Ls)(sp:Sp):Prop where
 len:∀vs H Q E,sp vs H Q E->vs.length=ps.length
 run:∀(A:Around) (outer:List Env) (s:Shared) (H:Hp) (args:Args) (us:Lv) (vs:List V) (Q:VK) (E:XK),cR k A->lO P w K mg base A outer s H->BindsTo s fd args (ps.zip us)->Vals vs us->sp vs H Q E->
  codeAny (model P w) A (.call (.ref f) args) (CR CX outer P w H s Q E) s
theorem c9.mono{CX:ee}{j:Nat}{b:FuncData}{sp:Sp}(F:c9 P w K mg base CX j f b ps sp)(h:j<=k):
  c9 P w K mg base CX k f b ps sp:=⟨F.len,λA o s H a u vs Q E c=>F.run A _ s H _ _ _ Q E (c.mono h)⟩
theorem c9.imp{CX:ee}{b:FuncData}{sp S:Sp}(F:c9 P w K mg base CX k f b ps sp)
  (h:∀vs H Q E,S vs H Q E->sp vs H Q E):c9 P w K mg base CX k f b ps S:=
 ⟨λvs H Q E q=>F.len _ H Q E (h _ _ _ _ q),λA o s H a u vs Q E e d c i g=>F.run A _ s H _ _ _ Q E e d c i (h _ _ _ _ g)⟩
section
variable {X:Cx}{σ:St}{H:Hp}
theorem Inv.env0(I:Inv X pq σ H s):lO X.prog X.w X.K X.mg X.base X.A X.stack s H:=
 ⟨I.ok.frames,I.ok.mod,I.bs,ZB I.ok.bsz I.sz,I.stack,I.stkFree,I.hok,I.bare⟩
theorem Inv.after{Q:VK}(I:Inv X pq σ H s)(h:CE X.stack X.prog X.w H s Q u s'):EP X pq σ Q u s':=by obtain⟨v,c,O,B,un,a,r,q⟩:=h;obtain⟨e,g,d,t,o⟩:=s';obtain rfl:o=s.os:=O;exact⟨v,_,I.call un a B λb z=>absurd z (by simp),r,q⟩
end
def wm(sp:Sp)(d:List V)(E:XK)(t:TA):TE:=λσ H Q=>t σ H λvs H1=>sp (vs++d) H1 Q E
def Binds(K:Fg)(f:FuncData)(ps:Ls)(ds:Lv):Prop:=
 ∀(s:Shared) (us:Lv),K.In s.heap->(us++ds).length=ps.length->BindsTo s f ⟨us,[]⟩ (ps.zip (us++ds))
theorem Binds.all{f:FuncData}(h:∀us:Lv,us.length=ps.length->bindArgs f ⟨us,[]⟩=pure (ps.zip us)):Binds K f ps []:=λs us _ H=>by rw[Yc]at H⊢;exact .of_eq (h _ H)
def lP(CX:ee)(X:Cx)(E:XK):Prop:=∀(pq:Lp) (σ:St) (H:Hp) (s:Shared) (e:Value) (s':Shared),Inv X pq σ H s->CX X.stack H s E e s'->X.xe e s'
section
variable {X:Cx}{CX:ee}{C:Addr}{fd:FuncData}{sp:Sp}{dvs:List V}{ds:Lv}{E:XK}{x m:Str}{p pos:Pos}{o:Expr}{es:Lx}{ta:TE}{t:TA}
theorem ry{σ:St}{H:Hp}{Q:VK}{vs:List V}(F:c9 X.prog X.w X.K X.mg X.base CX k f fd ps sp)(i:cR k X.A)(c:Binds X.K fd ps ds)(d:Vals dvs ds)(j:lP CX X E)
  (I:Inv X pq σ H s) (r:Vals vs us) (h:sp (vs++dvs) H Q E):wpAny (model X.prog X.w) X.A (call (.ref f) us) (EP X pq σ Q) X.xe s:=by
 have R:=r.append d;have g:(us++ds).length=ps.length:=by rw[<-R.length];exact F.len _ _ _ _ h
 refine wpAny_call (codeAny_mono (F.run _ _ s H _ _ _ Q E i I.env0 (c s _ I.kIn g) R h) λr S a=>?_);cases r with
 |error e=>exact j _ _ H s e _ I a
 |ok b=>
  cases b with
  |ret u=>exact I.after a
  |next=>exact False.elim a
  |brk=>exact False.elim a
  |cont=>exact False.elim a
theorem lR(F:c9 X.prog X.w X.K X.mg X.base CX k f fd ps sp)(o:cR k X.A)(l:Gl X x)(n:X.mg x=some (.ref f))(m:PySem.W.keepIn X.K (.ref f)=true)(g:Binds X.K fd ps ds)(i:Vals dvs ds)(u:lP CX X E)
  (d:PA X (e::es) t) (a:(x==("__debug__":Str))=false:=by decide) (j:starEach (e::es) X.env=(false,eval e X.env)::starEach es X.env:=by rfl) (b:(backTo pos (starEach es X.env)).any (·.1)=false:=by rfl):
  PE X (.Call (.Name x p) (e::es) [] pos) (wm sp dvs E t):=by
 intro P s v H Q I h;refine wpAny_Call_Name_kw (vT I l n ?_ a);refine PySem.W.callWith_K I.ok.mod.kin m (a' (d _ _ s _ H _ I h) λU S ⟨_,_,c,r,q⟩=>⟨c.kIn,?_⟩) j b;exact ry F o g i u c r q
end
section
variable {X:Cx}{CX:ee}{C:Addr}{fd:FuncData}{ks:Ls}{sp:Sp}{E:XK}{x m:Str}{p pos kpos:Pos}{o:Expr}{es:Lx}{kws:List Keyword}{te ta:TE}{t tk:TA}{nm:Option Str}
variable {g:Lv->Lv->Lv}{gV:List V->List V->List V}
end
structure c7 (N P:Ls)(sc:Scope):Prop where
 kind:sc.kind=.function
 co:sc.isCoroutine=false
 gen:sc.isGenerator=false
 nd:N.Nodup
 pre:N.take P.length=P
 par:∀x∈P,sc.names.lookup x=some .local\/sc.names.lookup x=some .cell
 nofree:∀y∈sc.names,y.2≠.free
theorem wn{kindOf:Str->Option NameKind}{x:Str}:∀{binds:List (Str×Value)} {m:Mg},(∀v,(x,v)∉binds)->bindL kindOf binds m x=m x
 | [],_,_=>rfl
 | (n,v)::r,m,h=>by
  unfold bindL;rw[wn λw H=>h w (Zc _ H)];split
  ·grind
  ·rfl
theorem wo{kindOf:Str->Option NameKind}{x:Str}:∀{binds:List (Str×Value)} {m:Mg},(∀v,(x,v)∉binds)->bindC kindOf binds m x=m x
 | [],_,_=>rfl
 | (n,v)::r,m,h=>by
  unfold bindC;rw[wo λw H=>h w (Zc _ H)];split
  ·rfl
  grind
theorem wq{kindOf:Str->Option NameKind}{x:Str}{v:Value}:∀{P:Ls} {vs:Lv} {i:Nat} {m:Mg},P.Nodup->P[i]?=some x->vs[i]?=some v->kindOf x=some .local->
  bindL kindOf (P.zip vs) m x=some v
 | [],_,_,_,_,h,_,_=>by simp_all
 |_::_,[],_,_,_,_,h,_=>by simp_all
 |p::P,w::vs,0,m,n,H,a,b=>by simp at H a;subst H;subst a;show bindL _ ((p,w)::P.zip _) m p=_;unfold bindL;rw[wn λv c=>(Yb.mp n).1 (List.of_mem_zip c).1,if_pos b];simp
 |p::P,w::vs,i+1,m,n,H,a,b=>by unfold bindL;exact wq (Yb.mp n).2 (by simpa using H) (by simp_all) b
theorem wt{kindOf:Str->Option NameKind}{x:Str}{v:Value}:∀{P:Ls} {vs:Lv} {i:Nat} {m:Mg},P.Nodup->P[i]?=some x->vs[i]?=some v->kindOf x≠some .local->
  bindC kindOf (P.zip vs) m x=some v
 | [],_,_,_,_,h,_,_=>by simp_all
 |_::_,[],_,_,_,_,h,_=>by simp_all
 |p::P,w::vs,0,m,n,H,a,b=>by simp at H a;subst H;subst a;show bindC _ ((p,w)::P.zip _) m p=_;unfold bindC;rw[wo λv c=>(Yb.mp n).1 (List.of_mem_zip c).1,if_neg b];simp
 |p::P,w::vs,i+1,m,n,H,a,b=>by unfold bindC;exact wt (Yb.mp n).2 (by simpa using H) (by simp_all) b
noncomputable def start(N:Ls)(vs:List V):St:=vs.map some++List.replicate (N.length-vs.length) none
noncomputable def gL(CX:ee)(P:Program)(w:World)(K:Fg)(mg:Mg)(base:Heap)(N:Ls)(qual:Str)(scope:Scope)(f:Addr)(cd:Value)(A:Around)(outer:List Env)(s:Shared)(H:Hp)(E:XK):Cx where
 prog:=P
 w:=w
 K:=K
 mg:=mg
 base:=base
 A:=A.deeper (envOfC qual scope s.heap.objs.size f cd)
 N:=N
 s₀:=s
 H₀:=H
 env:=envOfC qual scope s.heap.objs.size f cd
 outer:=outer
 stack:=envOfC qual scope s.heap.objs.size f cd::outer
 ex:=[]
 calm:=true
 fn:=λ_=>true
 pn:=[]
 xe:=λe s'=>wpAny (model P w) (A.deeper (envOfC qual scope s.heap.objs.size f cd)) (leaving (envOfC qual scope s.heap.objs.size f cd) e) (λ_ s''=>CX outer H s E e s'') (λe' s''=>CX outer H s E e' s'') s'
theorem wu{s:Scope}{x:Str}(h:s.names.lookup x=some .cell):∃c,(cellsFrom n s.names []).lookup x=some c:=by have q:=PySem.W.cellsFrom_some _ n [] (.inl h);exact Option.isSome_iff_exists.mp q
theorem ES{CX:ee}{B:Shared}{H:Hp}{E:XK}{vs:List V}
  (S:c7 N ps scope) (D:A.handled=none) (a:lO P w K mg base A outer s H) (J:vs.length=ps.length) (r:Vals vs us)
  (x:InCallC s s.heap.objs.size (bindL (envOfC qual scope s.heap.objs.size f cd).kindOf (ps.zip us) λ_=>none) (cellsFrom (s.heap.objs.size+1) scope.names []) (bindC (envOfC qual scope s.heap.objs.size f cd).kindOf (ps.zip us) λ_=>none) B):
  Inv (gL CX P w K mg base N qual scope f cd A outer s H E) [] (start N vs) H B:=by
 have F:ps.length<=N.length:=by have:=congrArg List.length S.pre;rw[List.length_take]at this;omega
 obtain⟨l,T,rfl,o⟩:=x.done;have n:∀b:Addr,b∉(gL CX P w K mg base N qual scope f cd A outer s H E).ex:=λb z=>absurd (show b∈[]from z) (by simp)
 refine⟨⟨a.mod,S.kind,rfl,rfl,Zg _,λy z c l m=>?_,λy g=>?_,λy c _ h=>?_,λ_=>D,Around.frames_deeper a.frames,.inr ⟨rfl,rfl⟩,λb z=>absurd z (n b),a.bs,a.bsz,λb _ _=>n b,λb z=>absurd z (n b),a.funs,a.frf⟩,
  rfl,a.bare,Un.kept o,⟨_,x.toInCall.ns,λi y v l m G=>?_⟩,λy c h=>⟨_,x.cell y c h⟩,a.hok.fresh (Zg _),λy c h=>?_,λp d=>absurd (show p∈([])from d) (by simp),a.hok.kept o,?_⟩
 ·exact name_of_addr x.apart (ZN l) (ZN m)
 ·rcases g with g|g
  ·exact wu g
  ·exact absurd rfl (S.nofree _ (ZN g))
 ·exact Nat.le_of_lt (x.above y c (ZN h))
 ·have I:i<vs.length:=by
   unfold start at m
   grind
  have C:vs[i]?=some v:=by
   unfold start at m
   grind
  obtain⟨u,t,R⟩:=r.get C;have d:ps[i]?=some y:=by rw[<-S.pre,List.getElem?_take_of_lt (by omega)];exact l
  have j:ps.Nodup:=by rw[<-S.pre];exact S.nd.sublist (List.take_sublist _ _)
  refine⟨u,R,?_⟩;rcases S.par y (ZC d)with k|k
  ·exact .inl ⟨k,wq j d t k⟩
  ·obtain⟨c,e⟩:=wu k;refine .inr ⟨.inl k,c,e,?_⟩;have q:=x.cell y c e;rw[wt j d t (by show scope.names.lookup y≠_;rw[k];decide)]at q;exact q
 ·exact a.hok.fresh (Nat.le_of_lt (x.above y c (ZN h)))
 ·unfold start;show _=N.length;simp_all
theorem wv{CX:ee}{p:Arguments}{body:List Stmt}{D kV:Value}{an:Option Addr}
    {sp:Sp} (X:K.lookup f=some ⟨oc,od,.func (PySem.W.fnOf name qual p body scope D kV doc pm an cdv ct),osl⟩) (j:PySem.W.codeIn K cdv qual=true) (S:c7 N ps scope)
  (len:∀vs H Q E,sp vs H Q E->vs.length=ps.length)
  (h:∀(A:Around) (outer:List Env) (s:Shared) (H:Hp) (vs:List V) (Q:VK) (E:XK),cR k (A.deeper (envOfC qual scope s.heap.objs.size f cdv))->sp vs H Q E->
   ∃t,fW (gL CX P w K mg base N qual scope f cdv A outer s H E) body t/\t {nx:=λ_ H'=>Q .non H',rt:=Q} (start N vs) H):
  c9 P w K mg base CX (k+1) f (PySem.W.fnOf name qual p body scope D kV doc pm an cdv ct) ps sp:=by
 refine⟨len,λA outer s H z Y vs Q E l g G r i=>?_⟩;have O:=len _ _ _ _ i;have m:=g.mod.kin.keeps λb o e=>(g.bs b o e).1;have L:=g.mod.nolimit.keeps λb o e=>(g.bs b o e).1
 have c:∀y∈ps.zip Y,scope.names.lookup y.1=some _\/(scope.names.lookup y.1=some _/\((cellsFrom (s.heap.objs.size+1) _ []).lookup y.1).isSome=true):=λ⟨n,v⟩ W=>by
  rcases S.par n (List.of_mem_zip W).1 with q|q
  ·exact .inl q
  ·exact .inr ⟨q,PySem.W.cellsFrom_some _ _ _ (.inl q)⟩
 refine codeAny_call_function l.depth (m _ _ X) rfl S.co S.gen rfl (PySem.W.codeRec_of m j) (G _ _ _ _ ?_);refine wpAny_newFunctionEnv_cells S.kind c λC M s1 x=>?_;subst M;refine⟨L.keeps x.toInCall.keep,codeAny_func ?_⟩;obtain⟨t,U,T⟩:=h A _ s H _ Q E (l.deeper _) i;have I:Inv (gL CX P w K _ _ N _ _ f _ A _ s H E) _ _ H _:=ES S l.hd g O r x;refine wpAny_mono (U _ _ _ H _ I T) (λF B d=>?_) λe B d=>d
 have aF:∀{a:St} {H':Hp} {v:V} {u:Value},Inv (gL CX P w K mg base N qual scope f cdv A _ s H E) [] a _ _->RelV v u->Q v H'->CE outer P w H s Q u B:=
  λ{a H' v u} J R q=>⟨v,_,J.os,J.bare,J.base,J.hok,R,q⟩
 cases F with
 |ret u=>obtain⟨v,a,H',J,R,q⟩:=d;exact aF J R q
 |next=>obtain⟨a,H',J,q⟩:=d;exact aF (v:=V.non) J rfl q
 |brk=>obtain⟨_,_,_,q⟩:=d;simp_all
 |cont=>obtain⟨_,_,_,q⟩:=d;simp_all
section
variable {X:Cx}{x:Str}{p pos:Pos}{es:Lx}{t:TA}{id T:String}{r:List V->Hp->VK->Prop}
def ET(r:List V->Hp->VK->Prop)(t:TA):TE:=λσ H Q=>t σ H λvs H1=>r vs H1 Q
theorem EU(f:aW X (.builtin id) r)(i:Gl X x)(j:X.mg x=none)(l:bootBuiltins x=some (.builtin id))(d:PA X (e::es) t)(k:x≠"__name__":=by decide)(a:(x==("__debug__":Str))=false:=by decide)
  (g:starEach (e::es) X.env=(false,eval e X.env)::starEach es X.env:=by rfl) (b:(backTo pos (starEach es X.env)).any (·.1)=false:=by rfl):PE X (.Call (.Name x p) (e::es) [] pos) (ET r t):=by
 intro P s m H Q I h;refine wpAny_Call_Name_kw (ef I i j l ?_ k a);exact PyProof.Rows.callWith_builtin1 (a' (d _ _ s _ H _ I h) λu S ⟨_,_,c,R,q⟩=>f _ _ _ _ _ _ Q c R q) g b
theorem lS(f:aW X (.type T) r)(i:Gl X x)(j:X.mg x=none)(l:bootBuiltins x=some (.type T))(d:PA X (e::es) t)(k:x≠"__name__":=by decide)(a:(x==("__debug__":Str))=false:=by decide)
  (g:starEach (e::es) X.env=(false,eval e X.env)::starEach es X.env:=by rfl) (b:(backTo pos (starEach es X.env)).any (·.1)=false:=by rfl):PE X (.Call (.Name x p) (e::es) [] pos) (ET r t):=by
 intro P s m H Q I h;refine wpAny_Call_Name_kw (ef I i j l ?_ k a);exact Z0 (a' (d _ _ s _ H _ I h) λu S ⟨_,_,c,R,q⟩=>f _ _ _ _ _ _ Q c R q) g b
end
end L2
namespace HT
section
open PySem.SeqAt
open PySem.AutoSeq1 (wpAny_loadPart')
open PySem.MeetsSeq PySem.MeetsSeq2 PySem.MeetsSeq3
end
theorem lT{t b:Addr}{vs W:Lv}(l:IsTup s.heap t vs.toArray)(g:IsTup s.heap b W.toArray)(q:vs≠[])
  (h1:W=[]->Q (.ref t) s) (p:W≠[]->Q (.ref s.heap.objs.size) {s with heap:=s.heap.push {cls:=.type "tuple",data:=.seq (vs++W).toArray}})
  (k:vs.length+W.length<=sizeLine):wpAny (model prog w) A (binaryOp .Add (.ref t) (.ref b)) Q E s:=by
 obtain⟨⟨cls,o,d,sl⟩,H,i,n,j⟩:=id l;obtain⟨⟨C,f,D,S⟩,h,a,N,c⟩:=id g;subst i j a c;by_cases m:W=[]
 ·exact concat_meets ⟨_,H,rfl⟩ ⟨_,h,rfl⟩ noFill_tuple_add seq_tuple_add PySem.F.slot_tuple_add PySem.F.entry_tuple_add (PySem.F.args_tuple_add_2 _ _)
   (tuple_addW1 t b _ _ n _ _ _ _ _ (by simp_all) (by simp_all)) ⟨H,h,h1 m⟩
 ·refine concat_meets ⟨_,H,rfl⟩ ⟨_,h,rfl⟩ noFill_tuple_add seq_tuple_add PySem.F.slot_tuple_add PySem.F.entry_tuple_add (PySem.F.args_tuple_add_2 _ _)
   (tuple_addW2 t b _ _ n _ _ _ _ _ (by simp_all) (by simp_all) (by simp_all)) ⟨H,h,?_⟩
  simp_all
noncomputable def bZ(n d:Nat):Option Int->Nat
 |none=>d
 |some v=>if v<0 then(v+(n:Int)).toNat else min v.toNat n
theorem ww(v:Int)(n d:Nat):(if v<0 then max (v+(n:Int)) 0 else min v (n:Int))=((bZ n d (some v):Nat):Int):=by
 show(if v<0 then max _ 0 else min v _)=((if v<0 then(v+(n)).toNat else min _ n):Nat)
 grind
theorem EV(lo hi:Option Int)(n:Nat):Builtin.Slice.sliceAdjust lo hi 1 (n:Int)=(((bZ n 0 lo:Nat):Int),((bZ n n hi:Nat):Int)):=by
 refine Prod.ext ?_ ?_
 ·cases lo with
  |none=>rfl
  |some v=>exact ww v n 0
 ·cases hi with
  |none=>rfl
  |some v=>exact ww v n n
theorem EW(i j:Nat):Builtin.Slice.slicePlaces (i:Int) (j:Int) 1=j-i:=by
 unfold Builtin.Slice.slicePlaces
 grind
theorem wx{v:Value}{o:Option Int}{Q:Option Int->Shared->Prop}(p:IsPart v o)(h:Q o s):wpAny (model prog w) A (Builtin.Slice.slicePartIndex v) Q E s:=by
 cases p with
 |none=>exact slicePart_none h
 |int i t=>exact slicePart_int h
theorem wy{lo:Option Int}{Q:Int×Int×Nat->Shared->Prop}(hs:s.heap.IsSliceOf sl vl vu .none)(pl:IsPart vl lo)(p:IsPart vu hi)
  (h:Q (((bZ n 0 lo:Nat):Int),1,bZ n n hi-bZ n 0 lo) s):wpAny (model prog w) A (Builtin.Slice.sliceApplied (.ref sl) (pure (n:Int))) Q E s:=by
 obtain⟨o,a,b,H⟩:=id hs;refine Za (Za (Z4 a H rfl (Za (Z4 a H rfl (Za (Z4 a H rfl (Ze ?_)))))));refine Za (slicePart_none ?_);refine Za (wx pl (Za (wx p (Za (Ze ?_)))));show wpAny _ _ (match Builtin.Slice.sliceAdjust _ _ 1 n with| (lo,hi)=>pure (lo,(1:Int),Builtin.Slice.slicePlaces lo hi 1)) _ _ s;rw[EV _ _ n];show wpAny _ _ (pure _) _ _ s;rw[EW];exact Ze h
theorem EX(xs:Av)(i k:Nat):((List.range k).filterMap λ(m:Nat)=>xs[((i:Int)+(m:Int)*1).toNat]?).toArray=((xs.toList.drop i).take k).toArray:=by
 have e:(λ(m:Nat)=>xs[((i:Int)+m*1).toNat]?)=λm=>xs[i+m]? :=by
  grind
 have:=pick_run xs i k;have E:((λx=>xs[x]?)∘λx=>i+x)=λm=>xs[i+m]? :=rfl;simp_all
theorem EY{t:Addr}{lo:Option Int}(a:IsTup s.heap t items)(hs:s.heap.IsSliceOf sl vl vu .none)(pl:IsPart vl lo)(p:IsPart vu hi)
  (j:¬(bZ items.size 0 lo=0/\bZ items.size items.size hi=items.size))
  (h:Q (.ref s.heap.objs.size) {s with heap:=s.heap.push {cls:=.type "tuple",data:=.seq ((items.toList.drop (bZ items.size 0 lo)).take (bZ items.size items.size hi-bZ items.size 0 lo)).toArray}})
  (i:items.size<=sizeLine):wpAny (model prog w) A (getItem (.ref t) (.ref sl)) Q E s:=by
 have H:=by
  show((items.toList.drop (bZ items.size 0 lo)).take (bZ items.size items.size hi-bZ items.size 0 lo)).toArray.size<=sizeLine
  grind
 obtain⟨o,e,c,g⟩:=id hs;have b:s.TypeIs (.ref sl) "slice":=⟨o,e,c⟩;unfold getItem
 try with_reducible refine Z5 ?_
 refine Za (wpAny_sequenceKey a.typeIs (by decide) ?_)
 refine Za (Z1 a.typeIs PyProof.Rows.slot_tuple_getitem
  (ZY PyProof.Rows.slot_tuple_getitem a.typeIs entry_tuple_getitem ?_ (args_tuple_getitem _ _)))
 show wpAny _ _ (Builtin.Tuple.tupleItemsOf (.ref t)>>=_) _ _ s;refine Za (tupleItemsOf_ a ?_);refine Za (wpAny_typeOf b ?_);refine Za (wy hs pl p ?_);have d:¬((((bZ items.size 0 lo:Nat):Int)==0&&(1:Int)==1&&(bZ items.size items.size hi-bZ items.size 0 lo)==items.size)=true):=by simp_all
 show wpAny _ _ (if(((bZ _ 0 lo:Nat):Int)==0&&(1:Int)==1&&(bZ _ items.size hi-bZ items.size 0 lo)==items.size)=true then _ else _) _ _ s;rw[if_neg d,EX]
 first
  |exact Za (wpAny_newObj_type (Ze ⟨_,rfl,Ze h⟩) H)
  |simp_all
  |simp_all
  |simp_all
end HT
namespace L2
abbrev TO:=St->Hp->(Option Int->Hp->Prop)->Prop
def PO(X:Cx)(e:Option Expr)(t:TO):Prop:=
 ∀(pq:Lp) (s:Shared) (σ:St) (H:Hp) (Q:Option Int->Hp->Prop),Inv X pq σ H s->t σ H Q->
  wpAny (model X.prog X.w) X.A (evalPart e X.env) (λu s'=>∃o H',Inv X pq σ H' s'/\IsPart u o/\Q o H') X.xe s
def lU:TO:=λ_ H Q=>Q none H
def wz(t:TE):TO:=λσ H Q=>t σ H λx H1=>∃i,x=.int i/\Q (some i) H1
theorem rA:∀{us:Lv},Vals (ns.map V.int) us->IntsAre us ns:=by
 induction ns with
 |nil=>intro us r;cases r;exact .nil
 |cons n ns i=>
  intro us r;cases r with
  |cons R a=>obtain⟨t,e⟩:=R;subst e;exact .cons n t (i a)
section
variable {X:Cx}{te:TE}{lo hi:Option Expr}{tl th:TO}{pos:Pos}
theorem lV:PO X none lU:=by intro p s a H Q I h;exact Ze ⟨_,H,I,.none,h⟩
theorem lW(h:PE X e te):PO X (some e) (wz te):=by intro p s d H Q I b;refine a' (h _ s _ H _ I b) λu S ⟨x,_,a,r,c⟩=>?_;obtain⟨i,rfl,q⟩:=c;obtain⟨t,rfl⟩:=r;exact⟨_,_,a,.int i t,q⟩
def DN(X:Cx)(r:V->Option Int->Option Int->Hp->VK->Prop):Prop:=
 ∀(pq:Lp) (s:Shared) (σ:St) (H:Hp) (x:V) (v vl vu:Value) (lo hi:Option Int) (sl:Addr) (Q:VK),Inv X pq σ H s->RelV x v->s.heap.IsSliceOf sl vl vu .none->IsPart vl lo->IsPart vu hi->r x lo hi H Q->
  ∃T id,typeLookup (.type T) "__getitem__"=pure (some (.builtin id))/\s.TypeIs v T/\wpAny (model X.prog X.w) X.A (getItem v (.ref sl)) (EP X pq σ Q) X.xe s
def MJ(r:V->Option Int->Option Int->Hp->VK->Prop)(t:TE)(b T:TO):TE:=λσ H Q=>t σ H λx H1=>b σ H1 λl H2=>T σ H2 λu a=>r x l u a Q
theorem EZ{r:V->Option Int->Option Int->Hp->VK->Prop}(n:DN X r)(j:PE X e te)(m:PO X lo tl)(p:PO X hi th):PE X (.Subscript e (.Slice lo hi none p2) pos) (MJ r te tl th):=by intro C s F H Q I h;refine Subscript_ (a' (j _ s _ H _ I h) λv D ⟨x,_,c,R,w⟩=>?_);refine wpAny_Slice (a' (m _ _ _ _ _ c w) λA E ⟨l,_,d,P,y⟩=>a' (p _ _ _ _ _ d y) λB S ⟨u,_,f,t,z⟩=>?_);refine Ze ?_;have g:Inv X _ _ _ {S with heap:=S.heap.push {cls:=.type "slice",data:=.fields #[A,B,.none]}}:=f.kept λb O q=>Zb _ q;obtain⟨T,id,i,o,k⟩:=n _ _ _ _ x v _ _ l u _ Q g R (Heap.IsSliceOf.new ..) P t z;exact tail_any o i k rfl
noncomputable def iA(xs:List V)(lo hi:Option Int):List V:=(xs.drop (HT.bZ xs.length 0 lo)).take (HT.bZ xs.length xs.length hi-HT.bZ xs.length 0 lo)
theorem wC(xs:List V)(lo hi:Option Int):(iA xs lo hi).length<=xs.length:=by unfold iA;rw[List.length_take,List.length_drop];omega
def E1(K:Fg):V->Option Int->Option Int->Hp->VK->Prop:=λx lo hi H Q=>∃a xs,x=.ref a/\cf K H a xs/\
 ¬(HT.bZ xs.length 0 lo=0/\HT.bZ xs.length xs.length hi=xs.length)/\∀p,H p=none->Q (.ref p) (bg H p (.tup (iA xs lo hi)))
theorem sl_tup:DN X (E1 X.K):=by
 intro m s t H x v V n L k sl Q I R e p P h;obtain⟨a,j,rfl,f,l,q⟩:=h;cases R;obtain⟨i,r,d,g⟩:=I.tuple f;have c:i.toArray.size=j.length:=by exact r.length.symm
 refine⟨_,_,PyProof.Rows.slot_tuple_getitem.lookup,d.typeIs,?_⟩;refine HT.EY d e p P (by lia) ?_ (by lia);rw[c];refine⟨.ref _,_,I.laid (λb o q=>Zb _ q) (Zg _) ?_,rfl,q _ (I.hok.fresh (Zg _))⟩;exact⟨ZB (wC _ _ _) g,_,(r.drop _).take _,IsTup.new _ _,vF.new _ _⟩
def wD(K:Fg):R2:=λx y H Q=>∃a b xs ys,x=.ref a/\y=.ref b/\cf K H a xs/\cf K H b ys/\xs≠[]/\xs.length+ys.length<=sizeLine/\
 (ys=[]->Q (.ref a) H)/\(ys≠[]->∀p,H p=none->Q (.ref p) (bg H p (.tup (xs++ys))))
theorem Vals.nil_iff{xs:List V}(r:Vals xs us):us=[]↔xs=[]:=by
 cases r with
 |nil=>simp
 |cons _ _=>simp
theorem lX:c8 X (binaryOp .Add) (wD X.K):=by intro n s A H x y v u Q I l m h;obtain⟨a,b,t,Y,rfl,rfl,c,d,e,f,j,k⟩:=h;cases l;cases m;obtain⟨g,R,p,_⟩:=I.tuple c;obtain⟨i,r,P,_⟩:=I.tuple d;refine HT.lT p P (λz=>e (R.nil_iff.mp z)) (λz=>⟨.ref a,H,I,rfl,j (r.nil_iff.mp z)⟩) (λz=>?_) (by rw[<-R.length,<-r.length];exact f);refine⟨.ref _,_,I.laid (λb o q=>Zb _ q) (Zg _) ?_,rfl,k (λw=>z (r.nil_iff.mpr w)) _ (I.hok.fresh (Zg _))⟩;exact⟨by simp_all,_,R.append r,IsTup.new _ _,vF.new _ _⟩
end
noncomputable def gJ(n:Nat)(i:Int):Option Nat:=if 0<=i then(if i<n then some i.toNat else none)else if-(n:Int)<=i then some (i+n).toNat else none
noncomputable def fX{a:Type}(xs:List a)(i:Int):Option a:=(gJ xs.length i).bind λj=>xs[j]?
theorem rB{i:Int}{j:Nat}(h:gJ n i=some j):seqIndex? i n=some j/\j<n/\ -(n:Int)<=i/\i<n:=by
 unfold gJ at h;by_cases a:0<=i
 ·rw[if_pos a]at h;by_cases H:i<n
  ·rw[if_pos H]at h;have e:=Option.some.inj h;exact⟨by rw[seqIndex_of a H,e],by omega,by omega,H⟩
  simp_all
 ·rw[if_neg a]at h;by_cases H: -n<=i
  ·rw[if_pos H]at h;have e:=Option.some.inj h;exact⟨by rw[seqIndex_neg (by omega) H,e],by omega,H,by omega⟩
  simp_all
theorem wE{a:Type}{xs:List a}{i:Int}{v:a}(h:fX xs i=some v):∃j,seqIndex? i xs.length=some j/\xs[j]?=some v/\j<xs.length/\ -(xs.length:Int)<=i/\i<xs.length:=by
 unfold fX at h;cases e:gJ xs.length i with
 |none=>simp_all
 |some j=>rw[e]at h;obtain⟨H,b,c,d⟩:=rB e;exact⟨j,H,h,b,c,d⟩
def wF(b:Expr):Prop:=∀o i,subscripted b false o i=operate [o,i] (getItem o i)
def DO(X:Cx)(r:R2):Prop:=
 ∀(value S:Expr) (pq:Lp) (s:Shared) (σ:St) (H:Hp) (x y:V) (v u:Value) (Q:VK),Inv X pq σ H s->RelV x v->RelV y u->r x y H Q->
  subscripted S false v u=operate [v,u] (getItem v u)->wpAny (model X.prog X.w) X.A (subscriptTail value S v u) (EP X pq σ Q) X.xe s
def rE(X:Cx)(id:String)(r:V->List V->Hp->VK->Prop):Prop:=
 ∀(pq:Lp) (s:Shared) (σ:St) (H:Hp) (x:V) (xs:List V) (v:Value) (us:Lv) (Q:VK),Inv X pq σ H s->RelV x v->Vals xs us->r x xs H Q->
  wpAny (model X.prog X.w) X.A (call (.builtin id) (v::us)) (EP X pq σ Q) X.xe s
section
variable {X:Cx}{a b:Expr}{ta tb:TE}{pos:Pos}
theorem wG{r:R2}(f:DO X r)(d:PE X a ta)(e:PE X b tb)(hs:wF b):PE X (.Subscript a b pos) (DM r ta tb):=by intro p s j H Q I h;exact Subscript_ (qY d e I h λv u S x y i c R g q=>f a b _ _ _ _ x y v u Q c R g q (hs _ _))
def E2(K:Fg):R2:=λx y H Q=>∃p xs i v,x=.ref p/\y=.int i/\c6 K H p xs/\fX xs i=some v/\Q v H
def E3(K:Fg):R2:=λx y H Q=>∃p xs i v,x=.ref p/\y=.int i/\cf K H p xs/\fX xs i=some v/\Q v H
theorem lY:DO X (E2 X.K):=by
 intro V S F s J H x y v u Q I n o h d;obtain⟨p,G,i,z,rfl,rfl,m,k,q⟩:=h;cases n;obtain⟨t,rfl⟩:=o;obtain⟨a,r,P,D⟩:=I.list m;obtain⟨j,c,e,A,f,g⟩:=wE k;obtain⟨w,E,R⟩:=r.get e;have B:=r.length;have C:=iz;have aF:EP X _ _ Q w s:=⟨z,H,I,R,q⟩;by_cases b:0<=i
 ·have l:i.toNat=j:=by
   rw[seqIndex_of b g]at c;simp_all
  exact item_listR P.isList b (by omega) (by simp_all) aF d
 ·have l:(i+a.toArray.size).toNat=j:=by
   rw[seqIndex_neg (by omega) f]at c;simp_all
  exact subscriptTail_builtinR P.isList.typeIs slot_list_getitem.lookup
   (wpAny_getItem_list_neg P.isList (by omega) (by simp_all) (by omega) (by simp_all) ⟨rfl,aF⟩) d
theorem rF:DO X (E3 X.K):=by
 intro V S C s F H x y v u Q I f g h d;obtain⟨p,D,i,z,rfl,rfl,c,b,q⟩:=h;cases f;obtain⟨t,rfl⟩:=g;obtain⟨e,r,P,B⟩:=I.tuple c;obtain⟨j,k,a,l,m,n⟩:=wE b;obtain⟨w,E,R⟩:=r.get a;have o:=r.length;have A:=iz;have aF:EP X _ _ Q w s:=⟨z,H,I,R,q⟩
 exact subscriptTail_builtinR P.typeIs slot_tuple_getitem.lookup
  (getItem_tuple (j:=j) P (by omega) (by omega) (by simp_all) (by simp_all) ⟨rfl,aF⟩) d
theorem E4(its:Lv)(n j:Nat)(u:Value):Obj.mapSeq (·.setIfInBounds j u) {cls:=.type "list",data:=.seq its.toArray n}={cls:=.type "list",data:=.seq (its.set j u).toArray n}:=by simp[Obj.mapSeq]
theorem Inv.lst{σ:St}{H:Hp}{p:Addr}{xs:List V}(I:Inv X pq σ H s)(h:H p=some (.lst xs)):
  ∃(its:Lv) (n:Nat),Vals xs its/\s.heap.get? p=some {cls:=.type "list",data:=.seq its.toArray n}/\xs.length<=sizeLine:=by
 obtain⟨z,its,n,r,e⟩:=I.hok p _ h;exact⟨_,n,r,e,z⟩
theorem Inv.lstUpd{σ:St}{H:Hp}{p:Addr}{xs y:List V}{its i:Lv}{n N:Nat}{f:Obj->Obj}(I:Inv X pq σ H s)(h:H p=some (.lst xs))
  (g:s.heap.get? p=some {cls:=.type "list",data:=.seq its.toArray n}) (c:f {cls:=.type "list",data:=.seq its.toArray n}={cls:=.type "list",data:=.seq i.toArray N}) (r:Vals y i) (j:y.length<=sizeLine) (t:Nat):
  Inv X pq σ (bg H p (.lst y)) {s with heap:=s.heap.update p f,toks:=t}:=by
 have e:(s.heap.update p f).get? p=some {cls:=.type "list",data:=.seq i.toArray N}:=by rw[Heap.get?_update_self f g (by rw[c]<;>rfl),c]
 refine I.write (by rw[h];trivial) (.inl rfl) (λb u d q=>(Heap.get?_update_other _ _ (Ne.symm d)).trans q) ⟨_,e⟩ ?_;exact⟨j,_,_,r,e⟩
def wH:V->V->V->Hp->(Hp->Prop)->Prop:=λo i v H Q=>∃p xs k j,o=.ref p/\i=.int k/\H p=some (.lst xs)/\gJ xs.length k=some j/\Q (bg H p (.lst (xs.set j v)))
theorem E5:qR X wH:=by
 intro P s F H o i v O D u Q I x R y h;obtain⟨p,E,k,j,rfl,rfl,g,w,q⟩:=h;cases x;obtain⟨t,rfl⟩:=R;obtain⟨c,n,r,b,C⟩:=I.lst g;obtain⟨f,z,l,m⟩:=rB w;have A:=r.length;have B:=iz
 have d:=
  I.lstUpd g b (E4 _ n j u) (r.set y j) (by simp_all) s.toks
 by_cases e:0<=k
 ·have a:k.toNat=j:=by
   rw[seqIndex_of e m]at f;simp_all
  exact PySem.W.ki_setAt b e (by omega) (by simp_all) (by rw[a];exact⟨_,d,q⟩)
 ·have a:(k+c.toArray.size).toNat=j:=by
   rw[seqIndex_neg (by omega) l]at f;simp_all
  exact PySem.W.ki_setBack b (by omega) (by simp_all) (by omega) (by rw[a];exact⟨_,d,q⟩)
theorem E6(lo hi:Option Int)(n:Nat):(sliceBounds lo hi none n).1=((HT.bZ n 0 lo:Nat):Int)/\(sliceBounds lo hi none n).2.1=((HT.bZ n n hi:Nat):Int)/\(sliceBounds lo hi none n).2.2=1:=by
 refine⟨?_,?_,rfl⟩
 ·cases lo with
  |none=>simp[sliceBounds,HT.bZ]
  |some i=>
   simp only[sliceBounds,HT.bZ,Option.getD_none,show(1:Int)>0 by decide,if_true];by_cases h:i<0
   ·simp only[h,if_true]<;>omega
   ·simp only[h,if_false]<;>omega
 ·cases hi with
  |none=>simp[sliceBounds,HT.bZ]
  |some i=>
   simp only[sliceBounds,HT.bZ,Option.getD_none,show(1:Int)>0 by decide,if_true];by_cases h:i<0
   ·simp only[h,if_true]<;>omega
   ·simp only[h,if_false]<;>omega
theorem E7(its:Lv)(lo hi:Option Int):slicePick its.toArray lo hi none=((its.drop (HT.bZ its.length 0 lo)).take (HT.bZ its.length its.length hi-HT.bZ its.length 0 lo)).toArray:=by obtain⟨h,H,a⟩:=E6 _ _ _;unfold slicePick;rw[h,H,a];simp only[sliceRange_one,pick_run]<;>rfl
def E8(K:Fg):V->Option Int->Option Int->Hp->VK->Prop:=λx lo hi H Q=>∃a xs,x=.ref a/\c6 K H a xs/\∀p,H p=none->Q (.ref p) (bg H p (.lst (iA xs lo hi)))
theorem lZ:DN X (E8 X.K):=by intro k s t H x v V m l j sl Q I R e p P h;obtain⟨a,n,rfl,f,q⟩:=h;cases R;obtain⟨i,r,d,g⟩:=I.list f;have c:=r.length;refine⟨_,_,slot_list_getitem.lookup,d.isList.typeIs,?_⟩;refine wpAny_getItem_list_slice d.isList e p P .none (by simp) ?_ (by simp_all);rw[E7,<-c];refine⟨.ref _,_,I.laid (λb o q=>Zb _ q) (Zg _) ?_,rfl,q _ (I.hok.fresh (Zg _))⟩;exact⟨ZB (wC _ _ _) g,_,0,(r.drop _).take _,Zi _ rfl⟩
theorem E_:aW X (.builtin "len") (λxs H Q=>∃p ys,xs=[.ref p]/\(c6 X.K H p ys\/cf X.K H p ys)/\Q (.int ys.length) H):=by
 intro f s g H xs U Q I r h;obtain⟨p,ys,rfl,b,q⟩:=h;obtain⟨u,rfl,d⟩:=vals1 r;cases d;have e:=iz;rcases b with b|b
 ·obtain⟨i,R,P,c⟩:=I.list b;have a:=R.length;exact Calls.call_len_list P.isList (by simp<;>omega) ⟨.int _,H,I.tok _,⟨s.toks+1,by simp_all⟩,q⟩
 ·obtain⟨i,R,P,c⟩:=I.tuple b;have a:=R.length;exact len_tuple P (by simp<;>omega) ⟨.int _,H,I.tok _,⟨s.toks+1,by simp_all⟩,q⟩
theorem Fa:aW X (.builtin "len") (λxs H Q=>∃z,xs=[.str z]/\z.length<=sizeLine/\Q (.int z.length) H):=by intro p s c H xs U Q I r h;obtain⟨z,rfl,b,q⟩:=h;obtain⟨u,rfl,t,rfl⟩:=vals1 r;have a:=iz;exact len_str (by omega) ⟨.int _,H,I.tok _,⟨_,rfl⟩,q⟩
theorem Fb:aW X (.type "list") (λxs H Q=>∃p ys,xs=[.ref p]/\(c6 X.K H p ys\/cf X.K H p ys)/\∀l,H l=none->Q (.ref l) (bg H l (.lst ys))):=by
 intro v s w H xs U Q I r h;obtain⟨p,ys,rfl,d,q⟩:=h;obtain⟨u,rfl,t⟩:=vals1 r;cases t
 have aF:∀(i:List _),Vals _ i->ys.length<=sizeLine->∀(a:Heap) (C:Nat),(∀b O,s.heap.get? b=some _->a.get? b=some _)->
   a.get? _=some _->EP X _ _ Q _ _:=λi R f a C k e=>
  ⟨.ref _,_,I.laid (t':=s.toks) k (Zg _) (show bw _ _ _ _ _ (.lst _)from⟨f,_,C,R,e⟩),rfl,q _ (I.hok.fresh (Zg _))⟩
 rcases d with d|d
 ·obtain⟨i,R,P,f⟩:=I.list d;have c:=R.length;obtain⟨o,m,g,n,j⟩:=P.isList;exact call_list_seq p (.inl rfl) m g j (λa C k e=>aF _ R f _ _ k e) (by simp_all)
 ·obtain⟨i,R,P,f⟩:=I.tuple d;have c:=R.length;obtain⟨o,m,g,n,j⟩:=P;exact call_list_seq p (.inr rfl) m g j (λa C k e=>aF _ R f _ _ k e) (by simp_all)
theorem wI:aW X (.type "tuple") (λxs H Q=>∃p ys,xs=[.ref p]/\((c6 X.K H p ys/\∀l,H l=none->Q (.ref l) (bg H l (.tup ys)))\/(cf X.K H p ys/\Q (.ref p) H))):=by
 intro n s v H xs U Q I r h;obtain⟨p,ys,rfl,h⟩:=h;obtain⟨u,rfl,j⟩:=vals1 r;cases j;rcases h with⟨a,q⟩| ⟨a,q⟩
 ·obtain⟨i,R,P,f⟩:=I.list a;have d:=R.length;refine call_tuple_list P.isList (λm k=>?_) (by simp_all);have c:=I.kept (t':=s.toks) k
  have g:=
   c.laid (t':=s.toks) (λb o e=>Zb _ e) (Zg _) (show bw _ _ _ _ _ (.tup _)from⟨f,_,R,IsTup.new _ _,vF.new _ _⟩)
  exact⟨.ref _,_,g,rfl,q _ (c.hok.fresh (Zg _))⟩
 ·obtain⟨i,R,P,f⟩:=I.tuple a;exact call_tuple_same P ⟨.ref p,H,I,rfl,q⟩
def wJ(K:Fg)(T:String)(x:V)(H:Hp):Prop:=match x with
 | .str _=>T="str"
 | .int _=>T="int"
 | .ref p=>(T="list"/\∃xs,c6 K H p xs)\/(T="tuple"/\∃o,K.lookup p=some o/\o.cls=.type "tuple"/\o.dict=none)\/
   (T="dict"/\((∃k,H p=some (.dK k))\/∃k,H p=some (.dT k)))\/(T="set"/\∃S n,H p=some (.set S n))
 |_=>False
theorem js{σ:St}{H:Hp}{T:String}{x:V}{v:Value}(I:Inv X pq σ H s)(r:RelV x v)(ty:wJ X.K T x H):
  s.TypeIs v T/\∀a,v=.ref a->∃ob,s.heap.get? a=some ob/\ob.dict=none:=by
 cases x with
 |str z=>
  obtain⟨t,rfl⟩:=r;cases show T="str" from ty
  exact⟨typeIs_str s z t,λ_ e=>nomatch e⟩
 |int i=>
  obtain⟨t,rfl⟩:=r;cases show T="int" from ty
  exact⟨typeIs_int s i t,λ_ e=>nomatch e⟩
 |ref p=>
  cases r;rcases ty with⟨rfl,l,g⟩| ⟨rfl,o,h,f,d⟩| ⟨rfl,h⟩| ⟨rfl,S,n,h⟩
  ·obtain⟨j,_,P,_⟩:=I.list g;refine⟨P.isList.typeIs,λa e=>?_⟩;obtain⟨o,n,e,c,d,_⟩:=P;simp_all
  ·refine⟨⟨o,I.kIn p o h,f⟩,λa e=>?_⟩;cases e;exact⟨o,I.kIn _ o h,d⟩
  ·have z:∃o,s.heap.get? p=some o/\o.ExactDict:=by
    rcases h with⟨k,h⟩| ⟨k,h⟩
    ·obtain⟨_,_,_,_,o,_,_,e,E,_⟩:=I.hok p _ h;simp_all
    ·obtain⟨_,_,_,_,o,_,_,e,E,_⟩:=I.hok p _ h;simp_all
   obtain⟨o,e,E⟩:=z;refine⟨⟨o,e,E.1⟩,λa b=>?_⟩;cases b;exact⟨o,e,E.2.1⟩
  ·obtain⟨o,_,_,_,e,E,_⟩:=I.hok p _ h;refine⟨⟨o,e,E.1⟩,λa b=>?_⟩;cases b;exact⟨o,e,E.2.1⟩
 |_=>exact False.elim ty
def Fc(K:Fg)(T:String)(r:V->List V->Hp->VK->Prop)(to:TE):TE:=λσ H Q=>to σ H λx H1=>wJ K T x H1/\r x [] H1 Q
def MK(K:Fg)(T:String)(r:V->List V->Hp->VK->Prop)(to:TE)(t:TA):TE:=λσ H Q=>to σ H λx H1=>wJ K T x H1/\t σ H1 λxs H2=>r x xs H2 Q
variable {o:Expr}{es:Lx}{to:TE}{t:TA}{cpos:Pos}{T id:String}{r:V->List V->Hp->VK->Prop}
theorem rG(p:PlainAttrs T)(S:Slot T name id)(c:typeOf (.builtin id)=pure (.type "method_descriptor"))(g:rE X id r)(i:PE X o to)
  (a:attributeBase o name X.env (eval o X.env)=eval o X.env:=by rfl) (b:(apos.endLine==cpos.line)=true:=by rfl):PE X (.Call (.Attribute o name apos) [] [] cpos) (Fc X.K T r to):=by
 intro P s k H Q I h;refine wpAny_Call_method0_late a b (a' (i _ s _ H _ I h) λv j ⟨x,_,d,R,ty,q⟩=>?_);obtain⟨e,f⟩:=js d R ty;exact⟨T,_,p,S,c,e,f,Calls.callWith_builtin rfl (PySem.evalArgs_none (g _ _ _ _ x _ v _ Q d R .nil q))⟩
theorem wK(P:PlainAttrs T)(S:Slot T name id)(f:typeOf (.builtin id)=pure (.type "method_descriptor"))(n:rE X id r)(p:PE X o to)(m:PA X (e::es) t)
  (a:attributeBase o name X.env (eval o X.env)=eval o X.env:=by rfl)
  (c:((backTo cpos (starEach (e::es) X.env)).all (λx=> !x.1)&&(backToKw cpos (keywordEach [] X.env)).all (λx=>x.1.isSome)
   &&decide ((e::es).length+([]:List Keyword).length+(if([]:List Keyword).isEmpty then 0 else 1)<30))=true:=by rfl)
  (b:(apos.endLine==cpos.line)=true:=by rfl) (hs:starEach (e::es) X.env=(false,eval e X.env)::starEach es X.env:=by rfl) (d:(backTo cpos (starEach es X.env)).any (·.1)=false:=by rfl):
  PE X (.Call (.Attribute o name apos) (e::es) [] cpos) (MK X.K T r to t):=by
 intro y s B H Q I h;refine wpAny_Call_method_late a c b rfl (a' (p _ s _ H _ I h) λv z ⟨x,_,g,R,ty,q⟩=>?_);obtain⟨k,l⟩:=js g R ty;refine⟨T,_,P,S,f,k,l,?_⟩;have i:=m cpos _ _ _ _ _ g q;rw[hs]at i⊢;refine Calls.callWith_builtin (by grind) (Calls.evalArgs_plain ?_);exact a' i λU A ⟨_,_,j,w,u⟩=>n _ _ _ _ x _ v _ Q j R w u
end
def DP(X:Cx)(id:String)(r:V->List V->Hp->VK->Prop):Prop:=
 ∀(pq:Lp) (s:Shared) (σ:St) (H:Hp) (x:V) (xs:List V) (v:Value) (us:Lv) (Q:VK),Inv X pq σ H s->RelV x v->Vals xs us->r x xs H Q->
  wpAny (model X.prog X.w) X.A (call (.builtin id) (v::us)) (EP X pq σ Q) X.xe s
theorem Vals.un{x:V}{xs:List V}(h:Vals (x::xs) us):∃u r,us=u::r/\RelV x u/\Vals xs r:=by
 cases h with
 |cons r t=>lia
theorem Vals.nul(h:Vals [] us):us=[]:=by cases h;rfl
theorem Vals.one{x:V}(h:Vals [x] us):∃u,us=[u]/\RelV x u:=by obtain⟨u,r,rfl,a,H⟩:=h.un;cases H.nul;lia
theorem Vals.two{x y:V}(h:Vals [x,y] us):∃u v,us=[u,v]/\RelV x u/\RelV y v:=by obtain⟨u,r,rfl,a,H⟩:=h.un;obtain⟨v,rfl,b⟩:=H.one;lia
theorem Vals.zero:∀{us:Lv},Vals [] us->us=[]
 |_,.nil=>rfl
theorem Vals.dropLast{xs:List V}(h:Vals xs us):Vals xs.dropLast us.dropLast:=by
 induction h with
 |nil=>exact .nil
 |cons r t i=>
  cases t with
  |nil=>exact .nil
  |cons q T=>exact .cons r i
theorem Vals.eraseIdx:∀{xs:List V} {us:Lv} (i:Nat),Vals xs us->Vals (xs.eraseIdx i) (us.eraseIdx i)
 |_,_,_,.nil=>.nil
 |_,_,0,.cons _ t=>t
 |_,_,i+1,.cons r t=>.cons r (Vals.eraseIdx i t)
theorem Vals.rep{xs:List V}(h:Vals xs us):∀k:Nat,Vals (List.replicate k xs).flatten (List.replicate k us).flatten
 |0=>.nil
 |k+1=>by exact Vals.append h (Vals.rep h k)
theorem wL{a:Type}:∀(l:List a) (i:Nat),(l.eraseIdx i).length<=l.length
 | [],_=>Zg _
 |_::_,0=>Nat.le_succ _
 |_::r,i+1=>Nat.succ_le_succ (wL r i)
theorem wM(its:Lv):∀(k:Nat) (acc:Lv),
  List.foldl (λx1 x2=>x1++x2) acc.toArray (List.replicate k its.toArray)=(acc++(List.replicate k its).flatten).toArray
 |0,acc=>by simp
 |k+1,acc=>by
  have e:acc.toArray++its.toArray=(acc++its).toArray:=by simp
  have E:acc++its++(List.replicate k its).flatten=acc++(List.replicate (k+1) its).flatten:=by
   grind
  rw[<-E,<-wM _ k _,<-e,List.replicate_succ,List.foldl_cons]
section
variable {X:Cx}{σ:St}{H:Hp}{l b:Addr}{xs ys zs:List V}
theorem Inv.lset{its i:Lv}{n:Nat}{f:Av->Av}{t':Nat}(I:Inv X pq σ H s)(a:H l=some (.lst xs))
  (e:s.heap.get? l=some {cls:=.type "list",data:=.seq its.toArray n}) (c:f its.toArray=i.toArray) (g:Vals ys i) (j:ys.length<=sizeLine):
  Inv X pq σ (bg H l (.lst ys)) {s with heap:=s.heap.update l (Obj.mapSeq f),toks:=t'}:=by
 have q:=PySem.IsL.update e f;rw[c]at q;refine I.write (by rw[a];exact trivial) (.inl rfl) (λB u b d=>(Heap.get?_update_other _ _ (Ne.symm b)).trans d) ⟨_,q⟩ ?_;exact⟨j,_,_,g,q⟩
theorem Inv.lnew{t':Nat}(I:Inv X pq σ H s)(a:Vals ys its)(b:ys.length<=sizeLine):
  Inv X pq σ (bg H s.heap.objs.size (.lst ys)) {s with heap:=s.heap.push {cls:=.type "list",data:=.seq its.toArray},toks:=t'}:=
 I.laid (λ_ _ q=>Zb _ q) (Zg _) ⟨b,_,0,a,Zi _ rfl⟩
theorem Inv.fresh(I:Inv X pq σ H s):H s.heap.objs.size=none:=I.hok.fresh (Zg _)
theorem Inv.lstM(I:Inv X pq σ H s)(h:H l=some (.lst xs)):xs.length<=sizeLine/\∃(its:Lv) (n:Nat),Vals xs its/\xs.length=its.length/\s.heap.get? l=some {cls:=.type "list",data:=.seq its.toArray n}:=by obtain⟨z,its,n,r,e⟩:=I.hok l _ h;exact⟨z,_,n,r,r.length,e⟩
theorem wN(h:n<=sizeLine):Builtin.List.listTooLong n=false:=by exact ZK (by omega)
end
section
variable {X:Cx}
def l3:V->List V->Hp->VK->Prop:=λx vs H Q=>∃l xs y,x=.ref l/\vs=[y]/\H l=some (.lst xs)/\xs.length<sizeLine/\Q .non (bg H l (.lst (xs++[y])))
theorem wO:DP X "list.append" l3:=by intro p s j H x vs v U Q I c b h;obtain⟨l,g,y,rfl,rfl,a,f,q⟩:=h;cases c;obtain⟨u,rfl,R⟩:=b.one;obtain⟨z,i,n,r,d,e⟩:=I.lstM a;refine call_meets F.slot_list_append ⟨_,e,rfl⟩ F.entry_list_append (F.args_list_append_2 _ _) (PySem.list_append l _ n u (by simp_all)) ⟨e,?_⟩;refine⟨.non,_,I.lset a e (by simp) (r.append (.cons R .nil)) ?_,rfl,q⟩;rw[ZA,List.length_singleton];omega
def l4:V->List V->Hp->VK->Prop:=λx vs H Q=>∃l b xs zs,x=.ref l/\vs=[.ref b]/\H l=some (.lst xs)/\H b=some (.lst zs)/\xs.length+zs.length<=sizeLine/\Q .non (bg H l (.lst (xs++zs)))
theorem Fe:DP X "list.extend" l4:=by
 intro P s A H x vs v U Q I o m h;obtain⟨l,b,w,y,rfl,rfl,f,g,t,q⟩:=h;cases o;obtain⟨u,rfl,k⟩:=m.one;cases k;obtain⟨z,c,n,r,p,e⟩:=I.lstM f;obtain⟨Z,i,N,R,j,E⟩:=I.lstM g;have d:c.toArray.size+i.toArray.size<=sizeLine:=by simp_all
 have a:¬(!c.toArray.isEmpty&&Builtin.List.listTooLong (c.toArray.size+i.toArray.size))=true:=by rw[wN d];simp_all
 refine call_meets F.slot_list_extend ⟨_,e,rfl⟩ F.entry_list_extend (F.args_list_extend_2 _ _)
  (AutoSeq1.list_extend_list_list_0 l _ n b _ _ a (by lia) (by omega)) ⟨e,E,?_⟩
 refine⟨.non,_,I.lset f e (by simp) (r.append R) ?_,rfl,q⟩;simp_all
def Ff:V->List V->Hp->VK->Prop:=λx vs H Q=>∃l xs y,x=.ref l/\vs=[]/\H l=some (.lst xs)/\xs[xs.length-1]?=some y/\Q y (bg H l (.lst xs.dropLast))
theorem rH:DP X "list.pop" Ff:=by
 intro p s o H x vs v U Q I g f h;obtain⟨l,m,y,rfl,rfl,c,d,q⟩:=h;cases g;have a:=f.zero;subst a;obtain⟨z,i,n,r,j,e⟩:=I.lstM c;obtain⟨u,k,R⟩:=r.get d;have b:i.toArray[i.toArray.size-1]?=some u:=by simp_all
 refine call_meets F.slot_list_pop ⟨_,e,rfl⟩ F.entry_list_pop (F.args_list_pop_1 _) (MeetsSeq.list_pop_last l _ n u b (by simp_all)) ⟨e,?_⟩;refine⟨y,_,I.lset c e ?_ r.dropLast ?_,R,q⟩
 ·simp_all
 ·rw[List.length_dropLast];omega
def rJ:V->List V->Hp->VK->Prop:=λx vs H Q=>∃l xs i k y,x=.ref l/\vs=[.int i]/\H l=some (.lst xs)/\ -(2^63)<=i/\i<2^63/\seqIndex? i xs.length=some k/\xs[k]?=some y/\Q y (bg H l (.lst (xs.eraseIdx k)))
theorem Fh:DP X "list.pop" rJ:=by
 intro P s C H x vs v U Q I m j h;obtain⟨l,o,i,k,y,rfl,rfl,a,b,c,p,d,q⟩:=h;cases m;obtain⟨u,rfl,g⟩:=j.one;obtain⟨t,rfl⟩:=g;obtain⟨z,f,n,r,A,e⟩:=I.lstM a;obtain⟨w,B,R⟩:=r.get d
 refine call_meets F.slot_list_pop ⟨_,e,rfl⟩ F.entry_list_pop (F.args_list_pop_2 _ _)
  (MeetsSeq.list_pop_at l _ n i t k w (fitsIndex_both b c) (by simp_all) (by simp_all) (by simp_all)) ⟨e,?_⟩
 refine⟨y,_,I.lset a e ?_ (r.eraseIdx k) ?_,R,q⟩
 ·simp_all
 ·have:=wL o k;omega
def Fi:R2:=λx y H Q=>∃l b xs zs,x=.ref l/\y=.ref b/\H l=some (.lst xs)/\H b=some (.lst zs)/\xs.length+zs.length<=sizeLine/\∀p,H p=none->Q (.ref p) (bg H p (.lst (xs++zs)))
theorem rK:c8 X (binaryOp .Add) Fi:=by
 intro p s A H x y v u Q I j k h;obtain⟨l,b,t,w,rfl,rfl,f,d,o,q⟩:=h;cases j;cases k;obtain⟨z,a,n,r,m,e⟩:=I.lstM f;obtain⟨Z,i,N,R,g,E⟩:=I.lstM d;refine PySem.P.add_list e E ?_ (by simp_all);have c:a.toArray++i.toArray=(a++i).toArray:=by simp
 rw[c];exact⟨.ref _,_,I.lnew (r.append R) (by simp_all),rfl,q _ I.fresh⟩
def Fj:R2:=λx y H Q=>∃l k xs,x=.ref l/\y=.int k/\H l=some (.lst xs)/\ -(2^63)<=k/\k<2^63/\xs.length*k.toNat<=sizeLine/\
 ∀p,H p=none->Q (.ref p) (bg H p (.lst (List.replicate k.toNat xs).flatten))
theorem l5{a:Type}(xs:List a)(k:Nat):(List.replicate k xs).flatten.length=k*xs.length:=by simp_all
theorem jt:c8 X (binaryOp .Mult) Fj:=by
 intro P s K H x y v u Q I R A h;obtain⟨l,k,J,rfl,rfl,p,j,o,w,q⟩:=h;cases R;obtain⟨t,rfl⟩:=A;obtain⟨z,i,n,r,E,e⟩:=I.lstM p;have f:i.toArray.size*k.toNat<=sizeLine:=by simp_all
 have c:¬i.toArray.size*k.toNat>(2^63-1)/8:=by
  have:(sizeLine)<=(2^63-1)/8:=by decide
  omega
 have d:¬(!Builtin.List.listFitsIndex k)=true:=by rw[fitsIndex_both j o];simp_all
 have b:¬Builtin.List.listTooLong (i.toArray.size*k.toNat)=true:=by rw[wN f];simp_all
 have g:List.foldl (λB C=>B++C) #[] (List.replicate (if i.toArray.isEmpty=true then 0 else k.toNat) i.toArray)=(List.replicate k.toNat i).flatten.toArray:=by
  have D:=λm=>by have:=wM i m [];rw[List.nil_append]at this;exact this
  cases i with
  |nil=>simp
  |cons a G=>simp_all
 refine wpAny_binaryOp_repeat_ref (by lia) ⟨_,e,rfl⟩ (λS=>typeIs_int _ k t) noFill_list_mul F.fills_int_mul F.slot_int_rmul repeat_list F.slot_int_index.lookup
  (call_meets F.slot_int_rmul (typeIs_int s k t) F.entry_int_rmul (F.args_int_rmul_2 _ _) (int___rmul___int_list k t l _ n)
   ⟨e,rfl,⟨_,e,rfl⟩,call_meets F.slot_list_mul ⟨_,e,rfl⟩ F.entry_list_mul (F.args_list_mul_2 _ _) (AutoListH.list___mul___list_int_3 l _ n k t d c b) ⟨e,?_⟩⟩)
 rw[g];exact⟨.ref _,_,I.lnew (r.rep _) (by rw[l5,Nat.mul_comm];exact w),rfl,q _ I.fresh⟩
end
set_option maxRecDepth 100000 in
section
variable {X:Cx}
end
end L2
namespace Att
open PySem PySem.W PySem.Calls PyProof.Rows
theorem Fm{P:Params}:∀(ns:Li) (vs:Lv),WellAll P h vs (ns.map WData.int)->IntsAre vs ns:=by
 intro ns
 induction ns with
 |nil=>intro vs w;cases w;exact .nil
 |cons n ns i=>
  intro vs w;cases w with
  |cons a b=>cases a;exact .cons _ _ (i _ b)
theorem Fn{l:OpenLaw}(o:l.most=some n){P:Params}{A:List WData}{v:Lv}
  (H:l.row.toRowW.claim.pre A=true) (g:WellAll P h v A):
  ∃a vs ns,v=[Value.ref a]/\A=[WData.list (ns.map WData.int)]/\h.get? a=some {cls:=.type "list",data:=.seq vs.toArray}/\IntsAre vs ns/\ns.length<=n:=by
 have f:=(pre_splitW H).1;have m:=(pre_splitW H).2;obtain⟨d,r,rfl,i,j⟩:=hasAllW_cons f;obtain rfl:=hasAllW_nil j;obtain⟨x,rfl,k⟩:=hasW_list i;obtain⟨ns,rfl⟩:=items_int k
 have c:ns.length<=n:=by
  have e:=by have e:=(holds_andW m).1;rw[o]at e;exact e
  have q:=condW_of e (w_not (w_lt w_lit (w_len_list (w_arg rfl))));simp_all
 cases g with
 |cons w W=>
  cases W;cases w with
  |list p b=>exact⟨_,_,_,rfl,rfl,p,Fm _ _ b,c⟩
theorem Fo(l:OpenLaw)(a:List WData):l.row.toRowW.claim.post a (.bool true) a=true:=
 postW_of
  (show WShape.has _ _ _=true by rfl)
  (show(WTm.eq _ _).value _ _=some _ from w_eq_bool (w_res rfl) w_lit) rfl
theorem Fp{l:OpenLaw}{q:Program}{d:DefRec}
  (C:l.most=some n) (g:d.params.defaults=[])
  (call:∀(w:World) (S s:Shared) (mg m:Mg) (fa:Addr) (o:Obj) (pm cd doc:Value) (a:Addr) (vs:Lv) (ns:Li),
   Ground q loose [] XP w S mg m s.heap->YP w s.heap->
   s.heap.get? fa=some o->o.data=.func (docDef d.name d.params d.body d.scope pm cd doc)->s.heap.CodeRec cd d.name->mg d.name=some (.ref fa)->
   s.heap.get? a=some {cls:=.type "list",data:=.seq vs.toArray}->IntsAre vs ns->ns.length<=n->s.gens= #[]->
   codeAny (model l.prog w) callerA (.call (.ref fa) ⟨[.ref a],[]⟩) (λr s'=>r=.ok (.ret (.bool true))/\OldK s.heap s'.heap/\s'.os=s.os/\AllBare s'.gens) s):
  WalkO q loose XP YP l.row.toRowW d [] (λf vs=>PySem.call f vs):=by
 intro w S s mg m G Y fa o pm cd doc D kV E x e hD i y A v as c k I j z;obtain rfl:D=.none:=Dflts.none hD g;obtain rfl:kV=.none:=Dflts.noKw hD;obtain⟨a,vs,ns,rfl,rfl,b,h,H⟩:=Fn C c j;refine enter_call (codeAny_mono (call w _ _ _ _ _ o _ _ _ a _ _ G Y E (fd_plain x) e i b h H y) λr s' F=>?_);obtain⟨rfl,p,t,u⟩:=F;exact⟨.inl ⟨_,_,_,rfl,λ_=>rfl,.bool _,Fo l _,λ_=>⟨List.Pairwise.nil,λ_ B=>nomatch B⟩⟩,p,t,u⟩
section
variable {K:Frag}
end
end Att
namespace L2
theorem wP:∀{vs:Lv} {ns:Li},IntsAre vs ns->Vals (ns.map V.int) vs
 |_,_,.nil=>.nil
 |_,_,.cons n t h=>.cons ⟨t,rfl⟩ (wP h)
def l6(H:Hp):Prop:=∀b,H b=none\/∃o xs,H b=some (.frz o (.lst xs))
theorem Fq{P:Program}{w:World}{O:Mg}{CX:ee}{k:Nat}{C:Addr}{U:FuncData}{x:Str}{sp:Sp}{S:Shared}{vs:Lv}{ns:Li}
  (R:K.In S.heap) (p:S.heap.Ns mainGlobals mg) (f:S.heap.Ns builtinsNs O) (I:∀x:Str,x≠"__name__"->O x=bootBuiltins x) (l:S.heap.NoLimit) (hg:S.gens= #[])
  (G:S.heap.get? a=some {cls:=.type "list",data:=.seq vs.toArray}) (hi:IntsAre vs ns) (X:ns.length<=sizeLine) (hr:cR k callerA)
  (F:∀base:Heap,K.In base->base.Ns mainGlobals mg->c9 P w K mg base CX k C U [x] sp) (g:∀(s:Shared) (u:Value),BindsTo s U ⟨[u],[]⟩ [(x,u)])
  (M:∀H:Hp,l6 H->c6 K H a (ns.map V.int)->sp [.ref a] H (λv _=>v=.bl true) λ_ _ _=>False)
  (D:∀H e s',CX [] H S (λ_ _ _=>False) e s'->False):
  codeAny (model P w) callerA (.call (.ref C) ⟨[.ref a],[]⟩) (λr s'=>r=.ok (.ret (.bool true))/\OldK S.heap s'.heap/\s'.os=S.os/\AllBare s'.gens) S:=by
 have Y:=wP hi;have L:=hi.length
 have c:∀H:Hp,l6 H->c6 K H a (ns.map V.int)->eG P w H S.heap->(∀b,H b≠none->b=a)->(H a≠none->K.lookup a=none)->
   codeAny (model P w) callerA (.call (.ref C) ⟨[.ref a],[]⟩) (λr s'=>r=.ok (.ret (.bool true))/\OldK S.heap s'.heap/\s'.os=S.os/\AllBare s'.gens) S:=by
  intro H W hS t hA hK;have B:∀{b:Addr} {o:Obj},S.heap.get? b=some o->H b=none->(fH S.heap H).get? b=some o:=λe n=>Ed e n
  have Q:∀{b:Addr} {o:Obj} {A:Array DictEntry} {E:Nat},S.heap.get? b=some o->o.data=.dict A E->H b=none:=λ{b o A E} e d=>by
   grind
  have N:∀{b:Addr} {m:Mg},S.heap.Ns b m->(fH S.heap H).Ns b m:=λ{b m} ⟨o,A,E,e,d,r⟩=>⟨o,A,E,B e (Q e d),d,r⟩
  have j:K.In (fH S.heap H):=λb o e=>B (R b o e) (by
   grind)
  have hM:Mod K mg (fH S.heap H):=⟨j,N p,⟨O,N f,I⟩,let⟨mc,h1,h2⟩:=l;⟨mc,N h1,h2⟩⟩;have e0:lO P w K mg (fH S.heap H) callerA [] S H:=⟨rfl,hM,λb o e=>lq e,Nat.le_of_eq (Ec _ _),trivial,λb f=>absurd (show b∈([]:La)from f) (by simp),t,.of_eq hg⟩;refine codeAny_mono ((F _ j (N p)).run callerA [] S H ⟨[.ref a],[]⟩ [.ref a] [.ref a] _ _ hr e0 (g S (.ref a)) (.cons rfl .nil) (M H W hS)) λr s' h=>?_;cases r with
  |error e=>exact(D H e s' h).elim
  |ok fl=>
   cases fl with
   |next=>exact False.elim h
   |brk=>exact False.elim h
   |cont=>exact False.elim h
   |ret u=>
    obtain⟨v,H',os,i,un,y,r',q⟩:=h;have q':v=.bl true:=q;subst q';obtain rfl:u=Value.bool true:=r';refine⟨rfl,OldK.of_keep λb o e=>?_,os,i⟩;cases q:H b with
    |none=>exact un.keep b o e q (by intro z;exact absurd (show b∈([]:La)from z) (by simp)) (by simp)
    |some u=>
     rcases W b with z| ⟨ob,xs,z⟩
     ·rw[q]at z;cases z
     ·have z2:=un.frzs b ob _ z;obtain⟨T,_⟩:=t b _ z;obtain⟨e2,_⟩:=y b _ z2;rw[e]at T;cases T;exact e2
 cases J:K.lookup a with
 |some o=>have e:=R a o J;rw[G]at e;cases e;refine c (λ_=>none) (λ_=>.inl rfl) (.inr ⟨_,vs.toArray,_,J,rfl,rfl,rfl,by rw[Zv,L];exact X,by simpa using Y⟩) (λb u z=>by have Z:(none:Option HO)=some u:=z;cases Z) (λb z=>absurd rfl z) λz=>absurd rfl z
 |none=>
  refine c (λb=>if b=a then some _ else none) (λb=>?_) (.inl (.inr ⟨{cls:=.type "list",data:=.seq vs.toArray},if_pos rfl⟩)) (λb u z=>?_) (λb z=>?_) λ_=>J
  ·grind
  ·by_cases f:b=a
   ·have Z:=(if_pos f).symm.trans z;cases Z;subst f;exact⟨G,by rw[Zf];exact X,vs,_,Y,G⟩
   ·have Z:=(if_neg f).symm.trans z;cases Z
  simp_all
theorem l7{l:PySem.W.OpenLaw}{q:Program}{d:DefRec}{K:Params->Fg}{CX:World->ee}{sp:World->Sp}{x:Str}
  (L:l.most=some n) (p:n<=sizeLine) (j:d.params.defaults=[]) (M:cR k callerA)
  (C:∀(w:World) (h:Heap),YP w h->(K w.params).In h)
  (F:∀(w:World) (mg:Mg) (fa:Addr) (h:Heap),(K w.params).In h->h.Ns mainGlobals mg->mg d.name=some (.ref fa)->
   ∃fd:FuncData,(∀(s:Shared) (u:Value),BindsTo s fd ⟨[u],[]⟩ [(x,u)])/\
    ∀base:Heap,(K w.params).In base->base.Ns mainGlobals mg->c9 l.prog w (K w.params) mg base (CX w) k fa fd [x] (sp w))
  (r:∀(w:World) (H:Hp) (a:Addr) (ns:Li),ns.length<=n->l6 H->c6 (K w.params) H a (ns.map V.int)->sp w [.ref a] H (λv _=>v=.bl true) λ_ _ _=>False)
  (i:∀(w:World) (H:Hp) (s:Shared) (e:Value) (s':Shared),CX w [] H s (λ_ _ _=>False) e s'->False):
  PySem.W.WalkO q loose XP YP l.row.toRowW d [] (λf vs=>PySem.call f vs):=by
 refine Att.Fp L j λw S y mg Q fa o R N D a vs ns G Y P O I m g c b J=>?_;have t:=C w _ Y;obtain⟨fd,E,z⟩:=F w _ _ _ t G.T.g m;exact Fq t G.T.g G.T.b G.T.builtins G.T.nolimit J g c (ZB b p) M z E (λH A B=>r w H a _ b A B) λH e s'=>i w H _ e _
noncomputable def iB(s:Stmt):Arguments:=match s with
 | .FunctionDef _ a _ _ _ _ _ _ _ _=>a
 |_=>{posonlyargs:=[],args:=[],vararg:=none,kwonlyargs:=[],kw_defaults:=[],kwarg:=none,defaults:=[]}
noncomputable def dn(s:Stmt):List Stmt:=match s with
 | .FunctionDef _ _ b _ _ _ _ _ _ _=>b
 |_=>[]
noncomputable def dF(s:Stmt):Scope:=match s with
 | .FunctionDef _ _ _ _ _ _ sc _ _ _=>sc
 |_=>{kind:=.function,names:=[],isGenerator:=false,isCoroutine:=false}
abbrev E0:XK:=λ_ _ _=>False
structure vH (K:Fg)(x qual:Str)(st:Stmt)(f:Addr)(fd:FuncData):Prop where
 ex:∃(oc:Value) (od:Option Addr) (kV doc pm:Value) (an:Option Addr) (cdv ct:Value) (osl:Array (Ov)),
  fd=PySem.W.fnOf x qual (iB st) (dn st) (dF st) .none kV doc pm an cdv ct/\K.lookup f=some ⟨oc,od,.func fd,osl⟩/\PySem.W.codeIn K cdv qual=true
 kp:PySem.W.keepIn K (.ref f)=true
theorem vH.binds{x:Str}{st:Stmt}{a:FuncData}(F:vH K x qual st f a)
  (h:∀(kV doc pm:Value) (an:Option Addr) (cdv ct:Value) (us:Lv),us.length=ps.length->bindArgs (PySem.W.fnOf x qual (iB st) (dn st) (dF st) .none kV doc pm an cdv ct) ⟨us,[]⟩=pure (ps.zip us)):Binds K a ps []:=by
 obtain⟨O,b,kV,doc,pm,an,cdv,ct,o,rfl,l,H⟩:=F.ex;exact .all (h _ _ _ _ _ _)
theorem rL{x:Str}{st:Stmt}{an:Option Addr}{kV:Value}(l:K.lookup f=some ⟨oc,od,.func (PySem.W.fnOf x qual (iB st) (dn st) (dF st) .none kV doc pm an cdv ct),osl⟩)
  (c:PySem.W.codeIn K cdv qual=true) (k:PySem.W.keepIn K (.ref f)=true):vH K x qual st f (PySem.W.fnOf x qual (iB st) (dn st) (dF st) .none kV doc pm an cdv ct):=⟨⟨_,_,_,_,_,_,_,_,_,rfl,l,c⟩,k⟩
section
variable {X:Cx}
end
end L2
variable {H H' H1 H0 Hx:L2.Hp}{X:L2.Cx}{σ σ':L2.St}{v v':L2.V}{ta te to:L2.TE}{tb:L2.St->L2.Hp->(L2.St->L2.Hp->Prop)->Prop}{tc:L2.TT}{wi:L2.TI}{CX:L2.ee}{sp:L2.Sp}{J:L2.It}{u':L2.HO}{B:La->L2.Hp->Prop}
namespace Py
theorem aH{C:Prop}{a b c d:Sort _}{p q r:a->b->c->d->Prop}(h:∃x y z w,p x y z w/\q x y z w/\r x y z w)(k:∀x y z w,p x y z w->q x y z w->r x y z w->C):C:=by
 grind
theorem rN{C:Prop}{a b c d e f g h i:Sort _}{p q r:a->b->c->d->e->f->g->h->i->Prop}(z:∃x1 x2 x3 x4 x5 x6 x7 x8 x9,p x1 x2 x3 x4 x5 x6 x7 x8 x9/\q x1 x2 x3 x4 x5 x6 x7 x8 x9/\r x1 x2 x3 x4 x5 x6 x7 x8 x9)(k:∀x1 x2 x3 x4 x5 x6 x7 x8 x9,p x1 x2 x3 x4 x5 x6 x7 x8 x9->q x1 x2 x3 x4 x5 x6 x7 x8 x9->r x1 x2 x3 x4 x5 x6 x7 x8 x9->C):C:=by
 grind
theorem aN{C:Prop}{a b c:Sort _}{p q r t:a->b->c->Prop}(h:∃x y z,p x y z/\q x y z/\r x y z/\t x y z)(k:∀x y z,p x y z->q x y z->r x y z->t x y z->C):C:=by
 grind
inductive D where
 |non|bl (b:Bool)|int (i:Int)|str (x:Str)
 |tup (xs:List D)|lst (xs:List D)|ref (n:Nat)|scr (xs:List D)
 |fn (x:Str)|dct|ty (n:String)|dks (ks:List (Li))
 deriving Inhabited
abbrev aa:=List (List D)
structure GS where
 mg:Mg
 F:La
noncomputable def rO(K:Fg)(H:Hp)(a:Addr)(vs:List V):Prop:=(∃o,H a=some (.frz o (.lst vs)))\/
 ∃(o:Obj) (its:Av) (n:Nat),K.lookup a=some o/\o.cls=.type "list"/\o.dict=none/\o.data=.seq its n/\its.size<=sizeLine/\Vals vs its.toList
theorem rO.sq{vs:List V}(h:rO K H a vs):c6 K H a vs:=by
 rcases h with⟨o,h⟩|h
 ·exact .inl (.inr ⟨o,h⟩)
 ·exact .inr h
noncomputable def hD(k:Li):Int:=reduceHash (Builtin.Tuple.tupleHashOf (k.map hashInt))
noncomputable def MM(h:Heap)(a:Addr)(cs:List (Li×Addr)):Prop:=(a==sysModules)=false/\∃o es ep,h.get? a=some o/\o.ExactDict/\o.data=.dict es ep/\es.toList=cs.map λc=>⟨hD c.1,.ref c.2,.bool true⟩
section
variable (K:Fg)(mg:GS)(μ:La)(H:Hp)
mutual
def Rep:D->V->Prop
 | .non,v=>v=.non
 | .bl b,v=>v=.bl b
 | .int i,v=>v=.int i
 | .str x,v=>v=.str x
 | .tup ds,v=>∃a vs,v=.ref a/\cf K H a vs/\aj ds vs
 | .lst ds,v=>∃a vs,v=.ref a/\H a=some (.lst vs)/\(a∉μ/\a∉mg.F)/\aj ds vs
 | .scr ds,v=>∃a vs,v=.ref a/\rO K H a vs/\aj ds vs
 | .ref n,v=>∃a,v=.ref a/\μ[n]?=some a
 | .fn x,v=>∃a,v=.ref a/\mg.mg x=some (.ref a)
 | .dct,v=>∃a,v=.ref a/\H a=some (.dK [])
 | .ty n,v=>v=.ty n
 | .dks ks,v=>∃a cs,v=.ref a/\H a=some (.ext λh=>MM h a cs)/\a∉mg.F/\(cs.map (·.1)=ks/\ks.Nodup)/\∀c∈cs,cf K H c.2 (c.1.map V.int)
def aj:List D->List V->Prop
 | [],vs=>vs=[]
 |d::ds,vs=>∃w W,vs=w::W/\Rep d w/\aj ds W
end
end
structure aQ (K:Fg)(mg:GS)(μ:La)(S:aa)(H:Hp):Prop where
 live:∀a∈mg.F,∃o,H a=some o
 len:μ.length=S.length
 nd:μ.Nodup
 at_:∀(n:Nat) (a:Addr) (ds:List D),μ[n]?=some a->S[n]?=some ds->∃vs,H a=some (.lst vs)/\aj K mg μ H ds vs
structure Ext (μ:La)(H:Hp)(μ':La)(H':Hp):Prop where
 pre:∃r,μ'=μ++r
 keep:∀a o,H a=some o->((∀xs,o≠.lst xs)\/a∉μ)->H' a=some o
 there:∀a o,H a=some o->∃o',H' a=some o'
 fresh:∀a∈μ',a∈μ\/H a=none
section
variable {mg:GS}{μ'':La}{H'':Hp}
theorem Ext.refl:Ext μ H μ H:=⟨⟨[],by simp⟩,λ_ _ h _=>h,λ_ o h=>⟨o,h⟩,λ_ h=>.inl h⟩
theorem Ext.trans(a:Ext μ H μ' H')(b:Ext μ' H' μ'' H''):Ext μ H μ'' H'':=by
 obtain⟨r,e⟩:=a.pre;obtain⟨R,E⟩:=b.pre;refine⟨⟨r++R,by simp_all⟩,λx o h c=>?_,λx o h=>?_,λx h=>?_⟩
 ·have d:=a.keep x o h c;refine b.keep x o d ?_;rcases c with c|c
  ·exact .inl c
  ·refine .inr λz=>?_;rcases a.fresh x z with z|z
   ·exact c z
   simp_all
 ·obtain⟨O,d⟩:=a.there x o h;exact b.there x _ d
 ·rcases b.fresh x h with h|h
  ·exact a.fresh x h
  ·refine .inr ?_;cases e:H x with
   |none=>rfl
   |some o=>obtain⟨O,d⟩:=a.there x o e;simp_all
theorem Ext.sqT{vs:List V}(x:Ext μ H μ' H')(h:cf K H a vs):cf K H' a vs:=by
 rcases h with(h| ⟨o,h⟩)|h
 ·exact .inl (.inl (x.keep _ _ h (.inl λ_ z=>by lia)))
 ·exact .inl (.inr ⟨o,x.keep _ _ h (.inl λ_ z=>by lia)⟩)
 ·exact .inr h
theorem Ext.frz{vs:List V}(x:Ext μ H μ' H')(h:rO K H a vs):rO K H' a vs:=by
 rcases h with⟨o,h⟩|h
 ·exact .inl ⟨o,x.keep _ _ h (.inl λ_ z=>by lia)⟩
 ·exact .inr h
theorem Ext.lst{vs:List V}(x:Ext μ H μ' H')(h:H a=some (.lst vs))(b:a∉μ):H' a=some (.lst vs)/\a∉μ':=by
 refine⟨x.keep _ _ h (.inr b),λz=>?_⟩;rcases x.fresh a z with z|z
 ·exact b z
 simp_all
theorem Ext.get(x:Ext μ H μ' H')(h:μ[n]?=some a):μ'[n]?=some a:=by
 obtain⟨r,rfl⟩:=x.pre
 grind
mutual
theorem Rep.mono(x:Ext μ H μ' H'):∀(d:D) (v:V),Rep K mg μ H d v->Rep K mg μ' H' d v
 | .non,_,h=>h
 | .bl _,_,h=>h
 | .int _,_,h=>h
 | .str _,_,h=>h
 | .tup _,v,h=>by obtain⟨a,vs,e,q,r⟩:=h;exact⟨a,_,e,x.sqT q,aj.mono x _ _ r⟩
 | .lst _,v,h=>by obtain⟨a,vs,e,q,n,r⟩:=h;exact⟨a,_,e,(x.lst q n.1).1,⟨(x.lst q n.1).2,n.2⟩,aj.mono x _ _ r⟩
 | .scr _,v,h=>by obtain⟨a,vs,e,q,r⟩:=h;exact⟨a,_,e,x.frz q,aj.mono x _ _ r⟩
 | .ref n,v,h=>by obtain⟨a,e,q⟩:=h;exact⟨a,e,x.get q⟩
 | .fn y,v,h=>h
 | .ty y,v,h=>h
 | .dct,v,h=>by obtain⟨a,e,q⟩:=h;exact⟨a,e,x.keep _ _ q (.inl λ_ z=>by lia)⟩
 | .dks _,v,h=>by obtain⟨a,C,e,q,n,r,k⟩:=h;exact⟨a,_,e,x.keep _ _ q (.inl λ_ z=>by lia),n,r,λc b=>x.sqT (k c b)⟩
theorem aj.mono(x:Ext μ H μ' H'):∀(ds:List D) (vs:List V),aj K mg μ H ds vs->aj K mg μ' H' ds vs
 | [],vs,h=>h
 |d::ds,vs,h=>by obtain⟨w,W,e,r,q⟩:=h;exact⟨w,_,e,Rep.mono x d w r,aj.mono x _ _ q⟩
end
theorem aj.length:∀{ds:List D} {vs:List V},aj K mg μ H ds vs->ds.length=vs.length
 | [],vs,h=>by subst h;rfl
 |d::ds,vs,h=>by obtain⟨w,W,rfl,r,q⟩:=h;simp[aj.length q]
theorem aj.get:∀{ds:List D} {vs:List V} {i:Nat} {d:D},aj K mg μ H ds vs->ds[i]?=some d->∃v,vs[i]?=some v/\Rep K mg μ H d v
 | [],vs,i,d,h,e=>by simp_all
 |c::ds,vs,i,d,h,e=>by
  obtain⟨w,W,rfl,r,q⟩:=h;cases i with
  |zero=>simp_all
  |succ i=>simpa using aj.get q (by simp_all)
theorem aj.of:∀{ds:List D} {vs:List V},ds.length=vs.length->(∀(i:Nat) d v,ds[i]?=some d->vs[i]?=some v->Rep K mg μ H d v)->aj K mg μ H ds vs
 | [],[],_,_=>rfl
 | [],_::_,h,_=>by simp_all
 |_::_,[],h,_=>by simp_all
 |d::ds,v::vs,h,k=>by exact⟨v,_,rfl,k 0 d v rfl rfl,aj.of (by simp_all) λi a e b c=>k (i+1) _ _ (by simp_all) (by simp_all)⟩
theorem aj.nil:aj K mg μ H [] []:=rfl
theorem aj.cons{d:D}{ds:List D}{vs:List V}(h:Rep K mg μ H d v)(t:aj K mg μ H ds vs):aj K mg μ H (d::ds) (v::vs):=by unfold aj;lia
theorem aj.uncons{d:D}{ds:List D}{vs:List V}(h:aj K mg μ H (d::ds) vs):∃v w,vs=v::w/\Rep K mg μ H d v/\aj K mg μ H ds w:=by exact h
theorem aj.append:∀{ds es:List D} {vs w:List V},aj K mg μ H ds vs->aj K mg μ H es w->aj K mg μ H (ds++es) (vs++w)
 | [],es,vs,w,h,k=>by subst h;exact k
 |d::ds,es,vs,w,h,k=>by obtain⟨v,u,rfl,r,q⟩:=h.uncons;exact .cons r (aj.append q k)
theorem aj.take:∀{ds:List D} {vs:List V} (n:Nat),aj K mg μ H ds vs->aj K mg μ H (ds.take n) (vs.take n)
 | [],vs,n,h=>by subst h;simpa using aj.nil
 |d::ds,vs,0,h=>rfl
 |d::ds,vs,n+1,h=>by obtain⟨v,u,rfl,r,q⟩:=h.uncons;exact .cons r (aj.take n q)
theorem aj.drop:∀{ds:List D} {vs:List V} (n:Nat),aj K mg μ H ds vs->aj K mg μ H (ds.drop n) (vs.drop n)
 | [],vs,n,h=>by subst h;simpa using aj.nil
 |d::ds,vs,0,h=>h
 |d::ds,vs,n+1,h=>by obtain⟨v,u,rfl,r,q⟩:=h.uncons;exact aj.drop n q
theorem aj.set:∀{ds:List D} {vs:List V} (i:Nat) {d:D} {v:V},aj K mg μ H ds vs->Rep K mg μ H d v->aj K mg μ H (ds.set i d) (vs.set i v)
 | [],vs,i,_,_,h,_=>by subst h;rfl
 |d::ds,vs,0,_,_,h,k=>by obtain⟨v,u,rfl,r,q⟩:=h.uncons;exact .cons k q
 |d::ds,vs,i+1,_,_,h,k=>by obtain⟨v,u,rfl,r,q⟩:=h.uncons;exact .cons r (aj.set i q k)
theorem Ext.laid{p:Addr}{o:HO}(b:H p=none):Ext μ H μ (bg H p o):=
 ⟨⟨[],by simp⟩,λa u h _=>by rw[a_ (dC h b)];exact h,λa u h=>⟨u,by rw[a_ (dC h b)];exact h⟩,λ_ h=>.inl h⟩
theorem aQ.notin{S:aa}{p:Addr}(s:aQ K mg μ S H)(c:H p=none):p∉μ:=λz=>by
 obtain⟨n,b,e⟩:=Zy.mp z;have E:μ[n]?=some p:=by simp_all
 have a:S[n]?=some (S[n]'(by rw[<-s.len];exact b)):=Zj _;obtain⟨vs,h,_⟩:=s.at_ n p _ E a;simp_all
theorem aQ.notF{S:aa}{p:Addr}(s:aQ K mg μ S H)(a:H p=none):p∉mg.F:=λz=>by obtain⟨o,h⟩:=s.live p z;simp_all
theorem aQ.laid{S:aa}{p:Addr}{o:HO}(s:aQ K mg μ S H)(b:H p=none):aQ K mg μ S (bg H p o):=by refine⟨λa h=>(Ext.laid (μ:=μ) b).there a _ (s.live a h).choose_spec,s.len,s.nd,λn a D c d=>?_⟩;obtain⟨vs,h,r⟩:=s.at_ n a _ c d;exact⟨_,by rw[a_ (dC h b)];exact h,aj.mono (Ext.laid b) _ _ r⟩
theorem Ext.boxed{p:Addr}{o:HO}(b:H p=none):Ext μ H (μ++[p]) (bg H p o):=
 ⟨⟨_,rfl⟩,λa u h _=>by rw[a_ (dC h b)];exact h,λa u h=>⟨u,by rw[a_ (dC h b)];exact h⟩,λa h=>by
  grind⟩
theorem aQ.boxed{S:aa}{p:Addr}{ds:List D}{vs:List V}(s:aQ K mg μ S H)(c:H p=none)(r:aj K mg μ H ds vs):
  aQ K mg (μ++[p]) (S++[ds]) (bg H p (.lst vs)):=by
 have N:=s.notin c;refine⟨λa h=>(Ext.laid (μ:=μ) c).there a _ (s.live a h).choose_spec,by simp[s.len],?_,λn a i d e=>?_⟩
 ·rw[ZJ]
  exact⟨s.nd,by simp,λa j b k=>by
   grind⟩
 ·by_cases f:n<μ.length
  ·rw[Zw f]at d;rw[Zw (by rw[<-s.len];exact f)]at e;obtain⟨w,h,q⟩:=s.at_ n a _ d e;exact⟨_,by rw[a_ (dC h c)];exact h,aj.mono (Ext.boxed c) _ _ q⟩
  ·have g:=s.len
   have E:n=μ.length:=by
    grind
   subst E;simp[g]at d e;subst d;subst e;exact⟨_,dk,aj.mono (Ext.boxed c) _ _ r⟩
theorem Ext.wrote{xs:List V}{y:List V}(d:a∈μ)(h:H a=some (.lst xs)):Ext μ H μ (bg H a (.lst y)):=by
 refine⟨⟨[],by simp⟩,λb o e c=>?_,λb o e=>?_,λ_ h=>.inl h⟩
 ·have:b≠a:=by
   grind
  rw[a_ this];exact e
 ·by_cases z:b=a
  ·subst z;exact⟨_,dk⟩
  ·exact⟨o,by rw[a_ z];exact e⟩
theorem aQ.wrote{S:aa}{ds:List D}{xs vs:List V}(s:aQ K mg μ S H)(hn:μ[n]?=some a)(h:H a=some (.lst xs))(r:aj K mg μ H ds vs):
  aQ K mg μ (S.set n ds) (bg H a (.lst vs)):=by
 have ha:=ZC hn;have hl:=s.len;have hnl:n<S.length:=by have:=(Zp.mp hn).1;omega
 refine⟨λb hb=>(Ext.wrote ha h).there b _ (s.live b hb).choose_spec,by simp_all,s.nd,λm b es h1 h2=>?_⟩;by_cases e:m=n
 ·subst e;rw[hn]at h1;cases h1;rw[List.getElem?_set_self hnl]at h2;cases h2;exact⟨_,dk,aj.mono (Ext.wrote ha h) _ _ r⟩
 ·rw[List.getElem?_set_ne (Ne.symm e)]at h2;obtain⟨ws,q,r'⟩:=s.at_ m b _ h1 h2;have:b≠a:=by rintro rfl;exact e (L2_nodup s.nd h1 hn)
  exact⟨_,by rw[a_ this];exact q,aj.mono (Ext.wrote ha h) _ _ r'⟩
where
 L2_nodup {l:List _} (nd:l.Nodup) {i j:Nat} {x:Addr} (a:l[i]?=some x) (b:l[j]?=some x):i=j:=by obtain⟨h1,e1⟩:=Zp.mp a;obtain⟨h2,e2⟩:=Zp.mp b;exact(List.getElem_inj nd).mp (e1.trans e2.symm)
end
end Py
variable {xs ys ds:List Py.D}{T S S1 S' S2:Py.aa}{d W v8:Py.D}{Γ:Str->Option Py.D}{O:Addr->List Py.D->List L2.V->L2.HO->Prop}{x5 x6 x3 x2 x4 x0 x7:Option Py.D}
namespace Py
open PySem.Sem (wp)
open PySem.Builtin
end Py
namespace Py
structure Exc where
 cls:Str
 fs:List D
inductive Res (α:Type) where
 |ok (a:α) (S:aa)
 |err (x:Exc) (S:aa)
 |fail
abbrev bu:Nat:=16777216
theorem iC:sizeLine=bu:=sizeLine_eq
def aZ(K:Fg)(m:GS)(μ:La)(H:Hp)(Q:VK):Res D->Prop
 | .ok d S'=>∀μ' H' v,Ext μ H μ' H'->aQ K m μ' S' H'->Rep K m μ' H' d v->Q v H'
 |_=>False
section
variable {mg:GS}{Q:VK}
theorem aZ.now(w:aZ K mg μ H Q (.ok d S))(s:aQ K mg μ S H)(r:Rep K mg μ H d v):Q v H:=w _ H v .refl s r
theorem aZ.tup{vs:List V}(w:aZ K mg μ H Q (.ok (.tup ds) S))(s:aQ K mg μ S H)(r:aj K mg μ H ds vs)(p:Addr)(h:H p=none):Q (.ref p) (bg H p (.tup vs)):=
 w _ _ _ (.laid h) (s.laid h) (by exact⟨p,_,rfl,cf.of dk,aj.mono (.laid h) _ _ r⟩)
theorem aZ.lst{vs:List V}(w:aZ K mg μ H Q (.ok (.lst ds) S))(s:aQ K mg μ S H)(r:aj K mg μ H ds vs)(p:Addr)(h:H p=none):Q (.ref p) (bg H p (.lst vs)):=
 w _ _ _ (.laid h) (s.laid h) (by exact⟨p,_,rfl,dk,⟨s.notin h,s.notF h⟩,aj.mono (.laid h) _ _ r⟩)
theorem aZ.box{vs:List V}(w:aZ K mg μ H Q (.ok (.ref S.length) (S++[ds])))(s:aQ K mg μ S H)(r:aj K mg μ H ds vs)(p:Addr)(h:H p=none):Q (.ref p) (bg H p (.lst vs)):=
 w _ _ _ (.boxed h) (s.boxed h r) (by exact⟨p,rfl,by rw[ZS (by rw[s.len];simp_all),s.len];simp⟩)
theorem aZ.wrote{xs vs:List V}(w:aZ K mg μ H Q (.ok d (S.set n ds)))(s:aQ K mg μ S H)(b:μ[n]?=some a)(h:H a=some (.lst xs))(r:aj K mg μ H ds vs)
  (R:Rep K mg μ H d v):Q v (bg H a (.lst vs)):=
 w _ _ _ (.wrote (ZC b) h) (s.wrote b h r) (Rep.mono (.wrote (ZC b) h) _ _ R)
noncomputable def eH(S:aa):D->Option (List D)
 | .lst xs=>some xs
 | .ref n=>S[n]?
 |_=>none
noncomputable def av(S:aa):D->Option (List D)
 | .lst xs=>some xs
 | .ref n=>S[n]?
 | .tup xs=>some xs
 | .scr xs=>some xs
 |_=>none
theorem dH(s:aQ K mg μ S H)(r:Rep K mg μ H d v)(e:eH S d=some xs):∃a vs,v=.ref a/\H a=some (.lst vs)/\aj K mg μ H xs vs:=by
 cases d with
 |lst y=>
  cases e;unfold Rep at r
  grind
 |ref n=>obtain⟨a,E,h⟩:=r;obtain⟨vs,b,q⟩:=s.at_ n a _ h e;simp_all
 |_=>cases e
theorem e9(s:aQ K mg μ S H)(r:Rep K mg μ H d v)(e:av S d=some xs):∃a vs,v=.ref a/\(c6 K H a vs\/cf K H a vs)/\aj K mg μ H xs vs:=by
 cases d with
 |lst y=>obtain⟨a,vs,E,h,q⟩:=dH s r (show eH S (.lst y)=some xs from e);exact⟨a,vs,E,.inl (.of h),q⟩
 |ref n=>obtain⟨a,vs,E,h,q⟩:=dH s r (show eH S (.ref n)=some xs from e);exact⟨a,vs,E,.inl (.of h),q⟩
 |tup y=>unfold av at e;cases e;unfold Rep at r;obtain⟨a,vs,e,h,q⟩:=r;exact⟨a,vs,e,.inr h,q⟩
 |scr y=>unfold av at e;cases e;unfold Rep at r;obtain⟨a,vs,e,h,q⟩:=r;exact⟨a,vs,e,.inl h.sq,q⟩
 |_=>cases e
theorem aK{i:Int}(r:Rep K mg μ H (.int i) v):v=.int i:=by exact r
theorem fZ{i:Bool}(r:Rep K mg μ H (.bl i) v):v=.bl i:=by exact r
theorem f6{i:Str}(r:Rep K mg μ H (.str i) v):v=.str i:=by exact r
theorem gM(r:Rep K mg μ H .non v):v=.non:=by exact r
theorem b4(r:Rep K mg μ H (.tup ds) v):∃a vs,v=.ref a/\cf K H a vs/\aj K mg μ H ds vs:=by exact r
theorem bG{i:Int}:Rep K mg μ H (.int i) (.int i):=rfl
theorem cS{i:Bool}:Rep K mg μ H (.bl i) (.bl i):=rfl
theorem ju{i:Str}:Rep K mg μ H (.str i) (.str i):=rfl
theorem jv:Rep K mg μ H .non .non:=rfl
end
def rD(K:Fg)(m:Mg)(g:D->D->aa->Res D):R2:=λx y H Q=>∃F μ S d e,aQ K ⟨m,F⟩ μ S H/\Rep K ⟨m,F⟩ μ H d x/\Rep K ⟨m,F⟩ μ H e y/\aZ K ⟨m,F⟩ μ H Q (g d e S)
noncomputable def iD(d e:D)(S:aa):Res D:=match d,e with
 | .int i,.int j=>.ok (.int (i+j)) S
 | .str x,.str y=>if x.length+y.length<=bu then .ok (.str (x++y)) S else .fail
 | .tup a,.tup b=>if a.length+b.length<=bu then .ok (.tup (a++b)) S else .fail
 |d,e=>match eH S d,eH S e with
  |some a,some b=>if a.length+b.length<=bu then .ok (.lst (a++b)) S else .fail
  |_,_=>.fail
noncomputable def l8(d e:D)(S:aa):Res D:=match d,e with
 | .int i,.int j=>.ok (.int (i-j)) S
 |_,_=>.fail
noncomputable def rP(d e:D)(S:aa):Res D:=match d,e with
 | .int i,.int j=>if(-(2^64)<i/\i<2^64)\/(-(2^64)<j/\j<2^64)then .ok (.int (i*j)) S else if Builtin.Int.intBits i<=100000/\Builtin.Int.intBits j<=100000 then .ok (.int (i*j)) S else .fail
 | .lst a,.int k=>if-(2^63)<=k/\k<2^63/\a.length*k.toNat<=bu then .ok (.lst (List.replicate k.toNat a).flatten) S else .fail
 |_,_=>.fail
theorem Fs:c8 X (binaryOp .FloorDiv) (rI (λ_ j=>0<j/\j<2^100) λi j=>.int (i/j)):=vG λi j _ _ _ _ _ H q=>by
 refine floordiv_int (by omega) (by rw[Int.fdiv_eq_ediv_of_nonneg i (by omega)];exact q) (.inl (PyProof.noPylong_of_log2 ?_));have h:j.natAbs<2^100:=by omega
 exact Nat.lt_trans ((Nat.log2_lt (by omega)).mpr h) (by lia)
noncomputable def jw(d e:D)(S:aa):Res D:=match d,e with
 | .int i,.int j=>if 0<j/\j<1073741824 then .ok (.int (i/j)) S else if 0<j/\j<2^100 then .ok (.int (i/j)) S else .fail
 |_,_=>.fail
noncomputable def rQ(d e:D)(S:aa):Res D:=match d,e with
 | .int i,.int j=>if 0<j then .ok (.int (i%j)) S else .fail
 |_,_=>.fail
noncomputable def rR(d e:D)(S:aa):Res D:=match d,e with
 | .int i,.int j=>if 0<=j then .ok (.int (i/2^j.toNat)) S else .fail
 |_,_=>.fail
noncomputable def rS(d e:D)(S:aa):Res D:=match d,e with
 | .int i,.int j=>.ok (.int (Builtin.bitAnd i j)) S
 |_,_=>.fail
noncomputable def Ft(d e:D)(S:aa):Res D:=match d,e with
 | .int i,.int j=>.ok (.int (Builtin.bitOr i j)) S
 |_,_=>.fail
noncomputable def dy:Operator->D->D->aa->Res D
 | .Add=>iD| .Sub=>l8| .Mult=>rP| .FloorDiv=>jw| .Mod=>rQ| .Pow=>λ_ _ _=>.fail | .RShift=>rR| .LShift=>λ_ _ _=>.fail | .BitAnd=>rS| .BitOr=>Ft
 |_=>λ_ _ _=>.fail
theorem Fu{t b:Addr}{W:Lv}(k:IsTup s.heap t #[])(g:IsTup s.heap b W.toArray)
  (h1:Q (.ref b) s):wpAny (model prog w) A (binaryOp .Add (.ref t) (.ref b)) Q E s:=by
 obtain⟨⟨cls,l,D,sl⟩,e,i,n,j⟩:=id k;obtain⟨⟨c,f,d,S⟩,h,H,N,a⟩:=id g;subst i j H a
 exact concat_meets ⟨_,e,rfl⟩ ⟨_,h,rfl⟩ noFill_tuple_add seq_tuple_add PySem.F.slot_tuple_add PySem.F.entry_tuple_add (PySem.F.args_tuple_add_2 _ _)
   (tuple_addW0 t b _ _ n _ _ _ _ _ rfl) ⟨e,h,h1⟩
theorem Fv:c8 X (binaryOp .Add) (λx y H Q=>∃a b ys,x=.ref a/\y=.ref b/\cf X.K H a []/\cf X.K H b ys/\Q (.ref b) H):=by intro j s l H x y v u Q I R g h;obtain⟨a,b,ys,rfl,rfl,c,d,q⟩:=h;cases R;cases g;obtain⟨f,r,p,_⟩:=I.tuple c;obtain⟨i,k,P,_⟩:=I.tuple d;have e:=r.zero;subst e;exact Fu p P ⟨.ref b,H,I,rfl,q⟩
theorem l9:c8 X (binaryOp .Mult) (rI (λi j=>Builtin.Int.intBits i<=100000/\Builtin.Int.intBits j<=100000) λi j=>.int (i*j)):=vG λ_ _ _ _ _ _ _ h q=>PyProof.Rows.mul_int q (PySem.IntMulOk.of_le h.1 h.2 (by lia))
theorem Fw(O:Operator):c8 X (binaryOp O) (rD X.K X.mg (dy O)):=by
 intro P s g H x y v u Q I r R h;obtain⟨F,n,S,d,e,c,i,j,w⟩:=h;have G:=iC;cases O with
 |Add=>
  replace w:aZ X.K ⟨X.mg,F⟩ n H Q (iD d e S):=w;unfold iD at w;split at w
  ·have:=aK i;have:=aK j;subst x y
   exact q7 P s g H _ _ v u Q I r R ⟨_,_,rfl,rfl,w.now c bG⟩
  ·have:=f6 i;have:=f6 j;subst x y
   split at w
   ·exact EM P s g H _ _ v u Q I r R ⟨_,_,rfl,rfl,by omega,w.now c ju⟩
   ·exact w.elim
  ·split at w
   ·obtain⟨a,vs,rfl,o,q⟩:=b4 i;obtain⟨b,W,rfl,l,z⟩:=b4 j;have L:=q.length;have A:=z.length;cases vs with
    |nil=>refine Fv P s g H _ _ v u Q I r R ⟨a,b,W,rfl,rfl,o,l,?_⟩;rename_i as bs _;have:as=[]:=ZF (by simpa using L);subst this;exact w.now c j
    |cons v0 vs=>
     refine lX P s g H _ _ v u Q I r R ⟨a,b,v0::vs,W,rfl,rfl,o,l,by simp,by omega,?_,?_⟩
     ·intro C;subst C;rename_i as bs _;have:bs=[]:=ZF (by simpa using A);subst this;rw[Yc]at w;exact w.now c i
     ·intro _ p t;exact w.tup c (q.append z) p t
   ·exact w.elim
  ·split at w
   ·rename_i as bs E B;split at w
    ·obtain⟨a,vs,rfl,o,q⟩:=dH c i E;obtain⟨b,W,rfl,l,z⟩:=dH c j B;have L:=q.length;have A:=z.length;exact rK P s g H _ _ v u Q I r R ⟨a,b,vs,W,rfl,rfl,o,l,by omega,λp t=>w.lst c (q.append z) p t⟩
    ·exact w.elim
   ·exact w.elim
 |Sub=>
  replace w:aZ X.K ⟨X.mg,F⟩ n H Q (l8 d e S):=w;unfold l8 at w;split at w
  ·have:=aK i;have:=aK j;subst x y
   exact q8 P s g H _ _ v u Q I r R ⟨_,_,rfl,rfl,w.now c bG⟩
  ·exact w.elim
 |Mult=>
  replace w:aZ X.K ⟨X.mg,F⟩ n H Q (rP d e S):=w;unfold rP at w;split at w
  ·have:=aK i;have:=aK j;subst x y
   split at w
   ·rename_i f;exact q9 P s g H _ _ v u Q I r R ⟨_,_,rfl,rfl,f,w.now c bG⟩
   ·split at w
    ·rename_i f;exact l9 P s g H _ _ v u Q I r R ⟨_,_,rfl,rfl,f,w.now c bG⟩
    ·exact w.elim
  ·split at w
   ·rename_i as k f;obtain⟨a,vs,rfl,o,q⟩:=dH c i rfl;have:=aK j;subst y;have L:=q.length;refine jt P s g H _ _ v u Q I r R ⟨a,k,vs,rfl,rfl,o,f.1,f.2.1,by rw[<-L];omega,λp t=>w.lst c ?_ p t⟩;generalize k.toNat=m;clear f w
    induction m with
    |zero=>simpa using aj.nil
    |succ m D=>rw[List.replicate_succ,List.replicate_succ,List.flatten_cons,List.flatten_cons];exact q.append D
   ·exact w.elim
  ·exact w.elim
 |FloorDiv=>
  replace w:aZ X.K ⟨X.mg,F⟩ n H Q (jw d e S):=w;unfold jw at w;split at w
  ·have:=aK i;have:=aK j;subst x y
   split at w
   ·rename_i f;exact lJ P s g H _ _ v u Q I r R ⟨_,_,rfl,rfl,f,w.now c bG⟩
   ·split at w
    ·rename_i f;exact Fs P s g H _ _ v u Q I r R ⟨_,_,rfl,rfl,f,w.now c bG⟩
    ·exact w.elim
  ·exact w.elim
 |Mod=>
  replace w:aZ X.K ⟨X.mg,F⟩ n H Q (rQ d e S):=w;unfold rQ at w;split at w
  ·have:=aK i;have:=aK j;subst x y
   split at w
   ·rename_i f;exact q_ P s g H _ _ v u Q I r R ⟨_,_,rfl,rfl,f,w.now c bG⟩
   ·exact w.elim
  ·exact w.elim
 |Pow=>exact w.elim
 |RShift=>
  replace w:aZ X.K ⟨X.mg,F⟩ n H Q (rR d e S):=w;unfold rR at w;split at w
  ·have:=aK i;have:=aK j;subst x y
   split at w
   ·rename_i f;exact rc P s g H _ _ v u Q I r R ⟨_,_,rfl,rfl,f,w.now c bG⟩
   ·exact w.elim
  ·exact w.elim
 |LShift=>exact w.elim
 |BitAnd=>
  replace w:aZ X.K ⟨X.mg,F⟩ n H Q (rS d e S):=w;unfold rS at w;split at w
  ·have:=aK i;have:=aK j;subst x y
   exact rf P s g H _ _ v u Q I r R ⟨_,_,rfl,rfl,w.now c bG⟩
  ·exact w.elim
 |BitOr=>
  replace w:aZ X.K ⟨X.mg,F⟩ n H Q (Ft d e S):=w;unfold Ft at w;split at w
  ·have:=aK i;have:=aK j;subst x y
   exact wf P s g H _ _ v u Q I r R ⟨_,_,rfl,rfl,w.now c bG⟩
  ·exact w.elim
 |_=>exact w.elim
noncomputable def ie(d e:D)(S:aa):Res D:=match d,e with
 | .lst a,.int k=>if-(2^63)<=k/\k<2^63/\a.length*k.toNat<=bu then .ok (.ref S.length) (S++[(List.replicate k.toNat a).flatten])else .fail
 |_,_=>.fail
theorem wQ:c8 X (binaryOp .Mult) (rD X.K X.mg ie):=by
 intro P s t H x y v u Q I R j h;obtain⟨F,o,S,d,e,c,r,n,w⟩:=h;have l:=iC;unfold ie at w;split at w
 ·split at w
  ·rename_i as k b;obtain⟨a,vs,rfl,f,q⟩:=dH c r rfl;subst y;have L:=q.length;refine jt _ s _ H _ _ v u Q I R j ⟨a,k,_,rfl,rfl,f,b.1,b.2.1,by lia,λp g=>w.box c ?_ p g⟩;generalize k.toNat=m
   induction m with
   |zero=>rfl
   |succ m i=>exact q.append i
  ·exact w.elim
 ·exact w.elim
end Py
variable {φ:List Py.D->Py.aa->Py.Res Py.D}
namespace Py
inductive Sh where
 |non|bl (b:Bool)|int (i:Int)|str (x:Str)|tup (xs:List D)|lst (xs:List D)
noncomputable def sh(S:aa):D->Option Sh
 | .non=>some .non
 | .bl b=>some (.bl b)
 | .int i=>some (.int i)
 | .str x=>some (.str x)
 | .tup xs=>some (.tup xs)
 | .lst xs=>some (.lst xs)
 | .ref n=>(S[n]?).map .lst
 |_=>none
noncomputable def bv:List (Option Bool)->Option Bool
 | []=>some true
 |o::r=>match o,bv r with
  |some b,some c=>some (b&&c)
  |_,_=>none
noncomputable def rT(f:D->D->Option Bool):Sh->Sh->Option Bool
 | .non,.non=>some true
 | .bl a,.bl b=>some (a==b)
 | .int a,.int b=>some (a==b)
 | .str a,.str b=>some (a==b)
 | .bl a,.int b=>some ((if a then 1 else 0)==b)
 | .int a,.bl b=>some (a==(if b then 1 else 0))
 | .tup a,.tup b=>(bv (List.zipWith f a b)).map (· &&a.length==b.length)
 | .lst a,.lst b=>if a.length=b.length then bv (List.zipWith f a b)else some false
 |_,_=>some false
noncomputable def cF(S:aa):Nat->D->D->Option Bool
 |0,_,_=>none
 |n+1,d,e=>match sh S d,sh S e with
  |some x,some y=>rT (cF S n) x y
  |_,_=>none
noncomputable def eJ(l:List (Option Bool))(j:Nat):Bool:=match l[j]? with
 |some (some b)=>b
 |_=>true
theorem l_:∀(l:List (Option Bool)) (k:Bool),bv l=some k->(∀(j:Nat) o,l[j]?=some o->o=some (eJ l j))/\k=(List.range l.length).all (eJ l)
 | [],k,h=>by unfold bv at h;simp_all
 |o::r,k,h=>by
  unfold bv at h;split at h
  ·rename_i b c a;cases h;obtain⟨H,d⟩:=l_ r c a;refine⟨λj o e=>?_,?_⟩
   ·cases j with
    |zero=>simp at e;subst e;simp[eJ]
    |succ j=>
     have E:=by simpa using e
     rw[H j o E];simp[eJ]
   ·rw[ZO,List.range_succ_eq_map,List.all_cons,List.all_map,d];rfl
  ·cases h
section
def rV(K:Fg)(m:GS)(μ:La)(H:Hp)(s:Shared)(u:Value):Sh->Prop
 | .non=>u=.none
 | .bl b=>u=.bool b
 | .int i=>∃t,u=.int i t
 | .str x=>∃t,u=.str x t
 | .tup ds=>∃a its vs,u=.ref a/\s.heap.IsTuple a its.toArray/\Vals vs its/\aj K m μ H ds vs
 | .lst ds=>∃a its vs,u=.ref a/\s.heap.IsList a its.toArray/\Vals vs its/\aj K m μ H ds vs
theorem l'(I:Inv X pq σ H s)(c:aQ X.K ⟨X.mg,F⟩ μ S H){x:Sh}(r:Rep X.K ⟨X.mg,F⟩ μ H d v)(q:RelV v u)(e:sh S d=some x):rV X.K ⟨X.mg,F⟩ μ H s u x:=by
 cases d with
 |non=>cases e;cases gM r;exact q
 |bl b=>cases e;cases fZ r;exact q
 |int b=>cases e;cases aK r;exact q
 |str b=>cases e;cases f6 r;exact q
 |tup f=>cases e;obtain⟨a,vs,rfl,h,k⟩:=b4 r;cases q;obtain⟨i,R,p,_⟩:=I.tuple h;exact⟨a,_,_,rfl,p,R,k⟩
 |lst f=>cases e;obtain⟨a,vs,rfl,h,k⟩:=dH c r rfl;cases q;obtain⟨i,R,p,_⟩:=I.list (.of h);exact⟨a,_,_,rfl,p.isList,R,k⟩
 |ref n=>
  replace e:S[n]?.map _=some x:=e;cases E:S[n]? with
  |none=>simp_all
  |some f=>rw[E]at e;cases e;obtain⟨a,vs,rfl,h,k⟩:=dH c r E;cases q;obtain⟨i,R,p,_⟩:=I.list (.of h);exact⟨a,_,_,rfl,p.isList,R,k⟩
 |_=>cases e
def jx(A:Around)(s:Shared)(f:D->D->Option Bool)(K:Fg)(m:GS)(μ:La)(H:Hp):Prop:=
 ∀d e v w u z k,Rep K m μ H d v->RelV v u->Rep K m μ H e w->RelV w z->f d e=some k->SeqAt.EqAt A s u z k
theorem wR{f:D->D->Option Bool}{m:GS}(F:jx A s f K m μ H){es:List D}{vs W:List V}{Z:Lv}(r:aj K m μ H ds vs)(q:Vals vs us)(R:aj K m μ H es W)(Q:Vals W Z){k:Bool}
  (h:bv (List.zipWith f ds es)=some k):∀j (h1:j<us.toArray.size) (h2:j<Z.toArray.size),SeqAt.EqAt A s us.toArray[j] Z.toArray[j] (eJ (List.zipWith f ds es) j):=by
 intro j h1 h2;have L:=r.length;have x:=R.length;have y:=q.length;have G:=Q.length
 have l:=by simpa using h1
 have n:=by simpa using h2
 have a:ds[j]?=some (ds[j]'(by omega)):=Zj _;have b:es[j]?=some (es[j]'(by omega)):=Zj _;obtain⟨v,B,C⟩:=r.get a;obtain⟨w,c,d⟩:=R.get b;obtain⟨u,p,e⟩:=q.get B;obtain⟨z,t,g⟩:=Q.get c;have E:us.toArray[j]=u:=by simp_all
 have i:Z.toArray[j]=z:=by simp_all
 rw[E,i];have o:(List.zipWith f ds es)[j]?=some (f (ds[j]'(by omega)) (es[j]'(by omega))):=by rw[List.getElem?_zipWith,a,b]
 exact F _ _ v w u z _ C e d g ((l_ _ _ h).1 j _ o)
theorem wS{f:D->D->Option Bool}{es:List D}{k:Bool}(h:bv (List.zipWith f ds es)=some k)(m:Nat)(H:m=min ds.length es.length):(List.range m).all (eJ (List.zipWith f ds es))=k:=by have:=(l_ _ _ h).2;simp_all
open PySem.SeqAt
theorem MN{M:GS}{f:D->D->Option Bool}(F:jx A.in1 s f K M μ H)(c:A.units<cLine){z:Value}:∀{x y:Sh} {k:Bool},rV K M μ H s u x->rV K M μ H s z y->rT f x y=some k->
  RcAt A s u z k/\RcNeAt A s u z (!k):=by
 intro x y k j d h;cases x with
 |non=>
  cases j;cases y with
  |non=>cases d;cases h;exact⟨RcAt.none_none,RcNeAt.none_none⟩
  |bl b=>cases d;cases h;exact⟨RcAt.none_bool b,RcNeAt.none_bool b⟩
  |int b=>obtain⟨t,rfl⟩:=d;cases h;exact⟨RcAt.none_int b t,RcNeAt.none_int b t⟩
  |str b=>obtain⟨t,rfl⟩:=d;cases h;exact⟨RcAt.none_str b t,RcNeAt.none_str b t⟩
  |tup b=>obtain⟨a,e,vs,rfl,p,_⟩:=d;cases h;exact⟨RcAt.none_tuple p c,RcNeAt.none_tuple p c⟩
  |lst b=>obtain⟨a,e,vs,rfl,p,_⟩:=d;cases h;exact⟨RcAt.none_list p c,RcNeAt.none_list p c⟩
 |bl a=>
  cases j;cases y with
  |non=>cases d;cases h;exact⟨RcAt.bool_none a,RcNeAt.bool_none a⟩
  |bl b=>cases d;cases h;exact⟨RcAt.bool_bool a b,RcNeAt.bool_bool a b⟩
  |int b=>obtain⟨t,rfl⟩:=d;cases h;exact⟨RcAt.bool_int a b t,RcNeAt.bool_int a b t⟩
  |str b=>obtain⟨t,rfl⟩:=d;cases h;exact⟨RcAt.bool_str a b t,RcNeAt.bool_str a b t⟩
  |tup b=>obtain⟨_,e,vs,rfl,p,_⟩:=d;cases h;exact⟨RcAt.bool_tuple a p c,RcNeAt.bool_tuple a p c⟩
  |lst b=>obtain⟨_,e,vs,rfl,p,_⟩:=d;cases h;exact⟨RcAt.bool_list a p c,RcNeAt.bool_list a p c⟩
 |int a=>
  obtain⟨T,rfl⟩:=j;cases y with
  |non=>cases d;cases h;exact⟨RcAt.int_none a T,RcNeAt.int_none a T⟩
  |bl b=>cases d;cases h;exact⟨RcAt.int_bool a T b,RcNeAt.int_bool a T b⟩
  |int b=>obtain⟨t,rfl⟩:=d;cases h;exact⟨RcAt.int_int a T b t,RcNeAt.int_int a T b t⟩
  |str b=>obtain⟨t,rfl⟩:=d;cases h;exact⟨RcAt.int_str a T b t,RcNeAt.int_str a T b t⟩
  |tup b=>obtain⟨_,e,vs,rfl,p,_⟩:=d;cases h;exact⟨RcAt.int_tuple a T p c,RcNeAt.int_tuple a T p c⟩
  |lst b=>obtain⟨_,e,vs,rfl,p,_⟩:=d;cases h;exact⟨RcAt.int_list a T p c,RcNeAt.int_list a T p c⟩
 |str a=>
  obtain⟨T,rfl⟩:=j;cases y with
  |non=>cases d;cases h;exact⟨RcAt.str_none a T,RcNeAt.str_none a T⟩
  |bl b=>cases d;cases h;exact⟨RcAt.str_bool a T b,RcNeAt.str_bool a T b⟩
  |int b=>obtain⟨t,rfl⟩:=d;cases h;exact⟨RcAt.str_int a T b t,RcNeAt.str_int a T b t⟩
  |str b=>obtain⟨t,rfl⟩:=d;cases h;exact⟨RcAt.str_str a T b t,RcNeAt.str_str a T b t⟩
  |tup b=>obtain⟨_,e,vs,rfl,p,_⟩:=d;cases h;exact⟨RcAt.str_tuple a T p c,RcNeAt.str_tuple a T p c⟩
  |lst b=>obtain⟨_,e,vs,rfl,p,_⟩:=d;cases h;exact⟨RcAt.str_list a T p c,RcNeAt.str_list a T p c⟩
 |tup a=>
  obtain⟨G,I,V,rfl,P,q,r⟩:=j;cases y with
  |non=>cases d;cases h;exact⟨RcAt.tuple_none P c,RcNeAt.tuple_none P c⟩
  |bl b=>cases d;cases h;exact⟨RcAt.tuple_bool b P c,RcNeAt.tuple_bool b P c⟩
  |int b=>obtain⟨t,rfl⟩:=d;cases h;exact⟨RcAt.tuple_int b t P c,RcNeAt.tuple_int b t P c⟩
  |str b=>obtain⟨t,rfl⟩:=d;cases h;exact⟨RcAt.tuple_str b t P c,RcNeAt.tuple_str b t P c⟩
  |tup b=>
   obtain⟨o,i,v,rfl,g,Q,R⟩:=d;replace h:(bv (List.zipWith f a b)).map (· &&a.length==b.length)=some k:=h;obtain⟨O,C,J⟩:=Option.map_eq_some_iff.mp h;have m:=wR F r q R Q C;have L:=r.length;have w:=R.length;have n:=q.length;have B:=Q.length
   have E:k=((List.range (min I.toArray.size i.toArray.size)).all (eJ (List.zipWith f a b))&&I.toArray.size==i.toArray.size):=by rw[<-J,wS C _ (by rw[Zv,Zv,<-n,<-B,<-L,<-w]),Zv,Zv,<-n,<-B,<-L,<-w]
   rw[E];exact⟨RcAt.tuples P g c m,RcNeAt.tuples P g c m⟩
  |lst b=>obtain⟨o,i,v,rfl,g,_⟩:=d;cases h;exact⟨RcAt.tuple_list P g c,RcNeAt.tuple_list P g c⟩
 |lst a=>
  obtain⟨G,I,V,rfl,P,q,r⟩:=j;cases y with
  |non=>cases d;cases h;exact⟨RcAt.list_none P c,RcNeAt.list_none P c⟩
  |bl b=>cases d;cases h;exact⟨RcAt.list_bool b P c,RcNeAt.list_bool b P c⟩
  |int b=>obtain⟨t,rfl⟩:=d;cases h;exact⟨RcAt.list_int b t P c,RcNeAt.list_int b t P c⟩
  |str b=>obtain⟨t,rfl⟩:=d;cases h;exact⟨RcAt.list_str b t P c,RcNeAt.list_str b t P c⟩
  |tup b=>obtain⟨o,i,v,rfl,g,_⟩:=d;cases h;exact⟨RcAt.list_tuple P g c,RcNeAt.list_tuple P g c⟩
  |lst b=>
   obtain⟨o,i,v,rfl,g,Q,R⟩:=d;have L:=r.length;have w:=R.length;have n:=q.length;have B:=Q.length
   replace h:(if a.length=b.length then bv (List.zipWith f a b)else some false)=some k:=h;split at h
   ·rename_i N;have m:=wR F r q R Q h
    have E:k=(List.range I.toArray.size).all (eJ (List.zipWith f a b)):=by rw[wS h _ (by rw[Zv,<-n,<-L];omega)]
    rw[E];have l:I.toArray.size=i.toArray.size:=by rw[Zv,Zv];omega
    exact⟨RcAt.lists P g l c m,RcNeAt.lists P g l c m⟩
   ·rename_i N;cases h;have l:(I.toArray.size !=i.toArray.size)=true:=by rw[Zv,Zv];simp;omega
    exact⟨RcAt.lists_lengths P g l c,RcNeAt.lists_lengths P g l c⟩
theorem wT(I:Inv X pq σ H s)(sk:aQ X.K ⟨X.mg,F⟩ μ S H):∀(n:Nat) (d e:D) (v:V) (k:Bool),Rep X.K ⟨X.mg,F⟩ μ H d v->Rep X.K ⟨X.mg,F⟩ μ H e v->cF S n d e=some k->k=true:=by
 intro n
 induction n with
 |zero=>intro d e v k _ _ h;cases h
 |succ n ih=>
  intro d e v k rd re h
  have L:∀(p E:List D) (vs:List V) (k:Bool),aj X.K ⟨X.mg,F⟩ μ H p vs->aj X.K ⟨X.mg,F⟩ μ H E vs->bv (List.zipWith (cF S n) p E)=some k->k=true:=by
   intro p
   induction p with
   |nil=>intro E vs k _ _ h;cases h;rfl
   |cons d p Z=>
    intro E vs k R r h;obtain⟨v,W,rfl,T,b1⟩:=R.uncons;cases E with
    |nil=>cases h;rfl
    |cons e E=>
     obtain⟨v',ws',q,G,b2⟩:=r.uncons;cases q;rw[List.zipWith_cons_cons]at h;unfold bv at h;split at h
     ·rename_i x y q K;cases h;rw[ih d e v x T G q,Z E W y b1 b2 K];rfl
     ·cases h
  unfold cF at h;cases q:sh S d with
  |none=>rw[q]at h;cases h
  |some x=>
   cases K:sh S e with
   |none=>rw[q,K]at h;cases h
   |some y=>
    rw[q,K]at h;replace h:rT (cF S n) x y=some k:=h
    obtain⟨u,ru⟩:∃u,RelV v u:=by
     cases v with
     |non=>exact⟨_,rfl⟩
     |bl b=>exact⟨_,rfl⟩
     |int i=>exact⟨.int i 0,0,rfl⟩
     |str x=>exact⟨.str x 0,0,rfl⟩
     |byt x=>exact⟨.bytes x 0,0,rfl⟩
     |flt x=>exact⟨.float x 0,0,rfl⟩
     |ref a=>exact⟨_,rfl⟩
     |ty n=>exact⟨_,rfl⟩
    have C:=l' I sk rd ru q;have f:=l' I sk re ru K
    have len:∀{p E:List D} {vs W:List V} {us:Lv},aj X.K ⟨X.mg,F⟩ μ H p vs->Vals vs us->aj X.K ⟨X.mg,F⟩ μ H E W->Vals W us->vs=W/\p.length=E.length:=λR O r Q=>by have:=O.inj Q;subst this;exact⟨rfl,R.length.trans r.length.symm⟩
    cases x with
    |non=>
     cases C;cases y with
     |non=>cases h;rfl
     |bl b=>cases f
     |int b=>obtain⟨t,z⟩:=f;cases z
     |str b=>obtain⟨t,z⟩:=f;cases z
     |tup b=>obtain⟨_,_,_,z,_⟩:=f;cases z
     |lst b=>obtain⟨_,_,_,z,_⟩:=f;cases z
    |bl a=>
     cases C;cases y with
     |non=>cases f
     |bl b=>cases f;cases h;simp
     |int b=>obtain⟨t,z⟩:=f;cases z
     |str b=>obtain⟨t,z⟩:=f;cases z
     |tup b=>obtain⟨_,_,_,z,_⟩:=f;cases z
     |lst b=>obtain⟨_,_,_,z,_⟩:=f;cases z
    |int a=>
     obtain⟨t',rfl⟩:=C;cases y with
     |non=>cases f
     |bl b=>cases f
     |int b=>obtain⟨t,z⟩:=f;cases z;cases h;simp
     |str b=>obtain⟨t,z⟩:=f;cases z
     |tup b=>obtain⟨_,_,_,z,_⟩:=f;cases z
     |lst b=>obtain⟨_,_,_,z,_⟩:=f;cases z
    |str a=>
     obtain⟨t',rfl⟩:=C;cases y with
     |non=>cases f
     |bl b=>cases f
     |int b=>obtain⟨t,z⟩:=f;cases z
     |str b=>obtain⟨t,z⟩:=f;cases z;cases h;simp
     |tup b=>obtain⟨_,_,_,z,_⟩:=f;cases z
     |lst b=>obtain⟨_,_,_,z,_⟩:=f;cases z
    |tup a=>
     obtain⟨T,m,A,rfl,N,O,R⟩:=C;cases y with
     |non=>cases f
     |bl b=>cases f
     |int b=>obtain⟨t,z⟩:=f;cases z
     |str b=>obtain⟨t,z⟩:=f;cases z
     |tup b=>
      obtain⟨G,j,B,z,P,Q,r⟩:=f;cases z
      have U:m=j:=by
       obtain⟨o,w,_,n,M⟩:=N;obtain⟨o',g,_,n',l⟩:=P;rw[w]at g;cases g;rw[M]at l;injection l with z _
       simpa using congrArg Array.toList z
      subst U;obtain⟨rfl,Y⟩:=len R O r Q;replace h:(bv (List.zipWith (cF S n) a b)).map (· &&a.length==b.length)=some k:=h;obtain⟨k1,e3,e4⟩:=Option.map_eq_some_iff.mp h;rw[<-e4,L a b A k1 R r e3,Y];simp
     |lst b=>obtain⟨G,j,B,z,P,Q,r⟩:=f;cases z;obtain⟨o,w,c,n,M⟩:=N;obtain⟨o',g,J,n',l⟩:=P;rw[w]at g;cases g;rw[c]at J;exact absurd J (by decide)
    |lst a=>
     obtain⟨T,m,A,rfl,N,O,R⟩:=C;cases y with
     |non=>cases f
     |bl b=>cases f
     |int b=>obtain⟨t,z⟩:=f;cases z
     |str b=>obtain⟨t,z⟩:=f;cases z
     |tup b=>obtain⟨G,j,B,z,P,Q,r⟩:=f;cases z;obtain⟨o,w,c,n,M⟩:=N;obtain⟨o',g,J,n',l⟩:=P;rw[w]at g;cases g;rw[c]at J;exact absurd J (by decide)
     |lst b=>
      obtain⟨G,j,B,z,P,Q,r⟩:=f;cases z
      have U:m=j:=by
       obtain⟨o,w,_,n,M⟩:=N;obtain⟨o',g,_,n',l⟩:=P;rw[w]at g;cases g;rw[M]at l;injection l with z _
       simpa using congrArg Array.toList z
      subst U;obtain⟨rfl,Y⟩:=len R O r Q;replace h:(if a.length=b.length then bv (List.zipWith (cF S n) a b)else some false)=some k:=h;rw[if_pos Y]at h;exact L a b A k R r h
theorem vI(I:Inv X pq σ H s)(G:aQ X.K ⟨X.mg,F⟩ μ S H):∀(n:Nat) (A:Around),A.units+n<cLine->∀d e v w u z k,Rep X.K ⟨X.mg,F⟩ μ H d v->RelV v u->Rep X.K ⟨X.mg,F⟩ μ H e w->RelV w z->cF S n d e=some k->
  RcAt A s u z k/\RcNeAt A s u z (!k)/\EqAt A s u z k:=by
 intro n
 induction n with
 |zero=>intro A _ d e v w u z k _ _ _ _ h;cases h
 |succ n Z=>
  intro A hA d e v w u z k L R M B h;have o:=λ(D:v=w)=>wT I G (n+1) d e v k L (D▸M) h;unfold cF at h;cases E:sh S d with
  |none=>rw[E]at h;cases h
  |some x=>
   cases C:sh S e with
   |none=>rw[E,C]at h;cases h
   |some y=>
    rw[E,C]at h;replace h:rT (cF S n) x y=some k:=h;have j:=l' I G L R E;have f:=l' I G M B C;have Y:A.in1.units=A.units+1:=rfl;have F:jx A.in1 s (cF S n) X.K ⟨X.mg,F⟩ μ H:=λd e v w u z k a b c Q h=>(Z A.in1 (by omega) d e v w u z k a b c Q h).2.2;obtain⟨J,O⟩:=MN F (by omega) j f h;refine⟨J,O,?_⟩
    have r:∀{l b:Addr},u=.ref l->z=.ref b->EqAt A s u z k:=λ{l b} U W=>by
     subst U;subst W;by_cases K:l=b
     ·subst K
      have D:v=w:=by
       cases v<;>first| (cases R;done)|skip
       all_goals first| (obtain⟨_,q⟩:=R;cases q;done)|skip
       cases w<;>first| (cases B;done)|skip
       all_goals first| (obtain⟨_,q⟩:=B;cases q;done)|skip
       cases R;cases B;rfl
      rw[o D];exact EqAt.same _
     ·exact .of_refs K J
    have g:A.units<cLine:=by omega
    cases x with
    |non=>
     cases j;cases y with
     |non=>cases f;cases h;exact EqAt.same _
     |bl b=>cases f;cases h;exact EqAt.none_bool b
     |int b=>obtain⟨t,rfl⟩:=f;cases h;exact EqAt.none_int b t
     |str b=>obtain⟨t,rfl⟩:=f;cases h;exact EqAt.none_str b t
     |tup b=>obtain⟨a,i,vs,rfl,p,_⟩:=f;cases h;exact EqAt.none_tuple p g
     |lst b=>obtain⟨a,i,vs,rfl,p,_⟩:=f;cases h;exact EqAt.none_list p g
    |bl a=>
     cases j;cases y with
     |non=>cases f;cases h;exact EqAt.bool_none a
     |bl b=>cases f;cases h;exact EqAt.bool_bool a b
     |int b=>obtain⟨t,rfl⟩:=f;cases h;exact EqAt.bool_int a b t
     |str b=>obtain⟨t,rfl⟩:=f;cases h;exact EqAt.bool_str a b t
     |tup b=>obtain⟨_,i,vs,rfl,p,_⟩:=f;cases h;exact EqAt.bool_tuple a p g
     |lst b=>obtain⟨_,i,vs,rfl,p,_⟩:=f;cases h;exact EqAt.bool_list a p g
    |int a=>
     obtain⟨T,rfl⟩:=j;cases y with
     |non=>cases f;cases h;exact EqAt.int_none a T
     |bl b=>cases f;cases h;exact EqAt.int_bool a T b
     |int b=>obtain⟨t,rfl⟩:=f;cases h;exact EqAt.int_int a T b t
     |str b=>obtain⟨t,rfl⟩:=f;cases h;exact EqAt.int_str a T b t
     |tup b=>obtain⟨_,i,vs,rfl,p,_⟩:=f;cases h;exact EqAt.int_tuple a T p g
     |lst b=>obtain⟨_,i,vs,rfl,p,_⟩:=f;cases h;exact EqAt.int_list a T p g
    |str a=>
     obtain⟨T,rfl⟩:=j;cases y with
     |non=>cases f;cases h;exact EqAt.str_none a T
     |bl b=>cases f;cases h;exact EqAt.str_bool a T b
     |int b=>obtain⟨t,rfl⟩:=f;cases h;exact EqAt.str_int a T b t
     |str b=>obtain⟨t,rfl⟩:=f;cases h;exact EqAt.str_str a T b t
     |tup b=>obtain⟨_,i,vs,rfl,p,_⟩:=f;cases h;exact EqAt.str_tuple a T p g
     |lst b=>obtain⟨_,i,vs,rfl,p,_⟩:=f;cases h;exact EqAt.str_list a T p g
    |tup a=>
     obtain⟨N,m,V,rfl,P,_⟩:=j;cases y with
     |non=>cases f;cases h;exact EqAt.tuple_none P g
     |bl b=>cases f;cases h;exact EqAt.tuple_bool b P g
     |int b=>obtain⟨t,rfl⟩:=f;cases h;exact EqAt.tuple_int b t P g
     |str b=>obtain⟨t,rfl⟩:=f;cases h;exact EqAt.tuple_str b t P g
     |tup b=>obtain⟨_,i,vs,rfl,p,_⟩:=f;exact r rfl rfl
     |lst b=>obtain⟨_,i,vs,rfl,p,_⟩:=f;exact r rfl rfl
    |lst a=>
     obtain⟨N,m,V,rfl,P,_⟩:=j;cases y with
     |non=>cases f;cases h;exact EqAt.list_none P g
     |bl b=>cases f;cases h;exact EqAt.list_bool b P g
     |int b=>obtain⟨t,rfl⟩:=f;cases h;exact EqAt.list_int b t P g
     |str b=>obtain⟨t,rfl⟩:=f;cases h;exact EqAt.list_str b t P g
     |tup b=>obtain⟨_,i,vs,rfl,p,_⟩:=f;exact r rfl rfl
     |lst b=>obtain⟨_,i,vs,rfl,p,_⟩:=f;exact r rfl rfl
end
noncomputable def vJ(eq lt:D->D->Option Bool):List D->List D->Option Bool
 | [],[]=>some false
 | [],_::_=>some true
 |_::_,[]=>some false
 |a::as,b::bs=>match eq a b with
  |some true=>vJ eq lt as bs
  |some false=>lt a b
  |none=>none
noncomputable def jy(S:aa):Nat->D->D->Option Bool
 |0,_,_=>none
 |n+1,.int a,.int b=>some (decide (a<b))
 |n+1,.tup a,.tup b=>vJ (cF S n) (jy S n) a b
 |_,_,_=>none
open PySem.SeqAt
def f7(A:Around)(s:Shared)(y x:Value)(b:Bool):Prop:=
 ∀(prog:Program) (w:World) (E:Vs) (Q:Vs),Q (.bool b) s->wpAny (model prog w) A (richCompare .Lt y x) Q E s
inductive cG (A:Around)(s:Shared):Lv->Lv->Bool->Prop where
 |nn:cG A s [] [] false
 |nc {w ws}:cG A s [] (w::ws) true
 |cn {v vs}:cG A s (v::vs) [] false
 |eq {v w vs ws k}:EqAt A s v w true->cG A s vs ws k->cG A s (v::vs) (w::ws) k
 |lt {v w vs ws k}:EqAt A s v w false->f7 A s v w k->cG A s (v::vs) (w::ws) k
section
open PySem.AutoSeq1 (wpAny_loadPart')
open PySem.MeetsSeq PySem.MeetsSeq2 PySem.MeetsSeq3
theorem wU(l b:Addr)(items i:Av)(n N:Nat)(C D:Option Addr)(sl B:Array (Ov))(k:Bool):
  Meets (Builtin.«tuple.__lt__» ⟨[.ref l,.ref b],[]⟩)
   (λA R s=>s.heap.get? l=some {cls:=.type "tuple",dict:=C,data:=.seq items n,slots:=sl}/\s.heap.get? b=some {cls:=.type "tuple",dict:=D,data:=.seq i N,slots:=B}/\
    cG A.in1 s items.toList i.toList k/\R (.ok (.ret (.bool k))) s):=
 .of_wp λp w A R s h=>by
  obtain⟨u,g,d,T,O⟩:=s;obtain⟨G,F,t,h⟩:=h;have L:=AutoSeq1.sub_tuple_tuple
  wp_walk using wpAny_loadPart' G,wpAny_loadPart' F,wpAny_forIn_list _ (λr b S=>b.1=none/\S=⟨u,g,d,T,O⟩/\∃(vs W:Lv),r=vs.zip W/\
   cG A.in1 ⟨u,g,d,T,O⟩ vs W k/\vs.length+i.size=W.length+items.size/\R (.ok (.ret (.bool k))) ⟨u,g,d,T,O⟩) _
  case turn=>
   rintro⟨y,x⟩ r b S ⟨e,rfl,vs,W,a,f,H,m⟩;cases f with
   |nn=>rw[List.zip_nil_left]at a;cases a
   |nc=>rw[List.zip_nil_left]at a;cases a
   |cn=>rw[List.zip_nil_right]at a;cases a
   |eq o q=>
    rw[Yg]at a;injection a with j c
    injection j with z t
    subst z t;simp only[ZO]at H;refine Za (o p w _ _ ?_)
    wp_walk
    exact⟨rfl,rfl,_,_,c,q,by omega,m⟩
   |lt o q=>
    rw[Yg]at a;injection a with j c
    injection j with z t
    subst z t;refine Za (o p w _ _ ?_);have v:=λ(E:Vs) (Q:Vs)=>q p w E Q
    wp_walk using v
    exact⟨_,rfl,by simpa using m⟩
  case aF=>
   rintro⟨J,K⟩ S ⟨e,rfl,vs,W,a,f,H,m⟩;simp only at e;subst e
   have I:k=decide (items.size<i.size):=by
    cases f with
    |nn=>simp only[List.length_nil]at H;exact(ZK (by omega)).symm
    |nc=>simp only[List.length_nil,ZO]at H;exact(ZR (by omega)).symm
    |cn=>simp only[List.length_nil,ZO]at H;exact(ZK (by omega)).symm
    |eq o q=>rw[Yg]at a;cases a
    |lt o q=>rw[Yg]at a;cases a
   rw[I]at m
   wp_walk
   exact⟨_,rfl,by simpa[Builtin.Tuple.tupleCompareSizes]using m⟩
  case h=>exact⟨rfl,rfl,items.toList,i.toList,rfl,t,by simp;omega,h⟩
end
theorem f7.tuples{l b:Addr}{vs W:Lv}{k:Bool}(m:s.heap.IsTuple l vs.toArray)(g:s.heap.IsTuple b W.toArray)(o:A.units<cLine)(r:cG A.in1 s vs W k):f7 A s (.ref l) (.ref b) k:=λp w E Q h=>by
 obtain⟨⟨cls,q,D,sl⟩,e,i,n,j⟩:=id m;obtain⟨⟨C,f,d,S⟩,H,a,N,c⟩:=id g;subst i j a c
 exact richCompare_meets_room ⟨_,e,rfl⟩ ⟨_,H,rfl⟩ PySem.F.slot_tuple_lt PySem.F.entry_tuple_lt (PySem.F.args_tuple_lt_2 _ _) (wU l b _ _ n _ _ _ _ _ k)
  ⟨e,H,by lia,show Value.bool k≠Value.notImplemented/\Q _ s from⟨(λx=>nomatch x),h⟩⟩ o
def wV(A:Around)(s:Shared)(y x:Value)(b:Bool):Prop:=
 ∀(prog:Program) (w:World) (E:Vs) (Q:Vs),Q (.bool b) s->wpAny (model prog w) A (richCompare .LtE y x) Q E s
inductive dI (A:Around)(s:Shared):Lv->Lv->Bool->Prop where
 |nl {ws}:dI A s [] ws true
 |cn {v vs}:dI A s (v::vs) [] false
 |eq {v w vs ws k}:EqAt A s v w true->dI A s vs ws k->dI A s (v::vs) (w::ws) k
 |le {v w vs ws k}:EqAt A s v w false->wV A s v w k->dI A s (v::vs) (w::ws) k
section
open PySem.AutoSeq1 (wpAny_loadPart')
open PySem.MeetsSeq PySem.MeetsSeq2 PySem.MeetsSeq3
theorem Fx(l b:Addr)(xs Y:Av)(n N:Nat)(B D:Option Addr)(sl z:Array (Ov))(k:Bool):
  Meets (Builtin.«tuple.__le__» ⟨[.ref l,.ref b],[]⟩)
   (λA R s=>s.heap.get? l=some {cls:=.type "tuple",dict:=B,data:=.seq xs n,slots:=sl}/\s.heap.get? b=some {cls:=.type "tuple",dict:=D,data:=.seq Y N,slots:=z}/\
    dI A.in1 s xs.toList Y.toList k/\R (.ok (.ret (.bool k))) s):=
 .of_wp λp w A R s h=>by
  obtain⟨t,g,d,T,O⟩:=s;obtain⟨F,C,q,h⟩:=h;have K:=AutoSeq1.sub_tuple_tuple
  wp_walk using wpAny_loadPart' F,wpAny_loadPart' C,wpAny_forIn_list _ (λr b S=>b.1=none/\S=⟨t,g,d,T,O⟩/\∃(vs W:Lv),r=vs.zip W/\
   dI A.in1 ⟨t,g,d,T,O⟩ vs W k/\vs.length+Y.size=W.length+xs.size/\R (.ok (.ret (.bool k))) ⟨t,g,d,T,O⟩) _
  case turn=>
   rintro⟨y,x⟩ r b S ⟨e,rfl,vs,W,a,f,H,j⟩;cases f with
   |nl=>rw[List.zip_nil_left]at a;cases a
   |cn=>rw[List.zip_nil_right]at a;cases a
   |eq m o=>
    rw[Yg]at a;injection a with i c
    injection i with v q
    subst v q;simp only[ZO]at H;refine Za (m p w _ _ ?_)
    wp_walk
    exact⟨rfl,rfl,_,_,c,o,by omega,j⟩
   |le m o=>
    rw[Yg]at a;injection a with i c
    injection i with v q
    subst v q;refine Za (m p w _ _ ?_);have u:=λ(E:Vs) (Q:Vs)=>o p w E Q
    wp_walk using u
    exact⟨_,rfl,by simpa using j⟩
  case aF=>
   rintro⟨I,J⟩ S ⟨e,rfl,vs,W,a,f,H,j⟩;simp only at e;subst e
   have G:k=decide (xs.size<=Y.size):=by
    cases f with
    |nl=>simp only[List.length_nil]at H;exact(ZR (by omega)).symm
    |cn=>simp only[List.length_nil,ZO]at H;exact(ZK (by omega)).symm
    |eq m o=>rw[Yg]at a;cases a
    |le m o=>rw[Yg]at a;cases a
   rw[G]at j
   wp_walk
   exact⟨_,rfl,by simpa[Builtin.Tuple.tupleCompareSizes]using j⟩
  case h=>exact⟨rfl,rfl,xs.toList,Y.toList,rfl,q,by simp;omega,h⟩
end
theorem Fy{l b:Addr}{vs W:Lv}{k:Bool}(m:s.heap.IsTuple l vs.toArray)(g:s.heap.IsTuple b W.toArray)(o:A.units<cLine)(r:dI A.in1 s vs W k):wV A s (.ref l) (.ref b) k:=λp w E Q h=>by
 obtain⟨⟨cls,q,D,sl⟩,e,i,n,j⟩:=id m;obtain⟨⟨C,f,d,S⟩,H,a,N,c⟩:=id g;subst i j a c
 exact richCompare_meets_room ⟨_,e,rfl⟩ ⟨_,H,rfl⟩ PySem.F.slot_tuple_le PySem.F.entry_tuple_le (PySem.F.args_tuple_le_2 _ _) (Fx l b _ _ n _ _ _ _ _ k)
  ⟨e,H,by lia,show Value.bool k≠Value.notImplemented/\Q _ s from⟨(λx=>nomatch x),h⟩⟩ o
noncomputable def wX:List D->List D->Option Bool
 | [],_=>some true
 |_::_,[]=>some false
 | .int a::as,.int b::bs=>if a=b then wX as bs else some (decide (a<=b))
 |_::_,_::_=>none
theorem jz{K:Fg}{m:GS}{μ:La}{H:Hp}{A:Around}{s:Shared}:∀(ds es:List D) (vs W:List V) (us zs:Lv) (k:Bool),aj K m μ H ds vs->Vals vs us->aj K m μ H es W->Vals W zs->wX ds es=some k->dI A s us zs k
 | [],es,vs,W,us,zs,k,r,q,R,i,h=>by
  unfold aj at r;subst r;have:=q.zero;subst this
  cases h;exact .nl
 |d::ds,[],vs,W,us,zs,k,r,q,R,i,h=>by
  obtain⟨v,vs,rfl,l,B⟩:=r.uncons;unfold aj at R;subst R;have:=i.zero;subst this
  cases q;have f:some false=some k:=by cases d<;>exact h
  cases f;exact .cn
 |d::ds,e::es,vs,W,us,zs,k,r,q,R,i,h=>by
  obtain⟨v,vs,rfl,l,B⟩:=r.uncons;obtain⟨w,W,rfl,n,o⟩:=R.uncons;cases d with
  |int a=>cases e with
   |int b=>
    have:=aK l;have:=aK n;subst v w
    cases q with
    |cons C x=>cases i with
     |cons u y=>
      obtain⟨t,rfl⟩:=C;obtain⟨T,rfl⟩:=u;have f:(if a=b then wX ds es else some (decide (a<=b)))=some k:=h;have g:=EqAt.int_int (A:=A) (s:=s) a t b T;by_cases c:a=b
      ·rw[if_pos c]at f;have j:(a==b)=true:=by simpa using c
       rw[j]at g;exact .eq g (jz ds es vs W _ _ k B x o y f)
      ·rw[if_neg c]at f;have j:(a==b)=false:=by simpa using c
       rw[j]at g;cases f;exact .le g λp w E Q z=>PyProof.Rows.le_int z
   |_=>cases h
  |_=>
   have f:(none:Option Bool)=some k:=by cases e<;>exact h
   cases f
theorem jA(I:Inv X pq σ H s)(K:aQ X.K ⟨X.mg,F⟩ μ S H):∀(n:Nat) (A:Around),A.units+n<cLine->∀d e v w u z k,Rep X.K ⟨X.mg,F⟩ μ H d v->RelV v u->Rep X.K ⟨X.mg,F⟩ μ H e w->RelV w z->jy S n d e=some k->f7 A s u z k:=by
 intro n
 induction n with
 |zero=>intro A _ d e v w u z k _ _ _ _ h;cases h
 |succ n ih=>
  intro A hA d e v w u z k y G B J h;have hin:A.in1.units=A.units+1:=rfl
  have L:∀(f c:List D) (vs W:List V) (U Z:Lv),aj X.K ⟨X.mg,F⟩ μ H f vs->Vals vs U->aj X.K ⟨X.mg,F⟩ μ H c W->Vals W Z->vJ (cF S n) (jy S n) f c=some k->cG A.in1 s U Z k:=by
   intro f
   induction f with
   |nil=>
    intro c vs W U Z R g r q h;unfold aj at R;subst R;have:=g.zero;subst this
    cases c with
    |nil=>unfold aj at r;subst r;have:=q.zero;subst this;cases h;exact .nn
    |cons e c=>obtain⟨w,W,rfl,_,_⟩:=r.uncons;cases q;cases h;exact .nc
   |cons d f x=>
    intro c vs W U Z R g r q h;obtain⟨v,vs,rfl,i,M⟩:=R.uncons;cases g with
    |cons C O=>
     cases c with
     |nil=>unfold aj at r;subst r;have:=q.zero;subst this;cases h;exact .cn
     |cons e c=>
      obtain⟨w,W,rfl,j,N⟩:=r.uncons;cases q with
      |cons l P=>
       unfold vJ at h;split at h
       ·rename_i m;exact .eq (vI I K n A.in1 (by omega) d e v w _ _ true i C j l m).2.2 (x c vs W _ _ M O N P h)
       ·rename_i m;exact .lt (vI I K n A.in1 (by omega) d e v w _ _ false i C j l m).2.2 (ih A.in1 (by omega) d e v w _ _ k i C j l h)
       ·cases h
  unfold jy at h;split at h
  ·rename_i T;cases T
  ·have:=aK y;have:=aK B;subst v w
   obtain⟨t,rfl⟩:=G;obtain⟨t',rfl⟩:=J;cases h;exact λp w E Q hq=>(PyProof.Rows.lt_int hq:wpAny (model p w) A (compareOp .Lt (.int _ t) (.int _ t')) Q E s)
  ·rename_i n' f c o;cases o;obtain⟨a,vs,rfl,Y,R⟩:=b4 y;obtain⟨b,W,rfl,h2,r⟩:=b4 B;cases G;cases J;obtain⟨U,g,p1,_⟩:=I.tuple Y;obtain⟨Z,q,p2,_⟩:=I.tuple h2;exact f7.tuples p1 p2 (by omega) (L f c vs W U Z R g r q h)
  ·cases h
def bH:Nat:=40
def ig:D->Bool
 | .non=>true
 |_=>false
noncomputable def aR(o:Option Bool)(S:aa):Res D:=match o with
 |some k=>.ok (.bl k) S
 |none=>.fail
noncomputable def e_(l:List (Option Bool)):Option Bool:=(bv (l.map λo=>o.map not)).map not
noncomputable def fw(d e:D)(S:aa):Option Bool:=match av S e with
 |some xs=>e_ (xs.map λy=>cF S bH y d)
 |none=>none
noncomputable def DQ(d e:D)(S:aa):Res D:=match d,e with
 | .int i,.int j=>.ok (.bl (decide (i<=j))) S
 | .tup a,.tup b=>aR (wX a b) S
 |_,_=>.fail
noncomputable def Fz(d e:D)(S:aa):Res D:=match d,e with
 | .int i,.int j=>.ok (.bl (decide (j<i))) S
 |_,_=>.fail
noncomputable def FA(d e:D)(S:aa):Res D:=match d,e with
 | .int i,.int j=>.ok (.bl (decide (j<=i))) S
 |_,_=>.fail
noncomputable def DR(d e:D)(S:aa):Res D:=match e with
 | .non=>.ok (.bl (ig d)) S
 |_=>.fail
noncomputable def rX(d e:D)(S:aa):Res D:=match e with
 | .non=>.ok (.bl (!ig d)) S
 |_=>.fail
noncomputable def a7(o:CmpOp)(d e:D)(S:aa):Res D:=match o with
 | .Eq=>aR (cF S bH d e) S
 | .NotEq=>aR ((cF S bH d e).map not) S
 | .Lt=>aR (jy S bH d e) S
 | .LtE=>DQ d e S
 | .Gt=>Fz d e S
 | .GtE=>FA d e S
 | .In=>aR (fw d e S) S
 | .NotIn=>aR ((fw d e S).map not) S
 | .Is=>DR d e S
 | .IsNot=>rX d e S
theorem wY{m:GS}(r:Rep K m μ H d v):decide (v=.non)=ig d:=by
 cases d with
 |non=>cases gM r;rfl
 |bl b=>cases fZ r;rfl
 |int b=>cases aK r;rfl
 |str b=>cases f6 r;rfl
 |tup b=>obtain⟨a,vs,rfl,_⟩:=b4 r;rfl
 |lst b=>obtain⟨a,vs,rfl,_⟩:=r;rfl
 |ref b=>obtain⟨a,rfl,_⟩:=r;rfl
 |scr b=>obtain⟨a,vs,rfl,_⟩:=r;rfl
 |fn b=>obtain⟨a,rfl,_⟩:=r;rfl
 |dct=>obtain⟨a,rfl,_⟩:=r;rfl
 |dks b=>obtain⟨a,_,rfl,_⟩:=r;rfl
 |ty n=>cases r;rfl
theorem fI{m:GS}{Q:VK}{o:Option Bool}(w:aZ K m μ H Q (aR o S))(s:aQ K m μ S H):∃k,o=some k/\Q (.bl k) H:=by
 cases o with
 |none=>exact w.elim
 |some k=>exact⟨k,rfl,w.now s cS⟩
theorem wZ{l:List (Option Bool)}{k:Bool}(h:e_ l=some k):(∀o∈l,o.isSome=true)/\k=l.any (λo=>o==some true):=by
 obtain⟨K,e,E⟩:=Option.map_eq_some_iff.mp h;subst E;clear h
 induction l generalizing K with
 |nil=>cases e;simp_all
 |cons o r i=>
  rw[ZX]at e;unfold bv at e;split at e
  ·simp_all
  ·cases e
theorem qb(I:Inv X pq σ H s)(L:aQ X.K ⟨X.mg,F⟩ μ S H)(hu:A.units+64<cLine){e:D}{w:V}{z:Value}{k:Bool}(Y:Rep X.K ⟨X.mg,F⟩ μ H d v)(ru:RelV v u)(Z:Rep X.K ⟨X.mg,F⟩ μ H e w)(rz:RelV w z)
  (h:fw d e S=some k):∃(a:Addr) (its:Lv) (f:Value->Bool),z=.ref a/\(s.heap.IsList a its.toArray\/s.heap.IsTuple a its.toArray)/\(∀y∈its.toArray,EqAt A.in1 s y u (f y))/\its.toArray.any f=k:=by
 unfold fw at h;split at h
 ·rename_i i M;obtain⟨a,vs,rfl,l,r⟩:=e9 L Z M;cases rz
  obtain⟨its,q,W⟩:∃its,Vals vs its/\(s.heap.IsList a its.toArray\/s.heap.IsTuple a its.toArray):=by
   rcases l with l|l
   ·obtain⟨its,q,p,_⟩:=I.list l;exact⟨its,q,.inl p.isList⟩
   ·obtain⟨its,q,p,_⟩:=I.tuple l;exact⟨its,q,.inr p⟩
  have T:A.in1.units=A.units+1:=rfl;have K:bH=40:=rfl;obtain⟨N,O⟩:=wZ h
  classical
  have n:∀(j:Nat) (x:D) (y:Value),i[j]?=some x->its[j]?=some y->∀b,cF S bH x d=some b->EqAt A.in1 s y u b:=λj x y B C b m=>by obtain⟨v',P,Q⟩:=r.get B;obtain⟨y',G,R⟩:=q.get P;rw[C]at G;cases G;exact(vI I L bH A.in1 (by omega) x d v' v _ u b Q R Y ru m).2.2
  have len:i.length=its.length:=r.length.trans q.length;refine⟨a,its,λy=>decide (∃(j:Nat) (x:D),its[j]?=some y/\i[j]?=some x/\cF S bH x d=some true),rfl,W,λy C=>?_,?_⟩
  ·obtain⟨j,t,E⟩:=Zy.mp (show y∈its by simpa using C);have g:its[j]?=some y:=by rw[Zj t,E]
   have c:i[j]?=some (i[j]'(by omega)):=Zj _;by_cases J:∃(j:Nat) (x:D),its[j]?=some y/\i[j]?=some x/\cF S bH x d=some true
   ·grind
   ·show EqAt A.in1 s y u (decide (∃(j:Nat) (x:D),its[j]?=some y/\i[j]?=some x/\cF S bH x d=some true));rw[ZK J];obtain⟨b,m⟩:=Option.isSome_iff_exists.mp (N (cF S bH (i[j]'(by omega)) d) (Zr.mpr ⟨_,ZC c,rfl⟩));cases b with
    |false=>exact n j _ y c g false m
    |true=>exact absurd ⟨j,_,g,c,m⟩ J
  ·rw[O];apply Bool.eq_iff_iff.mpr;rw[List.any_toArray,List.any_eq_true,List.any_eq_true];constructor
   ·grind
   ·rintro⟨o,U,K⟩;obtain⟨x,B,rfl⟩:=Zr.mp U;obtain⟨j,t,E⟩:=Zy.mp B;have c:i[j]?=some x:=by rw[Zj t,E]
    have g:its[j]?=some (its[j]'(by omega)):=Zj _;exact⟨_,ZC g,ZR ⟨j,x,g,c,by simpa using K⟩⟩
 ·cases h
theorem fx(O:CmpOp)(B:X.A.units+64<cLine):c8 X (compareOp O) (rD X.K X.mg (a7 O)):=by
 intro p s l H x y v u Q I i j h;obtain⟨F,n,S,d,e,c,r,R,w⟩:=h;have T:bH=40:=rfl;have aF:∀{k:Bool},Q (.bl k) H->EP X p l Q (.bool k) s:=λ{k} q=>⟨.bl k,H,I,rfl,q⟩;cases O with
 |Eq=>obtain⟨k,E,q⟩:=fI (o:=cF S bH d e) w c;exact(vI I c bH X.A (by omega) d e x y v u k r i R j E).1 X.prog X.w _ _ (aF q)
 |NotEq=>obtain⟨k,E,q⟩:=fI (o:=(cF S bH d e).map not) w c;obtain⟨K,t,rfl⟩:=Option.map_eq_some_iff.mp E;exact(vI I c bH X.A (by omega) d e x y v u K r i R j t).2.1 X.prog X.w _ _ (aF q)
 |Lt=>obtain⟨k,E,q⟩:=fI (o:=jy S bH d e) w c;exact jA I c bH X.A (by omega) d e x y v u k r i R j E X.prog X.w _ _ (aF q)
 |LtE=>
  replace w:aZ X.K ⟨X.mg,F⟩ n H Q (DQ d e S):=w;unfold DQ at w;split at w
  ·have:=aK r;have:=aK R;subst x y
   exact wg p s l H _ _ v u Q I i j ⟨_,_,rfl,rfl,w.now c cS⟩
  ·rename_i as bs;obtain⟨k,E,q⟩:=fI (o:=wX as bs) w c;obtain⟨a,vs,rfl,C,M⟩:=b4 r;obtain⟨b,W,rfl,D,N⟩:=b4 R;cases i;cases j;obtain⟨U,J,P,_⟩:=I.tuple C;obtain⟨Z,L,G,_⟩:=I.tuple D;exact Fy P G (by omega) (jz as bs vs W U Z k M J N L E) X.prog X.w _ _ (aF q)
  ·exact w.elim
 |Gt=>
  replace w:aZ X.K ⟨X.mg,F⟩ n H Q (Fz d e S):=w;unfold Fz at w;split at w
  ·have:=aK r;have:=aK R;subst x y
   exact wh p s l H _ _ v u Q I i j ⟨_,_,rfl,rfl,w.now c cS⟩
  ·exact w.elim
 |GtE=>
  replace w:aZ X.K ⟨X.mg,F⟩ n H Q (FA d e S):=w;unfold FA at w;split at w
  ·have:=aK r;have:=aK R;subst x y
   exact wj p s l H _ _ v u Q I i j ⟨_,_,rfl,rfl,w.now c cS⟩
  ·exact w.elim
 |In=>
  obtain⟨k,E,q⟩:=fI (o:=fw d e S) w c;obtain⟨a,z,f,rfl,g,m,rfl⟩:=qb I c (A:=X.A) B r i R j E;rcases g with g|g
  ·exact in_listAt f g m (aF q)
  ·exact in_tupleAt f g m (aF q)
 |NotIn=>
  obtain⟨k,E,q⟩:=fI (o:=(fw d e S).map not) w c;obtain⟨K,t,rfl⟩:=Option.map_eq_some_iff.mp E;obtain⟨a,z,f,rfl,g,m,rfl⟩:=qb I c (A:=X.A) B r i R j t;rcases g with g|g
  ·exact notIn_listAt f g m (aF q)
  ·exact notIn_tupleAt f g m (aF q)
 |Is=>
  replace w:aZ X.K ⟨X.mg,F⟩ n H Q (DR d e S):=w;unfold DR at w;split at w
  ·cases gM R;exact rh p s l H _ _ v u Q I i j ⟨rfl,by rw[wY r];exact w.now c cS⟩
  ·exact w.elim
 |IsNot=>
  replace w:aZ X.K ⟨X.mg,F⟩ n H Q (rX d e S):=w;unfold rX at w;split at w
  ·cases gM R;exact lK p s l H _ _ v u Q I i j ⟨rfl,by rw[wY r];exact w.now c cS⟩
  ·exact w.elim
end Py
namespace Py
def rC(K:Fg)(m:Mg)(g:List D->aa->Res D):List V->Hp->VK->Prop:=λxs H Q=>∃F μ S ds,aQ K ⟨m,F⟩ μ S H/\aj K ⟨m,F⟩ μ H ds xs/\aZ K ⟨m,F⟩ μ H Q (g ds S)
theorem aj.one{m:GS}{vs:List V}(r:aj K m μ H [d] vs):∃v,vs=[v]/\Rep K m μ H d v:=by obtain⟨v,w,rfl,h,t⟩:=r.uncons;unfold aj at t;simp_all
theorem aj.two{m:GS}{e:D}{vs:List V}(r:aj K m μ H [d,e] vs):∃v w,vs=[v,w]/\Rep K m μ H d v/\Rep K m μ H e w:=by obtain⟨v,W,rfl,h,t⟩:=r.uncons;obtain⟨w,rfl,a⟩:=t.one;lia
theorem ma{m:GS}{vs:List V}{i:Int}(r:aj K m μ H ds vs)(h:fX ds i=some d):∃v,fX vs i=some v/\Rep K m μ H d v:=by
 unfold fX at h⊢;rw[<-r.length];cases e:gJ _ i with
 |none=>simp_all
 |some j=>rw[e]at h;exact r.get h
noncomputable def bh(d e:D)(S:aa):Res D:=match av S d,e with
 |some xs,.int i=>match fX xs i with
  |some y=>.ok y S
  |none=>.fail
 |_,_=>.fail
theorem FC:DO X (rD X.K X.mg bh):=by
 intro V g p s A H x y v u Q I R l h b;obtain⟨F,t,S,d,e,f,n,o,w⟩:=h;unfold bh at w;split at w
 ·rename_i q i E;split at w
  ·rename_i Y m;obtain⟨a,vs,rfl,c,r⟩:=e9 f n E;cases aK o;obtain⟨z,j,k⟩:=ma r m;rcases c with c|c
   ·exact lY _ _ _ s _ H _ _ v u Q I R l ⟨a,_,i,z,rfl,rfl,c,j,w.now f k⟩ b
   ·exact rF _ _ _ s _ H _ _ v u Q I R l ⟨a,_,i,z,rfl,rfl,c,j,w.now f k⟩ b
  ·exact w.elim
 ·exact w.elim
noncomputable def fJ(ds:List D)(S:aa):Res D:=match ds with
 | [.str x]=>if x.length<=bu then .ok (.int x.length) S else .fail
 | [d]=>match av S d with
  |some xs=>.ok (.int xs.length) S
  |none=>.fail
 |_=>.fail
theorem w4:aW X (.builtin "len") (rC X.K X.mg fJ):=by
 intro p s k H i u Q I r h;obtain⟨F,j,S,D,c,R,w⟩:=h;have g:=iC;unfold fJ at w;split at w
 ·split at w
  ·obtain⟨v,rfl,b⟩:=R.one;cases f6 b;exact Fa _ s _ H _ _ Q I r ⟨_,rfl,by omega,w.now c bG⟩
  ·exact w.elim
 ·split at w
  ·rename_i x e;obtain⟨v,rfl,b⟩:=R.one;obtain⟨a,vs,rfl,d,f⟩:=e9 c b e;refine E_ _ s _ H _ _ Q I r ⟨a,_,rfl,d,?_⟩;rw[<-f.length];exact w.now c bG
  ·exact w.elim
 ·exact w.elim
noncomputable def me(ds:List D)(S:aa):Res D:=match ds with
 | [.tup xs]=>.ok (.tup xs) S
 | [d]=>match av S d with
  |some xs=>.ok (.tup xs) S
  |none=>.fail
 |_=>.fail
theorem w5{m:GS}(s:aQ K m μ S H)(r:Rep K m μ H d v)(e:av S d=some xs)(b:∀ys,d≠.tup ys):∃a vs,v=.ref a/\c6 K H a vs/\aj K m μ H xs vs:=by
 cases d with
 |lst ys=>obtain⟨a,vs,E,h,q⟩:=dH s r (show eH S _=some _ from e);exact⟨a,_,E,.of h,q⟩
 |ref n=>obtain⟨a,vs,E,h,q⟩:=dH s r (show eH S _=some _ from e);exact⟨a,_,E,.of h,q⟩
 |tup ys=>simp_all
 |scr ys=>cases e;obtain⟨a,vs,e,h,q⟩:=r;exact⟨a,_,e,h.sq,q⟩
 |_=>cases e
theorem mf:aW X (.type "tuple") (rC X.K X.mg me):=by
 intro P s m H k u Q I r h;obtain⟨F,l,S,D,f,g,w⟩:=h;unfold me at w;split at w
 ·obtain⟨v,rfl,b⟩:=g.one;obtain⟨a,vs,rfl,c,R⟩:=b4 b;exact wI _ s _ H _ _ Q I r ⟨a,_,rfl,.inr ⟨c,w.now f b⟩⟩
 ·rename_i d i;split at w
  ·rename_i x e;obtain⟨v,rfl,b⟩:=g.one;obtain⟨a,vs,rfl,c,R⟩:=w5 f b e λy z=>i y (by lia);exact wI _ s _ H _ _ Q I r ⟨a,_,rfl,.inl ⟨c,λp j=>w.tup f R p j⟩⟩
  ·exact w.elim
 ·exact w.elim
noncomputable def jB(box:Bool)(ds:List D)(S:aa):Res D:=match ds with
 | [d]=>match av S d with
  |some xs=>if box then .ok (.ref S.length) (S++[xs])else .ok (.lst xs) S
  |none=>.fail
 |_=>.fail
theorem rY(box:Bool):aW X (.type "list") (rC X.K X.mg (jB box)):=by
 intro P s k H i u Q I r h;obtain⟨F,j,S,D,b,g,w⟩:=h;unfold jB at w;split at w
 ·split at w
  ·rename_i x e;obtain⟨v,rfl,f⟩:=g.one;obtain⟨a,vs,rfl,d,R⟩:=e9 b f e;refine Fb _ s _ H _ _ Q I r ⟨a,_,rfl,d,λp c=>?_⟩;split at w
   ·exact w.box b R p c
   ·exact w.lst b R p c
  ·exact w.elim
 ·exact w.elim
noncomputable def intD(ds:List D)(S:aa):Res D:=match ds with
 | [.int i]=>.ok (.int i) S
 | [.bl b]=>.ok (.int (if b then 1 else 0)) S
 |_=>.fail
theorem w6:aW X (.type "int") (rC X.K X.mg intD):=by
 intro p s e H x u Q I r h;obtain⟨F,c,S,d,b,R,w⟩:=h;unfold intD at w;split at w
 ·obtain⟨v,rfl,a⟩:=R.one;cases aK a;exact wl _ s _ H _ _ Q I r (.inl ⟨_,rfl,w.now b bG⟩)
 ·obtain⟨v,rfl,a⟩:=R.one;cases fZ a;exact wl _ s _ H _ _ Q I r (.inr ⟨_,rfl,w.now b bG⟩)
 ·exact w.elim
noncomputable def mj(ds:List D)(S:aa):Res D:=match ds with
 | [.int i,.int j]=>.ok (.int (if j<i then j else i)) S
 |_=>.fail
noncomputable def ml(ds:List D)(S:aa):Res D:=match ds with
 | [.int i,.int j]=>.ok (.int (if j>i then j else i)) S
 |_=>.fail
theorem w8(a:X.calm=true):aW X (.builtin "min") (rC X.K X.mg mj):=by
 intro p s f H x u Q I r h;obtain⟨F,e,S,D,d,R,w⟩:=h;unfold mj at w;split at w
 ·obtain⟨v,W,rfl,b,c⟩:=R.two;cases aK b;cases aK c;exact EO a _ s _ H _ _ Q I r ⟨_,_,rfl,w.now d bG⟩
 ·exact w.elim
theorem w9(a:X.calm=true):aW X (.builtin "max") (rC X.K X.mg ml):=by
 intro p s f H x u Q I r h;obtain⟨F,e,S,D,d,R,w⟩:=h;unfold ml at w;split at w
 ·obtain⟨v,W,rfl,b,c⟩:=R.two;cases aK b;cases aK c;exact EN a _ s _ H _ _ Q I r ⟨_,_,rfl,w.now d bG⟩
 ·exact w.elim
noncomputable def bU(S:aa):D->Option Bool
 | .non=>some false
 | .bl b=>some b
 | .int i=>some (i !=0)
 | .str x=>if x.length<=bu then some ((x.length:Int) !=0)else none
 |d=>(av S d).map λxs=> !xs.isEmpty
theorem qc{m:GS}{k:Bool}(j:aQ K m μ S H)(r:Rep K m μ H d v)(e:bU S d=some k):iy K v H k:=by
 have l:=iC
 have seq:∀(x:List D),av S d=some x->k= !x.isEmpty->iy K v H k:=λx f E=>by
  obtain⟨a,vs,rfl,c,q⟩:=e9 j r f;have i:=q.length;have g:x.isEmpty=vs.isEmpty:=by cases x<;>cases vs<;>simp at i⊢
  rw[g]at E;rcases c with c|c
  ·exact .inl ⟨_,c,E⟩
  ·exact .inr (.inl ⟨_,c,E⟩)
 have s:(av S d).map _=some k->iy K v H k:=λh=>by obtain⟨x,f,E⟩:=Option.map_eq_some_iff.mp h;exact seq _ f E.symm
 cases d with
 |non=>cases gM r;cases e;rfl
 |bl b=>cases fZ r;cases e;rfl
 |int b=>cases aK r;cases e;rfl
 |str b=>
  cases f6 r;replace e:(if b.length<=bu then some _ else none)=some k:=e;split at e
  ·cases e;exact⟨by omega,rfl⟩
  ·cases e
 |tup b=>exact s e
 |lst b=>exact s e
 |ref b=>exact s e
 |scr b=>exact s e
 |fn b=>exact s e
 |dct=>exact s e
 |dks b=>exact s e
 |ty b=>exact s e
noncomputable def b0(xs:List D)(lo hi:Option Int):List D:=(xs.drop (HT.bZ xs.length 0 lo)).take (HT.bZ xs.length xs.length hi-HT.bZ xs.length 0 lo)
theorem w_{m:GS}{vs:List V}{lo:Option Int}(r:aj K m μ H ds vs):aj K m μ H (b0 ds lo hi) (iA vs lo hi):=by unfold b0 iA;rw[r.length];exact(r.drop _).take _
noncomputable def ji(d:D)(lo hi:Option Int)(S:aa):Res D:=match d with
 | .tup xs=>.ok (.tup (b0 xs lo hi)) S
 |d=>match av S d with
  |some xs=>.ok (.lst (b0 xs lo hi)) S
  |none=>.fail
def MO(K:Fg)(m:Mg):V->Option Int->Option Int->Hp->VK->Prop:=λx lo hi H Q=>∃F μ S d,aQ K ⟨m,F⟩ μ S H/\Rep K ⟨m,F⟩ μ H d x/\aZ K ⟨m,F⟩ μ H Q (ji d lo hi S)
theorem FD{t:Addr}{lo:Option Int}(H:IsTup s.heap t items)(hs:s.heap.IsSliceOf sl vl vu .none)(pl:IsPart vl lo)(p:IsPart vu hi)
  (f:HT.bZ items.size 0 lo=0/\HT.bZ items.size items.size hi=items.size) (h:Q (.ref t) s):wpAny (model prog w) A (getItem (.ref t) (.ref sl)) Q E s:=by
 obtain⟨o,d,c,e⟩:=id hs;have b:s.TypeIs (.ref _) _:=⟨_,d,c⟩;unfold getItem
 try with_reducible refine Z5 ?_
 refine Za (wpAny_sequenceKey H.typeIs (rfl) ?_)
 refine Za (Z1 H.typeIs PyProof.Rows.slot_tuple_getitem
  (ZY PyProof.Rows.slot_tuple_getitem H.typeIs entry_tuple_getitem ?_ (args_tuple_getitem _ _)))
 show wpAny _ _ (Builtin.Tuple.tupleItemsOf _>>=_) _ _ s;refine Za (tupleItemsOf_ H ?_);refine Za (wpAny_typeOf b ?_);refine Za (HT.wy hs pl p ?_);have a:(((HT.bZ items.size 0 lo:Int)==0&&(1:Int)==1&&HT.bZ items.size items.size hi-HT.bZ items.size 0 lo==items.size)=true):=by simp_all
 show wpAny _ _ (if(((HT.bZ _ 0 _:Nat):Int)==0&&(1)==1&&(HT.bZ _ _ _-HT.bZ _ 0 _)==items.size)=true then _ else _) _ _ s;rw[if_pos a];refine Za ?_;refine Za (wpAny_typeOf H.typeIs (Ze ?_));exact Za (wpAny_rule (Ze ⟨_,rfl,Ze h⟩))
theorem FE:DN X (MO X.K X.mg):=by
 intro B s E H x v V C L m sl Q I k i P j h;obtain⟨F,D,S,d,c,R,w⟩:=h;unfold ji at w;split at w
 ·rename_i l;obtain⟨a,vs,rfl,b,r⟩:=b4 R;have n:=r.length;by_cases f:HT.bZ vs.length 0 L=0/\HT.bZ vs.length vs.length m=vs.length
  ·cases k;obtain⟨u,y,q,A⟩:=I.tuple b;have o:=by exact y.length.symm
   refine⟨_,_,PyProof.Rows.slot_tuple_getitem.lookup,q.typeIs,?_⟩;refine FD q i P j (by simp_all) ⟨.ref a,H,I,rfl,?_⟩;have e:b0 l L m=l:=by unfold b0;rw[n,f.1,f.2];simp[<-n]
   rw[e]at w;exact w.now c R
  ·exact sl_tup _ s _ H _ v _ _ _ _ _ Q I k i P j ⟨a,_,rfl,b,f,λp g=>w.tup c (w_ r) p g⟩
 ·rename_i d t;split at w
  ·rename_i l e;obtain⟨a,vs,rfl,b,r⟩:=w5 c R e λY z=>t _ z;exact lZ _ s _ H _ v _ _ _ _ _ Q I k i P j ⟨a,_,rfl,b,λp g=>w.lst c (w_ r) p g⟩
  ·exact w.elim
noncomputable def rZ(S:aa):D->Option String
 | .non=>some "NoneType"
 | .bl _=>some "bool"
 | .int _=>some "int"
 | .str _=>some "str"
 | .tup _=>some "tuple"
 | .lst _=>some "list"
 | .ref n=>(S[n]?).map λ_=>"list"
 | .scr _=>some "list"
 | .dct=>some "dict"
 |_=>none
noncomputable def jC(t c:String):Option Bool:=
 if ["NoneType","bool","int","str","tuple","list","dict"].contains t&&["bool","int","str","tuple","list","dict"].contains c then some (t==c||(t=="bool"&&c=="int"))else none
theorem mm{t c:String}{b:Bool}(h:jC t c=some b):PySem.W.kitOne K (.type t) (.type c)=some b:=by
 unfold jC at h;split at h
 ·rename_i H;simp at H;cases h;obtain⟨a,d⟩:=H;rcases a with rfl|rfl|rfl|rfl|rfl|rfl|rfl<;>rcases d with rfl|rfl|rfl|rfl|rfl|rfl<;>first|rfl|decide+kernel
 ·cases h
noncomputable def gN(ds:List D)(S:aa):Res D:=match ds with
 | [d,.ty c]=>match rZ S d with
  |some t=>aR (jC t c) S
  |none=>.fail
 |_=>.fail
theorem FF:aW X (.builtin "isinstance") (rC X.K X.mg gN):=by
 intro P s B H V us Q I r h;obtain⟨F,μ,S,W,m,N,w⟩:=h;unfold gN at w;split at w
 ·rename_i d c;split at w
  ·rename_i t E;obtain⟨b,J,q⟩:=fI w m;obtain⟨v,z,rfl,g,x⟩:=N.two;have k:z=.ty c:=by unfold Rep at x;exact x
   subst k;obtain⟨u,y,rfl,R,U⟩:=r.two;cases U;have e:=mm (K:=X.K) J;have aF:∀T,EP X P B Q (.bool b) {s with toks:=T}:=λT=>⟨.bl b,H,I.tok _,rfl,q⟩
   have lst:∀a vs,v=.ref a->c6 X.K H a vs->t="list"->wpAny (model X.prog X.w) X.A (call _ [u,.type c]) (EP X P B Q) X.xe s:=λa vs L f E=>by subst L;subst E;cases R;obtain⟨l,O,M,_⟩:=I.list f;obtain⟨o,i,j,_⟩:=M.isList;exact PySem.W.kia_one PySem.W.kitx_list I.kIn ⟨o,i,j⟩ e (λz=>nomatch z) aF
   cases d with
   |non=>cases gM g;cases R;cases E;exact PySem.W.kia_one PySem.W.kitx_none I.kIn True.intro e (λz=>nomatch z) aF
   |bl b=>cases fZ g;cases R;cases E;exact PySem.W.kia_one PySem.W.kitx_bool I.kIn True.intro e (λz=>nomatch z) aF
   |int b=>cases aK g;obtain⟨t,rfl⟩:=R;cases E;exact PySem.W.kia_one PySem.W.kitx_int I.kIn True.intro e (λz=>nomatch z) aF
   |str b=>cases f6 g;obtain⟨t,rfl⟩:=R;cases E;exact PySem.W.kia_one PySem.W.kitx_str I.kIn True.intro e (λz=>nomatch z) aF
   |tup b=>obtain⟨a,vs,rfl,f,_⟩:=b4 g;cases R;cases E;obtain⟨l,O,p,_⟩:=I.tuple f;obtain⟨o,i,j,_⟩:=p;exact PySem.W.kia_one PySem.W.kitx_tuple I.kIn ⟨o,i,j⟩ e (λz=>nomatch z) aF
   |lst b=>obtain⟨a,vs,rfl,f,_⟩:=dH m g rfl;cases E;exact lst a vs rfl (.of f) rfl
   |ref n=>obtain⟨V,C,D⟩:=Option.map_eq_some_iff.mp E;obtain⟨a,vs,rfl,f,_⟩:=dH m g C;exact lst a vs rfl (.of f) D.symm
   |scr b=>obtain⟨a,vs,rfl,f,_⟩:=g;cases E;exact lst a vs rfl f.sq rfl
   |dct=>obtain⟨a,rfl,G⟩:=g;cases R;cases E;obtain⟨_,_,vs,_,p⟩:=(show bw X.prog X.w H s.heap a (.dK [])from I.hok a _ G);obtain⟨o,Z,Y,i,j,_⟩:=p;exact PySem.W.kia_one PySem.W.kitx_dict I.kIn ⟨o,i,j.1⟩ e (λz=>nomatch z) aF
   |fn b=>cases E
   |ty b=>cases E
   |dks b=>cases E
  ·exact w.elim
 ·exact w.elim
def e8:D->Option Bool
 | .bl b=>some b
 |_=>none
noncomputable def jD(ds:List D)(S:aa):Res D:=match ds with
 | [d]=>match av S d with
  |some xs=>aR (bv (xs.map e8)) S
  |none=>.fail
 |_=>.fail
noncomputable def f8(ds:List D)(S:aa):Res D:=match ds with
 | [d]=>match av S d with
  |some xs=>aR (e_ (xs.map e8)) S
  |none=>.fail
 |_=>.fail
theorem xa{M:GS}{vs:List V}(r:aj K M μ H xs vs)(q:Vals vs its)(h:∀(j:Nat) o,(xs.map e8)[j]?=some o->o=some (eJ (xs.map e8) j)):
  ∀(i:Nat) v,its.toArray[i]?=some v->v=.bool (eJ (xs.map e8) i):=λi v l=>by
 have L:=r.length;have p:=q.length
 have a:=by simpa using l
 have n:=(Zp.mp a).1;have m:xs[i]?=some (xs[i]'(by omega)):=Zj _;obtain⟨w,g,e⟩:=r.get m;obtain⟨u,f,k⟩:=q.get g;rw[a]at f;cases f;have c:=h i (e8 (xs[i]'(by omega))) (by simp_all);revert e c;generalize xs[i]'(by omega)=d;intro e c;cases d with
 |bl b=>
  cases fZ e;have:=by simpa[e8]using c
  rw[<-this];exact k
 |_=>cases c
theorem jE(C:X.calm=true)(I:Inv X pq σ H s)(M:aQ X.K ⟨X.mg,F⟩ μ S H)(G:Rep X.K ⟨X.mg,F⟩ μ H d v)(J:RelV v u)(e:av S d=some xs)
  (h:∀(j:Nat) o,(xs.map e8)[j]?=some o->o=some (eJ (xs.map e8) j)) (b:Bool->Bool) {Q:VK} {fb:Nat->Bool} (q:Q (.bl (fb xs.length)) H):
  wpAny (model X.prog X.w) X.A.in1 (pyIter u) (λit g=>∃I fp wr n P St,it=.ref I/\Walks X.prog X.w X.A.in1 I fp wr n P St/\St 0 g.heap/\TruthOf X.prog X.w X.A.in1 P (eJ (xs.map e8))/\
   ∀h' tk,(∀b o,b∉wr->g.heap.get? b=some o->h'.get? b=some o)->EP X pq σ Q (.bool (fb n)) {g with heap:=h',toks:=tk}) X.xe s:=by
 obtain⟨a,vs,rfl,m,r⟩:=e9 M G e;cases J;have y:X.A.in1.handled=none:=I.ok.hd C;rcases m with m|m
 ·obtain⟨c,R,p,D⟩:=I.list m;have B:=xa r R h;refine Yi p.isList ?_;have k:a≠s.heap.objs.size:=by obtain⟨o,f,_⟩:=p.isList;exact Zx (Zl f)
  refine⟨_,_,_,_,_,_,rfl,Walks.list y s.heap.objs.size a k c.toArray,⟨⟨_,Zi _ rfl,rfl,rfl⟩,Heap.IsList.push p.isList _⟩,?_,λh' tk K=>?_⟩
  ·intro i v L A E w l;rw[B i v w];exact Yh l
  ·have t:c.toArray.size=xs.length:=by rw[Zv,<-R.length,<-r.length]
   rw[t];refine⟨.bl _,H,I.kept (h':=h') (t':=tk) λb o f=>K b o ?_ (Zb _ f),rfl,q⟩;intro z;have Z:b=s.heap.objs.size:=by simpa using z
   exact absurd (Zl f) (by rw[Z];exact Yf _)
 ·obtain⟨c,R,p,D⟩:=I.tuple m;have B:=xa r R h;refine Ye (show s.heap.IsTuple a c.toArray from p) ?_;have k:a≠s.heap.objs.size:=by obtain⟨o,f,_⟩:=p;exact Zx (Zl f)
  refine⟨_,_,_,_,_,_,rfl,Walks.tuple y s.heap.objs.size a k c.toArray,⟨⟨_,Zi _ rfl,rfl,rfl⟩,by obtain⟨o,f,r⟩:=p;exact⟨o,Zb _ f,r⟩⟩,?_,λh' tk K=>?_⟩
  ·intro i v L A E w l;rw[B i v w];exact Yh l
  ·have t:c.toArray.size=xs.length:=by rw[Zv,<-R.length,<-r.length]
   rw[t];refine⟨.bl _,H,I.kept (h':=h') (t':=tk) λb o f=>K b o ?_ (Zb _ f),rfl,q⟩;intro z;have Z:b=s.heap.objs.size:=by simpa using z
   exact absurd (Zl f) (by rw[Z];exact Yf _)
theorem xb(l:X.calm=true):aW X (.builtin "all") (rC X.K X.mg jD):=by
 intro B s J H C U Q I r h;obtain⟨F,G,S,D,a,R,w⟩:=h;unfold jD at w;split at w
 ·split at w
  ·rename_i d y e;obtain⟨k,E,q⟩:=fI w a;obtain⟨v,rfl,m⟩:=R.one;obtain⟨u,rfl,p⟩:=r.one;obtain⟨j,x⟩:=l_ _ _ E;have o:=jE l I a m p e j id (Q:=Q) (fb:=λn=>(List.range n).all (eJ (y.map e8))) (by simp_all);exact call_all_walk (wpAny_mono o (λit b ⟨_,_,_,n,P,_,A,c,f,g,i⟩=>⟨_,_,_,n,P,_,_,A,c,f,g,i⟩) λ_ _ z=>z)
  ·exact w.elim
 ·exact w.elim
theorem xf(J:X.calm=true):aW X (.builtin "any") (rC X.K X.mg f8):=by
 intro Z s σ H xs us Q I r h;obtain⟨F,μ,S,U,i,R,w⟩:=h;unfold f8 at w;split at w
 ·split at w
  ·rename_i d y e;obtain⟨k,E,q⟩:=fI w i;obtain⟨v,rfl,L⟩:=R.one;obtain⟨u,rfl,N⟩:=r.one;obtain⟨C,D⟩:=wZ E
   have G:∀(j:Nat) o,(y.map _)[j]?=some o->o=some (eJ (y.map e8) j):=λj o a=>by
    have:=C o (ZC a);cases o with
    |none=>cases this
    |some b=>simp[eJ,a]
   have Y:k=(List.range y.length).any (eJ (y.map e8)):=by
    rw[D];apply Bool.eq_iff_iff.mpr;rw[List.any_eq_true,List.any_eq_true];constructor
    ·rintro⟨o,a,K⟩;obtain⟨j,c,B⟩:=Zy.mp a;have f:(y.map e8)[j]?=some o:=by rw[Zj c,B]
     grind
    ·rintro⟨j,c,K⟩;have g:j<(y.map e8).length:=by simpa using c
     have f:=Zj g
     grind
   have M:=jE J I i L N e G id (Q:=Q) (fb:=λn=>(List.range n).any (eJ (y.map e8))) (by lia);exact call_any_walk (wpAny_mono M (λit l ⟨O,W,wr,n,P,T,A,m,p,t,x⟩=>⟨_,_,_,n,P,_,_,A,m,p,t,x⟩) λ_ _ z=>z)
  ·exact w.elim
 ·exact w.elim
def rM(K:Fg)(m:Mg)(g:D->List D->aa->Res D):V->List V->Hp->VK->Prop:=λx xs H Q=>∃F μ S d ds,aQ K ⟨m,F⟩ μ S H/\Rep K ⟨m,F⟩ μ H d x/\aj K ⟨m,F⟩ μ H ds xs/\aZ K ⟨m,F⟩ μ H Q (g d ds S)
theorem jF{m:GS}(s:aQ K m μ S H)(r:Rep K m μ H (.ref n) v)(e:S[n]?=some xs):∃a vs,v=.ref a/\μ[n]?=some a/\H a=some (.lst vs)/\aj K m μ H xs vs:=by obtain⟨a,rfl,h⟩:=r;obtain⟨vs,b,q⟩:=s.at_ n a _ h e;exact⟨a,_,rfl,h,b,q⟩
noncomputable def fc(d:D)(ds:List D)(S:aa):Res D:=match d,ds with
 | .ref n,[y]=>match S[n]? with
  |some xs=>if xs.length<bu then .ok .non (S.set n (xs++[y]))else .fail
  |none=>.fail
 |_,_=>.fail
theorem FG:rE X "list.append" (rM X.K X.mg fc):=by
 intro p s t H x o v u Q I k j h;obtain⟨F,q,S,d,D,c,i,R,w⟩:=h;have l:=iC;unfold fc at w;split at w
 ·split at w
  ·rename_i n y Y e;split at w
   ·obtain⟨a,vs,rfl,f,b,r⟩:=jF c i e;obtain⟨z,rfl,g⟩:=R.one;have m:=r.length;exact wO _ s _ H _ _ v _ Q I k j ⟨a,_,z,rfl,rfl,b,by omega,w.wrote c f b (r.append (.cons g .nil)) jv⟩
   ·exact w.elim
  ·exact w.elim
 ·exact w.elim
noncomputable def f9(d:D)(ds:List D)(S:aa):Res D:=match d,ds with
 | .ref n,[y]=>match S[n]?,eH S y with
  |some xs,some ys=>if xs.length+ys.length<=bu then .ok .non (S.set n (xs++ys))else .fail
  |_,_=>.fail
 |_,_=>.fail
theorem FH:rE X "list.extend" (rM X.K X.mg f9):=by
 intro P s C H x A v u Q I p o h;obtain⟨F,B,S,d,D,c,m,R,w⟩:=h;have q:=iC;unfold f9 at w;split at w
 ·split at w
  ·rename_i n y Y Z e E;split at w
   ·obtain⟨a,vs,rfl,k,f,r⟩:=jF c m e;obtain⟨z,rfl,l⟩:=R.one;obtain⟨b,W,rfl,i,g⟩:=dH c l E;have t:=r.length;have j:=g.length;exact Fe _ s _ H _ _ v _ Q I p o ⟨a,b,_,_,rfl,rfl,f,i,by omega,w.wrote c k f (r.append g) jv⟩
   ·exact w.elim
  ·exact w.elim
 ·exact w.elim
theorem aj.dropLast{m:GS}{vs:List V}(r:aj K m μ H ds vs):aj K m μ H ds.dropLast vs.dropLast:=by rw[List.dropLast_eq_take,List.dropLast_eq_take,r.length];exact r.take _
noncomputable def jG(d:D)(ds:List D)(S:aa):Res D:=match d,ds with
 | .ref n,[]=>match S[n]? with
  |some xs=>match xs[xs.length-1]? with
   |some y=>.ok y (S.set n xs.dropLast)
   |none=>.fail
  |none=>.fail
 |_,_=>.fail
theorem xg:rE X "list.pop" (rM X.K X.mg jG):=by
 intro p s q H x m v u Q I l k h;obtain⟨F,o,S,d,D,f,j,R,w⟩:=h;unfold jG at w;split at w
 ·split at w
  ·rename_i n Y e;split at w
   ·rename_i y E;obtain⟨a,vs,rfl,i,c,r⟩:=jF f j e;subst R;obtain⟨z,b,g⟩:=r.get E;rw[r.length]at b;exact rH _ s _ H _ _ v _ Q I l k ⟨a,_,z,rfl,rfl,c,b,w.wrote f i c r.dropLast g⟩
   ·exact w.elim
  ·exact w.elim
 ·exact w.elim
noncomputable def iE(d e f:D)(S:aa):Option aa:=match d,e with
 | .ref n,.int i=>match S[n]? with
  |some xs=>match gJ xs.length i with
   |some j=>some (S.set n (xs.set j f))
   |none=>none
  |none=>none
 |_,_=>none
noncomputable def FI(K:Fg)(m:Mg):lz:=λo i v H Q=>∃F μ S d e f,aQ K ⟨m,F⟩ μ S H/\Rep K ⟨m,F⟩ μ H d o/\Rep K ⟨m,F⟩ μ H e i/\Rep K ⟨m,F⟩ μ H f v/\
 ∃S',iE d e f S=some S'/\∀μ' H',Ext μ H μ' H'->aQ K ⟨m,F⟩ μ' S' H'->Q H'
theorem xh:qR X (FI X.K X.mg):=by
 intro P s C H o i v O A u Q I x t y h;obtain⟨F,B,S,d,e,f,l,R,p,q,z,E,w⟩:=h;unfold iE at E;split at E
 ·split at E
  ·rename_i n k _ Y m;split at E
   ·rename_i j c;cases E;obtain⟨a,vs,rfl,g,b,r⟩:=jF l R m;cases aK p;rw[r.length]at c;exact E5 _ s _ H _ _ v _ _ u Q I x t y ⟨a,_,k,j,rfl,rfl,b,c,w _ _ (.wrote (ZC g) b) (l.wrote g b (r.set j q))⟩
   ·cases E
  ·cases E
 ·cases E
noncomputable def cg(env:Env):List (Str×NameKind)->List (Str×Addr)->List (Str×Addr)
 | [],cs=>cs
 | (n,k)::r,cs=>cg env r (if k== .free then(match env.cells.lookup n with|some c=>(n,c)::cs|none=>cs)else cs)
theorem FJ(h:∀x∈scope.names,x.2=.free->∃c,env.cells.lookup x.1=some c):closureFor scope env=pure (cg env scope.names []):=by
 unfold closureFor
 have K:∀(l:List _) (C:List _),(∀x∈l,x.2=.free->∃c,env.cells.lookup x.1=some c)->
   (forIn l C λx r=>(if(x.2==NameKind.free)=true then do let c <-cellOf env x.1;pure (ForInStep.yield ((x.1,c)::r))else pure (ForInStep.yield r):Sem _))=pure (cg env l C):=by
  intro l
  induction l with
  |nil=>intro C _;rfl
  |cons x l i=>
   intro C d;obtain⟨n,k⟩:=x;unfold cg;by_cases b:k=.free
   ·subst b;obtain⟨c,H⟩:=d (n,.free) (by simp) rfl;have a:cellOf env n=pure c:=by unfold cellOf;rw[H]
    simp_all
   grind
 grind
theorem r3{env:Env}:∀(l:List (Str×NameKind)) (cs:List (Str×Addr)),(∀p∈cs,env.cells.lookup p.1=some p.2)->∀p∈cg env l cs,env.cells.lookup p.1=some p.2
 | [],cs,h,p,H=>h p H
 | (n,k)::r,cs,h,p,H=>by
  refine r3 r _ (λq a=>?_) p H
  grind
theorem xi{env:Env}:∀(l:List (Str×NameKind)) (cs:List (Str×Addr)),∀p∈cs,p∈cg env l cs
 | [],cs,p,h=>h
 | (n,k)::r,cs,p,h=>by
  refine xi r _ p ?_
  grind
theorem xj{env:Env}{x:Str}{c:Addr}(H:env.cells.lookup x=some c):∀(l:List (Str×NameKind)) (cs:List (Str×Addr)),(x,NameKind.free)∈l->(x,c)∈cg env l cs
 | [],cs,h=>by cases h
 | (n,k)::r,cs,h=>by
  rcases Zn.mp h with e|h
  ·refine xi r _ _ ?_;simp_all
  ·exact xj H r _ h
theorem xk{a:Type}{x:Str}{c:a}:∀{l:List (Str×a)},(x,c)∈l->∃d,l.lookup x=some d
 | [],h=>by cases h
 | (n,d)::r,h=>by
  rw[List.lookup_cons];cases e:x==n with
  |true=>simp_all
  |false=>
   rcases Zn.mp h with E|h
   ·simp_all
   ·exact xk h
theorem xl{env:Env}:∀{N:List (Str×NameKind)} {x:Str} {k:NameKind},(N.map λ(n,k)=>if(k==NameKind.free&&env.scope.kind== .function&&env.kindOf n==some .cell)then(n,NameKind.cell)else(n,k)).lookup x=some k->
  ∃K,N.lookup x=some K/\(k=K\/(K=.free/\k=.cell))
 | [],_,_,h=>by simp_all
 | (n,a)::r,x,k,h=>by
  have i:= @xl env r x k
  grind
theorem xm{env:Env}:∀{N:List (Str×NameKind)} {x:Str},N.lookup x=some .free->
  let m:=(N.map λ(n,k)=>if(k==NameKind.free&&env.scope.kind== .function&&env.kindOf n==some .cell)then(n,NameKind.cell)else(n,k))
  m.lookup x=some .cell\/m.lookup x=some .free
 | [],_,h=>by simp_all
 | (n,K)::r,x,h=>by
  have i:= @xm env r x
  grind
theorem jH:∀(N:List (Str×NameKind)) (n:Nat) (a b:List (Str×Addr)),cellsFrom n N (a++b)=cellsFrom n N a++b
 | [],_,_,_=>rfl
 | (x,k)::r,n,a,b=>by
  show(if(k==NameKind.cell)=true then cellsFrom _ r _ else cellsFrom n r _)=(if(k==NameKind.cell)=true then cellsFrom _ r _ else cellsFrom n r a)++b;split
  ·exact jH r _ ((x,n)::a) b
  ·exact jH r n a b
theorem r4{x:Str}{c:Addr}:∀(N:List (Str×NameKind)) (n:Nat) (a:List (Str×Addr)),(x,c)∈cellsFrom n N a->(x,c)∈a\/(x,NameKind.cell)∈N
 | [],_,_,h=>.inl h
 | (y,k)::r,n,a,h=>by
  replace h:(x,c)∈if(k==NameKind.cell)=true then cellsFrom _ r _ else cellsFrom n r a:=h;split at h
  ·rcases r4 r _ _ h with h|h
   ·grind
   simp_all
  ·rcases r4 r n _ h with h|h
   ·exact .inl h
   simp_all
theorem r6{M:Model}{A:Around}{E:Vs}:∀(n:List (Str×NameKind)) (cs:List (Str×Addr)) (s:Shared) (Q:List (Str×Addr)->Shared->Prop),Q (cellsFrom s.heap.objs.size n cs) {s with heap:=pushCells s.heap n}->
  wpAny M A (forIn n cs λx r=>match x with
   | (name,kind)=>if(kind==NameKind.cell)=true then do
     let c <-alloc {cls:=Value.type "cell",data:=Data.cell none}
     pure (ForInStep.yield ((name,c)::r))
    else pure (ForInStep.yield r)) Q E s
 | [],cs,s,Q,h=>by rw[List.forIn_nil];exact Ze h
 | (x,k)::r,cs,s,Q,h=>by
  rw[List.forIn_cons];have h:Q (if(k==NameKind.cell)=true then cellsFrom (s.heap.objs.size+1) r ((x,s.heap.objs.size)::cs)else cellsFrom s.heap.objs.size r cs) {s with heap:=if(k==NameKind.cell)=true then pushCells (s.heap.push {cls:=.type "cell",data:=.cell none}) r else pushCells s.heap r}:=h;cases a:(k==NameKind.cell)with
  |true=>rw[a,if_pos rfl,if_pos rfl]at h;refine Za ?_;show wpAny M A (if(k==NameKind.cell)=true then _ else _) _ _ _;rw[a,if_pos rfl];refine Za (wpAny_alloc (Ze ?_));refine r6 r _ {s with heap:=s.heap.push {cls:=.type "cell",data:=.cell none}} Q ?_;show Q (cellsFrom (s.heap.push {cls:=.type "cell",data:=.cell none}).objs.size r _) _;rw[Heap.size_push];exact h
  |false=>rw[a,if_neg (by decide),if_neg (by decide)]at h;refine Za ?_;show wpAny M A (if(k==NameKind.cell)=true then _ else _) _ _ _;rw[a,if_neg (by decide)];refine Ze ?_;exact r6 r _ s Q h
theorem FK{M:Model}{A:Around}{E:Vs}{g:Addr}{c:List (Str×Addr)}{q:Str}{out:Env}{bl:Addr}{Q:Env->Shared->Prop}
  (h:Q ⟨scope,s.heap.objs.size,g,cellsFrom (s.heap.objs.size+1) scope.names c,q,none,out.code,out.frame,out.builtins⟩ {s with heap:=pushCells (s.heap.push {cls:=.type "dict",data:=.dict #[]}) scope.names}):
  wpAny M A (newFunctionEnv scope g c [] q none .none (some out) bl) Q E s:=by
 refine Za (wpAny_alloc (Za (r6 _ _ _ _ ?_)));refine Za (Ze (Ze ?_));simp_all
noncomputable def fK(X:Cx)(scope:Scope)(N:Ls)(C:Addr)(S:Shared)(a:Hp)(f:La):Cx:=
 {X with N:=N,s₀:=S,H₀:=a,env:=compEnvC scope (cellsFrom (C+1) scope.names (cg X.env scope.names [])) C X.env,outer:=X.stack,stack:=X.stack,ex:=f,fn:=λx=>scope.names.lookup x==some .cell,pn:=[],xe:=λ_ _=>False}
structure eh (X:Cx)(scope:Scope):Prop where
 kind:scope.kind=.function
 cel:∀y∈scope.names,y.2=.cell->scope.names.lookup y.1=some .cell
 loc:∀y∈scope.names,y.2=.local->scope.names.lookup y.1=some .local
 free:∀y∈scope.names,y.2=.free->X.env.kindOf y.1=some .cell\/X.env.kindOf y.1=some .free
theorem jI(I:Inv X pq σ H s){b:Addr}(h1:b≠X.env.locals)(h:b∉X.fs):b∉dw X.stack:=λz=>(Zn.mp (I.stkSub b z)).elim h1 h
theorem gO{x:Str}{c:Addr}(h:(cellsFrom n scope.names (cg X.env scope.names [])).lookup x=some c):(cellsFrom n scope.names []).lookup x=some c\/((cellsFrom n scope.names []).lookup x=none/\(cg X.env scope.names []).lookup x=some c):=by have e:=jH scope.names n [] (cg X.env scope.names []);rw[List.nil_append]at e;rw[e,List.lookup_append]at h;simp_all
theorem FL{x:Str}{c:Addr}(h:(cellsFrom n scope.names []).lookup x=some c):(cellsFrom n scope.names (cg X.env scope.names [])).lookup x=some c:=by
 have e:=jH scope.names n [] (cg X.env scope.names [])
 grind
theorem xn{x:Str}{c:Addr}(h:(cellsFrom n scope.names []).lookup x=none)(H:(cg X.env scope.names []).lookup x=some c):(cellsFrom n scope.names (cg X.env scope.names [])).lookup x=some c:=by
 have e:=jH scope.names n [] (cg X.env scope.names [])
 grind
theorem FN{m:Mg}{tk:Nat}(hc:X.calm=true)(I:Inv X pq σ H s)(S:eh X scope)(T:∀b∈fp,dD X pq H b)(U:∀b∈fp,∃o,s.heap.get? b=some o)
  (hn:h1.Ns s.heap.objs.size m) (old:∀b o,s.heap.get? b=some o->h1.get? b=some o) (f:CellsOk h1 (s.heap.objs.size+1) (cellsFrom (s.heap.objs.size+1) scope.names [])) (hl:σ'.length=N.length)
  (hσ:∀(i:Nat) (v:V) (x:Str),N[i]?=some x->σ'[i]?=some (some v)->scope.names.lookup x=some .free/\∃j:Nat,X.N[j]?=some x/\σ[j]?=some (some v)):
  Inv (fK X scope N s.heap.objs.size s H fp) (X.pn++pq) σ' H {s with heap:=h1,toks:=tk}:=by
 have lt:∀{b:Addr} {o:Obj},s.heap.get? b=some o->b≠s.heap.objs.size:=λe=>Zx (Zl e);have C:∀x c,(cg X.env scope.names []).lookup x=some c->X.env.cells.lookup x=some c:=λx c h=>r3 scope.names [] (λ_ z=>nomatch z) (x,c) (ZN h);have a:∀x c,X.env.cells.lookup x=some c->c<s.heap.objs.size:=λx c h=>by obtain⟨v,q⟩:=I.cell x c h;exact q.lt
 have O:∀x c,(cellsFrom (s.heap.objs.size+1) scope.names []).lookup x=some c->h1.IsCell c none/\s.heap.objs.size+1<=c:=λx c h=>f.empty x c (ZN h)
 have J:∀x c,(cellsFrom (s.heap.objs.size+1) scope.names []).lookup x=some c->scope.names.lookup x=some .cell:=λx c h=>by
  rcases r4 scope.names _ _ (ZN h)with z|z
  ·cases z
  ·exact S.cel _ z rfl
 have G:∀x,scope.names.lookup x=some .free->(cellsFrom (s.heap.objs.size+1) scope.names []).lookup x=none/\∃c,(cg X.env scope.names []).lookup x=some c:=λx h=>by
  refine⟨?_,?_⟩
  ·cases z:(cellsFrom (s.heap.objs.size+1) scope.names []).lookup x with
   |none=>rfl
   |some c=>have:=J x c z;rw[h]at this;cases this
  ·have hm:=ZN h;obtain⟨c,w⟩:=I.ok.has x (S.free _ hm rfl);exact xk (xj w scope.names [] hm)
 have K:∀x,((fK X scope N s.heap.objs.size s H fp).env.kindOf x=some .cell\/(fK X scope N s.heap.objs.size s H fp).env.kindOf x=some .free)->scope.names.lookup x=some .free\/scope.names.lookup x=some .cell:=λx h=>by
  have go:∀k,(k=NameKind.cell\/k=.free)->(relabel scope X.env).names.lookup x=some k->scope.names.lookup x=some .free\/scope.names.lookup x=some .cell:=λk W h=>by
   obtain⟨k',h1,g⟩:=xl h;rcases g with rfl| ⟨rfl,_⟩
   ·rcases W with rfl|rfl
    ·exact .inr h1
    ·exact .inl h1
   ·exact .inl h1
  rcases h with h|h
  ·exact go _ (.inl rfl) h
  ·exact go _ (.inr rfl) h
 have A:∀x y c,(cellsFrom (s.heap.objs.size+1) scope.names []).lookup x=some c->(cellsFrom (s.heap.objs.size+1) scope.names []).lookup y=some c->x=y:=λx y c h1 g=>by
  have m1:=ZN h1;have m2:=ZN g;have ap:=f.apart;generalize cellsFrom (s.heap.objs.size+1) scope.names []=l at m1 m2 ap
  induction l with
  |nil=>cases m1
  |cons p l ih=>
   obtain⟨a1,a2⟩:=ZH.mp ap
   grind
 refine⟨⟨I.ok.mod,?_,I.ok.glob,I.ok.blt,Zg _,λx y c h1 g=>?_,λx h=>?_,λx c h g=>?_,I.ok.hd,I.ok.frames,.inl rfl,λb D=>?_,I.bs,ZB I.ok.bsz I.sz,λb o e D=>?_,λb D=>?_,I.stack,I.stkFree⟩,
  rfl,I.bare,Un.kept old,⟨m,hn,λi x v e1 e2 e3=>?_⟩,λx c h=>?_,I.hok.fresh (Zg _),λx c h=>?_,λp hp=>?_,I.hok.kept old,hl⟩
 ·show(relabel scope X.env).kind=.function;unfold relabel;exact S.kind
 ·rcases gO h1 with z| ⟨_,z⟩<;>rcases gO g with Y| ⟨_,Y⟩
  ·exact A x y c z Y
  ·exact absurd (a _ _ (C _ _ Y)) (Nat.not_lt.mpr (Nat.le_of_succ_le (O _ _ z).2))
  ·exact absurd (a _ _ (C _ _ z)) (Nat.not_lt.mpr (Nat.le_of_succ_le (O _ _ Y).2))
  ·exact I.ok.inj x y c (C x c z) (C y c Y)
 ·rcases K x h with h|h
  ·obtain⟨z,c,t⟩:=G x h;exact⟨c,xn z t⟩
  ·have:=PySem.W.cellsFrom_some (x:=x) scope.names (s.heap.objs.size+1) [] (.inl h);obtain⟨c,t⟩:=Option.isSome_iff_exists.mp this;exact⟨c,FL t⟩
 ·have W:scope.names.lookup x=some .cell:=by simpa[fK]using h
  rcases gO g with z| ⟨z,_⟩
  ·exact Nat.le_of_succ_le (O _ _ z).2
  ·have:=PySem.W.cellsFrom_some (x:=x) scope.names (s.heap.objs.size+1) [] (.inl W);rw[z]at this;cases this
 ·obtain⟨f0,M,P,F,Q,f5⟩:=T b D;obtain⟨o,E⟩:=U b D;refine⟨lt E,λx c h=>?_⟩;rcases gO h with z| ⟨_,z⟩
  ·exact λq=>absurd (Zl E) (Nat.not_lt.mpr (q▸Nat.le_of_succ_le (O _ _ z).2))
  ·exact Q x c (C x c z)
 ·obtain⟨f0,M,P,F,Q,f5⟩:=T b D;rcases F with F|F
  ·exact I.ok.noex b o e F
  ·exact absurd (Zl (I.ok.bs b o e).1) (Nat.not_lt.mpr F)
 ·obtain⟨f0,M,P,F,Q,f5⟩:=T b D;exact jI I M P
 ·obtain⟨L,j,g2,g3⟩:=hσ i v x e1 e2;obtain⟨m0,_,l0⟩:=I.loc
  have hv:vO X.env.scope x:=by
   rcases S.free _ (ZN L) rfl with q|q
   ·exact .inr (.inl q)
   ·exact .inr (.inr q)
  obtain⟨u,r,q⟩:=l0 j x v g2 g3 hv;refine⟨u,r,.inr ⟨xm L,?_⟩⟩;obtain⟨z,c,f⟩:=G x L;have w:=C x c f;refine⟨c,xn z f,?_⟩;have B:=S.free _ (ZN L) rfl;rcases q with⟨q,_⟩| ⟨_,c',q1,q2⟩
  ·rcases B with B|B
   ·rw[q]at B;cases B
   ·rw[q]at B;cases B
  ·rw[w]at q1;cases q1;obtain⟨o,E,R⟩:=q2;exact⟨o,old _ _ E,R⟩
 ·rcases gO h with z| ⟨_,z⟩
  ·exact⟨none,(O _ _ z).1⟩
  ·obtain⟨v,o,E,R⟩:=I.cell x c (C x c z);exact⟨v,o,old _ _ E,R⟩
 ·rcases gO h with z| ⟨_,z⟩
  ·exact I.hok.fresh (Nat.le_of_succ_le (O _ _ z).2)
  ·exact I.freeC x c (C x c z)
 ·have Z:p∈X.pn++pq:=by simpa[fK]using hp
  obtain⟨e,n,ne,nf,d⟩:=I.pin p Z;exact⟨old _ _ e,n,lt e,jI I ne nf,d⟩
theorem FO{C:Addr}(I:Inv X pq σ H s)(j:∀b∈fp,dD X pq H b)(i:C=s.heap.objs.size)(J:Inv (fK X scope N C s H fp) pins' σ' H' s')(hs:Heap.SameBut C s'.heap h'):
  Inv X pq σ H' {s' with heap:=h'}:=by
 have ne:∀{b:Addr} {o:Obj},s.heap.get? b=some o->b≠C:=λe=>by rw[i];exact Zx (Zl e)
 have B:=J.base
 have u:Un _ _ H _ _ _:=
  ⟨λb o e n h a=>(hs.2 b (ne e)).trans (B.keep b o e n h a),λb o e n h a=>by obtain⟨sl,q⟩:=B.slot b o e n h a;exact⟨_,(hs.2 b (ne e)).trans q⟩,B.free,
   λb o e a=>by obtain⟨v,q⟩:=B.there b o e a;exact⟨_,(hs.2 b (ne e)).trans q⟩,B.tups,B.frzs,B.tbls⟩
 have d:H' C=none:=J.free
 have f:=λb O e=>by
  refine(J.hok b O e).stay (λc w t q=>(hs.2 c ?_).trans q) (λ_ q=>q) λ_ _ q=>q
  grind
 exact I.call' J.os u f J.bare λb h=>by obtain⟨F,k,l,m,p,r⟩:=j b h;lia
def PB(X:Cx)(body:Sem Unit)(t:L2.St->Hp->(L2.St->Hp->Prop)->Prop):Prop:=
 ∀(pq:Lp) (s:Shared) (σ:L2.St) (H:Hp) (Q:L2.St->Hp->Prop),Inv X pq σ H s->t σ H Q->wpAny (model X.prog X.w) X.A body (λ_ s'=>∃σ' H',Inv X pq σ' H' s'/\Q σ' H') X.xe s
theorem f_{a:Type}{m:Sem a}{Q:a->Shared->Prop}(H:X.xe=λ_ _=>False)(h:wpAny M A m Q X.xe s):wpAny M A m Q E s:=by rw[H]at h;exact wpAny_mono h (λ_ _ q=>q) λ_ _ z=>z.elim
noncomputable def iF:Expr->Bool
 | .ListComp .. =>true
 | .SetComp .. =>true
 |_=>false
theorem mn(h:iF ce=true){d:Nat}{it a:Value}:(model prog w).den (.compLoop ce d it a env)=(compTurn ce d it a env).onRaise (λx=>do noteFrame x env;theTreesLotGoes x)/\A.under (.compLoop ce d it a env)=A/\(model prog w).den (.compStart ce d it a env)=(compStart ce d it a env).onRaise (λx=>do noteFrame x env;standAt theWindowsPlace)/\A.under (.compStart ce d it a env)=A:=by cases ce<;>first|exact⟨rfl,rfl,rfl,rfl⟩|cases h
theorem xo{d:Nat}{c:Value}{p:Pos}{body:Sem Unit}{g:TG}{R:Result->Shared->Prop}{Fin:L2.St->Hp->Prop}
  (k:iF ce=true) (l:X.xe=λ_ _=>False) (P:X.calm=true)
  (D:compTurn ce d (.ref it) c X.env=(standAt p>>=λ_=>pyNext (.ref it)>>=λr=>match r with
   |none=>pure (.done .next)
   |some v=>letOwnedTupleGo tg (.ref it) v>>=λ_=>assign tg X.env v>>=λ_=>body>>=λ_=>again (.compLoop ce d (.ref it) c X.env)))
  (T:Turn X.prog X.w X.K tg J fp it tn) (hg:PG X tg g) (h:PB X body tb) (I:Inv X pq σ H s) (st:tn 0 s.heap) (Q:∀b∈fp,dD X pq H b)
  (W:∃W:Nat->Nat->L2.St->Hp->Prop,(∃m,W 0 m σ H)/\∀i m σ H,W i m σ H->
   (J.stop i H/\Fin σ H)\/(J.go i H/\∃Nx:L2.St->Hp->Prop,(∀σ' H',Nx σ' H'->∃M,M<m/\W (i+1) M σ' H')/\∀x H',J.yld i H x H'->g x σ H' λG H2=>tb G H2 Nx))
  (hR:∀s' σ' H',Inv X pq σ' H' s'->(∀b∈fp,H' b=none)->Fin σ' H'->R (.ok .next) s'):codeAny (model X.prog X.w) X.A (.compLoop ce d (.ref it) c X.env) R s:=by
 obtain⟨W,⟨m0,w0⟩,t⟩:=W;have S:∀{H':Hp},(∀b∈fp,H' b=none)->∀b∈fp,dD X pq H' b:=λhn b h=>⟨hn b h,(Q b h).2⟩;refine codeAny_loop rfl (λn s'=>∃i σ' H',Inv X pq σ' H' s'/\tn i s'.heap/\(∀b∈fp,H' b=none)/\W i n σ' H') ?_ m0 ⟨0,σ,H,I,st,λb h=>(Q b h).1,w0⟩;rintro n V ⟨i,a,z,O,q,f,w3⟩;rw[(mn (A:=X.A) k).1,(mn (prog:=X.prog) (w:=X.w) k).2.1];refine wpAny_noted ?_;rw[D];refine Za (wpAny_standAt ?_);rcases t i n a z w3 with⟨stop,qn⟩| ⟨go,Nx,hN,step⟩
 ·refine Za (f_ l (a' (T.done X rfl rfl rfl P i pq V a z X.xe O (S f) q stop) λr Y ⟨E,I4⟩=>?_));subst E;exact Ze (hR Y a z I4 f qn)
 ·refine Za (f_ l (a' (T.item X rfl rfl rfl P i pq V a z X.xe O (S f) q go) λr Y ⟨u,E,h4⟩=>?_));subst E;refine Za (f_ l (a' h4 λ_ s5 ⟨x,L,I5,r5,y5,j,F⟩=>?_));have B:=I5.pinned (S F) (T.obj _ _ j);refine Za (f_ l (a' (hg _ s5 a L x u _ B r5 (step x L y5)) λ_ s6 ⟨K,Z,I6,q6⟩=>?_));refine Za (f_ l (a' (h _ s6 K Z _ I6 q6) λ_ s7 ⟨y,N,C,n7⟩=>?_));refine Ze ?_;obtain⟨M,hm,w7⟩:=hN y N n7;refine⟨rfl,M,hm,i+1,y,N,C.unpinned,T.keep _ _ _ j λb h o e=>(C.pin (b,o) (Zu _ (Zu _ (lG h e)))).1,λb h=>?_,w7⟩;obtain⟨o,e,d⟩:=T.obj _ _ j b h;exact(C.pin (b,o) (Zu _ (Zu _ (lG h e)))).2.1
theorem xp{R:Result->Shared->Prop}{d:Nat}{it a:Value}{t i:Expr}{fs:Lx}(H:iF ce=true)(e:(clausesOf ce)[d]?=some ⟨t,i,fs,0⟩)
  (c:codeAny (model prog w) A (.compLoop ce d it a env) R s)
  (h:wpAny (model prog w) A (pyIter it) (λI s'=>codeAny (model prog w) A (.compLoop ce d I a env) R s') (notedBy (model prog w) A env λx s'=>R (.error x) s') s):
  codeAny (model prog w) A (.compStart ce d it a env) R s:=by
 refine codeAny_of_tree ?_;rw[(mn (A:=A) H).2.2.1,(mn (prog:=prog) (w:=w) H).2.2.2];refine wpAny_notedAt ?_;unfold compStart;rw[e];refine Za (wpAny_askSetting (wpAny_ite ?_));split
 ·first
   |grind
   |exact Ze (And.intro rfl c)
 ·first
   |exact Za (wpAny_rule (Za (wpAny_standAt (Za (wpAny_mono h (λI s' b=>Ze (And.intro rfl b)) λ_ _ x=>x)))))
   |simp_all
abbrev TU:=L2.St->Hp->(L2.St->Hp->Prop)->Prop
noncomputable def mq:List TT->(L2.St->Hp->(Bool->Hp->Prop)->Prop)
 | []=>λ_ H Q=>Q true H
 |t::r=>λσ H Q=>t σ H λb H1=>if b=true then mq r σ H1 Q else Q false H1
def xq(X:Cx):Lx->List TT->Prop
 | [],[]=>True
 |e::es,t::ts=>PT X e t/\xq X es ts
 |_,_=>False
theorem xr{M:Model}{A:Around}{E:Vs}{env:Env}{Q:Bool->Shared->Prop}{s:Shared}:∀(ifs:Lx),Q false s->
  wpAny M A (forIn ifs false λc r=>if r=true then do let ok <-isTrue c env (eval c env);pure (ForInStep.yield ok)else pure (ForInStep.yield r)) Q E s
 | [],h=>Ze h
 |c::r,h=>by rw[List.forIn_cons];exact Za (Ze (xr r h))
theorem xt:∀(ifs:Lx) (ts:List TT),xq X ifs ts->∀(pq:Lp) (s:Shared) (σ:L2.St) (H:Hp) (Q:Bool->Hp->Prop),Inv X pq σ H s->mq ts σ H Q->
  wpAny (model X.prog X.w) X.A (forIn ifs true λc r=>if r=true then do let ok <-isTrue c X.env (eval c X.env);pure (ForInStep.yield ok)else pure (ForInStep.yield r)) (TP X pq σ Q) X.xe s
 | [],[],_,pq,s,σ,H,Q,I,h=>Ze ⟨H,I,h⟩
 |e::E,t::ts,p,pq,s,σ,H,Q,I,h=>by
  rw[List.forIn_cons];refine Za (Za (a' (p.1 _ s _ H _ I h) λb S ⟨_,a,q⟩=>Ze ?_));cases b with
  |true=>exact xt _ _ p.2 _ _ _ _ Q a q
  |false=>exact xr _ ⟨_,a,q⟩
 | [],_::_,p,_,_,_,_,_,_,_=>p.elim
 |_::_,[],p,_,_,_,_,_,_,_=>p.elim
noncomputable def xu(a:Addr)(t:TE):TU:=λσ H Q=>t σ H λv H1=>∃ys,H1 a=some (.lst ys)/\ys.length<sizeLine/\Q σ (bg H1 a (.lst (ys++[v])))
noncomputable def xv(ts:List TT)(t:TU):TU:=λσ H Q=>mq ts σ H λb H1=>if b=true then t σ H1 Q else Q σ H1
noncomputable def r8(w:TI)(g:TG)(tb:TU):TU:=λσ H Q=>w σ H λJ H1=>∃W:Nat->Nat->L2.St->Hp->Prop,(∃m,W 0 m σ H1)/\∀i m σ H,W i m σ H->
   (J.stop i H/\Q σ H)\/(J.go i H/\∃N:L2.St->Hp->Prop,(∀σ' H',N σ' H'->∃M,M<m/\W (i+1) M σ' H')/\∀x H',J.yld i H x H'->g x σ H' λa H2=>tb a H2 N)
def jJ(o0:Addr->HO)(cs:L2.St->L2.St)(w:TI)(g:TG)(tb:Addr->TU):TE:=λσ H Q=>w σ H λJ H1=>∀acc,H1 acc=none->
 ∃W:Nat->Nat->L2.St->Hp->Prop,(∃m,W 0 m (cs σ) (bg H1 acc (o0 acc)))/\∀i m σ H,W i m σ H->
   (J.stop i H/\Q (.ref acc) H)\/(J.go i H/\∃N:L2.St->Hp->Prop,(∀σ' H',N σ' H'->∃M,M<m/\W (i+1) M σ' H')/\∀x H',J.yld i H x H'->g x σ H' λa H2=>tb acc a H2 N)
def mr(X:Cx)(scope:Scope)(N:Ls)(cs:L2.St->L2.St):Prop:=∀σ:L2.St,σ.length=X.N.length->(cs σ).length=N.length/\
 ∀(i:Nat) (v:V) (x:Str),N[i]?=some x->(cs σ)[i]?=some (some v)->scope.names.lookup x=some .free/\∃j:Nat,X.N[j]?=some x/\σ[j]?=some (some v)
theorem xw(I:Inv X pq σ H s)(S:eh X scope):closureFor scope X.env=pure (cg X.env scope.names []):=
 FJ λx a h=>I.ok.has _ (S.free x a h)
theorem FQ(H:Heap)(d:Obj)(n:List (Str×NameKind)):CellsOk (pushCells (H.push d) n) (H.objs.size+1) (cellsFrom (H.objs.size+1) n []):=by have:=cellsFrom_ok n (H.push d) (H.objs.size+1) _ ⟨(λ_ _ h=>by cases h),.nil⟩ (by simp_all);simp_all
theorem xx{G:List Comprehension}{O:Obj}{o0:Addr->HO}{mk:Sem Value}{scope:Scope}{N:Ls}{cs:L2.St->L2.St}{J:It}{g:TG}{tb:Addr->TU}{R:Value->Addr->Result->Shared->Prop}{Fin:V->Hp->Prop}
  {P:Lp} {σ:L2.St} {H:Hp}  {it:Addr} {f:La} {tn:Nat->Heap->Prop} {E:Vs} (D:iF ce=true) (hce:clausesOf ce=⟨tg,iter,ifs,0⟩::G) (hmk:∀{s:Shared} {Q:Vs},Q (.ref s.heap.objs.size) {s with heap:=s.heap.push O}->wpAny (model X.prog X.w) X.A mk Q E s) (hob:bw X.prog X.w (bg H s.heap.objs.size (o0 s.heap.objs.size)) (s.heap.push O) s.heap.objs.size (o0 s.heap.objs.size)) (hc:X.calm=true) (sc:eh X scope) (hcs:mr X scope N cs) (I:Inv X P σ H s) (T:Turn X.prog X.w X.K tg J f it tn) (st:tn 0 s.heap) (hf:∀b∈f,dD X P H b)
  (body:Addr->Env->Sem Unit)
  (heq:∀(acc:Addr) (env:Env),compTurn ce 0 (.ref it) (.ref acc) env=(standAt iter.pos>>=λ_=>pyNext (.ref it)>>=λr=>match r with
   |none=>pure (.done .next)
   |some v=>letOwnedTupleGo tg (.ref it) v>>=λ_=>assign tg env v>>=λ_=>body acc env>>=λ_=>again (.compLoop ce 0 (.ref it) (.ref acc) env)))
  (hin:∀(C:Addr) (s0:Shared) (H0:Hp) (f:La) (acc:Addr),PG (fK X scope N C s0 H0 f) tg g/\PB (fK X scope N C s0 H0 f) (body acc (fK X scope N C s0 H0 f).env) (tb acc))
  (W:∀acc,H acc=none->∃W:Nat->Nat->L2.St->Hp->Prop,(∃m,W 0 m (cs σ) (bg H acc (o0 acc)))/\∀i m σ H,W i m σ H->
   (J.stop i H/\Fin (.ref acc) H)\/(J.go i H/\∃Nx:L2.St->Hp->Prop,(∀σ' H',Nx σ' H'->∃m',m'<m/\W (i+1) m' σ' H')/\∀x H',J.yld i H x H'->g x σ H' λσ2 H2=>tb acc σ2 H2 Nx))
  (hR:∀(acc C:Addr) (s':Shared) (H':Hp) (m:Mg),s'.heap.Ns C m->C≠X.env.locals->(∀x c,X.env.cells.lookup x=some c->c≠C)->H' C=none->X.s₀.heap.objs.size<=C->(∀p∈X.pn++P,p.1≠C)->(∀h',Heap.SameBut C s'.heap h'->Inv X P σ H' {s' with heap:=h'})->Fin (.ref acc) H'->R (.ref acc) C (.ok .next) s'):
  wpAny (model X.prog X.w) X.A mk (λacc K=>wpAny (model X.prog X.w) X.A (newFunctionEnv scope X.env.globals (cg X.env scope.names []) [] X.env.qual none .none (some X.env)) (λl M=>
   codeAny (model X.prog X.w) X.A (.compStart ce 0 (.ref it) acc {l with scope:=relabel scope X.env}) (R acc l.locals) M) E K) E s:=by
 refine hmk (FK ?_);have hfr:H s.heap.objs.size=none:=I.hok.fresh (Zg _);have u:Inv X P σ (bg H s.heap.objs.size (o0 s.heap.objs.size)) {s with heap:=s.heap.push O,toks:=s.toks}:=I.laid (t':=s.toks) (λb o e=>Zb _ e) (Zg _) hob;have A:∀b∈f,∃o,s.heap.get? b=some o:=λb j=>by obtain⟨o,e,_⟩:=T.obj _ _ st b j;exact⟨o,e⟩
 have w:∀b∈f,dD X P (bg H s.heap.objs.size (o0 s.heap.objs.size)) b:=λb j=>by obtain⟨Z,f1⟩:=hf b j;obtain⟨o,y⟩:=A b j;exact⟨by rw[a_ (Zx (Zl y))];exact Z,f1⟩
 have F:∀b∈f,∃o,(s.heap.push O).get? b=some o:=λb j=>by obtain⟨o,y⟩:=A b j;exact⟨o,Zb _ y⟩
 obtain⟨k1,k2⟩:=hcs σ I.len;obtain⟨a,U⟩:∃a,a=pushCells ((s.heap.push O).push {cls:=.type "dict",data:=.dict #[]}) scope.names:=⟨_,rfl⟩;have n:∀b o,(s.heap.push O).get? b=some o->a.get? b=some o:=λb o e=>by rw[U];exact pushCells_keeps _ _ _ _ (Zb _ e)
 have k:a.Ns (s.heap.push O).objs.size λ_=>none:=by rw[U];exact⟨_,_,_,pushCells_keeps _ _ _ _ (Zi _ rfl),rfl,(λx h=>by simp at h),λ_=>rfl⟩
 have B:CellsOk a ((s.heap.push O).objs.size+1) (cellsFrom ((s.heap.push O).objs.size+1) scope.names []):=by rw[U];exact FQ _ _ _
 rw[<-U];have J0:=FN (tk:=s.toks) (N:=N) (scope:=scope) (σ':=cs σ) hc u sc w F k n B k1 k2;have old:∀b o,s.heap.get? b=some o->a.get? b=some o:=λb o e=>n b o (Zb _ e);have S:tn 0 a:=T.keep _ _ _ st λb _ o e=>old b o e;have hlt:X.env.locals<(s.heap.push O).objs.size:=u.lt
 have L:codeAny (model X.prog X.w) X.A (.compLoop ce 0 (.ref it) (.ref s.heap.objs.size) (fK X scope N (s.heap.push O).objs.size {s with heap:=s.heap.push O,toks:=s.toks} (bg H s.heap.objs.size (o0 s.heap.objs.size)) f).env)
   (R (.ref s.heap.objs.size) (s.heap.push O).objs.size) {s with heap:=a,toks:=s.toks}:=by
  obtain⟨p1,p2⟩:=hin (s.heap.push O).objs.size {s with heap:=s.heap.push O,toks:=s.toks} (bg H s.heap.objs.size (o0 s.heap.objs.size)) f s.heap.objs.size;refine xo (X:=fK X scope N _ _ _ f) (Fin:=λ_ H'=>Fin (.ref s.heap.objs.size) H') D rfl hc (heq _ _) T p1 p2 J0 S (λb j=>?_) ?_ ?_
  ·obtain⟨Z,f1,f2,f3,f4,f5⟩:=w b j;obtain⟨o,y⟩:=F b j;refine⟨Z,Zx (Zl y),jI u f1 f2,.inl j,λx c h=>?_,λp hp=>f5 p (by simpa[fK]using hp)⟩;rcases gO h with z| ⟨_,z⟩
   ·exact λq=>absurd (Zl y) (Nat.not_lt.mpr (q▸Nat.le_of_succ_le (B.empty x c (ZN z)).2))
   ·exact f4 x c (r3 scope.names [] (λ_ z=>nomatch z) (x,c) (ZN z))
  ·exact W _ hfr
  ·intro s' σ' H' Y _ aF;obtain⟨m,hm,_⟩:=id Y.loc;refine hR _ _ s' H' m hm (Nat.ne_of_gt hlt) (λx c h z=>?_) Y.free u.sz (λp hp z=>?_) (λh' hs'=>?_) aF
   ·obtain⟨v,q⟩:=u.cell x c h;exact absurd q.lt (by rw[z];exact Yf _)
   ·exact absurd (Zl (u.pin p hp).1) (by rw[z];exact Yf _)
   ·exact FO u w rfl Y hs'
 exact xp D (by rw[hce];rfl) L (T.self _ 0 _ _ _ S L)
theorem ms{R:List Comprehension}{pos:Pos}{cs:L2.St->L2.St}{g:TG}{tb:Addr->TU}(o:X.calm=true)(S:eh X scope)(a:mr X scope N cs)(hi:PI X tg iter wi)(body:Addr->Env->Sem Unit)
  (b:∀(it acc:Addr) (env:Env),compTurn (.ListComp elt (⟨tg,iter,ifs,0⟩::R) scope pos) 0 (.ref it) (.ref acc) env=(standAt iter.pos>>=λ_=>pyNext (.ref it)>>=λr=>match r with
   |none=>pure (.done .next)
   |some v=>letOwnedTupleGo tg (.ref it) v>>=λ_=>assign tg env v>>=λ_=>body acc env>>=λ_=>again (.compLoop (.ListComp elt (⟨tg,iter,ifs,0⟩::R) scope pos) 0 (.ref it) (.ref acc) env)))
  (c:∀(C:Addr) (f:Shared) (H0:Hp) (fp:La) (acc:Addr),PG (fK X scope N C f H0 fp) tg g/\PB (fK X scope N C f H0 fp) (body acc (fK X scope N C f H0 fp).env) (tb acc))
  (hs:∀x,foldedSetIterable iter X.env x=pure x:=by intro _;rfl):PE X (.ListComp elt (⟨tg,iter,ifs,0⟩::R) scope pos) (jJ (λ_=>.lst []) cs wi g tb):=by
 intro P s E H Q I h;refine wpAny_comprehension_free rfl hs (xw I S) S.kind S.loc (wpAny_mono (hi _ s _ H _ I h) (λv A k=>wpAny_mono k (λt B l=>?_) λ_ _ e=>e) λ_ _ e=>e);obtain⟨it,fp,D,J,w,e,j,T,i,F,W⟩:=l;subst e;refine xx (o0:=λ_=>.lst _) rfl rfl (λq=>wpAny_newObj_type q) ⟨Yj _,_,0,.nil,Zi _ rfl⟩ o S a j T i F _ (b _) c W ?_;intro acc C z u m p _ _ _ _ _ n aF;exact⟨m,p,λy d=>⟨.ref _,_,n _ d,rfl,aF⟩⟩
theorem mu{R:List Comprehension}{pos S P:Pos}{cs:L2.St->L2.St}{g:TG}{tb:Addr->TU}{x:Str}{j:Nat}(hc:X.calm=true)(hN:X.N.Nodup)(hj:X.N[j]?=some x)(G:X.env.scope.names.lookup x=some .local)
  (B:swapsWith (.ListComp elt (⟨tg,iter,ifs,0⟩::R) scope pos) (some (.Name x P)) S.line X.env=pure true)
  (c:eh X scope) (u:mr X scope N cs) (hi:PI X tg iter wi) (body:Addr->Env->Sem Unit)
  (w:∀(it acc:Addr) (env:Env),compTurn (.ListComp elt (⟨tg,iter,ifs,0⟩::R) scope pos) 0 (.ref it) (.ref acc) env=(standAt iter.pos>>=λ_=>pyNext (.ref it)>>=λr=>match r with
   |none=>pure (.done .next)
   |some v=>letOwnedTupleGo tg (.ref it) v>>=λ_=>assign tg env v>>=λ_=>body acc env>>=λ_=>again (.compLoop (.ListComp elt (⟨tg,iter,ifs,0⟩::R) scope pos) 0 (.ref it) (.ref acc) env)))
  (y:∀(C:Addr) (E:Shared) (H0:Hp) (fp:La) (acc:Addr),PG (fK X scope N C E H0 fp) tg g/\PB (fK X scope N C E H0 fp) (body acc (fK X scope N C E H0 fp).env) (tb acc))
  (hs:∀x,foldedSetIterable iter X.env x=pure x:=by intro _;rfl):PS X (.Assign [.Name x P] (.ListComp elt (⟨tg,iter,ifs,0⟩::R) scope pos) S) (qU (jJ (λ_=>.lst []) cs wi g tb) (eO j)):=by
 intro pq s L H D I h;rw[exec_Assign_Name_used _ _ _ _ B];refine Za (wpAny_standAt (Za ?_))
 refine Za (wpAny_mono (wpAny_comprehension_free rfl hs (xw I c) c.kind c.loc
  (wpAny_mono (hi pq s L H _ I h) (λv s1 V=>wpAny_mono V (λitv s2 Y=>?_) λ_ _ e=>e) λ_ _ e=>e)) (λ_ K hq=>Ze (Ze hq)) λ_ _ e=>e)
 obtain⟨it,fp,tn,J,H2,e,M,T,F,U,W⟩:=Y;subst e;refine xx (o0:=λ_=>.lst []) rfl rfl (λq=>wpAny_newObj_type q) ⟨Yj _,[],0,.nil,Zi _ rfl⟩ (Fin:=λv d=>eO j v L d D.nx) hc c u M T F U body (w it) y W ?_;intro acc C K d m hm l p f i k Z aF;have O:=by have:=Z K.heap (.refl ..);simpa using this
 refine wpAny_assign_Name (vQ O hN hj (.inl G) (v:=.ref acc) rfl (λs'' Q t=>?_) (.inr G));obtain⟨a,A,ha⟩:=t
 have n:C≠a:=by
  grind
 refine⟨m,hm.sameBut A n,λh' z=>?_⟩;exact⟨_,d,Q.turned (λb o hb e=>(z.2 b hb).trans e) f l (.inr i) p k,aF⟩
theorem aj.eraseIdx{m:GS}:∀{ds:List D} {vs:List V} (i:Nat),aj K m μ H ds vs->aj K m μ H (ds.eraseIdx i) (vs.eraseIdx i)
 | [],vs,i,h=>by subst h;rfl
 |d::ds,vs,0,h=>by obtain⟨v,u,rfl,r,q⟩:=h.uncons;exact q
 |d::ds,vs,i+1,h=>by obtain⟨v,u,rfl,r,q⟩:=h.uncons;exact .cons r (aj.eraseIdx i q)
noncomputable def r9(d:D)(ds:List D)(S:aa):Res D:=match d,ds with
 | .ref n,[.int i]=>match S[n]? with
  |some xs=>match gJ xs.length i with
   |some k=>match xs[k]? with
    |some y=>if xs.length<=bu then .ok y (S.set n (xs.eraseIdx k))else .fail
    |none=>.fail
   |none=>.fail
  |none=>.fail
 |_,_=>.fail
theorem mw:rE X "list.pop" (rM X.K X.mg r9):=by
 intro P s J H x C v U Q I t p h;obtain⟨F,G,S,d,D,c,m,R,w⟩:=h;unfold r9 at w;split at w
 ·split at w
  ·rename_i n i _ Y e;split at w
   ·rename_i k f;split at w
    ·rename_i y E;split at w
     ·obtain⟨a,vs,rfl,l,b,r⟩:=jF c m e;obtain⟨V,rfl,o⟩:=R.one;cases aK o;obtain⟨z,g,j⟩:=r.get E;obtain⟨q,u,A,B⟩:=rB f;rw[r.length]at q;exact Fh _ s _ H _ _ v _ Q I t p ⟨a,_,i,k,z,rfl,rfl,b,by lia,by lia,q,g,w.wrote c l b (r.eraseIdx k) j⟩
     ·exact w.elim
    ·exact w.elim
   ·exact w.elim
  ·exact w.elim
 ·exact w.elim
noncomputable def eB:List D->Option (Li)
 | []=>some []
 | .int i::r=>(eB r).map (i:: ·)
 |_=>none
theorem xy:∀{xs:List D} {ns:Li},eB xs=some ns->xs=ns.map D.int
 | [],ns,h=>by cases h;rfl
 |x::xs,ns,h=>by
  cases x with
  |int i=>
   unfold eB at h;cases e:eB xs with
   |none=>simp_all
   |some m=>rw[e]at h;cases h;rw[xy e];rfl
  |_=>cases h
noncomputable def jK(ds:List D)(S:aa):Res D:=match ds with
 | [d]=>match eH S d with
  |some xs=>match eB xs with
   |some (n::ns)=>.ok (.int (ns.foldl max n)) S
   |_=>.fail
  |none=>.fail
 |ds=>ml ds S
theorem FR{lt:Int->Int->Bool}(H:∀a b,g a b=if lt b a=true then b else a)(n:Int)(ns:Li):∀k,k<=ns.length->(n::ns).getD (argBest (λi j=>lt ((n::ns).getD i 0) ((n::ns).getD j 0)) k) 0=(ns.take k).foldl g n:=by
 intro k
 induction k with
 |zero=>intro _;rfl
 |succ k I=>
  intro h;have e:ns.take (k+1)=ns.take k++[ns[k]]:=by simp_all
  have E:(n::ns).getD (k+1) 0=ns[k]:=by grind
  rw[e,List.foldl_append,List.foldl_cons,List.foldl_nil,H,argBest];lia
theorem r_:∀{its:Lv},Vals (ns.map V.int) its->∀i v,its.toArray[i]?=some v->∃t,v=Value.int (ns.getD i 0) t:=λ{its} r i v a=>by
 have H:=r.length;simp at H;have h:=by simpa using a
 have b:i<ns.length:=by rw[H];exact(Zp.mp h).1
 have e:(ns.map V.int)[i]?=some (.int ns[i]):=by simp_all
 obtain⟨u,E,R⟩:=r.get e;obtain⟨t,rfl⟩:=R
 grind
theorem FU{m:GS}:∀(ns:Li) (vs:List V),aj K m μ H (ns.map D.int) vs->vs=ns.map V.int:=by
 intro ns
 induction ns with
 |nil=>intro vs r;exact r
 |cons n ns i=>intro vs r;obtain⟨v,w,rfl,R,a⟩:=r.uncons;cases aK R;rw[i _ a];rfl
theorem mx(B:X.calm=true):aW X (.builtin "max") (rC X.K X.mg jK):=by
 intro Z s σ H xs us Q I r h;obtain⟨F,D,S,ds,y,C,w⟩:=h;unfold jK at w;split at w
 ·rename_i d;obtain⟨v,rfl,rd⟩:=C.one;obtain⟨u,rfl,ru⟩:=vals1 r;split at w
  ·rename_i ys e;split at w
   ·rename_i n N J;have t:=xy J;subst t;obtain⟨a,vs,rfl,V,rr⟩:=dH y rd e;cases ru;have W:=FU _ vs rr;subst W;have M:X.A.in1.handled=none:=I.ok.hd B;obtain⟨f,R,p,hz⟩:=I.list (.of V);have U:f.toArray.size=N.length+1:=by rw[Zv,<-R.length,Zf];rfl
    refine call_max_walk (Yi p.isList ?_);have c:a<s.heap.objs.size:=by obtain⟨o,k,_⟩:=p.isList;exact Zl k
    have m:a≠s.heap.objs.size:=Zx c;refine⟨_,_,_,_,_,_,λi j=>decide ((n::N).getD i 0>(n::N).getD j 0),rfl,Walks.list M s.heap.objs.size a m f.toArray,⟨⟨_,Zi _ rfl,rfl,rfl⟩,Heap.IsList.push p.isList _⟩,?_,by omega,?_,λv A tk K Y=>?_⟩
    ·intro b L;have x:∀o,(s.heap.push o).objs.size=s.heap.objs.size+1:=λo=>by simp[Heap.push]
     have l:b=s.heap.objs.size\/b=a:=by simpa using L
     refine Nat.lt_of_lt_of_eq ?_ (x _).symm;rcases l with h|h
     ·rw[h];exact Nat.lt_succ_self _
     ·rw[h];exact Nat.lt_succ_of_lt c
    ·intro i j vi vj s' G E O P q;obtain⟨t1,rfl⟩:=r_ R i vi O;obtain⟨t2,rfl⟩:=r_ R j vj P;exact(PyProof.Rows.gt_int q:wpAny (model X.prog X.w) X.A.in1 (compareOp .Gt _ _) G E s')
    ·obtain⟨T,rfl⟩:=r_ R _ v K;rw[U]at*;have:=FR (g:=max) (lt:=λa b=>decide (a>b)) (λa b=>by simp only[decide_eq_true_eq];omega) n N N.length (Zg _);rw[List.take_length]at this;rw[show N.length+1-1=N.length from rfl,this];refine⟨.int (N.foldl max n),H,I.kept (h':=A) (t':=tk) λb o k=>Y b o ?_ (Zb _ k),⟨T,rfl⟩,w D H _ .refl y bG⟩;intro z;have z':b=s.heap.objs.size:=by simpa using z
     exact absurd (Zl k) (by rw[z'];exact Yf _)
   ·exact w.elim
  ·exact w.elim
 ·exact w9 B Z s σ H xs us Q I r ⟨F,D,S,_,y,C,w⟩
def my(ds:List D)(S:aa):Res D:=mj ds S
theorem FV(h:X.calm=true)(H:1=1):aW X (.builtin "min") (rC X.K X.mg my):=w8 h
mutual
noncomputable def xz:D->Option PyData
 | .non=>some .none
 | .bl b=>some (.bool b)
 | .int i=>some (.int i)
 | .str x=>some (.str x)
 | .tup ds=>(dJ ds).map .tuple
 | .lst ds=>(dJ ds).map .list
 |_=>none
noncomputable def dJ:List D->Option (List PyData)
 | []=>some []
 |d::ds=>match xz d,dJ ds with
  |some p,some ps=>some (p::ps)
  |_,_=>none
end
mutual
theorem FW(I:Inv X pq σ H s):∀(d:D) (v:V) (u:Value) (p:PyData),Rep X.K ⟨X.mg,F⟩ μ H d v->RelV v u->xz d=some p->p.hasDict=false/\∃as,Reads s.heap u p as
 | .non,v,u,p,r,q,h=>by cases gM r;have q:u=.none:=q;subst q;cases h;exact⟨rfl,_,.none⟩
 | .bl b,v,u,p,r,q,h=>by cases fZ r;have q:u=.bool b:=q;subst q;cases h;exact⟨rfl,_,.bool b⟩
 | .int i,v,u,p,r,q,h=>by cases aK r;obtain⟨t,rfl⟩:=q;cases h;exact⟨rfl,_,.int i t⟩
 | .str x,v,u,p,r,q,h=>by cases f6 r;obtain⟨t,rfl⟩:=q;cases h;exact⟨rfl,_,.str x t⟩
 | .tup c,v,u,p,r,q,h=>by
  obtain⟨a,vs,rfl,l,R⟩:=b4 r;have q:u=.ref a:=q;subst q;obtain⟨f,w,⟨o,g,j,n,k⟩,_⟩:=I.tuple l;have h:(dJ c).map PyData.tuple=some p:=h;cases e:dJ c with
  |none=>rw[e]at h;cases h
  |some P=>rw[e]at h;cases h;obtain⟨K,as,m⟩:=sd I c vs f P R w e;exact⟨K,as,.tuple g j k (by simpa using m)⟩
 | .lst c,v,u,p,r,q,h=>by
  unfold Rep at r;obtain⟨a,vs,rfl,l,_,R⟩:=r;have q:u=.ref a:=q;subst q;obtain⟨f,w,y,_⟩:=I.list (.of l);obtain⟨o,g,j,n,k⟩:=y.isList;have h:(dJ c).map PyData.list=some p:=h;cases e:dJ c with
  |none=>rw[e]at h;cases h
  |some P=>rw[e]at h;cases h;obtain⟨K,as,m⟩:=sd I c vs f P R w e;exact⟨K,_,.list g j k (by simpa using m)⟩
 | .ref _,v,u,p,r,q,h=>by cases h
 | .scr _,v,u,p,r,q,h=>by cases h
 | .fn _,v,u,p,r,q,h=>by cases h
 | .dct,v,u,p,r,q,h=>by cases h
 | .dks _,v,u,p,r,q,h=>by cases h
 | .ty _,v,u,p,r,q,h=>by cases h
theorem sd(I:Inv X pq σ H s):∀(ds:List D) (vs:List V) (us:Lv) (ps:List PyData),aj X.K ⟨X.mg,F⟩ μ H ds vs->Vals vs us->dJ ds=some ps->PyData.hasDictAll ps=false/\∃as,ReadsAll s.heap us ps as
 | [],vs,us,ps,r,q,h=>by unfold aj at r;subst r;cases q.zero;cases h;exact⟨rfl,_,.nil⟩
 |d::ds,vs,us,ps,r,q,h=>by
  obtain⟨w,W,rfl,R,f⟩:=r.uncons;obtain⟨u,U,rfl,Q,c⟩:=q.un;unfold dJ at h;split at h
  ·rename_i p P e E;cases h;obtain⟨k,as,K⟩:=FW I d w u p R Q e;obtain⟨a,bs,b⟩:=sd I ds W U P f c E;exact⟨by show(PyData.hasDict p||PyData.hasDictAll P)=false;rw[k,a];rfl,_,.cons K b⟩
  ·cases h
end
open PySem.SeqAt PySem.MeetsSeq PySem.MeetsSeq2 PySem.MeetsSeq3
open PySem.AutoSeq1 (wpAny_loadPart')
end Py
namespace Py
section
open PySem.AutoSeq1 (wpAny_loadPart')
open PySem.MeetsSeq PySem.MeetsSeq2 PySem.MeetsSeq3
open PySem.AutoSeq1
end
inductive ei where
 |int|seq (t:ei)
 deriving DecidableEq
inductive jL where
 |len|tuple|list (box:Bool)|int|min|max|isinst|all|any|sum|repr|abs|str|sorted (box:Bool) (t:ei)
 deriving DecidableEq
inductive qd where
 |append|extend|pop|count|insert|index
 deriving DecidableEq
inductive CT where
 |var (i:Nat)
 |tup (ts:List CT)
inductive FP where
 |s (x:Str)|v (i:Nat)|g (y:Str)
 deriving DecidableEq
inductive CE where
 |var (i:Nat)
 |lit (d:D)
 |glob (x:Str)
 |ty (n:String)
 |bin (op:Operator) (a b:CE)
 |binB (a b:CE)
 |catB (a b:CE)
 |neg (a:CE)
 |cmp (op:CmpOp) (a b:CE)
 |chain (op op':CmpOp) (a b c:CE)
 |chain3 (op op' op'':CmpOp) (a b c d:CE)
 |band (a b:CE)
 |bor (a b:CE)
 |bnot (a:CE)
 |ite (c a b:CE)
 |tup (es:List CE)
 |lst (box:Bool) (es:List CE)
 |idx (a b:CE)
 |sl (a:CE) (lo hi:List CE)
 |call (f:Str) (es:List CE)
 |blt (b:jL) (es:List CE)
 |meth (m:qd) (o:CE) (es:List CE)
 |tix (o:CE) (es:List CE)
 |sel (fs:Ls) (i:CE) (es:List CE)
 |fst (ps:List FP)
 |lenset (a:CE)
 |sumL (a:CE)
 |sset (a:CE)
 |rng (tup box:Bool) (es:List CE)
 |comp (box:Bool) (N:Ls) (fr:List (Option Nat)) (tg:CT) (it:CE) (ifs:List CE) (body:CE)
 |emit (e:CE)
 |ssc (N:Ls) (fr:List (Option Nat)) (tg:CT) (it:CE) (ifs:List CE) (body:CE)
 |emitK (e:CE)
 |sortd (a:CE)
 |inner (tg:CT) (it:CE) (ifs:List CE) (body:CE)
 |seq (e:CE)
 |range (es:List CE)
 |zip (es:List CE)
 |down (es:List CE)
 |dct
 |rev (a b:CE)
 |odd (a b c:CE)
 |evn (a b:CE)
 |rv0 (a b c:CE)
 |enum (es:List CE)
 |revl (es:List CE)
 |by2 (es:List CE)
inductive CS where
 |asg (i:Nat) (e:CE)
 |asgT (t:CT) (e:CE)
 |par (is:List Nat) (es:List CE)
 |aug (i:Nat) (e:CE)
 |set (o i v:CE)
 |set2 (o i o' i' v:CE)
 |expr (e:CE)
 |ret (e:CE)
 |retN
 |pass
 |brk
 |cont
 |ite (c:CE) (a b:List CS)
 |for_ (t:CT) (it:CE) (body:List CS)
 |while_ (n:Nat) (c:CE) (body:List CS)
 |never
 |raise_ (x:Str) (es:List CE)
 |tryK (i:Nat) (body:List CS) (f:Str) (ys ws:Ls)
 |dloop (i:Nat) (t:CT) (it:CE) (ps:List (Option CE×CE))
abbrev bD:=List (Option D)
abbrev FT:=Str->Option (List D->aa->Res D)
noncomputable def Res.bind{b c:Type}(r:Res b)(f:b->aa->Res c):Res c:=match r with
 | .ok a S=>f a S
 | .err x S=>.err x S
 | .fail=>.fail
noncomputable def Res.noErr{b:Type}:Res b->Res b
 | .ok a S=>.ok a S
 |_=>.fail
noncomputable def bi{a:Type}(d:D)(f:Bool->Res a):Res a:=match d with
 | .bl k=>f k
 |_=>.fail
noncomputable def cH:List CT->List D->bD->Option bD
 | [],ds,ρ=>if ds.isEmpty=true then some ρ else none
 |t::ts,ds,ρ=>match t,ds with
  | .var i,d::ds=>cH ts ds (ρ.set i (some d))
  |_,_=>none
noncomputable def aE:CT->D->bD->Option bD
 | .var i,d,ρ=>some (ρ.set i (some d))
 | .tup ts,d,ρ=>match d with
  | .tup ds=>cH ts ds ρ
  |_=>none
noncomputable def fL:List CT->List Nat
 | []=>[]
 |t::ts=>match t with
  | .var i=>i::fL ts
  | .tup _=>fL ts
def slots:CT->List Nat
 | .var i=>[i]
 | .tup ts=>fL ts
noncomputable def cj:bD->List Nat->Bool
 |ρ,is=>is.all λi=>match ρ[i]? with
  |some none=>true
  |_=>false
noncomputable def aI(t:CT)(d:D)(ρ:bD):Option bD:=if cj ρ (slots t)=true then aE t d ρ else none
inductive iG where
 |items (xs:List D)|live (f:Nat) (get:aa->Nat->Option (Option D))
noncomputable def bx(step:D->List D->aa->Res (List D)):List D->List D->aa->Res (List D)
 | [],acc,S=>.ok acc S
 |x::xs,acc,S=>(step x acc S).bind λa S'=>bx step xs a S'
noncomputable def bz(step:D->List D->aa->Res (List D))(get:aa->Nat->Option (Option D)):Nat->Nat->List D->aa->Res (List D)
 |0,_,_,_=>.fail
 |f+1,i,acc,S=>match get S i with
  |none=>.fail
  |some none=>.ok acc S
  |some (some x)=>(step x acc S).bind λa S'=>bz step get f (i+1) a S'
noncomputable def bM(step:D->List D->aa->Res (List D))(its:iG)(a:List D)(S:aa):Res (List D):=match its with
 | .items xs=>bx step xs a S
 | .live f get=>bz step get f 0 a S
noncomputable def bN(n:Nat):aa->Nat->Option (Option D):=λS i=>(S[n]?).map λxs=>xs[i]?
noncomputable def cB(S:aa):D->Option iG
 | .tup xs=>some (.items xs)
 | .lst xs=>some (.items xs)
 | .scr xs=>some (.items xs)
 | .ref n=>some (.live (((S[n]?).getD []).length+1) (bN n))
 |_=>none
noncomputable def f':D->Option (List D)
 | .tup xs=>some xs
 | .lst xs=>some xs
 | .scr xs=>some xs
 |_=>none
noncomputable def mz(d e:D):aa->Nat->Option (Option D):=λS i=>match av S d,av S e with
 |some xs,some ys=>some (match xs[i]?,ys[i]? with
  |some x,some y=>some (.tup [x,y])
  |_,_=>none)
 |_,_=>none
def dL:D->Bool
 | .tup _=>false
 |_=>true
noncomputable def fy(S:aa)(d e:D):Option iG:=match f' d,f' e with
  |some xs,some ys=>some (.items (List.zipWith (λx y=>.tup [x,y]) xs ys))
  |_,_=>match av S d,av S e with
   |some xs,some ys=>some (.live (min xs.length ys.length+1) (mz d e))
   |_,_=>none
noncomputable def eP(lo:Int):Nat->List D
 |0=>[]
 |n+1=>.int lo::eP (lo+1) n
noncomputable def dg:Nat->List D->List D
 |_,[]=>[]
 |k,x::xs=>.tup [.int (k:Nat),x]::dg (k+1) xs
def cU:Nat->List D
 |0=>[]
 |n+1=>.int (n:Nat)::cU n
noncomputable def dh:List D->Option (Option Int)
 | []=>some none
 | [.int i]=>some (some i)
 |_=>none
noncomputable def cN(ds:List D)(S:aa):Res (Option Int):=match dh ds with
 |some o=>.ok o S
 |none=>.fail
noncomputable def aw:ei->D->Bool
 | .int,.int _=>true
 | .seq t,.tup xs=>xs.all (aw t)
 |_,_=>false
noncomputable def bO(f:D->D->Bool):List D->List D->Bool
 | [],[]=>false
 | [],_::_=>true
 |_::_,[]=>false
 |x::xs,y::ys=>if f x y=true then true else if f y x=true then false else bO f xs ys
noncomputable def bL:ei->D->D->Bool
 | .int,.int i,.int j=>decide (i<j)
 | .seq t,.tup xs,.tup ys=>bO (bL t) xs ys
 |_,_,_=>false
noncomputable def insB(f:D->D->Bool)(x:D):List D->List D
 | []=>[x]
 |y::ys=>if f x y=true then x::y::ys else y::insB f x ys
noncomputable def eQ(f:D->D->Bool)(xs:List D):List D:=xs.foldl (λacc x=>insB f x acc) []
def bP:ei->Bool
 | .int=>true
 | .seq t=>bP t
def dM:D->Bool
 | .tup []=>true
 |_=>false
noncomputable def iH:ei->List D->Bool
 | .int,_=>true
 | .seq t,xs=>bP t&&((xs.all λd=> !dM d)||dM (xs.headD .non))
noncomputable def fM(box:Bool)(t:ei)(ds:List D)(S:aa):Res D:=match ds with
 | [d]=>match av S d with
  |some xs=>if xs.all (aw t)=true/\xs.length<65536/\iH t xs=true then(if box=true then .ok (.ref S.length) (S++[eQ (bL t) xs])else .ok (.lst (eQ (bL t) xs)) S)else .fail
  |none=>.fail
 |_=>.fail
def cI:D->Option Int
 | .int i=>some i
 |_=>none
def eI(ns:Li):Li:=ns.foldl step_dedup []
def ii:D->Li
 | .tup ds=>ds.filterMap cI
 |_=>[]
noncomputable def gP(K:List (Li)):List (Li):=K.foldl (λacc k=>if acc.contains k=true then acc else acc++[k]) []
noncomputable def jM(d:D)(S:aa):Res D:=match av S d with
  |some xs=>if xs.all (aw .int)=true/\xs.length<1000 then .ok (.int ((eI (xs.filterMap cI)).length:Nat)) S else
   if xs.all (aw (.seq .int))=true/\xs.length<76 then .ok (.int ((gP (xs.map ii)).length:Nat)) S else .fail
  |none=>.fail
noncomputable def jN:D->Bool
 | .int n=>decide (0<=n)&&decide (n<8)
 |_=>false
noncomputable def ga(d:D)(S:aa):Res D:=match av S d with
 |some xs=>if xs.all jN=true then .ok (.lst (((List.range 8).filter λk:Nat=>(xs.filterMap cI).contains (k:Int)).map λk:Nat=>D.int k)) S else .fail
 |none=>.fail
def ck:ei->Nat
 | .int=>1
 | .seq t=>ck t+1
noncomputable def se:jL->Bool
 | .sorted _ t=>decide (ck t<=40)
 | .sum=>false
 | .repr=>false
 | .abs=>false
 | .str=>false
 |_=>true
noncomputable def bj:jL->List D->aa->Res D
 | .len=>fJ| .tuple=>me| .list b=>jB b| .int=>intD| .min=>my| .max=>jK| .isinst=>gN| .all=>jD| .any=>f8| .sum=>λ_ _=>.fail | .repr=>λ_ _=>.fail | .abs=>λ_ _=>.fail | .str=>λ_ _=>.fail
 | .sorted b t=>fM b t
noncomputable def xA(d:D)(ds:List D)(S:aa):Res D:=match ds with
 | []=>jG d [] S
 |ds=>r9 d ds S
noncomputable def cJ:qd->D->List D->aa->Res D
 | .append=>fc| .extend=>f9| .pop=>xA| .count=>λ_ _ _=>.fail | .insert=>λ_ _ _=>.fail | .index=>λ_ _ _=>.fail
section
variable (Φ:FT)(Γ:Str->Option D)
mutual
noncomputable def ak:CE->bD->aa->Res D
 | .var i,ρ,S=>match ρ[i]? with
  |some (some d)=>.ok d S
  |_=>.fail
 | .dct,ρ,S=>.ok .dct S
 | .lit d,ρ,S=>.ok d S
 | .glob x,ρ,S=>match Γ x with
  |some d=>.ok d S
  |none=>.fail
 | .ty n,ρ,S=>.ok (.ty n) S
 | .bin op a b,ρ,S=>(ak a ρ S).bind λd S1=>(ak b ρ S1).bind λe S2=>(dy op d e S2).noErr
 | .binB a b,ρ,S=>(ak a ρ S).bind λd S1=>(ak b ρ S1).bind λe S2=>(ie d e S2).noErr
 | .catB _ _,_,_=>.fail
 | .neg a,ρ,S=>(ak a ρ S).bind λd S1=>match d with
  | .int i=>.ok (.int (-i)) S1
  |_=>.fail
 | .cmp op a b,ρ,S=>(ak a ρ S).bind λd S1=>(ak b ρ S1).bind λe S2=>(a7 op d e S2).noErr
 | .chain3 _ _ _ _ _ _ _,_,_=>.fail
 | .chain op op' a b c,ρ,S=>(ak a ρ S).bind λd S1=>(ak b ρ S1).bind λe S2=>(a7 op d e S2).noErr.bind λk S3=>bi k λk=>if k=true then(ak c ρ S3).bind λf p=>(a7 op' e f p).noErr else .ok (.bl false) S3
 | .band a b,ρ,S=>(ak a ρ S).bind λd S1=>bi d λk=>if k=true then ak b ρ S1 else .ok (.bl false) S1
 | .bor a b,ρ,S=>(ak a ρ S).bind λd S1=>bi d λk=>if k=true then .ok (.bl true) S1 else ak b ρ S1
 | .bnot a,ρ,S=>(ak a ρ S).bind λd S1=>match bU S1 d with
  |some k=>.ok (.bl (!k)) S1
  |none=>.fail
 | .ite c a b,ρ,S=>(au c ρ S).bind λk S1=>if k=true then ak a ρ S1 else ak b ρ S1
 | .tup es,ρ,S=>(am es ρ S).bind λds S1=>.ok (.tup ds) S1
 | .lst box es,ρ,S=>(am es ρ S).bind λds S1=>if box=true then .ok (.ref S1.length) (S1++[ds])else .ok (.lst ds) S1
 | .rev _ _,_,_=>.fail
 | .rv0 _ _ _,_,_=>.fail
 | .evn _ _,_,_=>.fail
 | .odd _ _ _,_,_=>.fail
 | .idx a b,ρ,S=>(ak a ρ S).bind λd S1=>(ak b ρ S1).bind λe S2=>(bh d e S2).noErr
 | .sl a lo hi,ρ,S=>(ak a ρ S).bind λd S1=>((am lo ρ S1).bind cN).bind λl S2=>((am hi ρ S2).bind cN).bind λh S3=>(ji d l h S3).noErr
 | .call f es,ρ,S=>match Φ f with
  |some φ=>(am es ρ S).bind λds S1=>φ ds S1
  |none=>.fail
 | .blt b es,ρ,S=>(am es ρ S).bind λds S1=>(bj b ds S1).noErr
 | .meth m o es,ρ,S=>(ak o ρ S).bind λd S1=>match d with
  | .ref n=>(am es ρ S1).bind λds S2=>(cJ m (.ref n) ds S2).noErr
  |_=>.fail
 | .fst _,_,_=>.fail
 | .sel _ _ _,_,_=>.fail
 | .tix _ _,_,_=>.fail
 | .lenset a,ρ,S=>(ak a ρ S).bind λd S1=>(jM d S1).noErr
 | .sumL _,_,_=>.fail
 | .sset a,ρ,S=>(ak a ρ S).bind λd S1=>(ga d S1).noErr
 | .sortd _,_,_=>.fail
 | .rng _ _ _,_,_=>.fail
 | .comp box N fr tg it ifs body,ρ,S=>(aL it ρ S).bind λits S1=>
   (bM (λx acc S2=>match aI tg x (fr.map λj=>j.bind λj=>(ρ[j]?).join)with
    |some ρ'=>(ax ifs ρ' S2).bind λk S3=>if k=true then aP body ρ' acc S3 else .ok acc S3
    |none=>.fail) its [] S1).noErr.bind λys g=>if box=true then .ok (.ref g.length) (g++[ys])else .ok (.lst ys) g
 | .ssc _ _ _ _ _ _,_,_=>.fail
 | .emit _,_,_=>.fail
 | .emitK _,_,_=>.fail
 | .inner _ _ _ _,_,_=>.fail
 | .seq _,_,_=>.fail
 | .range _,_,_=>.fail
 | .zip _,_,_=>.fail
 | .down _,_,_=>.fail
 | .enum _,_,_=>.fail
 | .revl _,_,_=>.fail
 | .by2 _,_,_=>.fail
noncomputable def au:CE->bD->aa->Res Bool
 | .band a b,ρ,S=>(au a ρ S).bind λk S1=>if k=true then au b ρ S1 else .ok false S1
 | .bor a b,ρ,S=>(au a ρ S).bind λk S1=>if k=true then .ok true S1 else au b ρ S1
 | .bnot a,ρ,S=>(au a ρ S).bind λk S1=>.ok (!k) S1
 | .cmp op a b,ρ,S=>(ak a ρ S).bind λd S1=>(ak b ρ S1).bind λe S2=>(a7 op d e S2).noErr.bind λk S3=>bi k λk=>.ok k S3
 | .chain3 _ _ _ _ _ _ _,_,_=>.fail
 | .chain op op' a b c,ρ,S=>(ak a ρ S).bind λd S1=>(ak b ρ S1).bind λe S2=>(a7 op d e S2).noErr.bind λk S3=>bi k λk=>if k=true then(ak c ρ S3).bind λf g=>(a7 op' e f g).noErr.bind λk h=>bi k λk=>.ok k h else .ok false S3
 | .var i,ρ,S=>match ρ[i]? with
  |some (some d)=>match bU S d with
   |some k=>.ok k S
   |none=>.fail
  |_=>.fail
 | .call f es,ρ,S=>match Φ f with
  |some φ=>(am es ρ S).bind λds S1=>(φ ds S1).bind λd S2=>match bU S2 d with
   |some k=>.ok k S2
   |none=>.fail
  |none=>.fail
 | .blt b es,ρ,S=>(am es ρ S).bind λds S1=>(bj b ds S1).noErr.bind λd S2=>match bU S2 d with
   |some k=>.ok k S2
   |none=>.fail
 | .lit d,ρ,S=>match bU S d with
   |some k=>.ok k S
   |none=>.fail
 |_,_,_=>.fail
noncomputable def am:List CE->bD->aa->Res (List D)
 | [],_,S=>.ok [] S
 |e::es,ρ,S=>(ak e ρ S).bind λd S1=>(am es ρ S1).bind λds S2=>.ok (d::ds) S2
noncomputable def ax:List CE->bD->aa->Res Bool
 | [],_,S=>.ok true S
 |e::es,ρ,S=>(au e ρ S).bind λk S1=>if k=true then ax es ρ S1 else .ok false S1
noncomputable def aL:CE->bD->aa->Res iG
 | .seq e,ρ,S=>(ak e ρ S).bind λd S1=>match cB S1 d with
  |some xs=>.ok xs S1
  |none=>.fail
 | .range es,ρ,S=>(am es ρ S).bind λds S1=>match ds with
  | [.int j]=>if-(2^62)<=j/\j<2^62 then .ok (.items (eP 0 j.toNat)) S1 else .fail
  | [.int i,.int j]=>if-(2^62)<=i/\i<2^62/\ -(2^62)<=j/\j<2^62 then .ok (.items (eP i (j-i).toNat)) S1 else .fail
  |_=>.fail
 | .enum es,ρ,S=>(am es ρ S).bind λds S1=>match ds with
  | [d]=>(match f' d with
   |some xs=>.ok (.items (dg 0 xs)) S1
   |none=>.fail)
  |_=>.fail
 | .by2 _,_,_=>.fail
 | .revl _,_,_=>.fail
 | .down es,ρ,S=>(am es ρ S).bind λds S1=>match ds with
  | [.int j]=>if-(2^62)<=j/\j<2^62 then .ok (.items (cU j.toNat)) S1 else .fail
  |_=>.fail
 | .zip es,ρ,S=>(am es ρ S).bind λds S2=>match ds with
  | [d,e]=>(match fy S2 d e with
   |some its=>.ok its S2
   |none=>.fail)
  |_=>.fail
 |_,_,_=>.fail
noncomputable def aP:CE->bD->List D->aa->Res (List D)
 | .emit e,ρ,acc,S=>(ak e ρ S).bind λy S1=>if acc.length<bu then .ok (acc++[y]) S1 else .fail
 | .emitK _,_,_,_=>.fail
 | .inner tg it ifs body,ρ,acc,S=>(aL it ρ S).bind λits S1=>
   bM (λx acc S2=>match aI tg x ρ with
    |some ρ'=>(ax ifs ρ' S2).bind λk S3=>if k=true then aP body ρ' acc S3 else .ok acc S3
    |none=>.fail) its acc S1
 |_,_,_,_=>.fail
end
inductive Fl where
 |next(ρ:bD)|ret (d:D)|brk (ρ:bD)|cont (ρ:bD)
noncomputable def b3(step:D->bD->aa->Res Fl):List D->bD->aa->Res Fl
 | [],ρ,S=>.ok (.next ρ) S
 |x::xs,ρ,S=>(step x ρ S).bind λf S'=>match f with
  | .next ρ'=>b3 step xs ρ' S'
  | .cont ρ'=>b3 step xs ρ' S'
  | .brk ρ'=>.ok (.next ρ') S'
  | .ret d=>.ok (.ret d) S'
noncomputable def dN(step:D->bD->aa->Res Fl)(get:aa->Nat->Option (Option D)):Nat->Nat->bD->aa->Res Fl
 |0,_,_,_=>.fail
 |f+1,i,ρ,S=>match get S i with
  |none=>.fail
  |some none=>.ok (.next ρ) S
  |some (some x)=>(step x ρ S).bind λF S'=>match F with
    | .next ρ'=>dN step get f (i+1) ρ' S'
    | .cont ρ'=>dN step get f (i+1) ρ' S'
    | .brk ρ'=>.ok (.next ρ') S'
    | .ret d=>.ok (.ret d) S'
noncomputable def sf(step:D->bD->aa->Res Fl)(its:iG)(ρ:bD)(S:aa):Res Fl:=match its with
 | .items xs=>b3 step xs ρ S
 | .live f get=>dN step get f 0 ρ S
noncomputable def fN(c:bD->aa->Res Bool)(step:bD->aa->Res Fl):Nat->bD->aa->Res Fl
 |0,_,_=>.fail
 |n+1,ρ,S=>(c ρ S).bind λk S1=>if k=true then(step ρ S1).bind λf S'=>match f with
   | .next ρ'=>fN c step n ρ' S'
   | .cont ρ'=>fN c step n ρ' S'
   | .brk ρ'=>.ok (.next ρ') S'
   | .ret d=>.ok (.ret d) S'
  else .ok (.next ρ) S1
mutual
noncomputable def aD:CS->bD->aa->Res Fl
 | .asg i e,ρ,S=>(ak Φ Γ e ρ S).bind λd S1=>.ok (.next (ρ.set i (some d))) S1
 | .asgT t e,ρ,S=>(ak Φ Γ e ρ S).bind λd S1=>match aE t d ρ with
  |some ρ'=>.ok (.next ρ') S1
  |none=>.fail
 | .par _ _,_,_=>.fail
 | .aug _ _,_,_=>.fail
 | .set o i v,ρ,S=>(ak Φ Γ v ρ S).bind λf S1=>(ak Φ Γ o ρ S1).bind λd S2=>(ak Φ Γ i ρ S2).bind λe S3=>match iE d e f S3 with
  |some g=>.ok (.next ρ) g
  |none=>.fail
 | .set2 _ _ _ _ _,_,_=>.fail
 | .expr e,ρ,S=>(ak Φ Γ e ρ S).bind λ_ S1=>.ok (.next ρ) S1
 | .ret e,ρ,S=>(ak Φ Γ e ρ S).bind λd S1=>.ok (.ret d) S1
 | .retN,_,S=>.ok (.ret .non) S
 | .pass,ρ,S=>.ok (.next ρ) S
 | .brk,ρ,S=>.ok (.brk ρ) S
 | .cont,ρ,S=>.ok (.cont ρ) S
 | .ite c a b,ρ,S=>(au Φ Γ c ρ S).bind λk S1=>if k=true then ah a ρ S1 else ah b ρ S1
 | .for_ t it body,ρ,S=>(aL Φ Γ it ρ S).bind λxs S1=>sf (λx ρ S=>match aE t x ρ with
   |some ρ'=>ah body ρ' S
   |none=>.fail) xs ρ S1
 | .while_ n c body,ρ,S=>fN (au Φ Γ c) (ah body) n ρ S
 | .never,_,_=>.fail
 | .dloop _ _ _ _,_,_=>.fail
 | .raise_ _ _,_,_=>.fail
 | .tryK _ _ _ _ _,_,_=>.fail
noncomputable def ah:List CS->bD->aa->Res Fl
 | [],ρ,S=>.ok (.next ρ) S
 |c::cs,ρ,S=>(aD c ρ S).bind λf S1=>match f with
  | .next ρ'=>ah cs ρ' S1
  |f=>.ok f S1
end
end
end Py
variable {body:List Py.CS}{ρ ρ' r0:Py.bD}{Φ:Py.FT}
namespace Py
def xB(m:Mg)(x:Exc)(cls:Value)(d:Option Addr)(H:Hp):Prop:=m x.cls=some cls/\x.fs=[]
def xC(m:Mg)(E:XK)(x:Exc)(H:Hp):Prop:=∀cls d,xB m x cls d H->E cls d H
def al{c d:Type}(K:Fg)(m:GS)(E:XK)(Rel:La->Hp->c->d->Prop)(μ:La)(H:Hp)(Q:d->Hp->Prop):Res c->Prop
 | .ok a S'=>∀μ' H' b,Ext μ H μ' H'->aQ K m μ' S' H'->Rel μ' H' a b->Q b H'
 | .err x S'=>∀μ' H',Ext μ H μ' H'->aQ K m μ' S' H'->xC m.mg E x H'
 | .fail=>False
section
variable {mg:GS}{E:XK}
theorem dO{Q:VK}{r:Res D}(w:al K mg E (Rep K mg) μ H Q r.noErr):aZ K mg μ H Q r:=by cases r<;>first|exact w|exact w.elim
theorem al.ext{b:Type}{Rel:La->Hp->b->β->Prop}{Q:β->Hp->Prop}{r:Res b}(x:Ext μ H μ' H')(w:al K mg E Rel μ H Q r):al K mg E Rel μ' H' Q r:=by
 cases r with
 |ok d S=>exact λa c v X s R=>w _ _ v (x.trans X) s R
 |err y S=>exact λa c X s=>w _ _ (x.trans X) s
 |fail=>exact w
theorem al.bind{c d e:Type}{Rel:La->Hp->c->β->Prop}{R:La->Hp->d->e->Prop}{Q:e->Hp->Prop}{r:Res c}{f:c->aa->Res d}(w:al K mg E R μ H Q (r.bind f)):
  al K mg E Rel μ H (λb H'=>∃μ' S' a,Ext μ H μ' H'/\aQ K mg μ' S' H'/\Rel μ' H' a b/\al K mg E R μ' H' Q (f a S')) r:=by
 cases r with
 |ok a S'=>exact λg h b x s r=>⟨_,_,a,x,s,r,al.ext x (show al K _ E _ _ H Q _ from w)⟩
 |err y S'=>exact w
 |fail=>exact w
theorem al.mono{d:Type}{Rel:La->Hp->d->β->Prop}{Q c:β->Hp->Prop}{r:Res d}(w:al K mg E Rel μ H Q r)(h:∀b H',Q b H'->c b H'):al K mg E Rel μ H c r:=by
 cases r with
 |ok a S=>exact λe f b x s r=>h b _ (w _ _ b x s r)
 |err y S=>exact w
 |fail=>exact w
def be(K:Fg)(m:GS)(μ:La)(H:Hp)(ρ:bD)(σ:L2.St):Prop:=
 ρ.length=σ.length/\∀(i:Nat) (d:D),ρ[i]?=some (some d)->∃v,σ[i]?=some (some v)/\Rep K m μ H d v
theorem be.mono(x:Ext μ H μ' H')(h:be K mg μ H ρ σ):be K mg μ' H' ρ σ:=
 ⟨h.1,λi d e=>let⟨v,a,b⟩:=h.2 i d e;⟨v,a,Rep.mono x _ _ b⟩⟩
theorem be.set{i:Nat}(h:be K mg μ H ρ σ)(r:Rep K mg μ H d v):be K mg μ H (ρ.set i (some d)) (σ.set i (some v)):=by
 refine⟨by simp[h.1],λj e a=>?_⟩;by_cases b:j=i
 ·subst b
  have c:j<ρ.length:=by
   grind
  rw[List.getElem?_set_self c]at a;cases a;exact⟨v,List.getElem?_set_self (by rw[<-h.1];exact c),r⟩
 ·rw[List.getElem?_set_ne (Ne.symm b)]at a⊢;exact h.2 j e a
end
section
variable (K:Fg)(mg:Mg)(E:XK)(Φ:FT)(Γ:Str->Option D)
def tE(c:CE):TE:=λσ H Q=>∃F μ ρ S,aQ K ⟨mg,F⟩ μ S H/\be K ⟨mg,F⟩ μ H ρ σ/\al K ⟨mg,F⟩ E (Rep K ⟨mg,F⟩) μ H Q (ak Φ Γ c ρ S)
def tT(c:CE):TT:=λσ H Q=>∃F μ ρ S,aQ K ⟨mg,F⟩ μ S H/\be K ⟨mg,F⟩ μ H ρ σ/\al K ⟨mg,F⟩ E (λ_ _ a b=>a=b) μ H Q (au Φ Γ c ρ S)
def tL(cs:List CE):TA:=λσ H Q=>∃F μ ρ S,aQ K ⟨mg,F⟩ μ S H/\be K ⟨mg,F⟩ μ H ρ σ/\al K ⟨mg,F⟩ E (aj K ⟨mg,F⟩) μ H Q (am Φ Γ cs ρ S)
end
theorem aX{t t':TE}(h:PE X e t)(w:∀σ H Q,t' σ H Q->t σ H Q):PE X e t':=λp s σ H Q I q=>h _ s _ H Q I (w _ H Q q)
theorem eC{t t':TT}(h:PT X e t)(w:∀σ H Q,t' σ H Q->t σ H Q):PT X e t':=λp s σ H Q I q=>h _ s _ H Q I (w _ H Q q)
theorem qe{e:Lx}{t t':TA}(h:PA X e t)(w:∀σ H Q,t' σ H Q->t σ H Q):PA X e t':=λpos p s σ H Q I q=>h _ _ s _ H Q I (w _ H Q q)
noncomputable def mB(s:List (Str×NameKind))(x:Str):Bool:=match s.lookup x with
 |some .local=>true|some .cell=>true|some .free=>true
 |_=>false
noncomputable def bA(s:List (Str×NameKind))(x:Str):Bool:=s.lookup x==some .globalImplicit&& !(x==("__debug__":Str))&& !(x==("__name__":Str))
noncomputable def mC(x:Str):Bool:= !(x==("__debug__":Str))&& !(x==("__classdict__":Str))
def b8:Expr->Bool
 | .Starred _ _=>false
 |_=>true
noncomputable def jO:D->Const->Bool
 | .non,.none=>true
 | .bl b,.bool c=>b==c
 | .int i,.int j=>i==j
 | .str x,.str y=>x==y
 |_,_=>false
noncomputable def gQ:jL->Str
 | .len=>"len"| .tuple=>"tuple"| .list _=>"list"| .int=>"int"| .min=>"min"| .max=>"max"| .isinst=>"isinstance"| .all=>"all"| .any=>"any"| .sum=>"sum"| .repr=>"repr"| .abs=>"abs"| .str=>"str"| .sorted _ _=>"sorted"
noncomputable def jP:jL->Value
 | .len=>.builtin "len"| .tuple=>.type "tuple"| .list _=>.type "list"| .int=>.type "int"| .min=>.builtin "min"| .max=>.builtin "max"| .isinst=>.builtin "isinstance"| .all=>.builtin "all"| .any=>.builtin "any"| .sum=>.builtin "sum"| .repr=>.builtin "repr"| .abs=>.builtin "abs"| .str=>.type "str"| .sorted _ _=>.builtin "sorted"
theorem FX(b:jL):bootBuiltins (gQ b)=some (jP b):=by
 cases b with
 |list box=>show bootBuiltins (Str.ofString _)=some (.type _);decide+kernel
 |sorted box t=>rfl
 |_=>decide+kernel
noncomputable def iI:List String:=["int","bool","str","tuple","list","dict"]
theorem mD{n:String}(h:iI.contains n=true):bootBuiltins (Str.ofString n)=some (.type n):=by simp[iI]at h;rcases h with rfl|rfl|rfl|rfl|rfl|rfl<;>decide+kernel
abbrev Sc:=List (Str×NameKind)
noncomputable def jQ(N s:Sc):Sc:=N.map λ(n,k)=>if(k== .free&&s.lookup n==some .cell)then(n,.cell)else(n,k)
def sg(n:Sc):Str->Bool:=λx=>n.lookup x==some .cell
noncomputable def FY(scope:Scope)(s:Sc):Bool:=scope.kind== .function&&scope.names.all λ(n,k)=>(k !=.cell||scope.names.lookup n==some .cell)&&(k !=.local||scope.names.lookup n==some .local)&&(k !=.free||(s.lookup n==some .cell||s.lookup n==some .free))
noncomputable def FZ(n:Sc)(a N:Ls)(fr:List (Option Nat)):Bool:=fr.length==a.length&&(List.range a.length).all λi=>match fr[i]? with
 |some (some j)=>(match a[i]? with
  |some x=>n.lookup x==some .free&&N[j]?==some x
  |none=>false)
 |_=>true
def iJ:Ls->Bool
 | []=>true
 |x::r=> !r.contains x&&iJ r
def iK:Expr->Bool
 | .Slice _ _ _ _=>false
 |_=>true
theorem F0{b:Expr}(h:iK b=true):wF b:=by intro o i;cases b<;>first|rfl|cases h
noncomputable def mE:qd->Str
 | .append=>"append"| .extend=>"extend"| .pop=>"pop"| .count=>"count"| .insert=>"insert"| .index=>"index"
def xD:Expr->Bool
 | .Name _ _=>true
 |_=>false
def eR:Expr->Bool
 | .Tuple _ _ _=>true
 |_=>false
def mF:Expr->Bool
 | .Set _ _ _=>false
 |_=>true
def dE:Expr:=.Name "" ⟨0,0,0,0⟩
def dG:Comprehension:=⟨dE,dE,[],0⟩
structure Nd where
 e0:Expr:=dE
 e1:Expr:=dE
 e2:Expr:=dE
 es:Lx:=[]
 lo:Option Expr:=none
 hi:Option Expr:=none
 gs:List Comprehension:=[]
 sc:Scope:=default
 k:Nat:=0
 pos:Pos:=⟨0,0,0,0⟩
noncomputable def vw:Expr->Nd
 | .BoolOp _ vs p=>{es:=vs,pos:=p}
 | .BinOp l _ r p=>{e0:=l,e1:=r,pos:=p}
 | .UnaryOp _ x p=>{e0:=x,pos:=p}
 | .IfExp t x y p=>{e0:=t,e1:=x,e2:=y,pos:=p}
 | .ListComp a g sc p=>{e0:=a,gs:=g,sc:=sc,pos:=p}
 | .SetComp a g sc p=>{e0:=a,gs:=g,sc:=sc,pos:=p}
 | .Compare l _ R p=>{e0:=l,es:=R,pos:=p}
 | .Call f xs ks p=>{e0:=f,es:=xs,e1:=(ks.headD ⟨none,dE,⟨0,0,0,0⟩⟩).value,e2:=.Name "" (ks.headD ⟨none,dE,⟨0,0,0,0⟩⟩).pos,pos:=p}
 | .Constant _ k p=>{k:=k,pos:=p}
 | .Attribute v _ p=>{e0:=v,pos:=p}
 | .Subscript v s p=>{e0:=v,e1:=s,pos:=p}
 | .Name _ p=>{pos:=p}
 | .List es p=>{es:=es,pos:=p}
 | .Tuple es k p=>{es:=es,k:=k,pos:=p}
 | .Slice l u s p=>{lo:=l,hi:=u,e2:=s.getD dE,pos:=p}
 | .Dict _ _ p=>{pos:=p}
 | .JoinedStr vs p=>{es:=vs,pos:=p}
 | .FormattedValue v _ _ p=>{e0:=v,pos:=p}
 |_=>{}
noncomputable def xE:D->Const
 | .bl b=>.bool b
 | .int i=>.int i
 | .str x=>.str x
 |_=>.none
def jR:CT->Bool
 | .tup _=>true
 |_=>false
def si:CE->Bool
 | .band _ _=>true
 |_=>false
def jS:CE->Bool
 | .bor _ _=>true
 |_=>false
def xF:CE->Bool
 | .comp .. =>true
 |_=>false
mutual
noncomputable def iL:CT->Ls->Expr->Expr
 | .var i,N,e=>.Name (N.getD i "") (vw e).pos
 | .tup ts,N,e=>.Tuple (gR ts N (vw e).es) (vw e).k (vw e).pos
noncomputable def gR:List CT->Ls->Lx->Lx
 | [],_,_=>[]
 |t::ts,N,es=>iL t N (es.headD dE)::gR ts N es.tail
end
mutual
noncomputable def qf(c:Str->Bool)(N:Ls)(s:Sc):CT->Bool
 | .var i=>N[i]?==some (N.getD i "")&&(s.lookup (N.getD i "")==some .local||(c (N.getD i "")&&s.lookup (N.getD i "")==some .cell))
 | .tup ts=>sj c N s ts
noncomputable def sj(c:Str->Bool)(N:Ls)(s:Sc):List CT->Bool
 | []=>true
 |t::ts=>qf c N s t&&sj c N s ts
end
mutual
noncomputable def bB:CE->Ls->Expr->Expr
 | .var i,N,e=>.Name (N.getD i "") (vw e).pos
 | .dct,_,e=>.Dict [] [] (vw e).pos
 | .rv0 _ _ _,_,e=>e
 | .odd _ _ _,_,e=>e
 | .evn _ _,_,e=>e
 | .rev _ _,_,e=>e
 | .lit d,_,e=>.Constant (xE d) (vw e).k (vw e).pos
 | .glob y,_,e=>.Name y (vw e).pos
 | .ty n,_,e=>.Name (Str.ofString n) (vw e).pos
 | .bin op a b,N,e=>.BinOp (bB a N (vw e).e0) op (bB b N (vw e).e1) (vw e).pos
 | .binB a b,N,e=>.BinOp (bB a N (vw e).e0) .Mult (bB b N (vw e).e1) (vw e).pos
 | .catB _ _,_,e=>e
 | .neg a,N,e=>.UnaryOp .USub (bB a N (vw e).e0) (vw e).pos
 | .cmp op a b,N,e=>.Compare (bB a N (vw e).e0) [op] [bB b N ((vw e).es.headD dE)] (vw e).pos
 | .chain3 _ _ _ _ _ _ _,_,e=>e
 | .chain op op' a b c,N,e=>.Compare (bB a N (vw e).e0) [op,op'] [bB b N ((vw e).es.headD dE),bB c N ((vw e).es.tail.headD dE)] (vw e).pos
 | .band a b,N,e=>.BoolOp .And (bB a N ((vw e).es.headD dE)::cond ((vw e).es.length==2) [bB b N ((vw e).es.tail.headD dE)] (vw (bB b N (.BoolOp .And (vw e).es.tail (vw e).pos))).es) (vw e).pos
 | .bor a b,N,e=>.BoolOp .Or (bB a N ((vw e).es.headD dE)::cond ((vw e).es.length==2) [bB b N ((vw e).es.tail.headD dE)] (vw (bB b N (.BoolOp .Or (vw e).es.tail (vw e).pos))).es) (vw e).pos
 | .bnot a,N,e=>.UnaryOp .Not (bB a N (vw e).e0) (vw e).pos
 | .ite c a b,N,e=>.IfExp (bB c N (vw e).e0) (bB a N (vw e).e1) (bB b N (vw e).e2) (vw e).pos
 | .tup es,N,e=>.Tuple (fO es N (vw e).es) (vw e).k (vw e).pos
 | .lst _ es,N,e=>.List (fO es N (vw e).es) (vw e).pos
 | .idx a b,N,e=>.Subscript (bB a N (vw e).e0) (bB b N (vw e).e1) (vw e).pos
 | .sl a lo hi,N,e=>.Subscript (bB a N (vw e).e0) (.Slice (fO lo N (vw (vw e).e1).lo.toList).head? (fO hi N (vw (vw e).e1).hi.toList).head? none (vw (vw e).e1).pos) (vw e).pos
 | .call f es,N,e=>.Call (.Name f (vw (vw e).e0).pos) (fO es N (vw e).es) [] (vw e).pos
 | .blt b es,N,e=>.Call (.Name (gQ b) (vw (vw e).e0).pos) (fO es N (vw e).es) [] (vw e).pos
 | .fst _,_,e=>e
 | .sel _ _ _,_,e=>e
 | .tix _ _,_,e=>e
 | .meth m o es,N,e=>.Call (.Attribute (bB o N (vw (vw e).e0).e0) (mE m) (vw (vw e).e0).pos) (fO es N (vw e).es) [] (vw e).pos
 | .lenset a,N,e=>.Call (.Name "len" (vw (vw e).e0).pos) [.Call (.Name "set" (vw (vw ((vw e).es.headD dE)).e0).pos) [bB a N ((vw ((vw e).es.headD dE)).es.headD dE)] [] (vw ((vw e).es.headD dE)).pos] [] (vw e).pos
 | .sset a,N,e=>.Call (.Name "sorted" (vw (vw e).e0).pos) [.Call (.Name "set" (vw (vw ((vw e).es.headD dE)).e0).pos) [bB a N ((vw ((vw e).es.headD dE)).es.headD dE)] [] (vw ((vw e).es.headD dE)).pos] [] (vw e).pos
 | .sumL _,_,e=>e
 | .rng _ _ _,_,e=>e
 | .comp _ N' _ tg it ifs body,N,e=>.ListComp (mG body N' (vw e).e0) (⟨iL tg N' ((vw e).gs.headD dG).target,sn it N ((vw e).gs.headD dG).iter,fO ifs N' ((vw e).gs.headD dG).ifs,0⟩::sm body N' (vw e).gs.tail) (vw e).sc (vw e).pos
 | .ssc _ _ _ _ _ _,_,e=>e
 | .emit _,_,e=>e
 | .emitK _,_,e=>e
 | .sortd _,_,e=>e
 | .inner _ _ _ _,_,e=>e
 | .seq _,_,e=>e
 | .range _,_,e=>e
 | .zip _,_,e=>e
 | .down _,_,e=>e
 | .enum _,_,e=>e
 | .revl _,_,e=>e
 | .by2 _,_,e=>e
noncomputable def mG:CE->Ls->Expr->Expr
 | .emit a,N,e=>bB a N e
 | .emitK a,N,e=>bB a N e
 | .inner _ _ _ body,N,e=>mG body N e
 |_,_,e=>e
noncomputable def sm:CE->Ls->List Comprehension->List Comprehension
 | .inner tg it ifs body,N,g=>⟨iL tg N (g.headD dG).target,sn it N (g.headD dG).iter,fO ifs N (g.headD dG).ifs,0⟩::sm body N g.tail
 |_,_,_=>[]
noncomputable def fO:List CE->Ls->Lx->Lx
 | [],_,_=>[]
 |c::cs,N,es=>bB c N (es.headD dE)::fO cs N es.tail
noncomputable def sn:CE->Ls->Expr->Expr
 | .seq c,N,e=>bB c N e
 | .range es,N,e=>.Call (.Name "range" (vw (vw e).e0).pos) (fO es N (vw e).es) [] (vw e).pos
 | .enum es,N,e=>.Call (.Name "enumerate" (vw (vw e).e0).pos) (fO es N (vw e).es) [] (vw e).pos
 | .by2 _,_,e=>e
 | .revl _,_,e=>e
 | .down es,N,e=>.Call (.Name "reversed" (vw (vw e).e0).pos) [.Call (.Name "range" (vw (vw ((vw e).es.headD dE)).e0).pos) (fO es N (vw ((vw e).es.headD dE)).es) [] (vw ((vw e).es.headD dE)).pos] [] (vw e).pos
 | .zip es,N,e=>.Call (.Name "zip" (vw (vw e).e0).pos) (fO es N (vw e).es) [] (vw e).pos
 |_,_,e=>e
end
mutual
noncomputable def cl:CE->Ls->Sc->Expr->Bool
 | .var i,N,sc,_=>N[i]?==some (N.getD i "")&&(mB sc (N.getD i "")&&mC (N.getD i ""))
 | .dct,_,_,_=>true
 | .rv0 _ _ _,_,_,_=>false
 | .odd _ _ _,_,_,_=>false
 | .evn _ _,_,_,_=>false
 | .rev _ _,_,_,_=>false
 | .lit d,_,_,_=>jO d (xE d)
 | .glob y,_,sc,_=>bA sc y
 | .ty n,_,sc,_=>bA sc (Str.ofString n)&&iI.contains n
 | .bin _ a b,N,sc,e=>cl a N sc (vw e).e0&&cl b N sc (vw e).e1
 | .binB a b,N,sc,e=>cl a N sc (vw e).e0&&cl b N sc (vw e).e1
 | .catB _ _,_,_,_=>false
 | .neg a,N,sc,e=>cl a N sc (vw e).e0
 | .cmp op a b,N,sc,e=>cl a N sc (vw e).e0&&(cl b N sc ((vw e).es.headD dE)&& !behindInMarks op (bB b N ((vw e).es.headD dE)))
 | .chain3 _ _ _ _ _ _ _,_,_,_=>false
 | .chain _ op' a b c,N,sc,e=>cl a N sc (vw e).e0&&(cl b N sc ((vw e).es.headD dE)&&(cl c N sc ((vw e).es.tail.headD dE)&& !behindInMarks op' (bB c N ((vw e).es.tail.headD dE))))
 | .band a b,N,sc,e=>cl a N sc ((vw e).es.headD dE)&&cond ((vw e).es.length==2) (cl b N sc ((vw e).es.tail.headD dE)) (si b&&cl b N sc (.BoolOp .And (vw e).es.tail (vw e).pos))
 | .bor a b,N,sc,e=>cl a N sc ((vw e).es.headD dE)&&cond ((vw e).es.length==2) (cl b N sc ((vw e).es.tail.headD dE)) (jS b&&cl b N sc (.BoolOp .Or (vw e).es.tail (vw e).pos))
 | .bnot a,N,sc,e=>cl a N sc (vw e).e0
 | .ite c a b,N,sc,e=>cl c N sc (vw e).e0&&(cl a N sc (vw e).e1&&cl b N sc (vw e).e2)
 | .tup es,N,sc,e=>fY es N sc (vw e).es&&decide (es.length<1000)
 | .lst _ es,N,sc,e=>fY es N sc (vw e).es&&decide (es.length<1000)
 | .idx a b,N,sc,e=>cl a N sc (vw e).e0&&(cl b N sc (vw e).e1&&iK (bB b N (vw e).e1))
 | .sl a lo hi,N,sc,e=>cl a N sc (vw e).e0&&(fY lo N sc (vw (vw e).e1).lo.toList&&(fY hi N sc (vw (vw e).e1).hi.toList&&(decide (lo.length<2)&&decide (hi.length<2))))
 | .call f es,N,sc,e=>bA sc f&&(fY es N sc (vw e).es&& !es.isEmpty)
 | .blt b es,N,sc,e=>bA sc (gQ b)&&(fY es N sc (vw e).es&&(!es.isEmpty&&se b))
 | .fst _,_,_,_=>false
 | .sel _ _ _,_,_,_=>false
 | .tix _ _,_,_,_=>false
 | .meth m o es,N,sc,e=>xD (bB o N (vw (vw e).e0).e0)&&((vw (vw e).e0).pos.endLine==(vw e).pos.line&&(cl o N sc (vw (vw e).e0).e0&&(fY es N sc (vw e).es&&decide (es.length<20))))
 | .lenset a,N,sc,e=>bA sc "len"&&(bA sc "set"&&(cl a N sc ((vw ((vw e).es.headD dE)).es.headD dE)&&b8 (bB a N ((vw ((vw e).es.headD dE)).es.headD dE))))
 | .sset a,N,sc,e=>bA sc "sorted"&&(bA sc "set"&&(cl a N sc ((vw ((vw e).es.headD dE)).es.headD dE)&&b8 (bB a N ((vw ((vw e).es.headD dE)).es.headD dE))))
 | .sumL _,_,_,_=>false
 | .rng _ _ _,_,_,_=>false
 | .comp _ N' fr tg it ifs body,N,sc,e=>FY (vw e).sc sc&&(FZ (vw e).sc.names N' N fr&&(iJ N'&&(qf (sg (vw e).sc.names) N' (jQ (vw e).sc.names sc) tg&&(DS it N sc tg ((vw e).gs.headD dG).iter&&(mF (sn it N ((vw e).gs.headD dG).iter)&&(fY ifs N' (jQ (vw e).sc.names sc) ((vw e).gs.headD dG).ifs&&F1 body false (sg (vw e).sc.names) N' (jQ (vw e).sc.names sc) (vw e).gs.tail (vw e).e0))))))
 | .ssc _ _ _ _ _ _,_,_,_=>false
 | .emit _,_,_,_=>false
 | .emitK _,_,_,_=>false
 | .sortd _,_,_,_=>false
 | .inner _ _ _ _,_,_,_=>false
 | .seq _,_,_,_=>false
 | .range _,_,_,_=>false
 | .zip _,_,_,_=>false
 | .down _,_,_,_=>false
 | .enum _,_,_,_=>false
 | .revl _,_,_,_=>false
 | .by2 _,_,_,_=>false
noncomputable def F1:CE->Bool->(Str->Bool)->Ls->Sc->List Comprehension->Expr->Bool
 | .emit a,k,_,N,sc,_,e=> !k&&cl a N sc e
 | .emitK _,_,_,_,_,_,_=>false
 | .inner tg it ifs body,k,cell,N,sc,g,e=>qf cell N sc tg&&(DS it N sc tg (g.headD dG).iter&&(mF (sn it N (g.headD dG).iter)&&(fY ifs N sc (g.headD dG).ifs&&F1 body k cell N sc g.tail e)))
 |_,_,_,_,_,_,_=>false
noncomputable def fY:List CE->Ls->Sc->Lx->Bool
 | [],_,_,_=>true
 |c::cs,N,sc,es=>cl c N sc (es.headD dE)&&(b8 (bB c N (es.headD dE))&&fY cs N sc es.tail)
noncomputable def DS:CE->Ls->Sc->CT->Expr->Bool
 | .seq c,N,sc,_,e=>cl c N sc e
 | .range es,N,sc,_,e=>bA sc "range"&&(fY es N sc (vw e).es&&(es.length==1||es.length==2))
 | .enum es,N,sc,t,e=>bA sc "enumerate"&&(fY es N sc (vw e).es&&(es.length==1&&jR t))
 | .by2 _,_,_,_,_=>false
 | .revl _,_,_,_,_=>false
 | .down es,N,sc,_,e=>bA sc "reversed"&&(bA sc "range"&&(fY es N sc (vw ((vw e).es.headD dE)).es&&es.length==1))
 | .zip es,N,sc,t,e=>bA sc "zip"&&(fY es N sc (vw e).es&&(es.length==2&&jR t))
 |_,_,_,_,_=>false
end
theorem ab{a b:Bool}(h:(a&&b)=true):a=true/\b=true:=Bool.and_eq_true_iff.mp h
theorem jT{p:Prop} [Decidable p] (h:decide p=true):p:=of_decide_eq_true h
theorem gS{a:Bool}(h:(!a)=true):a=false:=by lia
end Py
variable {sc:Py.Sc}
namespace Py
noncomputable def sr(K:Fg)(m:Mg)(n:Nat)(a:List D->aa->Res D):Sp:=λvs H Q E=>vs.length=n/\∃F μ S ds,aQ K ⟨m,F⟩ μ S H/\aj K ⟨m,F⟩ μ H ds vs/\al K ⟨m,F⟩ E (Rep K ⟨m,F⟩) μ H Q (a ds S)
structure bT (P:Program)(w:World)(K:Fg)(mg:Mg)(base:Heap)(CX:ee)(k:Nat)(f:Str)(φ:List D->aa->Res D):Prop where
 ex:∃fa fd ps,mg f=some (.ref fa)/\PySem.W.keepIn K (.ref fa)=true/\Binds K fd ps []/\c9 P w K mg base CX k fa fd ps (sr K mg ps.length φ)/\∀ds S,φ ds S≠.fail->ds.length=ps.length
noncomputable def gb:Ls:=["len","tuple","list","int","min","max","isinstance","all","any","sorted","bool","str","dict","range","zip","set","sum","reversed","repr","abs","enumerate"]
structure DT (P:Program)(w:World)(K:Fg)(mg:Mg)(base:Heap)(CX:ee)(Φ:FT)(Γ:Str->Option D)(k:Nat):Prop where
 fns:∀f φ,Φ f=some φ->bT P w K mg base CX k f φ
 gl:∀x d,Γ x=some d->∃v u,mg x=some u/\RelV v u/\∀F μ H,Rep K ⟨mg,F⟩ μ H d v
 bl:∀x∈gb,mg x=none
structure cK (X:Cx)(cell:Str->Bool)(N:Ls)(sc:Sc)(CX:ee)(E:XK)(Φ:FT)(Γ:Str->Option D)(k:Nat):Prop where
 n:X.N=N
 nd:N.Nodup
 sc:X.env.scope.names=sc
 kd:X.env.scope.kind=.function
 calm:X.calm=true
 room:cR k X.A
 fn:∀x,cell x=true->X.fn x=true
 mod:DT X.prog X.w X.K X.mg X.base CX Φ Γ k
 pass:lP CX X E
 cx0:∀outer H s e s',CX outer H s E0 e s'->False
section
variable {E:XK}{l r:Expr}{pos:Pos}{a b c:CE}
theorem xG{o:Operator}(h:PE X l (tE X.K X.mg E Φ Γ a))(c:PE X r (tE X.K X.mg E Φ Γ b)):PE X (.BinOp l o r pos) (tE X.K X.mg E Φ Γ (.bin o a b)):=
 aX (p_ (Fw _) h c) λA H Q z=>aH z λF u y S g e w=>
  ⟨F,_,_,S,g,e,(al.bind w).mono λv H1 z=>aN z λk p D x s R W=>⟨F,_,_,_,s,e.mono x,(al.bind W).mono λV n z=>aN z λm q t j f d i=>⟨F,_,_,_,_,f,Rep.mono j _ _ R,d,dO i⟩⟩⟩
theorem ss(h:PE X l (tE X.K X.mg E Φ Γ a))(c:PE X r (tE X.K X.mg E Φ Γ b)):PE X (.BinOp l .Mult r pos) (tE X.K X.mg E Φ Γ (.binB a b)):=
 aX (p_ wQ h c) λy H Q z=>aH z λF t u S g e w=>
  ⟨F,_,_,S,g,e,(al.bind w).mono λv H1 z=>aN z λk o D x s R W=>⟨F,_,_,_,s,e.mono x,(al.bind W).mono λV n z=>aN z λm p q j f d i=>⟨F,_,_,_,_,f,Rep.mono j _ _ R,d,dO i⟩⟩⟩
theorem xH{o:CmpOp}(f:X.A.units+64<cLine)(h:PE X l (tE X.K X.mg E Φ Γ a))(c:PE X r (tE X.K X.mg E Φ Γ b))(d:behindInMarks o r=false):PE X (.Compare l [o] [r] pos) (tE X.K X.mg E Φ Γ (.cmp o a b)):=
 aX (lL (fx _ f) h c d) λC H Q z=>aH z λF A B S j e w=>
  ⟨F,_,_,S,j,e,(al.bind w).mono λV H1 z=>aN z λn t D x s R W=>⟨F,_,_,_,s,e.mono x,(al.bind W).mono λy q z=>aN z λp u v m i g k=>⟨F,_,_,_,_,i,Rep.mono m _ _ R,g,dO k⟩⟩⟩
theorem iM{m:GS}{E:XK}{a:Type}{Rel:La->Hp->a->β->Prop}{Q:β->Hp->Prop}{f:Bool->Res a}
  (w:al K m E Rel μ H Q (bi d f)) (r:Rep K m μ H d v):∃k,v=.bl k/\d=.bl k/\al K m E Rel μ H Q (f k):=by
 cases d with
 |bl k=>exact⟨k,fZ r,rfl,w⟩
 |_=>exact w.elim
theorem xI{o:CmpOp}(f:X.A.units+64<cLine)(h:PE X l (tE X.K X.mg E Φ Γ a))(c:PE X r (tE X.K X.mg E Φ Γ b))(d:behindInMarks o r=false):PT X (.Compare l [o] [r] pos) (tT X.K X.mg E Φ Γ (.cmp o a b)):=
 eC (lM (fx _ f) h c d) λU H Q z=>aH z λF P T S n e w=>
  ⟨F,_,_,S,n,e,(al.bind w).mono λV H1 z=>aN z λv D J x s R W=>⟨F,_,_,_,s,e.mono x,(al.bind W).mono λM B z=>aN z λy G K u j g p=>
   ⟨F,_,_,_,_,j,Rep.mono u _ _ R,g,dO ((al.bind p).mono λN C z=>aN z λA I L O m i q=>by obtain⟨k,rfl,rfl,t⟩:=iM q i;exact⟨k,rfl,t _ _ k .refl m rfl⟩)⟩⟩⟩
theorem mH{o:CmpOp}(h:X.A.units+64<cLine)(g:PE X l (tE X.K X.mg E Φ Γ a))(i:PE X r (tE X.K X.mg E Φ Γ b))(j:PE X r' (tE X.K X.mg E Φ Γ c))(m:behindInMarks op' r'=false):PE X (.Compare l [o,op'] [r,r'] pos) (tE X.K X.mg E Φ Γ (.chain o op' a b c)):=
 aX (EI (fx _ h) (fx _ h) g i j m) λσ H Q z=>aH z λF μ ρ S y e w=>
  ⟨F,_,_,S,y,e,(al.bind w).mono λv1 H1 z=>aN z λI P Y x t n A=>⟨F,_,_,_,t,e.mono x,(al.bind A).mono λv2 M z=>aN z λJ T Z d u R B=>
   ⟨F,_,_,_,_,u,Rep.mono d _ _ n,R,dO ((al.bind B).mono λv3 N z=>aN z λK U d3 f s p C=>by
    obtain⟨k,rfl,rfl,W⟩:=iM C p;refine⟨k,rfl,?_⟩;cases k with
    |true=>exact⟨F,_,_,_,s,(e.mono x).mono (d.trans f),(al.bind W).mono λv4 O z=>aN z λL V d4 G v q D=>⟨F,_,_,_,_,v,Rep.mono (f.trans G) _ _ R,q,dO D⟩⟩
    |false=>exact W _ _ _ .refl s cS)⟩⟩⟩
theorem mI{o:CmpOp}(h:X.A.units+64<cLine)(g:PE X l (tE X.K X.mg E Φ Γ a))(i:PE X r (tE X.K X.mg E Φ Γ b))(j:PE X r' (tE X.K X.mg E Φ Γ c))(m:behindInMarks op' r'=false):PT X (.Compare l [o,op'] [r,r'] pos) (tT X.K X.mg E Φ Γ (.chain o op' a b c)):=
 eC (EJ (fx _ h) (fx _ h) g i j m) λσ H Q z=>aH z λF μ ρ S B e w=>
  ⟨F,_,_,S,B,e,(al.bind w).mono λv1 H1 z=>aN z λM S1 d1 x u n C=>⟨F,_,_,_,u,e.mono x,(al.bind C).mono λv2 U z=>aN z λN S2 d2 d v R D=>
   ⟨F,_,_,_,_,v,Rep.mono d _ _ n,R,dO ((al.bind D).mono λv3 V z=>aN z λO S3 d3 f s p G=>by
    obtain⟨k,rfl,rfl,W⟩:=iM G p;refine⟨k,rfl,?_⟩;cases k with
    |true=>exact⟨F,_,_,_,s,(e.mono x).mono (d.trans f),(al.bind W).mono λv4 Y z=>aN z λP S4 d4 L y q I=>⟨F,_,_,_,_,y,Rep.mono (f.trans L) _ _ R,q,dO ((al.bind I).mono λv5 Z z=>aN z λT S5 d5 x5 A t J=>by obtain⟨k,rfl,rfl,K⟩:=iM J t;exact⟨k,rfl,K _ _ k .refl A rfl⟩)⟩⟩
    |false=>exact⟨_,rfl,W _ _ _ .refl s rfl⟩)⟩⟩⟩
theorem qg(h:PE X l (tE X.K X.mg E Φ Γ a))(c:PE X (.BoolOp .And (r::rest) pos) (tE X.K X.mg E Φ Γ b)):PE X (.BoolOp .And (l::r::rest) pos) (tE X.K X.mg E Φ Γ (.band a b)):=
 aX (qO h c) λn H Q z=>aH z λF j m S d e w=>
  ⟨F,_,_,S,d,e,(al.bind w).mono λv H1 z=>aN z λg i D x s R f=>by
   obtain⟨k,rfl,rfl,W⟩:=iM f R;refine⟨k,rfl,?_⟩;cases k with
   |true=>exact⟨F,_,_,_,s,e.mono x,W⟩
   |false=>exact W _ _ _ .refl s cS⟩
theorem xJ(h:PE X l (tE X.K X.mg E Φ Γ a))(c:PE X (.BoolOp .Or (r::rest) pos) (tE X.K X.mg E Φ Γ b)):PE X (.BoolOp .Or (l::r::rest) pos) (tE X.K X.mg E Φ Γ (.bor a b)):=
 aX (vW h c) λn H Q z=>aH z λF j m S d e w=>
  ⟨F,_,_,S,d,e,(al.bind w).mono λv H1 z=>aN z λg i D x s R f=>by
   obtain⟨k,rfl,rfl,W⟩:=iM f R;refine⟨k,rfl,?_⟩;cases k with
   |true=>exact W _ _ _ .refl s cS
   |false=>exact⟨F,_,_,_,s,e.mono x,W⟩⟩
theorem mJ(c:PE X l ta):PE X (.UnaryOp .Not l pos) (λσ H Q=>ta σ H λx H'=>∃k,iy X.K x H' k/\Q (.bl (!k)) H'):=by intro p s σ H Q I h;refine UnaryOp_ (a' (c _ s _ H _ I h) λv S ⟨x,_,a,r,k,t,q⟩=>?_);refine not_of (a' (jq _ _ _ _ x v (λk H'=>Q (.bl !k) H') a r ⟨k,t,q⟩) λK e ⟨_,b,d⟩=>?_);exact⟨.bl _,_,b,rfl,d⟩
theorem xK{m:GS}{E:XK}{a:Type}{Rel:La->Hp->a->β->Prop}{Q:β->Hp->Prop}{f:Bool->Res a}
  (w:al K m E Rel μ H Q (match bU S d with|some k=>f k|none=>.fail)):∃k,bU S d=some k/\al K m E Rel μ H Q (f k):=by
 cases e:bU S d with
 |none=>rw[e]at w;exact w.elim
 |some k=>simp_all
theorem xL(h:PE X l (tE X.K X.mg E Φ Γ a)):PE X (.UnaryOp .Not l pos) (tE X.K X.mg E Φ Γ (.bnot a)):=
 aX (mJ h) λm H Q z=>aH z λF i j S c b w=>⟨F,_,_,S,c,b,(al.bind w).mono λv H1 z=>aN z λf g D x s r W=>by obtain⟨k,e,d⟩:=xK W;exact⟨k,qc s r e,d _ _ _ .refl s cS⟩⟩
theorem xM(h:PE X l (tE X.K X.mg E Φ Γ a)):PE X (.UnaryOp .USub l pos) (tE X.K X.mg E Φ Γ (.neg a)):=
 aX (we rg h) λk H Q z=>aH z λF g j S b e w=>⟨F,_,_,S,b,e,(al.bind w).mono λv H1 z=>aN z λc f d x s r W=>by
  cases d with
  |int i=>exact⟨i,aK r,W _ _ _ .refl s bG⟩
  |_=>exact W.elim⟩
theorem qh(h:PT X l (tT X.K X.mg E Φ Γ a))(f:PW X (.BoolOp .And (r::rest) pos) (tT X.K X.mg E Φ Γ b)):PW X (.BoolOp .And (l::r::rest) pos) (tT X.K X.mg E Φ Γ (.band a b)):=λm p s q H Q I z=>aH z λF n o S g e w=>
 qM h f _ _ s _ H Q I ⟨F,_,_,S,g,e,(al.bind w).mono λk H1 z=>aN z λi j K x c d W=>by
  subst d;cases K with
  |true=>exact⟨F,_,_,_,c,e.mono x,W⟩
  |false=>exact W _ _ _ .refl c rfl⟩
theorem xN(h:PT X l (tT X.K X.mg E Φ Γ a))(f:PW X (.BoolOp .Or (r::rest) pos) (tT X.K X.mg E Φ Γ b)):PW X (.BoolOp .Or (l::r::rest) pos) (tT X.K X.mg E Φ Γ (.bor a b)):=λm p s q H Q I z=>aH z λF n o S g e w=>
 vU h f _ _ s _ H Q I ⟨F,_,_,S,g,e,(al.bind w).mono λk H1 z=>aN z λi j K x c d W=>by
  subst d;cases K with
  |true=>exact W _ _ _ .refl c rfl
  |false=>exact⟨F,_,_,_,c,e.mono x,W⟩⟩
theorem xO(h:PT X l (tT X.K X.mg E Φ Γ a)):PT X (.UnaryOp .Not l pos) (tT X.K X.mg E Φ Γ (.bnot a)):=
 eC (qN h) λj H Q z=>aH z λF g i S c b w=>⟨F,_,_,S,c,b,(al.bind w).mono λk H1 z=>aN z λd f K x s e W=>by subst e;exact W _ _ _ .refl s rfl⟩
theorem xP{t x y:Expr}(i:PT X t (tT X.K X.mg E Φ Γ c))(h:PE X x (tE X.K X.mg E Φ Γ a))(g:PE X y (tE X.K X.mg E Φ Γ b)):PE X (.IfExp t x y pos) (tE X.K X.mg E Φ Γ (.ite c a b)):=
 aX (Ei i h g) λp H Q z=>aH z λF n o S j e w=>⟨F,_,_,S,j,e,(al.bind w).mono λk H1 z=>aN z λl m K d s f W=>by
  subst f;cases K with
  |true=>exact⟨F,_,_,_,s,e.mono d,W⟩
  |false=>exact⟨F,_,_,_,s,e.mono d,W⟩⟩
theorem xQ:PA X [] (tL X.K X.mg E Φ Γ []):=qe rk λc H Q z=>aH z λF a b S s e w=>w _ H _ .refl s .nil
theorem c_{es:Lx}(h:b8 e=true):starEach (e::es) env=(false,eval e env)::starEach es env:=by cases e<;>first|rfl|cases h
theorem su{es:Lx}{cs:List CE}(c:b8 e=true)(h:PE X e (tE X.K X.mg E Φ Γ a))(d:PA X es (tL X.K X.mg E Φ Γ cs)):PA X (e::es) (tL X.K X.mg E Φ Γ (a::cs)):=
 qe (rn h d (c_ c)) λu H Q z=>aH z λF q t S g b w=>⟨F,_,_,S,g,b,(al.bind w).mono λv H1 z=>aN z λk n D x s r W=>
  ⟨F,_,_,_,s,b.mono x,(al.bind W).mono λvs m z=>aN z λl o p j f R i=>i _ _ _ .refl f (.cons (Rep.mono j _ _ r) R)⟩⟩
end
theorem sv:∀{cs:List CE} {N:Ls} {es:Lx},(fO cs N es).length=cs.length
 | [],N,es=>rfl
 |c::cs,N,es=>congrArg _ sv
theorem ff:∀{cs:List CE} {N:Ls} {sc:Sc} {es:Lx},fY cs N sc es=true->∀e∈fO cs N es,b8 e=true
 | [],N,sc,es,h,e,H=>absurd H ZZ
 |c::cs,N,sc,es,h,e,H=>by
  rcases Zn.mp H with rfl|H
  ·exact(ab (ab h).2).1
  ·exact ff (ab (ab h).2).2 e H
theorem mK:∀{es:Lx} {env:Env} {pos:Pos},(∀e∈es,b8 e=true)->(backTo pos (starEach es env)).any (·.1)=false
 | [],env,pos,h=>rfl
 |e::es,env,pos,h=>by rw[c_ (h e Zd)];show(false||(backTo _ _).any _)=false;rw[mK λe H=>h e (Zc _ H)];rfl
theorem xR:∀{es:Lx} {env:Env} {pos:Pos},(∀e∈es,b8 e=true)->(backTo pos (starEach es env)).all (λx=> !x.1)=true
 | [],env,pos,h=>rfl
 |e::es,env,pos,h=>by rw[c_ (h e Zd)];show(!false&&(backTo _ _).all _)=true;rw[xR λe H=>h e (Zc _ H)];rfl
theorem sw:∀{cs:List CE} {ρ:bD} {S S':aa} {ds:List D},am Φ Γ cs ρ S=.ok ds S'->ds.length=cs.length
 | [],ρ,S,S',ds,h=>by cases h;rfl
 |c::cs,ρ,S,S',ds,h=>by
  unfold am at h;cases e:ak _ _ c _ S with
  |ok d a=>
   rw[e]at h;cases E:am Φ Γ cs ρ a with
   |ok f b=>simp only[Res.bind,E]at h;cases h;simp[sw E]
   |err x b=>simp only[Res.bind,E]at h;cases h
   |fail=>simp only[Res.bind,E]at h;cases h
  |err x a=>rw[e]at h;cases h
  |fail=>rw[e]at h;cases h
theorem F2{x:Str}{s:Scope}(hs:s.names=sc)(h:mB sc x=true):vO s x:=by unfold vO;unfold mB at h;lia
theorem xS{x:Str}(h:mC x=true):(x==("__debug__":Str))=false/\(x==("__classdict__":Str))=false:=by
 unfold mC at h
 grind
theorem dP{x:Str}(h:bA sc x=true):sc.lookup x=some .globalImplicit/\(x==("__debug__":Str))=false/\x≠"__name__":=by unfold bA at h;simp_all
section
variable {E:XK}{l r:Expr}{es:Lx}{pos:Pos}{a b c:CE}{cs:List CE}{x:Str}
theorem cK.gl(O:cK X cell N sc CX E Φ Γ k)(h:sc.lookup x=some .globalImplicit):Gl X x:=by show X.env.scope.names.lookup x=_;rw[O.sc];exact h
theorem qi(O:cK X cell N sc CX E Φ Γ k){i:Nat}(h1:(N[i]?==some x)=true)(c:mB sc x=true)(h:mC x=true):PE X (.Name x pos) (tE X.K X.mg E Φ Γ (.var i)):=by
 refine aX (qH (by rw[O.n];simpa using h1) (F2 O.sc c) (xS h).1 (xS h).2) λj H Q z=>aH z λF f g S s b w=>?_;simp[ak]at w;split at w
 ·rename_i d e;obtain⟨v,a,r⟩:=b.2 i d e;exact⟨v,a,w _ H v .refl s r⟩
 ·exact w.elim
theorem qj{cn:Const}{j}(h:jO d cn=true):PE X (.Constant cn j pos) (tE X.K X.mg E Φ Γ (.lit d)):=by
 unfold jO at h;split at h
 ·exact aX qJ λf H Q z=>aH z λF b c S s a w=>w _ H _ .refl s jv
 ·have e:=beq_iff_eq.mp h;subst e;exact aX vS λf H Q z=>aH z λF b c S s a w=>w _ H _ .refl s cS
 ·have e:=beq_iff_eq.mp h;subst e;exact aX qI λf H Q z=>aH z λF b c S s a w=>w _ H _ .refl s bG
 ·have e:=beq_iff_eq.mp h;subst e;exact aX qK λf H Q z=>aH z λF b c S s a w=>w _ H _ .refl s ju
 ·cases h
theorem sx(O:cK X cell N sc CX E Φ Γ k)(h:bA sc x=true):PE X (.Name x pos) (tE X.K X.mg E Φ Γ (.glob x)):=by
 obtain⟨a,b,j⟩:=dP h;cases e:Γ x with
 |none=>intro p s g H Q I ⟨F,_,_,S,_,_,w⟩;simp[ak]at w;rw[e]at w;exact w.elim
 |some d=>obtain⟨v,u,m,M,c⟩:=O.mod.gl x d e;refine aX (lr (O.gl a) m M b) λg H Q z=>aH z λF l n S f i w=>?_;simp[ak]at w;rw[e]at w;exact w _ H v .refl f (c F _ H)
theorem mL{n:String}(h:iI.contains n=true):(Str.ofString n)∈gb:=by simp[iI]at h;rcases h with rfl|rfl|rfl|rfl|rfl|rfl<;>decide+kernel
theorem F3(O:cK X cell N sc CX E Φ Γ k){n:String}(h:bA sc (Str.ofString n)=true)(a:iI.contains n=true):PE X (.Name (Str.ofString n) pos) (tE X.K X.mg E Φ Γ (.ty n)):=by obtain⟨b,c,d⟩:=dP h;refine aX (ls (v:=.ty n) (O.gl b) (O.mod.bl _ (mL a)) (mD a) rfl d c) λi H Q z=>aH z λF f g S s e w=>?_;exact w _ H _ .refl s rfl
theorem jU{m:GS}{Q:List V->Hp->Prop}(h:cs.length<1000)(w:al K m E (aj K m) μ H Q (am Φ Γ cs ρ S)):al K m E (aj K m) μ H (λvs H'=>vs.length<=sizeLine/\Q vs H') (am Φ Γ cs ρ S):=by
 cases e:am _ _ _ _ S with
 |ok d a=>rw[e]at w;intro b H' vs x s r;refine⟨?_,w _ _ _ x s r⟩;rw[<-r.length,sw e];exact Nat.le_of_lt (ZL h (by decide))
 |err y a=>rw[e]at w;exact w
 |fail=>rw[e]at w;exact w
theorem xT{x1}(a:cs.length<1000)(h:PA X es (tL X.K X.mg E Φ Γ cs)):PE X (.Tuple es x1 pos) (tE X.K X.mg E Φ Γ (.tup cs)):=
 aX (ro h) λi H Q z=>aH z λF f g S d e w=>⟨F,_,_,S,d,e,(jU a (al.bind w)).mono λvs H1 ⟨c,_,_,_,_,s,r,W⟩=>⟨c,λp b=>by exact aZ.tup (show aZ _ _ _ _ Q _ from W) s r p b⟩⟩
theorem xU{box:Bool}(b:cs.length<1000)(h:PA X es (tL X.K X.mg E Φ Γ cs)):PE X (.List es pos) (tE X.K X.mg E Φ Γ (.lst box cs)):=
 aX (rx h) λi H Q z=>aH z λF f g S d e w=>⟨F,_,_,S,d,e,(jU b (al.bind w)).mono λvs H1 ⟨c,_,_,_,_,s,r,W⟩=>⟨c,λp a=>by
  cases box with
  |true=>exact aZ.box (show aZ _ _ _ _ Q _ from W) s r p a
  |false=>exact aZ.lst (show aZ _ _ _ _ Q _ from W) s r p a⟩⟩
theorem xV:PE X (.Dict [] [] pos) (tE X.K X.mg E Φ Γ .dct):=λp s l H Q I z=>aH z λF j k S c d w=>by
 have a:=ZL I.mod.glob.lt (ZB I.ok.bsz I.sz);have h:=I.hok.fresh (Zg _);refine wpAny_Dict_empty ⟨.ref _,_,I.laid (o:=.dK []) (λb O q=>Zb _ q) (Zg _) ?_,rfl,?_⟩
 ·refine⟨Yj _,?_,_,.nil,_,_,_,Zi _ rfl,⟨rfl,rfl,rfl⟩,rfl,λe i=>by simp_all,.nil,.nil⟩;have g:mainGlobals=3:=rfl;have f:sysModules=1:=rfl
  grind
 ·exact w _ _ _ (.laid h) (c.laid h) (by exact⟨_,rfl,dk⟩)
theorem xW(hs:iK r=true)(h:PE X l (tE X.K X.mg E Φ Γ a))(c:PE X r (tE X.K X.mg E Φ Γ b)):PE X (.Subscript l r pos) (tE X.K X.mg E Φ Γ (.idx a b)):=
 aX (wG FC h c (F0 hs)) λy H Q z=>aH z λF t u S g e w=>
  ⟨F,_,_,S,g,e,(al.bind w).mono λv H1 z=>aN z λk o D x s R W=>⟨F,_,_,_,s,e.mono x,(al.bind W).mono λV n z=>aN z λm p q j f d i=>⟨F,_,_,_,_,f,Rep.mono j _ _ R,d,dO i⟩⟩⟩
def xX(K:Fg)(m:Mg)(E:XK)(Φ:FT)(Γ:Str->Option D)(cs:List CE):TO:=λσ H Q=>∃F μ ρ S,aQ K ⟨m,F⟩ μ S H/\be K ⟨m,F⟩ μ H ρ σ/\
 al K ⟨m,F⟩ E (λ_ _ o o'=>o=o') μ H Q ((am Φ Γ cs ρ S).bind cN)
theorem mM:PO X none (xX X.K X.mg E Φ Γ []):=by intro p s b H Q I ⟨F,_,_,S,a,_,w⟩;exact lV _ s _ H Q I (w _ H _ .refl a rfl)
theorem mN(h:PE X e (tE X.K X.mg E Φ Γ a)):PO X (some e) (xX X.K X.mg E Φ Γ [a]):=by
 intro p s q H Q I ⟨F,l,c,S,j,f,w⟩;refine lW h _ s _ H Q I ⟨F,_,_,S,j,f,?_⟩
 have k:al X.K ⟨X.mg,F⟩ E (λ_ _ o O=>o=O) l H Q ((ak Φ Γ a c S).bind λd b=>cN [d] b):=by
  have n:(am Φ Γ [a] c S).bind cN=(ak Φ Γ a c S).bind λd b=>cN [d] b:=by rw[am];cases ak _ _ a _ S<;>rfl
  simp_all
 refine(al.bind k).mono λv H1 z=>aN z λm b d x g r W=>?_;cases d with
 |int i=>exact⟨i,aK r,W _ _ _ .refl g rfl⟩
 |_=>exact W.elim
theorem F4{lo hi:Option Expr}{c ch:List CE}(h:PE X l (tE X.K X.mg E Φ Γ a))(i:PO X lo (xX X.K X.mg E Φ Γ c))(g:PO X hi (xX X.K X.mg E Φ Γ ch)):PE X (.Subscript l (.Slice lo hi none p2) pos) (tE X.K X.mg E Φ Γ (.sl a c ch)):=
 aX (EZ FE h i g) λM H Q z=>aH z λF K L S m e w=>⟨F,_,_,S,m,e,(al.bind w).mono λV H1 z=>aN z λt B G x s r W=>⟨F,_,_,_,s,e.mono x,
  (al.bind W).mono λo y z=>aN z λu C I b j d n=>⟨F,_,_,_,j,(e.mono x).mono b,(al.bind n).mono λJ A z=>aN z λv D O q k f p=>by subst d;subst f;exact⟨F,_,_,_,k,Rep.mono (b.trans q) _ _ r,dO p⟩⟩⟩⟩
theorem jV(O:cK X cell N sc CX E Φ Γ k){f:Str}(h:bA sc f=true)(a:∀x∈e::es,b8 x=true)(i:PA X (e::es) (tL X.K X.mg E Φ Γ cs)):PE X (.Call (.Name f p2) (e::es) [] pos) (tE X.K X.mg E Φ Γ (.call f cs)):=by
 obtain⟨d,g,B⟩:=dP h;cases b:Φ f with
 |none=>intro P s u H Q I ⟨F,_,_,S,_,_,w⟩;simp[ak]at w;rw[b]at w;exact w.elim
 |some L=>obtain⟨y,A,C,m,M,l,n,o⟩:=(O.mod.fns f _ b).ex;refine aX (lR n O.room (O.gl d) m M l .nil O.pass i g (c_ (a e Zd)) (mK λx j=>a x (Zc _ j))) λu H Q Z=>aH Z λF J K S q c w=>?_;simp[ak]at w;rw[b]at w;refine⟨F,_,_,S,q,c,(al.bind w).mono λvs H1 Z=>aN Z λt v D G p r W=>?_⟩;rw[Yc];refine⟨?_,F,_,_,_,p,r,W⟩;rw[<-r.length];exact o _ _ λz=>by rw[z]at W;exact W
theorem qk(O:cK X cell N sc CX E Φ Γ k){b:jL}(g:aW X (jP b) (rC X.K X.mg (bj b)))(h:bA sc (gQ b)=true)(j:∀x∈e::es,b8 x=true)(f:PA X (e::es) (tL X.K X.mg E Φ Γ cs)):PE X (.Call (.Name (gQ b) p2) (e::es) [] pos) (tE X.K X.mg E Φ Γ (.blt b cs)):=by
 obtain⟨a,c,d⟩:=dP h
 have i:X.mg (gQ b)=none:=O.mod.bl _ (by
  cases b with
  |list box=>show(Str.ofString _)∈gb;decide+kernel
  |sorted box t=>show(Str.ofString _)∈gb;decide+kernel
  |_=>decide+kernel)
 have K:PE X (.Call (.Name (gQ b) p2) (e::es) [] pos) (ET (rC X.K X.mg (bj b)) (tL X.K X.mg E Φ Γ cs)):=by
  have s:=c_ (env:=X.env) (es:=es) (j e Zd);have m:=mK (env:=X.env) (pos:=pos) λx q=>j x (Zc _ q);have l:=FX b;cases b with
  |tuple=>exact lS g (O.gl a) i l f d c s m
  |list box=>exact lS g (O.gl a) i l f d c s m
  |int=>exact lS g (O.gl a) i l f d c s m
  |str=>exact lS g (O.gl a) i l f d c s m
  |_=>exact EU g (O.gl a) i l f d c s m
 refine aX K λC H Q z=>aH z λF v A S u p w=>⟨F,v,A,S,u,p,(al.bind w).mono λvs H1 z=>aN z λy o D B s r W=>⟨F,_,o,D,s,r,dO W⟩⟩
theorem F5{m:GS}(s:aQ K m μ S H)(r:Rep K m μ H (.ref n) v):wJ K "list" v H:=by
 obtain⟨a,rfl,h⟩:=r;have c:n<S.length:=by rw[<-s.len];exact(Zp.mp h).1
 obtain⟨vs,b,q⟩:=s.at_ n a _ h (Zj c);exact .inl ⟨rfl,_,.of b⟩
noncomputable def jW:qd->String
 | .append=>"list.append"| .extend=>"list.extend"| .pop=>"list.pop"| .count=>"list.count"| .insert=>"list.insert"| .index=>"list.index"
theorem jX(m:qd):rE X (jW m) (rM X.K X.mg (cJ m)):=by
 cases m with
 |append=>exact FG
 |count=>exact λ_ _ _ _ _ _ _ _ _ _ _ _ ⟨_,_,_,_,_,_,_,_,w⟩=>w.elim
 |insert=>exact λ_ _ _ _ _ _ _ _ _ _ _ _ ⟨_,_,_,_,_,_,_,_,w⟩=>w.elim
 |index=>exact λ_ _ _ _ _ _ _ _ _ _ _ _ ⟨_,_,_,_,_,_,_,_,w⟩=>w.elim
 |extend=>exact FH
 |pop=>
  intro p s i H x f v u Q I b a h;obtain⟨F,g,S,d,D,c,R,r,w⟩:=h;cases D with
  |nil=>exact xg p s i H x f v u Q I b a ⟨F,g,S,d,[],c,R,r,w⟩
  |cons e E=>exact mw p s i H x f v u Q I b a ⟨F,g,S,d,e::E,c,R,r,w⟩
theorem xY(m:qd):Slot "list" (mE m) (jW m):=by
 cases m with
 |append=>exact PySem.F.slot_list_append
 |count=>exact PySem.F.slot_list_count
 |insert=>exact PySem.F.slot_list_insert
 |index=>exact PySem.F.slot_list_index
 |extend=>exact PySem.F.slot_list_extend
 |pop=>exact PySem.F.slot_list_pop
theorem xZ(m:qd):typeOf (.builtin (jW m))=pure (.type "method_descriptor"):=by
 cases m with
 |append=>exact PySem.F.type_list_append
 |count=>exact PySem.F.type_list_count
 |insert=>exact PySem.F.type_list_insert
 |index=>exact PySem.F.type_list_index
 |extend=>exact PySem.F.type_list_extend
 |pop=>exact PySem.F.type_list_pop
theorem sy{m:qd}{o:Expr}(I:xD o=true)(A:(apos.endLine==pos.line)=true)(f:∀x∈es,b8 x=true)(T:es.length<20)(l:cs.length=es.length)(B:PE X o (tE X.K X.mg E Φ Γ a))(G:PA X es (tL X.K X.mg E Φ Γ cs)):
  PE X (.Call (.Attribute o (mE m) apos) es [] pos) (tE X.K X.mg E Φ Γ (.meth m a cs)):=by
 have h:attributeBase o (mE m) X.env (eval o X.env)=eval o X.env:=by cases o<;>first|rfl|cases I
 have k:∀{F b d H1 c D Q v},aQ X.K ⟨X.mg,F⟩ b d H1->Rep X.K ⟨X.mg,F⟩ b H1 D v->al X.K ⟨X.mg,F⟩ E (Rep X.K ⟨X.mg,F⟩) b H1 Q (match D with
   | .ref n=>(am Φ Γ cs c d).bind λj i=>(cJ m (.ref n) j i).noErr
   |_=>.fail)->wJ X.K "list" v H1/\al X.K ⟨X.mg,F⟩ E (aj X.K ⟨X.mg,F⟩) b H1 (λvs y=>rM X.K X.mg (cJ m) v vs y Q) (am Φ Γ cs c d):=by
  intro F b d H1 c D Q v s r W;cases D with
  |ref n=>exact⟨F5 s r,(al.bind W).mono λvs y z=>aN z λu i j N L R M=>⟨F,u,i,_,j,L,Rep.mono N _ _ r,R,dO M⟩⟩
  |_=>exact W.elim
 cases es with
 |nil=>have e:=ZF l;subst e;refine aX (rG PySem.F.plainAttrs_list (xY m) (xZ m) (jX m) B h A) λO H Q z=>aH z λF t c S q g w=>⟨F,t,c,S,q,g,(al.bind w).mono λv H1 z=>aN z λb d D C s r W=>?_⟩;obtain⟨K,p⟩:=k s r W;exact⟨K,p b H1 [] .refl s .nil⟩
 |cons e es=>
  refine aX (wK PySem.F.plainAttrs_list (xY m) (xZ m) (jX m) B G h ?_ A (c_ (f e Zd)) (mK λx J=>f x (Zc _ J))) λO H Q z=>aH z λF t c S q g w=>⟨F,t,c,S,q,g,(al.bind w).mono λv H1 z=>aN z λb d D C s r W=>?_⟩
  ·rw[xR f];have P:(backToKw pos (keywordEach [] X.env)).all (λx=>x.1.isSome)=true:=rfl
   grind
  ·obtain⟨K,p⟩:=k s r W;exact⟨K,F,b,c,d,s,g.mono C,p⟩
end
theorem x_{t:Addr}{i:Nat}{x:Value}(h:s.heap.IsTupleIter it t i)(g:s.heap.IsTuple t items)(j:items[i]?=some x)
  (e:∀h',h'.IsTupleIter it t (i+1)->Heap.SameBut it s.heap h'->Q x {s with heap:=h'}):wpAny (model prog w) A (Builtin.SmallTypes.nextOf (.ref it)) Q E s:=by
 obtain⟨o,a,f,H⟩:=id h;obtain⟨O,c,_,nl,b⟩:=g;refine Za (Z1 h.typeIs F.slot_tuple_iterator_next (ZY F.slot_tuple_iterator_next h.typeIs F.entry_tuple_iterator_next ?_ (F.args_tuple_iterator_next_1 _)));show wpAny _ _ (field _ 0>>=_) _ _ s;refine Za (Z4 a H rfl ?_);refine Za (Z4 a H rfl ?_);refine Za (wpAny_seqItems c b ?_);simp[j];refine Za (wpAny_setField a H (by simp) (Ze ⟨x,rfl,Ze (e _ ?_ (Z6 ..))⟩));exact⟨_,Heap.get?_update_self _ a (Obj.isFreed_of_fields (Obj.data_mapFields H _)),(Obj.cls_mapFields ..).trans f,by rw[Obj.data_mapFields H];simp[rawInt]⟩
theorem ya{t:Addr}{i:Nat}{Q:Vs}(g:A.handled=none)(h:s.heap.IsTupleIter it t i)(j:s.heap.IsTuple t items)(k:items[i]?=none)
  (f:∀h' e,Heap.ExtBut it s.heap h'->(∃o,h'.get? e=some o/\o.cls=.type "StopIteration")->E (.ref e) {s with heap:=h'}):wpAny (model prog w) A (Builtin.SmallTypes.nextOf (.ref it)) Q E s:=by
 obtain⟨o,b,l,H⟩:=id h;obtain⟨O,c,_,nl,a⟩:=j;refine Za (Z1 h.typeIs F.slot_tuple_iterator_next (ZY F.slot_tuple_iterator_next h.typeIs F.entry_tuple_iterator_next ?_ (F.args_tuple_iterator_next_1 _)));show wpAny _ _ (field (.ref it) 0>>=_) _ _ s;refine Za (Z4 b H (x:=.ref t) rfl ?_);refine Za (Z4 b H rfl ?_);refine Za (wpAny_seqItems c a ?_);simp only[Int.toNat_natCast,k];refine Za (wpAny_rule (Za (wpAny_setField b H (by simp) ?_)));refine Za ?_;refine Za (m:=firstArgMember _ _) (wpAny_of_eq (rfl) ?_);refine wpAny_newObj_type ?_ (by size_fits);refine Za (wpAny_handled ?_)
 first|lia|rw[g]
 refine Za (Ze (wpAny_throw ?_));exact f _ _ (((Z6 ..).extBut.push _).push _) ⟨_,Zi _ rfl,rfl⟩
def bI(b:Bool)(h:Heap)(l:Addr)(xs:Av):Prop:=match b with
 |true=>h.IsList l xs
 |false=>h.IsTuple l xs
def ba(b:Bool)(h:Heap)(it l:Addr)(i:Nat):Prop:=match b with
 |true=>h.IsListIter it l i
 |false=>h.IsTupleIter it l i
theorem bI.at{b:Bool}{l:Addr}{xs:Av}(q:bI b h l xs)(k:∀o,h.get? l=some o->h'.get? l=some o):bI b h' l xs:=by
 cases b with
 |true=>exact Heap.IsList.at q k
 |false=>obtain⟨o,e,r⟩:=q;exact⟨o,k o e,r⟩
theorem ba.at{b:Bool}{l:Addr}{i:Nat}(q:ba b h it l i)(k:∀o,h.get? it=some o->h'.get? it=some o):ba b h' it l i:=by
 cases b with
 |true=>exact Heap.IsListIter.at q k
 |false=>exact Heap.IsTupleIter.at q k
theorem ba.obj{b:Bool}{l:Addr}{i:Nat}(q:ba b h it l i):∃o,h.get? it=some o/\∀v,o.data≠.cell v:=by
 cases b with
 |true=>obtain⟨o,e,c,d⟩:=q;simp_all
 |false=>obtain⟨o,e,c,d⟩:=q;simp_all
theorem ij(d:A.handled=none)(b:Bool)(it l:Addr)(a:l≠it)(items:Av):
  Draws prog w A it [it,l] items.size (λi v=>items[i]?=some v) (λi h=>ba b h it l i/\bI b h l items):=by
 cases b with
 |true=>exact Draws.list d _ l a _
 |false=>exact{
   live:=λ_ _ S=>let⟨o,k,_⟩:=S.1;⟨o,k⟩
   frame:=λ_ _ _ S f=>⟨S.1.at λo e=>f _ (by simp) o e,S.2.at λo e=>f l (by simp) o e⟩
   item:=λi s Q E n S j=>by refine x_ S.1 S.2 (x:=items[i]) (by simp_all) λm H c=>?_;exact j _ _ _ (by simp_all) ⟨H,S.2.at λo e=>c.extBut _ _ a e⟩ c
   done:=λs Q E S g=>ya d S.1 S.2 (by simp) g}
structure ej (z TI TO i1 i2 l1 l2:Addr):Prop where
 TIz:TI≠z
 TOz:TO≠z
 i1z:i1≠z
 i2z:i2≠z
 TITO:TI≠TO
 TIi1:TI≠i1
 TIi2:TI≠i2
 TOi1:TO≠i1
 TOi2:TO≠i2
 i12:i1≠i2
 l1:l1≠z/\l1≠TO/\l1≠i1/\l1≠i2
 l2:l2≠z/\l2≠TO/\l2≠i1/\l2≠i2
theorem sA{prog:Program}{w:World}{b:Bool}{t:Addr}{i:Nat}{Q:Vs}(c:A.handled=none)(h:ba b s.heap it t i)(d:bI b s.heap t items)(f:items[i]?=none)
  (H:∀h' e,Heap.ExtBut it s.heap h'->(∃o,h'.get? e=some o/\o.cls=.type "StopIteration")->E (.ref e) {s with heap:=h'}):wpAny (model prog w) A (Builtin.SmallTypes.nextOf (.ref it)) Q E s:=by
 cases b with
 |true=>exact wpAny_nextOf_list_end c h d f H
 |false=>exact ya c h d f H
section
variable {z TI TO i1 i2 l1 l2:Addr}{k1 k2:Nat}{xs ys:Av}{a b:Value}
theorem sB(D:ej z TI TO i1 i2 l1 l2)(hh:A.handled=none){x y:Value}
  (O:IsZip s.heap z TI TO .none) (hTI:IsPair s.heap TI (.ref i1) (.ref i2)) (hTO:IsPair s.heap TO a b)
  (h1:ba b1 s.heap i1 l1 k1) (h2:ba b2 s.heap i2 l2 k2) (hl1:bI b1 s.heap l1 xs) (hl2:bI b2 s.heap l2 ys) (hx:xs[k1]?=some x) (hy:ys[k2]?=some y)
  (hQ:∀h',IsZip h' z TI TO (rawInt s.heap.objs.size)->IsPair h' TO x y->ba b1 h' i1 l1 (k1+1)->ba b2 h' i2 l2 (k2+1)->IsPair h' s.heap.objs.size x y->h'.objs.size=s.heap.objs.size+1->
   (∀c o,c≠z->c≠TO->c≠i1->c≠i2->s.heap.get? c=some o->h'.get? c=some o)->∀tk,Q (.ref s.heap.objs.size) {s with heap:=h',toks:=tk}):
  wpAny (model prog w) A (Builtin.«zip.__next__» ⟨[.ref z],[]⟩) (λaF s'=>∃v,aF=.done (.ret v)/\Q v s') E s:=by
 have D1:=ij (prog:=prog) (w:=w) (A:=A) hh b1 i1 l1 D.l1.2.2.1 xs;have D2:=ij (prog:=prog) (w:=w) (A:=A) hh b2 i2 l2 D.l2.2.2.2 ys;have n1:k1<xs.size:=(Array.getElem?_eq_some_iff.mp hx).1;have n2:k2<ys.size:=(Array.getElem?_eq_some_iff.mp hy).1;show wpAny _ _ (field (.ref z) 2>>=_) _ _ _;refine Za (Z4 O rfl (x:=.bool false) rfl ?_);show wpAny _ _ (field (.ref z) 3>>=_) _ _ _;refine Za (Z4 O rfl (x:=.ref TI) rfl ?_);refine Za (wpAny_seqItems hTI rfl ?_);show wpAny _ _ (Builtin.SmallTypes.ownedTupleIsFree (.ref z)>>=_) _ _ _;refine Za ?_;unfold Builtin.SmallTypes.ownedTupleIsFree;refine Za (Z4 O rfl (x:=.none) rfl (Ze ?_));simp only[if_true];refine Za (wpAny_rule ?_);refine Za (Z4 O rfl (x:=.ref TO) rfl ?_);refine Za (Z8 O (by simp) λR q H=>?_);replace q:IsZip R z TI TO .ellipsis:=q;refine Za ?_;simp only[List.zipIdx_cons,List.zipIdx_nil,List.forIn_cons,List.forIn_nil];refine Za (Za (wpAny_onRaise ?_));show wpAny _ _ (Builtin.SmallTypes.nextOf (.ref i1)>>=_) _ _ _;refine Za (D1.item k1 _ _ _ n1 ⟨h1.at λo e=>H.extBut _ _ D.i1z e,hl1.at λo e=>H.extBut _ _ D.l1.1 e⟩ λx' T tk M S d=>Ze ?_);rw[hx]at M;cases M;have t:IsPair T TO a b:=d.extBut _ _ D.TOi1 (H.extBut _ _ D.TOz hTO);refine Za (wpAny_seqItems t rfl ?_);refine Za (wpAny_updateSeq_pair t λU k f=>?_);replace k:IsPair U TO x b:=k;refine Za (wpAny_letGo (Ze ?_));refine Za (Za (wpAny_onRaise ?_));show wpAny _ _ (Builtin.SmallTypes.nextOf (.ref i2)>>=_) _ _ _;refine Za (D2.item k2 _ _ _ n2 ⟨h2.at λo e=>f.extBut _ _ D.TOi2.symm (d.extBut _ _ D.i12.symm (H.extBut _ _ D.i2z e)),hl2.at λo e=>f.extBut _ _ D.l2.2.1 (d.extBut _ _ D.l2.2.2.1 (H.extBut _ _ D.l2.1 e))⟩ λy' V tk2 N K i=>Ze ?_);rw[hy]at N;cases N;have u:IsPair V TO x b:=i.extBut _ _ D.TOi2 k;refine Za (wpAny_seqItems u rfl ?_);refine Za (wpAny_updateSeq_pair u λh g j=>?_);replace g:IsPair h TO x y:=g;refine Za (wpAny_letGo (Ze (Ze ?_)));refine Za (wpAny_seqItems g rfl ?_);refine Za (wpAny_newTuple ?_);have L:h.objs.size=s.heap.objs.size:=by rw[j.1,i.1,f.1,d.1,H.1]
 have C:IsZip h z TI TO .ellipsis:=j.extBut _ _ D.TOz.symm (i.extBut _ _ D.i2z.symm (f.extBut _ _ D.TOz.symm (d.extBut _ _ D.i1z.symm q)));have I:∀c o,c≠z->c≠TO->c≠i1->c≠i2->s.heap.get? c=some o->h.get? c=some o:=λc o G X Z c4 e=>j.extBut _ _ X (i.extBut _ _ c4 (f.extBut _ _ X (d.extBut _ _ Z (H.extBut _ _ G e))));have g1:ba b1 h i1 l1 (k1+1):=S.1.at λo e=>j.extBut _ _ D.TOi1.symm (i.extBut _ _ D.i12 (f.extBut _ _ D.TOi1.symm e));have g2:ba b2 h i2 l2 (k2+1):=K.1.at λo e=>j.extBut _ _ D.TOi2.symm e;have F:z<h.objs.size:=Zl C;show wpAny _ _ (Builtin.SmallTypes.ownedTupleHandOut (.ref z) (.ref h.objs.size)>>=_) _ _ _;refine Za ?_;unfold Builtin.SmallTypes.ownedTupleHandOut;have J:IsZip (h.push {cls:=.type "tuple",data:=.seq #[x,y]}) z TI TO .ellipsis:=Zb _ C;refine Za (Z8 J (by simp) λW r n=>?_);replace r:IsZip W z TI TO (rawInt h.objs.size):=r;refine Z8 r (by simp) λm l p=>?_;replace l:IsZip m z TI TO (rawInt h.objs.size):=l;have Y:∀c o,c≠z->h.get? c=some o->m.get? c=some o:=λc o G e=>p.extBut _ _ G (n.extBut _ _ G (Zb _ e));have B:IsPair m h.objs.size x y:=p.extBut _ _ (Nat.ne_of_gt F) (n.extBut _ _ (Nat.ne_of_gt F) (Zi _ rfl));have P:m.objs.size=h.objs.size+1:=by rw[p.1,n.1,Heap.size_push]
 rw[L]at l B P;refine Ze ⟨_,rfl,?_⟩;show Q (.ref h.objs.size) _;rw[L];exact hQ m l (Y _ _ D.TOz g) (g1.at λo e=>Y _ o D.i1z e) (g2.at λo e=>Y _ o D.i2z e) B P (λc o G X Z c4 e=>Y c o G (I c o G X Z c4 e)) _
theorem F6(D:ej z TI TO i1 i2 l1 l2)(I:A.handled=none){Q:Fin->Shared->Prop}
  (v:IsZip s.heap z TI TO .none) (K:IsPair s.heap TI (.ref i1) (.ref i2)) (L:IsPair s.heap TO a b)
  (h1:ba b1 s.heap i1 l1 k1) (Z:ba b2 s.heap i2 l2 k2) (u:bI b1 s.heap l1 xs) (N:bI b2 s.heap l2 ys) (t:xs[k1]?=none\/ys[k2]?=none)
  (P:∀h' e tk,(∀c o,c≠z->c≠TO->c≠i1->c≠i2->s.heap.get? c=some o->h'.get? c=some o)->(∃o,h'.get? e=some o/\o.cls=.type "StopIteration")->E (.ref e) {s with heap:=h',toks:=tk}):
  wpAny (model prog w) A (Builtin.«zip.__next__» ⟨[.ref z],[]⟩) Q E s:=by
 have W:=ij (prog:=prog) (w:=w) (A:=A) I b1 i1 l1 D.l1.2.2.1 xs;have D2:=ij (prog:=prog) (w:=w) (A:=A) I b2 i2 l2 D.l2.2.2.2 ys;show wpAny _ _ (field (.ref z) 2>>=_) _ _ _;refine Za (Z4 v rfl (x:=.bool false) rfl ?_);show wpAny _ _ (field (.ref z) 3>>=_) _ _ _;refine Za (Z4 v rfl (x:=.ref TI) rfl ?_);refine Za (wpAny_seqItems K rfl ?_);show wpAny _ _ (Builtin.SmallTypes.ownedTupleIsFree (.ref z)>>=_) _ _ _;refine Za ?_;unfold Builtin.SmallTypes.ownedTupleIsFree;refine Za (Z4 v rfl (x:=.none) rfl (Ze ?_));simp only[if_true];refine Za (wpAny_rule ?_);refine Za (Z4 v rfl (x:=.ref TO) rfl ?_);refine Za (Z8 v (by simp) λy f h=>?_);replace f:IsZip y z TI TO .ellipsis:=f;refine Za ?_;simp only[List.zipIdx_cons,List.zipIdx_nil,List.forIn_cons,List.forIn_nil];refine Za (Za (wpAny_onRaise ?_));show wpAny _ _ (Builtin.SmallTypes.nextOf (.ref i1)>>=_) _ _ _;by_cases U:k1<xs.size
 ·have hy:ys[k2]?=none:=t.resolve_left (by simp[U]);refine Za (W.item k1 _ _ _ U ⟨h1.at λo e=>h.extBut _ _ D.i1z e,u.at λo e=>h.extBut _ _ D.l1.1 e⟩ λx p tk T S H=>Ze ?_);have i:IsPair p TO a b:=H.extBut _ _ D.TOi1 (h.extBut _ _ D.TOz L);refine Za (wpAny_seqItems i rfl ?_);refine Za (wpAny_updateSeq_pair i λq G d=>?_);refine Za (wpAny_letGo (Ze ?_));refine Za (Za (wpAny_onRaise ?_));show wpAny _ _ (Builtin.SmallTypes.nextOf (.ref i2)>>=_) _ _ _;refine Za (sA I (Z.at λo e=>d.extBut _ _ D.TOi2.symm (H.extBut _ _ D.i12.symm (h.extBut _ _ D.i2z e))) (N.at λo e=>d.extBut _ _ D.l2.2.1 (H.extBut _ _ D.l2.2.2.1 (h.extBut _ _ D.l2.1 e))) hy λB e k M=>?_);obtain⟨O,g,j⟩:=M;have n:IsZip B z TI TO .ellipsis:=k _ _ D.i2z.symm (d.extBut _ _ D.TOz.symm (H.extBut _ _ D.i1z.symm f));have r:e≠z:=λx=>by subst x;rw[n]at g;cases g;simp at j
  exact Z8 n (by simp) λF _ l=>P F e _ (λc o C X J Y x=>l.extBut _ _ C (k _ _ Y (d.extBut _ _ X (H.extBut _ _ J (h.extBut _ _ C x))))) ⟨O,l.extBut _ _ r g,j⟩
 ·have T:xs[k1]?=none:=by simp;omega
  refine Za (sA I (h1.at λo e=>h.extBut _ _ D.i1z e) (u.at λo e=>h.extBut _ _ D.l1.1 e) T λp e H M=>?_);obtain⟨O,g,j⟩:=M;have m:IsZip p z TI TO .ellipsis:=H _ _ D.i1z.symm f;have r:e≠z:=λx=>by subst x;rw[m]at g;cases g;simp at j
  exact Z8 m (by simp) λq _ d=>P q e _ (λc o C _ J _ x=>d.extBut _ _ C (H _ _ J (h.extBut _ _ C x))) ⟨O,d.extBut _ _ r g,j⟩
theorem F7(D:ej z TI TO i1 i2 l1 l2)(v:A.handled=none){x y:Value}{Q:Ov->Shared->Prop}
  (i:IsZip s.heap z TI TO .none) (h:IsPair s.heap TI (.ref i1) (.ref i2)) (H:IsPair s.heap TO a b)
  (h1:ba b1 s.heap i1 l1 k1) (r:ba b2 s.heap i2 l2 k2) (d:bI b1 s.heap l1 xs) (e:bI b2 s.heap l2 ys) (B:xs[k1]?=some x) (C:ys[k2]?=some y)
  (u:∀h',IsZip h' z TI TO (rawInt s.heap.objs.size)->IsPair h' TO x y->ba b1 h' i1 l1 (k1+1)->ba b2 h' i2 l2 (k2+1)->IsPair h' s.heap.objs.size x y->h'.objs.size=s.heap.objs.size+1->
   (∀c o,c≠z->c≠TO->c≠i1->c≠i2->s.heap.get? c=some o->h'.get? c=some o)->∀tk,Q (some (.ref s.heap.objs.size)) {s with heap:=h',toks:=tk}):
  wpAny (model prog w) A (pyNext (.ref z)) Q E s:=by
 have f:s.TypeIs (.ref z) _:=⟨_,i,rfl⟩
 exact Za (wpAny_attempt (Z1 f F.slot_zip_next
  (ZY F.slot_zip_next f F.entry_zip_next (sB D (show A.in1.handled=none from v) i h H h1 r d e B C λh' j k l m n p q tk=>Ze (u _ j k l m n p q _)) (F.args_zip_next_1 _))))
theorem F8(D:ej z TI TO i1 i2 l1 l2)(q:A.handled=none){Q:Ov->Shared->Prop}
  (k:IsZip s.heap z TI TO .none) (H:IsPair s.heap TI (.ref i1) (.ref i2)) (d:IsPair s.heap TO a b)
  (h1:ba b1 s.heap i1 l1 k1) (l:ba b2 s.heap i2 l2 k2) (f:bI b1 s.heap l1 xs) (g:bI b2 s.heap l2 ys) (h:xs[k1]?=none\/ys[k2]?=none)
  (m:∀h' tk,(∀c o,c≠z->c≠TO->c≠i1->c≠i2->s.heap.get? c=some o->h'.get? c=some o)->Q none {s with heap:=h',toks:=tk}):wpAny (model prog w) A (pyNext (.ref z)) Q E s:=by
 have i:s.TypeIs (.ref z) _:=⟨_,k,rfl⟩
 refine Za (wpAny_attempt (Z1 i F.slot_zip_next
  (ZY F.slot_zip_next i F.entry_zip_next (F6 D (show A.in1.handled=none from q) k H d h1 l f g h λh' e tk r p=>?_) (F.args_zip_next_1 _))))
 obtain⟨o,u,n⟩:=p;refine Za (wpAny_isInstance ⟨o,u,n⟩ isSubtype_stop ?_);exact Ze (m _ _ r)
end
noncomputable def dQ(b:Bool)(l:Addr):Obj:={cls:=.type (match b with|true=>"list_iterator"|false=>"tuple_iterator"),data:=.fields #[.ref l,.int 0 0]}
def yb(h:Heap)(b:Bool)(l:Addr):Heap:=h.push (dQ b l)
noncomputable def yc(h:Heap)(b B:Bool)(l L:Addr):Heap:=(yb h b l).push (dQ B L)
noncomputable def yd(h:Heap)(b B:Bool)(l L:Addr):Heap:=(yc h b B l L).push {cls:=.type "tuple",data:=.seq #[.ref h.objs.size,.ref (yb h b l).objs.size]}
noncomputable def ye(h:Heap)(b B:Bool)(l L:Addr):Heap:=(yd h b B l L).push {cls:=.type "tuple",data:=.seq #[.none,.none]}
noncomputable def ql(h:Heap)(b B:Bool)(l L:Addr):Heap:=(ye h b B l L).push {cls:=.type "zip",data:=.fields #[.none,.bool false,.bool false,.ref (yc h b B l L).objs.size,.ref (yd h b B l L).objs.size]}
theorem mO(c B:Bool)(l L:Addr)(xs y:Av):
  Meets (Builtin.«zip.__new__» ⟨[.type "zip",.ref l,.ref L],[]⟩) (λ_ R s=>bI c s.heap l xs/\bI B s.heap L y/\R (.ok (.ret (.ref (ye s.heap c B l L).objs.size))) {s with heap:=ql s.heap c B l L}):=
 .of_wp λp w A R s h=>by
  obtain⟨b,g,d,t,O⟩:=s;obtain⟨f,i,h⟩:=h;have k:=sub_zip;have H:bI B (yb b c l) L y:=i.at λo e=>Zb _ e;cases c with
  |true=>
   have a:Heap.IsList (Shared.heap ⟨b,g,d,t,O⟩) l xs:=f;cases B with
   |true=>
    have H:Heap.IsList (Shared.heap ⟨b.push {cls:=.type "list_iterator",data:=.fields #[.ref l,.int 0 0]},g,d,t,O⟩) L y:=H
    wp_walk using Yi a,Yi H
    exact⟨_,rfl,h⟩
   |false=>
    have H:Heap.IsTuple (Shared.heap ⟨b.push {cls:=.type "list_iterator",data:=.fields #[.ref l,.int 0 0]},g,d,t,O⟩) L y:=H
    wp_walk using Yi a,Ye H
    exact⟨_,rfl,h⟩
  |false=>
   have a:Heap.IsTuple (Shared.heap ⟨b,g,d,t,O⟩) l xs:=f;cases B with
   |true=>
    have H:Heap.IsList (Shared.heap ⟨b.push {cls:=.type "tuple_iterator",data:=.fields #[.ref l,.int 0 0]},g,d,t,O⟩) L y:=H
    wp_walk using Ye a,Yi H
    exact⟨_,rfl,h⟩
   |false=>
    have H:Heap.IsTuple (Shared.heap ⟨b.push {cls:=.type "tuple_iterator",data:=.fields #[.ref l,.int 0 0]},g,d,t,O⟩) L y:=H
    wp_walk using Ye a,Ye H
    exact⟨_,rfl,h⟩
theorem sC{b:Bool}{l:Addr}(e:h.get? it=some (dQ b l)):ba b h it l 0:=by
 cases b with
 |true=>exact⟨_,e,rfl,rfl⟩
 |false=>exact⟨_,e,rfl,rfl⟩
theorem F9{l L:Addr}{xs y:Av}(H:bI b1 s.heap l xs)(a:bI b2 s.heap L y)
  (h:∀h',IsZip h' (s.heap.objs.size+4) (s.heap.objs.size+2) (s.heap.objs.size+3) .none->IsPair h' (s.heap.objs.size+2) (.ref s.heap.objs.size) (.ref (s.heap.objs.size+1))->
   IsPair h' (s.heap.objs.size+3) .none .none->ba b1 h' s.heap.objs.size l 0->ba b2 h' (s.heap.objs.size+1) L 0->h'.objs.size=s.heap.objs.size+5->
   (∀c o,s.heap.get? c=some o->h'.get? c=some o)->Q (.ref (s.heap.objs.size+4)) {s with heap:=h'}):
  wpAny (model prog w) A (call (.type "zip") [.ref l,.ref L]) Q E s:=by
 refine callType_new F.called_zip (by decide) (F.typeCall_zip_2 _ _) (F.newCall_zip_2 _ _) (λobj=>F.args_object_init_3 obj _ _) F.entry_zip_new (mO b1 b2 l L xs y) ⟨H,a,?_⟩;have z:(yb s.heap b1 l).objs.size=s.heap.objs.size+1:=Heap.size_push ..;have Z:(yc s.heap b1 b2 l L).objs.size=s.heap.objs.size+2:=by unfold yc;rw[Heap.size_push,z]
 have b:(yd s.heap b1 b2 l L).objs.size=s.heap.objs.size+3:=by unfold yd;rw[Heap.size_push,Z]
 have d:(ye s.heap b1 b2 l L).objs.size=s.heap.objs.size+4:=by unfold ye;rw[Heap.size_push,b]
 have k:(ql s.heap b1 b2 l L).objs.size=s.heap.objs.size+5:=by unfold ql;rw[Heap.size_push,d]
 have g:(ql s.heap b1 b2 l L).get? (ye s.heap b1 b2 l L).objs.size=some _:=Zi _ rfl;have f:(ql s.heap b1 b2 l L).get? (yd s.heap b1 b2 l L).objs.size=some _:=Zb _ (Zi _ rfl);have e:(ql s.heap b1 b2 l L).get? (yc s.heap b1 b2 l L).objs.size=some _:=Zb _ (Zb _ (Zi _ rfl));have G:(ql s.heap b1 b2 l L).get? (yb s.heap b1 l).objs.size=some (dQ b2 L):=Zb _ (Zb _ (Zb _ (Zi _ (by cases b2<;>rfl))));have j:(ql s.heap b1 b2 l L).get? s.heap.objs.size=some (dQ b1 l):=Zb _ (Zb _ (Zb _ (Zb _ (Zi _ (by cases b1<;>rfl)))));show _/\_;rw[Z,b,d]at g;rw[z,Z]at e;rw[b]at f;rw[z]at G;rw[d]
 exact⟨⟨_,g,rfl⟩,h _ g e f (sC j) (sC G) k λc o x=>
  Zb _ (Zb _ (Zb _ (Zb _ (Zb _ x))))⟩
def gc(b:Bool)(K:Fg)(H:Hp)(l:Addr)(xs:List V):Prop:=match b with
 |true=>c6 K H l xs
 |false=>cf K H l xs
noncomputable def Mn(K:Fg)(b B:Bool)(l L:Addr):It:=
 ⟨λi H=>∃xs ys x y,gc b K H l xs/\gc B K H L ys/\xs[i]?=some x/\ys[i]?=some y,
  λi H v H'=>∃T x y,v=.ref T/\H T=none/\H'=bg H T (.tup [x,y])/\(∀xs,gc b K H l xs->xs[i]?=some x)/\(∀ys,gc B K H L ys->ys[i]?=some y),
  λi H=>∃xs ys,gc b K H l xs/\gc B K H L ys/\(xs.length<=i\/ys.length<=i)⟩
theorem fP{b:Bool}{l:Addr}{xs:List V}(I:Inv X pq σ H s)(h:gc b X.K H l xs):∃its,Vals xs its/\bI b s.heap l its.toArray:=by
 cases b with
 |true=>obtain⟨its,r,p,_⟩:=I.list h;exact⟨_,r,p.isList⟩
 |false=>obtain⟨its,r,p,_⟩:=I.tuple h;exact⟨_,r,p⟩
theorem sD{b:Bool}{l:Addr}{xs y:List V}(I:Inv X pq σ H s)(h:gc b X.K H l xs)(h':gc b X.K H l y):xs=y:=by
 cases b with
 |true=>exact I.list_inj h h'
 |false=>exact I.tuple_inj h h'
theorem da{b:Bool}{l c:Addr}{xs:List V}(I:Inv X pq σ H s)(h:gc b X.K H l xs)(d:dD X pq H c):l≠c:=by
 have k:∀{o:Obj},X.K.lookup l=some o->l≠c:=λ{o} e=>by
  have E:=I.mod.kin l o e;rintro rfl;rcases d.2.2.2.1 with z|z
  ·exact I.ok.noex l o E z
  ·exact absurd (ZL (Zl E) (ZB I.ok.bsz z)) (Yf _)
 have a:∀{o:HO},H l=some o->l≠c:=λ{o} e=>by rintro rfl;rw[d.1]at e;cases e
 cases b with
 |true=>
  rcases h with(h| ⟨o,h⟩)| ⟨o,i,n,h,_⟩
  ·exact a h
  ·exact a h
  ·exact k h
 |false=>
  rcases h with(h| ⟨o,h⟩)| ⟨o,i,n,h,_⟩
  ·exact a h
  ·exact a h
  ·exact k h
theorem iN{t':Nat}(I:Inv X pq σ H s)(k:∀b o,b∉ch->s.heap.get? b=some o->h'.get? b=some o)(a:∀b∈ch,dD X pq H b):Inv X pq σ H {s with heap:=h',toks:=t'}:=by
 have N:∀b u,H b=some u->b∉ch:=λb u e z=>by rw[(a b z).1]at e;cases e
 refine I.step (λb f=>?_) (λb o _ _ h e _=>k b o h e) (λb o _ _ h e _=>⟨_,k b o h e⟩) (λ_ _ _ _ n=>n)
  (λb o h e=>⟨o,k b o h e⟩) (λ_ _ e=>e) (λ_ _ _ e=>e) (λb P e=>⟨#[],by simp_all⟩) (λm g=>?_) (λb u e=>?_) I.bare
 ·obtain⟨_,F,_,l,p,w⟩:=a b f;lia
 ·obtain⟨o,j,E,i,r⟩:=g;exact⟨o,_,_,k _ o (λz=>(a _ z).2.1 rfl) i,r⟩
 ·refine(I.hok b u e).stay (λc v h q=>k c v ?_ q) (λ_ q=>q) λ_ _ q=>q
  grind
def MP(b B:Bool)(z TI TO I c l L:Addr)(i:Nat)(h:Heap):Prop:=IsZip h z TI TO .none/\IsPair h TI (.ref I) (.ref c)/\(∃a b,IsPair h TO a b)/\ba b h I l i/\ba B h c L i
theorem F_{es:Lx}{x1}{pos:Pos}(b b':Bool)(z TI TO i1 i2 l1 l2:Addr)(n1:TI≠z)(n2:TO≠z)(n3:i1≠z)(n4:i2≠z)(n5:TI≠TO)(n6:TI≠i1)(n7:TI≠i2)(n8:TO≠i1)(n9:TO≠i2)(n10:i1≠i2):
  Turn P w K (.Tuple es x1 pos) (Mn K b b' l1 l2) [z,TI,TO,i1,i2] z (MP b b' z TI TO i1 i2 l1 l2) where
 mem:=by simp
 obj:=λi h ⟨hz,hTI,⟨a,c,hTO⟩,h1,h2⟩ d hd=>by
  simp only[Zn,ZZ,or_false]at hd;rcases hd with rfl|rfl|rfl|rfl|rfl
  ·exact⟨_,hz,λv q=>by have q':Data.fields _=Data.cell v:=q;cases q'⟩
  ·exact⟨_,hTI,λv q=>by have q':Data.seq _ _=Data.cell v:=q;cases q'⟩
  ·exact⟨_,hTO,λv q=>by have q':Data.seq _ _=Data.cell v:=q;cases q'⟩
  ·exact h1.obj
  ·exact h2.obj
 keep:=λi h h' ⟨hz,hTI,⟨a,c,hTO⟩,h1,h2⟩ k=>⟨k z (by simp) _ hz,k TI (by simp) _ hTI,⟨a,c,k TO (by simp) _ hTO⟩,h1.at λo e=>k i1 (by simp) o e,h2.at λo e=>k i2 (by simp) o e⟩
 item:=by
  intro X hP hw hK hc i pq s σ H E I hf st hg;subst hP hw hK;obtain⟨hz,hTI,⟨a,c,hTO⟩,h1,h2⟩:=st;obtain⟨xs,ys,x,y,q1,q2,ex,ey⟩:=hg;obtain⟨us,r1,s1⟩:=fP I q1;obtain⟨ws,r2,s2⟩:=fP I q2;obtain⟨u,eu,ru⟩:=r1.get ex;obtain⟨v,ev,rv⟩:=r2.get ey
  have Dp:ej z TI TO i1 i2 l1 l2:=⟨n1,n2,n3,n4,n5,n6,n7,n8,n9,n10,⟨da I q1 (hf z (by simp)),da I q1 (hf TO (by simp)),da I q1 (hf i1 (by simp)),da I q1 (hf i2 (by simp))⟩,
   ⟨da I q2 (hf z (by simp)),da I q2 (hf TO (by simp)),da I q2 (hf i1 (by simp)),da I q2 (hf i2 (by simp))⟩⟩
  refine F7 Dp (I.ok.hd hc) hz hTI hTO h1 h2 s1 s2 (x:=u) (y:=v) (by simpa using eu) (by simpa using ev) λh' a1 a2 a3 a4 a5 a6 kk tk=>?_;refine⟨_,rfl,?_⟩;refine wpAny_letOwnedTupleGo_zip (s:={s with heap:=h',toks:=tk}) a1 λh2' b1 sb=>?_;have hTn:H s.heap.objs.size=none:=I.hok.fresh (Zg _)
  have kk2:∀c o,c∉[z,TI,TO,i1,i2]->s.heap.get? c=some o->h2'.get? c=some o:=λc o hc e=>by simp only[Zn,ZZ,or_false,not_or]at hc;exact(sb.2 c hc.1).trans (kk c o hc.1 hc.2.2.1 hc.2.2.2.1 hc.2.2.2.2 e)
  have I1:Inv X pq σ H {s with heap:=h2',toks:=tk}:=iN I kk2 hf
  have hTz:∀c∈[z,TI,TO,i1,i2],s.heap.objs.size≠c:=λc hc e=>by
   obtain⟨o,q,_⟩:∃o,s.heap.get? c=some o/\True:=by
    simp only[Zn,ZZ,or_false]at hc;rcases hc with rfl|rfl|rfl|rfl|rfl
    ·exact⟨_,hz,trivial⟩
    ·exact⟨_,hTI,trivial⟩
    ·exact⟨_,hTO,trivial⟩
    ·exact⟨_,h1.obj.choose_spec.1,trivial⟩
    ·exact⟨_,h2.obj.choose_spec.1,trivial⟩
   exact absurd (Zl q) (by rw[e];exact Yf _)
  have hT2:IsPair h2' s.heap.objs.size u v:=(sb.2 _ (hTz z (by simp))).trans a5
  have I2:Inv X pq σ (bg H s.heap.objs.size (.tup [x,y])) {s with heap:=h2',toks:=tk}:=by
   have Im:Inv X pq σ (bg H s.heap.objs.size (.tup [x,y])) {s with heap:=s.heap.push {cls:=.type "tuple",data:=.seq #[u,v]},toks:=s.toks}:=
    I.laid (λb o e=>Zb _ e) (Zg _) ⟨by show 2<=sizeLine;decide,[u,v],.cons ru (.cons rv .nil),⟨_,Zi _ rfl,rfl,_,rfl⟩,_,Zi _ rfl,rfl⟩
   refine iN (s:={s with heap:=s.heap.push {cls:=.type "tuple",data:=.seq #[u,v]},toks:=s.toks}) Im (ch:=[z,TI,TO,i1,i2]) (λb o hb e=>?_) λb hb=>?_
   ·rcases Heap.get?_push_cases e with⟨rfl,rfl⟩|e'
    ·exact hT2
    ·exact kk2 b o hb e'
   ·obtain⟨f0,f1⟩:=hf b hb;exact⟨by rw[a_ (λe=>hTz b hb e.symm)];exact f0,f1⟩
  refine⟨.ref s.heap.objs.size,bg H s.heap.objs.size (.tup [x,y]),I2,rfl,⟨s.heap.objs.size,x,y,rfl,hTn,rfl,λzs hq=>by rw[sD I hq q1];exact ex,λzs hq=>by rw[sD I hq q2];exact ey⟩,
   ⟨b1,(sb.2 TI n1).trans (kk TI _ n1 n5 n6 n7 hTI),⟨u,v,(sb.2 TO n2).trans a2⟩,a3.at λo e=>(sb.2 i1 n3).trans e,a4.at λo e=>(sb.2 i2 n4).trans e⟩,λc hc=>?_⟩
  rw[a_ (λe=>hTz c hc e.symm)];exact(hf c hc).1
 done:=by
  intro X hP hw hK hc i pq s σ H E I hf st hg;subst hP hw hK;obtain⟨hz,hTI,⟨a,c,hTO⟩,h1,h2⟩:=st;obtain⟨xs,ys,q1,q2,en⟩:=hg;obtain⟨us,r1,s1⟩:=fP I q1;obtain⟨ws,r2,s2⟩:=fP I q2;have hl1:=r1.length;have hl2:=r2.length
  have Dp:ej z TI TO i1 i2 l1 l2:=⟨n1,n2,n3,n4,n5,n6,n7,n8,n9,n10,⟨da I q1 (hf z (by simp)),da I q1 (hf TO (by simp)),da I q1 (hf i1 (by simp)),da I q1 (hf i2 (by simp))⟩,
   ⟨da I q2 (hf z (by simp)),da I q2 (hf TO (by simp)),da I q2 (hf i1 (by simp)),da I q2 (hf i2 (by simp))⟩⟩
  refine F8 Dp (I.ok.hd hc) hz hTI hTO h1 h2 s1 s2 (en.elim (λen=>.inl (by simp;omega)) λen=>.inr (by simp;omega)) λh' tk kk=>?_;refine⟨rfl,iN I (ch:=[z,TI,TO,i1,i2]) (λc o hc e=>?_) hf⟩;simp only[Zn,ZZ,or_false,not_or]at hc;exact kk c o hc.1 hc.2.2.1 hc.2.2.2.1 hc.2.2.2.2 e
 self:=λ_ _ _ _ _ st h=>wpAny_pyIter_zip st.1 h
noncomputable def jY(b:Int):Bool:=Builtin.Range.rangeFitsLong 0&&Builtin.Range.rangeFitsLong b&&Builtin.Range.rangeFitsLong 1&&Builtin.Range.rangeFitsLong (-1)&&Builtin.Range.rangeFitsLong (0-1)&&Builtin.Range.rangeFitsLong (Builtin.Range.rangeSize 0 b 1)
theorem Ga(r:Addr)(b:Int)(t u v:Tok)(H:¬(!jY b)=true):
  Meets (Builtin.«range.__reversed__» ⟨[.ref r],[]⟩) (λ_ R s=>s.heap.get? r=some {cls:=.type "range",dict:=none,data:=.fields #[.int 0 t,.int b u,.int 1 v],slots:= #[]}/\
   R (.ok (.ret (Value.ref s.heap.objs.size))) {s with heap:=s.heap.push {cls:=Value.type (if jY b=true then "range_iterator" else "longrange_iterator"),data:=Data.fields #[rawInt (0+(Builtin.Range.rangeSize 0 b 1-1)*1),rawInt (Builtin.Range.rangeSize 0 b 1),rawInt (-1)]},toks:=s.toks}):=
 .of_wp λp w A R s h=>by
  obtain⟨c,h⟩:=h;unfold jY at H h
  wp_walk
  rw[if_neg H]
  wp_walk
  lia
theorem Gb{b:Int}(h1: -(2^62)<=b)(h:b<2^62):jY b=true:=by
 unfold jY;rw[rangeSize_one];unfold Builtin.Range.rangeFitsLong
 grind
theorem Gd:isSubtype (.type "range_iterator") (.type "reversed")=pure false:=by kernel_rfl
noncomputable def gf(n:Nat):Obj:={cls:=.type "range_iterator",data:=.fields #[rawInt ((n:Int)-1),rawInt (n:Int),rawInt (-1)]}
theorem Ge{r:Addr}{b:Int}{t u v:Tok}(a:IsRange s.heap r 0 b 1 t u v)(h1: -(2^62)<=b)(d:b<2^62)
  (h:Q (.ref s.heap.objs.size) {s with heap:=s.heap.push (gf b.toNat)}):wpAny (model prog w) A (call (.builtin "range.__reversed__") [.ref r]) Q E s:=by
 have f:s.TypeIs (.ref r) _:=⟨_,a,rfl⟩;have g:=Gb h1 d;refine call_meets F.slot_range_reversed f F.entry_range_reversed (F.args_range_reversed_1 _) (Ga r b t u v (by lia)) ⟨a,?_⟩;rw[g];have e:Builtin.Range.rangeSize 0 b 1=b.toNat:=by rw[rangeSize_one];lia
 rw[e];have c:0+((b.toNat)-1)*1=(b.toNat:Int)-1:=by omega
 rw[c];exact h
theorem Gf{r:Addr}{b:Int}{t u v:Tok}(c:IsRange s.heap r 0 b 1 t u v)(h1: -(2^62)<=b)(d:b<2^62)
  (h:Q₁ (.ref s.heap.objs.size) {s with heap:=s.heap.push (gf b.toNat)}):
  codeAny (model prog w) A (.call (.builtin "reversed.__new__") ⟨[.type "reversed",.ref r],[]⟩) (wants Q₁ E) s:=by
 have e:s.TypeIs (.ref r) "range":=⟨_,c,rfl⟩;refine codeAny_of_tree ?_;show wpAny _ A.in1 (do checkBuiltinCall "reversed.__new__" ⟨[.type "reversed",.ref r],[]⟩;again (.builtin "reversed.__new__" ⟨[.type "reversed",.ref r],[]⟩)) _ _ s;refine Za (wpAny_of_eq (F.newCall_reversed_1 _) (Ze ⟨plainId_quiet F.plain_reversed_new _,codeAny_builtin F.entry_reversed_new ?_⟩));rw[Around.under_plainId F.plain_reversed_new _];unfold Builtin.«R.__new__»;refine Za (wpAny_of_eq (newClass_reversed _) ?_)
 try dsimp only
 refine Za (wpAny_of_eq (a:=()) (by first|rfl|kernel_rfl) ?_);refine Za (wpAny_of_eq (a:=()) (by first|rfl|kernel_rfl) ?_)
 try dsimp only
 refine Za (wpAny_specialOf e F.slot_range_reversed.lookup ?_)
 try dsimp only
 refine Za (wpAny_of_eq (F.slot_range_reversed.bind _) ?_)
 try dsimp only
 first
 |rw[if_neg (show ¬((Value.builtin "range.__reversed__"==Value.none)=true)from Bool.false_ne_true)]
 | (show wpAny _ _ (if(Value.builtin "range.__reversed__"==Value.none)=true then _ else _) _ _ _;rw[if_neg (show ¬((Value.builtin "range.__reversed__"==Value.none)=true)from Bool.false_ne_true)])
 refine Za (wpAny_rule ?_);refine Za (m:=runValue (.call (.builtin "range.__reversed__") ⟨[.ref r],[]⟩)) (show wpAny _ _ (call (.builtin "range.__reversed__") [.ref r]) _ _ _ from Ge c h1 d ?_)
 first
 |exact Ze h
 |exact Za (Ze (Ze h))
theorem Gg{r:Addr}{b:Int}{t u v:Tok}(d:IsRange s.heap r 0 b 1 t u v)(h1: -(2^62)<=b)(c:b<2^62)
  (h:Q (.ref s.heap.objs.size) {s with heap:=s.heap.push (gf b.toNat)}):wpAny (model prog w) A (call (.type "reversed") [.ref r]) Q E s:=by
 refine callType_other (Q₁:=λobj S=>obj=.ref _/\S={s with heap:=s.heap.push _}) (by lia) F.create_reversed ⟨_,_,F.mro_reversed⟩ F.made_reversed Gd (F.typeCall_reversed_1 _) (Gf d h1 c ⟨rfl,rfl⟩) ?_;rintro obj S ⟨rfl,rfl⟩;exact⟨⟨_,Zi _ rfl,rfl⟩,h⟩
noncomputable def Gh(n:Nat):It:=⟨λi _=>i<n,λi H x H'=>H'=H/\x=.int ((n:Int)-1-i),λi _=>n<=i⟩
theorem Gi(it:Addr)(n:Nat):Turn P w K tg (Gh n) [it] it (λi h=>IsRangeIter h it (((n:Int)-1)+(i:Nat)*(-1)) ((n:Int)-(i:Nat)) (-1)) where
 mem:=by simp
 obj:=λi h st b hb=>by simp_all
 keep:=λi h h' st k=>k _ (by simp) _ st
 item:=by intro X hP hw hK hc i pq s σ H E I hf st hg;subst hP hw hK;obtain⟨f0,f1,f2,f3,f4,f5⟩:=hf it (by simp);have W:=Walks.range (prog:=X.prog) (w:=X.w) (I.ok.hd hc) it ((n)-1) (-1) n;refine W.item i s _ _ hg st λv h' tk hv st' kk=>?_;obtain⟨t,rfl⟩:=hv;have I1:Inv X _ _ H {s with heap:=h',toks:=tk}:=I.turned (λb o hb e=>kk b o (by simp_all) e) f0 f1 f3 f4 f5;refine⟨_,rfl,ic st' rfl rfl (rfl) ⟨.int _,H,I1,⟨t,?_⟩,⟨rfl,rfl⟩,st',λb hb=>(hf b hb).1⟩⟩;lia
 done:=by intro X hP hw hK hc i pq s σ H E I hf st hg;obtain⟨f0,f1,f2,f3,f4,f5⟩:=hf it (by simp);exact wpAny_pyNext_range_end (I.ok.hd hc) st (by have:n<=i:=hg;omega) λh' eb=>⟨rfl,I.turned (λb o hb e=>eb b o hb e) f0 f1 f3 f4 f5⟩
 self:=λ_ _ _ _ _ st h=>wpAny_pyIter_rangeiter st h
theorem Gj:bootBuiltins (Str.ofString "reversed")=some (.type "reversed"):=by decide+kernel
def yf(t:TA):TI:=λσ H R=>t σ H λvs H1=>∃j:Int,vs=[.int j]/\ -(2^62)<=j/\j<2^62/\R (Gh j.toNat) H1
theorem mP{a:Expr}{T:TA}{C D p F:Pos}(f:Gl X "reversed")(i:X.mg "reversed"=none)(z:Gl X "range")(A:X.mg "range"=none)(x:PA X [a] T)(hs:starEach [a] X.env=[(false,eval a X.env)]:=by rfl):
  PI X tg (.Call (.Name "reversed" C) [.Call (.Name "range" D) [a] [] p] [] F) (yf T):=by
 intro P s n H R I h;refine Call_ (ef I f i Gj (Z0 ?_ rfl rfl));refine Calls.spliced_cons ?_;refine Call_ (ef I z A boot_range (Z0 (a' (x p P s n H _ I h) λU S ⟨vs,H1,u,J,Q⟩=>?_) hs rfl));obtain⟨j,e,Q,G,q⟩:=Q;subst e;cases J with
 |cons r K=>
  cases K;obtain⟨t,rfl⟩:=r;refine call_range_1 ?_;have k:Inv X P n H1 {S with heap:=S.heap.push {cls:=.type "range",data:=.fields #[.int 0 S.toks,.int j t,.int 1 (S.toks+1)]},toks:=S.toks+1+1}:=u.kept λb o e=>Zb _ e;refine Calls.spliced_nil ?_;generalize E:S.heap.push _=c at k⊢;have B:IsRange c S.heap.objs.size 0 j 1 S.toks t (S.toks+1):=by rw[<-E];exact IsRange.new ..
  have d:=k;refine Gg B Q G ?_;have g:(c.push (gf j.toNat)).get? c.objs.size=some (gf j.toNat):=Zi _ rfl;refine wpAny_pyIter_rangeiter (step:= -1) g ?_;refine⟨c.objs.size,[c.objs.size],_,_,H1,rfl,d.kept λb o e=>Zb _ e,Gi _ j.toNat,?_,λb y=>?_,q⟩
  ·have v:((j.toNat:Int)-1)+((0:Nat):Int)*(-1)=(j.toNat:Int)-1:=by omega
   have w:(j.toNat:Int)-((0:Nat):Int)=(j.toNat:Int):=by omega
   rw[v,w];exact g
  ·have e:=by simpa using y
   subst e;exact d.fpOk (Zg _) (d.hok.fresh (Zg _))
noncomputable def Mo(it:Addr):Obj:={cls:=.type "enumerate",data:=.fields #[.none,.bool false,.ref it,rawInt 0,.none,.none]}
theorem Gk(b:Bool)(l:Addr)(vs:Av)(o:Obj):
  Meets (Builtin.«enumerate.__new__» ⟨[.type "enumerate",.ref l],[]⟩) (λ_ R s=>s.heap.get? l=some o/\bI b s.heap l vs/\R (.ok (.ret (.ref (s.heap.push (dQ b l)).objs.size))) {s with heap:=(s.heap.push (dQ b l)).push (Mo s.heap.objs.size)}):=
 .of_wp λp w A R s h=>by
  obtain⟨f,g,d,t,O⟩:=s;obtain⟨a,H,h⟩:=h;have q:=sub_enumerate;cases b with
  |true=>
   have H:Heap.IsList (Shared.heap ⟨f,g,d,t,O⟩) l vs:=H
   wp_walk using AutoSeq1.wpAny_loadPart' a
   refine wpAny_stack_any λS=>Ze ?_;split
   ·rename_i c _ _ _ _ _;cases(c==Value.type "enumerate")<;>(wp_walk using AutoSeq1.wpAny_loadPart' a,Yi H)<;>exact⟨_,rfl,h⟩
   ·wp_walk using AutoSeq1.wpAny_loadPart' a,Yi H
    exact⟨_,rfl,h⟩
  |false=>
   have H:Heap.IsTuple (Shared.heap ⟨f,g,d,t,O⟩) l vs:=H
   wp_walk using AutoSeq1.wpAny_loadPart' a
   refine wpAny_stack_any λS=>Ze ?_;split
   ·rename_i c _ _ _ _ _;cases(c==Value.type "enumerate")<;>(wp_walk using AutoSeq1.wpAny_loadPart' a,Ye H)<;>exact⟨_,rfl,h⟩
   ·wp_walk using AutoSeq1.wpAny_loadPart' a,Ye H
    exact⟨_,rfl,h⟩
theorem Gm{b:Bool}{l:Addr}{vs:Av}(H:bI b s.heap l vs)
  (h:∀h',IsEnum h' (s.heap.objs.size+1) s.heap.objs.size 0 .none->ba b h' s.heap.objs.size l 0->h'.objs.size=s.heap.objs.size+2->(∀b o,s.heap.get? b=some o->h'.get? b=some o)->Q (.ref (s.heap.objs.size+1)) {s with heap:=h'}):
  wpAny (model prog w) A (call (.type "enumerate") [.ref l]) Q E s:=by
 obtain⟨o,f⟩:∃o,s.heap.get? l=some o:=by
  cases b with
  |true=>obtain⟨o,e,_⟩:=H;simp_all
  |false=>obtain⟨o,e,_⟩:=H;simp_all
 refine callType_new F.called_enumerate (by lia) (F.typeCall_enumerate_1 _) (F.newCall_enumerate_1 _) (λobj=>F.args_object_init_2 _ _) F.entry_enumerate_new (Gk b l vs o) ⟨f,H,?_⟩;have d:(s.heap.push (dQ b l)).objs.size=s.heap.objs.size+1:=Heap.size_push ..;rw[d]
 have a:=by have:=Zi (s.heap.push (dQ b l)) (o:=Mo s.heap.objs.size) rfl;rw[d]at this;exact this
 exact⟨⟨_,a,rfl⟩,h _ a (sC (Zb _ (Zi _ rfl))) (by simp_all) λb o x=>Zb _ (Zb _ x)⟩
theorem sE{b:Bool}{t:Addr}{i:Nat}{x:Value}(h:ba b s.heap it t i)(c:bI b s.heap t items)(d:items[i]?=some x)
  (H:∀h',ba b h' it t (i+1)->Heap.SameBut it s.heap h'->Q x {s with heap:=h'}):wpAny (model prog w) A (Builtin.SmallTypes.nextOf (.ref it)) Q E s:=by
 cases b with
 |true=>exact wpAny_nextOf_list_item h c d H
 |false=>exact x_ h c d H
theorem mQ{b:Bool}{e l:Addr}{i:Nat}{vs:Av}{x old:Value}{Q:Vs}(P:IsEnum s.heap e it i old)(T:ba b s.heap it l i)(hl:bI b s.heap l vs)(hx:vs[i]?=some x)(H:e≠it)
  (Z:∀h',IsEnumOut h' e it ((i:Int)+1) x s.heap.objs.size->ba b h' it l (i+1)->h'.get? s.heap.objs.size=some {cls:=.type "tuple",data:=.seq #[.int i s.toks,x]}->h'.objs.size=s.heap.objs.size+1->
   (∀b o,b≠e->b≠it->s.heap.get? b=some o->h'.get? b=some o)->Q (.ref s.heap.objs.size) {s with heap:=h',toks:=s.toks+1}):
  wpAny (model prog w) A (Builtin.«enumerate.__next__» ⟨[.ref e],[]⟩) (λaF s'=>∃v,aF=.done (.ret v)/\Q v s') E s:=by
 obtain⟨a,g,d,t,O⟩:=s;show wpAny _ _ (field (.ref e) 2>>=_) _ _ _;refine Za (Z4 P rfl (x:=.ref it) rfl (Za (sE T hl hx λk X S=>?_)));replace S:Heap.SameBut it a k:=S;have y:IsEnum k e it i old:=(S.2 e H).trans P;show wpAny _ _ (field (.ref e) 3>>=_) _ _ ⟨k,g,d,t,O⟩;refine Za (Z4 y rfl (x:=rawInt i) rfl ?_);show wpAny _ _ (field (.ref e) 4>>=_) _ _ ⟨k,g,d,t,O⟩;refine Za (Z4 y rfl (x:=.none) rfl ?_);show wpAny _ _ (mkInt i>>=_) _ _ ⟨k,g,d,t,O⟩;refine Za (wpAny_mkInt ?_);show wpAny _ _ (setField (.ref e) 3 (rawInt ((i:Int)+1))>>=_) _ _ ⟨k,g,d,t+1,O⟩;refine Za (Z8 y (by simp) λr z n=>?_);replace n:Heap.SameBut e k r:=n;replace z:IsEnum r e it ((i:Int)+1) old:=z;show wpAny _ _ (setField (.ref e) 4 .none>>=_) _ _ ⟨r,g,d,t+1,O⟩;refine Za (Z8 z (by simp) λK B p=>?_);replace p:Heap.SameBut e r K:=p;replace B:IsEnum K e it ((i:Int)+1) old:=B;show wpAny _ _ (newTuple [.int i t,x]>>=_) _ _ ⟨K,g,d,t+1,O⟩;refine Za (wpAny_newTuple ?_);have C:IsEnum (K.push {cls:=.type "tuple",data:=.seq #[.int i t,x]}) e it ((i:Int)+1) old:=Zb _ B;generalize u:K.push {cls:=.type "tuple",data:=.seq #[.int i t,x]}=m at C;have c:K.objs.size=a.objs.size:=by rw[p.1,n.1,S.1]
 have R:e<a.objs.size:=Zl P;have t4:m.get? a.objs.size=some {cls:=.type "tuple",data:=.seq #[.int i t,x]}:=by rw[<-u,<-c];exact Zi _ rfl
 have z4:m.objs.size=a.objs.size+1:=by rw[<-u,Heap.size_push,c]
 have kp:∀b o,b≠e->b≠it->a.get? b=some o->m.get? b=some o:=λb o h j f=>by rw[<-u];exact Zb _ (p.extBut b o h (n.extBut b o h (S.extBut b o j f)))
 have i4:ba b m it l (i+1):=by rw[<-u];exact X.at λo q=>Zb _ (p.extBut _ o (Ne.symm H) (n.extBut _ o (Ne.symm H) q))
 show wpAny _ _ (Builtin.SmallTypes.ownedTupleIsFree (.ref e)>>=_) _ _ ⟨m,g,d,t+1,O⟩;rw[c];clear u B p z n y S X c K r k;refine Za ?_;unfold Builtin.SmallTypes.ownedTupleIsFree;refine Za (Z4 C rfl (x:=.none) rfl (Ze ?_));simp only[if_true];refine Za (wpAny_rule (Za (Z4 C rfl (x:=old) rfl (Za (Z8 C (by simp) λD L G=>?_)))));replace G:Heap.SameBut e m D:=G;replace L:IsEnum D e it ((i:Int)+1) x:=L;show wpAny _ _ (Builtin.SmallTypes.ownedTupleHandOut (.ref e) (.ref a.objs.size)>>=_) _ _ ⟨D,g,d,t+1,O⟩;refine Za ?_;unfold Builtin.SmallTypes.ownedTupleHandOut;refine Za (Z8 L (by simp) λU M I=>?_);replace I:Heap.SameBut e D U:=I;replace M:IsEnumOut U e it ((i:Int)+1) x a.objs.size:=M;refine Z8 M (by simp) λF N J=>?_;replace J:Heap.SameBut e U F:=J;replace N:IsEnumOut F e it ((i:Int)+1) x a.objs.size:=N;have V:∀b o,b≠e->m.get? b=some o->F.get? b=some o:=λb o f q=>J.extBut b o f (I.extBut b o f (G.extBut b o f q));exact Za (wpAny_letGo (Ze ⟨_,rfl,Z F N (i4.at λo q=>V _ o (Ne.symm H) q) (V _ _ (Nat.ne_of_gt R) t4) (by rw[J.1,I.1,G.1,z4]) λb o h j f=>V b o h (kp b o h j f)⟩))
theorem Gn{b:Bool}{e l:Addr}{i:Nat}{vs:Av}{x old:Value}{Q:Ov->Shared->Prop}(g:IsEnum s.heap e it i old)(h:ba b s.heap it l i)(n:bI b s.heap l vs)(p:vs[i]?=some x)(H:e≠it)
  (m:∀h',IsEnumOut h' e it ((i:Int)+1) x s.heap.objs.size->ba b h' it l (i+1)->h'.get? s.heap.objs.size=some {cls:=.type "tuple",data:=.seq #[.int i s.toks,x]}->h'.objs.size=s.heap.objs.size+1->
   (∀b o,b≠e->b≠it->s.heap.get? b=some o->h'.get? b=some o)->Q (some (.ref s.heap.objs.size)) {s with heap:=h',toks:=s.toks+1}):wpAny (model prog w) A (pyNext (.ref e)) Q E s:=by
 have f:s.TypeIs (.ref e) _:=⟨_,g,rfl⟩
 exact Za (wpAny_attempt (Z1 f F.slot_enumerate_next (ZY F.slot_enumerate_next f F.entry_enumerate_next
   (mQ g h n p H λh' a b c d k=>Ze (m _ a b c d k)) (F.args_enumerate_next_1 _))))
theorem Gp{b:Bool}{e l:Addr}{i:Nat}{vs:Av}{old:Value}{Q:Ov->Shared->Prop}(k:A.handled=none)(d:IsEnum s.heap e it i old)(H:ba b s.heap it l i)(m:bI b s.heap l vs)(p:vs[i]?=none)
  (g:∀h',Heap.ExtBut it s.heap h'->Q none {s with heap:=h'}):wpAny (model prog w) A (pyNext (.ref e)) Q E s:=by
 have c:s.TypeIs (.ref e) _:=⟨_,d,rfl⟩;refine Za (wpAny_attempt (Z1 c F.slot_enumerate_next (ZY F.slot_enumerate_next c F.entry_enumerate_next ?_ (F.args_enumerate_next_1 _))));show wpAny _ _ (field _ 2>>=_) _ _ _;refine Za (Z4 d rfl rfl (Za (sA k H m p λh' y h a=>?_)));obtain⟨o,n,j⟩:=a;exact Za (wpAny_isInstance ⟨o,n,j⟩ isSubtype_stop (Ze (g _ h)))
noncomputable def Mp(K:Fg)(b:Bool)(l:Addr):It:=
 ⟨λi H=>∃xs x,gc b K H l xs/\xs[i]?=some x,
  λi H v H'=>∃T x,v=.ref T/\H T=none/\H'=bg H T (.tup [.int (i:Nat),x])/\∀xs,gc b K H l xs->xs[i]?=some x,
  λi H=>∃xs,gc b K H l xs/\xs.length<=i⟩
theorem yg{es:Lx}{x1}{pos:Pos}(b:Bool)(e it l:Addr)(hne:e≠it):
  Turn P w K (.Tuple es x1 pos) (Mp K b l) [e,it] e (λi h=>(∃old,IsEnum h e it i old)/\ba b h it l i) where
 mem:=by simp
 obj:=λi h ⟨⟨old,he⟩,hi⟩ d hd=>by
  simp only[Zn,ZZ,or_false]at hd;rcases hd with rfl|rfl
  ·exact⟨_,he,λv q=>by have q':Data.fields _=Data.cell v:=q;cases q'⟩
  ·exact ba.obj hi
 keep:=λi h h' ⟨⟨old,he⟩,hi⟩ k=>⟨⟨old,k e (by simp) _ he⟩,hi.at λo q=>k it (by simp) o q⟩
 item:=by
  intro X hP hw hK hc i pq s σ H E I hf st hg;subst hP hw hK;obtain⟨⟨old,he⟩,hi⟩:=st;obtain⟨xs,x,q1,ex⟩:=hg;obtain⟨us,r1,s1⟩:=fP (b:=b) I q1;obtain⟨u,eu,ru⟩:=r1.get ex;refine Gn he hi s1 (x:=u) (by simpa using eu) hne λh' a1 a2 a3 a4 kk=>?_;refine⟨_,rfl,?_⟩;refine wpAny_letOwnedTupleGo_enum (s:={s with heap:=h',toks:=s.toks+1}) a1 λh2' b1 sb=>?_;have hTn:H s.heap.objs.size=none:=I.hok.fresh (Zg _)
  have kk2:∀c o,c∉[e,it]->s.heap.get? c=some o->h2'.get? c=some o:=λc o hc q=>by simp only[Zn,ZZ,or_false,not_or]at hc;exact(sb.2 c hc.1).trans (kk c o hc.1 hc.2 q)
  have I1:Inv X pq σ H {s with heap:=h2',toks:=s.toks+1}:=iN I kk2 hf
  have hTz:∀c∈[e,it],s.heap.objs.size≠c:=λc hc q=>by
   obtain⟨o,z⟩:∃o,s.heap.get? c=some o:=by
    simp only[Zn,ZZ,or_false]at hc;rcases hc with rfl|rfl
    ·exact⟨_,he⟩
    ·obtain⟨o,z,_⟩:=ba.obj hi;exact⟨o,z⟩
   exact absurd (Zl z) (by rw[q];exact Yf _)
  have hT2:h2'.get? s.heap.objs.size=some {cls:=.type "tuple",data:=.seq #[.int i s.toks,u]}:=(sb.2 _ (hTz e (by simp))).trans a3
  have I2:Inv X pq σ (bg H s.heap.objs.size (.tup [.int (i:Nat),x])) {s with heap:=h2',toks:=s.toks+1}:=by
   have Im:Inv X pq σ (bg H s.heap.objs.size (.tup [.int (i:Nat),x])) {s with heap:=s.heap.push {cls:=.type "tuple",data:=.seq #[.int i s.toks,u]},toks:=s.toks}:=
    I.laid (λb o q=>Zb _ q) (Zg _) ⟨by show 2<=sizeLine;decide,[.int i s.toks,u],.cons ⟨_,rfl⟩ (.cons ru .nil),⟨_,Zi _ rfl,rfl,_,rfl⟩,_,Zi _ rfl,rfl⟩
   refine iN (s:={s with heap:=s.heap.push {cls:=.type "tuple",data:=.seq #[.int i s.toks,u]},toks:=s.toks}) Im (ch:=[e,it]) (λb o hb q=>?_) λb hb=>?_
   ·rcases Heap.get?_push_cases q with⟨rfl,rfl⟩|q'
    ·exact hT2
    ·exact kk2 b o hb q'
   ·obtain⟨f0,f1⟩:=hf b hb;exact⟨by rw[a_ (λz=>hTz b hb z.symm)];exact f0,f1⟩
  refine⟨.ref s.heap.objs.size,bg H s.heap.objs.size (.tup [.int (i:Nat),x]),I2,rfl,⟨s.heap.objs.size,x,rfl,hTn,rfl,λzs hq=>by rw[sD (b:=b) I hq q1];exact ex⟩,
   ⟨⟨u,b1⟩,a2.at λo q=>(sb.2 it (Ne.symm hne)).trans q⟩,λc hc=>?_⟩
  rw[a_ (λz=>hTz c hc z.symm)];exact(hf c hc).1
 done:=by intro X hP hw hK hc i pq s σ H E I hf st hg;subst hP hw hK;obtain⟨⟨old,he⟩,hi⟩:=st;obtain⟨xs,q1,en⟩:=hg;obtain⟨us,r1,s1⟩:=fP (b:=b) I q1;have hl1:=r1.length;refine Gp (I.ok.hd hc) he hi s1 (by simp;omega) λh' kk=>?_;refine⟨rfl,iN (t':=s.toks) I (ch:=[e,it]) (λc o hc q=>?_) hf⟩;simp only[Zn,ZZ,or_false,not_or]at hc;exact kk c o hc.2 q
 self:=λ_ _ _ _ _ st h=>by obtain⟨⟨old,he⟩,_⟩:=st;exact wpAny_pyIter_slot ⟨_,he,rfl⟩ F.slot_enumerate_iter (ZY F.slot_enumerate_iter ⟨_,he,rfl⟩ F.entry_enumerate_iter (Ze ⟨_,rfl,"enumerate",_,⟨_,he,rfl⟩,F.slot_enumerate_next.lookup,h⟩) (F.args_enumerate_iter_1 _))
structure dz (K:Fg)(F:La)(μ:La)(H:Hp)(F':La)(μ':La)(H':Hp):Prop where
 tup:∀a vs,cf K H a vs->cf K H' a vs
 lst:∀a vs,H a=some (.lst vs)->a∉μ->a∉F->H' a=some (.lst vs)/\a∉μ'/\a∉F'
 frz:∀a vs,rO K H a vs->rO K H' a vs
 box:∀(n:Nat) a,μ[n]?=some a->μ'[n]?=some a
 dct:∀a,H a=some (.dK [])->H' a=some (.dK [])
 ext:∀a φ,H a=some (.ext φ)->a∉F->H' a=some (.ext φ)/\a∉F'
section
variable {F':La}
mutual
theorem Rep.chg(x:dz K F μ H F' μ' H'):∀(d:D) (v:V),Rep K ⟨mg,F⟩ μ H d v->Rep K ⟨mg,F'⟩ μ' H' d v
 | .non,_,h=>h
 | .bl _,_,h=>h
 | .int _,_,h=>h
 | .str _,_,h=>h
 | .tup _,v,h=>by obtain⟨a,vs,e,q,r⟩:=h;exact⟨a,_,e,x.tup a _ q,aj.chg x _ _ r⟩
 | .lst _,v,h=>by obtain⟨a,vs,e,q,n,r⟩:=h;obtain⟨b,f,g⟩:=x.lst a _ q n.1 n.2;exact⟨a,_,e,b,⟨f,g⟩,aj.chg x _ _ r⟩
 | .scr _,v,h=>by obtain⟨a,vs,e,q,r⟩:=h;exact⟨a,_,e,x.frz a _ q,aj.chg x _ _ r⟩
 | .ref n,v,h=>by obtain⟨a,e,q⟩:=h;exact⟨a,e,x.box n a q⟩
 | .fn y,v,h=>h
 | .ty y,v,h=>h
 | .dct,v,h=>by obtain⟨a,e,q⟩:=h;exact⟨a,e,x.dct a q⟩
 | .dks _,v,h=>by obtain⟨a,C,e,q,n,r,k⟩:=h;obtain⟨b,f⟩:=x.ext a _ q n;exact⟨a,_,e,b,f,r,λc i=>x.tup _ _ (k c i)⟩
theorem aj.chg(x:dz K F μ H F' μ' H'):∀(ds:List D) (vs:List V),aj K ⟨mg,F⟩ μ H ds vs->aj K ⟨mg,F'⟩ μ' H' ds vs
 | [],vs,h=>h
 |d::ds,vs,h=>by obtain⟨w,W,e,r,q⟩:=h;exact⟨w,_,e,Rep.chg x d w r,aj.chg x _ _ q⟩
end
theorem be.chg(x:dz K F μ H F' μ' H')(h:be K ⟨mg,F⟩ μ H ρ σ):be K ⟨mg,F'⟩ μ' H' ρ σ:=
 ⟨h.1,λi d e=>let⟨v,a,b⟩:=h.2 i d e;⟨v,a,Rep.chg x _ _ b⟩⟩
theorem dz.start{o:HO}(h:H acc=none):dz K F μ H (acc::F) μ (bg H acc o):=by
 have x:Ext _ H μ (bg H _ o):=.laid h;refine⟨λa vs q=>x.sqT q,λa vs q b c=>⟨(x.lst q b).1,b,λz=>?_⟩,λa vs q=>x.frz q,λn a q=>q,λa q=>x.keep _ _ q (.inl λ_ z=>by lia),λa d q c=>⟨x.keep _ _ q (.inl λ_ z=>by lia),λz=>?_⟩⟩
 ·simp_all
 simp_all
def ik:HO->Bool
 | .lst _=>true
 | .ext _=>true
 |_=>false
theorem dz.more{u:HO}(d:acc∈F)(h:H acc=some u)(f:ik u=true):dz K F μ H F μ (bg H acc u'):=by
 have ne:∀{a:Addr} {o:HO},H a=some o->ik o=false->a≠acc:=λe n z=>by lia
 refine⟨λa vs q=>?_,λa vs q c b=>⟨?_,c,b⟩,λa vs q=>?_,λn a q=>q,λa q=>?_,λa g q b=>⟨by rw[a_ (show a≠acc from λz=>b (by lia))];exact q,b⟩⟩
 ·rcases q with(q| ⟨o,q⟩)|q
  ·exact .inl (.inl (by rw[a_ (ne q rfl)];exact q))
  ·exact .inl (.inr ⟨o,by rw[a_ (ne q rfl)];exact q⟩)
  ·exact .inr q
 ·have:a≠acc:=λz=>by lia
  rw[a_ this];exact q
 ·rcases q with⟨o,q⟩|q
  ·exact .inl ⟨o,by rw[a_ (ne q rfl)];exact q⟩
  ·exact .inr q
 ·rw[a_ (ne q rfl)];exact q
theorem dz.out:dz K (acc::F) μ H F μ H:=
 ⟨λ_ _ q=>q,λa vs q b c=>⟨q,b,λz=>c (Zc _ z)⟩,λ_ _ q=>q,λ_ _ q=>q,λ_ q=>q,λ_ _ q h=>⟨q,λz=>h (Zc _ z)⟩⟩
theorem dz.outBox:dz K (acc::F) μ H F (μ++[acc]) H:=by
 refine⟨λ_ _ q=>q,λa vs q c b=>⟨q,λz=>?_,λz=>b (Zc _ z)⟩,λ_ _ q=>q,λn a q=>?_,λ_ q=>q,λ_ _ q h=>⟨q,λz=>h (Zc _ z)⟩⟩
 ·simp_all
 grind
theorem aQ.start{o:HO}(s:aQ K ⟨mg,F⟩ μ S H)(h:H acc=none):aQ K ⟨mg,acc::F⟩ μ S (bg H acc o):=by
 have x:Ext μ H _ (bg H _ o):=.laid h;refine⟨λa b=>?_,s.len,s.nd,λn a D c d=>?_⟩
 ·rcases Zn.mp b with rfl|b
  ·exact⟨o,dk⟩
  ·obtain⟨O,q⟩:=s.live a b;exact x.there a _ q
 ·obtain⟨vs,q,r⟩:=s.at_ n a _ c d;exact⟨_,by rw[a_ (dC q h)];exact q,aj.chg (.start h) _ _ r⟩
theorem aQ.more{u:HO}(s:aQ K ⟨mg,F⟩ μ S H)(d:acc∈F)(i:acc∉μ)(h:H acc=some u)(g:ik u=true):aQ K ⟨mg,F⟩ μ S (bg H acc u'):=by
 refine⟨λa f=>?_,s.len,s.nd,λn a D b c=>?_⟩
 ·by_cases e:a=acc
  ·subst e;exact⟨_,dk⟩
  ·obtain⟨o,q⟩:=s.live a f;exact⟨_,by rw[a_ e];exact q⟩
 ·obtain⟨vs,q,r⟩:=s.at_ n a _ b c;have:a≠acc:=λz=>by subst z;exact i (ZC b)
  exact⟨_,by rw[a_ this];exact q,aj.chg (.more d h g) _ _ r⟩
theorem aQ.out(s:aQ K ⟨mg,acc::F⟩ μ S H):aQ K ⟨mg,F⟩ μ S H:=
 ⟨λa c=>s.live a (Zc _ c),s.len,s.nd,λn a d h b=>by obtain⟨vs,q,r⟩:=s.at_ n a _ h b;exact⟨_,q,aj.chg .out _ _ r⟩⟩
theorem aQ.outBox{vs:List V}(s:aQ K ⟨mg,acc::F⟩ μ S H)(k:acc∉μ)(h:H acc=some (.lst vs))(r:aj K ⟨mg,acc::F⟩ μ H ys vs):aQ K ⟨mg,F⟩ (μ++[acc]) (S++[ys]) H:=by
 refine⟨λa e=>s.live a (Zc _ e),by simp[s.len],?_,λn a i c d=>?_⟩
 ·rw[ZJ]
  exact⟨s.nd,by simp,λa e b j=>by
   grind⟩
 ·have f:=s.len;by_cases g:n<μ.length
  ·rw[Zw g]at c;rw[Zw (by omega)]at d;obtain⟨w,q,R⟩:=s.at_ n a _ c d;exact⟨_,q,aj.chg .outBox _ _ R⟩
  ·have E:n=μ.length:=by
    grind
   subst E;simp[f]at c d;subst c;subst d;exact⟨_,h,aj.chg .outBox _ _ r⟩
theorem Ext.more{o:HO}(x:Ext μ H μ1 H1)(h:H acc=none):Ext μ H μ1 (bg H1 acc o):=
 ⟨x.pre,λa u e c=>by rw[a_ (dC e h)];exact x.keep a u e c,λa u e=>by rw[a_ (dC e h)];exact x.there a u e,x.fresh⟩
theorem Ext.outBox(x:Ext μ H μ1 H1)(h:H acc=none):Ext μ H (μ1++[acc]) H1:=by
 obtain⟨r,e⟩:=x.pre;refine⟨⟨r++[acc],by simp_all⟩,x.keep,x.there,λa b=>?_⟩;rcases Zq.mp b with b|b
 ·exact x.fresh a b
 simp_all
end
noncomputable def bp:iG->aa->Nat->Option (Option D)
 | .items xs=>λ_ i=>some xs[i]?
 | .live _ get=>get
def fQ(K:Fg)(m:GS)(J:It)(get:aa->Nat->Option (Option D))(μ:La)(H:Hp):Prop:=
 ∀(i:Nat) μ' S' H' F',dz K m.F μ H F' μ' H'->aQ K ⟨m.mg,F'⟩ μ' S' H'->
  (∀x,get S' i=some (some x)->J.go i H'/\∀y H'',J.yld i H' y H''->Ext μ' H' μ' H''/\aQ K ⟨m.mg,F'⟩ μ' S' H''/\Rep K ⟨m.mg,F'⟩ μ' H'' x y)/\(get S' i=some none->J.stop i H')
def tI(K:Fg)(m:Mg)(E:XK)(Φ:FT)(Γ:Str->Option D)(c:CE):TI:=λσ H R=>∃F μ ρ S,aQ K ⟨m,F⟩ μ S H/\be K ⟨m,F⟩ μ H ρ σ/\al K ⟨m,F⟩ E (λμ' H' its J=>fQ K ⟨m,F⟩ J (bp its) μ' H') μ H R (aL Φ Γ c ρ S)
theorem dz.refl:dz K F μ H F μ H:=⟨λ_ _ q=>q,λ_ _ q a b=>⟨q,a,b⟩,λ_ _ q=>q,λ_ _ q=>q,λ_ q=>q,λ_ _ q h=>⟨q,h⟩⟩
theorem dz.trans{d e c:La}{f:Hp}(a:dz K F μ H d μ1 H1)(b:dz K d μ1 H1 e c f):dz K F μ H e c f:=
 ⟨λx vs q=>b.tup x _ (a.tup x _ q),λx vs q g i=>by obtain⟨p,P,j⟩:=a.lst x _ q g i;exact b.lst x _ p P j,λx vs q=>b.frz x _ (a.frz x _ q),λn x q=>b.box n x (a.box n x q),λx q=>b.dct x (a.dct x q),λx k q h=>by obtain⟨p,P⟩:=a.ext x _ q h;exact b.ext x _ p P⟩
theorem dz.of_ext{b:La}(x:Ext μ H μ' H')(d:∀a∈b,a∈F\/H a=none):dz K F μ H b μ' H':=by
 refine⟨λa vs q=>x.sqT q,λa vs q c h=>⟨(x.lst q c).1,(x.lst q c).2,λz=>?_⟩,λa vs q=>x.frz q,λn a q=>x.get q,λa q=>x.keep _ _ q (.inl λ_ z=>by lia),λa e q h=>⟨x.keep _ _ q (.inl λ_ z=>by lia),λz=>?_⟩⟩<;>rcases d a z with z|z
 ·exact h z
 ·simp_all
 ·exact h z
 simp_all
section
variable {E:XK}{l:Expr}{pos:Pos}{c:CE}
theorem sF{R:It->Hp->Prop}{xs:List V}(I:Inv X pq σ H s)(c:c6 X.K H a xs)(q:R (DL X.K a) H):wpAny (model X.prog X.w) X.A (pyIter (.ref a)) (DK X pq σ tg R) E' s:=by
 obtain⟨i,r,p,d⟩:=I.list c;refine Yi p.isList ?_;refine⟨_,_,_,_,H,rfl,I.kept λb o e=>Zb _ e,Ex a _,⟨_,Zi _ rfl,rfl,rfl⟩,λb h=>?_,q⟩;have e:=by simpa using h
 subst e;exact I.fpOk (Zg _) (I.hok.fresh (Zg _))
theorem Gq{R:It->Hp->Prop}{xs:List V}(I:Inv X pq σ H s)(c:cf X.K H a xs)(q:R (Ew X.K a) H):wpAny (model X.prog X.w) X.A (pyIter (.ref a)) (DK X pq σ tg R) E' s:=by
 obtain⟨i,r,p,d⟩:=I.tuple c;refine Ye (show s.heap.IsTuple a _ from p) ?_;refine⟨_,_,_,_,H,rfl,I.kept λb o e=>Zb _ e,Ey a _,⟨_,Zi _ rfl,rfl,rfl⟩,λb h=>?_,q⟩;have e:=by simpa using h
 subst e;exact I.fpOk (Zg _) (I.hok.fresh (Zg _))
theorem yh{m:GS}{vs:List V}{i:Nat}(r:aj K m μ H ds vs)(h:bp (.items ds) S i=some none):vs.length<=i:=by
 have a:ds[i]?=none:=by simpa[bp]using h
 have b:=List.getElem?_eq_none_iff.mp a;have c:=r.length;omega
theorem yi{m:GS}{vs:List V}(h:∀F' μ' H',dz K m.F μ H F' μ' H'->c6 K H' a vs)(r:aj K m μ H ds vs):fQ K m (DL K a) (bp (.items ds)) μ H:=by
 intro i μ' S H' F' c s;refine⟨λy b=>?_,λk=>⟨_,h _ _ _ c,yh r k⟩⟩;have b:=by simpa[bp]using b
 obtain⟨v,f,j⟩:=r.get b;refine⟨⟨_,v,h _ _ _ c,f⟩,λz g d=>?_⟩;obtain⟨rfl,d⟩:=d;have e:=d _ (h _ _ _ c);rw[f]at e;cases e;exact⟨.refl,s,Rep.chg c _ _ j⟩
theorem Gr{m:GS}{vs:List V}(h:cf K H a vs)(r:aj K m μ H ds vs):fQ K m (Ew K a) (bp (.items ds)) μ H:=by
 intro i l S n F c s;refine⟨λy b=>?_,λk=>⟨_,c.tup _ _ h,yh r k⟩⟩;have b:=by simpa[bp]using b
 obtain⟨v,f,j⟩:=r.get b;refine⟨⟨_,v,c.tup _ _ h,f⟩,λz g d=>?_⟩;obtain⟨rfl,d⟩:=d;have e:=d _ (c.tup _ _ h);rw[f]at e;cases e;exact⟨.refl,s,Rep.chg c _ _ j⟩
theorem Gs{M:GS}(g:μ[n]?=some a):fQ K M (DL K a) (bN n) μ H:=by
 intro i o S p F C s;have f:n<S.length:=by rw[<-s.len];exact(Zp.mp (C.box _ _ g)).1
 have j:=Zj f;obtain⟨vs,b,r⟩:=s.at_ n a _ (C.box _ _ g) j;have f:=r.length;refine⟨λy h=>?_,λm=>⟨_,.of b,?_⟩⟩
 ·unfold bN at h;rw[j]at h;simp at h;obtain⟨v,d,l⟩:=r.get h;refine⟨⟨_,v,.of b,d⟩,λz k c=>?_⟩;obtain⟨rfl,c⟩:=c;have e:=c _ (.of b);rw[d]at e;cases e;exact⟨.refl,s,l⟩
 ·unfold bN at m;simp_all
theorem yj(x:PE X l (tE X.K X.mg E Φ Γ c)):PI X tg l (tI X.K X.mg E Φ Γ (.seq c)):=by
 intro P s J H R I h;obtain⟨F,B,G,S,z,q,w⟩:=h;refine a' (x _ s _ H _ I ⟨F,_,_,S,z,q,al.bind w⟩) λu A ⟨v,_,g,j,_,p,d,_,b,i,W⟩=>?_;cases d with
 |tup D=>obtain⟨a,vs,rfl,e,r⟩:=b4 i;cases j;exact Gq g e (W _ _ _ .refl b (Gr e r))
 |lst D=>obtain⟨a,vs,rfl,e,f,r⟩:=i;cases j;exact sF g (.of e) (W _ _ _ .refl b (yi (λm k o C=>.of (C.lst a _ e f.1 f.2).1) r))
 |scr D=>obtain⟨a,vs,rfl,e,r⟩:=i;cases j;exact sF g e.sq (W _ _ _ .refl b (yi (λm k o C=>(C.frz a _ e).sq) r))
 |ref n=>
  obtain⟨a,rfl,f⟩:=i;cases j;have y:n<p.length:=by rw[<-b.len];exact(Zp.mp f).1
  obtain⟨vs,t,r⟩:=b.at_ n a _ f (Zj y);exact sF g (.of t) (W _ _ _ .refl b (Gs f))
 |_=>exact W.elim
theorem yk(lo:Int)(n:Nat):(eP lo n).length=n:=by
 induction n generalizing lo with
 |zero=>rfl
 |succ n i=>unfold eP;simp_all
theorem Gu(lo:Int)(n i:Nat)(h:i<n):(eP lo n)[i]?=some (.int (lo+i)):=by
 induction n generalizing lo i with
 |zero=>omega
 |succ n I=>
  unfold eP
  grind
theorem yl{m:GS}(lo:Int)(n:Nat):fQ K m (wa lo n) (bp (.items (eP lo n))) μ H:=by
 intro i d S e F C s;refine⟨λy h=>?_,λa=>?_⟩
 ·have h:=by simpa[bp]using h
  have a:=by have:=(Zp.mp h).1;rwa [yk]at this
  rw[Gu _ n i a]at h;cases h;refine⟨a,λz b c=>?_⟩;obtain⟨rfl,rfl⟩:=c;exact⟨.refl,s,bG⟩
 ·have:(eP lo n)[i]?=none:=by simpa[bp]using a
  have:=List.getElem?_eq_none_iff.mp this;rw[yk]at this;exact this
variable {es:Lx}{cs:List CE}{a b:CE}{r:Expr}
theorem jZ{m:GS}{Q:List V->Hp->Prop}(w:al K m E (aj K m) μ H Q (am Φ Γ cs ρ S)):al K m E (aj K m) μ H (λvs H'=>vs.length=cs.length/\Q vs H') (am Φ Γ cs ρ S):=by
 cases e:am _ _ _ _ S with
 |ok d a=>rw[e]at w;intro b H' vs x s r;refine⟨?_,w _ _ _ x s r⟩;rw[<-r.length,sw e]
 |err y a=>rw[e]at w;exact w
 |fail=>rw[e]at w;exact w
theorem Gv(O:cK X cell N sc CX E Φ Γ k)(h:bA sc "range"=true)(g:b8 l=true)(d:cs.length=1)(c:PA X [l] (tL X.K X.mg E Φ Γ cs)):PI X tg (.Call (.Name "range" p2) [l] [] pos) (tI X.K X.mg E Φ Γ (.range cs)):=by
 obtain⟨b,_,_⟩:=dP h;intro p s o H R I ⟨F,_,_,S,n,e,w⟩;refine EA (O.gl b) (O.mod.bl _ (by decide+kernel)) c (by rw[c_ g];rfl) _ s _ H R I ⟨F,_,_,S,n,e,(jZ (al.bind w)).mono λvs H1 ⟨_,_,_,_,_,m,r,W⟩=>?_⟩;have f:=r.length;split at W
 ·rename_i j;split at W
  ·rename_i a;obtain⟨v,rfl,i⟩:=r.one;cases aK i;exact⟨j,rfl,a.1,a.2,W _ _ _ .refl m (yl 0 _)⟩
  ·exact W.elim
 ·simp_all
 ·exact W.elim
theorem Gw(O:cK X cell N sc CX E Φ Γ k)(h:bA sc "range"=true)(o:b8 l=true)(a:b8 r=true)(g:cs.length=2)(f:PA X [l,r] (tL X.K X.mg E Φ Γ cs)):PI X tg (.Call (.Name "range" p2) [l,r] [] pos) (tI X.K X.mg E Φ Γ (.range cs)):=by
 obtain⟨d,_,_⟩:=dP h;intro P s u H R I ⟨F,_,_,S,t,e,w⟩;refine EB (O.gl d) (O.mod.bl _ (by decide+kernel)) f (by rw[c_ o,c_ a];rfl) (by rw[c_ a];rfl) _ s _ H R I ⟨F,_,_,S,t,e,(jZ (al.bind w)).mono λvs H1 ⟨_,_,_,_,_,q,c,W⟩=>?_⟩;have n:=c.length;split at W
 ·simp_all
 ·rename_i i j;split at W
  ·rename_i m;obtain⟨v,V,rfl,p,b⟩:=c.two;cases aK p;cases aK b;exact⟨i,j,rfl,m,W _ H1 _ .refl q (yl i _)⟩
  ·exact W.elim
 ·exact W.elim
theorem ym(n:Nat):(cU n).length=n:=by
 induction n with
 |zero=>rfl
 |succ n i=>unfold cU;simp_all
theorem Gx(n i:Nat)(h:i<n):(cU n)[i]?=some (.int ((n:Int)-1-i)):=by
 induction n generalizing i with
 |zero=>omega
 |succ n I=>
  unfold cU
  grind
theorem Gy{m:GS}(n:Nat):fQ K m (Gh n) (bp (.items (cU n))) μ H:=by
 intro i d S e F C s;refine⟨λy h=>?_,λa=>?_⟩
 ·have h:=by simpa[bp]using h
  have a:=by have:=(Zp.mp h).1;rwa [ym]at this
  rw[Gx n i a]at h;cases h;refine⟨a,λz b c=>?_⟩;obtain⟨rfl,rfl⟩:=c;exact⟨.refl,s,bG⟩
 ·have:(cU n)[i]?=none:=by simpa[bp]using a
  have:=List.getElem?_eq_none_iff.mp this;rw[ym]at this;exact this
theorem sG(O:cK X cell N sc CX E Φ Γ k)(h:bA sc "reversed"=true)(h':bA sc "range"=true)(f:b8 l=true)(d:PA X [l] (tL X.K X.mg E Φ Γ cs)):PI X tg (.Call (.Name "reversed" p1) [.Call (.Name "range" p2) [l] [] p3] [] pos) (tI X.K X.mg E Φ Γ (.down cs)):=by
 obtain⟨b,_,_⟩:=dP h;obtain⟨c,_,_⟩:=dP h';intro p s o H R I ⟨F,_,_,S,m,e,w⟩;refine mP (O.gl b) (O.mod.bl _ (by decide+kernel)) (O.gl c) (O.mod.bl _ (by decide+kernel)) d (by rw[c_ f];rfl) _ s _ H R I ⟨F,_,_,S,m,e,(al.bind w).mono λvs H1 ⟨n,_,_,_,i,r,W⟩=>?_⟩;split at W
 ·rename_i j;split at W
  ·rename_i a;obtain⟨v,rfl,g⟩:=r.one;cases aK g;exact⟨j,rfl,a.1,a.2,W _ _ _ .refl i (Gy _)⟩
  ·exact W.elim
 ·exact W.elim
theorem sH{m:GS}(s:aQ K m μ S H)(r:Rep K m μ H d v)(e:av S d=some xs):∃a,v=.ref a/\
  ∀μ' S' H' F',dz K m.F μ H F' μ' H'->aQ K ⟨m.mg,F'⟩ μ' S' H'->∃ys vs,av S' d=some ys/\gc (dL d) K H' a vs/\aj K ⟨m.mg,F'⟩ μ' H' ys vs:=by
 cases d with
 |tup D=>obtain⟨a,vs,rfl,b,q⟩:=b4 r;exact⟨a,rfl,λμ' S' H' F' c f=>⟨_,_,rfl,c.tup _ _ b,aj.chg c _ _ q⟩⟩
 |lst D=>obtain⟨a,vs,rfl,b,h,q⟩:=r;exact⟨a,rfl,λμ' S' H' F' c f=>⟨_,_,rfl,c6.of (c.lst a _ b h.1 h.2).1,aj.chg c _ _ q⟩⟩
 |scr D=>obtain⟨a,vs,rfl,b,q⟩:=r;exact⟨a,rfl,λμ' S' H' F' c f=>⟨_,_,rfl,(c.frz a _ b).sq,aj.chg c _ _ q⟩⟩
 |ref n=>
  obtain⟨a,rfl,h⟩:=r;refine⟨a,rfl,λμ' S' H' F' c f=>?_⟩;have i:n<S'.length:=by rw[<-f.len];exact(Zp.mp (c.box _ _ h)).1
  obtain⟨vs,g,q⟩:=f.at_ n a _ (c.box _ _ h) (Zj _);exact⟨_,_,Zj i,c6.of g,q⟩
 |_=>cases e
theorem iO(h:f' d=some xs)(S:aa):av S d=some xs:=by unfold f' at h;split at h<;>first|exact h|cases h
theorem Gz{e:D}{its:iG}(h:fy S d e=some its):(∃xs ys,av S d=some xs/\av S e=some ys)/\∀S' i,(∃xs ys,av S' d=some xs/\av S' e=some ys)->bp its S' i=mz d e S' i:=by
 unfold fy at h;split at h
 ·rename_i xs ys E a;cases h;refine⟨⟨_,_,iO E S,iO a S⟩,λS' i _=>?_⟩;show some _=_;unfold mz;rw[iO E _,iO a _]
  grind
 ·split at h
  ·rename_i xs ys E a;cases h;exact⟨⟨_,_,E,a⟩,λS' i _=>rfl⟩
  ·cases h
theorem GA{m:GS}{e:D}{u:V}{its:iG}(j:aQ K m μ S H)(rd:Rep K m μ H d v)(re:Rep K m μ H e u)(h:fy S d e=some its):
  ∃a b,v=.ref a/\u=.ref b/\(∃vs,gc (dL d) K H a vs)/\(∃vs,gc (dL e) K H b vs)/\fQ K m (Mn K (dL d) (dL e) a b) (bp its) μ H:=by
 obtain⟨⟨xs,ys,O,P⟩,U⟩:=Gz h;obtain⟨a,rfl,G⟩:=sH j rd O;obtain⟨b,rfl,I⟩:=sH j re P;obtain⟨_,va,_,X,_⟩:=G μ S H m.F .refl j;obtain⟨_,vb,_,Z,_⟩:=I μ S H m.F .refl j;refine⟨a,b,rfl,rfl,⟨va,X⟩,⟨vb,Z⟩,λi f k n F C s=>?_⟩;obtain⟨x,vs,r,Q,R⟩:=G f k n F C s;obtain⟨Y,w,t,l,J⟩:=I f k n F C s;rw[U k i ⟨x,Y,r,t⟩];unfold mz;rw[r,t];have l1:=R.length;have l2:=J.length;refine⟨λy c=>?_,λc=>⟨vs,w,Q,l,?_⟩⟩
 ·have c:=Option.some.inj c;cases g1:x[i]? with
  |none=>rw[g1]at c;cases c
  |some p=>
   cases g2:Y[i]? with
   |none=>rw[g1,g2]at c;cases c
   |some q=>rw[g1,g2]at c;cases c;obtain⟨L,A,rp⟩:=R.get g1;obtain⟨M,B,rq⟩:=J.get g2;refine⟨⟨vs,w,L,M,Q,l,A,B⟩,λz N W=>?_⟩;obtain⟨T,x',y',rfl,g,rfl,z1,z2⟩:=W;have E:=z1 vs Q;rw[A]at E;cases E;have o:=z2 w l;rw[B]at o;cases o;refine⟨.laid g,s.laid g,?_⟩;unfold Rep;exact⟨T,[L,M],rfl,cf.of dk,.cons (Rep.mono (.laid g) _ _ rp) (.cons (Rep.mono (.laid g) _ _ rq) .nil)⟩
 grind
theorem vK{i j:Nat}(h:i≠j):n+i≠n+j:=λe=>h (Nat.add_left_cancel e)
theorem sI{j:Nat}(h:0≠j):n≠n+j:=λe=>h (Nat.add_left_cancel (n:=n) (by lia))
theorem il{j:Nat}(h:0≠j):n+j≠n:=λe=>sI h e.symm
theorem GB:bootBuiltins "zip"=some (.type "zip"):=by decide+kernel
theorem yn(O:cK X cell N sc CX E Φ Γ k)(h:bA sc "zip"=true)(D:eR tg=true)(C:b8 l=true)(m:b8 r=true)(B:PA X [l,r] (tL X.K X.mg E Φ Γ cs)):PI X tg (.Call (.Name "zip" p2) [l,r] [] pos) (tI X.K X.mg E Φ Γ (.zip cs)):=by
 obtain⟨A,_,_⟩:=dP h;intro J s σ H R I ⟨F,μ,ρ,S,sk,y,w⟩;refine Call_ (ef I (O.gl A) (O.mod.bl _ (by decide+kernel)) GB (Z0 (a' (B pos J s σ H _ I ⟨F,μ,ρ,S,sk,y,al.bind w⟩) λus n ⟨vs,H1,f,Y,o,x,ds,x1,i,T,W⟩=>?_) (c_ C) (by rw[c_ m];rfl)));split at W
 ·rename_i d e;obtain⟨v,u,rfl,U,V⟩:=T.two;cases j:fy x d e with
  |none=>rw[j]at W;exact W.elim
  |some G=>
   rw[j]at W;obtain⟨a,b,rfl,rfl,⟨va,L⟩,⟨vb,M⟩,ok⟩:=GA i U V j;cases Y with
   |cons p q=>
    cases q with
    |cons P Q=>
     cases Q;cases p;cases P;obtain⟨as,ra,Z⟩:=fP f L;obtain⟨bs,rb,sb⟩:=fP f M;refine F9 Z sb λh' z z2 z3 z4 z5 z6 K=>?_;refine wpAny_pyIter_zip z ?_;have t:=f.kept (t':=n.toks) K;cases tg with
     |Tuple ts x1 tp=>
      refine⟨_,_,_,_,H1,rfl,t,
       F_ (dL d) (dL e) _ _ _ n.heap.objs.size _ a b (vK (by decide)) (vK (by decide)) (sI (by decide)) (vK (by decide)) (vK (by decide)) (il (by decide)) (vK (by decide)) (il (by decide)) (vK (by decide)) (sI (by decide)),⟨z,z2,⟨_,_,z3⟩,z4,z5⟩,λc hc=>?_,W o H1 _ .refl i ok⟩
      have g:n.heap.objs.size<=c:=by
       grind
      exact f.fpOk g (f.hok.fresh g)
     |_=>cases D
 ·exact W.elim
theorem sJ:∀(xs:List D) (k i:Nat),(dg k xs)[i]?=(xs[i]?).map λx=>D.tup [.int ((k+i:Nat):Int),x]
 | [],k,i=>rfl
 |x::xs,k,0=>rfl
 |x::xs,k,i+1=>by
  have:=sJ xs (k+1) i;have e:(dg k (x::xs))[i+1]?=(dg _ _)[i]? :=rfl
  grind
theorem GC{m:GS}(j:aQ K m μ S H)(R:Rep K m μ H d v)(c:f' d=some xs):∃a,v=.ref a/\(∃vs,gc (dL d) K H a vs)/\fQ K m (Mp K (dL d) a) (bp (.items (dg 0 xs))) μ H:=by
 obtain⟨a,rfl,g⟩:=sH j R (iO c S);obtain⟨_,A,_,Q,_⟩:=g _ S H _ .refl j;refine⟨a,rfl,⟨_,Q⟩,λi t w u F C s=>?_⟩;obtain⟨x,vs,f,q,r⟩:=g _ _ _ _ C s;rw[iO c _]at f;cases f;have L:=r.length;refine⟨λy h=>?_,λh=>⟨_,q,?_⟩⟩
 ·have h:=by simpa[bp]using h
  rw[sJ]at h;cases g1:xs[i]? with
  |none=>simp_all
  |some p=>rw[g1]at h;cases h;obtain⟨V,k,o⟩:=r.get g1;refine⟨⟨_,_,q,k⟩,λz l n=>?_⟩;obtain⟨T,X,rfl,b,rfl,Z⟩:=n;have e:=Z _ q;rw[k]at e;cases e;refine⟨.laid b,s.laid b,?_⟩;refine⟨T,_,rfl,cf.of dk,.cons ?_ (.cons (Rep.mono (.laid b) _ _ o) .nil)⟩;rw[Nat.zero_add];exact bG
 ·have h:(dg 0 xs)[i]?=none:=by simpa[bp]using h
  rw[sJ,Option.map_eq_none_iff,List.getElem?_eq_none_iff]at h;omega
theorem GD:bootBuiltins "enumerate"=some (.type "enumerate"):=by decide+kernel
theorem sK(O:cK X cell N sc CX E Φ Γ k)(h:bA sc "enumerate"=true)(t:eR tg=true)(r:b8 l=true)(o:PA X [l] (tL X.K X.mg E Φ Γ cs)):PI X tg (.Call (.Name "enumerate" p2) [l] [] pos) (tI X.K X.mg E Φ Γ (.enum cs)):=by
 obtain⟨n,_,_⟩:=dP h;intro P s L H R I ⟨F,G,J,S,C,m,w⟩;refine Call_ (ef I (O.gl n) (O.mod.bl _ (by decide+kernel)) GD (Z0 (a' (o pos P s L H _ I ⟨F,G,J,S,C,m,al.bind w⟩) λus i ⟨vs,H1,f,A,g,M,T,D,e,x,W⟩=>?_) (c_ r) rfl));split at W
 ·rename_i d;cases hd:f' d with
  |none=>rw[hd]at W;exact W.elim
  |some xs=>
  rw[hd]at W;obtain⟨v,rfl,y⟩:=x.one;obtain⟨a,rfl,⟨va,Q⟩,ok⟩:=GC e y hd;cases A with
  |cons p q=>
   cases q;cases p;obtain⟨as,ra,B⟩:=fP f Q;refine Gm B λV z Z z3 u=>?_;have j:=f.kept (t':=i.toks) u;refine(yg (es:=[]) (x1:=0) (pos:=⟨0,0,0,0⟩) (K:=X.K) _ _ _ a (il (by decide))).self _ _ _ _ _ ⟨⟨_,z⟩,Z⟩ ?_;cases tg with
   |Tuple ts y1 tp=>
    refine⟨_,_,_,_,H1,rfl,j,yg _ _ _ a (il (by decide)),⟨⟨_,z⟩,Z⟩,λc Y=>?_,W g H1 _ .refl e ok⟩
    have b:i.heap.objs.size<=c:=by
     grind
    exact f.fpOk b (f.hok.fresh b)
   |_=>cases t
 ·exact W.elim
end
noncomputable def fg(i:Lx)(env:Env):Sem Bool:=forIn i true (λc r=>if r=true then do let ok <-isTrue c env (eval c env);pure (ForInStep.yield ok)else pure (ForInStep.yield r))
noncomputable def bC(c:Expr)(e:Sem Unit)(g:List Comprehension)(d:Nat)(a:Value)(env:Env):Sem Unit:=match g[d+1]? with
 |some g'=>do
   let x <-eval g'.iter env
   standAt g'.iter.pos
   let x <-if g'.is_async !=0 then foldedIterable g'.iter x else foldedSetIterable g'.iter env x
   let _ <-runOwn (.compStart c (d+1) (<-holding [x] (if g'.is_async !=0 then asyncIter x else pyIter x)) a env) env
 |none=>e
noncomputable def sL(e:Expr)(a:Value)(env:Env):Sem Unit:=do let _ <-call (.builtin "list.append") [a,<-eval e env]
theorem GF{C:Expr}{e:Sem Unit}{d:Nat}{it a:Value}{env:Env}{t i:Expr}{fs:Lx}(h:gens[d]?=some ⟨t,i,fs,0⟩):
  (do
    let some g:=gens[d]? |unsupported "internal:comprehension-depth"
    standAt (if g.is_async !=0 then C.pos else g.iter.pos)
    match <-if g.is_async !=0 then asyncNext it else pyNext it with
    |none=>pure (.done .next)
    |some v=>
     letOwnedTupleGo g.target it v
     assign g.target env v
     let mut ok:=true
     for c in g.ifs do
      if ok then ok <-isTrue c env (eval c env)
     if ok then
      match gens[d+1]? with
      |some g'=>
       let x <-eval g'.iter env
       standAt g'.iter.pos
       let x <-if g'.is_async !=0 then foldedIterable g'.iter x else foldedSetIterable g'.iter env x
       let _ <-runOwn (.compStart C (d+1) (<-holding [x] (if g'.is_async !=0 then asyncIter x else pyIter x)) a env) env
      |none=>e
     again (.compLoop C d it a env):Sem Fin)=(standAt i.pos>>=λ_=>pyNext it>>=λr=>match r with
   |none=>pure (.done .next)
   |some v=>letOwnedTupleGo t it v>>=λ_=>assign t env v>>=λ_=>(fg fs env>>=λok=>if ok=true then bC C e gens d a env else pure ())>>=λ_=>
    again (.compLoop C d it a env)):=by
 simp only[h];show(standAt i.pos>>=λ_=>pyNext it>>=_)=_;congr 1;funext _;congr 1;funext r;cases r with
 |none=>rfl
 |some v=>
  show(letOwnedTupleGo t it v>>=λ_=>assign t env v>>=λ_=>_>>=λok=>_)=_;congr 1;funext _;congr 1;funext _
  conv=>rhs;rw[bind_assoc]
  unfold fg;refine congrArg (λk=>_>>=k) (funext λok=>?_);cases ok with
  |true=>
   unfold bC;cases gens[d+1]? with
   |none=>rfl
   |some g'=>
    by_cases H:(g'.is_async !=0)=true
    ·simp_all
    simp_all
  |false=>simp_all
section
variable {em:Sem Unit}{d:Nat}
theorem mR{fs:Lx}{ts:List TT}{t:TU}(e:xq X fs ts)(c:PB X (bC ce em gens d (.ref acc) X.env) t):
  PB X (fg fs X.env>>=λok=>if ok=true then bC ce em gens d (.ref acc) X.env else pure ()) (xv ts t):=by
 intro p s f H Q I h;refine Za (a' (xt _ _ e _ s _ H _ I h) λb S ⟨_,a,q⟩=>?_);cases b with
 |false=>exact Ze ⟨_,_,a,q⟩
 |true=>exact c _ _ _ _ Q a q
theorem mS(g:gens[d+1]?=none)(f:PE X elt te):PB X (bC ce (sL elt (.ref acc) X.env) gens d (.ref acc) X.env) (xu acc te):=by intro p s l H Q I h;unfold bC;rw[g];refine Za (a' (f _ s _ H _ I h) λu S ⟨v,_,b,r,_,e,i,q⟩=>?_);refine Za (a' (wO _ _ _ _ (.ref _) _ _ _ (λ_ a=>Q _ a) b rfl (.cons r .nil) ⟨_,_,v,rfl,rfl,e,i,q⟩) λ_ k ⟨_,_,c,_,j⟩=>?_);exact Ze ⟨_,_,c,j⟩
theorem GG{t i:Expr}{fs:Lx}{g:TG}{tb:TU}(b:iF ce=true)(k:clausesOf ce=gens)(m:∀it:Addr,compTurn ce (d+1) (.ref it) (.ref acc) X.env=(standAt i.pos>>=λ_=>pyNext (.ref it)>>=λr=>match r with
   |none=>pure (.done .next)
   |some v=>letOwnedTupleGo t (.ref it) v>>=λ_=>assign t X.env v>>=λ_=>(fg fs X.env>>=λok=>if ok=true then bC ce em gens (d+1) (.ref acc) X.env else pure ())>>=λ_=>again (.compLoop ce (d+1) (.ref it) (.ref acc) X.env))) (B:X.xe=λ_ _=>False) (A:X.calm=true) (o:gens[d+1]?=some ⟨t,i,fs,0⟩) (hi:PI X t i wi) (hs:∀x,foldedSetIterable i X.env x=pure x) (n:PG X t g)
  (z:PB X (fg fs X.env>>=λok=>if ok=true then bC ce em gens (d+1) (.ref acc) X.env else pure ()) tb):PB X (bC ce em gens d (.ref acc) X.env) (r8 wi g tb):=by
 intro P s M H Q I h;unfold bC;rw[o];refine Za (a' (hi _ s _ H _ I h) λv G w=>Za (wpAny_standAt (Za ?_)));rw[hs];refine Ze (Za (Z5 (a' w λC K y=>Za ?_)));obtain⟨it,E,L,J,D,e,u,T,S,F,W⟩:=y;subst e
 have l:codeAny _ _ _ (λr c=>match r with
   | .ok f=>∃a j,Inv X _ a j c/\Q a j
   | .error e=>cameBackBy (model X.prog X.w) X.A X.env X.xe e c) _:=
  xo b B A (m _) T n z u S F W λc a j p _ q=>⟨_,_,p,q⟩
 refine wpAny_runOwn ?_;refine codeAny_mono (xp b (by rw[k];exact o) l (T.self _ 0 _ _ _ S l)) λr c q=>?_;cases r with
 |ok f=>exact Ze q
 |error e=>exact q
end
noncomputable def DU:List CT->p6
 | []=>v9
 |t::ts=>match t with
  | .var i=>p9 (eO i) (DU ts)
  | .tup _=>λ_ _ _ _=>False
def qm(K:Fg):CT->TG
 | .var i=>eO i
 | .tup ts=>v_ K ts.length (DU ts)
section
variable {E:XK}
theorem qo(O:cK X cell N sc CX E Φ Γ k){i:Nat}{p:Pos}(h:qf cell N sc (.var i)=true):PG X (.Name (N.getD i "") p) (eO i):=by
 have H:=(ab h).1;have a:=(ab h).2;generalize N.getD i _=x at H a;simp at H a
 have b:L2.Loc X.env.scope x:=by
  unfold L2.Loc;rw[O.sc]
  grind
 refine lD (by rw[O.n];exact O.nd) (by rw[O.n];exact H) b ?_;rcases a with z|z
 ·exact .inr (by rw[O.sc];exact z)
 ·exact .inl (O.fn x z.1)
theorem sM{env:Env}:∀{ts:List CT} {es:Lx},((assignEach (gR ts N es) env).length=ts.length/\(assignEach (gR ts N es) env).findIdx? (·.1)=none)
 | [],_=>⟨rfl,rfl⟩
 |t::ts,es=>by
  have i:=sM (env:=env) (ts:=ts) (es:=es.tail);have e:assignEach (gR (t::ts) N es) env=(false,assign (iL t N (es.headD dE)) env)::assignEach (gR ts N es.tail) env:=by cases t<;>rfl
  simp_all
theorem qp(O:cK X cell N sc CX E Φ Γ k):∀{ts:List CT} {es:Lx},sj cell N sc ts=true->v7 X (gR ts N es) (DU ts)
 | [],es,h=>lE
 |t::ts,es,h=>by
  cases t with
  |tup _=>exact λ_ _ _ _ _ _ _ _ _ z=>z.elim
  |var i=>exact Es (qo O (ab h).1) (qp O (ab h).2)
theorem j0(O:cK X cell N sc CX E Φ Γ k){t:CT}(h:qf cell N sc t=true):PG X (iL t N e) (qm X.K t):=by
 cases t with
 |var i=>exact qo O h
 |tup T=>exact qS O.calm (qp O h) sM.1 sM.2
theorem qq{F μ:La}{H:Hp}{K:Fg}{m:Mg}{ρ':bD}{Q:L2.St->Hp->Prop}:∀{ts:List CT} {ds:List D} {vs:List V} {ρ:bD} {σ:L2.St},cH ts ds ρ=some ρ'->aj K ⟨m,F⟩ μ H ds vs->be K ⟨m,F⟩ μ H ρ σ->(∀σ',be K ⟨m,F⟩ μ H ρ' σ'->Q σ' H)->DU ts vs σ H Q
 | [],ds,vs,ρ,σ,h,r,e,q=>by
  cases ds with
  |nil=>cases h;exact⟨r,q _ e⟩
  |cons _ _=>cases h
 |t::ts,ds,vs,ρ,σ,h,r,e,q=>by
  cases t with
  |tup _=>cases h
  |var i=>
   cases ds with
   |nil=>cases h
   |cons d ds=>obtain⟨v,w,rfl,R,a⟩:=r.uncons;exact⟨v,w,rfl,qq h a (e.set R) q⟩
theorem sN{ρ':bD}:∀{ts:List CT} {ds:List D} {ρ:bD},cH ts ds ρ=some ρ'->ts.length=ds.length/\ρ'.length=ρ.length
 | [],ds,ρ,h=>by
  cases ds with
  |nil=>cases h;simp_all
  |cons _ _=>cases h
 |t::ts,ds,ρ,h=>by
  cases t with
  |tup _=>cases h
  |var i=>
   cases ds with
   |nil=>cases h
   |cons d ds=>have:=sN (ts:=ts) h;simp_all
theorem yo{ρ':bD}{j:Nat}:∀{ts:List CT} {ds:List D} {ρ:bD},cH ts ds ρ=some ρ'->(∀i∈fL ts,i≠j)->ρ'[j]?=ρ[j]?
 | [],ds,ρ,h,H=>by
  cases ds with
  |nil=>cases h;rfl
  |cons _ _=>cases h
 |t::ts,ds,ρ,h,H=>by
  cases t with
  |tup _=>cases h
  |var i=>
   cases ds with
   |nil=>cases h
   |cons d ds=>rw[yo (ts:=ts) h λk a=>H k (Zc _ a),List.getElem?_set_ne (H i Zd)]
theorem sO{Q:L2.St->Hp->Prop}{t:CT}(h:aE t d ρ=some ρ')(r:Rep K ⟨mg,F⟩ μ H d v)(e:be K ⟨mg,F⟩ μ H ρ σ)
  (q:∀σ',be K ⟨mg,F⟩ μ H ρ' σ'->Q σ' H):qm K t v σ H Q:=by
 cases t with
 |var i=>cases h;exact q _ (e.set r)
 |tup T=>
  cases d with
  |tup D=>obtain⟨a,vs,rfl,b,R⟩:=b4 r;exact⟨a,_,rfl,b,by rw[<-R.length];exact(sN h).1.symm,qq h R e q⟩
  |_=>cases h
end
theorem GH{l:List Nat}{i:Nat}(h:cj ρ l=true)(hi:i∈l):ρ[i]?=some none:=by
 unfold cj at h
 grind
theorem mT{t:CT}(h:aE t d ρ=some ρ'):ρ'.length=ρ.length/\∀j,(∀i∈slots t,i≠j)->ρ'[j]?=ρ[j]? :=by
 cases t with
 |var i=>cases h;exact⟨List.length_set,λj H=>List.getElem?_set_ne (H i Zd)⟩
 |tup T=>
  cases d with
  |tup D=>exact⟨(sN h).2,λj H=>yo h H⟩
  |_=>cases h
theorem GI{m:GS}{t:CT}(h:aI t d ρ=some ρ')(E:be K m μ H ρ' σ):be K m μ H ρ σ:=by
 unfold aI at h;by_cases a:cj ρ (slots t)=true
 ·rw[if_pos a]at h;have g:=mT h;refine⟨by rw[<-E.1,g.1],λj D e=>E.2 j _ ?_⟩;rw[g.2 j λi b z=>by subst z;rw[GH a b]at e;cases e];exact e
 simp_all
theorem GJ{t:CT}(h:aI t d ρ=some ρ'):aE t d ρ=some ρ':=by unfold aI at h;simp_all
structure gK (K:Fg)(mg:Mg)(F:La)(acc:Addr)(O:List D->List V->HO->Prop)(B:La->Hp->Prop)(μ0:La)(H0:Hp)(μ:La)(S:aa)(H:Hp)(ρ:bD)(σ:L2.St)(ds:List D)(vs:List V):Prop where
 n0:H0 acc=none
 ext:Ext μ0 H0 μ H
 sok:aQ K ⟨mg,acc::F⟩ μ S H
 nin:acc∉μ
 env:be K ⟨mg,acc::F⟩ μ H ρ σ
 at_:∃o,H acc=some o/\O ds vs o
 rep:aj K ⟨mg,acc::F⟩ μ H ds vs
 b:B μ H
def iP(K:Fg)(F:La)(B:La->Hp->Prop):Prop:=∀μ H μ1 H1,B μ H->dz K F μ H F μ1 H1->B μ1 H1
def eD(K:Fg)(m:Mg)(F:La)(a:Addr)(O:List D->List V->HO->Prop)(B:La->Hp->Prop)(b:La)(H:Hp)(ρ:bD)(Q:L2.St->Hp->Prop):Res (List D)->Prop
 | .ok d S'=>∀μ' H' σ' v,gK K m F a O B b H μ' S' H' ρ σ' d v->Q σ' H'
 |_=>False
noncomputable def tB(K:Fg)(m:Mg)(O:Addr->List D->List V->HO->Prop)(Φ:FT)(Γ:Str->Option D)(c:CE)(a:Addr):TU:=λσ H Q=>∃F B μ0 H0 μ ρ S ds vs,iP K (a::F) B/\gK K m F a (O a) B μ0 H0 μ S H ρ σ ds vs/\eD K m F a (O a) B μ0 H0 ρ Q (aP Φ Γ c ρ ds S)
noncomputable def fz(Φ:FT)(Γ:Str->Option D)(i:List CE)(body:CE)(ρ:bD)(ds:List D)(S:aa):Res (List D):=(ax Φ Γ i ρ S).bind λk S3=>if k=true then aP Φ Γ body ρ ds S3 else .ok ds S3
noncomputable def tC(K:Fg)(m:Mg)(O:Addr->List D->List V->HO->Prop)(Φ:FT)(Γ:Str->Option D)(i:List CE)(c:CE)(a:Addr):TU:=λσ H Q=>∃F B μ0 H0 μ ρ S ds vs,iP K (a::F) B/\gK K m F a (O a) B μ0 H0 μ S H ρ σ ds vs/\eD K m F a (O a) B μ0 H0 ρ Q (fz Φ Γ i c ρ ds S)
section
variable {O:List D->List V->HO->Prop}{vs:List V}
theorem gK.next(hB:iP K (acc::F) B)(c:gK K mg F acc O B μ0 H0 μ S H ρ σ ds vs)(x:Ext μ H μ1 H1)(s:aQ K ⟨mg,acc::F⟩ μ1 S1 H1):gK K mg F acc O B μ0 H0 μ1 S1 H1 ρ σ ds vs where
 n0:=c.n0
 ext:=c.ext.trans x
 sok:=s
 nin:=λz=>by
  rcases x.fresh _ z with z|z
  ·exact c.nin z
  ·obtain⟨o,e,_⟩:=c.at_;simp_all
 env:=c.env.mono x
 at_:=let⟨o,e,h⟩:=c.at_;⟨o,x.keep _ _ e (.inr c.nin),h⟩
 rep:=aj.mono x _ _ c.rep
 b:=hB _ H _ _ c.b (.of_ext x λ_ z=>.inl z)
theorem gK.put{u:HO}(f:iP K (acc::F) B)(c:gK K mg F acc O B μ0 H0 μ S H ρ σ ds vs)(h:H acc=some u)(a:ik u=true)(r:Rep K ⟨mg,acc::F⟩ μ H d v)(g:O (ds++[d]) (vs++[v]) u'):gK K mg F acc O B μ0 H0 μ S (bg H acc u') ρ σ (ds++[d]) (vs++[v]):=by
 have C:dz K _ _ H (acc::F) μ (bg H _ u'):=.more Zd h a
 exact{
  n0:=c.n0
  ext:=c.ext.more c.n0
  sok:=c.sok.more Zd c.nin h a
  nin:=c.nin
  env:=c.env.chg C
  at_:=⟨_,dk,g⟩
  rep:=aj.append (aj.chg C _ _ c.rep) (.cons (Rep.chg C _ _ r) .nil)
  b:=f _ _ _ _ c.b C}
theorem GK{E:XK}:∀{cs:List CE} {σ:L2.St} {Q:Bool->Hp->Prop},aQ X.K ⟨X.mg,F⟩ μ S H->be X.K ⟨X.mg,F⟩ μ H ρ σ->al X.K ⟨X.mg,F⟩ E (λ_ _ a b=>a=b) μ H Q (ax Φ Γ cs ρ S)->mq (cs.map (tT X.K X.mg E Φ Γ)) σ H Q:=by
 intro cs
 induction cs generalizing μ H S with
 |nil=>exact λs e w=>w _ H _ .refl s rfl
 |cons c cs i=>
  intro σ Q s e w;refine⟨F,_,_,S,s,e,(al.bind w).mono λk H1 z=>aN z λg h K x d f W=>?_⟩;subst f;cases K with
  |true=>exact i d (e.mono x) W
  |false=>exact W _ _ _ .refl d rfl
end
section
variable {E:XK}
theorem PB.weak{body:Sem Unit}{t t':TU}(h:PB X body t)(w:∀σ H Q,t' σ H Q->t σ H Q):PB X body t':=λp s σ H Q I q=>h _ s _ H Q I (w _ H Q q)
theorem GL{vs:List V}{i:List CE}{c:CE}{Q:L2.St->Hp->Prop}
  (h:iP K (acc::F) B) (st:gK K mg F acc (O acc) B μ0 H0 μ S H ρ σ ds vs) (w:eD K mg F acc (O acc) B μ0 H0 ρ Q (fz Φ Γ i c ρ ds S)):
  al K ⟨mg,acc::F⟩ E (λ_ _ a b=>a=b) μ H (λb H1=>if b=true then tB K mg O Φ Γ c acc σ H1 Q else Q σ H1) (ax Φ Γ i ρ S):=by
 unfold fz at w;cases e:ax _ _ _ _ S with
 |ok k f=>
  rw[e]at w;intro j H1 b x s g;subst g;have d:=st.next h x s;cases k with
  |true=>exact⟨F,B,_,_,_,_,_,_,_,h,d,w⟩
  |false=>exact w _ _ _ _ d
 |err y f=>rw[e]at w;exact w.elim
 |fail=>rw[e]at w;exact w.elim
theorem sP{e:Sem Unit}{d:Nat}{fs:Lx}{i:List CE}{c:CE}(b:xq X fs (i.map (tT X.K X.mg E Φ Γ)))(a:PB X (bC ce e gens d (.ref acc) X.env) (tB X.K X.mg O Φ Γ c acc)):
  PB X (fg fs X.env>>=λok=>if ok=true then bC ce e gens d (.ref acc) X.env else pure ()) (tC X.K X.mg O Φ Γ i c acc):=
 PB.weak (mR b a) λl H Q z=>rN z λF B f g j k S D vs h s w=>GK s.sok s.env (GL h s w)
def oL(_:Addr)(_:List D)(vs:List V)(o:HO):Prop:=o=.lst vs
theorem sQ{d:Nat}{c:CE}(k:gens[d+1]?=none)(j:PE X elt (tE X.K X.mg E Φ Γ c)):PB X (bC ce (sL elt (.ref acc) X.env) gens d (.ref acc) X.env) (tB X.K X.mg oL Φ Γ (.emit c) acc):=
 PB.weak (mS k j) λq H Q z=>rN z λF B l n o p S D vs g b w=>by
  refine⟨_,_,_,S,b.sok,b.env,?_⟩;simp[aP]at w;cases e:ak _ _ c _ S with
  |ok y i=>
   rw[e]at w;intro m H1 v x s r;have a:=b.next g x s;have W:eD _ _ F _ _ B _ _ _ Q (if D.length<bu then .ok _ _ else .fail):=w;by_cases h:D.length<bu
   ·rw[if_pos h]at W;obtain⟨_,f,rfl⟩:=a.at_;exact⟨_,f,by rw[<-a.rep.length];exact h,W _ _ _ _ (a.put g f rfl r rfl)⟩
   ·rw[if_neg h]at W;exact W.elim
  |err y i=>rw[e]at w;exact w.elim
  |fail=>rw[e]at w;exact w.elim
end
def sR:iG->Nat
 | .items xs=>xs.length+1
 | .live f _=>f
theorem yp(step:D->List D->aa->Res (List D))(xs:List D):∀(n i:Nat) (acc:List D) (S:aa),i+n=xs.length->bz step (λ_ i=>some xs[i]?) (n+1) i acc S=bx step (xs.drop i) acc S
 |0,i,acc,S,h=>by rw[List.drop_eq_nil_of_le (by omega)];unfold bz;have:xs[i]?=none:=List.getElem?_eq_none_iff.mpr (by omega);rw[this];rfl
 |n+1,i,acc,S,h=>by
  have H:i<xs.length:=by omega
  rw[List.drop_eq_getElem_cons H];unfold bz;rw[Zj H];show(step _ _ S).bind _=(step _ _ S).bind _;congr 1;funext a b;exact yp _ _ n _ _ _ (by omega)
theorem yq(step:D->List D->aa->Res (List D))(its:iG)(a:List D)(S:aa):bM step its a S=bz step (bp its) (sR its) 0 a S:=by
 cases its with
 |items x=>exact(yp _ _ _ 0 _ S (by omega)).symm
 |live f get=>rfl
noncomputable def eS(Φ:FT)(Γ:Str->Option D)(tg:CT)(i:List CE)(body:CE)(ρ:bD):D->List D->aa->Res (List D):=λx acc S2=>match aI tg x ρ with
 |some ρ'=>fz Φ Γ i body ρ' acc S2
 |none=>.fail
theorem gK.back{a:La->Hp->Prop}{vs:List V}(c:gK K mg F acc (O acc) B μ0 H0 μ S H ρ σ ds vs)(b:a μ H)(e:be K ⟨mg,acc::F⟩ μ H ρ' σ'):gK K mg F acc (O acc) a μ0 H0 μ S H ρ' σ' ds vs:=
 ⟨c.n0,c.ext,c.sok,c.nin,e,c.at_,c.rep,b⟩
theorem GN{tg:CT}{i:List CE}{body:CE}{x:D}(h:aI tg x ρ=some ρ'):eS Φ Γ tg i body ρ x ds S=fz Φ Γ i body ρ' ds S:=by unfold eS;rw[h]
theorem GO{tg:CT}{i:List CE}{body:CE}{x:D}(h:aI tg x ρ=none):eS Φ Γ tg i body ρ x ds S=.fail:=by unfold eS;rw[h]
theorem yr{j:La}{d:La}{k:Hp}{get:aa->Nat->Option (Option D)}{tg:CT}{I:List CE}{body:CE}{Q:L2.St->Hp->Prop}(l:iP K (acc::F) B)(ok:fQ K ⟨mg,j⟩ J get d k)
        {vs:List V} (ch:dz K j d k (acc::F) μ H) (st:gK K mg F acc (O acc) B μ0 H0 μ S H ρ σ ds vs) (w:eD K mg F acc (O acc) B μ0 H0 ρ Q (bz (eS Φ Γ tg I body ρ) get n 0 ds S)):
  ∃W:Nat->Nat->L2.St->Hp->Prop,(∃m,W 0 m σ H)/\∀i m σ H,W i m σ H->
   (J.stop i H/\Q σ H)\/(J.go i H/\∃Nx:L2.St->Hp->Prop,(∀σ' H',Nx σ' H'->∃M,M<m/\W (i+1) M σ' H')/\∀x H',J.yld i H x H'->qm K tg x σ H' λf H2=>tC K mg O Φ Γ I body acc f H2 Nx):=by
 refine⟨λi m σ H=>∃μ S ds vs,dz K _ _ _ _ μ H/\gK K _ F _ _ B _ _ μ S H _ σ ds vs/\eD K _ F _ _ B _ _ _ Q (bz _ _ m i ds S),⟨n,_,S,_,_,ch,st,w⟩,?_⟩;rintro i m σ H ⟨μ,S,ds,vs,ch,st,w⟩;cases m with
 |zero=>exact w.elim
 |succ m=>
  unfold bz at w;obtain⟨u,v⟩:=ok i _ S H _ ch st.sok;cases e:get S i with
  |none=>rw[e]at w;exact w.elim
  |some o=>
   cases o with
   |none=>rw[e]at w;exact .inl ⟨v e,w _ H _ _ st⟩
   |some x=>
    rw[e]at w;obtain⟨G,Y⟩:=u x e;refine .inr ⟨G,_,λσ' H' q=>⟨m,Nat.lt_succ_self m,q⟩,λy H' t=>?_⟩;obtain⟨X,A,R⟩:=Y y _ t;have b:=st.next l X A;have C:=ch.trans (.of_ext X λ_ z=>.inl z);have a:eD K _ F _ _ B _ _ _ Q ((eS _ _ _ _ _ _ x _ S).bind _):=w;cases E:aI _ x _ with
    |none=>rw[GO E]at a;exact a.elim
    |some U=>
     rw[GN E]at a;refine sO (GJ E) R b.env λf g=>?_;refine⟨F,λμ H=>B _ H/\dz K _ _ _ _ _ H,_,_,_,_,S,_,_,λP Z T Hb q c=>⟨l _ _ _ _ q.1 c,q.2.trans c⟩,b.back ⟨b.b,C⟩ g,?_⟩;cases h:fz _ _ _ _ _ _ S with
     |ok r p=>rw[h]at a;intro N H2 σ' L s;exact⟨_,_,_,_,s.b.2,s.back s.b.1 (GI E s.env),a⟩
     |err z p=>rw[h]at a;exact a.elim
     |fail=>rw[h]at a;exact a.elim
section
variable {E:XK}
theorem mU{a:Sem Unit}{d:Nat}{t i:Expr}{fs:Lx}{tg:CT}{it:CE}{I:List CE}{body:CE}(f:iF ce=true)(h:clausesOf ce=gens)(b:∀it:Addr,compTurn ce (d+1) (.ref it) (.ref acc) X.env=(standAt i.pos>>=λ_=>pyNext (.ref it)>>=λr=>match r with
   |none=>pure (.done .next)
   |some v=>letOwnedTupleGo t (.ref it) v>>=λ_=>assign t X.env v>>=λ_=>(fg fs X.env>>=λok=>if ok=true then bC ce a gens (d+1) (.ref acc) X.env else pure ())>>=λ_=>again (.compLoop ce (d+1) (.ref it) (.ref acc) X.env))) (p:X.xe=λ_ _=>False) (n:X.calm=true) (o:gens[d+1]?=some ⟨t,i,fs,0⟩)
  (hi:PI X t i (tI X.K X.mg E Φ Γ it)) (hs:∀x,foldedSetIterable i X.env x=pure x) (c:PG X t (qm X.K tg))
  (m:PB X (fg fs X.env>>=λok=>if ok=true then bC ce a gens (d+1) (.ref acc) X.env else pure ()) (tC X.K X.mg O Φ Γ I body acc)):PB X (bC ce a gens d (.ref acc) X.env) (tB X.K X.mg O Φ Γ (.inner tg it I body) acc):=
 PB.weak (GG f h b p n o hi hs c m) λL H Q z=>rN z λF B u C G K S D vs k g w=>by
  refine⟨_,_,_,S,g.sok,g.env,?_⟩;simp[aP]at w;cases e:aL _ _ _ _ S with
  |ok q l=>rw[e]at w;intro A H1 J x s ok;have j:=g.next k x s;have W:eD _ _ F _ _ B _ _ _ Q (bM _ _ _ _):=w;rw[yq]at W;exact yr k ok .refl j W
  |err y l=>rw[e]at w;exact w.elim
  |fail=>rw[e]at w;exact w.elim
noncomputable def gh(fr:List (Option Nat)):L2.St->L2.St:=λσ=>fr.map λj=>j.bind λj=>(σ[j]?).join
theorem sS{m:GS}(f:be K m μ H ρ σ):be K m μ H (fr.map λj=>j.bind λj=>(ρ[j]?).join) (gh fr σ):=by
 refine⟨by simp[gh],λi d e=>?_⟩;rw[List.getElem?_map]at e;cases b:fr[i]? with
 |none=>simp_all
 |some o=>
  rw[b]at e;have e:=Option.some.inj e;cases o with
  |none=>cases e
  |some j=>
   have E:ρ[j]?.join=some d:=e;cases a:ρ[j]? with
   |none=>simp_all
   |some o=>rw[a]at E;have c:=E;subst c;obtain⟨v,g,k⟩:=f.2 j d a;exact⟨v,by unfold gh;simp_all,k⟩
theorem j1{tg0:Expr}{box:Bool}{tg:CT}{it:CE}{i:List CE}{body:CE}{Q:VK}(h:tE X.K X.mg E Φ Γ (.comp box N' fr tg it i body) σ H Q):
  jJ (λ_=>.lst []) (gh fr) (tI X.K X.mg E Φ Γ it) (qm X.K tg) (tC X.K X.mg oL Φ Γ i body) σ H Q:=by
 obtain⟨F,j,T,S,p,g,w⟩:=h;refine⟨F,_,_,S,p,g,?_⟩;refine al.mono (al.bind w) λJ H1 h A a=>?_;obtain⟨B,O,I,x,d,ok,u⟩:=h
 have t:gK _ _ F _ (oL A) (λj H=>dz X.K F _ _ _ j H) _ _ _ _ _ _ (gh fr _) _ _:={
  n0:=a
  ext:=.laid a
  sok:=d.start a
  nin:=d.notin a
  env:=(sS (g.mono x)).chg (.start a)
  at_:=⟨_,dk,rfl⟩
  rep:=.nil
  b:=.start a}
 refine yr (n:=sR I) (λC L D M q c=>q.trans c) ok (.start a) t ?_;have W:al _ _ E _ _ _ Q ((bM (eS _ _ _ _ _ _) _ _ _).noErr.bind _):=u;rw[yq]at W;cases e:bz _ _ _ 0 _ _ with
 |ok Y k=>
  rw[e]at W;intro z K G v s;have o:=d.notF a;obtain⟨_,f,rfl⟩:=s.at_;cases box with
  |false=>refine W _ _ _ s.ext s.sok.out ?_;exact⟨_,_,rfl,f,⟨s.nin,o⟩,aj.chg .out _ _ s.rep⟩
  |true=>refine W _ _ _ (s.ext.outBox a) (s.sok.outBox s.nin f s.rep) ?_;unfold Rep;have P:=s.sok.len;simp_all
 |err y k=>rw[e]at W;exact W.elim
 |fail=>rw[e]at W;exact W.elim
end
noncomputable def bQ(l:Bool):Obj:={cls:=.type "set",dict:=none,data:=.set #[] 0 (.fresh 0 0 l)}
theorem GP{t:Addr}{vs:Av}(hh:A.handled=none)(ht:s.heap.IsTuple t vs)(hi:IntsAre vs.toList ns)(z:vs.size+1<scanBound)
  (h:∀(h':Heap) (tk:Nat),h'.SetOf (intKind prog w) s.heap.objs.size (λM=>(firstMet (λi=>ns.getD i 0) vs.size).any (· ==M)) (firstMet (λi=>ns.getD i 0) vs.size).length->
   (∀b o,b<s.heap.objs.size->s.heap.get? b=some o->h'.get? b=some o)->Q (.ref s.heap.objs.size) {s with heap:=h',toks:=tk}):wpAny (model prog w) A (call (.type "set") [.ref t]) Q E s:=by
 obtain⟨c,tl,Y⟩:=F.called_set.mro;have J:=F.called_set.made;have Z:=F.called_set.sub;refine wpAny_call (codeAny_of_tree ?_);show wpAny _ _ (callAny (.type "set") _) _ _ _;refine Ze ⟨Code.quiet_builtin _ (by decide+kernel),codeAny_builtin F.entry_type_call ?_⟩;rw[Around.under_plain (weight_type_call_type "set" [.ref t] []) rfl];have g1:=F.called_set.notType;have g2:=F.called_set.canCreate;have g3:=F.typeCall_set_1 (.ref t)
 repeat(any_goals (first|assumption|W))
 refine codeAny_mono (code_set_new_1 (.ref t) (E:=E) (Q₁:=λobj S=>∃l:Bool,obj=.ref s.heap.objs.size/\S={s with heap:=s.heap.push (bQ l)}) λl=>⟨l,rfl,rfl⟩) λr S K=>?_;cases r with
 |error e=>exact K
 |ok fl=>
  cases fl with
  |ret obj=>
   obtain⟨l,rfl,rfl⟩:=K;have X:(s.heap.push (bQ l)).get? s.heap.objs.size=some (bQ l):=Zi _ rfl;have hT:Shared.TypeIs {s with heap:=s.heap.push (bQ l)} (.ref s.heap.objs.size) "set":=⟨_,X,rfl⟩;have hli:=F.called_set.init.lookup;have hbi:=F.called_set.init.bind (.ref s.heap.objs.size)
   repeat(any_goals (first|assumption|W))
   refine codeAny_mono (codeAny_call_builtin (R:=wants (λr d=>r=.none/\∃h' tk,d={s with heap:=h',toks:=tk}/\h'.SetOf (intKind prog w) s.heap.objs.size (λM=>(firstMet (λi=>ns.getD i 0) vs.size).any (· ==M)) (firstMet (λi=>ns.getD i 0) vs.size).length/\
     (∀b o,b<s.heap.objs.size->s.heap.get? b=some o->h'.get? b=some o)) E) F.called_set.init.plain F.entry_set_init (check_set_init_1 hT ?_)) λy d H=>?_
   ·obtain⟨⟨ocls,j,N,O⟩,u,k,nl,m⟩:=ht;simp only at k m;subst k;subst m;have x:(s.heap.push (bQ l)).get? t=some {cls:=.type "tuple",dict:=j,data:=.seq vs nl,slots:=O}:=Zb _ u;have q1:=F.sub_tuple_set;have q2:=F.sub_tuple_frozenset;have q3:(Value.type "tuple"==Value.type "dict")=false:=by decide
    have n:(s.heap.push (bQ l)).IsTuple t vs:=⟨_,x,rfl,nl,rfl⟩;unfold Builtin.«set.__init__» noKeywords Builtin.Frozenset.updateFrom;generalize C:pyIter=PI
    wp_walk
    subst C;refine Ye n (Za (wpAny_runValue ?_));have p:t<s.heap.objs.size:=Zl u;have G:A.in1.in1.in1.handled=none:=by simp[hh]
    have L:(s.heap.push (bQ l)).objs.size=s.heap.objs.size+1:=Heap.size_push ..;have q:t≠(s.heap.push (bQ l)).objs.size:=by rw[L];exact Zx (Nat.lt_succ_of_lt p)
    have D:s.heap.objs.size∉[(s.heap.push (bQ l)).objs.size,t]:=by rw[L];simp only[Zn,ZZ,or_false,not_or];exact⟨Zx (Nat.lt_succ_self _),Nat.ne_of_gt p⟩
    refine codeAny_set_update_loopS ((Walks.tuple G _ t q vs).toS) s.heap.objs.size D (λi=>ns.getD i 0) (λi v hv=>hi.int_at i v (by rw[ZQ];exact hv)) z (vs.size-0) 0 _ (by omega) (Yj _) ⟨⟨_,Zi _ rfl,rfl,rfl⟩,(n.push _)⟩ ?hS0 ?hR
    case hS0=>exact SetOf_congr ((setObjOf_fresh (knd:=intKind prog w) l).setOf (Zb _ X) (by unfold scanBound;omega)) (λ_=>rfl) rfl
    case hR=>intro s' B g;obtain⟨h',g',d',U,P⟩:=s';have eg:g'=s.gens:=B.gens;have ed:d'=s.drawn:=B.drawn;have eo:P=s.os:=B.os;subst eg ed eo;show wpAny _ _ _ _ _ _;refine Ze ?_;show wpAny _ _ (ret Value.none) _ _ _;refine Ze ⟨rfl,h',U,rfl,g,λb o z e=>B.heap b o ?_ (Zb _ (Zb _ e))⟩;simp only[Zn,ZZ,or_false,not_or];rw[L];exact⟨Zx z,Zx (Nat.lt_succ_of_lt z)⟩
   ·cases y with
    |error e=>exact H
    |ok f=>
     cases f with
     |ret r=>
      obtain⟨rfl,h',tk,rfl,g,I⟩:=H
      repeat(any_goals (first|assumption|W))
      exact h _ _ g I
     |_=>exact H.elim
  |_=>exact K.elim
def im(xs:Array Nat):Prop:=∀i j (hi:i<xs.size) (h:j<xs.size),i<j->xs[i]<xs[j]
theorem GQ{xs:Array Nat}(h:im xs)(j:Nat):∀(f lo hi:Nat),hi-lo<=f->lo<=hi->hi<=xs.size->(∀i (g:i<xs.size),i<lo->xs[i]<j)->(∀i (g:i<xs.size),hi<=i->j<=xs[i])->
  lo<=SetTable.below.go xs j f lo hi/\SetTable.below.go xs j f lo hi<=hi/\(∀i (g:i<xs.size),i<SetTable.below.go xs j f lo hi->xs[i]<j)/\(∀i (g:i<xs.size),SetTable.below.go xs j f lo hi<=i->j<=xs[i]):=by
 intro f
 induction f with
 |zero=>
  intro lo hi p r o k l;have:lo=hi:=by omega
  subst this;exact⟨Zg _,Zg _,k,l⟩
 |succ f I=>
  intro lo hi p r o k l;unfold SetTable.below.go;split
  ·rename_i t;have m:(lo+hi)/2<xs.size:=by omega
   have q:xs.getD ((lo+hi)/2) j=xs[(lo+hi)/2]:=by simp[Array.getD,m]
   dsimp only;rw[q];split
   ·rename_i g
    obtain⟨a,b,c,d⟩:=I ((lo+hi)/2+1) hi (by omega) (by omega) o (λi H n=>by
     by_cases e:i=(lo+hi)/2
     ·subst e;exact g
     ·exact Nat.lt_trans (h i _ H m (by omega)) g) l
    exact⟨by omega,b,c,d⟩
   ·rename_i g
    obtain⟨a,b,c,d⟩:=I lo ((lo+hi)/2) (by omega) (by omega) (by omega) k (λi H s=>by
     by_cases e:i=(lo+hi)/2
     ·subst e;omega
     ·exact ZB (by omega) (Nat.le_of_lt (h _ i m H (by omega))))
    exact⟨a,by omega,c,d⟩
  grind
theorem mV{xs:Array Nat}(h:im xs)(j:Nat):SetTable.below xs j<=xs.size/\(∀i (H:i<xs.size),i<SetTable.below xs j->xs[i]<j)/\(∀i (H:i<xs.size),SetTable.below xs j<=i->j<=xs[i]):=by
 obtain⟨_,b,c,d⟩:=GQ h j xs.size 0 _ (by omega) (by omega) (Zg _) λi _ h=>by omega λi H h=>by omega
 exact⟨b,c,d⟩
theorem GR{xs:Array Nat}(h:im xs){i:Nat}(hi:i<xs.size):SetTable.below xs (xs[i]+1)=i+1:=by
 obtain⟨a,b,c⟩:=mV h (xs[i]+1)
 have d:i<SetTable.below xs (xs[i]+1):=by
  grind
 by_cases e:i+1<SetTable.below xs (xs[i]+1)
 ·have H:i+1<xs.size:=by omega
  have:=b _ H e;have:=h i _ hi H (by omega);omega
 ·omega
theorem GU(xs:Array Nat)(h:im xs):SetTable.below xs 0=0:=by
 obtain⟨a,b,c⟩:=mV h 0;by_cases e:0<SetTable.below xs 0
 ·have:=b 0 (by omega) e;omega
 ·omega
theorem GV{xs:Array Nat}(h:im xs){j:Nat}(r:∀i (g:i<xs.size),xs[i]≠j):im (SetTable.insertAt xs (SetTable.below xs j) j):=by
 obtain⟨a,b,c⟩:=mV h j;have p:(SetTable.insertAt xs (SetTable.below xs j) j).toList=xs.toList.take (SetTable.below xs j)++j::xs.toList.drop (SetTable.below xs j):=by unfold SetTable.insertAt;simp;exact List.take_of_length_le (by simp)
 have q:(xs.toList.take (SetTable.below xs j)++j::xs.toList.drop (SetTable.below xs j)).Pairwise (· < ·):=by
  have g:xs.toList.Pairwise _:=Ya.mpr λi k e m H=>by simpa using h i k _ _ H
  rw[ZI];refine⟨g.sublist (List.take_sublist _ _),ZH.mpr ⟨λy d=>?_,g.sublist (List.drop_sublist _ _)⟩,λx l y d=>?_⟩
  ·obtain⟨i,e,rfl⟩:=Zy.mp d
   grind
  ·obtain⟨i,e,rfl⟩:=Zy.mp l;rw[List.length_take]at e;rw[List.getElem_take];have f:i<xs.size:=by lia
   have o:=b i f (by omega);rcases Zn.mp d with rfl|d
   ·exact o
   ·obtain⟨k,m,rfl⟩:=Zy.mp d
    grind
 intro i k e m H;have n:(SetTable.insertAt xs (SetTable.below xs j) j).size=(SetTable.insertAt xs (SetTable.below xs j) j).toList.length:=by simp
 have:=Ya.mp (p▸q) i k (by simp_all) (by simp_all) H;simpa using this
theorem yt{l:List Nat}(h:l.Pairwise (· < ·)):im l.toArray:=λi j a b H=>by have:=Ya.mp h i j (by simpa using a) (by simpa using b) H;simpa using this
theorem sT{c d:Type}(f:c->Option d):∀l:List c,((l.filterMap λj=>(f j).map (j, ·)).map (·.1)).Sublist l
 | []=>.slnil
 |a::l=>by
  cases e:f a with
  |none=>rw[List.filterMap_cons_none (by rw[e];rfl)];exact(sT f l).cons a
  |some b=>rw[List.filterMap_cons_some (b:=(a,b)) (by rw[e];rfl),ZX];exact(sT f l).cons₂ a
open SetTable (Probe runEnd leap bits turns)
noncomputable def mW(mask:Nat)(p:Probe):Probe:=
 if p.more>0 then{p with j:=p.j+1,more:=p.more-1}else
 {p with j:=(leap mask p.i p.perturb).1,more:=runEnd mask (leap mask p.i p.perturb).1-(leap mask p.i p.perturb).1,i:=(leap mask p.i p.perturb).1,perturb:=(leap mask p.i p.perturb).2}
theorem sU(t:SetTable)(p:Probe):t.advance p=mW t.mask p:=rfl
noncomputable def pos(mask:Nat):Probe->Nat->Probe
 |p,0=>p
 |p,n+1=>pos mask (mW mask p) n
noncomputable def jj(mask i p:Nat):Probe:=⟨i,runEnd mask i-i,i,p,none⟩
noncomputable def fh(mask:Nat)(h:Int):Probe:=jj mask (bits h%(mask+1)) (bits h)
theorem iQ{mask:Nat}:∀(m n:Nat) (p:Probe),pos mask p (m+n)=pos mask (pos mask p m) n
 |0,n,p=>by rw[Nat.zero_add];rfl
 |m+1,n,p=>by rw[Nat.succ_add];exact iQ m n _
theorem GW(p:Probe)(n:Nat):pos mask p (n+1)=mW mask (pos mask p n):=iQ n 1 p
theorem mX{mask i p:Nat}{d:Option Nat}:∀(k r j:Nat),k<=r->pos mask ⟨j,r,i,p,d⟩ k=⟨j+k,r-k,i,p,d⟩
 |0,r,j,_=>rfl
 |k+1,r,j,h=>by
  show pos _ _ k=_;have:mW mask ⟨j,r,i,p,d⟩=⟨j+1,r-1,i,p,d⟩:=by unfold mW;lia
  rw[this,mX k _ _ (by omega)];lia
theorem run_next{i p r j:Nat}{d:Option Nat}:pos mask ⟨j,r,i,p,d⟩ (r+1)=⟨(leap mask i p).1,runEnd mask (leap mask i p).1-(leap mask i p).1,(leap mask i p).1,(leap mask i p).2,d⟩:=by rw[GW,mX r r j (Zg _)];unfold mW;lia
noncomputable def cO(mask:Nat):Nat->Nat×Nat->Nat×Nat
 |0,x=>x
 |r+1,x=>cO mask r (leap mask x.1 x.2)
theorem mY{i:Nat}:runEnd mask i-i<=9:=by unfold runEnd;lia
theorem j3{mask:Nat}:∀(r:Nat) (x:Nat×Nat),∃n,n<=10*r/\pos mask (jj mask x.1 x.2) n=jj mask (cO mask r x).1 (cO mask r x).2
 |0,x=>⟨0,by omega,rfl⟩
 |r+1,x=>by obtain⟨n,h,e⟩:=j3 r _;have:=mY (mask:=mask) (i:=x.1);refine⟨runEnd mask x.1-x.1+1+n,by omega,?_⟩;rw[iQ];show pos _ (pos _ ⟨_,_,_,_,_⟩ _) n=_;rw[run_next];exact e
theorem yu{mask:Nat}:∀(a b:Nat) (x:Nat×Nat),cO mask (a+b) x=cO mask b (cO mask a x)
 |0,b,x=>by rw[Nat.zero_add];rfl
 |a+1,b,x=>by rw[Nat.succ_add];exact yu a b _
theorem yv{mask:Nat}:∀(r:Nat) (x:Nat×Nat),x.1<=mask->(cO mask r x).1<=mask
 |0,x,h=>h
 |r+1,x,h=>yv r _ (by show(x.1*5+1+x.2/32)%(mask+1)<=mask;have:=Nat.mod_lt (x.1*5+1+x.2/32) (show 0<mask+1 by omega);omega)
theorem yw{mask:Nat}:∀(r:Nat) (x:Nat×Nat),(cO mask r x).2=x.2/32^r
 |0,x=>by simp[cO]
 |r+1,x=>by show(cO _ r _).2=_;rw[yw r];show x.2/32/32^r=_;rw[Nat.div_div_eq_div_mul,Nat.pow_succ,Nat.mul_comm]
noncomputable def DV(m:Nat):Nat->Nat->Nat
 |0,i=>i
 |r+1,i=>DV m r ((i*5+1)%m)
noncomputable def yx(m:Nat):Nat->Nat->Nat
 |0,i=>1<<<i
 |r+1,i=>(1<<<i)|||yx m r ((i*5+1)%m)
theorem yy{i e:Nat}(h:(1<<<i).testBit e=true):i=e:=by rw[Nat.one_shiftLeft,Nat.testBit_two_pow]at h;simp_all
theorem yz{m e:Nat}:∀(r i:Nat),(yx m r i).testBit e=true->∃k,k<=r/\DV m k i=e
 |0,i,h=>⟨0,Zg _,yy h⟩
 |r+1,i,h=>by
  unfold yx at h;rw[Nat.testBit_or,Bool.or_eq_true]at h;rcases h with h|h
  ·exact⟨0,Yj _,yy h⟩
  ·obtain⟨k,H,e⟩:=yz r _ h;exact⟨k+1,by omega,e⟩
theorem mZ:∀mask∈[7,31,127],∀i∈List.range (mask+1),yx (mask+1) mask i=2^(mask+1)-1:=by decide+kernel
theorem yA{mask:Nat}:∀(r i:Nat),(cO mask r (i,0)).1=DV (mask+1) r i
 |0,i=>rfl
 |r+1,i=>by show(cO _ r (leap _ i 0)).1=DV _ r _;rw[<-yA r];rfl
def eT(mask:Nat):Prop:=mask∈[7,31,127]
theorem qr(b:eT mask){i p e:Nat}(hi:i<=mask)(g:p<2^64)(d:e<=mask):∃r,r<=mask+13/\(cO mask r (i,p)).1=e:=by
 have h:(cO mask 13 (i,p)).2=0:=by rw[yw];lia
 have H:=yv 13 (i,p) hi;have c:=mZ _ b _ (ZT.mpr (Nat.lt_succ_of_le H))
 have a:(yx (mask+1) mask (cO mask 13 (i,p)).1).testBit e=true:=by
  grind
 obtain⟨k,f,E⟩:=yz _ _ a;refine⟨13+k,by omega,?_⟩;rw[yu,show cO _ _ _=((cO _ _ _).1,0)from Prod.ext rfl h,yA];exact E
theorem yB(h:Int):bits h<2^64:=by
 unfold bits
 grind
theorem GX(b:eT mask){e:Nat}(H:e<=mask)(h:Int):∃n,n<10*turns mask/\(pos mask (fh mask h) n).j=e:=by obtain⟨r,d,E⟩:=qr b (i:=bits h%(mask+1)) (by have:=Nat.mod_lt (bits h) (show 0<mask+1 by omega);omega) (yB h) H;obtain⟨n,c,a⟩:=j3 r (bits h%(mask+1),bits h);exact⟨n,by unfold turns;omega,by rw[show fh _ h=jj _ _ _ from rfl,a];exact E⟩
theorem sV{mask:Nat}:∀(n:Nat) {p:Probe},(pos mask p n).dummy=p.dummy
 |0,p=>rfl
 |n+1,p=>by show(pos _ _ n).dummy=_;rw[sV n];unfold mW;split<;>rfl
theorem sW:∀(m:Nat) (l:List Nat),l.length<m->∃e,e<m/\e∉l
 |0,l,h=>by omega
 |m+1,l,h=>by
  by_cases H:m∈l
  ·have a:(l.filter (· !=m)).length<l.length:=List.length_filter_lt_length_iff_exists.mpr ⟨m,H,by simp⟩;obtain⟨e,b,c⟩:=sW m (l.filter (· !=m)) (by omega)
   grind
  ·exact⟨m,Nat.lt_succ_self m,H⟩
def Fd(mask:Nat)(P:Nat->Prop)(h:Int)(j:Nat):Prop:=∃n,(pos mask (fh mask h) n).j=j/\∀m,m<n->P (pos mask (fh mask h) m).j
theorem Fd.mono{P a:Nat->Prop}{h:Int}{j:Nat}(x:Fd mask P h j)(hs:∀y,P y->a y):Fd mask a h j:=by obtain⟨n,e,f⟩:=x;exact⟨n,e,λm H=>hs _ (f m H)⟩
theorem GY(H:eT mask){pl:List Nat}(c:pl.length<=mask)(h:Int):∃n,n<10*turns mask/\(pos mask (fh mask h) n).j∉pl/\∀m,m<n->(pos mask (fh mask h) m).j∈pl:=by
 obtain⟨e,b,d⟩:=sW (mask+1) pl (by omega);obtain⟨n,a,E⟩:=GX H (e:=e) (by omega) h
 have K:∀n,(pos mask (fh mask h) n).j∉pl->∃k,k<=n/\(pos mask (fh mask h) k).j∉pl/\∀m,m<k->(pos mask (fh mask h) m).j∈pl:=by
  intro n
  induction n using Nat.strongRecOn with
  |ind n i=>
   grind
 grind
structure Tk (t:SetTable)(hs:Li):Prop where
 dum:t.dummies= #[]
 ris:im t.place
 siz:t.place.size=hs.length
 msk:eT t.mask
 ful:t.tooFull=false
 fnd:∀x∈hs.zip t.place.toList,Fd t.mask (· ∈t.place.toList) x.1 x.2
theorem GZ{xs:Array Nat}(h:im xs){i:Nat}(hi:i<xs.size):SetTable.below xs xs[i]=i:=by
 obtain⟨a,b,c⟩:=mV h xs[i]
 have H:SetTable.below xs xs[i]<=i:=by
  grind
 by_cases z:SetTable.below xs xs[i]<i
 ·have:=h _ i (by omega) hi z;have:=c _ (by omega) (Zg _);omega
 ·omega
theorem yC{t:SetTable}(h:im t.place){i:Nat}(hi:i<t.place.size):t.slot t.place[i]=.live i:=by unfold SetTable.slot;rw[GZ h _];simp_all
theorem yD{t:SetTable}(h:im t.place){j:Nat}(H:j∈t.place.toList):∃i,∃hi:i<t.place.size,t.place[i]=j/\t.slot j=.live i:=by
 obtain⟨i,hi,e⟩:=Zy.mp H;have E:=by simpa using e
 exact⟨i,_,E,by rw[<-E];exact yC h _⟩
theorem yE{t:SetTable}(h:t.dummies= #[]){j:Nat}(H:j∉t.place.toList):t.slot j=.empty:=by
 unfold SetTable.slot;rw[if_neg,h]
 ·rfl
 grind
theorem Tk.fits{t:SetTable}(x:Tk t hs):t.place.size<=t.mask/\t.fits hs.length=true:=by
 have h:=x.ful;unfold SetTable.tooFull SetTable.fill at h;have a:=of_decide_eq_false h;have H:t.place.size<=t.mask:=by omega
 refine⟨H,?_⟩;unfold SetTable.fits SetTable.fill;rw[x.siz,beq_self_eq_true];exact ZR (by rw[<-x.siz];omega)
theorem yF{t:SetTable}{hashAt:Nat->Int}{h:Int}:∀(n f:Nat) (p:Probe),n<f->p.dummy=none->(∀m,m<n->∃i,t.slot (pos t.mask p m).j=.live i/\hashAt i≠h)->
  (t.slot (pos t.mask p n).j=.empty->SetTable.probe.go t hashAt h f p=some (.empty (pos t.mask p n).j none))/\
  (∀i,t.slot (pos t.mask p n).j=.live i->hashAt i=h->SetTable.probe.go t hashAt h f p=some (.candidate (pos t.mask p n).j i (pos t.mask p (n+1))))
 |0,f+1,p,_,b,_=>by
  constructor
  ·intro e;have e:t.slot p.j=.empty:=e;unfold SetTable.probe.go;rw[e,b];rfl
  ·intro i e H;have e:t.slot p.j=.live i:=e;unfold SetTable.probe.go;rw[e];dsimp;rw[if_pos (by lia)];rfl
 |n+1,f+1,p,g,b,c=>by
  obtain⟨i,H,a⟩:=c 0 (Nat.succ_pos n);have H:t.slot p.j=.live i:=H
  have step:SetTable.probe.go t hashAt h (f+1) p=SetTable.probe.go t hashAt h f (mW t.mask p):=by
   conv=>lhs;unfold SetTable.probe.go
   rw[H];dsimp;rw[if_neg λz=>a (eq_of_beq z),sU]
  rw[step];exact yF n _ _ (by omega) (by rw[show(mW _ p).dummy=(pos _ p 1).dummy from rfl,sV];exact b) λm d=>c (m+1) (by omega)
theorem m4{c:Type}{a:List c}{b:List β}(d:a.length=b.length)(p:Nat)(x:c)(y:β){z:c×β}(H:z∈(a.take p++x::a.drop p).zip (b.take p++y::b.drop p)):z=(x,y)\/z∈a.zip b:=by
 rw[List.zip_append (by simp_all),Yg,Zq,Zn]at H;rcases H with h|h|h
 ·rw[List.zip_eq_zipWith,<-List.take_zipWith]at h;exact .inr (List.mem_of_mem_take h)
 ·exact .inl h
 ·rw[List.zip_eq_zipWith,<-List.drop_zipWith]at h;exact .inr (List.mem_of_mem_drop h)
theorem Tk.put{t:SetTable}(x:Tk t hs){h:Int}(d:(pos t.mask (fh t.mask h) n).j∉t.place.toList)(b:∀m,m<n->(pos t.mask (fh t.mask h) m).j∈t.place.toList):
  let r:=t.put (pos t.mask (fh t.mask h) n).j
  r.1.dummies= #[]/\im r.1.place/\r.1.place.size=hs.length+1/\r.1.mask=t.mask/\r.1.led=t.led/\r.1.plain=t.plain/\r.2=SetTable.below t.place (pos t.mask (fh t.mask h) n).j/\
  ∀z∈(hs.take r.2++h::hs.drop r.2).zip r.1.place.toList,Fd t.mask (· ∈r.1.place.toList) z.1 z.2:=by
 intro r;have f:r.1.place.toList=t.place.toList.take r.2++(pos _ _ n).j::t.place.toList.drop r.2:=SetTable.toList_insertAt _ _ _
 have H:∀y,y∈t.place.toList->y∈r.1.place.toList:=λy g=>by
  rw[<-List.take_append_drop r.2 t.place.toList]at g
  grind
 refine⟨?_,GV x.ris λi j e=>d (by rw[<-e];simp),?_,rfl,rfl,rfl,rfl,λz a=>?_⟩
 ·show(if SetTable.has _ _ then _ else t.dummies)= #[];rw[x.dum];rfl
 ·show(SetTable.insertAt _ _ _).size=_;rw[<-Zt,(SetTable.insertAt_perm _ _ _).length_eq,Zt,Array.size_push,x.siz]
 ·rw[f]at a;rcases m4 (by rw[<-x.siz,Zt]) _ _ _ a with rfl|a
  ·exact⟨n,rfl,λm c=>H _ (b m c)⟩
  ·exact(x.fnd z a).mono H
abbrev dR:=Array (Option Nat)
def m5(o:dR)(j:Nat):Prop:=∃q,o[j]?=some (some q)
theorem G1{o:dR}{j:Nat}(H:j<o.size)(h:(o.getD j (some 0)).isNone=false):m5 o j:=by
 have:o.getD j (some 0)=o[j]:=by simp_all
 cases e:o[j]with
 |none=>simp_all
 |some q=>exact⟨q,by simp_all⟩
theorem G2{o:dR}{j:Nat}(h:(o.getD j (some 0)).isNone=true):o[j]?=some none:=by
 by_cases H:j<o.size
 ·simp_all
 simp_all
theorem yG{mask:Nat}{o:dR}(hs:o.size=mask+1):∀(f i p:Nat),i<=mask->
  (∃j n,SetTable.layClean.free mask o f i p=some j/\(pos mask (jj mask i p) n).j=j/\o[j]?=some none/\∀m,m<n->m5 o (pos mask (jj mask i p) m).j)\/
  (SetTable.layClean.free mask o f i p=none/\∀r,r<f->m5 o (cO mask r (i,p)).1)
 |0,i,p,w=>.inr ⟨rfl,λr h=>by omega⟩
 |f+1,i,p,w=>by
  have y:i+(runEnd mask i-i)=runEnd mask i/\runEnd mask i<=mask:=by unfold runEnd;split<;>omega
  have d:runEnd mask i+1-i=(runEnd mask i-i)+1:=by omega
  have O:∀k,k<=runEnd mask i-i->(o.getD (i+k) (some 0)).isNone=false->m5 o (pos mask (jj mask i p) k).j:=λk b h=>by unfold jj;rw[mX k _ i b];exact G1 (j:=i+k) (by omega) h
  unfold SetTable.layClean.free;cases c:(List.range (runEnd mask i+1-i)).find? λk=>(o.getD (i+k) (some 0)).isNone with
  |some k=>
   obtain⟨t,u,v⟩:=List.find?_range_eq_some.mp c;have b:=ZT.mp u;refine .inl ⟨i+k,k,rfl,?_,G2 t,λm g=>O m (by omega) ?_⟩
   ·unfold jj;rw[mX k _ i (by omega)]
   ·have:=v m g;simpa using this
  |none=>
   have H:=List.find?_eq_none.mp c;have l:∀k,k<=runEnd mask i-i->m5 o (pos mask (jj mask i p) k).j:=λk b=>O k b (by have:=H k (ZT.mpr (by omega));exact Bool.eq_false_iff.mpr this);dsimp only;have x:(leap mask i p).1<=mask:=by show(i*5+1+p/32)%(mask+1)<=mask;have:=Nat.mod_lt (i*5+1+p/32) (show 0<mask+1 by omega);omega
   have a:pos mask (jj mask i p) (runEnd mask i-i+1)=jj mask (leap mask i p).1 (leap mask i p).2:=run_next;rcases yG hs f (leap mask i p).1 (leap mask i p).2 x with⟨j,n,e,E,q,s⟩| ⟨e,E⟩
   ·refine .inl ⟨j,(runEnd mask i-i+1)+n,e,by rw[iQ,a];exact E,q,λm g=>?_⟩;by_cases z:m<=runEnd mask i-i
    ·exact l m z
    ·have:=s (m-(runEnd mask i-i+1)) (by omega);rw[<-a,<-iQ]at this;rw[show runEnd mask i-i+1+(m-(runEnd mask i-i+1))=m by omega]at this;exact this
   ·refine .inr ⟨e,λr A=>?_⟩;cases r with
    |zero=>exact l 0 (Yj _)
    |succ r=>exact E r (by omega)
structure Ow (mask:Nat)(hs:Li)(k:Nat)(ow:dR):Prop where
 sz:ow.size=mask+1
 ok:∀j q:Nat,ow[j]?=some (some q)->q<k/\∃h,hs[q]?=some h/\Fd mask (m5 ow) h j
 all:∀q:Nat,q<k->∃j:Nat,ow[j]?=some (some q)
 inj:∀j j' q:Nat,ow[j]?=some (some q)->ow[j']?=some (some q)->j=j'
theorem Ow.hole{o:dR}(x:Ow mask hs k o)(i:k<=mask):∃e,e<=mask/\o[e]?=some none:=by
 have c:∀q,∃j:Nat,q<k->o[j]?=some _:=λq=>by
  by_cases z:q<k
  ·obtain⟨j,e⟩:=x.all q z;exact⟨j,λ_=>e⟩
  ·exact⟨0,λh=>absurd h z⟩
 obtain⟨e,d,f⟩:=Py.sW (mask+1) ((List.range k).map _) (by simp;omega);refine⟨e,by omega,?_⟩;have H:e<o.size:=by rw[x.sz];exact d
 rw[Array.getElem?_eq_getElem H];cases g:o[e]with
 |none=>rfl
 |some q=>
  exfalso;have E:o[e]?=some (some q):=by simp_all
  have a:=(x.ok e q E).1;have b:=Classical.choose_spec (c q) a;exact f (Zr.mpr ⟨q,ZT.mpr a,(x.inj _ _ q E b).symm⟩)
theorem Ow.add(c:eT mask){o:dR}(x:Ow mask hs k o)(A:k<=mask){h:Int}(y:hs[k]?=some h):∃j,SetTable.layClean.free mask o (turns mask) (bits h%(mask+1)) (bits h)=some j/\Ow mask hs (k+1) (o.setIfInBounds j (some k)):=by
 have l:bits h%(mask+1)<=mask:=by have:=Nat.mod_lt (bits h) (show 0<mask+1 by omega);omega
 rcases yG x.sz (turns mask) (bits h%(mask+1)) (bits h) l with⟨j,n,d,E,f,p⟩| ⟨d,E⟩
 ·refine⟨j,d,?_⟩
  have g:∀i,(o.setIfInBounds j (some k))[i]?=if j=i then some (some k)else o[i]? :=λi=>by
   grind
  have O:∀i,m5 o i->m5 (o.setIfInBounds j (some k)) i:=λi ⟨q,b⟩=>by
   unfold m5
   grind
  refine⟨by rw[Array.size_setIfInBounds];exact x.sz,λi q a=>?_,λq b=>?_,λi I q a H=>?_⟩
  ·rw[g]at a;split at a
   ·rename_i z;subst z;cases a;exact⟨Nat.lt_succ_self _,h,y,n,E,λm c=>O _ (p m c)⟩
   ·obtain⟨B,s,u,v⟩:=x.ok i q a;exact⟨by omega,s,u,v.mono O⟩
  ·by_cases z:q=k
   ·subst z;exact⟨j,by rw[g,if_pos rfl]⟩
   ·obtain⟨i,a⟩:=x.all q (by omega)
    grind
  ·rw[g]at a H;split at a
   ·rename_i z;cases a;split at H
    ·rename_i Z;omega
    ·have:=(x.ok I k H).1;omega
   ·split at H
    ·cases H;have:=(x.ok i k a).1;omega
    ·exact x.inj i I q a H
 ·exfalso;obtain⟨e,w,t⟩:=x.hole A;obtain⟨r,C,f⟩:=qr c l (yB h) w;obtain⟨q,b⟩:=E r (by unfold turns;omega);rw[f,t]at b;cases b
theorem yH{mask:Nat}(b:eT mask){hs:Li}(a:hs.length<=mask):∀(rest done:Li) (ow:dR),hs=done++rest->Ow mask hs done.length ow->
  ∃o,rest.foldl (λacc h=>do
   let(owner,k) <-acc
   let j <-SetTable.layClean.free mask owner (turns mask) (bits h%(mask+1)) (bits h)
   pure (owner.setIfInBounds j (some k),k+1)) (some (ow,done.length))=some (o,hs.length)/\Ow mask hs hs.length o
 | [],done,ow,e,x=>by simp_all
 |h::rest,done,ow,e,x=>by
  have H:done.length<=mask:=by rw[e,ZA]at a;omega
  obtain⟨j,E,y⟩:=x.add b H (h:=h) (by simp_all);have:=yH b a rest (done++[h]) _ (by simp_all) (by rw[ZA];exact y);simp_all
theorem G3(c:eT mask)(b:hs.length<=mask):∃ow,SetTable.layClean mask hs.toArray=some ow/\Ow mask hs hs.length ow:=by
 have H:∀j q:Nat,(Array.replicate (mask+1) none)[j]?=some (some q)->False:=λj q h=>by
  grind
 have a:Ow mask hs ([]:Li).length _:=⟨by simp,λj q h=>(H j q h).elim,λq h=>by simp_all,λj J q h=>(H j q h).elim⟩;obtain⟨ow,e,x⟩:=yH c b _ _ _ rfl a;unfold SetTable.layClean;simp_all
theorem yI{mask:Nat}{P:Nat->Prop}{hs:Li}:∀(live:List (Nat×Nat)),(∀x∈live,∃h,hs[x.2]?=some h/\Fd mask P h x.1)->∀z∈(((live.map (·.2)).filterMap (hs[·]?)).zip (live.map (·.1))),Fd mask P z.1 z.2
 | [],_,z,H=>by cases H
 |x::live,a,z,H=>by
  obtain⟨h,e,f⟩:=a x Zd;rw[ZX,List.filterMap_cons_some e]at H;rcases Zn.mp H with rfl|H
  ·exact f
  ·exact yI _ (λy b=>a y (Zc _ b)) z H
theorem G4{t:SetTable}(r:eT (SetTable.sizeAbove wanted-1))(C:hs.length*5<(SetTable.sizeAbove wanted-1)*3):
  ∃t' o,t.relaid hs.toArray wanted=some (t',o)/\o.toList.Perm (List.range hs.length)/\t'.led=t.led/\t'.plain=t.plain/\Tk t' (o.toList.filterMap (hs[·]?)):=by
 generalize f:SetTable.sizeAbove wanted-1=mask at r C;obtain⟨O,e,x⟩:=G3 r (hs:=hs) (by omega)
 have H:∀y∈((List.range (mask+1)).filterMap λj=>(O.getD j none).map (j, ·)),O[y.1]?=some (some y.2):=λy l=>by
  obtain⟨j,d,E⟩:=List.mem_filterMap.mp l;have d:j<O.size:=by rw[x.sz];exact ZT.mp d
  have n:O.getD j none=O[j]:=by simp[Array.getD,d]
  rw[n]at E;cases p:O[j]with
  |none=>rw[p]at E;cases E
  |some q=>
   grind
 have c:∀j q:Nat,O[j]?=some (some q)->(j,q)∈((List.range (mask+1)).filterMap λj=>(O.getD j none).map (j, ·)):=λj q h=>by
  obtain⟨d,p⟩:=Array.getElem?_eq_some_iff.mp h;refine List.mem_filterMap.mpr ⟨j,ZT.mpr (by rw[<-x.sz];exact d),?_⟩;have n:O.getD j none=O[j]:=by simp[Array.getD,d]
  rw[n,p];rfl
 have k:=sT (λj=>O.getD j none) (List.range (mask+1));have i:t.relaid hs.toArray wanted=some ({mask:=mask,place:=((((List.range (mask+1)).filterMap λj=>(O.getD j none).map (j, ·)).map (·.1)).toArray),dummies:= #[],finger:=t.finger,led:=t.led,moves:=t.movedTo mask,plain:=t.plain},(((List.range (mask+1)).filterMap λj=>(O.getD j none).map (j, ·)).map (·.2)).toArray):=by unfold SetTable.relaid SetTable.laid;rw[f,e];rfl
 rw[i];generalize((List.range (mask+1)).filterMap λj=>(O.getD j none).map (j, ·))=live at*;have g:=List.pairwise_lt_range.sublist k
 have P:(live.map (·.2)).Perm (List.range hs.length):=by
  refine(List.perm_ext_iff_of_nodup ?_ List.nodup_range).mpr λq=>?_
  ·rw[Z3]at g;unfold List.Nodup;rw[Z3];refine g.imp_of_mem λ{a b} v A w z=>?_;have m:=H b A;rw[<-z]at m;have:=x.inj _ _ _ (H a v) m;omega
  ·rw[ZT,Zr];constructor
   ·rintro⟨y,l,rfl⟩;exact(x.ok _ _ (H y l)).1
   ·intro s;obtain⟨j,d⟩:=x.all q s;exact⟨(j,q),c j q d,rfl⟩
 have G:live.length=hs.length:=by have:=P.length_eq;simpa using this
 have B:((live.map (·.2)).filterMap (hs[·]?)).length=hs.length:=by rw[(P.filterMap (hs[·]?)).length_eq];have:=filterMap_getElem?_range hs.toArray;simpa using congrArg List.length this
 refine⟨_,_,rfl,P,rfl,rfl,rfl,yt g,?_,r,?_,yI live λy l=>?_⟩
 ·rw[B];simpa using G
 ·unfold SetTable.tooFull SetTable.fill;refine ZK ?_;simp;omega
 ·obtain⟨_,h,u,m⟩:=x.ok _ _ (H y l);exact⟨h,u,m.mono λj ⟨q,s⟩=>Zr.mpr ⟨(j,q),c j q s,rfl⟩⟩
end Py
variable {ow:Py.dR}
namespace Py
def fi(w:World):Bool:=w.params.followText "set-order"
theorem G5(v:Value){R:Vs}(aF:R (.ref s.heap.objs.size) {s with heap:=s.heap.push (bQ (!fi w))}):codeAny (model prog w) A (.call (.builtin "set.__new__") ⟨[.type "set",v],[]⟩) (wants R E) s:=by
 refine codeAny_of_tree (Za (m:=checkBuiltinCall "set.__new__" ⟨[.type "set",v],[]⟩) (wpAny_of_eq (F.newCall_set_1 v) (Ze ⟨plainId_quiet F.plain_set_new _,codeAny_builtin F.entry_set_new ?_⟩)));rw[Around.under_plainId F.plain_set_new _];have S:=sub_set_self;unfold Builtin.«set.__new__» Builtin.Frozenset.newClass;cases s;dsimp only
 wp_walk
 exact wpAny_askSetting (Ze (Za (wpAny_alloc (Ze (Ze aF)))))
open SetTable (Probe turns)
abbrev cV(prog:Program)(w:World)(h:Heap)(k:Li)(a:Addr):Prop:=IsTupleKey (intKind prog w) h k a
abbrev hK(prog:Program)(w:World)(k:Li):Int:=tupleKeyHash (intKind prog w) k
theorem cV.kept{k:Li}(x:cV prog w h k a)(K:∀o,h.get? a=some o->h'.get? a=some o):cV prog w h' k a:=by obtain⟨o,items,n,g,r⟩:=x;exact⟨o,_,n,K o g,r⟩
theorem yJ{k:Li}{vs:Lv}(h:ItemsAre (intKind prog w) k vs):∀v∈vs,∃i t,v=.int i t:=by
 induction h with
 |nil=>simp_all
 |cons a _ I=>
  intro v H;rcases Zn.mp H with rfl|H
  ·obtain⟨t,b⟩:=Value.isInt_shape a;simp_all
  simp_all
theorem yK{k:Li}{Q:Bool->Shared->Prop}(x:cV prog w s.heap k a)(q:Q false s):wpAny (model prog w) A (ofAClassStatement 8 (.ref a)) Q E s:=by
 have c:=x.typeIs;obtain⟨o,items,n,f,_,d,e⟩:=x;have h:=yJ e;unfold ofAClassStatement;refine Za (wpAny_typeOf c ?_);refine Za (Ze ?_);refine Za (wpAny_seqItems f d ?_);refine Za ?_;rw[<-Array.forIn_toList];refine wpAny_forIn_list _ (λR r S=>r.1=none/\S=s/\∀v∈R,∃i t,v=Value.int i t) _ ?_ ?_ _ _ ⟨rfl,rfl,h⟩
 ·rintro v R r S ⟨H,rfl,b⟩;obtain⟨i,t,rfl⟩:=b v Zd;exact Ze ⟨rfl,rfl,λu g=>b u (Zc _ g)⟩
 ·rintro⟨j,l⟩ S ⟨H,rfl,_⟩;subst H;exact Ze q
theorem yL{k:Li}{Q:Bool->Shared->Prop}(x:cV prog w s.heap k a)(q:Q true s):wpAny (model prog w) A (hashByValue 8 (.ref a)) Q E s:=by
 have c:=x.typeIs;obtain⟨o,items,n,f,_,d,e⟩:=x;have h:=yJ e;refine Za (wpAny_specialOf c F.slot_tuple_hash.lookup ?_);refine Za (wpAny_seqItems f d ?_);refine Za ?_;rw[<-Array.forIn_toList];refine wpAny_forIn_list _ (λR r S=>r.1=none/\S=s/\∀v∈R,∃i t,v=Value.int i t) _ ?_ ?_ _ _ ⟨rfl,rfl,h⟩
 ·rintro v R r S ⟨H,rfl,b⟩;obtain⟨i,t,rfl⟩:=b v Zd;exact Ze ⟨rfl,rfl,λu g=>b u (Zc _ g)⟩
 ·rintro⟨j,l⟩ S ⟨H,rfl,_⟩;subst H;exact Ze q
theorem sX{k:Li}{b:Addr}(x:cV prog w s.heap k b)(l:Lv){Q:Bool->Shared->Prop}(e:∀v∈l,∃K a,v=.ref a/\cV prog w s.heap K a)(q:Q false s):wpAny (model prog w) A (searchCouldBeSeen (.ref b) l) Q E s:=by
 refine Za ?_;refine wpAny_forIn_list _ (λR r S=>r.1=none/\S=s/\∀v∈R,v∈l) _ ?_ ?_ _ _ ⟨rfl,rfl,λ_ h=>h⟩
 ·rintro v R r S ⟨c,rfl,d⟩;obtain⟨K,a,rfl,y⟩:=e v (d v Zd);have g:=λu f=>d u (Zc _ f);by_cases H:(b==a||carriedByValue (.ref b)&&carriedByValue (.ref a))=true
  ·rw[if_pos H];exact Ze ⟨rfl,rfl,g⟩
  ·rw[if_neg H];refine Za (wpAny_eqIsQuiet_tuple x ?_);refine Za (wpAny_eqIsQuiet_tuple y ?_);refine Za (yK x ?_);refine Za (yK y ?_);exact Ze ⟨rfl,rfl,g⟩
 ·rintro⟨i,j⟩ S ⟨c,rfl,_⟩;subst c;exact Ze q
end Py
namespace Py
open SetTable (Probe turns)
theorem yM{t:SetTable}(f:im t.place){hashAt:Nat->Int}{h:Int}{p:Nat->Probe}{n:Nat}(b:∀m,m<n->(p m).j∈t.place.toList):∀(d m:Nat),n-m=d->m<=n->
  ∃M,m<=M/\M<=n/\(∀i,m<=i->i<M->∃q,t.slot (p i).j=.live q/\hashAt q≠h)/\(M=n\/∃q,t.slot (p M).j=.live q/\hashAt q=h)
 |0,m,e,a=>⟨m,Zg _,a,λi c H=>by omega,.inl (by omega)⟩
 |d+1,m,e,a=>by
  obtain⟨q,_,_,l⟩:=yD f (b m (by omega));by_cases z:hashAt q=h
  ·exact⟨m,Zg _,a,λi c H=>by omega,.inr ⟨q,l,z⟩⟩
  ·obtain⟨M,c,H,o,g⟩:=yM f b d (m+1) (by omega) (by omega);refine⟨_,by omega,H,λi j k=>?_,g⟩
   grind
noncomputable def bq(prog:Program)(w:World)(c:Li×Addr):Int×Value:=(hK prog w c.1,.ref c.2)
theorem m6:∀m∈[7,31,127],(m%2==0)=false:=by decide
theorem G6{b:Addr}{t:SetTable}(g:s.heap.get? a=some o)(d:o.data=.set (cs.map (bq prog w)).toArray ep t)(x:Tk t (cs.map λc=>hK prog w c.1))(key:∀c∈cs,cV prog w s.heap c.1 c.2)
  {k:Li} (hx:cV prog w s.heap k b) (hu:A.units<cLine)  (hn:n<10*turns t.mask) (D:(pos t.mask (fh t.mask (hK prog w k)) n).j∉t.place.toList) (O:∀m,m<n->(pos t.mask (fh t.mask (hK prog w k)) m).j∈t.place.toList)
  {Q:SetFound->Shared->Prop} (T:k∈cs.map (·.1)->Q (.there none) s) (F:k∉cs.map (·.1)->Q (.free (pos t.mask (fh t.mask (hK prog w k)) n).j false) s):
  ∀(f m:Nat) (st:Option Probe),n-m<f->m<=n->st.getD (t.probeStart (hK prog w k))=pos t.mask (fh t.mask (hK prog w k)) m->(∀i,i<m->∀(q:Nat) (c),t.slot (pos t.mask (fh t.mask (hK prog w k)) i).j=.live q->cs[q]?=some c->c.1≠k)->
   wpAny (model prog w) A (setSearchFrom a (.ref b) (hK prog w k) true f st) Q E s:=by
 have hsz:(cs.map (bq prog w)).toArray.size=(cs.map λc=>hK prog w c.1).length:=by simp
 have P:t.fits (cs.map (bq prog w)).toArray.size=true:=by rw[hsz];exact x.fits.2
 have hpl:t.place.size=cs.length:=by rw[x.siz,Zf]
 have X:∀q:Nat,(cs.map (bq prog w)).toArray[q]?=cs[q]?.map (bq prog w):=λq=>by simp
 generalize hP:(λm=>pos t.mask (fh t.mask (hK prog w k)) m)=p;have H:∀m,pos t.mask (fh t.mask (hK prog w k)) m=p m:=λm=>congrFun hP m;intro f
 induction f with
 |zero=>intro m st h;omega
 |succ f ih=>
  intro m st hf hm hst Y;obtain⟨M,h1,h2,h3,h4⟩:=yM (hashAt:=λi=>(((cs.map (bq prog w)).toArray[i]?).map (·.1)).getD 0) (h:=hK prog w k) x.ris (p:=p) (n:=n) (λm hm=>by rw[<-H];exact O m hm) (n-m) m rfl hm;have K:∀i,pos t.mask (p m) i=p (m+i):=λi=>by rw[<-H,<-H,iQ]
  obtain⟨g1,g2⟩:=yF (t:=t) (hashAt:=λi=>(((cs.map (bq prog w)).toArray[i]?).map (·.1)).getD 0) (h:=hK prog w k) (M-m) (10*turns t.mask) (p m) (by omega) (by rw[<-H,sV];rfl) (λi hi=>by rw[K];exact h3 (m+i) (by omega) (by omega));rw[K,show m+(M-m)=M by omega]at g1 g2;rw[K,show m+(M-m+1)=M+1 by omega]at g2;have U:∀(q:Nat) (c),cs[q]?=some c->(((cs.map (bq prog w)).toArray[q]?).map (·.1)).getD 0=hK prog w c.1:=λq c e=>by rw[X,e];rfl
  unfold setSearchFrom;refine Za (wpAny_setState_of g d P ?_);dsimp only;refine wpAny_ite ?_;rw[if_neg (by unfold SetTable.gaveWay;rw[m6 _ x.msk];decide),hst,H];generalize hz:t.probe _ _ _=met;rcases h4 with rfl| ⟨q,I,hh⟩
  ·have V:t.slot (p M).j=.empty:=yE x.dum (by rw[<-H];exact D);have e:met=some (.empty (p M).j none):=hz.symm.trans (g1 V);subst e;dsimp only;rw[H]at F;refine Ze (F λL=>?_);obtain⟨c,hc,rfl⟩:=Zr.mp L;obtain⟨q,I,e⟩:=Zy.mp hc;have hqp:q<t.place.size:=by omega
   have j:=yC x.ris hqp;have l:cs[q]?=some c:=by rw[Zj I,e]
   obtain⟨N,e0,f0⟩:=x.fnd (hK prog w c.1,t.place[q]) (by refine Zy.mpr ⟨q,by simp;omega,?_⟩;simp[e]);have e0:(p N).j=t.place[q]:=by rw[<-H];exact e0
   have hin:(p N).j∈t.place.toList:=by rw[e0];simp
   have hlt:N<M:=by
    by_cases z:N<M
    ·exact z
    ·by_cases zz:N=M
     ·subst zz;exact absurd (by rw[H];exact hin) D
     ·exact absurd (f0 M (by omega)) D
   rw[<-e0]at j;by_cases zz:N<m
   ·exact Y N zz q c (by rw[H];exact j) l rfl
   ·obtain⟨q',Z,C⟩:=h3 N (by omega) hlt;rw[j]at Z;cases Z;exact C (U q c l)
  ·have e:met=some (.candidate (p M).j q (p (M+1))):=hz.symm.trans (g2 q I hh);subst e;dsimp only
   have hmn:M<n:=by
    by_cases z:M=n
    ·subst z;rw[yE x.dum (by rw[<-H];exact D)]at I;cases I
    ·omega
   obtain⟨q',hq1,hq2,hq3⟩:=yD x.ris (O M hmn);rw[H,I]at hq3;cases hq3;have hqc:q<cs.length:=by omega
   obtain⟨c,l⟩:∃c,cs[q]?=some c:=⟨_,Zj hqc⟩;have G:=ZC l;have hy:=key c G;have W:(cs.map (bq prog w)).toArray[q]?=some (hK prog w c.1,.ref c.2):=by rw[X,l];rfl
   have R:wpAny (model prog w) A (do
     let some (_,y):=(cs.map (bq prog w)).toArray[q]? |unsupported "internal:set-entry"
     let u <-holding [y] (eqBool y (.ref b))
     let(es',_,t') <-setState a
     if true&&u then return SetFound.there none
     let some same:=t'.sameMemory t.moves t.mask|unsupported "set.changed-during-lookup:is-the-new-block-at-the-old-address"
     let S <-match(if same then t'.slot (p M).j else .empty)with
      | .live i'=>match es'[i']? with
       |some (_,y')=>do pure (if <-isSame y' y then some i' else none)
       |none=>pure none
      |_=>pure none
     match S with
     |none=>rule "set.search.anew";setSearchFrom a (.ref b) (hK prog w k) true f none
     |some i'=>if u then return .there (some i')else setSearchFrom a (.ref b) (hK prog w k) true f (some (p (M+1)))) Q E s:=by
    rw[W];dsimp only;refine Za (Z5 (wpAny_eqBool_tuple hu hy hx ?_));refine Za (wpAny_setState_of g d P ?_);dsimp only;by_cases L:c.1=k
    ·rw[ZR L];exact Ze (T (Zr.mpr ⟨c,G,L⟩))
    ·rw[ZK L];have hsm:t.sameMemory t.moves t.mask=some true:=by unfold SetTable.sameMemory;rw[if_pos (beq_self_eq_true _)]
     rw[hsm];dsimp only;simp only[Bool.and_false,Bool.false_eq_true,if_false,if_true];rw[I];dsimp only;rw[W];dsimp only;refine Za (wpAny_isSame_ref_self (Za (Ze ?_)));rw[if_pos rfl];dsimp only;refine ih (M+1) (some (p (M+1))) (by omega) (by omega) (by rw[H];rfl) λi hi q' c' B r=>?_;rw[H]at B;by_cases z:i<m
     ·exact Y i z q' c' (by rw[H];exact B) r
     ·by_cases zz:i=M
      ·subst zz;rw[I]at B;cases B;rw[l]at r;cases r;exact L
      ·obtain⟨q2,J,C⟩:=h3 i (by omega) (by omega);rw[B]at J;cases J;rw[U _ _ r]at C;exact λe=>C (by rw[e])
   by_cases hl:t.led=true
   ·rw[hl];exact R
   ·rw[Bool.eq_false_iff.mpr hl];refine wpAny_ite ?_;rw[if_pos (by decide)];refine Za (sX hx _ (λv hv=>?_) ?_)
    ·obtain⟨e,he,rfl⟩:=Zr.mp hv;have he2:=(Array.mem_filter.mp (Array.mem_toList_iff.mp he)).1;have he3:e∈cs.map (bq prog w):=by simpa using he2
     obtain⟨c2,r,rfl⟩:=Zr.mp he3;exact⟨c2.1,c2.2,rfl,key c2 r⟩
    ·exact R
end Py
namespace Py
open SetTable (Probe turns)
def G7(prog:Program)(w:World)(h:Heap)(a:Addr)(cs:List (Li×Addr)):Prop:=∃o ep t,h.get? a=some o/\o.ExactSet/\o.data=.set (cs.map (bq prog w)).toArray ep t/\t.led=(!fi w)/\t.plain=true/\Tk t (cs.map λc=>hK prog w c.1)
structure ek (prog:Program)(w:World)(h:Heap)(a:Addr)(cs:List (Li×Addr)):Prop where
 obj:G7 prog w h a cs
 key:∀c∈cs,cV prog w h c.1 c.2
 nod:(cs.map (·.1)).Nodup
theorem ek.kept(x:ek prog w h a cs)(k:∀b o,h.get? b=some o->(b=a\/∃c∈cs,b=c.2)->h'.get? b=some o):ek prog w h' a cs:=by obtain⟨⟨o,E,t,g,r⟩,y,z⟩:=x;exact⟨⟨o,_,t,k a o g (.inl rfl),r⟩,λc H=>(y c H).kept λo e=>k _ o e (.inr ⟨c,H,rfl⟩),z⟩
theorem yN{t t':SetTable}(g:h.get? a=some o)(E:o.ExactSet)(d:o.data=.set es ep t):
  ∃o',(h.update a (Obj.putSet es' t')).get? a=some o'/\o'.ExactSet/\o'.data=.set es' (ep+1) t':=by
 have e:(h.update a (Obj.putSet _ t')).get? a=some _:=Heap.get?_update_self _ g (by rw[putSet_of es' _ d];rfl);rw[putSet_of _ _ d]at e;exact⟨_,e,E,rfl⟩
theorem m7{t:SetTable}{Q:Unit->Shared->Prop}(g:s.heap.get? a=some o)(n:o.ExactSet)(d:o.data=.set (cs.map (bq prog w)).toArray ep t)(F:t.fits cs.length=true)
  (u:eT (SetTable.sizeAbove wanted-1)) (r:cs.length*5<(SetTable.sizeAbove wanted-1)*3) (z:SetTable.sizeAbove wanted<=128) (l:t.led=(!fi w)) (pl:t.plain=true)
  (aF:∀h' C,Heap.SameBut a s.heap h'->C.Perm cs->G7 prog w h' a C->Q () {s with heap:=h'}):wpAny (model prog w) A (setRelay a wanted) Q E s:=by
 have f:t.fits (cs.map (bq prog w)).toArray.size=true:=by rw[Zv,Zf];exact F
 obtain⟨T,O,b,P,i,j,x⟩:=G4 (t:=t) (hs:=cs.map λc=>hK prog w c.1) (wanted:=wanted) u (by rw[Zf];exact r);rw[Zf]at P;have p:(O.toList.filterMap (cs[·]?)).Perm cs:=by refine(P.filterMap _).trans (.of_eq ?_);have:=filterMap_getElem?_range cs.toArray;simpa using this
 have X:Tk T ((O.toList.filterMap (cs[·]?)).map λc=>hK prog w c.1):=by
  grind
 have k:O.filterMap ((cs.map (bq prog w)).toArray[·]?)=((O.toList.filterMap (cs[·]?)).map (bq prog w)).toArray:=by apply Array.ext';rw[Array.toList_filterMap,List.map_filterMap];simp_all
 have q:(cs.map (bq prog w)).toArray.map (·.1)=(cs.map λc=>hK prog w c.1).toArray:=by rw[List.map_toArray,ZP];rfl
 unfold setRelay;refine Za (wpAny_setState_of g d f ?_);dsimp only;refine wpAny_ite ?_;rw[if_neg (by rw[sizeLine_eq];omega),q,b];refine Za ?_;show wpAny _ _ (if((O.filterMap ((cs.map (bq prog w)).toArray[·]?)).size !=(cs.map (bq prog w)).toArray.size)=true then _ else _) _ _ _;rw[k];generalize O.toList.filterMap (cs[·]?)=C at p X
 have h:(C.map (bq prog w)).toArray.size=(cs.map (bq prog w)).toArray.size:=by rw[Zv,Zv,Zf,Zf,p.length_eq]
 rw[h,bne_self_eq_false,if_neg (by decide)];refine Ze (wpAny_storeSet_of g d ?_ ?_)
 ·obtain⟨v,G,e,D⟩:=yN (es':=(C.map (bq prog w)).toArray) (t':=T) g n d;exact aF _ C (Z6 ..) p ⟨v,_,T,G,e,D,i.trans l,j.trans pl,X⟩
 ·refine fits_of_scanBound ?_;rw[Zv,Zf,p.length_eq];unfold scanBound
  grind
theorem yO{b:Addr}{k:Li}{Q:Bool->Shared->Prop}(x:ek prog w s.heap a cs)(hx:cV prog w s.heap k b)(hu:A.units<cLine)(few:cs.length<76)
  (aF:∀h' C r,Heap.SameBut a s.heap h'->ek prog w h' a C->(∀K,K∈C.map (·.1)↔K∈cs.map (·.1)\/K=k)->(∀c∈C,c∈cs\/c=(k,b))->C.length<=cs.length+1->Q r {s with heap:=h'}):
  wpAny (model prog w) A (setAddHashed a (.ref b) (hK prog w k)) Q E s:=by
 obtain⟨o,ep,t,g,ex,d,M,W,T⟩:=x.obj;have N:∀{K:Li} {Y:Addr},cV prog w s.heap K Y->Y≠a:=λ{K Y} y e=>by obtain⟨o',_,_,g',_,d',_⟩:=y;subst e;rw[g]at g';cases g';rw[d]at d';cases d'
 have D:t.fits (cs.map (bq prog w)).toArray.size=true:=by have:=T.fits.2;rw[Zf]at this;rw[Zv,Zf];exact this
 have hsz:t.place.size=cs.length:=by rw[T.siz,Zf]
 obtain⟨n,hn,J,B⟩:=GY T.msk (pl:=t.place.toList) (by rw[Zt];exact T.fits.1) (hK prog w k);have hmsk:=(by simpa[eT]using T.msk:t.mask=7\/t.mask=31\/t.mask=127);unfold setAddHashed setAddHashedIn;refine Z5 (Za (wpAny_setState_of g d D ?_));dsimp only;refine wpAny_ite ?_;rw[if_neg (show ¬byScan (.ref b) (cs.map (bq prog w)).toArray=true by unfold byScan;rw[show(Value.ref b).scannable=false from rfl];simp)];unfold setSearch;refine Za (G6 g d T x.key hx hu hn J B (λhin=>?_) (λL=>?_) 100000 0 none (by unfold turns at hn;omega) (Yj _) rfl (λi hi=>by omega))
 ·exact Ze (aF s.heap cs false (Heap.SameBut.refl ..) x (λK=>⟨.inl,λz=>z.elim id λe=>e▸hin⟩) (λc l=>.inl l) (Nat.le_succ _))
 ·dsimp only;refine Za (wpAny_setState_of g d D ?_);dsimp only;obtain⟨p1,p2,O,R,p5,V,p7,p8⟩:=T.put J B;generalize(pos t.mask (fh t.mask (hK prog w k)) n).j=j at*;rw[Zf]at O;refine wpAny_ite ?_;rw[if_pos (show(t.put j).1.plain=true from V.trans W)];refine Za (yL hx ?_);simp only[if_true];generalize hput:t.put j=r at*;obtain⟨u,p⟩:=r;dsimp only at p1 p2 O R p5 V p7 p8⊢;have Z:SetTable.insertAt (cs.map (bq prog w)).toArray p (hK prog w k,Value.ref b)=((cs.take p++(k,b)::cs.drop p).map (bq prog w)).toArray:=by apply Array.ext';rw[SetTable.toList_insertAt,List.map_append,ZX,List.map_take,List.map_drop];rfl
  have hhs:(cs.take p++(k,b)::cs.drop p).map (λc=>hK prog w c.1)=(cs.map λc=>hK prog w c.1).take p++hK prog w k::(cs.map λc=>hK prog w c.1).drop p:=by rw[List.map_append,ZX,List.map_take,List.map_drop]
  rw[<-hhs]at p8;rw[Z];have pm:(cs.take p++(k,b)::cs.drop p).Perm ((k,b)::cs):=by refine List.perm_middle.trans (.cons _ (.of_eq (List.take_append_drop p cs)))
  generalize cs.take p++(k,b)::cs.drop p=f at p8 pm⊢;have H:f.length=cs.length+1:=by rw[pm.length_eq,ZO]
  have F:(f.map (bq prog w)).toArray.size<scanBound:=by rw[Zv,Zf];unfold scanBound;omega
  have G:(cs.map (bq prog w)).toArray.size=cs.length:=by simp
  refine Za (wpAny_storeSet_of g d ?_ (fits_of_scanBound F));obtain⟨o1,g1,v,d1⟩:=yN (es':=(f.map (bq prog w)).toArray) (t':=u) g ex d;have S:=Z6 s.heap a (Obj.putSet (f.map (bq prog w)).toArray u)
  have done:∀h' C,Heap.SameBut a s.heap h'->C.Perm f->G7 prog w h' a C->Q true {s with heap:=h'}:=λh' C X q ob=>by
   have P:=q.trans pm
   have pk:∀c∈C,c∈cs\/c=(k,b):=λc l=>by
    rcases Zn.mp (P.mem_iff.mp l)with e|e
    ·exact .inr e
    ·exact .inl e
   refine aF h' C true X ⟨ob,λc l=>?_,?_⟩ (λK=>?_) pk (by rw[P.length_eq];exact Zg _)
   ·have y:cV prog w s.heap c.1 c.2:=by
     rcases pk c l with e|e
     ·exact x.key c e
     ·rw[e];exact hx
    exact y.kept λo e=>by rw[X.2 c.2 (N y)];exact e
   ·refine((P.map (·.1)).nodup_iff).mpr ?_;rw[ZX,Yb];exact⟨L,x.nod⟩
   ·rw[(P.map (·.1)).mem_iff,ZX,Zn];exact Or.comm
  have h:u.fill=cs.length+1:=by unfold SetTable.fill;rw[O,p1];rfl
  cases U:u.tooFull with
  |false=>rw[if_neg (by decide)];refine Ze (done _ f S (.refl _) ⟨o1,_,u,g1,v,d1,p5.trans M,V.trans W,p1,p2,by rw[Zf,O,H],by rw[R];exact T.msk,U,by rw[R];exact p8⟩)
  |true=>
   rw[if_pos (by decide),G];refine Za ?_;have hfull:(cs.length+1)*5>=t.mask*3:=by unfold SetTable.tooFull at U;rw[h,R]at U;exact of_decide_eq_true U
   have hnot:¬(cs.length*5>=t.mask*3):=by have:=T.ful;unfold SetTable.tooFull SetTable.fill at this;rw[T.dum,hsz]at this;exact of_decide_eq_false this
   have I:u.fits f.length=true:=by
    unfold SetTable.fits;rw[h,O,H,R];have:cs.length+1<=t.mask:=by omega
    simp[this]
   have l:cs.length+1=5\/cs.length+1=19:=by omega
   refine m7 (s:={s with heap:=s.heap.update a (Obj.putSet (f.map (bq prog w)).toArray u)}) (cs:=f) g1 v d1 I ?_ ?_ ?_ (p5.trans M) (V.trans W) λh' C X q ob=>Ze (done h' C (S.trans X) q ob)
   ·rcases l with e|e<;>rw[e]<;>(unfold eT;decide+kernel)
   ·rw[H];rcases l with e|e<;>rw[e]<;>decide+kernel
   ·rcases l with e|e<;>rw[e]<;>decide+kernel
end Py
namespace Py
noncomputable def gT(e:Int×Value):Int:=match e.2 with
 | .int k _=>k
 |_=>0
section
theorem j4{l:List (Int×Value)}(h:ElemsOf (intKind prog w) l):∀e∈l,∃t,e.2=.int (gT e) t:=λe H=>by obtain⟨⟨k,a,_⟩,_⟩:=h e H;obtain⟨t,b⟩:=Value.isInt_shape a;refine⟨t,?_⟩;unfold gT;rw[b]
theorem sY{l:List (Int×Value)}(h:ElemsOf (intKind prog w) l)(k:Int):(∃e∈l,(intKind prog w).is k e.2=true)↔k∈l.map gT:=by
 rw[Zr];constructor
 ·rintro⟨e,H,b⟩;obtain⟨t,a⟩:=Value.isInt_shape b;exact⟨e,H,by unfold gT;rw[a]⟩
 ·rintro⟨e,H,rfl⟩;obtain⟨t,a⟩:=j4 h e H;exact⟨e,H,by rw[a];exact intKind_is _ _ _ _⟩
variable {R:Result->Shared->Prop}{P:Nat->Value->Prop}{St:Nat->Heap->Prop}
end
noncomputable def cT(l:Bool)(k:List Nat):SetTable:={mask:=if k.length<=4 then 7 else 31,place:=k.toArray,dummies:= #[],finger:=0,led:=l,moves:=if k.length<=4 then 0 else 1,plain:=true}
noncomputable def m8:List Nat->List (List Nat)
 | []=>[[]]
 |a::l=>m8 l++(m8 l).map (a:: ·)
noncomputable def cW(v:Nat)(k:List Nat):List Nat:=k.takeWhile (· <v)++v::k.dropWhile (· <v)
noncomputable def tP(l:Bool)(v:Nat)(k:List Nat):SetTable:=((cT l k).put v).1
theorem sZ:∀led:Bool,∀ks∈m8 [0,1,2,3,4,5,6,7],∀v∈[0,1,2,3,4,5,6,7],v∉ks->
  (cT led ks).freeSlot (v:Int)=some (v,false)/\((cT led ks).put v).2=(ks.takeWhile (· <v)).length/\(tP led v ks).fits (ks.length+1)=true/\(tP led v ks).plain=true/\
  ((tP led v ks).tooFull=false->tP led v ks=cT led (cW v ks))/\
  ((tP led v ks).tooFull=true->(tP led v ks).relaid ((cW v ks).map λk:Nat=>(k:Int)).toArray (SetTable.grown (ks.length+1))=some (cT led (cW v ks),Array.range (ks.length+1))/\(cT led (cW v ks)).fits (ks.length+1)=true/\coversAll (Array.range (ks.length+1)) (ks.length+1)=true):=by
 decide+kernel
abbrev p8:List (List Nat):=m8 [0,1,2,3,4,5,6,7]
theorem m9:∀ks∈p8,ks.Pairwise (· < ·)/\(∀k∈ks,k<8)/\ks.length<=8/\(∀led:Bool,(cT led ks).fits ks.length=true)/\∀v∈[0,1,2,3,4,5,6,7],v∉ks->cW v ks∈p8:=by decide+kernel
theorem yP:∀v∈[0,1,2,3,4,5,6,7],hashInt (v:Nat)=((v:Nat):Int):=by decide+kernel
theorem j5{v:Nat}(h:v<8):v∈[0,1,2,3,4,5,6,7]:=by
 have:v=0\/v=1\/v=2\/v=3\/v=4\/v=5\/v=6\/v=7:=by omega
 simp_all
theorem j6(v:Nat)(k:List Nat):k.take (k.takeWhile (· <v)).length=k.takeWhile (· <v)/\k.drop (k.takeWhile (· <v)).length=k.dropWhile (· <v):=by
 have h:k.takeWhile _++k.dropWhile (· <v)=k:=List.takeWhile_append_dropWhile
 grind
def m_(k:Nat):Int×Int:=((k:Int),(k:Int))
def io(e:Int×Value):Int×Int:=(e.1,gT e)
theorem ng{v:Nat}{tok:Tok}(h:es.toList.map io=ks.map m_):(SetTable.insertAt es (ks.takeWhile (· <v)).length ((v:Int),.int v tok)).toList.map io=(cW v ks).map m_:=by rw[SetTable.toList_insertAt,List.map_append,ZX,List.map_take,List.map_drop,h,<-List.map_take,<-List.map_drop,(j6 v _).1,(j6 v _).2];unfold cW;rw[List.map_append];rfl
theorem G8{a:Type}(es:Array a):(Array.range es.size).filterMap (es[·]?)=es:=by apply Array.ext';rw[Array.toList_filterMap,Array.toList_range];exact filterMap_getElem?_range _
theorem yQ{v:Nat}{x:Value}(b:ks∈p8)(d:v<8)(c:v∉ks)(hs:es.size=ks.length):layNew (cT led ks) es (v:Int) x=(SetTable.insertAt es (ks.takeWhile (· <v)).length ((v:Int),x),tP led v ks,false,false):=by
 obtain⟨h,H,a,_⟩:=sZ _ _ b v (j5 d) c;unfold layNew;rw[h];dsimp;have e:(SetTable.insertAt es ((cT led ks).put v).2 (v,x)).size=ks.length+1:=by rw[<-Zt,(SetTable.insertAt_perm _ _ _).length_eq,Zt,Array.size_push,hs]
 rw[e,<-H];unfold SetTable.orStandIn;rw[show((cT _ _).put v).1.fits _=true from a];rfl
theorem nh{e:Array (Int×Value)}{v:Nat}(i:ks∈p8)(l:v<8)(j:v∉ks)(h:e.toList.map io=(cW v ks).map m_)(f:(tP led v ks).tooFull=true):relayAll (tP led v ks) e (SetTable.grown e.size)=(e,cT led (cW v ks),false):=by
 obtain⟨_,_,_,_,_,a⟩:=sZ _ _ i v (j5 l) j;obtain⟨b,c,d⟩:=a f
 have H:e.size=ks.length+1:=by
  have:=congrArg List.length h;rw[Zf,Zf,Zt]at this;have m:(cW v ks).length=ks.length+1:=by unfold cW;rw[ZA,ZO,<-Nat.add_assoc,<-ZA,List.takeWhile_append_dropWhile]
  omega
 have g:e.map (·.1)=((cW v ks).map λk:Nat=>(k:Int)).toArray:=by apply Array.ext';rw[Array.toList_map];have:=congrArg (List.map (·.1)) h;rw[ZP,ZP]at this;exact this
 unfold relayAll;rw[g,H,b];dsimp;rw[<-H,G8,H,c,d];rfl
structure dq (prog:Program)(w:World)(h:Heap)(a:Addr)(ks:List Nat)(es:Array (Int×Value)):Prop where
 obj:∃o ep,h.get? a=some o/\o.ExactSet/\o.data=.set es ep (cT (!fi w) ks)
 ent:es.toList.map io=ks.map m_
 els:ElemsOf (intKind prog w) es.toList
 pow:ks∈p8
theorem dq.size(x:dq prog w h a ks es):es.size=ks.length:=by have:=congrArg List.length x.ent;simp_all
theorem dq.kept(x:dq prog w h a ks es)(k:∀o,h.get? a=some o->h'.get? a=some o):dq prog w h' a ks es:=by obtain⟨⟨o,e,q,r⟩,z,Z,b⟩:=x;exact⟨⟨o,_,k o q,r⟩,z,Z,b⟩
theorem dq.born(h:Heap):dq prog w (h.push (bQ (!fi w))) h.objs.size [] #[]:=⟨⟨_,0,Zi _ rfl,⟨rfl,rfl,rfl⟩,rfl⟩,rfl,λe H=>by simp_all,by decide+kernel⟩
theorem yR{t t':SetTable}(g:h.get? a=some o)(E:o.ExactSet)(d:o.data=.set es ep t):
  ∃o',(h.update a (Obj.putSet es' t')).get? a=some o'/\o'.ExactSet/\o'.data=.set es' (ep+1) t':=by
 have e:(h.update a (Obj.putSet _ t')).get? a=some _:=Heap.get?_update_self _ g (by rw[putSet_of es' _ d];rfl);rw[putSet_of _ _ d]at e;exact⟨_,e,E,rfl⟩
theorem yS{v:Nat}{tok:Tok}{Q:Bool->Shared->Prop}(x:dq prog w s.heap a ks es)(y:v<8)
  (aF:∀h' K es' b,Heap.SameBut a s.heap h'->dq prog w h' a K es'->(∀k,k∈K↔k∈ks\/k=v)->Q b {s with heap:=h'}):
  wpAny (model prog w) A (setAddHashed a (.int v tok) ((intKind prog w).hash v)) Q E s:=by
 obtain⟨⟨o,ep,g,Z,d⟩,n,B,I⟩:=id x;have U:=x.size;obtain⟨_,low,len,u,more⟩:=m9 ks I;have t:(cT (!fi w) ks).fits es.size=true:=by rw[U];exact u _
 have M:es.size<scanBound:=by rw[U];unfold scanBound;omega
 have C:(intKind prog w).is (v:Int) (.int v tok)=true:=intKind_is _ _ _ _
 have G:∀(b:Bool) (z:Shared) (J:Unit->Shared->Prop),J () z->wpAny (model prog w) A (match b with|true=>rule "set.scan.the-table-gave-way"|false=>pure ()) J E z:=λb z J q=>by
  cases b
  ·exact Ze q
  ·exact wpAny_rule q
 have l:(∃e∈es.toList,(intKind prog w).is (v:Int) e.2=true)↔v∈ks:=by
  rw[sY B];have:=congrArg (List.map (·.2)) n;rw[ZP,ZP]at this;rw[show es.toList.map gT=ks.map λk:Nat=>(k:Int)from this,Zr];constructor
  ·rintro⟨k,C,e⟩;have:k=v:=by omega
   exact this▸C
  ·exact λh=>⟨v,h,rfl⟩
 have H:(intKind prog w).hash (v:Int)=(v:Int):=yP v (j5 y);unfold setAddHashed setAddHashedIn;refine Z5 (Za (wpAny_setState_of g d t ?_));dsimp only;rw[byScan_of (knd:=intKind prog w) rfl M B,if_pos rfl];unfold setAddByScan;refine Za (Za (wpAny_rule (Za (wpAny_setScan_of C g d t B ?_))));cases X:List.findIdx? (λe=>(intKind prog w).is (v:Int) e.2) es.toList with
 |some j=>obtain⟨hj,hp,_⟩:=List.findIdx?_eq_some_iff_getElem.mp X;have T:=l.mp ⟨_,List.getElem_mem hj,hp⟩;exact Ze (Ze (aF s.heap ks es false (Heap.SameBut.refl a s.heap) x λk=>⟨.inl,λz=>z.elim id λe=>e▸T⟩))
 |none=>
  have N:v∉ks:=λz=>by obtain⟨e,he,q⟩:=l.mpr z;have:=List.findIdx?_eq_none_iff.mp X e he;rw[q]at this;cases this
  obtain⟨_,_,ft,pl,nf,fu⟩:=sZ (!fi w) ks I v (j5 y) N;have R:hashByValue 8 (.int v tok)=pure true:=hashByValue_scannable 8 rfl
  have i:∀k,k∈cW v ks↔k∈ks\/k=v:=λk=>by
   unfold cW;rw[Zq,Zn];have:ks.takeWhile (· <v)++ks.dropWhile (· <v)=ks:=List.takeWhile_append_dropWhile;rw[<-congrArg (k∈ ·) this];rw[Zq];constructor
   ·rintro(h|h|h)
    ·exact .inl (.inl h)
    ·exact .inr h
    ·exact .inl (.inr h)
   ·rintro((h|h)|h)
    ·exact .inl h
    ·exact .inr (.inr h)
    ·exact .inr (.inl h)
  have c:=ng (v:=v) (tok:=tok) n;have m:ElemsOf (intKind prog w) (SetTable.insertAt es (ks.takeWhile (· <v)).length ((v:Int),.int v tok)).toList:=by have p:=SetTable.insertAt_perm es (ks.takeWhile (· <v)).length ((v:Int),Value.int v tok);rw[Array.toList_push]at p;have q:=B.push C (x:=.int v tok) rfl;rw[H]at q;exact q.perm p
  have P:=more v (j5 y) N;dsimp only;rw[H,yQ I y N U];generalize SetTable.insertAt es (ks.takeWhile (· <v)).length ((v:Int),Value.int v tok)=f at c m⊢
  have F:f.size<scanBound:=by
   have:=congrArg List.length c;rw[Zf,Zf,Zt]at this;have h2:(cW v ks).length=ks.length+1:=by unfold cW;rw[ZA,ZO,<-Nat.add_assoc,<-ZA,List.takeWhile_append_dropWhile]
   unfold scanBound;omega
  dsimp only;refine Za (G false s _ ?_);rw[if_pos pl];refine Za ?_;rw[R];refine Ze ?_;simp only[if_true];refine Za (wpAny_storeSet_of g d ?_ (fits_of_scanBound F));obtain⟨o1,O,r,D⟩:=yR (es':=f) (t':=tP (!fi w) v ks) g Z d;have S:=Z6 s.heap a (Obj.putSet f (tP (!fi w) v ks));cases W:(tP (!fi w) v ks).tooFull with
  |true=>simp only[Bool.not_false,Bool.and_self,if_true];rw[nh I y N c W];refine Za (G false _ _ (Za (wpAny_storeSet_of O D (Ze (Ze ?_)) (fits_of_scanBound F))));obtain⟨o2,g2,L,Y⟩:=yR (es':=f) (t':=cT (!fi w) (cW v ks)) O r D;exact aF _ _ f true (S.trans (Z6 _ a _)) ⟨⟨o2,_,g2,L,Y⟩,c,m,P⟩ i
  |false=>simp only[Bool.not_false,Bool.and_false,Bool.false_eq_true,if_false];rw[nf W]at D;exact Ze (Ze (aF _ _ f true S ⟨⟨o1,_,O,r,D⟩,c,m,P⟩ i))
section
variable {R:Result->Shared->Prop}{P:Nat->Value->Prop}{St:Nat->Heap->Prop}
theorem s8(W:Walks prog w A.in1 I fp wr n P St)(S:Addr)(out:S∉fp)(val:Nat->Int)(H:∀i v,P i v->∃t,v=.int (val i) t)(low:∀i,i<n->0<=val i/\val i<8):
  ∀(k i:Nat) (s:Shared) (ks:List Nat) (es:Array (Int×Value)),n-i=k->i<=n->St i s.heap->dq prog w s.heap S ks es->(∀k:Nat,k∈ks↔∃j,j<i/\val j=k)->
  (∀h' tk d es',(∀b o,b∉wr->b≠S->s.heap.get? b=some o->h'.get? b=some o)->dq prog w h' S d es'->(∀k:Nat,k∈d↔∃j,j<n/\val j=k)->R (.ok (.ret .none)) {s with heap:=h',toks:=tk})->
  codeAny (model prog w) A (.builtin "set.update.loop" ⟨[.ref S,.ref I],[]⟩) R s:=by
 have L:S∉wr:=λz=>out (W.sub S z);intro k
 induction k with
 |zero=>
  intro i s ks es O Q a x y aF;obtain rfl:i=n:=by omega
  exact codeAny_builtin F.entry_set_update_loop (by rw[Around.under_plainId F.plain_set_update_loop];exact Za (W.done s _ _ a λh' tk K=>Ze (aF h' tk ks es (λb o N _ e=>K b o N e) (x.kept λo e=>K S o L e) y)))
 |succ k Y=>
  intro i s ks es O Q a x y aF;have lt:i<n:=by omega
  refine codeAny_builtin F.entry_set_update_loop ?_;rw[Around.under_plainId F.plain_set_update_loop];refine Za (W.item i s _ _ lt a λv h' tk Z c K=>?_);obtain⟨t,rfl⟩:=H i v Z;have x1:dq prog w h' S ks es:=x.kept λo e=>K S o L e;obtain⟨u,J⟩:∃u:Nat,val i=(u:Int):=⟨(val i).toNat,by have:=low i lt;omega⟩;have p:u<8:=by have:=low i lt;omega
  refine Za (m:=holding [Value.int (val i) t] (setAdd S (.int (val i) t))) (Z5 ?_);unfold setAdd;refine Z5 (Za ((intKind prog w).pyHash (k:=val i) (intKind_is _ _ _ _) ?_));rw[J];refine yS (s:={s with heap:=h',toks:=tk+1}) x1 p λh2 f E b M x2 l=>?_
  have B:∀k:Nat,k∈f↔∃j,j<i+1/\val j=k:=λk=>by
   rw[l k,y k];constructor
   ·rintro(⟨j,X,e⟩|rfl)
    ·exact⟨j,by omega,e⟩
    ·exact⟨i,by omega,J⟩
   ·rintro⟨j,X,e⟩;by_cases z:j=i
    ·subst z;exact .inr (by omega)
    ·exact .inl ⟨j,by omega,e⟩
  refine Ze ⟨plainId_quiet F.plain_set_update_loop _,Y (i+1) _ f E (by omega) lt (W.frame _ _ _ c λb U o e=>?_) x2 B λV D r g q x3 C=>?_⟩
  ·rw[M.2 b λz=>out (z▸U)];exact e
  ·refine aF V D r g (λb o N G e=>q b o N G ?_) x3 C;rw[M.2 b G];exact K b o N e
end
structure yT (prog:Program)(w:World)(A:Around)(s:Shared)(vs:Av)(led:Bool)(dV:Heap->Prop):Prop where
 go:∀{I:Addr} {fp wr:La} {St:Nat->Heap->Prop} {R:Result->Shared->Prop} (s':Shared),Walks prog w A.in1.in1.in1 I fp wr vs.size (λi v=>vs[i]?=some v) St->s.heap.objs.size∉fp->St 0 s'.heap->(∀b o,(s.heap.push (bQ led)).get? b=some o->s'.heap.get? b=some o)->(∀b∈wr,s.heap.objs.size<b)->
   (∀h' tk,(∀b o,b∉wr->b≠s.heap.objs.size->s'.heap.get? b=some o->h'.get? b=some o)->dV h'->R (.ok (.ret .none)) {s' with heap:=h',toks:=tk})->codeAny (model prog w) A.in1.in1 (.builtin "set.update.loop" ⟨[.ref s.heap.objs.size,.ref I],[]⟩) R s'
theorem yU{t:Addr}{vs:Av}{dV:Heap->Prop}(hh:A.handled=none)(B:s.heap.IsList t vs\/s.heap.IsTuple t vs)
  (L:yT prog w A s vs (!fi w) dV)
  (h:∀(h':Heap) (tk:Nat),dV h'->(∀b o,b<s.heap.objs.size->s.heap.get? b=some o->h'.get? b=some o)->Q (.ref s.heap.objs.size) {s with heap:=h',toks:=tk}):wpAny (model prog w) A (call (.type "set") [.ref t]) Q E s:=by
 obtain⟨c,tl,Z⟩:=F.called_set.mro;have P:=F.called_set.made;have hsub:=F.called_set.sub;refine wpAny_call (codeAny_of_tree ?_);show wpAny _ _ (callAny (.type "set") _) _ _ _;refine Ze ⟨Code.quiet_builtin _ (by decide+kernel),codeAny_builtin F.entry_type_call ?_⟩;rw[Around.under_plain (weight_type_call_type "set" [.ref t] []) rfl];have g1:=F.called_set.notType;have g2:=F.called_set.canCreate;have g3:=F.typeCall_set_1 (.ref t)
 repeat(any_goals (first|assumption|W))
 refine codeAny_mono (G5 (.ref t) (E:=E) (R:=λobj S=>obj=.ref s.heap.objs.size/\S={s with heap:=s.heap.push (bQ (!fi w))}) ⟨rfl,rfl⟩) λr S U=>?_;cases r with
 |error e=>exact U
 |ok fl=>
  cases fl with
  |ret obj=>
   obtain⟨rfl,rfl⟩:=U;generalize(!fi w)=l at L⊢;have hS:(s.heap.push (bQ l)).get? s.heap.objs.size=some (bQ l):=Zi _ rfl;have hT:Shared.TypeIs {s with heap:=s.heap.push (bQ l)} (.ref s.heap.objs.size) "set":=⟨_,hS,rfl⟩;have hli:=F.called_set.init.lookup;have hbi:=F.called_set.init.bind (.ref s.heap.objs.size)
   repeat(any_goals (first|assumption|W))
   refine codeAny_mono (codeAny_call_builtin (R:=wants (λr q=>r=.none/\∃h' tk,q={s with heap:=h',toks:=tk}/\dV h'/\
     (∀b o,b<s.heap.objs.size->s.heap.get? b=some o->h'.get? b=some o)) E) F.called_set.init.plain F.entry_set_init (check_set_init_1 hT ?_)) λJ q H=>?_
   ·have D:A.in1.in1.in1.handled=none:=by simp[hh]
    have V:(s.heap.push (bQ l)).objs.size=s.heap.objs.size+1:=Heap.size_push ..;have G:t<s.heap.objs.size:=by rcases B with⟨_,d,_⟩| ⟨_,d,_⟩<;>exact Zl d
    have n:t≠(s.heap.push (bQ l)).objs.size:=by rw[V];exact Zx (Nat.lt_succ_of_lt G)
    have C:s.heap.objs.size∉[(s.heap.push (bQ l)).objs.size,t]:=by rw[V];simp only[Zn,ZZ,or_false,not_or];exact⟨Zx (Nat.lt_succ_self _),Nat.ne_of_gt G⟩
    have x:∀b∈[(s.heap.push (bQ l)).objs.size],s.heap.objs.size<b:=λb m=>by rw[V,ZM]at m;rw[m];exact Nat.lt_succ_self _
    have p:∀b,b<s.heap.objs.size->b∉[(s.heap.push (bQ l)).objs.size]:=λb m z=>by have:=x b z;omega
    rcases B with B|B
    ·obtain⟨⟨I,a,y,O⟩,d,f,nl,g⟩:=B;simp only at f g;subst f;subst g;have k:(s.heap.push (bQ l)).get? t=some {cls:=.type "list",dict:=a,data:=.seq vs nl,slots:=O}:=Zb _ d;have q1:=F.sub_list_set;have q2:=F.sub_list_frozenset;have q3:(Value.type "list"==Value.type "dict")=false:=by decide
     have j:(s.heap.push (bQ l)).IsList t vs:=⟨_,k,rfl,nl,rfl⟩;unfold Builtin.«set.__init__» noKeywords Builtin.Frozenset.updateFrom;generalize v:pyIter=PI
     wp_walk
     subst v;refine Yi j (Za (wpAny_runValue ?_));exact L.go _ (Walks.list D _ t n vs) C ⟨⟨_,Zi _ rfl,rfl,rfl⟩,(j.push _)⟩ (λb o e=>Zb _ e) x λh' T X Y=>Ze (Ze ⟨rfl,h',T,rfl,Y,λb o m e=>X b o (p b m) (Zx m) (Zb _ (Zb _ e))⟩)
    ·obtain⟨⟨I,a,y,O⟩,d,f,nl,g⟩:=B;simp only at f g;subst f;subst g;have k:(s.heap.push (bQ l)).get? t=some {cls:=.type "tuple",dict:=a,data:=.seq vs nl,slots:=O}:=Zb _ d;have q1:=F.sub_tuple_set;have q2:=F.sub_tuple_frozenset;have q3:(Value.type "tuple"==Value.type "dict")=false:=by decide
     have j:(s.heap.push (bQ l)).IsTuple t vs:=⟨_,k,rfl,nl,rfl⟩;unfold Builtin.«set.__init__» noKeywords Builtin.Frozenset.updateFrom;generalize v:pyIter=PI
     wp_walk
     subst v;refine Ye j (Za (wpAny_runValue ?_));exact L.go _ (Walks.tuple D _ t n vs) C ⟨⟨_,Zi _ rfl,rfl,rfl⟩,(j.push _)⟩ (λb o e=>Zb _ e) x λh' T X Y=>Ze (Ze ⟨rfl,h',T,rfl,Y,λb o m e=>X b o (p b m) (Zx m) (Zb _ (Zb _ e))⟩)
   ·cases J with
    |error e=>exact H
    |ok u=>
     cases u with
     |ret r=>
      obtain⟨rfl,h',tk,rfl,M,N⟩:=H
      repeat(any_goals (first|assumption|W))
      exact h _ _ M N
     |_=>exact H.elim
  |_=>exact U.elim
theorem G9{t:Addr}{vs:Av}(d:A.handled=none)(j:s.heap.IsList t vs\/s.heap.IsTuple t vs)(hi:IntsAre vs.toList ns)(low:∀n∈ns,0<=n/\n<8)
  (h:∀(h':Heap) (tk:Nat),(∃ks es,dq prog w h' s.heap.objs.size ks es/\∀k:Nat,k∈ks↔(k:Int)∈ns)->
   (∀b o,b<s.heap.objs.size->s.heap.get? b=some o->h'.get? b=some o)->Q (.ref s.heap.objs.size) {s with heap:=h',toks:=tk}):wpAny (model prog w) A (call (.type "set") [.ref t]) Q E s:=by
 have a:vs.size=ns.length:=by exact hi.length
 refine yU d j ⟨λy W out S m l aF=>?_⟩ h;refine s8 W _ out _ (λi v u=>hi.int_at i v (by simp_all)) (λi g=>low _ (by simp_all)) _ 0 _ _ _ (by omega) (Yj _) S ((dq.born _).kept λo e=>m _ o e) (λk=>⟨λz=>(by cases z),λ⟨i,z,_⟩=>by omega⟩) λh' r q c K x p=>aF _ _ K ⟨_,_,x,λk=>(p k).trans ⟨λ⟨i,z,e⟩=>by grind,λz=>by obtain⟨i,f,e⟩:=Zy.mp z;exact⟨i,by omega,by simp_all⟩⟩⟩
theorem ek.born(h:Heap):ek prog w (h.push (bQ (!fi w))) h.objs.size []:=⟨⟨_,0,_,Zi _ rfl,⟨rfl,rfl,rfl⟩,rfl,rfl,rfl,rfl,λi j a=>absurd a (Nat.not_lt_zero _),rfl,Zd,rfl,λx b=>by cases b⟩,λc H=>(by cases H),.nil⟩
theorem s9{R:Result->Shared->Prop}{P:Nat->Value->Prop}{St:Nat->Heap->Prop}(W:Walks prog w A.in1 I fp wr n P St)(S:Addr)(out:S∉fp)(D:∀b∈wr,S<b)(val:Nat->Li×Addr)(p:∀i v,P i v->v=.ref (val i).2)(X:A.in1.units<cLine)(few:n<76):
  ∀(k i:Nat) (s:Shared) (cs:List (Li×Addr)),n-i=k->i<=n->St i s.heap->ek prog w s.heap S cs->(∀j,j<n->cV prog w s.heap (val j).1 (val j).2/\(val j).2<S)->(∀c∈cs,∃j,j<n/\c=val j)->(∀K,K∈cs.map (·.1)↔∃j,j<i/\(val j).1=K)->cs.length<=i->
  (∀h' tk C,(∀b o,b∉wr->b≠S->s.heap.get? b=some o->h'.get? b=some o)->ek prog w h' S C->(∀K,K∈C.map (·.1)↔∃j,j<n/\(val j).1=K)->(∀c∈C,∃j,j<n/\c=val j)->R (.ok (.ret .none)) {s with heap:=h',toks:=tk})->
  codeAny (model prog w) A (.builtin "set.update.loop" ⟨[.ref S,.ref I],[]⟩) R s:=by
 have Y:S∉wr:=λz=>out (W.sub S z);have low:∀b,b<S->b∉wr:=λb g z=>Yf _ (Nat.lt_trans g (D b z));intro k
 induction k with
 |zero=>
  intro i s cs Z e1 a x tup M G len aF;have L:∀c∈cs,c.2<S:=λc H=>let⟨j,h,e⟩:=M c H;e▸(tup j h).2
  obtain rfl:i=n:=by omega
  exact codeAny_builtin F.entry_set_update_loop (by rw[Around.under_plainId F.plain_set_update_loop];exact Za (W.done s _ _ a λh' tk d=>Ze (aF h' tk cs (λb o N _ e=>d b o N e) (x.kept λb o e g=>d b o (by rcases g with rfl| ⟨c,H,rfl⟩;exact Y;exact low _ (L c H)) e) G M)))
 |succ k ih=>
  intro i s cs Z e1 a x tup M G len aF;have L:∀c∈cs,c.2<S:=λc H=>let⟨j,h,e⟩:=M c H;e▸(tup j h).2
  have lt:i<n:=by omega
  refine codeAny_builtin F.entry_set_update_loop ?_;rw[Around.under_plainId F.plain_set_update_loop];refine Za (W.item i s _ _ lt a λv h' tk pv q d=>?_);obtain rfl:=p i v pv;have x1:ek prog w h' S cs:=x.kept λb o e g=>d b o (by rcases g with rfl| ⟨c,H,rfl⟩;exact Y;exact low _ (L c H)) e;have t:∀j,j<n->cV prog w h' (val j).1 (val j).2/\(val j).2<S:=λj h=>⟨(tup j h).1.kept λo e=>d _ o (low _ (tup j h).2) e,(tup j h).2⟩;refine Za (m:=holding [Value.ref (val i).2] (setAdd S (.ref (val i).2))) (Z5 ?_);unfold setAdd;refine Z5 (Za (wpAny_pyHash_tuple X (t i lt).1 ?_));refine yO (s:={s with heap:=h',toks:=tk+((val i).1.length+1)}) x1 (t i lt).1 X (by omega) λh2 f b Q x2 B r bS=>?_
  have J:∀K,K∈f.map (·.1)↔∃j,j<i+1/\(val j).1=K:=λK=>by
   rw[B K,G K];constructor
   ·rintro(⟨j,h,e⟩|rfl)
    ·exact⟨j,by omega,e⟩
    ·exact⟨i,by omega,rfl⟩
   ·rintro⟨j,h,e⟩;by_cases z:j=i
    ·subst z;exact .inr e.symm
    ·exact .inl ⟨j,by omega,e⟩
  refine Ze ⟨plainId_quiet F.plain_set_update_loop _,ih (i+1) _ f (by omega) lt (W.frame _ _ _ q λb fb o e=>?_) x2 (λj h=>⟨(t j h).1.kept λo e=>?_,(t j h).2⟩) (λc H=>?_) J (by omega) λh3 U y E x3 O u=>?_⟩
  ·rw[Q.2 b λz=>out (z▸fb)];exact e
  ·rw[Q.2 _ (Zx (t j h).2)];exact e
  ·rcases r c H with z|z
   ·exact M c z
   ·exact⟨i,lt,z⟩
  ·refine aF h3 U y (λb o N V e=>E b o N V ?_) x3 O u;rw[Q.2 b V];exact d b o N e
theorem G_{t:Addr}{vs:Av}{K:List (Li×Addr)}(B:A.handled=none)(O:A.units+64<cLine)(J:s.heap.IsList t vs\/s.heap.IsTuple t vs)(d:vs.toList=K.map λc=>Value.ref c.2)(I:∀c∈K,cV prog w s.heap c.1 c.2)(F:K.length<76)
  (h:∀(h':Heap) (tk:Nat),(∃cs,ek prog w h' s.heap.objs.size cs/\(∀r,r∈cs.map (·.1)↔r∈K.map (·.1))/\∀c∈cs,c∈K)->
   (∀b o,b<s.heap.objs.size->s.heap.get? b=some o->h'.get? b=some o)->Q (.ref s.heap.objs.size) {s with heap:=h',toks:=tk}):wpAny (model prog w) A (call (.type "set") [.ref t]) Q E s:=by
 have q:vs.size=K.length:=by rw[<-Zt,d,Zf]
 have H:∀i,i<K.length->K.getD i ([],0)∈K/\K[i]?=some (K.getD i ([],0)):=λi D=>by
  grind
 refine yU B J ⟨λP W out S u f aF=>?_⟩ h;refine s9 W s.heap.objs.size out f (λi=>K.getD i ([],0)) (λi v L=>?_) (by show A.units+1+1+1<cLine;omega) (by omega) (vs.size-0) 0 _ [] (by omega) (Yj _) S ((ek.born s.heap).kept λb o e _=>u b o e) (λj G=>?_) (λc a=>by cases a) (λk=>⟨λz=>(by cases z),λ⟨i,z,_⟩=>(by omega)⟩) (Zg _) λh' T C l X p m=>aF h' T l ⟨C,X,λk=>(p k).trans ⟨λ⟨i,z,e⟩=>?_,λz=>?_⟩,λc a=>let⟨j,G,e⟩:=m c a;e▸(H j (by omega)).1⟩
 ·have M:vs.toList[i]?=some v:=by rw[ZQ];exact L
  grind
 ·have y:=I _ (H j (by omega)).1;refine⟨y.kept λo e=>u _ o (Zb _ e),?_⟩;obtain⟨o,_,_,g,_⟩:=y;exact Zl g
 ·grind
 ·obtain⟨c,a,e⟩:=Zr.mp z;obtain⟨i,D,N⟩:=Zy.mp a
  grind
theorem yV(ns:Li):firstMet (λi=>ns.getD i 0) ns.length=eI ns:=by unfold firstMet eI;congr 1;refine List.ext_getElem (by simp) λi H h=>?_;simp[h]
theorem G'(c:X.calm=true):aW X (.type "set") (λxs H Q=>∃p ns,xs=[.ref p]/\c6 X.K H p (ns.map V.int)/\ns.length+1<scanBound/\∀l S,H l=none->Q (.ref l) (bg H l (.set S (eI ns).length))):=by
 intro n s v H xs U Q I r h;obtain⟨p,ns,rfl,f,k,q⟩:=h;obtain⟨u,rfl,g⟩:=vals1 r;cases g;obtain⟨i,R,P,_⟩:=I.list f;have m:=R.length;refine call_set_list (I.ok.hd c) P.isList (by simpa using rA R) (by simp_all) λj t a d=>?_;have E:i.toArray.size=ns.length:=by simp_all
 rw[E,yV]at a;exact⟨.ref _,_,I.laid (λb o e=>d b o (Zl e) e) (Zg _) (show bw _ _ _ _ _ (.set _ _)from a),rfl,q _ _ (I.hok.fresh (Zg _))⟩
theorem Ha(c:X.calm=true):aW X (.type "set") (λxs H Q=>∃p ns,xs=[.ref p]/\cf X.K H p (ns.map V.int)/\ns.length+1<scanBound/\∀l S,H l=none->Q (.ref l) (bg H l (.set S (eI ns).length))):=by
 intro n s v H xs U Q I r h;obtain⟨p,ns,rfl,f,k,q⟩:=h;obtain⟨u,rfl,g⟩:=vals1 r;cases g;obtain⟨i,R,P,_⟩:=I.tuple f;have m:=R.length;refine GP (I.ok.hd c) P (by simpa using rA R) (by simp_all) λj t a d=>?_;have E:i.toArray.size=ns.length:=by simp_all
 rw[E,yV]at a;exact⟨.ref _,_,I.laid (λb o e=>d b o (Zl e) e) (Zg _) (show bw _ _ _ _ _ (.set _ _)from a),rfl,q _ _ (I.hok.fresh (Zg _))⟩
theorem Hc(c:X.calm=true):aW X (.type "set") (λxs H Q=>∃p ns,xs=[.ref p]/\(c6 X.K H p (ns.map V.int)\/cf X.K H p (ns.map V.int))/\ns.length+1<scanBound/\∀l S,H l=none->Q (.ref l) (bg H l (.set S (eI ns).length))):=by
 intro P s d H xs u Q I r h;obtain⟨p,ns,e,a,b,q⟩:=h;rcases a with a|a
 ·exact G' c _ s _ H _ _ Q I r ⟨p,_,e,a,b,q⟩
 ·exact Ha c _ s _ H _ _ Q I r ⟨p,_,e,a,b,q⟩
theorem Hd:aW X (.builtin "len") (λxs H Q=>∃p S n,xs=[.ref p]/\H p=some (.set S n)/\n<100000/\Q (.int n) H):=by intro P s j H xs U Q I r h;obtain⟨p,S,n,rfl,f,i,q⟩:=h;obtain⟨u,rfl,R⟩:=vals1 r;cases R;have b:=I.hok p _ f;obtain⟨o,g,E,t,e,a,c,_,_,_,d,rfl⟩:=b;exact call_len_set e a c d (by omega) ⟨.int _,H,I.tok _,⟨_,rfl⟩,q⟩
theorem yW:bootBuiltins "set"=some (.type "set"):=by decide+kernel
theorem ni(ns:Li):(eI ns).length<=ns.length:=by
 have k:∀(ns a:Li),(ns.foldl step_dedup a).length<=a.length+ns.length:=by
  intro ns
  induction ns with
  |nil=>simp_all
  |cons n ns i=>intro a;refine ZB (i _) ?_;unfold step_dedup;split<;>simp<;>omega
 simpa[eI]using k _ []
theorem nj:∀{xs:List D},xs.all (aw .int)=true->xs=(xs.filterMap cI).map D.int
 | [],_=>rfl
 |x::xs,h=>by
  simp only[List.all_cons,ZW]at h;cases x with
  |int i=>simp[cI];rw[<-nj h.2]
  |_=>simp[aw]at h
theorem nk{K:Fg}{m:GS}{μ:La}{H:Hp}:∀{ns:Li} {vs:List V},aj K m μ H (ns.map D.int) vs->vs=ns.map V.int
 | [],vs,r=>by subst r;rfl
 |n::ns,vs,r=>by obtain⟨v,w,rfl,R,a⟩:=r.uncons;cases aK R;rw[nk a];rfl
def s_(K:Fg):List V->Hp->VK->Prop:=λxs H Q=>∃p ns,xs=[.ref p]/\(c6 K H p (ns.map V.int)\/cf K H p (ns.map V.int))/\ns.length+1<scanBound/\∀l S,H l=none->Q (.ref l) (bg H l (.set S (eI ns).length))
def qs:List V->Hp->VK->Prop:=λxs H Q=>∃p S n,xs=[.ref p]/\H p=some (.set S n)/\n<100000/\Q (.int n) H
theorem tf:∀(ks acc:List (Li)),acc.Nodup->(ks.foldl (λacc k=>if acc.contains k=true then acc else acc++[k]) acc).Nodup/\∀k,k∈ks.foldl (λacc k=>if acc.contains k=true then acc else acc++[k]) acc↔k∈acc\/k∈ks
 | [],acc,h=>⟨h,λk=>by simp⟩
 |x::ks,acc,h=>by
  by_cases z:acc.contains x=true
  ·obtain⟨a,b⟩:=tf ks _ h
   grind
  ·have d:=λh=>z (List.contains_iff_mem.mpr h);obtain⟨a,b⟩:=tf ks (acc++[x]) (ZJ.mpr ⟨h,by simp,λa c b H=>by simp at H;lia⟩)
   grind
theorem He(K:List (Li)):(gP K).Nodup/\∀k,k∈gP K↔k∈K:=by obtain⟨a,b⟩:=tf _ _ List.nodup_nil;exact⟨a,λk=>(b k).trans (by simp)⟩
theorem Hf{K l:List (Li)}(H:l.Nodup)(h:∀k,k∈l↔k∈K):l.length=(gP K).length:=by obtain⟨a,b⟩:=He _;exact((List.perm_ext_iff_of_nodup H a).mpr λk=>(h k).trans (b k).symm).length_eq
theorem yX{prog:Program}{w:World}:∀{k:Li} {its:Lv},Vals (k.map V.int) its->ItemsAre (intKind prog w) k its
 | [],its,r=>by cases r;exact .nil
 |n::k,its,r=>by
  cases r with
  |cons h H=>obtain⟨t,rfl⟩:=h;exact .cons (intKind_is _ _ _ _) (yX H)
theorem nq{k:Li}(I:Inv X pq σ H s)(h:cf X.K H a (k.map V.int)):cV X.prog X.w s.heap k a:=by obtain⟨i,r,p,_⟩:=I.tuple h;obtain⟨o,g,c,n,d⟩:=p;exact⟨o,_,n,g,c,d,yX r⟩
theorem yY:∀{ks:List (Li×Addr)} {its:Lv},Vals (ks.map λc=>V.ref c.2) its->its=ks.map λc=>Value.ref c.2
 | [],its,r=>by cases r;rfl
 |c::ks,its,r=>by
  cases r with
  |cons h H=>cases h;rw[yY H];rfl
noncomputable def Hg(K:Fg)(H:Hp)(p:Addr)(k:List (Li×Addr)):Prop:=(c6 K H p (k.map λc=>V.ref c.2)\/cf K H p (k.map λc=>V.ref c.2))/\(∀c∈k,cf K H c.2 (c.1.map V.int))/\k.length<76
theorem nr{p:Addr}{K:List (Li×Addr)}{E:Vs}{Q:Vs}(g:X.calm=true)(q:X.A.units+64<cLine)(I:Inv X pq σ H s)(h:Hg X.K H p K)
  (aF:∀h' tk cs,ek X.prog X.w h' s.heap.objs.size cs->(∀k,k∈cs.map (·.1)↔k∈K.map (·.1))->(∀c∈cs,c∈K)->Inv X pq σ H {s with heap:=h',toks:=tk}->(∀b o,s.heap.get? b=some o->h'.get? b=some o)->Q (.ref s.heap.objs.size) {s with heap:=h',toks:=tk}):wpAny (model X.prog X.w) X.A (call (.type "set") [.ref p]) Q E s:=by
 obtain⟨d,n,f⟩:=h
 obtain⟨i,r,P⟩:∃i,Vals _ i/\(s.heap.IsList p i.toArray\/s.heap.IsTuple p i.toArray):=by
  rcases d with d|d
  ·obtain⟨i,r,P,_⟩:=I.list d;exact⟨_,r,.inl P.isList⟩
  ·obtain⟨i,r,P,_⟩:=I.tuple d;exact⟨_,r,.inr P⟩
 exact G_ (I.ok.hd g) q P (yY r) (λc g=>nq I (n c g)) f λh' tk ⟨_,x,l,m⟩ j=>aF _ _ _ x l m (I.kept λb o e=>j b o (Zl e) e) λb o e=>j b o (Zl e) e
noncomputable def Hh(K:Fg)(v:V)(H:Hp)(Q:VK):Prop:=(s_ K [v] H λy H2=>qs [y] H2 Q)\/∃p ks,v=.ref p/\Hg K H p ks/\Q (.int ((gP (ks.map (·.1))).length:Nat)) H
theorem Hi(A:X.calm=true)(V:X.A.units+64<cLine)(j:Gl X "len")(l:Gl X "set")(m:X.mg "len"=none)(n:X.mg "set"=none)(U:b8 z=true)(N:PE X z ta):
  PE X (.Call (.Name "len" p1) [.Call (.Name "set" p2) [z] [] p3] [] p4) (λσ H Q=>ta σ H λx H1=>Hh X.K x H1 Q):=by
 intro P s σ H Q I h;have F:=c_ (env:=X.env) (es:=[]) U;refine wpAny_Call_Name_kw (ef I j m PySem.boot_len ?_ (by decide) (by decide));refine PyProof.Rows.callWith_builtin1 ?_ rfl rfl;refine Calls.spliced_cons ?_;refine wpAny_Call_Name_kw (ef I l n yW ?_ (by decide) (by decide));have M:PA X [z] (jr ta rj):=rn N rk F
 refine Z0 (a' (M p3 P s σ H (λvs H1=>match vs with
  | [x]=>Hh X.K x H1 Q
  |_=>False) I h) λus S ⟨vs,H1,w,r,q⟩=>?_) F rfl
 match vs,q with
 | [v],.inl q=>refine a' (Hc A P S σ H1 [v] us (λy b=>qs [y] b Q) w r q) λu s2 ⟨v2,b,i,rv,Y⟩=>?_;refine Calls.spliced_nil ?_;exact Hd P s2 σ b [v2] [u] Q i (.cons rv .nil) Y
 | [v],.inr ⟨p,W,e,D,q⟩=>
  subst e;obtain⟨u,rfl,Z⟩:=r.one;cases Z;refine nr A V w D λK tk c x E e2 i _=>?_;refine Calls.spliced_nil ?_;obtain⟨o,ep,t,g,J,d,_,_,tt⟩:=x.obj;have a:(c.map (bq X.prog X.w)).toArray.size=c.length:=by simp
  have R:c.length=(gP (W.map (·.1))).length:=by rw[<-Hf x.nod E,Zf]
  have f:=tt.fits.2;rw[Zf]at f;have C:c.length<76:=by have L:=x.nod.length_le_of_subset λk O=>(E k).mp O;have:=D.2.2;rw[Zf,Zf]at L;omega
  refine call_len_set (s:={S with heap:=K,toks:=tk}) g J d (by rw[a];exact f) (by rw[a];omega) ?_;exact⟨.int c.length,H1,i.tok _,⟨_,by rw[a]⟩,by rw[R];exact q⟩
theorem yZ{K:Fg}{m:GS}{μ:La}{H:Hp}:∀{xs:List D} {vs:List V},xs.all (aw (.seq .int))=true->aj K m μ H xs vs->∃ks:List (Li×Addr),vs=(ks.map λc=>V.ref c.2)/\(∀c∈ks,cf K H c.2 (c.1.map V.int))/\ks.map (·.1)=xs.map ii
 | [],vs,_,r=>by unfold aj at r;simp_all
 |x::xs,vs,h,r=>by
  simp only[List.all_cons,ZW]at h;obtain⟨v,w,rfl,R,g⟩:=r.uncons;obtain⟨ks,rfl,i,f⟩:=yZ h.2 g;cases x with
  |tup d=>
   have b:=h.1;obtain⟨a,u,rfl,k,q⟩:=b4 R;rw[nj b]at q;have e:=nk q;refine⟨(d.filterMap _,a)::ks,rfl,λc j=>?_,by rw[ZX,f];rfl⟩
   grind
  |_=>simp[aw]at h
theorem ti(s:aQ K ⟨mg,F⟩ μ S H)(r:Rep K ⟨mg,F⟩ μ H d v)(e:av S d=some xs)(c:xs.all (aw (.seq .int))=true/\xs.length<76):∃p ks,v=.ref p/\Hg K H p ks/\ks.map (·.1)=xs.map ii:=by obtain⟨a,vs,rfl,f,R⟩:=e9 s r e;obtain⟨ks,rfl,b,h⟩:=yZ c.1 R;refine⟨a,_,rfl,⟨f,b,?_⟩,h⟩;have:=congrArg List.length h;rw[Zf,Zf]at this;omega
theorem Hj{Q:VK}(s:aQ K ⟨mg,F⟩ μ S H)(r:Rep K ⟨mg,F⟩ μ H d v)(w:aZ K ⟨mg,F⟩ μ H Q (jM d S)):Hh K v H Q:=by
 unfold jM at w;split at w
 ·rename_i x e;split at w
  ·rename_i h;obtain⟨a,vs,rfl,b,R⟩:=e9 s r e;have c:=nj h.1
   have g:(x.filterMap cI).length<1000:=by
    grind
   rw[c]at R;have i:=nk R;subst i;refine .inl ⟨a,_,rfl,b,by unfold scanBound;omega,λl j f=>⟨l,_,_,rfl,dk,by have:=ni (x.filterMap cI);omega,?_⟩⟩;exact w _ _ _ (.laid f) (s.laid f) bG
  ·split at w
   ·rename_i h;obtain⟨p,k,rfl,b,E⟩:=ti s r e h;exact .inr ⟨p,_,rfl,b,by rw[E];exact w _ _ _ .refl s bG⟩
   ·exact w.elim
 ·exact w.elim
section
variable {R:Result->Shared->Prop}{P:Nat->Value->Prop}{St:Nat->Heap->Prop}
end
theorem y0{a:Type}(f:Nat->Nat):∀(n k:Nat) (left:List a) (out:Array a),left.length=n->(pickOrder.go f n k left out).toList.Perm (out.toList++left)
 |0,k,left,out,h=>by have:=ZF h;subst this;unfold pickOrder.go;simp
 |n+1,k,left,out,h=>by
  have H:f k%left.length<left.length:=Nat.mod_lt _ (by omega);unfold pickOrder.go;rw[Zj _];refine(y0 f n _ _ _ (by rw[List.length_eraseIdx_of_lt H];omega)).trans ?_;rw[Array.toList_push,Z7];refine List.Perm.append_left _ ?_;have:left=left.take (f k%left.length)++left[f k%left.length]::left.drop (f k%left.length+1):=by simp_all
  rw[List.eraseIdx_eq_take_drop_succ];refine List.Perm.trans ?_ (List.Perm.of_eq this.symm);rw[List.singleton_append];exact List.perm_middle.symm
theorem Hk{a:Type}(f:Nat->Nat)(xs:Array a):(pickOrder f xs).toList.Perm xs.toList:=by have:=y0 f xs.size 0 xs.toList #[] (by simp);simpa[pickOrder]using this
noncomputable def cL(w:World)(a:Addr)(ep:Nat)(es:Array (Int×Value)):List (Int×Value):=if fi w=true then(pickOrder (w.params.setOrder a ep) es).toList else es.toList
noncomputable def bX(w:World)(k:List Nat):Nat->Nat
 |0=>0
 |i+1=>if fi w=true then 0 else k.getD i 0+1
theorem j7(w:World)(a:Addr)(ep:Nat)(es:Array (Int×Value)):(cL w a ep es).Perm es.toList:=by
 unfold cL;split
 ·exact Hk _ _
 simp_all
structure TB (w:World)(t:SetTable)(n:Nat):Prop where
 fit:t.fits n=true
 led:t.led=(!fi w)
 pl:t.plain=true
 ris:im t.place
theorem TB.size{t:SetTable}(x:TB w t n):n=t.place.toList.length:=by have:=x.fit;unfold SetTable.fits at this;simp_all
theorem j8{t:SetTable}{i:Nat}{Q:Option (Value×Nat)->Shared->Prop}(T:TB w t es.size)(g:s.heap.get? a=some o)(d:o.data=.set es ep t)(hi:i<=es.size)
  (aF:Q (((cL w a ep es)[i]?).map λe=>(e.2,bX w t.place.toList (i+1))) s):wpAny (model prog w) A (setNext a (bX w t.place.toList i) i ep) Q E s:=by
 have p:=T.size;have f:=T.fit;unfold setNext;refine Za (wpAny_setState_of g d f ?_);dsimp only;refine Za (m:=setsByText) (Za (wpAny_askSetting (Ze ?_)));cases h:fi w with
 |true=>
  have H:w.params.followText "set-order"=true:=h;show wpAny _ _ (if(w.params.followText "set-order")=true then _ else _) _ _ _;rw[if_pos H];simp only[bne_self_eq_false,Bool.false_eq_true,if_false];refine Za ?_;unfold setWalk;refine Za (wpAny_setState_of g d f ?_);dsimp only;refine Za (m:=setsByText) (Za (wpAny_askSetting (Ze ?_)));show wpAny _ _ (if(w.params.followText "set-order")=true then _ else _) _ _ _;rw[if_pos H];refine Za (wpAny_askSetting (Ze (Ze ?_)));have j:cL w a ep es=(pickOrder (w.params.setOrder a ep) es).toList:=by unfold cL;rw[if_pos h]
  have k:bX w t.place.toList (i+1)=bX w t.place.toList i:=by
   cases i with
   |zero=>simp[bX,h]
   |succ i=>simp[bX,h]
  rw[j,k,ZQ]at aF;exact aF
 |false=>
  have H:w.params.followText "set-order"=false:=h;show wpAny _ _ (if(w.params.followText "set-order")=true then _ else _) _ _ _;rw[if_neg (by rw[H];simp)];refine wpAny_ite ?_
  rw[if_neg (λz=>by have z:(!t.plain&&decide (es.size>1))=true:=z;rw[T.pl]at z;simp at z)];refine Za ?_;show wpAny _ _ (if(!t.led&& !es.isEmpty)=true then _ else pure ()) _ _ _;rw[if_neg (by rw[T.led,h];simp)];refine Ze (Ze ?_);have n:=T.ris;have j:cL w a ep es=es.toList:=by unfold cL;rw[if_neg (by rw[h];simp)]
  have l:SetTable.below t.place (bX w t.place.toList i)=i:=by
   cases i with
   |zero=>exact GU _ n
   |succ i=>
    have b:i<t.place.size:=by rw[Zt]at p;omega
    have e:bX w t.place.toList (i+1)=t.place[i]+1:=by show(if fi w=true then 0 else t.place.toList.getD i 0+1)=_;rw[h];simp[b]
    rw[e];exact GR n _
  rw[j,ZQ]at aF;rw[l];by_cases b:i<es.size
  ·have c:i<t.place.size:=by rw[Zt]at p;omega
   have k:bX w t.place.toList (i+1)=t.place[i]+1:=by show(if fi w=true then 0 else t.place.toList.getD i 0+1)=_;rw[h];simp[c]
   rw[Array.getElem?_eq_getElem b]at aF⊢;rw[k]at aF;simpa[c]using aF
  ·rw[Array.getElem?_eq_none (by omega)]at aF⊢;exact aF
theorem iR:Slot "set_iterator" "__next__" "set_iterator.__next__":=.of (owner:="set_iterator") (n:="__next__") (by rw[typeLookup_type,builtinLookup_eq_fast];kernel_rfl) (by decide+kernel) (by decide+kernel) (by decide+kernel) (by first|exact .inl (by decide+kernel)|exact .inr (by decide+kernel)) (by rw[isSubtype_type];kernel_rfl)
theorem y8:Slot "set_iterator" "__iter__" "set_iterator.__iter__":=.of (owner:="set_iterator") (n:="__iter__") (by rw[typeLookup_type,builtinLookup_eq_fast];kernel_rfl) (by decide+kernel) (by decide+kernel) (by decide+kernel) (by first|exact .inl (by decide+kernel)|exact .inr (by decide+kernel)) (by rw[isSubtype_type];kernel_rfl)
theorem Hl:entryFor table "set_iterator.__iter__"=some Builtin.«dict_keyiterator.__iter__»:=entryFor_alias (id':="dict_keyiterator.__iter__") (rfl) rfl (by decide+kernel) (rfl)
theorem Hm(v:Value):argsOk "set_iterator.__iter__" ⟨[v],[]⟩:=by kernel_rfl
theorem y9:entryFor table "set_iterator.__next__"=some Builtin.«set_iterator.__next__»:=entryFor_of_tree rfl
theorem y_(v:Value):argsOk "set_iterator.__next__" ⟨[v],[]⟩:=by kernel_rfl
theorem Hn:entryFor table "set.__iter__"=some Builtin.«frozenset.__iter__»:=entryFor_alias (id':="frozenset.__iter__") (rfl) rfl (by decide+kernel) (rfl)
def j9(h:Heap)(it a:Addr)(sl i n ep:Nat):Prop:=∃o,h.get? it=some o/\o.cls=.type "set_iterator"/\o.data=.fields #[.int sl 0,.int i 0,.ref a,.int n 0,.int ep 0]
theorem tj{t:SetTable}(T:TB w t es.size)(g:s.heap.get? a=some o)(e:o.ExactSet)(d:o.data=.set es ep (t))
  (aF:Q (.ref s.heap.objs.size) {s with heap:=s.heap.push {cls:=.type "set_iterator",data:=.fields #[.int 0 0,.int 0 0,.ref a,.int es.size 0,.int ep 0]}}):wpAny (model prog w) A (pyIter (.ref a)) Q E s:=by
 have f:=T.fit;have ty:s.TypeIs (.ref a) _:=⟨o,g,e.1⟩;refine wpAny_pyIter_slot ty F.slot_set_iter (ZY F.slot_set_iter ty Hn ?_ (F.args_set_iter_1 _));refine Za (Za (Ze (Ze ?_)));refine Za (Za (wpAny_setEntries_of g d f (Ze ?_)));refine Za ?_;refine Za (wpAny_setState_of g d f ?_);refine Za (Za (wpAny_askSetting (Ze (Ze ?_))))
 rw[if_neg (show ¬_ from λz=>by have z:(!(w.params.followText _)&&(!t.plain&&decide _))=true:=z;rw[T.pl]at z;simp at z)];refine Za (Ze (Za (wpAny_setEpoch_of g d f ?_)));exact Za (wpAny_newObj_type (Ze ⟨_,rfl,_,_,⟨_,Zi _ rfl,rfl⟩,iR.lookup,aF⟩))
theorem nt{t:SetTable}{i:Nat}{e:Int×Value}{Q:Ov->Shared->Prop}(h:j9 s.heap it a (bX w t.place.toList i) i es.size ep)(T:TB w t es.size)(g:s.heap.get? a=some o)(d:o.data=.set es ep (t))
  (k:(cL w a ep es)[i]?=some e) (aF:∀h',j9 h' it a (bX w t.place.toList (i+1)) (i+1) es.size ep->Heap.SameBut it s.heap h'->Q (some e.2) {s with heap:=h'}):wpAny (model prog w) A (pyNext (.ref it)) Q E s:=by
 obtain⟨O,G,c,D⟩:=id h;have f:=T.fit;have ty:s.TypeIs (.ref it) "set_iterator":=⟨O,G,c⟩
 have p:i<=es.size:=by have n:=(Zp.mp k).1;rw[(j7 w a ep es).length_eq,Zt]at n;omega
 unfold pyNext;refine Za (wpAny_attempt (Z1 ty iR (ZY iR ty y9 ?_ (y_ _))));refine Za (Ze ?_);refine Za (wpAny_fieldsOf G D ?_);dsimp only;refine Za (wpAny_setEntries_of g d f ?_);rw[if_neg (by simp)];refine Za ?_;rw[Int.toNat_natCast,Int.toNat_natCast,Int.toNat_natCast];refine j8 T g d p ?_;rw[k];refine Za (wpAny_setField G D (by simp) ?_);have j:=Heap.get?_update_self (Obj.mapFields (·.setIfInBounds 0 (rawInt (bX w t.place.toList (i+1):Nat)))) G (Obj.isFreed_of_fields (Obj.data_mapFields D _));have b:=Obj.data_mapFields D (·.setIfInBounds 0 (rawInt (bX w t.place.toList (i+1):Nat)));refine Za (wpAny_setField j b (by simp) ?_);have m:=Heap.get?_update_self (Obj.mapFields (·.setIfInBounds 1 (rawInt ((i:Int)+1)))) j (Obj.isFreed_of_fields (Obj.data_mapFields b _));have l:=Obj.data_mapFields b (·.setIfInBounds 1 (rawInt ((i:Int)+1)));refine Ze ⟨_,rfl,Ze (aF _ ⟨_,m,?_,?_⟩ ((Z6 _ it _).trans (Z6 _ it _)))⟩
 ·rw[Obj.cls_mapFields,Obj.cls_mapFields];exact c
 ·rw[l];simp[rawInt]
theorem tm{t:SetTable}{Q:Ov->Shared->Prop}(c:A.handled=none)(h:j9 s.heap it a (bX w t.place.toList es.size) es.size es.size ep)(T:TB w t es.size)(g:s.heap.get? a=some o)(d:o.data=.set es ep (t))
  (aF:∀h',Heap.ExtBut it s.heap h'->Q none {s with heap:=h'}):wpAny (model prog w) A (pyNext (.ref it)) Q E s:=by
 obtain⟨O,G,C,D⟩:=id h;have f:=T.fit;have ty:s.TypeIs (.ref it) "set_iterator":=⟨O,G,C⟩;unfold pyNext;refine Za (wpAny_attempt (Z1 (name:=Str.ofString "__next__") ty iR (ZY iR ty y9 ?_ (y_ _))));unfold Builtin.«set_iterator.__next__»;refine Za (Ze ?_);refine Za (wpAny_fieldsOf G D ?_);dsimp only;refine Za (wpAny_setEntries_of g d f ?_);rw[if_neg (by simp)];refine Za ?_;rw[Int.toNat_natCast,Int.toNat_natCast,Int.toNat_natCast];refine j8 T g d (Zg _) ?_;rw[List.getElem?_eq_none (by rw[(j7 w a ep es).length_eq,Zt];exact Zg _)];dsimp only[Option.map_none];refine Za (wpAny_setField G D (by simp) (Za ?_));simp only[newExc,newTuple];refine Za (wpAny_newObj_type (Za (m:=firstArgMember _ _) (wpAny_of_eq (a:=Value.none) (by first|rfl| (simp only[firstArgMember];rfl)) (wpAny_newObj_type ?_ (by size_fits)))) (by size_fits));simp only[raiseNew];refine Za (wpAny_handled ?_);rw[show A.in1.handled=none from c];refine Za (Ze (wpAny_throw ?_));exact Za (wpAny_isInstance (T:="StopIteration") (b:=true) ⟨_,Zi _ rfl,rfl⟩ isSubtype_stop (Ze (aF _ (((Z6 ..).extBut.push _).push _))))
theorem Walks.setC(calm:A.handled=none)(hne:a≠it){t:SetTable}(T:TB w t es.size)(d:o.data=.set es ep (t)):
  Walks prog w A it [it,a] [it] es.size (λi v=>∃e,(cL w a ep es)[i]?=some e/\v=e.2) (λi h=>j9 h it a (bX w t.place.toList i) i es.size ep/\h.get? a=some o) where
 sub:=λb hb=>by simp_all
 frame:=λi h h' st k=>by obtain⟨⟨oi,gi,ri⟩,g⟩:=st;exact⟨⟨_,k _ (by simp) _ gi,ri⟩,k a (by simp) o g⟩
 item:=λi s Q E hi st hQ=>by
  have hl:i<(cL w a ep es).length:=by rw[(j7 w a _ _).length_eq];exact hi
  refine nt st.1 T st.2 d (Zj hl) λh' hit' sb=>?_;refine hQ _ _ _ ⟨_,Zj _,rfl⟩ ⟨hit',sb.extBut a o hne st.2⟩ λb o hb e=>sb.extBut b o (λh=>hb (by simp[h])) e
 done:=λs Q E st hQ=>tm calm st.1 T st.2 d λh' he=>hQ _ _ λb o hb e=>he b o (λh=>hb (by simp[h])) e
 self:=λi s Q E st hQ=>by obtain⟨⟨oi,gi,ci,di⟩,_⟩:=st;have ty:s.TypeIs (.ref _) _:=⟨_,gi,ci⟩;exact wpAny_pyIter_slot ty y8 (ZY y8 ty Hl (Ze ⟨_,rfl,_,_,ty,iR.lookup,hQ⟩) (Hm _))
theorem Ho{t:SetTable}{Q:Lv->Shared->Prop}(C:A.handled=none)(T:TB w t es.size)(g:s.heap.get? a=some o)(u:o.ExactSet)(d:o.data=.set es ep t)(few:es.size<1000)
  (aF:∀(h':Heap) (tk:Nat) (vs:Lv),(∀b o,s.heap.get? b=some o->h'.get? b=some o)->vs.Perm (es.toList.map (·.2))->Q vs {s with heap:=h',toks:=tk}):wpAny (model prog w) A (collect (.ref a)) Q E s:=by
 have P:=Zl g;unfold collect;refine Za (wpAny_runValue (codeAny_builtin F.entry_proto_collect ?_));rw[Around.under_plainId F.plain_proto_collect];refine Za (m:=newList []) (wpAny_newObj_type (Ze ⟨plainId_quiet F.plain_list_iadd _,codeAny_builtin F.entry_list_iadd ?_⟩));rw[Around.under_plainId F.plain_list_iadd];generalize r:s.heap.objs.size=S;have z:(s.heap.push {cls:=.type "list",data:=.seq ([]:Lv).toArray}).get? S=some {cls:=.type "list",data:=.seq #[]}:=by rw[<-r];exact Zi _ rfl
 have G:(s.heap.push {cls:=.type "list",data:=.seq ([]:Lv).toArray}).get? a=some o:=Zb _ g;have J:∀b o,s.heap.get? b=some o->(s.heap.push {cls:=.type "list",data:=.seq ([]:Lv).toArray}).get? b=some o:=λ_ _ e=>Zb _ e;generalize s.heap.push {cls:=.type "list",data:=.seq ([]:Lv).toArray}=h at z G J⊢;have ty:Shared.TypeIs {s with heap:=h} (.ref a) "set":=⟨o,G,u.1⟩;show wpAny _ A.in1 (Builtin.List.listExtendWith (.ref S) (.ref a) (.ref S)) _ _ _;unfold Builtin.List.listExtendWith;refine Za (wpAny_typeOf ty ?_)
 rw[if_neg (by
  have:S≠a:=by rw[<-r];exact Nat.ne_of_gt P
  simp[Builtin.List.listSameRef,this])]
 refine Za (tj T G u d ?_);have D:S<h.objs.size:=Zl z;have x:a<h.objs.size:=Zl G;have K:∀b o,h.get? b=some o->(h.push {cls:=.type "set_iterator",data:=.fields #[.int 0 0,.int 0 0,.ref a,.int es.size 0,.int ep 0]}).get? b=some o:=λ_ _ e=>Zb _ e;have n:j9 (h.push {cls:=.type "set_iterator",data:=.fields #[.int 0 0,.int 0 0,.ref a,.int es.size 0,.int ep 0]}) h.objs.size a (bX w t.place.toList 0) 0 es.size ep:=⟨_,Zi _ rfl,rfl,rfl⟩;show wpAny _ A.in1 _ _ _ {s with heap:=h.push {cls:=.type "set_iterator",data:=.fields #[.int 0 0,.int 0 0,.ref a,.int es.size 0,.int ep 0]}};generalize h.push {cls:=.type "set_iterator",data:=.fields #[.int 0 0,.int 0 0,.ref a,.int es.size 0,.int ep 0]}=i at K n⊢;have f:Shared.TypeIs {s with heap:=i} (.ref a) "set":=⟨o,K a o G,u.1⟩;refine Za (Z5 ?_);unfold Builtin.List.listLengthHint;refine Za (wpAny_specialOf f F.slot_set_len.lookup ?_);have sp:splitId "set.__len__"=some ("set","__len__"):=by decide+kernel
 dsimp only;rw[sp];dsimp only;refine Za (wpAny_isInstance (b:=true) f (by rw[isSubtype_type];kernel_rfl) ?_);rw[if_neg (show ¬((!true)=true)by decide)];refine wpAny_ite ?_;rw[if_pos]
 rotate_left
 ·decide+kernel
 refine Za (wpAny_typeOf f (Ze ?_));refine wpAny_ite ?_;rw[if_pos]
 rotate_left
 ·decide+kernel
 refine Za (wpAny_rule ?_);have p:=K S _ z;refine Za (m:=Builtin.List.listTouch (.ref S)) (Za (m:=updateSeq S (·.push .none)) (wpAny_updateSeq p rfl ?_));have q:=Heap.get?_update_self (Obj.mapSeq (·.push Value.none)) p rfl;refine wpAny_updateSeq q rfl ?_;have B:=Heap.get?_update_self (Obj.mapSeq (·.pop)) q rfl;have L:∀b o,b≠S->i.get? b=some o->((i.update S (Obj.mapSeq (·.push Value.none))).update S (Obj.mapSeq (·.pop))).get? b=some o:=λb o V e=>(Heap.get?_update_other _ _ (Ne.symm V)).trans ((Heap.get?_update_other _ _ (Ne.symm V)).trans e);have k:a≠S:=by rw[<-r];exact Zx P
 have l:h.objs.size≠S:=Nat.ne_of_gt D;have out:S∉[h.objs.size,a]:=by simp only[Zn,ZZ,or_false,not_or];exact⟨Ne.symm l,Ne.symm k⟩
 have W:=(Walks.setC (A:=A.in1) (prog:=prog) (w:=w) (by simpa using C) (Zx x) (it:=h.objs.size) (o:=o) (ep:=ep) T d).toS;refine Ze ⟨plainId_quiet F.plain_extend_loop _,codeAny_extend_loopS W (by rw[sizeLine_eq];omega) S out _ es.size 0 _ _ _ rfl (Yj _) ⟨?_,L a o k (K a o G)⟩ B ?_ λs' c c' mv v I=>?_⟩
 ·obtain⟨X,gi,ri⟩:=n;exact⟨X,L _ X l gi,ri⟩
 ·exact ItemsOf.nil _
 ·refine Za (wpAny_load v (Ze ?_));obtain⟨h',g',Z,N,M⟩:=s';obtain⟨mh,mg,md,mo,_⟩:=mv;have eg:g'=s.gens:=mg;have ed:Z=s.drawn:=md;have eo:M=s.os:=mo;subst eg ed eo;refine aF h' N _ (λb O e=>?_) ?_
  ·have hb:=Zl (J b O e);have y:=Zl e;have U:b≠S:=by rw[<-r];exact Zx y
   refine mh b O ?_ (L b O U (K b O (J b O e)));simp only[Zn,ZZ,or_false,not_or];exact⟨U,Zx hb⟩
  ·have el:c.toList=(cL w a ep es).map (·.2):=by
    refine List.ext_getElem? λj=>?_;rw[ZQ,List.getElem?_map];have hz:(cL w a ep es).length=es.size:=by rw[(j7 w a ep es).length_eq,Zt]
    by_cases R:j<c.size
    ·obtain⟨e,h,i⟩:=I.2 j _ (Array.getElem?_eq_getElem R);rw[Array.getElem?_eq_getElem R,h,i];rfl
    ·have h0:=I.1;rw[Array.getElem?_eq_none (by omega),List.getElem?_eq_none (by omega)];rfl
   rw[el];exact(j7 w a ep es).map _
end Py
section
set_option autoImplicit false
namespace Srt
noncomputable def nu:Bool->Keyed->Array Keyed->Nat->Nat->Nat->StateT SortSt Sem (Option Nat):=s%PySem.Builtin.gallop
noncomputable def Hq:Array Keyed->Array Keyed->StateT SortSt Sem (Array Keyed):=s%PySem.Builtin.mergeLo
noncomputable def Hr:Array Keyed->Array Keyed->StateT SortSt Sem (Array Keyed):=s%PySem.Builtin.mergeHi
def dK:Keyed:=(Value.none,Value.none)
structure jk (prog:Program)(w:World)(A:Around)(s:Shared)(κ:SortKind)(P:Keyed->Prop)(K:Keyed->Nat):Prop where
 lt:∀x,P x->∀y,P y->∀(Q:Bool->Shared->Prop) (E:Vs),Q (decide (K x<K y)) s->wpAny (model prog w) A (keyLt' κ x.1 y.1) Q E s
noncomputable def R(K:Keyed->Nat)(xs:Array Keyed)(i:Nat):Nat:=K (xs.getD i dK)
section
variable {P:Keyed->Prop}{K:Keyed->Nat}
theorem nv{xs:Array Keyed}{i:Nat}(h:i<xs.size):xs.getD i dK=xs[i]:=by simp_all
theorem cm{xs:Array Keyed}{i:Nat}(h:i<xs.size):R K xs i=K xs[i]:=by unfold R;rw[nv h]
theorem j_(C:jk prog w A s κ P K){x y:Keyed}(a:P x)(b:P y)(H:kindOf st=κ){Q:Option Bool->SortSt->Prop}(h:Q (some (decide (K x<K y))) st):wpS (model prog w) A E s (lt' x y) Q st:=by rw[lt'_eq];refine Zo (wpS_get ?_);rw[H];refine Zo (wpS_lift (wpAny_attempt (C.lt x a y b _ _ ⟨rfl,?_⟩)));exact Zs h
theorem b5{xs:Array Keyed}{i:Nat}(hi:i<xs.size){Q:Keyed->SortSt->Prop}(h:Q xs[i] st):wpS (model prog w) A E s (elem' xs i) Q st:=by rw[elem'_eq,getElem?_pos _ i hi];exact Zs h
noncomputable def dU(K:Keyed->Nat)(left:Bool)(k:Keyed):Nat:=if left=true then K k else K k+1
theorem ka(C:jk prog w A s κ P K){left:Bool}{arr:Array Keyed}{i:Nat}(d:∀x∈arr.toList,P x)(c:P key)(H:kindOf st=κ)(hi:i<arr.size){Q:Option Bool->SortSt->Prop}(h:Q (some (decide (R K arr i<dU K left key))) st):
  wpS (model prog w) A E s (elem' arr i>>=λx=>if left=true then lt' x key else lt' key x>>=λr=>pure (r.map λb=> !b)) Q st:=by
 refine Zo (b5 hi ?_);have a:P arr[i]:=d _ (by simp);rw[cm hi]at h;cases left with
 |true=>exact j_ C a c H h
 |false=>
  refine Zo (j_ C c a H ?_);refine Zs ?_;have e:(!decide (K key<K arr[i]))=decide (K arr[i]<dU K false key):=by rw[<-decide_not];exact decide_eq_decide.mpr (by show ¬K _<K _↔K _<K _+1;lia)
  simp_all
theorem iS(C:jk prog w A s κ P K){left:Bool}{arr:Array Keyed}{base H:Nat}(y:∀x∈arr.toList,P x)(B:P key)(z:kindOf st=κ)(Z:base+n<=arr.size)(Y:H<n)
  (hs:∀i j,i<=j->j<n->R K arr (base+i)<=R K arr (base+j)) {Q:Option Nat->SortSt->Prop}
  (h:∀k,k<=n->(∀i,i<k->R K arr (base+i)<dU K left key)->(∀i,k<=i->i<n->dU K left key<=R K arr (base+i))->Q (some k) st):wpS (model prog w) A E s (nu left key arr base n H) Q st:=by
 have last:∀L a:Nat,L<=a->a<=n->(∀i,i<L->R K arr (base+i)<dU K left key)->(∀i,a<=i->i<n->dU K left key<=R K arr (base+i))->
   ∀{f:Nat->Option (Option Nat)×Nat×Nat->StateT SortSt Sem (ForInStep (Option (Option Nat)×Nat×Nat))} {g:Option (Option Nat)×Nat×Nat->StateT SortSt Sem (Option Nat)},
   (∀x L a,L<a->a<=n->∀v,(R K arr (base+(L+(a-L)/2))<dU K left key->v (.yield (none,L+(a-L)/2+1,a)) st)->(¬R K arr (base+(L+(a-L)/2))<dU K left key->v (.yield (none,L,L+(a-L)/2)) st)->wpS (model prog w) A E s (f x (none,L,a)) v st)->
   (∀x L a,a<=L->f x (none,L,a)=pure (.done (none,L,a)))->(∀L a,g (none,L,a)=pure (some a))->wpS (model prog w) A E s (forIn [:n] (none,L,a) f>>=g) Q st:=by
  intro L a r u N O f g U T V
  refine Zo (wpS_mono (Yd (I:=λx c S=>S=st/\∃L a,c=(none,L,a)/\L<=a/\a<=n/\a-L<=n-x/\(∀i,i<L->R K arr (base+i)<dU K left key)/\(∀i,a<=i->i<n->dU K left key<=R K arr (base+i)))
   (Q:=λc S=>S=st/\∃a,c=(none,a,a)/\a<=n/\(∀i,i<a->R K arr (base+i)<dU K left key)/\(∀i,a<=i->i<n->dU K left key<=R K arr (base+i))) ?_ ?_ ⟨rfl,L,a,rfl,r,u,by lia,N,O⟩) ?_)
  ·rintro x c S _ M ⟨rfl,L,a,rfl,m,q,p,d,e⟩;by_cases F:a<=L
   ·rw[T x L a F];have:L=a:=by lia
    subst this;exact Zs ⟨rfl,L,rfl,q,d,e⟩
   ·refine U x L a (by lia) q _ (λb=>⟨rfl,_,_,rfl,by lia,q,by lia,λi W=>?_,e⟩) (λb=>⟨rfl,_,_,rfl,by lia,by lia,by lia,d,λi r u=>?_⟩)
    ·have:=hs i (L+(a-L)/2) (by lia) (by lia);lia
    ·have:=hs (L+(a-L)/2) i (by lia) (by lia);lia
  ·rintro c S ⟨rfl,L,a,rfl,m,q,p,d,e⟩;have:L=a:=by lia
   subst this;exact⟨rfl,L,rfl,q,d,e⟩
  ·rintro c S ⟨rfl,a,rfl,q,d,e⟩;rw[V];exact Zs (h a q d e)
 refine Zo (ka C y B z (by lia) ?_);by_cases D:R K arr (base+H)<dU K left key
 ·rw[ZR D]
  refine Zo (wpS_mono (Yd (I:=λx c S=>S=st/\∃l o,c=(none,l,o)/\l<o/\x+1<=o/\H+l<n/\R K arr (base+(H+l))<dU K left key)
   (Q:=λc S=>S=st/\∃l o,c=(none,l,o)/\l<o/\H+l<n/\R K arr (base+(H+l))<dU K left key/\(n-H<=o\/(H+o<n/\dU K left key<=R K arr (base+(H+o))))) ?_ ?_ ⟨rfl,0,1,rfl,by lia,by lia,by lia,D⟩) ?_)
  ·rintro x c S _ M ⟨rfl,l,o,rfl,m,q,p,d⟩;dsimp only;by_cases t:o>=n-H
   ·rw[if_pos t];exact Zs ⟨rfl,l,o,rfl,m,p,d,.inl t⟩
   ·rw[if_neg t];refine Zo (ka C y B z (by lia) ?_);by_cases b:R K arr (base+(H+o))<dU K left key
    ·rw[ZR b];exact Zs ⟨rfl,o,2*o+1,rfl,by lia,by lia,by lia,b⟩
    ·rw[ZK b];exact Zs ⟨rfl,l,o,rfl,m,p,d,.inr ⟨by lia,by lia⟩⟩
  ·rintro c S ⟨rfl,l,o,rfl,m,q,p,d⟩;exact⟨rfl,l,o,rfl,m,p,d,.inl (by lia)⟩
  ·rintro c S ⟨rfl,l,o,rfl,m,p,d,e⟩;refine last (H+l+1) (H+min o (n-H)) (by lia) (by lia) (λi a=>?_) (λi r u=>?_) (λx L a r u v G J=>?_) (λx L a r=>if_pos r) (λL a=>rfl)
   ·have:=hs i (H+l) (by lia) (by lia);lia
   ·rcases e with e| ⟨e,X⟩
    ·lia
    ·have:=hs (H+o) i (by lia) (by lia);lia
   ·dsimp only;rw[if_neg (by lia)];refine Zo (ka C y B z (by lia) ?_);by_cases b:R K arr (base+(L+(a-L)/2))<dU K left key
    ·rw[ZR b];exact Zs (G b)
    ·rw[ZK b];exact Zs (J b)
 ·rw[ZK D]
  refine Zo (wpS_mono (Yd (I:=λx c S=>S=st/\∃l o,c=(none,l,o)/\l<o/\x+1<=o/\l<=H/\dU K left key<=R K arr (base+(H-l)))
   (Q:=λc S=>S=st/\∃l o,c=(none,l,o)/\l<o/\l<=H/\dU K left key<=R K arr (base+(H-l))/\(H+1<=o\/(o<=H/\R K arr (base+(H-o))<dU K left key))) ?_ ?_ ⟨rfl,0,1,rfl,by lia,by lia,by lia,by simpa using D⟩) ?_)
  ·rintro x c S _ M ⟨rfl,l,o,rfl,m,q,p,d⟩;dsimp only;by_cases t:o>=H+1
   ·rw[if_pos t];exact Zs ⟨rfl,l,o,rfl,m,p,d,.inl t⟩
   ·rw[if_neg t];refine Zo (ka C y B z (by lia) ?_);by_cases b:R K arr (base+(H-o))<dU K left key
    ·rw[ZR b];exact Zs ⟨rfl,l,o,rfl,m,p,d,.inr ⟨by lia,b⟩⟩
    ·rw[ZK b];exact Zs ⟨rfl,o,2*o+1,rfl,by lia,by lia,by lia,by lia⟩
  ·rintro c S ⟨rfl,l,o,rfl,m,q,p,d⟩;exact⟨rfl,l,o,rfl,m,p,d,.inl (by lia)⟩
  ·rintro c S ⟨rfl,l,o,rfl,m,p,d,e⟩;refine last (H+1-min o (H+1)) (H-l) (by lia) (by lia) (λi a=>?_) (λi r u=>?_) (λx L a r u v G J=>?_) (λx L a r=>if_pos r) (λL a=>rfl)
   ·rcases e with e| ⟨e,X⟩
    ·lia
    ·have:=hs i (H-o) (by lia) (by lia);lia
   ·have:=hs (H-l) i (by lia) (by lia);lia
   ·dsimp only;rw[if_neg (by lia)];refine Zo (ka C y B z (by lia) ?_);by_cases b:R K arr (base+(L+(a-L)/2))<dU K left key
    ·rw[ZR b];exact Zs (G b)
    ·rw[ZK b];exact Zs (J b)
end
end Srt
end
section
set_option autoImplicit false
namespace Srt
section
variable {K:Keyed->Nat}
def LS(K:Keyed->Nat)(l:List Keyed):Prop:=l.Pairwise λx y=>K x<=K y
def Good(K:Keyed->Nat)(t:List Keyed)(r:Array Keyed):Prop:=r.toList.Perm t/\LS K r.toList
structure MI (K:Keyed->Nat)(tot o ra rb:List Keyed):Prop where
 perm:(o++ra++rb).Perm tot
 so:LS K o
 sa:LS K ra
 sb:LS K rb
 oa:∀x∈o,∀y∈ra,K x<=K y
 ob:∀x∈o,∀y∈rb,K x<=K y
variable {tot o ra rb c:List Keyed}
theorem MI.stepA(h:MI K tot o (c++ra) rb)(b:∀x∈c,∀y∈rb,K x<=K y):MI K tot (o++c) ra rb:=by
 have s:=ZI.mp h.sa;refine⟨?_,ZI.mpr ⟨h.so,s.1,λx a y H=>h.oa x a y (ZD _ H)⟩,s.2.1,h.sb,λx a y H=>?_,λx a y H=>?_⟩
 ·have:=h.perm;simp_all
 ·rcases Zq.mp a with z|z
  ·exact h.oa x z y (Zu _ H)
  ·exact s.2.2 x z y H
 ·rcases Zq.mp a with z|z
  ·exact h.ob x z y H
  ·exact b x z y H
theorem MI.stepB(h:MI K tot o ra (c++rb))(b:∀x∈c,∀y∈ra,K x<=K y):MI K tot (o++c) ra rb:=by
 have s:=ZI.mp h.sb;refine⟨?_,ZI.mpr ⟨h.so,s.1,λx H y a=>h.ob x H y (ZD _ a)⟩,h.sa,s.2.1,λx H y a=>?_,λx H y a=>?_⟩
 ·refine List.Perm.trans ?_ h.perm
  grind
 ·rcases Zq.mp H with z|z
  ·exact h.oa x z y a
  simp_all
 ·rcases Zq.mp H with z|z
  ·exact h.ob x z y (Zu _ a)
  simp_all
theorem MI.done(h:MI K tot o ra []):(o++ra++[]).Perm tot/\LS K (o++ra++[]):=by refine⟨h.perm,?_⟩;rw[Yc];exact ZI.mpr ⟨h.so,h.sa,h.oa⟩
theorem MI.last(h:MI K tot o ra rb)(a:∀y∈rb,∀z∈ra,K y<=K z):(o++rb++ra).Perm tot/\LS K (o++rb++ra):=by
 refine⟨List.Perm.trans ?_ h.perm,ZI.mpr ⟨ZI.mpr ⟨h.so,h.sb,h.ob⟩,h.sa,λx b y H=>?_⟩⟩
 ·grind
 ·rcases Zq.mp b with z|z
  ·exact h.oa x z y H
  ·exact a x z y H
theorem nw{a:Array Keyed}{i:Nat}:(a.extract i).toList=a.toList.drop i:=by rw[Array.toList_extract];unfold List.extract;rw[List.take_of_length_le (by simp)]
theorem zc{a:Array Keyed}{i:Nat}:(a.extract i (i+k)).toList=(a.toList.drop i).take k:=by simp_all
theorem zd{a:Array Keyed}{i:Nat}(h:i<a.size):a.toList.drop i=a[i]::a.toList.drop (i+1):=by rw[List.drop_eq_getElem_cons _];rfl
theorem ze{a:Array Keyed}{i:Nat}:a.toList.drop i=(a.toList.drop i).take k++a.toList.drop (i+k):=by rw[<-List.drop_drop,List.take_append_drop]
theorem LS.mono{a:Array Keyed}(h:LS K a.toList){i j:Nat}(H:i<=j)(b:j<a.size):R K a i<=R K a j:=by
 rw[cm b,cm (show i<a.size by lia)];rcases Nat.lt_or_ge i j with z|z
 ·exact Ya.mp h i j _ _ z
 grind
theorem tq{a:Array Keyed}{i:Nat}{x:Keyed}(h:x∈(a.toList.drop i).take k):∃j,j<k/\i+j<a.size/\K x=R K a (i+j):=by obtain⟨j,H,rfl⟩:=Zy.mp h;simp at H;refine⟨j,by lia,by lia,?_⟩;rw[cm (show i+j<a.size by lia)];simp
theorem tr{a:Array Keyed}{i:Nat}{x:Keyed}(h:x∈a.toList.drop i):∃j,i<=j/\j<a.size/\K x=R K a j:=by obtain⟨j,H,rfl⟩:=Zy.mp h;simp at H;refine⟨i+j,by lia,by lia,?_⟩;rw[cm (show i+j<a.size by lia)];simp
end
noncomputable def bm(st:SortSt)(g:Nat):SortSt:=SortSt.mk' (kindOf st) (arrOf st) (pendingOf st) g (failedOf st)
section
variable {P:Keyed->Prop}{K:Keyed->Nat}
structure ML (K:Keyed->Nat)(a b out:Array Keyed)(ia ib:Nat):Prop where
 mi:MI K (a.toList++b.toList) out.toList (a.toList.drop ia) (b.toList.drop ib)
 la:ia+1<a.size
 lb:ib<b.size
variable {a b out:Array Keyed}{ia ib:Nat}
theorem ny(h:MI K (a.toList++b.toList) out.toList (a.toList.drop ia) (b.toList.drop ib))(e:ib=b.size):Good K (a.toList++b.toList) (out++a.extract ia++b.extract ib):=by have E:b.toList.drop ib=[]:=List.drop_eq_nil_of_le (by simp_all);unfold Good;rw[Z2,Z2,nw,nw,E];rw[E]at h;exact h.done
theorem nz(f:∀y∈b.toList,K y<R K a (a.size-1))(h:MI K (a.toList++b.toList) out.toList (a.toList.drop ia) (b.toList.drop ib))(e:ia+1=a.size):Good K (a.toList++b.toList) (out++b.extract ib++a.extract ia):=by
 unfold Good;rw[Z2,Z2,nw,nw];refine h.last λy g z H=>?_;obtain⟨j,c,d,E⟩:=tr (K:=K) H
 grind
theorem zf(h:MI K (a.toList++b.toList) out.toList (a.toList.drop ia) (b.toList.drop ib))(hi:ia<a.size)(H:∀y∈b.toList.drop ib,K a[ia]<=K y):MI K (a.toList++b.toList) (out.push a[ia]).toList (a.toList.drop (ia+1)) (b.toList.drop ib):=by
 rw[Array.toList_push];refine MI.stepA ?_ λx c y d=>?_
 ·rw[zd _]at h;exact h
 ·rw[ZM.mp c];exact H y d
theorem tu(h:MI K (a.toList++b.toList) out.toList (a.toList.drop ia) (b.toList.drop ib))(hi:ib<b.size)(H:∀y∈a.toList.drop ia,K b[ib]<=K y):MI K (a.toList++b.toList) (out.push b[ib]).toList (a.toList.drop ia) (b.toList.drop (ib+1)):=by
 rw[Array.toList_push];refine MI.stepB ?_ λx c y d=>?_
 ·rw[zd hi]at h;exact h
 ·rw[ZM.mp c];exact H y d
theorem zg(h:MI K (a.toList++b.toList) out.toList (a.toList.drop ia) (b.toList.drop ib))(c:∀i,i<k->∀y∈b.toList.drop ib,R K a (ia+i)<=K y):MI K (a.toList++b.toList) (out++a.extract ia (ia+k)).toList (a.toList.drop (ia+k)) (b.toList.drop ib):=by
 rw[Z2,zc];refine MI.stepA ?_ λx d y f=>?_
 ·rw[<-ze];exact h
 ·obtain⟨j,H,g,e⟩:=tq (K:=K) d;rw[e];exact c j H y f
theorem zh(h:MI K (a.toList++b.toList) out.toList (a.toList.drop ia) (b.toList.drop ib))(c:∀i,i<k->∀y∈a.toList.drop ia,R K b (ib+i)<=K y):MI K (a.toList++b.toList) (out++b.extract ib (ib+k)).toList (a.toList.drop ia) (b.toList.drop (ib+k)):=by
 rw[Z2,zc];refine MI.stepB ?_ λx d y f=>?_
 ·rw[<-ze];exact h
 ·obtain⟨j,H,g,e⟩:=tq (K:=K) d;rw[e];exact c j H y f
end
end Srt
end
section
set_option autoImplicit false
namespace Srt
abbrev Mq:=Option (Array Keyed)×Array Keyed×Nat×Nat×Nat×Nat×Nat
noncomputable def YG(K:Keyed->Nat)(a b:Array Keyed)(st:SortSt)(n:Nat)(c:Mq)(s:SortSt):Prop:=(∃g,s=bm st g)/\∃out j J mg ac B,c=(none,out,j,J,mg,ac,B)/\ML K a b out j J/\n<=j+J
noncomputable def DG(K:Keyed->Nat)(a b:Array Keyed)(st:SortSt)(n:Nat)(c:Mq)(s:SortSt):Prop:=(∃g,s=bm st g)/\((∃r C,c=(some r,C)/\Good K (a.toList++b.toList) r)\/∃out j J mg ac B,c=(none,out,j,J,mg,ac,B)/\ML K a b out j J/\n<=j+J)
def dV{a:Type}(D Y:a->SortSt->Prop):ForInStep a->SortSt->Prop:=λr s=>match r with
 | .done c=>D c s
 | .yield c=>Y c s
theorem zi{X:Type _}{p:X->Prop}{c:Prop}{d:Decidable c}{f:Nat->X}{a:Nat}(k:∀o,p (f o)):∀O,p (if c then f O else f a):=λO=>by split<;>exact k _
theorem zj{X:Type _}{p:X->Prop}{c:Prop}{D:Decidable c}{d:∀j,Decidable (c1 j)}{x1 f:Array Keyed->Nat->X}{C H:Array Keyed->Nat->Prop}(k:∀o j,C o j->p (f o j))(a:¬c->C o2 j2)(h1:∀o j,H o j->c1 j->p (x1 o j))(b:∀o j,H o j->¬c1 j->C o j):
  ∀J O,H O J->p (if c then(if c1 J then x1 O J else f O J)else f o2 j2):=λJ O h=>by
 grind
theorem zk{X:Type _}{p:X->Prop}{c:Prop}{a:Nat->Prop}{b:Decidable c}{d:∀j,Decidable (c1 j)}{D:∀j,Decidable (a j)}{x1 x2 f:Array Keyed->Nat->X}{C H:Array Keyed->Nat->Prop}(k:∀o j,C o j->p (f o j))(e:¬c->C o2 j2)(h1:∀o j,H o j->c1 j->p (x1 o j))(g:∀o j,H o j->¬c1 j->¬a j)(i:∀o j,H o j->¬c1 j->C o j):
  ∀J O,H O J->p (if c then(if c1 J then x1 O J else if a J then x2 O J else f O J)else f o2 j2):=λJ O h=>by
 grind
section
variable {P:Keyed->Prop}{K:Keyed->Nat}{a b:Array Keyed}
theorem Hs(C:jk prog w A s κ P K)(hk:kindOf st=κ)(ha:∀x∈a.toList,P x)(hb:∀x∈b.toList,P x)(sa:LS K a.toList)(sb:LS K b.toList)(a1:1<=a.size)(b1:1<=b.size)
  (h0:R K b 0<R K a 0) (hl:∀y∈b.toList,K y<R K a (a.size-1)) {Q:Array Keyed->SortSt->Prop} (h:∀r g,Good K (a.toList++b.toList) r->Q r (bm st g)):wpS (model prog w) A E s (Hq a b) Q st:=by
 have hB:∀{i:Nat} (u:i<b.size),R K b i=K b[i]:=λu=>cm u;have hA:∀{i:Nat} (u:i<a.size),R K a i=K a[i]:=λu=>cm u;have pA:∀{i:Nat} (u:i<a.size),P a[i]:=λu=>ha _ (by simp);have pB:∀{i:Nat} (u:i<b.size),P b[i]:=λu=>hb _ (by simp);have lA:∀{i j:Nat},i<=j->j<a.size->R K a i<=R K a j:=λn t=>sa.mono n t;have lB:∀{i j:Nat},i<=j->j<b.size->R K b i<=R K b j:=λn t=>sb.mono n t
 have dA:∀{i:Nat} {c:Nat},(∀j,i<=j->j<a.size->c<=R K a j)->∀y∈a.toList.drop i,c<=K y:=λhc y F=>by obtain⟨j,n,t,e⟩:=tr (K:=K) F;rw[e];exact hc j n t
 have dB:∀{i:Nat} {c:Nat},(∀j,i<=j->j<b.size->c<=R K b j)->∀y∈b.toList.drop i,c<=K y:=λhc y F=>by obtain⟨j,n,t,e⟩:=tr (K:=K) F;rw[e];exact hc j n t
 have hlb:∀{i:Nat} (u:i<b.size),R K b i<R K a (a.size-1):=λu=>by rw[hB u];exact hl _ (by simp)
 have m0:MI K (a.toList++b.toList) #[b[0]].toList (a.toList.drop 0) (b.toList.drop 1):=by have m:MI K (a.toList++b.toList) (#[]:Array Keyed).toList (a.toList.drop 0) (b.toList.drop 0):=⟨.refl _,.nil,sa,sb,λx hx=>by simp at hx,λx hx=>by simp at hx⟩;exact tu m (by lia) (dA λj n t=>by rw[<-hB];have:=lA (i:=0) (j:=j) (by lia) t;lia)
 have kg:∀g,kindOf (bm st g)=κ:=λg=>hk;have gg:∀g g',bm (bm st g) g'=bm st g':=λ_ _=>rfl;refine Zo (wpS_lift (wpAny_rule ⟨rfl,?_⟩));refine Zo (b5 (by lia) ?_);dsimp only;by_cases e1:1=b.size
 ·rw[if_pos (by simpa using e1)];exact Zs (h _ (gallopOf st) (ny m0 e1))
 rw[if_neg (by simpa using e1)];by_cases e2:0+1=a.size
 ·rw[if_pos (by simpa using e2)];exact Zs (h _ (gallopOf st) (nz hl m0 e2))
 rw[if_neg (by simpa using e2)];refine Zo (wpS_get ?_)
 refine Zo (wpS_mono (Yd (I:=λx c S=>(∃g,S=bm st g)/\∃out U V mg,c=(none,out,U,V,mg)/\ML K a b out U V/\x<=U+V)
  (Q:=λc S=>(∃g,S=bm st g)/\∃r X,c=(some r,X)/\Good K (a.toList++b.toList) r) ?_ ?_ ⟨⟨gallopOf st,rfl⟩,_,_,_,_,rfl,⟨m0,by lia,by lia⟩,by lia⟩) ?_)
 case _=>
  rintro x c S _ hx ⟨⟨g,rfl⟩,out,U,V,mg,rfl,m,hp⟩;dsimp only
  refine Zo (wpS_mono (Yd (I:=λy c S=>S=bm st g/\∃out d f ac T,c=(none,out,d,f,ac,T)/\ML K a b out d f/\U+V+y<=d+f)
   (Q:=λc S=>S=bm st g/\((∃r X,c=(some r,X)/\Good K (a.toList++b.toList) r)\/∃out d f ac T,c=(none,out,d,f,ac,T)/\ML K a b out d f/\U+V+1<=d+f)) ?_ ?_ ⟨rfl,_,_,_,_,_,rfl,m,by lia⟩) ?_)
  ·rintro y c S _ F ⟨rfl,out,d,f,ac,T,rfl,m,hp'⟩;have W:=m.la;have L:=m.lb;dsimp only;refine Zo (b5 L ?_);refine Zo (b5 (by lia) ?_);refine Zo (j_ C (pB L) (pA (by lia)) (kg g) ?_);by_cases hw:K b[f]<K a[d]
   ·rw[ZR hw];refine Zo (b5 L ?_);have B:=tu m.mi L (dA λj n t=>by have:=lA n t;rw[hA (show d<a.size by lia)]at this;lia);by_cases e:f+1=b.size
    ·rw[if_pos (by simpa using e)];exact Zs ⟨rfl,.inl ⟨_,_,rfl,ny B e⟩⟩
    ·rw[if_neg (by simpa using e)];by_cases N:T+1>=mg
     ·rw[if_pos N];exact Zs ⟨rfl,.inr ⟨_,_,_,_,_,rfl,⟨B,W,by lia⟩,by lia⟩⟩
     ·rw[if_neg N];exact Zs ⟨rfl,_,_,_,_,_,rfl,⟨B,W,by lia⟩,by lia⟩
   ·rw[ZK hw];refine Zo (b5 (by lia) ?_);have B:=zf m.mi (show d<a.size by lia) (dB λj n t=>by have:=lB n t;rw[hB L]at this;lia);by_cases e:d+1+1=a.size
    ·rw[if_pos (by simpa using e)];exact Zs ⟨rfl,.inl ⟨_,_,rfl,nz hl B e⟩⟩
    ·rw[if_neg (by simpa using e)];by_cases N:ac+1>=mg
     ·rw[if_pos N];exact Zs ⟨rfl,.inr ⟨_,_,_,_,_,rfl,⟨B,by lia,L⟩,by lia⟩⟩
     ·rw[if_neg N];exact Zs ⟨rfl,_,_,_,_,_,rfl,⟨B,by lia,L⟩,by lia⟩
  ·rintro c S ⟨rfl,out,d,f,ac,T,rfl,m,hp'⟩;have W:=m.la;have L:=m.lb;exfalso;lia
  ·rintro c S ⟨rfl,⟨r,X,rfl,gd⟩| ⟨out,d,f,ac,T,rfl,m,hp'⟩⟩
   ·exact Zs ⟨⟨g,rfl⟩,r,_,rfl,gd⟩
   ·refine Zo (wpS_lift (wpAny_rule ⟨rfl,?_⟩));refine Zo (wpS_mono (Yd (I:=λy=>YG K a b st (d+f+y)) (Q:=DG K a b st (d+f)) ?_ ?_ ⟨⟨g,rfl⟩,_,_,_,_,_,_,rfl,m,by dsimp only;lia⟩) ?_)
    ·rintro y c S _ F ⟨⟨g1,rfl⟩,out,J,l,G,Y,Z,rfl,m,hq⟩;have W:=m.la;have L:=m.lb;dsimp only;show wpS (model prog w) A E s _ (dV (DG K a b st (d+f)) (YG K a b st (d+f+(y+1)))) (bm st g1);generalize G-1=q;revert q;refine zi (p:=λm=>wpS (model prog w) A E s m (dV (DG K a b st (d+f)) (YG K a b st (d+f+(y+1)))) (bm st g1)) λM=>?_;refine Zo (wpS_modify (show wpS _ _ _ _ _ _ (bm st M)from ?_));refine Zo (b5 L ?_);refine Zo (iS C ha (pB L) (kg M) (by lia) (by lia) (λi j n t=>lA (by lia) (by lia)) λk k1 k2 k3=>?_);have t1:dU K false b[l]=R K b l+1:=by rw[hB L];rfl
     rw[t1]at k2 k3
     have kn:k<a.size-J:=by
      rcases Nat.lt_or_ge k (a.size-J)with z|z
      ·exact z
      ·have n:=k2 (a.size-J-1) (by lia);have e:=hlb L;rw[show J+(a.size-J-1)=a.size-1 by lia]at n;lia
     have z0:∀j,J+k<=j->j<a.size->R K b l<=R K a j:=λj n t=>by have:=k3 (j-J) (by lia) (by lia);rw[show J+(j-J)=j by lia]at this;lia
     have mk:=zg m.mi (k:=k) λi u y F=>by have n:=k2 i u;have:=dB (i:=l) (c:=R K b l) (λj n t=>lB n t) y F;lia
     dsimp only;have H1:MI K (a.toList++b.toList) (out++a.extract J (J+k)).toList (a.toList.drop (J+k)) (b.toList.drop l)/\J<=J+k/\J+k<a.size/\∀j,J+k<=j->j<a.size->R K b l<=R K a j:=⟨mk,by lia,by lia,z0⟩;have c0:¬k>0->ML K a b out J l/\d+f+y<=J+l/\∀i,J<=i->i<a.size->R K b l<=R K a i:=λhk0=>⟨m,hq,λj n t=>z0 j (by lia) t⟩;revert H1;generalize J+k=ja1;generalize out++a.extract J ja1=O;revert O ja1;refine zk (p:=λm=>wpS (model prog w) A E s m (dV (DG K a b st (d+f)) (YG K a b st (d+f+(y+1)))) (bm st M)) (C:=λo j=>ML K a b o j l/\d+f+y<=j+l/\∀i,j<=i->i<a.size->R K b l<=R K a i) (H:=λo j=>MI K (a.toList++b.toList) o.toList (a.toList.drop j) (b.toList.drop l)/\J<=j/\j<a.size/\∀i,j<=i->i<a.size->R K b l<=R K a i) (λout J hC=>?_) c0 (λo j v e=>?_) (λo j v e=>?_) (λo j v e=>?_)
     rotate_left
     ·exact Zs ⟨⟨M,rfl⟩,.inl ⟨_,_,rfl,nz hl v.1 (by simpa using e)⟩⟩
     ·have:=v.2.2.1;simp;lia
     ·exact⟨⟨v.1,by have:=v.2.2.1;simp at e;lia,L⟩,by have:=v.2.1;lia,v.2.2.2⟩
     clear mk z0 kn k2 k3 hq m;obtain⟨m,hq,hge⟩:=hC;have W:=m.la;refine Zo (b5 L ?_);have B:=tu m.mi L (dA λj n t=>by rw[<-hB L];exact hge j n t);by_cases e:l+1=b.size
     ·rw[if_pos (by simpa using e)];exact Zs ⟨⟨M,rfl⟩,.inl ⟨_,_,rfl,ny B e⟩⟩
     rw[if_neg (by simpa using e)];refine Zo (b5 (show J<a.size by lia) ?_);refine Zo (iS C hb (pA (show J<a.size by lia)) (kg M) (by lia) (by lia) (λi j n t=>lB (by lia) (by lia)) λD k1' k2' k3'=>?_);have t2:dU K true a[J]=R K a J:=by rw[hA (show J<a.size by lia)];rfl
     rw[t2]at k2' k3'
     have z1:∀j,l+1+D<=j->j<b.size->R K a J<=R K b j:=λj n t=>by
      have:=k3' (j-(l+1)) (by lia) (by lia)
      rwa [show l+1+(j-(l+1))=j by lia]at this
     have mk:=zh B (k:=D) λi u y F=>by have n:=k2' i u;have:=dA (i:=J) (c:=R K a J) (λj n t=>lA n t) y F;lia
     dsimp only;have H2:MI K (a.toList++b.toList) (out.push b[l]++b.extract (l+1) (l+1+D)).toList (a.toList.drop J) (b.toList.drop (l+1+D))/\l+1+D<=b.size/\l+1<=l+1+D/\∀j,l+1+D<=j->j<b.size->R K a J<=R K b j:=⟨mk,by lia,by lia,z1⟩;have c0:¬D>0->MI K (a.toList++b.toList) (out.push b[l]).toList (a.toList.drop J) (b.toList.drop (l+1))/\l+1<b.size/\l+1<=l+1/\∀i,l+1<=i->i<b.size->R K a J<=R K b i:=λhk0=>⟨B,by lia,by lia,λj n t=>z1 j (by lia) t⟩;revert H2;generalize l+1+D=jb1;generalize out.push b[l]++b.extract (l+1) jb1=O;revert O jb1;refine zj (p:=λm=>wpS (model prog w) A E s m (dV (DG K a b st (d+f)) (YG K a b st (d+f+(y+1)))) (bm st M)) (C:=λo j=>MI K (a.toList++b.toList) o.toList (a.toList.drop J) (b.toList.drop j)/\j<b.size/\l+1<=j/\∀i,j<=i->i<b.size->R K a J<=R K b i) (H:=λo j=>MI K (a.toList++b.toList) o.toList (a.toList.drop J) (b.toList.drop j)/\j<=b.size/\l+1<=j/\∀i,j<=i->i<b.size->R K a J<=R K b i) (λout jb' hC=>?_) c0 (λo j v e'=>?_) (λo j v e'=>?_)
     rotate_left
     ·exact Zs ⟨⟨M,rfl⟩,.inl ⟨_,_,rfl,ny v.1 (by simpa using e')⟩⟩
     ·exact⟨v.1,by have:=v.2.1;simp at e';lia,v.2.2.1,v.2.2.2⟩
     obtain⟨m2,hb',hq',hge'⟩:=hC;refine Zo (b5 (show J<a.size by lia) ?_);have m3:=zf m2 (show J<a.size by lia) (dB λj n t=>by rw[<-hA (show J<a.size by lia)];exact hge' j n t);by_cases e:J+1+1=a.size
     ·rw[if_pos (by simpa using e)];exact Zs ⟨⟨M,rfl⟩,.inl ⟨_,_,rfl,nz hl m3 e⟩⟩
     rw[if_neg (by simpa using e)];by_cases N:(decide (k<7)&&decide (D<7))=true
     ·rw[if_pos N];exact Zs ⟨⟨M,rfl⟩,.inr ⟨_,_,_,_,_,_,rfl,⟨m3,by lia,hb'⟩,by lia⟩⟩
     ·rw[if_neg N];exact Zs ⟨⟨M,rfl⟩,_,_,_,_,_,_,rfl,⟨m3,by lia,hb'⟩,by lia⟩
    ·rintro c S ⟨⟨g1,rfl⟩,out,J,l,G,Y,Z,rfl,m,hq⟩;have W:=m.la;have L:=m.lb;exfalso;lia
    ·rintro c S ⟨⟨g1,rfl⟩,⟨r,X,rfl,gd⟩| ⟨out,J,l,G,Y,Z,rfl,m,hq⟩⟩
     ·exact Zs ⟨⟨g1,rfl⟩,r,_,rfl,gd⟩
     ·refine Zo (wpS_modify (?_:wpS _ _ _ _ _ _ (bm st (G+1))));exact Zs ⟨⟨_,rfl⟩,_,_,_,_,rfl,m,by dsimp only;lia⟩
 case _=>rintro c S ⟨⟨g,rfl⟩,out,U,V,mg,rfl,m,hp⟩;have W:=m.la;have L:=m.lb;exfalso;lia
 case _=>rintro c S ⟨⟨g,rfl⟩,r,X,rfl,gd⟩;exact Zs (h r g gd)
end
end Srt
end
section
set_option autoImplicit false
namespace Srt
section
variable {K:Keyed->Nat}
structure MH (K:Keyed->Nat)(tot ra rb o:List Keyed):Prop where
 perm:(ra++rb++o).Perm tot
 sa:LS K ra
 sb:LS K rb
 so:LS K o
 ao:∀x∈ra,∀y∈o,K x<=K y
 bo:∀x∈rb,∀y∈o,K x<=K y
variable {tot o ra rb c:List Keyed}
theorem MH.stepA(h:MH K tot (ra++c) rb o)(b:∀x∈rb,∀y∈c,K x<=K y):MH K tot ra rb (c++o):=by
 have s:=ZI.mp h.sa;refine⟨?_,s.1,h.sb,ZI.mpr ⟨s.2.1,h.so,λx H y a=>h.ao x (Zu _ H) y a⟩,λx H y a=>?_,λx H y a=>?_⟩
 ·refine List.Perm.trans ?_ h.perm
  grind
 ·rcases Zq.mp a with z|z
  ·simp_all
  ·exact h.ao x (ZD _ H) y z
 ·rcases Zq.mp a with z|z
  ·simp_all
  ·exact h.bo x H y z
theorem MH.stepB(h:MH K tot ra (rb++c) o)(b:∀x∈ra,∀y∈c,K x<=K y):MH K tot ra rb (c++o):=by
 have s:=ZI.mp h.sb;refine⟨?_,h.sa,s.1,ZI.mpr ⟨s.2.1,h.so,λx H y a=>h.bo x (Zu _ H) y a⟩,λx H y a=>?_,λx H y a=>?_⟩
 ·have:=h.perm;simp_all
 ·rcases Zq.mp a with z|z
  ·exact b x H y z
  ·exact h.ao x H y z
 ·rcases Zq.mp a with z|z
  ·exact s.2.2 x H y z
  ·exact h.bo x (ZD _ H) y z
theorem zl{a:Array Keyed}{i:Nat}(h:i<a.size):a.toList.take (i+1)=a.toList.take i++[a[i]]:=by rw[List.take_succ,Zj _];rfl
theorem nA{a:Array Keyed}{i j:Nat}(h:i<=j):a.toList.take j=a.toList.take i++(a.extract i j).toList:=by rw[Array.toList_extract];rw[<-List.take_add,show i+(j-i)=j by lia]
theorem nB{a:Array Keyed}{j:Nat}:(a.extract 0 j).toList=a.toList.take j:=by simp_all
theorem tw{a:Array Keyed}{i:Nat}{x:Keyed}(h:x∈a.toList.take i):∃j,j<i/\j<a.size/\K x=R K a j:=by obtain⟨j,H,rfl⟩:=Zy.mp h;simp at H;refine⟨j,by lia,by lia,?_⟩;rw[cm (show j<a.size by lia)];simp
theorem tx{a:Array Keyed}{i j:Nat}{x:Keyed}(h:x∈(a.extract i j).toList):∃n,i<=n/\n<j/\n<a.size/\K x=R K a n:=by rw[Array.toList_extract]at h;obtain⟨n,b,H,e⟩:=tq h;exact⟨_,by lia,by lia,H,e⟩
end
section
variable {P:Keyed->Prop}{K:Keyed->Nat}
abbrev MT(K:Keyed->Nat)(a b out:Array Keyed)(na nb:Nat):Prop:=MH K (a.toList++b.toList) (a.toList.take na) (b.toList.take nb) out.toList.reverse
structure MR (K:Keyed->Nat)(a b out:Array Keyed)(na nb:Nat):Prop where
 mt:MT K a b out na nb
 la:1<=na
 lb:2<=nb
 za:na<=a.size
 zb:nb<=b.size
variable {a b out:Array Keyed}{na nb:Nat}
theorem nC(h:MT K a b out na nb)(e:na=0):Good K (a.toList++b.toList) (a.extract 0 na++b.extract 0 nb++out.reverse):=by unfold Good;rw[Z2,Z2,nB,nB,Array.toList_reverse];refine⟨h.perm,?_⟩;subst e;exact ZI.mpr ⟨h.sb,h.so,h.bo⟩
theorem nD(d:∀y∈a.toList,R K b 0<=K y)(h:MT K a b out na nb)(e:nb=1):Good K (a.toList++b.toList) (b.extract 0 nb++a.extract 0 na++out.reverse):=by
 unfold Good;rw[Z2,Z2,nB,nB,Array.toList_reverse];refine⟨List.Perm.trans (List.Perm.append_right _ List.perm_append_comm) h.perm,ZI.mpr ⟨ZI.mpr ⟨h.sb,h.sa,λx H y c=>?_⟩,h.so,λx H y c=>?_⟩⟩
 ·obtain⟨j,f,g,E⟩:=tw (K:=K) H
  grind
 ·rcases Zq.mp H with z|z
  ·exact h.bo x z y c
  ·exact h.ao x z y c
theorem tz(h:MT K a b out (na+1) nb)(hi:na<a.size)(H:∀x∈b.toList.take nb,K x<=R K a na):MT K a b (out.push a[na]) na nb:=by unfold MT at h⊢;rw[Array.toList_push,List.reverse_append];rw[zl _]at h;exact h.stepA λx c y d=>by rw[ZM.mp d,<-cm (K:=K) _];exact H x c
theorem zm(h:MT K a b out na (nb+1))(hi:nb<b.size)(H:∀x∈a.toList.take na,K x<=R K b nb):MT K a b (out.push b[nb]) na nb:=by unfold MT at h⊢;rw[Array.toList_push,List.reverse_append];rw[zl _]at h;exact h.stepB λx c y d=>by rw[ZM.mp d,<-cm (K:=K) _];exact H x c
theorem zn{t:Nat}(h:MT K a b out na nb)(g:t<=na)(f:∀i,t<=i->i<na->i<a.size->∀x∈b.toList.take nb,K x<=R K a i):MT K a b (out++(a.extract t na).reverse) t nb:=by unfold MT at h⊢;rw[Z2,Array.toList_reverse,List.reverse_append,List.reverse_reverse];rw[nA g]at h;exact h.stepA λx j y k=>by obtain⟨n,H,c,d,e⟩:=tx (K:=K) k;rw[e];exact f n H c d x j
theorem zo{t:Nat}(h:MT K a b out na nb)(g:t<=nb)(f:∀i,t<=i->i<nb->i<b.size->∀x∈a.toList.take na,K x<=R K b i):MT K a b (out++(b.extract t nb).reverse) na t:=by unfold MT at h⊢;rw[Z2,Array.toList_reverse,List.reverse_append,List.reverse_reverse];rw[nA g]at h;exact h.stepB λx j y k=>by obtain⟨n,H,c,d,e⟩:=tx (K:=K) k;rw[e];exact f n H c d x j
abbrev Mr:=Option (Array Keyed)×Nat×Nat×Array Keyed×Nat×Nat×Nat
noncomputable def YH(K:Keyed->Nat)(a b:Array Keyed)(st:SortSt)(n:Nat)(c:Mr)(s:SortSt):Prop:=(∃g,s=bm st g)/\∃out j J mg ac B,c=(none,j,J,out,mg,ac,B)/\MR K a b out j J/\n+j+J<=a.size+b.size
noncomputable def DH(K:Keyed->Nat)(a b:Array Keyed)(st:SortSt)(n:Nat)(c:Mr)(s:SortSt):Prop:=(∃g,s=bm st g)/\((∃r C,c=(some r,C)/\Good K (a.toList++b.toList) r)\/∃out j J mg ac B,c=(none,j,J,out,mg,ac,B)/\MR K a b out j J/\n+j+J<=a.size+b.size)
theorem Ht(C:jk prog w A s κ P K)(hk:kindOf st=κ)(ha:∀x∈a.toList,P x)(hb:∀x∈b.toList,P x)(sa:LS K a.toList)(sb:LS K b.toList)(a1:1<=a.size)(b1:1<=b.size)
  (h0:R K b 0<R K a 0) (hl:∀y∈b.toList,K y<R K a (a.size-1)) {Q:Array Keyed->SortSt->Prop} (h:∀r g,Good K (a.toList++b.toList) r->Q r (bm st g)):wpS (model prog w) A E s (Hr a b) Q st:=by
 have hB:∀{i:Nat} (D:i<b.size),R K b i=K b[i]:=λD=>cm D;have hA:∀{i:Nat} (D:i<a.size),R K a i=K a[i]:=λD=>cm D;have pA:∀{i:Nat} (D:i<a.size),P a[i]:=λD=>ha _ (by simp);have pB:∀{i:Nat} (D:i<b.size),P b[i]:=λD=>hb _ (by simp);have lA:∀{i j:Nat},i<=j->j<a.size->R K a i<=R K a j:=λf u=>sa.mono f u;have lB:∀{i j:Nat},i<=j->j<b.size->R K b i<=R K b j:=λf u=>sb.mono f u
 have dA:∀{i:Nat} {c:Nat},(∀j,j<i->j<a.size->R K a j<=c)->∀y∈a.toList.take i,K y<=c:=λhc y F=>by obtain⟨j,f,u,e⟩:=tw (K:=K) F;rw[e];exact hc j f u
 have dB:∀{i:Nat} {c:Nat},(∀j,j<i->j<b.size->R K b j<=c)->∀y∈b.toList.take i,K y<=c:=λhc y F=>by obtain⟨j,f,u,e⟩:=tw (K:=K) F;rw[e];exact hc j f u
 have hf:∀y∈a.toList,R K b 0<=K y:=λy F=>by
  obtain⟨j,hj,rfl⟩:=Zy.mp F;have hj':j<a.size:=by simpa using hj
  have:=lA (i:=0) (j:=j) (by lia) hj';rw[hA hj']at this;have e:a.toList[j]=a[j]:=by simp
  rw[e];lia
 obtain⟨v,hna⟩:∃n,a.size=n+1:=⟨a.size-1,by lia⟩;have ea:a.size-1=v:=by lia
 have m0:MT K a b #[a[v]] v b.size:=by
  have m:MT K a b #[] (v+1) b.size:=by
   refine⟨?_,?_,?_,.nil,λ_ _ y F=>by simp at F,λ_ _ y F=>by simp at F⟩
   ·rw[List.take_of_length_le (by simp;lia),List.take_of_length_le (by simp)];simp
   ·rw[List.take_of_length_le (by simp;lia)];exact sa
   ·rw[List.take_of_length_le (by simp)];exact sb
  exact tz m (by lia) (dB λj f u=>by have:=hl b[j] (by simp);rw[hB u];rw[ea]at this;lia)
 have kg:∀g,kindOf (bm st g)=κ:=λg=>hk;refine Zo (wpS_lift (wpAny_rule ⟨rfl,?_⟩));refine Zo (b5 (by lia) ?_);simp only[ea];by_cases e1:v=0
 ·rw[if_pos (by simpa using e1)];exact Zs (h _ (gallopOf st) (nC m0 e1))
 rw[if_neg (by simpa using e1)];by_cases e2:b.size=1
 ·rw[if_pos (by simpa using e2)];exact Zs (h _ (gallopOf st) (nD hf m0 e2))
 rw[if_neg (by simpa using e2)];refine Zo (wpS_get ?_)
 refine Zo (wpS_mono (Yd (I:=λx c S=>(∃g,S=bm st g)/\∃out na nb mg,c=(none,na,nb,out,mg)/\MR K a b out na nb/\x+na+nb<=a.size+b.size)
  (Q:=λc S=>(∃g,S=bm st g)/\∃r Z,c=(some r,Z)/\Good K (a.toList++b.toList) r) ?_ ?_ ⟨⟨gallopOf st,rfl⟩, #[a[v]],v,b.size,_,rfl,⟨m0,by lia,by lia,by lia,Zg _⟩,(by lia:0+v+b.size<=a.size+b.size)⟩) ?_)
 case _=>
  rintro x c S _ hx ⟨⟨g,rfl⟩,out,na,nb,mg,rfl,m,hp⟩;dsimp only
  refine Zo (wpS_mono (Yd (I:=λy c S=>S=bm st g/\∃out N d ac X,c=(none,N,d,out,ac,X)/\MR K a b out N d/\y+N+d<=na+nb)
   (Q:=λc S=>S=bm st g/\((∃r Z,c=(some r,Z)/\Good K (a.toList++b.toList) r)\/∃out N d ac X,c=(none,N,d,out,ac,X)/\MR K a b out N d/\1+N+d<=na+nb)) ?_ ?_ ⟨rfl,_,_,_,_,_,rfl,m,by lia⟩) ?_)
  ·rintro y c S _ F ⟨rfl,out,N,d,ac,X,rfl,m,hp'⟩;obtain⟨i,rfl⟩:∃i,N=i+1:=⟨N-1,by have:=m.la;lia⟩;obtain⟨j,rfl⟩:∃j,d=j+1:=⟨d-1,by have:=m.lb;lia⟩;have Y:=m.lb;have za:=m.za;have zb:=m.zb;dsimp only;simp only[Nat.add_sub_cancel];refine Zo (b5 (show j<b.size by lia) ?_);refine Zo (b5 (show i<a.size by lia) ?_);refine Zo (j_ C (pB (by lia)) (pA (by lia)) (kg g) ?_);rw[<-hA (show i<a.size by lia),<-hB (show j<b.size by lia)];by_cases hw:R K b j<R K a i
   ·rw[ZR hw];refine Zo (b5 (show i<a.size by lia) ?_);have G:=tz m.mt (by lia) (dB λn f u=>by have:=lB (show n<=j by lia) (by lia);lia);by_cases e:i=0
    ·rw[if_pos (by simpa using e)];exact Zs ⟨rfl,.inl ⟨_,_,rfl,nC G e⟩⟩
    ·rw[if_neg (by simpa using e)];by_cases W:ac+1>=mg
     ·rw[if_pos W];exact Zs ⟨rfl,.inr ⟨_,_,_,_,_,rfl,⟨G,by lia,Y,by lia,zb⟩,by lia⟩⟩
     ·rw[if_neg W];exact Zs ⟨rfl,_,_,_,_,_,rfl,⟨G,by lia,Y,by lia,zb⟩,by lia⟩
   ·rw[ZK hw];refine Zo (b5 (show j<b.size by lia) ?_);have G:=zm m.mt (by lia) (dA λn f u=>by have:=lA (show n<=i by lia) (by lia);lia);by_cases e:j=1
    ·rw[if_pos (by simpa using e)];exact Zs ⟨rfl,.inl ⟨_,_,rfl,nD hf G e⟩⟩
    ·rw[if_neg (by simpa using e)];by_cases W:X+1>=mg
     ·rw[if_pos W];exact Zs ⟨rfl,.inr ⟨_,_,_,_,_,rfl,⟨G,by lia,by lia,za,by lia⟩,by lia⟩⟩
     ·rw[if_neg W];exact Zs ⟨rfl,_,_,_,_,_,rfl,⟨G,by lia,by lia,za,by lia⟩,by lia⟩
  ·rintro c S ⟨rfl,out,N,d,ac,X,rfl,m,hp'⟩;have la:=m.la;have Y:=m.lb;exfalso;lia
  ·rintro c S ⟨rfl,⟨r,Z,rfl,gd⟩| ⟨out,N,d,ac,X,rfl,m,hp'⟩⟩
   ·exact Zs ⟨⟨g,rfl⟩,r,_,rfl,gd⟩
   ·refine Zo (wpS_lift (wpAny_rule ⟨rfl,?_⟩));refine Zo (wpS_mono (Yd (I:=λy=>YH K a b st (x+1+y)) (Q:=DH K a b st (x+1)) ?_ ?_ ⟨⟨g,rfl⟩,_,_,_,_,_,_,rfl,m,by dsimp only;lia⟩) ?_)
    ·rintro y c S _ F ⟨⟨g1,rfl⟩,out,J,jb,V,ac1,bc1,rfl,m,hq⟩;have la:=m.la;have za:=m.za;have zb:=m.zb;obtain⟨j,rfl⟩:∃j,jb=j+1:=⟨jb-1,by have:=m.lb;lia⟩;have Y:=m.lb;dsimp only;simp only[Nat.add_sub_cancel];show wpS (model prog w) A E s _ (dV (DH K a b st (x+1)) (YH K a b st (x+1+(y+1)))) (bm st g1);generalize V-1=q;revert q;refine zi (p:=λm=>wpS (model prog w) A E s m (dV (DH K a b st (x+1)) (YH K a b st (x+1+(y+1)))) (bm st g1)) λM=>?_;refine Zo (wpS_modify (show wpS _ _ _ _ _ _ (bm st M)from ?_));refine Zo (b5 (show j<b.size by lia) ?_);refine Zo (iS C ha (pB (show j<b.size by lia)) (kg M) (by lia) (by lia) (λi j f u=>lA (by lia) (by lia)) λt k1 k2 k3=>?_);simp only[Nat.zero_add]at k2 k3;have t1:dU K false b[j]=R K b j+1:=by rw[hB (show j<b.size by lia)];rfl
     rw[t1]at k2 k3;have mk:=zn m.mt k1 λi f u h3=>dB λn h4 h5=>by have:=k3 i f u;have:=lB (show n<=j by lia) (by lia);lia
     dsimp only;have H1:MT K a b (out++(a.extract t J).reverse) t (j+1)/\t<=J/\∀i,i<t->R K a i<=R K b j:=⟨mk,k1,λi D=>by have:=k2 i D;lia⟩;generalize hkk:J-t=k;have c0:¬k>0->MR K a b out J (j+1)/\x+1+y+J+(j+1)<=a.size+b.size/\∀i,i<J->R K a i<=R K b j:=λhk0=>⟨m,hq,λi D=>by have:=k2 i (by lia);lia⟩;revert H1;generalize out++(a.extract t J).reverse=O;generalize t=na1;revert O;revert na1;refine zj (p:=λm=>wpS (model prog w) A E s m (dV (DH K a b st (x+1)) (YH K a b st (x+1+(y+1)))) (bm st M)) (C:=λo i=>MR K a b o i (j+1)/\x+1+y+i+(j+1)<=a.size+b.size/\∀n,n<i->R K a n<=R K b j) (H:=λo i=>MT K a b o i (j+1)/\i<=J/\∀n,n<i->R K a n<=R K b j) (λout J hC=>?_) c0 (λo i B e=>?_) (λo i B e=>?_)
     rotate_left
     ·exact Zs ⟨⟨M,rfl⟩,.inl ⟨_,_,rfl,nC B.1 (by simpa using e)⟩⟩
     ·exact⟨⟨B.1,by simp at e;lia,Y,by have:=B.2.1;lia,zb⟩,by have:=B.2.1;lia,B.2.2⟩
     clear mk k1 k2 k3 hq m hkk c0 la za;obtain⟨m,hq,hge⟩:=hC;obtain⟨i,rfl⟩:∃i,J=i+1:=⟨J-1,by have:=m.la;lia⟩;have za:=m.za;simp only[Nat.add_sub_cancel];refine Zo (b5 (show j<b.size by lia) ?_);have G:=zm m.mt (by lia) (dA λn f u=>hge n f);by_cases e:j=1
     ·rw[if_pos (by simpa using e)];exact Zs ⟨⟨M,rfl⟩,.inl ⟨_,_,rfl,nD hf G e⟩⟩
     rw[if_neg (by simpa using e)];refine Zo (b5 (show i<a.size by lia) ?_);refine Zo (iS C hb (pA (show i<a.size by lia)) (kg M) (by lia) (by lia) (λi j f u=>lB (by lia) (by lia)) λT k1' L U=>?_);simp only[Nat.zero_add]at L U;have t2:dU K true a[i]=R K a i:=by rw[hA (show i<a.size by lia)];rfl
     rw[t2]at L U
     have t0:1<=T:=by
      rcases Nat.eq_zero_or_pos T with z|z
      ·have f:=U 0 (by lia) (by lia);have u:=lA (show 0<=i by lia) (by lia);lia
      ·exact z
     have mk:=zo G k1' λn f u h3=>dA λl h4 h5=>by have:=U n f u;have:=lA (show l<=i by lia) (by lia);lia
     dsimp only;have H2:MT K a b (out.push b[j]++(b.extract T j).reverse) (i+1) T/\1<=T/\T<=j/\∀n,n<T->R K b n<=R K a i:=⟨mk,t0,k1',λn hn=>by have:=L n hn;lia⟩;generalize hkk':j-T=k';have c0:¬k'>0->MT K a b (out.push b[j]) (i+1) j/\2<=j/\j<=j/\∀n,n<j->R K b n<=R K a i:=λhk0=>⟨G,by lia,Zg _,λn hn=>by have:=L n (by lia);lia⟩;revert H2;generalize out.push b[j]++(b.extract T j).reverse=O;generalize T=nb1;revert O;revert nb1;refine zk (p:=λm=>wpS (model prog w) A E s m (dV (DH K a b st (x+1)) (YH K a b st (x+1+(y+1)))) (bm st M)) (C:=λo n=>MT K a b o (i+1) n/\2<=n/\n<=j/\∀l,l<n->R K b l<=R K a i) (H:=λo n=>MT K a b o (i+1) n/\1<=n/\n<=j/\∀l,l<n->R K b l<=R K a i) (λout jb' hC=>?_) c0 (λo n B e'=>?_) (λo n B e'=>?_) (λo n B e'=>?_)
     rotate_left
     ·exact Zs ⟨⟨M,rfl⟩,.inl ⟨_,_,rfl,nD hf B.1 (by simpa using e')⟩⟩
     ·have:=B.2.1;simp;lia
     ·exact⟨B.1,by have:=B.2.1;simp at e';lia,B.2.2.1,B.2.2.2⟩
     obtain⟨m2,hb',hq',hge'⟩:=hC;refine Zo (b5 (show i<a.size by lia) ?_);have m3:=tz m2 (show i<a.size by lia) (dB λn f u=>hge' n f);by_cases e:i=0
     ·rw[if_pos (by simpa using e)];exact Zs ⟨⟨M,rfl⟩,.inl ⟨_,_,rfl,nC m3 e⟩⟩
     rw[if_neg (by simpa using e)];by_cases W:(decide (k<7)&&decide (k'<7))=true
     ·rw[if_pos W];exact Zs ⟨⟨M,rfl⟩,.inr ⟨_,_,_,_,_,_,rfl,⟨m3,by lia,hb',by lia,by lia⟩,by lia⟩⟩
     ·rw[if_neg W];exact Zs ⟨⟨M,rfl⟩,_,_,_,_,_,_,rfl,⟨m3,by lia,hb',by lia,by lia⟩,by lia⟩
    ·rintro c S ⟨⟨g1,rfl⟩,out,J,jb,V,ac1,bc1,rfl,m,hq⟩;have la:=m.la;have Y:=m.lb;exfalso;lia
    ·rintro c S ⟨⟨g1,rfl⟩,⟨r,Z,rfl,gd⟩| ⟨out,J,jb,V,ac1,bc1,rfl,m,hq⟩⟩
     ·exact Zs ⟨⟨g1,rfl⟩,r,_,rfl,gd⟩
     ·refine Zo (wpS_modify (?_:wpS _ _ _ _ _ _ (bm st (V+1))));exact Zs ⟨⟨_,rfl⟩,_,_,_,_,rfl,m,by dsimp only;lia⟩
 case _=>rintro c S ⟨⟨g,rfl⟩,out,ia,ib,mg,rfl,m,hp⟩;have la:=m.la;have Y:=m.lb;exfalso;lia
 case _=>rintro c S ⟨⟨g,rfl⟩,r,Z,rfl,gd⟩;exact Zs (h r g gd)
end
end Srt
end
section
set_option autoImplicit false
namespace Srt
section
variable {K:Keyed->Nat}{xs ys:Array Keyed}
theorem dW{i j:Nat}(h:xs[i]?=ys[j]?):R K xs i=R K ys j:=by
 have e:∀(z:Array _) n,z.getD n dK=z[n]?.getD dK:=λz n=>by simp
 unfold R;rw[e,e,h]
def SR(K:Keyed->Nat)(xs:Array Keyed)(lo hi:Nat):Prop:=∀i j,lo<=i->i<=j->j<hi->R K xs i<=R K xs j
def Fr(lo hi:Nat)(xs y:Array Keyed):Prop:=∀i,i<lo\/hi<=i->y[i]?=xs[i]?
theorem Fr.refl{lo hi:Nat}:Fr lo hi xs xs:=λ_ _=>rfl
theorem Fr.trans{lo hi:Nat}{z:Array Keyed}(h:Fr lo hi xs ys)(k:Fr lo hi ys z):Fr lo hi xs z:=λi hi=>(k i hi).trans (h i hi)
structure SB (a0:Array Keyed)(κ:SortKind)(st:SortSt):Prop where
 perm:(arrOf st).Perm a0
 failed:failedOf st=none
 kind:kindOf st=κ
theorem SB.size(h:SB a0 κ st):(arrOf st).size=a0.size:=h.perm.size_eq
theorem SB.arr(h:SB a0 κ st)(H:ys.Perm (arrOf st)):SB a0 κ (setArr st ys):=⟨H.trans h.perm,h.failed,h.kind⟩
theorem SB.all(h:SB a0 κ st):∀x∈(arrOf st).toList,x∈a0.toList:=λx H=>(Array.perm_iff_toList_perm.mp h.perm).mem_iff.mp H
theorem cq{a:Type}{c:Prop}{d:Decidable c}{x y:StateT SortSt Sem a}{Q:a->SortSt->Prop}(h:c)(k:wpS (model prog w) A E s x Q st):wpS (model prog w) A E s (@ite _ c d x y) Q st:=by lia
theorem bR{a:Type}{c:Prop}{d:Decidable c}{x y:StateT SortSt Sem a}{Q:a->SortSt->Prop}(h:¬c)(k:wpS (model prog w) A E s y Q st):wpS (model prog w) A E s (@ite _ c d x y) Q st:=by lia
theorem tD{a:Type}{c:Prop}{d:Decidable c}{T m:StateT SortSt Sem a}{Q:a->SortSt->Prop}{C:Array Keyed->Prop}(k:∀ys,C ys->wpS (model prog w) A E s m Q (setArr st ys))(h1:c->(∀ys,C ys->wpS (model prog w) A E s m Q (setArr st ys))->wpS (model prog w) A E s T Q st)(H:¬c->C (arrOf st)):wpS (model prog w) A E s (@ite _ c d T m) Q st:=by
 by_cases h:c
 ·rw[if_pos h];exact h1 h k
 ·rw[if_neg h];exact k _ (H h)
theorem nE(C:jk prog w A s κ (· ∈a0.toList) K)(h:SB a0 κ st){i j:Nat}(hi:i<a0.size)(H:j<a0.size){Q:Option Bool->SortSt->Prop}(h1:R K (arrOf st) i<R K (arrOf st) j->Q (some true) st)(a:¬R K (arrOf st) i<R K (arrOf st) j->Q (some false) st):
  wpS (model prog w) A E s (ltAt' i j) Q st:=by
 rw[<-h.size]at hi H;refine Zo (wpS_get ?_);refine Zo (b5 hi (Zo (b5 H ?_)));refine j_ C (h.all _ (by simp)) (h.all _ (by simp)) h.kind ?_;rw[cm hi,cm H]at h1 a
 grind
theorem gU{i j:Nat}(H:j<=xs.size)(k:Nat):R K (mirror xs i j ((j-i)/2)) k=if i<=k/\k<j then R K xs (i+j-1-k)else R K xs k:=by
 have h:=getElem?_mirror_all (i:=i) H k;by_cases c:i<=k/\k<j
 ·rw[if_pos c]at h⊢;exact dW h
 ·rw[if_neg c]at h⊢;exact dW h
theorem nF{lo hi i j:Nat}(h:j<=xs.size)(h1:lo<=i)(H:j<=hi):Fr lo hi xs (mirror xs i j ((j-i)/2)):=λk a=>by rw[getElem?_mirror_all h,if_neg (by lia)]
theorem nG{i j:Nat}{Q:Unit->SortSt->Prop}(h:Q () (setArr st (mirror (arrOf st) i j ((j-i)/2)))):wpS (model prog w) A E s (reverseSlice' i j) Q st:=by exact wpS_modify h
theorem zp{lo a:Nat}{f:Nat->AscSt->StateT SortSt Sem (ForInStep AscSt)}(l:∀x n,1<=n->n<nrem->∀b:ForInStep AscSt->SortSt->Prop,(R K (arrOf st) (lo+n)<R K (arrOf st) (lo+n-1)->b (.done (none,n)) st)->(¬R K (arrOf st) (lo+n)<R K (arrOf st) (lo+n-1)->b (.yield (none,n+1)) st)->wpS (model prog w) A E s (f x (none,n)) b st)
  (h1:1<=a) (g:a<=nrem) (hs:SR K (arrOf st) lo (lo+a)) {Q:AscSt->SortSt->Prop} (h:∀n,a<=n->n<=nrem->SR K (arrOf st) lo (lo+n)->(n=nrem\/R K (arrOf st) (lo+n)<R K (arrOf st) (lo+n-1))->Q (none,n) st):
  wpS (model prog w) A E s (forIn [a:nrem] (none,a) f) Q st:=by
 refine Yd (I:=λx c S=>S=st/\c=(none,x)/\x<=nrem/\SR K _ _ (lo+x)) ?_ ?_ ⟨rfl,rfl,g,hs⟩
 ·rintro x c S m H ⟨rfl,rfl,_,hs⟩;refine l x x (by lia) H _ (λd=>h x m (by lia) hs (.inr d)) λd=>⟨rfl,rfl,by lia,λi j k o q=>?_⟩;by_cases e:j=lo+x
  ·by_cases p:i=lo+x
   ·simp_all
   ·have:=hs i (lo+x-1) k (by lia) (by lia);lia
  ·exact hs i j k o (by lia)
 simp_all
theorem Hu(C:jk prog w A s κ (· ∈a0.toList) K)(D:SB a0 κ st){lo:Nat}(hz:lo+nrem<=a0.size)(h1:1<=nrem){Q:Option Nat->SortSt->Prop}
  (h:∀m ys,ys.Perm (arrOf st)->Fr lo (lo+nrem) (arrOf st) ys->1<=m->m<=nrem->SR K ys lo (lo+m)->Q (some m) (setArr st ys)):wpS (model prog w) A E s (countRun' lo nrem) Q st:=by
 have o:∀{S:SortSt},SB a0 κ S->∀n,1<=n->n<nrem->∀{α:Type} {U:α->SortSt->Prop} {f:Option Bool->StateT SortSt Sem α},(R K (arrOf S) (lo+n)<R K (arrOf S) (lo+n-1)->wpS (model prog w) A E s (f (some true)) U S)->(¬R K (arrOf S) (lo+n)<R K (arrOf S) (lo+n-1)->wpS (model prog w) A E s (f (some false)) U S)->wpS (model prog w) A E s (ltAt' (lo+n) (lo+n-1)>>=f) U S:=λhB' n F N α U f Z q2=>Zo (nE C hB' (by lia) (by lia) Z q2);rw[countRun'_eq];refine Zo (zp (lo:=lo) (K:=K) (λx n F N U Z q2=>o D n F N (λd=>cq rfl (Zs (Z d))) (λd=>bR (by decide) (Zs (q2 d)))) (Zg 1) h1 (λi j b l V=>by have:i=j:=(by lia);subst this;exact Zg _) λn F N O hor=>?_);by_cases M:n=nrem
 ·exact cq (by simpa using M) (Zs (h n _ (.refl _) .refl F N O))
 refine bR (by simpa using M) ?_;have y:=hor.resolve_left M;have hsz:=D.size;refine tD (C:=λys=>ys.Perm (arrOf st)/\Fr lo (lo+nrem) (arrOf st) ys/\∀i j,lo<=i->i<=j->j<lo+n+1->R K ys j<=R K ys i) (λys G=>?_) (λL u=>?_) (λL=>⟨.refl _,.refl,λi j b l V=>?_⟩)
 ·obtain⟨hp,hF,hN⟩:=G;have hB1:=D.arr hp;have hz1:ys.size=a0.size:=hB1.size;refine Zo (wpS_lift (wpAny_rule ⟨rfl,?_⟩))
  refine Zo (wpS_mono (Yd (I:=λx c S=>∃z q,S=setArr st z/\c=(none,x,q)/\z.Perm (arrOf st)/\Fr lo (lo+nrem) (arrOf st) z/\x<=nrem/\q<x/\(∀i j,lo<=i->i<=j->j<lo+x->R K z j<=R K z i)/\∀k,lo+x-(q+1)<=k->k<lo+x->R K z k=R K z (lo+x-1))
   (Q:=λc S=>∃z m q,S=setArr st z/\c=(none,m,q)/\z.Perm (arrOf st)/\Fr lo (lo+nrem) (arrOf st) z/\1<=m/\m<=nrem/\q<m/\(∀i j,lo<=i->i<=j->j<lo+m->R K z j<=R K z i)/\∀k,lo+m-(q+1)<=k->k<lo+m->R K z k=R K z (lo+m-1)) ?_ ?_ ?_) ?_)
  ·rintro x c S hx hx2 ⟨z,q,rfl,rfl,H,a,_,hq,g,v⟩;have p:=D.arr H;have t:z.size=a0.size:=p.size
   have up:∀W:Array Keyed,(∀k,k<=lo+x->lo<=k->R K W k=R K z k)->R K z (lo+x)<=R K z (lo+x-1)->∀i j,lo<=i->i<=j->j<lo+(x+1)->R K W j<=R K W i:=λW d hl i j b l V=>by
    rw[d i (by lia) b,d j (by lia) (by lia)];by_cases e:j=lo+x
    ·subst e;by_cases e2:i=lo+x
     ·subst e2;exact Zg _
     ·exact ZB hl (g i (lo+x-1) b (by lia) (by lia))
    ·exact g i j b l (by lia)
   refine o p x (by lia) hx2 (λd=>cq rfl ?_) (λd=>bR (by decide) ?_)
   ·have d:R K z (lo+x)<R K z (lo+x-1):=d;refine tD (st:=setArr st z) (C:=λW=>W.Perm (arrOf st)/\Fr lo (lo+nrem) (arrOf st) W/\∀k,k<=lo+x->lo<=k->R K W k=R K z k) (λW G=>?_) (λhg u=>?_) (λhg=>⟨H,a,λ_ _ _=>rfl⟩)
    ·refine Zs ⟨W,0,rfl,rfl,G.1,G.2.1,by lia,by lia,up W G.2.2 (by lia),λk b l=>by rw[show k=lo+(x+1)-1 by lia]⟩
    ·refine Zo (nG (u _ ⟨(mirror_perm _ _ _ _).trans H,a.trans (nF (i:=lo+x-(q+1)) (j:=lo+x) (by rw[t];lia) (by lia) (by lia)),λk b l=>?_⟩));show R K (mirror z (lo+x-(q+1)) (lo+x) ((lo+x-(lo+x-(q+1)))/2)) k=_;rw[gU (by rw[t];lia)];by_cases c:lo+x-(q+1)<=k/\k<lo+x
     ·rw[if_pos c,v k c.1 c.2,v _ (by lia) (by lia)]
     ·rw[if_neg c]
   ·have d:¬R K z (lo+x)<R K z (lo+x-1):=d;refine Zo (nE (i:=lo+x-1) (j:=lo+x) C p (by lia) (by lia) (λr=>cq rfl (Zs ⟨z,x,q,rfl,rfl,H,a,by lia,by lia,hq,g,v⟩)) (λr=>bR (by decide) (Zs ⟨z,q+1,rfl,rfl,H,a,by lia,by lia,?_,λk b l=>?_⟩)))
    ·have r:¬R K z (lo+x-1)<R K z (lo+x):=r;exact up z (λ_ _ _=>rfl) (by lia)
    ·have r:¬R K z (lo+x-1)<R K z (lo+x):=r;rw[show lo+(x+1)-1=lo+x by lia];by_cases e:k=lo+x
     ·rw[e]
     ·rw[v k (by lia) (by lia)];lia
  ·rintro c S ⟨z,q,rfl,rfl,H,a,hx,hq,g,v⟩;exact⟨z,_,q,rfl,rfl,H,a,by lia,hx,hq,g,v⟩
  ·exact⟨ys,0,rfl,rfl,hp,hF,by lia,by lia,λi j b l V=>hN i j b l (by lia),λk b l=>by rw[show k=lo+(n+1)-1 by lia]⟩
  ·rintro c S ⟨z,m,q,rfl,rfl,H,a,m1,m2,hq,g,v⟩;have p:=D.arr H;have t:z.size=a0.size:=p.size;refine tD (st:=setArr st z) (C:=λW=>W.Perm (arrOf st)/\Fr lo (lo+nrem) (arrOf st) W/\∀k,k<lo+m->lo<=k->R K W k=R K z k) (λW G=>?_) (λhg u=>?_) (λhg=>⟨H,a,λ_ _ _=>rfl⟩)
   ·obtain⟨Y,hF3,X⟩:=G;have hB3:=D.arr Y;have T:W.size=a0.size:=hB3.size;refine Zo (nG ?_);show wpS (model prog w) A E s _ Q (setArr st (mirror W lo (lo+m) ((lo+m-lo)/2)));have B:(mirror W lo (lo+m) ((lo+m-lo)/2)).Perm (arrOf st):=(mirror_perm _ _ _ _).trans Y;have J:Fr lo (lo+nrem) (arrOf st) (mirror W lo (lo+m) ((lo+m-lo)/2)):=hF3.trans (nF (by rw[T];lia) (Zg _) (by lia))
    have P:SR K (mirror W lo (lo+m) ((lo+m-lo)/2)) lo (lo+m):=λi j b l V=>by rw[gU (by rw[T];lia),gU (by rw[T];lia),if_pos ⟨b,by lia⟩,if_pos ⟨by lia,V⟩,X _ (by lia) (by lia),X _ (by lia) (by lia)];exact g _ _ (by lia) (by lia) (by lia)
    revert B J P;generalize mirror W lo (lo+m) ((lo+m-lo)/2)=vs;intro B J P;refine Zo (zp (st:=setArr st vs) (lo:=lo) (K:=K) (λx n F N U Z q2=>o (D.arr B) n F N (λd=>cq rfl (Zs (Z d))) (λd=>bR (by decide) (Zs (q2 d)))) m1 m2 P λn F N O _=>?_);exact Zs (h n vs B J (by lia) N O)
   ·refine Zo (nG (u _ ⟨(mirror_perm _ _ _ _).trans H,a.trans (nF (i:=lo+m-(q+1)) (j:=lo+m) (by rw[t];lia) (by lia) (by lia)),λk b l=>?_⟩));show R K (mirror z (lo+m-(q+1)) (lo+m) ((lo+m-(lo+m-(q+1)))/2)) k=_;rw[gU (by rw[t];lia)];by_cases c:lo+m-(q+1)<=k/\k<lo+m
    ·rw[if_pos c,v k c.1 c.2,v _ (by lia) (by lia)]
    ·rw[if_neg c]
 ·refine Zo (nE C D (by lia) (by lia) (λhr=>cq rfl (Zs (h n _ (.refl _) .refl F N O))) (λhr=>bR (by decide) ?_));have hr:¬R K (arrOf st) lo<R K (arrOf st) (lo+n-1):=hr;have y:R K (arrOf st) (lo+n)<R K (arrOf st) (lo+n-1):=y;refine Zo (nG (u _ ⟨mirror_perm _ _ _ _,nF (by lia) (Zg _) (by lia),λi j b l V=>?_⟩))
  have eq:∀k,lo<=k->k<lo+n->R K (mirror (arrOf st) lo (lo+n) ((lo+n-lo)/2)) k=R K (arrOf st) lo:=λk b l=>by rw[gU (by lia),if_pos ⟨b,l⟩];have e1:=O lo (lo+(lo+n)-1-k) (by lia) (by lia) (by lia);have e2:=O (lo+(lo+n)-1-k) (lo+n-1) (by lia) (by lia) (by lia);lia
  show R K (mirror (arrOf st) lo (lo+n) ((lo+n-lo)/2)) j<=R K (mirror (arrOf st) lo (lo+n) ((lo+n-lo)/2)) i;by_cases e:j<lo+n
  ·rw[eq i b (by lia),eq j (by lia) e];exact Zg _
  ·have e':j=lo+n:=by lia
   subst e';rw[gU (by lia) (lo+n),if_neg (by lia)];by_cases e2:i=lo+n
   ·subst e2;rw[gU (by lia) (lo+n),if_neg (by lia)];exact Zg _
   ·rw[eq i b (by lia)];have e1:=O lo (lo+n-1) (by lia) (by lia) (by lia);lia
 ·have y:R K (arrOf st) (lo+n)<R K (arrOf st) (lo+n-1):=y;have L:¬n>1:=L;have e1:n=1:=by lia
  subst e1;by_cases e:i=j
  ·subst e;exact Zg _
  ·rw[show i=lo+1-1 by lia,show j=lo+1 by lia];lia
end
end Srt
end
section
set_option autoImplicit false
namespace Srt
section
variable {K:Keyed->Nat}{xs ys:Array Keyed}
theorem Hv{d:Nat}(hs:src<xs.size)(H:d<=src)(k:Nat):R K (bubble xs src d) k=if k=src-d then R K xs src else if src-d<k/\k<=src then R K xs (k-1)else R K xs k:=by
 have h:=getElem?_bubble hs d H k;by_cases c:k=src-d
 ·rw[if_pos c]at h⊢;exact dW h
 ·rw[if_neg c]at h⊢;by_cases C:src-d<k/\k<=src
  ·rw[if_pos C]at h⊢;exact dW h
  ·rw[if_neg C]at h⊢;exact dW h
theorem Hw{lo hi d:Nat}(hs:src<xs.size)(h:d<=src)(h1:lo<=src-d)(H:src<hi):Fr lo hi xs (bubble xs src d):=λk a=>by rw[getElem?_bubble hs d h,if_neg (by lia),if_neg (by lia)]
theorem Hy(C:jk prog w A s κ (· ∈a0.toList) K)(M:SB a0 κ st){lo ok:Nat}(X:lo+n<=a0.size)(O:ok<=n)(hs:SR K (arrOf st) lo (lo+ok)){Q:Bool->SortSt->Prop}
  (h:∀ys,ys.Perm (arrOf st)->Fr lo (lo+n) (arrOf st) ys->SR K ys lo (lo+n)->Q true (setArr st ys)):wpS (model prog w) A E s (binarySort' lo n ok) Q st:=by
 rw[binarySort'_eq]
 refine Zo (wpS_mono (Yd (I:=λk c S=>∃z,S=setArr st z/\c=(none,())/\z.Perm (arrOf st)/\Fr lo (lo+n) (arrOf st) z/\SR K z lo (lo+min k n))
  (Q:=λc S=>∃z,S=setArr st z/\c=(none,())/\z.Perm (arrOf st)/\Fr lo (lo+n) (arrOf st) z/\SR K z lo (lo+n)) ?_ ?_ ?_) ?_)
 ·rintro k c S V N ⟨z,rfl,rfl,d,q,H⟩;rw[Nat.min_eq_left (by lia)]at H;have p:=M.arr d;have v:z.size=a0.size:=p.size
  refine Zo (wpS_mono (Yd (I:=λx c S=>S=setArr st z/\∃l r,c=(none,l,r)/\l<=r/\r<=k/\r-l<=k-x/\(∀i,i<l->R K z (lo+i)<=R K z (lo+k))/\(∀i,r<=i->i<k->R K z (lo+k)<R K z (lo+i)))
   (Q:=λc S=>S=setArr st z/\∃l r,c=(none,l,r)/\l<=k/\(∀i,i<l->R K z (lo+i)<=R K z (lo+k))/\(∀i,l<=i->i<k->R K z (lo+k)<R K z (lo+i))) ?_ ?_ ⟨rfl,0,k,rfl,by lia,by lia,by lia,λi U=>by lia,λi a b=>by lia⟩) ?_)
  ·rintro x c S _ W ⟨rfl,l,r,rfl,P,y,T,f,g⟩;by_cases t:l>=r
   ·have:l=r:=by lia
    subst this;exact cq t (Zs ⟨rfl,l,l,rfl,y,f,g⟩)
   ·refine bR t (Zo (nE (i:=lo+k) (j:=lo+(l+r)/2) C p (by lia) (by lia) (λu=>cq rfl (Zs ⟨rfl,l,(l+r)/2,rfl,by lia,by lia,by lia,f,λi a b=>?_⟩)) (λu=>bR (by decide) (Zs ⟨rfl,(l+r)/2+1,r,rfl,by lia,y,by lia,λi a=>?_,g⟩))))
    ·have u:R K z (lo+k)<R K z (lo+(l+r)/2):=u;have:=H (lo+(l+r)/2) (lo+i) (by lia) (by lia) (by lia);lia
    ·have u:¬R K z (lo+k)<R K z (lo+(l+r)/2):=u;have:=H (lo+i) (lo+(l+r)/2) (by lia) (by lia) (by lia);lia
  ·rintro c S ⟨rfl,l,r,rfl,P,y,T,f,g⟩;have:l=r:=by lia
   subst this;exact⟨rfl,l,l,rfl,y,f,g⟩
  ·rintro c S ⟨rfl,l,r,rfl,y,f,g⟩;refine Zo (m:=moveDown' (lo+k) (lo+l)) ?_;rw[moveDown'_eq];refine wpS_modify (Zs ⟨bubble z (lo+k) (lo+k-(lo+l)),rfl,rfl,(bubble_perm _ _ _).trans d,q.trans (Hw (by rw[v];lia) (by lia) (by lia) (by lia)),?_⟩);rw[Nat.min_eq_left (by lia)];have e:∀i,R K (bubble z (lo+k) (lo+k-(lo+l))) i=if i=lo+l then R K z (lo+k)else if lo+l<i/\i<=lo+k then R K z (i-1)else R K z i:=λi=>by rw[Hv (by rw[v];lia) (by lia),show lo+k-(lo+k-(lo+l))=lo+l by lia]
   have G:∀i,lo<=i->i<lo+l->R K z i<=R K z (lo+k):=λi a b=>by have:=f (i-lo) (by lia);rwa [show lo+(i-lo)=i by lia]at this
   have J:∀i,lo+l<=i->i<lo+k->R K z (lo+k)<R K z i:=λi a b=>by have:=g (i-lo) (by lia) (by lia);rwa [show lo+(i-lo)=i by lia]at this
   intro i j a b L;rw[e i,e j];by_cases B:i=lo+l
   ·rw[if_pos B];by_cases o:j=lo+l
    ·rw[if_pos o];exact Zg _
    ·rw[if_neg o,if_pos ⟨by lia,by lia⟩];exact Nat.le_of_lt (J _ (by lia) (by lia))
   ·rw[if_neg B];by_cases D:lo+l<i/\i<=lo+k
    ·rw[if_pos D,if_neg (by lia),if_pos ⟨by lia,by lia⟩];exact H _ _ (by lia) (by lia) (by lia)
    ·rw[if_neg D];by_cases o:j=lo+l
     ·rw[if_pos o];exact G i a (by lia)
     ·rw[if_neg o];by_cases F:lo+l<j/\j<=lo+k
      ·rw[if_pos F];exact H _ _ a (by lia) (by lia)
      ·rw[if_neg F];exact H _ _ a b (by lia)
 ·rintro c S ⟨z,rfl,rfl,d,q,H⟩;rw[show min (max (max ok 1) n) n=n by lia]at H;exact⟨z,rfl,rfl,d,q,H⟩
 ·refine⟨arrOf st,rfl,rfl,.refl _,.refl,λi j a b L=>?_⟩;by_cases e:i=j
  ·subst e;exact Zg _
  ·exact hs i j a b (by lia)
 ·rintro c S ⟨z,rfl,rfl,d,q,H⟩;exact Zs (h z d q H)
end
end Srt
end
section
set_option autoImplicit false
namespace Srt
section
variable {K:Keyed->Nat}{xs ys:Array Keyed}
theorem zq{base:Nat}:∀(l:List Keyed) (k:Nat) (arr:Array Keyed),base+k+l.length<=arr.size->((l.zipIdx k).foldl (λa (x:Keyed×Nat)=>a.setIfInBounds (base+x.2) x.1) arr).toList=arr.toList.take (base+k)++l++arr.toList.drop (base+k+l.length)
 | [],k,arr,h=>by simp
 |x::l,k,arr,h=>by
  rw[ZO]at h;rw[List.zipIdx_cons,List.foldl_cons,zq l _ _ (by rw[Array.size_setIfInBounds];lia)];have H:base+k<arr.toList.length:=by rw[Zt];lia
  have e:(arr.toList.set (base+k) x).take (base+(k+1))=arr.toList.take (base+k)++[x]:=by rw[show base+(k+1)=base+k+1 by lia,List.take_succ,List.take_set_of_le (Zg _),List.getElem?_set_self H];rfl
  have E:(arr.toList.set (base+k) x).drop (base+(k+1)+l.length)=arr.toList.drop (base+k+(x::l).length):=by rw[List.drop_set_of_lt (by lia),ZO,show base+(k+1)+l.length=base+k+(l.length+1)by lia]
  simp_all
theorem zr{i j:Nat}(h1:i<=j)(h:j<=xs.size):(xs.extract i j).size=j-i:=by simp_all
theorem gj{i j:Nat}(h:j<=xs.size)(H:i+n<j):R K (xs.extract i j) n=R K xs (i+n):=by refine dW ?_;rw[Array.getElem?_extract,if_pos (by lia)]
theorem kb{i j:Nat}(b:j<=xs.size)(hs:SR K xs i j):LS K (xs.extract i j).toList:=by
 refine Ya.mpr λn m f c h=>?_;have H:m<(xs.extract i j).size:=by exact c
 have a:n<(xs.extract i j).size:=by lia
 have e:(xs.extract i j).size<=j-i:=by simp_all
 have k:=gj (K:=K) b (show i+n<j by lia);have d:=gj (K:=K) b (show i+m<j by lia);have:=hs (i+n) (i+m) (by lia) (by lia) (by lia);rw[<-k,<-d,cm a,cm H]at this;simp_all
theorem tF{i j:Nat}(b:j<=xs.size){x:Keyed}(h:x∈(xs.extract i j).toList):∃n,i<=n/\n<j/\K x=R K xs n:=by obtain⟨n,H,a,_,e⟩:=tx h;exact⟨n,H,a,e⟩
theorem nH{x:SortSt}{Q:PUnit->SortSt->Prop}(h:Q ⟨⟩ x):wpS (model prog w) A E s (set x:StateT SortSt Sem PUnit) Q st:=by exact Ze ⟨rfl,h⟩
noncomputable def nI(st:SortSt)(p:Array (Nat×Nat×Nat)):SortSt:=SortSt.mk' (kindOf st) (arrOf st) p (gallopOf st) (failedOf st)
theorem Hz(C:jk prog w A s κ (· ∈a0.toList) K)(v:SB a0 κ st){i S N U o V:Nat}(hi:(pendingOf st)[i]?=some (S,N,U))(D:(pendingOf st)[i+1]?=some (S+N,o,V))(a1:1<=N)(b1:1<=o)(hz:S+N+o<=a0.size)
  (t:SR K (arrOf st) S (S+N)) (u:SR K (arrOf st) (S+N) (S+N+o)) {Q:Bool->SortSt->Prop}
  (h:∀ys g,ys.Perm (arrOf st)->Fr S (S+N+o) (arrOf st) ys->SR K ys S (S+N+o)->Q true (bm (setArr (nI st (((pendingOf st).setIfInBounds i (S,N+o,U)).eraseIdxIfInBounds (i+1))) ys) g)):wpS (model prog w) A E s (mergeAt' i) Q st:=by
 have hsz:=v.size;have d:=v.all;have pe:∀{n:Nat} (f:n<(arrOf st).size),(arrOf st)[n]∈a0.toList:=λf=>d _ (by simp);refine Zo (wpS_get ?_);have e0:((pendingOf st)[i]?,(pendingOf st)[i+1]?)=(some (S,N,U),some (S+N,o,V)):=by rw[hi,D]
 rw[hi,D];refine Zo (nH ?_);show wpS (model prog w) A E s _ Q (nI st (((pendingOf st).setIfInBounds i (S,N+o,U)).eraseIdxIfInBounds (i+1)));generalize((pendingOf st).setIfInBounds i (S,N+o,U)).eraseIdxIfInBounds (i+1)=p' at h⊢;have q:kindOf (nI st p')=κ:=v.kind;refine Zo (b5 (show S+N<(arrOf st).size by lia) ?_);refine Zo (iS C d (pe (by lia)) q (by lia) (by lia) (λi j k1 X=>t _ _ (by lia) (by lia) (by lia)) λk k1 X k3=>?_);have t1:dU K false (arrOf st)[S+N]=R K (arrOf st) (S+N)+1:=by rw[cm (show S+N<(arrOf st).size by lia)];rfl
 rw[t1]at X k3;have q2:∀n,S<=n->n<S+k->R K (arrOf st) n<=R K (arrOf st) (S+N):=λn H b=>by have:=X (n-S) (by lia);rw[show S+(n-S)=n by lia]at this;lia
 have Z:∀n,S+N<=n->n<S+N+o->R K (arrOf st) (S+N)<=R K (arrOf st) n:=λn H b=>u _ _ (Zg _) H b
 have aF:∀c,c<=R K (arrOf st) (S+N)->(∀n,S<=n->n<S+N->R K (arrOf st) n<=c)->SR K (arrOf st) S (S+N+o):=λc hc f i j H b p=>by
  by_cases c1:j<S+N
  ·exact t i j H b c1
  ·by_cases c2:i<S+N
   ·have:=f i H c2;have:=Z j (by lia) p;lia
   ·exact u i j (by lia) b p
 by_cases e1:N-k=0
 ·refine cq (by simpa using e1) (Zs (h _ (gallopOf st) (.refl _) .refl (aF _ (Zg _) λn H b=>q2 n H (by lia))))
 refine bR (by simpa using e1) ?_;have q3:R K (arrOf st) (S+N)<R K (arrOf st) (S+k):=by have:=k3 k (Zg _) (by lia);lia
 refine Zo (b5 (show S+k+(N-k)-1<(arrOf st).size by lia) ?_);refine Zo (iS C d (pe (by lia)) q (by lia) (by lia) (λi j k1 X=>u _ _ (by lia) (by lia) (by lia)) λm m1 m2 m3=>?_);have t2:dU K true ((arrOf st)[S+k+(N-k)-1]'(by lia))=R K (arrOf st) (S+N-1):=by rw[show S+N-1=S+k+(N-k)-1 by lia,cm (show S+k+(N-k)-1<(arrOf st).size by lia)];rfl
 rw[t2]at m2 m3
 have q4:∀n,S+N<=n->n<S+N+m->R K (arrOf st) n<R K (arrOf st) (S+N-1):=λn H b=>by
  have:=m2 (n-(S+N)) (by lia)
  rwa [show S+N+(n-(S+N))=n by lia]at this
 have q5:∀n,S+N+m<=n->n<S+N+o->R K (arrOf st) (S+N-1)<=R K (arrOf st) n:=λn H b=>by
  have:=m3 (n-(S+N)) (by lia) (by lia)
  rwa [show S+N+(n-(S+N))=n by lia]at this
 by_cases e2:m=0
 ·have:=q5 (S+N) (by lia) (by lia);have:=t (S+k) (S+N-1) (by lia) (by lia) (by lia);exfalso;lia
 refine bR (by simpa using e2) ?_;have M:((arrOf st).extract (S+k) (S+N)).size=N-k:=by rw[zr (by lia) (by lia)];lia
 have hyz:((arrOf st).extract (S+N) (S+N+m)).size=m:=by rw[zr (by lia) (by lia)];lia
 have J:=kb (K:=K) (xs:=arrOf st) (i:=S+k) (j:=S+N) (by lia) (λi j H b p=>t i j (by lia) b p);have O:=kb (K:=K) (xs:=arrOf st) (i:=S+N) (j:=S+N+m) (by lia) (λi j H b p=>u i j (by lia) b (by lia))
 have L:∀x∈((arrOf st).extract (S+k) (S+N)).toList,x∈a0.toList:=λx I=>by rw[Array.toList_extract]at I;exact d x (List.mem_of_mem_drop (List.mem_of_mem_take I))
 have P:∀x∈((arrOf st).extract (S+N) (S+N+m)).toList,x∈a0.toList:=λx I=>by rw[Array.toList_extract]at I;exact d x (List.mem_of_mem_drop (List.mem_of_mem_take I))
 have r0:R K ((arrOf st).extract (S+N) (S+N+m)) 0<R K ((arrOf st).extract (S+k) (S+N)) 0:=by rw[gj (by lia) (by lia),gj (by lia) (by lia)];exact q3
 have rl:∀y∈((arrOf st).extract (S+N) (S+N+m)).toList,K y<R K ((arrOf st).extract (S+k) (S+N)) (((arrOf st).extract (S+k) (S+N)).size-1):=λy hy=>by obtain⟨n,H,b,e⟩:=tF (K:=K) (by lia) hy;rw[e,M,gj (by lia) (by lia),show S+k+(N-k-1)=S+N-1 by lia];exact q4 n H b
 have T:∀(r:Array Keyed) (g:Nat),Good K (((arrOf st).extract (S+k) (S+N)).toList++((arrOf st).extract (S+N) (S+N+m)).toList) r->Q true (bm (setArr (nI st p') ((r.toList.zipIdx).foldl (λa (x:Keyed×Nat)=>a.setIfInBounds (S+k+x.2) x.1) (arrOf st))) g):=λr g G=>by
  have hrl:r.toList.length=N-k+m:=by rw[G.1.length_eq,ZA,Zt,Zt,M,hyz]
  have B:∀n,n<r.toList.length->∃j,S+k<=j/\j<S+N+m/\R K r n=R K (arrOf st) j:=λn f=>by
   have hn':n<r.size:=by rwa [Zt]at f
   have hm:r[n]∈r.toList:=by simp
   rw[cm hn'];rcases Zq.mp (G.1.mem_iff.mp hm)with z|z
   ·obtain⟨j,H,b,e⟩:=tF (K:=K) (by lia) z;exact⟨j,H,by lia,e⟩
   ·obtain⟨j,H,b,e⟩:=tF (K:=K) (by lia) z;exact⟨j,by lia,b,e⟩
  have l:=zq (base:=S+k) r.toList 0 (arrOf st) (by lia);generalize(r.toList.zipIdx).foldl (λa (x:Keyed×Nat)=>a.setIfInBounds (S+k+x.2) x.1) (arrOf st)=ys at l⊢;rw[Nat.add_zero]at l;have F:((arrOf st).toList.take (S+k)).length=S+k:=by rw[List.length_take,Zt];lia
  have o1:∀n,n<S+k->ys[n]?=(arrOf st)[n]? :=λn f=>by rw[<-ZQ,l,Z7,Zw (by lia),List.getElem?_take_of_lt f,ZQ]
  have o2:∀n,S+N+m<=n->ys[n]?=(arrOf st)[n]? :=λn f=>by rw[<-ZQ,l,ZS (by rw[ZA];lia),List.getElem?_drop,ZA,F,hrl,<-ZQ];congr 1;lia
  have o3:∀n,S+k<=n->n<S+N+m->ys[n]?=r[n-(S+k)]? :=λn H b=>by rw[<-ZQ,l,Z7,ZS (by lia),F,Zw (by lia),ZQ]
  refine h ys g ?_ (λn f=>?_) (λi j H b p=>?_)
  ·refine Array.perm_iff_toList_perm.mpr ?_;rw[l];have e:(arrOf st).toList=(arrOf st).toList.take (S+k)++(((arrOf st).extract (S+k) (S+N)).toList++((arrOf st).extract (S+N) (S+N+m)).toList)++(arrOf st).toList.drop (S+k+r.toList.length):=by rw[<-Z7,<-nA (by lia),<-nA (by lia),show S+k+r.toList.length=S+N+m by lia,List.take_append_drop]
   exact((List.Perm.append_left _ G.1).append_right _).trans (List.Perm.of_eq e.symm)
  ·rcases f with z|z
   ·exact o1 n (by lia)
   ·exact o2 n (by lia)
  ·have ri:∀n,n<S+k->R K ys n=R K (arrOf st) n:=λn f=>dW (o1 n f);have Y:∀n,S+N+m<=n->R K ys n=R K (arrOf st) n:=λn f=>dW (o2 n f);have rm:∀n,S+k<=n->n<S+N+m->R K ys n=R K r (n-(S+k)):=λn H b=>dW (o3 n H b);by_cases c1:j<S+k
   ·rw[ri i (by lia),ri j c1];exact t i j H b (by lia)
   by_cases c2:S+N+m<=i
   ·rw[Y i c2,Y j (by lia)];exact u i j (by lia) b p
   by_cases c3:i<S+k
   ·rw[ri i c3];have u1:=q2 i H c3;by_cases W:S+N+m<=j
    ·rw[Y j W];have:=Z j (by lia) p;lia
    ·rw[rm j (by lia) (by lia)];obtain⟨n,n1,n2,e⟩:=B (j-(S+k)) (by lia);rw[e];by_cases c5:n<S+N
     ·exact t i n H (by lia) c5
     ·have:=Z n (by lia) (by lia);lia
   ·rw[rm i (by lia) (by lia)];by_cases W:S+N+m<=j
    ·rw[Y j W];obtain⟨n,n1,n2,e⟩:=B (i-(S+k)) (by lia);rw[e];by_cases c5:n<S+N
     ·have:=t n (S+N-1) (by lia) (by lia) (by lia);have:=q5 j W p;lia
     ·exact u n j (by lia) (by lia) p
    ·rw[rm j (by lia) (by lia)];exact G.2.mono (by lia) (by rw[<-Zt];lia)
 have hs1:S+k+(N-k)=S+N:=by lia
 by_cases e3:N-k<=m
 ·refine cq e3 (Zo (Hs C q L P J O (by lia) (by lia) r0 rl λr g G=>?_));refine Zo (wpS_modify (Zo (wpS_get (Zs ?_))));have:=T r g G;show Q (failedOf st).isNone _;rw[v.failed];exact this
 ·refine bR e3 (Zo (Ht C q L P J O (by lia) (by lia) r0 rl λr g G=>?_));refine Zo (wpS_modify (Zo (wpS_get (Zs ?_))));have:=T r g G;show Q (failedOf st).isNone _;rw[v.failed];exact this
end
end Srt
end
section
set_option autoImplicit false
namespace Srt
def Ch(K:Keyed->Nat)(xs:Array Keyed):Nat->List (Nat×Nat×Nat)->Nat->Prop
 |a,[],e=>a=e
 |a,t::r,e=>t.1=a/\1<=t.2.1/\SR K xs a (a+t.2.1)/\Ch K xs (a+t.2.1) r e
section
variable {K:Keyed->Nat}{xs ys:Array Keyed}
theorem Ch.len:∀{l:List (Nat×Nat×Nat)} {a e:Nat},Ch K xs a l e->a+l.length<=e
 | [],a,e,h=>by cases h;simp
 |t::r,a,e,h=>by have:=Ch.len h.2.2.2;have:=h.2.1;rw[ZO];lia
theorem Ch.app:∀{l r:List (Nat×Nat×Nat)} {a e:Nat},Ch K xs a (l++r) e->∃m,Ch K xs a l m/\Ch K xs m r e
 | [],r,a,e,h=>⟨a,rfl,h⟩
 |t::l,r,a,e,h=>by obtain⟨m,H,b⟩:=Ch.app h.2.2.2;exact⟨m,⟨h.1,h.2.1,h.2.2.1,H⟩,b⟩
theorem Ch.join:∀{l r:List (Nat×Nat×Nat)} {a m e:Nat},Ch K xs a l m->Ch K xs m r e->Ch K xs a (l++r) e
 | [],r,a,m,e,h,k=>by cases h;exact k
 |t::l,r,a,m,e,h,k=>⟨h.1,h.2.1,h.2.2.1,Ch.join h.2.2.2 k⟩
theorem Ch.same:∀{l:List (Nat×Nat×Nat)} {a e:Nat},(∀i,a<=i->i<e->R K ys i=R K xs i)->Ch K xs a l e->Ch K ys a l e
 | [],a,e,_,h=>h
 |t::r,a,e,H,h=>by have:=h.2.2.2.len;refine⟨h.1,h.2.1,λi j k b c=>?_,Ch.same (λi k b=>H i (by lia) b) h.2.2.2⟩;rw[H i k (by lia),H j (by lia) (by lia)];exact h.2.2.1 i j k b c
theorem Ch.modify{f:Nat×Nat×Nat->Nat×Nat×Nat}(H:∀t,(f t).1=t.1/\(f t).2.1=t.2.1):∀{l:List (Nat×Nat×Nat)} {i a e:Nat},Ch K xs a l e->Ch K xs a (l.modify i f) e
 | [],i,a,e,h=>by simp_all
 |t::r,0,a,e,h=>by obtain⟨b,c,d,g⟩:=h;refine⟨(H t).1.trans b,by simp_all,by simp_all,by simp_all⟩
 |t::r,i+1,a,e,h=>by exact⟨h.1,h.2.1,h.2.2.1,Ch.modify H h.2.2.2⟩
theorem HA{j:Nat}(h:j+1<L.length):L=L.take j++L[j]::L[j+1]::L.drop (j+2):=by simp_all
theorem HB{j:Nat}{x:Nat×Nat×Nat}(h:j+1<L.length):(L.set j x).eraseIdx (j+1)=L.take j++x::L.drop (j+2):=by rw[List.eraseIdx_eq_take_drop_succ,List.take_succ,List.take_set_of_le (Zg _),List.getElem?_set_self (by lia),List.drop_set_of_lt (by lia)];simp
end
section
variable {K:Keyed->Nat}
structure SI (a0:Array Keyed)(κ:SortKind)(K:Keyed->Nat)(lo:Nat)(st:SortSt):Prop where
 b:SB a0 κ st
 ch:Ch K (arrOf st) 0 (pendingOf st).toList lo
 le:lo<=a0.size
theorem zt(C:jk prog w A s κ (· ∈a0.toList) K){lo j:Nat}(I:SI a0 κ K lo st)(N:j+1<(pendingOf st).size){Q:Bool->SortSt->Prop}(h:∀S,SI a0 κ K lo S->(pendingOf S).size+1=(pendingOf st).size->(∀i,lo<=i->(arrOf S)[i]?=(arrOf st)[i]?)->Q true S):wpS (model prog w) A E s (mergeAt' j) Q st:=by
 have l:j+1<(pendingOf st).toList.length:=by rwa [Zt]
 have e:=HA l;have k:=I.ch;rw[e]at k;obtain⟨m,f,r⟩:=k.app
 have G:(pendingOf st)[j]?=some ((pendingOf st).toList[j].1,(pendingOf st).toList[j].2.1,(pendingOf st).toList[j].2.2):=by rw[<-ZQ,Zj]
 have q:(pendingOf st)[j+1]?=some ((pendingOf st).toList[j+1].1,(pendingOf st).toList[j+1].2.1,(pendingOf st).toList[j+1].2.2):=by rw[<-ZQ,Zj]
 have p:=HB (L:=(pendingOf st).toList) (j:=j) (x:=((pendingOf st).toList[j].1,(pendingOf st).toList[j].2.1+(pendingOf st).toList[j+1].2.1,(pendingOf st).toList[j].2.2)) l;generalize(pendingOf st).toList[j]=t at*;generalize(pendingOf st).toList[j+1]=u at*;obtain⟨T,a,b⟩:=t;obtain⟨O,U,P⟩:=u;obtain⟨rfl,B,D,F⟩:=r;obtain⟨rfl,J,M,o⟩:=F;dsimp only at*;have v:=o.len;refine Hz C I.b G q B J (by have:=I.le;lia) D M λY g y c z=>?_
 have d:(((pendingOf st).setIfInBounds j (T,a+U,b)).eraseIdxIfInBounds (j+1)).toList=(pendingOf st).toList.take j++(T,a+U,b)::(pendingOf st).toList.drop (j+2):=by rw[Array.toList_eraseIdxIfInBounds,Array.toList_setIfInBounds,p]
 have n:=f.len;refine h _ ⟨⟨y.trans I.b.perm,I.b.failed,I.b.kind⟩,?_,I.le⟩ ?_ λi H=>c i (.inr (by lia))
 ·show Ch K Y 0 (((pendingOf st).setIfInBounds j (T,a+U,b)).eraseIdxIfInBounds (j+1)).toList lo;rw[d];refine(f.same λi _ H=>dW (c i (.inl H))).join ⟨rfl,by dsimp only;lia,?_,?_⟩
  ·dsimp only;rw[<-Nat.add_assoc];exact z
  ·dsimp only;rw[<-Nat.add_assoc];exact o.same λi H _=>dW (c i (.inr H))
 ·show(((pendingOf st).setIfInBounds j (T,a+U,b)).eraseIdxIfInBounds (j+1)).size+1=_;rw[<-Zt,d,<-Zt];simp only[ZA,List.length_take,ZO,List.length_drop];lia
end
end Srt
end
section
set_option autoImplicit false
namespace Srt
section
variable {K:Keyed->Nat}
theorem HC{a:Type}{c:Nat->Prop}{d:∀n,Decidable (c n)}{f T:Nat->StateT SortSt Sem a}{Q:a->SortSt->Prop}{C:Nat->SortSt->Prop}{H:Nat->Prop}(k:∀n S,C n S->wpS (model prog w) A E s (f n) Q S)(h1:∀n,H n->c n->(∀n S,C n S->wpS (model prog w) A E s (f n) Q S)->wpS (model prog w) A E s (T n) Q st)(h:∀n,H n->¬c n->C n st):
  ∀n,H n->wpS (model prog w) A E s (if c n then T n else f n) Q st:=λn b=>by
 grind
theorem HD(C:jk prog w A s κ (· ∈a0.toList) K)(hB:SB a0 κ st)(X:pendingOf st= #[])(h2:2<=a0.size){Q:Unit->SortSt->Prop}(h:∀d,SB a0 κ d->SR K (arrOf d) 0 a0.size->Q () d):wpS (model prog w) A E s sortRuns' Q st:=by
 have Z:=hB.size;rw[sortRuns'_eq];refine Zo (wpS_get ?_);dsimp-zeta only;rw[Z];refine Zo (wpS_mono (Yd (I:=λx c d=>∃l,c=(none,l)/\SI a0 κ K l d/\x<=l) (Q:=λc d=>∃l,c=(none,l)/\SI a0 κ K l d/\a0.size<=l) ?_ ?_ ⟨0,rfl,⟨hB,by rw[X];rfl,by lia⟩,by lia⟩) ?_)
 ·rintro x c v _ hx ⟨l,rfl,I,hxl⟩;by_cases q:l>=a0.size
  ·exact cq q (Zs ⟨l,rfl,I,q⟩)
  refine bR q (Zo (Hu C I.b (lo:=l) (nrem:=a0.size-l) (by lia) (by lia) λm ys V hF m1 m2 G=>?_));have B:∀{zs:Array Keyed},(∀i,i<l->zs[i]?=(arrOf v)[i]?)->Ch K zs 0 (pendingOf v).toList l:=λJ=>I.ch.same λi _ z=>dW (J i z);have H:1<=m/\m<=a0.size-l/\SR K ys l (l+m):=⟨m1,m2,G⟩;revert H;clear m1 m2 G;generalize m=m';revert m';refine HC (C:=λn a=>(SB a0 κ a/\Ch K (arrOf a) 0 (pendingOf a).toList l)/\SR K (arrOf a) l (l+n)/\1<=n/\l+n<=a0.size) (λn a hC=>?_) (λn F o key=>?_) (λn F o=>⟨⟨I.b.arr V,B λi z=>hF i (.inl z)⟩,F.2.2,F.1,by have:=F.2.1;lia⟩)
  ·obtain⟨R,G,n1,n2⟩:=hC;have p:∀S,SB a0 κ S->Ch K (arrOf S) 0 (pendingOf S).toList l->SR K (arrOf S) l (l+n)->SI a0 κ K (l+n) (setPending S ((pendingOf S).push (l,n,0))):=λS M c3 s3=>⟨⟨M.perm,M.failed,M.kind⟩,by show Ch K (arrOf S) 0 ((pendingOf S).push (l,n,0)).toList (l+n);rw[Array.toList_push];exact c3.join ⟨rfl,n1,s3,rfl⟩,n2⟩;refine Zo (wpS_get ?_);cases hbk:(pendingOf a).back? with
   |none=>exact Zo (wpS_modify (Zs ⟨l+n,rfl,p a R.1 R.2 G,by lia⟩))
   |some t=>
    refine Zo (wpS_mono (Yd (I:=λy c S=>c=(none,())/\(SB a0 κ S/\Ch K (arrOf S) 0 (pendingOf S).toList l)/\SR K (arrOf S) l (l+n)) (Q:=λc S=>c=(none,())/\(SB a0 κ S/\Ch K (arrOf S) 0 (pendingOf S).toList l)/\SR K (arrOf S) l (l+n)) ?_ ?_ ⟨rfl,R,G⟩) ?_)
    ·rintro y c S _ hy ⟨rfl,b,g⟩;refine Zo (wpS_get ?_);dsimp only;by_cases e:(pendingOf S).size>1
     ·have e1:(if(pendingOf S).size>1 then(pendingOf S)[(pendingOf S).size-2]? else none)=some ((pendingOf S)[(pendingOf S).size-2]'(by lia)):=by rw[if_pos e,getElem?_pos]
      rw[e1];generalize((pendingOf S)[(pendingOf S).size-2]'(by lia))=u;by_cases ho:u.2.2<=power' a0.size (2*t.1+t.2.1) (2*t.1+t.2.1+t.2.1+n) a0.size
      ·exact cq ho (Zs ⟨rfl,b,g⟩)
      ·refine bR ho (Zo (zt C ⟨b.1,b.2,by lia⟩ (by lia) λst4 I4 _ D=>?_));refine bR (by decide) (Zs ⟨rfl,⟨I4.b,I4.ch⟩,λi j k1 k2 k3=>?_⟩);rw[dW (D i k1),dW (D j (by lia))];exact g i j k1 k2 k3
     ·rw[if_neg e];exact Zs ⟨rfl,b,g⟩
    ·rintro c S hh;exact hh
    ·rintro c S ⟨rfl,b,g⟩;refine Zo (wpS_modify ?_);refine Zo (wpS_modify (Zs ⟨l+n,rfl,p _ ⟨b.1.perm,b.1.failed,b.1.kind⟩ ?_ g,by lia⟩));show Ch K (arrOf S) 0 ((pendingOf S).modify _ _).toList l;rw[Array.toList_modify];exact Ch.modify (f:=λx=>(x.1,x.2.1,power' a0.size (2*t.1+t.2.1) (2*t.1+t.2.1+t.2.1+n) a0.size)) (λ_=>⟨rfl,rfl⟩) b.2
  ·refine Zo (wpS_lift (wpAny_rule ⟨rfl,?_⟩));obtain⟨hm1,hm2,U⟩:=F;have o:n<minRun' a0.size a0.size 0:=o;refine Zo (Hy C (I.b.arr V) (lo:=l) (by lia) (by lia) U λzs W P Y=>?_);refine bR (by decide) (key _ _ ⟨⟨I.b.arr (W.trans V),B λi z=>(P i (.inl z)).trans (hF i (.inl z))⟩,Y,by lia,by lia⟩)
 ·rintro c d ⟨l,rfl,I,hx⟩;exact⟨l,rfl,I,by lia⟩
 ·rintro c v ⟨l,rfl,I,hx⟩;have O:l=a0.size:=by have:=I.le;lia
  subst O;refine Zo (wpS_mono (Yd (I:=λy c a=>c=(none,())/\SI a0 κ K a0.size a/\(pendingOf a).size<=1+(a0.size-y)) (Q:=λc a=>c=(none,())/\SI a0 κ K a0.size a/\(pendingOf a).size<=1) ?_ ?_ ⟨rfl,I,?_⟩) ?_)
  ·rintro y c a _ hy ⟨rfl,k,J⟩;refine Zo (wpS_get ?_);by_cases e:(pendingOf a).size<=1
   ·exact cq e (Zs ⟨rfl,k,e⟩)
   ·refine bR e (Zo (zt C k (by have T:∀(c:Prop) [Decidable c] (x y:Nat),x<=y->(if c then x else y)<=y:=(λc _ x y hxy=>by split<;>lia);exact Nat.lt_of_le_of_lt (Nat.succ_le_succ (T _ _ _ (Nat.sub_le _ 1))) (by lia)) λS I3 hz3 _=>?_));exact bR (by decide) (Zs ⟨rfl,I3,by lia⟩)
  ·rintro c a ⟨rfl,k,J⟩;exact⟨rfl,k,by lia⟩
  ·have:=I.ch.len;rw[Zt]at this;lia
  ·rintro c a ⟨rfl,k,J⟩;refine Zs (h a k.b ?_);have o:=k.ch;have hl:(pendingOf a).toList.length<=1:=by rwa [Zt]
   generalize(pendingOf a).toList=L at o hl;cases L with
   |nil=>exact absurd (show 0=a0.size from o) (by lia)
   |cons t r=>
    cases r with
    |nil=>obtain⟨e1,e2,e3,N⟩:=o;have N:0+t.2.1=a0.size:=N;rw[N]at e3;exact e3
    |cons _ _=>simp at hl
end
end Srt
end
section
set_option autoImplicit false
namespace Py
open PySem PySem.W PySem.Spec PyProof.Rows Srt
structure gk (n:Nat)(c:Nat->Nat->Bool):Prop where
 irr:∀i,i<n->c i i=false
 asym:∀i j,i<n->j<n->c i j=true->c j i=false
 ntr:∀i j k,i<n->j<n->k<n->c i j=false->c j k=false->c i k=false
noncomputable def br(n:Nat)(c:Nat->Nat->Bool)(i:Nat):Nat:=((List.range n).filter λj=>c j i).length
theorem tG{f g:Nat->Bool}:∀(l:List Nat),(∀x∈l,f x=true->g x=true)->(l.filter f).length<=(l.filter g).length
 | [],_=>Zg _
 |x::l,h=>by
  have i:=tG l λy H=>h y (Zc _ H)
  grind
theorem tH{f g:Nat->Bool}:∀(l:List Nat),(∀x∈l,f x=true->g x=true)->(∃x∈l,f x=false/\g x=true)->(l.filter f).length<(l.filter g).length
 | [],_,h=>by simp_all
 |x::l,h,k=>by
  have a:=λy H=>h y (Zc x H);have le:=tG l a;rw[List.filter_cons,List.filter_cons];cases e:f x<;>cases E:g x
  ·obtain⟨y,H,K,b⟩:=k;rcases Zn.mp H with rfl|H
   ·simp_all
   ·exact tH l a ⟨y,H,K,b⟩
  ·exact Nat.lt_succ_of_le le
  ·simp_all
  ·obtain⟨y,H,K,b⟩:=k;rcases Zn.mp H with rfl|H
   ·simp_all
   ·exact Nat.succ_lt_succ (tH l a ⟨y,H,K,b⟩)
theorem zu{c:Nat->Nat->Bool}(o:gk n c){i j:Nat}(hi:i<n)(a:j<n):c i j=decide (br n c i<br n c j):=by
 cases e:c i j with
 |true=>
  refine(ZR (tH (f:=λk=>c k i) _ (λk H h=>?_) ⟨i,ZT.mpr hi,o.irr i hi,e⟩)).symm;have H:=ZT.mp H;cases E:c k j with
  |true=>rfl
  |false=>have:=o.ntr k j i H a hi E (o.asym i j hi a e);simp_all
 |false=>
  refine(ZK (Nat.not_lt.mpr (tG _ λk H h=>?_))).symm;have H:=ZT.mp H;cases E:c k i with
  |true=>rfl
  |false=>have:=o.ntr k i j H hi a E e;simp_all
theorem HE{c:Type}{f:c->β}:∀{l2 m:List β},l2.Perm m->∀l1:List c,m=l1.map f->∃l:List c,l.Perm l1/\l.map f=l2:=by
 intro l2 m p
 induction p with
 |nil=>simp_all
 |cons x p k=>
  intro l1 e;cases l1 with
  |nil=>cases e
  |cons a l1=>obtain⟨d,E⟩:=List.cons.inj e;obtain⟨l,h,H⟩:=k _ E;exact⟨_,h.cons a,by simp_all⟩
 |swap x y l=>
  intro l1 e;cases l1 with
  |nil=>cases e
  |cons a l1=>
   obtain⟨d,E⟩:=List.cons.inj e;cases l1 with
   |nil=>cases E
   |cons b l1=>exact⟨_,.swap a b _,by simp_all⟩
 |trans p q i I=>intro l1 e;obtain⟨l,h,H⟩:=I _ e;obtain⟨L,g,j⟩:=i l H.symm;exact⟨_,g.trans h,j⟩
open Classical in
noncomputable def gm(its:Lv)(x:Keyed):Nat:=if h:∃i,i<its.length/\its.getD i Value.none=x.1 then h.choose else 0
theorem nJ{c:Nat->Nat->Bool}(o:gk its.length c)(same:∀i j,i<its.length->j<its.length->its.getD i Value.none=its.getD j Value.none->br its.length c i=br its.length c j)(n:2<=its.length)
  (m:∀i j C,i<its.length->j<its.length->C (c i j) s->kas_ask prog w A κ its i j C s) {Q:SortSt->Shared->Prop}
  (h:∀(S:SortSt) (p:List Nat),failedOf S=none->(arrOf S).map (·.2)=List.toArray (p.map λi=>its.getD i Value.none)->p.Perm (List.range its.length)->p.Pairwise (λi j=>c j i=false)->Q S s):
  wpAny (model prog w) A ((sortRuns').run (SortSt.mk' κ (its.toArray.zip its.toArray) #[] 7 none)) (λr s'=>Q r.2 s') E s:=by
 have a:∀i,i<its.length->gm its (its.getD i Value.none,its.getD i Value.none)<its.length/\its.getD (gm its (its.getD i Value.none,its.getD i Value.none)) Value.none=its.getD i Value.none:=λi H=>by have b:∃j,j<its.length/\its.getD j Value.none=its.getD i Value.none:=⟨i,H,rfl⟩;unfold gm;rw[dif_pos b];exact b.choose_spec
 have d:∀x∈(its.toArray.zip its.toArray).toList,∃i,i<its.length/\x=(its.getD i Value.none,its.getD i Value.none):=λx b=>by
  rw[Array.toList_zip]at b;obtain⟨i,H,rfl⟩:=Zy.mp b;have f:i<its.length:=by simp at H;exact H
  refine⟨i,f,?_⟩;have e:its.getD i Value.none=its[i]:=by simp[List.getD,f]
  rw[e];simp
 have C:jk prog w A s κ (· ∈(its.toArray.zip its.toArray).toList) (λx=>br its.length c (gm its x)):=⟨λx b y V Q E J=>by obtain⟨i,H,rfl⟩:=d x b;obtain⟨j,l,rfl⟩:=d y V;obtain⟨K,W⟩:=a i H;obtain⟨L,X⟩:=a j l;rw[<-zu o K L]at J;have:=m _ _ Q K L J;unfold kas_ask at this;rw[W,X]at this;exact wpAny_mono this (λ_ _ q=>q) λ_ _ z=>z.elim⟩;have D:(its.toArray.zip its.toArray).size=its.length:=by simp
 have F:=HD (E:=E) (st:=SortSt.mk' κ (its.toArray.zip its.toArray) #[] 7 none) C ⟨.refl _,rfl,rfl⟩ rfl (by rw[D];exact n) (Q:=λ_ S=>Q S s) λS B T=>by
  have v:(its.toArray.zip its.toArray).toList=(List.range its.length).map λi=>(its.getD i Value.none,its.getD i Value.none):=by
   apply List.ext_getElem
   ·simp
   ·intro i h1 n;have H:i<its.length:=by simpa using n
    have e:its.getD i Value.none=its[i]:=by simp[List.getD,H]
    simp only[List.getElem_map,List.getElem_range,e];simp
  obtain⟨p,P,M⟩:=HE (Array.perm_iff_toList_perm.mp B.perm) _ v;refine h S p B.failed ?_ P ?_
  ·apply Array.toList_inj.mp;rw[Array.toList_map,<-M,ZP];rfl
  ·refine Ya.mpr λi j H l t=>?_;have O:p.length=its.length:=by rw[P.length_eq,List.length_range]
   have Y:p[i]<its.length:=ZT.mp (P.mem_iff.mp (List.getElem_mem H));have Z:p[j]<its.length:=ZT.mp (P.mem_iff.mp (List.getElem_mem l));have U:(arrOf S).size=its.length:=by rw[B.perm.size_eq,D]
   have:=T i j (Yj _) (Nat.le_of_lt t) (by rw[D];omega)
   have I:∀(k:Nat) (u:k<p.length),R (λx=>br its.length c (gm its x)) (arrOf S) k=br its.length c p[k]:=λk u=>by
    have g:k<(arrOf S).size:=by omega
    rw[cm g]
    have e:(arrOf S)[k]=(its.getD p[k] Value.none,its.getD p[k] Value.none):=by
     have G:(arrOf S).toList[k]?=some (its.getD p[k] Value.none,its.getD p[k] Value.none):=by rw[<-M,List.getElem?_map,Zj u];rfl
     rw[ZQ,getElem?_pos (arrOf S) k g]at G;exact Option.some.inj G
    rw[e];have N:p[k]<its.length:=ZT.mp (P.mem_iff.mp (List.getElem_mem u));obtain⟨q1,q2⟩:=a p[k] N;exact same _ _ q1 N q2
   rw[I i H,I j l]at this;rw[zu o Z Y];exact ZK (by omega)
 exact wpAny_mono F (λr s' v=>by obtain⟨rfl,q⟩:=v;exact q) λ_ _ e=>e
end Py
end
namespace Py
structure gW (P:D->Prop)(f:D->D->Bool):Prop where
 irr:∀x,P x->f x x=false
 asym:∀x y,P x->P y->f x y=true->f y x=false
 ntr:∀x y z,P x->P y->P z->f x y=false->f y z=false->f x z=false
 tot:∀x y,P x->P y->f x y=false->f y x=false->x=y
section
variable {P:D->Prop}{f:D->D->Bool}
theorem zv(o:gW P f):∀(xs:List D),(∀x∈xs,P x)->bO f xs xs=false
 | [],_=>rfl
 |x::xs,h=>by unfold bO;rw[o.irr x (h x Zd)];simpa using zv o _ λy H=>h y (Zc _ H)
theorem zw(o:gW P f):∀(xs ys:List D),(∀x∈xs,P x)->(∀x∈ys,P x)->bO f xs ys=true->bO f ys xs=false
 | [],[],_,_,h=>rfl
 | [],_::_,_,_,_=>rfl
 |_::_,[],_,_,h=>by cases h
 |x::xs,y::ys,a,b,h=>by
  unfold bO at h⊢;have p:=a x Zd;have c:=b y Zd;cases e:f x y with
  |true=>rw[o.asym x y p c e];simp
  |false=>
   rw[e]at h;cases E:f y x with
   |true=>simp_all
   |false=>rw[E]at h;exact zw o _ _ (λz H=>a z (Zc _ H)) (λz H=>b z (Zc _ H)) h
theorem lex_tot(o:gW P f):∀(xs ys:List D),(∀x∈xs,P x)->(∀x∈ys,P x)->bO f xs ys=false->bO f ys xs=false->xs=ys
 | [],[],_,_,_,_=>rfl
 | [],_::_,_,_,h,_=>by cases h
 |_::_,[],_,_,_,h=>by cases h
 |x::xs,y::ys,b,c,h,H=>by
  unfold bO at h H;have p:=b x Zd;have d:=c y Zd;cases e:f x y with
  |true=>simp_all
  |false=>
   cases E:f y x with
   |true=>simp_all
   |false=>rw[e,E]at h H;rw[o.tot x y p d e E,lex_tot o _ _ (λz a=>b z (Zc _ a)) (λz a=>c z (Zc _ a)) h H]
theorem zx(o:gW P f):∀(xs ys zs:List D),(∀x∈xs,P x)->(∀x∈ys,P x)->(∀x∈zs,P x)->bO f xs ys=false->bO f ys zs=false->bO f xs zs=false
 | [],[],zs,_,_,_,_,h=>h
 | [],_::_,_,_,_,_,h,_=>by cases h
 |_::_,_,[],_,_,_,_,_=>rfl
 |x::xs,[],z::zs,_,_,_,_,h=>by cases h
 |x::xs,y::ys,z::zs,i,j,k,a,b=>by
  have p:=i x Zd;have c:=j y Zd;have d:=k z Zd;unfold bO at a b⊢;cases e:f x y with
  |true=>simp_all
  |false=>
   cases E:f y z with
   |true=>simp_all
   |false=>
    rw[e]at a;rw[E]at b;rw[o.ntr x y z p c d e E];cases g:f z x with
    |true=>rfl
    |false=>have l:=o.ntr y z x c d p E g;have m:=o.ntr z x y d p c g e;rw[l]at a;rw[m]at b;exact zx o _ _ _ (λw H=>i w (Zc _ H)) (λw H=>j w (Zc _ H)) (λw H=>k w (Zc _ H)) a b
end
theorem dr(h:aw .int d=true):∃i,d=.int i:=by cases d<;>first|lia| (simp[aw]at h)
theorem cX{t:ei}(h:aw (.seq t) d=true):∃xs,d=.tup xs/\∀x∈xs,aw t x=true:=by
 cases d with
 |tup xs=>exact⟨_,rfl,λx H=>ZG.mp h x H⟩
 |_=>simp[aw]at h
theorem fA:∀(t:ei),bP t=true->gW (λd=>aw t d=true) (bL t)
 | .int,_=>by
  refine⟨λx h=>?_,λx y H a h=>?_,λx y z H a f b c=>?_,λx y H a b c=>?_⟩
  ·obtain⟨i,rfl⟩:=dr h;simp[bL]
  ·obtain⟨i,rfl⟩:=dr H;obtain⟨j,rfl⟩:=dr a;simp[bL]at h⊢;omega
  ·obtain⟨i,rfl⟩:=dr H;obtain⟨j,rfl⟩:=dr a;obtain⟨k,rfl⟩:=dr f;simp[bL]at b c⊢;omega
  ·obtain⟨i,rfl⟩:=dr H;obtain⟨j,rfl⟩:=dr a;simp[bL]at b c;congr 1;omega
 | .seq t,h=>by
  have o:=fA t h;refine⟨λx h=>?_,λx y H a h=>?_,λx y z H a f b c=>?_,λx y H a b c=>?_⟩
  ·obtain⟨X,rfl,k⟩:=cX h;exact zv o X k
  ·obtain⟨X,rfl,K⟩:=cX H;obtain⟨Y,rfl,e⟩:=cX a;exact zw o X Y K e h
  ·obtain⟨X,rfl,K⟩:=cX H;obtain⟨Y,rfl,e⟩:=cX a;obtain⟨Z,rfl,g⟩:=cX f;exact zx o X Y Z K e g b c
  ·obtain⟨X,rfl,K⟩:=cX H;obtain⟨Y,rfl,e⟩:=cX a;exact congrArg D.tup (lex_tot o X Y K e b c)
def dt(t:ei)(d e:D):Bool:= !bL t d e&& !bL t e d
theorem zy{t:ei}(hs:bP t=true){e:D}(h1:aw t d=true)(H:aw t e=true)(h:dt t d e=true):d=e:=by unfold dt at h;simp at h;exact(fA t hs).tot d e h1 H h.1 h.2
theorem iT{f:D->D->Bool}{x y:D}:bO f (x::xs) (y::ys)=if f x y=true then true else if f y x=true then false else bO f xs ys:=rfl
theorem zA{t:ei}(hs:bP t=true):∀(xs ys:List D),(∀x∈xs,aw t x=true)->(∀x∈ys,aw t x=true)->dt (.seq t) (.tup xs) (.tup ys)=((List.zipWith (dt t) xs ys).all id&&xs.length==ys.length)
 | [],[],_,_=>rfl
 | [],y::ys,_,_=>rfl
 |x::xs,[],_,_=>rfl
 |x::xs,y::ys,H,a=>by
  have i:=zA hs _ _ (λw h=>H w (Zc _ h)) λw h=>a w (Zc _ h);cases e:bL t x y with
  |true=>simp[dt,bL,bO,e]
  |false=>
   cases E:bL t y x with
   |true=>simp[dt,bL,bO,E]
   |false=>
    have b:dt t x y=true:=by simp[dt,e,E]
    have c:dt (.seq t) (.tup (x::xs)) (.tup (y::ys))=dt (.seq t) (.tup xs) (.tup ys):=by show(!bO _ _ _&& !bO _ _ _)=(!bO _ _ _&& !bO _ _ _);rw[iT,iT,e,E];simp
    simp_all
theorem allO_map(f:D->D->Bool):∀(xs ys:List D) (g:D->D->Option Bool),(∀x∈xs,∀y∈ys,g x y=some (f x y))->bv (List.zipWith g xs ys)=some ((List.zipWith f xs ys).all id)
 | [],_,_,_=>rfl
 |_::_,[],_,_=>rfl
 |x::xs,y::ys,g,h=>by
  have i:=allO_map f _ _ g λa H b d=>h a (Zc _ H) b (Zc _ d)
  show(match g x y,bv _ with
   |some b,some c=>some _
   |_,_=>none)=_
  simp_all
theorem zB{t:ei}(hs:bP t=true){eq lt:D->D->Option Bool}:∀(xs ys:List D),(∀x∈xs,aw t x=true)->(∀x∈ys,aw t x=true)->(∀x∈xs,∀y∈ys,eq x y=some (dt t x y)/\lt x y=some (bL t x y))->vJ eq lt xs ys=some (bO (bL t) xs ys)
 | [],[],_,_,_=>rfl
 | [],_::_,_,_,_=>rfl
 |_::_,[],_,_,_=>rfl
 |x::xs,y::ys,d,f,h=>by
  have I:=zB hs _ _ (λw H=>d w (Zc _ H)) (λw H=>f w (Zc _ H)) λa g b i=>h a (Zc _ g) b (Zc _ i);unfold vJ;rw[iT];cases e:bL t x y with
  |true=>
   have E:dt t x y=false:=by simp[dt,e]
   simp_all
  |false=>
   cases c:bL t y x with
   |true=>
    have E:dt t x y=false:=by simp[dt,c]
    simp_all
   |false=>
    have E:dt t x y=true:=by simp[dt,e,c]
    simp_all
theorem HF(S:aa):∀(t:ei),bP t=true->∀n,ck t<=n->∀d e,aw t d=true->aw t e=true->cF S n d e=some (dt t d e)/\jy S n d e=some (bL t d e)
 | .int,_,0,h,_,_,_,_=>by simp[ck]at h
 | .int,_,n+1,_,d,e,a,b=>by
  obtain⟨i,rfl⟩:=dr a;obtain⟨j,rfl⟩:=dr b;refine⟨?_,rfl⟩;show some (i==j)=some (!decide (i<j)&& !decide (j<i));congr 1;by_cases z:i=j
  ·subst z;simp
  ·rcases Int.lt_or_gt_of_ne z with y|y
   ·simp[z,y]
   ·have:¬i<j:=by omega
    simp[z,y]
 | .seq t,H,0,h,_,_,_,_=>by simp[ck]at h
 | .seq t,H,n+1,h,d,e,a,b=>by obtain⟨X,rfl,k⟩:=cX a;obtain⟨Y,rfl,K⟩:=cX b;have I:=HF S t H n (by simpa[ck]using h);refine⟨?_,zB (t:=t) H X Y k K λx c y f=>I x y (k x c) (K y f)⟩;show(bv (List.zipWith (cF S n) X Y)).map (· &&X.length==Y.length)=_;rw[allO_map (dt t) X Y _ λx c y f=>(I x y (k x c) (K y f)).1,zA (t:=t) H X Y k K];rfl
theorem nK(f:D->D->Bool)(x:D):∀l,(insB f x l).Perm (x::l)
 | []=>.refl _
 |y::Y=>by
  unfold insB;split
  ·exact .refl _
  ·exact((nK f x _).cons y).trans (.swap _ _ _)
theorem iU(f:D->D->Bool)(xs:List D):(eQ f xs).Perm xs:=by
 have k:∀(xs a:List D),(xs.foldl (λa x=>insB f x a) a).Perm (a++xs):=by
  intro xs
  induction xs with
  |nil=>simp_all
  |cons x xs i=>intro a;refine(i _).trans ?_;refine((nK f x _).append_right _).trans ?_;exact List.perm_middle.symm
 simpa[eQ]using k _ []
theorem zC{P:D->Prop}{f:D->D->Bool}(o:gW P f)(x:D)(p:P x):∀l,(∀y∈l,P y)->l.Pairwise (λa b=>f b a=false)->(insB f x l).Pairwise (λa b=>f b a=false)
 | [],_,_=>by simp[insB]
 |y::k,d,h=>by
  unfold insB;have e:=d y Zd;obtain⟨g,i⟩:=ZH.mp h;split
  ·rename_i c;refine ZH.mpr ⟨λz H=>?_,h⟩;have Y:=o.asym x y p e c;rcases Zn.mp H with rfl|H
   ·exact Y
   ·exact o.ntr z y x (d z (Zc _ H)) e p (g z H) Y
  ·refine ZH.mpr ⟨λz H=>?_,zC o x p _ (λw j=>d w (Zc _ j)) i⟩;rcases Zn.mp ((nK f x _).mem_iff.mp H)with rfl|H
   ·simp_all
   simp_all
theorem zD{P:D->Prop}{f:D->D->Bool}(o:gW P f)(xs:List D)(e:∀x∈xs,P x):(eQ f xs).Pairwise (λa b=>f b a=false):=by
 have k:∀(xs A:List D),(∀x∈xs,P x)->(∀x∈A,P x)->A.Pairwise (λa b=>f b a=false)->(xs.foldl (λA x=>insB f x A) A).Pairwise λa b=>f b a=false:=by
  intro xs
  induction xs with
  |nil=>intro A _ _ h;exact h
  |cons x xs i=>
   intro A c d h;have p:=c x Zd;refine i _ (λy H=>c y (Zc _ H)) (λy H=>?_) (zC o x p _ d h);rcases Zn.mp ((nK f x _).mem_iff.mp H)with rfl|H
   ·exact p
   simp_all
 exact k _ _ e (by simp) .nil
theorem zE{t:ei}(hs:bP t=true)(h:∀x∈xs,aw t x=true)(p:ys.Perm xs)(s:ys.Pairwise (λa b=>bL t b a=false)):ys=eQ (bL t) xs:=by have o:=fA t hs;refine List.Perm.eq_of_pairwise (λa b d e H c=>?_) s (zD o _ h) (p.trans (iU _ _).symm);exact o.tot a b (h a (p.mem_iff.mp d)) (h b ((iU _ _).mem_iff.mp e)) c H
open PySem PySem.W PySem.Spec PyProof.Rows
def gX(its:Lv)(c:Nat->Nat->Bool)(out:Lv):Prop:=∃p:List Nat,out=p.map (λi=>its.getD i Value.none)/\p.Perm (List.range its.length)/\p.Pairwise (λi j=>c j i=false)
theorem zF{T:Nat}{c:Nat->Nat->Bool}{P:PySem.Fin->Shared->Prop}(z:s.heap.get? a=some (seqObj "list" its.toArray T))(l:its.length<=sizeLine)
  (F:2<=its.length->∃κ:SortKind,gk its.length c/\(∀i j,i<its.length->j<its.length->its.getD i Value.none=its.getD j Value.none->br its.length c i=br its.length c j)/\∀h':Heap,(∀b o,b≠a->s.heap.get? b=some o->h'.get? b=some o)->
   (∀(G:SortKind->Shared->Prop),G κ {s with heap:=h'}->wpAny (model prog w) A (keyKind' its.toArray) G E {s with heap:=h'})/\
   ∀i j C,i<its.length->j<its.length->C (c i j) {s with heap:=h'}->kas_ask prog w A κ its i j C {s with heap:=h'})
  (K:∀h' q out,(∀b o,b≠a->s.heap.get? b=some o->h'.get? b=some o)->h'.get? a=some (seqObj "list" (List.toArray out) q)->gX its c out->P (.done (.ret .none)) {s with heap:=h'}):
  wpAny (model prog w) A (Builtin.«list.sort» ⟨[.ref a],[]⟩) P E s:=by
 have W:a<s.heap.objs.size:=Zl z;have U:=Z6 s.heap a (Obj.mapSeq λ_=>(#[]:Av));obtain⟨u,x⟩:∃u,(s.heap.update a (Obj.mapSeq λ_=>(#[]:Av))).get? a=some (seqObj "list" #[] u):=⟨_,get?_update_seq z λ_=> #[]⟩
 have k:∀b o,b≠a->s.heap.get? b=some o->(((s.heap.update a (Obj.mapSeq λ_=>(#[]:Av))).push (seqObj "tuple" its.toArray 0)).push (seqObj "list" #[] 0)).get? b=some o:=λb o y e=>
  Zb _ (Zb _ ((U.2 b y).trans e))
 have m:(((s.heap.update a (Obj.mapSeq λ_=>(#[]:Av))).push (seqObj "tuple" its.toArray 0)).push (seqObj "list" #[] 0)).get? a=some (seqObj "list" #[] u):=Zb _ (Zb _ x);rw[list_sort_plain];refine Za (listItems_at z rfl ?_);refine Za (listUpdate_at z rfl ?_ (by rw[Zv];exact l) (Yj _));refine Za (seqEpoch_at x rfl ?_);refine Za (wpAny_newTuple ?_ (by show its.length<=_;exact l));refine Za (wpAny_newList ?_ (Yj _));refine Z5 ?_;show wpAny (model prog w) A _ P E {s with heap:=((s.heap.update a (Obj.mapSeq λ_=>(#[]:Av))).push (seqObj "tuple" its.toArray 0)).push (seqObj "list" #[] 0)};generalize((s.heap.update a (Obj.mapSeq λ_=>(#[]:Av))).push (seqObj "tuple" its.toArray 0)).push (seqObj "list" #[] 0)=g at*
 have aF:∀(S:SortSt) (out:Lv),(arrOf S).map (·.2)=List.toArray out->failedOf S=none->out.length=its.length->gX its c out->
   wpAny (model prog w) A (do
    let t:=(<-seqEpoch a) !=u
    Builtin.List.listUpdate (.ref a) λ_=>(arrOf S).map (·.2)
    if let some e:=failedOf S then rule "list.sort.comparison-raised";throw e
    if t then rule "list.sort.modified";raiseError "ValueError" "list modified during sort"
    ret .none) P E {s with heap:=g}:=by
  intro S out H v d B;have V:=Z6 g a (Obj.mapSeq λ_=>List.toArray out);obtain⟨q,D⟩:∃q,(g.update a (Obj.mapSeq λ_=>List.toArray out)).get? a=some (seqObj "list" (List.toArray out) q):=⟨_,get?_update_seq m λ_=>List.toArray out⟩;rw[H];refine Za (seqEpoch_at m rfl ?_);refine Za (listUpdate_at m rfl ?_ (Yj _) (by rw[Zv,d];exact Nat.le_succ_of_le l));rw[v];simp only[bne_self_eq_false,Bool.false_eq_true,if_false];exact Ze (K _ q out (λb o y e=>(V.2 b y).trans (k b o y e)) D B)
 by_cases n:2<=its.length
 ·have f:¬its.toArray.size<2:=by rw[Zv];omega
  rw[if_neg f,if_neg f];obtain⟨κ,o,same,F⟩:=F n;obtain⟨N,O⟩:=F g k;refine Za (N _ ?_)
  have R:=nJ (E:=E) o same n O (Q:=λS J=>J={s with heap:=g}/\failedOf S=none/\∃out:Lv,(arrOf S).map (·.2)=List.toArray out/\out.length=its.length/\gX its c out)
   (λS p v H I M=>⟨rfl,v,_,H,by rw[Zf,I.length_eq,List.length_range],p,rfl,I,M⟩)
  refine Za (wpAny_mono R (λr J L=>?_) λ_ _ e=>e);obtain⟨⟨⟩,S⟩:=r;obtain⟨rfl,v,out,H,d,B⟩:=L;exact aF S _ H v d B
 ·have f:its.toArray.size<2:=by rw[Zv];omega
  rw[if_pos f,if_pos f];refine Za (Ze ?_)
  show wpAny (model prog w) A (do
    let t:=(<-seqEpoch a) !=u
    Builtin.List.listUpdate (.ref a) λ_=>(arrOf (SortSt.mk' general' (its.toArray.zip its.toArray) #[] 7 none)).map (·.2)
    if let some e:=failedOf (SortSt.mk' general' (its.toArray.zip its.toArray) #[] 7 none)then rule "list.sort.comparison-raised";throw e
    if t then rule "list.sort.modified";raiseError "ValueError" "list modified during sort"
    ret .none) P E {s with heap:=g}
  refine aF _ its ?_ rfl rfl ⟨List.range its.length,?_,.refl _,?_⟩
  ·show(its.toArray.zip its.toArray).map (·.2)=its.toArray;apply Array.toList_inj.mp;rw[Array.toList_map,Array.toList_zip];exact List.map_snd_zip (Zg _)
  ·refine List.ext_getElem (by simp) λi g n=>?_;simp[g]
  ·match its,n with
   | [],_=>simp
   | [_],_=>simp
   |_::_::_,n=>simp at n
end Py
namespace Py
open PySem PySem.W PySem.Spec PyProof.Rows L2
theorem HG{b:Bool}{l:Addr}{c:Nat->Nat->Bool}{Q:Vs}(u:bI b s.heap l its.toArray)(H:its.length<=sizeLine)
  (q:2<=its.length->∃κ:SortKind,gk its.length c/\(∀i j,i<its.length->j<its.length->its.getD i Value.none=its.getD j Value.none->br its.length c i=br its.length c j)/\∀h':Heap,(∀b o,s.heap.get? b=some o->h'.get? b=some o)->
   (∀(E':Vs) (t:SortKind->Shared->Prop),t κ {s with heap:=h'}->wpAny (model prog w) A.in1.in1 (keyKind' its.toArray) t E' {s with heap:=h'})/\
   ∀i j C,i<its.length->j<its.length->C (c i j) {s with heap:=h'}->kas_ask prog w A.in1.in1 κ its i j C {s with heap:=h'})
  (y:∀(h1 h':Heap) f out,(∀b o,s.heap.get? b=some o->h1.get? b=some o)->(∀b o,h1.get? b=some o->h'.get? b=some o)->h'.get? h1.objs.size=some (seqObj "list" (List.toArray out) f)->gX its c out->Q (.ref h1.objs.size) {s with heap:=h'}):
  wpAny (model prog w) A (call (.builtin "sorted") [.ref l]) Q E s:=by
 refine Calls.call_function_entry kind_sorted plain_sorted entry_sorted (args_sorted1 _) ?_;unfold Builtin.«sorted»;refine Za (m:=checkCount "sorted" 1 1 _) (Ze ?_);have d:its.toArray.size<=sizeLine:=by rw[Zv];exact H
 have G:∀h1:Heap,(∀b o,s.heap.get? b=some o->h1.get? b=some o)->wpAny (model prog w) A.in1 (do
   let l <-newList its
   let _ <-holding [l] (call (.builtin "list.sort") [l])
   ret l) (λaF S=>∃v,aF=.done (.ret v)/\Q v S) E {s with heap:=h1}:=by
  intro h1 k;refine Za (wpAny_newList ?_ H);have a:(h1.push (seqObj "list" its.toArray 0)).get? h1.objs.size=some (seqObj "list" its.toArray 0):=Zi _ rfl;refine Za (Z5 (ZY slot_list_sort ⟨_,a,rfl⟩ entry_list_sort ?body (args_list_sort _)))
  case body=>
   refine zF (c:=c) (s:={s with heap:=h1.push (seqObj "list" its.toArray 0)}) a H (λx=>?_) λh' f out K e O=>?_
   ·obtain⟨κ,o,same,q⟩:=q x;refine⟨κ,o,same,λh' K=>?_⟩;obtain⟨z,B⟩:=q h' λb o e=>K b o (Zx (Zl (k b o e))) (Zb _ (k b o e));exact⟨z _,B⟩
   ·exact⟨_,rfl,Ze ⟨_,rfl,y h1 h' f out k (λb o e=>K b o (Zx (Zl e)) (Zb _ e)) e O⟩⟩
 cases b with
 |true=>obtain⟨o,r,g,n,p⟩:=u;exact Za (wpAny_collect_seq l (.inl rfl) r g p (λh1 k=>by simpa using G h1 k) d)
 |false=>obtain⟨o,r,g,n,p⟩:=u;exact Za (wpAny_collect_seq l (.inr rfl) r g p (λh1 k=>by simpa using G h1 k) d)
theorem zG(I:Inv X pq σ H s)(a:aQ X.K ⟨X.mg,F⟩ μ S H){t:ei}(hs:bP t=true)(g:ck t<=40)(h:A.units+40<cLine){e:D}{z:Value}(h1:aw t d=true)(f:aw t e=true)
  (r:Rep X.K ⟨X.mg,F⟩ μ H d v) (q:RelV v u) (R:Rep X.K ⟨X.mg,F⟩ μ H e v') (Q:RelV v' z):PySem.SeqAt.EqAt A s u z (dt t d e)/\f7 A s u z (bL t d e):=by
 obtain⟨b,c⟩:=HF S t hs _ g d e h1 f;exact⟨(vI I a _ A h d e v _ u z _ r q R Q b).2.2,jA I a _ A h d e v _ u z _ r q R Q c⟩
theorem zH{prog:Program}{w:World}{A:Around}{Q:Bool->Shared->Prop}{t:ei}{b:Bool}(g:b=true->t=.int):∀(ds es:List D) (us zs:Lv) (i:Nat),(∀d∈ds,aw t d=true)->(∀e∈es,aw t e=true)->ds.length=us.length->es.length=zs.length->
  (∀(j:Nat) d e u z,ds[j]?=some d->es[j]?=some e->us[j]?=some u->zs[j]?=some z->PySem.SeqAt.EqAt A s u z (dt t d e)/\f7 A s u z (bL t d e)/\(t=.int->∃a b ta tb,d=.int a/\e=.int b/\u=.int a ta/\z=.int b tb))->
  Q (bO (bL t) ds es) s->KatLex prog w A b (decide (us.length<zs.length)) Q (us.zip zs) i s
 | [],[],us,zs,i,_,_,L,l,_,q=>by have E:us=[]:=ZF L.symm;have f:zs=[]:=ZF l.symm;subst E;subst f;exact kat_nil q
 | [],e::es,us,zs,i,_,_,L,l,_,q=>by
  have E:us=[]:=ZF L.symm;subst E;have:decide (([]:Lv).length<zs.length)=true:=by simp at l⊢;omega
  rw[this,List.zip_nil_left];exact kat_nil q
 |d::ds,[],us,zs,i,_,_,L,l,_,q=>by
  have E:zs=[]:=ZF l.symm;subst E;have:decide (us.length<([]:Lv).length)=false:=by simp
  rw[this,List.zip_nil_right];exact kat_nil q
 |d::ds,e::es,[],zs,i,_,_,L,_,_,_=>by simp at L
 |d::ds,e::es,_::_,[],i,_,_,_,l,_,_=>by simp at l
 |d::ds,e::es,u::us,z::zs,i,I,J,L,l,h,q=>by
  obtain⟨M,O,P⟩:=h 0 d e u z rfl rfl rfl rfl;have G:decide ((u::us).length<(z::zs).length)=decide (us.length<zs.length):=by simp
  rw[G,Yg];refine kat_cons (M prog w _ _ ?_);rw[iT]at q
  have N:∀{k:Bool},bL t d e=k->dt t d e=false->Q k s->KatGo prog w A b (decide (us.length<zs.length)) Q u z (us.zip zs) i false s:=λ{k} n _ o=>by
   clear q;refine kat_no ?_;cases H:(b&&i==0)with
   |false=>exact kat_one u z (O prog w _ _ (by rw[n];exact o))
   |true=>simp only[ZW]at H;obtain⟨a,B,ta,tb,rfl,rfl,rfl,rfl⟩:=P (g H.1);have K:=g H.1;subst K;exact oneLt_int (by rw[show decide (a<B)=k from n];exact o)
  cases E:bL t d e with
  |true=>
   have c:dt t d e=false:=by simp[dt,E]
   rw[E]at q;rw[c];exact N E c (by simpa using q)
  |false=>
   cases f:bL t e d with
   |true=>
    have c:dt t d e=false:=by simp[dt,E,f]
    rw[E,f]at q;rw[c];exact N E c (by simpa using q)
   |false=>
    have c:dt t d e=true:=by simp[dt,E,f]
    rw[E,f]at q;rw[c];refine kat_yes (zH g ds es us zs (i+1) (λx m=>I x (Zc _ m)) (λx m=>J x (Zc _ m)) (by simpa using L) (by simpa using l) (λj C F U Z p r v y=>h (j+1) C F U Z p r v y) (by simpa using q))
end Py
namespace Py
open PySem PySem.W PySem.Spec PyProof.Rows L2
theorem zI{b a:Type}{M:Model}{f:b->Sem a}{g:b->a}:∀(l:List b) {Q:List a->Shared->Prop},(∀v∈l,∀(c:a->Shared->Prop),c (g v) s->wpAny M A (f v) c E s)->Q (l.map g) s->wpAny M A (l.mapM f) Q E s
 | [],_,_,h=>by exact Ze h
 |x::l,Q,H,h=>by rw[List.mapM_cons];exact Za (H x (.head _) _ (Za (zI l (λv d=>H v (.tail _ d)) (Ze h))))
theorem nL{l b:Addr}{vs W:Lv}{k:Bool}{Q:Bool->Shared->Prop}(o:s.heap.IsTuple l vs.toArray)(m:s.heap.IsTuple b W.toArray)(p:A.units<cLine)(q:cG A.in1 s vs W k)(h:Q k s):wpAny (model prog w) A (oneLt' true (.ref l) (.ref b)) Q E s:=by obtain⟨⟨cls,j,f,sl⟩,c,g,n,i⟩:=id o;obtain⟨⟨C,D,d,S⟩,e,H,N,a⟩:=id m;simp only at g i H a;subst g i H a;rw[oneLt'_eq];simp only[if_true];refine Za (wpAny_cRoomFor p ?_);refine Za (wpAny_callSpecialIfBound?_slot ⟨_,c,rfl⟩ PySem.F.slot_tuple_lt (call_meets PySem.F.slot_tuple_lt ⟨_,c,rfl⟩ PySem.F.entry_tuple_lt (PySem.F.args_tuple_lt_2 _ _) (wU l b vs.toArray W.toArray n N j D sl S k) ⟨c,e,by simpa using q,?_⟩));exact Yh h
end Py
namespace Py
open PySem PySem.W PySem.Spec PyProof.Rows L2
def iV:ei->String
 | .int=>"int"
 |_=>"tuple"
theorem kc(I:Inv X pq σ H s){t:ei}(hs:bP t=true)(h:aw t d=true)(r:Rep X.K ⟨X.mg,F⟩ μ H d v)(q:RelV v u):Looks (model X.prog X.w) s.heap (typeOf u) (.type (iV t)):=by
 have tup:∀x,d=.tup x->Looks (model X.prog X.w) s.heap (typeOf u) (.type "tuple"):=by
  rintro x rfl;obtain⟨a,vs,rfl,c,_⟩:=b4 r;cases q;obtain⟨e,_,p,_⟩:=I.tuple c;obtain⟨o,b,f,_⟩:=p;have:=show Looks (model X.prog X.w) _ (typeOf (.ref a)) _ from(Looks.ld b).andThen .now
  simp_all
 cases t with
 |int=>obtain⟨i,rfl⟩:=dr h;cases aK r;obtain⟨T,rfl⟩:=q;exact(show Looks _ _ _ _ from .now)
 |seq t=>obtain⟨x,rfl,_⟩:=cX h;exact tup _ rfl
theorem zJ(I:Inv X pq σ H s){t:ei}(hs:bP t=true):∀(ys:List D) (vs:List V) (its:Lv),(∀d∈ys,aw (.seq t) d=true/\d≠.tup [])->aj X.K ⟨X.mg,F⟩ μ H ys vs->Vals vs its->
  ∃fs,KatTups s.heap its fs/\fs.length=its.length/\∀f∈fs,Looks (model X.prog X.w) s.heap (typeOf f) (.type (iV t))
 | [],vs,its,_,r,q=>by subst r;cases q;exact⟨_,KatTups.nil,rfl,λ_ h=>nomatch h⟩
 |d::ys,vs,its,h,r,q=>by
  obtain⟨v,O,rfl,A,B⟩:=r.uncons;cases q with
  |cons Q z=>
   obtain⟨fs,K,J,L⟩:=zJ I hs _ _ _ (λe l=>h e (Zc _ l)) B z;obtain⟨i,G⟩:=h d Zd;obtain⟨c,rfl,y⟩:=cX i;cases c with
   |nil=>simp_all
   |cons x c=>
    obtain⟨a,as,rfl,u,R⟩:=b4 A;cases Q;obtain⟨N,C,p,_⟩:=I.tuple u;obtain⟨w,W,rfl,E,_⟩:=R.uncons;cases C with
    |cons P M=>
     rename_i f U;obtain⟨o,m,j,n,k⟩:=p;refine⟨f::fs,KatTups.cons m j k (by simp) K,by simp_all,λg b=>?_⟩;rcases Zn.mp b with rfl|b
     ·exact kc I hs (y x Zd) E P
     simp_all
theorem HH(I:Inv X pq σ H s)(sk:aQ X.K ⟨X.mg,F⟩ μ S H){t:ei}(hs:bP t=true)(hd:ck t<=40)(hu:A.units+42<cLine){e:D}{z:Value}(h1:aw (.seq t) d=true)(h2:aw (.seq t) e=true)
  (r1:Rep X.K ⟨X.mg,F⟩ μ H d v) (q1:RelV v u) (r2:Rep X.K ⟨X.mg,F⟩ μ H e v') (q2:RelV v' z) {C:Bool->Shared->Prop}  (hC:C (bL (.seq t) d e) s):wpAny (model X.prog X.w) A (keyLt' (tuples' (Value.type (iV t) !=Value.type "tuple")) u z) C E s:=by
 obtain⟨y,rfl,c⟩:=cX h1;obtain⟨Y,rfl,f⟩:=cX h2;obtain⟨a,as,rfl,ha,r⟩:=b4 r1;obtain⟨b,bs,rfl,h,R⟩:=b4 r2;cases q1;cases q2;obtain⟨U,q,pa,_⟩:=I.tuple ha;obtain⟨Z,x,pb,_⟩:=I.tuple h;obtain⟨oa,P,_,na,L⟩:=pa;obtain⟨ob,T,_,nb,M⟩:=pb;refine kat_lt P L T M ?_;have l1:y.length=U.length:=by rw[r.length,q.length]
 have l2:Y.length=Z.length:=by rw[R.length,x.length]
 have:=zH (prog:=X.prog) (w:=X.w) (A:=A) (s:=s) (Q:=C) (t:=t) (b:=(Value.type (iV t) !=Value.type "tuple")) (λh=>?_) y Y U Z 0 c f l1 l2 (λj d e u z g G V W=>?_) hC
 ·simpa using this
 ·cases t with
  |int=>rfl
  |seq t=>exact absurd h (by show ¬((Value.type "tuple" !=Value.type "tuple")=true);decide)
 ·obtain⟨w1,N,K⟩:=r.get g;obtain⟨w2,O,m⟩:=R.get G;obtain⟨u',k,n⟩:=q.get N;obtain⟨z',l,o⟩:=x.get O;rw[V]at k;cases k;rw[W]at l;cases l;obtain⟨B,J⟩:=zG I sk hs hd (A:=A) (by omega) (c d (ZC g)) (f e (ZC G)) K n m o;refine⟨B,J,λht=>?_⟩;subst ht;obtain⟨i,rfl⟩:=dr (c d (ZC g));obtain⟨j,rfl⟩:=dr (f e (ZC G));cases aK K;cases aK m;obtain⟨ta,rfl⟩:=n;obtain⟨tb,rfl⟩:=o;exact⟨i,j,ta,tb,rfl,rfl,rfl,rfl⟩
theorem zK{A:Around}{t:ei}(hs:bP t=true):∀(ds es:List D) (us zs:Lv),(∀d∈ds,aw t d=true)->(∀e∈es,aw t e=true)->ds.length=us.length->es.length=zs.length->(∀(j:Nat) d e u z,ds[j]?=some d->es[j]?=some e->us[j]?=some u->zs[j]?=some z->PySem.SeqAt.EqAt A s u z (dt t d e)/\f7 A s u z (bL t d e))->cG A s us zs (bO (bL t) ds es)
 | [],[],us,zs,_,_,L,a,_=>by cases ZF L.symm;cases ZF a.symm;exact .nn
 | [],e::es,us,zs,_,_,L,a,_=>by
  cases ZF L.symm;cases zs with
  |nil=>cases a
  |cons z zs=>exact .nc
 |d::ds,[],us,zs,_,_,L,a,_=>by
  cases ZF a.symm;cases us with
  |nil=>cases L
  |cons u us=>exact .cn
 |d::ds,e::es,us,zs,b,f,L,a,g=>by
  cases us with
  |nil=>cases L
  |cons u us=>
   cases zs with
   |nil=>cases a
   |cons z zs=>
    have T:=b d Zd;have o:=f e Zd;obtain⟨c,C⟩:=g 0 d e u z rfl rfl rfl rfl;have n:=fA t hs;cases E:dt t d e with
    |true=>rw[E]at c;have h:=zy hs T o E;subst h;rw[iT,n.irr d T];exact .eq c (zK hs _ _ _ _ (λx H=>b x (Zc _ H)) (λx H=>f x (Zc _ H)) (Nat.succ.inj L) (Nat.succ.inj a) λj d e u z G i k m=>g (j+1) d e u z G i k m)
    |false=>
     rw[E]at c
     have:bO (bL t) (d::ds) (e::es)=bL t d e:=by
      rw[iT];cases l:bL t d e with
      |true=>rfl
      |false=>
       cases p:bL t e d with
       |true=>rfl
       |false=>unfold dt at E;simp_all
     rw[this];exact .lt c C
theorem zL(I:Inv X pq σ H s)(Y:aQ X.K ⟨X.mg,F⟩ μ S H){t:ei}(hs:bP t=true)(B:ck t<=40)(hu:A.units+42<cLine){e:D}{z:Value}(h1:aw (.seq t) d=true)(q:aw (.seq t) e=true)
  (V:Rep X.K ⟨X.mg,F⟩ μ H d v) (T:RelV v u) (W:Rep X.K ⟨X.mg,F⟩ μ H e v') (U:RelV v' z) {C:Bool->Shared->Prop}  (w:C (bL (.seq t) d e) s):wpAny (model X.prog X.w) A (keyLt' oneType' u z) C E s:=by
 obtain⟨xs,rfl,h⟩:=cX h1;obtain⟨ys,rfl,i⟩:=cX q;obtain⟨a,as,rfl,x,r⟩:=b4 V;obtain⟨b,bs,rfl,y,R⟩:=b4 W;cases T;cases U;obtain⟨Z,k,P,_⟩:=I.tuple x;obtain⟨zs,l,Q,_⟩:=I.tuple y;have N:xs.length=Z.length:=by rw[r.length,k.length]
 have O:ys.length=zs.length:=by rw[R.length,l.length]
 refine nL P Q (by omega) (zK hs _ _ _ _ h i N O λj d e u z g G o p=>?_) w;obtain⟨w1,m,K⟩:=r.get g;obtain⟨w2,n,J⟩:=R.get G;obtain⟨u',c,L⟩:=k.get m;obtain⟨z',f,M⟩:=l.get n;rw[o]at c;cases c;rw[p]at f;cases f;exact zG I Y hs B (by lia) (h d (ZC g)) (i e (ZC G)) K L J M
theorem zM(I:Inv X pq σ H s){t:ei}{vs:List V}(h2:2<=its.length)(N:∀y∈ys,aw (.seq t) y=true)(D:dM (ys.headD .non)=true)(W:aj X.K ⟨X.mg,F⟩ μ H ys vs)(G:Vals vs its){Q:SortKind->Shared->Prop}(q:Q oneType' s):wpAny (model X.prog X.w) A (keyKind' its.toArray) Q E s:=by
 have T:∀(i:Nat) (u:Value),its[i]?=some u->∃a U,u=.ref a/\IsTup s.heap a (List.toArray U)/\(i=0->U=[]):=λi u d=>by
  have M:i<its.length:=(Zp.mp d).1;have m:i<ys.length:=by rw[W.length,G.length];exact M
  have O:ys[i]?=some ys[i]:=Zj m;obtain⟨v,Z,k⟩:=W.get O;obtain⟨u',P,k2⟩:=G.get Z;rw[d]at P;cases P;obtain⟨Y,R,_⟩:=cX (N _ (List.getElem_mem m));rw[R]at k;obtain⟨a,as,rfl,ha,ra⟩:=b4 k;cases k2;obtain⟨U,ru,pa,_⟩:=I.tuple ha;refine⟨a,U,rfl,pa,λz=>?_⟩;subst z
  have:ys.headD .non=.tup Y:=by
   cases ys with
   |nil=>cases O
   |cons y ys=>exact R
  rw[this]at D;cases Y with
  |nil=>have:=ra.length;rw[ru.length]at this;exact ZF this.symm
  |cons _ _=>cases D
 have L:∀u∈its,Looks (model X.prog X.w) s.heap (typeOf u) (.type "tuple"):=λu g=>by
  obtain⟨i,d,rfl⟩:=Zy.mp g;obtain⟨a,U,e,p,_⟩:=T i _ (Zj d);rw[e];obtain⟨o,w,K,_⟩:=p;have:=(show Looks (model X.prog X.w) s.heap (typeOf (.ref a)) o.cls from(Looks.ld w).andThen .now)
  rwa [K]at this
 cases its with
 |nil=>simp at h2
 |cons u0 its=>
 obtain⟨c,us0,rfl,p0,z0⟩:=T 0 u0 rfl;cases z0 rfl
 have C:∀u∈Value.ref c::its,∃o,(∀(b:Ov->Shared->Prop),b o s->wpAny (model X.prog X.w) A (firstOfTuple' u) b E s)/\(u=.ref c->o=none):=λu g=>by
  obtain⟨i,d,rfl⟩:=Zy.mp g;obtain⟨a,U,e,p,_⟩:=T i _ (Zj d);have pp:=id p;obtain⟨o,w,K,n,S⟩:=p;refine⟨U[0]?,λb f=>?_,λz=>?_⟩
  ·rw[e,kas_first_eq];refine Za (Looks.here (show Looks (model X.prog X.w) s.heap (typeOf (.ref a)) o.cls from(Looks.ld w).andThen .now) ?_);rw[K,if_neg (by first|decide|simp)];refine Za (listItems_at w S (Ze ?_));simpa using f
  ·rw[e]at z;cases z;obtain⟨o',B,hc',n',l⟩:=p0;rw[w]at B;cases B;rw[S]at l;cases l;rfl
 have J:∀u∈Value.ref c::its,∀(b:Ov->Shared->Prop),b (open Classical in if h:u∈Value.ref c::its then(C u h).choose else none) s->wpAny (model X.prog X.w) A (firstOfTuple' u) b E s:=λu g b f=>by rw[dif_pos g]at f;exact(C u g).choose_spec.1 b f
 have g0:(open Classical in if h:Value.ref c∈Value.ref c::its then(C _ h).choose else none)=none:=by rw[dif_pos Zd];exact(C _ Zd).choose_spec.2 rfl
 rw[keyKind'_eq,List.mapM_toArray,map_eq_pure_bind];refine Za (Za (zI _ J (Ze ?_)));rw[ZX,g0,if_neg (by simp),if_neg (by simp),oneTypeOnly'_eq,List.mapM_toArray,map_eq_pure_bind];refine Za (Za (Za (kas_mapM (r:=.type "tuple") _ (λv G b f=>(L v G).here f) (Ze ?_))));have j:((List.map (λ_=>Value.type "tuple") (Value.ref c::its)).toArray.all λx=>x==Value.type "tuple")=true:=by simp only[List.all_toArray,List.all_map,ZG];intro _ _;exact beq_self_eq_true _
 have D:(List.map (λ_=>Value.type "tuple") (Value.ref c::its)).toArray[0]?=some (Value.type "tuple"):=by simp
 rw[D];simp only[j,if_true];exact Ze (Ze q)
section
variable {t:ei}{vs:List V}
theorem ke(h:iH t ys=true):bP t=true:=by
 cases t with
 |int=>rfl
 |seq t=>unfold iH at h;simp only[ZW]at h;exact h.1
theorem Ms(h:∀y∈ys,aw t y=true)(r:aj X.K ⟨X.mg,F⟩ μ H ys vs)(a:Vals vs its):∀i,i<its.length->∃d v u,ys[i]?=some d/\vs[i]?=some v/\its[i]?=some u/\aw t d=true/\Rep X.K ⟨X.mg,F⟩ μ H d v/\RelV v u/\ys.getD i .non=d/\its.getD i Value.none=u:=λi c=>by
 have l:=r.length;have L:=a.length;have e:ys[i]?=some ys[i]:=Zj _;obtain⟨v,E,k⟩:=r.get e;obtain⟨u,b,K⟩:=a.get E
 grind
theorem HI(I:Inv X pq σ H s)(sk:aQ X.K ⟨X.mg,F⟩ μ S H)(hu:X.A.units+64<cLine)(O:ck t<=40)(p:∀y∈ys,aw t y=true)(P:iH t ys=true)(rr:aj X.K ⟨X.mg,F⟩ μ H ys vs)(hv:Vals vs its)(h2:2<=its.length):
  ∃κ:SortKind,gk its.length (λi j=>bL t (ys.getD i .non) (ys.getD j .non))/\(∀i j,i<its.length->j<its.length->its.getD i Value.none=its.getD j Value.none->br its.length (λi j=>bL t (ys.getD i .non) (ys.getD j .non)) i=br its.length (λi j=>bL t (ys.getD i .non) (ys.getD j .non)) j)/\∀h':Heap,(∀b o,s.heap.get? b=some o->h'.get? b=some o)->
   (∀(E':Vs) (V:SortKind->Shared->Prop),V κ {s with heap:=h'}->wpAny (model X.prog X.w) X.A.in1.in1 (keyKind' its.toArray) V E' {s with heap:=h'})/\
   ∀i j C,i<its.length->j<its.length->C (bL t (ys.getD i .non) (ys.getD j .non)) {s with heap:=h'}->kas_ask X.prog X.w X.A.in1.in1 κ its i j C {s with heap:=h'}:=by
 have U:bP t=true:=ke P;have lo:=fA t U;have a:=Ms p rr hv
 have R:gk its.length (λi j=>bL t (ys.getD i .non) (ys.getD j .non)):=by
  have ty:∀i,i<its.length->aw t (ys.getD i .non)=true:=λi c=>by obtain⟨d,v,u,Y,Z,M,k1,k2,k3,k4,k5⟩:=a i c;rw[k4];exact k1
  exact⟨λi c=>lo.irr _ (ty i c),λi j c m=>lo.asym _ _ (ty i c) (ty j m),λi j k c m hk=>lo.ntr _ _ _ (ty i c) (ty j m) (ty k hk)⟩
 have same:∀i j,i<its.length->j<its.length->its.getD i Value.none=its.getD j Value.none->br its.length (λi j=>bL t (ys.getD i .non) (ys.getD j .non)) i=br its.length (λi j=>bL t (ys.getD i .non) (ys.getD j .non)) j:=λi j c m hij=>by obtain⟨d,v,u,Y,Z,M,r,A,B,D,E⟩:=a i c;obtain⟨W,v',u',K,L,N,g,G,e,f,l⟩:=a j m;rw[E,l]at hij;subst hij;have ev:v=v':=B.inj e;subst ev;have:=wT I sk 40 d W v _ A G (HF S t U 40 O d W r g).1;have hde:=zy U r g this;subst hde;unfold br;simp only[D,f]
 have hu2:(X.A.in1.in1).units+42<cLine:=by show X.A.units+1+1+42<cLine;omega
 cases t with
 |int=>
  refine⟨oneType',R,same,λh' Q=>⟨λE' V q=>?_,λi j C c m J=>?_⟩⟩
  ·have w:Inv X pq σ H {s with heap:=h'}:=I.kept (t':=s.toks) Q;refine kas_kind (T:=.type "int") h2 (λu hu=>?_) (by decide) (by decide) q;obtain⟨i,c,rfl⟩:=Zy.mp hu;obtain⟨d,v,u,Y,Z,M,r,A,B,D,E⟩:=a i c;rw[Zj c]at M;cases M;exact kc (t:=.int) w rfl r A B
  ·obtain⟨d,v,u,Y,Z,M,r,A,B,D,E⟩:=a i c;obtain⟨W,v',u',K,L,N,g,G,e,f,l⟩:=a j m;unfold kas_ask;rw[E,l];rw[D,f]at J;obtain⟨x,rfl⟩:=dr r;obtain⟨y,rfl⟩:=dr g;cases aK A;cases aK G;obtain⟨ta,rfl⟩:=B;obtain⟨tb,rfl⟩:=e;exact kat_lt_int J
 |seq t=>
  unfold iH at P;have hso2:=(Bool.and_eq_true_iff.mp P).2;rcases Bool.or_eq_true_iff.mp hso2 with n|n
  rotate_left
  ·refine⟨oneType',R,same,λh' Q=>⟨λE' V q=>?_,λi j C c m J=>?_⟩⟩
   ·have w:Inv X pq σ H {s with heap:=h'}:=I.kept (t':=s.toks) Q;exact zM w h2 p n rr hv q
   ·have w:Inv X pq σ H {s with heap:=h'}:=I.kept (t':=s.toks) Q;obtain⟨d,v,u,Y,Z,M,r,A,B,D,E⟩:=a i c;obtain⟨W,v',u',K,L,N,g,G,e,f,l⟩:=a j m;unfold kas_ask;rw[E,l];rw[D,f]at J;exact zL (t:=t) w sk U (by simp[ck]at O;omega) hu2 r g A B G e J
  have hne:∀y∈ys,aw (.seq t) y=true/\y≠.tup []:=λy hy=>⟨p y hy,λz=>by have:=ZG.mp n y hy;rw[z]at this;cases this⟩;refine⟨tuples' (Value.type (iV t) !=Value.type "tuple"),R,same,λh' Q=>⟨λE' V q=>?_,λi j C c m J=>?_⟩⟩
  ·have w:Inv X pq σ H {s with heap:=h'}:=I.kept (t':=s.toks) Q;obtain⟨fs,f1,f2,f3⟩:=zJ (t:=t) w U ys vs its hne rr hv;exact kat_kind (T:=.type (iV t)) f1 (by omega) f3 (by simp) q
  ·have w:Inv X pq σ H {s with heap:=h'}:=I.kept (t':=s.toks) Q;obtain⟨d,v,u,Y,Z,M,r,A,B,D,E⟩:=a i c;obtain⟨W,v',u',K,L,N,g,G,e,f,l⟩:=a j m;unfold kas_ask;rw[E,l];rw[D,f]at J;exact HH (t:=t) w sk U (by simp[ck]at O;omega) hu2 r g A B G e J
theorem HJ(b:iH t ys=true)(a:∀y∈ys,aw t y=true)(r:aj X.K ⟨X.mg,F⟩ μ H ys vs)(g:Vals vs its){out:Lv}(O:gX its (λi j=>bL t (ys.getD i .non) (ys.getD j .non)) out):∃w,w.length=its.length/\aj X.K ⟨X.mg,F⟩ μ H (eQ (bL t) ys) w/\Vals w out:=by
 have q:bP t=true:=ke b;have A:=Ms a r g;have L:ys.length=vs.length:=r.length;have u:vs.length=its.length:=g.length;obtain⟨p,rfl,P,s⟩:=O;have o:∀i∈p,i<its.length:=λi m=>by simpa using P.mem_iff.mp m
 have e:p.length=its.length:=by rw[P.length_eq];simp
 have aF:aj X.K ⟨X.mg,F⟩ μ H (p.map λi=>ys.getD i .non) (p.map λi=>vs.getD i .non):=aj.of (by simp) λj d v k c=>by
  grind
 have f:=by
  have:∀(l:List Nat),(∀i∈l,i<its.length)->Vals (l.map λi=>vs.getD i .non) (l.map λi=>its.getD i Value.none):=by
   intro l
   induction l with
   |nil=>exact λ_=>.nil
   |cons i l I=>intro h;refine .cons ?_ (I λj n=>h j (Zc _ n));simp_all
  exact this p o
 have S:(p.map λi=>ys.getD i .non)=eQ (bL t) ys:=by
  refine zE q a ?_ ?_
  ·have:=P.map λi=>ys.getD i .non;refine this.trans (.of_eq ?_);refine List.ext_getElem (by simp;omega) λi k c=>?_;simp[c]
  ·rw[Z3];exact s
 grind
end
theorem HK(G:X.A.units+64<cLine)(box:Bool)(t:ei)(m:ck t<=40):aW X (.builtin "sorted") (rC X.K X.mg (fM box t)):=by
 intro Z s σ H xs us Q I r h;obtain⟨F,μ,S,V,l,N,w⟩:=h;unfold fM at w;split at w
 ·obtain⟨v,rfl,M⟩:=N.one;obtain⟨u,rfl,P⟩:=vals1 r;split at w
  ·rename_i ys e;split at w
   ·rename_i C;obtain⟨n,B,j⟩:=C;have c:=λy J=>ZG.mp n y J;obtain⟨a,vs,rfl,g,R⟩:=e9 l M e;cases P
    obtain⟨b,i,D,k⟩:∃b i,bI b _ a (List.toArray i)/\Vals _ i:=by
     rcases g with g|g
     ·obtain⟨i,o,p,_⟩:=I.list g;exact⟨true,_,p.isList,o⟩
     ·obtain⟨i,o,p,_⟩:=I.tuple g;exact⟨false,_,p,o⟩
    refine HG D (by have:=(R.length.trans k.length).symm;rw[sizeLine_eq];omega) (λA=>HI I l G m c j R k A) λY W U out K L E O=>?_;obtain⟨ws,x,aF,f⟩:=HJ j c R k O;have q:=I.kept (t':=s.toks) K;have z:Inv X _ _ (bg H _ (.lst _)) _:=q.laid (t':=s.toks) L (Zg _) ⟨by have:=(R.length.trans k.length).symm;rw[sizeLine_eq];omega,_,_,f,E⟩;have d:=q.hok.fresh (Zg _);refine⟨.ref _,_,z,rfl,?_⟩;cases box with
    |true=>exact aZ.box w l aF _ d
    |false=>exact aZ.lst w l aF _ d
   ·exact w.elim
  ·exact w.elim
 ·exact w.elim
end Py
namespace Py
open PySem PySem.W PySem.Spec PyProof.Rows L2
def kV(v:Value):Int:=match v with
 | .int k _=>k
 |_=>0
theorem HL{a:Addr}{L:Lv}(H:∀{Q:Lv->Shared->Prop} {E':Vs},(∀(h':Heap) (tk:Nat) (vs:Lv),(∀b o,s.heap.get? b=some o->h'.get? b=some o)->vs.Perm L->Q vs {s with heap:=h',toks:=tk})->wpAny (model prog w) A.in1 (collect (.ref a)) Q E' s)(F:L.length<64)
  (d:∀(h1:Heap) (tk:Nat) (vs:Lv),(∀b o,s.heap.get? b=some o->h1.get? b=some o)->vs.Perm L->∃c,(2<=vs.length->∃κ:SortKind,gk vs.length c/\(∀i j,i<vs.length->j<vs.length->vs.getD i Value.none=vs.getD j Value.none->br vs.length c i=br vs.length c j)/\∀h':Heap,(∀b o,h1.get? b=some o->h'.get? b=some o)->
   (∀(E':Vs) (l:SortKind->Shared->Prop),l κ {s with heap:=h',toks:=tk}->wpAny (model prog w) A.in1.in1 (keyKind' vs.toArray) l E' {s with heap:=h',toks:=tk})/\
   ∀i j C,i<vs.length->j<vs.length->C (c i j) {s with heap:=h',toks:=tk}->kas_ask prog w A.in1.in1 κ vs i j C {s with heap:=h',toks:=tk})/\
   ∀(h':Heap) (g:Nat) (out:Lv),(∀b o,h1.get? b=some o->h'.get? b=some o)->h'.get? h1.objs.size=some (seqObj "list" out.toArray g)->gX vs c out->Q (.ref h1.objs.size) {s with heap:=h',toks:=tk}):
  wpAny (model prog w) A (call (.builtin "sorted") [.ref a]) Q E s:=by
 refine Calls.call_function_entry kind_sorted plain_sorted entry_sorted (args_sorted1 _) ?_;refine Za (Ze (Za (H λh1 tk vs K p=>?_)));obtain⟨c,d,aF⟩:=d h1 tk vs K p;have q:vs.length<64:=by rw[p.length_eq];exact F
 have m:vs.length<=sizeLine:=by rw[sizeLine_eq];omega
 refine Za (wpAny_newList ?_ m);have f:(h1.push _).get? h1.objs.size=some (seqObj "list" vs.toArray 0):=Zi _ rfl;refine Za (Z5 (ZY slot_list_sort ⟨_,f,rfl⟩ entry_list_sort ?body (args_list_sort _)))
 case body=>
  refine zF (c:=c) f m (λn=>?_) λh' g out k e O=>?_
  ·obtain⟨κ,o,same,d⟩:=d n;refine⟨κ,o,same,λh' k=>?_⟩;obtain⟨r,u⟩:=d h' λb o e=>k b o (Zx (Zl e)) (Zb _ e);exact⟨r _,u⟩
  ·exact⟨_,rfl,Ze ⟨_,rfl,aF h' g out (λb o e=>k b o (Zx (Zl e)) (Zb _ e)) e O⟩⟩
theorem HM{t:SetTable}{Q:Vs}(l:A.handled=none)(T:TB w t es.size)(g:s.heap.get? a=some o)(n:o.ExactSet)(d:o.data=.set es ep t)(f:es.size<64)
  (H:∀(h1:Heap) (tk:Nat) (vs:Lv),(∀b o,s.heap.get? b=some o->h1.get? b=some o)->vs.Perm (es.toList.map (·.2))->∃c,(2<=vs.length->∃κ:SortKind,gk vs.length c/\(∀i j,i<vs.length->j<vs.length->vs.getD i Value.none=vs.getD j Value.none->br vs.length c i=br vs.length c j)/\∀h':Heap,(∀b o,h1.get? b=some o->h'.get? b=some o)->
   (∀(E':Vs) (k:SortKind->Shared->Prop),k κ {s with heap:=h',toks:=tk}->wpAny (model prog w) A.in1.in1 (keyKind' vs.toArray) k E' {s with heap:=h',toks:=tk})/\
   ∀i j C,i<vs.length->j<vs.length->C (c i j) {s with heap:=h',toks:=tk}->kas_ask prog w A.in1.in1 κ vs i j C {s with heap:=h',toks:=tk})/\
   ∀(h':Heap) (m:Nat) (out:Lv),(∀b o,h1.get? b=some o->h'.get? b=some o)->h'.get? h1.objs.size=some (seqObj "list" out.toArray m)->gX vs c out->Q (.ref h1.objs.size) {s with heap:=h',toks:=tk}):
  wpAny (model prog w) A (call (.builtin "sorted") [.ref a]) Q E s:=
 HL (λaF=>Ho (by lia) T g n d (by omega) aF) (by rw[Zf];exact f) H
theorem HN(f:A.handled=none)(x:dq prog w s.heap a ks es)
  (aF:∀(h1 h':Heap) (tk m:Nat) (out:Lv),(∀b o,s.heap.get? b=some o->h1.get? b=some o)->(∀b o,h1.get? b=some o->h'.get? b=some o)->h'.get? h1.objs.size=some (seqObj "list" out.toArray m)->(∀v∈out,∃t,v=.int (kV v) t)->out.map kV=ks.map (λk:Nat=>(k:Int))->Q (.ref h1.objs.size) {s with heap:=h',toks:=tk}):
  wpAny (model prog w) A (call (.builtin "sorted") [.ref a]) Q E s:=by
 obtain⟨r,low,len,F,_⟩:=m9 ks x.pow;obtain⟨o,ep,g,J,d⟩:=x.obj;refine HM f ⟨by rw[x.size];exact F _,rfl,rfl,yt r⟩ g J d (by rw[x.size];omega) λh1 tk vs V B=>?_;have K:es.toList.map gT=ks.map λk:Nat=>(k:Int):=by have:=congrArg (List.map (·.2)) x.ent;rw[ZP,ZP]at this;exact this
 have I:∀v∈vs,∃t,v=.int (kV v) t:=λv U=>by obtain⟨e,N,rfl⟩:=Zr.mp (B.mem_iff.mp U);obtain⟨t,y⟩:=j4 x.els e N;exact⟨t,by rw[y];rfl⟩
 have P:(vs.map kV).Perm (ks.map λk:Nat=>(k:Int)):=by refine(B.map kV).trans (.of_eq ?_);rw[<-K,ZP];exact List.map_congr_left λe _=>rfl
 have hl:vs.length<=8:=by have:=P.length_eq;rw[Zf,Zf]at this;omega
 have c:∀i,i<vs.length->∃t,vs.getD i Value.none=.int (kV (vs.getD i Value.none)) t:=λi l=>I _ (by rw[List.getD_eq_getElem?_getD,Zj l];exact List.getElem_mem l);refine⟨λi j=>decide (kV (vs.getD i Value.none)<kV (vs.getD j Value.none)),λH=>?_,λh' m out W e O=>aF h1 h' tk m out V W e ?_ ?_⟩
 ·refine⟨oneType',⟨λi _=>by simp,λi j _ _ h=>?_,λi j k _ _ _ h g=>?_⟩,λi j _ _ h=>?_,λh' kp=>⟨λZ Q' q=>?_,λi j C l R n=>?_⟩⟩
  ·simp only[decide_eq_true_eq,decide_eq_false_iff_not]at h⊢;omega
  ·simp only[decide_eq_false_iff_not]at h g⊢;omega
  ·unfold br;dsimp only;rw[h]
  ·refine kas_kind (T:=.type "int") H (λu S=>?_) (by decide) (by decide) q;obtain⟨t,y⟩:=I u S;rw[y];exact(show Looks (model prog w) h' (typeOf (.int (kV u) t)) (.type "int")from .now)
  ·unfold kas_ask;dsimp only at n;obtain⟨ta,L⟩:=c i l;obtain⟨tb,M⟩:=c j R;rw[L,M]at n⊢;exact kat_lt_int n
 ·obtain⟨p,rfl,D,_⟩:=O
  grind
 ·obtain⟨p,rfl,D,Y⟩:=O;have X:((p.map λi=>vs.getD i Value.none).map kV).Perm (ks.map λk:Nat=>(k:Int)):=by refine List.Perm.trans ?_ P;refine((D.map λi=>vs.getD i Value.none).map kV).trans (.of_eq (congrArg (List.map kV) ?_));refine List.ext_getElem (by simp) λi h1 H=>?_;simp[H]
  refine X.eq_of_pairwise (le:=(· <= ·)) (λa b _ _ h1 H=>Int.le_antisymm h1 H) ?_ ?_
  ·rw[Z3,Z3];refine Y.imp λ{i j} h=>?_;simp only[decide_eq_false_iff_not]at h;omega
  ·rw[Z3];exact r.imp λh=>by omega
noncomputable def HP(K:Fg)(m:Mg)(v:V)(H:Hp)(Q:VK):Prop:=(∃(p:Addr) (ns:Li) (ks:List Nat),v=.ref p/\(c6 K H p (ns.map V.int)\/cf K H p (ns.map V.int))/\(∀n∈ns,0<=n/\n<8)/\(∀k:Nat,k∈ks↔(k:Int)∈ns)/\ks.Pairwise (· < ·)/\∀l,H l=none->Q (.ref l) (bg H l (.lst (ks.map λk:Nat=>V.int k))))
theorem zN:∀{out:Lv} {ks:List Nat},(∀v∈out,∃t,v=.int (kV v) t)->out.map kV=ks.map (λk:Nat=>(k:Int))->Vals (ks.map λk:Nat=>V.int k) out
 | [],[],_,_=>.nil
 | [],_::_,_,h=>by cases h
 |_::_,[],_,h=>by cases h
 |v::out,k::ks,H,h=>by
  injection h with a b
  obtain⟨t,c⟩:=H v Zd;refine .cons ⟨t,?_⟩ (zN (λv d=>H v (Zc _ d)) b);rw[c,a]
theorem HQ:∀{a b:List Nat},a.Pairwise (· < ·)->b.Pairwise (· < ·)->(∀k,k∈a↔k∈b)->a=b:=λ{a b} H c h=>by
 refine List.Perm.eq_of_pairwise λx y _ _ H c=>by omega H c ?_
 exact(List.perm_ext_iff_of_nodup (H.imp λh=>Zx h) (c.imp λh=>Zx h)).mpr h
theorem HR(hc:X.calm=true)(hu:X.A.units+64<cLine)(m:Gl X "sorted")(n:Gl X "set")(y:X.mg "sorted"=none)(A:X.mg "set"=none)(hb:bootBuiltins "sorted"=some (.builtin "sorted"))(hn:b8 z=true)(ha:PE X z ta):
  PE X (.Call (.Name "sorted" p1) [.Call (.Name "set" p2) [z] [] p3] [] p4) (λσ H Q=>ta σ H λx H1=>HP X.K X.mg x H1 Q):=by
 intro C s σ H Q I h;have J:=c_ (env:=X.env) (es:=[]) hn;refine wpAny_Call_Name_kw (ef I m y hb ?_ (by decide) (by decide));refine PyProof.Rows.callWith_builtin1 ?_ rfl rfl;refine Calls.spliced_cons ?_;refine wpAny_Call_Name_kw (ef I n A yW ?_ (by decide) (by decide));have hA:PA X [z] (jr ta rj):=rn ha rk J
 refine Z0 (a' (hA p3 C s σ H (λvs H1=>match vs with
  | [x]=>HP X.K X.mg x H1 Q
  |_=>False) I h) λus S ⟨vs,H1,j,r,q⟩=>?_) J rfl
 match vs,q with
 | [v],⟨p,N,ks,e,f,low,hk,D,q⟩=>
  subst e;obtain⟨u,rfl,ru⟩:=r.one;cases ru
  obtain⟨i,R,P⟩:∃i,Vals (N.map V.int) i/\(S.heap.IsList p i.toArray\/S.heap.IsTuple p i.toArray):=by
   rcases f with f|f
   ·obtain⟨i,R,P,_⟩:=j.list f;exact⟨i,R,.inl P.isList⟩
   ·obtain⟨i,R,P,_⟩:=j.tuple f;exact⟨i,R,.inr P⟩
  have c:=j.ok.hd hc;refine G9 (vs:=i.toArray) (ns:=N) c P (by simpa using rA R) low λZ T ⟨K,Y,x,w⟩ kp=>?_;have M:Inv X C σ H1 {S with heap:=Z,toks:=T}:=j.kept (t':=T) λb o e=>kp b o (Zl e) e;have E:K=ks:=HQ (m9 K x.pow).1 D λk=>(w k).trans (hk k).symm;subst E;refine Calls.spliced_nil ?_;refine HN c x λl h2 F O out k1 k2 g B U=>?_;have G:Inv X C σ H1 {S with heap:=l,toks:=T}:=M.kept (t':=T) k1
  have d:(K.map λk:Nat=>V.int k).length<=sizeLine:=by have:=(m9 K x.pow).2.2.1;rw[Zf,sizeLine_eq];omega
  exact⟨.ref l.objs.size,bg H1 l.objs.size (.lst (K.map λk:Nat=>V.int k)),G.laid (t':=F) k2 (Zg _) ⟨d,out,O,zN B U,g⟩,rfl,q _ (G.hok.fresh (Zg _))⟩
end Py
namespace Py
noncomputable def zO(kd:Bool)(e:Expr)(g:List Comprehension)(s:Scope)(p:Pos):Expr:=.ListComp e g s p
noncomputable def HS(kd:Bool)(e:Expr)(a:Value)(env:Env):Sem Unit:=sL e a env
def oK(X:Cx)(kd:Bool):Addr->List D->List V->HO->Prop:=oL
theorem tJ{kd:Bool}{pos:Pos}{d:Nat}{it a:Value}{t i:Expr}{fs:Lx}(h:gens[d]?=some ⟨t,i,fs,0⟩):
  compTurn (zO kd elt gens scope pos) d it a env=(standAt i.pos>>=λ_=>pyNext it>>=λr=>match r with
   |none=>pure (.done .next)
   |some v=>letOwnedTupleGo t it v>>=λ_=>assign t env v>>=λ_=>(fg fs env>>=λok=>if ok=true then bC (zO kd elt gens scope pos) (HS kd elt a env) gens d a env else pure ())>>=λ_=>
    again (.compLoop (zO kd elt gens scope pos) d it a env)):=by cases kd<;>exact GF h
section
variable {E:XK}
end
section
variable {E:XK}
end
section
variable {E:XK}
theorem kf(O:cK X cell N sc CX E Φ Γ k)(b:jL)(h:se b=true):aW X (jP b) (rC X.K X.mg (bj b)):=by
 cases b with
 |len=>exact w4
 |tuple=>exact mf
 |list box=>exact rY box
 |int=>exact w6
 |min=>exact FV O.calm rfl
 |max=>exact mx O.calm
 |isinst=>exact FF
 |all=>exact xb O.calm
 |any=>exact xf O.calm
 |sum=>cases h
 |repr=>cases h
 |abs=>cases h
 |str=>cases h
 |sorted box t=>exact HK O.room.units box t (by unfold se at h;simpa using h)
theorem tK:∀{l:Ls},iJ l=true->l.Nodup
 | [],_=>List.nodup_nil
 |x::r,h=>by unfold iJ at h;simp at h;exact Yb.mpr ⟨h.1,tK h.2⟩
theorem zP(O:cK X cell N sc CX E Φ Γ k)(h:FY scope sc=true):eh X scope:=by
 unfold FY at h;simp only[ZW,beq_iff_eq]at h;obtain⟨a,b⟩:=h;have K:=λy H=>ZG.mp b y H;refine⟨a,λy H z=>?_,λy H z=>?_,λy H z=>?_⟩
 ·grind
 ·grind
 ·have:=K y H;rw[z]at this;simp at this;show X.env.scope.names.lookup _=_\/X.env.scope.names.lookup _=_;rw[O.sc];exact this
theorem zQ(O:cK X cell N sc CX E Φ Γ k)(h:FZ scope.names N' N fr=true):mr X scope N' (gh fr):=by
 unfold FZ at h;simp only[ZW,beq_iff_eq]at h;obtain⟨b,c⟩:=h;intro g f;refine⟨by simp[gh,b],λi v x a H=>?_⟩;have d:=(Zp.mp a).1;have:=ZG.mp c i (ZT.mpr d);unfold gh at H;rw[List.getElem?_map]at H;cases e:fr[i]? with
 |none=>simp_all
 |some o=>
  rw[e]at H;cases o with
  |none=>cases H
  |some j=>
   rw[e]at this;simp[a,beq_iff_eq]at this;refine⟨this.1,j,by rw[O.n];exact this.2,?_⟩
   grind
theorem nM(O:cK X cell N sc CX E Φ Γ k):(relabel scope X.env).names=jQ scope.names sc:=by
 show scope.names.map _=scope.names.map _;congr 1;funext p;obtain⟨n,K⟩:=p;have e:X.env.kindOf n=sc.lookup n:=by show X.env.scope.names.lookup n=_;rw[O.sc]
 simp[e,O.kd,Bool.and_true]
theorem zR(O:cK X cell N sc CX E Φ Γ k)(hs:scope.kind=.function)(hn:iJ N'=true)(C:Addr)(s0:Shared)(H0:Hp)(fp:La):cK (fK X scope N' C s0 H0 fp) (sg scope.names) N' (jQ scope.names sc) CX E0 Φ Γ k where
 n:=rfl
 nd:=tK hn
 sc:=nM O
 kd:=hs
 calm:=O.calm
 room:=O.room
 fn:=λx z=>z
 mod:=O.mod
 pass:=λ_ _ _ _ _ _ _ z=>O.cx0 _ _ _ _ _ z
 cx0:=O.cx0
theorem nN{i:Expr}(h:mF i=true):∀x,foldedSetIterable i env x=pure x:=by intro x;cases i<;>first|rfl|cases h
theorem ip{e:Expr}{c:CE}(h:PE X e (tE X.K X.mg E Φ Γ c))(g:∀W,isTrue e X.env W=(do let v <-W;standAt e.pos;holding [v] (truthy v))){σ:L2.St}:
  PT X e (λσ H Q=>∃F μ ρ S,aQ X.K ⟨X.mg,F⟩ μ S H/\be X.K ⟨X.mg,F⟩ μ H ρ σ/\al X.K ⟨X.mg,F⟩ E (λ_ _ a b=>a=b) μ H Q ((ak Φ Γ c ρ S).bind λd S1=>match bU S1 d with|some k=>.ok k S1|none=>.fail)):=
 eC (EL h g) λσ H Q z=>aH z λF μ ρ S i f w=>⟨F,_,_,S,i,f,(al.bind w).mono λv H1 z=>aN z λm S1 d x s r j=>by obtain⟨k,e,l⟩:=xK j;exact⟨k,qc s r e,l _ _ k .refl s rfl⟩⟩
theorem HU(O:cK X cell N sc CX E Φ Γ k){a:CE}(h1:bA sc "len"=true)(h:bA sc "set"=true)(c:b8 z=true)(b:PE X z (tE X.K X.mg E Φ Γ a)):PE X (.Call (.Name "len" p1) [.Call (.Name "set" p2) [z] [] p3] [] p4) (tE X.K X.mg E Φ Γ (.lenset a)):=
 aX (Hi O.calm O.room.units (O.gl (dP h1).1) (O.gl (dP h).1) (O.mod.bl _ (by decide+kernel)) (O.mod.bl _ (by decide+kernel)) c b) λm H Q Z=>aH Z λF j l S f e w=>
  ⟨F,_,_,S,f,e,(al.bind w).mono λv H1 Z=>aN Z λg i d x s r W=>Hj s r (dO W)⟩
theorem zS:∀{xs:List D},xs.all jN=true->xs.all (aw .int)=true/\∀n∈xs.filterMap cI,0<=n/\n<8
 | [],_=>⟨rfl,λn h=>by cases h⟩
 |x::xs,h=>by
  simp only[List.all_cons,ZW]at h;obtain⟨b,c⟩:=zS h.2;cases x with
  |int i=>
   have a:=h.1;simp[jN,ZW]at a;refine⟨by simp[aw,b],λn H=>?_⟩;rcases Zn.mp H with rfl|H
   ·exact a
   ·exact c n H
  |_=>cases h.1
theorem tM{Q:VK}(s:aQ K ⟨mg,F⟩ μ S H)(r:Rep K ⟨mg,F⟩ μ H d v)(w:aZ K ⟨mg,F⟩ μ H Q (ga d S)):HP K mg v H Q:=by
 unfold ga at w;split at w
 ·rename_i x e;split at w
  ·rename_i f;obtain⟨a,vs,rfl,j,R⟩:=e9 s r e;clear e;obtain⟨g,low⟩:=zS f;have b:=nj g;generalize x.filterMap cI=n at low b w;subst b;have m:=nk R;subst m;refine⟨a,n,(List.range 8).filter λk:Nat=>n.contains (k:Int),rfl,j,low,λk=>?_,List.pairwise_lt_range.sublist Zz,λl i=>?_⟩
   ·rw[Zm,ZT,List.contains_iff_mem];exact⟨λh=>h.2,λh=>⟨by have:=low _ h;omega,h⟩⟩
   ·have o:∀c:List Nat,aj K ⟨mg,F⟩ μ H (c.map λk:Nat=>D.int k) (c.map λk:Nat=>V.int k):=λc=>by
     induction c with
     |nil=>exact .nil
     |cons k c I=>exact .cons bG I
    exact aZ.lst w s (o _) l i
  ·exact w.elim
 ·exact w.elim
theorem tN(O:cK X cell N sc CX E Φ Γ k){a:CE}(h1:bA sc "sorted"=true)(h:bA sc "set"=true)(c:b8 z=true)(b:PE X z (tE X.K X.mg E Φ Γ a)):PE X (.Call (.Name "sorted" p1) [.Call (.Name "set" p2) [z] [] p3] [] p4) (tE X.K X.mg E Φ Γ (.sset a)):=
 aX (HR O.calm O.room.units (O.gl (dP h1).1) (O.gl (dP h).1) (O.mod.bl _ (by decide+kernel)) (O.mod.bl _ (by decide+kernel)) (rfl) c b) λm H Q Z=>aH Z λF j l S f e w=>
  ⟨F,_,_,S,f,e,(al.bind w).mono λv H1 Z=>aN Z λg i d x s r W=>tM s r (dO W)⟩
end
section
variable {E:XK}
end
section
variable {a b c d:Expr}{tb tc td:TE}{pos:Pos}
end
section
variable {E:XK}{l r r2:Expr}{pos:Pos}{a b c d:CE}
end
theorem nO{E:XK}{c:CE}(h:∀ρ S,au Φ Γ c ρ S=.fail):PW X e (tT X.K X.mg E Φ Γ c):=λW p s f H Q I z=>aH z λF d ρ S b a w=>by rw[h]at w;exact w.elim
theorem zT{a:Type}{l:List a}{d:Nat}{x:a}{r:List a}(h:l.drop d=x::r):l[d]?=some x:=by have:=congrArg (λl=>l[0]?) h;simpa using this
theorem HV{a:Type}{l:List a}{d:Nat}(h:l.drop d=[]):l[d]?=none:=by simp_all
theorem HW{a:Type}{l:List a}{d:Nat}{x:a}{r:List a}(h:l.drop d=x::r):l.drop (d+1)=r:=by
 have:(l.drop d).drop 1=r:=by simp_all
 rwa [List.drop_drop]at this
section
variable {E:XK}{a b:CE}{l x y:Expr}{pos:Pos}{n:Bool}
theorem tO(h:PE X l (tE X.K X.mg E Φ Γ a))(h1:n=true->PE X x (tE X.K X.mg E Φ Γ b))(H:n=false->∃r rest,y=.BoolOp .And (r::rest) pos/\PE X y (tE X.K X.mg E Φ Γ b)):PE X (.BoolOp .And (l::cond n [x] (vw y).es) pos) (tE X.K X.mg E Φ Γ (.band a b)):=by
 cases n with
 |true=>exact qg h (jm (h1 rfl))
 |false=>obtain⟨r,rest,rfl,q⟩:=H rfl;exact qg h q
theorem zU(h:PE X l (tE X.K X.mg E Φ Γ a))(h1:n=true->PE X x (tE X.K X.mg E Φ Γ b))(H:n=false->∃r rest,y=.BoolOp .Or (r::rest) pos/\PE X y (tE X.K X.mg E Φ Γ b)):PE X (.BoolOp .Or (l::cond n [x] (vw y).es) pos) (tE X.K X.mg E Φ Γ (.bor a b)):=by
 cases n with
 |true=>exact xJ h (jm (h1 rfl))
 |false=>obtain⟨r,rest,rfl,q⟩:=H rfl;exact xJ h q
theorem zV(h:PT X l (tT X.K X.mg E Φ Γ a))(h1:n=true->PT X x (tT X.K X.mg E Φ Γ b))(H:n=false->∃r rest,y=.BoolOp .And (r::rest) pos/\PW X y (tT X.K X.mg E Φ Γ b)):PW X (.BoolOp .And (l::cond n [x] (vw y).es) pos) (tT X.K X.mg E Φ Γ (.band a b)):=by
 cases n with
 |true=>exact qh h (lu (h1 rfl))
 |false=>obtain⟨r,rest,rfl,q⟩:=H rfl;exact qh h q
theorem kh(h:PT X l (tT X.K X.mg E Φ Γ a))(h1:n=true->PT X x (tT X.K X.mg E Φ Γ b))(H:n=false->∃r rest,y=.BoolOp .Or (r::rest) pos/\PW X y (tT X.K X.mg E Φ Γ b)):PW X (.BoolOp .Or (l::cond n [x] (vw y).es) pos) (tT X.K X.mg E Φ Γ (.bor a b)):=by
 cases n with
 |true=>exact xN h (qL (h1 rfl))
 |false=>obtain⟨r,rest,rfl,q⟩:=H rfl;exact xN h q
theorem tQ{es:Lx}(h:si b=true):∃r rest,bB b N (.BoolOp .And es pos)=.BoolOp .And (r::rest) pos:=by cases b<;>first|exact⟨_,_,rfl⟩|cases h
theorem tR{es:Lx}(h:jS b=true):∃r rest,bB b N (.BoolOp .Or es pos)=.BoolOp .Or (r::rest) pos:=by cases b<;>first|exact⟨_,_,rfl⟩|cases h
theorem ki{tg:CT}(h:jR tg=true):eR (iL tg N e)=true:=by
 cases tg with
 |var i=>cases h
 |tup t=>rfl
theorem fB{a b:Bool}(h:cond n a b=true)(z:n=true):a=true:=by lia
theorem cM{a b:Bool}(h:cond n a b=true)(z:n=false):b=true:=by lia
end
mutual
theorem aY(c:CE):∀{X:Cx} {cell:Str->Bool} {N:Ls} {sc:Sc} {CX:ee} {E:XK} {Φ:FT} {Γ:Str->Option D} {k:Nat} {e:Expr},cK X cell N sc CX E Φ Γ k->cl c N sc e=true->PE X (bB c N e) (tE X.K X.mg E Φ Γ c):=by
 intro X cell N sc CX E Φ Γ k e O h;cases c with
 |var i=>exact qi O (ab h).1 (ab (ab h).2).1 (ab (ab h).2).2
 |dct=>exact xV
 |rv0 a b c=>cases h
 |odd a b c=>cases h
 |evn a b=>cases h
 |rev a b=>cases h
 |lit d=>exact qj h
 |glob y=>exact sx O h
 |ty n=>exact F3 O (ab h).1 (ab h).2
 |bin op a b=>exact xG (aY a O (ab h).1) (aY b O (ab h).2)
 |binB a b=>exact ss (aY a O (ab h).1) (aY b O (ab h).2)
 |catB a b=>cases h
 |neg a=>exact xM (aY a O h)
 |cmp op a b=>exact xH O.room.units (aY a O (ab h).1) (aY b O (ab (ab h).2).1) (gS (ab (ab h).2).2)
 |chain op J a b c=>exact mH O.room.units (aY a O (ab h).1) (aY b O (ab (ab h).2).1) (aY c O (ab (ab (ab h).2).2).1) (gS (ab (ab (ab h).2).2).2)
 |band a b=>exact tO (aY a O (ab h).1) (λz=>aY b O (fB (ab h).2 z)) λz=>by obtain⟨r,R,q⟩:=tQ (pos:=(vw e).pos) (N:=N) (es:=(vw e).es.tail) (ab (cM (ab h).2 z)).1;exact⟨r,R,q,aY b O (ab (cM (ab h).2 z)).2⟩
 |bor a b=>exact zU (aY a O (ab h).1) (λz=>aY b O (fB (ab h).2 z)) λz=>by obtain⟨r,R,q⟩:=tR (pos:=(vw e).pos) (N:=N) (es:=(vw e).es.tail) (ab (cM (ab h).2 z)).1;exact⟨r,R,q,aY b O (ab (cM (ab h).2 z)).2⟩
 |bnot a=>exact xL (aY a O h)
 |ite c a b=>exact xP (er c O (ab h).1) (aY a O (ab (ab h).2).1) (aY b O (ab (ab h).2).2)
 |tup j=>exact xT (jT (ab h).2) (eK j O (ab h).1)
 |lst box j=>exact xU (jT (ab h).2) (eK j O (ab h).1)
 |idx a b=>exact xW (ab (ab h).2).2 (aY a O (ab h).1) (aY b O (ab (ab h).2).1)
 |sl a lo hi=>exact F4 (aY a O (ab h).1) (kj lo O (ab (ab h).2).1 (jT (ab (ab (ab (ab h).2).2).2).1)) (kj hi O (ab (ab (ab h).2).2).1 (jT (ab (ab (ab (ab h).2).2).2).2))
 |call f j=>
  have G:=eK j O (ab (ab h).2).1;cases j with
  |nil=>cases(ab (ab h).2).2
  |cons c t=>exact jV O (ab h).1 (ff (cs:=c::t) (ab (ab h).2).1) G
 |blt b j=>
  have G:=eK j O (ab (ab h).2).1;cases j with
  |nil=>cases(ab (ab (ab h).2).2).1
  |cons c t=>exact qk O (kf O b (ab (ab (ab h).2).2).2) (ab h).1 (ff (cs:=c::t) (ab (ab h).2).1) G
 |fst ps=>cases h
 |chain3 op J K a b c d=>exact λpq s σ H Q I zz=>aH zz λF μ ρ S sk en w=>w.elim
 |sel fs i j=>cases h
 |tix o j=>cases h
 |meth m o j=>have v:=(ab (ab (ab (ab h).2).2).2).1;exact sy (ab h).1 (ab (ab h).2).1 (ff v) (by rw[sv];exact jT (ab (ab (ab (ab h).2).2).2).2) sv.symm (aY o O (ab (ab (ab h).2).2).1) (eK j O v)
 |lenset a=>exact HU O (ab h).1 (ab (ab h).2).1 (ab (ab (ab h).2).2).2 (aY a O (ab (ab (ab h).2).2).1)
 |sset a=>exact tN O (ab h).1 (ab (ab h).2).1 (ab (ab (ab h).2).2).2 (aY a O (ab (ab (ab h).2).2).1)
 |sumL=>cases h
 |rng=>cases h
 |comp box x P T it p body=>
  obtain⟨U,h⟩:=ab h;obtain⟨V,h⟩:=ab h;obtain⟨W,h⟩:=ab h;obtain⟨v,h⟩:=ab h;obtain⟨Y,h⟩:=ab h;obtain⟨Z,h⟩:=ab h;obtain⟨h7,h8⟩:=ab h;have u:=zP O U
  refine aX (ms (N:=x) (g:=qm X.K T) (tb:=tC X.K X.mg oL Φ Γ p body) O.calm u (zQ O V) (nR it O Y ki) (λA l=>fg _ l>>=λok=>if ok=true then bC (zO false _ _ _ _) (HS false _ _ l) (_::_) 0 (.ref A) l else pure ())
   (λit A l=>tJ (kd:=false) rfl) (λC s0 L M A=>?_) (nN Z)) λσ H Q q=>j1 (tg0:=iL T x ((vw e).gs.headD dG).target) q
  have B:=zR O u.kind W C s0 L M;exact⟨j0 B v,sP (nQ p B h7) (tU body (kd:=false) B rfl rfl h8)⟩
 |ssc x P T it p body=>cases h
 |emitK e=>cases h
 |sortd a=>cases h
 |emit e=>cases h
 |inner a b c d=>cases h
 |seq a=>cases h
 |range a=>cases h
 |zip a=>cases h
 |enum a=>cases h
 |revl a=>cases h
 |by2 a=>cases h
 |down a=>cases h
theorem er(c:CE):∀{X:Cx} {cell:Str->Bool} {N:Ls} {sc:Sc} {CX:ee} {E:XK} {Φ:FT} {Γ:Str->Option D} {k:Nat} {e:Expr},cK X cell N sc CX E Φ Γ k->cl c N sc e=true->PT X (bB c N e) (tT X.K X.mg E Φ Γ c):=by
 intro X cell N sc CX E Φ Γ k e O h;cases c with
 |var i=>
  refine eC (ip (σ:=[]) (qi O (ab h).1 (ab (ab h).2).1 (ab (ab h).2).2) λ_=>rfl) λu H Q Z=>aH Z λF t j S s n w=>⟨F,t,j,S,s,n,?_⟩;cases l:j[i]? with
  |none=>simp only[au,l]at w;exact w.elim
  |some o=>
   cases o with
   |none=>simp only[au,l]at w;exact w.elim
   |some d=>simp only[au,l]at w;simp only[ak,l];exact w
 |lit d=>exact eC (ip (Φ:=Φ) (Γ:=Γ) (σ:=[]) (qj h) λ_=>rfl) λu H Q Z=>aH Z λF t j S s n w=>⟨F,t,j,S,s,n,w⟩
 |call f p=>
  have A:=eK p O (ab (ab h).2).1;cases p with
  |nil=>cases(ab (ab h).2).2
  |cons c C=>
   refine eC (ip (σ:=[]) (jV O (ab h).1 (ff (cs:=c::C) (ab (ab h).2).1) A) λ_=>rfl) λu H Q Z=>aH Z λF t j S s n w=>⟨F,t,j,S,s,n,?_⟩;simp only[au]at w;simp only[ak];cases l:Φ f with
   |none=>rw[l]at w;exact w
   |some I=>
    rw[l]at w;show al _ _ _ _ _ _ _ (((am Φ Γ (c::C) j S).bind λx v=>I x v).bind _);cases m:am Φ Γ (c::C) j S with
    |ok x v=>rw[m]at w;exact w
    |err y v=>rw[m]at w;exact w
    |fail=>rw[m]at w;exact w
 |blt b p=>
  have A:=eK p O (ab (ab h).2).1;cases p with
  |nil=>cases(ab (ab (ab h).2).2).1
  |cons c C=>
   refine eC (ip (σ:=[]) (qk O (kf O b (ab (ab (ab h).2).2).2) (ab h).1 (ff (cs:=c::C) (ab (ab h).2).1) A) λ_=>rfl) λu H Q Z=>aH Z λF t j S s n w=>⟨F,t,j,S,s,n,?_⟩;simp only[au]at w;simp only[ak];cases m:am Φ Γ (c::C) j S with
   |ok x v=>rw[m]at w;exact w
   |err y v=>rw[m]at w;exact w
   |fail=>rw[m]at w;exact w
 |cmp op a b=>exact xI O.room.units (aY a O (ab h).1) (aY b O (ab (ab h).2).1) (gS (ab (ab h).2).2)
 |chain3 op B G a b c d=>cases h
 |chain op B a b c=>exact mI O.room.units (aY a O (ab h).1) (aY b O (ab (ab h).2).1) (aY c O (ab (ab (ab h).2).2).1) (gS (ab (ab (ab h).2).2).2)
 |band a b=>exact(zV (er a O (ab h).1) (λz=>er b O (fB (ab h).2 z)) λz=>by have g:=(ab (cM (ab h).2 z)).1;obtain⟨r,R,q⟩:=tQ (pos:=(vw e).pos) (N:=N) (es:=(vw e).es.tail) g;exact⟨r,R,q,nP b O (ab (cM (ab h).2 z)).2 (by rw[g];rfl)⟩).pt
 |bor a b=>exact(kh (er a O (ab h).1) (λz=>er b O (fB (ab h).2 z)) λz=>by have g:=(ab (cM (ab h).2 z)).1;obtain⟨r,R,q⟩:=tR (pos:=(vw e).pos) (N:=N) (es:=(vw e).es.tail) g;exact⟨r,R,q,nP b O (ab (cM (ab h).2 z)).2 (by rw[g,Bool.or_true])⟩).pt
 |bnot a=>exact xO (er a O h)
 |_=>exact(nO λ_ _=>by simp only[au]).pt
theorem nP(c:CE):∀{X:Cx} {cell:Str->Bool} {N:Ls} {sc:Sc} {CX:ee} {E:XK} {Φ:FT} {Γ:Str->Option D} {k:Nat} {e:Expr},cK X cell N sc CX E Φ Γ k->cl c N sc e=true->(si c||jS c)=true->PW X (bB c N e) (tT X.K X.mg E Φ Γ c):=by
 intro X cell N sc CX E Φ Γ k e O h H;cases c with
 |band a b=>exact zV (er a O (ab h).1) (λz=>er b O (fB (ab h).2 z)) λz=>by have g:=(ab (cM (ab h).2 z)).1;obtain⟨r,R,q⟩:=tQ (pos:=(vw e).pos) (N:=N) (es:=(vw e).es.tail) g;exact⟨r,R,q,nP b O (ab (cM (ab h).2 z)).2 (by rw[g];rfl)⟩
 |bor a b=>exact kh (er a O (ab h).1) (λz=>er b O (fB (ab h).2 z)) λz=>by have g:=(ab (cM (ab h).2 z)).1;obtain⟨r,R,q⟩:=tR (pos:=(vw e).pos) (N:=N) (es:=(vw e).es.tail) g;exact⟨r,R,q,nP b O (ab (cM (ab h).2 z)).2 (by rw[g,Bool.or_true])⟩
 |_=>cases H
theorem eK(cs:List CE):∀{X:Cx} {cell:Str->Bool} {N:Ls} {sc:Sc} {CX:ee} {E:XK} {Φ:FT} {Γ:Str->Option D} {k:Nat} {es:Lx},cK X cell N sc CX E Φ Γ k->fY cs N sc es=true->PA X (fO cs N es) (tL X.K X.mg E Φ Γ cs):=by
 intro X cell N sc CX E Φ Γ k es O h;cases cs with
 |nil=>exact xQ
 |cons c cs=>exact su (ab (ab h).2).1 (aY c O (ab h).1) (eK cs O (ab (ab h).2).2)
theorem kj(cs:List CE):∀{X:Cx} {cell:Str->Bool} {N:Ls} {sc:Sc} {CX:ee} {E:XK} {Φ:FT} {Γ:Str->Option D} {k:Nat} {es:Lx},cK X cell N sc CX E Φ Γ k->fY cs N sc es=true->cs.length<2->PO X (fO cs N es).head? (xX X.K X.mg E Φ Γ cs):=by
 intro X cell N sc CX E Φ Γ k es O h H;cases cs with
 |nil=>exact mM
 |cons c cs=>cases cs with
  |nil=>exact mN (aY c O (ab h).1)
  |cons _ _=>exact absurd H (by simp)
theorem nQ(cs:List CE):∀{X:Cx} {cell:Str->Bool} {N:Ls} {sc:Sc} {CX:ee} {E:XK} {Φ:FT} {Γ:Str->Option D} {k:Nat} {es:Lx},cK X cell N sc CX E Φ Γ k->fY cs N sc es=true->xq X (fO cs N es) (cs.map (tT X.K X.mg E Φ Γ)):=by
 intro X cell N sc CX E Φ Γ k es O h;cases cs with
 |nil=>trivial
 |cons c cs=>exact⟨er c O (ab h).1,nQ cs O (ab (ab h).2).2⟩
theorem nR(c:CE):∀{X:Cx} {cell:Str->Bool} {N:Ls} {sc:Sc} {CX:ee} {E:XK} {Φ:FT} {Γ:Str->Option D} {k:Nat} {tg:CT} {t e:Expr},cK X cell N sc CX E Φ Γ k->DS c N sc tg e=true->(jR tg=true->eR t=true)->PI X t (sn c N e) (tI X.K X.mg E Φ Γ c):=by
 intro X cell N sc CX E Φ Γ k tg t e O h l;cases c with
 |seq a=>exact yj (aY a O h)
 |range f=>
  have g:=(ab (ab h).2).1;have H:=(ab (ab h).2).2;have i:=ff g;have j:=eK f O g;cases f with
  |nil=>cases H
  |cons a f=>cases f with
   |nil=>exact Gv O (ab h).1 (i _ Zd) rfl j
   |cons b f=>cases f with
    |nil=>exact Gw O (ab h).1 (i _ Zd) (i _ (Zc _ Zd)) rfl j
    |cons d f=>cases H
 |down f=>
  have g:=(ab (ab (ab h).2).2).1;have H:=(ab (ab (ab h).2).2).2;have i:=ff g;have j:=eK f O g;cases f with
  |nil=>cases H
  |cons a f=>cases f with
   |nil=>exact sG O (ab h).1 (ab (ab h).2).1 (i _ Zd) j
   |cons b f=>cases H
 |by2 f=>cases h
 |revl f=>cases h
 |enum f=>
  have g:=(ab (ab h).2).1;have H:=(ab (ab h).2).2;have i:=ff g;have j:=eK f O g;cases f with
  |nil=>cases(ab H).1
  |cons a f=>cases f with
   |nil=>exact sK O (ab h).1 (l (ab H).2) (i _ Zd) j
   |cons b f=>cases(ab H).1
 |zip f=>
  have g:=(ab (ab h).2).1;have H:=(ab (ab h).2).2;have i:=ff g;have j:=eK f O g;cases f with
  |nil=>cases(ab H).1
  |cons a f=>cases f with
   |nil=>cases(ab H).1
   |cons b f=>cases f with
    |nil=>exact yn O (ab h).1 (l (ab H).2) (i _ Zd) (i _ (Zc _ Zd)) j
    |cons d f=>cases(ab H).1
 |_=>cases h
theorem tU(c:CE):∀{X:Cx} {cell:Str->Bool} {N:Ls} {sc:Sc} {CX:ee} {E:XK} {Φ:FT} {Γ:Str->Option D} {k:Nat} {kd:Bool} {e:Expr} {gens g:List Comprehension} {scope:Scope} {pos:Pos} {d:Nat} {acc:Addr},cK X cell N sc CX E Φ Γ k->X.xe=(λ_ _=>False)->gens.drop (d+1)=sm c N g->F1 c kd cell N sc g e=true->
  PB X (bC (zO kd (mG c N e) gens scope pos) (HS kd (mG c N e) (.ref acc) X.env) gens d (.ref acc) X.env) (tB X.K X.mg (oK X kd) Φ Γ c acc):=by
 intro X cell N sc CX E Φ Γ k kd e gens g scope pos d acc O b H h;cases c with
 |emit a=>
  cases kd with
  |true=>cases h
  |false=>exact sQ (HV H) (aY a O h)
 |emitK a=>cases h
 |inner t it i body=>obtain⟨f,h⟩:=ab h;obtain⟨j,h⟩:=ab h;obtain⟨l,h⟩:=ab h;obtain⟨m,n⟩:=ab h;exact mU (by cases kd<;>rfl) (by cases kd<;>rfl) (λit=>tJ (zT H)) b O.calm (zT H) (nR it O j ki) (nN l) (j0 O f) (sP (nQ i O m) (tU body O b (HW H) n))
 |_=>cases h
end
def aG(K:Fg)(m:GS)(E:XK)(D:Ends)(μ:La)(H:Hp):Res Fl->Prop
 | .ok (.next ρ') S'=>∀μ' H' σ',Ext μ H μ' H'->aQ K m μ' S' H'->be K m μ' H' ρ' σ'->D.nx σ' H'
 | .ok (.ret d) S'=>∀μ' H' v,Ext μ H μ' H'->aQ K m μ' S' H'->Rep K m μ' H' d v->D.rt v H'
 | .ok (.brk ρ') S'=>∀μ' H' σ',Ext μ H μ' H'->aQ K m μ' S' H'->be K m μ' H' ρ' σ'->D.bk σ' H'
 | .ok (.cont ρ') S'=>∀μ' H' σ',Ext μ H μ' H'->aQ K m μ' S' H'->be K m μ' H' ρ' σ'->D.ct σ' H'
 | .err x S'=>∀μ' H',Ext μ H μ' H'->aQ K m μ' S' H'->xC m.mg E x H'
 | .fail=>False
def tS(K:Fg)(m:Mg)(E:XK)(Φ:FT)(Γ:Str->Option D)(c:CS):TS:=λD σ H=>∃F μ ρ S,aQ K ⟨m,F⟩ μ S H/\be K ⟨m,F⟩ μ H ρ σ/\aG K ⟨m,F⟩ E D μ H (aD Φ Γ c ρ S)
def qt(K:Fg)(m:Mg)(E:XK)(Φ:FT)(Γ:Str->Option D)(cs:List CS):TS:=λD σ H=>∃F μ ρ S,aQ K ⟨m,F⟩ μ S H/\be K ⟨m,F⟩ μ H ρ σ/\aG K ⟨m,F⟩ E D μ H (ah Φ Γ cs ρ S)
section
variable {mg:GS}{E:XK}{D D':Ends}
theorem aG.ext{r:Res Fl}(x:Ext μ H μ' H')(w:aG K mg E D μ H r):aG K mg E D μ' H' r:=by
 cases r with
 |ok f S=>
  cases f with
  |next a=>exact λm h s y=>w m h s (x.trans y)
  |ret d=>exact λm h s y=>w m h s (x.trans y)
  |brk a=>exact λm h s y=>w m h s (x.trans y)
  |cont a=>exact λm h s y=>w m h s (x.trans y)
 |err z S=>exact λm h y=>w m h (x.trans y)
 |fail=>exact w
theorem aG.bind{c:Type}{Rel:La->Hp->c->β->Prop}{r:Res c}{f:c->aa->Res Fl}(w:aG K mg E D μ H (r.bind f)):
  al K mg E Rel μ H (λb H'=>∃μ' S' a,Ext μ H μ' H'/\aQ K mg μ' S' H'/\Rel μ' H' a b/\aG K mg E D μ' H' (f a S')) r:=by
 cases r with
 |ok a S'=>exact λd e b x s r=>⟨_,_,a,x,s,r,aG.ext x (show aG K _ E D _ H _ from w)⟩
 |err y S'=>exact w
 |fail=>exact w
theorem aG.seq{r:Res Fl}{f:bD->aa->Res Fl}{N:L2.St->Hp->Prop}(w:aG K mg E D μ H (r.bind λF S1=>match F with
   | .next ρ'=>f ρ' S1
   |F=>.ok F S1)) (b:∀μ' H' σ' ρ' S',Ext μ H μ' H'->aQ K mg μ' S' H'->be K mg μ' H' ρ' σ'->aG K mg E D μ' H' (f ρ' S')->N σ' H'):aG K mg E {D with nx:=N} μ H r:=by
 cases r with
 |ok F S=>
  cases F with
  |next a=>exact λm h s x k e=>b m h s _ S x k e (aG.ext x (show aG K _ E D _ H _ from w))
  |ret d=>exact w
  |brk a=>exact w
  |cont a=>exact w
 |err z S=>exact w
 |fail=>exact w
end
theorem cr{st:Stmt}{t t':TS}(h:PS X st t)(w:∀D σ H,t' D σ H->t D σ H):PS X st t':=λp s σ H D I q=>h _ s _ H D I (w D _ H q)
theorem kl{st:List Stmt}{t t':TS}(h:fW X st t)(w:∀D σ H,t' D σ H->t D σ H):fW X st t':=λp s σ H D I q=>h _ s _ H D I (w D _ H q)
noncomputable def gn:Expr->Bool
 | .ListComp .. =>false
 | .SetComp .. =>false
 | .DictComp .. =>false
 |_=>true
def tV:Expr->Bool
 | .ListComp .. =>true
 |_=>false
noncomputable def tW(s:Sc)(x:Str):Bool:=s.lookup x==some .local||s.lookup x==some .cell
noncomputable def Mt(s:Sc)(x:Str)(p:Pos)(v:Expr):Bool:=s.lookup x==some .local&&(p.line==(vw v).pos.line&& !((vw v).sc.names.any λ(n,k)=>n==x&&(k== .local||k== .cell)))
def dS:Stmt:=.Pass ⟨0,0,0,0⟩
structure MQ where
 e0:Expr:=dE
 e1:Expr:=dE
 a:List Stmt:=[]
 b:List Stmt:=[]
 pos:Pos:=⟨0,0,0,0⟩
 hp:Pos:=⟨0,0,0,0⟩
noncomputable def vs:Stmt->MQ
 | .Assign ts v p=>{e0:=ts.headD dE,e1:=v,pos:=p}
 | .AugAssign t _ v p=>{e0:=t,e1:=v,pos:=p}
 | .Expr v p=>{e0:=v,pos:=p}
 | .Return v p=>{e0:=v.getD dE,pos:=p}
 | .Pass p=>{pos:=p}
 | .Break p=>{pos:=p}
 | .Continue p=>{pos:=p}
 | .If t x y p=>{e0:=t,a:=x,b:=y,pos:=p}
 | .For t i x _ p=>{e0:=t,e1:=i,a:=x,pos:=p}
 | .While t x _ p=>{e0:=t,a:=x,pos:=p}
 | .Raise v _ p=>{e0:=v.getD dE,pos:=p}
 | .Try x [.ExceptHandler t _ y hp] _ _ p=>{e0:=t.getD dE,a:=x,b:=y,pos:=p,hp:=hp}
 |_=>{}
noncomputable def zW(o i:CE)(N:Ls)(e:Expr):Expr:=.Subscript (bB o N (vw e).e0) (bB i N (vw e).e1) (vw e).pos
noncomputable def zX(o i:CE)(N:Ls)(s:Sc)(e:Expr):Bool:=iK (bB i N (vw e).e1)&&(cl o N s (vw e).e0&&cl i N s (vw e).e1)
mutual
noncomputable def DW:CS->Ls->Stmt->Stmt
 | .asg i e,N,st=>.Assign [.Name (N.getD i "") (vw (vs st).e0).pos] (bB e N (vs st).e1) (vs st).pos
 | .asgT t e,N,st=>.Assign [iL t N (vs st).e0] (bB e N (vs st).e1) (vs st).pos
 | .par _ _,_,st=>st
 | .aug _ _,_,st=>st
 | .set o i v,N,st=>.Assign [zW o i N (vs st).e0] (bB v N (vs st).e1) (vs st).pos
 | .set2 _ _ _ _ _,_,st=>st
 | .expr e,N,st=>.Expr (bB e N (vs st).e0) (vs st).pos
 | .ret e,N,st=>.Return (some (bB e N (vs st).e0)) (vs st).pos
 | .retN,_,st=>.Return none (vs st).pos
 | .pass,_,st=>.Pass (vs st).pos
 | .brk,_,st=>.Break (vs st).pos
 | .cont,_,st=>.Continue (vs st).pos
 | .ite c a b,N,st=>.If (bB c N (vs st).e0) (fR a N (vs st).a) (fR b N (vs st).b) (vs st).pos
 | .for_ t it body,N,st=>.For (iL t N (vs st).e0) (sn it N (vs st).e1) (fR body N (vs st).a) [] (vs st).pos
 | .while_ _ c body,N,st=>.While (bB c N (vs st).e0) (fR body N (vs st).a) [] (vs st).pos
 | .never,_,st=>st
 | .dloop _ _ _ _,_,st=>st
 | .raise_ _ _,_,st=>st
 | .tryK _ _ _ _ _,_,st=>st
noncomputable def fR:List CS->Ls->List Stmt->List Stmt
 | [],_,_=>[]
 |c::cs,N,st=>DW c N (st.headD dS)::fR cs N st.tail
end
noncomputable def km:Expr->Bool
 | .Tuple xs _ _=>xs.all (foldedForSure 8)
 |_=>true
noncomputable def ko(s:Sc):Expr->Bool
 | .Tuple ts _ _=>ts.any fun
  | .Name id _=>s.lookup id==some .cell
  |_=>false
 |_=>false
mutual
noncomputable def HX:CS->Ls->Sc->Stmt->Bool
 | .asg i e,N,sc,st=>N[i]?==some (N.getD i "")&&(tW sc (N.getD i "")&&(cl e N sc (vs st).e1&&(gn (bB e N (vs st).e1)||(xF e&&(sc.lookup (N.getD i "")==some .cell||Mt sc (N.getD i "") (vw (vs st).e0).pos (bB e N (vs st).e1))))))
 | .asgT t e,N,sc,st=>jR t&&((km (bB e N (vs st).e1)||ko sc (iL t N (vs st).e0))&&(gn (bB e N (vs st).e1)&&(qf (λ_=>true) N sc t&&cl e N sc (vs st).e1)))
 | .par _ _,_,_,_=>false
 | .aug _ _,_,_,_=>false
 | .set o i v,N,sc,st=>zX o i N sc (vs st).e0&&(gn (bB v N (vs st).e1)&&cl v N sc (vs st).e1)
 | .set2 _ _ _ _ _,_,_,_=>false
 | .expr e,N,sc,st=>gn (bB e N (vs st).e0)&&cl e N sc (vs st).e0
 | .ret e,N,sc,st=>cl e N sc (vs st).e0
 | .retN,_,_,_=>true
 | .pass,_,_,_=>true
 | .brk,_,_,_=>true
 | .cont,_,_,_=>true
 | .ite c a b,N,sc,st=>cl c N sc (vs st).e0&&(fS a N sc (vs st).a&&fS b N sc (vs st).b)
 | .for_ t it body,N,sc,st=>qf (λ_=>true) N sc t&&(DS it N sc t (vs st).e1&&(mF (sn it N (vs st).e1)&&fS body N sc (vs st).a))
 | .while_ _ c body,N,sc,st=>cl c N sc (vs st).e0&&fS body N sc (vs st).a
 | .never,_,_,_=>true
 | .dloop _ _ _ _,_,_,_=>false
 | .raise_ _ _,_,_,_=>true
 | .tryK _ _ _ _ _,_,_,_=>false
noncomputable def fS:List CS->Ls->Sc->List Stmt->Bool
 | [],_,_,_=>true
 |c::cs,N,sc,st=>HX c N sc (st.headD dS)&&fS cs N sc st.tail
end
section
variable {E:XK}{pos:Pos}
theorem nS{v:Expr}{o:Option Expr}(h:gn v=true):swapsWith v o line env=pure false:=by cases v<;>first|rfl|cases h
theorem zY(O:cK X cell N sc CX E Φ Γ k):X.env.blockKind=.function:=by unfold Env.blockKind;rw[O.kd];rfl
theorem nT(O:cK X cell N sc CX E Φ Γ k){v:Expr}{x:Str}{p:Pos}(h:tV v=true)(H:sc.lookup x=some .cell):swapsWith v (some (.Name x p)) line X.env=pure false:=by
 have e:X.env.kindOf x=some .cell:=by show X.env.scope.names.lookup x=_;rw[O.sc];exact H
 cases v<;>first| (cases h)|skip
 show(pure _)=pure _;have a:(some NameKind.cell==some NameKind.local)=false:=by lia
 lia
theorem tX(O:cK X cell N sc CX E Φ Γ k){e:Expr}{g:List Comprehension}{v p:Pos}{x:Str}(h:Mt sc x p (.ListComp e g scope v)=true):swapsWith (.ListComp e g scope v) (some (.Name x p)) line X.env=pure true:=by
 obtain⟨d,h⟩:=ab h;obtain⟨H,a⟩:=ab h;have c:X.env.kindOf x=some .local:=by show X.env.scope.names.lookup x=_;rw[O.sc];simp_all
 show pure (X.env.blockKind== .function&&X.env.kindOf x==some _&&p.line==v.line&& !_)=pure _;rw[zY O,show(p.line==v.line)=true from H];have b:(!scope.names.any _)=true:=a;lia
theorem tY(O:cK X (λ_=>true) N sc CX E Φ Γ k){x:Str}(h:tW sc x=true):L2.Loc X.env.scope x:=by unfold L2.Loc;rw[O.sc];unfold tW at h;simpa using h
theorem zZ{D:Ends}{i:Nat}{e:CE}(h:tS X.K X.mg E Φ Γ (.asg i e) D σ H):tE X.K X.mg E Φ Γ e σ H λv H1=>D.nx (σ.set i (some v)) H1:=by obtain⟨F,g,j,S,b,a,w⟩:=h;exact⟨F,_,_,S,b,a,(aG.bind w).mono λv H1 z=>aN z λc f d x s r W=>W _ _ _ .refl s ((a.mono x).set r)⟩
theorem z7(O:cK X (λ_=>true) N sc CX E Φ Γ k){i:Nat}{e:CE}{st:Stmt}(h:HX (.asg i e) N sc st=true):PS X (DW (.asg i e) N st) (tS X.K X.mg E Φ Γ (.asg i e)):=by
 obtain⟨c,h⟩:=ab h;obtain⟨r,h⟩:=ab h;obtain⟨l,a⟩:=ab h;have c:=beq_iff_eq.mp c
 have p:swapsWith (bB e N (vs st).e1) (some (.Name (N.getD i "") (vw (vs st).e0).pos)) (vs st).pos.line X.env=pure false->PS X (DW (.asg i e) N st) (tS X.K X.mg E Φ Γ (.asg i e)):=λt=>
  cr (qV (i:=i) (by rw[O.n];exact O.nd) (by rw[O.n];exact c) (tY O r) (aY e O l) t (.inl (O.fn _ rfl))) λD M H q=>zZ q
 rcases Bool.or_eq_true_iff.mp a with a|a
 ·exact p (nS a)
 ·obtain⟨a,b⟩:=ab a;cases e with
  |comp box n P T it I body=>
   rcases Bool.or_eq_true_iff.mp b with b|b
   ·exact p (nT O rfl (beq_iff_eq.mp b))
   ·have f:=tX O (line:=(vs st).pos.line) b;have u:X.env.scope.names.lookup (N.getD i "")=some .local:=by rw[O.sc];exact beq_iff_eq.mp (ab b).1
    obtain⟨K,h⟩:=ab l;obtain⟨v,h⟩:=ab h;obtain⟨w,h⟩:=ab h;obtain⟨x,h⟩:=ab h;obtain⟨y,h⟩:=ab h;obtain⟨z,h⟩:=ab h;obtain⟨B,G⟩:=ab h;have s:=zP O K
    refine cr (mu (N:=n) (j:=i) (g:=qm X.K T) (tb:=tC X.K X.mg oL Φ Γ I body) O.calm (by rw[O.n];exact O.nd) (by rw[O.n];exact c) u f s (zQ O v) (nR it O y ki) _
     (λit A o=>tJ (kd:=false) rfl) (λC S m F A=>?_) (nN z)) λD M H q=>j1 (tg0:=.Name (N.getD i "") (vw (vs st).e0).pos) (zZ q)
    have d:=zR O s.kind w C S m F;exact⟨j0 d x,sP (nQ I d B) (tU body (kd:=false) d rfl rfl G)⟩
  |_=>cases a
end
def vL(h:Heap)(H:Hp)(h':Heap)(e:Addr)(cls:Value):Prop:=
 ∃o vs a0 T O ts,h'.get? e=some o/\(o.cls=cls/\vs[0]?=some a0)/\o.data=.fields vs/\vs[1]?=some (.ref T)/\T≠e/\h'.get? T=some O/\O.data=.fields ts/\ts[3]?=some .none/\(h.get? e=none/\h.get? T=none)/\H e=none/\H T=none
noncomputable def bt(P:Program)(w:World):ee:=λouter H s E v s'=>∃e cls H',v=.ref e/\s'.os=s.os/\AllBare s'.gens/\Un (dw outer) [] H H' s.heap s'.heap/\eG P w H' s'.heap/\E cls none H'/\vL s.heap H' s'.heap e cls
theorem qu(o:List Env)(H:Hp)(s:Shared)(e:Value)(S:Shared)(z:bt P w o H s E0 e S):False:=by obtain⟨_,_,_,_,_,_,_,_,q,_⟩:=z;exact q
theorem kq{o:HO}(x:bw P w H h a o):∃u,h.get? a=some u:=by
 cases o with
 |lst X=>obtain⟨_,_,_,_,e⟩:=x;exact⟨_,e⟩
 |tup X=>obtain⟨_,_,_,_,u,e,_⟩:=x;exact⟨_,e⟩
 |dK k=>obtain⟨_,_,_,_,o,_,_,e,_⟩:=x;exact⟨_,e⟩
 |dT k=>obtain⟨_,_,_,_,o,_,_,e,_⟩:=x;exact⟨_,e⟩
 |set S n=>obtain⟨o,_,_,_,e,_⟩:=x;exact⟨_,e⟩
 |ins C d fs=>obtain⟨_,_,_,e,_⟩:=x;exact⟨_,e⟩
 |own y=>obtain⟨_,e⟩:=x;exact⟨_,e⟩
 |xd fs=>obtain⟨_,⟨_,_,_,e,_⟩,_⟩:=x;exact⟨_,e⟩
 |rng lo b=>obtain⟨_,_,_,e⟩:=x;exact⟨_,e⟩
 |frz O u=>obtain⟨e,_⟩:=x;exact⟨_,e⟩
 |tbl p=>exact⟨_,show h.get? a=some _ from x⟩
 |met f y=>exact⟨_,show h.get? a=some _ from x⟩
 |ext c=>obtain⟨_,e,_⟩:=x;exact e
section
variable {s3:Shared}{e T:Addr}{cls a0:Value}{B:Heap}{E:XK}
theorem z8(I:Inv X pq σ H' s2)(G:X.ex=[])(L:X.stack=X.env::X.outer)(Q:∀b o,s2.heap.get? b=some o->b∉dw X.stack->b≠e->b≠T->B.get? b=some o)
  (A:X.s₀.heap.get? e=none/\X.s₀.heap.get? T=none) (w:H' e=none/\H' T=none) (P:Heap.FlyingW B X.outer e cls a0 h') (N:s2.heap.UpToSlots h') (q:E cls none H')
  (V:s3.os=s2.os) (W:s3.gens=s2.gens) (D:s3.heap=h'):bt X.prog X.w X.outer X.H₀ X.s₀ E (.ref e) s3:=by
 have U:=I.base;rw[G]at U;have M:=I.stack;have m:∀b,b∈dw X.stack->∃o,s2.heap.get? b=some o/\∀vs,o.data≠.fields vs:=λb d=>(M.mem d).2;have n:∀b∈dw X.stack,H' b=none:=I.stkFree;have k:∀b o,s2.heap.get? b=some o->b∉dw X.stack->b≠e->b≠T->h'.get? b=some o:=λb o h H c g=>P.1 b o (Q b o h H c g);have old:∀b o,X.s₀.heap.get? b=some o->b≠e/\b≠T:=λb o h=>⟨λz=>(by rw[z,A.1]at h;cases h),λz=>(by rw[z,A.2]at h;cases h)⟩
 have nl:∀b o,X.s₀.heap.get? b=some o->b∉dw X.outer->b∉dw X.stack:=λb o h H c=>by
  rcases Zn.mp (I.stkSub b c)with z|z
  ·have:=Zl h;rw[z]at this;exact absurd this (Nat.not_lt.mpr I.ok.above)
  ·exact H z
 have sub:∀b∈dw X.outer,b∈dw X.stack:=λb d=>by rw[L];obtain⟨Z,h,H⟩:=List.mem_filterMap.mp d;exact List.mem_filterMap.mpr ⟨Z,Zc _ h,H⟩
 have r:∀b o,s2.heap.get? b=some o->b≠e->b≠T->∃O,h'.get? b=some O:=λb o h H c=>by
  by_cases d:b∈dw X.stack
  ·obtain⟨C,g,i⟩:=m b d;obtain⟨sl,l⟩:=N b C g i;exact⟨_,l⟩
  ·exact⟨o,k b o h d H c⟩
 have R:Un (dw X.outer) [] X.H₀ H' X.s₀.heap h':=by
  refine⟨λb o h H c g=>k b o (U.keep b o h H c g) (nl b o h c) (old b o h).1 (old b o h).2,λb o h H c g=>?_,U.free,λb o h H=>?_,U.tups,U.frzs,U.tbls⟩
  ·obtain⟨sl,i⟩:=U.slot b o h H c g;obtain⟨C,l,x⟩:=m b (sub b c);rw[i]at l;cases l;obtain⟨S,y⟩:=N b _ i x;exact⟨S,y⟩
  ·obtain⟨O,i⟩:=U.there b o h H;exact r b O i (old b o h).1 (old b o h).2
 have t:∀b u,H' b=some u->b∉dw X.stack/\b≠e/\b≠T:=λb u h=>
  ⟨λz=>(by rw[n b z]at h;cases h),λz=>(by rw[z,w.1]at h;cases h),λz=>(by rw[z,w.2]at h;cases h)⟩
 have K:eG X.prog X.w H' h':=λa o Y=>(I.hok a o Y).stay (λb u d h=>by
  have F:∃u,H' b=some u:=by rcases d with rfl|d<;>exact⟨_,by assumption⟩
  obtain⟨u',hu⟩:=F;obtain⟨t1,t2,t3⟩:=t b u' hu;exact k b u h t1 t2 t3) (λ_ q=>q) λ_ _ q=>q
 obtain⟨k1,k2,k3,oe,vs,f,oT,ts,h,H,c,g,i,l,x,y,h9⟩:=P
 have gS:∀o,s2.heap.get? f=some o->f=T:=λo J=>by
  refine Classical.byContradiction λhn=>?_;by_cases d:f∈dw X.stack
  ·obtain⟨C,j,s⟩:=m f d;obtain⟨sl,v⟩:=N f C j s;rw[x]at v;cases v;exact s _ y
  ·rw[Q f o J d l hn]at i;cases i
 refine⟨e,cls,H',rfl,by rw[V];exact I.os,by rw[W];exact I.bare,by rw[D];exact R,by rw[D];exact K,q,?_⟩;rw[D];refine⟨oe,vs,a0,f,oT,ts,h,H,c,g,l,x,y,h9,⟨A.1,?_⟩,w.1,?_⟩
 ·cases p:X.s₀.heap.get? f with
  |none=>rfl
  |some o=>obtain⟨O,j⟩:=U.there f o p (by simp);rw[gS O j,A.2]at p;cases p
 ·cases p:H' f with
  |none=>rfl
  |some u=>obtain⟨o,J⟩:=kq (I.hok f u p);rw[gS o J,w.2]at p;cases p
theorem HY{l:List Env}(f:vL h0 Hx h e cls)(t:h.FunFrames base l):∃T a0,(h0.get? e=none/\h0.get? T=none)/\(Hx e=none/\Hx T=none)/\Heap.FlyingW (PySem.W.hideAll h (e::T::dw l)) l e cls a0 h:=by obtain⟨u,vs,a0,T,O,v,d,g,i,j,k,m,n,p,H,c⟩:=f;refine⟨T,a0,H,c,λb o q=>PySem.W.of_hideAll _ q,PySem.W.hideAll_none _ (by simp),PySem.W.funFrames_hide t (λE s a r=>?_),u,vs,T,O,v,d,g,i,j,PySem.W.hideAll_none _ (by simp),k,m,n,p⟩;exact Zc _ (Zc _ (List.mem_filterMap.mpr ⟨E,s,r⟩))
theorem nU{l:List Env}:∀b o,h.get? b=some o->b∉dw l->b≠e->b≠T->(PySem.W.hideAll h (e::T::dw l)).get? b=some o:=λb o a c d f=>
 PySem.W.hideAll_get _ a λH=>by
  rcases Zn.mp H with z|H
  ·exact d z
  ·rcases Zn.mp H with z|H
   ·exact f z
   ·exact c H
theorem nV{v:Value}(I:Inv X pq σ H s)(c:bt X.prog X.w X.stack H s E v s2)(a:X.ex=[]):∃e cls H',v=.ref e/\Inv X pq σ H' s2/\E cls none H'/\vL s.heap H' s2.heap e cls:=by obtain⟨e,cls,H',rfl,o,B,un,h,q,f⟩:=c;exact⟨e,cls,H',rfl,I.call' o un h B (λb z=>absurd z (by simp)),q,f⟩
theorem vL.old(f:vL h0 Hx h e cls)(t:∀b o,h1.get? b=some o->∃o',h0.get? b=some o'):vL h1 Hx h e cls:=by
 obtain⟨r,vs,a,T,O,s,c,d,i,j,k,l,m,p,g,G⟩:=f
 have n:∀b,h0.get? b=none->h1.get? b=none:=λb H=>by
  cases q:h1.get? b with
  |none=>rfl
  |some o=>obtain⟨o',E⟩:=t b o q;rw[H]at E;cases E
 exact⟨r,vs,a,T,O,s,c,d,i,j,k,l,m,p,⟨n _ g.1,n _ g.2⟩,G⟩
end
section
variable {E:XK}
def lp(X:Cx)(E:XK):Prop:=X.ex=[]/\X.stack=X.env::X.outer/\X.env.frame=some X.env.locals/\X.xe=λe s'=>wpAny (model X.prog X.w) X.A (leaving X.env e) (λ_ s=>bt X.prog X.w X.outer X.H₀ X.s₀ E e s) (λa s=>bt X.prog X.w X.outer X.H₀ X.s₀ E a s) s'
theorem lp.of{E:XK}:lp (gL (bt P w) P w K mg base N qual scope f cd A outer s H E) E:=
 ⟨rfl,rfl,rfl,rfl⟩
theorem lp.own(L:lp X E):PassesOwn (model X.prog X.w) X.A X.env X.xe:=by rw[L.2.2.2];exact PassesOwn.leaving
theorem lp.pass(L:lp X E):lP (bt X.prog X.w) X E:=by intro P t H s v S I c;obtain⟨a,h,l,d⟩:=L;obtain⟨e,cls,m,rfl,g,q,f⟩:=nV I c a;have F:=f.old (h1:=X.s₀.heap) λb o k=>I.base.there b o k (by rw[a];simp);obtain⟨T,A,n,N,j⟩:=HY F (h▸g.stack);rw[d];refine wpAny_leaves_onW (by rw[I.ok.frames,h]) l j λp i u=>?_;exact z8 (T:=T) g a h (by rw[h];exact nU) n N i u q rfl rfl rfl
theorem lp.made{e C:Addr}{A:Lv}(L:lp X E)(I:Inv X pq σ H s)(m:Heap.MadeExcOf s.heap h2 e (.ref C) A)(q:E (.ref C) none H):X.xe (.ref e) {s with heap:=h2}:=by
 obtain⟨g,c,w,k⟩:=L;rw[k];have i:∀d∈X.env::X.outer,∀a,d.frame=some a->a∈dw (X.env::X.outer):=λd v a r=>List.mem_filterMap.mpr ⟨d,v,r⟩;refine wpAny_leaves_madeW (base:=PySem.W.hideAll s.heap (dw X.stack)) (h:=s.heap) (by rw[I.ok.frames,c]) w (λb o z=>PySem.W.of_hideAll _ z) (PySem.W.funFrames_hide (c▸I.stack) (by rw[c];exact i)) m λx t F y B U=>?_
 have ne:X.s₀.heap.get? e=none:=by
  cases j:X.s₀.heap.get? e with
  |none=>rfl
  |some o=>obtain⟨O,f⟩:=I.base.there e o j (by rw[g];simp);rw[m.new]at f;cases f
 have N:H e=none:=by
  cases j:H e with
  |none=>rfl
  |some u=>obtain⟨o,n⟩:=kq (I.hok e u j);rw[m.new]at n;cases n
 exact z8 (T:=e) I g c (λb o p h2 _ _=>PySem.W.hideAll_get _ p h2) ⟨ne,ne⟩ ⟨N,N⟩ F ((Heap.UpToSlots.of_keeps m.keeps).trans U) q rfl rfl rfl
end
noncomputable def z9:Lv:=[.type "ValueError",.type "Exception",.type "BaseException",.type "object"]
section
variable {E:XK}{C:Addr}{x:Str}
end
open PySem PySem.Spec PySem.Calls PyProof.Rows PySem.W
section
variable {x C:Addr}
end
section
variable {x C:Addr}
end
end Py
namespace Py
open PySem PySem.Spec PySem.SeqAt PyProof.Rows L2
section
variable {x C:Addr}{bf:Str->Bool}{ys:Ls}
end
end Py
namespace Py
section
variable {e T:Addr}{B h3:Heap}
end
section
variable {y n:Str}{i:Nat}
end
section
variable {D:Ends}{h:ExceptHandler}
variable {pa:Addr}{pe n y:Str}{i:Nat}{tp np vp cp rp hp:Pos}
end
inductive Rz where
 |cls (x:Str)|kind (f:Str) (ys ws:Ls)
 deriving DecidableEq
mutual
noncomputable def Mu:CS->List Rz
 | .raise_ _ _=>[]
 | .tryK _ body f ys w=>.kind f ys w::eU body
 | .ite _ a b=>eU a++eU b
 | .for_ _ _ body=>eU body
 | .while_ _ _ body=>eU body
 |_=>[]
noncomputable def eU:List CS->List Rz
 | []=>[]
 |c::cs=>Mu c++eU cs
end
def XC(P:Program)(w:World)(K:Fg)(m:Mg):Rz->Prop
 | .cls x=>∃C,m x=some (.ref C)/\PySem.W.excIn K C z9 "ValueError.__new__"=true
 | .kind _ _ _=>False
theorem nW{o i:Expr}{p:Pos}(h:iK i=true):∀v,assign (.Subscript o i p) env v=(do
   let O <-holding [v] (eval o env)
   let I <-holding [v,O] (eval i env)
   standAt p
   holding [v,O,I] (setItem O I v)
   release [v,O,I] []):=by
 intro v;cases i<;>first|rfl|cases h
section
variable {E:XK}{pos:Pos}
end
structure HZ (X:Cx)(N:Ls)(sc:Sc)(CX:ee)(E:XK)(Φ:FT)(Γ:Str->Option D)(k:Nat):Prop where
 x:cK X (λ_=>true) N sc CX E Φ Γ k
 own:PassesOwn (model X.prog X.w) X.A X.env X.xe
 cx:CX=bt X.prog X.w
 fr:X.ex=[]/\X.stack=X.env::X.outer/\X.env.frame=some X.env.locals
 made:∀(pq:Lp) (σ:L2.St) (H:Hp) (s:Shared) (h2:Heap) (e C:Addr) (args:Lv),L2.Inv X pq σ H s->Heap.MadeExcOf s.heap h2 e (.ref C) args->E (.ref C) none H->X.xe (.ref e) {s with heap:=h2}
section
variable {E:XK}{pos:Pos}
theorem qv{a b:Type}{f:a->Option b}{x:a}(h:f x=none):∀{l:List a},x∈l->(l.filterMap f).length<l.length
 | [],H=>by cases H
 |y::l,H=>by
  rcases Zn.mp H with rfl|H
  ·grind
  ·have:=qv h H
   grind
theorem nX{v:Expr}(hs:env.scope.names=sc)(h1:eR tg=true)(a:(km v||ko sc tg)=true):swappedStores [tg] v env=pure none:=by
 cases tg<;>first| (cases h1;done)|skip
 cases v<;>first|rfl|skip
 rename_i t _ _ u _ _;unfold swappedStores;simp only[];split
 ·rfl
 ·split
  ·rfl
  ·split
   ·rfl
   ·rename_i c;rcases Bool.or_eq_true_iff.mp a with h|h
    ·have h:(List.all u (foldedForSure 8))=true:=h
     first|rfl|rw[if_pos h]
    ·exfalso
     have h:(t.any λx=>match x with
      | .Name id _=>sc.lookup id==some .cell
      |_=>false)=true:=h
     obtain⟨x,d,H⟩:=List.any_eq_true.mp h;refine c ?_
     have b:=qv (f:=λx=>match x with
      |Expr.Name id pos=>if env.kindOf id==some .local&&pos.line==(t.head?.map (·.pos.line)).getD 0 then some id else none
      |_=>none) (x:=x) (by
       cases x<;>first|rfl|skip
       rename_i id pos;have H:(sc.lookup id==some .cell)=true:=H
       have e:env.kindOf id=some .cell:=by show env.scope.names.lookup id=_;rw[hs];exact eq_of_beq H
       show(if(env.kindOf id==some .local&&_)=true then _ else _)=none;rw[e];rfl) d
     rw[Bool.or_eq_true];exact .inl (bne_iff_ne.mpr (Zx b))
theorem H3(h1:eR tg=true):(assignEach [tg] env).map (·.2)=[assign tg env]:=by cases tg<;>first|rfl|cases h1
theorem H4{t v:Expr}(h:swapsWith v (some t) line env=pure false):swapsWithSole [t] v line env=pure false:=h
theorem tZ(O:cK X (λ_=>true) N sc CX E Φ Γ k){t:CT}{e:CE}{v:Expr}(h1:eR (iL t N tg)=true)(h:(km v||ko sc (iL t N tg))=true)(f:gn v=true)(g:qf (λ_=>true) N sc t=true)(i:PE X v (tE X.K X.mg E Φ Γ e)):PS X (.Assign [iL t N tg] v pos) (tS X.K X.mg E Φ Γ (.asgT t e)):=
 cr (jn i (j0 O g) (nS f) (nX O.sc h1 h) (H3 h1)) λD u H z=>aH z λF p q S j c w=>by
  refine⟨F,_,_,S,j,c,(aG.bind w).mono λv H1 z=>aN z λl o d x s r W=>?_⟩;cases a:aE t d _ with
  |none=>rw[a]at W;exact W.elim
  |some m=>rw[a]at W;exact sO a r (c.mono x) λn b=>W _ _ _ .refl s b
theorem z_{o i v:CE}{k b g:Expr}{p:Pos}(n:iK b=true)(m:gn g=true)(q:PE X k (tE X.K X.mg E Φ Γ o))(hi:PE X b (tE X.K X.mg E Φ Γ i))(r:PE X g (tE X.K X.mg E Φ Γ v)):PS X (.Assign [.Subscript k b p] g pos) (tS X.K X.mg E Φ Γ (.set o i v)):=
 cr (jn r (qT q hi xh (nW n)) (H4 (nS m)) rfl) λD σ H z=>aH z λF μ ρ S C a w=>by
  refine⟨F,_,_,S,C,a,(aG.bind w).mono λvv H1 z=>aN z λJ Q f x u R G=>?_⟩;refine⟨F,_,_,_,u,a.mono x,(aG.bind G).mono λZ N z=>aN z λK T d h y s I=>?_⟩;refine⟨F,_,_,_,y,(a.mono x).mono h,(aG.bind I).mono λY O z=>aN z λL U e j A t W=>?_⟩;cases c:iE d e f _ with
  |none=>rw[c]at W;exact W.elim
  |some V=>rw[c]at W;exact⟨F,_,_,d,e,f,A,Rep.mono j _ _ s,t,Rep.mono (h.trans j) _ _ R,_,c,λM P l B=>W _ _ _ l B ((((a.mono x).mono h).mono j).mono l)⟩
theorem t5{e:CE}{v:Expr}(h:gn v=true)(b:PE X v (tE X.K X.mg E Φ Γ e)):PS X (.Expr v pos) (tS X.K X.mg E Φ Γ (.expr e)):=
 cr (lx b (nS h)) λD k H z=>aH z λF i j S c a w=>by exact⟨F,_,_,S,c,a,(aG.bind w).mono λv H1 z=>aN z λf g d x s r W=>W _ _ _ .refl s (a.mono x)⟩
theorem Aa{e:CE}{v:Expr}(h:PE X v (tE X.K X.mg E Φ Γ e)):PS X (.Return (some v) pos) (tS X.K X.mg E Φ Γ (.ret e)):=
 cr (qQ h) λD j H z=>aH z λF g i S b a w=>by exact⟨F,_,_,S,b,a,(aG.bind w).mono λv H1 z=>aN z λc f d x s r W=>W _ _ v .refl s r⟩
theorem t6:PS X (.Return none pos) (tS X.K X.mg E Φ Γ .retN):=cr ly λD c H z=>aH z λF a b S s e w=>w _ H _ .refl s jv
theorem t7:PS X (.Pass pos) (tS X.K X.mg E Φ Γ .pass):=cr lw λD c H z=>aH z λF a b S s e w=>w _ H _ .refl s e
theorem Ab:PS X (.Break pos) (tS X.K X.mg E Φ Γ .brk):=cr Em λD c H z=>aH z λF a b S s e w=>w _ H _ .refl s e
theorem t8:PS X (.Continue pos) (tS X.K X.mg E Φ Γ .cont):=cr Eo λD c H z=>aH z λF a b S s e w=>w _ H _ .refl s e
theorem H5{c:CE}{a b:List CS}{t:Expr}{x y:List Stmt}(i:PT X t (tT X.K X.mg E Φ Γ c))(h:fW X x (qt X.K X.mg E Φ Γ a))(g:fW X y (qt X.K X.mg E Φ Γ b)):PS X (.If t x y pos) (tS X.K X.mg E Φ Γ (.ite c a b)):=
 cr (v6 i h g) λD p H z=>aH z λF n o S j e w=>by
  refine⟨F,_,_,S,j,e,(aG.bind w).mono λk H1 z=>aN z λl m K d s f W=>?_⟩;subst f;cases K with
  |true=>exact⟨F,_,_,_,s,e.mono d,W⟩
  |false=>exact⟨F,_,_,_,s,e.mono d,W⟩
theorem t9:fW X [] (qt X.K X.mg E Φ Γ []):=kl lv λD c H z=>aH z λF a b S s e w=>w _ H _ .refl s e
theorem nY{c:CS}{cs:List CS}{s:Stmt}{st:List Stmt}(h1:PS X s (tS X.K X.mg E Φ Γ c))(h:fW X st (qt X.K X.mg E Φ Γ cs)):fW X (s::st) (qt X.K X.mg E Φ Γ (c::cs)):=
 kl (El h1 h) λD n H z=>aH z λF l m S b a w=>by exact⟨F,_,_,S,b,a,aG.seq w λd i g f j x k e W=>⟨F,_,_,_,k,e,W⟩⟩
theorem Ac{M:GS}{D:Ends}{r:Res Fl}{f:bD->aa->Res Fl}{Nx:L2.St->Hp->Prop}(w:aG K M E D μ H (r.bind λF S'=>match F with
   | .next ρ'=>f ρ' S'
   | .cont ρ'=>f ρ' S'
   | .brk ρ'=>.ok (.next ρ') S'
   | .ret d=>.ok (.ret d) S')) (a:∀μ' H' σ' ρ' S',Ext μ H μ' H'->aQ K M μ' S' H'->be K M μ' H' ρ' σ'->aG K M E D μ' H' (f ρ' S')->Nx σ' H'):aG K M E {D with nx:=Nx,ct:=Nx,bk:=D.nx} μ H r:=by
 cases r with
 |ok F S=>
  cases F with
  |next b=>exact λm h s x k e=>a m h s _ S x k e (aG.ext x (show aG K _ E D _ H _ from w))
  |ret d=>exact w
  |brk b=>exact w
  |cont b=>exact λm h s x k e=>a m h s _ S x k e (aG.ext x (show aG K _ E D _ H _ from w))
 |err z S=>exact w
 |fail=>exact w
theorem nZ{c:CE}{t:Expr}{x:List Stmt}(r:PassesOwn (model X.prog X.w) X.A X.env X.xe)(p:PT X t (tT X.K X.mg E Φ Γ c))(o:fW X x (qt X.K X.mg E Φ Γ body)):PS X (.While t x [] pos) (tS X.K X.mg E Φ Γ (.while_ n c body)):=
 cr (Eu r p o) λD f H z=>aH z λF a b S s e w=>by
  refine⟨λm f H=>∃a b S,aQ _ _ a S H/\be _ _ a H b f/\aG _ _ E D a H (fN _ _ m b S),⟨n,_,_,S,s,e,w⟩,?_⟩;rintro m f H ⟨a,b,S,s,e,w⟩;cases m with
  |zero=>exact w.elim
  |succ m=>
   refine⟨F,_,_,S,s,e,(aG.bind w).mono λk H1 z=>aN z λy C K i h l W=>?_⟩;subst l;cases K with
   |true=>refine⟨_,λg j q=>⟨m,Nat.lt_succ_self m,q⟩,F,_,_,_,h,e.mono i,?_⟩;exact Ac W λv j g A B x k d u=>⟨_,_,_,k,d,u⟩
   |false=>exact W _ _ _ .refl h (e.mono i)
end
theorem t_(step:D->bD->aa->Res Fl)(xs:List D):∀(n i:Nat) (ρ:bD) (S:aa),i+n=xs.length->dN step (λ_ i=>some xs[i]?) (n+1) i ρ S=b3 step (xs.drop i) ρ S
 |0,i,ρ,S,h=>by rw[List.drop_eq_nil_of_le (by omega)];unfold dN;have:xs[i]?=none:=List.getElem?_eq_none_iff.mpr (by omega);rw[this];rfl
 |n+1,i,ρ,S,h=>by
  have H:i<xs.length:=by omega
  rw[List.drop_eq_getElem_cons H];unfold dN;rw[Zj H];show(step _ _ S).bind _=(step _ _ S).bind _;congr 1;funext f b;cases f with
  |next a=>exact t_ _ _ n _ _ _ (by omega)
  |cont a=>exact t_ _ _ n _ _ _ (by omega)
  |brk a=>rfl
  |ret d=>rfl
theorem n_(step:D->bD->aa->Res Fl)(its:iG)(ρ:bD)(S:aa):sf step its ρ S=dN step (bp its) (sR its) 0 ρ S:=by
 cases its with
 |items x=>exact(t_ _ _ _ 0 _ S (by omega)).symm
 |live f get=>rfl
section
variable {E:XK}{pos:Pos}
theorem Ad{t:CT}{it:CE}{i:Expr}{x:List Stmt}(Q:PassesOwn (model X.prog X.w) X.A X.env X.xe)(O:X.calm=true)(hi:PI X tg i (tI X.K X.mg E Φ Γ it))(P:PG X tg (qm X.K t))(hs:∀x,foldedSetIterable i X.env x=pure x)(N:fW X x (qt X.K X.mg E Φ Γ body)):
  PS X (.For tg i x [] pos) (tS X.K X.mg E Φ Γ (.for_ t it body)):=
 cr (qX Q O hi P N hs) λD A H zz=>aH zz λF a b S s d w=>by
  refine⟨F,a,b,S,s,d,al.mono (aG.bind w) λJ H1 h=>?_⟩;obtain⟨μ1,L,T,x1,s1,ok,w1⟩:=h;have G:=w1;rw[n_]at G;refine⟨λi m A H=>∃a b S,dz X.K F _ H1 F a H/\aQ _ _ a S H/\be _ _ a H b A/\aG _ _ E D a H (dN _ _ m i b S),⟨_,_,b,L,.refl,s1,d.mono x1,G⟩,?_⟩;rintro i m A H ⟨a,b,S,B,s,d,w⟩;cases m with
  |zero=>exact w.elim
  |succ m=>
   unfold dN at w;obtain⟨U,V⟩:=ok i a S H F B s;cases e:bp _ S i with
   |none=>rw[e]at w;exact w.elim
   |some o=>
    cases o with
    |none=>rw[e]at w;exact .inl ⟨V e,w a H _ .refl s d⟩
    |some y=>
     rw[e]at w;obtain⟨M,Y⟩:=U y e;refine .inr ⟨M,_,λf c q=>⟨m,Nat.lt_succ_self m,q⟩,λv c R=>?_⟩;obtain⟨r,s2,Z⟩:=Y v c R;have C:=B.trans (.of_ext r λ_ z=>.inl z);have w':=aG.ext r w;have w3:=w'
     have W:=Ac (Nx:=λf c=>∃a b S,dz _ F _ H1 F a c/\aQ _ _ a S c/\be _ _ a c b _/\aG _ _ E D a c _) w3
      λμ' I f u K x3 k j p=>⟨_,_,K,C.trans (.of_ext x3 λ_ z=>.inl z),k,j,p⟩
     unfold n at W;cases g:aE t y b with
     |none=>simp[g]at W;exact W.elim
     |some u=>simp only[g]at W;exact sO g Z (d.mono r) λσ2 l=>⟨F,a,_,S,s2,l,W⟩
end
section
variable {E:XK}
end
mutual
theorem ua(c:CS):∀{X:Cx} {N:Ls} {sc:Sc} {CX:ee} {E:XK} {Φ:FT} {Γ:Str->Option D} {k:Nat} {st:Stmt},HZ X N sc CX E Φ Γ k->HX c N sc st=true->(∀z∈Mu c,XC X.prog X.w X.K X.mg z)->PS X (DW c N st) (tS X.K X.mg E Φ Γ c):=by
 intro X N sc CX E Φ Γ k st O h d;cases c with
 |asg i e=>exact z7 O.x h
 |asgT t e=>exact tZ O.x (ki (ab h).1) ((ab (ab h).2).1) (ab (ab (ab h).2).2).1 (ab (ab (ab (ab h).2).2).2).1 (aY e O.x (ab (ab (ab (ab h).2).2).2).2)
 |par=>cases h
 |aug=>cases h
 |set o i v=>exact z_ (ab (ab h).1).1 (ab (ab h).2).1 (aY o O.x (ab (ab (ab h).1).2).1) (aY i O.x (ab (ab (ab h).1).2).2) (aY v O.x (ab (ab h).2).2)
 |set2=>cases h
 |expr e=>exact t5 (ab h).1 (aY e O.x (ab h).2)
 |ret e=>exact Aa (aY e O.x h)
 |retN=>exact t6
 |pass=>exact t7
 |brk=>exact Ab
 |cont=>exact t8
 |ite c a b=>exact H5 (er c O.x (ab h).1) (iW a O (ab (ab h).2).1 λz g=>d z (ZD _ g)) (iW b O (ab (ab h).2).2 λz g=>d z (Zu _ g))
 |for_ t it body=>exact Ad O.own O.x.calm (nR it O.x (ab (ab h).2).1 ki) (j0 O.x (ab h).1) (nN (ab (ab (ab h).2).2).1) (iW body O (ab (ab (ab h).2).2).2 d)
 |while_ n c body=>exact nZ O.own (er c O.x (ab h).1) (iW body O (ab h).2 d)
 |never=>exact λp s r H D I Z=>aH Z λF m q S l j w=>w.elim
 |dloop i t it P=>cases h
 |raise_ x u=>exact λp s r H D I Z=>aH Z λF m q S l j w=>w.elim
 |tryK i body f y W=>cases h
theorem iW(cs:List CS):∀{X:Cx} {N:Ls} {sc:Sc} {CX:ee} {E:XK} {Φ:FT} {Γ:Str->Option D} {k:Nat} {st:List Stmt},HZ X N sc CX E Φ Γ k->fS cs N sc st=true->(∀z∈eU cs,XC X.prog X.w X.K X.mg z)->fW X (fR cs N st) (qt X.K X.mg E Φ Γ cs):=by
 intro X N sc CX E Φ Γ k st O h a;cases cs with
 |nil=>exact t9
 |cons c cs=>exact nY (ua c O (ab h).1 λz H=>a z (ZD _ H)) (iW cs O (ab h).2 λz H=>a z (Zu _ H))
end
mutual
noncomputable def bE(k:Nat):D->Bool
 | .tup xs=>bb k xs
 | .lst xs=>bb k xs
 | .scr xs=>bb k xs
 | .ref n=>decide (n<k)
 |_=>true
noncomputable def bb(k:Nat):List D->Bool
 | []=>true
 |x::xs=>bE k x&&bb k xs
end
noncomputable def cC(k:Nat)(d:D)(S':aa):Res D:=
 if(S'.take k).all (bb k)=true then
  (if bE k d=true then .ok d (S'.take k)else match d with
   | .ref n=>(match S'[n]? with
    |some xs=>if bb k xs=true/\k<=n then .ok (.ref k) (S'.take k++[xs])else .fail
    |none=>.fail)
   |_=>.fail)
 else .fail
noncomputable def az(Φ:FT)(Γ:Str->Option D)(body:List CS)(n N:Nat)(ds:List D)(S:aa):Res D:=
 if ds.length=N then
  (match ah Φ Γ body (ds.map some++List.replicate (n-N) none) S with
  | .ok (.ret d) S'=>cC S.length d S'
  | .ok (.next _) S'=>cC S.length .non S'
  | .err x S'=>if(S'.take S.length).all (bb S.length)=true then .err x (S'.take S.length)else .fail
  |_=>.fail)
 else .fail
section
variable {mg:GS}{μ'':La}
mutual
theorem Rep.low(b:∀n,n<k->μ''[n]?=μ'[n]?)(hs:∀a∈μ'',a∈μ'):∀(d:D) (v:V),bE k d=true->Rep K mg μ' H d v->Rep K mg μ'' H d v
 | .non,_,_,h=>h
 | .bl _,_,_,h=>h
 | .int _,_,_,h=>h
 | .str _,_,_,h=>h
 | .tup _,v,l,h=>by obtain⟨a,vs,e,q,r⟩:=h;exact⟨a,_,e,q,aj.low b hs _ _ l r⟩
 | .lst _,v,l,h=>by obtain⟨a,vs,e,q,n,r⟩:=h;exact⟨a,_,e,q,⟨λz=>n.1 (hs a z),n.2⟩,aj.low b hs _ _ l r⟩
 | .scr _,v,l,h=>by obtain⟨a,vs,e,q,r⟩:=h;exact⟨a,_,e,q,aj.low b hs _ _ l r⟩
 | .ref n,v,l,h=>by unfold Rep at h⊢;unfold bE at l;simp_all
 | .fn y,v,_,h=>h
 | .ty y,v,_,h=>h
 | .dct,v,_,h=>h
 | .dks _,v,_,h=>h
theorem aj.low(b:∀n,n<k->μ''[n]?=μ'[n]?)(hs:∀a∈μ'',a∈μ'):∀(ds:List D) (vs:List V),bb k ds=true->aj K mg μ' H ds vs->aj K mg μ'' H ds vs
 | [],vs,_,h=>h
 |d::ds,vs,l,h=>by unfold bb at l;simp at l;obtain⟨w,W,e,r,q⟩:=h;exact⟨w,_,e,Rep.low b hs d w l.1 r,aj.low b hs _ _ l.2 q⟩
end
theorem Ext.cut(x:Ext μ H μ' H'):Ext μ H μ H':=⟨⟨[],by simp⟩,x.keep,x.there,λ_ h=>.inl h⟩
theorem aQ.cut(x:Ext μ H μ' H')(f:μ.length=k)(s:aQ K mg μ' S' H')(l:(S'.take k).all (bb k)=true):aQ K mg μ (S'.take k) H':=by
 obtain⟨r,rfl⟩:=x.pre;have g:=s.len;simp at g;refine⟨s.live,by rw[List.length_take];omega,(ZJ.mp s.nd).1,λn a D d h=>?_⟩;have i:n<k:=by rw[<-f];exact(Zp.mp d).1
 have c:=h;rw[List.getElem?_take_of_lt i]at h;obtain⟨vs,q,R⟩:=s.at_ n a _ (by rw[Zw (by omega)];exact d) h;exact⟨_,q,aj.low λm j=>by rw[Zw (by omega)] (λb e=>ZD _ e) _ _ (ZG.mp l _ (ZC c)) R⟩
theorem Ae{E:XK}{Q:VK}(x:Ext μ H μ' H')(u:μ.length=k)(s:aQ K mg μ' S' H')(r:Rep K mg μ' H' d v)(w:al K mg E (Rep K mg) μ H Q (cC k d S')):Q v H':=by
 unfold cC at w;split at w
 ·rename_i y;split at w
  ·rename_i J;refine w μ H' v x.cut (aQ.cut x u s y) ?_;obtain⟨R,rfl⟩:=x.pre;exact Rep.low (k:=k) (λm l=>by rw[Zw (by omega)]) (λb f=>ZD _ f) _ _ J r
  ·split at w
   ·rename_i n M;split at w
    ·rename_i X N;split at w
     ·rename_i B;unfold Rep at r;obtain⟨a,rfl,p⟩:=r;obtain⟨vs,q,P⟩:=s.at_ n a X p N;have S:=aQ.cut x u s y;obtain⟨R,rfl⟩:=x.pre;have j:=ZJ.mp s.nd;have L:μ.length<=n:=by omega
      have e:a∈R:=by rw[ZS L]at p;exact ZC p
      have i:a∉μ:=λz=>j.2.2 a z a e rfl
      have t:H a=none:=by
       rcases x.fresh a (Zu _ e)with z|z
       ·exact absurd z i
       ·exact z
      have sub:∀b∈μ++[a],b∈μ++R:=λb f=>by
       rcases Zq.mp f with z|z
       ·exact ZD _ z
       ·have:b=a:=by simpa using z
        subst this;exact Zu _ e
      have same:∀m,m<k->(μ++[a])[m]?=(μ++R)[m]? :=λm l=>by rw[Zw (by omega),Zw (by omega)]
      have A:=s.len;simp at A;refine w (μ++[a]) H' (.ref a) ⟨⟨[a],rfl⟩,x.keep,x.there,λb f=>?_⟩ ⟨s.live,?_,?_,λm b D g h=>?_⟩ ?_
      ·rcases Zq.mp f with z|z
       ·exact .inl z
       ·have:b=a:=by simpa using z
        subst this;exact .inr t
      ·rw[ZA,ZA,List.length_take];simp;omega
      ·rw[ZJ]
       exact⟨j.1,by simp,λb f c I=>by
        have:c=a:=by simpa using I
        subst this;intro z;subst z;exact i f⟩
      ·by_cases l:m<μ.length
       ·rw[Zw l]at g;rw[Zw (by rw[List.length_take];omega)]at h;have o:=h;rw[List.getElem?_take_of_lt (by omega)]at h;obtain⟨W,O,C⟩:=s.at_ m b D (by rw[Zw l];exact g) h;exact⟨W,O,aj.low (k:=k) same sub _ _ (ZG.mp y D (ZC o)) C⟩
       ·have F:m=μ.length:=by
         have:=(Zp.mp g).1;simp at this;omega
        subst F;rw[ZS (Zg _)]at g;rw[ZS (by rw[List.length_take];omega)]at h;have G:μ.length-(S'.take k).length=0:=by rw[List.length_take];omega
        rw[G]at h;simp at g h;subst g;subst h;exact⟨vs,q,aj.low (k:=k) same sub _ _ B.1 P⟩
      ·unfold Rep;exact⟨a,rfl,by rw[<-u,ZS (Zg _)];simp⟩
     ·exact w.elim
    ·exact w.elim
   ·exact w.elim
 ·exact w.elim
end
theorem H7{m:GS}{vs:List V}(r:aj K m μ H ds vs):be K m μ H (ds.map some++List.replicate (N.length-ds.length) none) (L2.start N vs):=by
 unfold L2.start;have c:=r.length;refine⟨by simp_all,λi d e=>?_⟩;by_cases b:i<ds.length
 ·rw[Zw (by simp_all)]at e;cases E:ds[i]? with
  |none=>simp_all
  |some D=>
   obtain⟨v,h,a⟩:=r.get E
   grind
 grind
theorem bT.mono{j:Nat}{f:Str}(F:bT P w K mg base CX j f φ)(h:j<=k):bT P w K mg base CX k f φ:=by obtain⟨d,e,p,m,M,a,b,c⟩:=F.ex;exact⟨_,_,_,m,M,a,b.mono h,c⟩
theorem Af{x:Str}{st:Stmt}{B:FuncData}(F:vH K x qual st f B)(S:c7 N ps (dF st))(M:DT P w K mg base (bt P w) Φ Γ k)(V:fR body N (dn st)=dn st)(U:fS body N (dF st).names (dn st)=true)(Z:∀z∈eU body,XC P w K mg z):
  c9 P w K mg base (bt P w) (k+1) f B ps (sr K mg ps.length (az Φ Γ body N.length ps.length)):=by
 obtain⟨oc,od,kV,J,pm,an,i,ct,osl,rfl,lk,j⟩:=F.ex;refine wv lk j S (λvs H Q E h=>h.1) λA o s H vs Q E Y h=>?_
 ·obtain⟨X,F',μ,t,R,D,r,W⟩:=h;have L:lp (gL _ P w K mg base N qual (dF st) f i A o s H E) E:=lp.of;have O:HZ _ N _ _ E _ _ k:=⟨⟨rfl,S.nd,rfl,S.kind,rfl,Y,λ_ _=>rfl,M,L.pass,qu⟩,L.own,rfl,⟨rfl,rfl,rfl⟩,λpq σ H1 s1 h2 e C u I m q=>L.made I m q⟩;refine⟨_,V▸iW _ O U Z,_,_,_,_,D,H7 r,?_⟩;have b:R.length=ps.length:=by rw[r.length];exact X
  unfold az at W;rw[if_pos b,<-b]at W;have a:=D.len;cases e:ah _ _ _ _ _ with
  |ok T p=>
   rw[e]at W;cases T with
   |next G=>exact λg n σ' x c _=>Ae x a c jv W
   |ret d=>exact λg n v x c r'=>Ae x a c r' W
   |brk G=>exact W.elim
   |cont G=>exact W.elim
  |err y p=>
   rw[e]at W;intro g n x c;by_cases l:(p.take t.length).all (bb t.length)=true
   ·simp[l]at W;exact W _ _ x.cut (aQ.cut x a c l)
   ·simp[l]at W;exact W.elim
  |fail=>rw[e]at W;exact W.elim
theorem MS{x:Str}{st:Stmt}{a:FuncData}(F:vH K x qual st f a)(S:c7 N ps (dF st))(d:mg x=some (.ref f))(H:Binds K a ps [])(M:DT P w K mg base (bt P w) Φ Γ k)(c:fR body N (dn st)=dn st)(b:fS body N (dF st).names (dn st)=true)(e:∀z∈eU body,XC P w K mg z):
  bT P w K mg base (bt P w) (k+1) x (az Φ Γ body N.length ps.length):=by
 refine⟨f,_,_,d,F.kp,H,Af F S M c b e,λD g h=>?_⟩;unfold az at h
 grind
theorem dX{P:Lv->Prop}(h:∀a,P [a]):∀us:Lv,us.length=1->P us:=λus H=>by obtain⟨a,rfl⟩:=List.length_eq_one_iff.mp H;exact h a
theorem bS{P:Lv->Prop}(h:∀a b,P [a,b]):∀us:Lv,us.length=2->P us:=λus H=>by
 cases us with
 |nil=>cases H
 |cons a us=>exact dX (P:=λus=>P _) (h a) _ (Nat.succ.inj H)
theorem ub{P:Lv->Prop}(h:∀a b c,P [a,b,c]):∀us:Lv,us.length=3->P us:=λus H=>by
 cases us with
 |nil=>cases H
 |cons a us=>exact bS (P:=λus=>P _) (h a) _ (Nat.succ.inj H)
noncomputable def tbl(l:List (Str×(List D->aa->Res D))):FT:=λf=>l.lookup f
theorem Mv{l:List (Str×(List D->aa->Res D))}(h:∀p∈l,bT P w K mg base (bt P w) k p.1 p.2)(b:∀x d,Γ x=some d->∃v u,mg x=some u/\RelV v u/\∀F μ H,Rep K ⟨mg,F⟩ μ H d v)(a:∀x∈gb,mg x=none):DT P w K mg base (bt P w) (tbl l) Γ k:=
 ⟨λf c e=>h _ (ZN e),b,a⟩
end Py
namespace K52
noncomputable def G0:Str->Option D:=λx=>[(("MOST_PLACES":Str),D.int 8)].lookup x
def H8:Ls:=["thing"]
noncomputable def H9:List CS:=[.ret (.band (.blt .isinst [.var 0,.ty "int"]) (.bnot (.blt .isinst [.var 0,.ty "bool"])))]
def H_:FT:=tbl []
def og:List D->aa->Res D:=az H_ G0 H9 H8.length 1
def Ia:Ls:=["thing","low","high"]
noncomputable def Ag:List CS:=[.ret (.band (.call "is_number" [.var 0]) (.chain .LtE .LtE (.var 1) (.var 0) (.var 2)))]
def Ah:FT:=tbl [("is_number",og)]
theorem Ib:Ah "is_number"=some og:=rfl
def iX:List D->aa->Res D:=az Ah G0 Ag Ia.length 3
def Ic:Ls:=["many","thing"]
noncomputable def Ai:List CS:=[.ret (.call "is_number_from" [.var 1,.lit (.int 0),.bin .Sub (.var 0) (.lit (.int 1))])]
def Aj:FT:=tbl [("is_number_from",iX)]
theorem Ie:Aj "is_number_from"=some iX:=rfl
def oh:List D->aa->Res D:=az Aj G0 Ai Ic.length 2
def Ak:Ls:=["things"]
noncomputable def Al:List CS:=[.ret (.blt .all [.comp false ["one","other"] [none,none] (.tup [.var 0,.var 1]) (.zip [.var 0,.sl (.var 0) [.lit (.int 1)] []]) [] (.emit (.cmp .Lt (.var 0) (.var 1)))])]
def Ig:FT:=tbl []
def et:List D->aa->Res D:=az Ig G0 Al Ak.length 1
def Ih:Ls:=["many","thing"]
noncomputable def Am:List CS:=[.ret (.band (.blt .isinst [.var 1,.ty "tuple"]) (.blt .all [.comp false ["place","many"] [none,some 0] (.var 0) (.seq (.var 1)) [] (.emit (.call "is_place" [.var 1,.var 0]))]))]
def An:FT:=tbl [("is_place",oh)]
theorem Ii:An "is_place"=some oh:=rfl
def gp:List D->aa->Res D:=az An G0 Am Ih.length 2
def Ij:Ls:=["things"]
noncomputable def uc:List CS:=[.ret (.cmp .Eq (.lenset (.var 0)) (.blt .len [.var 0]))]
def Ik:FT:=tbl []
def gY:List D->aa->Res D:=az Ik G0 uc Ij.length 1
def Il:Ls:=["many","thing"]
noncomputable def Ao:List CS:=[.ret (.band (.call "are_places" [.var 0,.var 1]) (.band (.cmp .Eq (.blt .len [.var 1]) (.lit (.int 2))) (.call "is_rising" [.var 1])))]
def ud:FT:=tbl [("are_places",gp),("is_rising",et)]
theorem Io:ud "are_places"=some gp:=rfl
theorem Ip:ud "is_rising"=some et:=rfl
def iY:List D->aa->Res D:=az ud G0 Ao Il.length 2
def Ap:Ls:=["thing","many","ties"]
noncomputable def Aq:List CS:=[.ite (.bor (.bnot (.blt .isinst [.var 0,.ty "tuple"])) (.cmp .NotEq (.blt .len [.var 0]) (.lit (.int 2)))) [.ret (.lit (.bl false))] [],.asgT (.tup [.var 1,.var 2]) (.var 0),.ite (.bor (.bnot (.call "is_number_from" [.var 1,.lit (.int 1),.glob "MOST_PLACES"])) (.bnot (.blt .isinst [.var 2,.ty "tuple"]))) [.ret (.lit (.bl false))] [],.ret (.band (.blt .all [.comp false ["tie","many"] [none,some 1] (.var 0) (.seq (.var 2)) [] (.emit (.call "is_tie" [.var 1,.var 0]))]) (.call "is_rising" [.var 2]))]
noncomputable def oj:FT:=tbl [("is_rising",et),("is_number_from",iX),("is_tie",iY)]
theorem Iq:oj "is_rising"=some et:=rfl
theorem Ir:oj "is_number_from"=some iX:=rfl
theorem Ar:oj "is_tie"=some iY:=rfl
def ol:List D->aa->Res D:=az oj G0 Aq Ap.length 1
def Iu:Ls:=["web","thing"]
noncomputable def As:List CS:=[.ret (.band (.call "are_places" [.idx (.var 0) (.lit (.int 0)),.var 1]) (.call "is_rising" [.var 1]))]
def ue:FT:=tbl [("are_places",gp),("is_rising",et)]
theorem Iv:ue "are_places"=some gp:=rfl
theorem Iw:ue "is_rising"=some et:=rfl
def om:List D->aa->Res D:=az ue G0 As Iu.length 2
def Iy:Ls:=["web","thing"]
noncomputable def Iz:List CS:=[.ite (.bnot (.blt .isinst [.var 1,.ty "tuple"])) [.ret (.lit (.bl false))] [],.ret (.band (.blt .all [.comp false ["tie","web"] [none,some 0] (.var 0) (.seq (.var 1)) [] (.emit (.band (.call "is_tie" [.idx (.var 1) (.lit (.int 0)),.var 0]) (.cmp .In (.var 0) (.idx (.var 1) (.lit (.int 1))))))]) (.call "is_rising" [.var 1]))]
def uf:FT:=tbl [("is_rising",et),("is_tie",iY)]
theorem IA:uf "is_rising"=some et:=rfl
theorem IB:uf "is_tie"=some iY:=rfl
def oo:List D->aa->Res D:=az uf G0 Iz Iy.length 2
def Au:Ls:=["thing"]
noncomputable def Aw:List CS:=[.ite (.bnot (.call "is_web" [.var 0])) [.raise_ "NoWeb" [.lit (.str "this is no web")]] []]
def Ax:FT:=tbl [("is_web",ol)]
theorem IC:Ax "is_web"=some ol:=rfl
def fj:List D->aa->Res D:=az Ax G0 Aw Au.length 1
def Ay:Ls:=["web","thing"]
noncomputable def Az:List CS:=[.ite (.bnot (.call "is_some" [.var 0,.var 1])) [.raise_ "NoPlaces" [.lit (.str "this is no rising tuple of places of the web")]] []]
def AA:FT:=tbl [("is_some",om)]
theorem ID:AA "is_some"=some om:=rfl
def oq:List D->aa->Res D:=az AA G0 Az Ay.length 2
def IE:Ls:=["one","other"]
noncomputable def AB:List CS:=[.ret (.tup [.blt .min [.var 0,.var 1],.blt .max [.var 0,.var 1]])]
def IF:FT:=tbl []
def ot:List D->aa->Res D:=az IF G0 AB IE.length 2
def IG:Ls:=["web","one","other"]
noncomputable def AD:List CS:=[.ret (.cmp .In (.call "tie_of" [.var 1,.var 2]) (.idx (.var 0) (.lit (.int 1))))]
def AE:FT:=tbl [("tie_of",ot)]
theorem IH:AE "tie_of"=some ot:=rfl
def gZ:List D->aa->Res D:=az AE G0 AD IG.length 3
noncomputable def ug:Ls:=["web","left","start","reached","waiting","here","fresh"]
noncomputable def kr:List CS:=[.asg 3 (.lst true [.var 2]),.asg 4 (.lst true [.var 2]),.while_ 100 (.var 4) [.asg 5 (.meth .pop (.var 4) []),.asg 6 (.comp false ["place","reached","web","here"] [none,some 3,some 0,some 5] (.var 0) (.seq (.var 1)) [.band (.cmp .NotIn (.var 0) (.var 1)) (.call "have_tie" [.var 2,.var 3,.var 0])] (.emit (.var 0))),.expr (.meth .extend (.var 3) [.var 6]),.expr (.meth .extend (.var 4) [.var 6])],.ret (.blt .tuple [.blt (.sorted false (.int)) [.var 3]])]
def eV:FT:=tbl [("have_tie",gZ)]
theorem II:eV "have_tie"=some gZ:=rfl
def kt:List D->aa->Res D:=az eV G0 kr ug.length 3
def AF:Ls:=["web","some","left","found","place"]
noncomputable def AG:List CS:=[.expr (.call "must_be_web" [.var 0]),.expr (.call "must_be_some" [.var 0,.var 1]),.asg 2 (.comp false ["place","some"] [none,some 1] (.var 0) (.range [.idx (.var 0) (.lit (.int 0))]) [.cmp .NotIn (.var 0) (.var 1)] (.emit (.var 0))),.asg 3 (.lst true []),.for_ (.var 4) (.seq (.var 2)) [.ite (.bnot (.blt .any [.comp false ["piece","place"] [none,some 4] (.var 0) (.seq (.var 3)) [] (.emit (.cmp .In (.var 1) (.var 0)))])) [.expr (.meth .append (.var 3) [.call "piece_of" [.var 0,.var 2,.var 4]])] []],.ret (.var 3)]
noncomputable def fk:FT:=tbl [("must_be_web",fj),("must_be_some",oq),("piece_of",kt)]
theorem IJ:fk "must_be_web"=some fj:=rfl
theorem IK:fk "must_be_some"=some oq:=rfl
theorem IL:fk "piece_of"=some kt:=rfl
def ou:List D->aa->Res D:=az fk G0 AG AF.length 2
def AH:Ls:=["web","thing"]
noncomputable def IM:List CS:=[.expr (.call "must_be_web" [.var 0]),.ret (.band (.call "are_ties" [.var 0,.var 1]) (.call "are_unlike" [.comp false ["tie","place"] [none,none] (.var 0) (.seq (.var 1)) [] (.inner (.var 1) (.seq (.var 0)) [] (.emit (.var 1)))]))]
noncomputable def ov:FT:=tbl [("must_be_web",fj),("are_ties",oo),("are_unlike",gY)]
theorem IP:ov "must_be_web"=some fj:=rfl
theorem IQ:ov "are_ties"=some oo:=rfl
theorem IS:ov "are_unlike"=some gY:=rfl
def ox:List D->aa->Res D:=az ov G0 IM AH.length 2
def AI:Ls:=["web","thing"]
noncomputable def AJ:List CS:=[.ite (.bnot (.call "is_pairing" [.var 0,.var 1])) [.raise_ "NoPairing" [.lit (.str "this is no pairing of the web")]] []]
def AK:FT:=tbl [("is_pairing",ox)]
theorem IT:AK "is_pairing"=some ox:=rfl
def g4:List D->aa->Res D:=az AK G0 AJ AI.length 2
def AL:Ls:=["pairing","place","low","high"]
noncomputable def AM:List CS:=[.for_ (.tup [.var 2,.var 3]) (.seq (.var 0)) [.ite (.cmp .Eq (.var 1) (.var 2)) [.ret (.var 3)] [],.ite (.cmp .Eq (.var 1) (.var 3)) [.ret (.var 2)] []],.ret (.lit (.non))]
def oy:FT:=tbl []
def fm:List D->aa->Res D:=az oy G0 AM AL.length 2
def IU:Ls:=["web","ties"]
noncomputable def AN:List CS:=[.ret (.blt .tuple [.comp false ["place","ties"] [none,some 1] (.var 0) (.range [.idx (.var 0) (.lit (.int 0))]) [.cmp .Is (.call "mate_of" [.var 1,.var 0]) (.lit (.non))] (.emit (.var 0))])]
def AO:FT:=tbl [("mate_of",fm)]
theorem IV:AO "mate_of"=some fm:=rfl
def oz:List D->aa->Res D:=az AO G0 AN IU.length 2
def IW:Ls:=["web","found","place","ties"]
noncomputable def AQ:List CS:=[.expr (.call "must_be_web" [.var 0]),.asg 1 (.lst false [.tup []]),.for_ (.var 2) (.down [.idx (.var 0) (.lit (.int 0))]) [.asg 3 (.comp false ["tie","place"] [none,some 2] (.var 0) (.seq (.idx (.var 0) (.lit (.int 1)))) [.cmp .Eq (.idx (.var 0) (.lit (.int 0))) (.var 1)] (.emit (.var 0))),.asg 1 (.bin .Add (.var 1) (.comp false ["tie","pairing","found"] [none,none,some 1] (.var 0) (.seq (.var 3)) [] (.inner (.var 1) (.seq (.var 2)) [.cmp .Is (.call "mate_of" [.var 1,.idx (.var 0) (.lit (.int 1))]) (.lit (.non))] (.emit (.bin .Add (.tup [.var 0]) (.var 1))))))],.ret (.blt (.sorted true (.seq (.seq .int))) [.var 1])]
def gq:FT:=tbl [("must_be_web",fj),("mate_of",fm)]
theorem IX:gq "must_be_web"=some fj:=rfl
theorem IY:gq "mate_of"=some fm:=rfl
def iZ:List D->aa->Res D:=az gq G0 AQ IW.length 1
def uh:Ls:=["web","found","many"]
noncomputable def IZ:CE:=.comp false ["pairing"] [none] (.var 0) (.seq (.var 1)) [] (.emit (.blt .len [.var 0]))
noncomputable def DX:CE:=.comp true ["pairing","many"] [none,some 2] (.var 0) (.seq (.var 1)) [.cmp .Eq (.blt .len [.var 0]) (.var 1)] (.emit (.var 0))
noncomputable def ku:List CS:=[.asg 1 (.call "all_pairings" [.var 0]),.asg 2 (.blt .max [IZ]),.ret DX]
def eL:FT:=tbl [("all_pairings",iZ)]
theorem I0:eL "all_pairings"=some iZ:=rfl
def i0:List D->aa->Res D:=az eL G0 ku uh.length 1
def ui:Ls:=["web","free","missed","others","beside"]
noncomputable def kv:CE:=.comp false ["pairing","place","web"] [none,none,some 0] (.var 0) (.seq (.call "greatest" [.var 0])) [] (.inner (.var 1) (.seq (.call "loose_of" [.var 2,.var 0])) [] (.emit (.var 1)))
noncomputable def AR:CE:=.comp false ["other","web","place"] [none,some 2,some 0] (.var 0) (.seq (.var 1)) [] (.emit (.call "have_tie" [.var 1,.var 2,.var 0]))
noncomputable def kw:CE:=.comp false ["place","missed","web"] [none,some 2,some 0] (.var 0) (.seq (.var 3)) [.blt .any [AR]] (.emit (.var 0))
noncomputable def kx:List CS:=[.asg 1 kv,.asg 2 (.blt .tuple [.sset (.var 1)]),.asg 3 (.comp false ["place","missed"] [none,some 2] (.var 0) (.range [.idx (.var 0) (.lit (.int 0))]) [.cmp .NotIn (.var 0) (.var 1)] (.emit (.var 0))),.asg 4 (.blt .tuple [kw]),.ret (.tup [.var 2,.var 4,.blt .tuple [.comp false ["place","beside"] [none,some 4] (.var 0) (.seq (.var 3)) [.cmp .NotIn (.var 0) (.var 1)] (.emit (.var 0))]])]
noncomputable def db:FT:=tbl [("greatest",i0),("loose_of",oz),("have_tie",gZ)]
theorem I7:db "greatest"=some i0:=rfl
theorem I8:db "loose_of"=some oz:=rfl
theorem I9:db "have_tie"=some gZ:=rfl
def g5:List D->aa->Res D:=az db G0 kx ui.length 1
def I_:Ls:=["web","missed","beside","rest"]
noncomputable def I':List CS:=[.asgT (.tup [.var 1,.var 2,.var 3]) (.call "parts" [.var 0]),.ret (.call "pieces_without" [.var 0,.blt .tuple [.blt (.sorted false (.int)) [.bin .Add (.var 2) (.var 3)]]])]
def uj:FT:=tbl [("parts",g5),("pieces_without",ou)]
theorem Ja:uj "parts"=some g5:=rfl
theorem Jb:uj "pieces_without"=some ou:=rfl
def ky:List D->aa->Res D:=az uj G0 I' I_.length 1
noncomputable def uk:Ls:=["web","pairing","missed","beside","rest","homes","mates","inside"]
noncomputable def Jc:CE:=.comp false ["place","pairing","rest"] [none,some 1,some 4] (.var 0) (.seq (.var 4)) [] (.emit (.cmp .In (.call "mate_of" [.var 1,.var 0]) (.var 2)))
noncomputable def Jd:CE:=.comp false ["place","pairing"] [none,some 1] (.var 0) (.seq (.var 3)) [] (.emit (.call "mate_of" [.var 1,.var 0]))
noncomputable def Je:CE:=.comp false ["place","missed"] [none,some 2] (.var 0) (.seq (.var 6)) [] (.emit (.cmp .In (.var 0) (.var 1)))
noncomputable def Jf:CE:=.inner (.var 1) (.seq (.var 2)) [.cmp .In (.var 1) (.var 0)] (.emit (.var 0))
noncomputable def DY:CE:=.comp false ["piece","place","mates"] [none,none,some 6] (.var 0) (.seq (.var 5)) [] Jf
noncomputable def Mw:CE:=.comp false ["place","pairing","piece"] [none,some 1,some 0] (.var 0) (.seq (.var 0)) [.cmp .In (.call "mate_of" [.var 1,.var 0]) (.var 2)] (.emit (.var 0))
noncomputable def Jg:CE:=.comp false ["piece","pairing"] [none,some 1] (.var 0) (.seq (.var 5)) [] (.emit (.blt .len [Mw]))
noncomputable def Jh:CE:=.comp false ["piece"] [none] (.var 0) (.seq (.var 5)) [] (.emit (.bin .Sub (.blt .len [.var 0]) (.lit (.int 1))))
noncomputable def kz:List CS:=[.expr (.call "must_be_pairing" [.var 0,.var 1]),.asgT (.tup [.var 2,.var 3,.var 4]) (.call "parts" [.var 0]),.asg 5 (.call "missed_pieces" [.var 0]),.ite (.bnot (.blt .all [Jc])) [.ret (.lit (.bl false))] [],.asg 6 Jd,.ite (.bnot (.blt .all [Je])) [.ret (.lit (.bl false))] [],.ite (.bnot (.call "are_unlike" [DY])) [.ret (.lit (.bl false))] [],.asg 7 Jg,.ret (.cmp .Eq (.var 7) Jh)]
noncomputable def bF:FT:=tbl [("must_be_pairing",g4),("parts",g5),("missed_pieces",ky),("mate_of",fm),("are_unlike",gY)]
theorem Ji:bF "must_be_pairing"=some g4:=rfl
theorem Jj:bF "parts"=some g5:=rfl
theorem Jk:bF "missed_pieces"=some ky:=rfl
theorem ul:bF "mate_of"=some fm:=rfl
theorem Jl:bF "are_unlike"=some gY:=rfl
def oA:List D->aa->Res D:=az bF G0 kz uk.length 2
def Jm:Ls:=["_law_script","_law_k"]
noncomputable def AS:List CS:=[.ite (.cmp .Lt (.var 1) (.blt .len [.var 0])) [.ret (.idx (.var 0) (.var 1))] [],.ret (.lit (.int 0))]
def Jn:FT:=tbl []
def i3:List D->aa->Res D:=az Jn G0 AS Jm.length 2
def Jo:Ls:=["_law_cell","_law_k","_law_number"]
noncomputable def um:List CS:=[.asg 2 (.bin .Mod (.bin .Mult (.bin .Add (.bin .Add (.bin .Mod (.var 0) (.lit (.int 2147483647))) (.bin .Mult (.lit (.int 977)) (.var 1))) (.lit (.int 1))) (.lit (.int 48271))) (.lit (.int 2147483647))),.asg 2 (.bin .Mod (.bin .Mult (.var 2) (.var 2)) (.lit (.int 2147483629))),.asg 2 (.bin .Mod (.bin .Mult (.bin .Add (.var 2) (.bin .Mult (.lit (.int 40692)) (.bin .Add (.var 1) (.lit (.int 3))))) (.lit (.int 69621))) (.lit (.int 2147483647))),.ret (.bin .FloorDiv (.var 2) (.lit (.int 8)))]
def AU:FT:=tbl []
def eW:List D->aa->Res D:=az AU G0 um Jo.length 2
noncomputable def uo:Ls:=["_law_cell","_law_top","_law_many","_law_left","_law_way","_law_ties","_law_b","_law_a","_law_chance","_law_rows"]
noncomputable def Jp:CE:=.bin .BitAnd (.bin .RShift (.bin .FloorDiv (.var 3) (.lit (.int 6))) (.bin .Add (.bin .FloorDiv (.bin .Mult (.var 6) (.bin .Sub (.var 6) (.lit (.int 1)))) (.lit (.int 2))) (.var 7))) (.lit (.int 1))
noncomputable def wW(k:Int)(b:List CS):CS:=.ite (.cmp .Eq (.var 4) (.lit (.int k))) b []
noncomputable def DZ:CE:=.call "_law_stir" [.var 0,.bin .Add (.bin .Mult (.lit (.int 8)) (.var 7)) (.var 6)]
noncomputable def Jq:CE:=.bin .FloorDiv (.bin .Mod DZ (.lit (.int 3))) (.lit (.int 2))
noncomputable def Jr:CE:=.bin .FloorDiv (.bin .Add (.bin .Mod DZ (.lit (.int 4))) (.lit (.int 2))) (.lit (.int 3))
noncomputable def Mx:CE:=.cmp .Eq (.var 6) (.bin .Add (.var 7) (.lit (.int 1)))
noncomputable def Js:CE:=.bor (.cmp .Eq (.var 6) (.bin .Add (.var 7) (.lit (.int 1)))) (.cmp .Eq (.bin .Sub (.var 6) (.var 7)) (.bin .Sub (.var 2) (.lit (.int 1))))
noncomputable def Jt:CE:=.band (.cmp .Eq (.var 6) (.bin .Add (.var 7) (.lit (.int 1)))) (.cmp .Lt (.bin .Mod (.var 7) (.lit (.int 3))) (.lit (.int 2)))
noncomputable def D0:CE:=.lst false [Mx,Js,.cmp .Eq (.var 7) (.lit (.int 0)),.lit (.bl true),Jt]
noncomputable def D3:CE:=.blt .int [.idx (.var 9) (.bin .Mod (.bin .FloorDiv (.var 3) (.lit (.int 6))) (.lit (.int 5)))]
noncomputable def wB:List CS:=[.asg 8 Jp,wW 3 [.asg 8 Jq],wW 4 [.asg 8 Jr],wW 5 [.asg 9 D0,.asg 8 D3],.ite (.cmp .Eq (.var 8) (.lit (.int 1))) [.expr (.meth .append (.var 5) [.tup [.var 7,.var 6]])] []]
def wA:List CS:=[.for_ (.var 7) (.range [.var 6]) wB]
noncomputable def kA:List CS:=[.asg 2 (.bin .Add (.lit (.int 1)) (.bin .Mod (.var 0) (.var 1))),.asg 3 (.bin .FloorDiv (.var 0) (.var 1)),.asg 4 (.bin .Mod (.var 3) (.lit (.int 6))),.asg 5 (.lst true []),.for_ (.var 6) (.range [.lit (.int 1),.var 2]) wA,.ret (.tup [.var 2,.blt .tuple [.blt (.sorted false (.seq .int)) [.var 5]]])]
def b9:FT:=tbl [("_law_stir",eW)]
theorem Ju:b9 "_law_stir"=some eW:=rfl
def i5:List D->aa->Res D:=az b9 G0 kA uo.length 2
def Jv:Ls:=["_law_tie","_law_line"]
noncomputable def AV:CE:=.bor (.cmp .In (.idx (.var 1) (.lit (.int 0))) (.var 0)) (.cmp .In (.idx (.var 1) (.lit (.int 1))) (.var 0))
noncomputable def AW:CE:=.comp false ["_law_one","_law_tie"] [none,some 0] (.var 0) (.seq (.var 1)) [] (.emit AV)
def kB:List CS:=[.ret (.bnot (.blt .any [AW]))]
def fT:FT:=tbl []
def g6:List D->aa->Res D:=az fT G0 kB Jv.length 2
def Jw:Ls:=["_law_web_here","_law_rows","_law_tie"]
noncomputable def My:CE:=.comp false ["_law_line","_law_tie"] [none,some 2] (.var 0) (.seq (.var 1)) [.call "_law_free" [.var 1,.var 0]] (.emit (.bin .Add (.var 0) (.tup [.var 1])))
def AX:List CS:=[.asg 1 (.bin .Add (.var 1) My)]
noncomputable def AY:List CS:=[.asg 1 (.lst false [.tup []]),.for_ (.var 2) (.seq (.idx (.var 0) (.lit (.int 1)))) AX,.ret (.blt (.sorted false (.seq (.seq .int))) [.var 1])]
def g7:FT:=tbl [("_law_free",g6)]
theorem Jx:g7 "_law_free"=some g6:=rfl
def gr:List D->aa->Res D:=az g7 G0 AY Jw.length 1
noncomputable def uq:Ls:=["_law_web_here","_law_cell","_law_first","_law_often","_law_line","_law_k","_law_tie"]
def kC:CE:=.idx (.var 0) (.lit (.int 1))
noncomputable def Jy:CE:=.bin .Mod (.call "_law_stir" [.var 1,.lit (.int 70)]) (.bin .Add (.blt .len [kC]) (.lit (.int 1)))
noncomputable def Jz:CE:=.bin .Add (.lit (.int 1)) (.bin .Mod (.call "_law_stir" [.var 1,.lit (.int 69)]) (.lit (.int 5)))
noncomputable def D4:CE:=.enum [.bin .Add (.sl kC [.var 2] []) (.sl kC [] [.var 2])]
noncomputable def ur:CE:=.cmp .Lt (.bin .Mod (.call "_law_stir" [.var 1,.bin .Add (.lit (.int 71)) (.var 5)]) (.lit (.int 6))) (.bin .Add (.var 3) (.lit (.int 1)))
def D5:CE:=.call "_law_free" [.var 6,.var 4]
noncomputable def AZ:List CS:=[.ite (.band ur D5) [.expr (.meth .append (.var 4) [.var 6])] []]
noncomputable def kD:List CS:=[.asg 2 Jy,.asg 3 Jz,.asg 4 (.lst true []),.for_ (.tup [.var 5,.var 6]) D4 AZ,.ret (.blt .tuple [.blt (.sorted false (.seq .int)) [.var 4]])]
def cP:FT:=tbl [("_law_stir",eW),("_law_free",g6)]
theorem ut:cP "_law_stir"=some eW:=rfl
theorem JA:cP "_law_free"=some g6:=rfl
def g8:List D->aa->Res D:=az cP G0 kD uq.length 2
noncomputable def JB:Ls:=["_law_web_here","_law_line","_law_found","_law_one","_law_other"]
noncomputable def JC:List CS:=[.asg 2 (.binB (.lst false [.neg (.lit (.int 1))]) (.idx (.var 0) (.lit (.int 0)))),.for_ (.tup [.var 3,.var 4]) (.seq (.var 1)) [.set (.var 2) (.var 3) (.var 4),.set (.var 2) (.var 4) (.var 3)],.ret (.var 2)]
def i6:FT:=tbl []
def kE:List D->aa->Res D:=az i6 G0 JC JB.length 2
def JD:Ls:=["_law_web_here","_law_place"]
noncomputable def JE:List CS:=[.ret (.comp false ["_law_one","_law_other","_law_place"] [none,none,some 1] (.tup [.var 0,.var 1]) (.seq (.idx (.var 0) (.lit (.int 1)))) [.cmp .In (.var 2) (.tup [.var 0,.var 1])] (.emit (.bin .Sub (.bin .Add (.var 0) (.var 1)) (.var 2))))]
def A0:FT:=tbl []
def i7:List D->aa->Res D:=az A0 G0 JE JD.length 2
def JF:Ls:=["_law_web_here","_law_line"]
noncomputable def D6:CE:=.comp false ["_law_tie","_law_place"] [none,some 0] (.var 0) (.seq (.var 1)) [] (.emit (.cmp .In (.var 1) (.var 0)))
noncomputable def JG:CE:=.comp false ["_law_place","_law_line"] [none,some 1] (.var 0) (.range [.idx (.var 0) (.lit (.int 0))]) [.bnot (.blt .any [D6])] (.emit (.var 0))
def uu:List CS:=[.ret (.blt .tuple [JG])]
def g9:FT:=tbl []
def oB:List D->aa->Res D:=az g9 G0 uu JF.length 2
def JH:Ls:=["_law_web_here","_law_rows","_law_top"]
noncomputable def JI:CE:=.comp false ["_law_line"] [none] (.var 0) (.seq (.var 1)) [] (.emit (.blt .len [.var 0]))
noncomputable def JJ:CE:=.comp false ["_law_line","_law_top"] [none,some 2] (.var 0) (.seq (.var 1)) [.cmp .Eq (.blt .len [.var 0]) (.var 1)] (.emit (.var 0))
noncomputable def A3:List CS:=[.asg 1 (.call "_law_pairings" [.var 0]),.asg 2 (.blt .max [JI]),.ret JJ]
def i8:FT:=tbl [("_law_pairings",gr)]
theorem JK:i8 "_law_pairings"=some gr:=rfl
def fo:List D->aa->Res D:=az i8 G0 A3 JH.length 1
noncomputable def JL:Ls:=["_law_web_here","_law_rows","_law_missed","_law_others","_law_by_these"]
noncomputable def JM:CE:=.comp false ["_law_line","_law_web_here"] [none,some 0] (.var 0) (.seq (.call "_law_greatest" [.var 0])) [] (.emit (.call "_law_loose" [.var 1,.var 0]))
noncomputable def MU:CE:=.comp false ["_law_line","_law_place"] [none,some 0] (.var 0) (.seq (.var 1)) [] (.emit (.cmp .In (.var 1) (.var 0)))
noncomputable def JN:CE:=.comp false ["_law_place","_law_rows"] [none,some 1] (.var 0) (.range [.idx (.var 0) (.lit (.int 0))]) [.blt .any [MU]] (.emit (.var 0))
noncomputable def MV:CE:=.comp false ["_law_other","_law_missed"] [none,some 2] (.var 0) (.seq (.call "_law_near" [.var 1,.var 0])) [] (.emit (.cmp .In (.var 0) (.var 1)))
noncomputable def JO:CE:=.comp false ["_law_place","_law_web_here","_law_missed"] [none,some 0,some 2] (.var 0) (.seq (.var 3)) [.blt .any [MV]] (.emit (.var 0))
noncomputable def A7:List CS:=[.asg 1 JM,.asg 2 JN,.asg 3 (.comp false ["_law_place","_law_missed"] [none,some 2] (.var 0) (.range [.idx (.var 0) (.lit (.int 0))]) [.cmp .NotIn (.var 0) (.var 1)] (.emit (.var 0))),.asg 4 JO,.ret (.tup [.blt .tuple [.var 2],.blt .tuple [.var 4],.blt .tuple [.comp false ["_law_place","_law_by_these"] [none,some 4] (.var 0) (.seq (.var 3)) [.cmp .NotIn (.var 0) (.var 1)] (.emit (.var 0))]])]
noncomputable def gu:FT:=tbl [("_law_loose",oB),("_law_greatest",fo),("_law_near",i7)]
theorem JP:gu "_law_loose"=some oB:=rfl
theorem JQ:gu "_law_greatest"=some fo:=rfl
theorem JR:gu "_law_near"=some i7:=rfl
def kF:List D->aa->Res D:=az gu G0 A7 JL.length 1
noncomputable def A8:Ls:=["_law_web_here","_law_some","_law_left","_law_found","_law_line","_law_place","_law_one"]
noncomputable def A9:List CS:=[.asg 2 (.blt (.list false) [.var 1]),.asg 3 (.lst true []),.while_ 100 (.cmp .NotEq (.var 2) (.lst false [])) [.asg 4 (.lst true [.idx (.var 2) (.lit (.int 0))]),.for_ (.var 5) (.seq (.var 2)) [.for_ (.var 6) (.seq (.blt (.list false) [.var 4])) [.expr (.meth .extend (.var 4) [.comp false ["_law_other","_law_some","_law_line"] [none,some 1,some 4] (.var 0) (.seq (.call "_law_near" [.var 0,.var 6])) [.band (.cmp .In (.var 0) (.var 1)) (.cmp .NotIn (.var 0) (.var 2))] (.emit (.var 0))])]],.expr (.meth .append (.var 3) [.blt .tuple [.blt (.sorted false (.int)) [.var 4]]]),.asg 2 (.comp false ["_law_place","_law_line"] [none,some 4] (.var 0) (.seq (.var 2)) [.cmp .NotIn (.var 0) (.var 1)] (.emit (.var 0)))],.ret (.var 3)]
def cD:FT:=tbl [("_law_near",i7)]
theorem JS:cD "_law_near"=some i7:=rfl
def kG:List D->aa->Res D:=az cD G0 A9 A8.length 2
noncomputable def uv:Ls:=["_law_web_here","_law_line","_law_missed","_law_by_these","_law_rest","_law_mates_here","_law_piece","_law_inner"]
noncomputable def A_:CE:=.comp false ["_law_place","_law_mates_here","_law_rest"] [none,some 5,some 4] (.var 0) (.seq (.var 4)) [] (.emit (.cmp .In (.idx (.var 1) (.var 0)) (.var 2)))
noncomputable def A':CE:=.comp false ["_law_place","_law_mates_here","_law_missed"] [none,some 5,some 2] (.var 0) (.seq (.var 3)) [] (.emit (.cmp .In (.idx (.var 1) (.var 0)) (.var 2)))
noncomputable def JT(v:Nat):CE:=.comp false ["_law_place","_law_mates_here","_law_piece"] [none,some 5,some 6] (.var 0) (.seq (.var v)) [.cmp .In (.idx (.var 1) (.var 0)) (.var 2)] (.emit (.var 0))
noncomputable def Mz:CE:=.bor (.cmp .NotEq (.bin .Add (.blt .len [.var 7]) (.lit (.int 1))) (.blt .len [.var 6])) (.cmp .Gt (.blt .len [JT 3]) (.lit (.int 1)))
noncomputable def oC:List CS:=[.asg 7 (JT 6),.ite Mz [.ret (.lit (.bl false))] []]
noncomputable def kH:List CS:=[.asgT (.tup [.var 2,.var 3,.var 4]) (.call "_law_parts" [.var 0]),.asg 5 (.call "_law_mates" [.var 0,.var 1]),.ite (.bor (.bnot (.blt .all [A_])) (.bnot (.blt .all [A']))) [.ret (.lit (.bl false))] [],.for_ (.var 6) (.seq (.call "_law_pieces" [.var 0,.var 2])) oC,.ret (.lit (.bl true))]
noncomputable def cQ:FT:=tbl [("_law_parts",kF),("_law_mates",kE),("_law_pieces",kG)]
theorem JU:cQ "_law_parts"=some kF:=rfl
theorem JV:cQ "_law_mates"=some kE:=rfl
theorem JW:cQ "_law_pieces"=some kG:=rfl
def oD:List D->aa->Res D:=az cQ G0 kH uv.length 2
def JX:Ls:=["_law_web_here","_law_line","_law_found"]
noncomputable def uw:List CS:=[.asg 2 (.call "is_parted" [.var 0,.var 1]),.ret (.band (.blt .isinst [.var 2,.ty "bool"]) (.cmp .Eq (.var 2) (.call "_law_parted" [.var 0,.var 1])))]
def kI:FT:=tbl [("is_parted",oA),("_law_parted",oD)]
theorem JY:kI "is_parted"=some oA:=rfl
theorem JZ:kI "_law_parted"=some oD:=rfl
def kJ:List D->aa->Res D:=az kI G0 uw JX.length 2
noncomputable def kK:Ls:=["_law_script","_law_cell","_law_web_here","_law_rows","_law_first","_law_some","_law_every","_law_line"]
def Ba:CE:=.tup [.lit (.int 1),.tup []]
noncomputable def Bb:CE:=.tup [.lit (.int 4),.tup [.tup [.lit (.int 0),.lit (.int 1)],.tup [.lit (.int 0),.lit (.int 2)],.tup [.lit (.int 1),.lit (.int 2)],.tup [.lit (.int 2),.lit (.int 3)]]]
noncomputable def Bc:CE:=.tup [.tup [.lit (.int 0),.lit (.int 1)],.tup [.lit (.int 2),.lit (.int 3)]]
noncomputable def ux:CE:=.bor (.bnot (.call "_law_right" [Ba,.tup []])) (.bnot (.call "_law_right" [Bb,Bc]))
noncomputable def oE:CE:=.seq (.bin .Add (.lst false [.call "_law_cell_at" [.var 0,.lit (.int 0)]]) (.sl (.var 0) [.lit (.int 1)] [.lit (.int 4)]))
noncomputable def Bd:CE:=.bin .Mod (.call "_law_stir" [.var 1,.lit (.int 20)]) (.blt .len [.var 3])
noncomputable def J1:CE:=.sl (.bin .Add (.sl (.var 3) [.var 4] []) (.sl (.var 3) [] [.var 4])) [] [.lit (.int 3)]
noncomputable def Be:CE:=.comp false ["_law_line"] [none] (.var 0) (.seq (.var 5)) [] (.emit (.sl (.var 0) [.lit (.int 1)] []))
noncomputable def J2:CE:=.comp false ["_law_line"] [none] (.var 0) (.seq (.sl (.var 5) [] [.lit (.int 1)])) [] (.emit (.sl (.var 0) [] [.neg (.lit (.int 1))]))
noncomputable def J3:CE:=.bin .Add (.bin .Add (.bin .Add (.var 5) Be) J2) (.lst false [.tup []])
noncomputable def Bf:CE:=.comp false ["_law_k","_law_every","_law_cell"] [none,some 6,some 1] (.var 0) (.range [.lit (.int 4)]) [] (.emit (.idx (.var 1) (.bin .Mod (.call "_law_stir" [.var 2,.bin .Add (.lit (.int 21)) (.var 0)]) (.blt .len [.var 1]))))
noncomputable def oF:List CS:=[.ite (.bnot (.call "_law_right" [.var 2,.var 7])) [.ret (.lit (.bl false))] []]
noncomputable def oG:List CS:=[.asg 2 (.call "_law_web" [.var 1,.lit (.int 8)]),.asg 3 (.call "_law_greatest" [.var 2]),.asg 4 Bd,.asg 5 J1,.asg 5 J3,.asg 6 (.call "_law_pairings" [.var 2]),.asg 5 (.bin .Add (.var 5) Bf),.for_ (.var 7) (.seq (.bin .Add (.var 5) (.lst false [.call "_law_pairing" [.var 2,.var 1]]))) oF]
noncomputable def iq:List CS:=[.ite ux [.ret (.lit (.bl false))] [],.for_ (.var 1) oE oG,.ret (.lit (.bl true))]
noncomputable def aM:FT:=tbl [("_law_web",i5),("_law_greatest",fo),("_law_pairings",gr),("_law_right",kJ),("_law_cell_at",i3),("_law_stir",eW),("_law_pairing",g8)]
theorem J4:aM "_law_web"=some i5:=rfl
theorem J5:aM "_law_greatest"=some fo:=rfl
theorem J6:aM "_law_pairings"=some gr:=rfl
theorem uy:aM "_law_right"=some kJ:=rfl
theorem J7:aM "_law_cell_at"=some i3:=rfl
theorem Bg:aM "_law_stir"=some eW:=rfl
theorem J8:aM "_law_pairing"=some g8:=rfl
def kL:List D->aa->Res D:=az aM G0 iq kK.length 1
end K52
namespace Py
noncomputable def D7(K:Fg)(y:Str):Addr:=match PySem.W.nsIn K mainGlobals y with
 |some (some (.ref C))=>C
 |_=>0
noncomputable def kM(K:Fg)(y:Str):Bool:=match PySem.W.nsIn K mainGlobals y with
 |some (some (.ref _))=>true
 |_=>false
theorem J9{y:Str}(h:kM K y=true):PySem.W.nsIn K mainGlobals y=some (some (.ref (D7 K y))):=by
 unfold kM at h;unfold D7;split at h
 ·rename_i C e;rw[e]
 ·cases h
noncomputable def MA(K:Fg):Rz->Bool
 | .cls x=>kM K x&&PySem.W.excIn K (D7 K x) z9 "ValueError.__new__"
 | .kind _ _ _=>false
theorem uz(X:K.In h)(G:h.Ns mainGlobals mg){x:Str}(H:MA K (.cls x)=true):XC P w K mg (.cls x):=
 ⟨D7 K x,PySem.W.mg_of X G (J9 (ab H).1),(ab H).2⟩
end Py
namespace K52
noncomputable def cu(i:Nat):Stmt:=PySem.Challenge.pw_pairwebs_k52_pairings_well_parted.main.body.getD i (.Pass ⟨0,0,0,0⟩)
def aC(K:Fg)(x:Str)(st:Stmt):Prop:=∃f fd,PySem.W.nsIn K mainGlobals x=some (some (.ref f))/\vH K x x st f fd
theorem dm{x:Str}{st:Stmt}{an:Option Addr}{kV:Value}(a:PySem.W.nsIn K mainGlobals x=some (some (.ref f)))(l:K.lookup f=some ⟨oc,od,.func (PySem.W.fnOf x x (iB st) (dn st) (dF st) .none kV doc pm an cdv ct),osl⟩)
  (c:PySem.W.codeIn K cdv x=true) (k:PySem.W.keepIn K (.ref f)=true):aC K x st:=⟨f,_,a,rL l c k⟩
noncomputable def uA(N P:Ls)(s:Scope):Bool:=(s.kind== .function)&& !s.isCoroutine&& !s.isGenerator&&iJ N&&(N.take P.length==P)&&P.all (λx=>s.names.lookup x==some .local||s.names.lookup x==some .cell)&&s.names.all (λy=>y.2 !=.free)
theorem Bh{P:Ls}{s:Scope}(h:uA N P s=true):c7 N P s:=by unfold uA at h;simp only[ZW,beq_iff_eq,ZG,Bool.or_eq_true,bne_iff_ne,Bool.not_eq_true']at h;obtain⟨⟨⟨⟨⟨⟨H,a⟩,b⟩,c⟩,d⟩,e⟩,f⟩:=h;exact⟨H,a,b,tK c,d,e,f⟩
noncomputable def RZ:List Rz:=[.cls "NoPairing",.cls "NoPlaces",.cls "NoWeb"]
structure En (P:Program)(w:World)(K:Fg)(mg:Mg)(h:Heap):Prop where
 X:K.In h
 G:h.Ns mainGlobals mg
 hg:∀x d,G0 x=some d->∃v u,mg x=some u/\RelV v u/\∀F μ H,Rep K ⟨mg,F⟩ μ H d v
 hb:∀x∈gb,mg x=none
 xc:∀z∈RZ,XC P w K mg z
section
variable {j:Nat}
theorem fe{x:Str}{st:Stmt}{l:List (Str×(List D->aa->Res D))}(E:En P w K mg h)(d:aC K x st)
  (c:∀(kV doc pm:Value) (an:Option Addr) (cdv ct:Value) (us:Lv),us.length=ps.length->bindArgs (PySem.W.fnOf x x (iB st) (dn st) (dF st) .none kV doc pm an cdv ct) ⟨us,[]⟩=pure (ps.zip us))
  (H:∀p∈l,bT P w K mg base (bt P w) k p.1 p.2) (e:fR body N (dn st)=dn st) (S:(uA N ps (dF st)&&(fS body N (dF st).names (dn st)&&(eU body).all λz=>decide (z∈RZ)))=true):bT P w K mg base (bt P w) (k+1) x (az (tbl l) G0 body N.length ps.length):=by
 obtain⟨f,i,a,F⟩:=d;have S:=Bool.and_eq_true_iff.mp S;have b:=Bool.and_eq_true_iff.mp S.2;exact MS F (Bh S.1) (PySem.W.mg_of E.X E.G a) (F.binds c) (Mv H E.hg E.hb) e b.1 λz g=>E.xc z (of_decide_eq_true (ZG.mp b.2 z g))
theorem an:∀p∈([]:List (Str×(List D->aa->Res D))),bT P w K mg base (bt P w) k p.1 p.2:=λp h=>(ZZ h).elim
theorem ac{x:Str}{l:List (Str×(List D->aa->Res D))}(F:bT P w K mg base (bt P w) j x φ)(H:j<=k)(r:∀p∈l,bT P w K mg base (bt P w) k p.1 p.2):∀p∈(x,φ)::l,bT P w K mg base (bt P w) k p.1 p.2:=λp a=>by
 rcases Zn.mp a with rfl|h
 ·exact F.mono H
 ·exact r p h
end
structure Df (K:Fg):Prop where
 d_is_number:aC K "is_number" (cu 7)
 d_is_number_from:aC K "is_number_from" (cu 8)
 d_is_place:aC K "is_place" (cu 9)
 d_is_rising:aC K "is_rising" (cu 10)
 d_are_places:aC K "are_places" (cu 11)
 d_are_unlike:aC K "are_unlike" (cu 12)
 d_is_tie:aC K "is_tie" (cu 13)
 d_is_web:aC K "is_web" (cu 14)
 d_is_some:aC K "is_some" (cu 15)
 d_are_ties:aC K "are_ties" (cu 16)
 d_must_be_web:aC K "must_be_web" (cu 17)
 d_must_be_some:aC K "must_be_some" (cu 18)
 d_tie_of:aC K "tie_of" (cu 19)
 d_have_tie:aC K "have_tie" (cu 20)
 d_piece_of:aC K "piece_of" (cu 21)
 d_pieces_without:aC K "pieces_without" (cu 22)
 d_is_pairing:aC K "is_pairing" (cu 24)
 d_must_be_pairing:aC K "must_be_pairing" (cu 25)
 d_mate_of:aC K "mate_of" (cu 26)
 d_loose_of:aC K "loose_of" (cu 27)
 d_all_pairings:aC K "all_pairings" (cu 28)
 d_greatest:aC K "greatest" (cu 30)
 d_parts:aC K "parts" (cu 32)
 d_missed_pieces:aC K "missed_pieces" (cu 33)
 d_is_parted:aC K "is_parted" (cu 34)
 d_law_cell_at:aC K "_law_cell_at" (cu 36)
 d_law_stir:aC K "_law_stir" (cu 37)
 d_law_web:aC K "_law_web" (cu 38)
 d_law_free:aC K "_law_free" (cu 39)
 d_law_pairings:aC K "_law_pairings" (cu 40)
 d_law_pairing:aC K "_law_pairing" (cu 41)
 d_law_mates:aC K "_law_mates" (cu 42)
 d_law_near:aC K "_law_near" (cu 43)
 d_law_loose:aC K "_law_loose" (cu 44)
 d_law_greatest:aC K "_law_greatest" (cu 45)
 d_law_parts:aC K "_law_parts" (cu 46)
 d_law_pieces:aC K "_law_pieces" (cu 47)
 d_law_parted:aC K "_law_parted" (cu 48)
 d_law_right:aC K "_law_right" (cu 49)
 d_law:aC K "law" (cu 50)
section
variable (E9:En P w K mg h)(D9:Df K)
include E9 D9
theorem J_:bT P w K mg base (bt P w) 1 "is_number" og:=fe (ps:=["thing"]) E D.d_is_number (λ_ _ _ _ _ _=>dX λ_=>rfl) an rfl (by decide+kernel)
theorem Bi:bT P w K mg base (bt P w) 2 "is_number_from" iX:=fe (ps:=["thing","low","high"]) E D.d_is_number_from (λ_ _ _ _ _ _=>ub λ_ _ _=>rfl) (ac (J_ E D) (by decide) an) rfl (by decide+kernel)
theorem J':bT P w K mg base (bt P w) 3 "is_place" oh:=fe (ps:=["many","thing"]) E D.d_is_place (λ_ _ _ _ _ _=>bS λ_ _=>rfl) (ac (Bi E D) (by decide) an) rfl (by decide+kernel)
theorem oH:bT P w K mg base (bt P w) 1 "is_rising" et:=fe (ps:=["things"]) E D.d_is_rising (λ_ _ _ _ _ _=>dX λ_=>rfl) an rfl (by decide+kernel)
theorem Bj:bT P w K mg base (bt P w) 4 "are_places" gp:=fe (ps:=["many","thing"]) E D.d_are_places (λ_ _ _ _ _ _=>bS λ_ _=>rfl) (ac (J' E D) (by decide) an) rfl (by decide+kernel)
theorem Bk:bT P w K mg base (bt P w) 1 "are_unlike" gY:=fe (ps:=["things"]) E D.d_are_unlike (λ_ _ _ _ _ _=>dX λ_=>rfl) an rfl (by decide+kernel)
theorem Bl:bT P w K mg base (bt P w) 5 "is_tie" iY:=fe (ps:=["many","thing"]) E D.d_is_tie (λ_ _ _ _ _ _=>bS λ_ _=>rfl) (ac (Bj E D) (by decide) (ac (oH E D) (by decide) an)) rfl (by decide+kernel)
theorem Ka:bT P w K mg base (bt P w) 6 "is_web" ol:=fe (ps:=["thing"]) E D.d_is_web (λ_ _ _ _ _ _=>dX λ_=>rfl) (ac (oH E D) (by decide) (ac (Bi E D) (by decide) (ac (Bl E D) (by decide) an))) rfl (by decide+kernel)
theorem Kb:bT P w K mg base (bt P w) 5 "is_some" om:=fe (ps:=["web","thing"]) E D.d_is_some (λ_ _ _ _ _ _=>bS λ_ _=>rfl) (ac (Bj E D) (by decide) (ac (oH E D) (by decide) an)) rfl (by decide+kernel)
theorem Kc:bT P w K mg base (bt P w) 6 "are_ties" oo:=fe (ps:=["web","thing"]) E D.d_are_ties (λ_ _ _ _ _ _=>bS λ_ _=>rfl) (ac (oH E D) (by decide) (ac (Bl E D) (by decide) an)) rfl (by decide+kernel)
theorem uB:bT P w K mg base (bt P w) 7 "must_be_web" fj:=fe (ps:=["thing"]) E D.d_must_be_web (λ_ _ _ _ _ _=>dX λ_=>rfl) (ac (Ka E D) (by decide) an) rfl (by decide+kernel)
theorem Kd:bT P w K mg base (bt P w) 6 "must_be_some" oq:=fe (ps:=["web","thing"]) E D.d_must_be_some (λ_ _ _ _ _ _=>bS λ_ _=>rfl) (ac (Kb E D) (by decide) an) rfl (by decide+kernel)
theorem Ke:bT P w K mg base (bt P w) 1 "tie_of" ot:=fe (ps:=["one","other"]) E D.d_tie_of (λ_ _ _ _ _ _=>bS λ_ _=>rfl) an rfl (by decide+kernel)
theorem Bm:bT P w K mg base (bt P w) 2 "have_tie" gZ:=fe (ps:=["web","one","other"]) E D.d_have_tie (λ_ _ _ _ _ _=>ub λ_ _ _=>rfl) (ac (Ke E D) (by decide) an) rfl (by decide+kernel)
theorem Kf:bT P w K mg base (bt P w) 3 "piece_of" kt:=fe (ps:=["web","left","start"]) E D.d_piece_of (λ_ _ _ _ _ _=>ub λ_ _ _=>rfl) (ac (Bm E D) (by decide) an) rfl (by decide+kernel)
theorem Kg:bT P w K mg base (bt P w) 8 "pieces_without" ou:=fe (ps:=["web","some"]) E D.d_pieces_without (λ_ _ _ _ _ _=>bS λ_ _=>rfl) (ac (uB E D) (by decide) (ac (Kd E D) (by decide) (ac (Kf E D) (by decide) an))) rfl (by decide+kernel)
theorem Kh:bT P w K mg base (bt P w) 8 "is_pairing" ox:=fe (ps:=["web","thing"]) E D.d_is_pairing (λ_ _ _ _ _ _=>bS λ_ _=>rfl) (ac (uB E D) (by decide) (ac (Kc E D) (by decide) (ac (Bk E D) (by decide) an))) rfl (by decide+kernel)
theorem Ki:bT P w K mg base (bt P w) 9 "must_be_pairing" g4:=fe (ps:=["web","thing"]) E D.d_must_be_pairing (λ_ _ _ _ _ _=>bS λ_ _=>rfl) (ac (Kh E D) (by decide) an) rfl (by decide+kernel)
theorem uC:bT P w K mg base (bt P w) 1 "mate_of" fm:=fe (ps:=["pairing","place"]) E D.d_mate_of (λ_ _ _ _ _ _=>bS λ_ _=>rfl) an rfl (by decide+kernel)
theorem Kj:bT P w K mg base (bt P w) 2 "loose_of" oz:=fe (ps:=["web","ties"]) E D.d_loose_of (λ_ _ _ _ _ _=>bS λ_ _=>rfl) (ac (uC E D) (by decide) an) rfl (by decide+kernel)
theorem Kk:bT P w K mg base (bt P w) 8 "all_pairings" iZ:=fe (ps:=["web"]) E D.d_all_pairings (λ_ _ _ _ _ _=>dX λ_=>rfl) (ac (uB E D) (by decide) (ac (uC E D) (by decide) an)) rfl (by decide+kernel)
theorem Kl:bT P w K mg base (bt P w) 9 "greatest" i0:=fe (ps:=["web"]) E D.d_greatest (λ_ _ _ _ _ _=>dX λ_=>rfl) (ac (Kk E D) (by decide) an) rfl (by decide+kernel)
theorem Bn:bT P w K mg base (bt P w) 10 "parts" g5:=fe (ps:=["web"]) E D.d_parts (λ_ _ _ _ _ _=>dX λ_=>rfl) (ac (Kl E D) (by decide) (ac (Kj E D) (by decide) (ac (Bm E D) (by decide) an))) rfl (by decide+kernel)
theorem Km:bT P w K mg base (bt P w) 11 "missed_pieces" ky:=fe (ps:=["web"]) E D.d_missed_pieces (λ_ _ _ _ _ _=>dX λ_=>rfl) (ac (Bn E D) (by decide) (ac (Kg E D) (by decide) an)) rfl (by decide+kernel)
theorem Kn:bT P w K mg base (bt P w) 12 "is_parted" oA:=fe (ps:=["web","pairing"]) E D.d_is_parted (λ_ _ _ _ _ _=>bS λ_ _=>rfl) (ac (Ki E D) (by decide) (ac (Bn E D) (by decide) (ac (Km E D) (by decide) (ac (uC E D) (by decide) (ac (Bk E D) (by decide) an))))) rfl (by decide+kernel)
theorem Bo:bT P w K mg base (bt P w) 1 "_law_cell_at" i3:=fe (ps:=["_law_script","_law_k"]) E D.d_law_cell_at (λ_ _ _ _ _ _=>bS λ_ _=>rfl) an rfl (by decide+kernel)
theorem oI:bT P w K mg base (bt P w) 1 "_law_stir" eW:=fe (ps:=["_law_cell","_law_k"]) E D.d_law_stir (λ_ _ _ _ _ _=>bS λ_ _=>rfl) an rfl (by decide+kernel)
theorem Bp:bT P w K mg base (bt P w) 2 "_law_web" i5:=fe (ps:=["_law_cell","_law_top"]) E D.d_law_web (λ_ _ _ _ _ _=>bS λ_ _=>rfl) (ac (oI E D) (by decide) an) rfl (by decide+kernel)
theorem Bq:bT P w K mg base (bt P w) 1 "_law_free" g6:=fe (ps:=["_law_tie","_law_line"]) E D.d_law_free (λ_ _ _ _ _ _=>bS λ_ _=>rfl) an rfl (by decide+kernel)
theorem uD:bT P w K mg base (bt P w) 2 "_law_pairings" gr:=fe (ps:=["_law_web_here"]) E D.d_law_pairings (λ_ _ _ _ _ _=>dX λ_=>rfl) (ac (Bq E D) (by decide) an) rfl (by decide+kernel)
theorem Br:bT P w K mg base (bt P w) 2 "_law_pairing" g8:=fe (ps:=["_law_web_here","_law_cell"]) E D.d_law_pairing (λ_ _ _ _ _ _=>bS λ_ _=>rfl) (ac (oI E D) (by decide) (ac (Bq E D) (by decide) an)) rfl (by decide+kernel)
theorem Ko:bT P w K mg base (bt P w) 1 "_law_mates" kE:=fe (ps:=["_law_web_here","_law_line"]) E D.d_law_mates (λ_ _ _ _ _ _=>bS λ_ _=>rfl) an rfl (by decide+kernel)
theorem Bs:bT P w K mg base (bt P w) 1 "_law_near" i7:=fe (ps:=["_law_web_here","_law_place"]) E D.d_law_near (λ_ _ _ _ _ _=>bS λ_ _=>rfl) an rfl (by decide+kernel)
theorem Kp:bT P w K mg base (bt P w) 1 "_law_loose" oB:=fe (ps:=["_law_web_here","_law_line"]) E D.d_law_loose (λ_ _ _ _ _ _=>bS λ_ _=>rfl) an rfl (by decide+kernel)
theorem uE:bT P w K mg base (bt P w) 3 "_law_greatest" fo:=fe (ps:=["_law_web_here"]) E D.d_law_greatest (λ_ _ _ _ _ _=>dX λ_=>rfl) (ac (uD E D) (by decide) an) rfl (by decide+kernel)
theorem Kq:bT P w K mg base (bt P w) 4 "_law_parts" kF:=fe (ps:=["_law_web_here"]) E D.d_law_parts (λ_ _ _ _ _ _=>dX λ_=>rfl) (ac (Kp E D) (by decide) (ac (uE E D) (by decide) (ac (Bs E D) (by decide) an))) rfl (by decide+kernel)
theorem Kr:bT P w K mg base (bt P w) 2 "_law_pieces" kG:=fe (ps:=["_law_web_here","_law_some"]) E D.d_law_pieces (λ_ _ _ _ _ _=>bS λ_ _=>rfl) (ac (Bs E D) (by decide) an) rfl (by decide+kernel)
theorem Ks:bT P w K mg base (bt P w) 5 "_law_parted" oD:=fe (ps:=["_law_web_here","_law_line"]) E D.d_law_parted (λ_ _ _ _ _ _=>bS λ_ _=>rfl) (ac (Kq E D) (by decide) (ac (Ko E D) (by decide) (ac (Kr E D) (by decide) an))) rfl (by decide+kernel)
theorem Bt:bT P w K mg base (bt P w) 13 "_law_right" kJ:=fe (ps:=["_law_web_here","_law_line"]) E D.d_law_right (λ_ _ _ _ _ _=>bS λ_ _=>rfl) (ac (Kn E D) (by decide) (ac (Ks E D) (by decide) an)) rfl (by decide+kernel)
theorem Kt:bT P w K mg base (bt P w) 14 "law" kL:=fe (ps:=["_law_script"]) E D.d_law (λ_ _ _ _ _ _=>dX λ_=>rfl) (ac (Bp E D) (by decide) (ac (uE E D) (by decide) (ac (uD E D) (by decide) (ac (Bt E D) (by decide) (ac (Bo E D) (by decide) (ac (oI E D) (by decide) (ac (Br E D) (by decide) an))))))) rfl (by decide+kernel)
end
noncomputable def ir(K:Fg):Sp:=λvs H Q _=>∃(a:Addr) (ns:Li),vs=[.ref a]/\l6 H/\c6 K H a (ns.map V.int)/\ns.length<=63/\∀H',Q (.bl true) H'
def Good(f:List D->aa->Res D):Prop:=∀ns:Li,ns.length<=63->∃S',f [.scr (ns.map D.int)] []=.ok (.bl true) S'
theorem Bu{K:Fg}{m:GS}{μ:La}{H:Hp}:∀ns:Li,aj K m μ H (ns.map D.int) (ns.map V.int)
 | []=>.nil
 |n::ns=>.cons bG (Bu ns)
theorem Bv{f:List D->aa->Res D}(g:Good f):∀vs H Q E,ir K vs H Q E->sr K mg 1 f vs H Q E:=by
 rintro vs H Q E ⟨a,N,rfl,i,j,d,q⟩;refine⟨rfl,[],[],[],[.scr (N.map D.int)],⟨λa h=>(by cases h),rfl,List.nodup_nil,λn a l h=>(by cases h)⟩,.cons ?_ .nil,?_⟩
 ·unfold Rep;refine⟨a,N.map V.int,rfl,?_,Bu N⟩;rcases j with(h| ⟨o,h⟩)|h
  ·rcases i a with z| ⟨o,X,z⟩<;>rw[z]at h<;>cases h
  ·exact .inl ⟨o,h⟩
  ·exact .inr h
 ·obtain⟨S,e⟩:=g N d;rw[e];intro k c b x s r;unfold Rep at r;rw[r];exact q c
theorem uF{l:PySem.W.OpenLaw}(X:K.In h)(G:h.Ns mainGlobals mg)(i:mg "law"=some (.ref fa))(good:Good kL)(D:Df K)(Z:∀x∈gb,PySem.W.nsIn K mainGlobals x=some none)
  {g:Tok} (M:PySem.W.nsIn K mainGlobals "MOST_PLACES"=some (some (.int 8 g))) (r:RZ.all (MA K)=true):
  ∃fd:FuncData,(∀(s:Shared) (v:Value),BindsTo s fd ⟨[v],[]⟩ [("_law_script",v)])/\∀base:Heap,K.In base->base.Ns mainGlobals mg->c9 l.prog w K mg base (bt l.prog w) 14 fa fd ["_law_script"] (ir K):=by
 have n:∀x d,G0 x=some d->∃v u,mg x=some u/\RelV v u/\∀F y H,Rep K ⟨mg,F⟩ y H d v:=λx d e=>by
  unfold G0 at e;rw[List.lookup_cons]at e;split at e
  ·rename_i j;cases e;have m:x="MOST_PLACES":=by simpa using j
   subst m;exact⟨.int 8,_,PySem.W.mg_of X G M,⟨_,rfl⟩,λ_ _ _=>bG⟩
  cases e
 have p:=ZG.mp r
 have t:∀z∈RZ,XC l.prog w K mg z:=λz b=>by
  have c:=p z b;simp only[RZ,Zn,List.mem_nil_iff,or_false]at b;rcases b with rfl|rfl|rfl
  ·exact uz X G c
  ·exact uz X G c
  ·exact uz X G c
 have E:En l.prog w K mg h:=⟨X,G,n,λx j=>PySem.W.mg_none_of X G (Z x j),t⟩;obtain⟨f,fd,a,F⟩:=D.d_law;have e:=i.symm.trans (PySem.W.mg_of X G a);cases e;have S:c7 kK ["_law_script"] (dF (cu 50)):=Bh (by decide+kernel);refine⟨fd,λs v=>?_,λbase _ _=>?_⟩
 ·obtain⟨B,I,kV,o,P,an,C,A,O,rfl,L,q⟩:=F.ex;exact .of_eq rfl
 ·exact c9.imp (Af (k:=13) F S (Mv (ac (Bp E D) (by decide) (ac (uE E D) (by decide) (ac (uD E D) (by decide) (ac (Bt E D) (by decide) (ac (Bo E D) (by decide) (ac (oI E D) (by decide) (ac (Br E D) (by decide) an))))))) n E.hb) rfl (by decide+kernel) λz b=>E.xc z (of_decide_eq_true (ZG.mp (by decide+kernel:((eU iq).all λz=>decide (z∈RZ))=true) z b))) (Bv good)
mutual
theorem Bw{k:Nat}:∀(d:D),bE 0 d=true->bE k d=true
 | .non,_=>rfl
 | .bl _,_=>rfl
 | .int _,_=>rfl
 | .str _,_=>rfl
 | .tup _,h=>by exact gv _ h
 | .lst _,h=>by exact gv _ h
 | .scr _,h=>by exact gv _ h
 | .ref n,h=>by unfold bE at h;simp at h
 | .fn y,_=>rfl
 | .ty y,_=>rfl
 | .dct,_=>rfl
 | .dks _,_=>rfl
theorem gv{k:Nat}:∀(ds:List D),bb 0 ds=true->bb k ds=true
 | [],_=>rfl
 |d::ds,h=>by unfold bb at h⊢;simp at h⊢;exact⟨Bw d h.1,gv _ h.2⟩
end
def Flat(S:aa):Prop:=∀xs∈S,bb 0 xs=true
theorem Flat.all(h:Flat S):S.all (bb k)=true:=ZG.mpr λx H=>gv _ (h _ H)
theorem Flat.nil:Flat []:=λ_ h=>by cases h
theorem Flat.snoc(h:Flat S)(a:bb 0 xs=true):Flat (S++[xs]):=λy H=>by
 rcases Zq.mp H with z|z
 ·exact h _ z
 simp_all
theorem Flat.set(h:Flat S)(a:bb 0 xs=true):Flat (S.set n xs):=λy H=>by
 rcases List.mem_or_eq_of_mem_set H with z|z
 ·exact h _ z
 simp_all
theorem g_(h:Flat (S'.take k))(H:bE 0 d=true):cC k d S'=.ok d (S'.take k):=by unfold cC;rw[if_pos h.all,if_pos (Bw d H)]
theorem Ku(h:Flat S)(H:bE 0 d=true):cC S.length d S=.ok d S:=by rw[g_ (by simp_all) H,List.take_length]
theorem Bx(a:S.length=k)(h:Flat S)(H:bE 0 d=true):cC k d S=.ok d S:=by subst a;exact Ku h H
theorem By{step:D->List D->aa->Res (List D)}{S:aa}(g:D->Option D):∀(xs acc:List D),(∀x∈xs,∀acc,acc.length<bu->step x acc S=.ok (acc++(g x).toList) S)->acc.length+xs.length<=bu->bx step xs acc S=.ok (acc++xs.filterMap g) S
 | [],acc,_,_=>by simp[bx]
 |x::xs,acc,h,H=>by
  simp at H;unfold bx;rw[h x Zd _ (by omega)];unfold Res.bind;dsimp
  rw[By g _ _ (λy a=>h y (Zc _ a)) (by
   grind)]
  cases e:g x<;>simp[e]
theorem Kv{a:Type}{l:List a}{f:a->Option Bool}(h:∀x∈l,f x=some true):bv (l.map f)=some true:=by
 induction l with
 |nil=>rfl
 |cons x l i=>
  unfold bv
  grind
theorem allO_map{a:Type}{l:List a}{f:a->Bool}:bv (l.map λx=>some (f x))=some (l.all f):=by
 induction l with
 |nil=>rfl
 |cons x l i=>unfold bv;simp_all
theorem oJ{a:Type}{l:List a}{f:a->Bool}:e_ (l.map λx=>some (f x))=some (l.any f):=by unfold e_;rw[ZP];have e:(λo=>o.map not)∘(λx=>some _)=λx=>some !f x:=rfl;rw[e,allO_map];simp[List.not_all_eq_any_not]
def ar(t:Int×Int):D:=.tup [.int t.1,.int t.2]
def ae(ts:Lq):List D:=ts.map ar
def ag(m:Int)(ts:Lq):D:=.tup [.int m,.tup (ae ts)]
theorem D8(t:Int×Int):bE 0 (ar t)=true:=rfl
theorem i9:∀(ts:Lq),bb 0 (ae ts)=true
 | []=>rfl
 |t::ts=>by show(bE 0 _&&bb 0 (ae _))=true;rw[i9 _];rfl
theorem eX:∀(ns:Li),bb 0 (ns.map D.int)=true
 | []=>rfl
 |t::T=>by show(bE 0 _&&bb 0 _)=true;rw[eX _];rfl
theorem oM(m:Int)(ts:Lq):bE 0 (ag m ts)=true:=by show(true&&(bb 0 _&&true))=true;rw[i9];rfl
def aS(a b:Int×Int):Prop:=a.1<b.1\/(a.1=b.1/\a.2<b.2)
instance (a b:Int×Int):Decidable (aS a b):=by unfold aS;exact inferInstance
theorem Bz(S:aa)(n:Nat)(a b:Int):cF S (n+1) (.int a) (.int b)=some (a==b):=rfl
theorem oN(S:aa)(n:Nat)(a b:Int×Int):cF S (n+2) (ar a) (ar b)=some (decide (a=b)):=by
 have e:cF S (n+2) (ar a) (ar b)=some _:=rfl;simp[Prod.ext_iff]
 grind
theorem oO(S:aa)(n:Nat)(a b:Int×Int):jy S (n+2) (ar a) (ar b)=some (decide (aS a b)):=by
 have e:jy S (n+2) (ar a) (ar b)=match cF S _ _ _ with
  |some true=>(match cF S _ _ _ with
   |some true=>some _
   |some false=>some _
   |none=>none)
  |some false=>some _
  |none=>none:=rfl
 rw[e,Bz,Bz];unfold aS
 grind
theorem BA(S:aa)(t:Int×Int)(ts:Lq):fw (ar t) (.tup (ae ts)) S=some (decide (t∈ts)):=by
 have e:fw (ar t) (.tup (ae ts)) S=e_ _:=rfl;rw[e];unfold ae;rw[ZP];have E:(λy=>cF S bH y (ar t))∘ar=λu=>some (decide (u=t)):=by funext u;exact oN S 38 u t
 rw[E,oJ]
 grind
theorem kN(S:aa)(p:Int)(t:Int×Int):fw (.int p) (ar t) S=some (decide (p=t.1\/p=t.2)):=by
 have e:fw (.int p) (ar t) S=some _:=rfl;rw[e];congr 1
 grind
structure bn (m:Int)(ts:Lq):Prop where
 lo:1<=m
 hi:m<=8
 ris:ts.Pairwise aS
 tie:∀t∈ts,0<=t.1/\t.1<t.2/\t.2<m
 few:ts.length<=28
structure aV (ts ps:Lq):Prop where
 ris:ps.Pairwise aS
 sub:∀t∈ps,t∈ts
 un:(ps.flatMap λt=>[t.1,t.2]).Nodup
theorem bJ(c:ds.length=np)(h:ah Φ Γ body (ds.map some++List.replicate (n-np) none) S=.ok (.ret d) S')(b:S'.length=S.length)(a:Flat S')(H:bE 0 d=true):az Φ Γ body n np ds S=.ok d S':=by unfold az;rw[if_pos c,h];exact Bx b a H
theorem run_next(b:ds.length=np)(h:ah Φ Γ body (ds.map some++List.replicate (n-np) none) S=.ok (.next ρ) S')(a:S'.length=S.length)(H:Flat S'):az Φ Γ body n np ds S=.ok .non S':=by unfold az;rw[if_pos b,h];exact Bx a H rfl
theorem Kw(h:Flat S)(i:Int):og [.int i] S=.ok (.bl true) S:=bJ rfl rfl rfl h rfl
theorem BB(h:Flat S)(i lo hi:Int):iX [.int i,.int lo,.int hi] S=.ok (.bl (decide (lo<=i/\i<=hi))) S:=by refine bJ rfl ?_ rfl h rfl;simp[Ag,ah,aD,ak,am,Res.bind,Res.noErr,bi,Ib,Kw h,a7,DQ];lia
theorem Kx(h:Flat S)(m i:Int):oh [.int m,.int i] S=.ok (.bl (decide (0<=i/\i<m))) S:=by refine bJ rfl ?_ rfl h rfl;have e:(i<=m-1)=(i<m):=propext (by omega);simp[Ai,ah,aD,ak,am,Res.bind,Res.noErr,Ie,BB h,dy,l8,e]
theorem oP{step:D->List D->aa->Res (List D)}(h:∀x∈xs,∀acc,acc.length<bu->step x acc S=.ok (acc++[.bl true]) S)(b:xs.length<=bu):bx step xs [] S=.ok (xs.map λ_=>D.bl true) S:=by rw[By (λ_=>some _) _ _ (λx a acc H=>h x a _ H) (by simp_all)];simp
theorem oQ:jD [.lst (xs.map λ_=>D.bl true)] S=.ok (.bl true) S:=by unfold jD;simp only[av];rw[ZP,show bv (xs.map (e8∘λx=>D.bl _))=some _ from Kv λx h=>rfl];rfl
theorem Ky(xs:List D):b0 xs (some 1) none=xs.drop 1:=by
 unfold b0;have e:HT.bZ xs.length 0 (some 1)=min 1 _:=rfl;have E:HT.bZ xs.length _ none=xs.length:=rfl;rw[e,E];cases xs with
 |nil=>rfl
 |cons x r=>simp
theorem uG(c:Flat S)(g:xs.length<=1000)(h:∀(i:Nat) x y,xs[i]?=some x->xs[i+1]?=some y->jy S bH x y=some true):et [.tup xs] S=.ok (.bl true) S:=by
 refine bJ rfl ?_ rfl c rfl;have b:fy S (.tup xs) (.tup (xs.drop 1))=some (.items (List.zipWith (λx y=>.tup [x,y]) xs (xs.drop 1))):=rfl;have f:=Ky xs;simp[Al,Ak,ah,aD,au,ak,am,aL,Res.bind,Res.noErr,bi,ji,cN,dh,bj];simp only[f,b,bM];rw[oP]
 ·simp only[Res.noErr];rw[oQ]
 ·intro z b A d;obtain⟨i,H⟩:=List.mem_iff_getElem?.mp b;rw[List.getElem?_zipWith]at H;cases e:xs[i]? with
  |none=>rw[e]at H;cases H
  |some x=>
   cases E:(xs.drop 1)[i]? with
   |none=>rw[e,E]at H;cases H
   |some y=>rw[e,E]at H;cases H;rw[List.getElem?_drop,Nat.add_comm]at E;have a:=h i x y e E;simp[aI,cj,slots,fL,aE,cH,ax,aP,ak,Res.bind,a7,a,aR,Res.noErr];unfold bu at d;omega
 ·simp;unfold bu;omega
theorem BC(H:Flat S)(i:ns.length<=1000)(h:∀n∈ns,0<=n/\n<m):gp [.int m,.tup (ns.map D.int)] S=.ok (.bl true) S:=by
 refine bJ rfl ?_ rfl H rfl;have b:gN [.tup (ns.map D.int),.ty "tuple"] S=.ok _ S:=rfl;simp[Am,ah,aD,ak,am,aL,Res.bind,Res.noErr,bi,bj,b,cB];simp only[bM];rw[oP]
 ·simp only[Res.noErr];rw[oQ]
 ·intro z e a f;obtain⟨n,c,rfl⟩:=Zr.mp e;have d:=Kx H m n;have g:=ZR (h n c);simp[aI,cj,slots,aE,ax,aP,ak,am,Res.bind,Ii,d];simp_all
 ·simp;lia
theorem BD(H:Flat S){t:Int×Int}(h:0<=t.1/\t.1<t.2/\t.2<m):iY [.int m,ar t] S=.ok (.bl true) S:=by
 refine bJ rfl ?_ rfl H rfl;have a:gp [.int m,ar t] S=.ok _ S:=BC H (ns:=[t.1,t.2]) (by simp) (by intro n g;simp at g;lia)
 have b:et [ar t] S=.ok _ S:=uG H (by simp) (by
  intro i x y e E
  have f:i=0:=by
   grind
  subst f;simp at e E;subst e;subst E;show some _=some _;simp[h.2.1])
 have c:bj .len [ar t] S=.ok _ S:=rfl;have d:a7 .Eq (.int 2) (.int 2) S=.ok _ S:=rfl;simp[Ao,ah,aD,ak,am,Res.bind,Res.noErr,bi,Io,Ip,a,b,c,d]
theorem BE{i:Nat}{x:D}(h:(ae ts)[i]?=some x):∃t,ts[i]?=some t/\x=ar t:=by
 unfold ae at h
 grind
theorem BF(H:Flat S)(a:ts.length<=1000)(h:ts.Pairwise aS):et [.tup (ae ts)] S=.ok (.bl true) S:=
 uG H (by unfold ae;simpa using a) λi x y e E=>by obtain⟨t,f,rfl⟩:=BE e;obtain⟨u,F,rfl⟩:=BE E;rw[show jy S bH _ _=some _ from oO S _ t u];obtain⟨g,rfl⟩:=Zp.mp f;obtain⟨G,rfl⟩:=Zp.mp F;rw[ZR (Ya.mp h i _ _ _ (by omega))]
theorem Kz(h:Flat S)(W:bn m ts):ol [ag m ts] S=.ok (.bl true) S:=by
 have n:=W.few;refine bJ rfl ?_ rfl h rfl;have b:gN [ag m ts,.ty "tuple"] S=.ok (.bl true) S:=rfl;have c:fJ [ag m ts] S=.ok (.int 2) S:=rfl;have d:a7 .NotEq (.int 2) (.int 2) S=.ok (.bl false) S:=rfl;have H:=BB h m 1 8;rw[ZR (⟨W.lo,W.hi⟩:1<=m/\m<=8)]at H;have e:gN [.tup (ae ts),.ty "tuple"] S=.ok (.bl true) S:=rfl;have a:=BF h (show ts.length<=1000 by omega) W.ris;have f:G0 "MOST_PLACES"=some (.int 8):=rfl;have g:aE (.tup [.var 1,.var 2]) (ag m ts) [some (ag m ts),none,none]=some _:=rfl;simp[Aq,Ap,ah,aD,au,ak,am,aL,Res.bind,Res.noErr,bi,bj,b,c,d,Iq,Ir,Ar,H,e,bU,a,f,g,cB];simp only[bM];rw[oP]
 ·simp only[Res.noErr];rw[oQ];simp[a]
 ·intro z l A i;obtain⟨t,k,rfl⟩:=Zr.mp l;have j:=BD h (W.tie t k);simp[aI,cj,slots,fL,aE,cH,ax,aP,ak,am,Res.bind,Ar,j,Res.noErr];unfold bu at i;omega
 ·unfold ae bu;simp;omega
theorem uH(h:Flat S)(W:bn m ts):fj [ag m ts] S=.ok .non S:=by refine run_next (ρ:=[some (ag m ts)]) rfl ?_ rfl h;simp[Aw,Au,ah,aD,au,ak,am,Res.bind,IC,Kz h W,bU]
theorem kO{b:Type}{f e:b->D}{p:b->Bool}{step:D->List D->aa->Res (List D)}{S:aa}:∀(xs:List b) (acc:List D),(∀x∈xs,∀acc,acc.length<bu->step (f x) acc S=.ok (if p x=true then acc++[e x]else acc) S)->acc.length+xs.length<=bu->bx step (xs.map f) acc S=.ok (acc++(xs.filter p).map e) S
 | [],acc,_,_=>by simp[bx]
 |x::xs,acc,h,c=>by
  unfold bx;unfold Res.bind;have i:=λa=>kO _ a λy H=>h y (Zc _ H)
  grind
theorem ew{a:Type}{f e:a->D}{p:a->Bool}{step:D->List D->aa->Res (List D)}{xs:List a}(h:∀x∈xs,∀acc,acc.length<bu->step (f x) acc S=.ok (if p x=true then acc++[e x]else acc) S)(H:xs.length<=bu):bx step (xs.map f) [] S=.ok ((xs.filter p).map e) S:=by rw[kO _ _ h (by simp_all)];simp
theorem bc{c:CS}{cs:List CS}(h:aD Φ Γ c ρ S=.ok (.next ρ') S'):ah Φ Γ (c::cs) ρ S=ah Φ Γ cs ρ' S':=by rw[ah,h];rfl
theorem cv{c:CS}{cs:List CS}(h:aD Φ Γ c ρ S=.ok (.ret d) S'):ah Φ Γ (c::cs) ρ S=.ok (.ret d) S':=by rw[ah,h];rfl
theorem eY{t:CT}{it:CE}{its:iG}(h:aL Φ Γ it ρ S=.ok its S1):aD Φ Γ (.for_ t it body) ρ S=sf (λx ρ S=>match aE t x ρ with
   |some ρ'=>ah Φ Γ body ρ' S
   |none=>.fail) its ρ S1:=by
 rw[aD,h];rfl
theorem aJ{i:Nat}{e:CE}{cs:List CS}(h:ak Φ Γ e ρ S=.ok d S'):ah Φ Γ (.asg i e::cs) ρ S=ah Φ Γ cs (ρ.set i (some d)) S':=
 bc (by rw[aD,h];rfl)
def bd(lo:Int):Nat->Li
 |0=>[]
 |n+1=>lo::bd (lo+1) n
theorem i_(lo:Int)(n:Nat):eP lo n=(bd lo n).map D.int:=by
 induction n generalizing lo with
 |zero=>rfl
 |succ n i=>unfold eP bd;rw[i];rfl
theorem gw{x:Int}:x∈bd lo n->lo<=x/\x<lo+n:=by
 induction n generalizing lo with
 |zero=>intro h;cases h
 |succ n i=>
  intro h;unfold bd at h
  grind
theorem ez:(bd lo n).length=n:=by
 induction n generalizing lo with
 |zero=>rfl
 |succ n i=>unfold bd;simp[i]
def cw(p:Int)(t:Int×Int):Bool:=decide (p=t.1\/p=t.2)
noncomputable def ay:Lq->Int->Option Int
 | [],_=>none
 |t::ts,p=>if p=t.1 then some t.2 else if p=t.2 then some t.1 else ay ts p
def bV:Option Int->D
 |some i=>.int i
 |none=>.non
theorem oR(o:Option Int):bE 0 (bV o)=true:=by cases o<;>rfl
theorem BG{S:aa}{step:D->bD->aa->Res Fl}{p:Int}{P:D}
  (hs:∀(t:Int×Int) (x y:Option D),step (ar t) [some P,some (.int p),x,y] S=.ok (if p=t.1 then .ret (.int t.2)else if p=t.2 then .ret (.int t.1)else .next [some P,some (.int p),some (.int t.1),some (.int t.2)]) S):
  ∀(ts:Lq) (x y:Option D),(∃v,ay ts p=some v/\b3 step (ae ts) [some P,some (.int p),x,y] S=.ok (.ret (.int v)) S)\/(ay ts p=none/\∃X Y,b3 step (ae ts) [some P,some (.int p),x,y] S=.ok (.next [some P,some (.int p),X,Y]) S)
 | [],x,y=>.inr ⟨rfl,x,y,rfl⟩
 |t::ts,x,y=>by
  unfold ae;simp;unfold b3 ay;rw[hs];by_cases h:p=t.1
  ·rw[if_pos h,if_pos h];exact .inl ⟨_,rfl,rfl⟩
  ·rw[if_neg h,if_neg h];by_cases H:p=t.2
   ·rw[if_pos H,if_pos H];exact .inl ⟨_,rfl,rfl⟩
   ·rw[if_neg H,if_neg H];exact BG hs _ _ _
theorem uI(d:Flat S)(ps:Lq)(p:Int):fm [.tup (ae ps),.int p] S=.ok (bV (ay ps p)) S:=by
 refine bJ rfl ?_ rfl d (oR _)
 have f:=BG (S:=S) (p:=p) (P:=.tup (ae ps)) (step:=λx c S=>match aE (.tup [.var 2,.var 3]) x c with
   |some a=>ah oy G0 [.ite (.cmp .Eq (.var 1) (.var 2)) [.ret (.var 3)] [],.ite (.cmp .Eq (.var 1) (.var 3)) [.ret (.var 2)] []] a S
   |none=>.fail) (λt x y=>by
    simp only[ar,aE,cH];by_cases h:p=t.1
    ·simp[ah,aD,au,ak,Res.bind,Res.noErr,a7,cF,bH,sh,rT,aR,bi,h]
    ·by_cases H:p=t.2
     ·have b:¬t.2=t.1:=λz=>h (H.trans z);simp[ah,aD,au,ak,Res.bind,Res.noErr,a7,cF,bH,sh,rT,aR,bi,h,H,b]
     ·simp[ah,aD,au,ak,Res.bind,Res.noErr,a7,cF,bH,sh,rT,aR,bi,h,H]) ps none none
 have e:ah oy G0 AM ([D.tup (ae ps),D.int p].map some++List.replicate (AL.length-2) none) S=(b3 (λx c S=>match aE _ x c with
   |some a=>ah oy G0 _ a S
   |none=>.fail) (ae ps) [some _,some (.int p),none,none] S).bind _:=rfl
 rw[e];rcases f with⟨v,h,H⟩| ⟨h,X,Y,H⟩
 ·rw[H,h];rfl
 ·rw[H,h];rfl
noncomputable def dc(m:Int)(ps:Lq):Li:=(bd 0 m.toNat).filter λi=>(ay ps i).isNone
theorem KA(o:Option Int):ig (bV o)=o.isNone:=by cases o<;>rfl
theorem KC(H:Flat S)(h1:1<=m)(g:m<=8)(ts ps:Lq):oz [ag m ts,.tup (ae ps)] S=.ok (.tup ((dc m ps).map D.int)) S:=by
 refine bJ rfl ?_ rfl H (eX _);have a:bh (ag m ts) (.int 0) S=.ok _ S:=rfl;have f: -4611686018427387904<=m/\m<4611686018427387904:=by omega
 simp[AN,ah,aD,ak,am,aL,Res.bind,Res.noErr,bM,a,f,i_];rw[ew (p:=λi=>(ay _ i).isNone)]
 ·rfl
 ·intro i a A c;have h:=c;have d:=uI H ps i;have b:=KA (ay ps i);cases e:(ay _ i).isNone<;>rw[e]at b<;>simp[aI,cj,slots,aE,ax,au,aP,ak,am,Res.bind,a7,DR,Res.noErr,bi,IV,d,b,h]
 ·rw[ez];lia
theorem oS{a:Type}{f:a->D}{g:a->List D}{c:Nat}{step:D->List D->aa->Res (List D)}{S:aa}(H:∀x,(g x).length<=c):∀(xs:List a) (acc:List D),(∀x∈xs,∀acc,acc.length+c<=bu->step (f x) acc S=.ok (acc++g x) S)->acc.length+c*xs.length<=bu->bx step (xs.map f) acc S=.ok (acc++xs.flatMap g) S
 | [],acc,_,_=>by simp[bx]
 |x::xs,acc,h,b=>by simp[Nat.mul_add]at b;simp;unfold bx;rw[h x Zd _ (by omega)];unfold Res.bind;dsimp;rw[oS H _ _ (λy d=>h y (Zc _ d)) (by have:=H x;simp;omega)];simp
theorem BH:∀(ns acc:Li),(acc++ns).Nodup->ns.foldl step_dedup acc=acc++ns
 | [],acc,_=>by simp
 |n::ns,acc,h=>by
  simp
  have H:acc.any (· ==n)=false:=by
   grind
  have e:step_dedup acc n=acc++[n]:=by unfold step_dedup;rw[H];rfl
  rw[e,BH _ _ (by simp_all),Z7];rfl
theorem KD(c:Flat S)(g:ns.length<1000)(h:ns.Nodup):gY [.lst (ns.map D.int)] S=.ok (.bl true) S:=by
 refine bJ rfl ?_ rfl c rfl
 have H:jM (.lst (ns.map D.int)) S=.ok (.int ns.length) S:=by
  have e:(ns.map D.int).all (aw .int)=true:=by rw[ZG];intro x d;obtain⟨n,_,rfl⟩:=Zr.mp d;rfl
  have E:(ns.map D.int).filterMap cI=ns:=by rw[List.filterMap_map];exact List.filterMap_some
  have f:eI ns=ns:=by unfold eI;have:=BH ns [] (by simp_all);simp_all
  show(if(ns.map _).all _=true/\(ns.map _).length<1000 then Res.ok _ S else _)=_;simp_all
 have a:fJ [.lst (ns.map D.int)] S=.ok (.int ns.length) S:=by simp[fJ,av]
 have b:a7 .Eq (.int ns.length) (.int ns.length) S=.ok (.bl true) S:=by have:a7 .Eq (.int ns.length) (.int ns.length) S=.ok _ S:=rfl;simp_all
 simp[uc,ah,aD,ak,am,Res.bind,Res.noErr,bj,H,a,b]
def aO(ps:Lq):Li:=ps.flatMap λt=>[t.1,t.2]
theorem KG(ps:Lq):ps.flatMap (λt=>[D.int t.1,D.int t.2])=(aO ps).map D.int:=by unfold aO;rw[List.map_flatMap];rfl
theorem KH(ps:Lq):(aO ps).length=2*ps.length:=by
 unfold aO
 induction ps with
 |nil=>rfl
 |cons t T i=>grind
theorem KI(a:Flat S){ps:Lq}(W:bn m ts)(P:aV ts ps)(k:ps.length<=100):oo [ag m ts,.tup (ae ps)] S=.ok (.bl true) S:=by
 refine bJ rfl ?_ rfl a rfl;have d:bh (ag m ts) (.int 0) S=.ok (.int m) S:=rfl;have H:bh (ag m ts) (.int 1) S=.ok (.tup (ae ts)) S:=rfl;have e:=BF a (show ps.length<=1000 by omega) P.ris;refine(bc (S':=S) (rfl)).trans ?_;refine cv ?_;simp[aD,ak,am,aL,Res.bind,Res.noErr,bi,bj,cB,bM];rw[oP]
 ·simp only[Res.noErr];rw[oQ];simp[IA,e]
 ·intro z i A f;obtain⟨t,c,rfl⟩:=Zr.mp i;have g:=BD a (W.tie t (P.sub t c));have h:=BA S t ts;rw[ZR (P.sub t c)]at h;have b:=f;simp[aI,cj,slots,fL,aE,cH,ax,aP,ak,am,Res.bind,IB,g,Res.noErr,d,H,a7,h,aR,bi,b]
 ·unfold ae bu;simp;omega
theorem KJ(h:Flat S){ps:Lq}(W:bn m ts)(P:aV ts ps)(i:ps.length<=100):ox [ag m ts,.tup (ae ps)] S=.ok (.bl true) S:=by
 refine bJ rfl ?_ rfl h rfl;have H:=uH h W;have b:=KI h W P i;have l:=KD h (ns:=aO ps) (by rw[KH];omega) P.un;refine(bc (ρ':=[some (ag m ts),some (.tup (ae ps))]) (S':=S) (by simp[AH,aD,ak,am,Res.bind,IP,H])).trans ?_;refine cv ?_;simp[aD,ak,am,aL,Res.bind,Res.noErr,bi,IQ,IS,b,cB,bM];unfold ae;rw[oS (g:=λt=>[.int t.1,.int t.2]) (c:=2) (λx=>by simp)]
 ·rw[KG];simp_all
 ·intro t n a d;have f:a.length+2<=16777216:=d;have e:aI (.var 0) (ar t) [none,none]=some _:=rfl;have E:cB S (ar t)=some _:=rfl;simp[e,aI,cj,slots,aE,ax,aP,ak,aL,Res.bind,E,bM,bx,show a.length<16777216 by omega,show a.length+1<16777216 by omega]
 ·unfold bu;simp;omega
theorem KL(h:Flat S){ps:Lq}(W:bn m ts)(P:aV ts ps)(H:ps.length<=100):g4 [ag m ts,.tup (ae ps)] S=.ok .non S:=by refine run_next (ρ:=[some (ag m ts),some (.tup (ae ps))]) rfl ?_ rfl h;simp[AJ,AI,ah,aD,au,ak,am,Res.bind,IT,KJ h W P H,bU]
noncomputable def insI(x:Int×Int):Lq->Lq
 | []=>[x]
 |y::ys=>if aS x y then x::y::ys else y::insI x ys
def sortI(l:Lq):Lq:=l.foldl (λacc x=>insI x acc) []
theorem oU(a b:Int×Int):bL (.seq .int) (ar a) (ar b)=decide (aS a b):=by
 have e:bL (.seq .int) (ar a) (ar b)=if decide _=true then true else if decide _=true then false else if decide _=true then true else if decide _=true then false else false:=rfl;by_cases h:aS a b
 ·rw[ZR h];unfold aS at h;lia
 ·rw[ZK h];unfold aS at h;lia
theorem BI(x:Int×Int):∀l:Lq,insB (bL (.seq .int)) (ar x) (ae l)=ae (insI x l)
 | []=>rfl
 |y::Y=>by
  show(if bL _ _ _=true then ar x::ar y::ae _ else ar y::insB _ _ (ae _))=ae _;have e:insI x (y::Y)=if aS x y then x::y::Y else y::insI x _:=rfl;rw[oU,BI x _,e];by_cases h:aS x y
  ·rw[ZR h,if_pos h];rfl
  ·rw[ZK h,if_neg h];rfl
theorem BJ:∀(l acc:Lq),(ae l).foldl (λacc x=>insB (bL (.seq .int)) x acc) (ae acc)=ae (l.foldl (λacc x=>insI x acc) acc)
 | [],acc=>rfl
 |x::l,acc=>by show(ae l).foldl _ (insB _ _ _)=_;rw[BI,BJ l];rfl
theorem KN(l:Lq):eQ (bL (.seq .int)) (ae l)=ae (sortI l):=BJ l []
theorem oV(x:Int×Int):∀l,(insI x l).Perm (x::l)
 | []=>.refl _
 |y::Y=>by
  unfold insI;split
  ·exact .refl _
  ·exact((oV x _).cons y).trans (.swap x y _)
theorem BK:∀(l acc:Lq),(l.foldl (λacc x=>insI x acc) acc).Perm (l++acc)
 | [],acc=>.refl _
 |x::l,acc=>by refine(BK l _).trans ?_;exact((oV x _).append_left l).trans List.perm_middle
theorem kP(l:Lq):(sortI l).Perm l:=by have:=BK l [];rw[Yc]at this;exact this
theorem lex_tot{x y:Int×Int}(h:¬aS x y)(n:x≠y):aS y x:=by
 unfold aS at h⊢
 grind
theorem KO{x y z:Int×Int}(a:aS x y)(b:aS y z):aS x z:=by unfold aS at*;omega
theorem BL(x:Int×Int):∀l,l.Pairwise aS->x∉l->(insI x l).Pairwise aS
 | [],_,_=>List.pairwise_singleton _ _
 |y::Y,h,n=>by
  obtain⟨a,b⟩:=ZH.mp h;unfold insI;by_cases e:aS x y
  ·rw[if_pos e];refine ZH.mpr ⟨λz H=>?_,h⟩;rcases Zn.mp H with rfl|H
   ·exact e
   ·exact KO e (a z H)
  ·rw[if_neg e];refine ZH.mpr ⟨λz H=>?_,BL x _ b λz=>n (Zc _ z)⟩;rcases Zn.mp ((oV x _).mem_iff.mp H)with rfl|H
   ·exact lex_tot e λz=>n (by simp_all)
   simp_all
theorem BM:∀(l acc:Lq),acc.Pairwise aS->(l++acc).Nodup->(l.foldl (λacc x=>insI x acc) acc).Pairwise aS
 | [],acc,h,_=>h
 |x::l,acc,h,n=>by have N:=n;obtain⟨a,b⟩:=Yb.mp N;refine BM l _ (BL x _ h λz=>a (Zu _ z)) ?_;exact(((oV x _).append_left l).trans List.perm_middle).nodup_iff.mpr N
theorem BN{l:Lq}(h:l.Nodup):(sortI l).Pairwise aS:=BM l _ .nil (by simp_all)
theorem BO{l:Lq}(H:av S d=some (ae l))(b:l.length<64):fM false (.seq .int) [d] S=.ok (.lst (ae (sortI l))) S:=by
 have e:(ae l).all (aw (.seq .int))=true:=by rw[ZG];intro x h;obtain⟨t,_,rfl⟩:=Zr.mp h;rfl
 have E:=by
  have:((ae l).all λd=> !dM d)=true:=by rw[ZG];intro x h;obtain⟨t,_,rfl⟩:=Zr.mp h;rfl
  show(true&&((ae l).all λd=> !dM d)||dM ((ae l).headD .non))=true;lia
 have a:(ae l).length<65536:=by unfold ae;rw[Zf];omega
 unfold fM;simp only[H];rw[if_pos ⟨e,a,E⟩,KN];rfl
theorem KP{l:Lq}(h1:1<=m)(h:m<=8)(a:l.Nodup)(c:∀t∈l,0<=t.1/\t.1<t.2/\t.2<m)(H:l.length<=28):bn m (sortI l):=
 ⟨h1,h,BN a,λt b=>c t ((kP l).mem_iff.mp b),by rw[(kP l).length_eq];exact H⟩
theorem BP(h1:1<=m)(h:m<=8):m=1\/m=2\/m=3\/m=4\/m=5\/m=6\/m=7\/m=8:=by omega
theorem BQ:(bd lo n).Nodup:=by
 induction n generalizing lo with
 |zero=>exact List.nodup_nil
 |succ n i=>refine Yb.mpr ⟨λh=>?_,i⟩;have:=gw h;omega
theorem hE{c:CE}{a b:List CS}{k:Bool}(h:au Φ Γ c ρ S=.ok k S1):aD Φ Γ (.ite c a b) ρ S=if k=true then ah Φ Γ a ρ S1 else ah Φ Γ b ρ S1:=by rw[aD,h];rfl
theorem cY{tg:CT}{it:CE}{i:List CE}{body:CE}{a:aa}{its:iG}(h:aL Φ Γ it ρ S=.ok its S1)
  (H:bM (λx acc S2=>match aI tg x (fr.map λj=>j.bind λj=>(ρ[j]?).join)with
    |some ρ'=>(ax Φ Γ i ρ' S2).bind λk S3=>if k=true then aP Φ Γ body ρ' acc S3 else .ok acc S3
    |none=>.fail) its [] S1=.ok ys a):ak Φ Γ (.comp false N fr tg it i body) ρ S=.ok (.lst ys) a:=by
 rw[ak,h];exact Eq.trans (congrArg (λr=>Res.bind _ λys a=>if false=true then Res.ok (D.ref a.length) (a++[ys])else Res.ok (.lst ys) a) H) rfl
section
variable {S3:aa}{d2 r x y:D}{e a b:CE}
theorem ai{i:Nat}(h:ρ[i]?=some (some d)):ak Φ Γ (.var i) ρ S=.ok d S:=by rw[ak,h]
theorem du{k:jL}(h:ak Φ Γ e ρ S=.ok d S1)(H:bj k [d] S1=.ok r S2):ak Φ Γ (.blt k [e]) ρ S=.ok r S2:=by simp[ak,am,h,Res.bind,H,Res.noErr]
theorem hH{f:Str}(H:Φ f=some φ)(h1:ak Φ Γ a ρ S=.ok x S1)(h:φ [x] S1=.ok r S2):ak Φ Γ (.call f [a]) ρ S=.ok r S2:=by simp[ak,am,H,h1,h,Res.bind]
theorem dv{f:Str}(c:Φ f=some φ)(h1:ak Φ Γ a ρ S=.ok x S1)(H:ak Φ Γ b ρ S1=.ok y S2)(h:φ [x,y] S2=.ok r S3):ak Φ Γ (.call f [a,b]) ρ S=.ok r S3:=by simp[ak,am,c,h1,H,h,Res.bind]
theorem gx(h:ak Φ Γ e ρ S=.ok d S1):aD Φ Γ (.ret e) ρ S=.ok (.ret d) S1:=by rw[aD,h];rfl
end
section
variable {A B:List D}
theorem uJ:(S++[A,B])[S.length]?=some A:=by rw[ZS (Zg _)];simp
theorem uK:(S++[A,B])[S.length+1]?=some B:=by simp_all
theorem KQ{X:List D}:(S++[A,B]).set S.length X=S++[X,B]:=by simp_all
theorem BR{X:List D}:(S++[A,B]).set (S.length+1) X=S++[A,X]:=by simp_all
theorem BS(h:Flat S)(H:bb 0 A=true)(a:bb 0 B=true):Flat (S++[A,B]):=by have:=(h.snoc H).snoc a;simp_all
end
theorem BU{step:D->List D->aa->Res (List D)}{S:aa}{k:Nat}{xs:List D}(a:S[k]?=some xs)(hs:∀x∈xs,∀acc,acc.length<bu->step x acc S=.ok (acc++[.bl true]) S\/step x acc S=.ok (acc++[.bl false]) S):
  ∀(f i:Nat) (acc:List D),xs.length<f+i->i<=xs.length->bz step (bN k) f i acc S=bx step (xs.drop i) acc S\/bu<=acc.length+(xs.length-i)
 |0,i,acc,H,b=>absurd H (by omega)
 |f+1,i,acc,H,b=>by
  unfold bz;have d:bN k S i=some xs[i]? :=by unfold bN;rw[a];rfl
  rw[d];by_cases h:i<xs.length
  ·rw[Zj h,List.drop_eq_getElem_cons h];by_cases c:acc.length<bu
   ·dsimp only;unfold bx;rcases hs xs[i] (List.getElem_mem h) acc c with e|e<;>rw[e]<;>dsimp only[Res.bind]
    all_goals
     rcases BU a hs f (i+1) (acc++[_]) (by omega) (by omega)with z|z
     ·exact .inl z
     ·right;simp at z;omega
   ·right;omega
  ·rw[List.getElem?_eq_none (by omega),List.drop_eq_nil_of_le (by omega)];exact .inl rfl
noncomputable def ja(t:Int×Int)(fs:Lq):Bool:=fs.all λo=> !cw t.1 o&& !cw t.2 o
structure Found (ts fs:Lq):Prop where
 sub:∀t∈fs,t∈ts
 un:(aO fs).Nodup
theorem KR(fs:Lq)(t:Int×Int):aO (fs++[t])=aO fs++[t.1,t.2]:=by unfold aO;simp
theorem KS{fs:Lq}{p:Int}(h:p∈aO fs):∃o∈fs,p=o.1\/p=o.2:=by unfold aO at h;simp_all
theorem Found.add{fs:Lq}{t:Int×Int}(W:bn m ts)(F:Found ts fs)(d:t∈ts)(h:ja t fs=true):Found ts (fs++[t]):=by
 have i:=λo H=>by have:=ZG.mp h o H;simp[cw]at this;exact this
 refine⟨λu f=>?_,?_⟩
 ·rcases Zq.mp f with z|z
  ·exact F.sub u z
  simp_all
 ·rw[KR,ZJ];have:=W.tie t d;refine⟨F.un,?_,λa c b g=>?_⟩
  ·simp;omega
  ·obtain⟨o,H,e⟩:=KS c
   grind
theorem Found.length{fs:Lq}(W:bn m ts)(F:Found ts fs):fs.length<=28:=by
 have b:fs.Nodup:=by
  have h:=F.un;clear F
  induction fs with
  |nil=>simp_all
  |cons t fs i=>have e:aO (t::fs)=[t.1,t.2]++aO _:=rfl;obtain⟨d,H,a⟩:=ZJ.mp h;refine Yb.mpr ⟨λz=>?_,i H⟩;exact a _ (by simp) t.1 (by exact List.mem_flatMap.mpr ⟨t,z,by simp⟩) rfl
 exact ZB (b.length_le_of_subset λt c=>F.sub t c) W.few
theorem Found.nodup{fs:Lq}(F:Found ts fs):fs.Nodup:=by
 have h:=F.un;clear F
 induction fs with
 |nil=>simp_all
 |cons t fs i=>have e:aO (t::fs)=[t.1,t.2]++aO _:=rfl;obtain⟨b,H,a⟩:=ZJ.mp h;refine Yb.mpr ⟨λz=>?_,i H⟩;exact a t.1 (by simp) _ (by exact List.mem_flatMap.mpr ⟨t,z,by simp⟩) rfl
theorem Found.pairing{fs:Lq}(F:Found ts fs):aV ts (sortI fs):=
 ⟨BN F.nodup,λt h=>F.sub t ((kP _).mem_iff.mp h),((kP _).flatMap_right _).nodup_iff.mpr F.un⟩
end K52
namespace Py
abbrev Ti:=Int×Int
noncomputable def gy(ts p:List Ti):Prop:=(∀t∈p,t∈ts)/\p.Pairwise (λs t=>s.1<t.1/\s.2≠t.1/\s.2≠t.2)
noncomputable def a8(p:List Ti)(x:Int):Bool:=p.all λs=>decide (x≠s.1)&&decide (x≠s.2)
theorem gz{p:List Ti}{x:Int}:a8 p x=true↔∀s∈p,x≠s.1/\x≠s.2:=by
 unfold a8
 grind
noncomputable def fU(ts:List Ti)(a:Int)(F:List (List Ti)):List (List Ti):=F++(ts.filter λt=>decide (t.1=a)).flatMap λt=>(F.filter λp=>a8 p t.2).map (t:: ·)
def DI(ts:List Ti)(a:Int)(F:List (List Ti)):Prop:=F.Nodup/\∀p,p∈F↔gy ts p/\∀t∈p,a<=t.1
theorem BV{ts p:List Ti}{t:Ti}:gy ts (t::p)↔t∈ts/\gy ts p/\∀s∈p,t.1<s.1/\t.2≠s.1/\t.2≠s.2:=by
 unfold gy;rw[ZH]
 grind
theorem BW{ts:List Ti}{a:Int}{F:List (List Ti)}(n:ts.Nodup)(h:DI ts (a+1) F):DI ts a (fU ts a F):=by
 obtain⟨m,g⟩:=h;unfold fU;refine⟨?_,λp=>?_⟩
 ·rw[ZJ];refine⟨m,?_,λp j q f z=>?_⟩
  ·unfold List.Nodup;rw[List.pairwise_flatMap];refine⟨λt b=>?_,?_⟩
   ·grind
   ·refine(List.Pairwise.filter _ n).imp λo x u y v z=>?_
    grind
  ·subst z;obtain⟨t,b,r⟩:=List.mem_flatMap.mp f
   grind
 ·rw[Zq,List.mem_flatMap];constructor
  ·rintro(j| ⟨t,b,j⟩)
   ·grind
   ·obtain⟨q,f,rfl⟩:=Zr.mp j;obtain⟨f,i⟩:=Zm.mp f;obtain⟨b,e⟩:=Zm.mp b;have e:t.1=a:=by simpa using e
    obtain⟨c,d⟩:=(g q).mp f;have i:=gz.mp i;refine⟨BV.mpr ⟨b,c,λs H=>⟨by have:=d s H;omega,i s H⟩⟩,λs H=>?_⟩
    grind
  ·rintro⟨c,d⟩;cases p with
   |nil=>exact .inl ((g []).mpr ⟨c,λt b=>by cases b⟩)
   |cons t q=>
    obtain⟨k,l,C⟩:=BV.mp c;have D:=d t Zd;by_cases e:t.1=a
    ·right;refine⟨t,Zm.mpr ⟨k,by simpa using e⟩,Zr.mpr ⟨q,Zm.mpr ⟨(g q).mpr ⟨l,λs H=>?_⟩,gz.mpr λs H=>(C s H).2⟩,rfl⟩⟩;have:=(C s H).1;omega
    grind
noncomputable def jc(ts:List Ti):Nat->List (List Ti)->List (List Ti)
 |0,F=>F
 |n+1,F=>jc ts n (fU ts n F)
theorem BX{ts:List Ti}(H:ts.Nodup):∀(n:Nat) (F:List (List Ti)),DI ts n F->DI ts 0 (jc ts n F)
 |0,F,h=>h
 |n+1,F,h=>BX H n _ (BW H h)
theorem BY{ts:List Ti}{m:Nat}(H:∀t∈ts,t.1<(m:Int)):DI ts m [[]]:=by
 refine⟨by simp,λp=>?_⟩;rw[ZM];constructor
 ·rintro rfl;exact⟨⟨λt h=>by simp_all,.nil⟩,λt h=>by cases h⟩
 ·rintro⟨c,d⟩;cases p with
  |nil=>rfl
  |cons t q=>have a:=d t Zd;have b:=H t (c.1 t Zd);omega
theorem BZ{ts p:List Ti}{t:Ti}:gy ts (p++[t])↔t∈ts/\gy ts p/\∀s∈p,s.1<t.1/\s.2≠t.1/\s.2≠t.2:=by
 unfold gy
 grind
end Py
namespace Pc
inductive b_ (R:Int->Int->Prop):Int->Int->Prop
 |refl (a:Int):b_ R a a
 |step {a b c:Int} (h:b_ R a b) (r:R b c):b_ R a c
theorem b_.trans{R:Int->Int->Prop}{a b c:Int}(h:b_ R a b)(k:b_ R b c):b_ R a c:=by
 induction k with
 |refl=>exact h
 |step _ r i=>exact i.step r
theorem b_.symm{R:Int->Int->Prop}(H:∀a b,R a b->R b a){a b:Int}(h:b_ R a b):b_ R b a:=by
 induction h with
 |refl=>exact .refl _
 |step _ r i=>exact(b_.step (.refl _) (H _ _ r)).trans i
noncomputable def cc(ts:Lq)(so:Li)(a b:Int):Prop:=((a,b)∈ts\/(b,a)∈ts)/\a∉so/\b∉so
theorem cc.symm(a b:Int)(h:cc ts so a b):cc ts so b a:=⟨h.1.symm,h.2.2,h.2.1⟩
def nm(ns:Li)(p:Int):Int:=ns.getD p.toNat 0
noncomputable def dY(so:Li)(ns:Li)(t:Int×Int):Li:=
 if t.1∉so/\t.2∉so then(ns.set t.1.toNat (min (nm ns t.1) (nm ns t.2))).set t.2.toNat (min (nm ns t.1) (nm ns t.2))else ns
def pass(so:Li)(ts:Lq)(ns:Li):Li:=ts.foldl (dY so) ns
theorem kQ{i p x:Int}(hi:0<=i)(h:i<ns.length)(H:0<=p):nm (ns.set i.toNat x) p=if p=i then x else nm ns p:=by
 unfold nm
 grind
theorem oW{t:Int×Int}:(dY so ns t).length=ns.length:=by unfold dY;split<;>simp
theorem B0:∀{ts:Lq},(pass so ts ns).length=ns.length:=by
 intro ts;unfold pass
 induction ts generalizing ns with
 |nil=>rfl
 |cons t ts i=>rw[List.foldl_cons,i,oW]
theorem oX{t:Int×Int}(h1:0<=t.1)(a:t.1<ns.length)(b:0<=t.2)(c:t.2<ns.length){p:Int}(H:0<=p):
  nm (dY so ns t) p=if(t.1∉so/\t.2∉so)/\(p=t.1\/p=t.2)then min (nm ns t.1) (nm ns t.2)else nm ns p:=by
 unfold dY;by_cases h:t.1∉so/\t.2∉so
 ·rw[if_pos h,kQ b (by simp_all) H,kQ h1 a H]
  grind
 lia
def dZ(m:Nat)(ts:Lq):Prop:=∀t∈ts,0<=t.1/\t.1<m/\0<=t.2/\t.2<m
theorem uL{m:Nat}{t:Int×Int}(a:ns.length=m)(h:0<=t.1/\t.1<m/\0<=t.2/\t.2<m){p:Int}(H:0<=p):nm (dY so ns t) p<=nm ns p:=by
 rw[oX h.1 (by omega) h.2.2.1 (by omega) H]
 grind
theorem kR{m:Nat}{so:Li}{p:Int}(a:0<=p):∀{ts:Lq} {ns:Li},dZ m ts->ns.length=m->nm (pass so ts ns) p<=nm ns p
 | [],ns,_,_=>by unfold pass;simp
 |t::ts,ns,h,H=>by have c:=uL (so:=so) H (h t Zd) a;have d:=kR (so:=so) a (ns:=dY so _ t) (λu b=>h u (Zc _ b)) (by rw[oW,H]);show nm (pass _ ts _) p<=_;omega
theorem uM{m:Nat}{so:Li}:∀{ts:Lq} {ns:Li},dZ m ts->ns.length=m->∀t∈ts,t.1∉so->t.2∉so->nm (pass so ts ns) t.1<=nm ns t.2/\nm (pass so ts ns) t.2<=nm ns t.1
 | [],ns,_,_,t,h,_,_=>by cases h
 |u::ts,ns,g,i,t,h,d,f=>by
  have c:=g u Zd;have a:=λv k=>g v (Zc _ k);have b:(dY so ns u).length=m:=by rw[oW,i]
  have H:=g t h;show nm (pass _ ts _) _<=_/\nm (pass _ ts _) _<=_;rcases Zn.mp h with e|e
  ·subst e;have A:=kR (so:=so) H.1 a b;have j:=kR (so:=so) H.2.2.1 a b;rw[oX c.1 (by omega) c.2.2.1 (by omega) H.1,if_pos ⟨⟨d,f⟩,.inl rfl⟩]at A;rw[oX c.1 (by omega) c.2.2.1 (by omega) H.2.2.1,if_pos ⟨⟨d,f⟩,.inr rfl⟩]at j;omega
  ·obtain⟨B,l⟩:=uM a b t e d f;have C:=uL (so:=so) i c H.1;have n:=uL (so:=so) i c H.2.2.1;omega
theorem KU{m:Nat}{TS:Lq}{t:Int×Int}(j:ns.length=m)(H:0<=t.1/\t.1<m/\0<=t.2/\t.2<m)(f:t∈TS)(h:∀p:Int,0<=p->p<m->b_ (cc TS so) p (nm ns p)):∀p:Int,0<=p->p<m->b_ (cc TS so) p (nm (dY so ns t) p):=by
 intro p P k;rw[oX H.1 (by omega) H.2.2.1 (by omega) P];split
 ·rename_i d;obtain⟨⟨b,c⟩,i⟩:=d;have a:cc _ _ _ _:=⟨.inl f,b,c⟩;have e:=h _ H.1 H.2.1;have E:=h _ H.2.2.1 H.2.2.2;have F:=(b_.step (.refl _) a).trans E;have g:=(b_.step (.refl _) a.symm).trans e
  grind
 simp_all
theorem B1{m:Nat}{TS:Lq}{so:Li}:∀{ts:Lq} {ns:Li},dZ m ts->ns.length=m->(∀t∈ts,t∈TS)->(∀p:Int,0<=p->p<m->b_ (cc TS so) p (nm ns p))->∀p:Int,0<=p->p<m->b_ (cc TS so) p (nm (pass so ts ns) p)
 | [],ns,_,_,_,h=>h
 |t::ts,ns,a,b,c,h=>by show ∀p:Int,0<=p->p<m->b_ _ p (nm (pass _ ts _) p);exact B1 (λu H=>a u (Zc _ H)) (by rw[oW,b]) (λu H=>c u (Zc _ H)) (KU b (a t Zd) (c t Zd) h)
noncomputable def bK(so:Li)(ts:Lq):Nat->Li->Li
 |0,ns=>ns
 |k+1,ns=>bK so ts k (pass so ts ns)
theorem uN:∀{k:Nat},bK so ts (k+1) ns=pass so ts (bK so ts k ns):=by
 intro k
 induction k generalizing ns with
 |zero=>rfl
 |succ k i=>exact i
theorem KW:∀{k:Nat},(bK so ts k ns).length=ns.length:=by
 intro k
 induction k generalizing ns with
 |zero=>rfl
 |succ k i=>show(bK _ _ k _).length=_;rw[i,B0]
theorem KY{m:Nat}(a:dZ m ts)(H:ns.length=m)(h:∀p:Int,0<=p->p<m->b_ (cc ts so) p (nm ns p)):∀{k:Nat} (p:Int),0<=p->p<m->b_ (cc ts so) p (nm (bK so ts k ns) p):=by
 intro k
 induction k generalizing ns with
 |zero=>exact h
 |succ k i=>exact i (by rw[B0,H]) (B1 a H (λt b=>b) h)
noncomputable def cnt(m:Nat)(f:Nat->Bool):Nat:=((List.range m).filter f).length
theorem uO{m:Nat}{f:Nat->Bool}:cnt m f<=m:=by exact ZB (ZE _ _) (by simp)
theorem B2{a:Type}{f g:a->Bool}:∀(l:List a),(∀x∈l,f x=true->g x=true)->(l.filter f).length<=(l.filter g).length
 | [],_=>Zg _
 |x::l,h=>by
  have i:=B2 l λy H=>h y (Zc _ H)
  grind
theorem B3{c:Type}{f g:c->Bool}:∀(l:List c),(∀x∈l,f x=true->g x=true)->(∃x∈l,f x=false/\g x=true)->(l.filter f).length<(l.filter g).length
 | [],_,h=>by simp_all
 |x::l,h,d=>by
  have I:=B2 l λy H=>h y (Zc _ H);obtain⟨y,H,a,b⟩:=d;rcases Zn.mp H with e|e
  ·subst e;simp[a,b];omega
  ·have i:=B3 l (λy H=>h y (Zc _ H)) ⟨y,e,a,b⟩
   grind
theorem KZ{m:Nat}(j:dZ m ts)(D:ns.length=m)(B:∀p:Int,0<=p->p<m->nm ns p=p){c:Int}(o:0<=c)(x:c<m)(M:∀q,b_ (cc ts so) c q->c<=q):
  ∀p,b_ (cc ts so) c p->nm (bK so ts m ns) p=c:=by
 have inR:∀{q:Int},b_ (cc ts so) c q->0<=q/\q<m:=by
  intro q h;cases h with
  |refl=>exact⟨o,x⟩
  |step _ r=>
   rcases r.1 with r|r
   ·have:=j _ r;dsimp only at this;omega
   ·have:=j _ r;dsimp only at this;omega
 have g:∀{k:Nat} (p:Int),0<=p->p<m->b_ (cc ts so) p (nm (bK so ts k ns) p):=KY j D λp Q R=>by rw[B p Q R];exact .refl _
 have l:∀{k:Nat} (p:Int),b_ (cc ts so) c p->c<=nm (bK so ts k ns) p:=λp d=>M _ (d.trans (g p (inR d).1 (inR d).2));have H:∀{k:Nat},(bK so ts k ns).length=m:=by intro k;rw[KW,D]
 let A:Nat->Nat->Bool:=λk i=>decide (nm (bK so ts k ns) i=c)
 have n:∀k,nm (bK so ts k ns) c=c:=by
  intro k
  induction k with
  |zero=>exact B c o x
  |succ k F=>have:=kR (so:=so) o j (H (k:=k));rw[<-uN]at this;have:=l (k:=k+1) c (.refl _);omega
 have b:∀(k:Nat) (p:Int),b_ (cc ts so) c p->nm (bK so ts k ns) p=c->nm (bK so ts (k+1) ns) p=c:=by intro k p d e;have K:=kR (so:=so) (inR d).1 j (H (k:=k));rw[<-uN]at K;have L:=l (k:=k+1) p d;omega
 have C:∀k,(∀p,b_ (cc ts so) c p->nm (bK so ts k ns) p=c)\/k+1<=cnt m (A k):=by
  intro k
  induction k with
  |zero=>right;unfold cnt;refine List.length_pos_iff.mpr λz=>?_;have:c.toNat∈(List.range m).filter (A 0):=Zm.mpr ⟨ZT.mpr (by omega),by show decide (nm (bK so ts 0 ns) (c.toNat:Int)=c)=true;rw[Int.toNat_of_nonneg o,n 0];simp⟩;rw[z]at this;cases this
  |succ k F=>
   by_cases w:∀p,b_ (cc ts so) c p->nm (bK so ts k ns) p=c
   ·left;intro p d;exact b k p d (w p d)
   ·right
    have P:k+1<=cnt m (A k):=by
     rcases F with z|z
     ·exact absurd z w
     ·exact z
    have E:∃q r,b_ (cc ts so) c q/\nm (bK so ts k ns) q=c/\cc ts so q r/\nm (bK so ts k ns) r≠c:=by
     refine Classical.byContradiction λu=>w λp d=>?_
     induction d with
     |refl=>exact n k
     |step v r I=>exact Classical.byContradiction λz=>u ⟨_,_,v,I,r,z⟩
    obtain⟨q,r,v,S,a,G⟩:=E;have s:b_ (cc ts so) c r:=v.step a
    have J:nm (bK so ts (k+1) ns) r=c:=by
     have L:=l (k:=k+1) r s
     have T:nm (bK so ts (k+1) ns) r<=nm (bK so ts k ns) q:=by
      rw[uN];rcases a.1 with z|z
      ·exact(uM j (H (k:=k)) _ z a.2.1 a.2.2).2
      ·exact(uM j (H (k:=k)) _ z a.2.2 a.2.1).1
     omega
    have lt:cnt m (A k)<cnt m (A (k+1)):=by
     refine B3 _ (λi N e=>?_) ⟨r.toNat,ZT.mpr (by have:=inR s;omega),?_,?_⟩
     ·have y:nm (bK so ts k ns) (i:Int)=c:=by simpa[A]using e
      have O:=ZT.mp N;have t:b_ (cc ts so) c i:=by have:=g (k:=k) (i:Int) (by omega) (by omega);rw[y]at this;exact this.symm cc.symm
      show decide (nm (bK so ts (k+1) ns) (i:Int)=c)=true;rw[b k i t y];simp
     ·show decide (nm (bK so ts k ns) (r.toNat:Int)=c)=false;rw[Int.toNat_of_nonneg (inR s).1];simpa using G
     ·show decide (nm (bK so ts (k+1) ns) (r.toNat:Int)=c)=true;rw[Int.toNat_of_nonneg (inR s).1,J];simp
    omega
 rcases C m with z|z
 ·exact z
 ·have:=uO (m:=m) (f:=A m);omega
noncomputable def fq(t:Int->Int->Bool)(left:Li):Nat->Li->Li->Li
 |0,r,_=>r
 |f+1,r,w=>match w.getLast? with
  |none=>r
  |some h=>fq t left f (r++left.filter λp=> !r.contains p&&t h p) (w.dropLast++left.filter λp=> !r.contains p&&t h p)
theorem K0{w:Li}{h p:Int}(e:w.getLast? =some h):p∈w↔p∈w.dropLast\/p=h:=by
 have H:w≠[]:=λz=>by simp_all
 have E:w.getLast H=h:=by grind
 rw[<-E]
 conv=>lhs;rw[<-List.dropLast_concat_getLast H]
 simp
theorem B4{R:Int->Int->Prop}{t:Int->Int->Bool}{left:Li}(s:left.Nodup)(l:∀a b,a∈left->(R a b↔b∈left/\t a b=true)){st:Int}:
  ∀(f:Nat) (r w:Li),r.Nodup->w.Nodup->(∀p∈r,p∈left/\b_ R st p)->(∀p∈w,p∈r)->(∀p∈r,p∉w->∀q,R p q->q∈r)->st∈r->w.length+left.length<f+r.length->
  (fq t left f r w).Nodup/\∀p,p∈fq t left f r w↔b_ R st p
 |0,r,w,n,_,c,_,_,_,x=>by have:r.length<=left.length:=n.length_le_of_subset λp H=>(c p H).1;omega
 |f+1,r,w,n,A,c,k,v,u,x=>by
  unfold fq;cases e:w.getLast? with
  |none=>
   have j:w=[]:=List.getLast?_eq_none_iff.mp e;subst j;refine⟨n,λp=>⟨λH=>(c p H).2,λH=>?_⟩⟩
   induction H with
   |refl=>exact u
   |step _ B I=>exact v _ I (by simp) _ B
  |some h=>
   have M:=λp=>K0 (p:=p) e;have o:h∈r:=k h ((M h).mpr (.inr rfl));have i:=(c h o).1;have j:w≠[]:=λz=>by rw[z]at e;cases e
   have y:0<w.length:=List.length_pos_iff.mpr j
   let F:=left.filter λp=> !r.contains p&&t h p
   have m:∀p,p∈F↔p∈left/\p∉r/\t h p=true:=λp=>by simp[F]
   have N:F.Nodup:=s.sublist Zz;refine B4 s l f (r++F) (w.dropLast++F) ?_ ?_ ?_ ?_ ?_ ?_ ?_
   ·exact ZJ.mpr ⟨n,N,λa d b g z=>by subst z;exact((m a).mp g).2.1 d⟩
   ·refine ZJ.mpr ⟨A.sublist (List.dropLast_sublist _),N,λa d b g z=>?_⟩;subst z;exact((m a).mp g).2.1 (k a ((M a).mpr (.inl d)))
   ·intro p H;rcases Zq.mp H with z|z
    ·exact c p z
    ·obtain⟨Z,D,C⟩:=(m p).mp z;exact⟨Z,(c h o).2.step ((l h p i).mpr ⟨Z,C⟩)⟩
   ·grind
   ·grind
   ·exact ZD _ u
   ·simp only[ZA,List.length_dropLast];omega
theorem oY{R:Int->Int->Prop}(c:left.Nodup)(H:∀a b,a∈left->(R a b↔b∈left/\tie a b=true)){st:Int}(hs:st∈left){f:Nat}(g:left.length<f):
  (fq tie left f [st] [st]).Nodup/\∀p,p∈fq tie left f [st] [st]↔b_ R st p:=
 B4 c H f _ _ (by simp) (by simp) (λp h=>have e:p=st:=(by simp_all);⟨e▸hs,e▸.refl _⟩) (λp h=>h) (λp h d=>absurd h d) (by simp) (by lia)
theorem kS:∀{l k:Li},l.Pairwise (· < ·)->k.Pairwise (· < ·)->(∀p,p∈l↔p∈k)->l=k
 | [],[],_,_,_=>rfl
 | [],y::k,_,_,h=>absurd ((h y).mpr Zd) (by simp)
 |x::l,[],_,_,h=>absurd ((h x).mp Zd) (by simp)
 |x::l,y::k,a,H,h=>by
  obtain⟨L,c⟩:=ZH.mp a;obtain⟨K,b⟩:=ZH.mp H
  have e:x=y:=by
   rcases Zn.mp ((h x).mp Zd)with z|z
   ·exact z
   ·rcases Zn.mp ((h y).mpr Zd)with w|w
    ·exact w.symm
    ·have:=K x z;have:=L y w;omega
  subst e;rw[kS c b λp=>⟨_,_⟩]
  ·grind
  grind
open K52
theorem B5{P:Int->Prop}(d:∀p,P p->0<=p):∀(n:Nat) (p:Int),P p->p.toNat<=n->∃c,P c/\c<=p/\∀q,P q->c<=q
 |0,p,H,f=>⟨p,H,by omega,λq a=>by have:=d q a;omega⟩
 |n+1,p,H,f=>by
  by_cases h:∀q,P q->p<=q
  ·exact⟨p,H,by omega,h⟩
  ·obtain⟨q,a⟩:=Classical.not_forall.mp h;obtain⟨b,g⟩:=Classical.not_imp.mp a;obtain⟨c,C,i,e⟩:=B5 d n q b (by omega);exact⟨c,C,by omega,e⟩
theorem gA:(bd lo n).Pairwise (· < ·):=by
 induction n generalizing lo with
 |zero=>exact .nil
 |succ n i=>exact ZH.mpr ⟨λx h=>by have:=gw h;omega,i⟩
theorem hJ{x:Int}:x∈bd lo n↔lo<=x/\x<lo+n:=by
 refine⟨gw,λh=>?_⟩
 induction n generalizing lo with
 |zero=>omega
 |succ n i=>
  unfold bd
  grind
theorem K1{m:Nat}{p:Int}(h:0<=p)(h1:p<m):nm (bd 0 m) p=p:=by
 have k:∀(n:Nat) (lo:Int) (i:Nat),i<n->(bd lo n)[i]?=some (lo+i):=by
  intro n
  induction n with
  |zero=>simp_all
  |succ n I=>
   unfold bd
   grind
 unfold nm
 grind
section
variable {m:Nat}
def aF(so:Li)(ts:Lq)(m:Nat):Li:=bK so ts m (bd 0 m)
theorem hL(H:dZ m ts){p:Int}(a:0<=p)(h1:p<m)(h:b_ (cc ts so) p q):0<=q/\q<m:=by
 cases h with
 |refl=>simp_all
 |step _ r=>
  rcases r.1 with r|r
  ·have:=H _ r;simp_all
  ·have:=H _ r;simp_all
theorem uP{p:Int}(H:p∉so)(h:b_ (cc ts so) p q):q∉so:=by
 cases h with
 |refl=>exact H
 |step _ r=>exact r.2.2
theorem hO(h:dZ m ts){p:Int}(a:0<=p)(h1:p<m):b_ (cc ts so) p (nm (aF so ts m) p)/\∀q,b_ (cc ts so) p q->nm (aF so ts m) p<=q:=by obtain⟨c,C,g,d⟩:=B5 (λq H=>(hL h a h1 H).1) _ p (.refl _) (Zg _);have b:=hL h a h1 C;have e:nm (aF so _ m) p=c:=KZ h ez (λq Q f=>K1 Q f) b.1 b.2 (λq H=>d q (C.trans H)) p (C.symm cc.symm);rw[e];lia
theorem oZ(H:dZ m ts){p:Int}(c:0<=p)(h1:p<m)(g:0<=q)(G:q<m):nm (aF so ts m) p=nm (aF so ts m) q↔b_ (cc ts so) p q:=by
 obtain⟨a,A⟩:=hO H c h1;obtain⟨b,B⟩:=hO H g G;refine⟨λe=>?_,λh=>?_⟩
 ·rw[e]at a;exact a.trans (b.symm cc.symm)
 ·have:=A _ (h.trans b);have:=B _ ((h.symm cc.symm).trans a);omega
theorem K2(H:dZ m ts){p:Int}(h:0<=p)(h1:p<m):nm (aF so ts m) (nm (aF so ts m) p)=nm (aF so ts m) p:=by obtain⟨a,A⟩:=hO H h h1;have b:=hL H h h1 a;exact((oZ H h h1 b.1 b.2).mpr a).symm
theorem kT(H:dZ m ts){p:Int}(h:0<=p)(h1:p<m):nm (aF so ts m) p<=p:=(hO H h h1).2 p (.refl _)
noncomputable def chain(so:Li)(ts:Lq)(m:Nat)(c:Int):Li:=(bd 0 m).filter λp=>decide (nm (aF so ts m) p=c)&& !so.contains p
theorem gB{c p:Int}:p∈chain so ts m c↔(0<=p/\p<m)/\nm (aF so ts m) p=c/\p∉so:=by unfold chain;rw[Zm,hJ];simp
theorem K3(H:dZ m ts){c:Int}(f:0<=c)(h1:c<m):chain so ts m c≠[]↔c∉so/\nm (aF so ts m) c=c:=by
 refine⟨λh=>?_,λ⟨g,i⟩ z=>?_⟩
 ·obtain⟨p,j⟩:=List.exists_mem_of_ne_nil _ h;obtain⟨⟨P,d⟩,e,k⟩:=gB.mp j;have a:=(hO (so:=so) H P d).1;have b:=K2 (so:=so) H P d;rw[e]at a b;exact⟨uP k a,b⟩
 ·have:=gB.mpr ⟨⟨f,h1⟩,i,g⟩;simp_all
theorem B6{c:Int}:(chain so ts m c).Pairwise (· < ·):=gA.sublist Zz
theorem B7(a:dZ m ts){c:Int}(H:0<=c)(h1:c<m)(hs:c∉so)(d:nm (aF so ts m) c=c)(f:l.Pairwise (· < ·))(g:∀p,p∈l↔b_ (cc ts so) c p):l=chain so ts m c:=by
 refine kS f B6 λp=>?_;rw[g,gB];refine⟨λh=>?_,λ⟨⟨P,i⟩,e,_⟩=>?_⟩
 ·have b:=hL a H h1 h;refine⟨b,?_,uP hs h⟩;rw[<-(oZ a H h1 b.1 b.2).mpr h,d]
 ·refine(oZ a H h1 P i).mp ?_;rw[e,d]
theorem K4(b:dZ m ts){p:Int}(H:0<=p)(h1:p<m)(hs:p∉so):(∃c,(0<=c/\c<p)/\p∈chain so ts m c)↔nm (aF so ts m) p≠p:=by
 refine⟨λ⟨c,_,d⟩=>?_,λh=>?_⟩
 ·obtain⟨_,e,_⟩:=gB.mp d;omega
 ·have:=kT (so:=so) b H h1;have a:=hL b H h1 (hO (so:=so) b H h1).1;exact⟨_,by omega,gB.mpr ⟨⟨H,h1⟩,rfl,hs⟩⟩
end
end Pc
namespace K52
theorem K5(c:Flat S)(a b:Int):ot [.int a,.int b] S=.ok (ar (min a b,max a b)) S:=by
 refine bJ rfl ?_ rfl c rfl;have h:my [.int a,.int b] S=.ok (.int (min a b)) S:=by simp[my,mj];lia
 have H:jK [.int a,.int b] S=.ok (.int (max a b)) S:=by simp[jK,ml];lia
 simp[AB,ah,aD,ak,am,Res.bind,Res.noErr,bj,h,H,ar]
noncomputable def aU(ts:Lq)(a b:Int):Bool:=decide ((min a b,max a b)∈ts)
theorem B8(h:Flat S)(m:Int)(ts:Lq)(a b:Int):gZ [ag m ts,.int a,.int b] S=.ok (.bl (aU ts a b)) S:=by refine bJ rfl ?_ rfl h rfl;have H:=K5 h a b;have c:bh (ag m ts) (.int 1) S=.ok _ S:=rfl;have d:=K52.BA S (min a b,max a b) ts;simp[AD,ah,aD,ak,am,Res.bind,Res.noErr,IH,H,c,a7,d,aR,aU]
noncomputable def fC(m:Int)(ts:Lq)(p:Int):Li:=(K52.bd 0 m.toNat).filter λq=>aU ts p q
theorem K6(h:Flat S)(f:so.length<=100)(h1:∀p∈so,0<=p/\p<m)(H:so.Pairwise (· < ·)):om [ag m ts,.tup (so.map D.int)] S=.ok (.bl true) S:=by
 refine bJ rfl ?_ rfl h rfl;have d:bh (ag m ts) (.int 0) S=.ok _ S:=rfl;have A:gp _ S=.ok _ S:=K52.BC h (by omega) h1
 have c:et [.tup (so.map D.int)] S=.ok _ S:=K52.uG h (by simp;omega) λi x y e E=>by
  rw[List.getElem?_map]at e E;cases f1:so[i]? with
  |none=>simp_all
  |some a=>
   cases f2:so[i+1]? with
   |none=>simp_all
   |some b=>rw[f1]at e;rw[f2]at E;cases e;cases E;obtain⟨g,rfl⟩:=Zp.mp f1;obtain⟨G,rfl⟩:=Zp.mp f2;show some _=some _;rw[ZR (Ya.mp H i _ _ _ (by omega))]
 simp[As,ah,aD,ak,am,Res.bind,Res.noErr,bi,Iv,Iw,d,A,c]
theorem K7(h:Flat S)(a:so.length<=100)(h1:∀p∈so,0<=p/\p<m)(H:so.Pairwise (· < ·)):oq [ag m ts,.tup (so.map D.int)] S=.ok .non S:=by refine run_next (ρ:=[some (ag m ts),some (.tup (so.map D.int))]) rfl ?_ rfl h;simp[Az,Ay,ah,aD,au,ak,am,Res.bind,ID,K6 h a h1 H,bU]
noncomputable def eM(x:Int):Li->Li
 | []=>[x]
 |y::ys=>if x<y then x::y::ys else y::eM x ys
def a9(l:Li):Li:=l.foldl (λacc x=>eM x acc) []
theorem B9(x:Int):∀l:Li,insB (bL .int) (.int x) (l.map D.int)=(eM x l).map D.int
 | []=>rfl
 |y::Y=>by
  have e:eM x (y::Y)=if x<y then x::y::Y else y::eM x _:=rfl;show(if decide _=true then D.int x::D.int y::Y.map _ else D.int y::insB _ _ _)=_;rw[B9 x _]
  grind
theorem B_:∀(l acc:Li),(l.map D.int).foldl (λacc x=>insB (bL .int) x acc) (acc.map D.int)=(l.foldl (λacc x=>eM x acc) acc).map D.int
 | [],acc=>rfl
 |x::l,acc=>by show(l.map _).foldl _ (insB _ _ _)=_;rw[B9,B_ l];rfl
theorem o4(x:Int):∀l,(eM x l).Perm (x::l)
 | []=>.refl _
 |y::Y=>by
  unfold eM;split
  ·exact .refl _
  ·exact((o4 x _).cons y).trans (.swap x y _)
theorem B':∀(l acc:Li),(l.foldl (λacc x=>eM x acc) acc).Perm (l++acc)
 | [],acc=>.refl _
 |x::l,acc=>(B' l _).trans (((o4 x _).append_left l).trans List.perm_middle)
theorem gC(l:Li):(a9 l).Perm l:=by have:=B' l [];rw[Yc]at this;exact this
theorem Ca(x:Int):∀l,l.Pairwise (· < ·)->x∉l->(eM x l).Pairwise (· < ·)
 | [],_,_=>List.pairwise_singleton _ _
 |y::Y,h,n=>by
  obtain⟨b,a⟩:=ZH.mp h;unfold eM;by_cases e:x<y
  ·rw[if_pos e];refine ZH.mpr ⟨λz H=>?_,h⟩
   grind
  ·rw[if_neg e];refine ZH.mpr ⟨λz H=>?_,Ca x _ a λz=>n (Zc _ z)⟩;rcases Zn.mp ((o4 x _).mem_iff.mp H)with rfl|H
   ·grind
   simp_all
theorem Cb:∀(l acc:Li),acc.Pairwise (· < ·)->(l++acc).Nodup->(l.foldl (λacc x=>eM x acc) acc).Pairwise (· < ·)
 | [],acc,h,_=>h
 |x::l,acc,h,n=>by have N:=n;obtain⟨a,b⟩:=Yb.mp N;refine Cb l _ (Ca x _ h λz=>a (Zu _ z)) ?_;exact(((o4 x _).append_left l).trans List.perm_middle).nodup_iff.mpr N
theorem o5(h:l.Nodup):(a9 l).Pairwise (· < ·):=Cb l _ .nil (by simp_all)
theorem uQ(h:av S d=some (l.map D.int))(a:l.length<64):fM false .int [d] S=.ok (.lst ((a9 l).map D.int)) S:=by
 have e:(l.map D.int).all (aw .int)=true:=by rw[ZG];intro x H;obtain⟨t,_,rfl⟩:=Zr.mp H;rfl
 unfold fM;simp only[h];rw[if_pos ⟨e,by simp;omega,rfl⟩,show eQ _ _=(a9 l).map _ from B_ l []];rfl
theorem Cc(W:bn m ts){p:Int}(r:0<=p/\p<m):fC m ts p=a9 ((ts.filter (K52.cw p)).map λt=>t.1+t.2-p):=by
 have d:ts.Nodup:=W.ris.imp λ{a b} h e=>by subst e;unfold aS at h;omega
 refine Pc.kS (Pc.gA.sublist Zz) (o5 ?_) λq=>?_
 ·have H:(ts.filter (K52.cw p)).Nodup:=d.sublist Zz;have c:(ts.filter (K52.cw p)).Pairwise λa b=>a.1+a.2-p≠b.1+b.2-p:=by refine List.Pairwise.imp_of_mem (λ{a b} j k f e=>f ?_) H;have A:=(Zm.mp j).2;have B:=(Zm.mp k).2;have l:=W.tie a (Zm.mp j).1;have n:=W.tie b (Zm.mp k).1;simp only[K52.cw,decide_eq_true_eq]at A B;exact Prod.ext (by omega) (by omega)
  exact Z3.mpr c
 ·rw[(gC _).mem_iff,Zr];unfold fC;rw[Zm,Pc.hJ];refine⟨λ⟨s,g⟩=>?_,λ⟨t,g,e⟩=>?_⟩
  ·have i:=by simpa[aU]using g
   refine⟨_,Zm.mpr ⟨i,?_⟩,?_⟩
   ·simp only[K52.cw,decide_eq_true_eq];omega
   lia
  ·obtain⟨H,c⟩:=Zm.mp g;have o:=W.tie t H;simp only[K52.cw,decide_eq_true_eq]at c;refine⟨by omega,?_⟩;have:(min p q,max p q)=t:=Prod.ext (by dsimp only;omega) (by dsimp only;omega);simp[aU,this,H]
theorem gD(h:av S d=some (l.map D.int))(q:Int):fw (.int q) d S=some (decide (q∈l)):=by
 unfold fw;simp only[h];rw[ZP];have e:(λy=>cF S bH y (.int q))∘D.int=λu=>some _:=rfl;rw[e,K52.oJ]
 grind
noncomputable def o6:List CS:=[.asg 5 (.meth .pop (.var 4) []),.asg 6 (.comp false ["place","reached","web","here"] [none,some 3,some 0,some 5] (.var 0) (.seq (.var 1)) [.band (.cmp .NotIn (.var 0) (.var 1)) (.call "have_tie" [.var 2,.var 3,.var 0])] (.emit (.var 0))),.expr (.meth .extend (.var 3) [.var 6]),.expr (.meth .extend (.var 4) [.var 6])]
theorem o7(s:Flat S){r w:Li}{h:Int}{st:D}(v:left.length<=100)(C:r.length<=1000)(x:w.length<=1000)(n:w.getLast? =some h):
  ah eV G0 o6 [some (ag m ts),some (.lst (left.map D.int)),some st,some (.ref S.length),some (.ref (S.length+1)),x5,x6] (S++[r.map D.int,w.map D.int])=
   .ok (.next [some (ag m ts),some (.lst (left.map D.int)),some st,some (.ref S.length),some (.ref (S.length+1)),some (.int h),some (.lst ((left.filter λp=> !r.contains p&&aU ts h p).map D.int))])
    (S++[(r++left.filter λp=> !r.contains p&&aU ts h p).map D.int,(w.dropLast++left.filter λp=> !r.contains p&&aU ts h p).map D.int]):=by
 have a:xA (.ref (S.length+1)) [] (S++[r.map D.int,w.map D.int])=.ok (.int h) (S++[r.map D.int,w.dropLast.map D.int]):=by
  show jG (.ref (S.length+1)) [] (S++[r.map D.int,w.map D.int])=_;unfold jG;simp only[uK];have e:(w.map D.int)[(w.map D.int).length-1]?=some (.int h):=by rw[List.getElem?_map,Zf];rw[List.getLast?_eq_getElem?]at n;rw[n];rfl
  rw[e];simp only[BR,List.map_dropLast]
 unfold o6;rw[aJ (d:=.int h) (S':=S++[r.map D.int,w.dropLast.map D.int]) (by simp[ak,am,Res.bind,Res.noErr,cJ,a])];simp only[ZV,ZU];have q:Flat (S++[r.map D.int,w.dropLast.map D.int]):=BS s (K52.eX _) (K52.eX _)
 have H:ak eV G0 (.comp false ["place","reached","web","here"] [none,some 3,some 0,some 5] (.var 0) (.seq (.var 1)) [.band (.cmp .NotIn (.var 0) (.var 1)) (.call "have_tie" [.var 2,.var 3,.var 0])] (.emit (.var 0))) [some (ag m ts),some (.lst (left.map D.int)),some st,some (.ref S.length),some (.ref (S.length+1)),some (.int h),x6] (S++[r.map D.int,w.dropLast.map D.int])=
   .ok (.lst ((left.filter λp=> !r.contains p&&aU ts h p).map D.int)) (S++[r.map D.int,w.dropLast.map D.int]):=by
  refine cY (its:=.items (left.map D.int)) (S1:=S++[r.map D.int,w.dropLast.map D.int]) (by simp[aL,ak,Res.bind,cB]) ?_;refine ew (f:=D.int) (e:=D.int) (p:=λp=> !r.contains p&&aU ts h p) (λp B A t=>?_) (by unfold bu;omega);have g:A.length<16777216:=t;have b:=B8 q m ts h p
  have c:fw (.int p) (.ref S.length) (S++[r.map D.int,w.dropLast.map D.int])=some (r.contains p):=by rw[gD (l:=r) (by show(S++[r.map D.int,w.dropLast.map D.int])[S.length]?=_;exact uJ)];simp
  generalize S++[r.map D.int,w.dropLast.map D.int]=T at b c;cases E:r.contains p<;>cases o:aU ts h p<;>rw[E]at c<;>rw[o]at b<;>simp[aI,cj,slots,fL,aE,cH,ax,au,aP,ak,am,Res.bind,Res.noErr,bi,a7,c,aR,II,b,bU,g]
 rw[aJ H];simp only[ZV,ZU];generalize i:(left.filter λp=> !r.contains p&&aU ts h p)=F;have u:F.length<=100:=by rw[<-i];exact ZB (ZE _ _) v
 have X:f9 (.ref S.length) [.lst (F.map D.int)] (S++[r.map D.int,w.dropLast.map D.int])=.ok .non (S++[(r++F).map D.int,w.dropLast.map D.int]):=by unfold f9;simp only[uJ,Py.eH,Zf];rw[if_pos (by unfold bu;omega),KQ,List.map_append]
 have y:f9 (.ref (S.length+1)) [.lst (F.map D.int)] (S++[(r++F).map D.int,w.dropLast.map D.int])=.ok .non (S++[(r++F).map D.int,(w.dropLast++F).map D.int]):=by unfold f9;simp only[uK,Py.eH,Zf,List.length_dropLast];rw[if_pos (by unfold bu;omega),BR,<-List.map_append]
 rw[bc (ρ':=[some (ag m ts),some (.lst (left.map D.int)),some st,some (.ref S.length),some (.ref (S.length+1)),some (.int h),some (.lst (F.map D.int))]) (S':=S++[(r++F).map D.int,w.dropLast.map D.int]) (by simp only[aD,ak,am,Res.bind,Res.noErr,cJ,Zk,Zh,X])];rw[bc (ρ':=[some (ag m ts),some (.lst (left.map D.int)),some st,some (.ref S.length),some (.ref (S.length+1)),some (.int h),some (.lst (F.map D.int))]) (S':=S++[(r++F).map D.int,(w.dropLast++F).map D.int]) (by simp only[aD,ak,am,Res.bind,Res.noErr,cJ,Zk,Zh,y])];rw[ah]
theorem Cd{S:aa}(j:Flat S){m:Int}{ts:Lq}{left:Li}{st:D}(k:left.length<=100)(l:left.Nodup):∀(f:Nat) (r w:Li) (x5 x6:Option D),r.Nodup->(∀p∈r,p∈left)->w.Nodup->(∀p∈w,p∈r)->w.length+left.length<f+r.length->
  ∃y Y,fN (au eV G0 (.var 4)) (ah eV G0 o6) f [some (ag m ts),some (.lst (left.map D.int)),some st,some (.ref S.length),some (.ref (S.length+1)),x5,x6] (S++[r.map D.int,w.map D.int])=
   .ok (.next [some (ag m ts),some (.lst (left.map D.int)),some st,some (.ref S.length),some (.ref (S.length+1)),y,Y]) (S++[(Pc.fq (aU ts) left f r w).map D.int,[]])
 |0,r,w,x5,x6,n,s,_,_,x=>by have:r.length<=left.length:=n.length_le_of_subset s;omega
 |f+1,r,w,x5,x6,n,s,N,i,x=>by
  have B:r.length<=left.length:=n.length_le_of_subset s;have C:w.length<=r.length:=N.length_le_of_subset i
  have u:au eV G0 (.var 4) [some (ag m ts),some (.lst (left.map D.int)),some st,some (.ref S.length),some (.ref (S.length+1)),x5,x6] (S++[r.map D.int,w.map D.int])=.ok (!w.isEmpty) (S++[r.map D.int,w.map D.int]):=by
   have e:bU (S++[r.map D.int,w.map D.int]) (.ref (S.length+1))=some (!w.isEmpty):=by show((S++[r.map D.int,w.map D.int])[S.length+1]?).map (λX=> !X.isEmpty)=_;rw[uK];cases w<;>rfl
   simp only[au,Zk,Zh,e]
  unfold fN;rw[u];cases e:w.getLast? with
  |none=>have H:w=[]:=List.getLast?_eq_none_iff.mp e;subst H;refine⟨x5,x6,?_⟩;unfold Pc.fq;rfl
  |some h=>
   have H:w≠[]:=λz=>by rw[z]at e;cases e
   have v:(!w.isEmpty)=true:=by cases w with
    |nil=>exact absurd rfl H
    |cons a b=>rfl
   have A:=o7 (m:=m) (ts:=ts) (x5:=x5) (x6:=x6) (st:=st) (left:=left) (r:=r) (w:=w) j k (by omega) (by omega) e;have M:∀p,p∈(left.filter λp=> !r.contains p&&aU ts h p)↔p∈left/\p∉r/\aU ts h p=true:=λp=>by simp
   have q:(left.filter λp=> !r.contains p&&aU ts h p).Nodup:=l.sublist Zz;have o:0<w.length:=List.length_pos_iff.mpr H
   obtain⟨y,Y,E⟩:=Cd (m:=m) (ts:=ts) (st:=st) j k l f (r++left.filter λp=> !r.contains p&&aU ts h p) (w.dropLast++left.filter λp=> !r.contains p&&aU ts h p) (some (.int h)) (some (.lst ((left.filter λp=> !r.contains p&&aU ts h p).map D.int)))
    (ZJ.mpr ⟨n,q,λa c b d z=>by subst z;exact((M a).mp d).2.1 c⟩)
    (λp g=>by
     rcases Zq.mp g with z|z
     ·exact s p z
     ·exact((M p).mp z).1)
    (ZJ.mpr ⟨N.sublist (List.dropLast_sublist _),q,λa c b d z=>by subst z;exact((M a).mp d).2.1 (i a ((List.dropLast_sublist _).subset c))⟩)
    (λp g=>by
     rcases Zq.mp g with z|z
     ·exact ZD _ (i p ((List.dropLast_sublist _).subset z))
     ·exact Zu _ z)
    (by simp only[ZA,List.length_dropLast];omega)
   refine⟨y,Y,?_⟩;rw[v];show(Res.bind (ah eV G0 o6 [some (ag m ts),some (.lst (left.map D.int)),some st,some (.ref S.length),some (.ref (S.length+1)),x5,x6] (S++[r.map D.int,w.map D.int])) _)=_;rw[A]
   have t:Pc.fq (aU ts) left (f+1) r w=Pc.fq (aU ts) left f (r++left.filter λp=> !r.contains p&&aU ts h p) (w.dropLast++left.filter λp=> !r.contains p&&aU ts h p):=by
    show(match w.getLast? with
     |none=>r
     |some h=>Pc.fq (aU ts) left f (r++left.filter λp=> !r.contains p&&aU ts h p) (w.dropLast++left.filter λp=> !r.contains p&&aU ts h p))=_
    rw[e]
   rw[t];exact E
theorem K8(H:Flat S){p:Int}(n:left.length<=60)(g:left.Nodup)(i:p∈left)(c:(Pc.fq (aU ts) left 100 [p] [p]).length<64):kt [ag m ts,.lst (left.map D.int),.int p] S=.ok (.tup ((a9 (Pc.fq (aU ts) left 100 [p] [p])).map D.int)) S:=by
 obtain⟨y,Y,e⟩:=Cd (m:=m) (ts:=ts) (st:=.int p) H (show left.length<=100 by omega) g 100 [p] [p] none none (by simp) (λq h=>(show q=p by simpa using h)▸i) (by simp) (λq h=>h) (by simp;omega)
 have f:ah eV G0 kr [some (ag m ts),some (.lst (left.map D.int)),some (.int p),none,none,none,none] S=.ok (.ret (.tup ((a9 (Pc.fq (aU ts) left 100 [p] [p])).map D.int))) (S++[(Pc.fq (aU ts) left 100 [p] [p]).map D.int,[]]):=by
  unfold kr;rw[aJ (d:=.ref S.length) (S':=S++[[.int p]]) (by simp[ak,am,Res.bind])];rw[aJ (d:=.ref (S.length+1)) (S':=S++[[.int p],[.int p]]) (by simp[ak,am,Res.bind])];simp only[ZV,ZU];refine(bc (ρ':=[some (ag m ts),some (.lst (left.map D.int)),some (.int p),some (.ref S.length),some (.ref (S.length+1)),y,Y]) (S':=S++[(Pc.fq (aU ts) left 100 [p] [p]).map D.int,[]]) ?_).trans ?_
  ·rw[aD];exact e
  ·refine cv (gx (du (du (ai rfl) (uQ (l:=Pc.fq (aU ts) left 100 [p] [p]) ?_ c)) rfl));exact uJ
 show az eV G0 kr ug.length 3 [ag m ts,.lst (left.map D.int),.int p] S=_;unfold az;rw[if_pos (show [ag m ts,D.lst (left.map D.int),D.int p].length=3 from rfl)];rw[show ah eV G0 kr ([ag m ts,D.lst (left.map D.int),D.int p].map some++List.replicate (ug.length-3) none) S=_ from f];have b:(S++[(Pc.fq (aU ts) left 100 [p] [p]).map D.int,[]]).take S.length=S:=by simp
 have:=K52.g_ (k:=S.length) (d:=.tup ((a9 (Pc.fq (aU ts) left 100 [p] [p])).map D.int)) (S':=S++[(Pc.fq (aU ts) left 100 [p] [p]).map D.int,[]]) (by rw[b];exact H) (K52.eX _);rw[b]at this;exact this
open Pc
theorem K9{a:Type}{f:a->D}{g:a->Bool}{step:D->List D->aa->Res (List D)}{cs:List a}(b:S[k]?=some (cs.map f))(e:cs.length<=1000)(hs:∀c∈cs,∀acc,acc.length<bu->step (f c) acc S=.ok (acc++[.bl (g c)]) S):
  bz step (bN k) ((cs.map f).length+1) 0 [] S=.ok (cs.map λc=>D.bl (g c)) S:=by
 rcases K52.BU b (step:=step) (λx h acc H=>by obtain⟨c,d,rfl⟩:=Zr.mp h;simp_all) ((cs.map f).length+1) 0 _ (by omega) (by omega)with z|z
 ·refine Eq.trans z ?_;refine Eq.trans (ew (p:=λ_=>true) (λx h acc H=>Eq.trans (hs x h _ H) rfl) (by lia)) ?_;rw[List.filter_eq_self.mpr λ_ _=>rfl]
 ·unfold bu at z;simp at z;omega
theorem uR{a:Type}{cs:List a}{g:a->Bool}:f8 [.lst (cs.map λo=>D.bl (g o))] S=.ok (.bl (cs.any g)) S:=by unfold f8;simp only[av];rw[ZP];rw[show e_ (cs.map (e8∘λo=>D.bl _))=some _ from K52.oJ];rfl
noncomputable def aq(so:Li)(m:Nat):Li:=(bd 0 m).filter λp=> !so.contains p
noncomputable def own(so:Li)(ts:Lq)(m:Nat)(c:Int):Bool:=decide (nm (aF so ts m) c=c)
noncomputable def D_(so:Li)(ts:Lq)(m:Nat)(c:Int):D:=.tup ((chain so ts m c).map D.int)
noncomputable def eE(so:Li)(ts:Lq)(m:Nat)(l:Li):List D:=(l.filter (own so ts m)).map (D_ so ts m)
theorem Ce(so:Li)(ts:Lq)(m:Nat)(l:Li):bb 0 (eE so ts m l)=true:=by
 unfold eE
 induction l.filter _ with
 |nil=>rfl
 |cons c C i=>show(bE 0 _&&bb 0 _)=true;rw[i,Bool.and_true];exact K52.eX _
theorem jd(W:bn m ts):dZ m.toNat ts:=λt h=>by have:=W.tie t h;lia
theorem dd{m:Nat}{p:Int}:p∈aq so m↔(0<=p/\p<m)/\p∉so:=by unfold aq;rw[Zm,hJ];simp
theorem Cf(W:bn m ts)(a b:Int)(H:a∈aq so m.toNat):cc ts so a b↔b∈aq so m.toNat/\aU ts a b=true:=by
 unfold cc aU;rw[dd]at H⊢;refine⟨λ⟨h,_,_⟩=>?_,λ⟨⟨_,c⟩,h⟩=>⟨?_,H.2,c⟩⟩
 ·rcases h with h|h
  ·have t:=W.tie _ h
   grind
  ·have t:=W.tie _ h
   grind
 grind
theorem K_(W:bn m ts){p:Int}(c:p∈aq so m.toNat)(l:own so ts m.toNat p=true)(i:Flat S):kt [ag m ts,.lst ((aq so m.toNat).map D.int),.int p] S=.ok (D_ so ts m.toNat p) S:=by
 have g:(aq so m.toNat).Nodup:=K52.BQ.sublist Zz;have k:(aq so m.toNat).length<=8:=by have:=ZE (λp=> !so.contains p) (bd 0 m.toNat);rw[K52.ez]at this;have:=W.hi;unfold aq;omega
 obtain⟨B,d⟩:=oY g (λa b j=>Cf W a b j) c (f:=100) (by omega);have h:=dd.mp c
 have H:(fq _ _ _ _ _).length<=(bd 0 m.toNat).length:=B.length_le_of_subset λq n=>by rw[hJ];have:=hL (jd W) h.1.1 h.1.2 ((d q).mp n);omega
 rw[K52.ez]at H;have o:=W.hi;rw[K8 i (by omega) g c (by omega)];have e:=B7 (jd W) h.1.1 h.1.2 h.2 (by simpa[own]using l) (o5 B) λq=>by rw[(gC _).mem_iff];exact d q
 rw[e];rfl
theorem ca{A:List D}:(S++[A])[S.length]?=some A:=by rw[ZS (Zg _)];simp
theorem Cg{A B:List D}:(S++[A]).set S.length B=S++[B]:=by simp_all
theorem o8{A:List D}(b:ds.length=np)(h:ah Φ Γ body (ds.map some++List.replicate (n-np) none) S=.ok (.ret (.ref S.length)) (S++[A]))(a:Flat S)(H:bb 0 A=true):az Φ Γ body n np ds S=.ok (.ref S.length) (S++[A]):=by unfold az;rw[if_pos b,h];show cC _ _ _=_;unfold cC;rw[Z9 rfl,if_pos a.all,if_neg (by unfold bE;simp)];simp only[ca];rw[if_pos ⟨K52.gv A H,Zg _⟩]
noncomputable def iu:CE:=.comp false ["piece","place"] [none,some 4] (.var 0) (.seq (.var 3)) [] (.emit (.cmp .In (.var 1) (.var 0)))
noncomputable def uS:List CS:=[.ite (.bnot (.blt .any [iu])) [.expr (.meth .append (.var 3) [.call "piece_of" [.var 0,.var 2,.var 4]])] []]
theorem uT{m:Int}{d0 d1 d2:D}{p:Int}(g:l.length<=100):ak fk G0 iu [some d0,some d1,some d2,some (.ref S.length),some (.int p)] (S++[eE so ts k l])=
  .ok (.lst ((l.filter (own so ts k)).map λc=>D.bl (decide (p∈chain so ts k c)))) (S++[eE so ts k l]):=by
 refine cY (its:=.live ((eE so ts k l).length+1) (bN S.length)) (S1:=S++[eE so ts k l]) ?_ ?_
 ·simp only[aL,ak,Res.bind,Zk,Zh,cB,ca];rfl
 ·have e:=ZE (own so ts k) l;simp[bM];unfold eE;refine K9 ca (by omega) λc f a b=>?_;generalize S++[(l.filter _).map _]=T;have h:=b;have H:fw _ (D_ so ts k c) T=some _:=gD rfl p;simp[aI,cj,slots,aE,ax,aP,ak,Res.bind,Res.noErr,a7,H,aR,h]
theorem Ci{S:aa}(A:Flat S){m:Int}{ts:Lq}(W:bn m ts){so:Li}{d1:D}:∀(rest done:Li),aq so m.toNat=done++rest->∀x4:Option D,∃y,
  b3 (λx ρ S=>match aE (.var 4) x ρ with
   |some ρ'=>ah fk G0 uS ρ' S
   |none=>.fail) (rest.map D.int) [some (ag m ts),some d1,some (.lst ((aq so m.toNat).map D.int)),some (.ref S.length),x4] (S++[eE so ts m.toNat done])=
  .ok (.next [some (ag m ts),some d1,some (.lst ((aq so m.toNat).map D.int)),some (.ref S.length),y]) (S++[eE so ts m.toNat (done++rest)])
 | [],done,_,x4=>⟨x4,by rw[Yc];rfl⟩
 |p::rest,done,b,x4=>by
  have h:(aq so m.toNat).Pairwise (· < ·):=gA.sublist Zz;have i:p∈aq so m.toNat:=by rw[b];simp
  obtain⟨⟨P,M⟩,N⟩:=dd.mp i;have B:=jd W
  have F:(aq so m.toNat).length<=8:=by have:=ZE (λp=> !so.contains p) (bd 0 m.toNat);rw[K52.ez]at this;have:=W.hi;unfold aq;omega
  have s:done.length<=100:=by have:=congrArg List.length b;simp at this;omega
  have f:((done.filter (own so ts m.toNat)).any λc=>decide (p∈chain so ts m.toNat c))= !own so ts m.toNat p:=by
   rw[Bool.eq_iff_iff];rw[List.any_eq_true];have K:=K4 (so:=so) B P M N;have I:(!own so ts m.toNat p)=true↔nm (aF so ts m.toNat) p≠p:=by simp[own]
   rw[I,<-K];refine⟨λ⟨c,q,j⟩=>?_,λ⟨c,⟨C,O⟩,j⟩=>?_⟩
   ·obtain⟨g,L⟩:=Zm.mp q;have H:c∈aq so m.toNat:=by rw[b];exact ZD _ g
    refine⟨c,⟨(dd.mp H).1.1,?_⟩,by simpa using j⟩;rw[b]at h;exact(ZI.mp h).2.2 c g p Zd
   ·have t:chain so ts m.toNat c≠[]:=λz=>by rw[z]at j;cases j
    obtain⟨G,cn⟩:=(K3 B C (by omega)).mp t;have H:c∈aq so m.toNat:=dd.mpr ⟨⟨C,by omega⟩,G⟩;rw[b]at H h
    have r:c∈done:=by
     rcases Zq.mp H with z|z
     ·exact z
     ·rcases Zn.mp z with z|z
      ·omega
      ·have:=(ZH.mp (ZI.mp h).2.1).1 c z;omega
    exact⟨c,Zm.mpr ⟨r,by simp[own,cn]⟩,by simpa using j⟩
  have J:Flat (S++[eE so ts m.toNat done]):=A.snoc (Ce _ _ _ _);have n:=uT (S:=S) (m:=m) (ts:=ts) (so:=so) (l:=done) (k:=m.toNat) (d0:=ag m ts) (d1:=d1) (d2:=.lst ((aq so m.toNat).map D.int)) (p:=p) s
  have q:au fk G0 (.bnot (.blt .any [iu])) [some (ag m ts),some d1,some (.lst ((aq so m.toNat).map D.int)),some (.ref S.length),some (.int p)] (S++[eE so ts m.toNat done])=.ok (own so ts m.toNat p) (S++[eE so ts m.toNat done]):=by
   have d:bj .any [.lst ((done.filter (own so ts m.toNat)).map λc=>D.bl (decide (p∈chain so ts m.toNat c)))] (S++[eE so ts m.toNat done])=.ok (.bl (!own so ts m.toNat p)) (S++[eE so ts m.toNat done]):=by rw[<-f];exact uR
   revert n;generalize iu=E;intro n;simp[au,am,n,Res.bind,Res.noErr,d,bU]
  have a:ah fk G0 uS [some (ag m ts),some d1,some (.lst ((aq so m.toNat).map D.int)),some (.ref S.length),some (.int p)] (S++[eE so ts m.toNat done])=.ok (.next [some (ag m ts),some d1,some (.lst ((aq so m.toNat).map D.int)),some (.ref S.length),some (.int p)]) (S++[eE so ts m.toNat (done++[p])]):=by
   unfold uS;refine(bc ?_).trans rfl;rw[hE q];cases u:own so ts m.toNat p with
   |true=>
    rw[if_pos rfl];have v:=K_ W i u J
    have o:fc (.ref S.length) [D_ so ts m.toNat p] (S++[eE so ts m.toNat done])=.ok .non (S++[eE so ts m.toNat (done++[p])]):=by have T:=ZE (own so ts m.toNat) done;unfold fc;simp only[ca];rw[if_pos (by unfold bu eE;simp;omega),Cg];unfold eE;simp[List.filter_append,u]
    simp[ah,aD,ak,am,Res.bind,Res.noErr,cJ,IL,v,o]
   |false=>
    rw[if_neg Bool.false_ne_true];have e:eE so ts m.toNat (done++[p])=eE so ts m.toNat done:=by unfold eE;simp[List.filter_append,u]
    rw[e,ah]
  obtain⟨y,w⟩:=Ci A W (d1:=d1) rest (done++[p]) (by rw[b];simp) (some (.int p));refine⟨y,?_⟩;simp only[ZX];unfold b3;simp only[aE,cH,ZV,ZU];rw[a];rw[Z7]at w;exact w
theorem K'(H:Flat S)(W:bn m ts)(o:so.length<=100)(h1:∀p∈so,0<=p/\p<m)(k:so.Pairwise (· < ·)):
  ou [ag m ts,.tup (so.map D.int)] S=.ok (.ref S.length) (S++[eE so ts m.toNat (aq so m.toNat)]):=by
 refine o8 rfl ?_ H (Ce _ _ _ _);have i:fj [ag m ts] S=.ok .non S:=K52.uH H W;have j:=K7 (ts:=ts) H o h1 k;have w:=W.lo;have t:=W.hi;unfold AG;refine(bc (ρ':=[some (ag m ts),some (.tup (so.map D.int)),none,none,none]) (S':=S) (by simp[AF,aD,ak,am,Res.bind,IJ,i])).trans ?_;refine(bc (ρ':=[some (ag m ts),some (.tup (so.map D.int)),none,none,none]) (S':=S) (by simp[aD,ak,am,Res.bind,IK,j])).trans ?_;have n:bh (ag m ts) (.int 0) S=.ok (.int m) S:=rfl
 have q:aL fk G0 (.range [.idx (.var 0) (.lit (.int 0))]) [some (ag m ts),some (.tup (so.map D.int)),none,none,none] S=.ok (.items ((bd 0 m.toNat).map D.int)) S:=by simp[aL,am,ak,Res.bind,Res.noErr,n,K52.i_];omega
 have h:ak fk G0 (.comp false ["place","some"] [none,some 1] (.var 0) (.range [.idx (.var 0) (.lit (.int 0))]) [.cmp .NotIn (.var 0) (.var 1)] (.emit (.var 0))) [some (ag m ts),some (.tup (so.map D.int)),none,none,none] S=.ok (.lst ((aq so m.toNat).map D.int)) S:=by refine cY q ?_;refine ew (f:=D.int) (e:=D.int) (p:=λp=> !so.contains p) (λp s A l=>?_) (by rw[K52.ez];unfold bu;omega);have c:A.length<16777216:=l;have g:fw (.int p) (.tup (so.map D.int)) S=some (decide (p∈so)):=gD rfl p;by_cases e:p∈so<;>simp[aI,cj,slots,fL,aE,cH,ax,au,aP,ak,Res.bind,Res.noErr,bi,a7,g,aR,e,c]
 rw[aJ h];rw[aJ (d:=.ref S.length) (S':=S++[[]]) (by simp[ak,am,Res.bind])];simp only[ZV,ZU];obtain⟨y,e⟩:=Ci H W (so:=so) (d1:=.tup (so.map D.int)) (aq so m.toNat) [] rfl none;refine(bc (ρ':=[some (ag m ts),some (.tup (so.map D.int)),some (.lst ((aq so m.toNat).map D.int)),some (.ref S.length),y]) (S':=S++[eE so ts m.toNat (aq so m.toNat)]) ?_).trans rfl;exact e
def Cj(l:Li):D:=.tup (l.map D.int)
theorem o9{step:D->bD->aa->Res Fl}(J:bD->aa->Prop):∀(xs:List D),(∀x∈xs,∀ρ S,J ρ S->∃ρ' S',J ρ' S'/\step x ρ S=.ok (.next ρ') S')->∀ρ S,J ρ S->∃ρ' S',J ρ' S'/\b3 step xs ρ S=.ok (.next ρ') S'
 | [],_,ρ,S,j=>⟨_,S,j,rfl⟩
 |x::xs,h,ρ,S,j=>by obtain⟨c,f,a,e⟩:=h x Zd _ S j;obtain⟨d,g,b,E⟩:=o9 J _ (λy H=>h y (Zc _ H)) _ _ a;refine⟨_,_,b,?_⟩;unfold b3;rw[e];exact E
theorem o_(so:Li)(ts:Lq)(m:Nat)(l:Li):eE so ts m l=((l.filter (own so ts m)).map (chain so ts m)).map Cj:=by rw[ZP];rfl
theorem Ck{A:List D}(h:A.length<bu):fc (.ref T.length) [d] (T++[A])=.ok .non (T++[A++[d]]):=by unfold fc;simp only[ca];rw[if_pos h,Cg]
end K52
namespace K52
def pD(p:List Ti):D:=.tup (ae p)
theorem Cm(x:Int):∀p:List Ti,(ay p x).isNone=a8 p x
 | []=>rfl
 |t::p=>by
  have i:=Cm x p;unfold ay a8;unfold a8 at i
  grind
noncomputable def pc:CE:=.comp false ["tie","pairing","found"] [none,none,some 1] (.var 0) (.seq (.var 3)) [] (.inner (.var 1) (.seq (.var 2)) [.cmp .Is (.call "mate_of" [.var 1,.idx (.var 0) (.lit (.int 1))]) (.lit (.non))] (.emit (.bin .Add (.tup [.var 0]) (.var 1))))
noncomputable def uU:CE:=.comp false ["tie","place"] [none,some 2] (.var 0) (.seq (.idx (.var 0) (.lit (.int 1)))) [.cmp .Eq (.idx (.var 0) (.lit (.int 0))) (.var 1)] (.emit (.var 0))
def uV:List CS:=[.asg 3 uU,.asg 1 (.bin .Add (.var 1) pc)]
theorem Cn{a:Int}{ts:List Ti}{x1:Option D}(g:ts.length<=28):ak gq G0 uU [some (ag m ts),x1,some (.int a),x3] S=.ok (.lst (ae (ts.filter λt=>decide (t.1=a)))) S:=by
 have c:bh (ag m ts) (.int 1) S=.ok _ S:=rfl;simp[uU,ak,aL,Res.bind,Res.noErr,cB,bM,c];unfold ae;rw[ew]
 ·intro t i A f;have h:=f;have d:bh (ar t) (.int 0) S=.ok _ S:=rfl;have b:a7 .Eq (.int t.1) (.int a) S=.ok (.bl (decide _)) S:=rfl;have H:aI (.var 0) (ar t) [none,some (.int a)]=some _:=rfl;cases e:decide (t.1=a)<;>rw[e]at b<;>simp[H,ax,au,aP,ak,Res.bind,d,b,Res.noErr,bi,h]
 lia
theorem hU:∀F:List (List Ti),bb 0 (F.map pD)=true
 | []=>rfl
 |p::F=>by rw[ZX];unfold bb;rw[hU F,Bool.and_true];exact K52.i9 p
theorem Co(q:Flat S){a:Int}{ts:List Ti}{F:List (List Ti)}{T:List Ti}(r:T.length<=28)(o:F.length<=65536)(n:∀p∈F,p.length<=1000):ak gq G0 pc [some (ag m ts),some (.lst (F.map pD)),some (.int a),some (.lst (ae T))] S=.ok (.lst ((T.flatMap λt=>(F.filter λp=>a8 p t.2).map (t:: ·)).map pD)) S:=by
 simp[pc,ak,aL,am,ax,Res.bind,Res.noErr,cB,bM];unfold ae;rw[oS (f:=ar) (c:=F.length) (g:=λt=>(F.filter λp=>a8 p t.2).map λp=>pD (t::p))]
 ·simp[List.map_flatMap,Function.comp_def]
 ·intro t;simp only[Zf];exact ZE _ _
 ·intro t v A h;have b:aI (.var 0) (ar t) [none,none,some (.lst (F.map pD))]=some [some (ar t),none,some (.lst (F.map pD))]:=rfl;simp[b,aP,aL,ak,Res.bind,cB,bM];rw[kO (f:=pD) (p:=λp=>a8 p t.2) (e:=λp=>pD (t::p))]
  ·intro p s A h;have H:A.length<16777216:=h;have d:aI (.var 1) (pD p) [some (ar t),none,some (.lst (F.map pD))]=some [some (ar t),some (pD p),some (.lst (F.map pD))]:=rfl;have j:bh (ar t) (.int 1) S=.ok (.int t.2) S:=rfl;have k:fm [pD p,.int t.2] S=.ok (bV (ay p t.2)) S:=K52.uI q p t.2
   have i:a7 .Is (bV (ay p t.2)) .non S=.ok (.bl (a8 p t.2)) S:=by rw[<-Cm];cases ay p t.2<;>rfl
   have l:dy .Add (.tup [ar t]) (pD p) S=.ok (pD (t::p)) S:=by
    have u:=n p s;have:(ae p).length=p.length:=by unfold ae;simp
    have E:dy .Add (.tup [ar t]) (.tup (ae p)) S=if [ar t].length+(ae p).length<=bu then .ok (.tup ([ar t]++ae p)) S else .fail:=by simp only[dy,iD]
    unfold pD;rw[E,if_pos (by rw[this];unfold bu;simp;omega)];rfl
   cases e:a8 p t.2<;>rw[e]at i<;>simp[d,ax,au,aP,ak,am,Res.bind,j,k,i,l,IY,Res.noErr,bi,H]
  ·exact h
 ·have:F.length*T.length<=65536*28:=Nat.mul_le_mul o r;unfold bu;simp;omega
theorem uW{hi:Int}:∀(l:Li) (lo:Int),l.Pairwise (· < ·)->(∀x∈l,lo<=x/\x<hi)->l.length<=(hi-lo).toNat
 | [],_,_,_=>Yj _
 |x::l,lo,H,h=>by rw[ZH]at H;have b:=h x Zd;have:=uW l (x+1) H.2 λy a=>⟨by have:=H.1 y a;omega,(h y (Zc _ a)).2⟩;rw[ZO];omega
theorem uX{ts:List Ti}(W:bn m ts)(a:Int)(d:a<8):(ts.filter λt=>decide (t.1=a)).length<=(7-a).toNat:=by
 have w:=W.hi
 have:=uW (hi:=8) ((ts.filter λt=>decide (t.1=a)).map (·.2)) (a+1) (by
  rw[Z3];refine List.Pairwise.imp_of_mem (λ{s t} g H h=>?_) (List.Pairwise.filter _ W.ris);have E:s.1=a:=by simp_all
  have c:t.1=a:=by simp_all
  rcases h with h|h
  ·omega
  ·exact h.2) λx b=>by
  obtain⟨t,H,rfl⟩:=Zr.mp b;obtain⟨H,e⟩:=Zm.mp H;have e:=by simpa using e
  have:=W.tie t H;omega
 rw[Zf]at this;omega
theorem Cp{a b:Type}{f:a->List b}{c:Nat}(h:∀x,(f x).length<=c):∀l:List a,(l.flatMap f).length<=l.length*c
 | []=>by simp
 |x::l=>by have:=Cp h l;have:=h x;rw[List.flatMap_cons,ZA,ZO,Nat.add_mul];omega
theorem uY{ts:List Ti}(W:bn m ts)(a:Int)(h:a<8)(F:List (List Ti)):(fU ts a F).length<=F.length*((7-a).toNat+1):=by unfold fU;rw[ZA];have H:=Cp (f:=λt=>(F.filter λp=>a8 p t.2).map (t:: ·)) (λt=>by rw[Zf];exact ZE _ _) (ts.filter λt=>decide (t.1=a));have b:=Nat.mul_le_mul_right F.length (uX W a h);lia
def hV:Nat->Nat
 |0=>1
 |n+1=>hV n*(n+1)
theorem Cq(h:n<=8):hV n<=40320:=by
 have:∀n<9,hV n<=40320:=by decide+kernel
 exact this n (by omega)
theorem Cr{ts:List Ti}(W:bn m ts):ts.Nodup:=W.ris.imp λh z=>by subst z;rcases h with h|h<;>omega
theorem pd{ts p:List Ti}(W:bn m ts)(c:gy ts p):p.length<=8:=by
 have w:=W.hi;have:=uW (hi:=8) _ 0 (by rw[Z3];exact c.2.imp λh=>h.1) λx a=>by obtain⟨t,H,rfl⟩:=Zr.mp a;have:=W.tie t (c.1 t H);omega
 simp_all
theorem pf(i:Flat S){ts:List Ti}(W:bn m ts)(l:n<8){F:List (List Ti)}(g:F.length<=40320)(f:∀p∈F,p.length<=1000):
  ah gq G0 uV [some (ag m ts),some (.lst (F.map pD)),some (.int (n:Nat)),x3] S=.ok (.next [some (ag m ts),some (.lst ((fU ts n F).map pD)),some (.int (n:Nat)),some (.lst (ae (ts.filter λt=>decide (t.1=(n:Int)))))]) S:=by
 have b:=W.few;have j:(ts.filter λt=>decide (t.1=(n:Int))).length<=28:=ZB (ZE _ _) b;have c:=Co i (m:=m) (a:=n) (ts:=ts) j (by omega) f;have H:=uY W n (by omega) F;have k:F.length*(7-(n:Int).toNat+1)<=40320*8:=Nat.mul_le_mul g (by omega);unfold uV;rw[aJ (Cn b)];simp
 have d:ak gq G0 (.bin .Add (.var 1) pc) [some (ag m ts),some (.lst (F.map pD)),some (.int (n)),some (.lst (ae (ts.filter λt=>decide (t.1=(n)))))] S=.ok (.lst ((fU ts n F).map pD)) S:=by
  simp[ak,Zk,Zh,Res.bind,c];have e:∀A B,A.length+B.length<=bu->(dy .Add (.lst A) (.lst B) S).noErr=.ok (.lst (A++B)) S:=λA B h=>by simp[dy,iD,Py.eH,h,Res.noErr]
  rw[e _ _ (by unfold fU at H;grind),<-List.map_append];rfl
 rw[aJ d];rfl
theorem Cs{S:aa}(H:Flat S){m:Int}{ts:List Ti}(W:bn m ts):∀(n:Nat) (F:List (List Ti)) (x2 x3:Option D),n<=8->DI ts n F->F.length<=hV (8-n)->∃y Y,
  b3 (λx ρ S=>match aE (.var 2) x ρ with
   |some ρ'=>ah gq G0 uV ρ' S
   |none=>.fail) (cU n) [some (ag m ts),some (.lst (F.map pD)),x2,x3] S=.ok (.next [some (ag m ts),some (.lst ((jc ts n F).map pD)),y,Y]) S
 |0,F,x2,x3,_,_,_=>⟨_,_,rfl⟩
 |n+1,F,x2,x3,c,hd,h=>by
  have a:=ZB h (Cq (by omega))
  obtain⟨y,Y,i⟩:=Cs H W n _ _ _ (by omega) (BW (Cr W) hd) (by
   refine ZB (uY W n (by omega) F) ?_;have e:8-n=8-(n+1)+1:=by omega
   have E:(7-(n:Int)).toNat=8-(n+1):=by omega
   rw[e,E];exact Nat.mul_le_mul_right _ h)
  refine⟨y,Y,?_⟩;unfold cU b3;simp[aE,ZV];rw[pf H W (by omega) a λp b=>by have:=pd W ((hd.2 p).mp b).1;omega];exact i
noncomputable def cy(F:List (List Ti)):List D:=eQ (bL (.seq (.seq .int))) (F.map pD)
theorem kU(p:List Ti):aw (.seq (.seq .int)) (pD p)=true:=by show(ae p).all _=true;rw[ZG];intro x h;obtain⟨t,_,rfl⟩:=Zr.mp h;rfl
theorem pg:∀{l:List D},bb 0 l=true↔∀x∈l,bE 0 x=true
 | []=>by simp[bb]
 |x::l=>by unfold bb;rw[ZW,pg];simp
theorem Ct(F:List (List Ti)):bb 0 (cy F)=true:=pg.mpr λx h=>pg.mp (hU F) x ((iU _ _).mem_iff.mp h)
theorem Cu{ts:List Ti}:∀(n:Nat) (F:List (List Ti)),F.head? =some []->(jc ts n F).head? =some []
 |0,F,h=>h
 |n+1,F,h=>Cu n _ (by unfold fU;simp_all)
theorem Cv{m:Int}{ts:List Ti}(W:bn m ts):∀(n:Nat) (F:List (List Ti)),n<=8->F.length<=hV (8-n)->(jc ts n F).length<=40320
 |0,F,_,h=>ZB h (Cq (by omega))
 |n+1,F,H,h=>Cv W n _ (by omega) (by
   refine ZB (uY W n (by omega) F) ?_;have e:8-n=8-(n+1)+1:=by omega
   have E:(7-(n:Int)).toNat=8-(n+1):=by omega
   rw[e,E];exact Nat.mul_le_mul_right _ h)
noncomputable def gE(m:Int)(ts:List Ti):List (List Ti):=jc ts m.toNat [[]]
theorem uZ{ts:List Ti}(W:bn m ts):(gE m ts).length<=40320:=by
 have:=W.hi
 exact Cv W _ _ (by omega) (by
  have:∀n<9,1<=hV n:=by decide+kernel
  exact this _ (by omega))
theorem ph{ts:List Ti}(W:bn m ts):DI ts 0 (gE m ts):=BX (Cr W) _ _ (BY λt h=>by have:=W.tie t h;lia)
theorem Cw{F:List (List Ti)}(c:F.length<65536)(h:F.head? =some []\/∀p∈F,p≠[])(box:Bool)(b:av S d=some (F.map pD)):fM box (.seq (.seq .int)) [d] S=if box=true then .ok (.ref S.length) (S++[cy F])else .ok (.lst (cy F)) S:=by
 have e:(F.map pD).all (aw (.seq (.seq .int)))=true:=by rw[ZG];intro x H;obtain⟨p,_,rfl⟩:=Zr.mp H;exact kU p
 have E:=by
  show(true&&((F.map pD).all λd=> !dM d)||dM ((F.map pD).headD .non))=true;rcases h with h|h
  ·cases F with
   |nil=>cases h
   |cons a F=>cases h;rfl
  ·have:((F.map pD).all λd=> !dM d)=true:=by
    rw[ZG];intro x H;obtain⟨p,f,rfl⟩:=Zr.mp H;cases p with
    |nil=>lia
    |cons _ _=>rfl
   rw[this];rfl
 unfold fM;simp only[b];rw[if_pos ⟨e,by simp_all,E⟩];rfl
theorem Lb(h:Flat S){ts:List Ti}(W:bn m ts):iZ [ag m ts] S=.ok (.ref S.length) (S++[cy (gE m ts)]):=by
 refine o8 rfl ?_ h (Ct _);have w:=W.lo;have l:=W.hi;have e:fj _ S=.ok .non S:=K52.uH h W
 obtain⟨y,Y,b⟩:=Cs h W m.toNat [[]] none none (by omega) (BY λt g=>by have:=W.tie t g;omega) (by
  have:∀n<9,1<=hV n:=by decide+kernel
  exact this _ (by omega))
 show ah _ G0 _ [some _,none,none,none] S=_;unfold AQ;rw[bc (ρ':=[some (ag m ts),none,none,none]) (S':=S) (by simp[aD,ak,am,Res.bind,IX,e])];rw[aJ (rfl)];have c:bh (ag m ts) (.int 0) S=.ok _ S:=rfl
 rw[bc (ρ':=[some _,some (.lst ((gE m ts).map pD)),y,Y]) (by
  rw[eY (its:=.items (cU m.toNat)) (S1:=S) (by
   have f: -4611686018427387904<=m/\m<4611686018427387904:=by omega
   simp[aL,am,ak,Res.bind,c,Res.noErr,f])]
  exact b)]
 refine cv ?_;have H:=Cw (S:=S) (F:=gE m ts) (by have:=uZ W;omega) (.inl (Cu _ _ rfl)) true (d:=.lst _) rfl;rw[if_pos rfl]at H;simp only[aD,ak,am,Zk,Zh,Res.bind,bj,H,Res.noErr]
theorem Cy{p:Lq}(W:bn m ts)(h:gy ts p):aV ts p:=by
 obtain⟨c,d⟩:=h;refine⟨d.imp λ{a b} q=>.inl q.1,c,?_⟩;have H:=λt e=>(W.tie t (c t e)).2.1;clear c
 induction p with
 |nil=>exact .nil
 |cons t p i=>
  rw[ZH]at d;have e:=H t (by simp);refine ZJ.mpr ⟨by simp;omega,i d.2 λs f=>H s (by simp_all),?_⟩
  grind
end K52
namespace Py
def pi(s t:Ti):Prop:=s.1<t.1\/(s.1=t.1/\s.2<t.2)
noncomputable def gF(t:Ti)(F:List (List Ti)):List (List Ti):=F++(F.filter λp=>a8 p t.1&&a8 p t.2).map (· ++[t])
def vM(us:List Ti)(F:List (List Ti)):Prop:=F.Nodup/\∀p,p∈F↔gy us p
theorem Cz{us:List Ti}{t:Ti}{p:List Ti}(h:gy us p):gy (us++[t]) p:=⟨λs H=>Zq.mpr (.inl (h.1 s H)),h.2⟩
theorem kW{us:List Ti}{t:Ti}{F:List (List Ti)}(v:t.1<t.2)(i:∀s∈us,pi s t)(h:vM us F):vM (us++[t]) (gF t F):=by
 obtain⟨l,a⟩:=h
 have N:t∉us:=λz=>by
  rcases i t z with q|q
  ·omega
  ·omega
 have u:∀{p},gy us p->t∉p:=λc z=>N (c.1 t z);unfold gF;refine⟨?_,λp=>?_⟩
 ·rw[ZJ];refine⟨l,?_,λp b q d z=>?_⟩
  ·unfold List.Nodup;rw[Z3];exact(List.Pairwise.filter _ l).imp λg z=>g (List.append_inj_left' z rfl)
  grind
 ·rw[Zq];constructor
  ·rintro(b|b)
   ·exact Cz ((a p).mp b)
   ·obtain⟨q,d,rfl⟩:=Zr.mp b;obtain⟨d,f⟩:=Zm.mp d;rw[ZW]at f;have j:=gz.mp f.1;have o:=gz.mp f.2;have c:=(a q).mp d;refine BZ.mpr ⟨by simp,Cz c,λs H=>⟨?_,λz=>(j s H).2 z.symm,λz=>(o s H).2 z.symm⟩⟩;have:=(j s H).1;rcases i s (c.1 s H)with q|q
    ·exact q
    ·omega
  ·intro c
   have back:∀{q:List Ti},gy (us++[t]) q->t∉q->gy us q:=λ{q} c z=>⟨λs H=>by
    rcases Zq.mp (c.1 s H)with k|k
    ·exact k
    ·rw[ZM.mp k]at H;exact absurd H z,c.2⟩
   rcases List.eq_nil_or_concat p with rfl| ⟨q,s,e⟩
   ·exact .inl ((a []).mpr ⟨λs H=>(by cases H),.nil⟩)
   ·rw[List.concat_eq_append]at e;subst e;obtain⟨r,m,C⟩:=BZ.mp c;by_cases e:s=t
    ·subst e;right;have n:=back m λz=>by have:=(C s z).1;omega
     refine Zr.mpr ⟨q,Zm.mpr ⟨(a q).mpr n,?_⟩,rfl⟩;rw[ZW,gz,gz]
     grind
    ·left;refine(a _).mpr (back c λz=>?_);have H:s∈us:=by simp_all
     rcases Zq.mp z with z|z
     ·have:=(C t z).1;rcases i s H with q|q<;>omega
     ·exact e (ZM.mp z).symm
noncomputable def gG:List Ti->List (List Ti)->List (List Ti)
 | [],F=>F
 |t::ts,F=>gG ts (gF t F)
theorem CA:∀(ts us:List Ti) (F:List (List Ti)),(∀t∈ts,t.1<t.2)->ts.Pairwise pi->(∀s∈us,∀t∈ts,pi s t)->vM us F->vM (us++ts) (gG ts F)
 | [],us,F,_,_,_,h=>by rw[Yc];exact h
 |t::ts,us,F,a,b,c,h=>by
  obtain⟨P,p⟩:=ZH.mp b
  have:=CA _ _ _ (λs H=>a s (Zc _ H)) p λs H r d=>by
   grind (kW (a t Zd) (λs H=>c s H t Zd) h)
  rw[Z7]at this;exact this
theorem CB:vM [] [[]]:=⟨by simp,λp=>by
 rw[ZM];constructor
 ·rintro rfl;exact⟨λt h=>by lia,.nil⟩
 ·intro c;cases p with
  |nil=>rfl
  |cons t q=>have:=c.1 t Zd;cases this⟩
theorem CC:∀(ts:List Ti) (F:List (List Ti)),F.head? =some []->(gG ts F).head? =some []
 | [],F,h=>h
 |t::ts,F,h=>by refine CC ts _ ?_;unfold gF;simp_all
theorem Lc(t:Ti)(F:List (List Ti)):F.length<=(gF t F).length:=by unfold gF;simp_all
theorem CD:∀(ts:List Ti) (F:List (List Ti)),F.length<=(gG ts F).length
 | [],F=>Zg _
 |t::ts,F=>ZB (Lc t F) (CD _ _)
end Py
namespace K52
section
variable {T A:List (List D)}{a u b:Int}{ts c:List Ti}
end
theorem Ld{F G:List (List Ti)}(h:F.Perm G):cy F=cy G:=by
 refine zE rfl (λx H=>?_) ((iU _ _).trans (h.map _)) (zD (fA _ rfl) _ λx H=>?_)
 ·obtain⟨p,_,rfl⟩:=Zr.mp H;exact kU p
 ·obtain⟨p,_,rfl⟩:=Zr.mp H;exact kU p
theorem pj{a:Type} [DecidableEq a]:∀{l L:List a},l.Nodup->L.Nodup->(∀x,x∈l↔x∈L)->l.Perm L
 | [],L,_,_,h=>by
  grind
 |x::l,L,H,b,h=>by
  grind
theorem Le(F:List (List Ti)):(cy F).length=F.length:=by unfold cy;rw[(iU _ _).length_eq,Zf]
section
variable {u a r:Int}{ts:List Ti}
end
section
variable {u:Int}{ts:List Ti}
end
theorem Lf:iZ=K52.iZ:=rfl
theorem CF:∀{p q:List Ti},ae p=ae q->p=q
 | [],[],_=>rfl
 | [],_::_,h=>by cases h
 |_::_,[],h=>by cases h
 |s::p,t::q,h=>by
  injection h with H a
  rw[CF a];unfold ar at H
  grind
theorem u2{p q:List Ti}(h:pD p=pD q):p=q:=by
 injection h with h
 exact CF h
theorem kX:∀l:List D,(∀x∈l,∃p:List Ti,x=pD p)->∃G:List (List Ti),l=G.map pD
 | [],_=>⟨[],rfl⟩
 |x::l,h=>by obtain⟨p,rfl⟩:=h x Zd;obtain⟨G,rfl⟩:=kX l λy H=>h y (Zc _ H);exact⟨p::G,rfl⟩
theorem CG(F:List (List Ti)):∃G:List (List Ti),cy F=G.map pD/\G.length=F.length/\∀p,p∈G↔p∈F:=by
 have b:(cy F).Perm _:=iU _ _
 obtain⟨G,e⟩:=kX (cy F) λx d=>by
  grind
 have H:=Le F;rw[e]at b;rw[e,Zf]at H;refine⟨G,e,H,λp=>?_⟩;have:=b.mem_iff (a:=pD p);simp at this;constructor
 ·intro h;obtain⟨q,c,z⟩:=this.mp ⟨p,h,rfl⟩
  rwa [<-u2 z]
 ·intro h;obtain⟨q,c,z⟩:=this.mpr ⟨p,h,rfl⟩
  rwa [<-u2 z]
theorem u3{a:Type}{f e:a->D}{p:a->Bool}{step:D->List D->aa->Res (List D)}{xs:List a}(b:S[k]?=some (xs.map f))(hs:∀x∈xs,∀acc,acc.length<bu->step (f x) acc S=.ok (if p x=true then acc++[e x]else acc) S):∀n i acc,i+n=xs.length->acc.length+n<=bu->bz step (bN k) (n+1) i acc S=.ok (acc++((xs.drop i).filter p).map e) S:=by
 have H:∀i,bN k S i=some (xs.map f)[i]? :=λi=>by unfold bN;rw[b];rfl
 intro n
 induction n with
 |zero=>unfold bz;simp_all
 |succ n I=>
  intro i acc h d;have c:(xs.map f)[i]?=some (f xs[i]):=by grind
  unfold bz;rw[H,c,List.drop_eq_getElem_cons (by omega)];dsimp;rw[hs _ (List.getElem_mem _) acc (by omega)];refine(I _ _ (by omega) (by grind)).trans ?_
  grind
theorem CH{k:Int}:∀(ns:Li) (n:Int),(∀x∈n::ns,x<=k)->k∈n::ns->ns.foldl max n=k
 | [],n,_,h=>by simp_all
 |x::ns,n,H,a=>by
  have b:=H x (by simp);refine CH ns _ (λy c=>?_) ?_
  ·grind
  grind
theorem CI:∀ns:Li,eB (ns.map D.int)=some ns
 | []=>rfl
 |n::ns=>by rw[ZX];unfold eB;rw[CI _];rfl
structure fv (m:Int)(ts:List Ti)(G:List (List Ti))(k:Nat):Prop where
 is:cy (gE m ts)=G.map pD
 few:G.length<=40320
 le:∀p∈G,p.length<=k
 at_:∃p∈G,p.length=k
theorem Lg:ku=[.asg 1 (.call "all_pairings" [.var 0]),.asg 2 (.blt .max [IZ]),.ret DX]:=rfl
noncomputable def aA(G:List (List Ti))(k:Nat):List (List Ti):=G.filter λp=>decide (p.length=k)
theorem u4(p:List Ti):fJ [pD p] S=.ok (.int (p.length:Nat)) S:=by
 have:(ae p).length=p.length:=by unfold ae;simp_all
 show Res.ok _ S=_;rw[this]
theorem CJ{p:List Ti}{a:List D}(d:a.length<bu):(match aI (.var 0) (pD p) [none,some (.int (k:Int))]with
    |some ρ'=>(ax Φ Γ [.cmp .Eq (.blt .len [.var 0]) (.var 1)] ρ' S).bind λk S3=>if k=true then aP Φ Γ (.emit (.var 0)) ρ' a S3 else .ok a S3
    |none=>.fail)=.ok (if decide (p.length=k)=true then a++[pD p]else a) S:=by
 have h:=d;have c:=u4 (S:=S) p
 have b:a7 .Eq (.int (p.length)) (.int k) S=.ok (.bl (decide (p.length=k))) S:=by have:a7 .Eq (.int (p.length)) (.int k) S=.ok _ S:=rfl;rw[this];congr 2;lia
 have H:aI (.var 0) (pD p) [none,some (.int k)]=some _:=rfl;rw[H];cases e:decide (p.length=k)<;>rw[e]at b<;>simp[ax,au,aP,ak,am,Res.bind,bj,c,b,Res.noErr,bi,h]
theorem CK{ts:List Ti}{G:List (List Ti)}(M:fv m ts G k):bj .max [.lst (G.map λp=>D.int ((p.length:Nat):Int))] S=.ok (.int (k:Int)) S:=by
 obtain⟨P,H,b⟩:=M.at_;have c:=M.le;have e:(G.map λp=>D.int (p.length))=(G.map λp=>(p.length)).map D.int:=by simp_all
 have h:(k:Int)∈G.map λp=>(p.length):=Zr.mpr ⟨_,H,by lia⟩
 have a:∀x∈G.map λp=>(p.length:Int),x<=k:=λx g=>by
  grind
 rw[e];generalize G.map _=N at h a;cases N with
 |nil=>cases h
 |cons n N=>
  have d:=CH _ n a h;have f:=CI (n::N)
  show(match eB _ with
   |some (n::N)=>Res.ok _ S
   |_=>.fail)=_
  simp_all
theorem Lh(H:Flat S){ts:List Ti}(W:bn m ts){G:List (List Ti)}(M:fv m ts G k):i0 [ag m ts] S=.ok (.ref S.length) (S++[(aA G k).map pD]):=by
 have E:=K52.Lb H W;rw[<-Lf,M.is]at E;have o:=M.few;have z:Flat (S++[G.map pD]):=H.snoc (hU G)
 have s:ak eL G0 IZ [some (ag m ts),some (.ref S.length),none] (S++[G.map pD])=.ok (.lst (G.map λp=>D.int ((p.length:Nat):Int))) (S++[G.map pD]):=by
  refine cY (its:=.live ((G.map pD).length+1) (bN S.length)) (S1:=S++[G.map pD]) (by simp only[aL,ak,Zk,Zh,Res.bind,cB,ca,Option.getD_some]) ?_
  have:=u3 (xs:=G) (f:=pD) (p:=λ_=>true) (e:=λp=>D.int ((p.length:Nat):Int)) (S:=S++[G.map pD]) (k:=S.length) (step:=λx a g=>match aI (.var 0) x [none]with
    |some b=>(ax eL G0 [] b g).bind λk c=>if k=true then aP eL G0 (.emit (.blt .len [.var 0])) b a c else .ok a c
    |none=>.fail) ca (λp F a i=>by have j:a.length<16777216:=i;have v:=u4 (S:=S++[G.map pD]) p;have l:aI (.var 0) (pD p) [none]=some [some (pD p)]:=rfl;rw[l];simp[ax,aP,ak,am,Res.bind,bj,v,Res.noErr,j]) G.length 0 [] (by simp) (by show 0+G.length<=16777216;omega)
  rw[List.nil_append,List.drop_zero,List.filter_eq_self.mpr (λ_ _=>rfl)]at this;rw[Zf];exact this
 have t:=CK (S:=S++[G.map pD]) M
 have u:ak eL G0 DX [some (ag m ts),some (.ref S.length),some (.int (k:Int))] (S++[G.map pD])=.ok (.ref (S.length+1)) (S++[G.map pD]++[(aA G k).map pD]):=by
  have w:aL eL G0 (.seq (.var 1)) [some (ag m ts),some (.ref S.length),some (.int (k:Int))] (S++[G.map pD])=.ok (.live ((G.map pD).length+1) (bN S.length)) (S++[G.map pD]):=by simp only[aL,ak,Zk,Zh,Res.bind,cB,ca,Option.getD_some]
  have:=u3 (xs:=G) (f:=pD) (p:=λp=>decide (p.length=k)) (e:=pD) (S:=S++[G.map pD]) (k:=S.length) (step:=λx a g=>match aI (.var 0) x [none,some (.int (k:Int))]with
    |some b=>(ax eL G0 [.cmp .Eq (.blt .len [.var 0]) (.var 1)] b g).bind λk c=>if k=true then aP eL G0 (.emit (.var 0)) b a c else .ok a c
    |none=>.fail) ca (λp F a i=>CJ i) G.length 0 [] (by simp) (by show 0+G.length<=16777216;omega)
  rw[List.nil_append,List.drop_zero]at this;unfold DX;rw[ak,w,Zf];refine Eq.trans (congrArg (λr=>Res.bind (Res.noErr r) (λy h=>if true=true then Res.ok (D.ref h.length) (h++[y])else Res.ok (.lst y) h)) this) ?_;simp[Res.bind,Res.noErr,aA]
 have A:ah eL G0 ku [some (ag m ts),none,none] S=.ok (.ret (.ref (S.length+1))) (S++[G.map pD]++[(aA G k).map pD]):=by rw[Lg];rw[aJ (d:=.ref S.length) (S':=S++[G.map pD]) (by simp only[ak,am,Res.bind,Zh,I0,E])];simp only[ZV,ZU];rw[aJ (d:=.int (k:Int)) (S':=S++[G.map pD]) (by rw[ak,am,s];simp only[am,Res.bind,t,Res.noErr])];simp only[ZV,ZU];refine cv ?_;rw[aD,u];rfl
 show az eL G0 ku uh.length 1 [ag m ts] S=_;have n:ah eL G0 ku (([ag m ts]:List D).map some++List.replicate (uh.length-1) none) S=_:=A;unfold az;rw[if_pos (show [ag m ts].length=1 from rfl),n];show cC S.length (.ref (S.length+1)) (S++[G.map pD]++[(aA G k).map pD])=_;have I:(S++[G.map pD]++[(aA G k).map pD]).take S.length=S:=by rw[Z7,Z9 rfl]
 have B:(S++[G.map pD]++[(aA G k).map pD])[S.length+1]?=some ((aA G k).map pD):=by rw[ZS (by simp)];simp
 have C:bb S.length ((aA G k).map pD)=true:=K52.gv _ (hU _);unfold cC;rw[I,if_pos H.all,if_neg (by unfold bE;simp)];simp only[B];rw[if_pos ⟨C,by omega⟩]
theorem CL{a:Type}{l:List a}{f:a->Bool}:e_ (l.map λx=>some (f x))=some (l.any f):=by unfold e_;rw[ZP];have:bv (l.map ((λo=>o.map not)∘λx=>some (f x)))=some _:=K52.allO_map;rw[this];simp[List.all_eq_not_any_not]
theorem po(x:Int)(s:Ti):a7 .In (.int x) (ar s) S=.ok (.bl (!(decide (x≠s.1)&&decide (x≠s.2)))) S:=by
 show Res.ok _ S=_
 grind
theorem Lj:kB=[.ret (.bnot (.blt .any [AW]))]:=rfl
noncomputable def cE(t s:Ti):Bool:= !(decide (t.1≠s.1)&&decide (t.1≠s.2))|| !(decide (t.2≠s.1)&&decide (t.2≠s.2))
theorem pr(m:Flat S)(t:Ti)(q:List Ti)(u:q.length<=1000):g6 [ar t,pD q] S=.ok (.bl (a8 q t.1&&a8 q t.2)) S:=by
 refine bJ rfl ?_ rfl m rfl;show ah fT G0 kB [some (ar t),some (pD q)] S=_;have j:bh (ar t) (.int 0) S=.ok (.int t.1) S:=rfl;have l:bh (ar t) (.int 1) S=.ok (.int t.2) S:=rfl
 have o:ak fT G0 AW [some (ar t),some (pD q)] S=.ok (.lst (q.map λs=>.bl (cE t s))) S:=by
  refine cY (S1:=S) (rfl) ?_
  have:=ew (f:=ar) (p:=λ_=>true) (e:=λs=>D.bl (cE t s)) (xs:=q) (S:=S) (step:=λx a g=>match aI (.var 0) x [none,some (ar t)]with
    |some b=>(ax fT G0 [] b g).bind λk d=>if k=true then aP fT G0 (.emit AV) b a d else .ok a d
    |none=>.fail) (λs v a h=>by have H:=h;have c:aI (.var 0) (ar s) [none,some (ar t)]=some [some (ar s),some (ar t)]:=rfl;have i:=po (S:=S) t.1 s;have I:=po (S:=S) t.2 s;rw[c];unfold cE;cases e: !(decide (t.1≠s.1)&&decide (t.1≠s.2))<;>rw[e]at i<;>simp only[AV,ax,aP,ak,am,Res.bind,j,l,i,I,Res.noErr,bi,Zk,Zh,if_true,Bool.false_or,Bool.true_or,Bool.false_eq_true,if_false]<;>simp[H]) (show q.length<=16777216 by omega)
  refine Eq.trans this ?_;rw[List.filter_eq_self.mpr (λ_ _=>rfl)]
 have h:f8 [.lst (q.map λs=>.bl (cE t s))] S=.ok (.bl (q.any (cE t))) S:=by show aR _ S=_;rw[ZP];have:(q.map (e8∘λs=>D.bl (cE t s)))=q.map λs=>some (cE t s):=rfl;rw[this,CL];rfl
 have n:(!q.any (cE t))=(a8 q t.1&&a8 q t.2):=by
  rw[Bool.eq_iff_iff,ZW,gz,gz];simp only[Bool.not_eq_true',List.any_eq_false,cE,Bool.or_eq_true,Bool.not_eq_true',Bool.and_eq_false_iff,Decidable.not_not,not_or]
  grind
 rw[Lj];refine cv ?_;rw[<-n];rw[aD,ak,ak,am,o];simp[am,Res.bind,bj,h,bU,Res.noErr]
theorem Lk:AY=[.asg 1 (.lst false [.tup []]),.for_ (.var 2) (.seq (.idx (.var 0) (.lit (.int 1)))) AX,.ret (.blt (.sorted false (.seq (.seq .int))) [.var 1])]:=rfl
theorem pu(q:List Ti)(t:Ti)(h:q.length<=1000):dy .Add (pD q) (.tup [ar t]) S=.ok (pD (q++[t])) S:=by
 have:(ae q).length=q.length:=by unfold ae;simp
 have e:dy .Add (.tup _) (.tup _) S=if(ae q).length+[ar t].length<=bu then .ok _ S else .fail:=rfl;unfold pD;rw[e,if_pos (by unfold bu;simp;omega)];simp[ae]
theorem CM(l:Flat S){F:List (List Ti)}{t:Ti}(m:F.length<=65536)(f:∀p∈F,p.length<=1000):ak g7 G0 My [some W,some (.lst (F.map pD)),some (ar t)] S=.ok (.lst (((F.filter λp=>a8 p t.1&&a8 p t.2).map (· ++[t])).map pD)) S:=by
 refine cY (rfl) ?_
 have:=ew (p:=λp=>a8 p _&&a8 p _) (e:=λp=>pD (p++[t])) (S:=S) (step:=λx a j=>match aI _ x _ with
    |some b=>(ax g7 G0 [.call "_law_free" [.var 1,.var 0]] b j).bind λk d=>if k=true then aP g7 G0 (.emit (.bin .Add (.var 0) (.tup [.var 1]))) b a d else .ok a d
    |none=>.fail) (λp i a h=>by have H:=h;have c:aI (.var 0) (pD p) [none,some (ar t)]=some _:=rfl;have g:=pr l t p (f p i);have h:=pu (S:=S) p t (f p i);rw[c];cases e:a8 p _&&a8 p _<;>rw[e]at g<;>simp[ax,au,aP,ak,am,Res.bind,Jx,g,h,H,bU,Res.noErr]) (show F.length<=16777216 by omega)
 refine Eq.trans this ?_;simp_all
theorem pw(hS:Flat S){F:List (List Ti)}{t:Ti}(hF:F.length<=65536)(hB:∀p∈F,p.length<=1000):ah g7 G0 AX [some W,some (.lst (F.map pD)),some (ar t)] S=.ok (.next [some W,some (.lst ((gF t F).map pD)),some (ar t)]) S:=by
 have h1:=CM hS (W:=W) (t:=t) hF hB
 have hl:((F.filter λp=>a8 p t.1&&a8 p t.2).map (· ++[t])).length<=65536:=by
  grind
 unfold gF;generalize(F.filter _).map _=G at*
 have h2:dy .Add (.lst (F.map pD)) (.lst (G.map pD)) S=.ok (.lst ((F++G).map pD)) S:=by
  show(if(F.map _).length+(G.map _).length<=bu then Res.ok _ S else .fail)=_
  grind
 unfold AX;rw[aJ (d:=.lst ((F++G).map pD)) (S':=S) (by rw[ak,den_v' rfl];simp[Res.bind,h1,h2,Res.noErr])];rfl
where
 den_v' {i:Nat} {d:D} {ρ:bD} {S:aa} (h:ρ[i]?=some (some d)):ak _ _ _ _ S=.ok d S:=by rw[ak,h]
theorem kY{s t:Ti}(h:aS s t):pi s t:=h
theorem CN{S:aa}(b:Flat S){m:Int}{all:List Ti}(W:bn m all){w:D}:∀(ts us:List Ti) (F:List (List Ti)) (x2:Option D),us++ts=all->vM us F->(gG ts F).length<=40320->∃y,
  b3 (λx ρ S=>match aE (.var 2) x ρ with
   |some ρ'=>ah g7 G0 AX ρ' S
   |none=>.fail) (ts.map ar) [some w,some (.lst (F.map pD)),x2] S=.ok (.next [some w,some (.lst ((gG ts F).map pD)),y]) S
 | [],us,F,x2,_,_,_=>⟨_,rfl⟩
 |t::ts,us,F,x2,e,a,g=>by
  have k:=CD (t::ts) F;have f:∀p∈F,p.length<=1000:=λp i=>by have c:=(a.2 p).mp i;have C:gy all p:=⟨λs H=>by rw[<-e];exact Zq.mpr (.inl (c.1 s H)),c.2⟩;have:=pd W C;omega
  have j:t∈all:=by rw[<-e];simp
  have d:=W.ris;rw[<-e,ZI]at d;have h:=kW (W.tie t j).2.1 (λs H=>kY (d.2.2 s H t Zd)) a;obtain⟨y,I⟩:=CN b W _ _ _ _ (by simp_all) h g;refine⟨y,?_⟩;unfold b3;simp[aE,ZU];rw[pw b (by omega) f];exact I
theorem Ll{ts:List Ti}(W:bn m ts):(gG ts [[]]).Perm (gE m ts):=by have h:=CA _ _ _ (λt H=>(W.tie t H).2.1) (W.ris.imp λh=>kY h) (λs a=>by cases a) CB;refine pj h.1 (ph W).1 λp=>?_;rw[h.2,(ph W).2];exact⟨λc=>⟨c,λt H=>(W.tie t (c.1 t H)).1⟩,λc=>c.1⟩
theorem CO(h:Flat S){ts:List Ti}(W:bn m ts):gr [ag m ts] S=.ok (.lst (cy (gE m ts))) S:=by
 have H:=Ll W;have c:(gG ts [[]]).length<=40320:=by rw[H.length_eq];exact uZ W
 obtain⟨y,b⟩:=CN h W _ _ _ _ rfl CB c;have a:=Cw (S:=S) (by omega) (.inl (CC ts [[]] rfl)) false (d:=.lst _) rfl;rw[Ld H]at a;refine bJ rfl ?_ rfl h (K52.Ct _);rw[Lk];rw[aJ rfl]
 rw[bc (by exact b)];refine cv ?_;simp[aD,ak,am,Res.bind,bj,a,Res.noErr]
theorem CP:∀(G:List (List Ti)),G≠[]->∃k,(∀p∈G,p.length<=k)/\∃p∈G,p.length=k
 | [],h=>absurd rfl h
 | [p],_=>⟨_,λq b=>by simp_all,p,by simp,rfl⟩
 |p::q::G,_=>by
  obtain⟨k,H,r,c,a⟩:=CP (q::G) (by simp)
  grind
theorem CQ{ts:List Ti}(W:bn m ts):∃G k,fv m ts G k:=by
 obtain⟨G,g,a,b⟩:=CG _;have d:=(b _).mpr (((ph W).2 _).mpr ⟨⟨λt h=>(by cases h),.nil⟩,λt h=>by cases h⟩);obtain⟨k,H,c⟩:=CP G λz=>by simp_all
 exact⟨G,k,g,by rw[a];exact uZ W,H,c⟩
theorem Lm:A3=[.asg 1 (.call "_law_pairings" [.var 0]),.asg 2 (.blt .max [JI]),.ret JJ]:=rfl
theorem CU(g:Flat S){ts:List Ti}(W:bn m ts){G:List (List Ti)}(M:fv m ts G k):fo [ag m ts] S=.ok (.lst ((aA G k).map pD)) S:=by
 have E:=CO g W;rw[M.is]at E;have i:=M.few
 have n:ak i8 G0 JI [some (ag m ts),some (.lst (G.map pD)),none] S=.ok (.lst (G.map λp=>D.int (p.length:Int))) S:=by
  refine cY (rfl) ?_
  have:=ew (p:=λ_=>true) (e:=λp=>D.int (p.length:Nat)) (S:=S) (step:=λx a l=>match aI (.var 0) x [none]with
    |some b=>(ax i8 G0 [] b l).bind λk f=>if k=true then aP i8 G0 (.emit (.blt .len [.var 0])) b a f else .ok a f
    |none=>.fail) (λp s a h=>by have H:=h;have r:=u4 (S:=S) p;have c:aI (.var 0) (pD p) [none]=some _:=rfl;rw[c];simp[ax,aP,ak,am,Res.bind,bj,r,Res.noErr,H]) (show G.length<=16777216 by omega)
  rw[List.filter_eq_self.mpr (λ_ _=>rfl)]at this;exact this
 have o:bj .max _ S=.ok _ S:=K52.CK M;have q:ak i8 G0 JJ [some (ag m ts),some (.lst (G.map pD)),some (.int k)] S=.ok (.lst ((aA G k).map pD)) S:=by refine cY (rfl) ?_;exact ew (λp s a h=>CJ h) (show G.length<=16777216 by omega)
 refine bJ rfl ?_ rfl g (hU _);show ah _ G0 _ [some _,none,none] S=_;rw[Lm];rw[aJ (d:=.lst (G.map pD)) (S':=S) (by simp only[ak,am,Res.bind,Zh,JK,E])];simp;rw[aJ (d:=.int k) (S':=S) (by rw[ak,am,n];simp only[am,Res.bind,o,Res.noErr])];simp;refine cv ?_;rw[aD,q];rfl
section
variable {A B C:List D}{P:List (List Ti)}
end
section
variable {ts:List Ti}{P:List (List Ti)}
end
theorem d_(x y:Int):dy .Add (.int x) (.int y) S=.ok (.int (x+y)) S:=rfl
theorem kZ(x y:Int):dy .Sub (.int x) (.int y) S=.ok (.int (x-y)) S:=rfl
theorem eZ{x:Int}(h:(-(2^64)<x/\x<2^64)\/(-(2^64)<y/\y<2^64)):dy .Mult (.int x) (.int y) S=.ok (.int (x*y)) S:=by show(if-2^64<x/\x<2^64\/ -2^64<y/\y<2^64 then Res.ok _ S else _)=_;rw[if_pos h]
theorem cz{x:Int}(h:0<y):dy .Mod (.int x) (.int y) S=.ok (.int (x%y)) S:=by show(if 0<y then Res.ok _ S else .fail)=_;rw[if_pos h]
theorem fD{x:Int}(h:0<y/\y<1073741824):dy .FloorDiv (.int x) (.int y) S=.ok (.int (x/y)) S:=by show(if 0<y/\y<1073741824 then Res.ok _ S else if 0<y/\y<2^100 then Res.ok _ S else .fail)=_;rw[if_pos h]
theorem CV{x:Int}(h:0<=y):dy .RShift (.int x) (.int y) S=.ok (.int (x/2^y.toNat)) S:=by show(if 0<=y then Res.ok _ S else .fail)=_;rw[if_pos h]
theorem CW(x y:Int):dy .BitAnd (.int x) (.int y) S=.ok (.int (Builtin.bitAnd x y)) S:=rfl
theorem px(x y:Int):a7 .Eq (.int x) (.int y) S=.ok (.bl (x==y)) S:=rfl
theorem Ln(x y:Int):a7 .Lt (.int x) (.int y) S=.ok (.bl (decide (x<y))) S:=rfl
def iv(c k:Int):Int:=(c%2147483647+977*k+1)*48271
def iw(X:Int):Int:=X%2147483647*(X%2147483647)%2147483629
noncomputable def bY(c k:Int):Int:=(iw (iv c k)+40692*(k+3))*69621%2147483647/8
theorem py(h:Flat S)(c k:Int):eW [.int c,.int k] S=.ok (.int (bY c k)) S:=by have m:∀x:Int,dy .Mult (.int x) (.int 48271) S=.ok _ S:=λx=>eZ (.inr (by decide));have M:∀x:Int,dy .Mult (.int 977) (.int x) S=.ok _ S:=λx=>eZ (.inl (by decide));have e:∀x:Int,dy .Mult (.int 40692) (.int x) S=.ok _ S:=λx=>eZ (.inl (by decide));have f:∀x:Int,dy .Mult (.int x) (.int 69621) S=.ok _ S:=λx=>eZ (.inr (by decide));have D:∀x:Int,dy .Mod (.int x) (.int 2147483647) S=.ok _ S:=λx=>cz (by decide);have b:∀x:Int,dy .Mod (.int x) (.int 2147483629) S=.ok _ S:=λx=>cz (by decide);refine bJ rfl ?_ rfl h rfl;show ah AU G0 um [some (.int c),some (.int k),none] S=_;have g:∀x:Int,dy .Mult (.int (x%2147483647)) (.int (x%2147483647)) S=.ok _ S:=λx=>eZ (.inl (by omega));unfold um;rw[aJ (S':=S) (d:=.int (iv c k%2147483647)) (by unfold iv;simp only[ak,Res.bind,Res.noErr,Zk,Zh,D,M,d_,m])];simp;unfold bY;generalize iv c k=X;rw[aJ (S':=S) (d:=.int (iw X)) (by unfold iw;simp only[ak,Res.bind,Res.noErr,Zk,Zh,g,b])];simp;generalize iw X=Y;rw[aJ (S':=S) (d:=.int ((Y+40692*(k+3))*69621%2147483647)) (by simp only[ak,Res.bind,Res.noErr,Zk,Zh,d_,e,f,D])];rfl
theorem Lo:kA=[.asg 2 (.bin .Add (.lit (.int 1)) (.bin .Mod (.var 0) (.var 1))),.asg 3 (.bin .FloorDiv (.var 0) (.var 1)),.asg 4 (.bin .Mod (.var 3) (.lit (.int 6))),.asg 5 (.lst true []),.for_ (.var 6) (.range [.lit (.int 1),.var 2]) wA,.ret (.tup [.var 2,.blt .tuple [.blt (.sorted false (.seq .int)) [.var 5]]])]:=rfl
section
variable {c t l w a b:Int}{x8 x9:Option D}
abbrev rW(c t m l w:Int)(n:Nat)(x6 x7 x8 x9:Option D):bD:=[some (.int c),some (.int t),some (.int m),some (.int l),some (.int w),some (.ref n),x6,x7,x8,x9]
theorem Lr(i:0<=a)(j:1<=b)(g:b<=8):∃ch:Int,ak b9 G0 Jp (rW c t m l w n (some (.int b)) (some (.int a)) x8 x9) T=.ok (.int ch) T:=by
 have H:=fD (S:=T) (x:=l) (y:=6) (by lia);have d:=eZ (S:=T) (x:=b) (y:=b-1) (.inl (by omega));have e:=fD (S:=T) (x:=b*(b-1)) (y:=2) (by lia)
 have h:0<=b*(b-1)/2+a:=by
  have:0<=b*(b-1):=Int.mul_nonneg (by omega) (by omega)
  grind
 have f:=CV (S:=T) (x:=l/6) h;exact⟨Builtin.bitAnd (l/6/2^(b*(b-1)/2+a).toNat) 1,by simp only[Jp,ak,Res.bind,Res.noErr,Zk,Zh,H,kZ,d,e,d_,f,CW]⟩
theorem CY(d:Flat T):∃r:Int,ak b9 G0 DZ (rW c t m l w n (some (.int b)) (some (.int a)) x8 x9) T=.ok (.int r) T:=by have h:=eZ (S:=T) (x:=8) (y:=a) (.inl (by lia));have H:=py d c (8*a+b);exact⟨bY c (8*a+b),by simp only[DZ,ak,am,Res.bind,Res.noErr,Zk,Zh,h,d_,Ju,H]⟩
theorem k0{k:Int}{e:CE}(h:∃ch:Int,ak b9 G0 e (rW c t m l w n (some (.int b)) (some (.int a)) (some v8) x9) T=.ok (.int ch) T)(H:∃i:Int,v8=.int i):
  ∃ch:Int,aD b9 G0 (wW k [.asg 8 e]) (rW c t m l w n (some (.int b)) (some (.int a)) (some v8) x9) T=.ok (.next (rW c t m l w n (some (.int b)) (some (.int a)) (some (.int ch)) x9)) T:=by
 obtain⟨i,rfl⟩:=H;obtain⟨ch,h⟩:=h;have d:au b9 G0 (.cmp .Eq (.var 4) (.lit (.int k))) (rW c t m l w n (some (.int b)) (some (.int a)) (some (.int i)) x9) T=.ok _ T:=rfl;unfold wW;rw[hE d];cases w==k
 ·exact⟨i,rfl⟩
 ·refine⟨ch,?_⟩;rw[aJ h];rfl
theorem Lu:∃q:List Bool,q.length=5/\ak b9 G0 D0 (rW c t m l w n (some (.int b)) (some (.int a)) x8 x9) T=.ok (.lst (q.map D.bl)) T:=by
 have h:=cz (S:=T) (x:=a) (y:=3) (by lia);have e:ak b9 G0 Mx (rW c t m l w n (some (.int b)) (some (.int a)) x8 x9) T=.ok _ T:=rfl
 have E:ak b9 G0 Js (rW c t m l w n (some (.int b)) (some (.int a)) x8 x9) T=.ok (.bl (b==a+1||b-a==m-1)) T:=by simp only[Js,ak,Res.bind,Res.noErr,Zk,Zh,d_,kZ,px,bi];lia
 have d:ak b9 G0 Jt (rW c t m l w n (some (.int b)) (some (.int a)) x8 x9) T=.ok (.bl (b==a+1&&decide (a%3<2))) T:=by simp only[Jt,ak,Res.bind,Res.noErr,Zk,Zh,d_,h,px,Ln,bi];lia
 refine⟨[b==a+1,b==a+1||b-a==m-1,a==0,true,b==a+1&&decide (a%3<2)],rfl,?_⟩;simp only[D0,ak,am,Res.bind,Res.noErr,Zk,Zh,e,E,d,px];rfl
theorem Lw{q:List Bool}(j:q.length=5):∃ch:Int,ak b9 G0 D3 (rW c t m l w n (some (.int b)) (some (.int a)) x8 (some (.lst (q.map D.bl)))) T=.ok (.int ch) T:=by
 have d:=fD (S:=T) (x:=l) (y:=6) (by lia);have h:=cz (S:=T) (x:=l/6) (y:=5) (by lia);have H:0<=l/6%5/\l/6%5<5:=by omega
 generalize l/6%5=i at h H;obtain⟨v,k⟩:∃v,q[i.toNat]?=some v:=⟨_,Zj (by omega)⟩
 have f:bh (.lst (q.map D.bl)) (.int i) T=.ok (.bl v) T:=by
  have e:fX (q.map D.bl) i=some (.bl v):=by
   have o:gJ (q.map D.bl).length i=some i.toNat:=by unfold gJ;simp_all
   unfold fX;simp_all
  unfold bh;simp[av,e]
 have g:intD [.bl v] T=.ok _ T:=rfl;exact⟨if v=true then 1 else 0,by simp only[D3,ak,am,Res.bind,Res.noErr,Zk,Zh,d,h,f,bj,g]⟩
theorem u5(h:∃i:Int,v8=.int i):∃(ch:Int) (y:Option D),aD b9 G0 (wW 5 [.asg 9 D0,.asg 8 D3]) (rW c t m l w n (some (.int b)) (some (.int a)) (some v8) x9) T=.ok (.next (rW c t m l w n (some (.int b)) (some (.int a)) (some (.int ch)) y)) T:=by
 obtain⟨i,rfl⟩:=h;obtain⟨q,H,e⟩:=Lu;obtain⟨ch,E⟩:=Lw H;have d:au b9 G0 (.cmp .Eq (.var 4) (.lit (.int 5))) (rW c t m l w n (some (.int b)) (some (.int a)) (some (.int i)) x9) T=.ok _ T:=rfl;unfold wW;rw[hE d];cases w==5
 ·exact⟨i,_,rfl⟩
 ·refine⟨ch,some (.lst (q.map D.bl)),?_⟩;rw[aJ e];simp;rw[aJ E];rfl
theorem u6{us:List Ti}(B:Flat T)(L:us.length<1000)(F:0<=a)(G:1<=b)(g:b<=8):∃(k:Bool) (J Y:Option D),
  ah b9 G0 wB (rW c t m l w T.length (some (.int b)) (some (.int a)) x8 x9) (T++[ae us])=.ok (.next (rW c t m l w T.length (some (.int b)) (some (.int a)) J Y)) (T++[ae (if k=true then us++[(a,b)]else us)]):=by
 have h:Flat (T++[ae us]):=B.snoc (K52.i9 us);obtain⟨o,E⟩:=Lr (T:=T++[ae us]) (c:=c) (t:=t) (m:=m) (l:=l) (w:=w) (n:=T.length) (x8:=x8) (x9:=x9) F G g;obtain⟨p,s⟩:=k0 (T:=T++[ae us]) (c:=c) (t:=t) (m:=m) (l:=l) (w:=w) (n:=T.length) (a:=a) (b:=b) (x9:=x9) (k:=3) (e:=Jq) (v8:=.int o) (by obtain⟨r,i⟩:=CY (T:=T++[ae us]) (c:=c) (t:=t) (m:=m) (l:=l) (w:=w) (n:=T.length) (a:=a) (b:=b) (x8:=some (.int o)) (x9:=x9) h;have d:=cz (S:=T++[ae us]) (x:=r) (y:=3) (by decide);have f:=fD (S:=T++[ae us]) (x:=r%3) (y:=2) (by decide);exact⟨r%3/2,by unfold Jq;rw[ak,ak,i];simp only[ak,Res.bind,Res.noErr,d,f]⟩) ⟨_,rfl⟩;obtain⟨q,u⟩:=k0 (T:=T++[ae us]) (c:=c) (t:=t) (m:=m) (l:=l) (w:=w) (n:=T.length) (a:=a) (b:=b) (x9:=x9) (k:=4) (e:=Jr) (v8:=.int p) (by obtain⟨r,i⟩:=CY (T:=T++[ae us]) (c:=c) (t:=t) (m:=m) (l:=l) (w:=w) (n:=T.length) (a:=a) (b:=b) (x8:=some (.int p)) (x9:=x9) h;have d:=cz (S:=T++[ae us]) (x:=r) (y:=4) (by decide);have f:=fD (S:=T++[ae us]) (x:=r%4+2) (y:=3) (by decide);exact⟨(r%4+2)/3,by unfold Jr;rw[ak,ak,ak,i];simp only[ak,Res.bind,Res.noErr,d,d_,f]⟩) ⟨_,rfl⟩;obtain⟨C,Y,z⟩:=u5 (T:=T++[ae us]) (c:=c) (t:=t) (m:=m) (l:=l) (w:=w) (n:=T.length) (a:=a) (b:=b) (x9:=x9) (v8:=.int q) ⟨_,rfl⟩;refine⟨C==1,some (.int C),Y,?_⟩;unfold wB;rw[aJ E];simp only[ZV,ZU];rw[bc s,bc u,bc z];have I:au b9 G0 (.cmp .Eq (.var 8) (.lit (.int 1))) (rW c t m l w T.length (some (.int b)) (some (.int a)) (some (.int C)) Y) (T++[ae us])=.ok (C==1) (T++[ae us]):=by simp only[au,ak,Res.bind,Zk,Zh,px,Res.noErr,bi]
 refine(bc (ρ':=rW c t m l w T.length (some (.int b)) (some (.int a)) (some (.int C)) Y) ?_).trans rfl;rw[hE I];cases C==1
 ·rfl
 ·rw[if_pos rfl,if_pos rfl];have H:fc (.ref T.length) [.tup [.int a,.int b]] (T++[ae us])=.ok .non (T++[ae us++[.tup [.int a,.int b]]]):=Ck (by unfold ae;rw[Zf];show _<16777216;omega);have A:ae us++[.tup [.int a,.int b]]=ae (us++[(a,b)]):=by unfold ae;simp[ar]
  rw[A]at H;refine(bc (ρ':=rW c t m l w T.length (some (.int b)) (some (.int a)) (some (.int C)) Y) (S':=T++[ae (us++[(a,b)])]) ?_).trans rfl;simp only[aD,ak,am,Res.bind,Res.noErr,cJ,Zk,Zh,H]
theorem CZ(H:Flat T)(f:1<=b)(h:b<=8):∀(as:Li) (us:List Ti) (x7 x8 x9:Option D),(∀a∈as,0<=a)->us.length+as.length<1000->∃(vs:List Ti) (y Y d:Option D),vs.Sublist (as.map λa=>(a,b))/\
  b3 (λx ρ S=>match aE (.var 7) x ρ with
   |some ρ'=>ah b9 G0 wB ρ' S
   |none=>.fail) (as.map D.int) (rW c t m l w T.length (some (.int b)) x7 x8 x9) (T++[ae us])=.ok (.next (rW c t m l w T.length (some (.int b)) y Y d)) (T++[ae (us++vs)])
 | [],us,x7,x8,x9,_,_=>⟨_,_,_,_,.slnil,by rw[Yc];rfl⟩
 |a::as,us,x7,x8,x9,g,j=>by
  obtain⟨k,z,Z,e⟩:=u6 (us:=us) H (by omega) (g a Zd) f h;obtain⟨vs,y,Y,d,n,I⟩:=CZ H f h _ (if k=true then us++[(a,b)]else us) _ _ _ (λx i=>g x (Zc _ i)) (by grind);refine⟨(if k=true then [(a,b)]else [])++vs,y,Y,d,?_,?_⟩
  ·cases k
   ·simp_all
   simp_all
  ·rw[ZX];unfold b3;simp[aE,ZV,ZU];rw[e];refine I.trans ?_;cases k<;>simp
noncomputable def k6(bs:Li):List Ti:=bs.flatMap λb=>(bd 0 b.toNat).map λa=>(a,b)
theorem C0(j:Flat T):∀(bs:Li) (us:List Ti) (x6 x7 x8 x9:Option D),(∀b∈bs,1<=b/\b<=8)->us.length+8*bs.length<1000->∃(vs:List Ti) (y Y g i:Option D),vs.Sublist (k6 bs)/\
  b3 (λx ρ S=>match aE (.var 6) x ρ with
   |some ρ'=>ah b9 G0 wA ρ' S
   |none=>.fail) (bs.map D.int) (rW c t m l w T.length x6 x7 x8 x9) (T++[ae us])=.ok (.next (rW c t m l w T.length y Y g i)) (T++[ae (us++vs)])
 | [],us,x6,x7,x8,x9,_,_=>⟨[],x6,x7,x8,x9,.slnil,by rw[Yc];rfl⟩
 |b::bs,us,x6,x7,x8,x9,k,q=>by
  rw[ZO]at q;obtain⟨p,H⟩:=k b Zd;have h:(bd 0 b.toNat).length=b.toNat:=K52.ez;obtain⟨vs,z,Z,n,r,e⟩:=CZ (c:=c) (t:=t) (m:=m) (l:=l) (w:=w) j p H (bd 0 b.toNat) us x7 x8 x9 (λa o=>(K52.gw o).1) (by rw[h];omega)
  have s:vs.length<=8:=by
   grind
  obtain⟨W,y,Y,g,i,f,I⟩:=C0 j bs (us++vs) (some (.int b)) z Z n (λx u=>k x (Zc _ u)) (by rw[ZA];omega);refine⟨vs++W,y,Y,g,i,?_,?_⟩
  ·unfold k6;rw[List.flatMap_cons];exact r.append f
  ·rw[ZX];unfold b3;simp only[aE,ZV,ZU]
   have E:ah b9 G0 wA (rW c t m l w T.length (some (.int b)) x7 x8 x9) (T++[ae us])=.ok (.next (rW c t m l w T.length (some (.int b)) z Z n)) (T++[ae (us++vs)]):=by
    unfold wA;refine(bc (S':=T++[ae (us++vs)]) ?_).trans rfl;have d:(-4611686018427387904:Int)<=b/\b<4611686018427387904:=by omega
    rw[eY (its:=.items ((bd 0 b.toNat).map D.int)) (S1:=T++[ae us]) (by simp[aL,am,ak,Res.bind,Res.noErr,d,K52.i_])];exact e
   rw[E,<-Z7];exact I
end
theorem Ly(h1:1<=m)(h:m<=8):(k6 (bd 1 (m-1).toNat)).Nodup/\(∀t∈k6 (bd 1 (m-1).toNat),0<=t.1/\t.1<t.2/\t.2<m)/\(k6 (bd 1 (m-1).toNat)).length<=28:=by rcases K52.BP h1 h with rfl|rfl|rfl|rfl|rfl|rfl|rfl|rfl<;>exact⟨by decide+kernel,by decide+kernel,by decide+kernel⟩
theorem u7(j:Flat S)(c:Int):∃m ts,bn m ts/\i5 [.int c,.int 8] S=.ok (ag m ts) S:=by
 have h:1<=1+c%8/\1+c%8<=8:=by omega
 obtain⟨P,v,z⟩:=Ly h.1 h.2;obtain⟨vs,Y,A,B,C,f,k⟩:=C0 (T:=S) (c:=c) (t:=8) (m:=1+c%8) (l:=c/8) (w:=c/8%6) j (bd 1 (1+c%8-1).toNat) [] none none none none (λb q=>by have:=K52.gw q;omega) (by rw[K52.ez];simp;omega);rw[List.nil_append]at k;have s:vs.length<=28:=ZB f.length_le z;have W:=KP h.1 h.2 (f.nodup P) (λt u=>v t (f.subset u)) s;refine⟨1+c%8,sortI vs,W,?_⟩;have n:=cz (S:=S) (x:=c) (y:=8) (by decide);have o:=fD (S:=S) (x:=c) (y:=8) (by decide);have p:=cz (S:=S) (x:=c/8) (y:=6) (by decide);have g:=BO (S:=S++[ae vs]) (d:=.ref S.length) (l:=vs) ca (by omega);have i:me [.lst (ae (sortI vs))] (S++[ae vs])=.ok (.tup (ae (sortI vs))) (S++[ae vs]):=rfl
 have r:ah b9 G0 kA [some (.int c),some (.int 8),none,none,none,none,none,none,none,none] S=.ok (.ret (ag (1+c%8) (sortI vs))) (S++[ae vs]):=by
  have e:(-4611686018427387904:Int)<=1+c%8/\1+c%8<4611686018427387904:=by omega
  rw[Lo];rw[aJ (d:=.int (1+c%8)) (S':=S) (by simp only[ak,Res.bind,Res.noErr,Zk,Zh,n,d_])];simp only[ZV,ZU];rw[aJ (d:=.int (c/8)) (S':=S) (by simp only[ak,Res.bind,Res.noErr,Zk,Zh,o])];simp only[ZV,ZU];rw[aJ (d:=.int (c/8%6)) (S':=S) (by simp only[ak,Res.bind,Res.noErr,Zk,Zh,p])];simp only[ZV,ZU];rw[aJ (d:=.ref S.length) (S':=S++[ae []]) (by simp[ak,am,Res.bind,ae])];simp only[ZV,ZU];rw[bc (ρ':=rW c 8 (1+c%8) (c/8) (c/8%6) S.length Y A B C) (S':=S++[ae vs]) (by rw[eY (its:=.items ((bd 1 (1+c%8-1).toNat).map D.int)) (S1:=S++[ae []]) (by simp[aL,am,ak,Res.bind,Res.noErr,e,K52.i_])];exact k)];refine cv ?_;simp only[aD,ak,am,Res.bind,Res.noErr,Zk,Zh,bj,g,i];rfl
 show az b9 G0 kA uo.length 2 [.int c,.int 8] S=_;have H:ah b9 G0 kA (([.int c,.int 8]:List D).map some++List.replicate (uo.length-2) none) S=_:=r;unfold az;rw[if_pos (show [D.int c,D.int 8].length=2 from rfl),H];show cC S.length (ag (1+c%8) (sortI vs)) (S++[ae vs])=_;rw[K52.g_ (by rw[Z9 rfl];exact j) (K52.oM _ _),Z9 rfl]
theorem pz(b:Flat S)(ns:Li):∃c:Int,i3 [.scr (ns.map D.int),.int 0] S=.ok (.int c) S:=by
 cases ns with
 |nil=>exact⟨0,bJ rfl rfl rfl b rfl⟩
 |cons n ns=>
  refine⟨n,bJ rfl ?_ rfl b rfl⟩;have h:fJ [.scr ((n::ns).map D.int)] S=.ok _ S:=rfl
  have H:a7 .Lt (.int 0) (.int ((n::ns).map D.int).length) S=.ok (.bl true) S:=by have:a7 .Lt (.int 0) (.int ((n::ns).map D.int).length) S=.ok _ S:=rfl;simp_all
  have a:bh (.scr ((n::ns).map D.int)) (.int 0) S=.ok (.int n) S:=by
   unfold bh;have:fX ((n::ns).map D.int) 0=some (.int n):=by unfold fX gJ;simp_all
   simp only[av,this]
  generalize(n::ns).map _=x at h H a;simp[AS,ah,aD,au,ak,am,Res.bind,Res.noErr,bi,bj,h,H,a]
def af(s:Li):D:=.tup (s.map D.int)
section
variable {ts p:List Ti}{G:List (List Ti)}
theorem pC(s:Li):bE 0 (af s)=true:=K52.eX s
theorem C1(n:Nat):∀p q:Li,bv (List.zipWith (cF S (n+1)) (p.map D.int) (q.map D.int))=some (decide (p.take q.length=q.take p.length))
 | [],q=>by simp[bv]
 |a::p,[]=>rfl
 |a::p,b::q=>by
  have i:=C1 n p q
  show(match some _,bv _ with
   |some b,some c=>some (b&&c)
   |_,_=>none)=_
  rw[i];by_cases h:a=b<;>simp[h]
theorem Lz:uu=[.ret (.blt .tuple [JG])]:=rfl
theorem C2:∀(ps:List Ti) (i:Int),(ay ps i).isNone= !(ps.any (cw i))
 | [],i=>rfl
 |t::ps,i=>by
  have I:=C2 ps i;unfold ay;by_cases h:i=t.1
  ·simp[cw,h]
  ·by_cases H:i=t.2
   ·simp[cw];simp_all
   ·rw[if_neg h,if_neg H,I];simp[cw,h,H]
theorem LA(s:Flat S)(h1:1<=m)(w:m<=8)(y:p.length<=1000):oB [ag m ts,pD p] S=.ok (af (dc m p)) S:=by
 refine bJ rfl ?_ rfl s (pC _);show ah g9 G0 uu [some (ag m ts),some (pD p)] S=_;have l:bh (ag m ts) (.int 0) S=.ok (.int m) S:=rfl;have u:(-4611686018427387904:Int)<=m/\m<4611686018427387904:=by omega
 have r:∀i:Int,ak g9 G0 D6 [some (.int i),some (pD p)] S=.ok (.lst (p.map λt=>D.bl (cw i t))) S:=λi=>by
  refine cY (its:=.items (p.map ar)) (S1:=S) rfl ?_
  have:=ew (xs:=p) (f:=ar) (p:=λ_=>true) (e:=λt=>D.bl (cw i t)) (S:=S) (step:=λx a d=>match aI (.var 0) x [none,some (.int i)]with
    |some c=>(ax g9 G0 [] c d).bind λk j=>if k=true then aP g9 G0 (.emit (.cmp .In (.var 1) (.var 0))) c a j else .ok a j
    |none=>.fail) (λt z a g=>by
   have h:a.length<16777216:=g;have v:fw (.int i) (ar t) S=some (cw i t):=K52.kN S i t;have H:aI (.var 0) (ar t) [none,some (.int i)]=some [some (ar t),some (.int i)]:=rfl;rw[H];generalize ar t=T at*;simp[ax,aP,ak,Res.bind,a7,v,aR,Res.noErr,h]) (show p.length<=16777216 by omega)
  rw[List.filter_eq_self.mpr (λ_ _=>rfl)]at this;exact this
 have q:ak g9 G0 JG [some (ag m ts),some (pD p)] S=.ok (.lst ((dc m p).map D.int)) S:=by
  refine cY (its:=.items ((bd 0 m.toNat).map D.int)) (S1:=S) (by simp[aL,am,ak,Res.bind,Res.noErr,l,u,K52.i_]) ?_
  exact ew (xs:=bd 0 m.toNat) (f:=D.int) (p:=λi=>(ay p i).isNone) (e:=D.int) (S:=S) (step:=λx a d=>match aI (.var 0) x [none,some (pD p)]with
    |some c=>(ax g9 G0 [.bnot (.blt .any [D6])] c d).bind _
    |none=>.fail) (λi l a g=>by
   have h:a.length<16777216:=g;have H:aI (.var 0) (.int i) [none,some (pD p)]=some [some (.int i),some (pD p)]:=rfl;have E:=r i;have o:f8 [.lst (p.map λt=>D.bl (cw i t))] S=.ok (.bl (p.any (cw i))) S:=K52.uR;rw[H,C2];generalize D6=C at*;generalize p.any (cw i)=b at*;cases b<;>simp[ax,au,aP,ak,am,Res.bind,bj,E,o,Res.noErr,bU,h]) (show(bd 0 m.toNat).length<=16777216 by rw[K52.ez];omega)
 rw[Lz];refine cv ?_;rw[aD,ak,am,q];rfl
theorem C3(M:fv m ts G k)(W:bn m ts){p:List Ti}(H:p∈G):gy ts p:=by
 obtain⟨a,g,d,b⟩:=K52.CG _;have h:pD p∈a.map pD:=by rw[<-g,M.is];exact List.mem_map_of_mem H
 obtain⟨q,c,e⟩:=Zr.mp h;obtain rfl:=K52.u2 e;exact(((K52.ph W).2 _).mp ((b _).mp c)).1
end
section
variable {ts:List Ti}
end
theorem e5{c:Type}{e:CE}{tg:CT}{rs:c->bD}{it:CE}{ds:List c}{h:c->D}{f:c->D}(hi:aL Φ G0 it ρ S=.ok (.items (ds.map h)) S)(q:fr.map (λj=>j.bind λj=>(ρ[j]?).join)=r0)
  (n:∀d∈ds,aI tg (h d) r0=some (rs d)) (r:ds.length<=100000) (o:∀d∈ds,ak Φ G0 e (rs d) S=.ok (f d) S):ak Φ G0 (.comp false N fr tg it [] (.emit e)) ρ S=.ok (.lst (ds.map f)) S:=by
 refine cY hi ?_;rw[q]
 have:=ew (p:=λ_=>true) (e:=f) (S:=S) (step:=λy a m=>match aI _ y _ with
    |some b=>(ax Φ G0 [] b m).bind λk i=>if k=true then aP Φ G0 (.emit e) b a i else .ok a i
    |none=>.fail) λd l a g=>by have H:=g;rw[n d l];simp[ax,aP,Res.bind,o d l,H] (show ds.length<=16777216 by omega)
 rw[List.filter_eq_self.mpr λ_ _=>rfl]at this;exact this
theorem e7{b:jL}{e:CE}{r:D}(h:ak Φ G0 e ρ S=.ok d S)(H:bj b [d] S=.ok r S):ak Φ G0 (.blt b [e]) ρ S=.ok r S:=by simp[ak,am,h,Res.bind,H,Res.noErr]
theorem qw{b:jL}{es:List CE}{k:Bool}(h:ak Φ G0 (.blt b es) ρ S=.ok (.bl k) S):au Φ G0 (.blt b es) ρ S=.ok k S:=by
 rw[ak]at h;rw[au];cases e:am _ _ _ _ S with
 |ok D a=>
  rw[e]at h;simp[Res.bind]at h⊢;cases E:bj b _ _ with
  |ok d c=>rw[E]at h;cases h;rfl
  |err x c=>rw[E]at h;cases h
  |fail=>rw[E]at h;cases h
 |err x a=>rw[e]at h;cases h
 |fail=>rw[e]at h;cases h
theorem bW{e:CE}(h:ak Φ G0 e ρ S=.ok d S)(hi:cB S d=some (.items ds)):aL Φ G0 (.seq e) ρ S=.ok (.items ds) S:=by rw[aL,h];simp[Res.bind,hi]
theorem eA{i:Nat}(h:ρ[i]?=some (some d)):ak Φ G0 (.var i) ρ S=.ok d S:=by simp[ak,h]
theorem cA:ak Φ G0 (.lit d) ρ S=.ok d S:=rfl
theorem hW{a b:CE}{x e:D}(h1:ak Φ G0 a ρ S=.ok d S1)(h:ak Φ G0 b ρ S1=.ok e S2)(H:bh d e S2=.ok x S2):ak Φ G0 (.idx a b) ρ S=.ok x S2:=by simp[ak,h1,h,Res.bind,H,Res.noErr]
theorem de{o:Operator}{a b:CE}{x e:D}(h1:ak Φ G0 a ρ S=.ok d S1)(h:ak Φ G0 b ρ S1=.ok e S2)(H:dy o d e S2=.ok x S2):ak Φ G0 (.bin o a b) ρ S=.ok x S2:=by simp[ak,h1,h,Res.bind,H,Res.noErr]
theorem k7{o:CmpOp}{a b:CE}{x e:D}(h1:ak Φ G0 a ρ S=.ok d S1)(h:ak Φ G0 b ρ S1=.ok e S2)(H:a7 o d e S2=.ok x S2):ak Φ G0 (.cmp o a b) ρ S=.ok x S2:=by simp[ak,h1,h,Res.bind,H,Res.noErr]
theorem C4{p q:List D}(h:p.length+q.length<=1000):dy .Add (.tup p) (.tup q) S=.ok (.tup (p++q)) S:=by have e:dy .Add (.tup p) (.tup q) S=if p.length+q.length<=bu then .ok _ S else .fail:=rfl;lia
theorem u8{f:Str}{a b:CE}{x y:D}{k:Bool}(c:Φ f=some φ)(h1:ak Φ G0 a ρ S=.ok x S)(H:ak Φ G0 b ρ S=.ok y S)(h:φ [x,y] S=.ok (.bl k) S):au Φ G0 (.call f [a,b]) ρ S=.ok k S:=by simp[au,am,c,h1,H,Res.bind,h,bU]
theorem eF{e:CE}{k:Bool}(h:au Φ G0 e ρ S=.ok k S):au Φ G0 (.bnot e) ρ S=.ok (!k) S:=by simp[au,h,Res.bind]
def gI(ns:Li)(i:Nat):Int:=ns.getD i 0
theorem u9{i:Nat}(h:i<ns.length):(ns.map D.int)[i]?=some (.int (gI ns i)):=by simp[gI,h]
theorem k8{c:CE}{cs:List CS}(h:au Φ G0 c ρ S=.ok true S):ah Φ G0 (.ite c [.ret (.lit (.bl false))] []::cs) ρ S=.ok (.ret (.bl false)) S:=by refine cv ?_;rw[hE h];rfl
theorem je{c:CE}{cs:List CS}(h:au Φ G0 c ρ S=.ok false S):ah Φ G0 (.ite c [.ret (.lit (.bl false))] []::cs) ρ S=ah Φ G0 cs ρ S:=by refine bc ?_;rw[hE h];rfl
theorem u_{a b:CE}{x y:Bool}(h1:au Φ G0 a ρ S=.ok x S)(h:au Φ G0 b ρ S=.ok y S):au Φ G0 (.bor a b) ρ S=.ok (x||y) S:=by simp[au,Res.bind];lia
theorem hX{o:CmpOp}{a b:CE}{e:D}{k:Bool}(h1:ak Φ G0 a ρ S=.ok d S)(h:ak Φ G0 b ρ S=.ok e S)(H:a7 o d e S=.ok (.bl k) S):au Φ G0 (.cmp o a b) ρ S=.ok k S:=by simp[au,h1,h,Res.bind,H,Res.noErr,bi]
theorem pE{f:Str}{a:CE}{x:D}{k:Bool}(H:Φ f=some φ)(h1:ak Φ G0 a ρ S=.ok x S)(h:φ [x] S=.ok (.bl k) S):au Φ G0 (.call f [a]) ρ S=.ok k S:=by simp[au,am,H,h1,Res.bind,h,bU]
theorem pF{a:Type}{e c:CE}{tg:CT}{rs:a->bD}{it:CE}{ds:List a}{h f:a->D}{p:a->Bool}(hi:aL Φ G0 it ρ S=.ok (.items (ds.map h)) S)(m:fr.map (λj=>j.bind λj=>(ρ[j]?).join)=r0)
  (i:∀d∈ds,aI tg (h d) r0=some (rs d)) (n:ds.length<=1000000) (l:∀d∈ds,au Φ G0 c (rs d) S=.ok (p d) S) (k:∀d∈ds,ak Φ G0 e (rs d) S=.ok (f d) S):ak Φ G0 (.comp false N fr tg it [c] (.emit e)) ρ S=.ok (.lst ((ds.filter p).map f)) S:=by
 refine cY hi ?_;rw[m]
 exact ew λd g A b=>by
     have H:=b;rw[i d g];simp[ax,l d g,Res.bind];cases p d with
     |true=>simp[aP,Res.bind,k d g,H]
     |false=>simp(show ds.length<=16777216 by omega)
section
variable {ps:Lq}
theorem vc{f:Str}{a b:CE}{x y r:D}(c:Φ f=some φ)(h1:ak Φ G0 a ρ S=.ok x S)(H:ak Φ G0 b ρ S=.ok y S)(h:φ [x,y] S=.ok r S):ak Φ G0 (.call f [a,b]) ρ S=.ok r S:=by simp[ak,am,c,h1,H,Res.bind,h]
end
section
variable {ps:Lq}
end
section
variable {ps:Lq}
end
abbrev Ti:=Int×Int
section
variable {ts ps:List Ti}
structure C5 (m:Int)(ts ps:List Ti):Prop where
 W:bn m ts
 P:aV ts ps
end
noncomputable def b6(ts:Lq)(p:Int):Li:=(ts.filter λt=>decide (p=t.1\/p=t.2)).map λt=>t.1+t.2-p
theorem C6(ts:Lq)(p:Int):(b6 ts p).length<=ts.length:=by unfold b6;rw[Zf];exact ZE _ _
theorem LB(W:bn m ts)(p:Int):(b6 ts p).Nodup:=by unfold b6 List.Nodup;rw[Z3];have h:(ts.filter λt=>decide (p=t.1\/p=t.2)).Pairwise _:=W.ris.filter _;refine h.imp_of_mem λ{a b} f i d=>?_;obtain⟨g,H⟩:=Zm.mp f;obtain⟨e,c⟩:=Zm.mp i;have H:=of_decide_eq_true H;have c:=of_decide_eq_true c;have:=W.tie b e;unfold K52.aS at d;omega
theorem C7(a:Flat S)(W:bn m ts)(p:Int):i7 [ag m ts,.int p] S=.ok (.lst ((b6 ts p).map D.int)) S:=by
 have H:=λl=>K52.eX l;refine bJ rfl ?_ rfl a (H _);have b:bh (ag m ts) (.int 1) S=.ok _ S:=rfl;have d:=W.few;refine cv (K52.gx ?_)
 have h:=pF (Φ:=A0) (N:=["_law_one","_law_other","_law_place"]) (fr:=[none,none,some 1]) (tg:=.tup [.var 0,.var 1]) (c:=.cmp .In (.var 2) (.tup [.var 0,.var 1])) (e:=.bin _ (.bin _ (.var 0) (.var 1)) (.var 2)) (ρ:=[some _,some _]) (bW (hW (eA (i:=0) rfl) cA b) rfl) rfl (λ_ _=>rfl) (by omega) (λt _=>by refine hX (eA rfl) rfl ?_;have:=K52.kN S p t;show aR (fw (.int p) (ar t) S) S=_;rw[this];rfl) λt _=>de (de (eA rfl) (eA rfl) (d_ _ _)) (eA rfl) (kZ _ _);unfold b6;rw[ZP];exact h
section
variable {ts ps:List Ti}
def mt(ps:List Ti)(p:Int):Int:=(ay ps p).getD (-1)
end
section
variable {ps:Lq}
theorem vd{o:Li}{i:Nat}(H:av T d=some (o.map D.int))(h:i<o.length):bh d (.int (i:Nat)) T=.ok (.int (gI o i)) T:=by
 have e:fX (o.map D.int) (i:Nat)=some (.int (gI o i)):=by unfold fX gJ;rw[Zf,if_pos (by omega),if_pos (by omega)];exact u9 h
 unfold bh;simp_all
end
section
variable {ts ps:List Ti}
theorem qx{a b:CE}{x y:Bool}(h1:au Φ G0 a ρ S=.ok x S)(h:au Φ G0 b ρ S=.ok y S):au Φ G0 (.band a b) ρ S=.ok (x&&y) S:=by simp[au,Res.bind];lia
theorem Ea(xs:List D):bU T (.lst xs)=some (!xs.isEmpty):=rfl
end
section
variable {ts ps:List Ti}
theorem ve{a:Type}{f:a->D}{g:a->List D}{c:Nat}{step:D->List D->aa->Res (List D)}{xs:List a}(b:∀x,(g x).length<=c)(d:S[k]?=some (xs.map f))(h:∀x∈xs,∀acc,acc.length+c<=bu->step (f x) acc S=.ok (acc++g x) S):∀n i acc,i+n=xs.length->acc.length+c*n<=bu->bz step (bN k) (n+1) i acc S=.ok (acc++(xs.drop i).flatMap g) S:=by
 have H:∀i,bN k S i=some ((xs.map f)[i]?):=λi=>by unfold bN;rw[d];rfl
 intro n
 induction n with
 |zero=>unfold bz;simp_all
 |succ n I=>
  intro i acc l e;rw[Nat.mul_add]at e;have j:(xs.map f)[i]?=some (f xs[i]):=by grind
  unfold bz;rw[H,j,List.drop_eq_getElem_cons _];dsimp;rw[h _ (List.getElem_mem _) acc (by omega)];refine(I _ _ (by omega) (by have:=b xs[i];rw[ZA];omega)).trans ?_;rw[List.flatMap_cons,Z7]
end
open Pc
theorem k9:∀l:List (Li),bb 0 (l.map Cj)=true
 | []=>rfl
 |x::l=>by show(bE 0 _&&bb 0 _)=true;rw[k9 l,Bool.and_true];exact K52.eX _
end K52
namespace K52
section
variable {ts ps:List Ti}
end
section
variable {ts ps:List Ti}
theorem C8{r:Li}{i v:Int}(h:0<=i)(h1:i<r.length):iE (.ref S.length) (.int i) (.int v) (S++[r.map D.int])=some (S++[(r.set i.toNat v).map D.int]):=by
 unfold iE;simp only[ca];have e:gJ (r.map D.int).length i=some i.toNat:=by unfold gJ;simp_all
 rw[e];simp_all
theorem LC{k:Int}(h:0<=k/\k<=1000):ie (.lst [.int (-1)]) (.int k) S=.ok (.ref S.length) (S++[(List.replicate k.toNat (-1:Int)).map D.int]):=by
 have z:∀n,(List.replicate n [D.int (-1)]).flatten=(List.replicate n (-1)).map D.int:=λn=>by simp_all
 show(if-2^63<=k/\k<2^63/\1*k.toNat<=bu then Res.ok _ _ else .fail)=_
 grind
noncomputable def aT(m:Int)(ps:List Ti):Li:=(List.range m.toNat).map λi=>mt ps (i:Nat)
theorem LD(q rs:List Ti)(p:Int):ay (q++rs) p=(ay q p).or (ay rs p):=by
 induction q with
 |nil=>rfl
 |cons t q i=>
  have e:∀l,ay (t::l) p=if p=t.1 then some _ else if p=t.2 then some _ else ay l p:=λ_=>rfl;rw[List.cons_append,e,e];split
  ·rfl
  ·split
   ·rfl
   ·exact i
theorem C9{x:Int}:∀{q:List Ti},x∉aO q->ay q x=none
 | [],_=>rfl
 |t::q,h=>by have e:aO (t::q)=t.1::t.2::aO _:=rfl;rw[e]at h;simp at h;show(if x=t.1 then some _ else if x=t.2 then some _ else ay _ x)=none;rw[if_neg h.1,if_neg h.2.1];exact C9 h.2.2
theorem pG{q:List Ti}{a b:Int}(h:ay q a=none)(H:ay q b=none)(p:Int):mt (q++[(a,b)]) p=if p=b then a else if p=a then b else mt q p:=by
 unfold mt;rw[LD];rcases Decidable.em (p=b)with e|e
 ·rw[if_pos e,e,H];show(if b=a then some b else if b=b then some a else none).getD _=a;simp_all
 ·rw[if_neg e];rcases Decidable.em (p=a)with E|E
  ·rw[if_pos E,E,h];show(if a=a then some b else _).getD _=b;simp_all
  ·have:ay [(a,b)] p=none:=by
    show(if p=a then some b else if p=b then some a else none)=none;simp_all
   simp_all
theorem C_{a:Nat}{f:Nat->Int}{v:Int}:((List.range n).map f).set a v=(List.range n).map λi=>if i=a then v else f i:=by
 refine List.ext_getElem? λi=>?_
 grind
theorem LF{q:List Ti}{a b:Int}(h:ay q a=none)(H:ay q b=none)(c:0<=a)(h1:0<=b):((aT m q).set a.toNat b).set b.toNat a=aT m (q++[(a,b)]):=by
 unfold aT;rw[C_,C_];refine List.map_congr_left λi _=>?_;rw[pG h H]
 grind
noncomputable def LG:List CS:=[.set (.var 2) (.var 3) (.var 4),.set (.var 2) (.var 4) (.var 3)]
noncomputable def MB:CE:=.binB (.lst false [.neg (.lit (.int 1))]) (.idx (.var 0) (.lit (.int 0)))
theorem C'(O:C5 m ts ps){w p:Option D}:∀(rs Q:List Ti) (x3 x4:Option D),ps=Q++rs->∃y Y,b3 (λx ρ S=>match aE (.tup [.var 3,.var 4]) x ρ with
   |some ρ'=>ah i6 G0 LG ρ' S
   |none=>.fail) (rs.map ar) [w,p,some (.ref S.length),x3,x4] (S++[(aT m Q).map D.int])=.ok (.next [w,p,some (.ref S.length),y,Y]) (S++[(aT m ps).map D.int])
 | [],Q,x3,x4,h=>⟨x3,x4,by rw[h,Yc];rfl⟩
 | (a,b)::rs,Q,x3,x4,h=>by
  have l:(a,b)∈ps:=by rw[h];simp
  have g:=O.W.tie _ (O.P.sub _ l);have g:0<=a/\a<b/\b<m:=g;have H:∀q:List Ti,(aT m q).length=m.toNat:=λq=>by unfold aT;simp
  have c:(aO ps).Nodup:=O.P.un
  have d:∀x,x=a\/x=b->ay Q x=none:=λx n=>by
   have:x∉aO Q:=λf=>by
    rw[h]at c;have e:aO (Q++(a,b)::rs)=aO Q++aO ((a,b)::rs):=by simp[aO]
    rw[e]at c;have:=(ZJ.mp c).2.2 x f x (by rcases n with rfl|rfl<;>simp[aO]);exact this rfl
   exact C9 this
  have o:=C8 (S:=S) (r:=aT m Q) (i:=a) (v:=b) (by omega) (by rw[H];omega);have s:=C8 (S:=S) (r:=(aT m Q).set a.toNat b) (i:=b) (v:=a) (by omega) (by rw[List.length_set,H];omega);rw[LF (d a (.inl rfl)) (d b (.inr rfl)) (by omega) (by omega)]at s;obtain⟨y,Y,I⟩:=C' O (w:=w) (p:=p) rs (Q++[(a,b)]) (some (.int a)) (some (.int b)) (by rw[h];simp);refine⟨y,Y,?_⟩;rw[ZX];unfold b3;have E:aE (.tup [.var 3,.var 4]) (ar (a,b)) [w,p,some (.ref S.length),x3,x4]=some [w,p,some (.ref S.length),some (.int a),some (.int b)]:=rfl
  have k:ah i6 G0 LG [w,p,some (.ref S.length),some (.int a),some (.int b)] (S++[(aT m Q).map D.int])=.ok (.next [w,p,some (.ref S.length),some (.int a),some (.int b)]) (S++[(aT m (Q++[(a,b)])).map D.int]):=by
   unfold LG;refine(bc (ρ':=[w,p,some (.ref S.length),some (.int a),some (.int b)]) (S':=S++[((aT m Q).set a.toNat b).map D.int]) ?_).trans ?_
   ·simp only[aD,ak,Res.bind,Zk,Zh,o]
   ·refine(bc (ρ':=[w,p,some (.ref S.length),some (.int a),some (.int b)]) (S':=S++[(aT m (Q++[(a,b)])).map D.int]) ?_).trans rfl;simp only[aD,ak,Res.bind,Zk,Zh,s]
  rw[E];dsimp only;rw[k];exact I
theorem LH(O:C5 m ts ps)(h:Flat S):kE [ag m ts,.tup (ae ps)] S=.ok (.ref S.length) (S++[(aT m ps).map D.int]):=by
 have w:=O.W.lo;have W:=O.W.hi;refine K52.o8 rfl ?_ h (K52.pg.mpr λx b=>by obtain⟨n,_,rfl⟩:=Zr.mp b;rfl)
 have c:ak i6 G0 MB [some (ag m ts),some (.tup (ae ps)),none,none,none] S=.ok (.ref S.length) (S++[(aT m ([])).map D.int]):=by
  have e:(aT m ([])).map D.int=(List.replicate m.toNat (-1)).map D.int:=by unfold aT;rw[show(λi:Nat=>mt ([]) (i))=λ_=> -1 from rfl,List.map_const',List.length_range]
  rw[e];have a:ak i6 G0 (.idx (.var 0) (.lit (.int 0))) [some (ag m ts),some (.tup (ae ps)),none,none,none] S=.ok _ S:=hW (eA rfl) cA rfl;have H:ak i6 G0 (.lst false [.neg (.lit (.int 1))]) [some (ag m ts),some (.tup (ae ps)),none,none,none] S=.ok _ S:=rfl;have:=LC (S:=S) (k:=m) (by omega);unfold MB;rw[ak,H];simp[Res.bind,a,this,Res.noErr]
 obtain⟨y,Y,E⟩:=C' O _ [] _ _ rfl;refine(aJ c).trans ?_;refine(bc (ρ':=[some (ag m ts),some (.tup (ae ps)),some (.ref S.length),y,Y]) (S':=S++[(aT m ps).map D.int]) ?_).trans ?_
 ·exact(eY (bW (eA rfl) rfl)).trans E
 rfl
end
section
variable {ts ps:List Ti}
theorem ec{b:Type}{e t:CE}{tg:CT}{rs:b->bD}{it:CE}{ds:List b}{h:b->D}{f:b->D}{p:b->Bool}(hi:aL Φ G0 it ρ S=.ok (.items (ds.map h)) S)(s:fr.map (λj=>j.bind λj=>(ρ[j]?).join)=r0)
  (o:∀d∈ds,aI tg (h d) r0=some (rs d)) (v:ds.length<=100000) (u:∀d∈ds,au Φ G0 t (rs d) S=.ok (p d) S) (r:∀d∈ds,p d=true->ak Φ G0 e (rs d) S=.ok (f d) S):ak Φ G0 (.comp false N fr tg it [t] (.emit e)) ρ S=.ok (.lst ((ds.filter p).map f)) S:=by
 refine cY hi ?_;rw[s]
 have:=kO (p:=p) (e:=f) (S:=S) (step:=λy a n=>match aI _ y _ with
    |some c=>(ax Φ G0 [t] c n).bind λk m=>if k=true then aP Φ G0 (.emit e) c a m else .ok a m
    |none=>.fail) _ [] (λd l a g=>by
     have H:=g;rw[o d l];have q:=u d l;cases i:p d with
     |false=>rw[i]at q;simp[ax,q,Res.bind,if_false]
     |true=>rw[i]at q;simp[ax,q,Res.bind,aP,r d l i,H]) (show 0+ds.length<=16777216 by omega)
 exact this
theorem Dc(h:T[k]?=some ((aT m ps).map D.int)){p:Int}(H:0<=p)(h1:p<m):bh (.ref k) (.int p) T=.ok (.int (mt ps p)) T:=by
 have b:p=(p.toNat):=by omega
 have a:gI (aT m ps) p.toNat=mt ps p:=by
  unfold gI aT
  grind
 have:=vd (d:=.ref k) (i:=p.toNat) h (by unfold aT;simp;omega);lia
end
theorem LI:i0=K52.i0:=rfl
theorem LJ:fo=K52.fo:=rfl
section
variable {ts p:List Ti}{G:List (List Ti)}
noncomputable def gH(m:Int)(P:List (List Ti))(q:Int):Bool:=P.any λp=>decide (q∈dc m p)
noncomputable def aB(m:Int)(P:List (List Ti)):Li:=(bd 0 m.toNat).filter (gH m P)
noncomputable def df(ts:List Ti)(M O:Li):Li:=O.filter λq=>M.any λo=>aU ts q o
def eN(B O:Li):Li:=O.filter λq=> !B.contains q
theorem hY{f:Int->Bool}:((bd 0 m.toNat).filter f).length<=m.toNat:=by refine ZB (ZE _ _) ?_;rw[K52.ez];simp_all
theorem Dd(h:q∈dc m p):0<=q/\q<m.toNat:=by have:=gw (Zm.mp h).1;omega
theorem vf{a b:CE}(H:ak Φ G0 a ρ S=.ok (.int q) S)(c:ak Φ G0 b ρ S=.ok d S)(e:av S d=some (l.map D.int)):ak Φ G0 (.cmp .In a b) ρ S=.ok (.bl (decide (q∈l))) S:=by have h:=gD e q;simp[ak,H,c,Res.bind,Res.noErr,a7,h,aR]
theorem pH{a b:CE}(H:ak Φ G0 a ρ S=.ok (.int q) S)(c:ak Φ G0 b ρ S=.ok d S)(f:av S d=some (l.map D.int)):au Φ G0 (.cmp .NotIn a b) ρ S=.ok (!l.contains q) S:=by
 have h:=gD f q;have e:decide (q∈l)=l.contains q:=by simp_all
 simp[au,H,c,Res.bind,Res.noErr,a7,h,aR,bi]
theorem De(h1:1<=m)(a:m<=8)(h:ρ[0]?=some (some (ag m ts))):aL Φ G0 (.range [.idx (.var 0) (.lit (.int 0))]) ρ S=.ok (.items ((bd 0 m.toNat).map D.int)) S:=by have H:bh (ag m ts) (.int 0) S=.ok _ S:=rfl;simp[aL,am,ak,Res.bind,Res.noErr,h,H,K52.i_];omega
theorem k_{v:Nat}(h1:1<=m)(H:m<=8)(h:ρ[0]?=some (some (ag m ts)))(b:ρ[v]?=some (some d))(a:av S d=some (l.map D.int)):ak Φ G0 (.comp false N [none,some v] (.var 0) (.range [.idx (.var 0) (.lit (.int 0))]) [.cmp .NotIn (.var 0) (.var 1)] (.emit (.var 0))) ρ S=.ok (.lst ((aq l m.toNat).map D.int)) S:=
 ec (r0:=[none,some d]) (De h1 H h) (by simp_all) (λ_ _=>rfl) (by rw[K52.ez];omega) (λq _=>pH (ai rfl) (ai rfl) a) λq _ _=>ai rfl
theorem lc{v u:Nat}{O:Li}(a:O.length<=1000)(H:ρ[u]?=some (some (.lst (O.map D.int))))(b:ρ[v]?=some (some d))(h:av S d=some (l.map D.int)):ak Φ G0 (.comp false N [none,some v] (.var 0) (.seq (.var u)) [.cmp .NotIn (.var 0) (.var 1)] (.emit (.var 0))) ρ S=.ok (.lst ((eN l O).map D.int)) S:=
 ec (r0:=[none,some d]) (bW (ai H) rfl) (by simp_all) (λ_ _=>rfl) (by omega) (λq _=>pH (ai rfl) (ai rfl) h) λq _ _=>ai rfl
theorem vg{a:Type}{L:List a}{g:a->Bool}{e:CE}(h:ak Φ G0 e ρ S=.ok (.lst (L.map λo=>D.bl (g o))) S):au Φ G0 (.blt .any [e]) ρ S=.ok (L.any g) S:=
 qw (e7 h K52.uR)
theorem LK(W:bn m ts)(M:fv m ts G k){p:List Ti}(h:p∈aA G k):aV ts p/\p.length<=8:=by have H:=K52.C3 M W (Zm.mp h).1;exact⟨K52.Cy W H,K52.pd W H⟩
theorem Dg{a b c:CE}{x y z:D}(h1:ak Φ G0 a ρ S=.ok x S)(h:ak Φ G0 b ρ S=.ok y S)(H:ak Φ G0 c ρ S=.ok z S):ak Φ G0 (.tup [a,b,c]) ρ S=.ok (.tup [x,y,z]) S:=by simp[ak,am,h1,h,H,Res.bind]
theorem Dh(a b c:Li):bE 0 (.tup [af a,af b,af c])=true:=by show(bE 0 _&&(bE 0 _&&(bE 0 _&&true)))=true;rw[pC,pC,pC];rfl
theorem LL:A7=[.asg 1 JM,.asg 2 JN,.asg 3 (.comp false ["_law_place","_law_missed"] [none,some 2] (.var 0) (.range [.idx (.var 0) (.lit (.int 0))]) [.cmp .NotIn (.var 0) (.var 1)] (.emit (.var 0))),.asg 4 JO,.ret (.tup [.blt .tuple [.var 2],.blt .tuple [.var 4],.blt .tuple [.comp false ["_law_place","_law_by_these"] [none,some 4] (.var 0) (.seq (.var 3)) [.cmp .NotIn (.var 0) (.var 1)] (.emit (.var 0))]])]:=rfl
noncomputable def fE(ts:List Ti)(M O:Li):Li:=O.filter λq=>(b6 ts q).any λo=>decide (o∈M)
theorem LM(H:Flat S)(W:bn m ts)(M:fv m ts G k):kF [ag m ts] S=.ok (.tup [af (aB m (aA G k)),af (fE ts (aB m (aA G k)) (aq (aB m (aA G k)) m.toNat)),af (eN (fE ts (aB m (aA G k)) (aq (aB m (aA G k)) m.toNat)) (aq (aB m (aA G k)) m.toNat))]) S:=by
 have w:=W.lo;have b:=W.hi;have c:(aA G k).length<=40320:=ZB (ZE _ _) M.few;have e:=K52.CU H W M;rw[<-LJ]at e;refine bJ rfl ?_ rfl H ?_
 ·rw[LL];generalize j:aA G k=P at*;have a:∀p∈P,p.length<=1000:=λp a=>by rw[<-j]at a;have:=(LK W M a).2;omega
  have s:ak gu G0 JM [some (ag m ts),none,none,none,none] S=.ok (.lst (P.map λp=>af (dc m p))) S:=
   e5 (h:=pD) (f:=λp=>af (dc m p)) (ds:=P) (r0:=[none,some (ag m ts)]) (bW (hH JQ (ai rfl) e) rfl) rfl (λ_ _=>rfl) (by omega) λp n=>dv JP (ai rfl) (ai rfl) (LA H w b (a p n))
  refine(aJ s).trans ?_;generalize g:aB m P=N;have t:ak gu G0 JN [some (ag m ts),some (.lst (P.map λp=>af (dc m p))),none,none,none] S=.ok (.lst (N.map D.int)) S:=by rw[<-g];refine ec (h:=D.int) (f:=D.int) (p:=gH m P) (De w b rfl) rfl (λ_ _=>rfl) (by rw[K52.ez];omega) (λq _=>vg ?_) λq _ _=>ai rfl;exact e5 (h:=λp=>af (dc m p)) (ds:=P) (r0:=[none,some (.int q)]) (bW (ai rfl) rfl) rfl (λ_ _=>rfl) (by omega) λp _=>vf (ai rfl) (ai rfl) rfl
  refine(aJ t).trans ?_;refine(aJ (k_ (l:=N) w b rfl rfl rfl)).trans ?_;generalize i:aq N m.toNat=O;have L:O.length<=8:=by rw[<-i];have:=hY (m:=m) (f:=λp=> !N.contains p);unfold aq;omega
  have x:ak gu G0 JO [some (ag m ts),some (.lst (P.map λp=>af (dc m p))),some (.lst (N.map D.int)),some (.lst (O.map D.int)),none] S=.ok (.lst ((fE ts N O).map D.int)) S:=by refine ec (h:=D.int) (f:=D.int) (bW (ai rfl) rfl) rfl (λ_ _=>rfl) (by omega) (λq _=>vg ?_) λq _ _=>ai rfl;have E:=K52.C7 H W q;exact e5 (h:=D.int) (f:=λo=>D.bl (decide (o∈N))) (ds:=b6 ts q) (r0:=[none,some (.lst (N.map D.int))]) (bW (dv JR (ai rfl) (ai rfl) E) rfl) rfl (λ_ _=>rfl) (by have:=K52.C6 ts q;have:=W.few;omega) λo _=>vf (ai rfl) (ai rfl) rfl
  refine(aJ x).trans ?_;have y:=lc (S:=S) (Φ:=gu) (N:=["_law_place","_law_by_these"]) (l:=fE ts N O) (O:=O) (v:=4) (u:=3) (ρ:=[some (ag m ts),some (.lst (P.map λp=>af (dc m p))),some (.lst (N.map D.int)),some (.lst (O.map D.int)),some (.lst ((fE ts N O).map D.int))]) (by omega) rfl rfl rfl;refine cv (gx ?_);exact Dg (du (ai rfl) rfl) (du (ai rfl) rfl) (du y rfl)
 ·exact Dh _ _ _
end
section
variable {ts p:List Ti}{G:List (List Ti)}
theorem LN:kx=[.asg 1 kv,.asg 2 (.blt .tuple [.sset (.var 1)]),.asg 3 (.comp false ["place","missed"] [none,some 2] (.var 0) (.range [.idx (.var 0) (.lit (.int 0))]) [.cmp .NotIn (.var 0) (.var 1)] (.emit (.var 0))),.asg 4 (.blt .tuple [kw]),.ret (.tup [.var 2,.var 4,.blt .tuple [.comp false ["place","beside"] [none,some 4] (.var 0) (.seq (.var 3)) [.cmp .NotIn (.var 0) (.var 1)] (.emit (.var 0))]])]:=rfl
def dj(m:Int)(P:List (List Ti)):Li:=P.flatMap (dc m)
theorem Di(h:m<=8)(p:List Ti):(dc m p).length<=8:=by refine ZB (ZE _ _) ?_;rw[K52.ez];omega
theorem vh{w:D}{L:Li}{a:List D}(c:a.length+1*L.length<=16777216):bx (λx a S2=>match aI (.var 1) x [some d,none,some w]with
    |some ρ'=>(ax db G0 [] ρ' S2).bind λk S3=>if k=true then aP db G0 (.emit (.var 1)) ρ' a S3 else .ok a S3
    |none=>.fail) (L.map D.int) a T=.ok (a++L.flatMap λq=>[D.int q]) T:=by
 refine oS (λ_=>Zg 1) L _ (λq e a H=>?_) c;have b:a.length+1<=16777216:=H;have h:aI (.var 1) (.int q) [some d,none,some w]=some _:=rfl;rw[h];have:a.length<16777216:=by omega
 simp[ax,aP,ak,Res.bind,this]
theorem vk(d:Flat S)(W:bn m ts)(M:fv m ts G k):ak db G0 kv [some (ag m ts),none,none,none,none] S=.ok (.lst ((dj m (aA G k)).map D.int)) (S++[(aA G k).map pD]):=by
 have e:=K52.Lh d W M;rw[<-LI]at e;have f:(aA G k).length<=40320:=ZB (ZE _ _) M.few;have h:=d.snoc (hU (aA G k));refine cY (its:=.live (((aA G k).map pD).length+1) (bN S.length)) (S1:=S++[(aA G k).map pD]) (by simp only[aL,ak,am,Zh,Res.bind,I7,e,cB,ca,Option.getD_some]) ?_
 have:=K52.ve (xs:=aA G k) (g:=λp=>(dc m p).map D.int) (k:=S.length) (step:=λx a i=>match aI (.var 0) x _ with
    |some b=>(ax db G0 [] b i).bind λk c=>if k=true then aP db G0 (.inner (.var 1) (.seq (.call "loose_of" [.var 2,.var 0])) [] (.emit (.var 1))) b a c else .ok a c
    |none=>.fail) (λp=>by rw[Zf];exact Di W.hi p) ca (λp s a n=>by have o:a.length+8<=16777216:=n;have j:=K52.KC h W.lo W.hi ts p;have r:=Di W.hi p;have H:aI (.var 0) (pD p) [none,none,some _]=some [some (pD p),none,some (ag m ts)]:=rfl;rw[H];generalize S++[(aA G k).map pD]=T at*;simp only[ax,Res.bind,if_true];rw[aP];have l:aL db G0 (.seq (.call "loose_of" [.var 2,.var 0])) [some (pD p),none,some _] T=.ok _ T:=bW (dv I8 (ai rfl) (ai rfl) j) rfl;rw[l];generalize dc m p=L at*;refine Eq.trans (vh (show a.length+1*L.length<=16777216 by omega)) ?_;rw[<-List.map_eq_flatMap]) (aA G k).length 0 [] (by simp) (by show 0+8*(aA G k).length<=16777216;omega)
 rw[List.nil_append,List.drop_zero]at this;rw[Zf];refine Eq.trans this ?_;unfold dj;rw[List.map_flatMap]
theorem vm:∀l:Li,(l.map D.int).filterMap cI=l
 | []=>rfl
 |x::l=>by show x::(l.map _).filterMap _=_;rw[vm l]
theorem LO(g:m<=8){P:List (List Ti)}:ga (.lst ((dj m P).map D.int)) T=.ok (.lst ((aB m P).map D.int)) T:=by
 have b:∀q,q∈dj m P↔∃p∈P,q∈dc m p:=λq=>List.mem_flatMap;have e:ga (.lst _) T=if((dj m P).map D.int).all jN=true then .ok _ T else _:=rfl;rw[e,if_pos,vm]
 ·have:((List.range 8).filter λk:Nat=>(dj m P).contains (k:Int)).map (λk:Nat=>(k:Int))=aB m P:=by
   refine Pc.kS ?_ (Pc.gA.sublist Zz) λq=>?_
   ·rw[Z3];exact(List.pairwise_lt_range.sublist Zz).imp λh=>by omega
   ·unfold aB gH;rw[Zr,Zm,Pc.hJ,List.any_eq_true];constructor
    ·rintro⟨n,c,rfl⟩;obtain⟨p,a,H⟩:=(b _).mp (List.contains_iff_mem.mp (Zm.mp c).2);have:=Dd H;exact⟨by omega,p,a,ZR H⟩
    ·rintro⟨f,p,a,H⟩;refine⟨q.toNat,Zm.mpr ⟨ZT.mpr (by omega),?_⟩,by omega⟩
     grind
  rw[<-this,ZP];rfl
 ·refine ZG.mpr λx d=>?_;obtain⟨q,H,rfl⟩:=Zr.mp d;obtain⟨p,a,H⟩:=(b q).mp H;have:=Dd H;simp only[jN,ZW,decide_eq_true_eq];omega
theorem Dj(H:Flat S)(W:bn m ts)(M:fv m ts G k):g5 [ag m ts] S=.ok (.tup [af (aB m (aA G k)),af (df ts (aB m (aA G k)) (aq (aB m (aA G k)) m.toNat)),af (eN (df ts (aB m (aA G k)) (aq (aB m (aA G k)) m.toNat)) (aq (aB m (aA G k)) m.toNat))]) S:=by
 have x:=W.lo;have w:=W.hi;have s:=vk H W M;have a:Flat (S++[(aA G k).map pD]):=H.snoc (hU (aA G k))
 have g:ah db G0 kx [some (ag m ts),none,none,none,none] S=.ok (.ret (.tup [af (aB m (aA G k)),af (df ts (aB m (aA G k)) (aq (aB m (aA G k)) m.toNat)),af (eN (df ts (aB m (aA G k)) (aq (aB m (aA G k)) m.toNat)) (aq (aB m (aA G k)) m.toNat))])) (S++[(aA G k).map pD]):=by
  rw[LN];refine(aJ s).trans ?_;generalize S++[(aA G k).map pD]=T at*;generalize aA G k=P at*;have j:ak db G0 (.blt .tuple [.sset (.var 1)]) [some (ag m ts),some (.lst ((dj m P).map D.int)),none,none,none] T=.ok (af (aB m P)) T:=by refine du (d:=.lst ((aB m P).map D.int)) (S1:=T) ?_ rfl;rw[ak,ai (d:=.lst ((dj m P).map D.int)) rfl];simp only[Res.bind,LO w,Res.noErr]
  refine(aJ j).trans ?_;generalize c:aB m P=N;have L:N.length<=8:=by rw[<-c];have:=hY (m:=m) (f:=gH m P);unfold aB;omega
  refine(aJ (k_ (l:=N) x w rfl rfl rfl)).trans ?_;generalize e:aq N m.toNat=O;have B:O.length<=8:=by rw[<-e];have:=hY (m:=m) (f:=λp=> !N.contains p);unfold aq;omega
  have n:ak db G0 kw [some (ag m ts),some (.lst ((dj m P).map D.int)),some (af N),some (.lst (O.map D.int)),none] T=.ok (.lst ((df ts N O).map D.int)) T:=by refine ec (h:=D.int) (f:=D.int) (p:=λq=>N.any λo=>aU ts q o) (r0:=[none,some (af N),some (ag m ts)]) (rs:=λq=>[some (.int q),some (af N),some (ag m ts)]) (bW (ai rfl) rfl) rfl (λ_ _=>rfl) (by omega) (λq _=>vg ?_) λq _ _=>ai rfl;refine e5 (h:=D.int) (f:=λo=>D.bl (aU ts q o)) (ds:=N) (r0:=[none,some (ag m ts),some (.int q)]) (rs:=λo=>[some (.int o),some (ag m ts),some (.int q)]) (bW (ai rfl) rfl) rfl (λ_ _=>rfl) (by omega) λo _=>?_;have b:gZ [ag m ts,.int q,.int o] T=.ok (.bl (aU ts q o)) T:=K52.B8 a m ts q o;simp only[ak,am,Res.bind,Zk,Zh,I9,b]
  refine(aJ (du n (r:=af (df ts N O)) (S2:=T) rfl)).trans ?_;have t:=lc (S:=T) (Φ:=db) (N:=["place","beside"]) (l:=df ts N O) (O:=O) (v:=4) (u:=3) (ρ:=[some (ag m ts),some (.lst ((dj m P).map D.int)),some (af N),some (.lst (O.map D.int)),some (af (df ts N O))]) (by omega) rfl rfl rfl;exact cv (gx (Dg (ai rfl) (ai rfl) (du t rfl)))
 show az db G0 kx ui.length 1 [ag m ts] S=_;unfold az;rw[if_pos (show [ag m ts].length=1 from rfl),show ah db G0 kx (([ag m ts]:List D).map some++List.replicate (ui.length-1) none) S=_ from g];show cC S.length _ (S++[(aA G k).map pD])=_;rw[K52.g_ (by rw[Z9 rfl];exact H) (Dh _ _ _),Z9 rfl]
theorem LP(W:bn m ts){N O:Li}(h:∀q∈O,0<=q/\q<m)(b:∀q∈N,0<=q/\q<m):fE ts N O=df ts N O:=by
 refine List.filter_congr λq H=>?_;have a:=K52.Cc W (h q H)
 have c:∀o,o∈b6 _ q↔0<=o/\o<m/\aU ts q o=true:=λo=>by
  have e:o∈b6 ts q↔o∈fC m ts q:=by rw[a,(K52.gC _).mem_iff];rfl
  rw[e];unfold fC;rw[Zm,Pc.hJ]
  grind
 grind
end
open Pc
section
variable {ts:List Ti}
noncomputable def ix(ts:List Ti)(so l:Li)(a:Int):Li:=l++(b6 ts a).filter λq=>decide (q∈so)&& !l.contains q
def Dk(ts:List Ti)(so l:Li):Li:=l.foldl (ix ts so) l
noncomputable def b7(ts:List Ti)(so:Li):Nat->Li->Li
 |0,l=>l
 |n+1,l=>b7 ts so n (Dk ts so l)
theorem vn(W:bn m ts){M:Li}(b:aq so m.toNat=M){a:Int}(h:a∈M):(q∈b6 ts a/\q∈M)↔cc ts so a q:=by
 rw[<-b]at h⊢;have c:=K52.dd.mp h;have d:=K52.Cc W (p:=a) (by omega);rw[K52.Cf W a q h]
 have e:q∈b6 ts a↔q∈fC m ts a:=by rw[d,(gC _).mem_iff];rfl
 rw[e];unfold fC;rw[Zm,hJ];constructor
 ·simp_all
 ·rintro⟨H,f⟩;have:=(K52.dd.mp H).1;lia
structure hZ (ts:List Ti)(so M:Li)(p:Int)(l:Li):Prop where
 nd:l.Nodup
 st:p∈l
 ok:∀q∈l,q∈M/\b_ (cc ts so) p q
theorem Dl(W:bn m ts){M:Li}{p a:Int}(d:aq so m.toNat=M)(h:hZ ts so M p l)(f:a∈l):hZ ts so M p (ix ts M l a):=by
 have g:=K52.LB W a;refine⟨?_,ZD _ h.st,λq i=>?_⟩
 ·refine ZJ.mpr ⟨h.nd,g.sublist Zz,λx j y k e=>?_⟩;simp_all
 ·rcases Zq.mp i with H|H
  ·exact h.ok q H
  ·obtain⟨c,b⟩:=Zm.mp H;simp only[ZW,decide_eq_true_eq]at b;have:=h.ok a f;exact⟨b.1,this.2.step ((vn W d this.1).mp ⟨c,b.1⟩)⟩
theorem vo(W:bn m ts){M:Li}{p:Int}(e:aq so m.toNat=M):∀(xs l:Li),hZ ts so M p l->(∀a∈xs,a∈l)->hZ ts so M p (xs.foldl (ix ts M) l)/\(∀q∈l,q∈xs.foldl (ix ts M) l)/\l.length<=(xs.foldl (ix ts M) l).length/\∀a∈xs,∀q,cc ts so a q->q∈xs.foldl (ix ts M) l
 | [],l,h,_=>⟨h,λ_ h=>h,Zg _,λa c=>by cases c⟩
 |a::xs,l,h,g=>by
  have c:=g a Zd;have j:=Dl W e h c;obtain⟨I,i,k,n⟩:=vo W e _ _ j λb H=>ZD _ (g b (Zc _ H));refine⟨I,λq d=>i q (ZD _ d),ZB (by unfold ix;simp_all) k,λb H q d=>?_⟩;rcases Zn.mp H with rfl|H
  ·refine i q ?_;obtain⟨N,o⟩:=(vn W e (h.ok b c).1).mpr d;by_cases f:q∈l
   ·exact ZD _ f
   ·refine Zu _ (Zm.mpr ⟨N,?_⟩);simp[o,f]
  ·exact n b H q d
def Dm(ts:List Ti)(so l:Li):Prop:=∀a∈l,∀q,cc ts so a q->q∈l
theorem pI(W:bn m ts){M:Li}{p a:Int}(b:aq so m.toNat=M)(h:hZ ts so M p l)(c:Dm ts so l)(H:a∈l):ix ts M l a=l:=by unfold ix;rw[List.filter_eq_nil_iff.mpr,Yc];intro q d z;simp at z;exact z.2 (c a H q ((vn W b (h.ok a H).1).mp ⟨d,z.1⟩))
theorem Dn(W:bn m ts){M l:Li}{p:Int}(H:aq so m.toNat=M)(h:hZ ts so M p l)(c:Dm ts so l):∀xs:Li,(∀a∈xs,a∈l)->xs.foldl (ix ts M) l=l
 | [],_=>rfl
 |a::xs,d=>by rw[List.foldl_cons,pI W H h c (d a Zd)];exact Dn W H h c _ λb e=>d b (Zc _ e)
theorem Dq(W:bn m ts){M l:Li}{p:Int}(H:aq so m.toNat=M)(h:hZ ts so M p l)(a:Dm ts so l):∀n:Nat,b7 ts M n l=l
 |0=>rfl
 |n+1=>by have e:Dk _ M l=l:=Dn W H h a l λ_ h=>h;show b7 _ M n _=l;rw[e];exact Dq W H h a n
theorem pJ(W:bn m ts){M:Li}{p:Int}(H:aq so m.toNat=M):∀(n:Nat) (l:Li),hZ ts so M p l->hZ ts so M p (b7 ts M n l)/\(Dm ts so (b7 ts M n l)\/l.length+n<=(b7 ts M n l).length)
 |0,l,h=>⟨h,.inr (Zg _)⟩
 |n+1,l,h=>by
  obtain⟨I,k,r,o⟩:=vo W H l l h λ_ h=>h;obtain⟨J,j⟩:=pJ W H n (Dk _ M l) I;refine⟨J,?_⟩;by_cases c:Dm ts so l
  ·rw[Dq W H h c];exact .inl c
  ·rcases j with j|j
   ·exact .inl j
   ·refine .inr ?_;obtain⟨a,b⟩:=Classical.not_forall.mp c;obtain⟨b,g⟩:=Classical.not_imp.mp b;obtain⟨q,d⟩:=Classical.not_forall.mp g;obtain⟨d,i⟩:=Classical.not_imp.mp d
    have f:(q::l).length<=(Dk _ M l).length:=(Yb.mpr ⟨i,h.nd⟩).length_le_of_subset λx e=>by
     rcases Zn.mp e with rfl|e
     ·exact o a b x d
     ·exact k x e
    show l.length+n+1<=(b7 _ M n _).length;rw[ZO]at f;omega
theorem LQ(W:bn m ts){M L:Li}{p:Int}(f:aq so m.toNat=M)(e:∀q∈L,q∈M)(i:p∈L)(g:∀q,b_ (cc ts so) p q->q∈L):(b7 ts M L.length [p]).Nodup/\∀q,q∈b7 ts M L.length [p]↔b_ (cc ts so) p q:=by
 have b:hZ ts so M p _:=⟨by simp,ZM.mpr rfl,λq a=>by rw[ZM.mp a];exact⟨e p i,.refl _⟩⟩;obtain⟨H,c⟩:=pJ W f _ _ b;refine⟨H.nd,λq=>⟨λh=>(H.ok q h).2,λh=>?_⟩⟩;have d:=by refine c.resolve_right λz=>?_;have:=H.nd.length_le_of_subset λq a=>g q (H.ok q a).2;rw[List.length_singleton]at z;omega
 induction h with
 |refl=>exact H.st
 |step _ r I=>exact d _ I _ r
noncomputable def qy(ts:List Ti)(M:Li):Nat->Li->List (Li)
 |0,_=>[]
 |_+1,[]=>[]
 |n+1,p::L=>a9 (b7 ts M (p::L).length [p])::qy ts M n ((p::L).filter λq=> !(b7 ts M (p::L).length [p]).contains q)
theorem lf(W:bn m ts){M:Li}(f:aq so m.toNat=M):∀(n:Nat) (L:Li),L.length<n->L.Pairwise (· < ·)->(∀q∈L,q∈M)->(∀a∈L,∀q,b_ (cc ts so) a q->q∈L)->qy ts M n L=(L.filter (own so ts m.toNat)).map (chain so ts m.toNat)
 |0,_,h,_,_,_=>by omega
 |_+1,[],_,_,_,_=>rfl
 |n+1,p::L,G,x,g,v=>by
  have o:=g p Zd;rw[<-f]at o;have H:=K52.dd.mp o;obtain⟨r,B⟩:=LQ W f g Zd (v p Zd);obtain⟨R,y⟩:=ZH.mp x;have i:=K52.jd W;obtain⟨D,F⟩:=hO (so:=so) i H.1.1 H.1.2
  have l:nm (aF so ts m.toNat) p=p:=by
   have s:=F p (.refl _)
   grind
  have e:=B7 i H.1.1 H.1.2 H.2 l (o5 r) (λq=>by rw[(gC _).mem_iff];exact B q);have j:p∈b7 ts M (p::L).length [p]:=(B p).mpr (.refl _);generalize t:b7 ts M (p::L).length [p]=X at*
  have w:(p::L).filter (λq=> !X.contains q)=L.filter λq=> !X.contains q:=by rw[List.filter_cons_of_neg];simp[j]
  have I:=lf W f n (L.filter λq=> !X.contains q) (by grind) (y.sublist Zz) (λq b=>g q (Zc _ (Zm.mp b).1)) (λa u q b=>by
   obtain⟨C,A⟩:=Zm.mp u;simp only[Bool.not_eq_true',List.contains_eq_mem,decide_eq_false_iff_not]at A;have J:q∉X:=λz=>A ((B a).mpr (((B q).mp z).trans (b.symm cc.symm)))
   grind)
  show a9 (b7 ts M (p::L).length [p])::qy ts M n ((p::L).filter λq=> !(b7 ts M (p::L).length [p]).contains q)=_;rw[t,w,I,e,List.filter_cons_of_pos (by simp[own,l]),ZX];congr 2;rw[List.filter_filter];refine List.filter_congr λq b=>?_;cases k:own so ts m.toNat q with
  |false=>rfl
  |true=>
   have:q∉X:=λz=>by
    have c:=g q (Zc _ b);rw[<-f]at c;have d:=(K52.dd.mp c).1;have s:=(oZ (so:=so) i H.1.1 H.1.2 d.1 d.2).mpr ((B q).mp z);have E:nm (aF so ts m.toNat) q=q:=by simpa[own]using k
    have:=R q b;omega
   simp[this]
end
end K52
namespace K52
section
variable {ts:List Ti}{G:List (List Ti)}
end
section
variable {ts:List Ti}{G:List (List Ti)}{x1:Option D}
end
section
variable {ts p:List Ti}
end
open Pc
section
variable {R:aa}{F:List (Li)}{ts:List Ti}{M:Li}{p:Int}{b:Nat}
noncomputable def MW:CE:=.band (.cmp .In (.var 0) (.var 1)) (.cmp .NotIn (.var 0) (.var 2))
noncomputable def MC:CE:=.comp false ["_law_other","_law_some","_law_line"] [none,some 1,some 4] (.var 0) (.seq (.call "_law_near" [.var 0,.var 6])) [MW] (.emit (.var 0))
def LR:List CS:=[.expr (.meth .extend (.var 4) [MC])]
noncomputable def LU:List CS:=[.for_ (.var 6) (.seq (.blt (.list false) [.var 4])) LR]
noncomputable def MX:CE:=.comp false ["_law_place","_law_line"] [none,some 4] (.var 0) (.seq (.var 2)) [.cmp .NotIn (.var 0) (.var 1)] (.emit (.var 0))
noncomputable def LV:List CS:=[.asg 4 (.lst true [.idx (.var 2) (.lit (.int 0))]),.for_ (.var 5) (.seq (.var 2)) LU,.expr (.meth .append (.var 3) [.blt .tuple [.blt (.sorted false (.int)) [.var 4]]]),.asg 2 MX]
def LW:CE:=.cmp .NotEq (.var 2) (.lst false [])
theorem Dr(W:bn m ts)(a:aq so m.toNat=M)(h:hZ ts so M p l):l.length<=8:=by
 have c:=h.nd.length_le_of_subset λq b=>(h.ok q b).1;have H:=hY (m:=m) (f:=λp=> !so.contains p);have:M.length<=m.toNat:=by rw[<-a];exact H
 have:=W.hi;omega
theorem Ds(l:Li):bb 0 (l.map D.int)=true:=K52.eX l
theorem Dt(k:Flat T)(W:bn m ts)(r:l.length<=8)(a:Int):ah cD G0 LR [some (ag m ts),some (af M),x2,x3,some (.ref T.length),x5,some (.int a)] (T++[l.map D.int])=.ok (.next [some (ag m ts),some (af M),x2,x3,some (.ref T.length),x5,some (.int a)]) (T++[(ix ts M l a).map D.int]):=by
 have H:=k.snoc (Ds l);have E:=K52.C7 H W a;have s:=K52.C6 ts a;have t:=W.few
 have o:av (T++[l.map D.int]) (.ref T.length)=some (l.map D.int):=by exact ca
 have e:ak cD G0 MC [some (ag m ts),some (af M),x2,x3,some (.ref T.length),x5,some (.int a)] (T++[l.map D.int])=.ok (.lst (((b6 ts a).filter λq=>decide (q∈M)&& !l.contains q).map D.int)) (T++[l.map D.int]):=by
  refine ec (h:=D.int) (f:=D.int) (bW (dv JS (ai rfl) (ai rfl) E) rfl) rfl (λ_ _=>rfl) (by omega) (λq _=>?_) λq _ _=>ai rfl;have d:au cD G0 (.cmp .NotIn (.var 0) (.var 2)) [some (.int q),some (af M),some (.ref T.length)] (T++[l.map D.int])=.ok (!l.contains q) _:=pH (ai rfl) (ai rfl) o
  have j:au cD G0 (.cmp .In (.var 0) (.var 1)) [some (.int q),some (af M),some (.ref T.length)] (T++[l.map D.int])=.ok (decide (q∈M)) (T++[l.map D.int]):=K52.hX (ai rfl) (ai rfl) (by have c:fw (.int q) (af M) (T++[l.map D.int])=some (decide (q∈M)):=gD rfl q;show aR _ _=_;rw[c];rfl);exact K52.qx j d
 generalize n:(b6 ts a).filter _=g at*
 have p:f9 (.ref T.length) [.lst (g.map D.int)] (T++[l.map D.int])=.ok .non (T++[(l++g).map D.int]):=by
  show(match(T++[l.map D.int])[T.length]?,some (g.map D.int)with
   |some x,some y=>if x.length+y.length<=bu then Res.ok D.non _ else .fail
   |_,_=>.fail)=_
  grind
 have b:ix ts M l a=l++g:=by unfold ix;rw[n]
 rw[b];refine(bc ?_).trans rfl;rw[aD,ak,ai (i:=4) rfl];simp only[Res.bind,am,e,cJ,p,Res.noErr]
theorem Du(b:Flat T)(W:bn m ts)(H:aq so m.toNat=M){x2 x3 x5:Option D}:∀(xs l:Li) (x6:Option D),hZ ts so M p l->(∀a∈xs,a∈l)->∃y,b3 (λx ρ S=>match aE (.var 6) x ρ with
   |some ρ'=>ah cD G0 LR ρ' S
   |none=>.fail) (xs.map D.int) [some (ag m ts),some (af M),x2,x3,some (.ref T.length),x5,x6] (T++[l.map D.int])=.ok (.next [some (ag m ts),some (af M),x2,x3,some (.ref T.length),x5,y]) (T++[(xs.foldl (ix ts M) l).map D.int])
 | [],l,x6,_,_=>⟨_,rfl⟩
 |a::xs,l,x6,h,d=>by have e:=Dt b W (M:=M) (Dr W H h) a (x2:=x2) (x3:=x3) (x5:=x5);obtain⟨y,E⟩:=Du b W H _ _ _ (Dl W H h (d a Zd)) λc f=>ZD _ (d c (Zc _ f));refine⟨y,?_⟩;show(ah _ _ _ [some _,some _,x2,x3,some _,x5,some _] _).bind _=_;rw[e];exact E
theorem qz(b:Flat T)(W:bn m ts)(H:aq so m.toNat=M){x2 x3:Option D}:∀(L l:Li) (x5 x6:Option D),hZ ts so M p l->∃Y y,b3 (λx ρ S=>match aE (.var 5) x ρ with
   |some ρ'=>ah cD G0 LU ρ' S
   |none=>.fail) (L.map D.int) [some (ag m ts),some (af M),x2,x3,some (.ref T.length),x5,x6] (T++[l.map D.int])=.ok (.next [some (ag m ts),some (af M),x2,x3,some (.ref T.length),Y,y]) (T++[(b7 ts M L.length l).map D.int])
 | [],l,x5,x6,_=>⟨_,_,rfl⟩
 |a::L,l,x5,x6,h=>by
  obtain⟨y,e⟩:=Du b W H l l _ h λ_ h=>h;obtain⟨z,Z,E⟩:=qz b W H L _ _ _ (vo W H l l h λ_ h=>h).1;refine⟨z,Z,?_⟩;show(ah _ _ _ [some _,some _,x2,x3,some _,some _,x6] _).bind _=_
  have c:aL cD G0 (.seq (.blt (.list false) [.var 4])) [some (ag m ts),some (af M),x2,x3,some (.ref T.length),some (.int a),x6] (T++[l.map D.int])=.ok (.items (l.map D.int)) (T++[l.map D.int]):=by
   refine bW (d:=.lst _) (e7 (ai rfl) ?_) rfl
   show(match av _ _ with
    |some _=>Res.ok _ _
    |none=>.fail)=_
   rw[show av _ _=some _ from ca]
  have f:ah cD G0 LU [some (ag m ts),some (af M),x2,x3,some (.ref T.length),some (.int a),x6] (T++[l.map D.int])=.ok (.next [some (ag m ts),some (af M),x2,x3,some (.ref T.length),some (.int a),y]) (T++[(Dk ts M l).map D.int]):=by refine(bc ?_).trans rfl;exact(eY c).trans e
  rw[f];exact E
theorem Dv{A:List D}:(S++A::R)[S.length]?=some A:=by rw[ZS (Zg _)];simp
theorem Dw{A B:List D}:(S++A::R).set S.length B=S++B::R:=by simp_all
theorem Dx{A B:List D}:S++A::R++[B]=S++A::(R++[B]):=by simp
theorem vq(o:Flat (S++(F.map af)::R))(W:bn m ts)(n:aq so m.toNat=M)(N:F.length<=1000){p:Int}{L:Li}(O:(p::L).length<=8)(G:p∈M):∃K y Y B,Flat (S++((F++[a9 (b7 ts M (p::L).length [p])]).map af)::(R++[B]))/\
  ah cD G0 LV [some (ag m ts),some (af M),some (.lst ((p::L).map D.int)),some (.ref S.length),x4,x5,x6] (S++(F.map af)::R)=.ok (.next [some (ag m ts),some (af M),some (.lst (((p::L).filter λq=> !(b7 ts M (p::L).length [p]).contains q).map D.int)),some (.ref S.length),K,y,Y]) (S++((F++[a9 (b7 ts M (p::L).length [p])]).map af)::(R++[B])):=by
 have v:hZ ts so M p [p]:=⟨by simp,ZM.mpr rfl,λq I=>by rw[ZM.mp I];exact⟨G,.refl _⟩⟩;generalize w:S++(F.map af)::R=T at o;obtain⟨y,Y,e⟩:=qz o W n (x2:=some (.lst ((p::L).map D.int))) (x3:=some (.ref S.length)) (p::L) [p] x5 x6 v;have g:=(pJ W n (p::L).length [p] v).1;have x:=Dr W n g;generalize P:b7 ts M (p::L).length [p]=X at*;have s:av (T++[X.map D.int]) (.ref T.length)=some (X.map D.int):=ca;have r:=K52.uQ (S:=T++[X.map D.int]) (d:=.ref T.length) (l:=X) s (by omega);have a:T++[X.map D.int]=S++(F.map af)::(R++[X.map D.int]):=by rw[<-w];exact Dx
 have H:S++((F++[a9 X]).map af)::(R++[X.map D.int])=(T++[X.map D.int]).set S.length ((F++[a9 X]).map af):=by rw[a,Dw]
 have b:fc (.ref S.length) [af (a9 X)] (T++[X.map D.int])=.ok .non (S++((F++[a9 X]).map af)::(R++[X.map D.int])):=by
  show(match(T++[X.map D.int])[S.length]? with
   |some z=>if z.length<bu then Res.ok D.non ((T++[X.map D.int]).set S.length (z++[af (a9 X)]))else .fail
   |none=>.fail)=_
  rw[a,Dv];show(if(F.map af).length<bu then Res.ok D.non ((S++(F.map af)::(R++[X.map D.int])).set S.length (F.map af++[af (a9 X)]))else .fail)=_;rw[if_pos (by rw[Zf];show _<16777216;omega),Dw,List.map_append];rfl
 have k:Flat (S++((F++[a9 X]).map af)::(R++[X.map D.int])):=by rw[H];exact(o.snoc (Ds X)).set (K52.k9 _)
 refine⟨some (.ref T.length),y,Y,X.map D.int,k,?_⟩
 have c:bh (.lst ((p::L).map D.int)) (.int 0) T=.ok (.int p) T:=by
  have A:fX ((p::L).map D.int) 0=some (.int p):=by
   unfold fX gJ;simp
   try omega
  unfold bh;simp only[av,A]
 unfold LV;refine(aJ (d:=.ref T.length) (S':=T++[[p].map D.int]) ?_).trans ?_
 ·have E:ak cD G0 (.idx (.var 2) (.lit (.int 0))) [some (ag m ts),some (af M),some (.lst ((p::L).map D.int)),some (.ref S.length),x4,x5,x6] T=.ok (.int p) T:=hW (ai rfl) cA c;rw[ak,am,E];simp only[am,Res.bind,if_true];rfl
 refine(bc (ρ':=[some (ag m ts),some (af M),some (.lst ((p::L).map D.int)),some (.ref S.length),some (.ref T.length),y,Y]) (S':=T++[X.map D.int]) ?_).trans ?_
 ·have C:aL cD G0 (.seq (.var 2)) [some (ag m ts),some (af M),some (.lst ((p::L).map D.int)),some (.ref S.length),some (.ref T.length),x5,x6] (T++[[p].map D.int])=.ok (.items ((p::L).map D.int)) (T++[[p].map D.int]):=bW (ai rfl) rfl;exact(eY (Γ:=G0) C).trans e
 refine(bc (ρ':=[some (ag m ts),some (af M),some (.lst ((p::L).map D.int)),some (.ref S.length),some (.ref T.length),y,Y]) (S':=S++((F++[a9 X]).map af)::(R++[X.map D.int])) ?_).trans ?_
 ·have J:ak cD G0 (.blt .tuple [.blt (.sorted false (.int)) [.var 4]]) [some (ag m ts),some (af M),some (.lst ((p::L).map D.int)),some (.ref S.length),some (.ref T.length),y,Y] (T++[X.map D.int])=.ok (af (a9 X)) (T++[X.map D.int]):=du (du (ai rfl) r) rfl;rw[aD,ak,ai (i:=3) (d:=.ref S.length) rfl];simp only[Res.bind,am,J,cJ,b,Res.noErr]
 have j:av (S++((F++[a9 X]).map af)::(R++[X.map D.int])) (.ref T.length)=some (X.map D.int):=by show(S++((F++[a9 X]).map af)::(R++[X.map D.int]))[T.length]?=_;rw[H,List.getElem?_set_ne (by rw[<-w];simp)];exact ca
 exact(aJ (ec (h:=D.int) (f:=D.int) (p:=λq=> !X.contains q) (r0:=[none,some (.ref T.length)]) (rs:=λq=>[some (.int q),some (.ref T.length)]) (bW (ai rfl) rfl) rfl (λ_ _=>rfl) (by omega) (λq _=>pH (ai rfl) (ai rfl) j) λq _ _=>ai rfl)).trans rfl
theorem lg(W:bn m ts)(H:aq so m.toNat=M):∀(n:Nat) (L:Li) (F:List (Li)) (R:aa) (x4 x5 x6:Option D),L.length<n->L.length<=8->F.length+L.length<=500->(∀q∈L,q∈M)->Flat (S++(F.map af)::R)->∃v y Y i a,fN (au cD G0 LW) (ah cD G0 LV) n [some (ag m ts),some (af M),some (.lst (L.map D.int)),some (.ref S.length),x4,x5,x6] (S++(F.map af)::R)=.ok (.next [some (ag m ts),some (af M),v,some (.ref S.length),y,Y,i]) (S++((F++qy ts M n L).map af)::a)
 |0,L,F,R,x4,x5,x6,h,_,_,_,_=>by omega
 |n+1,[],F,R,x4,x5,x6,_,_,_,_,_=>by refine⟨some (.lst []),x4,x5,x6,R,?_⟩;rw[fN];have c:au cD G0 LW [some (ag m ts),some (af M),some (.lst []),some (.ref S.length),x4,x5,x6] (S++(F.map af)::R)=.ok false (S++(F.map af)::R):=rfl;rw[show(List.map D.int [])=[]from rfl,c,show qy ts M (n+1) []=[]from rfl,Yc];rfl
 |n+1,p::L,F,R,x4,x5,x6,t,j,k,g,r=>by
  obtain⟨y,Y,i,B,b,e⟩:=vq r W H (by simp only[ZO]at k;omega) j (g p Zd) (x4:=x4) (x5:=x5) (x6:=x6);have u:p∈b7 ts M (p::L).length [p]:=by have o:hZ ts so M p [p]:=⟨by simp,ZM.mpr rfl,λq f=>by rw[ZM.mp f];exact⟨g p Zd,.refl _⟩⟩;exact(pJ W H (p::L).length [p] o).1.st
  have E:qy ts M (n+1) (p::L)=a9 (b7 ts M (p::L).length [p])::qy ts M n _:=rfl;generalize b7 ts M (p::L).length [p]=X at*;have d:(p::L).filter (λq=> !X.contains q)=L.filter λq=> !X.contains q:=by rw[List.filter_cons_of_neg];simp[u]
  rw[d]at e E;have s:=ZE (λq=> !X.contains q) L;simp only[ZO]at t j k;obtain⟨z,Z,w,x,a,l⟩:=lg W H n (L.filter λq=> !X.contains q) (F++[a9 X]) (R++[B]) y Y i (by omega) (by omega) (by rw[ZA,List.length_singleton];omega) (λq f=>g q (Zc _ (Zm.mp f).1)) b;refine⟨z,Z,w,x,a,?_⟩;rw[fN];have c:au cD G0 LW [some (ag m ts),some (af M),some (.lst ((p::L).map D.int)),some (.ref S.length),x4,x5,x6] (S++(F.map af)::R)=.ok true (S++(F.map af)::R):=rfl;rw[c];simp only[Res.bind,if_true];rw[e];simp only;rw[l,E,Z7];rfl
end
end K52
namespace K52
section
variable {ts:List Ti}
end
section
variable {ts:List Ti}
end
open PySem.Builtin.Int (intBits)
section
variable {ts:List Ti}
end
end K52
namespace K52
open Pc
section
variable {R:aa}{ts:List Ti}{M:Li}{G:List (List Ti)}
noncomputable def jl(so:Li)(ts:List Ti)(m:Nat):List (Li):=((aq so m).filter (own so ts m)).map (chain so ts m)
theorem pK(h:m<=8):(aq so m.toNat).length<=8:=by have:=hY (m:=m) (f:=λp=> !so.contains p);unfold aq;omega
theorem pL(h:m<=8):(jl so ts m.toNat).length<=8:=by unfold jl;rw[Zf];have:=ZE (own so ts m.toNat) (aq so m.toNat);have:=pK (so:=so) h;omega
theorem LX(W:bn m ts){a:Int}(b:a∈aq so m.toNat)(h:b_ (cc ts so) a q):q∈aq so m.toNat:=by have H:=K52.dd.mp b;exact K52.dd.mpr ⟨hL (K52.jd W) H.1.1 H.1.2 h,uP H.2 h⟩
theorem LY(b:Flat S)(W:bn m ts)(H:aq so m.toNat=M):kG [ag m ts,af M] S=.ok (.ref S.length) (S++[(jl so ts m.toNat).map af]):=by
 have f:M.length<=8:=by rw[<-H];exact pK W.hi
 have E:qy ts M 100 M=jl so ts m.toNat:=by have:=lf W H 100 M (by omega) (by rw[<-H];exact gA.sublist Zz) (λ_ h=>h) (λa c q g=>by rw[<-H]at c⊢;exact LX W c g);rw[this];unfold jl;rw[H]
 obtain⟨y,Y,i,j,R,e⟩:=lg W H 100 M [] [] _ _ _ (by omega) f (by simp;omega) (λ_ h=>h) (b.snoc rfl);rw[E]at e
 have d:ah cD G0 A9 [some (ag m ts),some (af M),none,none,none,none,none] S=.ok (.ret (.ref S.length)) (S++(jl so ts m.toNat).map af::R):=by
  refine(aJ (du (ai rfl) rfl)).trans ?_;refine(aJ (rfl)).trans ?_;refine(bc (ρ':=[some (ag m ts),some (af M),y,some (.ref S.length),Y,i,j]) (S':=S++((jl so ts m.toNat).map af)::R) ?_).trans ?_
  ·exact e
  rfl
 show az _ G0 _ _ 2 _ S=_;unfold az;rw[show ah _ G0 _ ([ag m ts,af M].map _++List.replicate (A8.length-2) _) S=_ from d];show cC _ _ _=_;unfold cC;rw[Z9 rfl,if_pos b.all,if_neg (by unfold bE;simp)];simp only[Dv];rw[if_pos ⟨K52.gv _ (K52.k9 _),Zg _⟩]
theorem Dy(W:bn m ts){c:Int}(j:c∈(aq so m.toNat).filter (own so ts m.toNat)):∃l,chain so ts m.toNat c=c::l:=by
 obtain⟨f,g⟩:=Zm.mp j;have H:=K52.dd.mp f;have i:=by simpa[own]using g
 have h:=gB.mpr ⟨H.1,i,H.2⟩;cases e:chain _ _ _ c with
 |nil=>simp_all
 |cons d l=>
  have a:=B6 (so:=so) (ts:=ts) (m:=m.toNat) (c:=c);have k:d∈chain so ts m.toNat c:=by simp_all
  rw[e]at h a;rcases Zn.mp h with rfl|h
  ·simp_all
  ·have:=(ZH.mp a).1 c h;obtain⟨⟨D,b⟩,n,o⟩:=gB.mp k;have:=kT (so:=so) (K52.jd W) D b;omega
theorem LZ(W:bn m ts)(n:∀q∈M,0<=q/\q<m.toNat)(l:M.Pairwise (· < ·))(B:Li)(g:B=df ts M (aq M m.toNat)):∃so,a9 (B++eN B (aq M m.toNat))=so/\so.length<=8/\(∀q∈so,0<=q/\q<m)/\so.Pairwise (· < ·)/\aq so m.toNat=M/\(B++eN B (aq M m.toNat)).length<=8:=by
 have i:(aq M m.toNat).Nodup:=K52.BQ.sublist Zz;have j:∀q,q∈B->q∈aq M m.toNat:=λq H=>by rw[g]at H;exact(Zm.mp H).1
 have d:(B++eN B (aq M m.toNat)).Nodup:=by refine ZJ.mpr ⟨by rw[g];exact i.sublist Zz,i.sublist Zz,λa o c k e=>?_⟩;subst e;have:=(Zm.mp k).2;simp_all
 have f:∀q,q∈B++eN B (aq M m.toNat)↔q∈aq M m.toNat:=λq=>by
  rw[Zq];constructor
  ·rintro(h|h)
   ·exact j q h
   ·exact(Zm.mp h).1
  ·intro h;by_cases H:q∈B
   ·exact .inl H
   ·exact .inr (Zm.mpr ⟨h,by simp[H]⟩)
 have b:=ZB (d.length_le_of_subset λq H=>(f q).mp H) (pK W.hi);refine⟨_,rfl,by rw[(gC _).length_eq];exact b,λq H=>?_,o5 d,?_,b⟩
 ·have:=(K52.dd.mp ((f q).mp ((gC _).mem_iff.mp H))).1;omega
 ·refine kS (gA.sublist Zz) l λq=>?_;rw[K52.dd,(gC _).mem_iff,f,K52.dd]
  grind
theorem L0(h:Flat S)(W:bn m ts)(Y:fv m ts G k):∃so,aq so m.toNat=aB m (aA G k)/\∀S,Flat S->ky [ag m ts] S=.ok (.ref S.length) (S++[(jl so ts m.toNat).map af]):=by
 have b:∀q∈aB m (aA G k),0<=q/\q<m.toNat:=λq c=>by have:=gw (Zm.mp c).1;omega
 obtain⟨so,e,L,H,r,l,i⟩:=LZ W b (gA.sublist Zz) _ rfl;refine⟨_,l,λS h=>?_⟩;have E:=Dj h W Y
 have a:=by have:=K52.K' h W (by omega) H r;rw[K52.o_]at this;exact this
 generalize aB m _=N at*;generalize df _ N _=B at*;generalize eN B _=Q at*;refine K52.o8 rfl ?_ h (K52.k9 _);refine(bc (ρ':=[some (ag m ts),some (af N),some (af B),some (af Q)]) (S':=S) ?_).trans ?_
 ·rw[aD,hH Ja (ai rfl) E];rfl
 ·refine cv (gx (dv Jb (ai rfl) (du (d:=.lst _) (du (de (ai rfl) (ai rfl) (C4 (by grind))) ?_) rfl) a));rw[<-e];exact K52.uQ (d:=.tup _) (by rw[List.map_append];rfl) (by omega)
end
end K52
namespace K52
section
variable {R:aa}{ts:List Ti}{M:Li}{G:List (List Ti)}
end
section
variable {ts ps:List Ti}{bar:Li}
end
section
variable {ts ps:List Ti}
end
section
variable {ts ps:List Ti}
end
section
variable {ts ps:List Ti}
end
section
variable {ts ps:List Ti}
end
section
variable {ps:Lq}
theorem Dz(l:List D)(lo hi:Option Int):(b0 l lo hi).Sublist l:=(List.take_sublist _ _).trans (List.drop_sublist _ _)
theorem pM(l:List D)(lo hi:Option Int):(b0 l lo hi).length<=l.length:=(Dz l _ _).length_le
theorem sl_tup(l:List D)(lo hi:Option Int):ji (.tup l) lo hi S=.ok (.tup (b0 l lo hi)) S:=rfl
theorem pN{r:Int}(H:av S d=some xs)(h:0<=r)(h1:r<(xs.length:Nat)):∃x∈xs,bh d (.int r) S=.ok x S:=by
 have a:r.toNat<xs.length:=by omega
 have:fX xs r=some xs[r.toNat]:=by unfold fX gJ;simp_all
 unfold bh;simp_all
end
section
variable {ts ps:List Ti}
theorem L1(r:Flat T)(t:Ti){b:Nat}{q:List Ti}(m:T[b]?=some (ae q))(z:q.length<=1000):g6 [ar t,.ref b] T=.ok (.bl (ja t q)) T:=by
 refine bJ rfl ?_ rfl r rfl;show ah fT G0 kB [some (ar t),some (.ref b)] T=_;have o:bh (ar t) (.int 0) T=.ok (.int t.1) T:=rfl;have p:bh (ar t) (.int 1) T=.ok (.int t.2) T:=rfl
 have u:ak fT G0 AW [some (ar t),some (.ref b)] T=.ok (.lst (q.map λs=>.bl (cE t s))) T:=by
  refine cY (its:=.live (q.length+1) (bN b)) (S1:=T) (by simp only[aL,ak,Res.bind,Zk,Zh,cB,m,Option.getD_some];rw[show(ae q).length=q.length from Zf ..]) ?_
  have:=ve (f:=ar) (g:=λs=>[D.bl (cE t s)]) (c:=1) (S:=T) (k:=b) (xs:=q) (step:=λx a n=>match aI (.var 0) x [none,some (ar t)]with
    |some d=>(ax fT G0 [] d n).bind λk l=>if k=true then aP fT G0 (.emit AV) d a l else .ok a l
    |none=>.fail) (λ_=>by simp) m (λs A a h=>by
     have H:a.length<16777216:=by have:a.length+1<=16777216:=h;omega
     have i:aI (.var 0) (ar s) [none,some (ar t)]=some [some (ar s),some (ar t)]:=rfl;have I:=po (S:=T) t.1 s;have v:=po (S:=T) t.2 s;rw[i];unfold cE;cases e: !(decide (t.1≠s.1)&&decide (t.1≠s.2))<;>rw[e]at I<;>simp only[AV,ax,aP,ak,am,Res.bind,o,p,I,v,Res.noErr,bi,Zk,Zh,if_true,Bool.false_or,Bool.true_or,Bool.false_eq_true,if_false,H]) q.length 0 [] (by simp) (by show 0+1*q.length<=16777216;omega)
  rw[List.nil_append,List.drop_zero]at this;refine Eq.trans this ?_;congr 1;exact(List.map_eq_flatMap ..).symm
 have h:f8 [.lst (q.map λs=>.bl (cE t s))] T=.ok (.bl (q.any (cE t))) T:=by show aR (e_ ((q.map λs=>D.bl (cE t s)).map e8)) T=_;rw[ZP];have:(q.map (e8∘λs=>D.bl (cE t s)))=q.map λs=>some (cE t s):=rfl;rw[this,CL];rfl
 have j:(!q.any (cE t))=ja t q:=by unfold ja;rw[List.not_any_eq_all_not];congr 1;funext s;unfold cE cw;simp_all
 have E:kB=[.ret (.bnot (.blt .any [AW]))]:=rfl;rw[E];refine cv ?_;rw[<-j];rw[aD,ak,ak,am,u];simp[am,Res.bind,bj,h,bU,Res.noErr]
theorem pO:kD=[.asg 2 Jy,.asg 3 Jz,.asg 4 (.lst true []),.for_ (.tup [.var 5,.var 6]) D4 AZ,.ret (.blt .tuple [.blt (.sorted false (.seq .int)) [.var 4]])]:=rfl
theorem DA{x:D}:∀{xs:List D} {k:Nat},x∈dg k xs->∃(i:Nat),∃y∈xs,x=.tup [.int (i:Nat),y]
 | [],k,h=>by cases h
 |y::xs,k,h=>by
  rcases Zn.mp h with rfl|h
  ·exact⟨k,y,Zd,rfl⟩
  ·obtain⟨i,z,H,e⟩:=DA h;exact⟨i,z,Zc _ H,e⟩
theorem pP(W:bn m ts)(k:Flat S){fs:List Ti}(F:Found ts fs){t:Ti}(n:t∈ts){i:Nat}{c o:Int}:∃fs',Found ts fs'/\ah cP G0 AZ [x0,some (.int c),x2,some (.int o),some (.ref S.length),some (.int (i:Nat)),some (ar t)] (S++[ae fs])=.ok (.next [x0,some (.int c),x2,some (.int o),some (.ref S.length),some (.int (i:Nat)),some (ar t)]) (S++[ae fs']):=by
 have s:=F.length W;have h:=k.snoc (K52.i9 fs);have l:=L1 h t (b:=S.length) (q:=fs) ca (by omega);have j:eW [.int c,.int (71+(i:Int))] (S++[ae fs])=.ok _ (S++[ae fs]):=K52.py h _ _;have g:dy .Mod (.int (bY c (71+(i:Int)))) (.int 6) (S++[ae fs])=.ok _ (S++[ae fs]):=K52.cz (by omega);have f:=Ck (T:=S) (A:=ae fs) (d:=ar t) (by unfold ae;rw[Zf];lia);have H:fc (.ref S.length) [ar t] (S++[ae fs])=.ok .non (S++[ae (fs++[t])]):=by rw[f];unfold ae;rw[List.map_append];rfl
 have p:au cP G0 ur [x0,some (.int c),x2,some (.int o),some (.ref S.length),some (.int (i:Nat)),some (ar t)] (S++[ae fs])=.ok _ (S++[ae fs]):=
  hX (de (vc ut (eA (i:=1) rfl) (de cA (eA (i:=5) rfl) rfl) j) cA g) (de (eA (i:=3) rfl) cA rfl) rfl
 have r:au cP G0 D5 [x0,some (.int c),x2,some (.int o),some (.ref S.length),some (.int (i:Nat)),some (ar t)] (S++[ae fs])=.ok (ja t fs) (S++[ae fs]):=by unfold D5;simp only[au,am,ak,Res.bind,JA,l,bU,Zk,Zh]
 have e:au cP G0 (.band ur D5) _ (S++[ae fs])=.ok _ (S++[ae fs]):=qx p r;unfold AZ;cases a:(decide (bY c (71+(i:Int))%6<o+1)&&ja t fs)with
 |false=>rw[a]at e;exact⟨fs,F,by simp only[ah,aD,e,Res.bind,Bool.false_eq_true,if_false]⟩
 |true=>rw[a]at e;rw[ZW]at a;refine⟨fs++[t],F.add W n a.2,?_⟩;simp only[ah,aD,e,Res.bind,if_true,ak,am,cJ,H,Res.noErr,Zk,Zh]
theorem L3(W:bn m ts)(n:Flat S)(c:Int):∃ps,aV ts ps/\ps.length<=28/\g8 [ag m ts,.int c] S=.ok (.tup (ae ps)) S:=by
 have z:(ae ts).length<=28:=by unfold ae;rw[Zf];exact W.few
 have j:∀(k:Int),eW [.int c,.int k] S=.ok (.int (bY c k)) S:=λk=>K52.py n _ _;have A:∀{x:List (Option D)},ak cP G0 kC (some (ag m ts)::x) S=.ok (.tup (ae ts)) S:=hW (eA (i:=0) rfl) cA rfl;have v:fJ [.tup (ae ts)] S=.ok (.int ((ae ts).length:Nat)) S:=rfl
 have E:ak cP G0 Jy [some (ag m ts),some (.int c),none,none,none,none,none] S=.ok (.int (bY c 70%(((ae ts).length:Int)+1))) S:=
  de (vc ut (eA (i:=1) rfl) cA (j 70)) (de (e7 A v) cA rfl) (K52.cz (by omega))
 generalize bY c 70%(((ae ts).length:Int)+1)=f at E
 have G:ak cP G0 Jz [some (ag m ts),some (.int c),some (.int f),none,none,none,none] S=.ok (.int (1+bY c 69%5)) S:=
  de cA (de (vc ut (eA (i:=1) rfl) cA (j 69)) cA (K52.cz (by omega))) rfl
 generalize 1+bY c 69%5=o at G;have N:Flat (S++[ae []]):=n.snoc rfl;have H:∀L I,(b0 (ae ts) L I).length<=28:=λL I=>ZB (pM _ _ _) z
 have M:aL cP G0 D4 [some (ag m ts),some (.int c),some (.int f),some (.int o),some (.ref S.length),none,none] (S++[ae []])=.ok (.items (dg 0 (b0 (ae ts) (some f) none++b0 (ae ts) none (some f)))) (S++[ae []]):=by have V:bh (ag m ts) (.int 1) (S++[ae []])=.ok (.tup (ae ts)) (S++[ae []]):=rfl;have Y:ji (.tup (ae ts)) (some f) none (S++[ae []])=.ok (.tup (b0 (ae ts) (some f) none)) (S++[ae []]):=rfl;have Z:ji (.tup (ae ts)) none (some f) (S++[ae []])=.ok (.tup (b0 (ae ts) none (some f))) (S++[ae []]):=rfl;have q3:=K52.C4 (S:=S++[ae []]) (p:=b0 (ae ts) (some f) none) (q:=b0 (ae ts) none (some f)) (by have:=H (some f) none;have:=H none (some f);omega);unfold D4 kC;generalize ag m ts=w at*;generalize D.tup (ae ts)=tt at*;generalize S++[ae []]=U at*;simp only[aL,ak,am,Res.bind,V,cN,dh,Res.noErr,Y,Z,q3,f',Zk,Zh]
 obtain⟨a,C,⟨fs,y5,y6,F,rfl,rfl⟩,b⟩:=o9 (step:=λx r S=>match aE (.tup [.var 5,.var 6]) x r with
   |some a=>ah cP G0 AZ a S
   |none=>.fail) (λr U=>∃fs X J,Found ts fs/\r=[some (ag m ts),some (.int c),some (.int f),some (.int o),some (.ref S.length),X,J]/\U=S++[ae fs]) (dg 0 (b0 (ae ts) (some f) none++b0 (ae ts) none (some f))) (by
    rintro x R r U ⟨fs,X,J,F,rfl,rfl⟩;obtain⟨i,y,T,rfl⟩:=DA R;have B:y∈ae ts:=by rcases Zq.mp T with h|h<;>exact(Dz _ _ _).subset h
    obtain⟨t,Q,rfl⟩:=Zr.mp B;obtain⟨s,K,e⟩:=pP W n F Q (i:=i) (c:=c) (o:=o) (x0:=some (ag m ts)) (x2:=some (.int f));exact⟨_,_,⟨s,_,_,K,rfl,rfl⟩,e⟩) [some (ag m ts),some (.int c),some (.int f),some (.int o),some (.ref S.length),none,none] (S++[ae []]) ⟨[],none,none,⟨λt h=>(by cases h),List.nodup_nil⟩,rfl,rfl⟩
 have P:=F.length W;refine⟨sortI fs,F.pairing,by rw[(kP fs).length_eq];exact P,?_⟩
 have O:ah cP G0 kD [some (ag m ts),some (.int c),none,none,none,none,none] S=.ok (.ret (.tup (ae (sortI fs)))) (S++[ae fs]):=by
  rw[pO];refine(aJ E).trans ?_;show ah cP G0 _ [some (ag m ts),some (.int c),some (.int f),none,none,none,none] S=_;refine(aJ G).trans ?_;show ah cP G0 _ [some (ag m ts),some (.int c),some (.int f),some (.int o),none,none,none] S=_;refine(aJ (d:=.ref S.length) (S':=S++[ae []]) (by simp only[ak,am,Res.bind,if_true];rfl)).trans ?_;show ah cP G0 _ [some (ag m ts),some (.int c),some (.int f),some (.int o),some (.ref S.length),none,none] _=_;refine(bc (ρ':=[some (ag m ts),some (.int c),some (.int f),some (.int o),some (.ref S.length),y5,y6]) (S':=S++[ae fs]) ?_).trans ?_
  ·exact(eY (Γ:=G0) M).trans b
  ·exact cv (K52.gx (K52.du (K52.du (K52.ai (i:=4) rfl) (K52.BO (l:=fs) ca (by omega))) rfl))
 show az cP G0 kD uq.length 2 [ag m ts,.int c] S=_;have u:ah cP G0 kD (([ag m ts,.int c]:List D).map some++List.replicate (uq.length-2) none) S=_:=O;unfold az;rw[if_pos (show [ag m ts,D.int c].length=2 from rfl),u];show cC S.length (.tup (ae (sortI fs))) _=_;have g:bE 0 (.tup (ae (sortI fs)))=true:=K52.i9 _;rw[K52.g_ (by rw[Z9 rfl];exact n) g,Z9 rfl]
end
theorem L4:g4=K52.g4:=rfl
section
variable {ts ps:List Ti}
noncomputable def cb(ps:List Ti)(l:Li)(q:Int):Bool:=decide (K52.mt ps q∈l)
theorem lh(H:av T d=some (l.map D.int))(a:∀x∈l,0<=x)(q:Int):fw (bV (ay ps q)) d T=some (cb ps l q):=by
 unfold cb K52.mt;cases e:ay _ q with
 |some v=>exact gD H v
 |none=>
  have b:¬(none.getD (-1)∈l):=λh=>by have:=a _ h;simp at this
  rw[ZK b];unfold fw;simp only[H];rw[ZP];have E:(λy=>cF T bH y (bV none))∘D.int=λ_=>some _:=rfl;rw[E,K52.oJ];simp
theorem li{a b:CE}(h1:ak Φ G0 a ρ T=.ok (bV (ay ps q)) T)(H:ak Φ G0 b ρ T=.ok d T)(c:av T d=some (l.map D.int))(h:∀x∈l,0<=x):ak Φ G0 (.cmp .In a b) ρ T=.ok (.bl (cb ps l q)) T:=
 k7 h1 H (by show aR _ T=_;rw[lh c h];rfl)
theorem lj{a b:CE}(h1:ak Φ G0 a ρ T=.ok (bV (ay ps q)) T)(H:ak Φ G0 b ρ T=.ok d T)(c:av T d=some (l.map D.int))(h:∀x∈l,0<=x):au Φ G0 (.cmp .In a b) ρ T=.ok (cb ps l q) T:=
 hX h1 H (by show aR _ T=_;rw[lh c h];rfl)
theorem pQ{a:Type}{L:List a}{g:a->Bool}{e:CE}(h:ak Φ G0 e ρ T=.ok (.lst (L.map λo=>D.bl (g o))) T):au Φ G0 (.blt .all [e]) ρ T=.ok (L.all g) T:=
 qw (e7 h (by show aR _ T=_;rw[ZP,show(e8∘λo=>D.bl _)=λo=>some _ from rfl,K52.allO_map];rfl))
theorem qA{g:Type}{e:CE}{tg:CT}{rs:g->bD}{it:CE}{ds:List g}{h f:g->D}(o:T[k]?=some (ds.map h))(hi:aL Φ G0 it ρ T=.ok (.live (ds.length+1) (bN k)) T)(q:fr.map (λj=>j.bind λj=>(ρ[j]?).join)=r0)
  (m:∀d∈ds,aI tg (h d) r0=some (rs d)) (r:ds.length<=100000) (n:∀d∈ds,ak Φ G0 e (rs d) T=.ok (f d) T):ak Φ G0 (.comp false N fr tg it [] (.emit e)) ρ T=.ok (.lst (ds.map f)) T:=by
 refine cY hi ?_;rw[q]
 have:=K52.u3 (p:=λ_=>true) (e:=f) (step:=λy a l=>match aI _ y _ with
    |some b=>(ax Φ G0 [] b l).bind λk S=>if k=true then aP Φ G0 (.emit e) b a S else .ok a S
    |none=>.fail) o (λd i a c=>by have H:=c;rw[m d i];simp[ax,Res.bind,aP,n d i,H]) ds.length 0 [] (by simp) (by show 0+ds.length<=16777216;omega)
 rw[List.nil_append,List.drop_zero]at this;refine Eq.trans this ?_;rw[List.filter_eq_self.mpr λ_ _=>rfl]
theorem vr{v:Nat}(H:ρ[v]?=some (some (.ref k)))(h:T[k]?=some xs):aL Φ G0 (.seq (.var v)) ρ T=.ok (.live (xs.length+1) (bN k)) T:=by simp[aL,ak,H,Res.bind,cB,h]
theorem vt:∀(ks acc:List (Li)),acc.Nodup->(ks.foldl (λacc k=>if acc.contains k=true then acc else acc++[k]) acc).length<=acc.length+ks.length/\((ks.foldl (λacc k=>if acc.contains k=true then acc else acc++[k]) acc).length=acc.length+ks.length↔(acc++ks).Nodup)
 | [],acc,h=>by simp[h]
 |k::ks,acc,h=>by
  by_cases a:acc.contains k=true
  ·have i:=(vt ks _ h).1
   grind
  ·have H:(acc++[k]).Nodup:=by
    grind
   have i:=vt ks _ H
   grind
theorem L5(L:List (Li)):(L.map af).map ii=L:=by rw[ZP];refine(List.map_congr_left λl _=>?_).trans (List.map_id L);exact K52.vm l
theorem L6(f:Flat S){L:List (Li)}(i:L.length<76):gY [.lst (L.map af)] S=.ok (.bl (decide L.Nodup)) S:=by
 refine bJ rfl ?_ rfl f rfl
 have H:∃n:Nat,jM (.lst (L.map af)) S=.ok (.int (n:Nat)) S/\(n=L.length↔L.Nodup):=by
  cases L with
  |nil=>exact⟨0,rfl,by simp⟩
  |cons c L=>
   have E:¬(((c::L).map af).all (aw .int)=true/\((c::L).map af).length<1000):=λz=>by have:=z.1;rw[ZX]at this;have e:aw .int (af c)=false:=rfl;simp_all
   have b:((c::L).map af).all (aw (.seq .int))=true:=by rw[ZG];intro x a;obtain⟨t,_,rfl⟩:=Zr.mp a;show(t.map D.int).all _=true;rw[ZG];intro x a;obtain⟨t,_,rfl⟩:=Zr.mp a;rfl
   have h:=(vt (c::L) [] List.nodup_nil).2;rw[List.length_nil,Nat.zero_add]at h;refine⟨(gP (c::L)).length,?_,h⟩;show(if((c::L).map af).all (aw .int)=true/\((c::L).map af).length<1000 then Res.ok (D.int ((eI (((c::L).map af).filterMap cI)).length:Nat)) S else if((c::L).map af).all _=true/\((c::L).map af).length<76 then Res.ok _ S else .fail)=_;rw[if_neg E,if_pos ⟨b,by simp_all⟩,L5]
 obtain⟨n,H,g⟩:=H;have d:bj .len [.lst (L.map af)] S=.ok (.int (L.length:Nat)) S:=by show Res.ok _ S=_;simp_all
 have h:a7 .Eq (.int (n:Nat)) (.int (L.length:Nat)) S=.ok (.bl (decide L.Nodup)) S:=by
  have e:a7 .Eq (.int (n:Nat)) (.int (L.length:Nat)) S=.ok _ S:=rfl;rw[e];have:((n:Int)==(L.length:Int))=decide L.Nodup:=by lia
  rw[this]
 simp[uc,ah,aD,ak,am,Res.bind,Res.noErr,H,d,h]
theorem L7(p q:Li)(h:p.length=q.length):a7 .Eq (.lst (p.map D.int)) (.lst (q.map D.int)) S=.ok (.bl (decide (p=q))) S:=by have e:cF S bH (.lst _) (.lst _)=if(p.map D.int).length=(q.map D.int).length then bv _ else some _:=rfl;show aR _ S=_;rw[e,if_pos (by simp_all),K52.C1,<-h,List.take_length,h,List.take_length];rfl
theorem pR:kz=[.expr (.call "must_be_pairing" [.var 0,.var 1]),.asgT (.tup [.var 2,.var 3,.var 4]) (.call "parts" [.var 0]),.asg 5 (.call "missed_pieces" [.var 0]),.ite (.bnot (.blt .all [Jc])) [.ret (.lit (.bl false))] [],.asg 6 Jd,.ite (.bnot (.blt .all [Je])) [.ret (.lit (.bl false))] [],.ite (.bnot (.call "are_unlike" [DY])) [.ret (.lit (.bl false))] [],.asg 7 Jg,.ret (.cmp .Eq (.var 7) Jh)]:=rfl
noncomputable def cZ(ps:List Ti)(B:Li)(C:List (Li)):List (Li):=C.flatMap λc=>(B.filter (cb ps c)).map λ_=>c
theorem vx{B c:Li}{a:List D}(d:∀x∈c,0<=x)(g:a.length+B.length<=16777216):bx (λx a S2=>match aI (.var 1) x [some (af c),none,some (.lst (B.map λq=>bV (ay ps q)))]with
    |some ρ'=>(ax bF G0 [.cmp .In (.var 1) (.var 0)] ρ' S2).bind λk S3=>if k=true then aP bF G0 (.emit (.var 0)) ρ' a S3 else .ok a S3
    |none=>.fail) (B.map λq=>bV (ay ps q)) a T=.ok (a++(B.filter (cb ps c)).map λ_=>af c) T:=by
 refine kO B _ (λq j a f=>?_) g;have h:=f;generalize i:D.lst _=M;have H:aI (.var 1) (bV (ay ps q)) [some (af c),none,some M]=some _:=rfl;rw[H];have b:au bF _ (.cmp _ (.var 1) (.var 0)) [some (af c),some _,some M] T=.ok (cb ps c q) T:=lj (ai rfl) (ai rfl) rfl d;cases e:cb _ c q<;>rw[e]at b<;>simp[ax,b,aP,ak,Res.bind,h]
theorem vy{B:Li}{b:Nat}{x1:Option D}(H:T[b]?=some (C.map af))(L:B.length<=8)(o:C.length<=8)(f:∀c∈C,∀x∈c,0<=x):ak bF G0 DY [x0,x1,x2,x3,x4,some (.ref b),some (.lst (B.map λq=>bV (ay ps q))),x7] T=.ok (.lst ((cZ ps B C).map af)) T:=by
 have m:=vr (Φ:=bF) (v:=5) (ρ:=[x0,x1,x2,x3,x4,some _,some (.lst (B.map λq=>bV (ay ps q))),x7]) rfl H;refine cY m ?_
 have:=K52.ve (g:=λc=>(B.filter _).map _) (c:=8) (step:=λx a e=>match aI _ x _ with
    |some d=>(ax bF G0 [] d e).bind λk S=>if k=true then aP _ G0 Jf d a S else .ok a S
    |none=>.fail) (λc=>by grind) H (λc l a i=>by have j:a.length+8<=16777216:=i;have h:aI (.var 0) _ [none,none,some _]=some [some (af c),none,some (.lst (B.map λq=>bV (ay ps q)))]:=rfl;rw[h];simp[ax,Res.bind];unfold Jf;rw[aP];have n:aL bF G0 (.seq (.var 2)) [some (af c),none,some (.lst (B.map λq=>bV (ay ps q)))] T=.ok _ T:=bW (ai rfl) rfl;exact vx (f c l) (by omega)) C.length 0 [] (by simp) (by show 0+8*C.length<=16777216;omega)
 rw[List.nil_append]at this;rw[Zf];refine Eq.trans this ?_;unfold cZ;rw[List.map_flatMap];congr 1;congr 1;funext c;simp_all
end
section
variable {ts ps:List Ti}{G:List (List Ti)}{N B Q:Li}
noncomputable def insB(ps:List Ti)(c:Li):Bool:=decide ((c.filter (cb ps c)).length+1=c.length)
noncomputable def h_(ps:List Ti)(N B Q:Li)(C:List (Li)):Bool:=Q.all (cb ps Q)&&(B.all (cb ps N)&&(decide (cZ ps B C).Nodup&&C.all (insB ps)))
theorem DB(l:B.length<=8):∀C:List (Li),(cZ ps B C).length<=8*C.length
 | []=>Yj _
 |c::C=>by
  have i:=DB l C;show((B.filter _).map _++cZ _ B C).length<=_
  grind
theorem pS:decide (C.map (λc=>(((c.filter (cb ps c)).length:Nat):Int))=C.map λc=>((c.length:Nat):Int)-1)=C.all (insB ps):=by
 induction C with
 |nil=>rfl
 |cons c C i=>
  rw[List.all_cons,<-i,ZX];unfold insB
  grind
theorem L8(n:Flat S)(O:C5 m ts ps)(hp:ps.length<=28)(ep:g5 [ag m ts] S=.ok (.tup [af N,af B,af Q]) S)(e:ky [ag m ts] S=.ok (.ref S.length) (S++[C.map af]))(lN:N.length<=8)(L:B.length<=8)(lQ:Q.length<=8)(W:C.length<=8)(P:∀x∈N,0<=x)(U:∀x∈Q,0<=x)(l:∀c∈C,c.length<=1000/\∀x∈c,0<=x):oA [ag m ts,pD ps] S=.ok (.bl (h_ ps N B Q C)) S:=by
 have I:g4 [ag m ts,pD ps] S=.ok .non S:=by rw[L4];exact K52.KL n O.W O.P (by omega)
 have H:Flat (S++[C.map af]):=n.snoc (K52.k9 C)
 have V:ah bF G0 kz [some (ag m ts),some (pD ps),none,none,none,none,none,none] S=.ok (.ret (.bl (h_ ps N B Q C))) (S++[C.map af]):=by
  rw[pR];refine(bc (ρ':=[some (ag m ts),some (pD ps),none,none,none,none,none,none]) (S':=S) (by rw[aD,dv Ji (ai rfl) (ai rfl) I];rfl)).trans ?_;refine(bc (ρ':=[some (ag m ts),some (pD ps),some (af N),some (af B),some (af Q),none,none,none]) (S':=S) (by rw[aD,hH Jj (ai rfl) ep];rfl)).trans ?_;refine(aJ (d:=.ref S.length) (S':=S++[C.map af]) (hH Jk (ai rfl) e)).trans ?_;have g:(S++[C.map af])[S.length]?=some (C.map af):=ca;generalize S++[C.map af]=T at*;generalize S.length=b at*;generalize ag m ts=w at*;show ah bF G0 _ [some w,some (pD ps),some (af N),some (af B),some (af Q),some (.ref b),none,none] T=_;have e:∀q,fm [pD ps,.int q] T=.ok (bV (ay ps q)) T:=λq=>K52.uI H ps q
  have t:au bF G0 (.bnot (.blt .all [Jc])) [some w,some (pD ps),some (af N),some (af B),some (af Q),some (.ref b),none,none] T=.ok (!(Q.all (cb ps Q))) T:=
   eF (pQ (e5 (h:=D.int) (f:=λq=>D.bl (cb ps Q q)) (ds:=Q) (r0:=[none,some (pD ps),some (af Q)]) (rs:=λq=>[some (.int q),some (pD ps),some (af Q)]) (bW (ai rfl) rfl) rfl (λ_ _=>rfl) (by omega) λq _=>li (dv ul (ai rfl) (ai rfl) (e q)) (ai rfl) rfl U))
  unfold h_;cases u:Q.all (cb ps Q)with
  |false=>rw[u]at t;rw[Bool.false_and];exact k8 t
  |true=>
  rw[u]at t;rw[Bool.true_and];refine(je t).trans ?_
  have A:ak bF G0 Jd [some w,some (pD ps),some (af N),some (af B),some (af Q),some (.ref b),none,none] T=.ok (.lst (B.map λq=>bV (ay ps q))) T:=
   e5 (h:=D.int) (f:=λq=>bV (ay ps q)) (ds:=B) (r0:=[none,some (pD ps)]) (rs:=λq=>[some (.int q),some (pD ps)]) (bW (ai rfl) rfl) rfl (λ_ _=>rfl) (by omega) λq _=>dv ul (ai rfl) (ai rfl) (e q)
  refine(aJ A).trans ?_;show ah bF G0 _ [some w,some (pD ps),some (af N),some (af B),some (af Q),some (.ref b),some (.lst (B.map λq=>bV (ay ps q))),none] T=_
  have j:au bF G0 (.bnot (.blt .all [Je])) [some w,some (pD ps),some (af N),some (af B),some (af Q),some (.ref b),some (.lst (B.map λq=>bV (ay ps q))),none] T=.ok (!(B.all (cb ps N))) T:=
   eF (pQ (e5 (h:=λq=>bV (ay ps q)) (f:=λq=>D.bl (cb ps N q)) (ds:=B) (r0:=[none,some (af N)]) (rs:=λq=>[some (bV (ay ps q)),some (af N)]) (bW (ai rfl) rfl) rfl (λ_ _=>rfl) (by omega) λq _=>li (ai rfl) (ai rfl) rfl P))
  cases y:B.all (cb ps N)with
  |false=>rw[y]at j;rw[Bool.false_and];exact k8 j
  |true=>
  rw[y]at j;rw[Bool.true_and];refine(je j).trans ?_;have E:=vy (ps:=ps) (B:=B) (x0:=some w) (x1:=some (pD ps)) (x2:=some (af N)) (x3:=some (af B)) (x4:=some (af Q)) (x7:=none) g L W λc a=>(l c a).2
  have k:au bF G0 (.bnot (.call "are_unlike" [DY])) [some w,some (pD ps),some (af N),some (af B),some (af Q),some (.ref b),some (.lst (B.map λq=>bV (ay ps q))),none] T=.ok (!(decide (cZ ps B C).Nodup)) T:=
   eF (pE Jl E (L6 H (by have:=DB (ps:=ps) L C;omega)))
  cases z:decide (cZ ps B C).Nodup with
  |false=>rw[z]at k;rw[Bool.false_and];exact k8 k
  |true=>
  rw[z]at k;rw[Bool.true_and];refine(je k).trans ?_;generalize D.lst (B.map λq=>bV (ay ps q))=X at*
  have F:ak bF G0 Jg [some w,some (pD ps),some (af N),some (af B),some (af Q),some (.ref b),some X,none] T=.ok (.lst (C.map λc=>D.int ((c.filter (cb ps c)).length:Nat))) T:=by
   refine qA (h:=af) (f:=λc=>D.int ((c.filter (cb ps c)).length:Nat)) (ds:=C) (r0:=[none,some (pD ps)]) (rs:=λc=>[some (af c),some (pD ps)]) g ?_ rfl (λ_ _=>rfl) (by omega) λc a=>?_
   ·have:=vr (Φ:=bF) (v:=5) (ρ:=[some w,some (pD ps),some (af N),some (af B),some (af Q),some (.ref b),some X,none]) rfl g;rw[Zf]at this;exact this
   ·have M:ak bF G0 Mw [some (af c),some (pD ps)] T=.ok (.lst ((c.filter (cb ps c)).map D.int)) T:=
     ec (h:=D.int) (f:=D.int) (p:=cb ps c) (r0:=[none,some (pD ps),some (af c)]) (rs:=λq=>[some (.int q),some (pD ps),some (af c)]) (bW (ai rfl) rfl) rfl (λ_ _=>rfl) (by have:=(l c a).1;omega) (λq _=>lj (dv ul (ai rfl) (ai rfl) (e q)) (ai rfl) rfl (l c a).2) λq _ _=>ai rfl
    refine e7 M ?_;show Res.ok (D.int (((c.filter (cb ps c)).map D.int).length:Nat)) T=_;rw[Zf]
  refine(aJ F).trans ?_;show ah bF G0 _ [some w,some (pD ps),some (af N),some (af B),some (af Q),some (.ref b),some X,some (.lst (C.map λc=>D.int ((c.filter (cb ps c)).length:Nat)))] T=_
  have G:ak bF G0 Jh [some w,some (pD ps),some (af N),some (af B),some (af Q),some (.ref b),some X,some (.lst (C.map λc=>D.int ((c.filter (cb ps c)).length:Nat)))] T=.ok (.lst (C.map λc=>D.int (((c.length:Nat):Int)-1))) T:=by
   refine qA (h:=af) (f:=λc=>D.int (((c.length:Nat):Int)-1)) (ds:=C) (r0:=[none]) (rs:=λc=>[some (af c)]) g ?_ rfl (λ_ _=>rfl) (by omega) λc a=>?_
   ·have:=vr (Φ:=bF) (v:=5) (ρ:=[some w,some (pD ps),some (af N),some (af B),some (af Q),some (.ref b),some X,some (.lst (C.map λc=>D.int ((c.filter (cb ps c)).length:Nat)))]) rfl g;rw[Zf]at this;exact this
   ·refine de (d:=.int ((c.length:Nat):Int)) (e7 (d:=af c) (ai rfl) ?_) cA rfl;show Res.ok (D.int ((c.map D.int).length:Nat)) T=_;rw[Zf]
  refine cv (gx (k7 (ai rfl) G ?_));have J:(C.map λc=>D.int ((c.filter (cb ps c)).length:Nat))=(C.map λc=>(((c.filter (cb ps c)).length:Nat):Int)).map D.int:=by rw[ZP];rfl
  have K:(C.map λc=>D.int (((c.length:Nat):Int)-1))=(C.map λc=>((c.length:Nat):Int)-1).map D.int:=by rw[ZP];rfl
  rw[J,K,L7 _ _ (by rw[Zf,Zf]),pS]
 show az bF G0 kz uk.length 2 [ag m ts,pD ps] S=_;unfold az;rw[if_pos (show [ag m ts,pD ps].length=2 from rfl),show ah bF G0 kz (([ag m ts,pD ps]:List D).map some++List.replicate (uk.length-2) none) S=_ from V];show cC S.length (.bl (h_ ps N B Q C)) (S++[C.map af])=_;rw[K52.g_ (by rw[Z9 rfl];exact n) rfl,Z9 rfl]
noncomputable def fV(ps:List Ti)(B c:Li):Bool:=insB ps c&& !decide (1<(B.filter (cb ps c)).length)
noncomputable def fF(ps:List Ti)(N B Q:Li)(C:List (Li)):Bool:=(Q.all (cb ps Q)&&B.all (cb ps N))&&C.all (fV ps B)
theorem L9{c:Li}:∀F:Li,(F.map λ_=>c).Nodup↔F.length<=1
 | []=>by simp
 | [a]=>by simp
 |a::b::F=>by simp
theorem L_(h:C.Nodup):(cZ ps B C).Nodup↔∀c∈C,(B.filter (cb ps c)).length<=1:=by
 induction C with
 |nil=>exact⟨λ_ c H=>(by cases H),λ_=>List.nodup_nil⟩
 |cons c C i=>
  rw[Yb]at h;have e:cZ _ B (c::C)=(B.filter _).map _++cZ ps B C:=rfl
  have g:∀x,x∈cZ ps B C->x∈C:=λx a=>by obtain⟨d,f,b⟩:=List.mem_flatMap.mp a;simp_all
  rw[e,ZJ,L9]
  grind
theorem L'(h:C.Nodup):fF ps N B Q C=h_ ps N B Q C:=by
 unfold fF h_;rw[Bool.and_assoc];congr 1;congr 1;rw[Bool.eq_iff_iff,ZW,decide_eq_true_eq,L_ h];unfold fV
 grind
theorem Ma{a:Type}{step:D->bD->aa->Res Fl}{xs:List a}{f:a->D}{p:a->Bool}{J:bD->Prop}(g:T[k]?=some (xs.map f))(hs:∀x∈xs,∀ρ,J ρ->if p x=true then ∃ρ',J ρ'/\step (f x) ρ T=.ok (.next ρ') T else step (f x) ρ T=.ok (.ret (.bl false)) T):∀n i ρ,i+n=xs.length->J ρ->if(xs.drop i).all p=true then ∃ρ',J ρ'/\dN step (bN k) (n+1) i ρ T=.ok (.next ρ') T else dN step (bN k) (n+1) i ρ T=.ok (.ret (.bl false)) T:=by
 have H:∀i,bN k T i=some ((xs.map f)[i]?):=λi=>by unfold bN;rw[g];rfl
 intro n
 induction n with
 |zero=>
  intro i ρ d j;rw[List.drop_eq_nil_of_le (by omega),if_pos (show([]:List a).all p=true from rfl)];refine⟨ρ,j,?_⟩;unfold dN
  grind
 |succ n I=>
  intro i ρ d j;have c:(xs.map f)[i]?=some (f xs[i]):=by grind
  rw[List.drop_eq_getElem_cons (by omega),List.all_cons];have h:=hs xs[i] (List.getElem_mem _) ρ j;cases b:p xs[i]with
  |false=>rw[b,if_neg (by decide)]at h;rw[Bool.false_and,if_neg (by decide)];unfold dN;rw[H,c];dsimp only;rw[h];rfl
  |true=>rw[b,if_pos rfl]at h;obtain⟨ρ',l,e⟩:=h;rw[Bool.true_and];have:=I (i+1) ρ' (by omega) l;unfold dN;rw[H,c];dsimp only;rw[e];exact this
theorem pT:kH=[.asgT (.tup [.var 2,.var 3,.var 4]) (.call "_law_parts" [.var 0]),.asg 5 (.call "_law_mates" [.var 0,.var 1]),.ite (.bor (.bnot (.blt .all [A_])) (.bnot (.blt .all [A']))) [.ret (.lit (.bl false))] [],.for_ (.var 6) (.seq (.call "_law_pieces" [.var 0,.var 2])) oC,.ret (.lit (.bl true))]:=rfl
theorem ll{v b:Nat}{c:Li}{x1:Option D}(e:T[b]?=some ((aT m ps).map D.int))(f:[x0,x1,x2,x3,x4,some (.ref b),some (af c),x7][v]?=some (some (af l)))(g:l.length<=1000)(a:∀q∈l,0<=q/\q<m):ak cQ G0 (JT v) [x0,x1,x2,x3,x4,some (.ref b),some (af c),x7] T=.ok (.lst ((l.filter (cb ps c)).map D.int)) T:=
 ec (bW (ai f) rfl) rfl (λ_ _=>rfl) (by omega) (λq H=>hX (hW (ai rfl) (ai rfl) (Dc e (a q H).1 (a q H).2)) (ai rfl) (by have h:=gD (S:=T) (d:=af c) rfl (K52.mt ps q);show aR _ T=_;rw[h];rfl)) λq _ _=>ai rfl
theorem DC(l:Li):bj .len [.lst (l.map D.int)] T=.ok (.int (l.length:Nat)) T:=by show Res.ok _ T=_;simp_all
theorem Mb(l:Li):bj .len [af l] T=.ok (.int (l.length:Nat)) T:=by show Res.ok _ T=_;simp_all
theorem pU{b:Nat}{c:Li}{x1:Option D}(H:T[b]?=some ((aT m ps).map D.int))(l:c.length<=1000)(L:B.length<=8)(g:∀q∈c,0<=q/\q<m)(f:∀q∈B,0<=q/\q<m):if fV ps B c=true then ∃y,ah cQ G0 oC [x0,x1,x2,some (af B),x4,some (.ref b),some (af c),x7] T=.ok (.next [x0,x1,x2,some (af B),x4,some (.ref b),some (af c),y]) T else ah cQ G0 oC [x0,x1,x2,some (af B),x4,some (.ref b),some (af c),x7] T=.ok (.ret (.bl false)) T:=by
 have d:=ll (v:=6) (x0:=x0) (x1:=x1) (x2:=x2) (x3:=some (af B)) (x4:=x4) (x7:=x7) H rfl l g
 have h:au cQ G0 Mz [x0,x1,x2,some (af B),x4,some (.ref b),some (af c),some (.lst ((c.filter (cb ps c)).map D.int))] T=.ok (!(fV ps B c)) T:=by
  have e:=ll (v:=3) (c:=c) (x0:=x0) (x1:=x1) (x2:=x2) (x4:=x4) (x7:=some (.lst ((c.filter (cb ps c)).map D.int))) H rfl (by omega) f
  have Q:au cQ G0 (.cmp .NotEq (.bin .Add (.blt .len [.var 7]) (.lit (.int 1))) (.blt .len [.var 6])) [x0,x1,x2,some (af B),x4,some (.ref b),some _,some (.lst ((c.filter (cb ps c)).map _))] T=.ok _ T:=
   hX (de (e7 (ai rfl) (DC _)) cA rfl) (e7 (ai rfl) (Mb c)) rfl
  have i:au _ G0 (.cmp .Gt _ (.lit (.int 1))) _ T=.ok _ T:=
   hX (e7 e (DC _)) cA rfl
  have:=u_ Q i;refine Eq.trans this ?_;congr 1;unfold fV insB
  grind
 cases a:fV ps B c with
 |true=>rw[a]at h;refine⟨some (.lst ((c.filter (cb ps c)).map D.int)),?_⟩;refine(aJ d).trans ?_;exact(je h).trans rfl
 |false=>rw[a]at h;refine(aJ d).trans ?_;exact k8 h
theorem Mc(r:Flat S)(O:C5 m ts ps)(ep:∀T,Flat T->kF [ag m ts] T=.ok (.tup [af N,af B,af Q]) T)(W:∀T,Flat T->kG [ag m ts,af N] T=.ok (.ref T.length) (T++[C.map af]))(lB:B.length<=8)(lQ:Q.length<=8)(lC:C.length<=8)(A:∀x∈B,0<=x/\x<m)(Y:∀x∈Q,0<=x/\x<m)(E:∀c∈C,c.length<=1000/\∀x∈c,0<=x/\x<m):oD [ag m ts,pD ps] S=.ok (.bl (fF ps N B Q C)) S:=by
 have M:=ep S r;have P:kE [ag m ts,pD ps] S=.ok (.ref S.length) (S++[(aT m ps).map D.int]):=K52.LH O r;have u:Flat (S++[(aT m ps).map D.int]):=r.snoc (K52.eX _);have U:=W _ u
 have v:∃R,ah cQ G0 kH [some (ag m ts),some (pD ps),none,none,none,none,none,none] S=.ok (.ret (.bl (fF ps N B Q C))) (S++R):=by
  rw[pT];have a:(S++[(aT m ps).map D.int])[S.length]?=some ((aT m ps).map D.int):=ca;have o:∀(T:aa),T[S.length]?=some ((aT m ps).map D.int)->∀(l:Li) (q:Int),0<=q/\q<m->ak cQ G0 (.cmp .In (.idx (.var 1) (.var 0)) (.var 2)) [some (.int q),some (.ref S.length),some (af l)] T=.ok (.bl (cb ps l q)) T:=λT Z l q g=>vf (l:=l) (d:=af l) (q:=K52.mt ps q) (hW (ai rfl) (ai rfl) (Dc Z g.1 g.2)) (ai rfl) rfl
  have y:ah cQ G0 [.asgT (.tup [.var 2,.var 3,.var 4]) (.call "_law_parts" [.var 0]),.asg 5 (.call "_law_mates" [.var 0,.var 1]),.ite (.bor (.bnot (.blt .all [A_])) (.bnot (.blt .all [A']))) [.ret (.lit (.bl false))] [],.for_ (.var 6) (.seq (.call "_law_pieces" [.var 0,.var 2])) oC,.ret (.lit (.bl true))] [some (ag m ts),some (pD ps),none,none,none,none,none,none] S=ah cQ G0 [.ite (.bor (.bnot (.blt .all [A_])) (.bnot (.blt .all [A']))) [.ret (.lit (.bl false))] [],.for_ (.var 6) (.seq (.call "_law_pieces" [.var 0,.var 2])) oC,.ret (.lit (.bl true))] [some (ag m ts),some (pD ps),some (af N),some (af B),some (af Q),some (.ref S.length),none,none] (S++[(aT m ps).map D.int]):=by refine(bc (ρ':=[some (ag m ts),some (pD ps),some (af N),some (af B),some (af Q),none,none,none]) (S':=S) (by rw[aD,hH JU (ai rfl) M];rfl)).trans ?_;exact(aJ (d:=.ref S.length) (S':=S++[(aT m ps).map D.int]) (dv JV (ai rfl) (ai rfl) P))
  rw[y]
  have n:au cQ G0 (.bor (.bnot (.blt .all [A_])) (.bnot (.blt .all [A']))) [some (ag m ts),some (pD ps),some (af N),some (af B),some (af Q),some (.ref S.length),none,none] (S++[(aT m ps).map D.int])=.ok (!(Q.all (cb ps Q))|| !(B.all (cb ps N))) (S++[(aT m ps).map D.int]):=
   u_ (eF (pQ (e5 (h:=D.int) (f:=λq=>D.bl (cb ps Q q)) (ds:=Q) (r0:=[none,some (.ref S.length),some (af Q)]) (rs:=λq=>[some (.int q),some (.ref S.length),some (af Q)]) (bW (ai rfl) rfl) rfl (λ_ _=>rfl) (by omega) λq g=>o _ a Q q (Y q g))))
    (eF (pQ (e5 (h:=D.int) (f:=λq=>D.bl (cb ps N q)) (ds:=B) (r0:=[none,some (.ref S.length),some (af N)]) (rs:=λq=>[some (.int q),some (.ref S.length),some (af N)]) (bW (ai rfl) rfl) rfl (λ_ _=>rfl) (by omega) λq g=>o _ a N q (A q g))))
  unfold fF;rw[<-Bool.not_and]at n;cases I:(Q.all (cb ps Q)&&B.all (cb ps N))with
  |false=>rw[I]at n;rw[Bool.false_and];exact⟨_,k8 n⟩
  |true=>
  rw[I]at n;rw[Bool.true_and];refine⟨[(aT m ps).map D.int,C.map af],(je n).trans ?_⟩;have V:S++[(aT m ps).map D.int,C.map af]=S++[(aT m ps).map D.int]++[C.map af]:=by rw[Z7];rfl
  rw[V];have w:(S++[(aT m ps).map D.int]++[C.map af])[S.length]?=some ((aT m ps).map D.int):=by rw[Zw (by simp)];exact a
  have i:(S++[(aT m ps).map D.int]++[C.map af])[(S++[(aT m ps).map D.int]).length]?=some (C.map af):=ca;have F:aL cQ G0 (.seq (.call "_law_pieces" [.var 0,.var 2])) [some (ag m ts),some (pD ps),some (af N),some (af B),some (af Q),some (.ref S.length),none,none] (S++[(aT m ps).map D.int])=.ok (.live (C.length+1) (bN (S++[(aT m ps).map D.int]).length)) (S++[(aT m ps).map D.int]++[C.map af]):=by simp only[aL,ak,am,Zk,Zh,Res.bind,JW,U,cB,i,Option.getD_some,Zf]
  generalize S++[(aT m ps).map D.int]++[C.map af]=T at*
  have H:=Ma (T:=T) (k:=(S++[(aT m ps).map D.int]).length) (xs:=C) (f:=af) (p:=fV ps B) (step:=λx s S=>match aE (.var 6) x s with
   |some e=>ah cQ G0 oC e S
   |none=>.fail) (J:=λs=>∃z X,s=[some (ag m ts),some (pD ps),some (af N),some (af B),some (af Q),some (.ref S.length),z,X]) i (by
    rintro c G s ⟨z,X,rfl⟩;have h:=pU (T:=T) (b:=S.length) (c:=c) (B:=B) (x0:=some (ag m ts)) (x1:=some (pD ps)) (x2:=some (af N)) (x4:=some (af Q)) (x7:=X) w (E c G).1 lB (E c G).2 A;cases j:fV ps B c with
    |true=>rw[j,if_pos rfl]at h;rw[if_pos rfl];obtain⟨y7,h⟩:=h;exact⟨_,⟨some (af c),y7,rfl⟩,h⟩
    |false=>rw[j,if_neg (by decide)]at h;rw[if_neg (by decide)];exact h) C.length 0 _ (Nat.zero_add _) ⟨none,none,rfl⟩
  rw[List.drop_zero]at H;cases j:C.all (fV ps B)with
  |true=>rw[j,if_pos rfl]at H;obtain⟨e,⟨z,X,rfl⟩,H⟩:=H;refine(bc (Eq.trans (eY (t:=.var 6) (body:=oC) F) H)).trans rfl
  |false=>rw[j,if_neg (by decide)]at H;exact cv (Eq.trans (eY (t:=.var 6) (body:=oC) F) H)
 obtain⟨R,v⟩:=v;show az cQ G0 kH uv.length 2 [ag m ts,pD ps] S=_;unfold az;rw[if_pos (show [ag m ts,pD ps].length=2 from rfl),show ah cQ G0 kH (([ag m ts,pD ps]:List D).map some++List.replicate (uv.length-2) none) S=_ from v];show cC S.length (.bl (fF ps N B Q C)) (S++R)=_;rw[K52.g_ (by rw[Z9 rfl];exact r) rfl,Z9 rfl]
end
theorem pV:i5=K52.i5:=rfl
theorem Md:i3=K52.i3:=rfl
theorem Me:fo=K52.fo:=rfl
theorem Mf:gr=K52.gr:=rfl
theorem Mh:g8=K52.g8:=rfl
section
variable {ts ps:List Ti}{G:List (List Ti)}{N B Q:Li}
theorem Mi(W:bn m ts):(jl so ts m.toNat).Nodup:=by unfold jl;have d:((aq so m.toNat).filter (K52.own so ts m.toNat)).Pairwise _:=(Pc.gA.sublist Zz).sublist Zz;rw[List.nodup_iff_pairwise_ne,Z3];refine List.Pairwise.imp_of_mem (λ{a b} H c h e=>?_) d;obtain⟨l,E⟩:=K52.Dy W H;obtain⟨k,f⟩:=K52.Dy W c;simp_all
noncomputable def DD:List CS:=[.asg 2 (.call "is_parted" [.var 0,.var 1]),.ret (.band (.blt .isinst [.var 2,.ty "bool"]) (.cmp .Eq (.var 2) (.call "_law_parted" [.var 0,.var 1])))]
theorem vz:uw=DD:=rfl
theorem vA(b:Flat S)(W:bn m ts)(P:aV ts ps)(K:ps.length<=28):kJ [ag m ts,pD ps] S=.ok (.bl true) S:=by
 have Z:=W.lo;have z:=W.hi;have O:C5 m ts ps:=⟨W,P⟩;obtain⟨G,k,Y⟩:=K52.CQ W;obtain⟨s,U,E⟩:=K52.L0 b W Y;have D:=K52.Dj b W Y;have n:=λ(T:aa) (j:Flat T)=>K52.LM j W Y;have o:∀q∈aB m (aA G k),0<=q/\q<m:=λq h=>by have:=gw (Zm.mp h).1;omega
 have i:∀q∈aq (aB m (aA G k)) m.toNat,0<=q/\q<m:=λq h=>by have:=(K52.dd.mp h).1;omega
 rw[K52.LP W i o]at n;have M:(aB m (aA G k)).length<=8:=by have:=K52.hY (m:=m) (f:=gH m (aA G k));unfold aB;omega
 have u:=K52.pK (so:=aB m (aA G k)) z;have A:=λ(T:aa) (j:Flat T)=>K52.LY j W U;have E:=E S b;have J:∀q∈df ts (aB m (aA G k)) (aq (aB m (aA G k)) m.toNat),0<=q/\q<m:=λq h=>i q (Zm.mp h).1;have r:∀q∈eN (df ts (aB m (aA G k)) (aq (aB m (aA G k)) m.toNat)) (aq (aB m (aA G k)) m.toNat),0<=q/\q<m:=λq h=>i q (Zm.mp h).1;have L:(df ts (aB m (aA G k)) (aq (aB m (aA G k)) m.toNat)).length<=8:=ZB (ZE _ _) u;have y:(eN (df ts (aB m (aA G k)) (aq (aB m (aA G k)) m.toNat)) (aq (aB m (aA G k)) m.toNat)).length<=8:=ZB (ZE _ _) u;generalize aB m (aA G k)=N at*;generalize df ts N (aq N m.toNat)=B at*;generalize eN B (aq N m.toNat)=Q at*;have t:=K52.pL (so:=s) (ts:=ts) z;have l:=Mi (so:=s) W
 have g:∀c∈jl s ts m.toNat,c.length<=1000/\∀x∈c,0<=x/\x<m:=λc e=>by
  obtain⟨a,_,rfl⟩:=Zr.mp e;refine⟨?_,λx H=>?_⟩
  ·have:=K52.hY (m:=m) (f:=λp=>decide (Pc.nm (Pc.aF s ts m.toNat) p=a)&& !s.contains p);unfold Pc.chain;omega
  ·have:=(Pc.gB.mp H).1;omega
 generalize jl s ts m.toNat=C at*;have V:=L8 b O K D E M L y t (λx H=>(o x H).1) (λx H=>(r x H).1) λc e=>⟨(g c e).1,λx H=>((g c e).2 x H).1⟩;have R:=Mc b O n A L y t J r g;rw[L' l]at R;generalize h_ ps N B Q C=v at*;refine bJ rfl ?_ rfl b rfl;show ah kI G0 uw [some (ag m ts),some (pD ps),none] S=_;rw[vz];generalize ag m ts=w at*;generalize pD ps=d at*;unfold DD;refine(aJ (d:=.bl v) (S':=S) (dv JY (ai rfl) (ai rfl) V)).trans ?_;show ah kI G0 _ [some w,some d,some (.bl v)] S=_;refine cv (gx ?_);have F:gN [.bl v,.ty "bool"] S=.ok (.bl true) S:=rfl;have I:a7 .Eq (.bl v) (.bl v) S=.ok (.bl true) S:=by cases v<;>rfl
 simp only[ak,am,Res.bind,Res.noErr,bj,Zk,Zh,F,bi,if_true,JZ,R,I]
theorem Mj{f:Ti->Li}{x y:List Ti}(h:x.Sublist y):(x.flatMap f).Sublist (y.flatMap f):=by
 induction h with
 |slnil=>simp_all
 |cons a h i=>simp_all
 |cons_cons a h i=>simp_all
theorem Mk{p q:List Ti}(P:aV ts p/\p.length<=28)(h:q.Sublist p):aV ts q/\q.length<=28:=⟨⟨P.1.ris.sublist h,λt H=>P.1.sub t (h.subset H),P.1.un.sublist (Mj h)⟩,ZB h.length_le P.2⟩
structure jf (ts:List Ti)(n:Nat)(L:List (List Ti)):Prop where
 few:L.length<=n
 ok:∀p∈L,aV ts p/\p.length<=28
theorem jg{a:Type}{f:a->D}(L:List a)(lo hi:Option Int):∃b:List a,b0 (L.map f) lo hi=b.map f/\b.Sublist L:=
 ⟨_,by unfold b0;rw[<-List.map_drop,<-List.map_take],(List.take_sublist _ _).trans (List.drop_sublist _ _)⟩
theorem jf.sub{L a:List (List Ti)}(h:jf ts n L)(s:a.Sublist L):jf ts n a:=⟨ZB s.length_le h.few,λp H=>h.ok p (s.subset H)⟩
theorem jf.app{a b:Nat}{L c:List (List Ti)}(h:jf ts a L)(h':jf ts b c):jf ts (a+b) (L++c):=⟨by rw[ZA];have:=h.few;have:=h'.few;omega,λp H=>(Zq.mp H).elim (h.ok p) (h'.ok p)⟩
theorem DE{a x:CE}{L:List (List Ti)}{i:Int}(h1:ak Φ G0 a ρ S=.ok (.lst (L.map pD)) S)(h:ak Φ G0 x ρ S=.ok (.int i) S):∃b:List (List Ti),b.Sublist L/\ak Φ G0 (.sl a [x] []) ρ S=.ok (.lst (b.map pD)) S:=by
 obtain⟨b,e,s⟩:=jg L _ _;refine⟨_,s,?_⟩;have H:ji (.lst (L.map pD)) (some i) none S=.ok (.lst (b.map pD)) S:=by rw[<-e];rfl
 simp[ak,am,h1,h,Res.bind,cN,dh,H,Res.noErr]
theorem lm{a x:CE}{L:List (List Ti)}{i:Int}(h1:ak Φ G0 a ρ S=.ok (.lst (L.map pD)) S)(h:ak Φ G0 x ρ S=.ok (.int i) S):∃b:List (List Ti),b.Sublist L/\ak Φ G0 (.sl a [] [x]) ρ S=.ok (.lst (b.map pD)) S:=by
 obtain⟨b,e,s⟩:=jg L _ _;refine⟨_,s,?_⟩;have H:ji (.lst (L.map pD)) none (some i) S=.ok (.lst (b.map pD)) S:=by rw[<-e];rfl
 simp[ak,am,h1,h,Res.bind,cN,dh,H,Res.noErr]
theorem jh{a b:CE}{L c:List (List Ti)}(h1:ak Φ G0 a ρ S=.ok (.lst (L.map pD)) S)(h:ak Φ G0 b ρ S=.ok (.lst (c.map pD)) S)(H:L.length+c.length<=1000000):ak Φ G0 (.bin .Add a b) ρ S=.ok (.lst ((L++c).map pD)) S:=by
 refine de h1 h ?_;show(if(L.map _).length+(c.map _).length<=bu then Res.ok _ S else .fail)=_
 grind
theorem DF{N:Ls}{it:CE}{lo hi:List CE}{l u:Option Int}{L:List (List Ti)}(h:jf ts n L)(k:n<=100000)(H:aL Φ G0 it ρ S=.ok (.items (L.map pD)) S)(g:∀ρ,(am Φ G0 lo ρ S).bind cN=.ok l S)(j:∀ρ,(am Φ G0 hi ρ S).bind cN=.ok u S):∃a:List (List Ti),jf ts n a/\ak Φ G0 (.comp false N [none] (.var 0) it [] (.emit (.sl (.var 0) lo hi))) ρ S=.ok (.lst (a.map pD)) S:=by
 refine⟨L.map λp=>(jg (f:=ar) p l u).choose,⟨by rw[Zf];exact h.few,λp b=>?_⟩,?_⟩
 ·obtain⟨q,i,rfl⟩:=Zr.mp b;exact Mk (h.ok q i) (jg q l u).choose_spec.2
 ·have:=e5 (N:=N) (fr:=[none]) (tg:=.var 0) H rfl (λ_ _=>rfl) (by have:=h.few;omega) λp b=>by
   have e:=(jg (f:=ar) p l u).choose_spec.1;have c:ji (pD p) l u S=.ok _ S:=congrArg (λx=>Res.ok _ S) e
   have d:ak Φ G0 (.sl (.var 0) lo hi) [some (pD p)] S=.ok (pD (jg (f:=ar) p l u).choose) S:=by show(((am _ _ _ _ S).bind _).bind _)=_;rw[g];show(((am _ _ _ _ S).bind _).bind _)=_;rw[j];show(ji (pD p) l u S).noErr=_;rw[c];rfl
   exact d
  refine this.trans ?_;simp_all
theorem Ml:iq=[.ite ux [.ret (.lit (.bl false))] [],.for_ (.var 1) oE oG,.ret (.lit (.bl true))]:=rfl
theorem pW(a:Flat S)(f:ns.length<=63){x1:Option D}:∃cs:Li,aL aM G0 oE [some (.scr (ns.map D.int)),x1,x2,x3,x4,x5,x6,x7] S=.ok (.items (cs.map D.int)) S:=by
 obtain⟨c,e⟩:=K52.pz a ns;rw[<-Md]at e;obtain⟨cs,b,d⟩:∃cs:Li,b0 (ns.map D.int) (some 1) (some 4)=cs.map D.int/\cs.length<=63:=by refine⟨_,by unfold b0;rw[<-List.map_drop,<-List.map_take],?_⟩;simp;omega
 refine⟨c::cs,?_⟩;have h:ji (.scr (ns.map D.int)) (some 1) (some 4) S=.ok (.lst (cs.map D.int)) S:=by rw[<-b];rfl
 have H:iD (.lst [.int c]) (.lst (cs.map D.int)) S=.ok (.lst ([.int c]++cs.map D.int)) S:=by show(if 1+(cs.map D.int).length<=bu then Res.ok _ S else .fail)=_;rw[if_pos (by unfold bu;simp;omega)]
 simp[oE,aL,ak,am,Res.bind,Res.noErr,J7,e,cN,dh,h,dy,H,cB]
theorem vB:bn 1 []:=⟨by lia,by lia,.nil,λt h=>(by cases h),by decide⟩
theorem vC:bn 4 [(0,1),(0,2),(1,2),(2,3)]:=⟨by lia,by lia,by decide+kernel,by decide+kernel,by decide⟩
theorem qB{ts:List Ti}:aV ts []:=⟨.nil,λt h=>(by cases h),List.nodup_nil⟩
theorem pX:aV [(0,1),(0,2),(1,2),(2,3)] [(0,1),(2,3)]:=⟨by decide+kernel,by decide+kernel,by decide+kernel⟩
theorem vD:au aM G0 ux ρ []=.ok false []:=by have r:=vA Flat.nil vB qB (by decide);have R:=vA Flat.nil vC pX (by decide);have d:ak aM G0 Ba ρ []=.ok _ _:=rfl;have D:ak aM G0 Bb ρ _=.ok _ []:=rfl;have a:ak aM G0 Bc ρ _=.ok _ []:=rfl;have b:ak aM G0 (.tup []) ρ _=.ok _ []:=rfl;exact u_ (eF (u8 uy d b r)) (eF (u8 uy D a R))
theorem ln(L:List (List Ti)):bj .len [.lst (L.map pD)] S=.ok (.int (L.length:Nat)) S:=by show Res.ok _ S=_;simp_all
theorem vE{s:D}(c:Int)(B:Flat S):∃y2 y3 y4 y5 y6 y7,ah aM G0 oG [some s,some (.int c),x2,x3,x4,x5,x6,x7] S=.ok (.next [some s,some (.int c),y2,y3,y4,y5,y6,y7]) S:=by
 obtain⟨m,o,W,e2⟩:=K52.u7 B c;rw[<-pV]at e2;obtain⟨G,k,Y⟩:=K52.CQ W;have e3:=K52.CU B W Y;rw[<-Me]at e3;have e6:=K52.CO B W;rw[<-Mf,Y.is]at e6;obtain⟨M,P,z,U⟩:=K52.L3 W B c;rw[<-Mh]at U;have U:g8 [ag m o,.int c] S=.ok (pD M) S:=U
 have hG:jf o 40320 G:=⟨Y.few,λp z=>by have hc:=K52.C3 Y W z;have:=K52.pd W hc;exact⟨K52.Cy W hc,by omega⟩⟩;have V:jf o 40320 (aA G k):=hG.sub Zz;obtain⟨p0,J,hk0⟩:=Y.at_;have hT0:0<(aA G k).length:=List.length_pos_of_mem (a:=p0) (Zm.mpr ⟨J,by simp[hk0]⟩);have hG0:0<G.length:=List.length_pos_of_mem J;have right:∀q,aV o q/\q.length<=28->kJ [ag m o,pD q] S=.ok (.bl true) S:=λq C=>vA B W C.1 C.2;have K:∀j,eW [.int c,.int j] S=.ok (.int (K52.bY c j)) S:=λj=>K52.py B c j;generalize aA G k=g at*;generalize ag m o=w at*;unfold oG;refine⟨some w,some (.lst (g.map pD)),some (.int (K52.bY c 20%(g.length:Nat))),?_⟩;have s1:ak aM G0 (.call "_law_web" [.var 1,.lit (.int 8)]) [some s,some (.int c),x2,x3,x4,x5,x6,x7] S=.ok w S:=dv J4 (ai rfl) cA e2;have s2:ak aM G0 (.call "_law_greatest" [.var 2]) [some s,some (.int c),some w,x3,x4,x5,x6,x7] S=.ok (.lst (g.map pD)) S:=hH J5 (ai rfl) e3
 have s3:ak aM G0 Bd [some s,some (.int c),some w,some (.lst (g.map pD)),x4,x5,x6,x7] S=.ok (.int (K52.bY c 20%(g.length:Nat))) S:=
  de (dv Bg (ai rfl) cA (K 20)) (e7 (ai rfl) (ln g)) (K52.cz (by omega))
 generalize K52.bY c 20%(g.length:Nat)=f at*;obtain⟨A1,a1,d1⟩:=DE (Φ:=aM) (S:=S) (a:=.var 3) (x:=.var 4) (ρ:=[some s,some (.int c),some w,some (.lst (g.map pD)),some (.int f),x5,x6,x7]) (L:=g) (i:=f) (ai rfl) (ai rfl);obtain⟨A2,a2,d2⟩:=lm (Φ:=aM) (S:=S) (a:=.var 3) (x:=.var 4) (ρ:=[some s,some (.int c),some w,some (.lst (g.map pD)),some (.int f),x5,x6,x7]) (L:=g) (i:=f) (ai rfl) (ai rfl);have hA:=(V.sub a1).app (V.sub a2);have d3:=jh d1 d2 (by have:=(V.sub a1).few;have:=(V.sub a2).few;omega);obtain⟨A,a3,s4⟩:=lm (x:=.lit (.int 3)) d3 cA;have H:=hA.sub a3;generalize f=F at*;obtain⟨A4,h4,d4⟩:=DF (Φ:=aM) (S:=S) (ρ:=[some s,some (.int c),some w,some (.lst (g.map pD)),some (.int F),some (.lst (A.map pD)),x6,x7]) (N:=["_law_line"]) (it:=.seq (.var 5)) (lo:=[.lit (.int 1)]) (hi:=[]) (l:=some 1) (u:=none) H (by omega) (bW (ai rfl) rfl) (λn=>by simp only[am,ak,Res.bind,cN,dh]) (λn=>by simp only[am,Res.bind,cN,dh]);obtain⟨A5,a5,d5⟩:=lm (Φ:=aM) (S:=S) (a:=.var 5) (x:=.lit (.int 1)) (ρ:=[some s,some (.int c),some w,some (.lst (g.map pD)),some (.int F),some (.lst (A.map pD)),x6,x7]) (L:=A) (i:=1) (ai rfl) cA
 have hng:∀n,(am aM G0 [.neg (.lit (.int 1))] n S).bind cN=.ok (some (-1)) S:=λn=>by
  have:ak aM G0 (.neg (.lit (.int 1))) n S=.ok (.int (-1)) S:=by rw[ak];rfl
  simp only[am,this,Res.bind,cN,dh]
 obtain⟨A6,h6,d6⟩:=DF (Φ:=aM) (S:=S) (ρ:=[some s,some (.int c),some w,some (.lst (g.map pD)),some (.int F),some (.lst (A.map pD)),x6,x7]) (N:=["_law_line"]) (it:=.seq (.sl (.var 5) [] [.lit (.int 1)])) (lo:=[]) (hi:=[.neg (.lit (.int 1))]) (l:=none) (u:=some (-1)) (H.sub a5) (by omega) (bW d5 rfl) (λn=>by simp only[am,Res.bind,cN,dh]) hng;have d7:ak aM G0 (.lst false [.tup []]) [some s,some (.int c),some w,some (.lst (g.map pD)),some (.int F),some (.lst (A.map pD)),x6,x7] S=.ok (.lst (([[]]:List (List Ti)).map pD)) S:=by rw[ak];simp only[am,ak,Res.bind,Bool.false_eq_true,if_false];rfl
 have d8:=jh (a:=.var 5) (b:=Be) (L:=A) (ai rfl) d4 (by have:=H.few;have:=h4.few;omega);have h8:=H.app h4;have d9:=jh d8 d6 (by have:=h8.few;have:=h6.few;omega);have h9:=h8.app h6;have s5:=jh d9 d7 (by have:=h9.few;simp;rw[ZA]at this;simp at this;omega);have hn1:jf o 1 ([[]]:List (List Ti)):=⟨Zg _,λp z=>by rw[ZM.mp z];exact⟨qB,by decide⟩⟩;have I:=h9.app hn1;generalize A++A4++A6++[[]]=E at*;have s6:ak aM G0 (.call "_law_pairings" [.var 2]) [some s,some (.int c),some w,some (.lst (g.map pD)),some (.int F),some (.lst (E.map pD)),x6,x7] S=.ok (.lst (G.map pD)) S:=hH J6 (ai rfl) e6
 obtain⟨R,hR,X⟩:∃R:List (List Ti),jf o 4 R/\ak aM G0 Bf [some s,some (.int c),some w,some (.lst (g.map pD)),some (.int F),some (.lst (E.map pD)),some (.lst (G.map pD)),x7] S=.ok (.lst (R.map pD)) S:=by
  have y:∀i:Int,∃q∈G,bh (.lst (G.map pD)) (.int (K52.bY c (21+i)%(G.length:Nat))) S=.ok (pD q) S:=λi=>by obtain⟨x,y,e⟩:=K52.pN (S:=S) (d:=.lst (G.map pD)) (xs:=G.map pD) (r:=K52.bY c (21+i)%(G.length:Nat)) rfl (Int.emod_nonneg _ (by omega)) (by rw[Zf];exact Int.emod_lt_of_pos _ (by omega));obtain⟨q,C,rfl⟩:=Zr.mp y;exact⟨q,C,e⟩
  refine⟨([0,1,2,3]:Li).map λi=>(y i).choose,⟨by simp,λp z=>?_⟩,?_⟩
  ·obtain⟨i,_,rfl⟩:=Zr.mp z;exact hG.ok _ (y i).choose_spec.1
  ·have:=e5 (S:=S) (Φ:=aM) (N:=["_law_k","_law_every","_law_cell"]) (fr:=[none,some 6,some 1]) (tg:=.var 0) (it:=.range [.lit (.int 4)]) (e:=.idx (.var 1) (.bin .Mod (.call "_law_stir" [.var 2,.bin .Add (.lit (.int 21)) (.var 0)]) (.blt .len [.var 1]))) (ρ:=[some s,some (.int c),some w,some (.lst (g.map pD)),some (.int F),some (.lst (E.map pD)),some (.lst (G.map pD)),x7]) (h:=D.int) (f:=λi=>pD (y i).choose) (ds:=[0,1,2,3]) (r0:=[none,some (.lst (G.map pD)),some (.int c)]) (rs:=λi=>[some (.int i),some (.lst (G.map pD)),some (.int c)]) (by rw[aL];rfl) rfl (λ_ _=>rfl) (by simp) λi _=>hW (ai rfl) (de (dv Bg (ai rfl) (de cA (ai rfl) rfl) (K _)) (e7 (ai rfl) (ln G)) (K52.cz (by omega))) (y i).choose_spec.2;refine this.trans ?_;rw[ZP];rfl
 have s7:=jh (a:=.var 5) (L:=E) (ai rfl) X (by have:=I.few;have:=hR.few;omega);have v:=I.app hR;generalize E++R=Z at*
 have d11:ak aM G0 (.lst false [.call "_law_pairing" [.var 2,.var 1]]) [some s,some (.int c),some w,some (.lst (g.map pD)),some (.int F),some (.lst (Z.map pD)),some (.lst (G.map pD)),x7] S=.ok (.lst ([M].map pD)) S:=by have:ak aM G0 (.call "_law_pairing" [.var 2,.var 1]) [some s,some (.int c),some w,some (.lst (g.map pD)),some (.int F),some (.lst (Z.map pD)),some (.lst (G.map pD)),x7] S=.ok (pD M) S:=dv J8 (ai rfl) (ai rfl) U;rw[ak];simp only[am,this,Res.bind,Bool.false_eq_true,if_false];rfl
 have d12:=jh (a:=.var 5) (L:=Z) (ai rfl) d11 (by have:=v.few;simp;omega);have hI:aL aM G0 (.seq (.bin .Add (.var 5) (.lst false [.call "_law_pairing" [.var 2,.var 1]]))) [some s,some (.int c),some w,some (.lst (g.map pD)),some (.int F),some (.lst (Z.map pD)),some (.lst (G.map pD)),x7] S=.ok (.items ((Z++[M]).map pD)) S:=bW d12 rfl
 obtain⟨Q,S',⟨⟨y7,rfl⟩,rfl⟩,hf⟩:=o9 (step:=λx n S=>match aE (.var 7) x n with
   |some Q=>ah aM G0 oF Q S
   |none=>.fail) (λn T=>(∃x7,n=[some s,some (.int c),some w,some (.lst (g.map pD)),some (.int F),some (.lst (Z.map pD)),some (.lst (G.map pD)),x7])/\T=S) ((Z++[M]).map pD) (by
    rintro x y n T ⟨⟨x7,rfl⟩,rfl⟩;obtain⟨q,C,rfl⟩:=Zr.mp y
    have hq2:aV o q/\q.length<=28:=by
     rcases Zq.mp C with h|h
     ·exact v.ok q h
     ·rw[ZM.mp h];exact⟨P,z⟩
    refine⟨_,T,⟨⟨some (pD q),rfl⟩,rfl⟩,?_⟩;show ah aM G0 oF [some s,some (.int c),some w,some (.lst (g.map pD)),some (.int F),some (.lst (Z.map pD)),some (.lst (G.map pD)),some (pD q)] T=_;exact(je (eF (u8 uy (ai rfl) (ai rfl) (right q hq2)))).trans rfl) _ S ⟨⟨x7,rfl⟩,rfl⟩
 refine⟨some (.lst (Z.map pD)),some (.lst (G.map pD)),y7,?_⟩;refine(aJ s1).trans ((aJ s2).trans ((aJ s3).trans ((aJ s4).trans ((aJ s5).trans ((aJ s6).trans ((aJ s7).trans ?_))))));exact(bc (Eq.trans (eY (t:=.var 7) (body:=oF) hI) hf)).trans rfl
theorem good(ns:Li)(n:ns.length<=63):∃S',kL [.scr (ns.map D.int)] []=.ok (.bl true) S':=by
 obtain⟨C,H⟩:=pW Flat.nil n
 obtain⟨a,S',_,m⟩:=o9 (step:=λx b S=>match aE (.var 1) x b with
   |some a=>ah _ _ _ a S
   |none=>.fail) (λb S=>(∃X e f g i j k,b=[some (.scr (ns.map D.int)),X,e,f,g,i,j,k])/\Flat S) _ (by rintro x o b S ⟨⟨X,e,f,g,i,j,k,rfl⟩,d⟩;obtain⟨c,_,rfl⟩:=Zr.mp o;obtain⟨y,Y,p,q,r,s,h⟩:=vE c d;exact⟨_,S,⟨⟨_,_,_,_,_,_,_,rfl⟩,d⟩,h⟩) _ _ ⟨⟨_,_,_,_,_,_,_,rfl⟩,Flat.nil⟩
 have l:ah aM G0 iq [some (.scr (ns.map D.int)),none,none,none,none,none,none,none] []=.ok (.ret (.bl true)) S':=by rw[Ml];rw[bc (by rw[hE vD];rfl)];refine(bc (ρ':=a) ?_).trans rfl;rw[eY H];exact m
 refine⟨[],?_⟩;show az _ _ _ _ 1 _ _=_;unfold az;rw[show ah _ _ _ ([D.scr _].map _++List.replicate (kK.length-1) _) _=_ from l];rfl
end
end K52
section
namespace K52
theorem walk{l:PySem.W.OpenLaw}{q:Program}{d:DefRec}{K:Params->Fg}(i:l.most=some 63)(H:d.params.defaults=[])
  (e:∀(w:World) (h:Heap),YP w h->(K w.params).In h)
  (F:∀(w:World) (mg:Mg) (fa:Addr) (h:Heap),(K w.params).In h->h.Ns mainGlobals mg->mg d.name=some (.ref fa)->
   ∃fd:FuncData,(∀(s:Shared) (u:Value),BindsTo s fd ⟨[u],[]⟩ [("_law_script",u)])/\∀base:Heap,(K w.params).In base->base.Ns mainGlobals mg->c9 l.prog w (K w.params) mg base (bt l.prog w) 14 fa fd ["_law_script"] (ir (K w.params))):
  PySem.W.WalkO q loose XP YP l.row.toRowW d [] (λf vs=>PySem.call f vs):=
 L2.l7 (n:=63) (k:=14) (x:="_law_script") (CX:=λw=>bt l.prog w) (sp:=λw=>ir (K w.params)) i (by decide) H ⟨rfl,by decide,by decide,rfl⟩ e F (λ_ _ a N g b c=>⟨a,N,rfl,b,c,g,λ_=>rfl⟩) λ_ _ _ _ _ z=>qu _ _ _ _ _ z
end K52
namespace PySem.W.Fast
def tw1574428934455601073:=Nat
def tw5696771789144522499:=Nat
def tw402658433094743394:=Nat
def tw15186226015275498305:=Nat
def tw1998459713164967038:=Nat
def tw6636809135907673812:=Nat
def tw14119690599135148067:=Nat
def tw2989285185828206175:=Nat
def tw153623513777587526:=Nat
def tw15319768296463169568:=Nat
def tw743887119277615072:=Nat
def tw5352048400233355716:=Nat
def tw12460997189563588745:=Nat
def tw1344755358021189406:=Nat
def tw15444994380805963961:=Nat
def tw724689816745095478:=Nat
def tw2157526509761639758:=Nat
def tw6019663351673526797:=Nat
def tw168330917967976415:=Nat
def tw13642751577868985650:=Nat
def tw9537545747699956058:=Nat
def tw8473279949271840384:=Nat
def tw5977428165296724442:=Nat
def tw15714761434029215719:=Nat
def tw4765788613504378271:=Nat
def tw5798229425745084403:=Nat
def tw466120155252686761:=Nat
def tw9622016566760311619:=Nat
def tw15455121640395605030:=Nat
def tw14177856431018305743:=Nat
def tw3382238924439671179:=Nat
def tw12254717603703135013:=Nat
def tw6364477523458747367:=Nat
def tw4837734033242747994:=Nat
def tw1018195684929269942:=Nat
def tw9663694422040475108:=Nat
def tw6290347352234768276:=Nat
def tw12618347536000279736:=Nat
def tw157902030168241589:=Nat
def tw4111610006442928730:=Nat
def tw3889146007442980878:=Nat
def tw9574246553924124054:=Nat
def tw2535213374864827840:=Nat
def tw2324067547273806637:=Nat
def tw324271980375681825:=Nat
def tw970750127465156785:=Nat
def tw11500032591658230671:=Nat
def tw10364372734136218257:=Nat
def tw9848484732818470180:=Nat
def tw6098542875599986528:=Nat
def tw5639193410815058405:=Nat
def tw15398124576488514423:=Nat
def tw13624957007944759439:=Nat
def tw15155121136504661823:=Nat
def tw5988396009282991813:=Nat
def tw14461141354836819123:=Nat
def tw13097799763178013783:=Nat
def tw6679589815689594700:=Nat
def tw10935187484618829326:=Nat
def tw18183450508769605509:=Nat
def tw11594902286766352238:=Nat
def tw2221938899061242336:=Nat
def tw10018400742303117828:=Nat
def tw1957470368363689933:=Nat
def tw13591877421576382920:=Nat
def tw7811315265113943514:=Nat
def tw14044173427539611801:=Nat
def tw12857526674374668694:=Nat
def tw6026344346828858079:=Nat
def tw3605671762124242546:=Nat
def tw16060629168265242659:=Nat
def tw11269397819957529544:=Nat
def tw5454448333206992922:=Nat
def tw1300931869089389422:=Nat
def tw2311726064099974405:=Nat
def tw557112513721485591:=Nat
def tw5326874050658352726:=Nat
def tw17709085858257845462:=Nat
def tw9677844685670509861:=Nat
def tw15325432064995401270:=Nat
def tw970624325022807529:=Nat
def tw164520144436003543:=Nat
def tw12848924852765846488:=Nat
def tw12758007313849369564:=Nat
def tw5434748292106888934:=Nat
def tw16712926723668398323:=Nat
def tw41571041376926010:=Nat
def tw5907690798428893587:=Nat
def tw3441501236971666330:=Nat
def tw11507659752545765838:=Nat
end PySem.W.Fast
open PySem PySem.W PyProof.Rows
set_option maxRecDepth 100000 in
set_option maxHeartbeats 0 in
theorem PySem.Challenge.cw_pairwebs_k52_pairings_well_parted_holds : PySem.Challenge.rw_pairwebs_k52_pairings_well_parted.Holds := by
 w_on;o_law;k_head;(case hw=>w_witness2)
 k_fill
 refine K52.walk (l:=PySem.Challenge.rw_pairwebs_k52_pairings_well_parted) rfl rfl (λw h Y=>PySem.W.kIn_of Y) ?F
 case F=>
  intro w mg fa h KX G hmg
  refine' K52.uF KX G hmg K52.good ⟨K52.dm ?_ ?_ ?_ ?_,K52.dm ?_ ?_ ?_ ?_,K52.dm ?_ ?_ ?_ ?_,K52.dm ?_ ?_ ?_ ?_,K52.dm ?_ ?_ ?_ ?_,K52.dm ?_ ?_ ?_ ?_,K52.dm ?_ ?_ ?_ ?_,K52.dm ?_ ?_ ?_ ?_,K52.dm ?_ ?_ ?_ ?_,K52.dm ?_ ?_ ?_ ?_,K52.dm ?_ ?_ ?_ ?_,K52.dm ?_ ?_ ?_ ?_,K52.dm ?_ ?_ ?_ ?_,K52.dm ?_ ?_ ?_ ?_,K52.dm ?_ ?_ ?_ ?_,K52.dm ?_ ?_ ?_ ?_,K52.dm ?_ ?_ ?_ ?_,K52.dm ?_ ?_ ?_ ?_,K52.dm ?_ ?_ ?_ ?_,K52.dm ?_ ?_ ?_ ?_,K52.dm ?_ ?_ ?_ ?_,K52.dm ?_ ?_ ?_ ?_,K52.dm ?_ ?_ ?_ ?_,K52.dm ?_ ?_ ?_ ?_,K52.dm ?_ ?_ ?_ ?_,K52.dm ?_ ?_ ?_ ?_,K52.dm ?_ ?_ ?_ ?_,K52.dm ?_ ?_ ?_ ?_,K52.dm ?_ ?_ ?_ ?_,K52.dm ?_ ?_ ?_ ?_,K52.dm ?_ ?_ ?_ ?_,K52.dm ?_ ?_ ?_ ?_,K52.dm ?_ ?_ ?_ ?_,K52.dm ?_ ?_ ?_ ?_,K52.dm ?_ ?_ ?_ ?_,K52.dm ?_ ?_ ?_ ?_,K52.dm ?_ ?_ ?_ ?_,K52.dm ?_ ?_ ?_ ?_,K52.dm ?_ ?_ ?_ ?_,K52.dm ?_ ?_ ?_ ?_⟩ ?Z ?_ ?R
  case R=>kernel_rfl
  case Z=>intro x hx;simp only[Py.gb,Zn,List.mem_nil_iff,or_false]at hx;rcases hx with rfl|rfl|rfl|rfl|rfl|rfl|rfl|rfl|rfl|rfl|rfl|rfl|rfl|rfl|rfl|rfl|rfl|rfl|rfl|rfl|rfl<;>k_is
  all_goals first|k_is|skip
end
