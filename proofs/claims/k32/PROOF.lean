import PyProof.Rows.All
import Wide.All
import OpenK.AllK
import Wide.FinOn
import Lean
import PyProof.EqAt
import PyProof.EqKinds
import PyProof.TupleCall
import PyProof.ListMulAny
import PyProof.FactsAll.tuple
import KE.IntBitsLaws
import PyProof.NeKinds
import PyProof.FactsAll.tuple_2
import PyProof.SumWalkG
import PyProof.MinMaxWalk
import PyProof.Rows.SeqMore
import PyProof.FactsAll.tuple_3
import KE.KRevIter
import PyProof.FactsAll.range_2
import PyProof.EnumFor
import PyProof.TupleOfGen
import PyProof.ListRange
import PyProof.Rows.SetFrom
import PyProof.WalksMore
import PyProof.FactsAll.subtypes_4
import PyProof.RangeFor
import PyProof.Rows.SortRuns
import KE.KSortAsk
import KE.KSortTup
import PySem.Challenge.RW_pairwebs_k32_all_blooms
noncomputable section
set_option genSizeOfSpec false
set_option Elab.async false
set_option linter.all false
set_option maxRecDepth 100000
set_option maxHeartbeats 16000000
def Za:=@PySem.wpAny_bind
def Zb:=@List.mem_cons_of_mem
def Zc:=@List.mem_cons_self
def Zd:=@List.getElem?_cons_zero
def Ze:=@List.getElem?_cons_succ
def Zf:=@PySem.Heap.get?_push_of_some
def Zg:=@List.getElem?_eq_getElem
def Zh:=@List.getElem?_eq_some_iff
def Zi:=@PySem.wpAny_pure
def Zj:=@List.size_toArray
def Zk:=@List.length_map
def Zl:=@Nat.le_refl
def Zm:=@List.append_assoc
def Zn:=@List.length_append
def Zo:=@List.getElem?_append_left
def Zp:=@PySem.Heap.get?_push_size
def Zq:=@PyProof.Rows.wpS_bind
def Zr:=@List.mem_cons
def Zs:=@PySem.Heap.lt_size
def Zt:=@Bool.and_eq_true
def Zu:=@PyProof.Rows.wpS_pure
def Zv:=@Bool.false_eq_true
def Zw:=@List.getElem?_append_right
def Zx:=@List.getD_eq_getElem?_getD
def Zy:=@List.length_cons
def Zz:=@List.mem_of_getElem?
def ZA:=@List.mem_append
def ZB:=@Nat.le_trans
def ZC:=@decide_eq_false
def ZD:=@Array.length_toList
def ZE:=@List.mem_append_right
def ZF:=@List.eq_nil_of_length_eq_zero
def ZG:=@List.flatMap_cons
def ZH:=@List.map_cons
def ZI:=@List.mem_map
def ZJ:=@List.getElem?_map
def ZK:=@decide_eq_true
def ZL:=@Nat.lt_of_lt_of_le
def ZM:=@PySem.mem_of_lookup
def ZN:=@List.all_eq_true
def ZO:=@List.pairwise_append
def ZP:=@List.mem_iff_getElem
def ZQ:=@PySem.wpAny_field
def ZR:=@Nat.ne_of_lt
def ZS:=@List.not_mem_nil
def ZT:=@List.mem_filter
def ZU:=@List.length_filter_le
def ZV:=@Array.getElem?_toList
def ZW:=@List.replicate_succ
def ZX:=@Array.toList_append
def ZY:=@Option.some.inj
def ZZ:=@List.getElem?_eq_none_iff
def Z0:=@List.mem_singleton
def Z1:=@List.nil_append
def Z2:=@List.append_nil
def Z3:=@List.length_take
def Z4:=@PySem.wpAny_callSpecial?_slot
def Z5:=@if_false
def Z6:=@List.nodup_append
def Z7:=@List.mem_append_left
def Z8:=@PySem.wpAny_setField_rec
def Z9:=@List.set_cons_zero
def Ya:=@List.set_cons_succ
def Yb:=@List.take_of_length_le
def Yc:=@List.mem_flatMap
def Yd:=@List.length_drop
def Ye:=@PyProof.Rows.wpS_forRange
def Yf:=@PySem.wpAny_newObj_type
def Yg:=@Option.isSome_iff_exists
def Yh:=@PySem.Heap.size_push
def Yi:=@PySem.wpAny_call_entry
def Yj:=@List.map_map
def Yk:=@Option.map_eq_some_iff
def Yl:=@PySem.wpAny_truthy_bool
def Ym:=@PyProof.Rows.slot_tuple_getitem
section
namespace L2
open PySem PySem.Spec PyProof.Rows
abbrev Key:=Sum Int Str
def keyIs:Key→Value→Bool
 | .inl k,v=>Value.isInt k v
 | .inr x,v=>Value.isStrOf x v
def keyH(w:World):Key→Int
 | .inl k=>hashInt k
 | .inr x=>hashStr w x
theorem a0A':∀{k:Key} {v:Value},keyIs k v=true→(∃i t,k=Sum.inl i∧v=Value.int i t)∨(∃x t,k=Sum.inr x∧v=Value.str x t)
 | .inl i,v,h=>by
  obtain⟨t,e⟩:=Value.isInt_shape (k:=i) (v:=v) h
  exact .inl ⟨i,t,rfl,e⟩
 | .inr x,v,h=>by
  obtain⟨t,e⟩:=Value.isStrOf_shape (x:=x) (v:=v) h
  exact .inr ⟨x,t,rfl,e⟩
theorem key_ll(a b:Int):decide ((Sum.inl a:Key)=Sum.inl b)=(a==b):=by
 by_cases e:a=b
 ·subst e;simp
 ·have h:¬(Sum.inl a:Key)=Sum.inl b:=fun q=>e (Sum.inl.inj q)
  rw[ZC h]
  exact(beq_eq_false_iff_ne.mpr e).symm
theorem key_rr(a b:Str):decide ((Sum.inr a:Key)=Sum.inr b)=decide (a=b):=by
 by_cases e:a=b
 ·subst e;simp
 ·have h:¬(Sum.inr a:Key)=Sum.inr b:=fun q=>e (Sum.inr.inj q)
  rw[ZC h,ZC e]
theorem key_lr(a:Int)(b:Str):decide ((Sum.inl a:Key)=Sum.inr b)=false:=ZC (fun q=>nomatch q)
theorem key_rl(a:Str)(b:Int):decide ((Sum.inr a:Key)=Sum.inl b)=false:=ZC (fun q=>nomatch q)
def a9o'(prog:Program)(w:World):PySem.KeyKind prog w Key where
 is:=keyIs
 hash:=keyH w
 inj:=fun v a b ha hb=>by
  rcases a0A' ha with⟨i,t,rfl,rfl⟩| ⟨x,t,rfl,rfl⟩
  ·rcases a0A' hb with⟨j,u,rfl,e⟩| ⟨y,u,rfl,e⟩
   ·injection e with e1 _;rw[e1]
   ·exact nomatch e
  ·rcases a0A' hb with⟨j,u,rfl,e⟩| ⟨y,u,rfl,e⟩
   ·exact nomatch e
   ·injection e with e1 _;rw[e1]
 byValue:=fun k v h=>by
  rcases a0A' h with⟨i,t,rfl,rfl⟩| ⟨x,t,rfl,rfl⟩<;>rfl
 pyHash:=fun hv h=>by
  rcases a0A' hv with⟨i,t,rfl,rfl⟩| ⟨x,t,rfl,rfl⟩
  ·exact wpAny_pyHash_int h
  ·exact wpAny_pyHash_str h
 eqBool:=fun hu hv h=>by
  rcases a0A' hu with⟨i,t,rfl,rfl⟩| ⟨x,t,rfl,rfl⟩
  ·rcases a0A' hv with⟨j,u,rfl,rfl⟩| ⟨y,u,rfl,rfl⟩
   ·rw[key_ll]at h;exact wpAny_eqBool_int h
   ·rw[key_lr]at h;exact SeqAt.EqAt.int_str i t y u _ _ _ _ h
  ·rcases a0A' hv with⟨j,u,rfl,rfl⟩| ⟨y,u,rfl,rfl⟩
   ·rw[key_rl]at h;exact SeqAt.EqAt.str_int x t j u _ _ _ _ h
   ·rw[key_rr]at h;exact wpAny_eqBool_str h
 «strs»:=fun k x t v h=>by
  rcases a0A' h with⟨i,u,rfl,e⟩| ⟨y,u,rfl,e⟩
  ·exact nomatch e
  ·injection e with e1 _
   subst e1
   cases v<;>rfl
end L2
namespace L2
open PySem PySem.Spec PyProof.Rows
inductive V where
 |non|bl (b:Bool)|int (i:Int)|str (x:Str)|byt (b:Array UInt8)|flt (b:UInt64)|ref (a:Addr)|ty (n:String)
 deriving DecidableEq
def RelV:V→Value→Prop
 | .non,u=>u=Value.none
 | .bl b,u=>u=Value.bool b
 | .int i,u=>∃t,u=Value.int i t
 | .str x,u=>∃t,u=Value.str x t
 | .byt b,u=>∃t,u=Value.bytes b t
 | .flt b,u=>∃t,u=Value.float b t
 | .ref a,u=>u=Value.ref a
 | .ty n,u=>u=Value.type n
abbrev Vals:List V→List Value→Prop:=Paired RelV
theorem Vals.length{xs:List V}{us:List Value}(r:Vals xs us):xs.length=us.length:=Paired.length r
theorem Vals.get:∀{xs:List V} {us:List Value} {i:Nat} {x:V},Vals xs us→xs[i]?=some x→∃u,us[i]?=some u∧RelV x u
 |_,_,_,_,.nil,e=>by simp at e
 |_,_,0,_,.cons r _,e=>by simp at e;subst e;exact⟨_,rfl,r⟩
 |_,_,i+1,x,.cons _ t,e=>by
  obtain⟨u,h1,h2⟩:=Vals.get (i:=i) (x:=x) t (by simpa using e)
  exact⟨u,by simpa using h1,h2⟩
theorem Vals.set{x:V}{u:Value}(r:RelV x u):∀{xs:List V} {us:List Value} (i:Nat),Vals xs us→Vals (xs.set i x) (us.set i u)
 |_,_,_,.nil=>.nil
 |_,_,0,.cons _ t=>.cons r t
 |_,_,i+1,.cons q t=>.cons q (Vals.set r i t)
theorem Vals.append:∀{xs ys:List V} {us ws:List Value},Vals xs us→Vals ys ws→Vals (xs++ys) (us++ws)
 |_,_,_,_,.nil,s=>s
 |_,_,_,_,.cons r t,s=>.cons r (Vals.append t s)
theorem Vals.take:∀{xs:List V} {us:List Value} (n:Nat),Vals xs us→Vals (xs.take n) (us.take n)
 |_,_,0,_=>.nil
 |_,_,_+1,.nil=>.nil
 |_,_,n+1,.cons r t=>.cons r (Vals.take n t)
theorem Vals.drop:∀{xs:List V} {us:List Value} (n:Nat),Vals xs us→Vals (xs.drop n) (us.drop n)
 |_,_,0,r=>r
 |_,_,_+1,.nil=>.nil
 |_,_,n+1,.cons _ t=>Vals.drop n t
def RelO:Option V→Option Value→Prop
 |some v,some u=>RelV v u
 |none,none=>True
 |_,_=>False
def KV{κ:Type}:List (κ×V)→List (κ×Value)→Prop:=Paired fun(p:κ×V) (q:κ×Value)=>p.1=q.1∧RelV p.2 q.2
def kV:Key→V
 | .inl i=>.int i
 | .inr x=>.str x
inductive HO where
 |lst (xs:List V)
 |tup (xs:List V)
 |dK (kvs:List (Key×V))|dT (kvs:List (List Key×V))
 |set (S:Int→Bool) (n:Nat)
 |ins (C dx:Addr) (fs:List (Str×V))
 |own (x:Addr)
 |xd (fs:List (Str×V))
 |met (f x:Addr)
 |rng (lo hi:Int)
 |frz (o:Obj) (u:HO)
 |tbl (ps:Array Value)
 |ext (φ:Heap→Prop)
abbrev Hp:=Addr→Option HO
def upd(H:Hp)(a:Addr)(o:HO):Hp:=fun b=>if b=a then some o else H b
theorem a0H'{H:Hp}{a:Addr}{o:HO}:upd H a o a=some o:=by unfold upd;rw[if_pos rfl]
theorem a0v'{H:Hp}{a b:Addr}{o:HO}(h:b≠a):upd H a o b=H b:=by unfold upd;rw[if_neg h]
theorem a0q'{H:Hp}{a b:Addr}{o:HO}(h:H a=some o)(h':H b=none):a≠b:=by
 intro e;subst e;rw[h]at h';cases h'
def NoD(h:Heap)(a:Addr):Prop:=∃o,h.get? a=some o∧o.dict=none
theorem NoD.new(h:Heap)(items:Array Value):NoD (h.push {cls:=.type "tuple",data:=.seq items}) h.objs.size:=⟨_,Zp _ rfl,rfl⟩
section
variable (P:Program)(w:World)
def ObjOk(H:Hp)(h:Heap)(a:Addr):HO→Prop
 | .lst xs=>xs.length≤sizeLine∧∃(its:List Value) (n:Nat),Vals xs its∧h.get? a=some {cls:=.type "list",data:=.seq its.toArray n}
 | .tup xs=>xs.length≤sizeLine∧∃its:List Value,Vals xs its∧IsTup h a its.toArray∧NoD h a
 | .dK kvs=>kvs.length≤sizeLine∧(a==sysModules)=false∧∃vs,KV kvs vs∧h.DictOf (a9o' P w) a vs
 | .dT kvs=>kvs.length≤sizeLine∧(a==sysModules)=false∧∃xs:List (List Key×Addr×Value),
   Paired (fun(p:List Key×V) (q:List Key×Addr×Value)=>p.1=q.1∧H q.2.1=some (.tup (p.1.map kV))∧RelV p.2 q.2.2) kvs xs∧
   ∃o es ep,h.get? a=some o∧o.ExactDict∧o.data=.dict es ep∧es.toList=xs.map (entryOfKey (tupleKind (a9o' P w)))∧(xs.map (·.1)).Nodup
 | .set S n=>h.SetOf (intKind P w) a S n
 | .ins C dx fs=>H dx=some (.own a)∧fs.length≤1000∧dx≠a∧h.get? a=some (PySem.W.instObj C dx)∧
   ∃mA,h.Ns1 dx mA∧(∀f,RelO (fs.lookup f) (mA f))∧PySem.Within mA (fs.map (·.1))
 | .own _=>∃o,h.get? a=some o
 | .xd fs=>∃mA,h.Ns1 a mA∧∀f,RelO (fs.lookup f) (mA f)
 | .rng lo hi=>∃t u v,h.get? a=some {cls:=.type "range",data:=.fields #[.int lo t,.int hi u,.int 1 v]}
 | .frz o u=>h.get? a=some o∧ObjOk H h a u
 | .tbl ps=>h.get? a=some {cls:=.none,data:=.fields ps}
 | .met f x=>h.get? a=some (PySem.W.methodObj (.ref f) (.ref x))
 | .ext φ=>φ h∧(∃o,h.get? a=some o)∧∀h1 h2:Heap,φ h1→(∀o,h1.get? a=some o→h2.get? a=some o)→φ h2
def HOk(H:Hp)(h:Heap):Prop:=∀a o,H a=some o→ObjOk P w H h a o
end
section
variable {P:Program}{w:World}{H H':Hp}{h h':Heap}{a:Addr}{o:HO}
theorem ObjOk.lt(x:ObjOk P w H h a o):a<h.objs.size:=by
 cases o with
 |lst xs=>obtain⟨_,_,_,_,e⟩:=x;exact Zs e
 |tup xs=>obtain⟨_,_,_,p,_⟩:=x;exact p.lt
 |dK kvs=>obtain⟨_,_,_,_,o,_,_,e,_⟩:=x;exact Zs e
 |dT kvs=>obtain⟨_,_,_,_,o,_,_,e,_⟩:=x;exact Zs e
 |set S n=>obtain⟨o,_,_,_,e,_⟩:=x;exact Zs e
 |ins C dx fs=>obtain⟨_,_,_,e,_⟩:=x;exact Zs e
 |own y=>obtain⟨_,e⟩:=x;exact Zs e
 |xd fs=>obtain⟨_,⟨_,_,_,e,_⟩,_⟩:=x;exact Zs e
 |rng lo hi=>obtain⟨_,_,_,e⟩:=x;exact Zs e
 |frz ob u=>obtain⟨e,_⟩:=x;exact Zs e
 |tbl ps=>exact Zs (show h.get? a=some _ from x)
 |met f y=>exact Zs (show h.get? a=some _ from x)
 |ext φ=>obtain⟨_,⟨_,e⟩,_⟩:=x;exact Zs e
theorem Paired.mapP{α β:Type}{F G:α→β→Prop}:∀{l₁:List α} {l₂:List β},Paired F l₁ l₂→(∀a b,F a b→G a b)→Paired G l₁ l₂
 |_,_,.nil,_=>.nil
 |_,_,.cons r t,f=>.cons (f _ _ r) (Paired.mapP t f)
theorem ObjOk.stay(x:ObjOk P w H h a o)(k:∀b u,(b=a∨H b=some (.own a))→h.get? b=some u→h'.get? b=some u)
  (ho:∀b,H b=some (.own a)→H' b=some (.own a)) (ht:∀b xs,H b=some (.tup xs)→H' b=some (.tup xs)):ObjOk P w H' h' a o:=by
 induction o with
 |lst xs=>obtain⟨z,its,n,r,e⟩:=x;exact⟨z,its,n,r,k _ _ (.inl rfl) e⟩
 |tup xs=>obtain⟨z,its,r,⟨ob,e,c⟩,ob',e',c'⟩:=x;exact⟨z,its,r,⟨ob,k _ _ (.inl rfl) e,c⟩,ob',k _ _ (.inl rfl) e',c'⟩
 |dK kvs=>obtain⟨z,y,vs,r,ob,es,ep,e,c⟩:=x;exact⟨z,y,vs,r,ob,es,ep,k _ _ (.inl rfl) e,c⟩
 |dT kvs=>
  obtain⟨z,y,xs,r,ob,es,ep,e,c⟩:=x
  exact⟨z,y,xs,Paired.mapP r fun p q z=>⟨z.1,ht _ _ z.2.1,z.2.2⟩,ob,es,ep,k _ _ (.inl rfl) e,c⟩
 |set S n=>obtain⟨ob,es,ep,t,e,c⟩:=x;exact⟨ob,es,ep,t,k _ _ (.inl rfl) e,c⟩
 |ins C dx fs=>
  obtain⟨d,z,ne,e,mA,⟨od,es,ep,e2,c⟩,r⟩:=x
  exact⟨ho _ d,z,ne,k _ _ (.inl rfl) e,mA,⟨od,es,ep,k _ _ (.inr d) e2,c⟩,r⟩
 |own y=>obtain⟨ob,e⟩:=x;exact⟨ob,k _ _ (.inl rfl) e⟩
 |xd fs=>obtain⟨mA,⟨od,es,ep,e,c⟩,r⟩:=x;exact⟨mA,⟨od,es,ep,k _ _ (.inl rfl) e,c⟩,r⟩
 |rng lo hi=>obtain⟨t,u,v,e⟩:=x;exact⟨t,u,v,k _ _ (.inl rfl) e⟩
 |frz ob u ih=>obtain⟨e,q⟩:=x;exact⟨k _ _ (.inl rfl) e,ih q⟩
 |tbl ps=>
  have e:h.get? a=some {cls:=.none,data:=.fields ps}:=x
  show h'.get? a=some {cls:=.none,data:=.fields ps}
  exact k a _ (.inl rfl) e
 |met f y=>
  have e:h.get? a=some (PySem.W.methodObj (.ref f) (.ref y)):=x
  show h'.get? a=some (PySem.W.methodObj (.ref f) (.ref y))
  exact k a _ (.inl rfl) e
 |ext φ=>obtain⟨p,⟨o,e⟩,st⟩:=x;exact⟨st _ _ p fun o q=>k _ _ (.inl rfl) q,⟨o,k _ _ (.inl rfl) e⟩,st⟩
theorem HOk.lt(x:HOk P w H h)(e:H a=some o):a<h.objs.size:=(x a o e).lt
theorem HOk.fresh(x:HOk P w H h)(e:h.objs.size≤a):H a=none:=by
 cases q:H a with
 |none=>rfl
 |some u=>exact absurd (ZL (x.lt q) e) (Nat.lt_irrefl _)
theorem HOk.kept(x:HOk P w H h)(k:∀b u,h.get? b=some u→h'.get? b=some u):HOk P w H h':=fun a o e=>
 (x a o e).stay (fun b u _ q=>k b u q) (fun _ q=>q) fun _ _ q=>q
theorem HOk.laid(x:HOk P w H h)(k:∀b u,h.get? b=some u→h'.get? b=some u)(hp:h.objs.size≤a)(new:ObjOk P w (upd H a o) h' a o):HOk P w (upd H a o) h':=fun b u e=>by
 have hn:=x.fresh hp
 by_cases hb:b=a
 ·subst hb;rw[a0H']at e;cases e;exact new
 ·rw[a0v' hb]at e
  exact(x b u e).stay (fun c v _ q=>k c v q) (fun c q=>by rw[a0v' (a0q' q hn)];exact q) fun c xs q=>by rw[a0v' (a0q' q hn)];exact q
end
def Rd(H:Hp)(a:Addr)(u:HO):Prop:=H a=some u∨∃o,H a=some (.frz o u)
theorem Rd.ok{P:Program}{w:World}{H:Hp}{h:Heap}{a:Addr}{u:HO}(r:Rd H a u)(x:HOk P w H h):ObjOk P w H h a u:=by
 rcases r with r| ⟨o,r⟩
 ·exact x a u r
 ·obtain⟨_,q⟩:=x a _ r
  exact q
def Mut:Option HO→Prop
 |some (.lst _)=>True
 |some (.dK _)=>True
 |some (.dT _)=>True
 |some (.set _ _)=>True
 |some (.ins _ _ _)=>True
 |some (.ext _)=>True
 |_=>False
section
variable {P:Program}{w:World}{H:Hp}{h h':Heap}{x e:Addr}{o':HO}
theorem HOk.write(ok:HOk P w H h)(mu:Mut (H x))(he:e=x∨H e=some (.own x))(k:∀b u,b≠e→h.get? b=some u→h'.get? b=some u)(heo:∃u,h'.get? e=some u)
  (new:ObjOk P w (upd H x o') h' x o'):HOk P w (upd H x o') h':=fun b u q=>by
 have nown:∀c y,H c=some (.own y)→c≠x:=fun c y r z=>by subst z;rw[r]at mu;exact mu
 have ntup:∀c xs,H c=some (.tup xs)→c≠x:=fun c xs r z=>by subst z;rw[r]at mu;exact mu
 by_cases hb:b=x
 ·subst hb;rw[a0H']at q;cases q;exact new
 ·rw[a0v' hb]at q
  by_cases hbe:b=e
  ·have q':H b=some (.own x):=by
    rcases he with z|z
    ·exact absurd (hbe.trans z) hb
    ·rw[hbe];exact z
   rw[q]at q';cases q'
   obtain⟨v,hv⟩:=heo
   exact⟨v,by rw[hbe];exact hv⟩
  ·refine(ok b u q).stay (fun c v hc r=>k c v ?_ r) (fun c r=>by rw[a0v' (nown c b r)];exact r) fun c xs r=>by rw[a0v' (ntup c xs r)];exact r
   rcases hc with rfl|hc
   ·exact hbe
   ·rintro rfl
    rcases he with z|z
    ·exact nown c b hc z
    ·rw[hc]at z;cases z;exact hb rfl
end
structure Un (fs ex:List Addr)(H H':Hp)(h h':Heap):Prop where
 keep:∀b o,h.get? b=some o→H b=none→b∉fs→b∉ex→h'.get? b=some o
 slot:∀b o,h.get? b=some o→H b=none→b∈fs→b∉ex→∃sl,h'.get? b=some {o with slots:=sl}
 free:∀b o,h.get? b=some o→H b=none→b∉ex→H' b=none
 there:∀b o,h.get? b=some o→b∉ex→∃o',h'.get? b=some o'
 tups:∀b xs,H b=some (.tup xs)→H' b=some (.tup xs)
 frzs:∀b o u,H b=some (.frz o u)→H' b=some (.frz o u)
 tbls:∀b ps,H b=some (.tbl ps)→∃more,H' b=some (.tbl (ps++more))
section
variable {fs fs' ex ex':List Addr}{H H1 H2:Hp}{h h1 h2 h':Heap}{a x e:Addr}{o:HO}
theorem Un.any(u:Un fs ex H H1 h h1){b:Addr}{ob:Obj}(q:h.get? b=some ob)(n:H b=none)(hx:b∉ex):∃sl,h1.get? b=some {ob with slots:=sl}:=by
 by_cases hb:b∈fs
 ·exact u.slot b ob q n hb hx
 ·exact⟨ob.slots,u.keep b ob q n hb hx⟩
theorem Un.kept(k:∀b u,h.get? b=some u→h'.get? b=some u):Un fs ex H H h h':=
 ⟨fun b ob q _ _ _=>k b ob q,fun b ob q _ _ _=>⟨ob.slots,k b ob q⟩,fun _ _ _ n _=>n,fun b ob q _=>⟨ob,k b ob q⟩,fun _ _ q=>q,fun _ _ _ q=>q,fun _ ps q=>⟨#[],by rw[q];simp⟩⟩
theorem Un.refl:Un fs ex H H h h:=Un.kept fun _ _ q=>q
theorem Un.laid(k:∀b u,h.get? b=some u→h'.get? b=some u)(hp:h.objs.size≤a)(hn:H a=none):Un fs ex H (upd H a o) h h' where
 keep:=fun b u q _ _ _=>k b u q
 slot:=fun b u q _ _ _=>⟨u.slots,k b u q⟩
 free:=fun b u q n _=>by rw[a0v' (ZR (ZL (Zs q) hp))];exact n
 there:=fun b u q _=>⟨u,k b u q⟩
 tups:=fun b xs q=>by rw[a0v' (a0q' q hn)];exact q
 frzs:=fun b u xs q=>by rw[a0v' (a0q' q hn)];exact q
 tbls:=fun b ps q=>⟨#[],by rw[a0v' (a0q' q hn),q];simp⟩
theorem Un.write(mu:Mut (H x))(he:e=x∨H e=some (.own x))(k:∀b u,b≠e→h.get? b=some u→h'.get? b=some u)(heo:∃u,h'.get? e=some u):Un fs ex H (upd H x o) h h':=by
 have hx:∀b,H b=none→b≠x:=fun b n z=>by subst z;rw[n]at mu;exact mu
 have hb:∀b,H b=none→b≠e:=fun b n z=>by
  subst z
  rcases he with r|r
  ·exact hx b n r
  ·rw[n]at r;cases r
 have hm:∀b u,H b=some u→¬Mut (some u)→b≠x:=fun b u q nm z=>by subst z;rw[q]at mu;exact nm mu
 refine⟨fun b u q n _ _=>k b u (hb b n) q,fun b u q n _ _=>⟨u.slots,k b u (hb b n) q⟩,fun b u q n _=>by rw[a0v' (hx b n)];exact n,fun b u q _=>?_,
  fun b xs q=>by rw[a0v' (hm b _ q fun z=>z)];exact q,fun b u xs q=>by rw[a0v' (hm b _ q fun z=>z)];exact q,fun b ps q=>⟨#[],by rw[a0v' (hm b _ q fun z=>z),q];simp⟩⟩
 by_cases hbe:b=e
 ·subst hbe;exact heo
 ·exact⟨u,k b u hbe q⟩
end
def trk(h:Heap)(H:Hp):List Addr:=(List.range h.objs.size).filter fun a=>(H a).isSome
def hidT(h:Heap)(H:Hp):Heap:=PySem.W.hideAll h (trk h H)
theorem b1j'(h:Heap)(H:Hp):(hidT h H).objs.size=h.objs.size:=PySem.W.hideAll_size _ _
theorem b3h'{h:Heap}{H:Hp}{b:Addr}{o:Obj}(e:h.get? b=some o)(n:H b=none):(hidT h H).get? b=some o:=
 PySem.W.hideAll_get _ e fun hm=>by
  have q:(H b).isSome=true:=(ZT.mp hm).2
  rw[n]at q;simp at q
theorem of_hidT{h:Heap}{H:Hp}{b:Addr}{o:Obj}(e:(hidT h H).get? b=some o):h.get? b=some o∧H b=none:=by
 have e':h.get? b=some o:=PySem.W.of_hideAll (trk h H) e
 refine⟨e',?_⟩
 cases q:H b with
 |none=>rfl
 |some x=>
  have hm:b∈trk h H:=ZT.mpr ⟨List.mem_range.mpr (Zs e'),by simp[q]⟩
  have z:(hidT h H).get? b=none:=PySem.W.hideAll_none (trk h H) hm
  rw[z]at e;cases e
end L2
namespace L2
open PySem PySem.Spec PyProof.Rows
structure Mod (K:PySem.W.Frag)(mg:Str→Option Value)(base:Heap):Prop where
 kin:K.In base
 glob:base.Ns mainGlobals mg
 blt:∃mb,base.Ns builtinsNs mb∧∀x:Str,x≠"__name__"→mb x=bootBuiltins x
 nolimit:base.NoLimit
structure Cx where
 prog:Program
 w:World
 K:PySem.W.Frag
 mg:Str→Option Value
 base:Heap
 A:Around
 N:List Str
 s₀:Shared
 H₀:Hp
 env:Env
 outer:List Env
 stack:List Env
 ex:List Addr
 fn:Str→Bool
 calm:Bool
 pn:List (Addr×Obj)
 xe:Value→Shared→Prop
def frs(l:List Env):List Addr:=l.filterMap (·.frame)
abbrev Cx.fs(X:Cx):List Addr:=frs X.outer
def Vis(sc:Scope)(x:Str):Prop:=sc.names.lookup x=some .local∨sc.names.lookup x=some .cell∨sc.names.lookup x=some .free
def Loc(sc:Scope)(x:Str):Prop:=sc.names.lookup x=some .local∨sc.names.lookup x=some .cell
def Look(env:Env)(h:Heap)(m:Str→Option Value)(x:Str)(u:Value):Prop:=
 (env.kindOf x=some .local∧m x=some u)∨((env.kindOf x=some .cell∨env.kindOf x=some .free)∧∃c,env.cells.lookup x=some c∧h.IsCell c (some u))
structure Cx.Ok (X:Cx):Prop where
 mod:Mod X.K X.mg X.base
 kind:X.env.scope.kind=.function
 glob:X.env.globals=mainGlobals
 blt:X.env.builtins=builtinsNs
 above:X.s₀.heap.objs.size≤X.env.locals
 inj:∀x y c,X.env.cells.lookup x=some c→X.env.cells.lookup y=some c→x=y
 has:∀x,(X.env.kindOf x=some .cell∨X.env.kindOf x=some .free)→∃c,X.env.cells.lookup x=some c
 cab:∀x c,X.fn x=true→X.env.cells.lookup x=some c→X.s₀.heap.objs.size≤c
 hd:X.calm=true→X.A.handled=none
 frames:X.A.frames=some X.stack
 stk:X.stack=X.outer∨(X.stack=X.env::X.outer∧X.env.frame=some X.env.locals)
 exf:∀b∈X.ex,b≠X.env.locals∧∀x c,X.env.cells.lookup x=some c→c≠b
 bs:∀b o,X.base.get? b=some o→X.s₀.heap.get? b=some o∧X.H₀ b=none
 bsz:X.base.objs.size≤X.s₀.heap.objs.size
 noex:∀b o,X.base.get? b=some o→b∉X.ex
 exfs:∀b∈X.ex,b∉X.fs
 funs:X.s₀.heap.FunFrames X.base X.outer
 frf:∀b∈X.fs,X.H₀ b=none
structure Inv (X:Cx)(pins:List (Addr×Obj))(σ:List (Option V))(H:Hp)(s:Shared):Prop where
 ok:X.Ok
 os:s.os=X.s₀.os
 bare:AllBare s.gens
 base:Un X.fs X.ex X.H₀ H X.s₀.heap s.heap
 loc:∃m,s.heap.Ns X.env.locals m∧∀(i:Nat) (x:Str) (v:V),X.N[i]?=some x→σ[i]?=some (some v)→Vis X.env.scope x→∃u,RelV v u∧Look X.env s.heap m x u
 cell:∀x c,X.env.cells.lookup x=some c→∃v,s.heap.IsCell c v
 free:H X.env.locals=none
 freeC:∀x c,X.env.cells.lookup x=some c→H c=none
 pin:∀p∈X.pn++pins,s.heap.get? p.1=some p.2∧H p.1=none∧p.1≠X.env.locals∧p.1∉X.fs∧∀v,p.2.data≠.cell v
 hok:HOk X.prog X.w H s.heap
 len:σ.length=X.N.length
section
variable {X:Cx}{pins:List (Addr×Obj)}{σ:List (Option V)}{H H':Hp}{s:Shared}{h':Heap}
theorem Cx.Ok.nofr(ok:X.Ok){b:Addr}{o:Obj}(e:X.base.get? b=some o):b∉X.fs:=fun hb=>by
 have:=(ok.funs.mem hb).1
 rw[e]at this;cases this
theorem Inv.bs(I:Inv X pins σ H s):∀b o,X.base.get? b=some o→s.heap.get? b=some o∧H b=none:=fun b o e=>
 ⟨I.base.keep b o (I.ok.bs b o e).1 (I.ok.bs b o e).2 (I.ok.nofr e) (I.ok.noex b o e),I.base.free b o (I.ok.bs b o e).1 (I.ok.bs b o e).2 (I.ok.noex b o e)⟩
theorem Inv.bk(I:Inv X pins σ H s):∀b o,X.base.get? b=some o→s.heap.get? b=some o:=fun b o e=>(I.bs b o e).1
theorem Inv.mod(I:Inv X pins σ H s):Mod X.K X.mg X.base:=I.ok.mod
theorem Inv.kIn(I:Inv X pins σ H s):X.K.In s.heap:=I.ok.mod.kin.keeps I.bk
theorem Inv.lt(I:Inv X pins σ H s):X.env.locals<s.heap.objs.size:=let⟨_,hn,_⟩:=I.loc;hn.lt
theorem Inv.sz(I:Inv X pins σ H s):X.s₀.heap.objs.size≤s.heap.objs.size:=ZB I.ok.above (Nat.le_of_lt I.lt)
theorem Inv.nofs(I:Inv X pins σ H s){a:Addr}(h:s.heap.objs.size≤a):a∉X.fs:=fun hb=>by
 obtain⟨_,o,ho,_⟩:=I.ok.funs.mem hb
 exact absurd (ZL (Zs ho) (ZB I.sz h)) (Nat.lt_irrefl _)
theorem Inv.cne(I:Inv X pins σ H s):∀x c,X.env.cells.lookup x=some c→c≠X.env.locals:=fun x c e z=>by
 obtain⟨v,o,ho,hd⟩:=I.cell x c e
 obtain⟨m,⟨o',es,ep,ho',hd',_⟩,_⟩:=I.loc
 rw[z,ho']at ho;cases ho;rw[hd']at hd;cases hd
theorem Inv.funs(I:Inv X pins σ H s):s.heap.FunFrames X.base X.outer:=by
 have all:∀(l:List Env),(∀b∈frs l,b∈X.fs)→X.s₀.heap.FunFrames X.base l→s.heap.FunFrames X.base l:=by
  intro l
  induction l with
  |nil=>intro _ _;trivial
  |cons env r ih=>
   intro hs hl
   obtain⟨hk,⟨L,o,hf,hn,ho,hd⟩,hr⟩:=hl
   have hL:L∈X.fs:=hs L (by unfold frs;rw[List.filterMap_cons,hf];exact Zc)
   obtain⟨sl,e⟩:=I.base.slot L o ho (I.ok.frf L hL) hL fun z=>I.ok.exfs L z hL
   exact⟨hk,⟨L,_,hf,hn,e,hd⟩,ih (fun b hb=>hs b (by unfold frs;rw[List.filterMap_cons,hf];exact Zb _ hb)) hr⟩
 exact all X.outer (fun _ hb=>hb) I.ok.funs
theorem Inv.stack(I:Inv X pins σ H s):s.heap.FunFrames X.base X.stack:=by
 rcases I.ok.stk with e| ⟨e,hf⟩
 ·rw[e];exact I.funs
 ·rw[e]
  obtain⟨m,hn,_⟩:=I.loc
  refine .cons (by rw[I.ok.kind];decide) hf hn ?_ I.funs
  exact Heap.get?_none_of_le (ZB I.ok.bsz I.ok.above)
theorem Inv.stkSub(I:Inv X pins σ H s):∀b∈frs X.stack,b∈X.env.locals::X.fs:=fun b hb=>by
 rcases I.ok.stk with e| ⟨e,hf⟩
 ·rw[e]at hb;exact Zb _ hb
 ·rw[e]at hb
  unfold frs at hb
  rw[List.filterMap_cons,hf]at hb
  exact hb
theorem Inv.stkFree(I:Inv X pins σ H s):∀b∈frs X.stack,H b=none:=fun b hb=>by
 rcases Zr.mp (I.stkSub b hb)with e|hb
 ·rw[e];exact I.free
 ·obtain⟨_,o,ho,_⟩:=I.ok.funs.mem hb
  exact I.base.free b o ho (I.ok.frf b hb) fun z=>I.ok.exfs b z hb
theorem Inv.step{g':Array GenState}{t':Nat}{d':Drawn}{ch:List Addr}(I:Inv X pins σ H s)
  (hch:∀b∈ch,(b∈X.ex∨X.s₀.heap.objs.size≤b)∧b≠X.env.locals∧(∀x c,X.env.cells.lookup x=some c→c≠b)∧∀p∈X.pn++pins,p.1≠b)
  (keep:∀b o,b≠X.env.locals→b∉X.fs→b∉ch→s.heap.get? b=some o→H b=none→h'.get? b=some o)
  (slot:∀b o,b≠X.env.locals→b∈X.fs→b∉ch→s.heap.get? b=some o→H b=none→∃sl,h'.get? b=some {o with slots:=sl}) (free:∀b o,b∉ch→s.heap.get? b=some o→H b=none→H' b=none)
  (there:∀b o,b∉ch→s.heap.get? b=some o→∃o',h'.get? b=some o')
  (tups:∀b xs,H b=some (.tup xs)→H' b=some (.tup xs)) (frzs:∀b o u,H b=some (.frz o u)→H' b=some (.frz o u)) (tbls:∀b ps,H b=some (.tbl ps)→∃more,H' b=some (.tbl (ps++more)))
  (ns:∀m,s.heap.Ns X.env.locals m→h'.Ns X.env.locals m) (hok:HOk X.prog X.w H' h') (hg:AllBare g'):
  Inv X pins σ H' {s with heap:=h',gens:=g',drawn:=d',toks:=t'}:=by
 have neL:∀b o,X.s₀.heap.get? b=some o→b≠X.env.locals:=fun b o e=>ZR (ZL (Zs e) I.ok.above)
 have neC:∀b o,X.s₀.heap.get? b=some o→b∉X.ex→b∉ch:=fun b o e hx hb=>by
  rcases(hch b hb).1 with z|z
  ·exact hx z
  ·exact absurd (ZL (Zs e) z) (Nat.lt_irrefl _)
 have cellK:∀x c,X.env.cells.lookup x=some c→∀v,s.heap.IsCell c v→h'.IsCell c v:=fun x c e v ⟨o,ho,hd⟩=>by
  have nch:c∉ch:=fun z=>(hch c z).2.2.1 x c e rfl
  by_cases hc:c∈X.fs
  ·obtain⟨sl,q⟩:=slot c o (I.cne x c e) hc nch ho (I.freeC x c e)
   exact⟨_,q,hd⟩
  ·exact⟨o,keep c o (I.cne x c e) hc nch ho (I.freeC x c e),hd⟩
 refine⟨I.ok,I.os,hg,⟨fun b o e n hb hx=>?_,fun b o e n hb hx=>?_,fun b o e n hx=>?_,fun b o e hx=>?_,fun b xs e=>tups b xs (I.base.tups b xs e),fun b o xs e=>frzs b o xs (I.base.frzs b o xs e),fun b ps e=>?_⟩,?_,fun x c e=>?_,?_,fun x c e=>?_,fun p hp=>?_,hok,I.len⟩
 ·exact keep b o (neL b o e) hb (neC b o e hx) (I.base.keep b o e n hb hx) (I.base.free b o e n hx)
 ·obtain⟨sl,e1⟩:=I.base.slot b o e n hb hx
  obtain⟨sl',e2⟩:=slot b _ (neL b o e) hb (neC b o e hx) e1 (I.base.free b o e n hx)
  exact⟨sl',e2⟩
 ·obtain⟨o',e1⟩:=I.base.there b o e hx
  exact free b o' (neC b o e hx) e1 (I.base.free b o e n hx)
 ·obtain⟨o',e1⟩:=I.base.there b o e hx
  exact there b o' (neC b o e hx) e1
 ·obtain⟨m1,e1⟩:=I.base.tbls b ps e
  obtain⟨m2,e2⟩:=tbls b _ e1
  exact⟨m1++m2,by rw[e2,Array.append_assoc]⟩
 ·obtain⟨m,hn,hl⟩:=I.loc
  refine⟨m,ns m hn,fun i x v e1 e2 e3=>?_⟩
  obtain⟨u,r,l⟩:=hl i x v e1 e2 e3
  refine⟨u,r,?_⟩
  rcases l with l| ⟨k,c,e,z⟩
  ·exact .inl l
  ·exact .inr ⟨k,c,e,cellK x c e _ z⟩
 ·obtain⟨v,z⟩:=I.cell x c e
  exact⟨v,cellK x c e v z⟩
 ·obtain⟨m,⟨o,_,_,ho,_⟩,_⟩:=I.loc
  exact free _ o (fun z=>(hch _ z).2.1 rfl) ho I.free
 ·obtain⟨v,o,ho,hd⟩:=I.cell x c e
  exact free c o (fun z=>(hch c z).2.2.1 x c e rfl) ho (I.freeC x c e)
 ·obtain⟨e,n,ne,nf,d⟩:=I.pin p hp
  have nch:p.1∉ch:=fun z=>(hch p.1 z).2.2.2 p hp rfl
  exact⟨keep p.1 p.2 ne nf nch e n,free p.1 p.2 nch e n,ne,nf,d⟩
theorem Inv.un{t':Nat}(I:Inv X pins σ H s)(u:Un X.fs [] H H' s.heap h')(hok:HOk X.prog X.w H' h'):Inv X pins σ H' {s with heap:=h',toks:=t'}:=by
 obtain⟨m,⟨o,es,ep,ho,r⟩,_⟩:=id I.loc
 obtain⟨sl,hL⟩:=u.any ho I.free (by simp)
 exact I.step (g':=s.gens) (d':=s.drawn) (ch:=[]) (fun _ z=>nomatch z) (fun b o _ hb _ e n=>u.keep b o e n hb (by simp)) (fun b o _ hb _ e n=>u.slot b o e n hb (by simp)) (fun b o _ e n=>u.free b o e n (by simp)) (fun b o _ e=>u.there b o e (by simp)) u.tups u.frzs u.tbls (fun m' hm=>by
  obtain⟨o',es',ep',ho',r'⟩:=hm
  rw[ho]at ho';cases ho'
  exact⟨_,es',ep',hL,r'⟩) hok I.bare
theorem Inv.call{g':Array GenState}{t':Nat}{d':Drawn}{ch:List Addr}(I:Inv X pins σ H s)(u:Un (frs X.stack) ch H H' s.heap h')(hok:HOk X.prog X.w H' h')(hg:AllBare g')
  (hch:∀b∈ch,(b∈X.ex∨X.s₀.heap.objs.size≤b)∧b≠X.env.locals∧(∀x c,X.env.cells.lookup x=some c→c≠b)∧∀p∈X.pn++pins,p.1≠b):
  Inv X pins σ H' {s with heap:=h',gens:=g',drawn:=d',toks:=t'}:=by
 obtain⟨m,⟨o,es,ep,ho,r⟩,_⟩:=id I.loc
 obtain⟨sl,hL⟩:=u.any ho I.free fun z=>(hch _ z).2.1 rfl
 exact I.step (ch:=ch) hch (fun b o hL hb hc e n=>u.keep b o e n (fun z=>(Zr.mp (I.stkSub b z)).elim hL hb) hc) (fun b o _ _ hc e n=>u.any e n hc) (fun b o hc e n=>u.free b o e n hc) (fun b o hc e=>u.there b o e hc) u.tups u.frzs u.tbls (fun m' hm=>by
  obtain⟨o',es',ep',ho',r'⟩:=hm
  rw[ho]at ho';cases ho'
  exact⟨_,es',ep',hL,r'⟩) hok hg
theorem Inv.turned{t':Nat}{it:Addr}(I:Inv X pins σ H s)(k:∀b o,b≠it→s.heap.get? b=some o→h'.get? b=some o)(hn:H it=none)(hL:it≠X.env.locals)
  (h1:it∈X.ex∨X.s₀.heap.objs.size≤it) (h2:∀x c,X.env.cells.lookup x=some c→c≠it) (h3:∀p∈X.pn++pins,p.1≠it):Inv X pins σ H {s with heap:=h',toks:=t'}:=by
 have nit:∀b u,H b=some u→b≠it:=fun b u e z=>by rw[z,hn]at e;cases e
 refine I.step (g':=s.gens) (d':=s.drawn) (ch:=[it]) (fun b hb=>?_) (fun b o _ _ hc e _=>k b o (fun z=>hc (by simp[z])) e) (fun b o _ _ hc e _=>⟨o.slots,k b o (fun z=>hc (by simp[z])) e⟩) (fun _ _ _ _ n=>n)
  (fun b o hc e=>⟨o,k b o (fun z=>hc (by simp[z])) e⟩) (fun _ _ e=>e) (fun _ _ _ e=>e) (fun b ps e=>⟨#[],by rw[e];simp⟩) (fun m hm=>?_) (fun b u e=>?_) I.bare
 ·have e:b=it:=by simpa using hb
  subst e
  exact⟨h1,hL,h2,h3⟩
 ·obtain⟨o,es,ep,ho,r⟩:=hm
  exact⟨o,es,ep,k _ o (Ne.symm hL) ho,r⟩
 ·refine(I.hok b u e).stay (fun c v hc q=>k c v ?_ q) (fun _ q=>q) fun _ _ q=>q
  rcases hc with z|z
  ·rw[z];exact nit b u e
  ·exact nit c _ z
theorem Inv.tok(I:Inv X pins σ H s)(t:Nat):Inv X pins σ H {s with toks:=t}:=I.un (h':=s.heap) (t':=t) Un.refl I.hok
theorem Inv.kept{t':Nat}(I:Inv X pins σ H s)(k:∀b u,s.heap.get? b=some u→h'.get? b=some u):Inv X pins σ H {s with heap:=h',toks:=t'}:=I.un (Un.kept k) (I.hok.kept k)
theorem Inv.laid{a:Addr}{o:HO}{t':Nat}(I:Inv X pins σ H s)(k:∀b u,s.heap.get? b=some u→h'.get? b=some u)(hp:s.heap.objs.size≤a)(new:ObjOk X.prog X.w (upd H a o) h' a o):
  Inv X pins σ (upd H a o) {s with heap:=h',toks:=t'}:=I.un (Un.laid k hp (I.hok.fresh hp)) (I.hok.laid k hp new)
theorem Inv.write{x e:Addr}{o:HO}{t':Nat}(I:Inv X pins σ H s)(mu:Mut (H x))(he:e=x∨H e=some (.own x))(k:∀b u,b≠e→s.heap.get? b=some u→h'.get? b=some u)(heo:∃u,h'.get? e=some u)
  (new:ObjOk X.prog X.w (upd H x o) h' x o):Inv X pins σ (upd H x o) {s with heap:=h',toks:=t'}:=I.un (Un.write mu he k heo) (I.hok.write mu he k heo new)
theorem Inv.pins_of{pins':List (Addr×Obj)}(I:Inv X pins σ H s)(h:∀p∈pins',s.heap.get? p.1=some p.2∧H p.1=none∧p.1≠X.env.locals∧p.1∉X.fs∧∀v,p.2.data≠.cell v):Inv X pins' σ H s:=
 ⟨I.ok,I.os,I.bare,I.base,I.loc,I.cell,I.free,I.freeC,fun p hp=>(ZA.mp hp).elim (fun z=>I.pin p (Z7 _ z)) (h p),I.hok,I.len⟩
theorem a9p'{N:List Str}(hN:N.Nodup){i j:Nat}{x:Str}(a:N[i]?=some x)(b:N[j]?=some x):i=j:=by
 obtain⟨h1,e1⟩:=Zh.mp a
 obtain⟨h2,e2⟩:=Zh.mp b
 exact(List.getElem_inj hN).mp (e1.trans e2.symm)
theorem a7P'{M:Model}{A:Around}{E:Value→Shared→Prop}{i:Nat}{x:Str}{v:V}{u:Value}{Q:Unit→Shared→Prop}(I:Inv X pins σ H s)(hN:X.N.Nodup)(hi:X.N[i]?=some x)(hx:Loc X.env.scope x)(r:RelV v u)
  (h:∀s',Inv X pins (σ.set i (some v)) H s'→(∃a,Heap.SameBut a s.heap s'.heap∧(a=X.env.locals∨X.env.cells.lookup x=some a))→Q () s') (hf:X.fn x=true∨X.env.scope.names.lookup x=some .local:=by first|exact .inl rfl|exact .inr rfl|assumption):wpAny M A (storeName X.env x u) Q E s:=by
 obtain⟨m,hn,hl⟩:=id I.loc
 have hcls:(X.env.scope.kind== .class||(X.env.scope.kind== .module&&X.env.locals !=X.env.globals))=false:=by rw[I.ok.kind];rfl
 have hiσ:i<σ.length:=by rw[I.len];exact(Zh.mp hi).1
 have cne:=I.cne
 have tracked:∀{a:Addr} {h':Heap},(∃o,s.heap.get? a=some o∧H a=none)→Heap.SameBut a s.heap h'→HOk X.prog X.w H h':=fun{a h'} ha hs b ob e=>by
  obtain⟨_,_,hfree⟩:=ha
  refine(I.hok b ob e).stay (fun c w' hc q=>(hs.2 c ?_).trans q) (fun _ q=>q) fun _ _ q=>q
  rintro rfl
  rcases hc with rfl|hc
  ·rw[hfree]at e;cases e
  ·rw[hfree]at hc;cases hc
 rcases hx with hk|hk
 ·refine wpAny_storeName_local hk hn (fun h' hn' hs=>?_) hcls
  obtain⟨oL,_,_,hoL,_⟩:=id hn
  refine h _ ⟨I.ok,I.os,I.bare,⟨fun b o e n hb hx=>?_,fun b o e n hb hx=>?_,I.base.free,fun b o e hx=>?_,I.base.tups,I.base.frzs,I.base.tbls⟩,⟨_,hn',fun j y v' e1 e2 e3=>?_⟩,fun y c e=>?_,I.free,I.freeC,fun p hp=>?_,tracked ⟨oL,hoL,I.free⟩ hs,by simpa using I.len⟩ ⟨_,hs,.inl rfl⟩
  ·exact(hs.2 b (ZR (ZL (Zs e) I.ok.above))).trans (I.base.keep b o e n hb hx)
  ·obtain⟨sl,e1⟩:=I.base.slot b o e n hb hx
   exact⟨sl,(hs.2 b (ZR (ZL (Zs e) I.ok.above))).trans e1⟩
  ·obtain⟨o',e1⟩:=I.base.there b o e hx
   exact⟨o',(hs.2 b (ZR (ZL (Zs e) I.ok.above))).trans e1⟩
  ·by_cases hj:j=i
   ·subst hj
    rw[hi]at e1;cases e1
    rw[List.getElem?_set_self hiσ]at e2
    cases e2
    exact⟨u,r,.inl ⟨hk,by simp⟩⟩
   ·rw[List.getElem?_set_ne (Ne.symm hj)]at e2
    obtain⟨u',r',q⟩:=hl j y v' e1 e2 e3
    refine⟨u',r',?_⟩
    rcases q with⟨k,e⟩| ⟨k,c,e,z⟩
    ·refine .inl ⟨k,?_⟩
     have:y≠x:=fun e=>hj (a9p' hN e1 (e▸hi))
     simp[this,e]
    ·exact .inr ⟨k,c,e,z.sameBut hs (cne y c e)⟩
  ·obtain⟨w',z⟩:=I.cell y c e
   exact⟨w',z.sameBut hs (cne y c e)⟩
  ·obtain⟨e,n,ne,nf,d⟩:=I.pin p hp
   exact⟨(hs.2 p.1 ne).trans e,n,ne,nf,d⟩
 ·have hfn:X.fn x=true:=by
   rcases hf with z|z
   ·exact z
   ·rw[z]at hk;cases hk
  obtain⟨c,hc⟩:=I.ok.has x (.inl hk)
  obtain⟨w',z⟩:=I.cell x c hc
  refine wpAny_storeName_cell I.ok.kind hk hc z (fun h' hc' hs=>?_)
  obtain⟨oc,hoc,hocd⟩:=id z
  refine h {s with heap:=h'} ⟨I.ok,I.os,I.bare,⟨fun b o e n hb hx=>?_,fun b o e n hb hx=>?_,I.base.free,fun b o e hx=>?_,I.base.tups,I.base.frzs,I.base.tbls⟩,⟨m,hn.sameBut hs (Ne.symm (cne x c hc)),fun j y v' e1 e2 e3=>?_⟩,fun y c' e=>?_,I.free,I.freeC,fun p hp=>?_,tracked ⟨oc,hoc,I.freeC x c hc⟩ hs,by simpa using I.len⟩ ⟨c,hs,.inr hc⟩
  ·exact(hs.2 b (ZR (ZL (Zs e) (I.ok.cab x c hfn hc)))).trans (I.base.keep b o e n hb hx)
  ·obtain⟨sl,e1⟩:=I.base.slot b o e n hb hx
   exact⟨sl,(hs.2 b (ZR (ZL (Zs e) (I.ok.cab x c hfn hc)))).trans e1⟩
  ·obtain⟨o',e1⟩:=I.base.there b o e hx
   exact⟨o',(hs.2 b (ZR (ZL (Zs e) (I.ok.cab x c hfn hc)))).trans e1⟩
  ·by_cases hj:j=i
   ·subst hj
    rw[hi]at e1;cases e1
    rw[List.getElem?_set_self hiσ]at e2
    cases e2
    exact⟨u,r,.inr ⟨.inl hk,c,hc,hc'⟩⟩
   ·rw[List.getElem?_set_ne (Ne.symm hj)]at e2
    obtain⟨u',r',q⟩:=hl j y v' e1 e2 e3
    refine⟨u',r',?_⟩
    rcases q with q| ⟨k,c',e,z'⟩
    ·exact .inl q
    ·refine .inr ⟨k,c',e,z'.sameBut hs ?_⟩
     rintro rfl
     exact hj (a9p' hN e1 (I.ok.inj _ _ _ e hc▸hi))
  ·by_cases hcc:c'=c
   ·subst hcc;exact⟨_,hc'⟩
   ·obtain⟨w2,z2⟩:=I.cell y c' e
    exact⟨w2,z2.sameBut hs hcc⟩
  ·obtain⟨e,n,ne,nf,d⟩:=I.pin p hp
   refine⟨(hs.2 p.1 ?_).trans e,n,ne,nf,d⟩
   intro q
   rw[q,hoc]at e
   have q':oc=p.2:=ZY e
   exact d w' (by rw[←q'];exact hocd)
theorem a7h'{M:Model}{A:Around}{E:Value→Shared→Prop}{i:Nat}{x:Str}{v:V}{u:Value}{Q:Unit→Shared→Prop}(I:Inv X pins σ H s)(hN:X.N.Nodup)(hi:X.N[i]?=some x)(hx:Loc X.env.scope x)(r:RelV v u)
  (h:∀s',Inv X pins (σ.set i (some v)) H s'→Q () s') (hf:X.fn x=true∨X.env.scope.names.lookup x=some .local:=by first|exact .inl rfl|exact .inr rfl|assumption):wpAny M A (storeName X.env x u) Q E s:=
 a7P' I hN hi hx r (fun s' I' _=>h s' I') hf
theorem Inv.call'{s':Shared}{ch:List Addr}(I:Inv X pins σ H s)(ho:s'.os=s.os)(u:Un (frs X.stack) ch H H' s.heap s'.heap)(hok:HOk X.prog X.w H' s'.heap)(hg:AllBare s'.gens)
  (hch:∀b∈ch,(b∈X.ex∨X.s₀.heap.objs.size≤b)∧b≠X.env.locals∧(∀x c,X.env.cells.lookup x=some c→c≠b)∧∀p∈X.pn++pins,p.1≠b):Inv X pins σ H' s':=by
 obtain⟨h',g',d',t',o'⟩:=s'
 have e:o'=s.os:=ho
 subst e
 exact I.call (g':=g') (t':=t') (d':=d') u hok hg hch
end
abbrev XK:=Value→Option Addr→Hp→Prop
abbrev St:=List (Option V)
abbrev VK:=V→Hp→Prop
abbrev TE:=St→Hp→VK→Prop
abbrev TT:=St→Hp→(Bool→Hp→Prop)→Prop
abbrev TA:=St→Hp→(List V→Hp→Prop)→Prop
structure Ends where
 nx:St→Hp→Prop
 rt:VK
 bk:St→Hp→Prop:=fun _ _=>False
 ct:St→Hp→Prop:=fun _ _=>False
abbrev TS:=Ends→St→Hp→Prop
def EP(X:Cx)(pins:List (Addr×Obj))(σ:St)(Q:VK)(u:Value)(s':Shared):Prop:=∃v H',Inv X pins σ H' s'∧RelV v u∧Q v H'
def TP(X:Cx)(pins:List (Addr×Obj))(σ:St)(Q:Bool→Hp→Prop)(b:Bool)(s':Shared):Prop:=∃H',Inv X pins σ H' s'∧Q b H'
def AP(X:Cx)(pins:List (Addr×Obj))(σ:St)(Q:List V→Hp→Prop)(us:List Value)(s':Shared):Prop:=∃vs H',Inv X pins σ H' s'∧Vals vs us∧Q vs H'
def SP(X:Cx)(pins:List (Addr×Obj))(D:Ends)(f:Flow)(s':Shared):Prop:=
 match f with
 | .next=>∃σ' H',Inv X pins σ' H' s'∧D.nx σ' H'
 | .brk=>∃σ' H',Inv X pins σ' H' s'∧D.bk σ' H'
 | .cont=>∃σ' H',Inv X pins σ' H' s'∧D.ct σ' H'
 | .ret u=>∃v σ' H',Inv X pins σ' H' s'∧RelV v u∧D.rt v H'
def PE(X:Cx)(e:Expr)(t:TE):Prop:=
 ∀(pins:List (Addr×Obj)) (s:Shared) (σ:St) (H:Hp) (Q:VK),Inv X pins σ H s→t σ H Q→wpAny (model X.prog X.w) X.A (eval e X.env) (EP X pins σ Q) X.xe s
def PT(X:Cx)(e:Expr)(t:TT):Prop:=
 ∀(pins:List (Addr×Obj)) (s:Shared) (σ:St) (H:Hp) (Q:Bool→Hp→Prop),Inv X pins σ H s→t σ H Q→wpAny (model X.prog X.w) X.A (isTrue e X.env (eval e X.env)) (TP X pins σ Q) X.xe s
def PW(X:Cx)(e:Expr)(t:TT):Prop:=
 ∀(whole:Sem Value) (pins:List (Addr×Obj)) (s:Shared) (σ:St) (H:Hp) (Q:Bool→Hp→Prop),Inv X pins σ H s→t σ H Q→wpAny (model X.prog X.w) X.A (isTrue e X.env whole) (TP X pins σ Q) X.xe s
theorem PW.pt{X:Cx}{e:Expr}{t:TT}(h:PW X e t):PT X e t:=h _
def PA(X:Cx)(es:List Expr)(t:TA):Prop:=
 ∀(pos:Pos) (pins:List (Addr×Obj)) (s:Shared) (σ:St) (H:Hp) (Q:List V→Hp→Prop),Inv X pins σ H s→t σ H Q→wpAny (model X.prog X.w) X.A (spliced (backTo pos (starEach es X.env))) (AP X pins σ Q) X.xe s
def PS(X:Cx)(st:Stmt)(t:TS):Prop:=
 ∀(pins:List (Addr×Obj)) (s:Shared) (σ:St) (H:Hp) (D:Ends),Inv X pins σ H s→t D σ H→wpAny (model X.prog X.w) X.A (exec st X.env) (SP X pins D) X.xe s
def PSs(X:Cx)(st:List Stmt)(t:TS):Prop:=
 ∀(pins:List (Addr×Obj)) (s:Shared) (σ:St) (H:Hp) (D:Ends),Inv X pins σ H s→t D σ H→wpAny (model X.prog X.w) X.A (execs st X.env) (SP X pins D) X.xe s
theorem thn{α:Type}{t:Sem α}{Q Q':α→Shared→Prop}{M:Model}{A:Around}{E:Value→Shared→Prop}{s:Shared}(h:wpAny M A t Q E s)(hQ:∀a s,Q a s→Q' a s):wpAny M A t Q' E s:=wpAny_mono h hQ fun _ _ x=>x
end L2
namespace L2
open PySem PySem.Spec PyProof.Rows
section
variable {X:Cx}
def tVar(i:Nat):TE:=fun σ H Q=>∃v,σ[i]?=some (some v)∧Q v H
def tC(v:V):TE:=fun _ H Q=>Q v H
theorem pe_var{i:Nat}{x:Str}{pos:Pos}(hN:X.N[i]?=some x)(hv:Vis X.env.scope x)(hd:(x==("__debug__":Str))=false:=by decide)(hcd:(x==("__classdict__":Str))=false:=by decide):PE X (.Name x pos) (tVar i):=by
 intro pins s σ H Q I h
 obtain⟨v,e,h⟩:=h
 obtain⟨m,hn,hl⟩:=I.loc
 obtain⟨u,r,l⟩:=hl i x v hN e hv
 have fin:EP X pins σ Q u s:=⟨v,H,I,r,h⟩
 rcases l with⟨hk,hm⟩| ⟨hk,c,hc,hcell⟩
 ·exact wpAny_Name (wpAny_loadName_local I.ok.kind hk hn hm fin) hd
 ·rcases hk with hk|hk
  ·exact wpAny_Name (wpAny_loadName_cell I.ok.kind hk hc hcell fin) hd
  ·exact wpAny_Name (wpAny_loadName_free I.ok.kind hk hc hcell fin hcd) hd
theorem pe_int{i j pos}:PE X (.Constant (.int i) j pos) (tC (.int i)):=fun _ _ _ H _ I h=>wpAny_Constant_int ⟨.int i,H,I.tok _,⟨_,rfl⟩,h⟩
theorem pe_bl{b j pos}:PE X (.Constant (.bool b) j pos) (tC (.bl b)):=fun _ _ _ H _ I h=>Constant_bool ⟨.bl b,H,I,rfl,h⟩
theorem pe_non{j pos}:PE X (.Constant .none j pos) (tC .non):=fun _ _ _ H _ I h=>Constant_none ⟨.non,H,I,rfl,h⟩
theorem pe_str{x j pos}:PE X (.Constant (.str x) j pos) (tC (.str x)):=fun _ _ _ H _ I h=>Calls.Constant_str ⟨.str x,H,I.tok _,⟨_,rfl⟩,h⟩
def Gl(X:Cx)(x:Str):Prop:=X.env.kindOf x=some .globalImplicit
theorem b2t'{E:Value→Shared→Prop}{pins:List (Addr×Obj)}{s:Shared}{σ:St}{H:Hp}{x:Str}{u:Value}{pos:Pos}{Q:Value→Shared→Prop}(I:Inv X pins σ H s)(hg:Gl X x)(hm:X.mg x=some u)(h:Q u s)
  (hd:(x==("__debug__":Str))=false:=by decide):wpAny (model X.prog X.w) X.A (eval (.Name x pos) X.env) Q E s:=
 Calls.Name_function_global I.ok.kind hg (Calls.loadGlobal_global (by rw[I.ok.glob];exact I.mod.glob.keeps I.bk) hm h) hd
theorem a6e'{E:Value→Shared→Prop}{pins:List (Addr×Obj)}{s:Shared}{σ:St}{H:Hp}{x:Str}{u:Value}{pos:Pos}{Q:Value→Shared→Prop}(I:Inv X pins σ H s)(hg:Gl X x)(hm:X.mg x=none)(hv:bootBuiltins x=some u)(h:Q u s)
  (hn:x≠"__name__":=by decide) (hd:(x==("__debug__":Str))=false:=by decide):wpAny (model X.prog X.w) X.A (eval (.Name x pos) X.env) Q E s:=by
 obtain⟨mb,h1,h2⟩:=I.mod.blt
 exact Calls.Name_function_global I.ok.kind hg (Calls.loadGlobal_builtin (by rw[I.ok.glob];exact I.mod.glob.keeps I.bk) hm (by rw[I.ok.blt];exact h1.keeps I.bk) ((h2 x hn).trans hv) h) hd
theorem pe_glob{x:Str}{v:V}{u:Value}{pos:Pos}(hg:Gl X x)(hm:X.mg x=some u)(r:RelV v u)(hd:(x==("__debug__":Str))=false:=by decide):PE X (.Name x pos) (tC v):=
 fun _ _ _ H _ I h=>b2t' I hg hm ⟨v,H,I,r,h⟩ hd
theorem pe_bltn{x:Str}{v:V}{u:Value}{pos:Pos}(hg:Gl X x)(hm:X.mg x=none)(hv:bootBuiltins x=some u)(r:RelV v u)(hn:x≠"__name__":=by decide)(hd:(x==("__debug__":Str))=false:=by decide):PE X (.Name x pos) (tC v):=
 fun _ _ _ H _ I h=>a6e' I hg hm hv ⟨v,H,I,r,h⟩ hn hd
variable {a b:Expr}{ta tb:TE}{pos:Pos}
variable {tA tB':TT}{rest:List Expr}
def tAnd(t u:TT):TT:=fun σ H Q=>t σ H fun c H1=>if c=true then u σ H1 Q else Q false H1
def tOr(t u:TT):TT:=fun σ H Q=>t σ H fun c H1=>if c=true then Q true H1 else u σ H1 Q
def tNot(t:TT):TT:=fun σ H Q=>t σ H fun c H1=>Q (!c) H1
theorem pw_and1(ha:PT X a tA):PW X (.BoolOp .And [a] pos) tA:=by
 intro wh pins s σ H Q I h
 refine isTrue_and (thn (ha pins s σ H Q I h) fun c s1 e=>?_)
 cases c with
 |true=>exact isTrue_and_nil e
 |false=>exact e
theorem pw_or1(ha:PT X a tA):PW X (.BoolOp .Or [a] pos) tA:=by
 intro wh pins s σ H Q I h
 refine isTrue_or (thn (ha pins s σ H Q I h) fun c s1 e=>?_)
 cases c with
 |false=>exact isTrue_or_nil e
 |true=>exact e
theorem pw_and(ha:PT X a tA)(hb:PW X (.BoolOp .And (b::rest) pos) tB'):PW X (.BoolOp .And (a::b::rest) pos) (tAnd tA tB'):=by
 intro wh pins s σ H Q I h
 refine isTrue_and (thn (ha pins s σ H _ I h) fun c s1 ⟨H1,I1,q1⟩=>?_)
 cases c with
 |true=>exact hb wh pins s1 σ H1 Q I1 q1
 |false=>exact⟨H1,I1,q1⟩
theorem pw_or(ha:PT X a tA)(hb:PW X (.BoolOp .Or (b::rest) pos) tB'):PW X (.BoolOp .Or (a::b::rest) pos) (tOr tA tB'):=by
 intro wh pins s σ H Q I h
 refine isTrue_or (thn (ha pins s σ H _ I h) fun c s1 ⟨H1,I1,q1⟩=>?_)
 cases c with
 |true=>exact⟨H1,I1,q1⟩
 |false=>exact hb wh pins s1 σ H1 Q I1 q1
theorem pt_not(ha:PT X a tA):PT X (.UnaryOp .Not a pos) (tNot tA):=by
 intro pins s σ H Q I h
 exact isTrue_not (ha pins s σ H (fun c H1=>Q (!c) H1) I h)
def tAndV(ta tb:TE):TE:=fun σ H Q=>ta σ H fun x H1=>∃c,x=.bl c∧if c=true then tb σ H1 Q else Q (.bl false) H1
def tOrV(ta tb:TE):TE:=fun σ H Q=>ta σ H fun x H1=>∃c,x=.bl c∧if c=true then Q (.bl true) H1 else tb σ H1 Q
theorem pe_one{op}{t:TE}(h:PE X a t):PE X (.BoolOp op [a] pos) t:=fun pins s σ H Q I hw=>BoolOp_one (h pins s σ H Q I hw)
theorem pe_and(ha:PE X a ta)(hb:PE X (.BoolOp .And (b::rest) pos) tb):PE X (.BoolOp .And (a::b::rest) pos) (tAndV ta tb):=by
 intro pins s σ H Q I h
 refine BoolOp_and (thn (ha pins s σ H _ I h) fun v s1 ⟨x,H1,I1,r1,q1⟩=>?_)
 obtain⟨c,rfl,q1⟩:=q1
 cases r1
 refine Yl ?_
 cases c with
 |true=>exact hb pins s1 σ H1 Q I1 q1
 |false=>exact⟨.bl false,H1,I1,rfl,q1⟩
theorem pe_or(ha:PE X a ta)(hb:PE X (.BoolOp .Or (b::rest) pos) tb):PE X (.BoolOp .Or (a::b::rest) pos) (tOrV ta tb):=by
 intro pins s σ H Q I h
 refine BoolOp_or (thn (ha pins s σ H _ I h) fun v s1 ⟨x,H1,I1,r1,q1⟩=>?_)
 obtain⟨c,rfl,q1⟩:=q1
 cases r1
 refine Yl ?_
 cases c with
 |false=>exact hb pins s1 σ H1 Q I1 q1
 |true=>exact⟨.bl true,H1,I1,rfl,q1⟩
def tIf(t:TT)(ta tb:TE):TE:=fun σ H Q=>t σ H fun c H1=>if c=true then ta σ H1 Q else tb σ H1 Q
theorem b3i'{c:Expr}(hc:PT X c tA)(ha:PE X a ta)(hb:PE X b tb):PE X (.IfExp c a b pos) (tIf tA ta tb):=by
 intro pins s σ H Q I h
 refine wpAny_IfExp (thn (hc pins s σ H _ I h) fun d s1 ⟨H1,I1,q1⟩=>?_)
 cases d with
 |true=>exact ha pins s1 σ H1 Q I1 q1
 |false=>exact hb pins s1 σ H1 Q I1 q1
end
end L2
namespace L2
open PySem PySem.Spec PyProof.Rows
def SqL(K:PySem.W.Frag)(H:Hp)(a:Addr)(xs:List V):Prop:=
 Rd H a (.lst xs)∨
  ∃(o:Obj) (its:Array Value) (n:Nat),K.lookup a=some o∧o.cls=.type "list"∧o.dict=none∧o.data=.seq its n∧its.size≤sizeLine∧Vals xs its.toList
def SqT(K:PySem.W.Frag)(H:Hp)(a:Addr)(xs:List V):Prop:=
 Rd H a (.tup xs)∨
  ∃(o:Obj) (its:Array Value) (n:Nat),K.lookup a=some o∧o.cls=.type "tuple"∧o.dict=none∧o.data=.seq its n∧its.size≤sizeLine∧Vals xs its.toList
def absV:Value→Option V
 | .none=>some .non
 | .bool b=>some (.bl b)
 | .int i _=>some (.int i)
 | .str x _=>some (.str x)
 | .bytes b _=>some (.byt b)
 | .float b _=>some (.flt b)
 | .ref a=>some (.ref a)
 | .type n=>some (.ty n)
 |_=>none
theorem RelV.abs{x:V}{u:Value}(r:RelV x u):absV u=some x:=by
 cases x with
 |non=>cases r;rfl
 |bl _=>cases r;rfl
 |int _=>obtain⟨t,rfl⟩:=r;rfl
 |str _=>obtain⟨t,rfl⟩:=r;rfl
 |byt _=>obtain⟨t,rfl⟩:=r;rfl
 |flt _=>obtain⟨t,rfl⟩:=r;rfl
 |ref _=>cases r;rfl
 |ty _=>cases r;rfl
theorem RelV.inj{x y:V}{u:Value}(r:RelV x u)(q:RelV y u):x=y:=ZY (r.abs.symm.trans q.abs)
theorem Vals.inj:∀{xs ys:List V} {us:List Value},Vals xs us→Vals ys us→xs=ys
 |_,_,_,.nil,.nil=>rfl
 |_,_,_,.cons r t,.cons r' t'=>by rw[r.inj r',Vals.inj t t']
section
variable {X:Cx}{pins:List (Addr×Obj)}{σ:St}{H:Hp}{s:Shared}{a:Addr}{xs ys:List V}
theorem SqL.of{K:PySem.W.Frag}(h:H a=some (.lst xs)):SqL K H a xs:=.inl (.inl h)
theorem SqT.of{K:PySem.W.Frag}(h:H a=some (.tup xs)):SqT K H a xs:=.inl (.inl h)
theorem Inv.list(I:Inv X pins σ H s)(h:SqL X.K H a xs):∃its:List Value,Vals xs its∧PlainL s.heap a its.toArray∧xs.length≤sizeLine:=by
 rcases h with h| ⟨o,its,n,hk,hc,hd,hs,hz,r⟩
 ·obtain⟨z,its,n,r,e⟩:=h.ok I.hok
  exact⟨its,r,⟨_,n,e,rfl,rfl,rfl⟩,z⟩
 ·refine⟨its.toList,r,⟨o,n,I.kIn a o hk,hc,hd,by simpa using hs⟩,?_⟩
  have e:=r.length
  simp only[ZD]at e
  omega
theorem Inv.tuple(I:Inv X pins σ H s)(h:SqT X.K H a xs):∃its:List Value,Vals xs its∧IsTup s.heap a its.toArray∧xs.length≤sizeLine:=by
 rcases h with h| ⟨o,its,n,hk,hc,_,hs,hz,r⟩
 ·obtain⟨z,its,r,p,_⟩:=h.ok I.hok
  exact⟨its,r,p,z⟩
 ·refine⟨its.toList,r,⟨o,I.kIn a o hk,hc,n,by simpa using hs⟩,?_⟩
  have e:=r.length
  simp only[ZD]at e
  omega
theorem Inv.list_inj(I:Inv X pins σ H s)(h:SqL X.K H a xs)(h':SqL X.K H a ys):xs=ys:=by
 obtain⟨its,r,⟨o,n,e,_,_,d⟩,_⟩:=I.list h
 obtain⟨its',r',⟨o',n',e',_,_,d'⟩,_⟩:=I.list h'
 rw[e]at e';cases e'
 rw[d]at d'
 injection d' with d1 _
 have:its=its':=by simpa using congrArg Array.toList d1
 subst this
 exact r.inj r'
theorem Inv.tuple_inj(I:Inv X pins σ H s)(h:SqT X.K H a xs)(h':SqT X.K H a ys):xs=ys:=by
 obtain⟨its,r,⟨o,e,_,n,d⟩,_⟩:=I.tuple h
 obtain⟨its',r',⟨o',e',_,n',d'⟩,_⟩:=I.tuple h'
 rw[e]at e';cases e'
 rw[d]at d'
 injection d' with d1 _
 have:its=its':=by simpa using congrArg Array.toList d1
 subst this
 exact r.inj r'
end
abbrev Cx.wish(X:Cx)(E:Value→Shared→Prop):Cx:={X with xe:=E}
abbrev Cx.nox(X:Cx):Cx:=X.wish fun _ _=>False
theorem Cx.Ok.wish{X:Cx}(ok:X.Ok)(E:Value→Shared→Prop):(X.wish E).Ok:=
 ⟨ok.mod,ok.kind,ok.glob,ok.blt,ok.above,ok.inj,ok.has,ok.cab,ok.hd,ok.frames,ok.stk,ok.exf,ok.bs,ok.bsz,ok.noex,ok.exfs,ok.funs,ok.frf⟩
theorem Cx.Ok.unwish{X:Cx}{E:Value→Shared→Prop}(ok:(X.wish E).Ok):X.Ok:=
 ⟨ok.mod,ok.kind,ok.glob,ok.blt,ok.above,ok.inj,ok.has,ok.cab,ok.hd,ok.frames,ok.stk,ok.exf,ok.bs,ok.bsz,ok.noex,ok.exfs,ok.funs,ok.frf⟩
section
variable {X:Cx}{pins:List (Addr×Obj)}{σ:St}{H:Hp}{s:Shared}{E:Value→Shared→Prop}
theorem Inv.wish(I:Inv X pins σ H s)(E:Value→Shared→Prop):Inv (X.wish E) pins σ H s:=⟨I.ok.wish E,I.os,I.bare,I.base,I.loc,I.cell,I.free,I.freeC,I.pin,I.hok,I.len⟩
theorem Inv.unwish(I:Inv (X.wish E) pins σ H s):Inv X pins σ H s:=⟨I.ok.unwish,I.os,I.bare,I.base,I.loc,I.cell,I.free,I.freeC,I.pin,I.hok,I.len⟩
theorem SP.unwish{D:Ends}{f:Flow}{s':Shared}(h:SP (X.wish E) pins D f s'):SP X pins D f s':=by
 cases f with
 |next=>obtain⟨σ',H',I,q⟩:=h;exact⟨σ',H',I.unwish,q⟩
 |brk=>obtain⟨σ',H',I,q⟩:=h;exact⟨σ',H',I.unwish,q⟩
 |cont=>obtain⟨σ',H',I,q⟩:=h;exact⟨σ',H',I.unwish,q⟩
 |ret u=>obtain⟨v,σ',H',I,r,q⟩:=h;exact⟨v,σ',H',I.unwish,r,q⟩
theorem PSs.nox{st:List Stmt}{t:TS}(h:PSs X.nox st t):PSs X st t:=fun pins s σ H D I hw=>
 wpAny_mono (h pins s σ H D (I.wish _) hw) (fun _ _ q=>q.unwish) fun _ _ z=>False.elim z
end
section
variable {X:Cx}{st:Stmt}{rest:List Stmt}{t u:TS}{e:Expr}{te:TE}{pos:Pos}
def tNext:TS:=fun D σ H=>D.nx σ H
def tSeq(t u:TS):TS:=fun D σ H=>t {D with nx:=u D} σ H
theorem pss_nil:PSs X [] tNext:=fun _ _ σ H _ I h=>wpAny_execs_nil ⟨σ,H,I,h⟩
theorem b3j'(h1:PS X st t)(h2:PSs X rest u):PSs X (st::rest) (tSeq t u):=by
 intro pins s σ H D I h
 refine wpAny_execs_cons (thn (h1 pins s σ H {D with nx:=u D} I h) fun f s1 q=>?_)
 cases f with
 |next=>
  obtain⟨σ',H',I',q⟩:=q
  exact h2 pins s1 σ' H' D I' q
 |ret v=>exact q
 |brk=>exact q
 |cont=>exact q
def tBreak:TS:=fun D σ H=>D.bk σ H
def tCont:TS:=fun D σ H=>D.ct σ H
theorem ps_pass:PS X (.Pass pos) tNext:=fun _ _ σ H _ I h=>wpAny_Pass ⟨σ,H,I,h⟩
theorem b3k':PS X (.Break pos) tBreak:=fun _ _ σ H _ I h=>wpAny_Break ⟨σ,H,I,h⟩
theorem a8J':PS X (.Continue pos) tCont:=fun _ _ σ H _ I h=>wpAny_Continue ⟨σ,H,I,h⟩
theorem Inv.quiet{pins:List (Addr×Obj)}{σ:St}{H:Hp}{s:Shared}(I:Inv X pins σ H s):interactive X.env=false:=by simp[interactive,I.ok.kind]
def tDrop(te:TE):TS:=fun D σ H=>te σ H fun _ H1=>D.nx σ H1
theorem ps_expr(he:PE X e te)(hs:swapsWith e none pos.line X.env=pure false:=by rfl):PS X (.Expr e pos) (tDrop te):=by
 intro pins s σ H D I h
 exact wpAny_Expr_any (thn (he pins s σ H _ I h) fun v s1 ⟨x,H1,I1,r1,q1⟩=>⟨σ,H1,I1,q1⟩) I.quiet hs
def tRet(te:TE):TS:=fun D σ H=>te σ H D.rt
theorem ps_ret(he:PE X e te):PS X (.Return (some e) pos) (tRet te):=by
 intro pins s σ H D I h
 exact wpAny_Return_some (thn (he pins s σ H _ I h) fun v s1 ⟨x,H1,I1,r1,q1⟩=>⟨x,σ,H1,I1,r1,q1⟩)
def tRetN:TS:=fun D _ H=>D.rt .non H
theorem ps_retN:PS X (.Return none pos) tRetN:=fun _ _ σ H _ I h=>wpAny_Return_none ⟨.non,σ,H,I,rfl,h⟩
def tIfS(c:TT)(t u:TS):TS:=fun D σ H=>c σ H fun b H1=>if b=true then t D σ H1 else u D σ H1
theorem ps_if{c:Expr}{a b:List Stmt}{tc:TT}(hc:PT X c tc)(ha:PSs X a t)(hb:PSs X b u):PS X (.If c a b pos) (tIfS tc t u):=by
 intro pins s σ H D I h
 refine wpAny_If (thn (hc pins s σ H _ I h) fun d s1 ⟨H1,I1,q1⟩=>?_)
 cases d with
 |true=>exact ha pins s1 σ H1 D I1 q1
 |false=>exact hb pins s1 σ H1 D I1 q1
end
abbrev TG:=V→St→Hp→(St→Hp→Prop)→Prop
abbrev TGs:=List V→St→Hp→(St→Hp→Prop)→Prop
def PG(X:Cx)(target:Expr)(t:TG):Prop:=
 ∀(pins:List (Addr×Obj)) (s:Shared) (σ:St) (H:Hp) (v:V) (u:Value) (Q:St→Hp→Prop),Inv X pins σ H s→RelV v u→t v σ H Q→
  wpAny (model X.prog X.w) X.A (assign target X.env u) (fun _ s'=>∃σ' H',Inv X pins σ' H' s'∧Q σ' H') X.xe s
def PGs(X:Cx)(ts:List Expr)(t:TGs):Prop:=
 ∀(pins:List (Addr×Obj)) (s:Shared) (σ:St) (H:Hp) (vs:List V) (us:List Value) (Q:St→Hp→Prop),Inv X pins σ H s→Vals vs us→t vs σ H Q→
  wpAny (model X.prog X.w) X.A (assignInOrder ((assignEach ts X.env).map (·.2)) us) (fun _ s'=>∃σ' H',Inv X pins σ' H' s'∧Q σ' H') X.xe s
abbrev TSet:=V→V→V→Hp→(Hp→Prop)→Prop
def PSet(X:Cx)(t:TSet):Prop:=
 ∀(pins:List (Addr×Obj)) (s:Shared) (σ:St) (H:Hp) (o i v:V) (ov iv u:Value) (Q:Hp→Prop),Inv X pins σ H s→RelV o ov→RelV i iv→RelV v u→t o i v H Q→
  wpAny (model X.prog X.w) X.A (setItem ov iv u) (fun _ s'=>∃H',Inv X pins σ H' s'∧Q H') X.xe s
abbrev TIp:=V→V→Hp→VK→Prop
def PIp(X:Cx)(op:Operator)(t:TIp):Prop:=
 ∀(pins:List (Addr×Obj)) (s:Shared) (σ:St) (H:Hp) (x y:V) (v u:Value) (Q:VK),Inv X pins σ H s→RelV x v→RelV y u→t x y H Q→
  wpAny (model X.prog X.w) X.A (inplaceOp op v u) (EP X pins σ Q) X.xe s
section
variable {X:Cx}{pos:Pos}
def gName(i:Nat):TG:=fun v σ H Q=>Q (σ.set i (some v)) H
theorem pg_name{i:Nat}{x:Str}(hN:X.N.Nodup)(hi:X.N[i]?=some x)(hx:Loc X.env.scope x)(hf:X.fn x=true∨X.env.scope.names.lookup x=some .local:=by first|exact .inl rfl|exact .inr rfl|assumption):PG X (.Name x pos) (gName i):=by
 intro pins s σ H v u Q I r h
 exact wpAny_assign_Name (a7h' I hN hi hx r (fun s' I'=>⟨_,H,I',h⟩) hf)
def gNil:TGs:=fun vs σ H Q=>vs=[]∧Q σ H
def gCons(t:TG)(u:TGs):TGs:=fun vs σ H Q=>∃v r,vs=v::r∧t v σ H fun σ' H'=>u r σ' H' Q
theorem pgs_nil:PGs X [] gNil:=by
 intro pins s σ H vs us Q I r h
 obtain⟨e,h⟩:=h
 subst e
 cases r
 exact assignInOrder_nil ⟨σ,H,I,h⟩
theorem b3l'{e:Expr}{es:List Expr}{t:TG}{u:TGs}(h1:PG X e t)(h2:PGs X es u)
  (hs:(assignEach (e::es) X.env).map (·.2)=assign e X.env::(assignEach es X.env).map (·.2):=by rfl):PGs X (e::es) (gCons t u):=by
 intro pins s σ H vs us Q I r h
 obtain⟨v,vr,e1,h⟩:=h
 subst e1
 cases r with
 |cons r rr=>
  rw[hs]
  refine assignInOrder_cons (thn (h1 pins s σ H _ _ _ I r h) fun _ s1 ⟨σ1,H1,I1,q1⟩=>?_)
  exact h2 pins s1 σ1 H1 _ _ Q I1 rr q1
def gTup(K:PySem.W.Frag)(n:Nat)(t:TGs):TG:=fun v σ H Q=>∃a xs,v=.ref a∧SqT K H a xs∧xs.length=n∧t xs σ H Q
theorem pg_tup{es:List Expr}{k:Nat}{t:TGs}{n:Nat}(hc:X.calm=true)(h:PGs X es t)
  (hn:(assignEach es X.env).length=n:=by rfl) (hst:(assignEach es X.env).findIdx? (·.1)=none:=by rfl):PG X (.Tuple es k pos) (gTup X.K n t):=by
 intro pins s σ H v u Q I r hw
 obtain⟨a,xs,e1,hq,hl,hw⟩:=hw
 subst e1
 cases r
 obtain⟨its,rv,ht,hz⟩:=I.tuple hq
 refine assign_Tuple_tuple (I.ok.hd hc) ht (by simp[hn,←hl,rv.length]) hst fun h' hx=>?_
 have I1:Inv X pins σ H {s with heap:=h'}:=I.kept (t':=s.toks) fun b o e=>hx b o (ZR (Zs e)) e
 exact h pins _ σ H xs _ Q I1 (by simpa using rv) hw
def gSub(to ti:TE)(t:TSet):TG:=fun v σ H Q=>to σ H fun o H1=>ti σ H1 fun i H2=>t o i v H2 fun H3=>Q σ H3
theorem pg_sub{o i:Expr}{to ti:TE}{t:TSet}(ho:PE X o to)(hi:PE X i ti)(hs:PSet X t)
  (ha:∀v,assign (.Subscript o i pos) X.env v=(do
   let ov ←holding [v] (eval o X.env)
   let iv ←holding [v,ov] (eval i X.env)
   standAt pos
   holding [v,ov,iv] (setItem ov iv v)
   release [v,ov,iv] []):=by intro _;rfl):PG X (.Subscript o i pos) (gSub to ti t):=by
 intro pins s σ H v u Q I r h
 rw[ha]
 refine Za (wpAny_holding (thn (ho pins s σ H _ I h) fun ov s1 ⟨x,H1,I1,r1,q1⟩=>?_))
 refine Za (wpAny_holding (thn (hi pins s1 σ H1 _ I1 q1) fun iv s2 ⟨y,H2,I2,r2,q2⟩=>?_))
 refine Za (wpAny_standAt (Za (wpAny_holding (thn (hs pins s2 σ H2 x y v ov iv u _ I2 r1 r2 r q2) fun _ s3 ⟨H3,I3,q3⟩=>?_))))
 exact wpAny_release ⟨σ,H3,I3,q3⟩
def tAsg(te:TE)(g:TG):TS:=fun D σ H=>te σ H fun x H1=>g x σ H1 D.nx
theorem ps_asg{tg e:Expr}{te:TE}{g:TG}(he:PE X e te)(hg:PG X tg g)(hs:swapsWithSole [tg] e pos.line X.env=pure false:=by rfl)(hw:swappedStores [tg] e X.env=pure none:=by rfl)
  (h1:(assignEach [tg] X.env).map (·.2)=[assign tg X.env]:=by rfl):PS X (.Assign [tg] e pos) (tAsg te g):=by
 intro pins s σ H D I h
 refine wpAny_Assign_stores (thn (he pins s σ H _ I h) fun v s1 ⟨x,H1,I1,r1,q1⟩=>?_) hs hw
 rw[h1]
 exact thn (hg pins s1 σ H1 x v _ I1 r1 q1) fun _ s2 q=>q
theorem ps_set{i:Nat}{x:Str}{e:Expr}{te:TE}{pos':Pos}(hN:X.N.Nodup)(hi:X.N[i]?=some x)(hx:Loc X.env.scope x)(he:PE X e te)(hs:swapsWith e (some (.Name x pos')) pos.line X.env=pure false:=by rfl)(hf:X.fn x=true∨X.env.scope.names.lookup x=some .local:=by first|exact .inl rfl|exact .inr rfl|assumption):
  PS X (.Assign [.Name x pos'] e pos) (tAsg te (gName i)):=by
 intro pins s σ H D I h
 refine wpAny_Assign_Name (thn (he pins s σ H _ I h) fun v s1 ⟨y,H1,I1,r1,q1⟩=>?_) hs
 exact a7h' I1 hN hi hx r1 (fun s2 I2=>⟨_,H1,I2,q1⟩) hf
def tAug(i:Nat)(te:TE)(ti:TIp):TS:=fun D σ H=>∃x,σ[i]?=some (some x)∧te σ H fun y H1=>ti x y H1 fun z H2=>D.nx (σ.set i (some z)) H2
theorem ps_aug{i:Nat}{x:Str}{e:Expr}{te:TE}{op:Operator}{ti:TIp}{pos':Pos}(hN:X.N.Nodup)(hi:X.N[i]?=some x)(hx:Loc X.env.scope x)(he:PE X e te)(ho:PIp X op ti)(hf:X.fn x=true∨X.env.scope.names.lookup x=some .local:=by first|exact .inl rfl|exact .inr rfl|assumption):
  PS X (.AugAssign (.Name x pos') op e pos) (tAug i te ti):=by
 intro pins s σ H D I h
 obtain⟨v,e1,h⟩:=h
 obtain⟨m,hn,hl⟩:=I.loc
 have vis:Vis X.env.scope x:=by rcases hx with k|k;exact .inl k;exact .inr (.inl k)
 obtain⟨u,r,l⟩:=hl i x v hi e1 vis
 refine wpAny_AugAssign_Name ?_
 have go:wpAny (model X.prog X.w) X.A (eval e X.env) (fun w s₂=>wpAny (model X.prog X.w) X.A (inplaceOp op u w) (fun r s₃=>wpAny (model X.prog X.w) X.A (storeName X.env x r) (fun _=>SP X pins D .next) X.xe s₃) X.xe s₂) X.xe s:=by
  refine thn (he pins s σ H _ I h) fun w s1 ⟨y,H1,I1,r1,q1⟩=>?_
  refine thn (ho pins s1 σ H1 v y u w _ I1 r r1 q1) fun z s2 ⟨zv,H2,I2,r2,q2⟩=>?_
  exact a7h' I2 hN hi hx r2 (fun s3 I3=>⟨_,H2,I3,q2⟩) hf
 rcases l with⟨hk,hm⟩| ⟨hk,c,hc,hcell⟩
 ·exact wpAny_loadName_local I.ok.kind hk hn hm go
 ·rcases hk with hk|hk
  ·exact wpAny_loadName_cell I.ok.kind hk hc hcell go
  ·rcases hx with k|k
   ·have:X.env.scope.names.lookup x=some .free:=hk
    rw[k]at this;cases this
   ·have:X.env.scope.names.lookup x=some .free:=hk
    rw[k]at this;cases this
end
section
variable {X:Cx}{pos:Pos}
def tWhile(c:TT)(tb:TS):TS:=fun D σ H=>∃W:Nat→St→Hp→Prop,(∃m,W m σ H)∧∀m σ H,W m σ H→
 c σ H fun b H1=>if b=true then ∃N:St→Hp→Prop,(∀σ' H',N σ' H'→∃m',m'<m∧W m' σ' H')∧tb {D with nx:=N,ct:=N,bk:=D.nx} σ H1 else D.nx σ H1
theorem b3m'{c:Expr}{body:List Stmt}{tc:TT}{tb:TS}(hp:PassesOwn (model X.prog X.w) X.A X.env X.xe)(hc:PT X c tc)(hb:PSs X body tb):PS X (.While c body [] pos) (tWhile tc tb):=by
 intro pins s σ H D I h
 obtain⟨W,⟨m0,w0⟩,turn⟩:=h
 refine wpAny_While (codeAny_whileLoop (fun n s'=>∃σ' H',Inv X pins σ' H' s'∧W n σ' H') ?_ m0 ⟨σ,H,I,w0⟩)
 rintro n s1 ⟨σ1,H1,I1,w1⟩
 refine wpAny_passesOwn hp (thn (hc pins s1 σ1 H1 _ I1 (turn n σ1 H1 w1)) fun b s2 ⟨H2,I2,q2⟩=>?_)
 cases b with
 |true=>
  obtain⟨N,hN,q2⟩:=q2
  rw[if_pos rfl]
  refine wpAny_passesOwn hp (thn (hb pins s2 σ1 H2 _ I2 q2) fun f s3 q3=>?_)
  cases f with
  |next=>
   obtain⟨σ3,H3,I3,n3⟩:=q3
   obtain⟨m',hm,w3⟩:=hN σ3 H3 n3
   exact⟨m',hm,σ3,H3,I3,w3⟩
  |cont=>
   obtain⟨σ3,H3,I3,n3⟩:=q3
   obtain⟨m',hm,w3⟩:=hN σ3 H3 n3
   exact⟨m',hm,σ3,H3,I3,w3⟩
  |brk=>exact q3
  |ret v=>exact q3
 |false=>
  rw[if_neg Bool.false_ne_true]
  exact wpAny_execs_nil ⟨σ1,H2,I2,q2⟩
end
structure It where
 go:Nat→Hp→Prop
 yld:Nat→Hp→V→Hp→Prop
 stop:Nat→Hp→Prop
def FpOk(X:Cx)(pins:List (Addr×Obj))(H:Hp)(b:Addr):Prop:=
 H b=none∧b≠X.env.locals∧b∉X.fs∧(b∈X.ex∨X.s₀.heap.objs.size≤b)∧(∀x c,X.env.cells.lookup x=some c→c≠b)∧∀p∈X.pn++pins,p.1≠b
theorem Inv.fpOk{X:Cx}{pins:List (Addr×Obj)}{σ:St}{H H':Hp}{s:Shared}{b:Addr}(I:Inv X pins σ H s)(hb:s.heap.objs.size≤b)(hn:H' b=none):FpOk X pins H' b:=by
 refine⟨hn,Nat.ne_of_gt (ZL I.lt hb),I.nofs hb,.inr (ZB I.sz hb),fun x c e z=>?_,fun p hp z=>?_⟩
 ·obtain⟨v,q⟩:=I.cell x c e
  exact absurd (ZL q.lt (by rw[z];exact hb)) (Nat.lt_irrefl _)
 ·exact absurd (ZL (Zs (I.pin p hp).1) (by rw[z];exact hb)) (Nat.lt_irrefl _)
structure Turn (P:Program)(w:World)(K:PySem.W.Frag)(tg:Expr)(J:It)(fp:List Addr)(it:Addr)(tn:Nat→Heap→Prop):Prop where
 mem:it∈fp
 obj:∀i h,tn i h→∀b∈fp,∃o,h.get? b=some o∧∀v,o.data≠.cell v
 keep:∀i h h',tn i h→(∀b∈fp,∀o,h.get? b=some o→h'.get? b=some o)→tn i h'
 item:∀(X:Cx),X.prog=P→X.w=w→X.K=K→X.calm=true→∀(i:Nat) (pins:List (Addr×Obj)) (s:Shared) (σ:St) (H:Hp) (E:Value→Shared→Prop),Inv X pins σ H s→(∀b∈fp,FpOk X pins H b)→tn i s.heap→J.go i H→
  wpAny (model P w) X.A (pyNext (.ref it)) (fun r s1=>∃u,r=some u∧
   wpAny (model P w) X.A (letOwnedTupleGo tg (.ref it) u) (fun _ s2=>∃x H',Inv X pins σ H' s2∧RelV x u∧J.yld i H x H'∧tn (i+1) s2.heap∧∀b∈fp,H' b=none) E s1) E s
 done:∀(X:Cx),X.prog=P→X.w=w→X.K=K→X.calm=true→∀(i:Nat) (pins:List (Addr×Obj)) (s:Shared) (σ:St) (H:Hp) (E:Value→Shared→Prop),Inv X pins σ H s→(∀b∈fp,FpOk X pins H b)→tn i s.heap→J.stop i H→
  wpAny (model P w) X.A (pyNext (.ref it)) (fun r s1=>r=none∧Inv X pins σ H s1) E s
 self:∀(A:Around) (i:Nat) (s:Shared) (Q:Value→Shared→Prop) (E:Value→Shared→Prop),tn i s.heap→Q (.ref it) s→wpAny (model P w) A (pyIter (.ref it)) Q E s
abbrev TI:=St→Hp→(It→Hp→Prop)→Prop
def PIE(X:Cx)(pins:List (Addr×Obj))(σ:St)(tg:Expr)(R:It→Hp→Prop)(itv:Value)(s2:Shared):Prop:=
 ∃(it:Addr) (fp:List Addr) (tn:Nat→Heap→Prop) (J:It) (H':Hp),itv=.ref it∧Inv X pins σ H' s2∧Turn X.prog X.w X.K tg J fp it tn∧tn 0 s2.heap∧(∀b∈fp,FpOk X pins H' b)∧R J H'
def PI(X:Cx)(tg iter:Expr)(wi:TI):Prop:=
 ∀(pins:List (Addr×Obj)) (s:Shared) (σ:St) (H:Hp) (R:It→Hp→Prop),Inv X pins σ H s→wi σ H R→
  wpAny (model X.prog X.w) X.A (eval iter X.env) (fun v s1=>wpAny (model X.prog X.w) X.A (pyIter v) (PIE X pins σ tg R) X.xe s1) X.xe s
theorem go_of{M:Model}{A:Around}{E:Value→Shared→Prop}{s:Shared}{tg:Expr}{it:Addr}{u:Value}{o:Obj}{n:String}{vs:Array Value}{Q:Unit→Shared→Prop}(ho:s.heap.get? it=some o)(hc:o.cls=.type n)(hd:o.data=.fields vs)
  (hn:["enumerate","zip","dict_itemiterator","dict_reverseitemiterator","odict_iterator","itertools.zip_longest","itertools.pairwise"].contains n=false) (hQ:Q () s):wpAny M A (letOwnedTupleGo tg (.ref it) u) Q E s:=by
 unfold letOwnedTupleGo
 cases tg<;>first
  |exact Zi hQ
  | (cases u<;>first
    |exact Zi hQ
    | (refine Za (wpAny_load ho ?_)
       rw[hc,hd]
       show wpAny M A (if(["enumerate","zip","dict_itemiterator","dict_reverseitemiterator","odict_iterator","itertools.zip_longest","itertools.pairwise"].contains n&&vs[0]?==some (rawInt _))=true then _ else _) Q E s
       rw[if_neg (by intro h;rw[hn,Bool.false_and]at h;cases h)]
       exact Zi hQ))
def Itl(K:PySem.W.Frag)(a:Addr):It:=
 ⟨fun i H=>∃xs x,SqL K H a xs∧xs[i]?=some x,fun i H x H'=>H'=H∧∀xs,SqL K H a xs→xs[i]?=some x,fun i H=>∃xs,SqL K H a xs∧xs.length≤i⟩
def Itt(K:PySem.W.Frag)(a:Addr):It:=
 ⟨fun i H=>∃xs x,SqT K H a xs∧xs[i]?=some x,fun i H x H'=>H'=H∧∀xs,SqT K H a xs→xs[i]?=some x,fun i H=>∃xs,SqT K H a xs∧xs.length≤i⟩
def Itr(lo:Int)(n:Nat):It:=⟨fun i _=>i<n,fun i H x H'=>H'=H∧x=.int (lo+i),fun i _=>n≤i⟩
theorem b1k'{P:Program}{w:World}{K:PySem.W.Frag}{tg:Expr}(a it:Addr):Turn P w K tg (Itl K a) [it] it (fun i h=>h.IsListIter it a i) where
 mem:=by simp
 obj:=fun i h st b hb=>by
  have e:b=it:=by simpa using hb
  subst e
  obtain⟨o,e,c,d⟩:=st
  exact⟨o,e,fun v z=>by rw[d]at z;cases z⟩
 keep:=fun i h h' st k=>st.at fun o e=>k it (by simp) o e
 item:=by
  intro X hP hw hK hc i pins s σ H E I hf st hg
  subst hP hw hK
  obtain⟨xs,x,hq,hx⟩:=hg
  obtain⟨its,rv,p,hz⟩:=I.list hq
  obtain⟨u,hu,ru⟩:=rv.get hx
  obtain⟨f0,f1,f2,f3,f4,f5⟩:=hf it (by simp)
  refine wpAny_pyNext_list_item st p.isList (x:=u) (by simpa using hu) fun h' st' sb=>?_
  have I1:Inv X pins σ H {s with heap:=h'}:=I.turned (t':=s.toks) (fun b o hb e=>(sb.2 b hb).trans e) f0 f1 f3 f4 f5
  obtain⟨o,e,c,d⟩:=id st'
  exact⟨u,rfl,go_of (s:={s with heap:=h'}) e c d (by decide) ⟨x,H,I1,ru,⟨rfl,fun ys hy=>by rw[I.list_inj hy hq];exact hx⟩,st',fun b hb=>(hf b hb).1⟩⟩
 done:=by
  intro X hP hw hK hc i pins s σ H E I hf st hg
  subst hP hw hK
  obtain⟨xs,hq,hx⟩:=hg
  obtain⟨its,rv,p,hz⟩:=I.list hq
  obtain⟨f0,f1,f2,f3,f4,f5⟩:=hf it (by simp)
  have hl:=rv.length
  exact wpAny_pyNext_list_end (I.ok.hd hc) st p.isList (by simp;omega) fun h' eb=>⟨rfl,I.turned (t':=s.toks) (fun b o hb e=>eb b o hb e) f0 f1 f3 f4 f5⟩
 self:=fun _ _ _ _ _ st h=>wpAny_pyIter_listiter st h
theorem a9q'{P:Program}{w:World}{K:PySem.W.Frag}{tg:Expr}(a it:Addr):Turn P w K tg (Itt K a) [it] it (fun i h=>h.IsTupleIter it a i) where
 mem:=by simp
 obj:=fun i h st b hb=>by
  have e:b=it:=by simpa using hb
  subst e
  obtain⟨o,e,c,d⟩:=st
  exact⟨o,e,fun v z=>by rw[d]at z;cases z⟩
 keep:=fun i h h' st k=>st.at fun o e=>k it (by simp) o e
 item:=by
  intro X hP hw hK hc i pins s σ H E I hf st hg
  subst hP hw hK
  obtain⟨xs,x,hq,hx⟩:=hg
  obtain⟨its,rv,p,hz⟩:=I.tuple hq
  obtain⟨u,hu,ru⟩:=rv.get hx
  obtain⟨f0,f1,f2,f3,f4,f5⟩:=hf it (by simp)
  refine wpAny_pyNext_tuple_item st (show s.heap.IsTuple a its.toArray from p) (x:=u) (by simpa using hu) fun h' st' sb=>?_
  have I1:Inv X pins σ H {s with heap:=h'}:=I.turned (t':=s.toks) (fun b o hb e=>(sb.2 b hb).trans e) f0 f1 f3 f4 f5
  obtain⟨o,e,c,d⟩:=id st'
  exact⟨u,rfl,go_of (s:={s with heap:=h'}) e c d (by decide) ⟨x,H,I1,ru,⟨rfl,fun ys hy=>by rw[I.tuple_inj hy hq];exact hx⟩,st',fun b hb=>(hf b hb).1⟩⟩
 done:=by
  intro X hP hw hK hc i pins s σ H E I hf st hg
  subst hP hw hK
  obtain⟨xs,hq,hx⟩:=hg
  obtain⟨its,rv,p,hz⟩:=I.tuple hq
  obtain⟨f0,f1,f2,f3,f4,f5⟩:=hf it (by simp)
  have hl:=rv.length
  exact wpAny_pyNext_tuple_end (I.ok.hd hc) st (show s.heap.IsTuple a its.toArray from p) (by simp;omega) fun h' eb=>⟨rfl,I.turned (t':=s.toks) (fun b o hb e=>eb b o hb e) f0 f1 f3 f4 f5⟩
 self:=fun _ _ _ _ _ st h=>wpAny_pyIter_tupleiter st h
theorem a9r'{P:Program}{w:World}{K:PySem.W.Frag}{tg:Expr}(it:Addr)(lo:Int)(n:Nat):Turn P w K tg (Itr lo n) [it] it (fun i h=>IsRangeIter h it (lo+(i:Nat)*1) ((n:Int)-(i:Nat)) 1) where
 mem:=by simp
 obj:=fun i h st b hb=>by
  have e:b=it:=by simpa using hb
  subst e
  exact⟨_,st,fun v z=>by
   have z':Data.fields _=Data.cell v:=z
   cases z'⟩
 keep:=fun i h h' st k=>k it (by simp) _ st
 item:=by
  intro X hP hw hK hc i pins s σ H E I hf st hg
  subst hP hw hK
  obtain⟨f0,f1,f2,f3,f4,f5⟩:=hf it (by simp)
  have W:=Walks.range (prog:=X.prog) (w:=X.w) (I.ok.hd hc) it lo 1 n
  refine W.item i s _ _ hg st fun v h' tk hv st' kk=>?_
  obtain⟨t,rfl⟩:=hv
  have I1:Inv X pins σ H {s with heap:=h',toks:=tk}:=I.turned (fun b o hb e=>kk b o (by simpa using hb) e) f0 f1 f3 f4 f5
  refine⟨_,rfl,go_of (s:={s with heap:=h',toks:=tk}) (n:="range_iterator") st' rfl rfl (by decide) ⟨.int (lo+i),H,I1,⟨t,?_⟩,⟨rfl,rfl⟩,st',fun b hb=>(hf b hb).1⟩⟩
  rw[Int.mul_one]
 done:=by
  intro X hP hw hK hc i pins s σ H E I hf st hg
  subst hP hw hK
  obtain⟨f0,f1,f2,f3,f4,f5⟩:=hf it (by simp)
  exact wpAny_pyNext_range_end (I.ok.hd hc) st (by have:n≤i:=hg;omega) fun h' eb=>⟨rfl,I.turned (t':=s.toks) (fun b o hb e=>eb b o hb e) f0 f1 f3 f4 f5⟩
 self:=fun _ _ _ _ _ st h=>wpAny_pyIter_rangeiter st h
end L2
namespace L2
open PySem PySem.Spec PyProof.Rows
section
variable {X:Cx}{tg:Expr}
theorem a9s'{pins:List (Addr×Obj)}{σ:St}{H:Hp}{s:Shared}{R:It→Hp→Prop}{E:Value→Shared→Prop}{lo hi:Int}{t u v:Tok}{tk:Nat}(I:Inv X pins σ H s)(h1: -(2^62)≤lo)(h2:lo<2^62)(h3: -(2^62)≤hi)(h4:hi<2^62)
  (q:R (Itr lo (hi-lo).toNat) H):wpAny (model X.prog X.w) X.A (pyIter (.ref s.heap.objs.size)) (PIE X pins σ tg R) E {s with heap:=s.heap.push {cls:=.type "range",data:=.fields #[.int lo t,.int hi u,.int 1 v]},toks:=tk}:=by
 refine wpAny_pyIter_range (IsRange.new ..) (small_one h1 h2 h3 h4) ?_
 have I1:Inv X pins σ H {s with heap:=s.heap.push {cls:=.type "range",data:=.fields #[.int lo t,.int hi u,.int 1 v]},toks:=tk}:=I.kept fun b o e=>Zf _ e
 refine⟨(s.heap.push {cls:=.type "range",data:=.fields #[.int lo t,.int hi u,.int 1 v]}).objs.size,[(s.heap.push {cls:=.type "range",data:=.fields #[.int lo t,.int hi u,.int 1 v]}).objs.size],_,_,H,rfl,
  I1.kept (t':=tk) fun b o e=>Zf _ e,a9r' _ lo (hi-lo).toNat,?_,fun b hb=>?_,q⟩
 ·have e1:lo+((0:Nat):Int)*1=lo:=by simp
  have e2:(((hi-lo).toNat:Nat):Int)-((0:Nat):Int)=Builtin.Range.rangeSize lo hi 1:=by rw[rangeSize_one];split<;>omega
  show IsRangeIter _ _ (lo+((0:Nat):Int)*1) ((((hi-lo).toNat:Nat):Int)-((0:Nat):Int)) 1
  rw[e1,e2]
  exact Zp _ rfl
 ·have e:b=(s.heap.push {cls:=.type "range",data:=.fields #[.int lo t,.int hi u,.int 1 v]}).objs.size:=by simpa using hb
  subst e
  exact I1.fpOk (Zl _) (I1.hok.fresh (Zl _))
def iRng1(ta:TA):TI:=fun σ H R=>ta σ H fun vs H1=>∃j:Int,vs=[.int j]∧-(2^62)≤j∧j<2^62∧R (Itr 0 j.toNat) H1
def iRng2(ta:TA):TI:=fun σ H R=>ta σ H fun vs H1=>∃i j:Int,vs=[.int i,.int j]∧(-(2^62)≤i∧i<2^62∧-(2^62)≤j∧j<2^62)∧R (Itr i (j-i).toNat) H1
theorem b1l'{a:Expr}{ta:TA}{p pos:Pos}(hg:Gl X "range")(hm:X.mg "range"=none)(ha:PA X [a] ta)(hs:starEach [a] X.env=[(false,eval a X.env)]:=by rfl):PI X tg (.Call (.Name "range" p) [a] [] pos) (iRng1 ta):=by
 intro pins s σ H R I h
 refine Call_ (a6e' I hg hm boot_range (PyProof.Rows.callWith_type1 (thn (ha pos pins s σ H _ I h) fun us s1 ⟨vs,H1,I1,r1,q1⟩=>?_) hs rfl))
 obtain⟨j,e,q1,q2,q⟩:=q1
 subst e
 cases r1 with
 |cons r rr=>
  cases rr
  obtain⟨t,rfl⟩:=r
  exact call_range_1 (a9s' I1 (by omega) (by omega) q1 q2 (by simpa using q))
theorem b1m'{a b:Expr}{ta:TA}{p pos:Pos}(hg:Gl X "range")(hm:X.mg "range"=none)(ha:PA X [a,b] ta)(hs:starEach [a,b] X.env=[(false,eval a X.env),(false,eval b X.env)]:=by rfl)(hs2:starEach [b] X.env=[(false,eval b X.env)]:=by rfl):
  PI X tg (.Call (.Name "range" p) [a,b] [] pos) (iRng2 ta):=by
 intro pins s σ H R I h
 refine Call_ (a6e' I hg hm boot_range (PyProof.Rows.callWith_type1 (thn (ha pos pins s σ H _ I h) fun us s1 ⟨vs,H1,I1,r1,q1⟩=>?_) (by rw[hs,hs2]) (by rw[hs2];rfl)))
 obtain⟨i,j,e,⟨q1,q2,q3,q4⟩,q⟩:=q1
 subst e
 cases r1 with
 |cons r rr=>
  cases rr with
  |cons r' rr=>
   cases rr
   obtain⟨t,rfl⟩:=r
   obtain⟨t',rfl⟩:=r'
   exact call_range_2 (a9s' I1 q1 q2 q3 q4 q)
def tFor(wi:TI)(g:TG)(tb:TS):TS:=fun D σ H=>wi σ H fun J H1=>∃W:Nat→Nat→St→Hp→Prop,(∃m,W 0 m σ H1)∧∀i m σ H,W i m σ H→
 (J.stop i H∧D.nx σ H)∨(J.go i H∧∃N:St→Hp→Prop,(∀σ' H',N σ' H'→∃m',m'<m∧W (i+1) m' σ' H')∧∀x H',J.yld i H x H'→g x σ H' fun σ2 H2=>tb {D with nx:=N,ct:=N,bk:=D.nx} σ2 H2)
def b1n'(fp:List Addr)(h:Heap):List (Addr×Obj):=fp.filterMap fun b=>(h.get? b).map fun o=>(b,o)
theorem a3c'{fp:List Addr}{h:Heap}{b:Addr}{o:Obj}(hb:b∈fp)(e:h.get? b=some o):(b,o)∈b1n' fp h:=List.mem_filterMap.mpr ⟨b,hb,by rw[e];rfl⟩
theorem b1o'{fp:List Addr}{h:Heap}{p:Addr×Obj}(hp:p∈b1n' fp h):p.1∈fp∧h.get? p.1=some p.2:=by
 obtain⟨b,hb,e⟩:=List.mem_filterMap.mp hp
 cases q:h.get? b with
 |none=>rw[q]at e;cases e
 |some o=>
  rw[q]at e
  have e':(b,o)=p:=ZY e
  subst e'
  exact⟨hb,q⟩
theorem Inv.pinned{pins:List (Addr×Obj)}{σ:St}{H:Hp}{s:Shared}{fp:List Addr}(I:Inv X pins σ H s)(hf:∀b∈fp,FpOk X pins H b)(ho:∀b∈fp,∃o,s.heap.get? b=some o∧∀v,o.data≠.cell v):Inv X (pins++b1n' fp s.heap) σ H s:=
 I.pins_of fun p hp=>(ZA.mp hp).elim (fun z=>I.pin p (ZE _ z)) fun z=>by
  obtain⟨hb,e⟩:=b1o' z
  obtain⟨f0,f1,f2,_⟩:=hf p.1 hb
  obtain⟨o,e',d⟩:=ho p.1 hb
  rw[e]at e';cases e'
  exact⟨e,f0,f1,f2,d⟩
theorem Inv.unpinned{pins pl:List (Addr×Obj)}{σ:St}{H:Hp}{s:Shared}(I:Inv X (pins++pl) σ H s):Inv X pins σ H s:=I.pins_of fun p hp=>I.pin p (ZE _ (Z7 _ hp))
theorem ps_for{iter:Expr}{body:List Stmt}{wi:TI}{g:TG}{tb:TS}{pos:Pos}(hp:PassesOwn (model X.prog X.w) X.A X.env X.xe)(hc:X.calm=true)(hi:PI X tg iter wi)(hg:PG X tg g)(hb:PSs X body tb)
  (hs:∀x,foldedSetIterable iter X.env x=pure x:=by intro _;rfl):PS X (.For tg iter body [] pos) (tFor wi g tb):=by
 intro pins s σ H D I h
 refine wpAny_For (thn (hi pins s σ H _ I h) fun v s1 h1=>thn h1 fun itv s2 h2=>?_) hs
 obtain⟨it,fp,tn,J,H2,e,I2,T,st2,f2,W,⟨m0,w0⟩,turn⟩:=h2
 subst e
 have stat:∀{H':Hp},(∀b∈fp,H' b=none)→∀b∈fp,FpOk X pins H' b:=fun hn b hb=>⟨hn b hb,(f2 b hb).2⟩
 refine codeAny_forLoop_any (fun n s'=>∃i σ' H',Inv X pins σ' H' s'∧tn i s'.heap∧(∀b∈fp,H' b=none)∧W i n σ' H') ?_ m0 ⟨0,σ,H2,I2,st2,fun b hb=>(f2 b hb).1,w0⟩
 rintro n s3 ⟨i,σ3,H3,I3,st3,fr3,w3⟩
 rcases turn i n σ3 H3 w3 with⟨stop,qn⟩| ⟨go,N,hN,step⟩
 ·refine wpAny_passesOwn hp (thn (T.done X rfl rfl rfl hc i pins s3 σ3 H3 X.xe I3 (stat fr3) st3 stop) fun r s4 ⟨hr,I4⟩=>?_)
  subst hr
  exact wpAny_execs_nil ⟨σ3,H3,I4,qn⟩
 ·refine wpAny_passesOwn hp (thn (T.item X rfl rfl rfl hc i pins s3 σ3 H3 X.xe I3 (stat fr3) st3 go) fun r s4 ⟨u,hr,h4⟩=>?_)
  subst hr
  refine wpAny_passesOwn hp (thn h4 fun _ s5 ⟨x,H5,I5,r5,y5,st5,fr5⟩=>?_)
  have I5':=I5.pinned (stat fr5) (T.obj _ _ st5)
  refine wpAny_passesOwn hp (thn (hg _ s5 σ3 H5 x u _ I5' r5 (step x H5 y5)) fun _ s6 ⟨σ6,H6,I6,q6⟩=>?_)
  refine wpAny_passesOwn hp (thn (hb _ s6 σ6 H6 _ I6 q6) fun f s7 q7=>?_)
  have again:∀{σ7:St} {H7:Hp},Inv X (pins++b1n' fp s5.heap) σ7 H7 s7→N σ7 H7→∃m,m<n∧∃i σ' H',Inv X pins σ' H' s7∧tn i s7.heap∧(∀b∈fp,H' b=none)∧W i m σ' H':=fun{σ7 H7} I7 n7=>by
   obtain⟨m',hm,w7⟩:=hN σ7 H7 n7
   refine⟨m',hm,i+1,σ7,H7,I7.unpinned,T.keep _ _ _ st5 fun b hb o e=>(I7.pin (b,o) (ZE _ (ZE _ (a3c' hb e)))).1,fun b hb=>?_,w7⟩
   obtain⟨o,e,d⟩:=T.obj _ _ st5 b hb
   exact(I7.pin (b,o) (ZE _ (ZE _ (a3c' hb e)))).2.1
  cases f with
  |next=>obtain⟨σ7,H7,I7,n7⟩:=q7;exact again I7 n7
  |cont=>obtain⟨σ7,H7,I7,n7⟩:=q7;exact again I7 n7
  |brk=>obtain⟨σ7,H7,I7,q7⟩:=q7;exact⟨σ7,H7,I7.unpinned,q7⟩
  |ret v=>obtain⟨x7,σ7,H7,I7,r7,q7⟩:=q7;exact⟨x7,σ7,H7,I7.unpinned,r7,q7⟩
end
end L2
namespace L2
open PySem PySem.Spec PyProof.Rows
abbrev R2:=V→V→Hp→VK→Prop
def OpR(X:Cx)(f:Value→Value→Sem Value)(r:R2):Prop:=
 ∀(pins:List (Addr×Obj)) (s:Shared) (σ:St) (H:Hp) (x y:V) (v u:Value) (Q:VK),Inv X pins σ H s→RelV x v→RelV y u→r x y H Q→
  wpAny (model X.prog X.w) X.A (f v u) (EP X pins σ Q) X.xe s
def UnR(X:Cx)(f:Value→Sem Value)(r:V→Hp→VK→Prop):Prop:=
 ∀(pins:List (Addr×Obj)) (s:Shared) (σ:St) (H:Hp) (x:V) (v:Value) (Q:VK),Inv X pins σ H s→RelV x v→r x H Q→
  wpAny (model X.prog X.w) X.A (f v) (EP X pins σ Q) X.xe s
def CallR(X:Cx)(f:Value)(r:List V→Hp→VK→Prop):Prop:=
 ∀(pins:List (Addr×Obj)) (s:Shared) (σ:St) (H:Hp) (xs:List V) (us:List Value) (Q:VK),Inv X pins σ H s→Vals xs us→r xs H Q→
  wpAny (model X.prog X.w) X.A (call f us) (EP X pins σ Q) X.xe s
def TruR(X:Cx)(r:V→Hp→(Bool→Hp→Prop)→Prop):Prop:=
 ∀(pins:List (Addr×Obj)) (s:Shared) (σ:St) (H:Hp) (x:V) (v:Value) (Q:Bool→Hp→Prop),Inv X pins σ H s→RelV x v→r x H Q→
  wpAny (model X.prog X.w) X.A (truthy v) (TP X pins σ Q) X.xe s
def tOp(r:R2)(ta tb:TE):TE:=fun σ H Q=>ta σ H fun x H1=>tb σ H1 fun y H2=>r x y H2 Q
def tUn(r:V→Hp→VK→Prop)(ta:TE):TE:=fun σ H Q=>ta σ H fun x H1=>r x H1 Q
def rI(C:Int→Int→Prop)(g:Int→Int→V):R2:=fun x y H Q=>∃i j,x=.int i∧y=.int j∧C i j∧Q (g i j) H
def rI0(g:Int→Int→V):R2:=fun x y H Q=>∃i j,x=.int i∧y=.int j∧Q (g i j) H
def rU(g:Int→V):V→Hp→VK→Prop:=fun x H Q=>∃i,x=.int i∧Q (g i) H
section
variable {X:Cx}{a b c:Expr}{ta tb tc:TE}{pos:Pos}
theorem binT(ha:PE X a ta)(hb:PE X b tb){pins:List (Addr×Obj)}{s:Shared}{σ:St}{H:Hp}{R:V→V→Hp→Prop}(I:Inv X pins σ H s)
  (h:ta σ H fun x H1=>tb σ H1 fun y H2=>R x y H2) {Q:Value→Shared→Prop} {f:Value→Value→Sem Value}
  (hf:∀v u s2 x y H2,Inv X pins σ H2 s2→RelV x v→RelV y u→R x y H2→wpAny (model X.prog X.w) X.A (f v u) Q X.xe s2):
  wpAny (model X.prog X.w) X.A (eval a X.env) (fun v s₁=>wpAny (model X.prog X.w) X.A (eval b X.env) (fun u s₂=>wpAny (model X.prog X.w) X.A (f v u) Q X.xe s₂) X.xe s₁) X.xe s:=by
 refine thn (ha pins s σ H _ I h) fun v s1 ⟨x,H1,I1,r1,q1⟩=>?_
 refine thn (hb pins s1 σ H1 _ I1 q1) fun u s2 ⟨y,H2,I2,r2,q2⟩=>?_
 exact hf v u s2 x y H2 I2 r1 r2 q2
theorem pe_op{op:Operator}{r:R2}(ho:OpR X (binaryOp op) r)(ha:PE X a ta)(hb:PE X b tb):PE X (.BinOp a op b pos) (tOp r ta tb):=by
 intro pins s σ H Q I h
 exact wpAny_BinOp (binT ha hb I h fun v u s2 x y H2 I2 rx ry q=>ho pins s2 σ H2 x y v u Q I2 rx ry q)
theorem pe_un{op:UnaryOp}{r:V→Hp→VK→Prop}(ho:UnR X (unaryOp op) r)(ha:PE X a ta):PE X (.UnaryOp op a pos) (tUn r ta):=by
 intro pins s σ H Q I h
 exact UnaryOp_ (thn (ha pins s σ H _ I h) fun v s1 ⟨x,H1,I1,r1,q1⟩=>ho pins s1 σ H1 x v Q I1 r1 q1)
theorem opI{f:Value→Value→Sem Value}{C:Int→Int→Prop}{g:Int→Int→Int}
  (rule:∀(i j:Int) (t u:Tok) (s:Shared) (Q:Value→Shared→Prop) (E:Value→Shared→Prop),C i j→Q (.int (g i j) s.toks) {s with toks:=s.toks+1}→wpAny (model X.prog X.w) X.A (f (.int i t) (.int j u)) Q E s):
  OpR X f (rI C fun i j=>.int (g i j)):=by
 intro pins s σ H x y v u Q I rx ry h
 obtain⟨i,j,rfl,rfl,hc,q⟩:=h
 obtain⟨t,rfl⟩:=rx
 obtain⟨t',rfl⟩:=ry
 exact rule i j t t' s _ _ hc ⟨.int (g i j),H,I.tok _,⟨_,rfl⟩,q⟩
theorem opI0{f:Value→Value→Sem Value}{g:Int→Int→Int}
  (rule:∀(i j:Int) (t u:Tok) (s:Shared) (Q:Value→Shared→Prop) (E:Value→Shared→Prop),Q (.int (g i j) s.toks) {s with toks:=s.toks+1}→wpAny (model X.prog X.w) X.A (f (.int i t) (.int j u)) Q E s):
  OpR X f (rI0 fun i j=>.int (g i j)):=by
 intro pins s σ H x y v u Q I rx ry h
 obtain⟨i,j,rfl,rfl,q⟩:=h
 obtain⟨t,rfl⟩:=rx
 obtain⟨t',rfl⟩:=ry
 exact rule i j t t' s _ _ ⟨.int (g i j),H,I.tok _,⟨_,rfl⟩,q⟩
theorem opB0{f:Value→Value→Sem Value}{g:Int→Int→Bool}
  (rule:∀(i j:Int) (t u:Tok) (s:Shared) (Q:Value→Shared→Prop) (E:Value→Shared→Prop),Q (.bool (g i j)) s→wpAny (model X.prog X.w) X.A (f (.int i t) (.int j u)) Q E s):
  OpR X f (rI0 fun i j=>.bl (g i j)):=by
 intro pins s σ H x y v u Q I rx ry h
 obtain⟨i,j,rfl,rfl,q⟩:=h
 obtain⟨t,rfl⟩:=rx
 obtain⟨t',rfl⟩:=ry
 exact rule i j t t' s _ _ ⟨.bl (g i j),H,I,rfl,q⟩
def CDiv(i j:Int):Prop:=0<j∧j<1073741824
def CMul(i j:Int):Prop:=(-(2^64)<i∧i<2^64)∨(-(2^64)<j∧j<2^64)
theorem CMul.ok{i j:Int}(h:CMul i j):IntMulOk i j:=by
 rcases h with⟨h1,h2⟩| ⟨h1,h2⟩
 ·exact .of_left (intBits_le_64 h1 h2)
 ·exact .of_right (intBits_le_64 h1 h2)
theorem a9t'(k:Nat):(0:Int)≤2^k:=by
 rw[two_pow_cast]
 exact Int.natCast_nonneg _
theorem op_add:OpR X (binaryOp .Add) (rI0 fun i j=>.int (i+j)):=opI0 fun _ _ _ _ _ _ _ q=>add_int q
theorem op_sub:OpR X (binaryOp .Sub) (rI0 fun i j=>.int (i-j)):=opI0 fun _ _ _ _ _ _ _ q=>sub_int q
theorem op_mul:OpR X (binaryOp .Mult) (rI CMul fun i j=>.int (i*j)):=opI fun _ _ _ _ _ _ _ hc q=>mul_int q hc.ok
theorem op_fdiv:OpR X (binaryOp .FloorDiv) (rI CDiv fun i j=>.int (i/j)):=opI fun i j _ _ _ _ _ hc q=>by
 have h1:(0:Int)<j:=hc.1
 have h2:j<1073741824:=hc.2
 exact floordiv_int (by omega) (by rw[Int.fdiv_eq_ediv_of_nonneg i (by omega)];exact q) (.inl (PyProof.noPylong_small (by omega)))
theorem op_mod:OpR X (binaryOp .Mod) (rI (fun _ j=>0<j) fun i j=>.int (i%j)):=opI fun i j _ _ _ _ _ hc q=>by
 have h1:(0:Int)<j:=hc
 exact mod_int' (by omega) (by rw[Int.fmod_eq_emod_of_nonneg i (by omega)];exact q)
theorem op_shr:OpR X (binaryOp .RShift) (rI (fun _ j=>0≤j) fun i j=>.int (i/2^j.toNat)):=opI fun i j _ _ _ _ _ hc q=>
 rshift_int hc (by rw[Int.fdiv_eq_ediv_of_nonneg i (a9t' _)];exact q)
theorem op_and:OpR X (binaryOp .BitAnd) (rI0 fun i j=>.int (Builtin.bitAnd i j)):=opI0 fun _ _ _ _ _ _ _ q=>and_int q
theorem op_or:OpR X (binaryOp .BitOr) (rI0 fun i j=>.int (Builtin.bitOr i j)):=opI0 fun _ _ _ _ _ _ _ q=>or_int q
theorem unI{f:Value→Sem Value}{g:Int→Int}
  (rule:∀(i:Int) (t:Tok) (s:Shared) (Q:Value→Shared→Prop) (E:Value→Shared→Prop),Q (.int (g i) s.toks) {s with toks:=s.toks+1}→wpAny (model X.prog X.w) X.A (f (.int i t)) Q E s):
  UnR X f (rU fun i=>.int (g i)):=by
 intro pins s σ H x v Q I rx h
 obtain⟨i,rfl,q⟩:=h
 obtain⟨t,rfl⟩:=rx
 exact rule i t s _ _ ⟨.int (g i),H,I.tok _,⟨_,rfl⟩,q⟩
theorem un_neg:UnR X (unaryOp .USub) (rU fun i=>.int (-i)):=unI fun _ _ _ _ _ q=>neg_int q
end
section
variable {X:Cx}{a b c:Expr}{ta tb tc:TE}{pos:Pos}
theorem fin_bl{pins:List (Addr×Obj)}{σ:St}{H:Hp}{s:Shared}{Q:VK}{k k':Bool}(I:Inv X pins σ H s)(q:Q (.bl k) H)(e:k=k'):EP X pins σ Q (.bool k') s:=by
 subst e
 exact⟨.bl k,H,I,rfl,q⟩
theorem op_le:OpR X (compareOp .LtE) (rI0 fun i j=>.bl (decide (i≤j))):=opB0 fun _ _ _ _ _ _ _ q=>le_int q
theorem op_gt:OpR X (compareOp .Gt) (rI0 fun i j=>.bl (decide (j<i))):=opB0 fun _ _ _ _ _ _ _ q=>gt_int q
theorem op_ge:OpR X (compareOp .GtE) (rI0 fun i j=>.bl (decide (j≤i))):=opB0 fun _ _ _ _ _ _ _ q=>ge_int q
theorem op_isN:OpR X (compareOp .Is) (fun x y H Q=>y=.non∧Q (.bl (decide (x=.non))) H):=by
 intro pins s σ H x y v u Q I rx ry h
 obtain⟨rfl,q⟩:=h
 cases ry
 refine is_none_gen (fin_bl I q ?_)
 cases x<;>first
  | (cases rx;rfl)
  | (obtain⟨t,rfl⟩:=rx;rfl)
theorem op_notN:OpR X (compareOp .IsNot) (fun x y H Q=>y=.non∧Q (.bl (!decide (x=.non))) H):=by
 intro pins s σ H x y v u Q I rx ry h
 obtain⟨rfl,q⟩:=h
 cases ry
 refine isnot_none_gen (fin_bl I q ?_)
 cases x<;>first
  | (cases rx;rfl)
  | (obtain⟨t,rfl⟩:=rx;rfl)
theorem pe_cmpR{op:CmpOp}{r:R2}(ho:OpR X (compareOp op) r)(ha:PE X a ta)(hb:PE X b tb)(hm:behindInMarks op b=false):PE X (.Compare a [op] [b] pos) (tOp r ta tb):=by
 intro pins s σ H Q I h
 exact wpAny_Compare1 (binT ha hb I h fun v u s2 x y H2 I2 rx ry q=>ho pins s2 σ H2 x y v u Q I2 rx ry q) hm
def tTest(t:TE):TT:=fun σ H Q=>t σ H fun x H'=>∃k,x=.bl k∧Q k H'
theorem pt_cmpR{op:CmpOp}{r:R2}(ho:OpR X (compareOp op) r)(ha:PE X a ta)(hb:PE X b tb)(hm:behindInMarks op b=false):PT X (.Compare a [op] [b] pos) (tTest (tOp r ta tb)):=by
 intro pins s σ H Q I h
 refine wpAny_isTrue_Compare1 (thn (ha pins s σ H _ I h) fun v s1 ⟨x,H1,I1,r1,q1⟩=>thn (hb pins s1 σ H1 _ I1 q1) fun u s2 ⟨y,H2,I2,r2,q2⟩=>
  thn (ho pins s2 σ H2 x y v u _ I2 r1 r2 q2) fun c s3 ⟨z,H3,I3,r3,k,e,q3⟩=>?_) hm
 subst e
 cases r3
 exact Yl ⟨H3,I3,q3⟩
def tChain(r r':R2)(ta tb tc:TE):TE:=fun σ H Q=>ta σ H fun x H1=>tb σ H1 fun y H2=>r x y H2 fun z H3=>∃k,z=.bl k∧
 (if k=true then tc σ H3 fun w' H4=>r' y w' H4 Q else Q (.bl false) H3)
theorem b3n'{op op':CmpOp}{r r':R2}(ho:OpR X (compareOp op) r)(ho':OpR X (compareOp op') r')(ha:PE X a ta)(hb:PE X b tb)(hc:PE X c tc)
  (hm:lastMarks [op,op'] [b,c]=false:=by with_unfolding_all rfl):PE X (.Compare a [op,op'] [b,c] pos) (tChain r r' ta tb tc):=by
 intro pins s σ H Q I h
 refine Compare_chain (thn (ha pins s σ H _ I h) fun v s1 ⟨x,H1,I1,r1,q1⟩=>chain_link (thn (hb pins s1 σ H1 _ I1 q1) fun u s2 ⟨y,H2,I2,r2,q2⟩=>
  thn (ho pins s2 σ H2 x y v u _ I2 r1 r2 q2) fun d s3 ⟨z,H3,I3,r3,k,e,q3⟩=>?_)) hm
 subst e
 cases r3
 refine Yl ?_
 cases k with
 |false=>exact ite_ff ⟨.bl false,H3,I3,rfl,q3⟩
 |true=>exact ite_tt (chain_last (thn (hc pins s3 σ H3 _ I3 q3) fun w' s4 ⟨z',H4,I4,r4,q4⟩=>ho' pins s4 σ H4 y z' u w' Q I4 r2 r4 q4))
theorem b3o'{op op':CmpOp}{r r':R2}(ho:OpR X (compareOp op) r)(ho':OpR X (compareOp op') r')(ha:PE X a ta)(hb:PE X b tb)(hc:PE X c tc)
  (hm:lastMarks [op,op'] [b,c]=false:=by with_unfolding_all rfl):PT X (.Compare a [op,op'] [b,c] pos) (tTest (tChain r r' ta tb tc)):=by
 intro pins s σ H Q I h
 refine isTrue_chain (thn (ha pins s σ H _ I h) fun v s1 ⟨x,H1,I1,r1,q1⟩=>test_link (thn (hb pins s1 σ H1 _ I1 q1) fun u s2 ⟨y,H2,I2,r2,q2⟩=>
  thn (ho pins s2 σ H2 x y v u _ I2 r1 r2 q2) fun d s3 ⟨z,H3,I3,r3,k,e,q3⟩=>?_)) hm
 subst e
 cases r3
 refine Yl ?_
 cases k with
 |false=>
  obtain⟨k',e',q'⟩:=q3
  cases e'
  exact ite_ff ⟨H3,I3,q'⟩
 |true=>
  refine ite_tt (test_last (thn (hc pins s3 σ H3 _ I3 q3) fun w' s4 ⟨z',H4,I4,r4,q4⟩=>thn (ho' pins s4 σ H4 y z' u w' _ I4 r2 r4 q4) fun d' s5 ⟨z2,H5,I5,r5,k2,e2,q5⟩=>?_))
  subst e2
  cases r5
  exact Yl ⟨H5,I5,q5⟩
def TruV(K:PySem.W.Frag)(x:V)(H:Hp)(k:Bool):Prop:=
 match x with
 | .non=>k=false
 | .bl b=>k=b
 | .int i=>k=(i !=0)
 | .str y=>y.length≤sizeLine∧k=((y.length:Int) !=0)
 | .byt y=>y.size≤sizeLine∧k=((y.size:Int) !=0)
 | .ref p=>(∃xs,SqL K H p xs∧k= !xs.isEmpty)∨(∃xs,SqT K H p xs∧k= !xs.isEmpty)∨∃kvs,H p=some (.dK kvs)∧k= !kvs.isEmpty
 |_=>False
theorem a9u'{κ:Type}{kvs:List (κ×V)}{vs:List (κ×Value)}(r:KV kvs vs):(!vs.isEmpty)= !kvs.isEmpty:=by
 cases r<;>rfl
theorem a6f'{xs:List V}{its:List Value}(r:Vals xs its):(!its.toArray.isEmpty)= !xs.isEmpty:=by
 cases r<;>simp
theorem a8K':(sizeLine:Nat)<2^63:=by rw[sizeLine_eq];decide
theorem tru_ok:TruR X (fun x H Q=>∃k,TruV X.K x H k∧Q k H):=by
 intro pins s σ H x v Q I rx h
 obtain⟨k,e,q⟩:=h
 have hl:=a8K'
 have hs:sizeLine=16777216:=sizeLine_eq
 cases x with
 |non=>
  cases rx
  have e':k=false:=e
  subst e'
  exact truthy_none ⟨H,I,q⟩
 |bl b=>
  cases rx
  have e':k=b:=e
  subst e'
  exact Yl ⟨H,I,q⟩
 |int i=>
  obtain⟨t,rfl⟩:=rx
  have e':k=(i !=0):=e
  subst e'
  exact PySem.P.truthy_int ⟨H,I,q⟩
 |str y=>
  obtain⟨t,rfl⟩:=rx
  obtain⟨hy,e'⟩:y.length≤sizeLine∧k=((y.length:Int) !=0):=e
  subst e'
  exact PySem.P.truthy_str (by omega) ⟨H,I.tok _,q⟩
 |byt y=>
  obtain⟨t,rfl⟩:=rx
  obtain⟨hy,e'⟩:y.size≤sizeLine∧k=((y.size:Int) !=0):=e
  subst e'
  exact PySem.W.truthy_bytes (by omega) ⟨H,I.tok _,q⟩
 |ref p=>
  cases rx
  have e':(∃xs,SqL X.K H p xs∧k= !xs.isEmpty)∨(∃xs,SqT X.K H p xs∧k= !xs.isEmpty)∨∃kvs,H p=some (.dK kvs)∧k= !kvs.isEmpty:=e
  rcases e' with⟨xs,hx,e'⟩| ⟨xs,hx,e'⟩| ⟨kvs,hx,e'⟩
  ·subst e'
   obtain⟨its,r,pl,hz⟩:=I.list hx
   have hlen:=r.length
   exact wpAny_truthy_list pl.isList (by simp only[Zj];omega) ⟨H,I.tok _,by rw[a6f' r];exact q⟩
  ·subst e'
   obtain⟨its,r,pl,hz⟩:=I.tuple hx
   have hlen:=r.length
   exact truthy_tuple pl (by simp only[Zj];omega) ⟨H,I.tok _,by rw[a6f' r];exact q⟩
  ·subst e'
   obtain⟨hz,hS,vs,r,m⟩:kvs.length≤sizeLine∧(p==sysModules)=false∧∃vs,KV kvs vs∧s.heap.DictOf (a9o' X.prog X.w) p vs:=I.hok p _ hx
   have hlen:kvs.length=vs.length:=Paired.length r
   exact wpAny_truthy_dict hS m (by omega) ⟨H,I.tok _,by rw[a9u' r];exact q⟩
 |_=>exact(show False from e).elim
theorem b3p'(ha:PE X a ta)(he:∀whole,isTrue a X.env whole=(do let v ←whole;standAt a.pos;holding [v] (truthy v))):
  PT X a (fun σ H Q=>ta σ H fun x H'=>∃k,TruV X.K x H' k∧Q k H'):=by
 intro pins s σ H Q I h
 exact isTrue_plain (thn (ha pins s σ H _ I h) fun v s1 ⟨x,H1,I1,r1,q1⟩=>tru_ok pins s1 σ H1 x v Q I1 r1 q1) (he _)
theorem a9v':OpR X (binaryOp .Add) (fun x y H Q=>∃i j,x=.str i∧y=.str j∧i.length+j.length≤sizeLine∧Q (.str (i++j)) H):=by
 intro pins s σ H x y v u Q I rx ry h
 obtain⟨i,j,rfl,rfl,hz,q⟩:=h
 obtain⟨t,rfl⟩:=rx
 obtain⟨t',rfl⟩:=ry
 exact add_str (fun t' tk=>⟨.str (i++j),H,I.tok _,⟨_,rfl⟩,q⟩) hz
theorem vals1{x:V}{us:List Value}(r:Vals [x] us):∃u,us=[u]∧RelV x u:=by
 cases r with
 |cons r1 r2=>cases r2;exact⟨_,rfl,r1⟩
theorem vals2{x y:V}{us:List Value}(r:Vals [x,y] us):∃u w',us=[u,w']∧RelV x u∧RelV y w':=by
 cases r with
 |cons r1 r2=>
  cases r2 with
  |cons r3 r4=>cases r4;exact⟨_,_,rfl,r1,r3⟩
theorem b1p'(hc:X.calm=true):CallR X (.builtin "max") (fun xs H Q=>∃i j,xs=[.int i,.int j]∧Q (.int (if j>i then j else i)) H):=by
 intro pins s σ H xs us Q I r h
 obtain⟨i,j,rfl,q⟩:=h
 obtain⟨u,w',rfl,⟨t,rfl⟩,⟨t',rfl⟩⟩:=vals2 r
 refine max_two_ints (I.ok.hd hc) fun h' tk k=>⟨_,H,I.kept k,?_,q⟩
 by_cases hj:j>i
 ·rw[if_pos hj,if_pos hj];exact⟨_,rfl⟩
 ·rw[if_neg hj,if_neg hj];exact⟨_,rfl⟩
theorem b1q'(hc:X.calm=true):CallR X (.builtin "min") (fun xs H Q=>∃i j,xs=[.int i,.int j]∧Q (.int (if j<i then j else i)) H):=by
 intro pins s σ H xs us Q I r h
 obtain⟨i,j,rfl,q⟩:=h
 obtain⟨u,w',rfl,⟨t,rfl⟩,⟨t',rfl⟩⟩:=vals2 r
 refine min_two_ints (I.ok.hd hc) fun h' tk k=>⟨_,H,I.kept k,?_,q⟩
 by_cases hj:j<i
 ·rw[if_pos hj,if_pos hj];exact⟨_,rfl⟩
 ·rw[if_neg hj,if_neg hj];exact⟨_,rfl⟩
theorem a7Q':CallR X (.type "int") (fun xs H Q=>(∃i,xs=[.int i]∧Q (.int i) H)∨∃k,xs=[.bl k]∧Q (.int (if k then 1 else 0)) H):=by
 intro pins s σ H xs us Q I r h
 rcases h with⟨i,rfl,q⟩| ⟨k,rfl,q⟩
 ·obtain⟨u,rfl,t,rfl⟩:=vals1 r
  exact call_int_int ⟨.int i,H,I,⟨_,rfl⟩,q⟩
 ·obtain⟨u,rfl,r1⟩:=vals1 r
  cases r1
  exact call_int_bool ⟨.int (if k then 1 else 0),H,I.tok _,⟨_,rfl⟩,q⟩
end
end L2
namespace L2
open PySem PySem.Spec PyProof.Rows
section
variable {prog:Program}{w:World}{A:Around}{E:Value→Shared→Prop}{s:Shared}{K:PySem.W.Frag}{x dx C f:Addr}{mA:Str→Option Value}{name:Str}{v:Value}
end
section
variable {P:Program}{w:World}{H H':Hp}{h h':Heap}{a C dx:Addr}{fs fs':List (Str×V)}
end
section
variable {X:Cx}{pins:List (Addr×Obj)}{σ:St}{H:Hp}{s:Shared}{a C dx:Addr}{fs:List (Str×V)}{f:Str}{v:V}{A:Around}{E:Value→Shared→Prop}
end
section
variable {X:Cx}{o e value:Expr}{f:Str}{pos pos' tpos:Pos}{ta tv:TE}
end
section
variable {X:Cx}{pins:List (Addr×Obj)}{σ:St}{H:Hp}{s:Shared}{A:Around}{E:Value→Shared→Prop}{Q:Value→Shared→Prop}{c:Value}{b:Bool}
end
end L2
namespace L2
open PySem PySem.Spec PyProof.Rows
structure Room (k:Nat)(A:Around):Prop where
 hd:A.handled=none
 dp:A.depth+3*k+5<recursionLimit
 un:A.units+16*k+200<cLine
 gd:A.guards=some []
theorem Room.mono{j k:Nat}{A:Around}(r:Room k A)(h:j≤k):Room j A:=⟨r.hd,by have:=r.dp;omega,by have:=r.un;omega,r.gd⟩
theorem Room.deeper{k:Nat}{A:Around}(r:Room (k+1) A)(env:Env):Room k (A.deeper env):=
 ⟨r.hd,by have:=r.dp;show A.depth+1+3*k+5<_;omega,by have:=r.un;show A.units+3+16*k+200<_;omega,r.gd⟩
theorem Room.depth{k:Nat}{A:Around}(r:Room k A):A.depth<recursionLimit:=by have:=r.dp;omega
theorem Room.units{k:Nat}{A:Around}(r:Room k A):A.units+64<cLine:=by have:=r.un;omega
def tNil:TA:=fun _ H Q=>Q [] H
def tCons(ta:TE)(tr:TA):TA:=fun σ H Q=>ta σ H fun x H1=>tr σ H1 fun xs H2=>Q (x::xs) H2
section
variable {X:Cx}{e:Expr}{es:List Expr}{te:TE}{t:TA}{pos:Pos}
theorem b3q':PA X [] tNil:=fun _ _ _ _ H Q I h=>Calls.spliced_nil ⟨[],H,I,.nil,h⟩
theorem a9w'(ha:PE X e te)(hr:PA X es t)(hs:starEach (e::es) X.env=(false,eval e X.env)::starEach es X.env:=by rfl):PA X (e::es) (tCons te t):=by
 intro pos pins s σ H Q I h
 rw[hs]
 show wpAny _ _ (spliced ((false,eval e X.env)::backTo pos (starEach es X.env))) _ _ s
 refine Calls.spliced_cons (thn (ha pins s σ H _ I h) fun u s1 ⟨x,H1,I1,r1,q1⟩=>?_)
 exact thn (hr pos pins s1 σ H1 _ I1 q1) fun us s2 ⟨xs,H2,I2,r2,q2⟩=>⟨x::xs,H2,I2,.cons r1 r2,q2⟩
def tTup(t:TA):TE:=fun σ H Q=>t σ H fun xs H1=>xs.length≤sizeLine∧∀p,H1 p=none→Q (.ref p) (upd H1 p (.tup xs))
def tLst(t:TA):TE:=fun σ H Q=>t σ H fun xs H1=>xs.length≤sizeLine∧∀p,H1 p=none→Q (.ref p) (upd H1 p (.lst xs))
theorem pe_tup{x1}(h:PA X es t):PE X (.Tuple es x1 pos) (tTup t):=by
 intro pins s σ H Q I hq
 refine wpAny_Tuple_spliced (thn (h pos pins s σ H _ I hq) fun us s1 ⟨xs,H1,I1,r,z,q⟩=>⟨by rw[←r.length];exact z,?_⟩)
 have hf:H1 s1.heap.objs.size=none:=I1.hok.fresh (Zl _)
 refine⟨.ref s1.heap.objs.size,upd H1 s1.heap.objs.size (.tup xs),I1.laid (t':=s1.toks) (fun b u e=>Zf _ e) (Zl _) ?_,rfl,q _ hf⟩
 exact⟨z,us,r,⟨_,Zp _ rfl,rfl,_,rfl⟩,_,Zp _ rfl,rfl⟩
theorem pe_lst(h:PA X es t):PE X (.List es pos) (tLst t):=by
 intro pins s σ H Q I hq
 refine wpAny_List_spliced (thn (h pos pins s σ H _ I hq) fun us s1 ⟨xs,H1,I1,r,z,q⟩=>⟨by rw[←r.length];exact z,?_⟩)
 have hf:H1 s1.heap.objs.size=none:=I1.hok.fresh (Zl _)
 refine⟨.ref s1.heap.objs.size,upd H1 s1.heap.objs.size (.lst xs),I1.laid (t':=s1.toks) (fun b u e=>Zf _ e) (Zl _) ?_,rfl,q _ hf⟩
 exact⟨z,us,0,r,Zp _ rfl⟩
end
abbrev Sp:=List V→Hp→VK→XK→Prop
abbrev CXT:=List Env→Hp→Shared→XK→Value→Shared→Prop
structure Env0 (P:Program)(w:World)(K:PySem.W.Frag)(mg:Str→Option Value)(base:Heap)(A:Around)(outer:List Env)(s:Shared)(H:Hp):Prop where
 frames:A.frames=some outer
 mod:Mod K mg base
 bs:∀b o,base.get? b=some o→s.heap.get? b=some o∧H b=none
 bsz:base.objs.size≤s.heap.objs.size
 funs:s.heap.FunFrames base outer
 frf:∀b∈frs outer,H b=none
 hok:HOk P w H s.heap
 bare:AllBare s.gens
def CE(outer:List Env)(P:Program)(w:World)(H:Hp)(s:Shared)(Q:VK)(u:Value)(s':Shared):Prop:=
 ∃v H',s'.os=s.os∧AllBare s'.gens∧Un (frs outer) [] H H' s.heap s'.heap∧HOk P w H' s'.heap∧RelV v u∧Q v H'
def CR(CX:CXT)(outer:List Env)(P:Program)(w:World)(H:Hp)(s:Shared)(Q:VK)(E:XK)(r:Result)(s':Shared):Prop:=
 match r with
 | .ok (.ret u)=>CE outer P w H s Q u s'
 | .ok _=>False
 | .error e=>CX outer H s E e s'
structure FnOk (P:Program)(w:World)(K:PySem.W.Frag)(mg:Str→Option Value)(base:Heap)(CX:CXT)(k:Nat)(f:Addr)(fd:FuncData)(ps:List Str)(sp:Sp):Prop where
 len:∀vs H Q E,sp vs H Q E→vs.length=ps.length
 run:∀(A:Around) (outer:List Env) (s:Shared) (H:Hp) (args:Args) (us:List Value) (vs:List V) (Q:VK) (E:XK),Room k A→Env0 P w K mg base A outer s H→BindsTo s fd args (ps.zip us)→Vals vs us→sp vs H Q E→
  codeAny (model P w) A (.call (.ref f) args) (CR CX outer P w H s Q E) s
theorem FnOk.mono{P:Program}{w:World}{K:PySem.W.Frag}{mg:Str→Option Value}{base:Heap}{CX:CXT}{j k:Nat}{f:Addr}{fd:FuncData}{ps:List Str}{sp:Sp}(F:FnOk P w K mg base CX j f fd ps sp)(h:j≤k):
  FnOk P w K mg base CX k f fd ps sp:=⟨F.len,fun A outer s H args us vs Q E hr=>F.run A outer s H args us vs Q E (hr.mono h)⟩
theorem FnOk.imp{P:Program}{w:World}{K:PySem.W.Frag}{mg:Str→Option Value}{base:Heap}{CX:CXT}{k:Nat}{f:Addr}{fd:FuncData}{ps:List Str}{sp sp':Sp}(F:FnOk P w K mg base CX k f fd ps sp)
  (h:∀vs H Q E,sp' vs H Q E→sp vs H Q E):FnOk P w K mg base CX k f fd ps sp':=
 ⟨fun vs H Q E q=>F.len vs H Q E (h _ _ _ _ q),fun A outer s H args us vs Q E hr he hb hv hs=>F.run A outer s H args us vs Q E hr he hb hv (h _ _ _ _ hs)⟩
section
variable {X:Cx}{pins:List (Addr×Obj)}{σ:St}{H:Hp}{s s':Shared}
theorem Inv.env0(I:Inv X pins σ H s):Env0 X.prog X.w X.K X.mg X.base X.A X.stack s H:=
 ⟨I.ok.frames,I.ok.mod,I.bs,ZB I.ok.bsz I.sz,I.stack,I.stkFree,I.hok,I.bare⟩
theorem Inv.after{Q:VK}{u:Value}(I:Inv X pins σ H s)(h:CE X.stack X.prog X.w H s Q u s'):EP X pins σ Q u s':=by
 obtain⟨v,H',os,bare,un,hok,r,q⟩:=h
 obtain⟨hh,g,d,t,os'⟩:=s'
 obtain rfl:os'=s.os:=os
 exact⟨v,H',I.call (h':=hh) (g':=g) (d':=d) (t':=t) (ch:=[]) un hok bare (fun b z=>absurd z (by simp)),r,q⟩
end
def tCall(sp:Sp)(dvs:List V)(E:XK)(t:TA):TE:=fun σ H Q=>t σ H fun vs H1=>sp (vs++dvs) H1 Q E
def Binds(K:PySem.W.Frag)(fd:FuncData)(ps:List Str)(ds:List Value):Prop:=
 ∀(s:Shared) (us:List Value),K.In s.heap→(us++ds).length=ps.length→BindsTo s fd ⟨us,[]⟩ (ps.zip (us++ds))
theorem Binds.all{K:PySem.W.Frag}{fd:FuncData}{ps:List Str}(h:∀us:List Value,us.length=ps.length→bindArgs fd ⟨us,[]⟩=pure (ps.zip us)):Binds K fd ps []:=fun s us _ hl=>by
 rw[Z2]at hl⊢
 exact .of_eq (h us hl)
def b3r'(CX:CXT)(X:Cx)(E:XK):Prop:=∀(pins:List (Addr×Obj)) (σ:St) (H:Hp) (s:Shared) (e:Value) (s':Shared),Inv X pins σ H s→CX X.stack H s E e s'→X.xe e s'
section
variable {X:Cx}{CX:CXT}{k:Nat}{f C:Addr}{fd:FuncData}{ps:List Str}{sp:Sp}{dvs:List V}{ds:List Value}{E:XK}{x m:Str}{p pos apos:Pos}{e o:Expr}{es:List Expr}{ta:TE}{t:TA}
theorem run_fn{pins:List (Addr×Obj)}{σ:St}{H:Hp}{s:Shared}{Q:VK}{us:List Value}{vs:List V}(F:FnOk X.prog X.w X.K X.mg X.base CX k f fd ps sp)(hr:Room k X.A)(hb:Binds X.K fd ps ds)(hd:Vals dvs ds)(hx:b3r' CX X E)
  (I:Inv X pins σ H s) (r:Vals vs us) (h:sp (vs++dvs) H Q E):wpAny (model X.prog X.w) X.A (call (.ref f) us) (EP X pins σ Q) X.xe s:=by
 have r2:Vals (vs++dvs) (us++ds):=r.append hd
 have hl:(us++ds).length=ps.length:=by rw[←r2.length];exact F.len _ _ _ _ h
 refine wpAny_call (codeAny_mono (F.run X.A X.stack s H ⟨us,[]⟩ (us++ds) (vs++dvs) Q E hr I.env0 (hb s us I.kIn hl) r2 h) fun r s' hq=>?_)
 cases r with
 |error e=>exact hx pins σ H s e s' I hq
 |ok fl=>
  cases fl with
  |ret u=>exact I.after hq
  |next=>exact False.elim hq
  |brk=>exact False.elim hq
  |cont=>exact False.elim hq
theorem pe_call(F:FnOk X.prog X.w X.K X.mg X.base CX k f fd ps sp)(hr:Room k X.A)(hg:Gl X x)(hm:X.mg x=some (.ref f))(hk:PySem.W.keepIn X.K (.ref f)=true)(hb:Binds X.K fd ps ds)(hd:Vals dvs ds)(hx:b3r' CX X E)
  (ha:PA X (e::es) t) (hdb:(x==("__debug__":Str))=false:=by decide) (he:starEach (e::es) X.env=(false,eval e X.env)::starEach es X.env:=by rfl) (hpl:(backTo pos (starEach es X.env)).any (·.1)=false:=by rfl):
  PE X (.Call (.Name x p) (e::es) [] pos) (tCall sp dvs E t):=by
 intro pins s σ H Q I h
 refine wpAny_Call_Name_kw (b2t' I hg hm ?_ hdb)
 refine PySem.W.callWith_K (h₀:=X.base) I.ok.mod.kin hk (thn (ha pos pins s σ H _ I h) fun us s1 ⟨vs,H1,I1,r,q⟩=>⟨I1.kIn,?_⟩) he hpl
 exact run_fn F hr hb hd hx I1 r q
end
section
variable {X:Cx}{CX:CXT}{k:Nat}{f C:Addr}{fd:FuncData}{ps ks:List Str}{sp:Sp}{E:XK}{x m:Str}{p pos apos kpos:Pos}{e o:Expr}{es:List Expr}{kws:List Keyword}{te ta:TE}{t tk:TA}{nm:Option Str}
variable {g:List Value→List Value→List Value}{gV:List V→List V→List V}
end
structure FnScope (N P:List Str)(sc:Scope):Prop where
 kind:sc.kind=.function
 co:sc.isCoroutine=false
 gen:sc.isGenerator=false
 nd:N.Nodup
 pre:N.take P.length=P
 par:∀x∈P,sc.names.lookup x=some .local∨sc.names.lookup x=some .cell
 nofree:∀y∈sc.names,y.2≠.free
theorem a7R'{kindOf:Str→Option NameKind}{x:Str}:∀{binds:List (Str×Value)} {m:Str→Option Value},(∀v,(x,v)∉binds)→bindL kindOf binds m x=m x
 | [],_,_=>rfl
 | (n,v)::r,m,h=>by
  unfold bindL
  rw[a7R' fun w hw=>h w (Zb _ hw)]
  split
  ·have:x≠n:=by rintro rfl;exact h v Zc
   simp[this]
  ·rfl
theorem a7S'{kindOf:Str→Option NameKind}{x:Str}:∀{binds:List (Str×Value)} {m:Str→Option Value},(∀v,(x,v)∉binds)→bindC kindOf binds m x=m x
 | [],_,_=>rfl
 | (n,v)::r,m,h=>by
  unfold bindC
  rw[a7S' fun w hw=>h w (Zb _ hw)]
  split
  ·rfl
  ·have:x≠n:=by rintro rfl;exact h v Zc
   simp[this]
theorem a7T'{kindOf:Str→Option NameKind}{x:Str}{v:Value}:∀{P:List Str} {vs:List Value} {i:Nat} {m:Str→Option Value},P.Nodup→P[i]?=some x→vs[i]?=some v→kindOf x=some .local→
  bindL kindOf (P.zip vs) m x=some v
 | [],_,_,_,_,h,_,_=>by simp at h
 |_::_,[],_,_,_,_,h,_=>by simp at h
 |p::P,w::vs,0,m,nd,h1,h2,hk=>by
  simp at h1 h2;subst h1;subst h2
  show bindL kindOf ((p,w)::P.zip vs) m p=_
  unfold bindL
  rw[a7R' fun v hv=>(List.nodup_cons.mp nd).1 (List.of_mem_zip hv).1,if_pos hk]
  simp
 |p::P,w::vs,i+1,m,nd,h1,h2,hk=>by
  show bindL kindOf ((p,w)::P.zip vs) m x=_
  unfold bindL
  exact a7T' (i:=i) (List.nodup_cons.mp nd).2 (by simpa using h1) (by simpa using h2) hk
theorem a7U'{kindOf:Str→Option NameKind}{x:Str}{v:Value}:∀{P:List Str} {vs:List Value} {i:Nat} {m:Str→Option Value},P.Nodup→P[i]?=some x→vs[i]?=some v→kindOf x≠some .local→
  bindC kindOf (P.zip vs) m x=some v
 | [],_,_,_,_,h,_,_=>by simp at h
 |_::_,[],_,_,_,_,h,_=>by simp at h
 |p::P,w::vs,0,m,nd,h1,h2,hk=>by
  simp at h1 h2;subst h1;subst h2
  show bindC kindOf ((p,w)::P.zip vs) m p=_
  unfold bindC
  rw[a7S' fun v hv=>(List.nodup_cons.mp nd).1 (List.of_mem_zip hv).1,if_neg hk]
  simp
 |p::P,w::vs,i+1,m,nd,h1,h2,hk=>by
  show bindC kindOf ((p,w)::P.zip vs) m x=_
  unfold bindC
  exact a7U' (i:=i) (List.nodup_cons.mp nd).2 (by simpa using h1) (by simpa using h2) hk
def start(N:List Str)(vs:List V):St:=vs.map some++List.replicate (N.length-vs.length) none
def cxOf(CX:CXT)(P:Program)(w:World)(K:PySem.W.Frag)(mg:Str→Option Value)(base:Heap)(N:List Str)(qual:Str)(scope:Scope)(f:Addr)(cd:Value)(A:Around)(outer:List Env)(s:Shared)(H:Hp)(E:XK):Cx where
 prog:=P
 w:=w
 K:=K
 mg:=mg
 base:=base
 A:=A.deeper (envOfC qual scope s.heap.objs.size f cd)
 N:=N
 s₀:=s
 H₀:=H
 env:=envOfC qual scope s.heap.objs.size f cd
 outer:=outer
 stack:=envOfC qual scope s.heap.objs.size f cd::outer
 ex:=[]
 calm:=true
 fn:=fun _=>true
 pn:=[]
 xe:=fun e s'=>wpAny (model P w) (A.deeper (envOfC qual scope s.heap.objs.size f cd)) (leaving (envOfC qual scope s.heap.objs.size f cd) e) (fun _ s''=>CX outer H s E e s'') (fun e' s''=>CX outer H s E e' s'') s'
theorem a9x'{sc:Scope}{n:Nat}{x:Str}(h:sc.names.lookup x=some .cell):∃c,(cellsFrom n sc.names []).lookup x=some c:=by
 have q:=PySem.W.cellsFrom_some sc.names n [] (.inl h)
 exact Yg.mp q
theorem b1r'{CX:CXT}{P:Program}{w:World}{K:PySem.W.Frag}{mg:Str→Option Value}{base:Heap}{N ps:List Str}{qual:Str}{scope:Scope}{f:Addr}{cd:Value}{A:Around}{outer:List Env}{s s1:Shared}{H:Hp}{E:XK}{us:List Value}{vs:List V}
  (S:FnScope N ps scope) (hd:A.handled=none) (e0:Env0 P w K mg base A outer s H) (hl:vs.length=ps.length) (r:Vals vs us)
  (x:InCallC s s.heap.objs.size (bindL (envOfC qual scope s.heap.objs.size f cd).kindOf (ps.zip us) fun _=>none) (cellsFrom (s.heap.objs.size+1) scope.names []) (bindC (envOfC qual scope s.heap.objs.size f cd).kindOf (ps.zip us) fun _=>none) s1):
  Inv (cxOf CX P w K mg base N qual scope f cd A outer s H E) [] (start N vs) H s1:=by
 have hpl:ps.length≤N.length:=by have:=congrArg List.length S.pre;rw[Z3]at this;omega
 obtain⟨h1,tk,rfl,hk⟩:=x.done
 have noA:∀b:Addr,b∉(cxOf CX P w K mg base N qual scope f cd A outer s H E).ex:=fun b z=>absurd (show b∈([]:List Addr)from z) (by simp)
 refine⟨⟨e0.mod,S.kind,rfl,rfl,Zl _,fun y z c h1 h2=>?_,fun y hy=>?_,fun y c _ h=>?_,fun _=>hd,Around.frames_deeper e0.frames,.inr ⟨rfl,rfl⟩,fun b z=>absurd z (noA b),e0.bs,e0.bsz,fun b _ _=>noA b,fun b z=>absurd z (noA b),e0.funs,e0.frf⟩,
  rfl,e0.bare,Un.kept hk,⟨_,x.toInCall.ns,fun i y v h1 h2 h3=>?_⟩,fun y c h=>⟨_,x.cell y c h⟩,e0.hok.fresh (Zl _),fun y c h=>?_,fun p hp=>absurd (show p∈([]:List (Addr×Obj))from hp) (by simp),e0.hok.kept hk,?_⟩
 ·exact name_of_addr x.apart (ZM h1) (ZM h2)
 ·have hy:scope.names.lookup y=some .cell∨scope.names.lookup y=some .free:=hy
  rcases hy with hy|hy
  ·exact a9x' hy
  ·exact absurd rfl (S.nofree _ (ZM hy))
 ·exact Nat.le_of_lt (x.above y c (ZM h))
 ·have hi:i<vs.length:=by
   unfold start at h2
   by_cases hi:i<vs.length
   ·exact hi
   ·rw[Zw (by simpa using hi)]at h2
    rw[List.getElem?_replicate]at h2
    split at h2<;>cases h2
  have ha:vs[i]?=some v:=by
   unfold start at h2
   rw[Zo (by simpa using hi),ZJ]at h2
   cases e:vs[i]? with
   |none=>rw[e]at h2;cases h2
   |some a=>rw[e]at h2;cases h2;rfl
  obtain⟨u,hu,rv⟩:=r.get ha
  have hp:ps[i]?=some y:=by
   rw[←S.pre,List.getElem?_take_of_lt (by omega)];exact h1
  have ndP:ps.Nodup:=by rw[←S.pre];exact S.nd.sublist (List.take_sublist _ _)
  refine⟨u,rv,?_⟩
  rcases S.par y (Zz hp)with k|k
  ·exact .inl ⟨k,a7T' ndP hp hu k⟩
  ·obtain⟨c,e⟩:=a9x' (n:=s.heap.objs.size+1) k
   refine .inr ⟨.inl k,c,e,?_⟩
   have q:=x.cell y c e
   rw[a7U' ndP hp hu (by show scope.names.lookup y≠_;rw[k];decide)]at q
   exact q
 ·exact e0.hok.fresh (Nat.le_of_lt (x.above y c (ZM h)))
 ·unfold start
  show _=N.length
  rw[Zn,Zk,List.length_replicate]
  omega
theorem fn_of{CX:CXT}{P:Program}{w:World}{K:PySem.W.Frag}{mg:Str→Option Value}{base:Heap}{k:Nat}{f:Addr}{name qual:Str}{params:Arguments}{body:List Stmt}{scope:Scope}{dV kV doc pm cdv ct oc:Value}{an od:Option Addr}
  {osl:Array (Option Value)} {N ps:List Str} {sp:Sp} (lk:K.lookup f=some ⟨oc,od,.func (PySem.W.fnOf name qual params body scope dV kV doc pm an cdv ct),osl⟩) (hcd:PySem.W.codeIn K cdv qual=true) (S:FnScope N ps scope)
  (len:∀vs H Q E,sp vs H Q E→vs.length=ps.length)
  (hbody:∀(A:Around) (outer:List Env) (s:Shared) (H:Hp) (vs:List V) (Q:VK) (E:XK),Room k (A.deeper (envOfC qual scope s.heap.objs.size f cdv))→sp vs H Q E→
   ∃t,PSs (cxOf CX P w K mg base N qual scope f cdv A outer s H E) body t∧t {nx:=fun _ H'=>Q .non H',rt:=Q} (start N vs) H):
  FnOk P w K mg base CX (k+1) f (PySem.W.fnOf name qual params body scope dV kV doc pm an cdv ct) ps sp:=by
 refine⟨len,fun A outer s H args us vs Q E hr e0 hb r hsp=>?_⟩
 have hl:=len _ _ _ _ hsp
 have KX:K.In s.heap:=e0.mod.kin.keeps fun b o e=>(e0.bs b o e).1
 have lim:s.heap.NoLimit:=e0.mod.nolimit.keeps fun b o e=>(e0.bs b o e).1
 have hkind:∀y∈ps.zip us,scope.names.lookup y.1=some .local∨(scope.names.lookup y.1=some .cell∧((cellsFrom (s.heap.objs.size+1) scope.names []).lookup y.1).isSome=true):=fun⟨n,v⟩ hy=>by
  rcases S.par n (List.of_mem_zip hy).1 with q|q
  ·exact .inl q
  ·exact .inr ⟨q,PySem.W.cellsFrom_some _ _ _ (.inl q)⟩
 refine codeAny_call_function hr.depth (KX _ _ lk) rfl S.co S.gen rfl (PySem.W.codeRec_of KX hcd) (hb _ _ _ _ ?_)
 refine wpAny_newFunctionEnv_cells S.kind hkind fun env he s1 x=>?_
 subst he
 refine⟨lim.keeps x.toInCall.keep,codeAny_func ?_⟩
 obtain⟨t,ht,hq⟩:=hbody A outer s H vs Q E (hr.deeper _) hsp
 have I:Inv (cxOf CX P w K mg base N qual scope f cdv A outer s H E) [] (start N vs) H s1:=b1r' S hr.hd e0 hl r x
 refine wpAny_mono (ht [] s1 (start N vs) H _ I hq) (fun fl s' hs=>?_) fun e s' hs=>hs
 have fin:∀{σ':St} {H':Hp} {v:V} {u:Value},Inv (cxOf CX P w K mg base N qual scope f cdv A outer s H E) [] σ' H' s'→RelV v u→Q v H'→CE outer P w H s Q u s':=
  fun{σ' H' v u} J rv q=>⟨v,H',J.os,J.bare,J.base,J.hok,rv,q⟩
 cases fl with
 |ret u=>
  obtain⟨v,σ',H',J,rv,q⟩:=hs
  exact fin J rv q
 |next=>
  obtain⟨σ',H',J,q⟩:=hs
  exact fin (v:=V.non) (u:=Value.none) J rfl q
 |brk=>
  obtain⟨_,_,_,q⟩:=hs
  exact False.elim q
 |cont=>
  obtain⟨_,_,_,q⟩:=hs
  exact False.elim q
end L2
namespace L2
open PySem PySem.Spec PyProof.Rows
section
variable {X:Cx}{x:Str}{p pos:Pos}{e:Expr}{es:List Expr}{t:TA}{id T:String}{r:List V→Hp→VK→Prop}
def tCB(r:List V→Hp→VK→Prop)(t:TA):TE:=fun σ H Q=>t σ H fun vs H1=>r vs H1 Q
theorem a9y'(hc:CallR X (.builtin id) r)(hg:Gl X x)(hm:X.mg x=none)(hv:bootBuiltins x=some (.builtin id))(ha:PA X (e::es) t)(hn:x≠"__name__":=by decide)(hdb:(x==("__debug__":Str))=false:=by decide)
  (he:starEach (e::es) X.env=(false,eval e X.env)::starEach es X.env:=by rfl) (hpl:(backTo pos (starEach es X.env)).any (·.1)=false:=by rfl):PE X (.Call (.Name x p) (e::es) [] pos) (tCB r t):=by
 intro pins s σ H Q I h
 refine wpAny_Call_Name_kw (a6e' I hg hm hv ?_ hn hdb)
 exact PyProof.Rows.callWith_builtin1 (thn (ha pos pins s σ H _ I h) fun us s1 ⟨vs,H1,I1,r1,q1⟩=>hc pins s1 σ H1 vs us Q I1 r1 q1) he hpl
theorem a4m'(hc:CallR X (.type T) r)(hg:Gl X x)(hm:X.mg x=none)(hv:bootBuiltins x=some (.type T))(ha:PA X (e::es) t)(hn:x≠"__name__":=by decide)(hdb:(x==("__debug__":Str))=false:=by decide)
  (he:starEach (e::es) X.env=(false,eval e X.env)::starEach es X.env:=by rfl) (hpl:(backTo pos (starEach es X.env)).any (·.1)=false:=by rfl):PE X (.Call (.Name x p) (e::es) [] pos) (tCB r t):=by
 intro pins s σ H Q I h
 refine wpAny_Call_Name_kw (a6e' I hg hm hv ?_ hn hdb)
 exact PyProof.Rows.callWith_type1 (thn (ha pos pins s σ H _ I h) fun us s1 ⟨vs,H1,I1,r1,q1⟩=>hc pins s1 σ H1 vs us Q I1 r1 q1) he hpl
end
end L2
namespace HT
open PySem PyProof.Rows
section
open PySem.SeqAt
open PySem.AutoSeq1 (wpAny_loadPart')
open PySem.MeetsSeq PySem.MeetsSeq2 PySem.MeetsSeq3
end
section
variable {prog:Program}{w:World}{A:Around}{E:Value→Shared→Prop}{s:Shared}
theorem cat_tup{t b:Addr}{vs ws:List Value}{Q:Value→Shared→Prop}(ht:IsTup s.heap t vs.toArray)(hb:IsTup s.heap b ws.toArray)(hv:vs≠[])
  (h1:ws=[]→Q (.ref t) s) (h2:ws≠[]→Q (.ref s.heap.objs.size) {s with heap:=s.heap.push {cls:=.type "tuple",data:=.seq (vs++ws).toArray}})
  (hsz:vs.length+ws.length≤sizeLine):wpAny (model prog w) A (binaryOp .Add (.ref t) (.ref b)) Q E s:=by
 obtain⟨⟨cls,dd,data,sl⟩,ho,hc,n,hd⟩:=id ht
 obtain⟨⟨cls2,dd2,data2,sl2⟩,ho2,hc2,n2,hd2⟩:=id hb
 simp only at hc hd hc2 hd2
 subst hc hd hc2 hd2
 have e:vs.toArray++ws.toArray=(vs++ws).toArray:=by simp
 by_cases hw:ws=[]
 ·exact concat_meets ⟨_,ho,rfl⟩ ⟨_,ho2,rfl⟩ noFill_tuple_add seq_tuple_add PySem.F.slot_tuple_add PySem.F.entry_tuple_add (PySem.F.args_tuple_add_2 _ _)
   (tuple_addW1 t b vs.toArray ws.toArray n n2 dd dd2 sl sl2 (by simpa using hv) (by simp[hw])) ⟨ho,ho2,h1 hw⟩
 ·refine concat_meets ⟨_,ho,rfl⟩ ⟨_,ho2,rfl⟩ noFill_tuple_add seq_tuple_add PySem.F.slot_tuple_add PySem.F.entry_tuple_add (PySem.F.args_tuple_add_2 _ _)
   (tuple_addW2 t b vs.toArray ws.toArray n n2 dd dd2 sl sl2 (by simpa using hv) (by simpa using hw) (by rw[Zj,Zj];exact hsz)) ⟨ho,ho2,?_⟩
  rw[e]
  exact h2 hw
def sIx(n d:Nat):Option Int→Nat
 |none=>d
 |some v=>if v<0 then(v+(n:Int)).toNat else min v.toNat n
theorem a5D'(n d:Nat):sIx n d none=d:=rfl
theorem b2u'(n d k:Nat):sIx n d (some (k:Int))=min k n:=by
 show(if(k:Int)<0 then((k:Int)+(n:Int)).toNat else min (k:Int).toNat n)=min k n
 rw[if_neg (by omega),Int.toNat_natCast]
theorem sIx_le(n d:Nat)(hd:d≤n)(o:Option Int):sIx n d o≤n:=by
 cases o with
 |none=>exact hd
 |some v=>
  show(if v<0 then(v+(n:Int)).toNat else min v.toNat n)≤n
  by_cases hv:v<0
  ·rw[if_pos hv];omega
  ·rw[if_neg hv];exact Nat.min_le_right _ _
theorem b2v'(v:Int)(n d:Nat):(if v<0 then max (v+(n:Int)) 0 else min v (n:Int))=((sIx n d (some v):Nat):Int):=by
 show(if v<0 then max (v+(n:Int)) 0 else min v (n:Int))=(((if v<0 then(v+(n:Int)).toNat else min v.toNat n):Nat):Int)
 by_cases hv:v<0
 ·simp only[if_pos hv];omega
 ·simp only[if_neg hv];omega
theorem a9z'(lo hi:Option Int)(n:Nat):Builtin.Slice.sliceAdjust lo hi 1 (n:Int)=(((sIx n 0 lo:Nat):Int),((sIx n n hi:Nat):Int)):=by
 have h1:¬((1:Int)<0):=by omega
 unfold Builtin.Slice.sliceAdjust
 simp only[h1,Z5]
 refine Prod.ext ?_ ?_
 ·cases lo with
  |none=>rfl
  |some v=>exact b2v' v n 0
 ·cases hi with
  |none=>rfl
  |some v=>exact b2v' v n n
theorem a9A'(i j:Nat):Builtin.Slice.slicePlaces (i:Int) (j:Int) 1=j-i:=by
 unfold Builtin.Slice.slicePlaces
 have h1:(1:Int)>0:=by omega
 simp only[h1,if_true,Int.ediv_one]
 split<;>omega
theorem a2e'{v:Value}{o:Option Int}{Q:Option Int→Shared→Prop}(p:IsPart v o)(h:Q o s):wpAny (model prog w) A (Builtin.Slice.slicePartIndex v) Q E s:=by
 cases p with
 |none=>exact slicePart_none h
 |int i t=>exact slicePart_int h
theorem a2f'{sl:Addr}{vl vu:Value}{lo hi:Option Int}{n:Nat}{Q:Int×Int×Nat→Shared→Prop}(hs:s.heap.IsSliceOf sl vl vu .none)(pl:IsPart vl lo)(pu:IsPart vu hi)
  (h:Q (((sIx n 0 lo:Nat):Int),1,sIx n n hi-sIx n 0 lo) s):wpAny (model prog w) A (Builtin.Slice.sliceApplied (.ref sl) (pure (n:Int))) Q E s:=by
 obtain⟨os,hos,hcs,hds⟩:=id hs
 unfold Builtin.Slice.sliceApplied Builtin.Slice.sliceFields
 refine Za (Za (ZQ hos hds (x:=vl) rfl (Za (ZQ hos hds (x:=vu) rfl (Za (ZQ hos hds (x:=.none) rfl (Zi ?_)))))))
 refine Za (slicePart_none ?_)
 show wpAny _ _ (if((1:Int)==0)=true then _ else _) _ _ s
 rw[if_neg (by decide)]
 refine Za (a2e' pl (Za (a2e' pu (Za (Zi ?_)))))
 show wpAny _ _ (match Builtin.Slice.sliceAdjust lo hi 1 (n:Int)with| (lo,hi)=>pure (lo,(1:Int),Builtin.Slice.slicePlaces lo hi 1)) _ _ s
 rw[a9z' lo hi n]
 show wpAny _ _ (pure (((sIx n 0 lo:Nat):Int),(1:Int),Builtin.Slice.slicePlaces ((sIx n 0 lo:Nat):Int) ((sIx n n hi:Nat):Int) 1)) _ _ s
 rw[a9A']
 exact Zi h
theorem b3s'(xs:Array Value)(i k:Nat):((List.range k).filterMap fun(m:Nat)=>xs[((i:Int)+(m:Int)*1).toNat]?).toArray=((xs.toList.drop i).take k).toArray:=by
 have e:(fun(m:Nat)=>xs[((i:Int)+(m:Int)*1).toNat]?)=fun m=>xs[i+m]? :=by
  funext m
  have:((i:Int)+(m:Int)*1).toNat=i+m:=by omega
  rw[this]
 rw[e]
 have:=pick_run xs i k
 rw[List.filterMap_map]at this
 have e2:((fun x=>xs[x]?)∘fun x=>i+x)=fun m=>xs[i+m]? :=rfl
 rw[e2]at this
 rw[this]
theorem a4g'{t sl:Addr}{items:Array Value}{vl vu:Value}{lo hi:Option Int}{Q:Value→Shared→Prop}(ht:IsTup s.heap t items)(hs:s.heap.IsSliceOf sl vl vu .none)(pl:IsPart vl lo)(pu:IsPart vu hi)
  (hw:¬(sIx items.size 0 lo=0∧sIx items.size items.size hi=items.size))
  (h:Q (.ref s.heap.objs.size) {s with heap:=s.heap.push {cls:=.type "tuple",data:=.seq ((items.toList.drop (sIx items.size 0 lo)).take (sIx items.size items.size hi-sIx items.size 0 lo)).toArray}})
  (hsz:items.size≤sizeLine):wpAny (model prog w) A (getItem (.ref t) (.ref sl)) Q E s:=by
 have htake:sizeOk (.seq ((items.toList.drop (sIx items.size 0 lo)).take (sIx items.size items.size hi-sIx items.size 0 lo)).toArray):=by
  show((items.toList.drop (sIx items.size 0 lo)).take (sIx items.size items.size hi-sIx items.size 0 lo)).toArray.size≤sizeLine
  rw[Zj,Z3,Yd,ZD]
  omega
 have hj:sIx items.size items.size hi≤items.size:=sIx_le _ _ (Zl _) hi
 obtain⟨os,hos,hcs,hds⟩:=id hs
 have hTs:s.TypeIs (.ref sl) "slice":=⟨os,hos,hcs⟩
 unfold getItem
 try with_reducible refine wpAny_holding ?_
 first|refine Za (Zi ?_)|skip
 refine Za (wpAny_sequenceKey ht.typeIs (by decide) ?_)
 refine Za (Z4 (name:=Str.ofString "__getitem__") ht.typeIs Ym
  (Yi Ym ht.typeIs entry_tuple_getitem ?_ (args_tuple_getitem _ _)))
 show wpAny _ _ (Builtin.Tuple.tupleItemsOf (.ref t)>>=_) _ _ s
 refine Za (tupleItemsOf_ ht ?_)
 refine Za (wpAny_typeOf hTs ?_)
 rw[if_pos (by decide)]
 refine Za (a2f' hs pl pu ?_)
 have hno:¬((((sIx items.size 0 lo:Nat):Int)==0&&(1:Int)==1&&(sIx items.size items.size hi-sIx items.size 0 lo)==items.size)=true):=by
  intro q
  rw[Zt,Zt]at q
  have q1:((sIx items.size 0 lo:Nat):Int)=0:=eq_of_beq q.1.1
  have q2:sIx items.size items.size hi-sIx items.size 0 lo=items.size:=eq_of_beq q.2
  exact hw ⟨by omega,by omega⟩
 show wpAny _ _ (if(((sIx items.size 0 lo:Nat):Int)==0&&(1:Int)==1&&(sIx items.size items.size hi-sIx items.size 0 lo)==items.size)=true then _ else _) _ _ s
 rw[if_neg hno,b3s']
 first
  |exact Za (m:=Builtin.Tuple.tupleExact _) (Yf (Zi ⟨_,rfl,Zi h⟩) htake)
  |exact Za (m:=Builtin.Tuple.tupleExact _) (Yf (Za (Zi (Zi ⟨_,rfl,Zi h⟩))) htake)
  |exact Za (Za (m:=Builtin.Tuple.tupleExact _) (Yf (Zi (Zi ⟨_,rfl,Zi h⟩)) htake))
  |exact Za (Za (m:=Builtin.Tuple.tupleExact _) (Yf (Zi ⟨_,rfl,Zi h⟩) htake))
end
end HT
namespace L2
open PySem PySem.Spec PyProof.Rows
abbrev TO:=St→Hp→(Option Int→Hp→Prop)→Prop
def PO(X:Cx)(e:Option Expr)(t:TO):Prop:=
 ∀(pins:List (Addr×Obj)) (s:Shared) (σ:St) (H:Hp) (Q:Option Int→Hp→Prop),Inv X pins σ H s→t σ H Q→
  wpAny (model X.prog X.w) X.A (evalPart e X.env) (fun u s'=>∃o H',Inv X pins σ H' s'∧IsPart u o∧Q o H') X.xe s
def tNoPart:TO:=fun _ H Q=>Q none H
def tPart(t:TE):TO:=fun σ H Q=>t σ H fun x H1=>∃i,x=.int i∧Q (some i) H1
theorem a6g'{ns:List Int}:∀{us:List Value},Vals (ns.map V.int) us→IntsAre us ns:=by
 induction ns with
 |nil=>intro us r;rw[List.map_nil]at r;cases r;exact .nil
 |cons n ns ih=>
  intro us r
  rw[ZH]at r
  cases r with
  |cons r1 r2=>
   obtain⟨t,e⟩:=r1
   subst e
   exact .cons n t (ih r2)
section
variable {X:Cx}{e:Expr}{te:TE}{lo hi:Option Expr}{tl th:TO}{pos p2:Pos}
theorem po_none:PO X none tNoPart:=by
 intro pins s σ H Q I h
 rw[evalPart_none]
 exact Zi ⟨none,H,I,.none,h⟩
theorem po_some(h:PE X e te):PO X (some e) (tPart te):=by
 intro pins s σ H Q I hw
 rw[evalPart_some]
 refine thn (h pins s σ H _ I hw) fun u s1 ⟨x,H1,I1,r1,q1⟩=>?_
 obtain⟨i,rfl,q⟩:=q1
 obtain⟨t,rfl⟩:=r1
 exact⟨some i,H1,I1,.int i t,q⟩
def SlR(X:Cx)(r:V→Option Int→Option Int→Hp→VK→Prop):Prop:=
 ∀(pins:List (Addr×Obj)) (s:Shared) (σ:St) (H:Hp) (x:V) (v vl vu:Value) (lo hi:Option Int) (sl:Addr) (Q:VK),Inv X pins σ H s→RelV x v→s.heap.IsSliceOf sl vl vu .none→IsPart vl lo→IsPart vu hi→r x lo hi H Q→
  ∃T id,typeLookup (.type T) "__getitem__"=pure (some (.builtin id))∧s.TypeIs v T∧wpAny (model X.prog X.w) X.A (getItem v (.ref sl)) (EP X pins σ Q) X.xe s
def tSl(r:V→Option Int→Option Int→Hp→VK→Prop)(te:TE)(tl th:TO):TE:=fun σ H Q=>te σ H fun x H1=>tl σ H1 fun l H2=>th σ H2 fun u H3=>r x l u H3 Q
theorem b3t'{r:V→Option Int→Option Int→Hp→VK→Prop}(hr:SlR X r)(he:PE X e te)(hl:PO X lo tl)(hu:PO X hi th):PE X (.Subscript e (.Slice lo hi none p2) pos) (tSl r te tl th):=by
 intro pins s σ H Q I h
 refine Subscript_ (thn (he pins s σ H _ I h) fun v s1 ⟨x,H1,I1,r1,q1⟩=>?_)
 refine wpAny_Slice (thn (hl pins s1 σ H1 _ I1 q1) fun vl s2 ⟨l,H2,I2,pl,q2⟩=>thn (hu pins s2 σ H2 _ I2 q2) fun vu s3 ⟨u,H3,I3,pu,q3⟩=>?_)
 rw[evalPart_none]
 refine Zi ?_
 have I4:Inv X pins σ H3 {s3 with heap:=s3.heap.push {cls:=.type "slice",data:=.fields #[vl,vu,.none]}}:=I3.kept (t':=s3.toks) fun b ob q=>Zf _ q
 obtain⟨T,id,hT,ht,hg⟩:=hr pins {s3 with heap:=s3.heap.push {cls:=.type "slice",data:=.fields #[vl,vu,.none]}} σ H3 x v vl vu l u s3.heap.objs.size Q I4 r1 (Heap.IsSliceOf.new ..) pl pu q3
 show wpAny (model X.prog X.w) X.A (subscriptTail e (.Slice lo hi none p2) v (.ref s3.heap.objs.size)) (EP X pins σ Q) X.xe {s3 with heap:=s3.heap.push {cls:=.type "slice",data:=.fields #[vl,vu,.none]}}
 exact tail_any (ops:=[.ref s3.heap.objs.size,v]) ht hT hg (by with_unfolding_all rfl)
def cutV(xs:List V)(lo hi:Option Int):List V:=(xs.drop (HT.sIx xs.length 0 lo)).take (HT.sIx xs.length xs.length hi-HT.sIx xs.length 0 lo)
theorem a5i'(xs:List V)(lo hi:Option Int):(cutV xs lo hi).length≤xs.length:=by
 unfold cutV
 rw[Z3,Yd]
 omega
def rSlT(K:PySem.W.Frag):V→Option Int→Option Int→Hp→VK→Prop:=fun x lo hi H Q=>∃a xs,x=.ref a∧SqT K H a xs∧
 ¬(HT.sIx xs.length 0 lo=0∧HT.sIx xs.length xs.length hi=xs.length)∧∀p,H p=none→Q (.ref p) (upd H p (.tup (cutV xs lo hi)))
theorem sl_tup:SlR X (rSlT X.K):=by
 intro pins s σ H x v vl vu lo hi sl Q I rx hs pl pu h
 obtain⟨a,xs,rfl,hx,hw,q⟩:=h
 cases rx
 obtain⟨its,r,ht,hz⟩:=I.tuple hx
 have hlen:its.toArray.size=xs.length:=by rw[Zj];exact r.length.symm
 refine⟨"tuple",_,PyProof.Rows.slot_tuple_getitem.lookup,ht.typeIs,?_⟩
 refine HT.a4g' ht hs pl pu (by rw[hlen];exact hw) ?_ (by rw[hlen];exact hz)
 rw[hlen]
 refine⟨.ref s.heap.objs.size,_,I.laid (t':=s.toks) (o:=.tup (cutV xs lo hi)) (fun b ob q=>Zf _ q) (Zl _) ?_,rfl,q _ (I.hok.fresh (Zl _))⟩
 exact⟨ZB (a5i' xs lo hi) hz,_,(r.drop (HT.sIx xs.length 0 lo)).take (HT.sIx xs.length xs.length hi-HT.sIx xs.length 0 lo),IsTup.new _ _,NoD.new _ _⟩
def rCatT(K:PySem.W.Frag):R2:=fun x y H Q=>∃a b xs ys,x=.ref a∧y=.ref b∧SqT K H a xs∧SqT K H b ys∧xs≠[]∧xs.length+ys.length≤sizeLine∧
 (ys=[]→Q (.ref a) H)∧(ys≠[]→∀p,H p=none→Q (.ref p) (upd H p (.tup (xs++ys))))
theorem Vals.nil_iff{xs:List V}{us:List Value}(r:Vals xs us):us=[]↔xs=[]:=by
 cases r with
 |nil=>simp
 |cons _ _=>simp
theorem op_catT:OpR X (binaryOp .Add) (rCatT X.K):=by
 intro pins s σ H x y v u Q I rx ry h
 obtain⟨a,b,xs,ys,rfl,rfl,ha,hb,hx,hz,q1,q2⟩:=h
 cases rx
 cases ry
 obtain⟨its,r1,p1,_⟩:=I.tuple ha
 obtain⟨its2,r2,p2,_⟩:=I.tuple hb
 refine HT.cat_tup p1 p2 (fun z=>hx (r1.nil_iff.mp z)) (fun z=>⟨.ref a,H,I,rfl,q1 (r2.nil_iff.mp z)⟩) (fun z=>?_) (by rw[←r1.length,←r2.length];exact hz)
 refine⟨.ref s.heap.objs.size,_,I.laid (t':=s.toks) (o:=.tup (xs++ys)) (fun b ob q=>Zf _ q) (Zl _) ?_,rfl,q2 (fun w=>z (r2.nil_iff.mpr w)) _ (I.hok.fresh (Zl _))⟩
 exact⟨by rw[Zn];exact hz,_,r1.append r2,IsTup.new _ _,NoD.new _ _⟩
end
end L2
namespace L2
open PySem PySem.Spec PyProof.Rows
def ixN(n:Nat)(i:Int):Option Nat:=if 0≤i then(if i<n then some i.toNat else none)else if-(n:Int)≤i then some (i+n).toNat else none
def atI{α:Type}(xs:List α)(i:Int):Option α:=(ixN xs.length i).bind fun j=>xs[j]?
theorem b2w'{n:Nat}{i:Int}{j:Nat}(h:ixN n i=some j):seqIndex? i n=some j∧j<n∧-(n:Int)≤i∧i<n:=by
 unfold ixN at h
 by_cases h0:0≤i
 ·rw[if_pos h0]at h
  by_cases h1:i<n
  ·rw[if_pos h1]at h
   have e:i.toNat=j:=ZY h
   exact⟨by rw[seqIndex_of h0 h1,e],by omega,by omega,h1⟩
  ·rw[if_neg h1]at h;cases h
 ·rw[if_neg h0]at h
  by_cases h1: -(n:Int)≤i
  ·rw[if_pos h1]at h
   have e:(i+n).toNat=j:=ZY h
   exact⟨by rw[seqIndex_neg (by omega) h1,e],by omega,h1,by omega⟩
  ·rw[if_neg h1]at h;cases h
theorem b2x'{α:Type}{xs:List α}{i:Int}{v:α}(h:atI xs i=some v):∃j,seqIndex? i xs.length=some j∧xs[j]?=some v∧j<xs.length∧-(xs.length:Int)≤i∧i<xs.length:=by
 unfold atI at h
 cases e:ixN xs.length i with
 |none=>rw[e]at h;cases h
 |some j=>
  rw[e]at h
  obtain⟨h1,h2,h3,h4⟩:=b2w' e
  exact⟨j,h1,h,h2,h3,h4⟩
def b2y'(b:Expr):Prop:=∀o i,subscripted b false o i=operate [o,i] (getItem o i)
def IxR(X:Cx)(r:R2):Prop:=
 ∀(value slice:Expr) (pins:List (Addr×Obj)) (s:Shared) (σ:St) (H:Hp) (x y:V) (v u:Value) (Q:VK),Inv X pins σ H s→RelV x v→RelV y u→r x y H Q→
  subscripted slice false v u=operate [v,u] (getItem v u)→wpAny (model X.prog X.w) X.A (subscriptTail value slice v u) (EP X pins σ Q) X.xe s
def MtR(X:Cx)(id:String)(r:V→List V→Hp→VK→Prop):Prop:=
 ∀(pins:List (Addr×Obj)) (s:Shared) (σ:St) (H:Hp) (x:V) (xs:List V) (v:Value) (us:List Value) (Q:VK),Inv X pins σ H s→RelV x v→Vals xs us→r x xs H Q→
  wpAny (model X.prog X.w) X.A (call (.builtin id) (v::us)) (EP X pins σ Q) X.xe s
section
variable {X:Cx}{a b:Expr}{ta tb:TE}{pos:Pos}
theorem pe_ix{r:R2}(hr:IxR X r)(ha:PE X a ta)(hb:PE X b tb)(hs:b2y' b):PE X (.Subscript a b pos) (tOp r ta tb):=by
 intro pins s σ H Q I h
 exact Subscript_ (binT ha hb I h fun v u s2 x y H2 I2 rx ry q=>hr a b pins s2 σ H2 x y v u Q I2 rx ry q (hs _ _))
def rIxL(K:PySem.W.Frag):R2:=fun x y H Q=>∃p xs i v,x=.ref p∧y=.int i∧SqL K H p xs∧atI xs i=some v∧Q v H
def rIxT(K:PySem.W.Frag):R2:=fun x y H Q=>∃p xs i v,x=.ref p∧y=.int i∧SqT K H p xs∧atI xs i=some v∧Q v H
theorem ix_list:IxR X (rIxL X.K):=by
 intro value slice pins s σ H x y v u Q I rx ry h hs
 obtain⟨p,xs,i,z,rfl,rfl,hq,he,q⟩:=h
 cases rx
 obtain⟨t,rfl⟩:=ry
 obtain⟨its,r,pl,hz⟩:=I.list hq
 obtain⟨j,h1,h2,h3,h4,h5⟩:=b2x' he
 obtain⟨w,ew,rw'⟩:=r.get h2
 have hl:=r.length
 have hn:=a8K'
 have fin:EP X pins σ Q w s:=⟨z,H,I,rw',q⟩
 by_cases h0:0≤i
 ·have hj:i.toNat=j:=by
   rw[seqIndex_of h0 h5]at h1
   exact ZY h1
  exact item_listR pl.isList h0 (by omega) (by rw[hj];simpa using ew) fin hs
 ·have hj:(i+(its.toArray.size:Int)).toNat=j:=by
   rw[seqIndex_neg (by omega) h4]at h1
   rw[Zj,←hl]
   exact ZY h1
  exact subscriptTail_builtinR (x:=w) pl.isList.typeIs slot_list_getitem.lookup
   (wpAny_getItem_list_neg (Q:=fun r s'=>r=w∧EP X pins σ Q r s') pl.isList (by omega) (by rw[Zj]<;>omega) (by omega) (by rw[hj];simpa using ew) ⟨rfl,fin⟩) hs
theorem ix_tup:IxR X (rIxT X.K):=by
 intro value slice pins s σ H x y v u Q I rx ry h hs
 obtain⟨p,xs,i,z,rfl,rfl,hq,he,q⟩:=h
 cases rx
 obtain⟨t,rfl⟩:=ry
 obtain⟨its,r,pl,hz⟩:=I.tuple hq
 obtain⟨j,h1,h2,h3,h4,h5⟩:=b2x' he
 obtain⟨w,ew,rw'⟩:=r.get h2
 have hl:=r.length
 have hn:=a8K'
 have fin:EP X pins σ Q w s:=⟨z,H,I,rw',q⟩
 exact subscriptTail_builtinR (x:=w) pl.typeIs slot_tuple_getitem.lookup
  (getItem_tuple (j:=j) (Q:=fun r s'=>r=w∧EP X pins σ Q r s') pl (by omega) (by omega) (by rw[Zj,←hl];exact h1) (by simpa using ew) ⟨rfl,fin⟩) hs
theorem a9B'(its:List Value)(n j:Nat)(u:Value):Obj.mapSeq (·.setIfInBounds j u) {cls:=.type "list",data:=.seq its.toArray n}={cls:=.type "list",data:=.seq (its.set j u).toArray n}:=by
 simp[Obj.mapSeq]
theorem Inv.lst{pins:List (Addr×Obj)}{σ:St}{H:Hp}{s:Shared}{p:Addr}{xs:List V}(I:Inv X pins σ H s)(h:H p=some (.lst xs)):
  ∃(its:List Value) (n:Nat),Vals xs its∧s.heap.get? p=some {cls:=.type "list",data:=.seq its.toArray n}∧xs.length≤sizeLine:=by
 obtain⟨z,its,n,r,e⟩:=I.hok p _ h
 exact⟨its,n,r,e,z⟩
theorem Inv.lstUpd{pins:List (Addr×Obj)}{σ:St}{H:Hp}{s:Shared}{p:Addr}{xs ys:List V}{its its':List Value}{n n':Nat}{f:Obj→Obj}(I:Inv X pins σ H s)(h:H p=some (.lst xs))
  (ho:s.heap.get? p=some {cls:=.type "list",data:=.seq its.toArray n}) (hf:f {cls:=.type "list",data:=.seq its.toArray n}={cls:=.type "list",data:=.seq its'.toArray n'}) (r:Vals ys its') (hz:ys.length≤sizeLine) (t:Nat):
  Inv X pins σ (upd H p (.lst ys)) {s with heap:=s.heap.update p f,toks:=t}:=by
 have e:(s.heap.update p f).get? p=some {cls:=.type "list",data:=.seq its'.toArray n'}:=by
  rw[Heap.get?_update_self f ho (by rw[hf]<;>rfl),hf]
 refine I.write (x:=p) (e:=p) (by rw[h];trivial) (.inl rfl) (fun b u hb q=>(Heap.get?_update_other _ _ (Ne.symm hb)).trans q) ⟨_,e⟩ ?_
 exact⟨hz,its',n',r,e⟩
def rSetL:V→V→V→Hp→(Hp→Prop)→Prop:=fun o i v H Q=>∃p xs k j,o=.ref p∧i=.int k∧H p=some (.lst xs)∧ixN xs.length k=some j∧Q (upd H p (.lst (xs.set j v)))
theorem b3u':PSet X rSetL:=by
 intro pins s σ H o i v ov iv u Q I ro ri rv h
 obtain⟨p,xs,k,j,rfl,rfl,hp,hj,q⟩:=h
 cases ro
 obtain⟨t,rfl⟩:=ri
 obtain⟨its,n,r,ho,hz⟩:=I.lst hp
 obtain⟨h1,h2,h3,h4⟩:=b2w' hj
 have hl:=r.length
 have hn:=a8K'
 have I':Inv X pins σ (upd H p (.lst (xs.set j v))) {s with heap:=s.heap.update p (Obj.mapSeq (·.setIfInBounds j u))}:=
  I.lstUpd hp ho (a9B' its n j u) (r.set rv j) (by rw[List.length_set];exact hz) s.toks
 by_cases h0:0≤k
 ·have hk:k.toNat=j:=by
   rw[seqIndex_of h0 h4]at h1
   exact ZY h1
  exact PySem.W.ki_setAt ho h0 (by omega) (by rw[Zj,←hl];exact h4) (by rw[hk];exact⟨_,I',q⟩)
 ·have hk:(k+(its.toArray.size:Int)).toNat=j:=by
   rw[seqIndex_neg (by omega) h3]at h1
   rw[Zj,←hl]
   exact ZY h1
  exact PySem.W.ki_setBack ho (by omega) (by rw[Zj,←hl];exact h3) (by omega) (by rw[hk];exact⟨_,I',q⟩)
theorem a7i'(lo hi:Option Int)(n:Nat):(sliceBounds lo hi none n).1=((HT.sIx n 0 lo:Nat):Int)∧(sliceBounds lo hi none n).2.1=((HT.sIx n n hi:Nat):Int)∧(sliceBounds lo hi none n).2.2=1:=by
 refine⟨?_,?_,rfl⟩
 ·cases lo with
  |none=>simp[sliceBounds,HT.sIx]
  |some i=>
   simp only[sliceBounds,HT.sIx,Option.getD_none,show(1:Int)>0 by decide,if_true]
   by_cases h:i<0
   ·simp only[h,if_true]<;>omega
   ·simp only[h,Z5]<;>omega
 ·cases hi with
  |none=>simp[sliceBounds,HT.sIx]
  |some i=>
   simp only[sliceBounds,HT.sIx,Option.getD_none,show(1:Int)>0 by decide,if_true]
   by_cases h:i<0
   ·simp only[h,if_true]<;>omega
   ·simp only[h,Z5]<;>omega
theorem a6h'(its:List Value)(lo hi:Option Int):slicePick its.toArray lo hi none=((its.drop (HT.sIx its.length 0 lo)).take (HT.sIx its.length its.length hi-HT.sIx its.length 0 lo)).toArray:=by
 obtain⟨h1,h2,h3⟩:=a7i' lo hi its.toArray.size
 unfold slicePick
 rw[h1,h2,h3]
 simp only[sliceRange_one,pick_run,Zj]<;>rfl
def rSlL(K:PySem.W.Frag):V→Option Int→Option Int→Hp→VK→Prop:=fun x lo hi H Q=>∃a xs,x=.ref a∧SqL K H a xs∧∀p,H p=none→Q (.ref p) (upd H p (.lst (cutV xs lo hi)))
theorem sl_list:SlR X (rSlL X.K):=by
 intro pins s σ H x v vl vu lo hi sl Q I rx hs pl pu h
 obtain⟨a,xs,rfl,hx,q⟩:=h
 cases rx
 obtain⟨its,r,ht,hz⟩:=I.list hx
 have hlen:=r.length
 refine⟨"list",_,slot_list_getitem.lookup,ht.isList.typeIs,?_⟩
 refine wpAny_getItem_list_slice ht.isList hs pl pu .none (by simp) ?_ (by rw[Zj]<;>omega)
 rw[a6h',←hlen]
 refine⟨.ref s.heap.objs.size,_,I.laid (t':=s.toks) (o:=.lst (cutV xs lo hi)) (fun b ob q=>Zf _ q) (Zl _) ?_,rfl,q _ (I.hok.fresh (Zl _))⟩
 exact⟨ZB (a5i' xs lo hi) hz,_,0,(r.drop (HT.sIx xs.length 0 lo)).take (HT.sIx xs.length xs.length hi-HT.sIx xs.length 0 lo),Zp _ rfl⟩
theorem a7j':CallR X (.builtin "len") (fun xs H Q=>∃p ys,xs=[.ref p]∧(SqL X.K H p ys∨SqT X.K H p ys)∧Q (.int ys.length) H):=by
 intro pins s σ H xs us Q I r h
 obtain⟨p,ys,rfl,hq,q⟩:=h
 obtain⟨u,rfl,rx⟩:=vals1 r
 cases rx
 have hn:=a8K'
 rcases hq with hq|hq
 ·obtain⟨its,r',pl,hz⟩:=I.list hq
  have hlen:=r'.length
  exact Calls.call_len_list pl.isList (by simp only[Zj]<;>omega) ⟨.int ys.length,H,I.tok _,⟨s.toks+1,by rw[Zj,hlen]⟩,q⟩
 ·obtain⟨its,r',pl,hz⟩:=I.tuple hq
  have hlen:=r'.length
  exact len_tuple pl (by simp only[Zj]<;>omega) ⟨.int ys.length,H,I.tok _,⟨s.toks+1,by rw[Zj,hlen]⟩,q⟩
theorem a7k':CallR X (.builtin "len") (fun xs H Q=>∃z,xs=[.str z]∧z.length≤sizeLine∧Q (.int z.length) H):=by
 intro pins s σ H xs us Q I r h
 obtain⟨z,rfl,hz,q⟩:=h
 obtain⟨u,rfl,t,rfl⟩:=vals1 r
 have hn:=a8K'
 exact len_str (by omega) ⟨.int z.length,H,I.tok _,⟨_,rfl⟩,q⟩
theorem a3U':CallR X (.type "tuple") (fun xs H Q=>∃p ys,xs=[.ref p]∧((SqL X.K H p ys∧∀l,H l=none→Q (.ref l) (upd H l (.tup ys)))∨(SqT X.K H p ys∧Q (.ref p) H))):=by
 intro pins s σ H xs us Q I r h
 obtain⟨p,ys,rfl,h⟩:=h
 obtain⟨u,rfl,rx⟩:=vals1 r
 cases rx
 rcases h with⟨hq,q⟩| ⟨hq,q⟩
 ·obtain⟨its,r',pl,hz⟩:=I.list hq
  have hlen:=r'.length
  refine call_tuple_list pl.isList (fun h' kp=>?_) (by simp only[Zj]<;>omega)
  have I1:Inv X pins σ H {s with heap:=h'}:=I.kept (t':=s.toks) kp
  have I2:Inv X pins σ (upd H h'.objs.size (.tup ys)) {s with heap:=h'.push {cls:=.type "tuple",data:=.seq its.toArray}}:=
   I1.laid (t':=s.toks) (fun b o e=>Zf _ e) (Zl _) (show ObjOk X.prog X.w _ _ _ (.tup ys)from⟨hz,its,r',IsTup.new _ _,NoD.new _ _⟩)
  exact⟨.ref h'.objs.size,_,I2,rfl,q _ (I1.hok.fresh (Zl _))⟩
 ·obtain⟨its,r',pl,hz⟩:=I.tuple hq
  exact call_tuple_same pl ⟨.ref p,H,I,rfl,q⟩
def tyV(K:PySem.W.Frag)(T:String)(x:V)(H:Hp):Prop:=match x with
 | .str _=>T="str"
 | .int _=>T="int"
 | .ref p=>(T="list"∧∃xs,SqL K H p xs)∨(T="tuple"∧∃o,K.lookup p=some o∧o.cls=.type "tuple"∧o.dict=none)∨
   (T="dict"∧((∃kvs,H p=some (.dK kvs))∨∃kvs,H p=some (.dT kvs)))∨(T="set"∧∃S n,H p=some (.set S n))
 |_=>False
theorem tyV_is{pins:List (Addr×Obj)}{σ:St}{H:Hp}{s:Shared}{T:String}{x:V}{v:Value}(I:Inv X pins σ H s)(r:RelV x v)(ty:tyV X.K T x H):
  s.TypeIs v T∧∀a,v=.ref a→∃ob,s.heap.get? a=some ob∧ob.dict=none:=by
 cases x with
 |str z=>
  obtain⟨t,rfl⟩:=r
  cases(show T="str" from ty)
  exact⟨typeIs_str s z t,fun _ e=>nomatch e⟩
 |int i=>
  obtain⟨t,rfl⟩:=r
  cases(show T="int" from ty)
  exact⟨typeIs_int s i t,fun _ e=>nomatch e⟩
 |ref p=>
  cases r
  rcases ty with⟨rfl,xs,hq⟩| ⟨rfl,o,hk,hc,hd⟩| ⟨rfl,hk⟩| ⟨rfl,S,n,hk⟩
  ·obtain⟨its,_,pl,_⟩:=I.list hq
   refine⟨pl.isList.typeIs,fun a e=>?_⟩
   cases e
   obtain⟨o,n,e,c,hd,_⟩:=pl
   exact⟨o,e,hd⟩
  ·refine⟨⟨o,I.kIn p o hk,hc⟩,fun a e=>?_⟩
   cases e
   exact⟨o,I.kIn _ o hk,hd⟩
  ·have z:∃o,s.heap.get? p=some o∧o.ExactDict:=by
    rcases hk with⟨kvs,hk⟩| ⟨kvs,hk⟩
    ·obtain⟨_,_,_,_,o,_,_,e,ex,_⟩:=I.hok p _ hk
     exact⟨o,e,ex⟩
    ·obtain⟨_,_,_,_,o,_,_,e,ex,_⟩:=I.hok p _ hk
     exact⟨o,e,ex⟩
   obtain⟨o,e,ex⟩:=z
   refine⟨⟨o,e,ex.1⟩,fun a e2=>?_⟩
   cases e2
   exact⟨o,e,ex.2.1⟩
  ·obtain⟨o,_,_,_,e,ex,_⟩:=I.hok p _ hk
   refine⟨⟨o,e,ex.1⟩,fun a e2=>?_⟩
   cases e2
   exact⟨o,e,ex.2.1⟩
 |_=>exact False.elim ty
def tBM0(K:PySem.W.Frag)(T:String)(r:V→List V→Hp→VK→Prop)(to:TE):TE:=fun σ H Q=>to σ H fun x H1=>tyV K T x H1∧r x [] H1 Q
def tBM(K:PySem.W.Frag)(T:String)(r:V→List V→Hp→VK→Prop)(to:TE)(t:TA):TE:=fun σ H Q=>to σ H fun x H1=>tyV K T x H1∧t σ H1 fun xs H2=>r x xs H2 Q
variable {o e:Expr}{es:List Expr}{to:TE}{t:TA}{name:Str}{apos cpos:Pos}{T id:String}{r:V→List V→Hp→VK→Prop}
theorem pe_bm0(pa:PlainAttrs T)(slot:Slot T name id)(hty:typeOf (.builtin id)=pure (.type "method_descriptor"))(hm:MtR X id r)(ho:PE X o to)
  (hbase:attributeBase o name X.env (eval o X.env)=eval o X.env:=by rfl) (hline:(apos.endLine==cpos.line)=true:=by rfl):PE X (.Call (.Attribute o name apos) [] [] cpos) (tBM0 X.K T r to):=by
 intro pins s σ H Q I h
 refine wpAny_Call_method0_late hbase hline (thn (ho pins s σ H _ I h) fun v s1 ⟨x,H1,I1,r1,ty,q1⟩=>?_)
 obtain⟨h1,h2⟩:=tyV_is I1 r1 ty
 exact⟨T,id,pa,slot,hty,h1,h2,Calls.callWith_builtin rfl (PySem.evalArgs_none (hm pins s1 σ H1 x [] v [] Q I1 r1 .nil q1))⟩
theorem pe_bm(pa:PlainAttrs T)(slot:Slot T name id)(hty:typeOf (.builtin id)=pure (.type "method_descriptor"))(hm:MtR X id r)(ho:PE X o to)(ha:PA X (e::es) t)
  (hbase:attributeBase o name X.env (eval o X.env)=eval o X.env:=by rfl)
  (hfew:((backTo cpos (starEach (e::es) X.env)).all (fun x=> !x.1)&&(backToKw cpos (keywordEach [] X.env)).all (fun x=>x.1.isSome)
   &&decide ((e::es).length+([]:List Keyword).length+(if([]:List Keyword).isEmpty then 0 else 1)<30))=true:=by rfl)
  (hline:(apos.endLine==cpos.line)=true:=by rfl) (hs:starEach (e::es) X.env=(false,eval e X.env)::starEach es X.env:=by rfl) (hplain:(backTo cpos (starEach es X.env)).any (·.1)=false:=by rfl):
  PE X (.Call (.Attribute o name apos) (e::es) [] cpos) (tBM X.K T r to t):=by
 intro pins s σ H Q I h
 refine wpAny_Call_method_late hbase hfew hline rfl (thn (ho pins s σ H _ I h) fun v s1 ⟨x,H1,I1,r1,ty,q1⟩=>?_)
 obtain⟨h1,h2⟩:=tyV_is I1 r1 ty
 refine⟨T,id,pa,slot,hty,h1,h2,?_⟩
 have hA:=ha cpos pins s1 σ H1 _ I1 q1
 rw[hs]at hA⊢
 refine Calls.callWith_builtin (by show(false||(backTo cpos (starEach es X.env)).any (·.1))=false;rw[hplain]<;>rfl) (Calls.evalArgs_plain ?_)
 exact thn hA fun us s2 ⟨vs,H2,I2,r2,q2⟩=>hm pins s2 σ H2 x vs v us Q I2 r1 r2 q2
end
end L2
namespace L2
open PySem PySem.Spec PyProof.Rows
def MtM(X:Cx)(id:String)(r:V→List V→Hp→VK→Prop):Prop:=
 ∀(pins:List (Addr×Obj)) (s:Shared) (σ:St) (H:Hp) (x:V) (xs:List V) (v:Value) (us:List Value) (Q:VK),Inv X pins σ H s→RelV x v→Vals xs us→r x xs H Q→
  wpAny (model X.prog X.w) X.A (call (.builtin id) (v::us)) (EP X pins σ Q) X.xe s
theorem Vals.un{x:V}{xs:List V}{us:List Value}(h:Vals (x::xs) us):∃u r,us=u::r∧RelV x u∧Vals xs r:=by
 cases h with
 |cons r t=>exact⟨_,_,rfl,r,t⟩
theorem Vals.nul{us:List Value}(h:Vals [] us):us=[]:=by
 cases h
 rfl
theorem Vals.one{x:V}{us:List Value}(h:Vals [x] us):∃u,us=[u]∧RelV x u:=by
 obtain⟨u,r,rfl,h1,h2⟩:=h.un
 cases h2.nul
 exact⟨u,rfl,h1⟩
theorem Vals.two{x y:V}{us:List Value}(h:Vals [x,y] us):∃u v,us=[u,v]∧RelV x u∧RelV y v:=by
 obtain⟨u,r,rfl,h1,h2⟩:=h.un
 obtain⟨v,rfl,h3⟩:=h2.one
 exact⟨u,v,rfl,h1,h3⟩
theorem Vals.zero:∀{us:List Value},Vals [] us→us=[]
 |_,.nil=>rfl
theorem Vals.reverse{xs:List V}{us:List Value}(h:Vals xs us):Vals xs.reverse us.reverse:=by
 induction h with
 |nil=>exact .nil
 |cons r t ih=>rw[List.reverse_cons,List.reverse_cons];exact Vals.append ih (.cons r .nil)
theorem Vals.rep{xs:List V}{us:List Value}(h:Vals xs us):∀k:Nat,Vals (List.replicate k xs).flatten (List.replicate k us).flatten
 |0=>.nil
 |k+1=>by
  rw[ZW,ZW,List.flatten_cons,List.flatten_cons]
  exact Vals.append h (Vals.rep h k)
theorem a7V'(its:List Value):∀(k:Nat) (acc:List Value),
  List.foldl (fun x1 x2=>x1++x2) acc.toArray (List.replicate k its.toArray)=(acc++(List.replicate k its).flatten).toArray
 |0,acc=>by simp
 |k+1,acc=>by
  have e:acc.toArray++its.toArray=(acc++its).toArray:=by simp
  have e2:(acc++its)++(List.replicate k its).flatten=acc++(List.replicate (k+1) its).flatten:=by
   rw[ZW,List.flatten_cons,Zm]
  rw[←e2,←a7V' its k (acc++its),←e,ZW,List.foldl_cons]
section
variable {X:Cx}{pins:List (Addr×Obj)}{σ:St}{H:Hp}{s:Shared}{l b:Addr}{xs ys zs:List V}
theorem Inv.lset{its its':List Value}{n:Nat}{f:Array Value→Array Value}{t':Nat}(I:Inv X pins σ H s)(hH:H l=some (.lst xs))
  (e:s.heap.get? l=some {cls:=.type "list",data:=.seq its.toArray n}) (hf:f its.toArray=its'.toArray) (hv:Vals ys its') (hz:ys.length≤sizeLine):
  Inv X pins σ (upd H l (.lst ys)) {s with heap:=s.heap.update l (Obj.mapSeq f),toks:=t'}:=by
 have q:=PySem.IsL.update e f
 rw[hf]at q
 refine I.write (x:=l) (e:=l) (by rw[hH];exact trivial) (.inl rfl) (fun b' u hb hu=>(Heap.get?_update_other s.heap (Obj.mapSeq f) (Ne.symm hb)).trans hu) ⟨_,q⟩ ?_
 exact⟨hz,its',_,hv,q⟩
theorem Inv.lnew{its:List Value}{t':Nat}(I:Inv X pins σ H s)(hv:Vals ys its)(hz:ys.length≤sizeLine):
  Inv X pins σ (upd H s.heap.objs.size (.lst ys)) {s with heap:=s.heap.push {cls:=.type "list",data:=.seq its.toArray},toks:=t'}:=
 I.laid (fun _ _ q=>Zf _ q) (Zl _) ⟨hz,its,0,hv,Zp _ rfl⟩
theorem Inv.fresh(I:Inv X pins σ H s):H s.heap.objs.size=none:=I.hok.fresh (Zl _)
theorem Inv.lstM(I:Inv X pins σ H s)(hH:H l=some (.lst xs)):xs.length≤sizeLine∧∃(its:List Value) (n:Nat),Vals xs its∧xs.length=its.length∧s.heap.get? l=some {cls:=.type "list",data:=.seq its.toArray n}:=by
 obtain⟨z,its,n,r,e⟩:=I.hok l _ hH
 exact⟨z,its,n,r,r.length,e⟩
theorem a7l'{n:Nat}(h:n≤sizeLine):Builtin.List.listTooLong n=false:=by
 unfold Builtin.List.listTooLong
 exact ZC (by omega)
end
section
variable {X:Cx}
def rAppend:V→List V→Hp→VK→Prop:=fun x vs H Q=>∃l xs y,x=.ref l∧vs=[y]∧H l=some (.lst xs)∧xs.length<sizeLine∧Q .non (upd H l (.lst (xs++[y])))
theorem a7W':MtM X "list.append" rAppend:=by
 intro pins s σ H x vs v us Q I rx rv h
 obtain⟨l,xs,y,rfl,rfl,hH,hz,q⟩:=h
 cases rx
 obtain⟨u,rfl,ru⟩:=rv.one
 obtain⟨z,its,n,r,hl,e⟩:=I.lstM hH
 refine call_meets F.slot_list_append ⟨_,e,rfl⟩ F.entry_list_append (F.args_list_append_2 _ _) (PySem.list_append l its.toArray n u (by rw[Zj];omega)) ⟨e,?_⟩
 refine⟨.non,_,I.lset (its':=its++[u]) hH e (by simp) (r.append (.cons ru .nil)) ?_,rfl,q⟩
 rw[Zn,List.length_singleton]
 omega
def rExtend:V→List V→Hp→VK→Prop:=fun x vs H Q=>∃l b xs zs,x=.ref l∧vs=[.ref b]∧H l=some (.lst xs)∧H b=some (.lst zs)∧xs.length+zs.length≤sizeLine∧Q .non (upd H l (.lst (xs++zs)))
theorem b1s':MtM X "list.extend" rExtend:=by
 intro pins s σ H x vs v us Q I rx rv h
 obtain⟨l,b,xs,zs,rfl,rfl,hH,hB,hz,q⟩:=h
 cases rx
 obtain⟨u,rfl,ru⟩:=rv.one
 cases ru
 obtain⟨z,its,n,r,hl,e⟩:=I.lstM hH
 obtain⟨z2,its2,n2,r2,hl2,e2⟩:=I.lstM hB
 have hsz:its.toArray.size+its2.toArray.size≤sizeLine:=by rw[Zj,Zj];omega
 have hlong:¬(!its.toArray.isEmpty&&Builtin.List.listTooLong (its.toArray.size+its2.toArray.size))=true:=by
  rw[a7l' hsz,Bool.and_false]
  exact Bool.false_ne_true
 refine call_meets F.slot_list_extend ⟨_,e,rfl⟩ F.entry_list_extend (F.args_list_extend_2 _ _)
  (AutoSeq1.list_extend_list_list_0 l its.toArray n b its2.toArray n2 hlong (by rw[Zj];omega) (by omega)) ⟨e,e2,?_⟩
 refine⟨.non,_,I.lset (its':=its++its2) hH e (by simp) (r.append r2) ?_,rfl,q⟩
 rw[Zn]
 omega
def rCat:R2:=fun x y H Q=>∃l b xs zs,x=.ref l∧y=.ref b∧H l=some (.lst xs)∧H b=some (.lst zs)∧xs.length+zs.length≤sizeLine∧∀p,H p=none→Q (.ref p) (upd H p (.lst (xs++zs)))
theorem op_cat:OpR X (binaryOp .Add) rCat:=by
 intro pins s σ H x y v u Q I rx ry h
 obtain⟨l,b,xs,zs,rfl,rfl,hH,hB,hz,q⟩:=h
 cases rx
 cases ry
 obtain⟨z,its,n,r,hl,e⟩:=I.lstM hH
 obtain⟨z2,its2,n2,r2,hl2,e2⟩:=I.lstM hB
 refine PySem.P.add_list e e2 ?_ (by rw[Zj,Zj];omega)
 have ea:its.toArray++its2.toArray=(its++its2).toArray:=by simp
 rw[ea]
 exact⟨.ref _,_,I.lnew (t':=s.toks) (r.append r2) (by rw[Zn];omega),rfl,q _ I.fresh⟩
def rRep:R2:=fun x y H Q=>∃l k xs,x=.ref l∧y=.int k∧H l=some (.lst xs)∧-(2^63)≤k∧k<2^63∧xs.length*k.toNat≤sizeLine∧
 ∀p,H p=none→Q (.ref p) (upd H p (.lst (List.replicate k.toNat xs).flatten))
theorem len_rep{α:Type}(xs:List α)(k:Nat):(List.replicate k xs).flatten.length=k*xs.length:=by
 induction k with
 |zero=>simp
 |succ k ih=>rw[ZW,List.flatten_cons,Zn,ih,Nat.succ_mul,Nat.add_comm]
theorem op_rep:OpR X (binaryOp .Mult) rRep:=by
 intro pins s σ H x y v u Q I rx ry h
 obtain⟨l,k,xs,rfl,rfl,hH,h1,h2,hz,q⟩:=h
 cases rx
 obtain⟨t,rfl⟩:=ry
 obtain⟨z,its,n,r,hl,e⟩:=I.lstM hH
 have hlen:its.toArray.size*k.toNat≤sizeLine:=by rw[Zj,←hl];exact hz
 have hcap:¬its.toArray.size*k.toNat>(2^63-1)/8:=by
  have:(sizeLine:Nat)≤(2^63-1)/8:=by decide
  omega
 have hfit:¬(!Builtin.List.listFitsIndex k)=true:=by
  rw[fitsIndex_both h1 h2]
  exact Bool.false_ne_true
 have hlong:¬Builtin.List.listTooLong (its.toArray.size*k.toNat)=true:=by
  rw[a7l' hlen]
  exact Bool.false_ne_true
 have hnew:List.foldl (fun x1 x2=>x1++x2) #[] (List.replicate (if its.toArray.isEmpty=true then 0 else k.toNat) its.toArray)=(List.replicate k.toNat its).flatten.toArray:=by
  have f0:∀m:Nat,List.foldl (fun x1 x2=>x1++x2) #[] (List.replicate m its.toArray)=(List.replicate m its).flatten.toArray:=fun m=>by
   have:=a7V' its m []
   rw[Z1]at this
   exact this
  rw[f0]
  cases its with
  |nil=>simp
  |cons a r'=>rw[if_neg (by simp)]
 refine wpAny_binaryOp_repeat_ref (T:="list") (U:="int") (by decide) ⟨_,e,rfl⟩ (fun s'=>typeIs_int s' k t) noFill_list_mul F.fills_int_mul F.slot_int_rmul repeat_list F.slot_int_index.lookup
  (call_meets F.slot_int_rmul (typeIs_int s k t) F.entry_int_rmul (F.args_int_rmul_2 _ _) (int___rmul___int_list k t l its.toArray n)
   ⟨e,rfl,⟨_,e,rfl⟩,call_meets F.slot_list_mul ⟨_,e,rfl⟩ F.entry_list_mul (F.args_list_mul_2 _ _) (AutoListH.list___mul___list_int_3 l its.toArray n k t hfit hcap hlong) ⟨e,?_⟩⟩)
 rw[hnew]
 exact⟨.ref _,_,I.lnew (t':=s.toks) (r.rep k.toNat) (by rw[len_rep,Nat.mul_comm];exact hz),rfl,q _ I.fresh⟩
end
section
variable {prog:Program}{w:World}{A:Around}{E:Value→Shared→Prop}{s:Shared}
set_option maxRecDepth 100000 in
end
section
variable {X:Cx}
end
end L2
namespace Att
open PySem PySem.W PySem.Calls PyProof.Rows
theorem a5c'{P:Params}{h:Heap}:∀(ns:List Int) (vs:List Value),WellAll P h vs (ns.map WData.int)→IntsAre vs ns:=by
 intro ns
 induction ns with
 |nil=>
  intro vs w
  rw[List.map_nil]at w
  cases w
  exact .nil
 |cons n ns ih=>
  intro vs w
  rw[ZH]at w
  cases w with
  |cons a b=>
   cases a
   exact .cons _ _ (ih _ b)
theorem b1t'{l:OpenLaw}{n:Nat}(hn:l.most=some n){P:Params}{h:Heap}{args:List WData}{vals:List Value}
  (hpre:l.row.toRowW.claim.pre args=true) (hwl:WellAll P h vals args):
  ∃a vs ns,vals=[Value.ref a]∧args=[WData.list (ns.map WData.int)]∧h.get? a=some {cls:=.type "list",data:=.seq vs.toArray}∧IntsAre vs ns∧ns.length≤n:=by
 have hsh:WShape.hasAll [] args [.list .int]=true:=(pre_splitW hpre).1
 have hc:l.pre.holds [] {args:=args}=true:=(pre_splitW hpre).2
 obtain⟨d,r,rfl,h1,h2⟩:=hasAllW_cons hsh
 obtain rfl:=hasAllW_nil h2
 obtain⟨xs,rfl,h3⟩:=hasW_list h1
 obtain⟨ns,rfl⟩:=items_int h3
 have hlen:ns.length≤n:=by
  unfold OpenLaw.pre at hc
  have h4:(WTm.not (.lt (.lit (.int (n:Int))) (.len (.arg 0)))).holds [] {args:=[.list (ns.map .int)]}=true:=by
   have h4:=(holds_andW hc).1
   rw[hn]at h4
   exact h4
  have h5:=condW_of h4 (w_not (w_lt w_lit (w_len_list (w_arg rfl))))
  rw[Zk]at h5
  refine Nat.le_of_not_lt fun q=>?_
  have q':(n:Int)<((ns.length:Nat):Int):=by omega
  first
   | (rw[ZK q']at h5;exact absurd h5 (by decide))
   | (simp at h5;omega)
 cases hwl with
 |cons w1 w2=>
  cases w2
  cases w1 with
  |list ho hall=>exact⟨_,_,ns,rfl,rfl,ho,a5c' ns _ hall,hlen⟩
theorem b1u'(l:OpenLaw)(args:List WData):l.row.toRowW.claim.post args (.bool true) args=true:=
 postW_of (r:=l.row.toRowW) (X:=(true==true))
  (show WShape.has [] (.bool true) .bool=true by first|rfl|decide|simp[WShape.has,WShape.arms,WShape.armsAll])
  (show(WTm.eq .res (.lit (.bool true))).value [] {args:=args,res:=some (.bool true),after:=args}=some (.bool (true==true))from w_eq_bool (w_res rfl) w_lit) rfl
theorem a8L'{l:OpenLaw}{n:Nat}{q:Program}{loose:List Str}{XP:(Str→Option Value)→Heap→Prop}{YP:World→Heap→Prop}{d:DefRec}
  (hn:l.most=some n) (hdf:d.params.defaults=[])
  (call:∀(w:World) (s₀ s₁:Shared) (mg mb:Str→Option Value) (fa:Addr) (o:Obj) (pm cd doc:Value) (a:Addr) (vs:List Value) (ns:List Int),
   Ground q loose [] XP w s₀ mg mb s₁.heap→YP w s₁.heap→
   s₁.heap.get? fa=some o→o.data=.func (docDef d.name d.params d.body d.scope pm cd doc)→s₁.heap.CodeRec cd d.name→mg d.name=some (.ref fa)→
   s₁.heap.get? a=some {cls:=.type "list",data:=.seq vs.toArray}→IntsAre vs ns→ns.length≤n→s₁.gens= #[]→
   codeAny (model l.prog w) callerA (.call (.ref fa) ⟨[.ref a],[]⟩) (fun r s'=>r=.ok (.ret (.bool true))∧OldK s₁.heap s'.heap∧s'.os=s₁.os∧AllBare s'.gens) s₁):
  WalkO q loose XP YP l.row.toRowW d [] (fun f vs=>PySem.call f vs):=by
 intro w s₀ s₁ mg mb G Y fa o pm cd doc dV kV ho hd hcd hD hmg hg args vals as hpre hlay hrd hwl hlo
 obtain rfl:dV=.none:=Dflts.none hD hdf
 obtain rfl:kV=.none:=Dflts.noKw hD
 obtain⟨a,vs,ns,rfl,rfl,hobj,hints,hlen⟩:=b1t' hn hpre hwl
 refine enter_call (codeAny_mono (call w s₀ s₁ mg mb fa o pm cd doc a vs ns G Y ho (fd_plain hd) hcd hmg hobj hints hlen hg) fun r s' hq=>?_)
 obtain⟨rfl,h2,h3,h4⟩:=hq
 exact⟨.inl ⟨.bool true,.bool true,[],rfl,fun _=>rfl,.bool true,b1u' l _,fun _=>⟨List.Pairwise.nil,fun _ hm=>(nomatch hm)⟩⟩,h2,h3,h4⟩
section
variable {prog:Program}{w:World}{A:Around}{E:Value→Shared→Prop}{s:Shared}{K:Frag}
end
end Att
namespace L2
open PySem PySem.Spec PyProof.Rows
theorem a7X':∀{vs:List Value} {ns:List Int},IntsAre vs ns→Vals (ns.map V.int) vs
 |_,_,.nil=>.nil
 |_,_,.cons n t h=>.cons ⟨t,rfl⟩ (a7X' h)
def Only(H:Hp):Prop:=∀b,H b=none∨∃o xs,H b=some (.frz o (.lst xs))
theorem b3v'{P:Program}{w:World}{K:PySem.W.Frag}{mg mb:Str→Option Value}{CX:CXT}{k:Nat}{fa a:Addr}{fd:FuncData}{x:Str}{sp:Sp}{s₁:Shared}{vs:List Value}{ns:List Int}
  (KX:K.In s₁.heap) (hns:s₁.heap.Ns mainGlobals mg) (hb:s₁.heap.Ns builtinsNs mb) (hbb:∀x:Str,x≠"__name__"→mb x=bootBuiltins x) (hlim:s₁.heap.NoLimit) (hg:s₁.gens= #[])
  (ha:s₁.heap.get? a=some {cls:=.type "list",data:=.seq vs.toArray}) (hi:IntsAre vs ns) (hl:ns.length≤sizeLine) (hr:Room k callerA)
  (F:∀base:Heap,K.In base→base.Ns mainGlobals mg→FnOk P w K mg base CX k fa fd [x] sp) (hbind:∀(s:Shared) (u:Value),BindsTo s fd ⟨[u],[]⟩ [(x,u)])
  (hsp:∀H:Hp,Only H→SqL K H a (ns.map V.int)→sp [.ref a] H (fun v _=>v=.bl true) fun _ _ _=>False)
  (hCX:∀H e s',CX [] H s₁ (fun _ _ _=>False) e s'→False):
  codeAny (model P w) callerA (.call (.ref fa) ⟨[.ref a],[]⟩) (fun r s'=>r=.ok (.ret (.bool true))∧OldK s₁.heap s'.heap∧s'.os=s₁.os∧AllBare s'.gens) s₁:=by
 have rv:=a7X' hi
 have lenV:=hi.length
 have core:∀H:Hp,Only H→SqL K H a (ns.map V.int)→HOk P w H s₁.heap→(∀b,H b≠none→b=a)→(H a≠none→K.lookup a=none)→
   codeAny (model P w) callerA (.call (.ref fa) ⟨[.ref a],[]⟩) (fun r s'=>r=.ok (.ret (.bool true))∧OldK s₁.heap s'.heap∧s'.os=s₁.os∧AllBare s'.gens) s₁:=by
  intro H hO hS hok hA hK
  have base_of:∀{b:Addr} {o:Obj},s₁.heap.get? b=some o→H b=none→(hidT s₁.heap H).get? b=some o:=fun e n=>b3h' e n
  have noA:∀{b:Addr} {o:Obj} {es:Array DictEntry} {ep:Nat},s₁.heap.get? b=some o→o.data=.dict es ep→H b=none:=fun{b o es ep} e d=>by
   cases q:H b with
   |none=>rfl
   |some u=>
    have e':b=a:=hA b (by rw[q];simp)
    subst e'
    rw[ha]at e;cases e
    have d':Data.seq vs.toArray _=Data.dict es ep:=d
    cases d'
  have nsK:∀{b:Addr} {m:Str→Option Value},s₁.heap.Ns b m→(hidT s₁.heap H).Ns b m:=fun{b m} ⟨o,es,ep,e,d,r⟩=>⟨o,es,ep,base_of e (noA e d),d,r⟩
  have hKb:K.In (hidT s₁.heap H):=fun b o e=>base_of (KX b o e) (by
   cases q:H b with
   |none=>rfl
   |some u=>
    have e':b=a:=hA b (by rw[q];simp)
    subst e'
    rw[hK (by rw[q];simp)]at e;cases e)
  have hM:Mod K mg (hidT s₁.heap H):=⟨hKb,nsK hns,⟨mb,nsK hb,hbb⟩,let⟨mc,h1,h2⟩:=hlim;⟨mc,nsK h1,h2⟩⟩
  have e0:Env0 P w K mg (hidT s₁.heap H) callerA [] s₁ H:=⟨rfl,hM,fun b o e=>of_hidT e,Nat.le_of_eq (b1j' _ _),trivial,fun b hb=>absurd (show b∈([]:List Addr)from hb) (by simp),hok,.of_eq hg⟩
  refine codeAny_mono ((F _ hKb (nsK hns)).run callerA [] s₁ H ⟨[.ref a],[]⟩ [.ref a] [.ref a] _ _ hr e0 (hbind s₁ (.ref a)) (.cons rfl .nil) (hsp H hO hS)) fun r s' h=>?_
  cases r with
  |error e=>exact(hCX H e s' h).elim
  |ok fl=>
   cases fl with
   |next=>exact False.elim h
   |brk=>exact False.elim h
   |cont=>exact False.elim h
   |ret u=>
    obtain⟨v,H',os,bare,un,hok',r',q⟩:=h
    have q':v=.bl true:=q
    subst q'
    obtain rfl:u=Value.bool true:=r'
    refine⟨rfl,OldK.of_keep fun b o e=>?_,os,bare⟩
    cases q:H b with
    |none=>exact un.keep b o e q (by intro z;exact absurd (show b∈([]:List Addr)from z) (by simp)) (by simp)
    |some u=>
     rcases hO b with z| ⟨ob,xs,z⟩
     ·rw[q]at z;cases z
     ·have z2:=un.frzs b ob _ z
      obtain⟨e1,_⟩:=hok b _ z
      obtain⟨e2,_⟩:=hok' b _ z2
      rw[e]at e1;cases e1
      exact e2
 cases hk:K.lookup a with
 |some o=>
  have e:=KX a o hk
  rw[ha]at e
  cases e
  refine core (fun _=>none) (fun _=>.inl rfl) (.inr ⟨_,vs.toArray,_,hk,rfl,rfl,rfl,by rw[Zj,lenV];exact hl,by simpa using rv⟩) (fun b u z=>by have z':(none:Option HO)=some u:=z;cases z') (fun b z=>absurd rfl z) fun z=>absurd rfl z
 |none=>
  refine core (fun b=>if b=a then some (.frz {cls:=.type "list",data:=.seq vs.toArray} (.lst (ns.map V.int)))else none) (fun b=>?_) (.inl (.inr ⟨{cls:=.type "list",data:=.seq vs.toArray},if_pos rfl⟩)) (fun b u z=>?_) (fun b z=>?_) fun _=>hk
  ·by_cases hb:b=a
   ·exact .inr ⟨_,_,if_pos hb⟩
   ·exact .inl (if_neg hb)
  ·by_cases hb:b=a
   ·have z':=(if_pos hb).symm.trans z
    cases z'
    subst hb
    exact⟨ha,by rw[Zk];exact hl,vs,_,rv,ha⟩
   ·have z':=(if_neg hb).symm.trans z
    cases z'
  ·by_cases hb:b=a
   ·exact hb
   ·exact absurd (if_neg hb) z
end L2
namespace L2
open PySem PySem.Spec PyProof.Rows
theorem walk_of{l:PySem.W.OpenLaw}{n k:Nat}{q:Program}{loose:List Str}{XP:(Str→Option Value)→Heap→Prop}{YP:World→Heap→Prop}{d:DefRec}{K:Params→PySem.W.Frag}{CX:World→CXT}{sp:World→Sp}{x:Str}
  (hn:l.most=some n) (hn2:n≤sizeLine) (hdf:d.params.defaults=[]) (hr:Room k callerA)
  (hY:∀(w:World) (h:Heap),YP w h→(K w.params).In h)
  (F:∀(w:World) (mg:Str→Option Value) (fa:Addr) (h:Heap),(K w.params).In h→h.Ns mainGlobals mg→mg d.name=some (.ref fa)→
   ∃fd:FuncData,(∀(s:Shared) (u:Value),BindsTo s fd ⟨[u],[]⟩ [(x,u)])∧
    ∀base:Heap,(K w.params).In base→base.Ns mainGlobals mg→FnOk l.prog w (K w.params) mg base (CX w) k fa fd [x] (sp w))
  (hsp:∀(w:World) (H:Hp) (a:Addr) (ns:List Int),ns.length≤n→Only H→SqL (K w.params) H a (ns.map V.int)→sp w [.ref a] H (fun v _=>v=.bl true) fun _ _ _=>False)
  (hCX:∀(w:World) (H:Hp) (s:Shared) (e:Value) (s':Shared),CX w [] H s (fun _ _ _=>False) e s'→False):
  PySem.W.WalkO q loose XP YP l.row.toRowW d [] (fun f vs=>PySem.call f vs):=by
 refine Att.a8L' hn hdf fun w s₀ s₁ mg mb fa o pm cd doc a vs ns G Y ho hd hcd hmg hobj hints hlen hg=>?_
 have KX:=hY w _ Y
 obtain⟨fd,hb,hF⟩:=F w mg fa _ KX G.T.g hmg
 exact b3v' KX G.T.g G.T.b G.T.builtins G.T.nolimit hg hobj hints (ZB hlen hn2) hr hF hb (fun H hO hS=>hsp w H a ns hlen hO hS) fun H e s'=>hCX w H s₁ e s'
end L2
namespace L2
open PySem PySem.Spec PyProof.Rows
def a4v'(s:Stmt):Arguments:=match s with
 | .FunctionDef _ a _ _ _ _ _ _ _ _=>a
 |_=>{posonlyargs:=[],args:=[],vararg:=none,kwonlyargs:=[],kw_defaults:=[],kwarg:=none,defaults:=[]}
def a0U'(s:Stmt):List Stmt:=match s with
 | .FunctionDef _ _ b _ _ _ _ _ _ _=>b
 |_=>[]
def a0s'(s:Stmt):Scope:=match s with
 | .FunctionDef _ _ _ _ _ _ sc _ _ _=>sc
 |_=>{kind:=.function,names:=[],isGenerator:=false,isCoroutine:=false}
abbrev CX0:CXT:=fun _ _ _ _ _ _=>False
abbrev E0:XK:=fun _ _ _=>False
structure Fun (K:PySem.W.Frag)(x qual:Str)(st:Stmt)(f:Addr)(fd:FuncData):Prop where
 ex:∃(oc:Value) (od:Option Addr) (kV doc pm:Value) (an:Option Addr) (cdv ct:Value) (osl:Array (Option Value)),
  fd=PySem.W.fnOf x qual (a4v' st) (a0U' st) (a0s' st) .none kV doc pm an cdv ct∧K.lookup f=some ⟨oc,od,.func fd,osl⟩∧PySem.W.codeIn K cdv qual=true
 kp:PySem.W.keepIn K (.ref f)=true
section
variable {P:Program}{w:World}{K:PySem.W.Frag}{mg:Str→Option Value}{base:Heap}
theorem Fun.ok{x qual:Str}{st:Stmt}{f:Addr}{fd:FuncData}{N ps:List Str}{k:Nat}{sp:Sp}(F:Fun K x qual st f fd)(S:FnScope N ps (a0s' st))(len:∀vs H Q E,sp vs H Q E→vs.length=ps.length)
  (hbody:∀(cdv:Value) (A:Around) (outer:List Env) (s:Shared) (H:Hp) (vs:List V) (Q:VK) (E:XK),Room k (A.deeper (envOfC qual (a0s' st) s.heap.objs.size f cdv))→sp vs H Q E→
   ∃t,PSs (cxOf CX0 P w K mg base N qual (a0s' st) f cdv A outer s H E).nox (a0U' st) t∧t {nx:=fun _ H'=>Q .non H',rt:=Q} (start N vs) H):FnOk P w K mg base CX0 (k+1) f fd ps sp:=by
 obtain⟨oc,od,kV,doc,pm,an,cdv,ct,osl,rfl,lk,hcd⟩:=F.ex
 refine fn_of lk hcd S len fun A outer s H vs Q E hr hsp=>?_
 obtain⟨t,h,q⟩:=hbody cdv A outer s H vs Q E hr hsp
 exact⟨t,h.nox,q⟩
theorem Fun.binds{x qual:Str}{st:Stmt}{f:Addr}{fd:FuncData}{ps:List Str}(F:Fun K x qual st f fd)
  (h:∀(kV doc pm:Value) (an:Option Addr) (cdv ct:Value) (us:List Value),us.length=ps.length→bindArgs (PySem.W.fnOf x qual (a4v' st) (a0U' st) (a0s' st) .none kV doc pm an cdv ct) ⟨us,[]⟩=pure (ps.zip us)):Binds K fd ps []:=by
 obtain⟨oc,od,kV,doc,pm,an,cdv,ct,osl,rfl,lk,hcd⟩:=F.ex
 exact .all (h kV doc pm an cdv ct)
theorem fun_mk{x qual:Str}{st:Stmt}{f:Addr}{oc:Value}{od an:Option Addr}{osl:Array (Option Value)}{kV doc pm cdv ct:Value}(l:K.lookup f=some ⟨oc,od,.func (PySem.W.fnOf x qual (a4v' st) (a0U' st) (a0s' st) .none kV doc pm an cdv ct),osl⟩)
  (c:PySem.W.codeIn K cdv qual=true) (k:PySem.W.keepIn K (.ref f)=true):Fun K x qual st f (PySem.W.fnOf x qual (a4v' st) (a0U' st) (a0s' st) .none kV doc pm an cdv ct):=⟨⟨oc,od,kV,doc,pm,an,cdv,ct,osl,rfl,l,c⟩,k⟩
end
section
variable {X:Cx}
end
end L2
end
section
namespace Py
open PySem PySem.Spec PyProof.Rows L2
theorem ex43{C:Prop}{a b c d:Sort _}{p q r:a→b→c→d→Prop}(h:∃x y z w,p x y z w∧q x y z w∧r x y z w)(k:∀x y z w,p x y z w→q x y z w→r x y z w→C):C:=by
 obtain⟨x,y,z,w,h1,h2,h3⟩:=h
 exact k x y z w h1 h2 h3
theorem ex93{C:Prop}{a b c d e f g h i:Sort _}{p q r:a→b→c→d→e→f→g→h→i→Prop}(z:∃x1 x2 x3 x4 x5 x6 x7 x8 x9,p x1 x2 x3 x4 x5 x6 x7 x8 x9∧q x1 x2 x3 x4 x5 x6 x7 x8 x9∧r x1 x2 x3 x4 x5 x6 x7 x8 x9)(k:∀x1 x2 x3 x4 x5 x6 x7 x8 x9,p x1 x2 x3 x4 x5 x6 x7 x8 x9→q x1 x2 x3 x4 x5 x6 x7 x8 x9→r x1 x2 x3 x4 x5 x6 x7 x8 x9→C):C:=by
 obtain⟨x1,x2,x3,x4,x5,x6,x7,x8,x9,h1,h2,h3⟩:=z
 exact k x1 x2 x3 x4 x5 x6 x7 x8 x9 h1 h2 h3
theorem ex34{C:Prop}{a b c:Sort _}{p q r t:a→b→c→Prop}(h:∃x y z,p x y z∧q x y z∧r x y z∧t x y z)(k:∀x y z,p x y z→q x y z→r x y z→t x y z→C):C:=by
 obtain⟨x,y,z,h1,h2,h3,h4⟩:=h
 exact k x y z h1 h2 h3 h4
inductive D where
 |non|bl (b:Bool)|int (i:Int)|str (x:Str)
 |tup (xs:List D)|lst (xs:List D)|ref (n:Nat)|scr (xs:List D)
 |fn (x:Str)|dct|ty (n:String)
 deriving Inhabited
abbrev Store:=List (List D)
structure GS where
 mg:Str→Option Value
 F:List Addr
def Frz(K:PySem.W.Frag)(H:Hp)(a:Addr)(vs:List V):Prop:=(∃o,H a=some (.frz o (.lst vs)))∨
 ∃(o:Obj) (its:Array Value) (n:Nat),K.lookup a=some o∧o.cls=.type "list"∧o.dict=none∧o.data=.seq its n∧its.size≤sizeLine∧Vals vs its.toList
theorem Frz.sq{K:PySem.W.Frag}{H:Hp}{a:Addr}{vs:List V}(h:Frz K H a vs):SqL K H a vs:=by
 rcases h with⟨o,h⟩|h
 ·exact .inl (.inr ⟨o,h⟩)
 ·exact .inr h
section
variable (K:PySem.W.Frag)(mg:GS)(μ:List Addr)(H:Hp)
mutual
def Rep:D→V→Prop
 | .non,v=>v=.non
 | .bl b,v=>v=.bl b
 | .int i,v=>v=.int i
 | .str x,v=>v=.str x
 | .tup ds,v=>∃a vs,v=.ref a∧SqT K H a vs∧RepL ds vs
 | .lst ds,v=>∃a vs,v=.ref a∧H a=some (.lst vs)∧(a∉μ∧a∉mg.F)∧RepL ds vs
 | .scr ds,v=>∃a vs,v=.ref a∧Frz K H a vs∧RepL ds vs
 | .ref n,v=>∃a,v=.ref a∧μ[n]?=some a
 | .fn x,v=>∃a,v=.ref a∧mg.mg x=some (.ref a)
 | .dct,v=>∃a,v=.ref a∧H a=some (.dK [])
 | .ty n,v=>v=.ty n
def RepL:List D→List V→Prop
 | [],vs=>vs=[]
 |d::ds,vs=>∃w ws,vs=w::ws∧Rep d w∧RepL ds ws
end
end
structure SOk (K:PySem.W.Frag)(mg:GS)(μ:List Addr)(S:Store)(H:Hp):Prop where
 live:∀a∈mg.F,∃o,H a=some o
 len:μ.length=S.length
 nd:μ.Nodup
 at_:∀(n:Nat) (a:Addr) (ds:List D),μ[n]?=some a→S[n]?=some ds→∃vs,H a=some (.lst vs)∧RepL K mg μ H ds vs
structure Ext (μ:List Addr)(H:Hp)(μ':List Addr)(H':Hp):Prop where
 pre:∃r,μ'=μ++r
 keep:∀a o,H a=some o→((∀xs,o≠.lst xs)∨a∉μ)→H' a=some o
 there:∀a o,H a=some o→∃o',H' a=some o'
 fresh:∀a∈μ',a∈μ∨H a=none
section
variable {K:PySem.W.Frag}{mg:GS}{μ μ' μ'':List Addr}{H H' H'':Hp}
theorem Ext.refl:Ext μ H μ H:=⟨⟨[],by simp⟩,fun _ _ h _=>h,fun _ o h=>⟨o,h⟩,fun _ h=>.inl h⟩
theorem Ext.trans(a:Ext μ H μ' H')(b:Ext μ' H' μ'' H''):Ext μ H μ'' H'':=by
 obtain⟨r,e⟩:=a.pre
 obtain⟨r',e'⟩:=b.pre
 refine⟨⟨r++r',by rw[e',e,Zm]⟩,fun x o h c=>?_,fun x o h=>?_,fun x h=>?_⟩
 ·have h1:=a.keep x o h c
  refine b.keep x o h1 ?_
  rcases c with c|c
  ·exact .inl c
  ·refine .inr fun z=>?_
   rcases a.fresh x z with z|z
   ·exact c z
   ·rw[h]at z;cases z
 ·obtain⟨o1,h1⟩:=a.there x o h
  exact b.there x o1 h1
 ·rcases b.fresh x h with h|h
  ·exact a.fresh x h
  ·refine .inr ?_
   cases e:H x with
   |none=>rfl
   |some o=>
    obtain⟨o1,h1⟩:=a.there x o e
    rw[h1]at h;cases h
theorem Ext.sqT{a:Addr}{vs:List V}(x:Ext μ H μ' H')(h:SqT K H a vs):SqT K H' a vs:=by
 rcases h with(h| ⟨o,h⟩)|h
 ·exact .inl (.inl (x.keep _ _ h (.inl fun _ z=>by cases z)))
 ·exact .inl (.inr ⟨o,x.keep _ _ h (.inl fun _ z=>by cases z)⟩)
 ·exact .inr h
theorem Ext.frz{a:Addr}{vs:List V}(x:Ext μ H μ' H')(h:Frz K H a vs):Frz K H' a vs:=by
 rcases h with⟨o,h⟩|h
 ·exact .inl ⟨o,x.keep _ _ h (.inl fun _ z=>by cases z)⟩
 ·exact .inr h
theorem Ext.lst{a:Addr}{vs:List V}(x:Ext μ H μ' H')(h:H a=some (.lst vs))(ha:a∉μ):H' a=some (.lst vs)∧a∉μ':=by
 refine⟨x.keep _ _ h (.inr ha),fun z=>?_⟩
 rcases x.fresh a z with z|z
 ·exact ha z
 ·rw[h]at z;cases z
theorem Ext.get{n:Nat}{a:Addr}(x:Ext μ H μ' H')(h:μ[n]?=some a):μ'[n]?=some a:=by
 obtain⟨r,rfl⟩:=x.pre
 rw[Zo (Zh.mp h).1]
 exact h
mutual
theorem Rep.mono(x:Ext μ H μ' H'):∀(d:D) (v:V),Rep K mg μ H d v→Rep K mg μ' H' d v
 | .non,_,h=>h
 | .bl _,_,h=>h
 | .int _,_,h=>h
 | .str _,_,h=>h
 | .tup ds,v,h=>by
  unfold Rep at h⊢
  obtain⟨a,vs,e,q,r⟩:=h
  exact⟨a,vs,e,x.sqT q,RepL.mono x ds vs r⟩
 | .lst ds,v,h=>by
  unfold Rep at h⊢
  obtain⟨a,vs,e,q,n,r⟩:=h
  exact⟨a,vs,e,(x.lst q n.1).1,⟨(x.lst q n.1).2,n.2⟩,RepL.mono x ds vs r⟩
 | .scr ds,v,h=>by
  unfold Rep at h⊢
  obtain⟨a,vs,e,q,r⟩:=h
  exact⟨a,vs,e,x.frz q,RepL.mono x ds vs r⟩
 | .ref n,v,h=>by
  unfold Rep at h⊢
  obtain⟨a,e,q⟩:=h
  exact⟨a,e,x.get q⟩
 | .fn y,v,h=>h
 | .ty y,v,h=>h
 | .dct,v,h=>by
  unfold Rep at h⊢
  obtain⟨a,e,q⟩:=h
  exact⟨a,e,x.keep _ _ q (.inl fun _ z=>by cases z)⟩
theorem RepL.mono(x:Ext μ H μ' H'):∀(ds:List D) (vs:List V),RepL K mg μ H ds vs→RepL K mg μ' H' ds vs
 | [],vs,h=>h
 |d::ds,vs,h=>by
  unfold RepL at h⊢
  obtain⟨w,ws,e,r,q⟩:=h
  exact⟨w,ws,e,Rep.mono x d w r,RepL.mono x ds ws q⟩
end
theorem RepL.length:∀{ds:List D} {vs:List V},RepL K mg μ H ds vs→ds.length=vs.length
 | [],vs,h=>by unfold RepL at h;subst h;rfl
 |d::ds,vs,h=>by
  unfold RepL at h
  obtain⟨w,ws,rfl,r,q⟩:=h
  simp[RepL.length q]
theorem RepL.get:∀{ds:List D} {vs:List V} {i:Nat} {d:D},RepL K mg μ H ds vs→ds[i]?=some d→∃v,vs[i]?=some v∧Rep K mg μ H d v
 | [],vs,i,d,h,e=>by simp at e
 |c::ds,vs,i,d,h,e=>by
  unfold RepL at h
  obtain⟨w,ws,rfl,r,q⟩:=h
  cases i with
  |zero=>simp at e;subst e;exact⟨w,rfl,r⟩
  |succ i=>simpa using RepL.get q (by simpa using e)
theorem RepL.of:∀{ds:List D} {vs:List V},ds.length=vs.length→(∀(i:Nat) d v,ds[i]?=some d→vs[i]?=some v→Rep K mg μ H d v)→RepL K mg μ H ds vs
 | [],[],_,_=>by unfold RepL;rfl
 | [],_::_,h,_=>by simp at h
 |_::_,[],h,_=>by simp at h
 |d::ds,v::vs,h,k=>by
  unfold RepL
  exact⟨v,vs,rfl,k 0 d v rfl rfl,RepL.of (by simpa using h) fun i d' v' h1 h2=>k (i+1) d' v' (by simpa using h1) (by simpa using h2)⟩
theorem RepL.nil:RepL K mg μ H [] []:=by unfold RepL;rfl
theorem RepL.cons{d:D}{v:V}{ds:List D}{vs:List V}(h:Rep K mg μ H d v)(t:RepL K mg μ H ds vs):RepL K mg μ H (d::ds) (v::vs):=by
 unfold RepL;exact⟨v,vs,rfl,h,t⟩
theorem RepL.uncons{d:D}{ds:List D}{vs:List V}(h:RepL K mg μ H (d::ds) vs):∃v ws,vs=v::ws∧Rep K mg μ H d v∧RepL K mg μ H ds ws:=by
 unfold RepL at h;exact h
theorem RepL.append:∀{ds es:List D} {vs ws:List V},RepL K mg μ H ds vs→RepL K mg μ H es ws→RepL K mg μ H (ds++es) (vs++ws)
 | [],es,vs,ws,h,k=>by unfold RepL at h;subst h;exact k
 |d::ds,es,vs,ws,h,k=>by
  obtain⟨v,us,rfl,r,q⟩:=h.uncons
  exact .cons r (RepL.append q k)
theorem RepL.take:∀{ds:List D} {vs:List V} (n:Nat),RepL K mg μ H ds vs→RepL K mg μ H (ds.take n) (vs.take n)
 | [],vs,n,h=>by unfold RepL at h;subst h;simpa using RepL.nil
 |d::ds,vs,0,h=>by simpa using RepL.nil
 |d::ds,vs,n+1,h=>by
  obtain⟨v,us,rfl,r,q⟩:=h.uncons
  exact .cons r (RepL.take n q)
theorem RepL.drop:∀{ds:List D} {vs:List V} (n:Nat),RepL K mg μ H ds vs→RepL K mg μ H (ds.drop n) (vs.drop n)
 | [],vs,n,h=>by unfold RepL at h;subst h;simpa using RepL.nil
 |d::ds,vs,0,h=>h
 |d::ds,vs,n+1,h=>by
  obtain⟨v,us,rfl,r,q⟩:=h.uncons
  exact RepL.drop n q
theorem RepL.reverse:∀{ds:List D} {vs:List V},RepL K mg μ H ds vs→RepL K mg μ H ds.reverse vs.reverse
 | [],vs,h=>by unfold RepL at h;subst h;simpa using RepL.nil
 |d::ds,vs,h=>by
  obtain⟨v,us,rfl,r,q⟩:=h.uncons
  rw[List.reverse_cons,List.reverse_cons]
  exact RepL.append (RepL.reverse q) (.cons r .nil)
theorem RepL.set:∀{ds:List D} {vs:List V} (i:Nat) {d:D} {v:V},RepL K mg μ H ds vs→Rep K mg μ H d v→RepL K mg μ H (ds.set i d) (vs.set i v)
 | [],vs,i,_,_,h,_=>by unfold RepL at h;subst h;simpa using RepL.nil
 |d::ds,vs,0,_,_,h,k=>by
  obtain⟨v,us,rfl,r,q⟩:=h.uncons
  exact .cons k q
 |d::ds,vs,i+1,_,_,h,k=>by
  obtain⟨v,us,rfl,r,q⟩:=h.uncons
  exact .cons r (RepL.set i q k)
theorem Ext.laid{p:Addr}{o:HO}(hp:H p=none):Ext μ H μ (upd H p o):=
 ⟨⟨[],by simp⟩,fun a u h _=>by rw[a0v' (a0q' h hp)];exact h,fun a u h=>⟨u,by rw[a0v' (a0q' h hp)];exact h⟩,fun _ h=>.inl h⟩
theorem SOk.notin{S:Store}{p:Addr}(s:SOk K mg μ S H)(hp:H p=none):p∉μ:=fun z=>by
 obtain⟨n,hn,e⟩:=ZP.mp z
 have e1:μ[n]?=some p:=by rw[Zg hn,e]
 have e2:S[n]?=some (S[n]'(by rw[←s.len];exact hn)):=Zg _
 obtain⟨vs,h,_⟩:=s.at_ n p _ e1 e2
 rw[hp]at h;cases h
theorem SOk.notF{S:Store}{p:Addr}(s:SOk K mg μ S H)(hp:H p=none):p∉mg.F:=fun z=>by
 obtain⟨o,h⟩:=s.live p z
 rw[hp]at h;cases h
theorem SOk.laid{S:Store}{p:Addr}{o:HO}(s:SOk K mg μ S H)(hp:H p=none):SOk K mg μ S (upd H p o):=by
 refine⟨fun a h=>(Ext.laid (μ:=μ) hp).there a _ (s.live a h).choose_spec,s.len,s.nd,fun n a ds h1 h2=>?_⟩
 obtain⟨vs,h,r⟩:=s.at_ n a ds h1 h2
 exact⟨vs,by rw[a0v' (a0q' h hp)];exact h,RepL.mono (Ext.laid hp) _ _ r⟩
theorem Ext.boxed{p:Addr}{o:HO}(hp:H p=none):Ext μ H (μ++[p]) (upd H p o):=
 ⟨⟨[p],rfl⟩,fun a u h _=>by rw[a0v' (a0q' h hp)];exact h,fun a u h=>⟨u,by rw[a0v' (a0q' h hp)];exact h⟩,fun a h=>by
  rcases ZA.mp h with h|h
  ·exact .inl h
  ·have:a=p:=by simpa using h
   subst this;exact .inr hp⟩
theorem SOk.boxed{S:Store}{p:Addr}{ds:List D}{vs:List V}(s:SOk K mg μ S H)(hp:H p=none)(r:RepL K mg μ H ds vs):
  SOk K mg (μ++[p]) (S++[ds]) (upd H p (.lst vs)):=by
 have np:=s.notin hp
 refine⟨fun a h=>(Ext.laid (μ:=μ) hp).there a _ (s.live a h).choose_spec,by simp[s.len],?_,fun n a es h1 h2=>?_⟩
 ·rw[Z6]
  exact⟨s.nd,by simp,fun a ha b hb=>by
   have:b=p:=by simpa using hb
   subst this;intro z;subst z;exact np ha⟩
 ·by_cases hn:n<μ.length
  ·rw[Zo hn]at h1
   rw[Zo (by rw[←s.len];exact hn)]at h2
   obtain⟨ws,h,q⟩:=s.at_ n a es h1 h2
   exact⟨ws,by rw[a0v' (a0q' h hp)];exact h,RepL.mono (Ext.boxed hp) _ _ q⟩
  ·have hl:=s.len
   have e1:n=μ.length:=by
    have:=(Zh.mp h1).1
    simp at this;omega
   subst e1
   rw[Zw (Zl _)]at h1
   rw[Zw (by omega)]at h2
   simp[hl]at h1 h2
   subst h1;subst h2
   exact⟨vs,a0H',RepL.mono (Ext.boxed hp) _ _ r⟩
theorem Ext.wrote{a:Addr}{xs:List V}{ys:List V}(ha:a∈μ)(h:H a=some (.lst xs)):Ext μ H μ (upd H a (.lst ys)):=by
 refine⟨⟨[],by simp⟩,fun b o e c=>?_,fun b o e=>?_,fun _ h=>.inl h⟩
 ·have:b≠a:=by
   rintro rfl
   rw[h]at e;cases e
   rcases c with c|c
   ·exact c _ rfl
   ·exact c ha
  rw[a0v' this];exact e
 ·by_cases z:b=a
  ·subst z;exact⟨_,a0H'⟩
  ·exact⟨o,by rw[a0v' z];exact e⟩
theorem SOk.wrote{S:Store}{n:Nat}{a:Addr}{ds:List D}{xs vs:List V}(s:SOk K mg μ S H)(hn:μ[n]?=some a)(h:H a=some (.lst xs))(r:RepL K mg μ H ds vs):
  SOk K mg μ (S.set n ds) (upd H a (.lst vs)):=by
 have ha:a∈μ:=Zz hn
 have hl:=s.len
 have hnl:n<S.length:=by have:=(Zh.mp hn).1;omega
 refine⟨fun b hb=>(Ext.wrote (μ:=μ) (ys:=vs) ha h).there b _ (s.live b hb).choose_spec,by simp[hl],s.nd,fun m b es h1 h2=>?_⟩
 by_cases e:m=n
 ·subst e
  rw[hn]at h1;cases h1
  rw[List.getElem?_set_self hnl]at h2;cases h2
  exact⟨vs,a0H',RepL.mono (Ext.wrote ha h) _ _ r⟩
 ·rw[List.getElem?_set_ne (Ne.symm e)]at h2
  obtain⟨ws,q,r'⟩:=s.at_ m b es h1 h2
  have:b≠a:=by
   rintro rfl
   exact e (L2_nodup s.nd h1 hn)
  exact⟨ws,by rw[a0v' this];exact q,RepL.mono (Ext.wrote ha h) _ _ r'⟩
where
 L2_nodup {l:List Addr} (nd:l.Nodup) {i j:Nat} {x:Addr} (a:l[i]?=some x) (b:l[j]?=some x):i=j:=by
    obtain⟨h1,e1⟩:=Zh.mp a
    obtain⟨h2,e2⟩:=Zh.mp b
    exact(List.getElem_inj nd).mp (e1.trans e2.symm)
end
end Py
end
section
namespace Py
open PySem PySem.Spec PyProof.Rows L2
open PySem.Sem (wp)
open PySem.Builtin
section
variable {X:Cx}
end
end Py
end
section
namespace Py
open PySem PySem.Spec PyProof.Rows L2
structure Exc where
 cls:Str
 fs:List D
inductive Res (α:Type) where
 |ok (a:α) (S:Store)
 |err (x:Exc) (S:Store)
 |fail
abbrev big:Nat:=16777216
theorem a6i':sizeLine=big:=sizeLine_eq
def Want(K:PySem.W.Frag)(mg:GS)(μ:List Addr)(H:Hp)(Q:VK):Res D→Prop
 | .ok d S'=>∀μ' H' v,Ext μ H μ' H'→SOk K mg μ' S' H'→Rep K mg μ' H' d v→Q v H'
 |_=>False
section
variable {K:PySem.W.Frag}{mg:GS}{μ μ':List Addr}{H H':Hp}{Q:VK}{S:Store}
theorem Want.now{d:D}{v:V}(w:Want K mg μ H Q (.ok d S))(s:SOk K mg μ S H)(r:Rep K mg μ H d v):Q v H:=w μ H v .refl s r
theorem Want.tup{ds:List D}{vs:List V}(w:Want K mg μ H Q (.ok (.tup ds) S))(s:SOk K mg μ S H)(r:RepL K mg μ H ds vs)(p:Addr)(hp:H p=none):Q (.ref p) (upd H p (.tup vs)):=
 w μ _ _ (.laid hp) (s.laid hp) (by unfold Rep;exact⟨p,vs,rfl,SqT.of a0H',RepL.mono (.laid hp) _ _ r⟩)
theorem Want.lst{ds:List D}{vs:List V}(w:Want K mg μ H Q (.ok (.lst ds) S))(s:SOk K mg μ S H)(r:RepL K mg μ H ds vs)(p:Addr)(hp:H p=none):Q (.ref p) (upd H p (.lst vs)):=
 w μ _ _ (.laid hp) (s.laid hp) (by unfold Rep;exact⟨p,vs,rfl,a0H',⟨s.notin hp,s.notF hp⟩,RepL.mono (.laid hp) _ _ r⟩)
theorem Want.box{ds:List D}{vs:List V}(w:Want K mg μ H Q (.ok (.ref S.length) (S++[ds])))(s:SOk K mg μ S H)(r:RepL K mg μ H ds vs)(p:Addr)(hp:H p=none):Q (.ref p) (upd H p (.lst vs)):=
 w (μ++[p]) _ _ (.boxed hp) (s.boxed hp r) (by unfold Rep;exact⟨p,rfl,by rw[Zw (by rw[s.len];exact Zl _),s.len];simp⟩)
theorem Want.wrote{n:Nat}{a:Addr}{d:D}{v:V}{ds:List D}{xs vs:List V}(w:Want K mg μ H Q (.ok d (S.set n ds)))(s:SOk K mg μ S H)(hn:μ[n]?=some a)(h:H a=some (.lst xs))(r:RepL K mg μ H ds vs)
  (rd:Rep K mg μ H d v):Q v (upd H a (.lst vs)):=
 w μ _ _ (.wrote (Zz hn) h) (s.wrote hn h r) (Rep.mono (.wrote (Zz hn) h) _ _ rd)
def a2H'(S:Store):D→Option (List D)
 | .lst xs=>some xs
 | .ref n=>S[n]?
 |_=>none
def seqOf(S:Store):D→Option (List D)
 | .lst xs=>some xs
 | .ref n=>S[n]?
 | .tup xs=>some xs
 | .scr xs=>some xs
 |_=>none
theorem a0M'{d:D}{v:V}{xs:List D}(s:SOk K mg μ S H)(r:Rep K mg μ H d v)(e:a2H' S d=some xs):∃a vs,v=.ref a∧H a=some (.lst vs)∧RepL K mg μ H xs vs:=by
 cases d with
 |lst ys=>
  unfold a2H' at e;cases e
  unfold Rep at r
  obtain⟨a,vs,e,h,_,q⟩:=r
  exact⟨a,vs,e,h,q⟩
 |ref n=>
  unfold a2H' at e
  unfold Rep at r
  obtain⟨a,e1,h⟩:=r
  obtain⟨vs,h1,q⟩:=s.at_ n a xs h e
  exact⟨a,vs,e1,h1,q⟩
 |_=>cases e
theorem a5j'{d:D}{v:V}{xs:List D}(s:SOk K mg μ S H)(r:Rep K mg μ H d v)(e:seqOf S d=some xs):∃a vs,v=.ref a∧(SqL K H a vs∨SqT K H a vs)∧RepL K mg μ H xs vs:=by
 cases d with
 |lst ys=>
  obtain⟨a,vs,e1,h,q⟩:=a0M' s r (show a2H' S (.lst ys)=some xs from e)
  exact⟨a,vs,e1,.inl (.of h),q⟩
 |ref n=>
  obtain⟨a,vs,e1,h,q⟩:=a0M' s r (show a2H' S (.ref n)=some xs from e)
  exact⟨a,vs,e1,.inl (.of h),q⟩
 |tup ys=>
  unfold seqOf at e;cases e
  unfold Rep at r
  obtain⟨a,vs,e,h,q⟩:=r
  exact⟨a,vs,e,.inr h,q⟩
 |scr ys=>
  unfold seqOf at e;cases e
  unfold Rep at r
  obtain⟨a,vs,e,h,q⟩:=r
  exact⟨a,vs,e,.inl h.sq,q⟩
 |_=>cases e
theorem a0e'{i:Int}{v:V}(r:Rep K mg μ H (.int i) v):v=.int i:=by unfold Rep at r;exact r
theorem a6j'{i:Bool}{v:V}(r:Rep K mg μ H (.bl i) v):v=.bl i:=by unfold Rep at r;exact r
theorem a3V'{i:Str}{v:V}(r:Rep K mg μ H (.str i) v):v=.str i:=by unfold Rep at r;exact r
theorem a4w'{v:V}(r:Rep K mg μ H .non v):v=.non:=by unfold Rep at r;exact r
theorem a0y'{ds:List D}{v:V}(r:Rep K mg μ H (.tup ds) v):∃a vs,v=.ref a∧SqT K H a vs∧RepL K mg μ H ds vs:=by unfold Rep at r;exact r
theorem a1g'{i:Int}:Rep K mg μ H (.int i) (.int i):=by unfold Rep;rfl
theorem repBl{i:Bool}:Rep K mg μ H (.bl i) (.bl i):=by unfold Rep;rfl
theorem repStr{i:Str}:Rep K mg μ H (.str i) (.str i):=by unfold Rep;rfl
theorem a9C':Rep K mg μ H .non .non:=by unfold Rep;rfl
end
def rD(K:PySem.W.Frag)(mg:Str→Option Value)(g:D→D→Store→Res D):R2:=fun x y H Q=>∃F μ S d e,SOk K ⟨mg,F⟩ μ S H∧Rep K ⟨mg,F⟩ μ H d x∧Rep K ⟨mg,F⟩ μ H e y∧Want K ⟨mg,F⟩ μ H Q (g d e S)
def addD(d e:D)(S:Store):Res D:=match d,e with
 | .int i,.int j=>.ok (.int (i+j)) S
 | .str x,.str y=>if x.length+y.length≤big then .ok (.str (x++y)) S else .fail
 | .tup a,.tup b=>if a.length+b.length≤big then .ok (.tup (a++b)) S else .fail
 |d,e=>match a2H' S d,a2H' S e with
  |some a,some b=>if a.length+b.length≤big then .ok (.lst (a++b)) S else .fail
  |_,_=>.fail
def subD(d e:D)(S:Store):Res D:=match d,e with
 | .int i,.int j=>.ok (.int (i-j)) S
 |_,_=>.fail
def mulD(d e:D)(S:Store):Res D:=match d,e with
 | .int i,.int j=>if(-(2^64)<i∧i<2^64)∨(-(2^64)<j∧j<2^64)then .ok (.int (i*j)) S else if Builtin.Int.intBits i≤100000∧Builtin.Int.intBits j≤100000 then .ok (.int (i*j)) S else .fail
 | .lst a,.int k=>if-(2^63)≤k∧k<2^63∧a.length*k.toNat≤big then .ok (.lst (List.replicate k.toNat a).flatten) S else .fail
 |_,_=>.fail
def fdivD(d e:D)(S:Store):Res D:=match d,e with
 | .int i,.int j=>if 0<j∧j<1073741824 then .ok (.int (i/j)) S else .fail
 |_,_=>.fail
def modD(d e:D)(S:Store):Res D:=match d,e with
 | .int i,.int j=>if 0<j then .ok (.int (i%j)) S else .fail
 |_,_=>.fail
def shrD(d e:D)(S:Store):Res D:=match d,e with
 | .int i,.int j=>if 0≤j then .ok (.int (i/2^j.toNat)) S else .fail
 |_,_=>.fail
def andD(d e:D)(S:Store):Res D:=match d,e with
 | .int i,.int j=>.ok (.int (Builtin.bitAnd i j)) S
 |_,_=>.fail
def orD(d e:D)(S:Store):Res D:=match d,e with
 | .int i,.int j=>.ok (.int (Builtin.bitOr i j)) S
 |_,_=>.fail
def opD:Operator→D→D→Store→Res D
 | .Add=>addD| .Sub=>subD| .Mult=>mulD| .FloorDiv=>fdivD| .Mod=>modD| .Pow=>fun _ _ _=>.fail | .RShift=>shrD| .LShift=>fun _ _ _=>.fail | .BitAnd=>andD| .BitOr=>orD
 |_=>fun _ _ _=>.fail
section
variable {X:Cx}
theorem b3w'{prog:Program}{w:World}{A:Around}{E:Value→Shared→Prop}{s:Shared}{t b:Addr}{ws:List Value}{Q:Value→Shared→Prop}(ht:IsTup s.heap t #[])(hb:IsTup s.heap b ws.toArray)
  (h1:Q (.ref b) s):wpAny (model prog w) A (binaryOp .Add (.ref t) (.ref b)) Q E s:=by
 obtain⟨⟨cls,dd,data,sl⟩,ho,hc,n,hd⟩:=id ht
 obtain⟨⟨cls2,dd2,data2,sl2⟩,ho2,hc2,n2,hd2⟩:=id hb
 simp only at hc hd hc2 hd2
 subst hc hd hc2 hd2
 exact concat_meets ⟨_,ho,rfl⟩ ⟨_,ho2,rfl⟩ noFill_tuple_add seq_tuple_add PySem.F.slot_tuple_add PySem.F.entry_tuple_add (PySem.F.args_tuple_add_2 _ _)
   (tuple_addW0 t b #[] ws.toArray n n2 dd dd2 sl sl2 rfl) ⟨ho,ho2,h1⟩
theorem b3x':OpR X (binaryOp .Add) (fun x y H Q=>∃a b ys,x=.ref a∧y=.ref b∧SqT X.K H a []∧SqT X.K H b ys∧Q (.ref b) H):=by
 intro pins s σ H x y v u Q I rx ry h
 obtain⟨a,b,ys,rfl,rfl,ha,hb,q⟩:=h
 cases rx
 cases ry
 obtain⟨its,r,pa,_⟩:=I.tuple ha
 obtain⟨its2,r2,pb,_⟩:=I.tuple hb
 have e:=r.zero
 subst e
 exact b3w' pa pb ⟨.ref b,H,I,rfl,q⟩
theorem op_mulG:OpR X (binaryOp .Mult) (rI (fun i j=>Builtin.Int.intBits i≤100000∧Builtin.Int.intBits j≤100000) fun i j=>.int (i*j)):=opI fun _ _ _ _ _ _ _ hc q=>PyProof.Rows.mul_int q (PySem.IntMulOk.of_le hc.1 hc.2 (by decide))
theorem op_D(op:Operator):OpR X (binaryOp op) (rD X.K X.mg (opD op)):=by
 intro pins s σ H x y v u Q I rx ry h
 obtain⟨F,μ,S,d,e,sk,rd,re,w⟩:=h
 have hb:=a6i'
 cases op with
 |Add=>
  replace w:Want X.K ⟨X.mg,F⟩ μ H Q (addD d e S):=w
  unfold addD at w
  split at w
  ·have:=a0e' rd;have:=a0e' re;subst x y
   exact op_add pins s σ H _ _ v u Q I rx ry ⟨_,_,rfl,rfl,w.now sk a1g'⟩
  ·have:=a3V' rd;have:=a3V' re;subst x y
   split at w
   ·exact a9v' pins s σ H _ _ v u Q I rx ry ⟨_,_,rfl,rfl,by omega,w.now sk repStr⟩
   ·exact w.elim
  ·split at w
   ·obtain⟨a,vs,rfl,ha,qa⟩:=a0y' rd
    obtain⟨b,ws,rfl,hb',qb⟩:=a0y' re
    have l1:=qa.length
    have l2:=qb.length
    cases vs with
    |nil=>
     refine b3x' pins s σ H _ _ v u Q I rx ry ⟨a,b,ws,rfl,rfl,ha,hb',?_⟩
     rename_i as bs _
     have:as=[]:=ZF (by simpa using l1)
     subst this
     exact w.now sk re
    |cons v0 vs=>
     refine op_catT pins s σ H _ _ v u Q I rx ry ⟨a,b,v0::vs,ws,rfl,rfl,ha,hb',by simp,by omega,?_,?_⟩
     ·intro hw
      subst hw
      rename_i as bs _
      have:bs=[]:=ZF (by simpa using l2)
      subst this
      rw[Z2]at w
      exact w.now sk rd
     ·intro _ p hp
      exact w.tup sk (qa.append qb) p hp
   ·exact w.elim
  ·split at w
   ·rename_i as bs e1 e2
    split at w
    ·obtain⟨a,vs,rfl,ha,qa⟩:=a0M' sk rd e1
     obtain⟨b,ws,rfl,hb',qb⟩:=a0M' sk re e2
     have l1:=qa.length
     have l2:=qb.length
     exact op_cat pins s σ H _ _ v u Q I rx ry ⟨a,b,vs,ws,rfl,rfl,ha,hb',by omega,fun p hp=>w.lst sk (qa.append qb) p hp⟩
    ·exact w.elim
   ·exact w.elim
 |Sub=>
  replace w:Want X.K ⟨X.mg,F⟩ μ H Q (subD d e S):=w
  unfold subD at w
  split at w
  ·have:=a0e' rd;have:=a0e' re;subst x y
   exact op_sub pins s σ H _ _ v u Q I rx ry ⟨_,_,rfl,rfl,w.now sk a1g'⟩
  ·exact w.elim
 |Mult=>
  replace w:Want X.K ⟨X.mg,F⟩ μ H Q (mulD d e S):=w
  unfold mulD at w
  split at w
  ·have:=a0e' rd;have:=a0e' re;subst x y
   split at w
   ·rename_i hc
    exact op_mul pins s σ H _ _ v u Q I rx ry ⟨_,_,rfl,rfl,hc,w.now sk a1g'⟩
   ·split at w
    ·rename_i hc
     exact op_mulG pins s σ H _ _ v u Q I rx ry ⟨_,_,rfl,rfl,hc,w.now sk a1g'⟩
    ·exact w.elim
  ·split at w
   ·rename_i as k hc
    obtain⟨a,vs,rfl,ha,qa⟩:=a0M' sk rd rfl
    have:=a0e' re;subst y
    have l1:=qa.length
    refine op_rep pins s σ H _ _ v u Q I rx ry ⟨a,k,vs,rfl,rfl,ha,hc.1,hc.2.1,by rw[←l1];omega,fun p hp=>w.lst sk ?_ p hp⟩
    generalize k.toNat=m
    clear hc w
    induction m with
    |zero=>simpa using RepL.nil
    |succ m ih=>rw[ZW,ZW,List.flatten_cons,List.flatten_cons];exact qa.append ih
   ·exact w.elim
  ·exact w.elim
 |FloorDiv=>
  replace w:Want X.K ⟨X.mg,F⟩ μ H Q (fdivD d e S):=w
  unfold fdivD at w
  split at w
  ·have:=a0e' rd;have:=a0e' re;subst x y
   split at w
   ·rename_i hc
    exact op_fdiv pins s σ H _ _ v u Q I rx ry ⟨_,_,rfl,rfl,hc,w.now sk a1g'⟩
   ·exact w.elim
  ·exact w.elim
 |Mod=>
  replace w:Want X.K ⟨X.mg,F⟩ μ H Q (modD d e S):=w
  unfold modD at w
  split at w
  ·have:=a0e' rd;have:=a0e' re;subst x y
   split at w
   ·rename_i hc
    exact op_mod pins s σ H _ _ v u Q I rx ry ⟨_,_,rfl,rfl,hc,w.now sk a1g'⟩
   ·exact w.elim
  ·exact w.elim
 |Pow=>exact w.elim
 |RShift=>
  replace w:Want X.K ⟨X.mg,F⟩ μ H Q (shrD d e S):=w
  unfold shrD at w
  split at w
  ·have:=a0e' rd;have:=a0e' re;subst x y
   split at w
   ·rename_i hc
    exact op_shr pins s σ H _ _ v u Q I rx ry ⟨_,_,rfl,rfl,hc,w.now sk a1g'⟩
   ·exact w.elim
  ·exact w.elim
 |LShift=>exact w.elim
 |BitAnd=>
  replace w:Want X.K ⟨X.mg,F⟩ μ H Q (andD d e S):=w
  unfold andD at w
  split at w
  ·have:=a0e' rd;have:=a0e' re;subst x y
   exact op_and pins s σ H _ _ v u Q I rx ry ⟨_,_,rfl,rfl,w.now sk a1g'⟩
  ·exact w.elim
 |BitOr=>
  replace w:Want X.K ⟨X.mg,F⟩ μ H Q (orD d e S):=w
  unfold orD at w
  split at w
  ·have:=a0e' rd;have:=a0e' re;subst x y
   exact op_or pins s σ H _ _ v u Q I rx ry ⟨_,_,rfl,rfl,w.now sk a1g'⟩
  ·exact w.elim
 |_=>exact w.elim
def mulBD(d e:D)(S:Store):Res D:=match d,e with
 | .lst a,.int k=>if-(2^63)≤k∧k<2^63∧a.length*k.toNat≤big then .ok (.ref S.length) (S++[(List.replicate k.toNat a).flatten])else .fail
 |_,_=>.fail
theorem op_BD:OpR X (binaryOp .Mult) (rD X.K X.mg mulBD):=by
 intro pins s σ H x y v u Q I rx ry h
 obtain⟨F,μ,S,d,e,sk,rd,re,w⟩:=h
 have hb:=a6i'
 unfold mulBD at w
 split at w
 ·split at w
  ·rename_i as k hc
   obtain⟨a,vs,rfl,ha,qa⟩:=a0M' sk rd rfl
   have:=a0e' re;subst y
   have l1:=qa.length
   refine op_rep pins s σ H _ _ v u Q I rx ry ⟨a,k,vs,rfl,rfl,ha,hc.1,hc.2.1,by rw[←l1];omega,fun p hp=>w.box sk ?_ p hp⟩
   generalize k.toNat=m
   clear hc w
   induction m with
   |zero=>simpa using RepL.nil
   |succ m ih=>rw[ZW,ZW,List.flatten_cons,List.flatten_cons];exact qa.append ih
  ·exact w.elim
 ·exact w.elim
end
end Py
end
section
namespace Py
open PySem PySem.Spec PyProof.Rows L2
inductive Sh where
 |non|bl (b:Bool)|int (i:Int)|str (x:Str)|tup (xs:List D)|lst (xs:List D)
def sh(S:Store):D→Option Sh
 | .non=>some .non
 | .bl b=>some (.bl b)
 | .int i=>some (.int i)
 | .str x=>some (.str x)
 | .tup xs=>some (.tup xs)
 | .lst xs=>some (.lst xs)
 | .ref n=>(S[n]?).map .lst
 |_=>none
def allO:List (Option Bool)→Option Bool
 | []=>some true
 |o::r=>match o,allO r with
  |some b,some c=>some (b&&c)
  |_,_=>none
def eqS(f:D→D→Option Bool):Sh→Sh→Option Bool
 | .non,.non=>some true
 | .bl a,.bl b=>some (a==b)
 | .int a,.int b=>some (a==b)
 | .str a,.str b=>some (a==b)
 | .bl a,.int b=>some ((if a then 1 else 0)==b)
 | .int a,.bl b=>some (a==(if b then 1 else 0))
 | .tup a,.tup b=>(allO (List.zipWith f a b)).map (· &&a.length==b.length)
 | .lst a,.lst b=>if a.length=b.length then allO (List.zipWith f a b)else some false
 |_,_=>some false
def eqF(S:Store):Nat→D→D→Option Bool
 |0,_,_=>none
 |n+1,d,e=>match sh S d,sh S e with
  |some x,some y=>eqS (eqF S n) x y
  |_,_=>none
def eJ(l:List (Option Bool))(j:Nat):Bool:=match l[j]? with
 |some (some b)=>b
 |_=>true
theorem a4n':∀(l:List (Option Bool)) (k:Bool),allO l=some k→(∀(j:Nat) o,l[j]?=some o→o=some (eJ l j))∧k=(List.range l.length).all (eJ l)
 | [],k,h=>by
  unfold allO at h;cases h
  exact⟨fun j o e=>by simp at e,by simp⟩
 |o::r,k,h=>by
  unfold allO at h
  split at h
  ·rename_i b c e2
   cases h
   obtain⟨h1,h2⟩:=a4n' r c e2
   refine⟨fun j o e=>?_,?_⟩
   ·cases j with
    |zero=>simp at e;subst e;simp[eJ]
    |succ j=>
     have e':r[j]?=some o:=by simpa using e
     rw[h1 j o e']
     simp[eJ]
   ·rw[Zy,List.range_succ_eq_map,List.all_cons,List.all_map,h2]
    rfl
  ·cases h
section
variable {X:Cx}{pins:List (Addr×Obj)}{σ:L2.St}{H:Hp}{s:Shared}{μ:List Addr}{S:Store}{F:List Addr}
def ShIs(K:PySem.W.Frag)(mg:GS)(μ:List Addr)(H:Hp)(s:Shared)(u:Value):Sh→Prop
 | .non=>u=.none
 | .bl b=>u=.bool b
 | .int i=>∃t,u=.int i t
 | .str x=>∃t,u=.str x t
 | .tup ds=>∃a its vs,u=.ref a∧s.heap.IsTuple a its.toArray∧Vals vs its∧RepL K mg μ H ds vs
 | .lst ds=>∃a its vs,u=.ref a∧s.heap.IsList a its.toArray∧Vals vs its∧RepL K mg μ H ds vs
theorem shIs(I:Inv X pins σ H s)(sk:SOk X.K ⟨X.mg,F⟩ μ S H){d:D}{v:V}{u:Value}{x:Sh}(r:Rep X.K ⟨X.mg,F⟩ μ H d v)(q:RelV v u)(e:sh S d=some x):ShIs X.K ⟨X.mg,F⟩ μ H s u x:=by
 cases d with
 |non=>cases e;cases a4w' r;exact q
 |bl b=>cases e;cases a6j' r;exact q
 |int b=>cases e;cases a0e' r;exact q
 |str b=>cases e;cases a3V' r;exact q
 |tup xs=>
  cases e
  obtain⟨a,vs,rfl,h,k⟩:=a0y' r
  cases q
  obtain⟨its,rv,p,_⟩:=I.tuple h
  exact⟨a,its,vs,rfl,p,rv,k⟩
 |lst xs=>
  cases e
  obtain⟨a,vs,rfl,h,k⟩:=a0M' sk r rfl
  cases q
  obtain⟨its,rv,p,_⟩:=I.list (.of h)
  exact⟨a,its,vs,rfl,p.isList,rv,k⟩
 |ref n=>
  replace e:(S[n]?).map Sh.lst=some x:=e
  cases e2:S[n]? with
  |none=>rw[e2]at e;cases e
  |some xs=>
   rw[e2]at e;cases e
   obtain⟨a,vs,rfl,h,k⟩:=a0M' sk r e2
   cases q
   obtain⟨its,rv,p,_⟩:=I.list (.of h)
   exact⟨a,its,vs,rfl,p.isList,rv,k⟩
 |_=>cases e
def Items(A:Around)(s:Shared)(f:D→D→Option Bool)(K:PySem.W.Frag)(mg:GS)(μ:List Addr)(H:Hp):Prop:=
 ∀d e v w u z k,Rep K mg μ H d v→RelV v u→Rep K mg μ H e w→RelV w z→f d e=some k→SeqAt.EqAt A s u z k
theorem a9D'{A:Around}{f:D→D→Option Bool}{K:PySem.W.Frag}{mg:GS}(F:Items A s f K mg μ H){ds es:List D}{vs ws:List V}{us zs:List Value}(r1:RepL K mg μ H ds vs)(q1:Vals vs us)(r2:RepL K mg μ H es ws)(q2:Vals ws zs){k:Bool}
  (h:allO (List.zipWith f ds es)=some k):∀j (h1:j<us.toArray.size) (h2:j<zs.toArray.size),SeqAt.EqAt A s us.toArray[j] zs.toArray[j] (eJ (List.zipWith f ds es) j):=by
 intro j h1 h2
 have l1:=r1.length;have l2:=r2.length;have l3:=q1.length;have l4:=q2.length
 have h1':j<us.length:=by simpa using h1
 have h2':j<zs.length:=by simpa using h2
 have a1:ds[j]?=some (ds[j]'(by omega)):=Zg _
 have a2:es[j]?=some (es[j]'(by omega)):=Zg _
 obtain⟨v,b1,c1⟩:=r1.get a1
 obtain⟨w,b2,c2⟩:=r2.get a2
 obtain⟨u,b3,c3⟩:=q1.get b1
 obtain⟨z,b4,c4⟩:=q2.get b2
 have e1:us.toArray[j]=u:=by
  have:=Zh.mp b3
  obtain⟨_,e⟩:=this
  simpa using e
 have e2:zs.toArray[j]=z:=by
  have:=Zh.mp b4
  obtain⟨_,e⟩:=this
  simpa using e
 rw[e1,e2]
 have hz:(List.zipWith f ds es)[j]?=some (f (ds[j]'(by omega)) (es[j]'(by omega))):=by
  rw[List.getElem?_zipWith,a1,a2]
 exact F _ _ v w u z _ c1 c3 c2 c4 ((a4n' _ _ h).1 j _ hz)
theorem a9E'{f:D→D→Option Bool}{ds es:List D}{k:Bool}(h:allO (List.zipWith f ds es)=some k)(m:Nat)(hm:m=min ds.length es.length):(List.range m).all (eJ (List.zipWith f ds es))=k:=by
 have:=(a4n' _ _ h).2
 rw[this,List.length_zipWith,hm]
open PySem.SeqAt
theorem rcS{A:Around}{K:PySem.W.Frag}{mg:GS}{f:D→D→Option Bool}(F:Items A.in1 s f K mg μ H)(hu:A.units<cLine){u z:Value}:∀{x y:Sh} {k:Bool},ShIs K mg μ H s u x→ShIs K mg μ H s z y→eqS f x y=some k→
  RcAt A s u z k∧RcNeAt A s u z (!k):=by
 intro x y k hx hy h
 cases x with
 |non=>
  cases hx
  cases y with
  |non=>cases hy;cases h;exact⟨RcAt.none_none,RcNeAt.none_none⟩
  |bl b=>cases hy;cases h;exact⟨RcAt.none_bool b,RcNeAt.none_bool b⟩
  |int b=>obtain⟨t,rfl⟩:=hy;cases h;exact⟨RcAt.none_int b t,RcNeAt.none_int b t⟩
  |str b=>obtain⟨t,rfl⟩:=hy;cases h;exact⟨RcAt.none_str b t,RcNeAt.none_str b t⟩
  |tup b=>obtain⟨a,its,vs,rfl,p,_⟩:=hy;cases h;exact⟨RcAt.none_tuple p hu,RcNeAt.none_tuple p hu⟩
  |lst b=>obtain⟨a,its,vs,rfl,p,_⟩:=hy;cases h;exact⟨RcAt.none_list p hu,RcNeAt.none_list p hu⟩
 |bl a=>
  cases hx
  cases y with
  |non=>cases hy;cases h;exact⟨RcAt.bool_none a,RcNeAt.bool_none a⟩
  |bl b=>cases hy;cases h;exact⟨RcAt.bool_bool a b,RcNeAt.bool_bool a b⟩
  |int b=>obtain⟨t,rfl⟩:=hy;cases h;exact⟨RcAt.bool_int a b t,RcNeAt.bool_int a b t⟩
  |str b=>obtain⟨t,rfl⟩:=hy;cases h;exact⟨RcAt.bool_str a b t,RcNeAt.bool_str a b t⟩
  |tup b=>obtain⟨_,its,vs,rfl,p,_⟩:=hy;cases h;exact⟨RcAt.bool_tuple a p hu,RcNeAt.bool_tuple a p hu⟩
  |lst b=>obtain⟨_,its,vs,rfl,p,_⟩:=hy;cases h;exact⟨RcAt.bool_list a p hu,RcNeAt.bool_list a p hu⟩
 |int a=>
  obtain⟨t',rfl⟩:=hx
  cases y with
  |non=>cases hy;cases h;exact⟨RcAt.int_none a t',RcNeAt.int_none a t'⟩
  |bl b=>cases hy;cases h;exact⟨RcAt.int_bool a t' b,RcNeAt.int_bool a t' b⟩
  |int b=>obtain⟨t,rfl⟩:=hy;cases h;exact⟨RcAt.int_int a t' b t,RcNeAt.int_int a t' b t⟩
  |str b=>obtain⟨t,rfl⟩:=hy;cases h;exact⟨RcAt.int_str a t' b t,RcNeAt.int_str a t' b t⟩
  |tup b=>obtain⟨_,its,vs,rfl,p,_⟩:=hy;cases h;exact⟨RcAt.int_tuple a t' p hu,RcNeAt.int_tuple a t' p hu⟩
  |lst b=>obtain⟨_,its,vs,rfl,p,_⟩:=hy;cases h;exact⟨RcAt.int_list a t' p hu,RcNeAt.int_list a t' p hu⟩
 |str a=>
  obtain⟨t',rfl⟩:=hx
  cases y with
  |non=>cases hy;cases h;exact⟨RcAt.str_none a t',RcNeAt.str_none a t'⟩
  |bl b=>cases hy;cases h;exact⟨RcAt.str_bool a t' b,RcNeAt.str_bool a t' b⟩
  |int b=>obtain⟨t,rfl⟩:=hy;cases h;exact⟨RcAt.str_int a t' b t,RcNeAt.str_int a t' b t⟩
  |str b=>obtain⟨t,rfl⟩:=hy;cases h;exact⟨RcAt.str_str a t' b t,RcNeAt.str_str a t' b t⟩
  |tup b=>obtain⟨_,its,vs,rfl,p,_⟩:=hy;cases h;exact⟨RcAt.str_tuple a t' p hu,RcNeAt.str_tuple a t' p hu⟩
  |lst b=>obtain⟨_,its,vs,rfl,p,_⟩:=hy;cases h;exact⟨RcAt.str_list a t' p hu,RcNeAt.str_list a t' p hu⟩
 |tup a=>
  obtain⟨a1,its1,vs1,rfl,p1,q1,r1⟩:=hx
  cases y with
  |non=>cases hy;cases h;exact⟨RcAt.tuple_none p1 hu,RcNeAt.tuple_none p1 hu⟩
  |bl b=>cases hy;cases h;exact⟨RcAt.tuple_bool b p1 hu,RcNeAt.tuple_bool b p1 hu⟩
  |int b=>obtain⟨t,rfl⟩:=hy;cases h;exact⟨RcAt.tuple_int b t p1 hu,RcNeAt.tuple_int b t p1 hu⟩
  |str b=>obtain⟨t,rfl⟩:=hy;cases h;exact⟨RcAt.tuple_str b t p1 hu,RcNeAt.tuple_str b t p1 hu⟩
  |tup b=>
   obtain⟨a2,its2,vs2,rfl,p2,q2,r2⟩:=hy
   replace h:(allO (List.zipWith f a b)).map (· &&a.length==b.length)=some k:=h
   obtain⟨k1,e1,e2⟩:=Yk.mp h
   have hz:=a9D' F r1 q1 r2 q2 e1
   have l1:=r1.length;have l2:=r2.length;have l3:=q1.length;have l4:=q2.length
   have e3:k=((List.range (min its1.toArray.size its2.toArray.size)).all (eJ (List.zipWith f a b))&&its1.toArray.size==its2.toArray.size):=by
    rw[←e2,a9E' e1 _ (by rw[Zj,Zj,←l3,←l4,←l1,←l2]),Zj,Zj,←l3,←l4,←l1,←l2]
   rw[e3]
   exact⟨RcAt.tuples p1 p2 hu hz,RcNeAt.tuples p1 p2 hu hz⟩
  |lst b=>obtain⟨a2,its2,vs2,rfl,p2,_⟩:=hy;cases h;exact⟨RcAt.tuple_list p1 p2 hu,RcNeAt.tuple_list p1 p2 hu⟩
 |lst a=>
  obtain⟨a1,its1,vs1,rfl,p1,q1,r1⟩:=hx
  cases y with
  |non=>cases hy;cases h;exact⟨RcAt.list_none p1 hu,RcNeAt.list_none p1 hu⟩
  |bl b=>cases hy;cases h;exact⟨RcAt.list_bool b p1 hu,RcNeAt.list_bool b p1 hu⟩
  |int b=>obtain⟨t,rfl⟩:=hy;cases h;exact⟨RcAt.list_int b t p1 hu,RcNeAt.list_int b t p1 hu⟩
  |str b=>obtain⟨t,rfl⟩:=hy;cases h;exact⟨RcAt.list_str b t p1 hu,RcNeAt.list_str b t p1 hu⟩
  |tup b=>obtain⟨a2,its2,vs2,rfl,p2,_⟩:=hy;cases h;exact⟨RcAt.list_tuple p1 p2 hu,RcNeAt.list_tuple p1 p2 hu⟩
  |lst b=>
   obtain⟨a2,its2,vs2,rfl,p2,q2,r2⟩:=hy
   have l1:=r1.length;have l2:=r2.length;have l3:=q1.length;have l4:=q2.length
   replace h:(if a.length=b.length then allO (List.zipWith f a b)else some false)=some k:=h
   split at h
   ·rename_i hl
    have hz:=a9D' F r1 q1 r2 q2 h
    have e3:k=(List.range its1.toArray.size).all (eJ (List.zipWith f a b)):=by
     rw[a9E' h _ (by rw[Zj,←l3,←l1];omega)]
    rw[e3]
    have hs:its1.toArray.size=its2.toArray.size:=by rw[Zj,Zj];omega
    exact⟨RcAt.lists p1 p2 hs hu hz,RcNeAt.lists p1 p2 hs hu hz⟩
   ·rename_i hl
    cases h
    have hs:(its1.toArray.size !=its2.toArray.size)=true:=by rw[Zj,Zj];simp;omega
    exact⟨RcAt.lists_lengths p1 p2 hs hu,RcNeAt.lists_lengths p1 p2 hs hu⟩
theorem b2z'(I:Inv X pins σ H s)(sk:SOk X.K ⟨X.mg,F⟩ μ S H):∀(n:Nat) (d e:D) (v:V) (k:Bool),Rep X.K ⟨X.mg,F⟩ μ H d v→Rep X.K ⟨X.mg,F⟩ μ H e v→eqF S n d e=some k→k=true:=by
 intro n
 induction n with
 |zero=>intro d e v k _ _ h;cases h
 |succ n ih=>
  intro d e v k rd re h
  have lists:∀(ds es:List D) (vs:List V) (k:Bool),RepL X.K ⟨X.mg,F⟩ μ H ds vs→RepL X.K ⟨X.mg,F⟩ μ H es vs→allO (List.zipWith (eqF S n) ds es)=some k→k=true:=by
   intro ds
   induction ds with
   |nil=>intro es vs k _ _ h;cases h;rfl
   |cons d ds ihl=>
    intro es vs k r1 r2 h
    obtain⟨v,ws,rfl,a1,b1⟩:=r1.uncons
    cases es with
    |nil=>cases h;rfl
    |cons e es=>
     obtain⟨v',ws',e1,a2,b2⟩:=r2.uncons
     cases e1
     rw[List.zipWith_cons_cons]at h
     unfold allO at h
     split at h
     ·rename_i x y e1 e2
      cases h
      rw[ih d e v x a1 a2 e1,ihl es ws y b1 b2 e2]
      rfl
     ·cases h
  unfold eqF at h
  cases e1:sh S d with
  |none=>rw[e1]at h;cases h
  |some x=>
   cases e2:sh S e with
   |none=>rw[e1,e2]at h;cases h
   |some y=>
    rw[e1,e2]at h
    replace h:eqS (eqF S n) x y=some k:=h
    obtain⟨u,ru⟩:∃u,RelV v u:=by
     cases v with
     |non=>exact⟨_,rfl⟩
     |bl b=>exact⟨_,rfl⟩
     |int i=>exact⟨.int i 0,0,rfl⟩
     |str x=>exact⟨.str x 0,0,rfl⟩
     |byt x=>exact⟨.bytes x 0,0,rfl⟩
     |flt x=>exact⟨.float x 0,0,rfl⟩
     |ref a=>exact⟨_,rfl⟩
     |ty n=>exact⟨_,rfl⟩
    have s1:=shIs I sk rd ru e1
    have s2:=shIs I sk re ru e2
    have len:∀{ds es:List D} {vs ws:List V} {us:List Value},RepL X.K ⟨X.mg,F⟩ μ H ds vs→Vals vs us→RepL X.K ⟨X.mg,F⟩ μ H es ws→Vals ws us→vs=ws∧ds.length=es.length:=fun r1 q1 r2 q2=>by
     have:=q1.inj q2
     subst this
     exact⟨rfl,r1.length.trans r2.length.symm⟩
    cases x with
    |non=>
     cases s1
     cases y with
     |non=>cases h;rfl
     |bl b=>cases s2
     |int b=>obtain⟨t,z⟩:=s2;cases z
     |str b=>obtain⟨t,z⟩:=s2;cases z
     |tup b=>obtain⟨_,_,_,z,_⟩:=s2;cases z
     |lst b=>obtain⟨_,_,_,z,_⟩:=s2;cases z
    |bl a=>
     cases s1
     cases y with
     |non=>cases s2
     |bl b=>cases s2;cases h;simp
     |int b=>obtain⟨t,z⟩:=s2;cases z
     |str b=>obtain⟨t,z⟩:=s2;cases z
     |tup b=>obtain⟨_,_,_,z,_⟩:=s2;cases z
     |lst b=>obtain⟨_,_,_,z,_⟩:=s2;cases z
    |int a=>
     obtain⟨t',rfl⟩:=s1
     cases y with
     |non=>cases s2
     |bl b=>cases s2
     |int b=>obtain⟨t,z⟩:=s2;cases z;cases h;simp
     |str b=>obtain⟨t,z⟩:=s2;cases z
     |tup b=>obtain⟨_,_,_,z,_⟩:=s2;cases z
     |lst b=>obtain⟨_,_,_,z,_⟩:=s2;cases z
    |str a=>
     obtain⟨t',rfl⟩:=s1
     cases y with
     |non=>cases s2
     |bl b=>cases s2
     |int b=>obtain⟨t,z⟩:=s2;cases z
     |str b=>obtain⟨t,z⟩:=s2;cases z;cases h;simp
     |tup b=>obtain⟨_,_,_,z,_⟩:=s2;cases z
     |lst b=>obtain⟨_,_,_,z,_⟩:=s2;cases z
    |tup a=>
     obtain⟨a1,its1,vs1,rfl,p1,q1,r1⟩:=s1
     cases y with
     |non=>cases s2
     |bl b=>cases s2
     |int b=>obtain⟨t,z⟩:=s2;cases z
     |str b=>obtain⟨t,z⟩:=s2;cases z
     |tup b=>
      obtain⟨a2,its2,vs2,z,p2,q2,r2⟩:=s2
      cases z
      have hi:its1=its2:=by
       obtain⟨o,ho,_,n,hd⟩:=p1
       obtain⟨o',ho',_,n',hd'⟩:=p2
       rw[ho]at ho';cases ho'
       rw[hd]at hd';injection hd' with z _
       simpa using congrArg Array.toList z
      subst hi
      obtain⟨rfl,hl⟩:=len r1 q1 r2 q2
      replace h:(allO (List.zipWith (eqF S n) a b)).map (· &&a.length==b.length)=some k:=h
      obtain⟨k1,e3,e4⟩:=Yk.mp h
      rw[←e4,lists a b vs1 k1 r1 r2 e3,hl]
      simp
     |lst b=>
      obtain⟨a2,its2,vs2,z,p2,q2,r2⟩:=s2
      cases z
      obtain⟨o,ho,c,n,hd⟩:=p1
      obtain⟨o',ho',c',n',hd'⟩:=p2
      rw[ho]at ho';cases ho'
      rw[c]at c';exact absurd c' (by decide)
    |lst a=>
     obtain⟨a1,its1,vs1,rfl,p1,q1,r1⟩:=s1
     cases y with
     |non=>cases s2
     |bl b=>cases s2
     |int b=>obtain⟨t,z⟩:=s2;cases z
     |str b=>obtain⟨t,z⟩:=s2;cases z
     |tup b=>
      obtain⟨a2,its2,vs2,z,p2,q2,r2⟩:=s2
      cases z
      obtain⟨o,ho,c,n,hd⟩:=p1
      obtain⟨o',ho',c',n',hd'⟩:=p2
      rw[ho]at ho';cases ho'
      rw[c]at c';exact absurd c' (by decide)
     |lst b=>
      obtain⟨a2,its2,vs2,z,p2,q2,r2⟩:=s2
      cases z
      have hi:its1=its2:=by
       obtain⟨o,ho,_,n,hd⟩:=p1
       obtain⟨o',ho',_,n',hd'⟩:=p2
       rw[ho]at ho';cases ho'
       rw[hd]at hd';injection hd' with z _
       simpa using congrArg Array.toList z
      subst hi
      obtain⟨rfl,hl⟩:=len r1 q1 r2 q2
      replace h:(if a.length=b.length then allO (List.zipWith (eqF S n) a b)else some false)=some k:=h
      rw[if_pos hl]at h
      exact lists a b vs1 k r1 r2 h
theorem rcF(I:Inv X pins σ H s)(sk:SOk X.K ⟨X.mg,F⟩ μ S H):∀(n:Nat) (A:Around),A.units+n<cLine→∀d e v w u z k,Rep X.K ⟨X.mg,F⟩ μ H d v→RelV v u→Rep X.K ⟨X.mg,F⟩ μ H e w→RelV w z→eqF S n d e=some k→
  RcAt A s u z k∧RcNeAt A s u z (!k)∧EqAt A s u z k:=by
 intro n
 induction n with
 |zero=>intro A _ d e v w u z k _ _ _ _ h;cases h
 |succ n ih=>
  intro A hA d e v w u z k rd ru re rz h
  have self:=fun(hv:v=w)=>b2z' I sk (n+1) d e v k rd (hv▸re) h
  unfold eqF at h
  cases e1:sh S d with
  |none=>rw[e1]at h;cases h
  |some x=>
   cases e2:sh S e with
   |none=>rw[e1,e2]at h;cases h
   |some y=>
    rw[e1,e2]at h
    replace h:eqS (eqF S n) x y=some k:=h
    have s1:=shIs I sk rd ru e1
    have s2:=shIs I sk re rz e2
    have hin:A.in1.units=A.units+1:=rfl
    have F:Items A.in1 s (eqF S n) X.K ⟨X.mg,F⟩ μ H:=fun d e v w u z k a b c d' h=>(ih A.in1 (by omega) d e v w u z k a b c d' h).2.2
    obtain⟨c1,c2⟩:=rcS F (by omega) s1 s2 h
    refine⟨c1,c2,?_⟩
    have refs:∀{l b:Addr},u=.ref l→z=.ref b→EqAt A s u z k:=fun{l b} eu ez=>by
     subst eu;subst ez
     by_cases hl:l=b
     ·subst hl
      have hv:v=w:=by
       cases v<;>first| (cases ru;done)|skip
       all_goals first| (obtain⟨_,q⟩:=ru;cases q;done)|skip
       cases w<;>first| (cases rz;done)|skip
       all_goals first| (obtain⟨_,q⟩:=rz;cases q;done)|skip
       cases ru;cases rz;rfl
      rw[self hv]
      exact EqAt.same _
     ·exact .of_refs hl c1
    have hu:A.units<cLine:=by omega
    cases x with
    |non=>
     cases s1
     cases y with
     |non=>cases s2;cases h;exact EqAt.same _
     |bl b=>cases s2;cases h;exact EqAt.none_bool b
     |int b=>obtain⟨t,rfl⟩:=s2;cases h;exact EqAt.none_int b t
     |str b=>obtain⟨t,rfl⟩:=s2;cases h;exact EqAt.none_str b t
     |tup b=>obtain⟨a,its,vs,rfl,p,_⟩:=s2;cases h;exact EqAt.none_tuple p hu
     |lst b=>obtain⟨a,its,vs,rfl,p,_⟩:=s2;cases h;exact EqAt.none_list p hu
    |bl a=>
     cases s1
     cases y with
     |non=>cases s2;cases h;exact EqAt.bool_none a
     |bl b=>cases s2;cases h;exact EqAt.bool_bool a b
     |int b=>obtain⟨t,rfl⟩:=s2;cases h;exact EqAt.bool_int a b t
     |str b=>obtain⟨t,rfl⟩:=s2;cases h;exact EqAt.bool_str a b t
     |tup b=>obtain⟨_,its,vs,rfl,p,_⟩:=s2;cases h;exact EqAt.bool_tuple a p hu
     |lst b=>obtain⟨_,its,vs,rfl,p,_⟩:=s2;cases h;exact EqAt.bool_list a p hu
    |int a=>
     obtain⟨t',rfl⟩:=s1
     cases y with
     |non=>cases s2;cases h;exact EqAt.int_none a t'
     |bl b=>cases s2;cases h;exact EqAt.int_bool a t' b
     |int b=>obtain⟨t,rfl⟩:=s2;cases h;exact EqAt.int_int a t' b t
     |str b=>obtain⟨t,rfl⟩:=s2;cases h;exact EqAt.int_str a t' b t
     |tup b=>obtain⟨_,its,vs,rfl,p,_⟩:=s2;cases h;exact EqAt.int_tuple a t' p hu
     |lst b=>obtain⟨_,its,vs,rfl,p,_⟩:=s2;cases h;exact EqAt.int_list a t' p hu
    |str a=>
     obtain⟨t',rfl⟩:=s1
     cases y with
     |non=>cases s2;cases h;exact EqAt.str_none a t'
     |bl b=>cases s2;cases h;exact EqAt.str_bool a t' b
     |int b=>obtain⟨t,rfl⟩:=s2;cases h;exact EqAt.str_int a t' b t
     |str b=>obtain⟨t,rfl⟩:=s2;cases h;exact EqAt.str_str a t' b t
     |tup b=>obtain⟨_,its,vs,rfl,p,_⟩:=s2;cases h;exact EqAt.str_tuple a t' p hu
     |lst b=>obtain⟨_,its,vs,rfl,p,_⟩:=s2;cases h;exact EqAt.str_list a t' p hu
    |tup a=>
     obtain⟨a1,its1,vs1,rfl,p1,_⟩:=s1
     cases y with
     |non=>cases s2;cases h;exact EqAt.tuple_none p1 hu
     |bl b=>cases s2;cases h;exact EqAt.tuple_bool b p1 hu
     |int b=>obtain⟨t,rfl⟩:=s2;cases h;exact EqAt.tuple_int b t p1 hu
     |str b=>obtain⟨t,rfl⟩:=s2;cases h;exact EqAt.tuple_str b t p1 hu
     |tup b=>obtain⟨_,its,vs,rfl,p,_⟩:=s2;exact refs rfl rfl
     |lst b=>obtain⟨_,its,vs,rfl,p,_⟩:=s2;exact refs rfl rfl
    |lst a=>
     obtain⟨a1,its1,vs1,rfl,p1,_⟩:=s1
     cases y with
     |non=>cases s2;cases h;exact EqAt.list_none p1 hu
     |bl b=>cases s2;cases h;exact EqAt.list_bool b p1 hu
     |int b=>obtain⟨t,rfl⟩:=s2;cases h;exact EqAt.list_int b t p1 hu
     |str b=>obtain⟨t,rfl⟩:=s2;cases h;exact EqAt.list_str b t p1 hu
     |tup b=>obtain⟨_,its,vs,rfl,p,_⟩:=s2;exact refs rfl rfl
     |lst b=>obtain⟨_,its,vs,rfl,p,_⟩:=s2;exact refs rfl rfl
end
end Py
end
section
namespace Py
open PySem PySem.Spec PyProof.Rows L2
def ltL(eq lt:D→D→Option Bool):List D→List D→Option Bool
 | [],[]=>some false
 | [],_::_=>some true
 |_::_,[]=>some false
 |a::as,b::bs=>match eq a b with
  |some true=>ltL eq lt as bs
  |some false=>lt a b
  |none=>none
def ltF(S:Store):Nat→D→D→Option Bool
 |0,_,_=>none
 |n+1,.int a,.int b=>some (decide (a<b))
 |n+1,.tup a,.tup b=>ltL (eqF S n) (ltF S n) a b
 |_,_,_=>none
open PySem.SeqAt
def LtAt(A:Around)(s:Shared)(y x:Value)(b:Bool):Prop:=
 ∀(prog:Program) (w:World) (E:Value→Shared→Prop) (Q:Value→Shared→Prop),Q (.bool b) s→wpAny (model prog w) A (richCompare .Lt y x) Q E s
inductive LexAt (A:Around)(s:Shared):List Value→List Value→Bool→Prop where
 |nn:LexAt A s [] [] false
 |nc {w ws}:LexAt A s [] (w::ws) true
 |cn {v vs}:LexAt A s (v::vs) [] false
 |eq {v w vs ws k}:EqAt A s v w true→LexAt A s vs ws k→LexAt A s (v::vs) (w::ws) k
 |lt {v w vs ws k}:EqAt A s v w false→LtAt A s v w k→LexAt A s (v::vs) (w::ws) k
section
open PySem.AutoSeq1 (wpAny_loadPart')
open PySem.MeetsSeq PySem.MeetsSeq2 PySem.MeetsSeq3
theorem a6k'(l b:Addr)(items items2:Array Value)(n n2:Nat)(dd dd2:Option Addr)(sl sl2:Array (Option Value))(k:Bool):
  Meets (Builtin.«tuple.__lt__» ⟨[.ref l,.ref b],[]⟩)
   (fun A R s=>s.heap.get? l=some {cls:=.type "tuple",dict:=dd,data:=.seq items n,slots:=sl}∧s.heap.get? b=some {cls:=.type "tuple",dict:=dd2,data:=.seq items2 n2,slots:=sl2}∧
    LexAt A.in1 s items.toList items2.toList k∧R (.ok (.ret (.bool k))) s):=
 .of_wp fun prog w A R s h=>by
  obtain⟨hp,g,d,tk,os⟩:=s;obtain⟨hl,hb,hx,h⟩:=h
  have f2:=AutoSeq1.sub_tuple_tuple
  wp_walk using wpAny_loadPart' hl,wpAny_loadPart' hb,wpAny_forIn_list _ (fun rest b s'=>b.1=none∧s'=⟨hp,g,d,tk,os⟩∧∃(vs ws:List Value),rest=vs.zip ws∧
   LexAt A.in1 ⟨hp,g,d,tk,os⟩ vs ws k∧vs.length+items2.size=ws.length+items.size∧R (.ok (.ret (.bool k))) ⟨hp,g,d,tk,os⟩) _
  case turn=>
   rintro⟨y,x⟩ rest b s' ⟨hb',rfl,vs,ws,hz,hvi,hlen,hR⟩
   cases hvi with
   |nn=>rw[List.zip_nil_left]at hz;cases hz
   |nc=>rw[List.zip_nil_left]at hz;cases hz
   |cn=>rw[List.zip_nil_right]at hz;cases hz
   |eq he hr=>
    rw[List.zip_cons_cons]at hz
    injection hz with hyx hrest
    injection hyx with hy hx
    subst hy hx
    simp only[Zy]at hlen
    refine Za (he prog w _ _ ?_)
    wp_walk
    exact⟨rfl,rfl,_,_,hrest,hr,by omega,hR⟩
   |lt he hr=>
    rw[List.zip_cons_cons]at hz
    injection hz with hyx hrest
    injection hyx with hy hx
    subst hy hx
    refine Za (he prog w _ _ ?_)
    have hri:=fun(E:Value→Shared→Prop) (Q:Value→Shared→Prop)=>hr prog w E Q
    wp_walk using hri
    exact⟨_,rfl,by simpa using hR⟩
  case fin=>
   rintro⟨b1,b2⟩ s' ⟨hb',rfl,vs,ws,hz,hvi,hlen,hR⟩
   simp only at hb'
   subst hb'
   have hv:k=decide (items.size<items2.size):=by
    cases hvi with
    |nn=>simp only[List.length_nil]at hlen;exact(ZC (by omega)).symm
    |nc=>simp only[List.length_nil,Zy]at hlen;exact(ZK (by omega)).symm
    |cn=>simp only[List.length_nil,Zy]at hlen;exact(ZC (by omega)).symm
    |eq he hr=>rw[List.zip_cons_cons]at hz;cases hz
    |lt he hr=>rw[List.zip_cons_cons]at hz;cases hz
   rw[hv]at hR
   wp_walk
   exact⟨_,rfl,by simpa[Builtin.Tuple.tupleCompareSizes]using hR⟩
  case h=>
   exact⟨rfl,rfl,items.toList,items2.toList,rfl,hx,by simp;omega,h⟩
end
theorem LtAt.tuples{A:Around}{s:Shared}{l b:Addr}{vs ws:List Value}{k:Bool}(hl:s.heap.IsTuple l vs.toArray)(hb:s.heap.IsTuple b ws.toArray)(hu:A.units<cLine)(hx:LexAt A.in1 s vs ws k):LtAt A s (.ref l) (.ref b) k:=fun prog w E Q h=>by
 obtain⟨⟨cls,dd,data,sl⟩,ho,hc,n,hd⟩:=id hl
 obtain⟨⟨cls2,dd2,data2,sl2⟩,ho2,hc2,n2,hd2⟩:=id hb
 simp only at hc hd hc2 hd2
 subst hc hd hc2 hd2
 exact richCompare_meets_room (op:=.Lt) ⟨_,ho,rfl⟩ ⟨_,ho2,rfl⟩ PySem.F.slot_tuple_lt PySem.F.entry_tuple_lt (PySem.F.args_tuple_lt_2 _ _) (a6k' l b vs.toArray ws.toArray n n2 dd dd2 sl sl2 k)
  ⟨ho,ho2,by simpa using hx,show Value.bool k≠Value.notImplemented∧Q (.bool k) s from⟨(fun x=>nomatch x),h⟩⟩ hu
def LeAt(A:Around)(s:Shared)(y x:Value)(b:Bool):Prop:=
 ∀(prog:Program) (w:World) (E:Value→Shared→Prop) (Q:Value→Shared→Prop),Q (.bool b) s→wpAny (model prog w) A (richCompare .LtE y x) Q E s
inductive LexLe (A:Around)(s:Shared):List Value→List Value→Bool→Prop where
 |nl {ws}:LexLe A s [] ws true
 |cn {v vs}:LexLe A s (v::vs) [] false
 |eq {v w vs ws k}:EqAt A s v w true→LexLe A s vs ws k→LexLe A s (v::vs) (w::ws) k
 |le {v w vs ws k}:EqAt A s v w false→LeAt A s v w k→LexLe A s (v::vs) (w::ws) k
section
open PySem.AutoSeq1 (wpAny_loadPart')
open PySem.MeetsSeq PySem.MeetsSeq2 PySem.MeetsSeq3
theorem a9F'(l b:Addr)(xs ys:Array Value)(n n2:Nat)(dd dd2:Option Addr)(sl sl2:Array (Option Value))(k:Bool):
  Meets (Builtin.«tuple.__le__» ⟨[.ref l,.ref b],[]⟩)
   (fun A R s=>s.heap.get? l=some {cls:=.type "tuple",dict:=dd,data:=.seq xs n,slots:=sl}∧s.heap.get? b=some {cls:=.type "tuple",dict:=dd2,data:=.seq ys n2,slots:=sl2}∧
    LexLe A.in1 s xs.toList ys.toList k∧R (.ok (.ret (.bool k))) s):=
 .of_wp fun prog w A R s h=>by
  obtain⟨hp,g,d,tk,os⟩:=s;obtain⟨hl,hb,hx,h⟩:=h
  have f2:=AutoSeq1.sub_tuple_tuple
  wp_walk using wpAny_loadPart' hl,wpAny_loadPart' hb,wpAny_forIn_list _ (fun rest b s'=>b.1=none∧s'=⟨hp,g,d,tk,os⟩∧∃(vs ws:List Value),rest=vs.zip ws∧
   LexLe A.in1 ⟨hp,g,d,tk,os⟩ vs ws k∧vs.length+ys.size=ws.length+xs.size∧R (.ok (.ret (.bool k))) ⟨hp,g,d,tk,os⟩) _
  case turn=>
   rintro⟨y,x⟩ rest b s' ⟨hb',rfl,vs,ws,hz,hvi,hlen,hR⟩
   cases hvi with
   |nl=>rw[List.zip_nil_left]at hz;cases hz
   |cn=>rw[List.zip_nil_right]at hz;cases hz
   |eq he hr=>
    rw[List.zip_cons_cons]at hz
    injection hz with hyx hrest
    injection hyx with hy hx
    subst hy hx
    simp only[Zy]at hlen
    refine Za (he prog w _ _ ?_)
    wp_walk
    exact⟨rfl,rfl,_,_,hrest,hr,by omega,hR⟩
   |le he hr=>
    rw[List.zip_cons_cons]at hz
    injection hz with hyx hrest
    injection hyx with hy hx
    subst hy hx
    refine Za (he prog w _ _ ?_)
    have hri:=fun(E:Value→Shared→Prop) (Q:Value→Shared→Prop)=>hr prog w E Q
    wp_walk using hri
    exact⟨_,rfl,by simpa using hR⟩
  case fin=>
   rintro⟨b1,b2⟩ s' ⟨hb',rfl,vs,ws,hz,hvi,hlen,hR⟩
   simp only at hb'
   subst hb'
   have hv:k=decide (xs.size≤ys.size):=by
    cases hvi with
    |nl=>simp only[List.length_nil]at hlen;exact(ZK (by omega)).symm
    |cn=>simp only[List.length_nil,Zy]at hlen;exact(ZC (by omega)).symm
    |eq he hr=>rw[List.zip_cons_cons]at hz;cases hz
    |le he hr=>rw[List.zip_cons_cons]at hz;cases hz
   rw[hv]at hR
   wp_walk
   exact⟨_,rfl,by simpa[Builtin.Tuple.tupleCompareSizes]using hR⟩
  case h=>
   exact⟨rfl,rfl,xs.toList,ys.toList,rfl,hx,by simp;omega,h⟩
end
theorem b1v'{A:Around}{s:Shared}{l b:Addr}{vs ws:List Value}{k:Bool}(hl:s.heap.IsTuple l vs.toArray)(hb:s.heap.IsTuple b ws.toArray)(hu:A.units<cLine)(hx:LexLe A.in1 s vs ws k):LeAt A s (.ref l) (.ref b) k:=fun prog w E Q h=>by
 obtain⟨⟨cls,dd,data,sl⟩,ho,hc,n,hd⟩:=id hl
 obtain⟨⟨cls2,dd2,data2,sl2⟩,ho2,hc2,n2,hd2⟩:=id hb
 simp only at hc hd hc2 hd2
 subst hc hd hc2 hd2
 exact richCompare_meets_room (op:=.LtE) ⟨_,ho,rfl⟩ ⟨_,ho2,rfl⟩ PySem.F.slot_tuple_le PySem.F.entry_tuple_le (PySem.F.args_tuple_le_2 _ _) (a9F' l b vs.toArray ws.toArray n n2 dd dd2 sl sl2 k)
  ⟨ho,ho2,by simpa using hx,show Value.bool k≠Value.notImplemented∧Q (.bool k) s from⟨(fun x=>nomatch x),h⟩⟩ hu
def leI:List D→List D→Option Bool
 | [],_=>some true
 |_::_,[]=>some false
 | .int a::as,.int b::bs=>if a=b then leI as bs else some (decide (a≤b))
 |_::_,_::_=>none
theorem leI_at{K:PySem.W.Frag}{mg:GS}{μ:List Addr}{H:Hp}{A:Around}{s:Shared}:∀(ds es:List D) (vs ws:List V) (us zs:List Value) (k:Bool),RepL K mg μ H ds vs→Vals vs us→RepL K mg μ H es ws→Vals ws zs→leI ds es=some k→LexLe A s us zs k
 | [],es,vs,ws,us,zs,k,r1,q1,r2,q2,h=>by
  unfold RepL at r1;subst r1;have:=q1.zero;subst this
  cases h
  exact .nl
 |d::ds,[],vs,ws,us,zs,k,r1,q1,r2,q2,h=>by
  obtain⟨v,vs,rfl,a1,b1⟩:=r1.uncons
  unfold RepL at r2;subst r2;have:=q2.zero;subst this
  cases q1
  have h':some false=some k:=by cases d<;>exact h
  cases h'
  exact .cn
 |d::ds,e::es,vs,ws,us,zs,k,r1,q1,r2,q2,h=>by
  obtain⟨v,vs,rfl,a1,b1⟩:=r1.uncons
  obtain⟨w,ws,rfl,a2,b2⟩:=r2.uncons
  cases d with
  |int a=>cases e with
   |int b=>
    have:=a0e' a1;have:=a0e' a2;subst v w
    cases q1 with
    |cons c1 d1=>cases q2 with
     |cons c2 d2=>
      obtain⟨t,rfl⟩:=c1;obtain⟨t',rfl⟩:=c2
      have h':(if a=b then leI ds es else some (decide (a≤b)))=some k:=h
      have he:=EqAt.int_int (A:=A) (s:=s) a t b t'
      by_cases hab:a=b
      ·rw[if_pos hab]at h'
       have e1:(a==b)=true:=by simpa using hab
       rw[e1]at he
       exact .eq he (leI_at ds es vs ws _ _ k b1 d1 b2 d2 h')
      ·rw[if_neg hab]at h'
       have e1:(a==b)=false:=by simpa using hab
       rw[e1]at he
       cases h'
       exact .le he fun prog w E Q hq=>(PyProof.Rows.le_int hq:wpAny (model prog w) A (compareOp .LtE (.int _ t) (.int _ t')) Q E s)
   |_=>cases h
  |_=>
   have h':(none:Option Bool)=some k:=by cases e<;>exact h
   cases h'
section
variable {X:Cx}{pins:List (Addr×Obj)}{σ:L2.St}{H:Hp}{s:Shared}{μ:List Addr}{S:Store}{F:List Addr}
theorem ltF_at(I:Inv X pins σ H s)(sk:SOk X.K ⟨X.mg,F⟩ μ S H):∀(n:Nat) (A:Around),A.units+n<cLine→∀d e v w u z k,Rep X.K ⟨X.mg,F⟩ μ H d v→RelV v u→Rep X.K ⟨X.mg,F⟩ μ H e w→RelV w z→ltF S n d e=some k→LtAt A s u z k:=by
 intro n
 induction n with
 |zero=>intro A _ d e v w u z k _ _ _ _ h;cases h
 |succ n ih=>
  intro A hA d e v w u z k rd ru re rz h
  have hin:A.in1.units=A.units+1:=rfl
  have lex:∀(ds es:List D) (vs ws:List V) (us zs:List Value),RepL X.K ⟨X.mg,F⟩ μ H ds vs→Vals vs us→RepL X.K ⟨X.mg,F⟩ μ H es ws→Vals ws zs→ltL (eqF S n) (ltF S n) ds es=some k→LexAt A.in1 s us zs k:=by
   intro ds
   induction ds with
   |nil=>
    intro es vs ws us zs r1 q1 r2 q2 h
    unfold RepL at r1;subst r1;have:=q1.zero;subst this
    cases es with
    |nil=>unfold RepL at r2;subst r2;have:=q2.zero;subst this;cases h;exact .nn
    |cons e es=>obtain⟨w,ws,rfl,_,_⟩:=r2.uncons;cases q2;cases h;exact .nc
   |cons d ds ihl=>
    intro es vs ws us zs r1 q1 r2 q2 h
    obtain⟨v,vs,rfl,a1,b1⟩:=r1.uncons
    cases q1 with
    |cons c1 d1=>
     cases es with
     |nil=>unfold RepL at r2;subst r2;have:=q2.zero;subst this;cases h;exact .cn
     |cons e es=>
      obtain⟨w,ws,rfl,a2,b2⟩:=r2.uncons
      cases q2 with
      |cons c2 d2=>
       unfold ltL at h
       split at h
       ·rename_i he
        exact .eq (rcF I sk n A.in1 (by omega) d e v w _ _ true a1 c1 a2 c2 he).2.2 (ihl es vs ws _ _ b1 d1 b2 d2 h)
       ·rename_i he
        exact .lt (rcF I sk n A.in1 (by omega) d e v w _ _ false a1 c1 a2 c2 he).2.2 (ih A.in1 (by omega) d e v w _ _ k a1 c1 a2 c2 h)
       ·cases h
  unfold ltF at h
  split at h
  ·rename_i h0;cases h0
  ·have:=a0e' rd;have:=a0e' re;subst v w
   obtain⟨t,rfl⟩:=ru;obtain⟨t',rfl⟩:=rz
   cases h
   exact fun prog w E Q hq=>(PyProof.Rows.lt_int hq:wpAny (model prog w) A (compareOp .Lt (.int _ t) (.int _ t')) Q E s)
  ·rename_i n' ds es heq
   cases heq
   obtain⟨a,vs,rfl,h1,r1⟩:=a0y' rd
   obtain⟨b,ws,rfl,h2,r2⟩:=a0y' re
   cases ru;cases rz
   obtain⟨us,q1,p1,_⟩:=I.tuple h1
   obtain⟨zs,q2,p2,_⟩:=I.tuple h2
   exact LtAt.tuples p1 p2 (by omega) (lex ds es vs ws us zs r1 q1 r2 q2 h)
  ·cases h
def deep:Nat:=40
def isNon:D→Bool
 | .non=>true
 |_=>false
def boolR(o:Option Bool)(S:Store):Res D:=match o with
 |some k=>.ok (.bl k) S
 |none=>.fail
def anyO(l:List (Option Bool)):Option Bool:=(allO (l.map fun o=>o.map not)).map not
def inD(d e:D)(S:Store):Option Bool:=match seqOf S e with
 |some xs=>anyO (xs.map fun y=>eqF S deep y d)
 |none=>none
def leD(d e:D)(S:Store):Res D:=match d,e with
 | .int i,.int j=>.ok (.bl (decide (i≤j))) S
 | .tup a,.tup b=>boolR (leI a b) S
 |_,_=>.fail
def gtD(d e:D)(S:Store):Res D:=match d,e with
 | .int i,.int j=>.ok (.bl (decide (j<i))) S
 |_,_=>.fail
def geD(d e:D)(S:Store):Res D:=match d,e with
 | .int i,.int j=>.ok (.bl (decide (j≤i))) S
 |_,_=>.fail
def isD(d e:D)(S:Store):Res D:=match e with
 | .non=>.ok (.bl (isNon d)) S
 |_=>.fail
def b3y'(d e:D)(S:Store):Res D:=match e with
 | .non=>.ok (.bl (!isNon d)) S
 |_=>.fail
def cmpD(op:CmpOp)(d e:D)(S:Store):Res D:=match op with
 | .Eq=>boolR (eqF S deep d e) S
 | .NotEq=>boolR ((eqF S deep d e).map not) S
 | .Lt=>boolR (ltF S deep d e) S
 | .LtE=>leD d e S
 | .Gt=>gtD d e S
 | .GtE=>geD d e S
 | .In=>boolR (inD d e S) S
 | .NotIn=>boolR ((inD d e S).map not) S
 | .Is=>isD d e S
 | .IsNot=>b3y' d e S
theorem b2A'{K:PySem.W.Frag}{mg:GS}{d:D}{v:V}(r:Rep K mg μ H d v):decide (v=.non)=isNon d:=by
 cases d with
 |non=>cases a4w' r;rfl
 |bl b=>cases a6j' r;rfl
 |int b=>cases a0e' r;rfl
 |str b=>cases a3V' r;rfl
 |tup b=>obtain⟨a,vs,rfl,_⟩:=a0y' r;rfl
 |lst b=>unfold Rep at r;obtain⟨a,vs,rfl,_⟩:=r;rfl
 |ref b=>unfold Rep at r;obtain⟨a,rfl,_⟩:=r;rfl
 |scr b=>unfold Rep at r;obtain⟨a,vs,rfl,_⟩:=r;rfl
 |fn b=>unfold Rep at r;obtain⟨a,rfl,_⟩:=r;rfl
 |dct=>unfold Rep at r;obtain⟨a,rfl,_⟩:=r;rfl
 |ty n=>unfold Rep at r;cases r;rfl
theorem a1a'{K:PySem.W.Frag}{mg:GS}{Q:VK}{o:Option Bool}(w:Want K mg μ H Q (boolR o S))(sk:SOk K mg μ S H):∃k,o=some k∧Q (.bl k) H:=by
 cases o with
 |none=>exact w.elim
 |some k=>exact⟨k,rfl,w.now sk repBl⟩
theorem a7Y'{l:List (Option Bool)}{k:Bool}(h:anyO l=some k):(∀o∈l,o.isSome=true)∧k=l.any (fun o=>o==some true):=by
 unfold anyO at h
 obtain⟨k1,e1,e2⟩:=Yk.mp h
 subst e2
 clear h
 induction l generalizing k1 with
 |nil=>cases e1;exact⟨by simp,rfl⟩
 |cons o r ih=>
  rw[ZH]at e1
  unfold allO at e1
  split at e1
  ·rename_i b c e3 e4
   cases e1
   obtain⟨h1,h2⟩:=ih c e4
   obtain⟨b',rfl,e5⟩:=Yk.mp e3
   subst e5
   refine⟨fun o ho=>?_,?_⟩
   ·rcases Zr.mp ho with rfl|ho
    ·rfl
    ·exact h1 o ho
   ·rw[List.any_cons,←h2]
    cases b'<;>cases c<;>rfl
  ·cases e1
theorem in_at(I:Inv X pins σ H s)(sk:SOk X.K ⟨X.mg,F⟩ μ S H){A:Around}(hu:A.units+64<cLine){d e:D}{v w:V}{u z:Value}{k:Bool}(rd:Rep X.K ⟨X.mg,F⟩ μ H d v)(ru:RelV v u)(re:Rep X.K ⟨X.mg,F⟩ μ H e w)(rz:RelV w z)
  (h:inD d e S=some k):∃(a:Addr) (its:List Value) (f:Value→Bool),z=.ref a∧(s.heap.IsList a its.toArray∨s.heap.IsTuple a its.toArray)∧(∀y∈its.toArray,EqAt A.in1 s y u (f y))∧its.toArray.any f=k:=by
 unfold inD at h
 split at h
 ·rename_i xs e1
  obtain⟨a,vs,rfl,hq,r⟩:=a5j' sk re e1
  cases rz
  obtain⟨its,q,hp⟩:∃its,Vals vs its∧(s.heap.IsList a its.toArray∨s.heap.IsTuple a its.toArray):=by
   rcases hq with hq|hq
   ·obtain⟨its,q,p,_⟩:=I.list hq;exact⟨its,q,.inl p.isList⟩
   ·obtain⟨its,q,p,_⟩:=I.tuple hq;exact⟨its,q,.inr p⟩
  have hin:A.in1.units=A.units+1:=rfl
  have hd:deep=40:=rfl
  obtain⟨h1,h2⟩:=a7Y' h
  classical
  have at_:∀(j:Nat) (x:D) (y:Value),xs[j]?=some x→its[j]?=some y→∀b,eqF S deep x d=some b→EqAt A.in1 s y u b:=fun j x y hx hy b hb=>by
   obtain⟨v',h3,h4⟩:=r.get hx
   obtain⟨y',h5,h6⟩:=q.get h3
   rw[hy]at h5;cases h5
   exact(rcF I sk deep A.in1 (by omega) x d v' v _ u b h4 h6 rd ru hb).2.2
  have len:xs.length=its.length:=r.length.trans q.length
  refine⟨a,its,fun y=>decide (∃(j:Nat) (x:D),its[j]?=some y∧xs[j]?=some x∧eqF S deep x d=some true),rfl,hp,fun y hy=>?_,?_⟩
  ·obtain⟨j,hj,ej⟩:=ZP.mp (show y∈its by simpa using hy)
   have hy':its[j]?=some y:=by rw[Zg hj,ej]
   have hx':xs[j]?=some (xs[j]'(by omega)):=Zg _
   by_cases hc:∃(j:Nat) (x:D),its[j]?=some y∧xs[j]?=some x∧eqF S deep x d=some true
   ·obtain⟨j',x',c1,c2,c3⟩:=id hc
    show EqAt A.in1 s y u (decide (∃(j:Nat) (x:D),its[j]?=some y∧xs[j]?=some x∧eqF S deep x d=some true))
    rw[ZK hc]
    exact at_ j' x' y c2 c1 true c3
   ·show EqAt A.in1 s y u (decide (∃(j:Nat) (x:D),its[j]?=some y∧xs[j]?=some x∧eqF S deep x d=some true))
    rw[ZC hc]
    obtain⟨b,hb⟩:=Yg.mp (h1 (eqF S deep (xs[j]'(by omega)) d) (ZI.mpr ⟨_,Zz hx',rfl⟩))
    cases b with
    |false=>exact at_ j _ y hx' hy' false hb
    |true=>exact absurd ⟨j,_,hy',hx',hb⟩ hc
  ·rw[h2]
   apply Bool.eq_iff_iff.mpr
   rw[List.any_toArray,List.any_eq_true,List.any_eq_true]
   constructor
   ·rintro⟨y,hy,hd⟩
    obtain⟨j,x,c1,c2,c3⟩:=of_decide_eq_true hd
    exact⟨some true,ZI.mpr ⟨x,Zz c2,c3⟩,rfl⟩
   ·rintro⟨o,ho,hd⟩
    obtain⟨x,hx,rfl⟩:=ZI.mp ho
    obtain⟨j,hj,ej⟩:=ZP.mp hx
    have hx':xs[j]?=some x:=by rw[Zg hj,ej]
    have hy':its[j]?=some (its[j]'(by omega)):=Zg _
    exact⟨_,Zz hy',ZK ⟨j,x,hy',hx',by simpa using hd⟩⟩
 ·cases h
theorem cmp_D(op:CmpOp)(hu:X.A.units+64<cLine):OpR X (compareOp op) (rD X.K X.mg (cmpD op)):=by
 intro pins s σ H x y v u Q I rx ry h
 obtain⟨F,μ,S,d,e,sk,rd,re,w⟩:=h
 have hd:deep=40:=rfl
 have fin:∀{k:Bool},Q (.bl k) H→EP X pins σ Q (.bool k) s:=fun{k} q=>⟨.bl k,H,I,rfl,q⟩
 cases op with
 |Eq=>
  obtain⟨k,e1,q⟩:=a1a' (o:=eqF S deep d e) w sk
  exact(rcF I sk deep X.A (by omega) d e x y v u k rd rx re ry e1).1 X.prog X.w _ _ (fin q)
 |NotEq=>
  obtain⟨k,e1,q⟩:=a1a' (o:=(eqF S deep d e).map not) w sk
  obtain⟨k',e2,rfl⟩:=Yk.mp e1
  exact(rcF I sk deep X.A (by omega) d e x y v u k' rd rx re ry e2).2.1 X.prog X.w _ _ (fin q)
 |Lt=>
  obtain⟨k,e1,q⟩:=a1a' (o:=ltF S deep d e) w sk
  exact ltF_at I sk deep X.A (by omega) d e x y v u k rd rx re ry e1 X.prog X.w _ _ (fin q)
 |LtE=>
  replace w:Want X.K ⟨X.mg,F⟩ μ H Q (leD d e S):=w
  unfold leD at w
  split at w
  ·have:=a0e' rd;have:=a0e' re;subst x y
   exact op_le pins s σ H _ _ v u Q I rx ry ⟨_,_,rfl,rfl,w.now sk repBl⟩
  ·rename_i as bs
   obtain⟨k,e1,q⟩:=a1a' (o:=leI as bs) w sk
   obtain⟨a,vs,rfl,h1,r1⟩:=a0y' rd
   obtain⟨b,ws,rfl,h2,r2⟩:=a0y' re
   cases rx;cases ry
   obtain⟨us,q1,p1,_⟩:=I.tuple h1
   obtain⟨zs,q2,p2,_⟩:=I.tuple h2
   exact b1v' p1 p2 (by omega) (leI_at as bs vs ws us zs k r1 q1 r2 q2 e1) X.prog X.w _ _ (fin q)
  ·exact w.elim
 |Gt=>
  replace w:Want X.K ⟨X.mg,F⟩ μ H Q (gtD d e S):=w
  unfold gtD at w
  split at w
  ·have:=a0e' rd;have:=a0e' re;subst x y
   exact op_gt pins s σ H _ _ v u Q I rx ry ⟨_,_,rfl,rfl,w.now sk repBl⟩
  ·exact w.elim
 |GtE=>
  replace w:Want X.K ⟨X.mg,F⟩ μ H Q (geD d e S):=w
  unfold geD at w
  split at w
  ·have:=a0e' rd;have:=a0e' re;subst x y
   exact op_ge pins s σ H _ _ v u Q I rx ry ⟨_,_,rfl,rfl,w.now sk repBl⟩
  ·exact w.elim
 |In=>
  obtain⟨k,e1,q⟩:=a1a' (o:=inD d e S) w sk
  obtain⟨a,its,f,rfl,hp,hf,rfl⟩:=in_at I sk (A:=X.A) hu rd rx re ry e1
  rcases hp with hp|hp
  ·exact in_listAt f hp hf (fin q)
  ·exact in_tupleAt f hp hf (fin q)
 |NotIn=>
  obtain⟨k,e1,q⟩:=a1a' (o:=(inD d e S).map not) w sk
  obtain⟨k',e2,rfl⟩:=Yk.mp e1
  obtain⟨a,its,f,rfl,hp,hf,rfl⟩:=in_at I sk (A:=X.A) hu rd rx re ry e2
  rcases hp with hp|hp
  ·exact notIn_listAt f hp hf (fin q)
  ·exact notIn_tupleAt f hp hf (fin q)
 |Is=>
  replace w:Want X.K ⟨X.mg,F⟩ μ H Q (isD d e S):=w
  unfold isD at w
  split at w
  ·cases a4w' re
   exact op_isN pins s σ H _ _ v u Q I rx ry ⟨rfl,by rw[b2A' rd];exact w.now sk repBl⟩
  ·exact w.elim
 |IsNot=>
  replace w:Want X.K ⟨X.mg,F⟩ μ H Q (b3y' d e S):=w
  unfold b3y' at w
  split at w
  ·cases a4w' re
   exact op_notN pins s σ H _ _ v u Q I rx ry ⟨rfl,by rw[b2A' rd];exact w.now sk repBl⟩
  ·exact w.elim
end
end Py
end
section
namespace Py
open PySem PySem.Spec PyProof.Rows L2
def rC(K:PySem.W.Frag)(mg:Str→Option Value)(g:List D→Store→Res D):List V→Hp→VK→Prop:=fun xs H Q=>∃F μ S ds,SOk K ⟨mg,F⟩ μ S H∧RepL K ⟨mg,F⟩ μ H ds xs∧Want K ⟨mg,F⟩ μ H Q (g ds S)
theorem RepL.one{K:PySem.W.Frag}{mg:GS}{μ:List Addr}{H:Hp}{d:D}{vs:List V}(r:RepL K mg μ H [d] vs):∃v,vs=[v]∧Rep K mg μ H d v:=by
 obtain⟨v,ws,rfl,h,t⟩:=r.uncons
 unfold RepL at t;subst t
 exact⟨v,rfl,h⟩
theorem RepL.two{K:PySem.W.Frag}{mg:GS}{μ:List Addr}{H:Hp}{d e:D}{vs:List V}(r:RepL K mg μ H [d,e] vs):∃v w,vs=[v,w]∧Rep K mg μ H d v∧Rep K mg μ H e w:=by
 obtain⟨v,ws,rfl,h,t⟩:=r.uncons
 obtain⟨w,rfl,h2⟩:=t.one
 exact⟨v,w,rfl,h,h2⟩
theorem atI_rep{K:PySem.W.Frag}{mg:GS}{μ:List Addr}{H:Hp}{ds:List D}{vs:List V}{i:Int}{d:D}(r:RepL K mg μ H ds vs)(h:atI ds i=some d):∃v,atI vs i=some v∧Rep K mg μ H d v:=by
 unfold atI at h⊢
 rw[←r.length]
 cases e:ixN ds.length i with
 |none=>rw[e]at h;cases h
 |some j=>
  rw[e]at h
  exact r.get h
def idxD(d e:D)(S:Store):Res D:=match seqOf S d,e with
 |some xs,.int i=>match atI xs i with
  |some y=>.ok y S
  |none=>.fail
 |_,_=>.fail
section
variable {X:Cx}
theorem ix_D:IxR X (rD X.K X.mg idxD):=by
 intro value slice pins s σ H x y v u Q I rx ry h hsub
 obtain⟨F,μ,S,d,e,sk,rd,re,w⟩:=h
 unfold idxD at w
 split at w
 ·rename_i xs i e1
  split at w
  ·rename_i y' e2
   obtain⟨a,vs,rfl,hq,r⟩:=a5j' sk rd e1
   cases a0e' re
   obtain⟨z,h1,h2⟩:=atI_rep r e2
   rcases hq with hq|hq
   ·exact ix_list value slice pins s σ H _ _ v u Q I rx ry ⟨a,vs,i,z,rfl,rfl,hq,h1,w.now sk h2⟩ hsub
   ·exact ix_tup value slice pins s σ H _ _ v u Q I rx ry ⟨a,vs,i,z,rfl,rfl,hq,h1,w.now sk h2⟩ hsub
  ·exact w.elim
 ·exact w.elim
def lenD(ds:List D)(S:Store):Res D:=match ds with
 | [.str x]=>if x.length≤big then .ok (.int x.length) S else .fail
 | [d]=>match seqOf S d with
  |some xs=>.ok (.int xs.length) S
  |none=>.fail
 |_=>.fail
theorem len_D:CallR X (.builtin "len") (rC X.K X.mg lenD):=by
 intro pins s σ H xs us Q I r h
 obtain⟨F,μ,S,ds,sk,rd,w⟩:=h
 have hb:=a6i'
 unfold lenD at w
 split at w
 ·split at w
  ·obtain⟨v,rfl,hv⟩:=rd.one
   cases a3V' hv
   exact a7k' pins s σ H _ us Q I r ⟨_,rfl,by omega,w.now sk a1g'⟩
  ·exact w.elim
 ·split at w
  ·rename_i xs' e
   obtain⟨v,rfl,hv⟩:=rd.one
   obtain⟨a,vs,rfl,hq,r2⟩:=a5j' sk hv e
   refine a7j' pins s σ H _ us Q I r ⟨a,vs,rfl,hq,?_⟩
   rw[←r2.length]
   exact w.now sk a1g'
  ·exact w.elim
 ·exact w.elim
def a8M'(ds:List D)(S:Store):Res D:=match ds with
 | [.tup xs]=>.ok (.tup xs) S
 | [d]=>match seqOf S d with
  |some xs=>.ok (.tup xs) S
  |none=>.fail
 |_=>.fail
theorem a7m'{K:PySem.W.Frag}{mg:GS}{μ:List Addr}{H:Hp}{S:Store}{d:D}{v:V}{xs:List D}(s:SOk K mg μ S H)(r:Rep K mg μ H d v)(e:seqOf S d=some xs)(hd:∀ys,d≠.tup ys):∃a vs,v=.ref a∧SqL K H a vs∧RepL K mg μ H xs vs:=by
 cases d with
 |lst ys=>
  obtain⟨a,vs,e1,h,q⟩:=a0M' s r (show a2H' S (.lst ys)=some xs from e)
  exact⟨a,vs,e1,.of h,q⟩
 |ref n=>
  obtain⟨a,vs,e1,h,q⟩:=a0M' s r (show a2H' S (.ref n)=some xs from e)
  exact⟨a,vs,e1,.of h,q⟩
 |tup ys=>exact absurd rfl (hd ys)
 |scr ys=>
  unfold seqOf at e;cases e
  unfold Rep at r
  obtain⟨a,vs,e,h,q⟩:=r
  exact⟨a,vs,e,h.sq,q⟩
 |_=>cases e
theorem tuple_D:CallR X (.type "tuple") (rC X.K X.mg a8M'):=by
 intro pins s σ H xs us Q I r h
 obtain⟨F,μ,S,ds,sk,rd,w⟩:=h
 unfold a8M' at w
 split at w
 ·obtain⟨v,rfl,hv⟩:=rd.one
  obtain⟨a,vs,rfl,hq,r2⟩:=a0y' hv
  exact a3U' pins s σ H _ us Q I r ⟨a,vs,rfl,.inr ⟨hq,w.now sk hv⟩⟩
 ·rename_i d hd
  split at w
  ·rename_i xs' e
   obtain⟨v,rfl,hv⟩:=rd.one
   obtain⟨a,vs,rfl,hq,r2⟩:=a7m' sk hv e (fun ys z=>hd ys (by rw[z]))
   exact a3U' pins s σ H _ us Q I r ⟨a,vs,rfl,.inl ⟨hq,fun p hp=>w.tup sk r2 p hp⟩⟩
  ·exact w.elim
 ·exact w.elim
def intD(ds:List D)(S:Store):Res D:=match ds with
 | [.int i]=>.ok (.int i) S
 | [.bl b]=>.ok (.int (if b then 1 else 0)) S
 |_=>.fail
theorem int_D:CallR X (.type "int") (rC X.K X.mg intD):=by
 intro pins s σ H xs us Q I r h
 obtain⟨F,μ,S,ds,sk,rd,w⟩:=h
 unfold intD at w
 split at w
 ·obtain⟨v,rfl,hv⟩:=rd.one
  cases a0e' hv
  exact a7Q' pins s σ H _ us Q I r (.inl ⟨_,rfl,w.now sk a1g'⟩)
 ·obtain⟨v,rfl,hv⟩:=rd.one
  cases a6j' hv
  exact a7Q' pins s σ H _ us Q I r (.inr ⟨_,rfl,w.now sk a1g'⟩)
 ·exact w.elim
def minD(ds:List D)(S:Store):Res D:=match ds with
 | [.int i,.int j]=>.ok (.int (if j<i then j else i)) S
 |_=>.fail
def maxD(ds:List D)(S:Store):Res D:=match ds with
 | [.int i,.int j]=>.ok (.int (if j>i then j else i)) S
 |_=>.fail
theorem min_D(hc:X.calm=true):CallR X (.builtin "min") (rC X.K X.mg minD):=by
 intro pins s σ H xs us Q I r h
 obtain⟨F,μ,S,ds,sk,rd,w⟩:=h
 unfold minD at w
 split at w
 ·obtain⟨v,w',rfl,hv,hw⟩:=rd.two
  cases a0e' hv;cases a0e' hw
  exact b1q' hc pins s σ H _ us Q I r ⟨_,_,rfl,w.now sk a1g'⟩
 ·exact w.elim
theorem max_D(hc:X.calm=true):CallR X (.builtin "max") (rC X.K X.mg maxD):=by
 intro pins s σ H xs us Q I r h
 obtain⟨F,μ,S,ds,sk,rd,w⟩:=h
 unfold maxD at w
 split at w
 ·obtain⟨v,w',rfl,hv,hw⟩:=rd.two
  cases a0e' hv;cases a0e' hw
  exact b1p' hc pins s σ H _ us Q I r ⟨_,_,rfl,w.now sk a1g'⟩
 ·exact w.elim
def truD(S:Store):D→Option Bool
 | .non=>some false
 | .bl b=>some b
 | .int i=>some (i !=0)
 | .str x=>if x.length≤big then some ((x.length:Int) !=0)else none
 |d=>(seqOf S d).map fun xs=> !xs.isEmpty
theorem tru_D{K:PySem.W.Frag}{mg:GS}{μ:List Addr}{H:Hp}{S:Store}{d:D}{v:V}{k:Bool}(sk:SOk K mg μ S H)(r:Rep K mg μ H d v)(e:truD S d=some k):TruV K v H k:=by
 have hb:=a6i'
 have seq:∀(xs:List D),seqOf S d=some xs→k= !xs.isEmpty→TruV K v H k:=fun xs e1 e2=>by
  obtain⟨a,vs,rfl,hq,q⟩:=a5j' sk r e1
  have hl:=q.length
  have e3:xs.isEmpty=vs.isEmpty:=by cases xs<;>cases vs<;>simp at hl⊢
  rw[e3]at e2
  rcases hq with hq|hq
  ·exact .inl ⟨vs,hq,e2⟩
  ·exact .inr (.inl ⟨vs,hq,e2⟩)
 have sq2:(seqOf S d).map (fun xs=> !xs.isEmpty)=some k→TruV K v H k:=fun h=>by
  obtain⟨xs,e1,e2⟩:=Yk.mp h
  exact seq xs e1 e2.symm
 cases d with
 |non=>cases a4w' r;cases e;rfl
 |bl b=>cases a6j' r;cases e;rfl
 |int b=>cases a0e' r;cases e;rfl
 |str b=>
  cases a3V' r
  replace e:(if b.length≤big then some ((b.length:Int) !=0)else none)=some k:=e
  split at e
  ·cases e;exact⟨by omega,rfl⟩
  ·cases e
 |tup b=>exact sq2 e
 |lst b=>exact sq2 e
 |ref b=>exact sq2 e
 |scr b=>exact sq2 e
 |fn b=>exact sq2 e
 |dct=>exact sq2 e
 |ty b=>exact sq2 e
def cutL(xs:List D)(lo hi:Option Int):List D:=(xs.drop (HT.sIx xs.length 0 lo)).take (HT.sIx xs.length xs.length hi-HT.sIx xs.length 0 lo)
theorem a9G'{K:PySem.W.Frag}{mg:GS}{μ:List Addr}{H:Hp}{ds:List D}{vs:List V}{lo hi:Option Int}(r:RepL K mg μ H ds vs):RepL K mg μ H (cutL ds lo hi) (cutV vs lo hi):=by
 unfold cutL cutV
 rw[r.length]
 exact(r.drop _).take _
def slD(d:D)(lo hi:Option Int)(S:Store):Res D:=match d with
 | .tup xs=>.ok (.tup (cutL xs lo hi)) S
 |d=>match seqOf S d with
  |some xs=>.ok (.lst (cutL xs lo hi)) S
  |none=>.fail
def rSl(K:PySem.W.Frag)(mg:Str→Option Value):V→Option Int→Option Int→Hp→VK→Prop:=fun x lo hi H Q=>∃F μ S d,SOk K ⟨mg,F⟩ μ S H∧Rep K ⟨mg,F⟩ μ H d x∧Want K ⟨mg,F⟩ μ H Q (slD d lo hi S)
theorem a3d'{prog:Program}{w:World}{A:Around}{E:Value→Shared→Prop}{s:Shared}{t sl:Addr}{items:Array Value}{vl vu:Value}{lo hi:Option Int}{Q:Value→Shared→Prop}(ht:IsTup s.heap t items)(hs:s.heap.IsSliceOf sl vl vu .none)(pl:IsPart vl lo)(pu:IsPart vu hi)
  (hw:HT.sIx items.size 0 lo=0∧HT.sIx items.size items.size hi=items.size) (h:Q (.ref t) s):wpAny (model prog w) A (getItem (.ref t) (.ref sl)) Q E s:=by
 obtain⟨os,hos,hcs,hds⟩:=id hs
 have hTs:s.TypeIs (.ref sl) "slice":=⟨os,hos,hcs⟩
 unfold getItem
 try with_reducible refine wpAny_holding ?_
 first|refine Za (Zi ?_)|skip
 refine Za (wpAny_sequenceKey ht.typeIs (by decide) ?_)
 refine Za (Z4 (name:=Str.ofString "__getitem__") ht.typeIs Ym
  (Yi Ym ht.typeIs entry_tuple_getitem ?_ (args_tuple_getitem _ _)))
 show wpAny _ _ (Builtin.Tuple.tupleItemsOf (.ref t)>>=_) _ _ s
 refine Za (tupleItemsOf_ ht ?_)
 refine Za (wpAny_typeOf hTs ?_)
 rw[if_pos (by decide)]
 refine Za (HT.a2f' hs pl pu ?_)
 have hyes:((((HT.sIx items.size 0 lo:Nat):Int)==0&&(1:Int)==1&&(HT.sIx items.size items.size hi-HT.sIx items.size 0 lo)==items.size)=true):=by
  rw[hw.1,hw.2];simp
 show wpAny _ _ (if(((HT.sIx items.size 0 lo:Nat):Int)==0&&(1:Int)==1&&(HT.sIx items.size items.size hi-HT.sIx items.size 0 lo)==items.size)=true then _ else _) _ _ s
 rw[if_pos hyes]
 refine Za (m:=Builtin.Tuple.tupleIsExact (.ref t)) ?_
 unfold Builtin.Tuple.tupleIsExact
 refine Za (wpAny_typeOf ht.typeIs (Zi ?_))
 rw[if_pos (by decide)]
 exact Za (wpAny_rule (Zi ⟨_,rfl,Zi h⟩))
theorem sl_D:SlR X (rSl X.K X.mg):=by
 intro pins s σ H x v vl vu lo hi sl Q I rx hs pl pu h
 obtain⟨F,μ,S,d,sk,rd,w⟩:=h
 unfold slD at w
 split at w
 ·rename_i xs
  obtain⟨a,vs,rfl,hq,r⟩:=a0y' rd
  have hl:=r.length
  by_cases hc:HT.sIx vs.length 0 lo=0∧HT.sIx vs.length vs.length hi=vs.length
  ·cases rx
   obtain⟨its,rv,ht,hz⟩:=I.tuple hq
   have hlen:its.toArray.size=vs.length:=by rw[Zj];exact rv.length.symm
   refine⟨"tuple",_,PyProof.Rows.slot_tuple_getitem.lookup,ht.typeIs,?_⟩
   refine a3d' ht hs pl pu (by rw[hlen];exact hc) ⟨.ref a,H,I,rfl,?_⟩
   have e:cutL xs lo hi=xs:=by
    unfold cutL
    rw[hl,hc.1,hc.2]
    simp[←hl]
   rw[e]at w
   exact w.now sk rd
  ·exact sl_tup pins s σ H _ v vl vu lo hi sl Q I rx hs pl pu ⟨a,vs,rfl,hq,hc,fun p hp=>w.tup sk (a9G' r) p hp⟩
 ·rename_i d hd
  split at w
  ·rename_i xs e
   obtain⟨a,vs,rfl,hq,r⟩:=a7m' sk rd e (fun ys z=>hd ys z)
   exact sl_list pins s σ H _ v vl vu lo hi sl Q I rx hs pl pu ⟨a,vs,rfl,hq,fun p hp=>w.lst sk (a9G' r) p hp⟩
  ·exact w.elim
def b3z'(S:Store):D→Option String
 | .non=>some "NoneType"
 | .bl _=>some "bool"
 | .int _=>some "int"
 | .str _=>some "str"
 | .tup _=>some "tuple"
 | .lst _=>some "list"
 | .ref n=>(S[n]?).map fun _=>"list"
 | .scr _=>some "list"
 | .dct=>some "dict"
 |_=>none
def subTy(t c:String):Option Bool:=
 if ["NoneType","bool","int","str","tuple","list","dict"].contains t&&["bool","int","str","tuple","list","dict"].contains c then some (t==c||(t=="bool"&&c=="int"))else none
theorem kit_sub{K:PySem.W.Frag}{t c:String}{b:Bool}(h:subTy t c=some b):PySem.W.kitOne K (.type t) (.type c)=some b:=by
 unfold subTy at h
 split at h
 ·rename_i hc
  rw[Zt]at hc
  simp at hc
  cases h
  obtain⟨h1,h2⟩:=hc
  rcases h1 with rfl|rfl|rfl|rfl|rfl|rfl|rfl<;>rcases h2 with rfl|rfl|rfl|rfl|rfl|rfl<;>first|rfl|decide+kernel
 ·cases h
def a0N'(ds:List D)(S:Store):Res D:=match ds with
 | [d,.ty c]=>match b3z' S d with
  |some t=>boolR (subTy t c) S
  |none=>.fail
 |_=>.fail
theorem b3A':CallR X (.builtin "isinstance") (rC X.K X.mg a0N'):=by
 intro pins s σ H xs us Q I r h
 obtain⟨F,μ,S,ds,sk,rd,w⟩:=h
 unfold a0N' at w
 split at w
 ·rename_i d c
  split at w
  ·rename_i t et
   obtain⟨b,eb,q⟩:=a1a' w sk
   obtain⟨v,z,rfl,hv,hz⟩:=rd.two
   have hz':z=.ty c:=by unfold Rep at hz;exact hz
   subst hz'
   obtain⟨u,y,rfl,ru,ry⟩:=r.two
   cases ry
   have e:=kit_sub (K:=X.K) eb
   have fin:∀tk,EP X pins σ Q (.bool b) {s with toks:=tk}:=fun tk=>⟨.bl b,H,I.tok _,rfl,q⟩
   have lst:∀a vs,v=.ref a→SqL X.K H a vs→t="list"→wpAny (model X.prog X.w) X.A (call (.builtin "isinstance") [u,.type c]) (EP X pins σ Q) X.xe s:=fun a vs ev hq et=>by
    subst ev;subst et;cases ru
    obtain⟨its,rv,pl,_⟩:=I.list hq
    obtain⟨o,h1,h2,_⟩:=pl.isList
    exact PySem.W.kia_one PySem.W.kitx_list I.kIn ⟨o,h1,h2⟩ e (fun z=>nomatch z) fin
   cases d with
   |non=>cases a4w' hv;cases ru;cases et;exact PySem.W.kia_one PySem.W.kitx_none I.kIn True.intro e (fun z=>nomatch z) fin
   |bl b=>cases a6j' hv;cases ru;cases et;exact PySem.W.kia_one PySem.W.kitx_bool I.kIn True.intro e (fun z=>nomatch z) fin
   |int b=>cases a0e' hv;obtain⟨t,rfl⟩:=ru;cases et;exact PySem.W.kia_one PySem.W.kitx_int I.kIn True.intro e (fun z=>nomatch z) fin
   |str b=>cases a3V' hv;obtain⟨t,rfl⟩:=ru;cases et;exact PySem.W.kia_one PySem.W.kitx_str I.kIn True.intro e (fun z=>nomatch z) fin
   |tup b=>
    obtain⟨a,vs,rfl,hq,_⟩:=a0y' hv
    cases ru;cases et
    obtain⟨its,rv,p,_⟩:=I.tuple hq
    obtain⟨o,h1,h2,_⟩:=p
    exact PySem.W.kia_one PySem.W.kitx_tuple I.kIn ⟨o,h1,h2⟩ e (fun z=>nomatch z) fin
   |lst b=>
    obtain⟨a,vs,rfl,hq,_⟩:=a0M' sk hv rfl
    cases et
    exact lst a vs rfl (.of hq) rfl
   |ref n=>
    replace et:(S[n]?).map (fun _=>"list")=some t:=et
    obtain⟨xs,e1,e2⟩:=Yk.mp et
    obtain⟨a,vs,rfl,hq,_⟩:=a0M' sk hv e1
    exact lst a vs rfl (.of hq) e2.symm
   |scr b=>
    unfold Rep at hv
    obtain⟨a,vs,rfl,hq,_⟩:=hv
    cases et
    exact lst a vs rfl hq.sq rfl
   |dct=>
    unfold Rep at hv
    obtain⟨a,rfl,ea⟩:=hv
    cases ru;cases et
    obtain⟨_,_,vs,_,p⟩:=(show ObjOk X.prog X.w H s.heap a (.dK [])from I.hok a _ ea)
    obtain⟨o,es,ep,h1,h2,_⟩:=p
    exact PySem.W.kia_one PySem.W.kitx_dict I.kIn ⟨o,h1,h2.1⟩ e (fun z=>nomatch z) fin
   |fn b=>cases et
   |ty b=>cases et
  ·exact w.elim
 ·exact w.elim
end
end Py
end
section
namespace Py
open PySem PySem.Spec PyProof.Rows L2
def asB:D→Option Bool
 | .bl b=>some b
 |_=>none
def allD(ds:List D)(S:Store):Res D:=match ds with
 | [d]=>match seqOf S d with
  |some xs=>boolR (allO (xs.map asB)) S
  |none=>.fail
 |_=>.fail
def anyD(ds:List D)(S:Store):Res D:=match ds with
 | [d]=>match seqOf S d with
  |some xs=>boolR (anyO (xs.map asB)) S
  |none=>.fail
 |_=>.fail
section
variable {X:Cx}
theorem a9H'{K:PySem.W.Frag}{mg:GS}{μ:List Addr}{H:Hp}{xs:List D}{vs:List V}{its:List Value}(r:RepL K mg μ H xs vs)(q:Vals vs its)(h:∀(j:Nat) o,(xs.map asB)[j]?=some o→o=some (eJ (xs.map asB) j)):
  ∀(i:Nat) v,its.toArray[i]?=some v→v=.bool (eJ (xs.map asB) i):=fun i v hv=>by
 have l1:=r.length;have l2:=q.length
 have hv':its[i]?=some v:=by simpa using hv
 have hi:i<its.length:=(Zh.mp hv').1
 have hx:xs[i]?=some (xs[i]'(by omega)):=Zg _
 obtain⟨w,h1,h2⟩:=r.get hx
 obtain⟨u,h3,h4⟩:=q.get h1
 rw[hv']at h3;cases h3
 have h5:=h i (asB (xs[i]'(by omega))) (by rw[ZJ,hx];rfl)
 revert h2 h5
 generalize xs[i]'(by omega)=d
 intro h2 h5
 cases d with
 |bl b=>
  cases a6j' h2
  have:b=eJ (xs.map asB) i:=by simpa[asB]using h5
  rw[←this];exact h4
 |_=>cases h5
theorem allany{pins:List (Addr×Obj)}{σ:L2.St}{H:Hp}{s:Shared}(hc:X.calm=true)(I:Inv X pins σ H s){μ:List Addr}{S:Store}{F:List Addr}(sk:SOk X.K ⟨X.mg,F⟩ μ S H){d:D}{v:V}{u:Value}{xs:List D}(rd:Rep X.K ⟨X.mg,F⟩ μ H d v)(ru:RelV v u)(e:seqOf S d=some xs)
  (h:∀(j:Nat) o,(xs.map asB)[j]?=some o→o=some (eJ (xs.map asB) j)) (b:Bool→Bool) {Q:VK} {fb:Nat→Bool} (q:Q (.bl (fb xs.length)) H):
  wpAny (model X.prog X.w) X.A.in1 (pyIter u) (fun it s₂=>∃I fp wr n P St,it=.ref I∧Walks X.prog X.w X.A.in1 I fp wr n P St∧St 0 s₂.heap∧TruthOf X.prog X.w X.A.in1 P (eJ (xs.map asB))∧
   ∀h' tk,(∀b o,b∉wr→s₂.heap.get? b=some o→h'.get? b=some o)→EP X pins σ Q (.bool (fb n)) {s₂ with heap:=h',toks:=tk}) X.xe s:=by
 obtain⟨a,vs,rfl,hq,r⟩:=a5j' sk rd e
 cases ru
 have hh:X.A.in1.handled=none:=I.ok.hd hc
 rcases hq with hq|hq
 ·obtain⟨its,rv,p,hz⟩:=I.list hq
  have ba:=a9H' r rv h
  refine wpAny_pyIter_list p.isList ?_
  have hne:a≠s.heap.objs.size:=by obtain⟨o,ho,_⟩:=p.isList;exact ZR (Zs ho)
  refine⟨_,_,_,_,_,_,rfl,Walks.list hh s.heap.objs.size a hne its.toArray,⟨⟨_,Zp _ rfl,rfl,rfl⟩,Heap.IsList.push p.isList _⟩,?_,fun h' tk kp=>?_⟩
  ·intro i v s' Q' E' hv hq'
   rw[ba i v hv]
   exact Yl hq'
  ·have hl:its.toArray.size=xs.length:=by rw[Zj,←rv.length,←r.length]
   rw[hl]
   refine⟨.bl _,H,I.kept (h':=h') (t':=tk) fun b o ho=>kp b o ?_ (Zf _ ho),rfl,q⟩
   intro z
   have z':b=s.heap.objs.size:=by simpa using z
   exact absurd (Zs ho) (by rw[z'];exact Nat.lt_irrefl _)
 ·obtain⟨its,rv,p,hz⟩:=I.tuple hq
  have ba:=a9H' r rv h
  refine wpAny_pyIter_tuple (show s.heap.IsTuple a its.toArray from p) ?_
  have hne:a≠s.heap.objs.size:=by obtain⟨o,ho,_⟩:=p;exact ZR (Zs ho)
  refine⟨_,_,_,_,_,_,rfl,Walks.tuple hh s.heap.objs.size a hne its.toArray,⟨⟨_,Zp _ rfl,rfl,rfl⟩,by obtain⟨o,ho,r⟩:=p;exact⟨o,Zf _ ho,r⟩⟩,?_,fun h' tk kp=>?_⟩
  ·intro i v s' Q' E' hv hq'
   rw[ba i v hv]
   exact Yl hq'
  ·have hl:its.toArray.size=xs.length:=by rw[Zj,←rv.length,←r.length]
   rw[hl]
   refine⟨.bl _,H,I.kept (h':=h') (t':=tk) fun b o ho=>kp b o ?_ (Zf _ ho),rfl,q⟩
   intro z
   have z':b=s.heap.objs.size:=by simpa using z
   exact absurd (Zs ho) (by rw[z'];exact Nat.lt_irrefl _)
theorem all_D(hc:X.calm=true):CallR X (.builtin "all") (rC X.K X.mg allD):=by
 intro pins s σ H xs us Q I r h
 obtain⟨F,μ,S,ds,sk,rd,w⟩:=h
 unfold allD at w
 split at w
 ·split at w
  ·rename_i d ys e
   obtain⟨k,e1,q⟩:=a1a' w sk
   obtain⟨v,rfl,hv⟩:=rd.one
   obtain⟨u,rfl,ru⟩:=r.one
   obtain⟨h1,h2⟩:=a4n' _ _ e1
   have hw:=allany hc I sk hv ru e h1 id (Q:=Q) (fb:=fun n=>(List.range n).all (eJ (ys.map asB))) (by rw[Zk]at h2;rw[←h2];exact q)
   exact call_all_walk (wpAny_mono hw (fun it s₂ ⟨I0,fp,wr,n,P,Sx,a1,a2,a3,a4,a5⟩=>⟨I0,fp,wr,n,P,Sx,_,a1,a2,a3,a4,a5⟩) fun _ _ z=>z)
  ·exact w.elim
 ·exact w.elim
theorem any_D(hc:X.calm=true):CallR X (.builtin "any") (rC X.K X.mg anyD):=by
 intro pins s σ H xs us Q I r h
 obtain⟨F,μ,S,ds,sk,rd,w⟩:=h
 unfold anyD at w
 split at w
 ·split at w
  ·rename_i d ys e
   obtain⟨k,e1,q⟩:=a1a' w sk
   obtain⟨v,rfl,hv⟩:=rd.one
   obtain⟨u,rfl,ru⟩:=r.one
   obtain⟨h1,h2⟩:=a7Y' e1
   have h3:∀(j:Nat) o,(ys.map asB)[j]?=some o→o=some (eJ (ys.map asB) j):=fun j o ho=>by
    have:=h1 o (Zz ho)
    cases o with
    |none=>cases this
    |some b=>simp[eJ,ho]
   have h4:k=(List.range ys.length).any (eJ (ys.map asB)):=by
    rw[h2]
    apply Bool.eq_iff_iff.mpr
    rw[List.any_eq_true,List.any_eq_true]
    constructor
    ·rintro⟨o,ho,hd⟩
     obtain⟨j,hj,ej⟩:=ZP.mp ho
     have hj':(ys.map asB)[j]?=some o:=by rw[Zg hj,ej]
     have:o=some true:=by simpa using hd
     refine⟨j,by simpa using hj,?_⟩
     have h5:=h3 j o hj'
     rw[this]at h5
     exact(ZY h5).symm
    ·rintro⟨j,hj,hd⟩
     have hj2:j<(ys.map asB).length:=by simpa using hj
     have hj':(ys.map asB)[j]?=some ((ys.map asB)[j]):=Zg hj2
     refine⟨_,List.getElem_mem hj2,?_⟩
     rw[h3 j _ hj',hd]
     rfl
   have hw:=allany hc I sk hv ru e h3 id (Q:=Q) (fb:=fun n=>(List.range n).any (eJ (ys.map asB))) (by rw[←h4];exact q)
   exact call_any_walk (wpAny_mono hw (fun it s₂ ⟨I0,fp,wr,n,P,Sx,a1,a2,a3,a4,a5⟩=>⟨I0,fp,wr,n,P,Sx,_,a1,a2,a3,a4,a5⟩) fun _ _ z=>z)
  ·exact w.elim
 ·exact w.elim
def rM(K:PySem.W.Frag)(mg:Str→Option Value)(g:D→List D→Store→Res D):V→List V→Hp→VK→Prop:=fun x xs H Q=>∃F μ S d ds,SOk K ⟨mg,F⟩ μ S H∧Rep K ⟨mg,F⟩ μ H d x∧RepL K ⟨mg,F⟩ μ H ds xs∧Want K ⟨mg,F⟩ μ H Q (g d ds S)
theorem a7Z'{K:PySem.W.Frag}{mg:GS}{μ:List Addr}{H:Hp}{S:Store}{n:Nat}{v:V}{xs:List D}(s:SOk K mg μ S H)(r:Rep K mg μ H (.ref n) v)(e:S[n]?=some xs):∃a vs,v=.ref a∧μ[n]?=some a∧H a=some (.lst vs)∧RepL K mg μ H xs vs:=by
 unfold Rep at r
 obtain⟨a,rfl,h⟩:=r
 obtain⟨vs,h1,q⟩:=s.at_ n a xs h e
 exact⟨a,vs,rfl,h,h1,q⟩
def a3e'(d:D)(ds:List D)(S:Store):Res D:=match d,ds with
 | .ref n,[y]=>match S[n]? with
  |some xs=>if xs.length<big then .ok .non (S.set n (xs++[y]))else .fail
  |none=>.fail
 |_,_=>.fail
theorem b3B':MtR X "list.append" (rM X.K X.mg a3e'):=by
 intro pins s σ H x xs v us Q I rx rs h
 obtain⟨F,μ,S,d,ds,sk,rd,rds,w⟩:=h
 have hb:=a6i'
 unfold a3e' at w
 split at w
 ·split at w
  ·rename_i n y ys e
   split at w
   ·obtain⟨a,vs,rfl,hn,ha,r⟩:=a7Z' sk rd e
    obtain⟨z,rfl,hz⟩:=rds.one
    have hl:=r.length
    exact a7W' pins s σ H _ _ v us Q I rx rs ⟨a,vs,z,rfl,rfl,ha,by omega,w.wrote sk hn ha (r.append (.cons hz .nil)) a9C'⟩
   ·exact w.elim
  ·exact w.elim
 ·exact w.elim
def a6l'(d:D)(ds:List D)(S:Store):Res D:=match d,ds with
 | .ref n,[y]=>match S[n]?,a2H' S y with
  |some xs,some ys=>if xs.length+ys.length≤big then .ok .non (S.set n (xs++ys))else .fail
  |_,_=>.fail
 |_,_=>.fail
theorem b3C':MtR X "list.extend" (rM X.K X.mg a6l'):=by
 intro pins s σ H x xs v us Q I rx rs h
 obtain⟨F,μ,S,d,ds,sk,rd,rds,w⟩:=h
 have hb:=a6i'
 unfold a6l' at w
 split at w
 ·split at w
  ·rename_i n y ys zs e e2
   split at w
   ·obtain⟨a,vs,rfl,hn,ha,r⟩:=a7Z' sk rd e
    obtain⟨z,rfl,hz⟩:=rds.one
    obtain⟨b,ws,rfl,hB,r2⟩:=a0M' sk hz e2
    have hl:=r.length
    have hl2:=r2.length
    exact b1s' pins s σ H _ _ v us Q I rx rs ⟨a,b,vs,ws,rfl,rfl,ha,hB,by omega,w.wrote sk hn ha (r.append r2) a9C'⟩
   ·exact w.elim
  ·exact w.elim
 ·exact w.elim
def setD(d e f:D)(S:Store):Option Store:=match d,e with
 | .ref n,.int i=>match S[n]? with
  |some xs=>match ixN xs.length i with
   |some j=>some (S.set n (xs.set j f))
   |none=>none
  |none=>none
 |_,_=>none
def rSet(K:PySem.W.Frag)(mg:Str→Option Value):TSet:=fun o i v H Q=>∃F μ S d e f,SOk K ⟨mg,F⟩ μ S H∧Rep K ⟨mg,F⟩ μ H d o∧Rep K ⟨mg,F⟩ μ H e i∧Rep K ⟨mg,F⟩ μ H f v∧
 ∃S',setD d e f S=some S'∧∀μ' H',Ext μ H μ' H'→SOk K ⟨mg,F⟩ μ' S' H'→Q H'
theorem set_D:PSet X (rSet X.K X.mg):=by
 intro pins s σ H o i v ov iv u Q I ro ri rv h
 obtain⟨F,μ,S,d,e,f,sk,rd,re,rf,S',e1,w⟩:=h
 unfold setD at e1
 split at e1
 ·split at e1
  ·rename_i n k _ ys e2
   split at e1
   ·rename_i j e3
    cases e1
    obtain⟨a,vs,rfl,hn,ha,r⟩:=a7Z' sk rd e2
    cases a0e' re
    rw[r.length]at e3
    exact b3u' pins s σ H _ _ v ov iv u Q I ro ri rv ⟨a,vs,k,j,rfl,rfl,ha,e3,w μ _ (.wrote (Zz hn) ha) (sk.wrote hn ha (r.set j rf))⟩
   ·cases e1
  ·cases e1
 ·cases e1
end
end Py
end
section
namespace Py
open PySem PySem.Spec PyProof.Rows L2
def clOf(env:Env):List (Str×NameKind)→List (Str×Addr)→List (Str×Addr)
 | [],cs=>cs
 | (n,k)::r,cs=>clOf env r (if k== .free then(match env.cells.lookup n with|some c=>(n,c)::cs|none=>cs)else cs)
theorem a6m'{scope:Scope}{env:Env}(h:∀x∈scope.names,x.2=.free→∃c,env.cells.lookup x.1=some c):closureFor scope env=pure (clOf env scope.names []):=by
 unfold closureFor
 have key:∀(l:List (Str×NameKind)) (cs:List (Str×Addr)),(∀x∈l,x.2=.free→∃c,env.cells.lookup x.1=some c)→
   (forIn l cs fun x r=>(if(x.2==NameKind.free)=true then do let c ←cellOf env x.1;pure (ForInStep.yield ((x.1,c)::r))else pure (ForInStep.yield r):Sem _))=pure (clOf env l cs):=by
  intro l
  induction l with
  |nil=>intro cs _;rfl
  |cons x l ih=>
   intro cs hl
   obtain⟨n,k⟩:=x
   rw[List.forIn_cons]
   unfold clOf
   by_cases hk:k=.free
   ·subst hk
    obtain⟨c,hc⟩:=hl (n,.free) (by simp) rfl
    have hc':cellOf env n=pure c:=by unfold cellOf;rw[hc]
    simp only[beq_self_eq_true,if_true,hc',hc]
    simp only[pure_bind]
    exact ih _ fun y hy=>hl y (Zb _ hy)
   ·have hb:(k==NameKind.free)=false:=by simpa using hk
    simp only[hb,Zv,Z5,pure_bind]
    exact ih _ fun y hy=>hl y (Zb _ hy)
 have:=key scope.names [] h
 first
  | (rw[←this];rfl)
  | (simp only[bind_pure];exact this)
  | (show(do let r ←_;pure r)=_;rw[bind_pure];exact this)
theorem a7n'{env:Env}:∀(l:List (Str×NameKind)) (cs:List (Str×Addr)),(∀p∈cs,env.cells.lookup p.1=some p.2)→∀p∈clOf env l cs,env.cells.lookup p.1=some p.2
 | [],cs,h,p,hp=>h p hp
 | (n,k)::r,cs,h,p,hp=>by
  unfold clOf at hp
  refine a7n' r _ (fun q hq=>?_) p hp
  split at hq
  ·split at hq
   ·rename_i c hc
    rcases Zr.mp hq with rfl|hq
    ·exact hc
    ·exact h q hq
   ·exact h q hq
  ·exact h q hq
theorem a9I'{env:Env}:∀(l:List (Str×NameKind)) (cs:List (Str×Addr)),∀p∈cs,p∈clOf env l cs
 | [],cs,p,hp=>hp
 | (n,k)::r,cs,p,hp=>by
  unfold clOf
  refine a9I' r _ p ?_
  split
  ·split
   ·exact Zb _ hp
   ·exact hp
  ·exact hp
theorem a9J'{env:Env}{x:Str}{c:Addr}(hc:env.cells.lookup x=some c):∀(l:List (Str×NameKind)) (cs:List (Str×Addr)),(x,NameKind.free)∈l→(x,c)∈clOf env l cs
 | [],cs,h=>by cases h
 | (n,k)::r,cs,h=>by
  unfold clOf
  rcases Zr.mp h with e|h
  ·cases e
   refine a9I' r _ _ ?_
   simp only[beq_self_eq_true,if_true,hc]
   exact Zc
  ·exact a9J' hc r _ h
theorem a3W'{α:Type}{x:Str}{c:α}:∀{l:List (Str×α)},(x,c)∈l→∃d,l.lookup x=some d
 | [],h=>by cases h
 | (n,d)::r,h=>by
  rw[List.lookup_cons]
  cases e:x==n with
  |true=>exact⟨d,rfl⟩
  |false=>
   rcases Zr.mp h with e2|h
   ·cases e2;simp at e
   ·exact a3W' h
theorem a3f'{env:Env}:∀{names:List (Str×NameKind)} {x:Str} {k:NameKind},(names.map fun(n,k)=>if(k==NameKind.free&&env.scope.kind== .function&&env.kindOf n==some .cell)then(n,NameKind.cell)else(n,k)).lookup x=some k→
  ∃k',names.lookup x=some k'∧(k=k'∨(k'=.free∧k=.cell))
 | [],_,_,h=>by simp at h
 | (n,k0)::r,x,k,h=>by
  have ih:= @a3f' env r x k
  rw[ZH]at h
  rw[List.lookup_cons]
  by_cases hc:(k0==NameKind.free&&env.scope.kind== .function&&env.kindOf n==some .cell)=true
  ·simp only[hc,if_true,List.lookup_cons]at h
   cases e:x==n with
   |true=>
    rw[e]at h
    cases h
    refine⟨k0,rfl,.inr ⟨?_,rfl⟩⟩
    rw[Zt,Zt]at hc
    exact eq_of_beq hc.1.1
   |false=>rw[e]at h;exact ih h
  ·simp only[hc,Zv,Z5,List.lookup_cons]at h
   cases e:x==n with
   |true=>rw[e]at h;cases h;exact⟨k0,rfl,.inl rfl⟩
   |false=>rw[e]at h;exact ih h
theorem a1q'{env:Env}:∀{names:List (Str×NameKind)} {x:Str},names.lookup x=some .free→
  let m:=(names.map fun(n,k)=>if(k==NameKind.free&&env.scope.kind== .function&&env.kindOf n==some .cell)then(n,NameKind.cell)else(n,k))
  m.lookup x=some .cell∨m.lookup x=some .free
 | [],_,h=>by simp at h
 | (n,k0)::r,x,h=>by
  have ih:= @a1q' env r x
  rw[List.lookup_cons]at h
  dsimp only
  rw[ZH]
  by_cases hc:(k0==NameKind.free&&env.scope.kind== .function&&env.kindOf n==some .cell)=true
  ·simp only[hc,if_true,List.lookup_cons]
   cases e:x==n with
   |true=>exact .inl rfl
   |false=>rw[e]at h;exact ih h
  ·simp only[hc,Zv,Z5,List.lookup_cons]
   cases e:x==n with
   |true=>rw[e]at h;cases h;exact .inr rfl
   |false=>rw[e]at h;exact ih h
theorem a3g':∀(names:List (Str×NameKind)) (n:Nat) (a b:List (Str×Addr)),cellsFrom n names (a++b)=cellsFrom n names a++b
 | [],_,_,_=>rfl
 | (x,k)::r,n,a,b=>by
  show(if(k==NameKind.cell)=true then cellsFrom (n+1) r ((x,n)::(a++b))else cellsFrom n r (a++b))=(if(k==NameKind.cell)=true then cellsFrom (n+1) r ((x,n)::a)else cellsFrom n r a)++b
  split
  ·exact a3g' r (n+1) ((x,n)::a) b
  ·exact a3g' r n a b
theorem a5E'{x:Str}{c:Addr}:∀(names:List (Str×NameKind)) (n:Nat) (a:List (Str×Addr)),(x,c)∈cellsFrom n names a→(x,c)∈a∨(x,NameKind.cell)∈names
 | [],_,_,h=>.inl h
 | (y,k)::r,n,a,h=>by
  replace h:(x,c)∈(if(k==NameKind.cell)=true then cellsFrom (n+1) r ((y,n)::a)else cellsFrom n r a):=h
  split at h
  ·rename_i hk
   rcases a5E' r (n+1) _ h with h|h
   ·rcases Zr.mp h with h|h
    ·injection h with h _
     subst h
     have:k=.cell:=by simpa using hk
     subst this
     exact .inr Zc
    ·exact .inl h
   ·exact .inr (Zb _ h)
  ·rcases a5E' r n _ h with h|h
   ·exact .inl h
   ·exact .inr (Zb _ h)
theorem a7o'{M:Model}{A:Around}{E:Value→Shared→Prop}:∀(names:List (Str×NameKind)) (cs:List (Str×Addr)) (s:Shared) (Q:List (Str×Addr)→Shared→Prop),Q (cellsFrom s.heap.objs.size names cs) {s with heap:=pushCells s.heap names}→
  wpAny M A (forIn names cs fun x r=>match x with
   | (name,kind)=>if(kind==NameKind.cell)=true then do
     let c ←alloc {cls:=Value.type "cell",data:=Data.cell none}
     pure (ForInStep.yield ((name,c)::r))
    else pure (ForInStep.yield r)) Q E s
 | [],cs,s,Q,h=>by
  rw[List.forIn_nil]
  exact Zi h
 | (x,k)::r,cs,s,Q,h=>by
  rw[List.forIn_cons]
  have h:Q (if(k==NameKind.cell)=true then cellsFrom (s.heap.objs.size+1) r ((x,s.heap.objs.size)::cs)else cellsFrom s.heap.objs.size r cs) {s with heap:=if(k==NameKind.cell)=true then pushCells (s.heap.push {cls:=.type "cell",data:=.cell none}) r else pushCells s.heap r}:=h
  cases hk:(k==NameKind.cell)with
  |true=>
   rw[hk,if_pos rfl,if_pos rfl]at h
   refine Za ?_
   show wpAny M A (if(k==NameKind.cell)=true then _ else _) _ _ _
   rw[hk,if_pos rfl]
   refine Za (wpAny_alloc (Zi ?_))
   refine a7o' r _ {s with heap:=s.heap.push {cls:=.type "cell",data:=.cell none}} Q ?_
   show Q (cellsFrom (s.heap.push {cls:=.type "cell",data:=.cell none}).objs.size r _) _
   rw[Yh]
   exact h
  |false=>
   rw[hk,if_neg (by decide),if_neg (by decide)]at h
   refine Za ?_
   show wpAny M A (if(k==NameKind.cell)=true then _ else _) _ _ _
   rw[hk,if_neg (by decide)]
   refine Zi ?_
   exact a7o' r _ s Q h
theorem b1w'{M:Model}{A:Around}{E:Value→Shared→Prop}{s:Shared}{scope:Scope}{g:Addr}{cl:List (Str×Addr)}{q:Str}{out:Env}{bl:Addr}{Q:Env→Shared→Prop}
  (h:Q ⟨scope,s.heap.objs.size,g,cellsFrom (s.heap.objs.size+1) scope.names cl,q,none,out.code,out.frame,out.builtins⟩ {s with heap:=pushCells (s.heap.push {cls:=.type "dict",data:=.dict #[]}) scope.names}):
  wpAny M A (newFunctionEnv scope g cl [] q none .none (some out) bl) Q E s:=by
 unfold newFunctionEnv
 refine Za (wpAny_alloc (Za (a7o' scope.names cl _ _ ?_)))
 show wpAny M A (forIn ([]:List (Str×Value)) PUnit.unit _>>=fun _=>pure _) _ _ _
 rw[List.forIn_nil]
 refine Za (Zi (Zi ?_))
 have e:(s.heap.push {cls:=Value.type (if(some out).isSome=true then "dict" else "frame"),data:=Data.dict #[]}).objs.size=s.heap.objs.size+1:=Yh ..
 show Q ⟨scope,s.heap.objs.size,g,cellsFrom (s.heap.push {cls:=Value.type (if(some out).isSome=true then "dict" else "frame"),data:=Data.dict #[]}).objs.size scope.names cl,q,none,out.code,out.frame,out.builtins⟩ _
 rw[e]
 exact h
def cxC(X:Cx)(scope:Scope)(N:List Str)(C:Addr)(s0:Shared)(H0:Hp)(fp:List Addr):Cx:=
 {X with N:=N,s₀:=s0,H₀:=H0,env:=compEnvC scope (cellsFrom (C+1) scope.names (clOf X.env scope.names [])) C X.env,outer:=X.stack,stack:=X.stack,ex:=fp,fn:=fun x=>scope.names.lookup x==some .cell,pn:=[],xe:=fun _ _=>False}
structure CScope (X:Cx)(scope:Scope):Prop where
 kind:scope.kind=.function
 cel:∀y∈scope.names,y.2=.cell→scope.names.lookup y.1=some .cell
 loc:∀y∈scope.names,y.2=.local→scope.names.lookup y.1=some .local
 free:∀y∈scope.names,y.2=.free→X.env.kindOf y.1=some .cell∨X.env.kindOf y.1=some .free
section
variable {X:Cx}{pins:List (Addr×Obj)}{σ:L2.St}{H:Hp}{s:Shared}{scope:Scope}{N:List Str}{fp:List Addr}
theorem fs_of(I:Inv X pins σ H s){b:Addr}(h1:b≠X.env.locals)(h2:b∉X.fs):b∉frs X.stack:=fun z=>(Zr.mp (I.stkSub b z)).elim h1 h2
theorem a0R'{n:Nat}{x:Str}{c:Addr}(h:(cellsFrom n scope.names (clOf X.env scope.names [])).lookup x=some c):(cellsFrom n scope.names []).lookup x=some c∨((cellsFrom n scope.names []).lookup x=none∧(clOf X.env scope.names []).lookup x=some c):=by
 have e:=a3g' scope.names n [] (clOf X.env scope.names [])
 rw[Z1]at e
 rw[e,List.lookup_append]at h
 cases z:(cellsFrom n scope.names []).lookup x with
 |some d=>rw[z]at h;exact .inl h
 |none=>rw[z]at h;exact .inr ⟨rfl,h⟩
theorem b1x'{n:Nat}{x:Str}{c:Addr}(h:(cellsFrom n scope.names []).lookup x=some c):(cellsFrom n scope.names (clOf X.env scope.names [])).lookup x=some c:=by
 have e:=a3g' scope.names n [] (clOf X.env scope.names [])
 rw[Z1]at e
 rw[e,List.lookup_append,h]
 rfl
theorem a9K'{n:Nat}{x:Str}{c:Addr}(h:(cellsFrom n scope.names []).lookup x=none)(h2:(clOf X.env scope.names []).lookup x=some c):(cellsFrom n scope.names (clOf X.env scope.names [])).lookup x=some c:=by
 have e:=a3g' scope.names n [] (clOf X.env scope.names [])
 rw[Z1]at e
 rw[e,List.lookup_append,h]
 exact h2
theorem b3D'{h1:Heap}{m:Str→Option Value}{tk:Nat}{σ':L2.St}(hc:X.calm=true)(I:Inv X pins σ H s)(sc:CScope X scope)(hf:∀b∈fp,FpOk X pins H b)(hfo:∀b∈fp,∃o,s.heap.get? b=some o)
  (hn:h1.Ns s.heap.objs.size m) (old:∀b o,s.heap.get? b=some o→h1.get? b=some o) (hcl:CellsOk h1 (s.heap.objs.size+1) (cellsFrom (s.heap.objs.size+1) scope.names [])) (hl:σ'.length=N.length)
  (hσ:∀(i:Nat) (v:V) (x:Str),N[i]?=some x→σ'[i]?=some (some v)→scope.names.lookup x=some .free∧∃j:Nat,X.N[j]?=some x∧σ[j]?=some (some v)):
  Inv (cxC X scope N s.heap.objs.size s H fp) (X.pn++pins) σ' H {s with heap:=h1,toks:=tk}:=by
 have lt:∀{b:Addr} {o:Obj},s.heap.get? b=some o→b≠s.heap.objs.size:=fun e=>ZR (Zs e)
 have cl1:∀x c,(clOf X.env scope.names []).lookup x=some c→X.env.cells.lookup x=some c:=fun x c h=>a7n' scope.names [] (fun _ z=>nomatch z) (x,c) (ZM h)
 have cellLt:∀x c,X.env.cells.lookup x=some c→c<s.heap.objs.size:=fun x c h=>by obtain⟨v,q⟩:=I.cell x c h;exact q.lt
 have ownC:∀x c,(cellsFrom (s.heap.objs.size+1) scope.names []).lookup x=some c→h1.IsCell c none∧s.heap.objs.size+1≤c:=fun x c h=>hcl.empty x c (ZM h)
 have ownK:∀x c,(cellsFrom (s.heap.objs.size+1) scope.names []).lookup x=some c→scope.names.lookup x=some .cell:=fun x c h=>by
  rcases a5E' scope.names _ _ (ZM h)with z|z
  ·cases z
  ·exact sc.cel _ z rfl
 have has:∀x,scope.names.lookup x=some .free→(cellsFrom (s.heap.objs.size+1) scope.names []).lookup x=none∧∃c,(clOf X.env scope.names []).lookup x=some c:=fun x h=>by
  refine⟨?_,?_⟩
  ·cases z:(cellsFrom (s.heap.objs.size+1) scope.names []).lookup x with
   |none=>rfl
   |some c=>have:=ownK x c z;rw[h]at this;cases this
  ·have hm:=ZM h
   obtain⟨c,hcc⟩:=I.ok.has x (sc.free _ hm rfl)
   exact a3W' (a9J' hcc scope.names [] hm)
 have kindC:∀x,((cxC X scope N s.heap.objs.size s H fp).env.kindOf x=some .cell∨(cxC X scope N s.heap.objs.size s H fp).env.kindOf x=some .free)→scope.names.lookup x=some .free∨scope.names.lookup x=some .cell:=fun x h=>by
  have go:∀k,(k=NameKind.cell∨k=.free)→(relabel scope X.env).names.lookup x=some k→scope.names.lookup x=some .free∨scope.names.lookup x=some .cell:=fun k hk h=>by
   obtain⟨k',h1,h2⟩:=a3f' h
   rcases h2 with rfl| ⟨rfl,_⟩
   ·rcases hk with rfl|rfl
    ·exact .inr h1
    ·exact .inl h1
   ·exact .inl h1
  rcases h with h|h
  ·exact go _ (.inl rfl) h
  ·exact go _ (.inr rfl) h
 have apart:∀x y c,(cellsFrom (s.heap.objs.size+1) scope.names []).lookup x=some c→(cellsFrom (s.heap.objs.size+1) scope.names []).lookup y=some c→x=y:=fun x y c h1 h2=>by
  have m1:=ZM h1
  have m2:=ZM h2
  have ap:=hcl.apart
  generalize cellsFrom (s.heap.objs.size+1) scope.names []=l at m1 m2 ap
  induction l with
  |nil=>cases m1
  |cons p l ih=>
   obtain⟨a1,a2⟩:=List.pairwise_cons.mp ap
   rcases Zr.mp m1 with rfl|n1
   ·rcases Zr.mp m2 with z|n2
    ·injection z with z _;exact z.symm
    ·exact(a1 (y,c) n2 rfl).elim
   ·rcases Zr.mp m2 with rfl|n2
    ·exact(a1 (x,c) n1 rfl).elim
    ·exact ih n1 n2 a2
 refine⟨⟨I.ok.mod,?_,I.ok.glob,I.ok.blt,Zl _,fun x y c h1 h2=>?_,fun x h=>?_,fun x c h h2=>?_,I.ok.hd,I.ok.frames,.inl rfl,fun b hb=>?_,I.bs,ZB I.ok.bsz I.sz,fun b o e hb=>?_,fun b hb=>?_,I.stack,I.stkFree⟩,
  rfl,I.bare,Un.kept old,⟨m,hn,fun i x v e1 e2 e3=>?_⟩,fun x c h=>?_,I.hok.fresh (Zl _),fun x c h=>?_,fun p hp=>?_,I.hok.kept old,hl⟩
 ·show(relabel scope X.env).kind=.function
  unfold relabel;exact sc.kind
 ·rcases a0R' h1 with z| ⟨_,z⟩<;>rcases a0R' h2 with y'| ⟨_,y'⟩
  ·exact apart x y c z y'
  ·exact absurd (cellLt _ _ (cl1 _ _ y')) (Nat.not_lt.mpr (Nat.le_of_succ_le (ownC _ _ z).2))
  ·exact absurd (cellLt _ _ (cl1 _ _ z)) (Nat.not_lt.mpr (Nat.le_of_succ_le (ownC _ _ y').2))
  ·exact I.ok.inj x y c (cl1 x c z) (cl1 y c y')
 ·rcases kindC x h with h|h
  ·obtain⟨z,c,hc2⟩:=has x h
   exact⟨c,a9K' z hc2⟩
  ·have:=PySem.W.cellsFrom_some (x:=x) scope.names (s.heap.objs.size+1) [] (.inl h)
   obtain⟨c,hc2⟩:=Yg.mp this
   exact⟨c,b1x' hc2⟩
 ·have hk:scope.names.lookup x=some .cell:=by simpa[cxC]using h
  rcases a0R' h2 with z| ⟨z,_⟩
  ·exact Nat.le_of_succ_le (ownC _ _ z).2
  ·have:=PySem.W.cellsFrom_some (x:=x) scope.names (s.heap.objs.size+1) [] (.inl hk)
   rw[z]at this;cases this
 ·obtain⟨f0,f1,f2,f3,f4,f5⟩:=hf b hb
  obtain⟨o,ho⟩:=hfo b hb
  refine⟨lt ho,fun x c h=>?_⟩
  rcases a0R' h with z| ⟨_,z⟩
  ·exact fun q=>absurd (Zs ho) (Nat.not_lt.mpr (q▸Nat.le_of_succ_le (ownC _ _ z).2))
  ·exact f4 x c (cl1 x c z)
 ·obtain⟨f0,f1,f2,f3,f4,f5⟩:=hf b hb
  rcases f3 with f3|f3
  ·exact I.ok.noex b o e f3
  ·exact absurd (Zs (I.ok.bs b o e).1) (Nat.not_lt.mpr f3)
 ·obtain⟨f0,f1,f2,f3,f4,f5⟩:=hf b hb
  exact fs_of I f1 f2
 ·obtain⟨g1,j,g2,g3⟩:=hσ i v x e1 e2
  obtain⟨m0,_,l0⟩:=I.loc
  have hv:Vis X.env.scope x:=by
   rcases sc.free _ (ZM g1) rfl with q|q
   ·exact .inr (.inl q)
   ·exact .inr (.inr q)
  obtain⟨u,r,q⟩:=l0 j x v g2 g3 hv
  refine⟨u,r,.inr ⟨a1q' g1,?_⟩⟩
  obtain⟨z,c,hcl⟩:=has x g1
  have hcc:=cl1 x c hcl
  refine⟨c,a9K' z hcl,?_⟩
  have kx:=sc.free _ (ZM g1) rfl
  rcases q with⟨q,_⟩| ⟨_,c',q1,q2⟩
  ·rcases kx with kx|kx
   ·rw[q]at kx;cases kx
   ·rw[q]at kx;cases kx
  ·rw[hcc]at q1;cases q1
   obtain⟨o,ho,hd⟩:=q2
   exact⟨o,old _ _ ho,hd⟩
 ·rcases a0R' h with z| ⟨_,z⟩
  ·exact⟨none,(ownC _ _ z).1⟩
  ·obtain⟨v,o,ho,hd⟩:=I.cell x c (cl1 x c z)
   exact⟨v,o,old _ _ ho,hd⟩
 ·rcases a0R' h with z| ⟨_,z⟩
  ·exact I.hok.fresh (Nat.le_of_succ_le (ownC _ _ z).2)
  ·exact I.freeC x c (cl1 x c z)
 ·have hp':p∈X.pn++pins:=by simpa[cxC]using hp
  obtain⟨e,n,ne,nf,d⟩:=I.pin p hp'
  exact⟨old _ _ e,n,lt e,fs_of I ne nf,d⟩
theorem b3E'{C:Addr}{s':Shared}{σ':L2.St}{H':Hp}{h':Heap}(I:Inv X pins σ H s)(hf:∀b∈fp,FpOk X pins H b)(hC:C=s.heap.objs.size){pins':List (Addr×Obj)}(J:Inv (cxC X scope N C s H fp) pins' σ' H' s')(hs:Heap.SameBut C s'.heap h'):
  Inv X pins σ H' {s' with heap:=h'}:=by
 have ne:∀{b:Addr} {o:Obj},s.heap.get? b=some o→b≠C:=fun e=>by rw[hC];exact ZR (Zs e)
 have B:Un (frs X.stack) fp H H' s.heap s'.heap:=J.base
 have u:Un (frs X.stack) fp H H' s.heap h':=
  ⟨fun b o e n hb he=>(hs.2 b (ne e)).trans (B.keep b o e n hb he),fun b o e n hb he=>by obtain⟨sl,q⟩:=B.slot b o e n hb he;exact⟨sl,(hs.2 b (ne e)).trans q⟩,B.free,
   fun b o e he=>by obtain⟨o',q⟩:=B.there b o e he;exact⟨o',(hs.2 b (ne e)).trans q⟩,B.tups,B.frzs,B.tbls⟩
 have hfree:H' C=none:=J.free
 have hok:HOk X.prog X.w H' h':=fun b ob e=>by
  refine(J.hok b ob e).stay (fun c w' hc q=>(hs.2 c ?_).trans q) (fun _ q=>q) fun _ _ q=>q
  rintro rfl
  rcases hc with rfl|hc
  ·rw[hfree]at e;cases e
  ·rw[hfree]at hc;cases hc
 exact I.call' (s':={s' with heap:=h'}) (ch:=fp) J.os u hok J.bare fun b hb=>by
  obtain⟨f0,f1,f2,f3,f4,f5⟩:=hf b hb
  exact⟨f3,f1,f4,f5⟩
end
def PB(X:Cx)(body:Sem Unit)(t:L2.St→Hp→(L2.St→Hp→Prop)→Prop):Prop:=
 ∀(pins:List (Addr×Obj)) (s:Shared) (σ:L2.St) (H:Hp) (Q:L2.St→Hp→Prop),Inv X pins σ H s→t σ H Q→wpAny (model X.prog X.w) X.A body (fun _ s'=>∃σ' H',Inv X pins σ' H' s'∧Q σ' H') X.xe s
section
variable {X:Cx}
theorem noteF{M:Model}{A:Around}{E:Value→Shared→Prop}{α:Type}{m:Sem α}{Q:α→Shared→Prop}{s:Shared}(hx:X.xe=fun _ _=>False)(h:wpAny M A m Q X.xe s):wpAny M A m Q E s:=by
 rw[hx]at h
 exact wpAny_mono h (fun _ _ q=>q) fun _ _ z=>z.elim
theorem a8a'{elt:Expr}{gens:List Comprehension}{scope:Scope}{epos:Pos}{d:Nat}{tg:Expr}{it:Addr}{acc:Value}{p:Pos}{body:Sem Unit}{J:It}{fp:List Addr}{tn:Nat→Heap→Prop}{g:TG}{tb:L2.St→Hp→(L2.St→Hp→Prop)→Prop}{R:Result→Shared→Prop}{pins:List (Addr×Obj)}{s:Shared}{σ:L2.St}{H:Hp}{Fin:L2.St→Hp→Prop}
  (hx:X.xe=fun _ _=>False) (hc:X.calm=true)
  (heq:compTurn (.ListComp elt gens scope epos) d (.ref it) acc X.env=(standAt p>>=fun _=>pyNext (.ref it)>>=fun r=>match r with
   |none=>pure (.done .next)
   |some v=>letOwnedTupleGo tg (.ref it) v>>=fun _=>assign tg X.env v>>=fun _=>body>>=fun _=>again (.compLoop (.ListComp elt gens scope epos) d (.ref it) acc X.env)))
  (T:Turn X.prog X.w X.K tg J fp it tn) (hg:PG X tg g) (hb:PB X body tb) (I:Inv X pins σ H s) (st:tn 0 s.heap) (hf:∀b∈fp,FpOk X pins H b)
  (W:∃W:Nat→Nat→L2.St→Hp→Prop,(∃m,W 0 m σ H)∧∀i m σ H,W i m σ H→
   (J.stop i H∧Fin σ H)∨(J.go i H∧∃Nx:L2.St→Hp→Prop,(∀σ' H',Nx σ' H'→∃m',m'<m∧W (i+1) m' σ' H')∧∀x H',J.yld i H x H'→g x σ H' fun σ2 H2=>tb σ2 H2 Nx))
  (hR:∀s' σ' H',Inv X pins σ' H' s'→(∀b∈fp,H' b=none)→Fin σ' H'→R (.ok .next) s'):codeAny (model X.prog X.w) X.A (.compLoop (.ListComp elt gens scope epos) d (.ref it) acc X.env) R s:=by
 obtain⟨W,⟨m0,w0⟩,turn⟩:=W
 have stat:∀{H':Hp},(∀b∈fp,H' b=none)→∀b∈fp,FpOk X pins H' b:=fun hn b hb=>⟨hn b hb,(hf b hb).2⟩
 refine codeAny_loop rfl (fun n s'=>∃i σ' H',Inv X pins σ' H' s'∧tn i s'.heap∧(∀b∈fp,H' b=none)∧W i n σ' H') ?_ m0 ⟨0,σ,H,I,st,fun b hb=>(hf b hb).1,w0⟩
 rintro n s3 ⟨i,σ3,H3,I3,st3,fr3,w3⟩
 show wpAny _ X.A ((compTurn (.ListComp elt gens scope epos) d (.ref it) acc X.env).onRaise (fun x=>do noteFrame x X.env;theTreesLotGoes x)) _ _ s3
 refine wpAny_noted ?_
 rw[heq]
 refine Za (wpAny_standAt ?_)
 rcases turn i n σ3 H3 w3 with⟨stop,qn⟩| ⟨go,Nx,hN,step⟩
 ·refine Za (noteF hx (thn (T.done X rfl rfl rfl hc i pins s3 σ3 H3 X.xe I3 (stat fr3) st3 stop) fun r s4 ⟨hr,I4⟩=>?_))
  subst hr
  exact Zi (hR s4 σ3 H3 I4 fr3 qn)
 ·refine Za (noteF hx (thn (T.item X rfl rfl rfl hc i pins s3 σ3 H3 X.xe I3 (stat fr3) st3 go) fun r s4 ⟨u,hr,h4⟩=>?_))
  subst hr
  refine Za (noteF hx (thn h4 fun _ s5 ⟨x,H5,I5,r5,y5,st5,fr5⟩=>?_))
  have I5':=I5.pinned (stat fr5) (T.obj _ _ st5)
  refine Za (noteF hx (thn (hg _ s5 σ3 H5 x u _ I5' r5 (step x H5 y5)) fun _ s6 ⟨σ6,H6,I6,q6⟩=>?_))
  refine Za (noteF hx (thn (hb _ s6 σ6 H6 _ I6 q6) fun _ s7 ⟨σ7,H7,I7,n7⟩=>?_))
  refine Zi ?_
  obtain⟨m',hm,w7⟩:=hN σ7 H7 n7
  refine⟨rfl,m',hm,i+1,σ7,H7,I7.unpinned,T.keep _ _ _ st5 fun b hb o e=>(I7.pin (b,o) (ZE _ (ZE _ (a3c' hb e)))).1,fun b hb=>?_,w7⟩
  obtain⟨o,e,d⟩:=T.obj _ _ st5 b hb
  exact(I7.pin (b,o) (ZE _ (ZE _ (a3c' hb e)))).2.1
end
end Py
end
section
namespace Py
open PySem PySem.Spec PyProof.Rows L2
abbrev TU:=L2.St→Hp→(L2.St→Hp→Prop)→Prop
section
variable {X:Cx}
def b1y':List TT→(L2.St→Hp→(Bool→Hp→Prop)→Prop)
 | []=>fun _ H Q=>Q true H
 |t::r=>fun σ H Q=>t σ H fun b H1=>if b=true then b1y' r σ H1 Q else Q false H1
def PTs(X:Cx):List Expr→List TT→Prop
 | [],[]=>True
 |e::es,t::ts=>PT X e t∧PTs X es ts
 |_,_=>False
theorem a5k'{M:Model}{A:Around}{E:Value→Shared→Prop}{env:Env}{Q:Bool→Shared→Prop}{s:Shared}:∀(ifs:List Expr),Q false s→
  wpAny M A (forIn ifs false fun c r=>if r=true then do let ok ←isTrue c env (eval c env);pure (ForInStep.yield ok)else pure (ForInStep.yield r)) Q E s
 | [],h=>Zi h
 |c::r,h=>by
  rw[List.forIn_cons]
  simp only[Zv,Z5]
  exact Za (Zi (a5k' r h))
theorem a9L':∀(ifs:List Expr) (ts:List TT),PTs X ifs ts→∀(pins:List (Addr×Obj)) (s:Shared) (σ:L2.St) (H:Hp) (Q:Bool→Hp→Prop),Inv X pins σ H s→b1y' ts σ H Q→
  wpAny (model X.prog X.w) X.A (forIn ifs true fun c r=>if r=true then do let ok ←isTrue c X.env (eval c X.env);pure (ForInStep.yield ok)else pure (ForInStep.yield r)) (TP X pins σ Q) X.xe s
 | [],[],_,pins,s,σ,H,Q,I,h=>Zi ⟨H,I,h⟩
 |e::es,t::ts,p,pins,s,σ,H,Q,I,h=>by
  rw[List.forIn_cons]
  simp only[if_true]
  refine Za (Za (thn (p.1 pins s σ H _ I h) fun b s1 ⟨H1,I1,q1⟩=>Zi ?_))
  cases b with
  |true=>
   rw[if_pos rfl]at q1
   exact a9L' es ts p.2 pins s1 σ H1 Q I1 q1
  |false=>
   rw[if_neg (by decide)]at q1
   exact a5k' es ⟨H1,I1,q1⟩
 | [],_::_,p,_,_,_,_,_,_,_=>p.elim
 |_::_,[],p,_,_,_,_,_,_,_=>p.elim
def tEmit(acc:Addr)(te:TE):TU:=fun σ H Q=>te σ H fun v H1=>∃ys,H1 acc=some (.lst ys)∧ys.length<sizeLine∧Q σ (upd H1 acc (.lst (ys++[v])))
def tWhen(ts:List TT)(t:TU):TU:=fun σ H Q=>b1y' ts σ H fun b H1=>if b=true then t σ H1 Q else Q σ H1
def tInner(wi:TI)(g:TG)(tb:TU):TU:=fun σ H Q=>wi σ H fun J H1=>∃W:Nat→Nat→L2.St→Hp→Prop,(∃m,W 0 m σ H1)∧∀i m σ H,W i m σ H→
   (J.stop i H∧Q σ H)∨(J.go i H∧∃Nx:L2.St→Hp→Prop,(∀σ' H',Nx σ' H'→∃m',m'<m∧W (i+1) m' σ' H')∧∀x H',J.yld i H x H'→g x σ H' fun σ2 H2=>tb σ2 H2 Nx)
def tComp(cs:L2.St→L2.St)(wi:TI)(g:TG)(tb:Addr→TU):TE:=fun σ H Q=>wi σ H fun J H1=>∀acc,H1 acc=none→
 ∃W:Nat→Nat→L2.St→Hp→Prop,(∃m,W 0 m (cs σ) (upd H1 acc (.lst [])))∧∀i m σ H,W i m σ H→
   (J.stop i H∧Q (.ref acc) H)∨(J.go i H∧∃Nx:L2.St→Hp→Prop,(∀σ' H',Nx σ' H'→∃m',m'<m∧W (i+1) m' σ' H')∧∀x H',J.yld i H x H'→g x σ H' fun σ2 H2=>tb acc σ2 H2 Nx)
def CsOk(X:Cx)(scope:Scope)(N:List Str)(cs:L2.St→L2.St):Prop:=∀σ:L2.St,σ.length=X.N.length→(cs σ).length=N.length∧
 ∀(i:Nat) (v:V) (x:Str),N[i]?=some x→(cs σ)[i]?=some (some v)→scope.names.lookup x=some .free∧∃j:Nat,X.N[j]?=some x∧σ[j]?=some (some v)
theorem b2B'{pins:List (Addr×Obj)}{σ:L2.St}{H:Hp}{s:Shared}{scope:Scope}(I:Inv X pins σ H s)(sc:CScope X scope):closureFor scope X.env=pure (clOf X.env scope.names []):=
 a6m' fun x hx hk=>I.ok.has x.1 (sc.free x hx hk)
theorem b1z'(h3:Heap)(d:Obj)(names:List (Str×NameKind)):CellsOk (pushCells (h3.push d) names) (h3.objs.size+1) (cellsFrom (h3.objs.size+1) names []):=by
 have e:(h3.push d).objs.size=h3.objs.size+1:=Yh ..
 have:=cellsFrom_ok names (h3.push d) (h3.objs.size+1) [] ⟨(fun _ _ h=>by cases h),.nil⟩ (by rw[e];exact Zl _)
 rw[e]at this
 exact this
theorem a8b'{elt tg iter:Expr}{ifs:List Expr}{rest:List Comprehension}{scope:Scope}{pos:Pos}{N:List Str}{cs:L2.St→L2.St}{J:It}{g:TG}{tb:Addr→TU}{R:Value→Addr→Result→Shared→Prop}{Fin:V→Hp→Prop}
  {pins:List (Addr×Obj)} {σ:L2.St} {H:Hp} {s:Shared} {it:Addr} {fp:List Addr} {tn:Nat→Heap→Prop} {E:Value→Shared→Prop} (hc:X.calm=true) (sc:CScope X scope) (hcs:CsOk X scope N cs) (I:Inv X pins σ H s) (T:Turn X.prog X.w X.K tg J fp it tn) (st:tn 0 s.heap) (hf:∀b∈fp,FpOk X pins H b)
  (body:Addr→Env→Sem Unit)
  (heq:∀(acc:Addr) (env:Env),compTurn (.ListComp elt (⟨tg,iter,ifs,0⟩::rest) scope pos) 0 (.ref it) (.ref acc) env=(standAt iter.pos>>=fun _=>pyNext (.ref it)>>=fun r=>match r with
   |none=>pure (.done .next)
   |some v=>letOwnedTupleGo tg (.ref it) v>>=fun _=>assign tg env v>>=fun _=>body acc env>>=fun _=>again (.compLoop (.ListComp elt (⟨tg,iter,ifs,0⟩::rest) scope pos) 0 (.ref it) (.ref acc) env)))
  (hin:∀(C:Addr) (s0:Shared) (H0:Hp) (fp:List Addr) (acc:Addr),PG (cxC X scope N C s0 H0 fp) tg g∧PB (cxC X scope N C s0 H0 fp) (body acc (cxC X scope N C s0 H0 fp).env) (tb acc))
  (W:∀acc,H acc=none→∃W:Nat→Nat→L2.St→Hp→Prop,(∃m,W 0 m (cs σ) (upd H acc (.lst [])))∧∀i m σ H,W i m σ H→
   (J.stop i H∧Fin (.ref acc) H)∨(J.go i H∧∃Nx:L2.St→Hp→Prop,(∀σ' H',Nx σ' H'→∃m',m'<m∧W (i+1) m' σ' H')∧∀x H',J.yld i H x H'→g x σ H' fun σ2 H2=>tb acc σ2 H2 Nx))
  (hR:∀(acc C:Addr) (s':Shared) (H':Hp) (m:Str→Option Value),s'.heap.Ns C m→C≠X.env.locals→(∀x c,X.env.cells.lookup x=some c→c≠C)→H' C=none→X.s₀.heap.objs.size≤C→(∀p∈X.pn++pins,p.1≠C)→(∀h',Heap.SameBut C s'.heap h'→Inv X pins σ H' {s' with heap:=h'})→Fin (.ref acc) H'→R (.ref acc) C (.ok .next) s'):
  wpAny (model X.prog X.w) X.A (newList []) (fun acc s₃=>wpAny (model X.prog X.w) X.A (newFunctionEnv scope X.env.globals (clOf X.env scope.names []) [] X.env.qual none .none (some X.env)) (fun cenv s₄=>
   codeAny (model X.prog X.w) X.A (.compStart (.ListComp elt (⟨tg,iter,ifs,0⟩::rest) scope pos) 0 (.ref it) acc {cenv with scope:=relabel scope X.env}) (R acc cenv.locals) s₄) E s₃) E s:=by
 refine Yf (b1w' ?_)
 have hfr:H s.heap.objs.size=none:=I.hok.fresh (Zl _)
 have I3:Inv X pins σ (upd H s.heap.objs.size (.lst [])) {s with heap:=s.heap.push {cls:=.type "list",data:=.seq ([]:List Value).toArray},toks:=s.toks}:=I.lnew (its:=[]) (ys:=[]) .nil (Nat.zero_le _)
 have fpl:∀b∈fp,∃o,s.heap.get? b=some o:=fun b hb=>by obtain⟨o,e,_⟩:=T.obj _ _ st b hb;exact⟨o,e⟩
 have hf3:∀b∈fp,FpOk X pins (upd H s.heap.objs.size (.lst [])) b:=fun b hb=>by
  obtain⟨f0,f1⟩:=hf b hb
  obtain⟨o,ho⟩:=fpl b hb
  exact⟨by rw[a0v' (ZR (Zs ho))];exact f0,f1⟩
 have fpl3:∀b∈fp,∃o,(s.heap.push {cls:=.type "list",data:=.seq ([]:List Value).toArray}).get? b=some o:=fun b hb=>by obtain⟨o,ho⟩:=fpl b hb;exact⟨o,Zf _ ho⟩
 obtain⟨k1,k2⟩:=hcs σ I.len
 obtain⟨h₁,eh⟩:∃h₁,h₁=pushCells ((s.heap.push {cls:=.type "list",data:=.seq ([]:List Value).toArray}).push {cls:=.type "dict",data:=.dict #[]}) scope.names:=⟨_,rfl⟩
 have old3:∀b o,(s.heap.push {cls:=.type "list",data:=.seq ([]:List Value).toArray}).get? b=some o→h₁.get? b=some o:=fun b o e=>by rw[eh];exact pushCells_keeps _ _ _ _ (Zf _ e)
 have hns₁:h₁.Ns (s.heap.push {cls:=.type "list",data:=.seq ([]:List Value).toArray}).objs.size fun _=>none:=by
  rw[eh]
  exact⟨_,_,_,pushCells_keeps _ _ _ _ (Zp _ rfl),rfl,(fun x h=>by simp at h),fun _=>rfl⟩
 have hcl:CellsOk h₁ ((s.heap.push {cls:=.type "list",data:=.seq ([]:List Value).toArray}).objs.size+1) (cellsFrom ((s.heap.push {cls:=.type "list",data:=.seq ([]:List Value).toArray}).objs.size+1) scope.names []):=by
  rw[eh]
  exact b1z' _ _ _
 rw[←eh]
 have J0:=b3D' (tk:=s.toks) (N:=N) (scope:=scope) (σ':=cs σ) hc I3 sc hf3 fpl3 hns₁ old3 hcl k1 k2
 have old:∀b o,s.heap.get? b=some o→h₁.get? b=some o:=fun b o e=>old3 b o (Zf _ e)
 have st1:tn 0 h₁:=T.keep _ _ _ st fun b _ o e=>old b o e
 have hlt:X.env.locals<(s.heap.push {cls:=.type "list",data:=.seq ([]:List Value).toArray}).objs.size:=I3.lt
 have loop:codeAny (model X.prog X.w) X.A (.compLoop (.ListComp elt (⟨tg,iter,ifs,0⟩::rest) scope pos) 0 (.ref it) (.ref s.heap.objs.size) (cxC X scope N (s.heap.push {cls:=.type "list",data:=.seq ([]:List Value).toArray}).objs.size {s with heap:=s.heap.push {cls:=.type "list",data:=.seq ([]:List Value).toArray},toks:=s.toks} (upd H s.heap.objs.size (.lst [])) fp).env)
   (R (.ref s.heap.objs.size) (s.heap.push {cls:=.type "list",data:=.seq ([]:List Value).toArray}).objs.size) {s with heap:=h₁,toks:=s.toks}:=by
  obtain⟨p1,p2⟩:=hin (s.heap.push {cls:=.type "list",data:=.seq ([]:List Value).toArray}).objs.size {s with heap:=s.heap.push {cls:=.type "list",data:=.seq ([]:List Value).toArray},toks:=s.toks} (upd H s.heap.objs.size (.lst [])) fp s.heap.objs.size
  refine a8a' (X:=cxC X scope N _ _ _ fp) (Fin:=fun _ H'=>Fin (.ref s.heap.objs.size) H') rfl hc (heq _ _) T p1 p2 J0 st1 (fun b hb=>?_) ?_ ?_
  ·obtain⟨f0,f1,f2,f3,f4,f5⟩:=hf3 b hb
   obtain⟨o,ho⟩:=fpl3 b hb
   refine⟨f0,ZR (Zs ho),fs_of I3 f1 f2,.inl hb,fun x c h=>?_,fun p hp=>f5 p (by simpa[cxC]using hp)⟩
   rcases a0R' h with z| ⟨_,z⟩
   ·exact fun q=>absurd (Zs ho) (Nat.not_lt.mpr (q▸Nat.le_of_succ_le (hcl.empty x c (ZM z)).2))
   ·exact f4 x c (a7n' scope.names [] (fun _ z=>nomatch z) (x,c) (ZM z))
  ·exact W _ hfr
  ·intro s' σ' H' J1 _ fin
   obtain⟨m,hm,_⟩:=id J1.loc
   refine hR _ _ s' H' m hm (Nat.ne_of_gt hlt) (fun x c h z=>?_) J1.free I3.sz (fun p hp z=>?_) (fun h' hs'=>?_) fin
   ·obtain⟨v,q⟩:=I3.cell x c h
    exact absurd q.lt (by rw[z];exact Nat.lt_irrefl _)
   ·exact absurd (Zs (I3.pin p hp).1) (by rw[z];exact Nat.lt_irrefl _)
   ·exact b3E' I3 hf3 rfl J1 hs'
 exact codeAny_compStart_list loop (T.self _ 0 _ _ _ st1 loop)
theorem pe_comp{elt tg iter:Expr}{ifs:List Expr}{rest:List Comprehension}{scope:Scope}{pos:Pos}{N:List Str}{cs:L2.St→L2.St}{wi:TI}{g:TG}{tb:Addr→TU}(hc:X.calm=true)(sc:CScope X scope)(hcs:CsOk X scope N cs)(hi:PI X tg iter wi)(body:Addr→Env→Sem Unit)
  (heq:∀(it acc:Addr) (env:Env),compTurn (.ListComp elt (⟨tg,iter,ifs,0⟩::rest) scope pos) 0 (.ref it) (.ref acc) env=(standAt iter.pos>>=fun _=>pyNext (.ref it)>>=fun r=>match r with
   |none=>pure (.done .next)
   |some v=>letOwnedTupleGo tg (.ref it) v>>=fun _=>assign tg env v>>=fun _=>body acc env>>=fun _=>again (.compLoop (.ListComp elt (⟨tg,iter,ifs,0⟩::rest) scope pos) 0 (.ref it) (.ref acc) env)))
  (hin:∀(C:Addr) (s0:Shared) (H0:Hp) (fp:List Addr) (acc:Addr),PG (cxC X scope N C s0 H0 fp) tg g∧PB (cxC X scope N C s0 H0 fp) (body acc (cxC X scope N C s0 H0 fp).env) (tb acc))
  (hs:∀x,foldedSetIterable iter X.env x=pure x:=by intro _;rfl):PE X (.ListComp elt (⟨tg,iter,ifs,0⟩::rest) scope pos) (tComp cs wi g tb):=by
 intro pins s σ H Q I h
 rw[eval_ListComp]
 refine wpAny_comprehension_free (use:=none) rfl hs (b2B' I sc) sc.kind sc.loc (wpAny_mono (hi pins s σ H _ I h) (fun v s1 h1=>wpAny_mono h1 (fun itv s2 h2=>?_) fun _ _ e=>e) fun _ _ e=>e)
 obtain⟨it,fp,tn,J,H2,e,I2,T,st2,f2,W⟩:=h2
 subst e
 refine a8b' (R:=fun acc C=>compPost (model X.prog X.w) X.A X.xe none (EP X pins σ Q) acc C) (Fin:=Q) hc sc hcs I2 T st2 f2 body (heq it) hin W ?_
 intro acc C s' H' m hm _ _ _ _ _ hI fin
 exact⟨m,hm,fun h' hs'=>⟨.ref acc,H',hI h' hs',rfl,fin⟩⟩
theorem ps_comp{elt tg iter:Expr}{ifs:List Expr}{rest:List Comprehension}{scope:Scope}{pos spos px:Pos}{N:List Str}{cs:L2.St→L2.St}{wi:TI}{g:TG}{tb:Addr→TU}{x:Str}{j:Nat}(hc:X.calm=true)(hN:X.N.Nodup)(hj:X.N[j]?=some x)(hx:X.env.scope.names.lookup x=some .local)
  (hsw:swapsWith (.ListComp elt (⟨tg,iter,ifs,0⟩::rest) scope pos) (some (.Name x px)) spos.line X.env=pure true)
  (sc:CScope X scope) (hcs:CsOk X scope N cs) (hi:PI X tg iter wi) (body:Addr→Env→Sem Unit)
  (heq:∀(it acc:Addr) (env:Env),compTurn (.ListComp elt (⟨tg,iter,ifs,0⟩::rest) scope pos) 0 (.ref it) (.ref acc) env=(standAt iter.pos>>=fun _=>pyNext (.ref it)>>=fun r=>match r with
   |none=>pure (.done .next)
   |some v=>letOwnedTupleGo tg (.ref it) v>>=fun _=>assign tg env v>>=fun _=>body acc env>>=fun _=>again (.compLoop (.ListComp elt (⟨tg,iter,ifs,0⟩::rest) scope pos) 0 (.ref it) (.ref acc) env)))
  (hin:∀(C:Addr) (s0:Shared) (H0:Hp) (fp:List Addr) (acc:Addr),PG (cxC X scope N C s0 H0 fp) tg g∧PB (cxC X scope N C s0 H0 fp) (body acc (cxC X scope N C s0 H0 fp).env) (tb acc))
  (hs:∀x,foldedSetIterable iter X.env x=pure x:=by intro _;rfl):PS X (.Assign [.Name x px] (.ListComp elt (⟨tg,iter,ifs,0⟩::rest) scope pos) spos) (tAsg (tComp cs wi g tb) (gName j)):=by
 intro pins s σ H D I h
 rw[exec_Assign_Name_used _ _ _ _ hsw]
 refine Za (wpAny_standAt (Za ?_))
 show wpAny _ X.A (do let _ ←comprehension (.ListComp elt (⟨tg,iter,ifs,0⟩::rest) scope pos) scope X.env _ (newList []) false (eval iter X.env) (some (assign (.Name x px) X.env))) _ _ s
 refine Za (wpAny_mono (wpAny_comprehension_free (use:=some (assign (.Name x px) X.env)) (Q:=fun _ s'=>SP X pins D .next s') rfl hs (b2B' I sc) sc.kind sc.loc
  (wpAny_mono (hi pins s σ H _ I h) (fun v s1 h1=>wpAny_mono h1 (fun itv s2 h2=>?_) fun _ _ e=>e) fun _ _ e=>e)) (fun _ s' hq=>Zi (Zi hq)) fun _ _ e=>e)
 obtain⟨it,fp,tn,J,H2,e,I2,T,st2,f2,W⟩:=h2
 subst e
 refine a8b' (R:=fun acc C=>compPost (model X.prog X.w) X.A X.xe (some (assign (.Name x px) X.env)) (fun _ s'=>SP X pins D .next s') acc C) (Fin:=fun v H'=>gName j v σ H' D.nx) hc sc hcs I2 T st2 f2 body (heq it) hin W ?_
 intro acc C s' H' m hm hCL hCc hC1 hC2 hC3 hI fin
 show wpAny _ X.A (assign (.Name x px) X.env (.ref acc)) _ _ s'
 have I4:Inv X pins σ H' s':=by
  have:=hI s'.heap (.refl ..)
  simpa using this
 refine wpAny_assign_Name (a7P' I4 hN hj (.inl hx) (v:=.ref acc) rfl (fun s'' I5 hch=>?_) (.inr hx))
 obtain⟨a,hsb,ha⟩:=hch
 have hCa:C≠a:=by
  rcases ha with rfl|ha
  ·exact hCL
  ·exact fun z=>hCc x a ha z.symm
 refine⟨m,hm.sameBut hsb hCa,fun h' hs'=>?_⟩
 exact⟨_,H',I5.turned (h':=h') (t':=s''.toks) (it:=C) (fun b o hb e=>(hs'.2 b hb).trans e) hC1 hCL (.inr hC2) hCc hC3,fin⟩
end
end Py
end
section
namespace Py
open PySem PySem.Spec PyProof.Rows L2
section
variable {X:Cx}
end
end Py
end
section
namespace Py
open PySem PySem.Spec PyProof.Rows L2
def a5l'(ds:List D)(S:Store):Res D:=maxD ds S
section
variable {X:Cx}
theorem max_any(hc:X.calm=true):CallR X (.builtin "max") (rC X.K X.mg a5l'):=max_D hc
end
end Py
end
section
namespace Py
open PySem PySem.Spec PyProof.Rows L2
section
variable {X:Cx}
def a3y'(ds:List D)(S:Store):Res D:=minD ds S
theorem b3F'(hc:X.calm=true)(hu:1=1):CallR X (.builtin "min") (rC X.K X.mg a3y'):=min_D hc
end
end Py
end
section
namespace Py
open PySem PySem.Spec PyProof.Rows L2
mutual
def toPy:D→Option PyData
 | .non=>some .none
 | .bl b=>some (.bool b)
 | .int i=>some (.int i)
 | .str x=>some (.str x)
 | .tup ds=>(toPyL ds).map .tuple
 | .lst ds=>(toPyL ds).map .list
 |_=>none
def toPyL:List D→Option (List PyData)
 | []=>some []
 |d::ds=>match toPy d,toPyL ds with
  |some p,some ps=>some (p::ps)
  |_,_=>none
end
section
variable {X:Cx}{pins:List (Addr×Obj)}{σ:L2.St}{H:Hp}{s:Shared}{μ:List Addr}{F:List Addr}
mutual
theorem b3G'(I:Inv X pins σ H s):∀(d:D) (v:V) (u:Value) (p:PyData),Rep X.K ⟨X.mg,F⟩ μ H d v→RelV v u→toPy d=some p→p.hasDict=false∧∃as,Reads s.heap u p as
 | .non,v,u,p,r,q,h=>by
  cases a4w' r
  have q:u=.none:=q
  subst q;cases h
  exact⟨rfl,_,.none⟩
 | .bl b,v,u,p,r,q,h=>by
  cases a6j' r
  have q:u=.bool b:=q
  subst q;cases h
  exact⟨rfl,_,.bool b⟩
 | .int i,v,u,p,r,q,h=>by
  cases a0e' r
  obtain⟨t,rfl⟩:=q
  cases h
  exact⟨rfl,_,.int i t⟩
 | .str x,v,u,p,r,q,h=>by
  cases a3V' r
  obtain⟨t,rfl⟩:=q
  cases h
  exact⟨rfl,_,.str x t⟩
 | .tup ds,v,u,p,r,q,h=>by
  obtain⟨a,vs,rfl,ha,rr⟩:=a0y' r
  have q:u=.ref a:=q
  subst q
  obtain⟨its,rv,⟨o,h1,h2,n,h3⟩,_⟩:=I.tuple ha
  have h:(toPyL ds).map PyData.tuple=some p:=h
  cases e:toPyL ds with
  |none=>rw[e]at h;cases h
  |some ps=>
   rw[e]at h
   cases h
   obtain⟨k1,as,k2⟩:=a5F' I ds vs its ps rr rv e
   exact⟨k1,as,.tuple h1 h2 h3 (by simpa using k2)⟩
 | .lst ds,v,u,p,r,q,h=>by
  unfold Rep at r
  obtain⟨a,vs,rfl,ha,_,rr⟩:=r
  have q:u=.ref a:=q
  subst q
  obtain⟨its,rv,pl,_⟩:=I.list (.of ha)
  obtain⟨o,h1,h2,n,h3⟩:=pl.isList
  have h:(toPyL ds).map PyData.list=some p:=h
  cases e:toPyL ds with
  |none=>rw[e]at h;cases h
  |some ps=>
   rw[e]at h
   cases h
   obtain⟨k1,as,k2⟩:=a5F' I ds vs its ps rr rv e
   exact⟨k1,_,.list h1 h2 h3 (by simpa using k2)⟩
 | .ref _,v,u,p,r,q,h=>by cases h
 | .scr _,v,u,p,r,q,h=>by cases h
 | .fn _,v,u,p,r,q,h=>by cases h
 | .dct,v,u,p,r,q,h=>by cases h
 | .ty _,v,u,p,r,q,h=>by cases h
theorem a5F'(I:Inv X pins σ H s):∀(ds:List D) (vs:List V) (us:List Value) (ps:List PyData),RepL X.K ⟨X.mg,F⟩ μ H ds vs→Vals vs us→toPyL ds=some ps→PyData.hasDictAll ps=false∧∃as,ReadsAll s.heap us ps as
 | [],vs,us,ps,r,q,h=>by
  unfold RepL at r
  subst r
  cases q.zero
  cases h
  exact⟨rfl,_,.nil⟩
 |d::ds,vs,us,ps,r,q,h=>by
  obtain⟨w,ws,rfl,r1,r2⟩:=r.uncons
  obtain⟨u,us',rfl,q1,q2⟩:=q.un
  unfold toPyL at h
  split at h
  ·rename_i p ps' e1 e2
   cases h
   obtain⟨k1,as,k2⟩:=b3G' I d w u p r1 q1 e1
   obtain⟨k3,bs,k4⟩:=a5F' I ds ws us' ps' r2 q2 e2
   exact⟨by show(PyData.hasDict p||PyData.hasDictAll ps')=false;rw[k1,k3];rfl,_,.cons k2 k4⟩
  ·cases h
end
end
section
variable {X:Cx}
end
section
variable {X:Cx}
end
end Py
end
section
namespace Py
open PySem PySem.Spec PyProof.Rows L2
section
variable {X:Cx}
end
end Py
end
section
namespace Py
open PySem PySem.Spec PyProof.Rows L2
open PySem.SeqAt PySem.MeetsSeq PySem.MeetsSeq2 PySem.MeetsSeq3
open PySem.AutoSeq1 (wpAny_loadPart')
section
variable {X:Cx}
end
end Py
end
section
namespace Py
open PySem PySem.Spec PyProof.Rows L2
theorem a9M'(n:Nat):Builtin.Slice.sliceAdjust none none (-1) (n:Int)=((n:Int)-1,-1):=rfl
theorem a9N'(n:Nat):Builtin.Slice.slicePlaces ((n:Int)-1) (-1) (-1)=n:=by
 unfold Builtin.Slice.slicePlaces
 have h1:¬((-1:Int)>0):=by omega
 have e:(-(-1:Int))=1:=by omega
 simp only[h1,Z5,e,Int.ediv_one]
 split<;>omega
theorem a4x'{prog:Program}{w:World}{A:Around}{E:Value→Shared→Prop}{s:Shared}{sl:Addr}{t:Tok}{n:Nat}{Q:Int×Int×Nat→Shared→Prop}(hs:s.heap.IsSliceOf sl .none .none (.int (-1) t))
  (h:Q ((n:Int)-1,-1,n) s):wpAny (model prog w) A (Builtin.Slice.sliceApplied (.ref sl) (pure (n:Int))) Q E s:=by
 obtain⟨os,hos,hcs,hds⟩:=id hs
 unfold Builtin.Slice.sliceApplied Builtin.Slice.sliceFields
 refine Za (Za (ZQ hos hds (x:=.none) rfl (Za (ZQ hos hds (x:=.none) rfl (Za (ZQ hos hds (x:=.int (-1) t) rfl (Zi ?_)))))))
 refine Za (HT.a2e' (.int (-1) t) ?_)
 show wpAny _ _ (if((-1:Int)==0)=true then _ else _) _ _ s
 rw[if_neg (by decide)]
 refine Za (HT.a2e' .none (Za (HT.a2e' .none (Za (Zi ?_)))))
 show wpAny _ _ (match Builtin.Slice.sliceAdjust none none (-1) (n:Int)with| (lo,hi)=>pure (lo,(-1:Int),Builtin.Slice.slicePlaces lo hi (-1))) _ _ s
 rw[a9M' n]
 show wpAny _ _ (pure ((n:Int)-1,(-1:Int),Builtin.Slice.slicePlaces ((n:Int)-1) (-1) (-1))) _ _ s
 rw[a9N']
 exact Zi h
theorem a9O'{α β:Type}{f g:α→Option β}:∀{l:List α},(∀x∈l,f x=g x)→l.filterMap f=l.filterMap g
 | [],_=>rfl
 |x::l,h=>by
  have t:=a9O' (l:=l) fun y hy=>h y (Zb _ hy)
  rw[List.filterMap_cons,List.filterMap_cons,h x Zc,t]
theorem b3H'(xs:Array Value):((List.range xs.size).filterMap fun(m:Nat)=>xs[(((xs.size:Int)-1)+(m:Int)*(-1)).toNat]?).toArray=xs.toList.reverse.toArray:=by
 have h:=pick_run xs.toList.reverse.toArray 0 xs.size
 rw[List.filterMap_map]at h
 have e:xs.toList.reverse.toArray.toList.drop 0=xs.toList.reverse:=by simp
 rw[e,Yb (by simp)]at h
 rw[←h]
 congr 1
 refine a9O' fun m hm=>?_
 have hm':m<xs.size:=List.mem_range.1 hm
 have e1:(((xs.size:Int)-1)+(m:Int)*(-1)).toNat=xs.size-1-m:=by omega
 rw[e1]
 show xs[xs.size-1-m]?=xs.toList.reverse.toArray[0+m]?
 rw[Nat.zero_add,List.getElem?_toArray (xs:=xs.toList.reverse),List.getElem?_reverse (by simpa using hm'),ZD,ZV]
theorem a4h'{prog:Program}{w:World}{A:Around}{E:Value→Shared→Prop}{s:Shared}{t sl:Addr}{u:Tok}{items:Array Value}{Q:Value→Shared→Prop}(ht:IsTup s.heap t items)(hs:s.heap.IsSliceOf sl .none .none (.int (-1) u))
  (h:Q (.ref s.heap.objs.size) {s with heap:=s.heap.push {cls:=.type "tuple",data:=.seq items.toList.reverse.toArray}})
  (hsz:items.size≤sizeLine):wpAny (model prog w) A (getItem (.ref t) (.ref sl)) Q E s:=by
 have htake:sizeOk (.seq items.toList.reverse.toArray):=by
  show items.toList.reverse.toArray.size≤sizeLine
  simpa using hsz
 obtain⟨os,hos,hcs,hds⟩:=id hs
 have hTs:s.TypeIs (.ref sl) "slice":=⟨os,hos,hcs⟩
 unfold getItem
 try with_reducible refine wpAny_holding ?_
 first|refine Za (Zi ?_)|skip
 refine Za (wpAny_sequenceKey ht.typeIs (by decide) ?_)
 refine Za (Z4 (name:=Str.ofString "__getitem__") ht.typeIs Ym
  (Yi Ym ht.typeIs entry_tuple_getitem ?_ (args_tuple_getitem _ _)))
 show wpAny _ _ (Builtin.Tuple.tupleItemsOf (.ref t)>>=_) _ _ s
 refine Za (tupleItemsOf_ ht ?_)
 refine Za (wpAny_typeOf hTs ?_)
 rw[if_pos (by decide)]
 refine Za (a4x' hs ?_)
 have hno:¬((((items.size:Int)-1)==0&&(-1:Int)==1&&items.size==items.size)=true):=by
  intro q
  rw[Zt,Zt]at q
  exact absurd q.1.2 (by decide)
 show wpAny _ _ (if(((items.size:Int)-1)==0&&(-1:Int)==1&&items.size==items.size)=true then _ else _) _ _ s
 rw[if_neg hno,b3H']
 first
  |exact Za (m:=Builtin.Tuple.tupleExact _) (Yf (Zi ⟨_,rfl,Zi h⟩) htake)
  |exact Za (m:=Builtin.Tuple.tupleExact _) (Yf (Za (Zi (Zi ⟨_,rfl,Zi h⟩))) htake)
  |exact Za (Za (m:=Builtin.Tuple.tupleExact _) (Yf (Zi (Zi ⟨_,rfl,Zi h⟩)) htake))
  |exact Za (Za (m:=Builtin.Tuple.tupleExact _) (Yf (Zi ⟨_,rfl,Zi h⟩) htake))
def revD(d k:D)(S:Store):Res D:=match d,k with
 | .tup xs,.int i=>if i= -1 then .ok (.tup xs.reverse) S else .fail
 |_,_=>.fail
def rRev(K:PySem.W.Frag)(mg:Str→Option Value):V→V→Hp→VK→Prop:=fun x y H Q=>∃F μ S d k,SOk K ⟨mg,F⟩ μ S H∧Rep K ⟨mg,F⟩ μ H d x∧Rep K ⟨mg,F⟩ μ H k y∧Want K ⟨mg,F⟩ μ H Q (revD d k S)
theorem pe_rev{X:Cx}{e st:Expr}{te ts:TE}{p2 pos:Pos}(he:PE X e te)(hs:PE X st ts):PE X (.Subscript e (.Slice none none (some st) p2) pos) (fun σ H Q=>te σ H fun x H1=>ts σ H1 fun y H2=>rRev X.K X.mg x y H2 Q):=by
 intro pins s σ H Q I h
 refine Subscript_ (thn (he pins s σ H _ I h) fun v s1 ⟨x,H1,I1,r1,q1⟩=>?_)
 refine wpAny_Slice ?_
 rw[evalPart_none,evalPart_some]
 refine Zi (Zi (thn (hs pins s1 σ H1 _ I1 q1) fun vs s3 ⟨y,H3,I3,r3,q3⟩=>?_))
 obtain⟨F,μ,S,d,k,sk,rd,rk,w⟩:=q3
 unfold revD at w
 split at w
 ·rename_i xs i
  split at w
  ·rename_i hi
   subst hi
   have ey:=a0e' rk
   subst ey
   obtain⟨t,rfl⟩:=r3
   obtain⟨a,ws,rfl,hq,r⟩:=a0y' rd
   cases r1
   have I4:Inv X pins σ H3 {s3 with heap:=s3.heap.push {cls:=.type "slice",data:=.fields #[.none,.none,.int (-1) t]}}:=I3.kept (t':=s3.toks) fun b ob q=>Zf _ q
   obtain⟨its,rv,ht,hz⟩:=I4.tuple hq
   have hlen:its.toArray.size=ws.length:=by rw[Zj];exact rv.length.symm
   show wpAny (model X.prog X.w) X.A (subscriptTail e (.Slice none none (some st) p2) (.ref a) (.ref s3.heap.objs.size)) (EP X pins σ Q) X.xe {s3 with heap:=s3.heap.push {cls:=.type "slice",data:=.fields #[.none,.none,.int (-1) t]}}
   refine tail_any (ops:=[.ref a,.ref s3.heap.objs.size]) ht.typeIs PyProof.Rows.slot_tuple_getitem.lookup (a4h' ht (Heap.IsSliceOf.new ..) ?_ (by rw[hlen];exact hz)) (by with_unfolding_all rfl)
   refine⟨.ref _,_,I4.laid (t':=s3.toks) (o:=.tup ws.reverse) (fun b ob q=>Zf _ q) (Zl _) ?_,rfl,w.tup sk r.reverse _ (I4.hok.fresh (Zl _))⟩
   exact⟨by rw[List.length_reverse];exact hz,_,rv.reverse,IsTup.new _ _,NoD.new _ _⟩
  ·exact w.elim
 ·exact w.elim
end Py
end
section
namespace Py
open PySem PySem.Spec PyProof.Rows L2
section
variable {X:Cx}
end
end Py
end
section
namespace Py
open PySem PySem.Spec PyProof.Rows L2
section
open PySem.AutoSeq1 (wpAny_loadPart')
open PySem.MeetsSeq PySem.MeetsSeq2 PySem.MeetsSeq3
open PySem.AutoSeq1
theorem b1A'(l:Addr)(items:Array Value)(n:Nat)(b:Addr)(items2:Array Value)(n2:Nat)(hc0:¬(!items.isEmpty&&Builtin.List.listTooLong (items.size+items2.size))=true)(hc1:items.size≤sizeLine)(hs2:items.size+items2.size≤sizeLine+1):
  Meets (Builtin.«list.__iadd__» ⟨[.ref l,.ref b],[]⟩) (fun _ R s=>s.heap.get? l=some {cls:=.type "list",dict:=none,data:=.seq items n,slots:= #[]}∧s.heap.get? b=some {cls:=.type "list",dict:=none,data:=.seq items2 n2,slots:= #[]}∧R (.ok (.ret (.ref l))) {s with heap:=s.heap.update l (Obj.mapSeq fun x=>x++items2),toks:=s.toks}):=
 .of_wp fun prog w A R s h=>by
  obtain⟨hp,g,d,tk,os⟩:=s;obtain⟨hl,hb,h⟩:=h;have f1:=idx_int;have g2:=PyProof.Rows.sub_tuple_tuple;have g3:=PyProof.Rows.sub_list_list;have g4:=PyProof.Rows.sub_tuple_list;have g5:=PyProof.Rows.sub_list_tuple
  have hz':(items++items2).size≤sizeLine+1:=by rw[Array.size_append];exact hs2
  wp_walk using(wpAny_updateSeq hl rfl (hz:=hc1) (_hz':=hz')),wpAny_loadPart' hl,wpAny_loadPart' hb
  exact⟨_,rfl,h⟩
end
theorem a7p'{M:Model}{A:Around}{E:Value→Shared→Prop}{s:Shared}{a b:Value}{T id:String}{Q:Value→Shared→Prop}(ha:s.TypeIs a T)(hb:s.TypeIs b T)(hi:typeLookup (.type T) (dunderI "add")=pure (some (.builtin id)))(hsq:isSeqSlot (some (.builtin id))=true)
  (hfill:fillsNumberSlot (.type T) "add"=pure false) (hc:wpAny M A (call (.builtin id) [a,b]) Q E s):wpAny M A (inplaceOp .Add a b) Q E s:=by
 unfold inplaceOp
 refine wpAny_holding ?_
 have hfi:fillsInplaceSlot (.type T) "add" (Operator.Add== .Add)=pure false:=by
  unfold fillsInplaceSlot
  show(typeLookup (.type T) (dunderI "add")>>=fun fi=>pure (fi.isSome&& !isSeqSlot fi))=pure false
  rw[hi,pure_bind,hsq];rfl
 have hsi:seqSlot? (.type T) (dunderI "add")=pure (some (.builtin id)):=PySem.seqSlot_of hi hsq
 refine Za (wpAny_typeOf ha (Za (wpAny_of_eq hfi ?_)))
 show wpAny M A (if false=true then _ else _) Q E s
 rw[if_neg Bool.false_ne_true]
 refine Za (wpAny_binaryOp1_none (nm:="add") ha hb hfill ?_)
 refine Za (wpAny_of_eq hsi ?_)
 exact Za (wpAny_rule hc)
section
variable {X:Cx}
def augD(d e:D)(S:Store):Res D:=match d with
 | .ref n=>match S[n]?,a2H' S e with
  |some xs,some ys=>if xs.length+ys.length≤big then .ok (.ref n) (S.set n (xs++ys))else .fail
  |_,_=>.fail
 |_=>.fail
def rAug(K:PySem.W.Frag)(mg:Str→Option Value):TIp:=fun x y H Q=>∃F μ S d e,SOk K ⟨mg,F⟩ μ S H∧Rep K ⟨mg,F⟩ μ H d x∧Rep K ⟨mg,F⟩ μ H e y∧Want K ⟨mg,F⟩ μ H Q (augD d e S)
theorem aug_D:PIp X .Add (rAug X.K X.mg):=by
 intro pins s σ H x y v u Q I rx ry h
 obtain⟨F,μ,S,d,e,sk,rd,re,w⟩:=h
 have hb:=a6i'
 unfold augD at w
 split at w
 ·split at w
  ·rename_i n _ _ xs ys e1 e2
   split at w
   ·rename_i hz
    obtain⟨a,vs,rfl,hn,ha,r⟩:=a7Z' sk rd e1
    obtain⟨b,ws,rfl,hB,r2⟩:=a0M' sk re e2
    cases rx
    cases ry
    have hl1:=r.length
    have hl2:=r2.length
    obtain⟨z,its,n',rv,hl,e'⟩:=I.lstM ha
    obtain⟨z2,its2,n2,rv2,hl2',e2'⟩:=I.lstM hB
    have hsz:its.toArray.size+its2.toArray.size≤sizeLine:=by rw[Zj,Zj];omega
    have hlong:¬(!its.toArray.isEmpty&&Builtin.List.listTooLong (its.toArray.size+its2.toArray.size))=true:=by
     rw[a7l' hsz,Bool.and_false]
     exact Bool.false_ne_true
    refine a7p' (T:="list") (id:="list.__iadd__") ⟨_,e',rfl⟩ ⟨_,e2',rfl⟩ PySem.F.slot_list_iadd.lookup (by decide+kernel) noFill_list_add ?_
    refine call_meets PySem.F.slot_list_iadd ⟨_,e',rfl⟩ PySem.F.entry_list_iadd (PySem.F.args_list_iadd_2 _ _) (b1A' a its.toArray n' b its2.toArray n2 hlong (by rw[Zj];omega) (by omega)) ⟨e',e2',?_⟩
    refine⟨.ref a,_,I.lset (its':=its++its2) ha e' (by simp) (rv.append rv2) ?_,rfl,w.wrote sk hn ha (r.append r2) ?_⟩
    ·rw[Zn]
     omega
    ·unfold Rep
     exact⟨a,rfl,hn⟩
   ·exact w.elim
  ·exact w.elim
 ·exact w.elim
end
end Py
end
section
namespace Py
open PySem PySem.Spec PyProof.Rows L2
section
theorem b1B'(a b c:Value):checkTypeCall "range" ⟨[a,b,c],[]⟩=pure ():=by kernel_rfl
theorem b1C'(a b c:Value):checkBuiltinCall "range.__new__" ⟨[.type "range",a,b,c],[]⟩=pure ():=by kernel_rfl
theorem b1D'(obj a b c:Value):argsOk "object.__init__" ⟨[obj,a,b,c],[]⟩:=by
 unfold argsOk;rw[signature?_of (id:="object.__init__") (n:=['_','_','t','i','n','i','_','_']) (o:=['t','c','e','j','b','o']) (by kernel_rfl) F.owner_object];kernel_rfl
theorem pylong2(x:Int):Builtin.divisionGoesByPylong x 2=false:=by
 unfold Builtin.divisionGoesByPylong
 rfl
variable {prog:Program}{w:World}{A:Around}{E:Value→Shared→Prop}{s:Shared}
theorem a8N'{a b:Int}{t u v:Tok}{Q:Value→Shared→Prop}
  (h:Q (.ref s.heap.objs.size) {s with heap:=s.heap.push {cls:=.type "range",data:=.fields #[.int a t,.int b u,.int 2 v]},toks:=s.toks}):
  wpAny (model prog w) A (call (.type "range") [.int a t,.int b u,.int 2 v]) Q E s:=
 callType_new F.called_range (by decide) (b1B' _ _ _) (b1C' _ _ _) (fun obj=>b1D' obj _ _ _) F.entry_range_new
  (AutoRange.range___new___type_int_int_int_1 a b 2 t u v F.called_range.sub (by decide)) ⟨pylong2 _,⟨_,Zp _ rfl,rfl⟩,h⟩
theorem rsz2(a b:Int):Builtin.Range.rangeSize a b 2=(((b-a+1)/2).toNat:Int):=by
 unfold Builtin.Range.rangeSize
 simp only[show(2:Int)>0 by decide,if_true]
 split<;>omega
theorem small2{a b:Int}(ha: -(2^60)≤a)(ha':a<2^60)(hb: -(2^60)≤b)(hb':b<2^60):Builtin.Range.small a b 2=true:=by
 unfold Builtin.Range.small
 rw[rsz2]
 simp only[Builtin.Range.rangeFitsLong,Zt,Bool.or_eq_true,decide_eq_true_eq,beq_iff_eq,show(2:Int)>0 by decide,if_true]
 omega
end
def Itr2(lo:Int)(n:Nat):It:=⟨fun i _=>i<n,fun i H x H'=>H'=H∧x=.int (lo+i*2),fun i _=>n≤i⟩
theorem b3I'{P:Program}{w:World}{K:PySem.W.Frag}{tg:Expr}(it:Addr)(lo:Int)(n:Nat):Turn P w K tg (Itr2 lo n) [it] it (fun i h=>IsRangeIter h it (lo+(i:Nat)*2) ((n:Int)-(i:Nat)) 2) where
 mem:=by simp
 obj:=fun i h st b hb=>by
  have e:b=it:=by simpa using hb
  subst e
  exact⟨_,st,fun v z=>by
   have z':Data.fields _=Data.cell v:=z
   cases z'⟩
 keep:=fun i h h' st k=>k it (by simp) _ st
 item:=by
  intro X hP hw hK hc i pins s σ H E I hf st hg
  subst hP hw hK
  obtain⟨f0,f1,f2,f3,f4,f5⟩:=hf it (by simp)
  have W:=Walks.range (prog:=X.prog) (w:=X.w) (I.ok.hd hc) it lo 2 n
  refine W.item i s _ _ hg st fun v h' tk hv st' kk=>?_
  obtain⟨t,rfl⟩:=hv
  have I1:Inv X pins σ H {s with heap:=h',toks:=tk}:=I.turned (fun b o hb e=>kk b o (by simpa using hb) e) f0 f1 f3 f4 f5
  exact⟨_,rfl,go_of (s:={s with heap:=h',toks:=tk}) (n:="range_iterator") st' rfl rfl (by decide) ⟨.int (lo+i*2),H,I1,⟨t,rfl⟩,⟨rfl,rfl⟩,st',fun b hb=>(hf b hb).1⟩⟩
 done:=by
  intro X hP hw hK hc i pins s σ H E I hf st hg
  subst hP hw hK
  obtain⟨f0,f1,f2,f3,f4,f5⟩:=hf it (by simp)
  exact wpAny_pyNext_range_end (I.ok.hd hc) st (by have:n≤i:=hg;omega) fun h' eb=>⟨rfl,I.turned (t':=s.toks) (fun b o hb e=>eb b o hb e) f0 f1 f3 f4 f5⟩
 self:=fun _ _ _ _ _ st h=>wpAny_pyIter_rangeiter st h
def iBy2(ta:TA):TI:=fun σ H R=>ta σ H fun vs H1=>∃i j:Int,vs=[.int i,.int j,.int 2]∧(-(2^60)≤i∧i<2^60∧-(2^60)≤j∧j<2^60)∧R (Itr2 i ((j-i+1)/2).toNat) H1
theorem pi_by2{X:Cx}{tg a b c:Expr}{ta:TA}{p pos:Pos}(hg:Gl X "range")(hm:X.mg "range"=none)(ha:PA X [a,b,c] ta)(hs:starEach [a,b,c] X.env=(false,eval a X.env)::starEach [b,c] X.env)(hs2:starEach [b,c] X.env=[(false,eval b X.env),(false,eval c X.env)]):
  PI X tg (.Call (.Name "range" p) [a,b,c] [] pos) (iBy2 ta):=by
 intro pins s σ H R I h
 refine Call_ (a6e' I hg hm boot_range (PyProof.Rows.callWith_type1 (thn (ha pos pins s σ H _ I h) fun us s1 ⟨vs,H1,I1,r1,q1⟩=>?_) hs (by rw[hs2];rfl)))
 obtain⟨i,j,e,⟨q1,q2,q3,q4⟩,q⟩:=q1
 subst e
 cases r1 with
 |cons r rr=>
 cases rr with
 |cons r' rr=>
 cases rr with
 |cons r'' rr=>
 cases rr
 obtain⟨t,rfl⟩:=r
 obtain⟨u,rfl⟩:=r'
 obtain⟨v,rfl⟩:=r''
 refine a8N' ?_
 refine wpAny_pyIter_range (IsRange.new ..) (small2 q1 q2 q3 q4) ?_
 have I2:Inv X pins σ H1 {s1 with heap:=s1.heap.push {cls:=.type "range",data:=.fields #[.int i t,.int j u,.int 2 v]},toks:=s1.toks}:=I1.kept fun b o e=>Zf _ e
 refine⟨(s1.heap.push {cls:=.type "range",data:=.fields #[.int i t,.int j u,.int 2 v]}).objs.size,[(s1.heap.push {cls:=.type "range",data:=.fields #[.int i t,.int j u,.int 2 v]}).objs.size],_,_,H1,rfl,
  I2.kept (t':=s1.toks) fun b o e=>Zf _ e,b3I' _ i ((j-i+1)/2).toNat,?_,fun b hb=>?_,q⟩
 ·show IsRangeIter _ _ (i+((0:Nat):Int)*2) (((((j-i+1)/2).toNat:Nat):Int)-((0:Nat):Int)) 2
  rw[show i+((0:Nat):Int)*2=i by simp,show(((((j-i+1)/2).toNat:Nat):Int)-((0:Nat):Int))=Builtin.Range.rangeSize i j 2 by rw[rsz2];simp]
  exact Zp _ rfl
 ·have e:b=(s1.heap.push {cls:=.type "range",data:=.fields #[.int i t,.int j u,.int 2 v]}).objs.size:=by simpa using hb
  subst e
  exact I2.fpOk (Zl _) (I2.hok.fresh (Zl _))
end Py
end
section
namespace Py
open PySem PySem.Spec PyProof.Rows L2
inductive KTy where
 |int|seq (t:KTy)
 deriving DecidableEq
inductive Blt where
 |len|tuple|list (box:Bool)|int|min|max|isinst|all|any|sum|repr|abs|sorted (box:Bool) (t:KTy)
 deriving DecidableEq
inductive Mth where
 |append|extend|pop|count|insert
 deriving DecidableEq
inductive CT where
 |var (i:Nat)
 |tup (ts:List CT)
inductive CE where
 |var (i:Nat)
 |lit (d:D)
 |glob (x:Str)
 |ty (n:String)
 |bin (op:Operator) (a b:CE)
 |binB (a b:CE)
 |neg (a:CE)
 |cmp (op:CmpOp) (a b:CE)
 |chain (op op':CmpOp) (a b c:CE)
 |band (a b:CE)
 |bor (a b:CE)
 |bnot (a:CE)
 |ite (c a b:CE)
 |tup (es:List CE)
 |lst (box:Bool) (es:List CE)
 |idx (a b:CE)
 |sl (a:CE) (lo hi:List CE)
 |call (f:Str) (es:List CE)
 |blt (b:Blt) (es:List CE)
 |meth (m:Mth) (o:CE) (es:List CE)
 |tix (o:CE) (es:List CE)
 |lenset (a:CE)
 |rng (tup box:Bool) (es:List CE)
 |comp (box:Bool) (N:List Str) (fr:List (Option Nat)) (tg:CT) (it:CE) (ifs:List CE) (body:CE)
 |emit (e:CE)
 |inner (tg:CT) (it:CE) (ifs:List CE) (body:CE)
 |seq (e:CE)
 |range (es:List CE)
 |zip (es:List CE)
 |down (es:List CE)
 |dct
 |rev (a b:CE)
 |odd (a b c:CE)
 |enum (es:List CE)
 |revl (es:List CE)
 |by2 (es:List CE)
inductive CS where
 |asg (i:Nat) (e:CE)
 |asgT (t:CT) (e:CE)
 |par (is:List Nat) (es:List CE)
 |aug (i:Nat) (e:CE)
 |set (o i v:CE)
 |set2 (o i o' i' v:CE)
 |expr (e:CE)
 |ret (e:CE)
 |retN
 |pass
 |brk
 |cont
 |ite (c:CE) (a b:List CS)
 |for_ (t:CT) (it:CE) (body:List CS)
 |while_ (n:Nat) (c:CE) (body:List CS)
 |never
abbrev Rho:=List (Option D)
abbrev FT:=Str→Option (List D→Store→Res D)
def Res.bind{α β:Type}(r:Res α)(f:α→Store→Res β):Res β:=match r with
 | .ok a S=>f a S
 | .err x S=>.err x S
 | .fail=>.fail
def Res.noErr{α:Type}:Res α→Res α
 | .ok a S=>.ok a S
 |_=>.fail
def onBl{α:Type}(d:D)(f:Bool→Res α):Res α:=match d with
 | .bl k=>f k
 |_=>.fail
def asgVs:List CT→List D→Rho→Option Rho
 | [],ds,ρ=>if ds.isEmpty=true then some ρ else none
 |t::ts,ds,ρ=>match t,ds with
  | .var i,d::ds=>asgVs ts ds (ρ.set i (some d))
  |_,_=>none
def asgCT:CT→D→Rho→Option Rho
 | .var i,d,ρ=>some (ρ.set i (some d))
 | .tup ts,d,ρ=>match d with
  | .tup ds=>asgVs ts ds ρ
  |_=>none
def a5d':List CT→List Nat
 | []=>[]
 |t::ts=>match t with
  | .var i=>i::a5d' ts
  | .tup _=>a5d' ts
def slots:CT→List Nat
 | .var i=>[i]
 | .tup ts=>a5d' ts
def isNew:Rho→List Nat→Bool
 |ρ,is=>is.all fun i=>match ρ[i]? with
  |some none=>true
  |_=>false
def a0p'(t:CT)(d:D)(ρ:Rho):Option Rho:=if isNew ρ (slots t)=true then asgCT t d ρ else none
inductive Its where
 |items (xs:List D)|live (f:Nat) (get:Store→Nat→Option (Option D))
def compD(step:D→List D→Store→Res (List D)):List D→List D→Store→Res (List D)
 | [],acc,S=>.ok acc S
 |x::xs,acc,S=>(step x acc S).bind fun acc' S'=>compD step xs acc' S'
def compB(step:D→List D→Store→Res (List D))(get:Store→Nat→Option (Option D)):Nat→Nat→List D→Store→Res (List D)
 |0,_,_,_=>.fail
 |f+1,i,acc,S=>match get S i with
  |none=>.fail
  |some none=>.ok acc S
  |some (some x)=>(step x acc S).bind fun acc' S'=>compB step get f (i+1) acc' S'
def compI(step:D→List D→Store→Res (List D))(its:Its)(acc:List D)(S:Store):Res (List D):=match its with
 | .items xs=>compD step xs acc S
 | .live f get=>compB step get f 0 acc S
def a3z'(n:Nat):Store→Nat→Option (Option D):=fun S i=>(S[n]?).map fun xs=>xs[i]?
def a1h'(S:Store):D→Option Its
 | .tup xs=>some (.items xs)
 | .lst xs=>some (.items xs)
 | .scr xs=>some (.items xs)
 | .ref n=>some (.live (((S[n]?).getD []).length+1) (a3z' n))
 |_=>none
def a5e':D→Option (List D)
 | .tup xs=>some xs
 | .lst xs=>some xs
 | .scr xs=>some xs
 |_=>none
def a6n'(d e:D):Store→Nat→Option (Option D):=fun S i=>match seqOf S d,seqOf S e with
 |some xs,some ys=>some (match xs[i]?,ys[i]? with
  |some x,some y=>some (.tup [x,y])
  |_,_=>none)
 |_,_=>none
def isLst:D→Bool
 | .tup _=>false
 |_=>true
def zipOf(S:Store)(d e:D):Option Its:=match a5e' d,a5e' e with
  |some xs,some ys=>some (.items (List.zipWith (fun x y=>.tup [x,y]) xs ys))
  |_,_=>match seqOf S d,seqOf S e with
   |some xs,some ys=>some (.live (min xs.length ys.length+1) (a6n' d e))
   |_,_=>none
def a3A'(lo:Int):Nat→List D
 |0=>[]
 |n+1=>.int lo::a3A' (lo+1) n
def by2L(lo:Int):Nat→List D
 |0=>[]
 |n+1=>.int lo::by2L (lo+2) n
def enumL:Nat→List D→List D
 |_,[]=>[]
 |k,x::xs=>.tup [.int (k:Nat),x]::enumL (k+1) xs
def toOpt:List D→Option (Option Int)
 | []=>some none
 | [.int i]=>some (some i)
 |_=>none
def optL(ds:List D)(S:Store):Res (Option Int):=match toOpt ds with
 |some o=>.ok o S
 |none=>.fail
def hasTy:KTy→D→Bool
 | .int,.int _=>true
 | .seq t,.tup xs=>xs.all (hasTy t)
 |_,_=>false
def lexB(f:D→D→Bool):List D→List D→Bool
 | [],[]=>false
 | [],_::_=>true
 |_::_,[]=>false
 |x::xs,y::ys=>if f x y=true then true else if f y x=true then false else lexB f xs ys
def ltK:KTy→D→D→Bool
 | .int,.int i,.int j=>decide (i<j)
 | .seq t,.tup xs,.tup ys=>lexB (ltK t) xs ys
 |_,_,_=>false
def insB(f:D→D→Bool)(x:D):List D→List D
 | []=>[x]
 |y::ys=>if f x y=true then x::y::ys else y::insB f x ys
def a4i'(f:D→D→Bool)(xs:List D):List D:=xs.foldl (fun acc x=>insB f x acc) []
def noStr:KTy→Bool
 | .int=>true
 | .seq t=>noStr t
def isNil:D→Bool
 | .tup []=>true
 |_=>false
def a4y':KTy→List D→Bool
 | .int,_=>true
 | .seq t,xs=>noStr t&&((xs.all fun d=> !isNil d)||isNil (xs.headD .non))
def a4z'(box:Bool)(t:KTy)(ds:List D)(S:Store):Res D:=match ds with
 | [d]=>match seqOf S d with
  |some xs=>if xs.all (hasTy t)=true∧xs.length<65536∧a4y' t xs=true then(if box=true then .ok (.ref S.length) (S++[a4i' (ltK t) xs])else .ok (.lst (a4i' (ltK t) xs)) S)else .fail
  |none=>.fail
 |_=>.fail
def asInt:D→Option Int
 | .int i=>some i
 |_=>none
def dedI(ns:List Int):List Int:=ns.foldl step_dedup []
def a8c'(d:D)(S:Store):Res D:=match seqOf S d with
  |some xs=>if xs.all (hasTy .int)=true∧xs.length<1000 then .ok (.int ((dedI (xs.filterMap asInt)).length:Nat)) S else .fail
  |none=>.fail
def depth:KTy→Nat
 | .int=>1
 | .seq t=>depth t+1
def bltB:Blt→Bool
 | .sorted _ t=>decide (depth t≤40)
 | .sum=>false
 | .list _=>false
 | .repr=>false
 | .abs=>false
 |_=>true
def bltD:Blt→List D→Store→Res D
 | .len=>lenD| .tuple=>a8M'| .list _=>fun _ _=>.fail | .int=>intD| .min=>a3y'| .max=>a5l'| .isinst=>a0N'| .all=>allD| .any=>anyD| .sum=>fun _ _=>.fail | .repr=>fun _ _=>.fail | .abs=>fun _ _=>.fail
 | .sorted b t=>a4z' b t
def methD:Mth→D→List D→Store→Res D
 | .append=>a3e'| .extend=>a6l'| .pop=>fun _ _ _=>.fail | .count=>fun _ _ _=>.fail | .insert=>fun _ _ _=>.fail
section
variable (Φ:FT)(Γ:Str→Option D)
mutual
def den:CE→Rho→Store→Res D
 | .var i,ρ,S=>match ρ[i]? with
  |some (some d)=>.ok d S
  |_=>.fail
 | .dct,ρ,S=>.ok .dct S
 | .lit d,ρ,S=>.ok d S
 | .glob x,ρ,S=>match Γ x with
  |some d=>.ok d S
  |none=>.fail
 | .ty n,ρ,S=>.ok (.ty n) S
 | .bin op a b,ρ,S=>(den a ρ S).bind fun d S1=>(den b ρ S1).bind fun e S2=>(opD op d e S2).noErr
 | .binB a b,ρ,S=>(den a ρ S).bind fun d S1=>(den b ρ S1).bind fun e S2=>(mulBD d e S2).noErr
 | .neg a,ρ,S=>(den a ρ S).bind fun d S1=>match d with
  | .int i=>.ok (.int (-i)) S1
  |_=>.fail
 | .cmp op a b,ρ,S=>(den a ρ S).bind fun d S1=>(den b ρ S1).bind fun e S2=>(cmpD op d e S2).noErr
 | .chain op op' a b c,ρ,S=>(den a ρ S).bind fun d S1=>(den b ρ S1).bind fun e S2=>(cmpD op d e S2).noErr.bind fun k S3=>onBl k fun k=>if k=true then(den c ρ S3).bind fun f S4=>(cmpD op' e f S4).noErr else .ok (.bl false) S3
 | .band a b,ρ,S=>(den a ρ S).bind fun d S1=>onBl d fun k=>if k=true then den b ρ S1 else .ok (.bl false) S1
 | .bor a b,ρ,S=>(den a ρ S).bind fun d S1=>onBl d fun k=>if k=true then .ok (.bl true) S1 else den b ρ S1
 | .bnot a,ρ,S=>(den a ρ S).bind fun d S1=>match truD S1 d with
  |some k=>.ok (.bl (!k)) S1
  |none=>.fail
 | .ite c a b,ρ,S=>(denT c ρ S).bind fun k S1=>if k=true then den a ρ S1 else den b ρ S1
 | .tup es,ρ,S=>(denL es ρ S).bind fun ds S1=>.ok (.tup ds) S1
 | .lst box es,ρ,S=>(denL es ρ S).bind fun ds S1=>if box=true then .ok (.ref S1.length) (S1++[ds])else .ok (.lst ds) S1
 | .rev a b,ρ,S=>(den a ρ S).bind fun d S1=>(den b ρ S1).bind fun e S2=>(revD d e S2).noErr
 | .odd _ _ _,_,_=>.fail
 | .idx a b,ρ,S=>(den a ρ S).bind fun d S1=>(den b ρ S1).bind fun e S2=>(idxD d e S2).noErr
 | .sl a lo hi,ρ,S=>(den a ρ S).bind fun d S1=>((denL lo ρ S1).bind optL).bind fun l S2=>((denL hi ρ S2).bind optL).bind fun h S3=>(slD d l h S3).noErr
 | .call f es,ρ,S=>match Φ f with
  |some φ=>(denL es ρ S).bind fun ds S1=>φ ds S1
  |none=>.fail
 | .blt b es,ρ,S=>(denL es ρ S).bind fun ds S1=>(bltD b ds S1).noErr
 | .meth m o es,ρ,S=>(den o ρ S).bind fun d S1=>match d with
  | .ref n=>(denL es ρ S1).bind fun ds S2=>(methD m (.ref n) ds S2).noErr
  |_=>.fail
 | .tix _ _,_,_=>.fail
 | .lenset a,ρ,S=>(den a ρ S).bind fun d S1=>(a8c' d S1).noErr
 | .rng _ _ _,_,_=>.fail
 | .comp box N fr tg it ifs body,ρ,S=>(denI it ρ S).bind fun its S1=>
   (compI (fun x acc S2=>match a0p' tg x (fr.map fun j=>j.bind fun j=>(ρ[j]?).join)with
    |some ρ'=>(denTs ifs ρ' S2).bind fun k S3=>if k=true then denB body ρ' acc S3 else .ok acc S3
    |none=>.fail) its [] S1).noErr.bind fun ys S5=>if box=true then .ok (.ref S5.length) (S5++[ys])else .ok (.lst ys) S5
 | .emit _,_,_=>.fail
 | .inner _ _ _ _,_,_=>.fail
 | .seq _,_,_=>.fail
 | .range _,_,_=>.fail
 | .zip _,_,_=>.fail
 | .down _,_,_=>.fail
 | .enum _,_,_=>.fail
 | .revl _,_,_=>.fail
 | .by2 _,_,_=>.fail
def denT:CE→Rho→Store→Res Bool
 | .band a b,ρ,S=>(denT a ρ S).bind fun k S1=>if k=true then denT b ρ S1 else .ok false S1
 | .bor a b,ρ,S=>(denT a ρ S).bind fun k S1=>if k=true then .ok true S1 else denT b ρ S1
 | .bnot a,ρ,S=>(denT a ρ S).bind fun k S1=>.ok (!k) S1
 | .cmp op a b,ρ,S=>(den a ρ S).bind fun d S1=>(den b ρ S1).bind fun e S2=>(cmpD op d e S2).noErr.bind fun k S3=>onBl k fun k=>.ok k S3
 | .chain op op' a b c,ρ,S=>(den a ρ S).bind fun d S1=>(den b ρ S1).bind fun e S2=>(cmpD op d e S2).noErr.bind fun k S3=>onBl k fun k=>if k=true then(den c ρ S3).bind fun f S4=>(cmpD op' e f S4).noErr.bind fun k S5=>onBl k fun k=>.ok k S5 else .ok false S3
 | .var i,ρ,S=>match ρ[i]? with
  |some (some d)=>match truD S d with
   |some k=>.ok k S
   |none=>.fail
  |_=>.fail
 | .call f es,ρ,S=>match Φ f with
  |some φ=>(denL es ρ S).bind fun ds S1=>(φ ds S1).bind fun d S2=>match truD S2 d with
   |some k=>.ok k S2
   |none=>.fail
  |none=>.fail
 | .blt b es,ρ,S=>(denL es ρ S).bind fun ds S1=>(bltD b ds S1).noErr.bind fun d S2=>match truD S2 d with
   |some k=>.ok k S2
   |none=>.fail
 | .lit d,ρ,S=>match truD S d with
   |some k=>.ok k S
   |none=>.fail
 |_,_,_=>.fail
def denL:List CE→Rho→Store→Res (List D)
 | [],_,S=>.ok [] S
 |e::es,ρ,S=>(den e ρ S).bind fun d S1=>(denL es ρ S1).bind fun ds S2=>.ok (d::ds) S2
def denTs:List CE→Rho→Store→Res Bool
 | [],_,S=>.ok true S
 |e::es,ρ,S=>(denT e ρ S).bind fun k S1=>if k=true then denTs es ρ S1 else .ok false S1
def denI:CE→Rho→Store→Res Its
 | .seq e,ρ,S=>(den e ρ S).bind fun d S1=>match a1h' S1 d with
  |some xs=>.ok xs S1
  |none=>.fail
 | .range es,ρ,S=>(denL es ρ S).bind fun ds S1=>match ds with
  | [.int j]=>if-(2^62)≤j∧j<2^62 then .ok (.items (a3A' 0 j.toNat)) S1 else .fail
  | [.int i,.int j]=>if-(2^62)≤i∧i<2^62∧-(2^62)≤j∧j<2^62 then .ok (.items (a3A' i (j-i).toNat)) S1 else .fail
  |_=>.fail
 | .enum es,ρ,S=>(denL es ρ S).bind fun ds S1=>match ds with
  | [d]=>(match a5e' d with
   |some xs=>.ok (.items (enumL 0 xs)) S1
   |none=>.fail)
  |_=>.fail
 | .by2 es,ρ,S=>(denL es ρ S).bind fun ds S1=>match ds with
  | [.int i,.int j,.int c]=>if c=2∧-(2^60)≤i∧i<2^60∧-(2^60)≤j∧j<2^60 then .ok (.items (by2L i ((j-i+1)/2).toNat)) S1 else .fail
  |_=>.fail
 | .revl _,_,_=>.fail
 | .down _,_,_=>.fail
 | .zip es,ρ,S=>(denL es ρ S).bind fun ds S2=>match ds with
  | [d,e]=>(match zipOf S2 d e with
   |some its=>.ok its S2
   |none=>.fail)
  |_=>.fail
 |_,_,_=>.fail
def denB:CE→Rho→List D→Store→Res (List D)
 | .emit e,ρ,acc,S=>(den e ρ S).bind fun y S1=>if acc.length<big then .ok (acc++[y]) S1 else .fail
 | .inner tg it ifs body,ρ,acc,S=>(denI it ρ S).bind fun its S1=>
   compI (fun x acc S2=>match a0p' tg x ρ with
    |some ρ'=>(denTs ifs ρ' S2).bind fun k S3=>if k=true then denB body ρ' acc S3 else .ok acc S3
    |none=>.fail) its acc S1
 |_,_,_,_=>.fail
end
inductive Fl where
 |next(ρ:Rho)|ret (d:D)|brk (ρ:Rho)|cont (ρ:Rho)
def forD(step:D→Rho→Store→Res Fl):List D→Rho→Store→Res Fl
 | [],ρ,S=>.ok (.next ρ) S
 |x::xs,ρ,S=>(step x ρ S).bind fun f S'=>match f with
  | .next ρ'=>forD step xs ρ' S'
  | .cont ρ'=>forD step xs ρ' S'
  | .brk ρ'=>.ok (.next ρ') S'
  | .ret d=>.ok (.ret d) S'
def forB(step:D→Rho→Store→Res Fl)(get:Store→Nat→Option (Option D)):Nat→Nat→Rho→Store→Res Fl
 |0,_,_,_=>.fail
 |f+1,i,ρ,S=>match get S i with
  |none=>.fail
  |some none=>.ok (.next ρ) S
  |some (some x)=>(step x ρ S).bind fun fl S'=>match fl with
    | .next ρ'=>forB step get f (i+1) ρ' S'
    | .cont ρ'=>forB step get f (i+1) ρ' S'
    | .brk ρ'=>.ok (.next ρ') S'
    | .ret d=>.ok (.ret d) S'
def forI(step:D→Rho→Store→Res Fl)(its:Its)(ρ:Rho)(S:Store):Res Fl:=match its with
 | .items xs=>forD step xs ρ S
 | .live f get=>forB step get f 0 ρ S
def a3B'(c:Rho→Store→Res Bool)(step:Rho→Store→Res Fl):Nat→Rho→Store→Res Fl
 |0,_,_=>.fail
 |n+1,ρ,S=>(c ρ S).bind fun k S1=>if k=true then(step ρ S1).bind fun f S'=>match f with
   | .next ρ'=>a3B' c step n ρ' S'
   | .cont ρ'=>a3B' c step n ρ' S'
   | .brk ρ'=>.ok (.next ρ') S'
   | .ret d=>.ok (.ret d) S'
  else .ok (.next ρ) S1
mutual
def denS:CS→Rho→Store→Res Fl
 | .asg i e,ρ,S=>(den Φ Γ e ρ S).bind fun d S1=>.ok (.next (ρ.set i (some d))) S1
 | .asgT t e,ρ,S=>(den Φ Γ e ρ S).bind fun d S1=>match asgCT t d ρ with
  |some ρ'=>.ok (.next ρ') S1
  |none=>.fail
 | .par _ _,_,_=>.fail
 | .aug i e,ρ,S=>match ρ[i]? with
  |some (some d)=>(den Φ Γ e ρ S).bind fun y S1=>(augD d y S1).noErr.bind fun z S2=>.ok (.next (ρ.set i (some z))) S2
  |_=>.fail
 | .set o i v,ρ,S=>(den Φ Γ v ρ S).bind fun f S1=>(den Φ Γ o ρ S1).bind fun d S2=>(den Φ Γ i ρ S2).bind fun e S3=>match setD d e f S3 with
  |some S4=>.ok (.next ρ) S4
  |none=>.fail
 | .set2 _ _ _ _ _,_,_=>.fail
 | .expr e,ρ,S=>(den Φ Γ e ρ S).bind fun _ S1=>.ok (.next ρ) S1
 | .ret e,ρ,S=>(den Φ Γ e ρ S).bind fun d S1=>.ok (.ret d) S1
 | .retN,_,S=>.ok (.ret .non) S
 | .pass,ρ,S=>.ok (.next ρ) S
 | .brk,ρ,S=>.ok (.brk ρ) S
 | .cont,ρ,S=>.ok (.cont ρ) S
 | .ite c a b,ρ,S=>(denT Φ Γ c ρ S).bind fun k S1=>if k=true then denSs a ρ S1 else denSs b ρ S1
 | .for_ t it body,ρ,S=>(denI Φ Γ it ρ S).bind fun xs S1=>forI (fun x ρ S=>match asgCT t x ρ with
   |some ρ'=>denSs body ρ' S
   |none=>.fail) xs ρ S1
 | .while_ n c body,ρ,S=>a3B' (denT Φ Γ c) (denSs body) n ρ S
 | .never,_,_=>.fail
def denSs:List CS→Rho→Store→Res Fl
 | [],ρ,S=>.ok (.next ρ) S
 |c::cs,ρ,S=>(denS c ρ S).bind fun f S1=>match f with
  | .next ρ'=>denSs cs ρ' S1
  |f=>.ok f S1
end
end
end Py
end
section
namespace Py
open PySem PySem.Spec PyProof.Rows L2
def ExcIs(mg:Str→Option Value)(x:Exc)(cls:Value)(dict:Option Addr)(H:Hp):Prop:=mg x.cls=some cls∧x.fs=[]
def exOf(mg:Str→Option Value)(E:XK)(x:Exc)(H:Hp):Prop:=∀cls dict,ExcIs mg x cls dict H→E cls dict H
def WantG{α β:Type}(K:PySem.W.Frag)(mg:GS)(E:XK)(Rel:List Addr→Hp→α→β→Prop)(μ:List Addr)(H:Hp)(Q:β→Hp→Prop):Res α→Prop
 | .ok a S'=>∀μ' H' b,Ext μ H μ' H'→SOk K mg μ' S' H'→Rel μ' H' a b→Q b H'
 | .err x S'=>∀μ' H',Ext μ H μ' H'→SOk K mg μ' S' H'→exOf mg.mg E x H'
 | .fail=>False
section
variable {K:PySem.W.Frag}{mg:GS}{E:XK}{μ μ':List Addr}{H H':Hp}
theorem a1i'{Q:VK}{r:Res D}(w:WantG K mg E (Rep K mg) μ H Q r.noErr):Want K mg μ H Q r:=by cases r<;>first|exact w|exact w.elim
theorem WantG.ext{α β:Type}{Rel:List Addr→Hp→α→β→Prop}{Q:β→Hp→Prop}{r:Res α}(x:Ext μ H μ' H')(w:WantG K mg E Rel μ H Q r):WantG K mg E Rel μ' H' Q r:=by
 cases r with
 |ok d S'=>exact fun μ2 H2 v x2 s2 r2=>w μ2 H2 v (x.trans x2) s2 r2
 |err y S'=>exact fun μ2 H2 x2 s2=>w μ2 H2 (x.trans x2) s2
 |fail=>exact w
theorem WantG.bind{α β γ δ:Type}{Rel:List Addr→Hp→α→β→Prop}{Rel':List Addr→Hp→γ→δ→Prop}{Q:δ→Hp→Prop}{r:Res α}{f:α→Store→Res γ}(w:WantG K mg E Rel' μ H Q (r.bind f)):
  WantG K mg E Rel μ H (fun b H'=>∃μ' S' a,Ext μ H μ' H'∧SOk K mg μ' S' H'∧Rel μ' H' a b∧WantG K mg E Rel' μ' H' Q (f a S')) r:=by
 cases r with
 |ok a S'=>exact fun μ2 H2 b x s r=>⟨μ2,S',a,x,s,r,WantG.ext x (show WantG K mg E Rel' μ H Q (f a S')from w)⟩
 |err y S'=>exact w
 |fail=>exact w
theorem WantG.mono{α β:Type}{Rel:List Addr→Hp→α→β→Prop}{Q Q':β→Hp→Prop}{r:Res α}(w:WantG K mg E Rel μ H Q r)(h:∀b H',Q b H'→Q' b H'):WantG K mg E Rel μ H Q' r:=by
 cases r with
 |ok a S'=>exact fun μ2 H2 b x s r=>h b H2 (w μ2 H2 b x s r)
 |err y S'=>exact w
 |fail=>exact w
def EnvR(K:PySem.W.Frag)(mg:GS)(μ:List Addr)(H:Hp)(ρ:Rho)(σ:L2.St):Prop:=
 ρ.length=σ.length∧∀(i:Nat) (d:D),ρ[i]?=some (some d)→∃v,σ[i]?=some (some v)∧Rep K mg μ H d v
theorem EnvR.mono{ρ:Rho}{σ:L2.St}(x:Ext μ H μ' H')(h:EnvR K mg μ H ρ σ):EnvR K mg μ' H' ρ σ:=
 ⟨h.1,fun i d e=>let⟨v,a,b⟩:=h.2 i d e;⟨v,a,Rep.mono x _ _ b⟩⟩
theorem EnvR.set{ρ:Rho}{σ:L2.St}{i:Nat}{d:D}{v:V}(h:EnvR K mg μ H ρ σ)(r:Rep K mg μ H d v):EnvR K mg μ H (ρ.set i (some d)) (σ.set i (some v)):=by
 refine⟨by simp[h.1],fun j e he=>?_⟩
 by_cases hj:j=i
 ·subst hj
  have hl:j<ρ.length:=by
   have:=(Zh.mp he).1
   simpa using this
  rw[List.getElem?_set_self hl]at he
  cases he
  exact⟨v,List.getElem?_set_self (by rw[←h.1];exact hl),r⟩
 ·rw[List.getElem?_set_ne (Ne.symm hj)]at he⊢
  exact h.2 j e he
end
section
variable (K:PySem.W.Frag)(mg:Str→Option Value)(E:XK)(Φ:FT)(Γ:Str→Option D)
def tE(c:CE):TE:=fun σ H Q=>∃F μ ρ S,SOk K ⟨mg,F⟩ μ S H∧EnvR K ⟨mg,F⟩ μ H ρ σ∧WantG K ⟨mg,F⟩ E (Rep K ⟨mg,F⟩) μ H Q (den Φ Γ c ρ S)
def tT(c:CE):TT:=fun σ H Q=>∃F μ ρ S,SOk K ⟨mg,F⟩ μ S H∧EnvR K ⟨mg,F⟩ μ H ρ σ∧WantG K ⟨mg,F⟩ E (fun _ _ a b=>a=b) μ H Q (denT Φ Γ c ρ S)
def tL(cs:List CE):TA:=fun σ H Q=>∃F μ ρ S,SOk K ⟨mg,F⟩ μ S H∧EnvR K ⟨mg,F⟩ μ H ρ σ∧WantG K ⟨mg,F⟩ E (RepL K ⟨mg,F⟩) μ H Q (denL Φ Γ cs ρ S)
end
theorem weakE{X:Cx}{e:Expr}{t t':TE}(h:PE X e t)(w:∀σ H Q,t' σ H Q→t σ H Q):PE X e t':=fun pins s σ H Q I q=>h pins s σ H Q I (w σ H Q q)
theorem weakT{X:Cx}{e:Expr}{t t':TT}(h:PT X e t)(w:∀σ H Q,t' σ H Q→t σ H Q):PT X e t':=fun pins s σ H Q I q=>h pins s σ H Q I (w σ H Q q)
theorem weakA{X:Cx}{e:List Expr}{t t':TA}(h:PA X e t)(w:∀σ H Q,t' σ H Q→t σ H Q):PA X e t':=fun pos pins s σ H Q I q=>h pos pins s σ H Q I (w σ H Q q)
def visB(sc:List (Str×NameKind))(x:Str):Bool:=match sc.lookup x with
 |some .local=>true|some .cell=>true|some .free=>true
 |_=>false
def gloB(sc:List (Str×NameKind))(x:Str):Bool:=sc.lookup x==some .globalImplicit&& !(x==("__debug__":Str))&& !(x==("__name__":Str))
def b1E'(x:Str):Bool:= !(x==("__debug__":Str))&& !(x==("__classdict__":Str))
def a0D':Expr→Bool
 | .Starred _ _=>false
 |_=>true
def litIs:D→Const→Bool
 | .non,.none=>true
 | .bl b,.bool c=>b==c
 | .int i,.int j=>i==j
 | .str x,.str y=>x==y
 |_,_=>false
def a4A':Blt→Str
 | .len=>"len"| .tuple=>"tuple"| .list _=>"list"| .int=>"int"| .min=>"min"| .max=>"max"| .isinst=>"isinstance"| .all=>"all"| .any=>"any"| .sum=>"sum"| .repr=>"repr"| .abs=>"abs"| .sorted _ _=>"sorted"
def bltIs:Blt→Value
 | .len=>.builtin "len"| .tuple=>.type "tuple"| .list _=>.type "list"| .int=>.type "int"| .min=>.builtin "min"| .max=>.builtin "max"| .isinst=>.builtin "isinstance"| .all=>.builtin "all"| .any=>.builtin "any"| .sum=>.builtin "sum"| .repr=>.builtin "repr"| .abs=>.builtin "abs"| .sorted _ _=>.builtin "sorted"
theorem b3J'(b:Blt):bootBuiltins (a4A' b)=some (bltIs b):=by
 cases b with
 |list box=>show bootBuiltins (Str.ofString "list")=some (.type "list");decide+kernel
 |sorted box t=>show bootBuiltins (Str.ofString "sorted")=some (.builtin "sorted");decide+kernel
 |_=>decide+kernel
def a5m':List String:=["int","bool","str","tuple","list","dict"]
theorem ty_boot{n:String}(h:a5m'.contains n=true):bootBuiltins (Str.ofString n)=some (.type n):=by
 simp[a5m']at h
 rcases h with rfl|rfl|rfl|rfl|rfl|rfl<;>decide+kernel
end Py
end
section
namespace Py
open PySem PySem.Spec PyProof.Rows L2
abbrev Sc:=List (Str×NameKind)
def relB(names sc:Sc):Sc:=names.map fun(n,k)=>if(k== .free&&sc.lookup n==some .cell)then(n,.cell)else(n,k)
def ownB(names:Sc):Str→Bool:=fun x=>names.lookup x==some .cell
def scB(scope:Scope)(sc:Sc):Bool:=scope.kind== .function&&scope.names.all fun(n,k)=>(k !=.cell||scope.names.lookup n==some .cell)&&(k !=.local||scope.names.lookup n==some .local)&&(k !=.free||(sc.lookup n==some .cell||sc.lookup n==some .free))
def frB(names:Sc)(N' N:List Str)(fr:List (Option Nat)):Bool:=fr.length==N'.length&&(List.range N'.length).all fun i=>match fr[i]? with
 |some (some j)=>(match N'[i]? with
  |some x=>names.lookup x==some .free&&N[j]?==some x
  |none=>false)
 |_=>true
def a8O':List Str→Bool
 | []=>true
 |x::r=> !r.contains x&&a8O' r
def a3C':Expr→Bool
 | .Slice _ _ _ _=>false
 |_=>true
theorem b3K'{b:Expr}(h:a3C' b=true):b2y' b:=by
 intro o i
 cases b<;>first|rfl|cases h
def a8d':Mth→Str
 | .append=>"append"| .extend=>"extend"| .pop=>"pop"| .count=>"count"| .insert=>"insert"
def isNm:Expr→Bool
 | .Name _ _=>true
 |_=>false
def isTup:Expr→Bool
 | .Tuple _ _ _=>true
 |_=>false
def b1F':Expr→Bool
 | .Set _ _ _=>false
 |_=>true
def dE:Expr:=.Name "" ⟨0,0,0,0⟩
def dG:Comprehension:=⟨dE,dE,[],0⟩
structure Nd where
 e0:Expr:=dE
 e1:Expr:=dE
 e2:Expr:=dE
 es:List Expr:=[]
 lo:Option Expr:=none
 hi:Option Expr:=none
 gs:List Comprehension:=[]
 sc:Scope:=default
 k:Nat:=0
 pos:Pos:=⟨0,0,0,0⟩
def vw:Expr→Nd
 | .BoolOp _ vs p=>{es:=vs,pos:=p}
 | .BinOp l _ r p=>{e0:=l,e1:=r,pos:=p}
 | .UnaryOp _ x p=>{e0:=x,pos:=p}
 | .IfExp t x y p=>{e0:=t,e1:=x,e2:=y,pos:=p}
 | .ListComp el gs sc p=>{e0:=el,gs:=gs,sc:=sc,pos:=p}
 | .Compare l _ rs p=>{e0:=l,es:=rs,pos:=p}
 | .Call f xs _ p=>{e0:=f,es:=xs,pos:=p}
 | .Constant _ k p=>{k:=k,pos:=p}
 | .Attribute v _ p=>{e0:=v,pos:=p}
 | .Subscript v s p=>{e0:=v,e1:=s,pos:=p}
 | .Name _ p=>{pos:=p}
 | .List es p=>{es:=es,pos:=p}
 | .Tuple es k p=>{es:=es,k:=k,pos:=p}
 | .Slice l u s p=>{lo:=l,hi:=u,e2:=s.getD dE,pos:=p}
 | .Dict _ _ p=>{pos:=p}
 |_=>{}
def b2C':D→Const
 | .bl b=>.bool b
 | .int i=>.int i
 | .str x=>.str x
 |_=>.none
def a9P':CT→Bool
 | .tup _=>true
 |_=>false
def b3L':CE→Bool
 | .band _ _=>true
 |_=>false
def isBor:CE→Bool
 | .bor _ _=>true
 |_=>false
def isCmp:CE→Bool
 | .comp .. =>true
 |_=>false
mutual
def emT:CT→List Str→Expr→Expr
 | .var i,N,e=>.Name (N.getD i "") (vw e).pos
 | .tup ts,N,e=>.Tuple (emTL ts N (vw e).es) (vw e).k (vw e).pos
def emTL:List CT→List Str→List Expr→List Expr
 | [],_,_=>[]
 |t::ts,N,es=>emT t N (es.headD dE)::emTL ts N es.tail
end
mutual
def sdT(cell:Str→Bool)(N:List Str)(sc:Sc):CT→Bool
 | .var i=>N[i]?==some (N.getD i "")&&(sc.lookup (N.getD i "")==some .local||(cell (N.getD i "")&&sc.lookup (N.getD i "")==some .cell))
 | .tup ts=>sdTL cell N sc ts
def sdTL(cell:Str→Bool)(N:List Str)(sc:Sc):List CT→Bool
 | []=>true
 |t::ts=>sdT cell N sc t&&sdTL cell N sc ts
end
mutual
def emE:CE→List Str→Expr→Expr
 | .var i,N,e=>.Name (N.getD i "") (vw e).pos
 | .dct,_,e=>.Dict [] [] (vw e).pos
 | .odd _ _ _,_,e=>e
 | .rev a b,N,e=>.Subscript (emE a N (vw e).e0) (.Slice none none (some (emE b N (vw (vw e).e1).e2)) (vw (vw e).e1).pos) (vw e).pos
 | .lit d,_,e=>.Constant (b2C' d) (vw e).k (vw e).pos
 | .glob y,_,e=>.Name y (vw e).pos
 | .ty n,_,e=>.Name (Str.ofString n) (vw e).pos
 | .bin op a b,N,e=>.BinOp (emE a N (vw e).e0) op (emE b N (vw e).e1) (vw e).pos
 | .binB a b,N,e=>.BinOp (emE a N (vw e).e0) .Mult (emE b N (vw e).e1) (vw e).pos
 | .neg a,N,e=>.UnaryOp .USub (emE a N (vw e).e0) (vw e).pos
 | .cmp op a b,N,e=>.Compare (emE a N (vw e).e0) [op] [emE b N ((vw e).es.headD dE)] (vw e).pos
 | .chain op op' a b c,N,e=>.Compare (emE a N (vw e).e0) [op,op'] [emE b N ((vw e).es.headD dE),emE c N ((vw e).es.tail.headD dE)] (vw e).pos
 | .band a b,N,e=>.BoolOp .And (emE a N ((vw e).es.headD dE)::cond ((vw e).es.length==2) [emE b N ((vw e).es.tail.headD dE)] (vw (emE b N (.BoolOp .And (vw e).es.tail (vw e).pos))).es) (vw e).pos
 | .bor a b,N,e=>.BoolOp .Or (emE a N ((vw e).es.headD dE)::cond ((vw e).es.length==2) [emE b N ((vw e).es.tail.headD dE)] (vw (emE b N (.BoolOp .Or (vw e).es.tail (vw e).pos))).es) (vw e).pos
 | .bnot a,N,e=>.UnaryOp .Not (emE a N (vw e).e0) (vw e).pos
 | .ite c a b,N,e=>.IfExp (emE c N (vw e).e0) (emE a N (vw e).e1) (emE b N (vw e).e2) (vw e).pos
 | .tup es,N,e=>.Tuple (emL es N (vw e).es) (vw e).k (vw e).pos
 | .lst _ es,N,e=>.List (emL es N (vw e).es) (vw e).pos
 | .idx a b,N,e=>.Subscript (emE a N (vw e).e0) (emE b N (vw e).e1) (vw e).pos
 | .sl a lo hi,N,e=>.Subscript (emE a N (vw e).e0) (.Slice (emL lo N (vw (vw e).e1).lo.toList).head? (emL hi N (vw (vw e).e1).hi.toList).head? none (vw (vw e).e1).pos) (vw e).pos
 | .call f es,N,e=>.Call (.Name f (vw (vw e).e0).pos) (emL es N (vw e).es) [] (vw e).pos
 | .blt b es,N,e=>.Call (.Name (a4A' b) (vw (vw e).e0).pos) (emL es N (vw e).es) [] (vw e).pos
 | .tix _ _,_,e=>e
 | .meth m o es,N,e=>.Call (.Attribute (emE o N (vw (vw e).e0).e0) (a8d' m) (vw (vw e).e0).pos) (emL es N (vw e).es) [] (vw e).pos
 | .lenset a,N,e=>.Call (.Name "len" (vw (vw e).e0).pos) [.Call (.Name "set" (vw (vw ((vw e).es.headD dE)).e0).pos) [emE a N ((vw ((vw e).es.headD dE)).es.headD dE)] [] (vw ((vw e).es.headD dE)).pos] [] (vw e).pos
 | .rng _ _ _,_,e=>e
 | .comp _ N' _ tg it ifs body,N,e=>.ListComp (emBe body N' (vw e).e0) (⟨emT tg N' ((vw e).gs.headD dG).target,emI it N ((vw e).gs.headD dG).iter,emL ifs N' ((vw e).gs.headD dG).ifs,0⟩::emBg body N' (vw e).gs.tail) (vw e).sc (vw e).pos
 | .emit _,_,e=>e
 | .inner _ _ _ _,_,e=>e
 | .seq _,_,e=>e
 | .range _,_,e=>e
 | .zip _,_,e=>e
 | .down _,_,e=>e
 | .enum _,_,e=>e
 | .revl _,_,e=>e
 | .by2 _,_,e=>e
def emBe:CE→List Str→Expr→Expr
 | .emit a,N,e=>emE a N e
 | .inner _ _ _ body,N,e=>emBe body N e
 |_,_,e=>e
def emBg:CE→List Str→List Comprehension→List Comprehension
 | .inner tg it ifs body,N,gs=>⟨emT tg N (gs.headD dG).target,emI it N (gs.headD dG).iter,emL ifs N (gs.headD dG).ifs,0⟩::emBg body N gs.tail
 |_,_,_=>[]
def emL:List CE→List Str→List Expr→List Expr
 | [],_,_=>[]
 |c::cs,N,es=>emE c N (es.headD dE)::emL cs N es.tail
def emI:CE→List Str→Expr→Expr
 | .seq c,N,e=>emE c N e
 | .range es,N,e=>.Call (.Name "range" (vw (vw e).e0).pos) (emL es N (vw e).es) [] (vw e).pos
 | .enum es,N,e=>.Call (.Name "enumerate" (vw (vw e).e0).pos) (emL es N (vw e).es) [] (vw e).pos
 | .by2 es,N,e=>.Call (.Name "range" (vw (vw e).e0).pos) (emL es N (vw e).es) [] (vw e).pos
 | .revl _,_,e=>e
 | .down _,_,e=>e
 | .zip es,N,e=>.Call (.Name "zip" (vw (vw e).e0).pos) (emL es N (vw e).es) [] (vw e).pos
 |_,_,e=>e
end
mutual
def sdE:CE→List Str→Sc→Expr→Bool
 | .var i,N,sc,_=>N[i]?==some (N.getD i "")&&(visB sc (N.getD i "")&&b1E' (N.getD i ""))
 | .dct,_,_,_=>true
 | .odd _ _ _,_,_,_=>false
 | .rev a b,N,sc,e=>sdE a N sc (vw e).e0&&sdE b N sc (vw (vw e).e1).e2
 | .lit d,_,_,_=>litIs d (b2C' d)
 | .glob y,_,sc,_=>gloB sc y
 | .ty n,_,sc,_=>gloB sc (Str.ofString n)&&a5m'.contains n
 | .bin _ a b,N,sc,e=>sdE a N sc (vw e).e0&&sdE b N sc (vw e).e1
 | .binB a b,N,sc,e=>sdE a N sc (vw e).e0&&sdE b N sc (vw e).e1
 | .neg a,N,sc,e=>sdE a N sc (vw e).e0
 | .cmp op a b,N,sc,e=>sdE a N sc (vw e).e0&&(sdE b N sc ((vw e).es.headD dE)&& !behindInMarks op (emE b N ((vw e).es.headD dE)))
 | .chain _ op' a b c,N,sc,e=>sdE a N sc (vw e).e0&&(sdE b N sc ((vw e).es.headD dE)&&(sdE c N sc ((vw e).es.tail.headD dE)&& !behindInMarks op' (emE c N ((vw e).es.tail.headD dE))))
 | .band a b,N,sc,e=>sdE a N sc ((vw e).es.headD dE)&&cond ((vw e).es.length==2) (sdE b N sc ((vw e).es.tail.headD dE)) (b3L' b&&sdE b N sc (.BoolOp .And (vw e).es.tail (vw e).pos))
 | .bor a b,N,sc,e=>sdE a N sc ((vw e).es.headD dE)&&cond ((vw e).es.length==2) (sdE b N sc ((vw e).es.tail.headD dE)) (isBor b&&sdE b N sc (.BoolOp .Or (vw e).es.tail (vw e).pos))
 | .bnot a,N,sc,e=>sdE a N sc (vw e).e0
 | .ite c a b,N,sc,e=>sdE c N sc (vw e).e0&&(sdE a N sc (vw e).e1&&sdE b N sc (vw e).e2)
 | .tup es,N,sc,e=>sdL es N sc (vw e).es&&decide (es.length<1000)
 | .lst _ es,N,sc,e=>sdL es N sc (vw e).es&&decide (es.length<1000)
 | .idx a b,N,sc,e=>sdE a N sc (vw e).e0&&(sdE b N sc (vw e).e1&&a3C' (emE b N (vw e).e1))
 | .sl a lo hi,N,sc,e=>sdE a N sc (vw e).e0&&(sdL lo N sc (vw (vw e).e1).lo.toList&&(sdL hi N sc (vw (vw e).e1).hi.toList&&(decide (lo.length<2)&&decide (hi.length<2))))
 | .call f es,N,sc,e=>gloB sc f&&(sdL es N sc (vw e).es&& !es.isEmpty)
 | .blt b es,N,sc,e=>gloB sc (a4A' b)&&(sdL es N sc (vw e).es&&(!es.isEmpty&&bltB b))
 | .tix _ _,_,_,_=>false
 | .meth m o es,N,sc,e=>isNm (emE o N (vw (vw e).e0).e0)&&((vw (vw e).e0).pos.endLine==(vw e).pos.line&&(sdE o N sc (vw (vw e).e0).e0&&(sdL es N sc (vw e).es&&decide (es.length<20))))
 | .lenset a,N,sc,e=>gloB sc "len"&&(gloB sc "set"&&(sdE a N sc ((vw ((vw e).es.headD dE)).es.headD dE)&&a0D' (emE a N ((vw ((vw e).es.headD dE)).es.headD dE))))
 | .rng _ _ _,_,_,_=>false
 | .comp _ N' fr tg it ifs body,N,sc,e=>scB (vw e).sc sc&&(frB (vw e).sc.names N' N fr&&(a8O' N'&&(sdT (ownB (vw e).sc.names) N' (relB (vw e).sc.names sc) tg&&(sdI it N sc tg ((vw e).gs.headD dG).iter&&(b1F' (emI it N ((vw e).gs.headD dG).iter)&&(sdL ifs N' (relB (vw e).sc.names sc) ((vw e).gs.headD dG).ifs&&sdB body (ownB (vw e).sc.names) N' (relB (vw e).sc.names sc) (vw e).gs.tail (vw e).e0))))))
 | .emit _,_,_,_=>false
 | .inner _ _ _ _,_,_,_=>false
 | .seq _,_,_,_=>false
 | .range _,_,_,_=>false
 | .zip _,_,_,_=>false
 | .down _,_,_,_=>false
 | .enum _,_,_,_=>false
 | .revl _,_,_,_=>false
 | .by2 _,_,_,_=>false
def sdB:CE→(Str→Bool)→List Str→Sc→List Comprehension→Expr→Bool
 | .emit a,_,N,sc,_,e=>sdE a N sc e
 | .inner tg it ifs body,cell,N,sc,gs,e=>sdT cell N sc tg&&(sdI it N sc tg (gs.headD dG).iter&&(b1F' (emI it N (gs.headD dG).iter)&&(sdL ifs N sc (gs.headD dG).ifs&&sdB body cell N sc gs.tail e)))
 |_,_,_,_,_,_=>false
def sdL:List CE→List Str→Sc→List Expr→Bool
 | [],_,_,_=>true
 |c::cs,N,sc,es=>sdE c N sc (es.headD dE)&&(a0D' (emE c N (es.headD dE))&&sdL cs N sc es.tail)
def sdI:CE→List Str→Sc→CT→Expr→Bool
 | .seq c,N,sc,_,e=>sdE c N sc e
 | .range es,N,sc,_,e=>gloB sc "range"&&(sdL es N sc (vw e).es&&(es.length==1||es.length==2))
 | .enum es,N,sc,t,e=>gloB sc "enumerate"&&(sdL es N sc (vw e).es&&(es.length==1&&a9P' t))
 | .by2 es,N,sc,_,e=>gloB sc "range"&&(sdL es N sc (vw e).es&&es.length==3)
 | .revl _,_,_,_,_=>false
 | .down _,_,_,_,_=>false
 | .zip es,N,sc,t,e=>gloB sc "zip"&&(sdL es N sc (vw e).es&&(es.length==2&&a9P' t))
 |_,_,_,_,_=>false
end
theorem andB{a b:Bool}(h:(a&&b)=true):a=true∧b=true:=Bool.and_eq_true_iff.mp h
theorem decB{p:Prop} [Decidable p] (h:decide p=true):p:=of_decide_eq_true h
theorem notB{a:Bool}(h:(!a)=true):a=false:=by cases a;rfl;cases h
end Py
end
section
namespace Py
open PySem PySem.Spec PyProof.Rows L2
def spOf(K:PySem.W.Frag)(mg:Str→Option Value)(n:Nat)(φ:List D→Store→Res D):Sp:=fun vs H Q E=>vs.length=n∧∃F μ S ds,SOk K ⟨mg,F⟩ μ S H∧RepL K ⟨mg,F⟩ μ H ds vs∧WantG K ⟨mg,F⟩ E (Rep K ⟨mg,F⟩) μ H Q (φ ds S)
structure FOk (P:Program)(w:World)(K:PySem.W.Frag)(mg:Str→Option Value)(base:Heap)(CX:CXT)(k:Nat)(f:Str)(φ:List D→Store→Res D):Prop where
 ex:∃fa fd ps,mg f=some (.ref fa)∧PySem.W.keepIn K (.ref fa)=true∧Binds K fd ps []∧FnOk P w K mg base CX k fa fd ps (spOf K mg ps.length φ)∧∀ds S,φ ds S≠.fail→ds.length=ps.length
def a2g':List Str:=["len","tuple","list","int","min","max","isinstance","all","any","sorted","bool","str","dict","range","zip","set","sum","reversed","repr","abs","enumerate"]
structure MOk (P:Program)(w:World)(K:PySem.W.Frag)(mg:Str→Option Value)(base:Heap)(CX:CXT)(Φ:FT)(Γ:Str→Option D)(k:Nat):Prop where
 fns:∀f φ,Φ f=some φ→FOk P w K mg base CX k f φ
 gl:∀x d,Γ x=some d→∃v u,mg x=some u∧RelV v u∧∀F μ H,Rep K ⟨mg,F⟩ μ H d v
 bl:∀x∈a2g',mg x=none
structure XOk (X:Cx)(cell:Str→Bool)(N:List Str)(sc:Sc)(CX:CXT)(E:XK)(Φ:FT)(Γ:Str→Option D)(k:Nat):Prop where
 n:X.N=N
 nd:N.Nodup
 sc:X.env.scope.names=sc
 kd:X.env.scope.kind=.function
 calm:X.calm=true
 room:Room k X.A
 fn:∀x,cell x=true→X.fn x=true
 mod:MOk X.prog X.w X.K X.mg X.base CX Φ Γ k
 pass:b3r' CX X E
 cx0:∀outer H s e s',CX outer H s E0 e s'→False
section
variable {X:Cx}{E:XK}{CX:CXT}{Φ:FT}{Γ:Str→Option D}{N:List Str}{sc:Sc}{k:Nat}{cell:Str→Bool}{l r e:Expr}{pos:Pos}{a b c:CE}
theorem s_bin{op:Operator}(ha:PE X l (tE X.K X.mg E Φ Γ a))(hb:PE X r (tE X.K X.mg E Φ Γ b)):PE X (.BinOp l op r pos) (tE X.K X.mg E Φ Γ (.bin op a b)):=
 weakE (pe_op (op_D op) ha hb) fun σ H Q zz=>ex43 zz fun F μ ρ S sk en w=>
  ⟨F,μ,ρ,S,sk,en,(WantG.bind w).mono fun v1 H1 zz=>ex34 zz fun μ1 S1 d1 x1 s1 r1 w1=>⟨F,μ1,ρ,S1,s1,en.mono x1,(WantG.bind w1).mono fun v2 H2 zz=>ex34 zz fun μ2 S2 d2 x2 s2 r2 w2=>⟨F,μ2,S2,d1,d2,s2,Rep.mono x2 _ _ r1,r2,a1i' w2⟩⟩⟩
theorem s_binB(ha:PE X l (tE X.K X.mg E Φ Γ a))(hb:PE X r (tE X.K X.mg E Φ Γ b)):PE X (.BinOp l .Mult r pos) (tE X.K X.mg E Φ Γ (.binB a b)):=
 weakE (pe_op op_BD ha hb) fun σ H Q zz=>ex43 zz fun F μ ρ S sk en w=>
  ⟨F,μ,ρ,S,sk,en,(WantG.bind w).mono fun v1 H1 zz=>ex34 zz fun μ1 S1 d1 x1 s1 r1 w1=>⟨F,μ1,ρ,S1,s1,en.mono x1,(WantG.bind w1).mono fun v2 H2 zz=>ex34 zz fun μ2 S2 d2 x2 s2 r2 w2=>⟨F,μ2,S2,d1,d2,s2,Rep.mono x2 _ _ r1,r2,a1i' w2⟩⟩⟩
theorem s_cmp{op:CmpOp}(hu:X.A.units+64<cLine)(ha:PE X l (tE X.K X.mg E Φ Γ a))(hb:PE X r (tE X.K X.mg E Φ Γ b))(hm:behindInMarks op r=false):PE X (.Compare l [op] [r] pos) (tE X.K X.mg E Φ Γ (.cmp op a b)):=
 weakE (pe_cmpR (cmp_D op hu) ha hb hm) fun σ H Q zz=>ex43 zz fun F μ ρ S sk en w=>
  ⟨F,μ,ρ,S,sk,en,(WantG.bind w).mono fun v1 H1 zz=>ex34 zz fun μ1 S1 d1 x1 s1 r1 w1=>⟨F,μ1,ρ,S1,s1,en.mono x1,(WantG.bind w1).mono fun v2 H2 zz=>ex34 zz fun μ2 S2 d2 x2 s2 r2 w2=>⟨F,μ2,S2,d1,d2,s2,Rep.mono x2 _ _ r1,r2,a1i' w2⟩⟩⟩
theorem a5n'{K:PySem.W.Frag}{mg:GS}{E:XK}{μ:List Addr}{H:Hp}{α β:Type}{Rel:List Addr→Hp→α→β→Prop}{Q:β→Hp→Prop}{d:D}{f:Bool→Res α}{v:V}
  (w:WantG K mg E Rel μ H Q (onBl d f)) (r:Rep K mg μ H d v):∃k,v=.bl k∧d=.bl k∧WantG K mg E Rel μ H Q (f k):=by
 cases d with
 |bl k=>exact⟨k,a6j' r,rfl,w⟩
 |_=>exact w.elim
theorem t_cmp{op:CmpOp}(hu:X.A.units+64<cLine)(ha:PE X l (tE X.K X.mg E Φ Γ a))(hb:PE X r (tE X.K X.mg E Φ Γ b))(hm:behindInMarks op r=false):PT X (.Compare l [op] [r] pos) (tT X.K X.mg E Φ Γ (.cmp op a b)):=
 weakT (pt_cmpR (cmp_D op hu) ha hb hm) fun σ H Q zz=>ex43 zz fun F μ ρ S sk en w=>
  ⟨F,μ,ρ,S,sk,en,(WantG.bind w).mono fun v1 H1 zz=>ex34 zz fun μ1 S1 d1 x1 s1 r1 w1=>⟨F,μ1,ρ,S1,s1,en.mono x1,(WantG.bind w1).mono fun v2 H2 zz=>ex34 zz fun μ2 S2 d2 x2 s2 r2 w2=>
   ⟨F,μ2,S2,d1,d2,s2,Rep.mono x2 _ _ r1,r2,a1i' ((WantG.bind w2).mono fun v3 H3 zz=>ex34 zz fun μ3 S3 d3 x3 s3 r3 w3=>by
    obtain⟨k,rfl,rfl,w4⟩:=a5n' w3 r3
    exact⟨k,rfl,w4 μ3 H3 k .refl s3 rfl⟩)⟩⟩⟩
theorem s_chain{op op':CmpOp}{r':Expr}(hu:X.A.units+64<cLine)(ha:PE X l (tE X.K X.mg E Φ Γ a))(hb:PE X r (tE X.K X.mg E Φ Γ b))(hc:PE X r' (tE X.K X.mg E Φ Γ c))(hm:behindInMarks op' r'=false):PE X (.Compare l [op,op'] [r,r'] pos) (tE X.K X.mg E Φ Γ (.chain op op' a b c)):=
 weakE (b3n' (cmp_D op hu) (cmp_D op' hu) ha hb hc hm) fun σ H Q zz=>ex43 zz fun F μ ρ S sk en w=>
  ⟨F,μ,ρ,S,sk,en,(WantG.bind w).mono fun v1 H1 zz=>ex34 zz fun μ1 S1 d1 x1 s1 r1 w1=>⟨F,μ1,ρ,S1,s1,en.mono x1,(WantG.bind w1).mono fun v2 H2 zz=>ex34 zz fun μ2 S2 d2 x2 s2 r2 w2=>
   ⟨F,μ2,S2,d1,d2,s2,Rep.mono x2 _ _ r1,r2,a1i' ((WantG.bind w2).mono fun v3 H3 zz=>ex34 zz fun μ3 S3 d3 x3 s3 r3 w3=>by
    obtain⟨k,rfl,rfl,w4⟩:=a5n' w3 r3
    refine⟨k,rfl,?_⟩
    cases k with
    |true=>
     rw[if_pos rfl]at w4⊢
     exact⟨F,μ3,ρ,S3,s3,(en.mono x1).mono (x2.trans x3),(WantG.bind w4).mono fun v4 H4 zz=>ex34 zz fun μ4 S4 d4 x4 s4 r4 w5=>⟨F,μ4,S4,d2,d4,s4,Rep.mono (x3.trans x4) _ _ r2,r4,a1i' w5⟩⟩
    |false=>
     rw[if_neg (by decide)]at w4⊢
     exact w4 μ3 H3 _ .refl s3 repBl)⟩⟩⟩
theorem t_chain{op op':CmpOp}{r':Expr}(hu:X.A.units+64<cLine)(ha:PE X l (tE X.K X.mg E Φ Γ a))(hb:PE X r (tE X.K X.mg E Φ Γ b))(hc:PE X r' (tE X.K X.mg E Φ Γ c))(hm:behindInMarks op' r'=false):PT X (.Compare l [op,op'] [r,r'] pos) (tT X.K X.mg E Φ Γ (.chain op op' a b c)):=
 weakT (b3o' (cmp_D op hu) (cmp_D op' hu) ha hb hc hm) fun σ H Q zz=>ex43 zz fun F μ ρ S sk en w=>
  ⟨F,μ,ρ,S,sk,en,(WantG.bind w).mono fun v1 H1 zz=>ex34 zz fun μ1 S1 d1 x1 s1 r1 w1=>⟨F,μ1,ρ,S1,s1,en.mono x1,(WantG.bind w1).mono fun v2 H2 zz=>ex34 zz fun μ2 S2 d2 x2 s2 r2 w2=>
   ⟨F,μ2,S2,d1,d2,s2,Rep.mono x2 _ _ r1,r2,a1i' ((WantG.bind w2).mono fun v3 H3 zz=>ex34 zz fun μ3 S3 d3 x3 s3 r3 w3=>by
    obtain⟨k,rfl,rfl,w4⟩:=a5n' w3 r3
    refine⟨k,rfl,?_⟩
    cases k with
    |true=>
     rw[if_pos rfl]at w4⊢
     exact⟨F,μ3,ρ,S3,s3,(en.mono x1).mono (x2.trans x3),(WantG.bind w4).mono fun v4 H4 zz=>ex34 zz fun μ4 S4 d4 x4 s4 r4 w5=>⟨F,μ4,S4,d2,d4,s4,Rep.mono (x3.trans x4) _ _ r2,r4,a1i' ((WantG.bind w5).mono fun v5 H5 zz=>ex34 zz fun μ5 S5 d5 x5 s5 r5 w6=>by
      obtain⟨k,rfl,rfl,w7⟩:=a5n' w6 r5
      exact⟨k,rfl,w7 μ5 H5 k .refl s5 rfl⟩)⟩⟩
    |false=>
     rw[if_neg (by decide)]at w4⊢
     exact⟨false,rfl,w4 μ3 H3 _ .refl s3 rfl⟩)⟩⟩⟩
theorem s_and{rest:List Expr}(ha:PE X l (tE X.K X.mg E Φ Γ a))(hb:PE X (.BoolOp .And (r::rest) pos) (tE X.K X.mg E Φ Γ b)):PE X (.BoolOp .And (l::r::rest) pos) (tE X.K X.mg E Φ Γ (.band a b)):=
 weakE (pe_and ha hb) fun σ H Q zz=>ex43 zz fun F μ ρ S sk en w=>
  ⟨F,μ,ρ,S,sk,en,(WantG.bind w).mono fun v1 H1 zz=>ex34 zz fun μ1 S1 d1 x1 s1 r1 w1=>by
   obtain⟨k,rfl,rfl,w2⟩:=a5n' w1 r1
   refine⟨k,rfl,?_⟩
   cases k with
   |true=>rw[if_pos rfl]at w2⊢;exact⟨F,μ1,ρ,S1,s1,en.mono x1,w2⟩
   |false=>rw[if_neg (by decide)]at w2⊢;exact w2 μ1 H1 _ .refl s1 repBl⟩
theorem s_or{rest:List Expr}(ha:PE X l (tE X.K X.mg E Φ Γ a))(hb:PE X (.BoolOp .Or (r::rest) pos) (tE X.K X.mg E Φ Γ b)):PE X (.BoolOp .Or (l::r::rest) pos) (tE X.K X.mg E Φ Γ (.bor a b)):=
 weakE (pe_or ha hb) fun σ H Q zz=>ex43 zz fun F μ ρ S sk en w=>
  ⟨F,μ,ρ,S,sk,en,(WantG.bind w).mono fun v1 H1 zz=>ex34 zz fun μ1 S1 d1 x1 s1 r1 w1=>by
   obtain⟨k,rfl,rfl,w2⟩:=a5n' w1 r1
   refine⟨k,rfl,?_⟩
   cases k with
   |true=>rw[if_pos rfl]at w2⊢;exact w2 μ1 H1 _ .refl s1 repBl
   |false=>rw[if_neg (by decide)]at w2⊢;exact⟨F,μ1,ρ,S1,s1,en.mono x1,w2⟩⟩
theorem pe_notT{ta:TE}(ha:PE X l ta):PE X (.UnaryOp .Not l pos) (fun σ H Q=>ta σ H fun x H'=>∃k,TruV X.K x H' k∧Q (.bl (!k)) H'):=by
 intro pins s σ H Q I h
 refine UnaryOp_ (thn (ha pins s σ H _ I h) fun v s1 ⟨x,H1,I1,r1,k,t1,q1⟩=>?_)
 refine not_of (thn (tru_ok pins s1 σ H1 x v (fun k H'=>Q (.bl (!k)) H') I1 r1 ⟨k,t1,q1⟩) fun k' s2 ⟨H2,I2,q2⟩=>?_)
 exact⟨.bl (!k'),H2,I2,rfl,q2⟩
theorem a9Q'{K:PySem.W.Frag}{mg:GS}{E:XK}{μ:List Addr}{H:Hp}{α β:Type}{Rel:List Addr→Hp→α→β→Prop}{Q:β→Hp→Prop}{d:D}{S:Store}{f:Bool→Res α}
  (w:WantG K mg E Rel μ H Q (match truD S d with|some k=>f k|none=>.fail)):∃k,truD S d=some k∧WantG K mg E Rel μ H Q (f k):=by
 cases e:truD S d with
 |none=>rw[e]at w;exact w.elim
 |some k=>rw[e]at w;exact⟨k,rfl,w⟩
theorem s_not(ha:PE X l (tE X.K X.mg E Φ Γ a)):PE X (.UnaryOp .Not l pos) (tE X.K X.mg E Φ Γ (.bnot a)):=
 weakE (pe_notT ha) fun σ H Q zz=>ex43 zz fun F μ ρ S sk en w=>⟨F,μ,ρ,S,sk,en,(WantG.bind w).mono fun v1 H1 zz=>ex34 zz fun μ1 S1 d1 x1 s1 r1 w1=>by
  obtain⟨k,e,w2⟩:=a9Q' w1
  exact⟨k,tru_D s1 r1 e,w2 μ1 H1 _ .refl s1 repBl⟩⟩
theorem s_neg(ha:PE X l (tE X.K X.mg E Φ Γ a)):PE X (.UnaryOp .USub l pos) (tE X.K X.mg E Φ Γ (.neg a)):=
 weakE (pe_un un_neg ha) fun σ H Q zz=>ex43 zz fun F μ ρ S sk en w=>⟨F,μ,ρ,S,sk,en,(WantG.bind w).mono fun v1 H1 zz=>ex34 zz fun μ1 S1 d1 x1 s1 r1 w1=>by
  cases d1 with
  |int i=>exact⟨i,a0e' r1,w1 μ1 H1 _ .refl s1 a1g'⟩
  |_=>exact w1.elim⟩
theorem t_and{rest:List Expr}(ha:PT X l (tT X.K X.mg E Φ Γ a))(hb:PW X (.BoolOp .And (r::rest) pos) (tT X.K X.mg E Φ Γ b)):PW X (.BoolOp .And (l::r::rest) pos) (tT X.K X.mg E Φ Γ (.band a b)):=fun wh pins s σ H Q I zz=>ex43 zz fun F μ ρ S sk en w=>
 pw_and ha hb wh pins s σ H Q I ⟨F,μ,ρ,S,sk,en,(WantG.bind w).mono fun k H1 zz=>ex34 zz fun μ1 S1 k' x1 s1 e1 w1=>by
  subst e1
  cases k' with
  |true=>rw[if_pos rfl]at w1⊢;exact⟨F,μ1,ρ,S1,s1,en.mono x1,w1⟩
  |false=>rw[if_neg (by decide)]at w1⊢;exact w1 μ1 H1 _ .refl s1 rfl⟩
theorem t_or{rest:List Expr}(ha:PT X l (tT X.K X.mg E Φ Γ a))(hb:PW X (.BoolOp .Or (r::rest) pos) (tT X.K X.mg E Φ Γ b)):PW X (.BoolOp .Or (l::r::rest) pos) (tT X.K X.mg E Φ Γ (.bor a b)):=fun wh pins s σ H Q I zz=>ex43 zz fun F μ ρ S sk en w=>
 pw_or ha hb wh pins s σ H Q I ⟨F,μ,ρ,S,sk,en,(WantG.bind w).mono fun k H1 zz=>ex34 zz fun μ1 S1 k' x1 s1 e1 w1=>by
  subst e1
  cases k' with
  |true=>rw[if_pos rfl]at w1⊢;exact w1 μ1 H1 _ .refl s1 rfl
  |false=>rw[if_neg (by decide)]at w1⊢;exact⟨F,μ1,ρ,S1,s1,en.mono x1,w1⟩⟩
theorem t_not(ha:PT X l (tT X.K X.mg E Φ Γ a)):PT X (.UnaryOp .Not l pos) (tT X.K X.mg E Φ Γ (.bnot a)):=
 weakT (pt_not ha) fun σ H Q zz=>ex43 zz fun F μ ρ S sk en w=>⟨F,μ,ρ,S,sk,en,(WantG.bind w).mono fun k H1 zz=>ex34 zz fun μ1 S1 k' x1 s1 e1 w1=>by
  subst e1
  exact w1 μ1 H1 _ .refl s1 rfl⟩
theorem s_ite{t x y:Expr}(hc:PT X t (tT X.K X.mg E Φ Γ c))(ha:PE X x (tE X.K X.mg E Φ Γ a))(hb:PE X y (tE X.K X.mg E Φ Γ b)):PE X (.IfExp t x y pos) (tE X.K X.mg E Φ Γ (.ite c a b)):=
 weakE (b3i' hc ha hb) fun σ H Q zz=>ex43 zz fun F μ ρ S sk en w=>⟨F,μ,ρ,S,sk,en,(WantG.bind w).mono fun k H1 zz=>ex34 zz fun μ1 S1 k' x1 s1 e1 w1=>by
  subst e1
  cases k' with
  |true=>rw[if_pos rfl]at w1⊢;exact⟨F,μ1,ρ,S1,s1,en.mono x1,w1⟩
  |false=>rw[if_neg (by decide)]at w1⊢;exact⟨F,μ1,ρ,S1,s1,en.mono x1,w1⟩⟩
theorem s_nil:PA X [] (tL X.K X.mg E Φ Γ []):=weakA b3q' fun σ H Q zz=>ex43 zz fun F μ ρ S sk en w=>w μ H [] .refl sk .nil
theorem a0n'{env:Env}{es:List Expr}(h:a0D' e=true):starEach (e::es) env=(false,eval e env)::starEach es env:=by
 cases e<;>first|rfl|cases h
theorem s_cons{es:List Expr}{cs:List CE}(hn:a0D' e=true)(ha:PE X e (tE X.K X.mg E Φ Γ a))(hr:PA X es (tL X.K X.mg E Φ Γ cs)):PA X (e::es) (tL X.K X.mg E Φ Γ (a::cs)):=
 weakA (a9w' ha hr (a0n' hn)) fun σ H Q zz=>ex43 zz fun F μ ρ S sk en w=>⟨F,μ,ρ,S,sk,en,(WantG.bind w).mono fun v1 H1 zz=>ex34 zz fun μ1 S1 d1 x1 s1 r1 w1=>
  ⟨F,μ1,ρ,S1,s1,en.mono x1,(WantG.bind w1).mono fun vs H2 zz=>ex34 zz fun μ2 S2 ds x2 s2 r2 w2=>w2 μ2 H2 _ .refl s2 (.cons (Rep.mono x2 _ _ r1) r2)⟩⟩
end
end Py
end
section
namespace Py
open PySem PySem.Spec PyProof.Rows L2
theorem a9R':∀{cs:List CE} {N:List Str} {es:List Expr},(emL cs N es).length=cs.length
 | [],N,es=>rfl
 |c::cs,N,es=>congrArg Nat.succ (a9R' (cs:=cs) (N:=N) (es:=es.tail))
theorem a1w':∀{cs:List CE} {N:List Str} {sc:Sc} {es:List Expr},sdL cs N sc es=true→∀e∈emL cs N es,a0D' e=true
 | [],N,sc,es,h,e,he=>absurd he ZS
 |c::cs,N,sc,es,h,e,he=>by
  rcases Zr.mp he with rfl|he
  ·exact(andB (andB h).2).1
  ·exact a1w' (andB (andB h).2).2 e he
theorem a4o':∀{es:List Expr} {env:Env} {pos:Pos},(∀e∈es,a0D' e=true)→(backTo pos (starEach es env)).any (·.1)=false
 | [],env,pos,h=>rfl
 |e::es,env,pos,h=>by
  rw[a0n' (h e Zc)]
  show(false||(backTo pos (starEach es env)).any (·.1))=false
  rw[a4o' fun e he=>h e (Zb _ he)]
  rfl
theorem a9S':∀{es:List Expr} {env:Env} {pos:Pos},(∀e∈es,a0D' e=true)→(backTo pos (starEach es env)).all (fun x=> !x.1)=true
 | [],env,pos,h=>rfl
 |e::es,env,pos,h=>by
  rw[a0n' (h e Zc)]
  show(!false&&(backTo pos (starEach es env)).all (fun x=> !x.1))=true
  rw[a9S' fun e he=>h e (Zb _ he)]
  rfl
section
variable {Φ:FT}{Γ:Str→Option D}
theorem a7q':∀{cs:List CE} {ρ:Rho} {S S':Store} {ds:List D},denL Φ Γ cs ρ S=.ok ds S'→ds.length=cs.length
 | [],ρ,S,S',ds,h=>by unfold denL at h;cases h;rfl
 |c::cs,ρ,S,S',ds,h=>by
  unfold denL at h
  cases e:den Φ Γ c ρ S with
  |ok d S1=>
   rw[e]at h
   cases e2:denL Φ Γ cs ρ S1 with
   |ok ds1 S2=>
    simp only[Res.bind,e2]at h
    cases h
    simp[a7q' e2]
   |err x S2=>simp only[Res.bind,e2]at h;cases h
   |fail=>simp only[Res.bind,e2]at h;cases h
  |err x S1=>rw[e]at h;cases h
  |fail=>rw[e]at h;cases h
end
theorem b1G'{sc:Sc}{x:Str}{s:Scope}(hs:s.names=sc)(h:visB sc x=true):Vis s x:=by
 unfold Vis
 rw[hs]
 unfold visB at h
 split at h<;>simp_all
theorem a5o'{x:Str}(h:b1E' x=true):(x==("__debug__":Str))=false∧(x==("__classdict__":Str))=false:=by
 unfold b1E' at h
 simp only[Zt,Bool.not_eq_true']at h
 exact h
theorem a0O'{sc:Sc}{x:Str}(h:gloB sc x=true):sc.lookup x=some .globalImplicit∧(x==("__debug__":Str))=false∧x≠"__name__":=by
 unfold gloB at h
 simp only[Zt,Bool.not_eq_true',beq_iff_eq]at h
 refine⟨h.1.1,h.1.2,fun z=>?_⟩
 subst z
 exact absurd h.2 (by decide)
section
variable {X:Cx}{E:XK}{CX:CXT}{Φ:FT}{Γ:Str→Option D}{N:List Str}{sc:Sc}{k:Nat}{cell:Str→Bool}{l r e:Expr}{es:List Expr}{pos p2:Pos}{a b c:CE}{cs:List CE}{x:Str}
theorem XOk.gl(O:XOk X cell N sc CX E Φ Γ k)(h:sc.lookup x=some .globalImplicit):Gl X x:=by
 show X.env.scope.names.lookup x=_
 rw[O.sc];exact h
theorem s_var(O:XOk X cell N sc CX E Φ Γ k){i:Nat}(h1:(N[i]?==some x)=true)(h2:visB sc x=true)(h3:b1E' x=true):PE X (.Name x pos) (tE X.K X.mg E Φ Γ (.var i)):=by
 refine weakE (pe_var (i:=i) (by rw[O.n];simpa using h1) (b1G' O.sc h2) (a5o' h3).1 (a5o' h3).2) fun σ H Q zz=>ex43 zz fun F μ ρ S sk en w=>?_
 simp only[den]at w
 split at w
 ·rename_i d e
  obtain⟨v,e1,r1⟩:=en.2 i d e
  exact⟨v,e1,w μ H v .refl sk r1⟩
 ·exact w.elim
theorem s_lit{d:D}{cn:Const}{j}(h:litIs d cn=true):PE X (.Constant cn j pos) (tE X.K X.mg E Φ Γ (.lit d)):=by
 unfold litIs at h
 split at h
 ·exact weakE pe_non fun σ H Q zz=>ex43 zz fun F μ ρ S sk en w=>w μ H _ .refl sk a9C'
 ·have e:=(beq_iff_eq).mp h
  subst e
  exact weakE pe_bl fun σ H Q zz=>ex43 zz fun F μ ρ S sk en w=>w μ H _ .refl sk repBl
 ·have e:=(beq_iff_eq).mp h
  subst e
  exact weakE pe_int fun σ H Q zz=>ex43 zz fun F μ ρ S sk en w=>w μ H _ .refl sk a1g'
 ·have e:=(beq_iff_eq).mp h
  subst e
  exact weakE pe_str fun σ H Q zz=>ex43 zz fun F μ ρ S sk en w=>w μ H _ .refl sk repStr
 ·cases h
theorem s_glob(O:XOk X cell N sc CX E Φ Γ k)(h:gloB sc x=true):PE X (.Name x pos) (tE X.K X.mg E Φ Γ (.glob x)):=by
 obtain⟨h1,h2,h3⟩:=a0O' h
 cases e:Γ x with
 |none=>
  intro pins s σ H Q I ⟨F,μ,ρ,S,sk,en,w⟩
  simp only[den]at w
  rw[e]at w
  exact w.elim
 |some d=>
  obtain⟨v,u,m1,m2,m3⟩:=O.mod.gl x d e
  refine weakE (pe_glob (O.gl h1) m1 m2 h2) fun σ H Q zz=>ex43 zz fun F μ ρ S sk en w=>?_
  simp only[den]at w
  rw[e]at w
  exact w μ H v .refl sk (m3 F μ H)
theorem tyN_blt{n:String}(h:a5m'.contains n=true):(Str.ofString n)∈a2g':=by
 simp[a5m']at h
 rcases h with rfl|rfl|rfl|rfl|rfl|rfl<;>decide+kernel
theorem s_ty(O:XOk X cell N sc CX E Φ Γ k){n:String}(h:gloB sc (Str.ofString n)=true)(h2:a5m'.contains n=true):PE X (.Name (Str.ofString n) pos) (tE X.K X.mg E Φ Γ (.ty n)):=by
 obtain⟨h1,h3,h4⟩:=a0O' h
 refine weakE (pe_bltn (v:=.ty n) (O.gl h1) (O.mod.bl _ (tyN_blt h2)) (ty_boot h2) rfl h4 h3) fun σ H Q zz=>ex43 zz fun F μ ρ S sk en w=>?_
 exact w μ H (.ty n) .refl sk (by unfold Rep;rfl)
theorem len_of{K:PySem.W.Frag}{mg:GS}{μ:List Addr}{H:Hp}{Q:List V→Hp→Prop}{ρ:Rho}{S:Store}(hl:cs.length<1000)(w:WantG K mg E (RepL K mg) μ H Q (denL Φ Γ cs ρ S)):WantG K mg E (RepL K mg) μ H (fun vs H'=>vs.length≤sizeLine∧Q vs H') (denL Φ Γ cs ρ S):=by
 cases e:denL Φ Γ cs ρ S with
 |ok ds S'=>
  rw[e]at w
  intro μ' H' vs x s r
  refine⟨?_,w μ' H' vs x s r⟩
  rw[←r.length,a7q' e]
  exact Nat.le_of_lt (ZL hl (by decide))
 |err y S'=>rw[e]at w;exact w
 |fail=>rw[e]at w;exact w
theorem s_tup{x1}(hl:cs.length<1000)(h:PA X es (tL X.K X.mg E Φ Γ cs)):PE X (.Tuple es x1 pos) (tE X.K X.mg E Φ Γ (.tup cs)):=
 weakE (pe_tup h) fun σ H Q zz=>ex43 zz fun F μ ρ S sk en w=>⟨F,μ,ρ,S,sk,en,(len_of hl (WantG.bind w)).mono fun vs H1 ⟨hz,μ1,S1,ds,x1,s1,r1,w1⟩=>⟨hz,fun p hp=>by
  exact Want.tup (show Want X.K ⟨X.mg,F⟩ μ1 H1 Q (.ok (.tup ds) S1)from w1) s1 r1 p hp⟩⟩
theorem s_lst{box:Bool}(hl:cs.length<1000)(h:PA X es (tL X.K X.mg E Φ Γ cs)):PE X (.List es pos) (tE X.K X.mg E Φ Γ (.lst box cs)):=
 weakE (pe_lst h) fun σ H Q zz=>ex43 zz fun F μ ρ S sk en w=>⟨F,μ,ρ,S,sk,en,(len_of hl (WantG.bind w)).mono fun vs H1 ⟨hz,μ1,S1,ds,x1,s1,r1,w1⟩=>⟨hz,fun p hp=>by
  cases box with
  |true=>exact Want.box (show Want X.K ⟨X.mg,F⟩ μ1 H1 Q (.ok (.ref S1.length) (S1++[ds]))from w1) s1 r1 p hp
  |false=>exact Want.lst (show Want X.K ⟨X.mg,F⟩ μ1 H1 Q (.ok (.lst ds) S1)from w1) s1 r1 p hp⟩⟩
theorem s_dct:PE X (.Dict [] [] pos) (tE X.K X.mg E Φ Γ .dct):=fun pins s σ H Q I zz=>ex43 zz fun F μ ρ S sk en w=>by
 have hlt:mainGlobals<s.heap.objs.size:=ZL I.mod.glob.lt (ZB I.ok.bsz I.sz)
 have hp:H s.heap.objs.size=none:=I.hok.fresh (Zl _)
 refine wpAny_Dict_empty ⟨.ref s.heap.objs.size,upd H s.heap.objs.size (.dK []),I.laid (t':=s.toks) (o:=.dK []) (fun b ob q=>Zf _ q) (Zl _) ?_,rfl,?_⟩
 ·refine⟨Nat.zero_le _,?_,[],.nil,_, #[],_,Zp _ rfl,⟨rfl,rfl,rfl⟩,rfl,fun e he=>by simp at he,.nil,.nil⟩
  have h3:mainGlobals=3:=rfl
  have h1:sysModules=1:=rfl
  rw[beq_eq_false_iff_ne]
  intro z
  rw[z,h1,h3]at hlt
  exact absurd hlt (by decide)
 ·exact w μ _ _ (.laid hp) (sk.laid hp) (by unfold Rep;exact⟨_,rfl,a0H'⟩)
theorem s_idx(hs:a3C' r=true)(ha:PE X l (tE X.K X.mg E Φ Γ a))(hb:PE X r (tE X.K X.mg E Φ Γ b)):PE X (.Subscript l r pos) (tE X.K X.mg E Φ Γ (.idx a b)):=
 weakE (pe_ix ix_D ha hb (b3K' hs)) fun σ H Q zz=>ex43 zz fun F μ ρ S sk en w=>
  ⟨F,μ,ρ,S,sk,en,(WantG.bind w).mono fun v1 H1 zz=>ex34 zz fun μ1 S1 d1 x1 s1 r1 w1=>⟨F,μ1,ρ,S1,s1,en.mono x1,(WantG.bind w1).mono fun v2 H2 zz=>ex34 zz fun μ2 S2 d2 x2 s2 r2 w2=>⟨F,μ2,S2,d1,d2,s2,Rep.mono x2 _ _ r1,r2,a1i' w2⟩⟩⟩
theorem s_rev(ha:PE X l (tE X.K X.mg E Φ Γ a))(hb:PE X r (tE X.K X.mg E Φ Γ b)):PE X (.Subscript l (.Slice none none (some r) p2) pos) (tE X.K X.mg E Φ Γ (.rev a b)):=
 weakE (pe_rev ha hb) fun σ H Q zz=>ex43 zz fun F μ ρ S sk en w=>
  ⟨F,μ,ρ,S,sk,en,(WantG.bind w).mono fun v1 H1 zz=>ex34 zz fun μ1 S1 d1 x1 s1 r1 w1=>⟨F,μ1,ρ,S1,s1,en.mono x1,(WantG.bind w1).mono fun v2 H2 zz=>ex34 zz fun μ2 S2 d2 x2 s2 r2 w2=>⟨F,μ2,S2,d1,d2,s2,Rep.mono x2 _ _ r1,r2,a1i' w2⟩⟩⟩
def tPt(K:PySem.W.Frag)(mg:Str→Option Value)(E:XK)(Φ:FT)(Γ:Str→Option D)(cs:List CE):TO:=fun σ H Q=>∃F μ ρ S,SOk K ⟨mg,F⟩ μ S H∧EnvR K ⟨mg,F⟩ μ H ρ σ∧
 WantG K ⟨mg,F⟩ E (fun _ _ o o'=>o=o') μ H Q ((denL Φ Γ cs ρ S).bind optL)
theorem s_part0:PO X none (tPt X.K X.mg E Φ Γ []):=by
 intro pins s σ H Q I ⟨F,μ,ρ,S,sk,en,w⟩
 exact po_none pins s σ H Q I (w μ H none .refl sk rfl)
theorem s_part1(ha:PE X e (tE X.K X.mg E Φ Γ a)):PO X (some e) (tPt X.K X.mg E Φ Γ [a]):=by
 intro pins s σ H Q I ⟨F,μ,ρ,S,sk,en,w⟩
 refine po_some ha pins s σ H Q I ⟨F,μ,ρ,S,sk,en,?_⟩
 have w':WantG X.K ⟨X.mg,F⟩ E (fun _ _ o o'=>o=o') μ H Q ((den Φ Γ a ρ S).bind fun d S1=>optL [d] S1):=by
  have e1:(denL Φ Γ [a] ρ S).bind optL=(den Φ Γ a ρ S).bind fun d S1=>optL [d] S1:=by
   rw[denL]
   cases den Φ Γ a ρ S<;>rfl
  rw[←e1];exact w
 refine(WantG.bind w').mono fun v H1 zz=>ex34 zz fun μ1 S1 d x1 s1 r1 w1=>?_
 cases d with
 |int i=>exact⟨i,a0e' r1,w1 μ1 H1 (some i) .refl s1 rfl⟩
 |_=>exact w1.elim
theorem s_sl{lo hi:Option Expr}{cl ch:List CE}(ha:PE X l (tE X.K X.mg E Φ Γ a))(hl:PO X lo (tPt X.K X.mg E Φ Γ cl))(hh:PO X hi (tPt X.K X.mg E Φ Γ ch)):PE X (.Subscript l (.Slice lo hi none p2) pos) (tE X.K X.mg E Φ Γ (.sl a cl ch)):=
 weakE (b3t' sl_D ha hl hh) fun σ H Q zz=>ex43 zz fun F μ ρ S sk en w=>⟨F,μ,ρ,S,sk,en,(WantG.bind w).mono fun v1 H1 zz=>ex34 zz fun μ1 S1 d1 x1 s1 r1 w1=>⟨F,μ1,ρ,S1,s1,en.mono x1,
  (WantG.bind w1).mono fun o H2 zz=>ex34 zz fun μ2 S2 o' x2 s2 e2 w2=>⟨F,μ2,ρ,S2,s2,(en.mono x1).mono x2,(WantG.bind w2).mono fun o2 H3 zz=>ex34 zz fun μ3 S3 o2' x3 s3 e3 w3=>by
   subst e2;subst e3
   exact⟨F,μ3,S3,d1,s3,Rep.mono (x2.trans x3) _ _ r1,a1i' w3⟩⟩⟩⟩
theorem s_call(O:XOk X cell N sc CX E Φ Γ k){f:Str}(h:gloB sc f=true)(hst:∀x∈e::es,a0D' x=true)(ha:PA X (e::es) (tL X.K X.mg E Φ Γ cs)):PE X (.Call (.Name f p2) (e::es) [] pos) (tE X.K X.mg E Φ Γ (.call f cs)):=by
 obtain⟨h1,h2,h3⟩:=a0O' h
 cases ef:Φ f with
 |none=>
  intro pins s σ H Q I ⟨F,μ,ρ,S,sk,en,w⟩
  simp only[den]at w
  rw[ef]at w
  exact w.elim
 |some φ=>
  obtain⟨fa,fd,ps,m1,m2,m3,m4,m5⟩:=(O.mod.fns f φ ef).ex
  refine weakE (pe_call (E:=E) m4 O.room (O.gl h1) m1 m2 m3 .nil O.pass ha h2 (a0n' (hst e Zc)) (a4o' fun x hx=>hst x (Zb _ hx))) fun σ H Q zz=>ex43 zz fun F μ ρ S sk en w=>?_
  simp only[den]at w
  rw[ef]at w
  refine⟨F,μ,ρ,S,sk,en,(WantG.bind w).mono fun vs H1 zz=>ex34 zz fun μ1 S1 ds x1 s1 r1 w1=>?_⟩
  rw[Z2]
  refine⟨?_,F,μ1,S1,ds,s1,r1,w1⟩
  rw[←r1.length]
  exact m5 ds S1 fun z=>by rw[z]at w1;exact w1
theorem s_blt(O:XOk X cell N sc CX E Φ Γ k){b:Blt}(hb:CallR X (bltIs b) (rC X.K X.mg (bltD b)))(h:gloB sc (a4A' b)=true)(hst:∀x∈e::es,a0D' x=true)(ha:PA X (e::es) (tL X.K X.mg E Φ Γ cs)):PE X (.Call (.Name (a4A' b) p2) (e::es) [] pos) (tE X.K X.mg E Φ Γ (.blt b cs)):=by
 obtain⟨h1,h2,h3⟩:=a0O' h
 have hm:X.mg (a4A' b)=none:=O.mod.bl _ (by
  cases b with
  |list box=>show(Str.ofString "list")∈a2g';decide+kernel
  |sorted box t=>show(Str.ofString "sorted")∈a2g';decide+kernel
  |_=>decide+kernel)
 have key:PE X (.Call (.Name (a4A' b) p2) (e::es) [] pos) (tCB (rC X.K X.mg (bltD b)) (tL X.K X.mg E Φ Γ cs)):=by
  have s1:=a0n' (env:=X.env) (es:=es) (hst e Zc)
  have s2:=a4o' (env:=X.env) (pos:=pos) fun x hx=>hst x (Zb _ hx)
  have hv:=b3J' b
  cases b with
  |tuple=>exact a4m' hb (O.gl h1) hm hv ha h3 h2 s1 s2
  |list box=>exact a4m' hb (O.gl h1) hm hv ha h3 h2 s1 s2
  |int=>exact a4m' hb (O.gl h1) hm hv ha h3 h2 s1 s2
  |_=>exact a9y' hb (O.gl h1) hm hv ha h3 h2 s1 s2
 refine weakE key fun σ H Q zz=>ex43 zz fun F μ ρ S sk en w=>⟨F,μ,ρ,S,sk,en,(WantG.bind w).mono fun vs H1 zz=>ex34 zz fun μ1 S1 ds x1 s1 r1 w1=>⟨F,μ1,S1,ds,s1,r1,a1i' w1⟩⟩
theorem a9T'{K:PySem.W.Frag}{mg:GS}{μ:List Addr}{H:Hp}{S:Store}{n:Nat}{v:V}(s:SOk K mg μ S H)(r:Rep K mg μ H (.ref n) v):tyV K "list" v H:=by
 unfold Rep at r
 obtain⟨a,rfl,h⟩:=r
 have hl:n<S.length:=by rw[←s.len];exact(Zh.mp h).1
 obtain⟨vs,h1,q⟩:=s.at_ n a _ h (Zg hl)
 exact .inl ⟨rfl,vs,.of h1⟩
def mthId:Mth→String
 | .append=>"list.append"| .extend=>"list.extend"| .pop=>"list.pop"| .count=>"list.count"| .insert=>"list.insert"
theorem mth_ok(m:Mth):MtR X (mthId m) (rM X.K X.mg (methD m)):=by
 cases m with
 |append=>exact b3B'
 |count=>exact fun _ _ _ _ _ _ _ _ _ _ _ _ ⟨_,_,_,_,_,_,_,_,w⟩=>w.elim
 |insert=>exact fun _ _ _ _ _ _ _ _ _ _ _ _ ⟨_,_,_,_,_,_,_,_,w⟩=>w.elim
 |extend=>exact b3C'
 |pop=>exact fun _ _ _ _ _ _ _ _ _ _ _ _ ⟨_,_,_,_,_,_,_,_,w⟩=>w.elim
theorem a9U'(m:Mth):Slot "list" (a8d' m) (mthId m):=by
 cases m with
 |append=>exact PySem.F.slot_list_append
 |count=>exact PySem.F.slot_list_count
 |insert=>exact PySem.F.slot_list_insert
 |extend=>exact PySem.F.slot_list_extend
 |pop=>exact PySem.F.slot_list_pop
theorem a9V'(m:Mth):typeOf (.builtin (mthId m))=pure (.type "method_descriptor"):=by
 cases m with
 |append=>exact PySem.F.type_list_append
 |count=>exact PySem.F.type_list_count
 |insert=>exact PySem.F.type_list_insert
 |extend=>exact PySem.F.type_list_extend
 |pop=>exact PySem.F.type_list_pop
theorem s_meth{m:Mth}{o:Expr}{apos:Pos}(hn:isNm o=true)(hl:(apos.endLine==pos.line)=true)(hst:∀x∈es,a0D' x=true)(hz:es.length<20)(hcs:cs.length=es.length)(ho:PE X o (tE X.K X.mg E Φ Γ a))(ha:PA X es (tL X.K X.mg E Φ Γ cs)):
  PE X (.Call (.Attribute o (a8d' m) apos) es [] pos) (tE X.K X.mg E Φ Γ (.meth m a cs)):=by
 have hbase:attributeBase o (a8d' m) X.env (eval o X.env)=eval o X.env:=by cases o<;>first|rfl|cases hn
 have key:∀{F μ1 S1 H1 ρ d1 Q v1},SOk X.K ⟨X.mg,F⟩ μ1 S1 H1→Rep X.K ⟨X.mg,F⟩ μ1 H1 d1 v1→WantG X.K ⟨X.mg,F⟩ E (Rep X.K ⟨X.mg,F⟩) μ1 H1 Q (match d1 with
   | .ref n=>(denL Φ Γ cs ρ S1).bind fun ds S2=>(methD m (.ref n) ds S2).noErr
   |_=>.fail)→tyV X.K "list" v1 H1∧WantG X.K ⟨X.mg,F⟩ E (RepL X.K ⟨X.mg,F⟩) μ1 H1 (fun vs H2=>rM X.K X.mg (methD m) v1 vs H2 Q) (denL Φ Γ cs ρ S1):=by
  intro F μ1 S1 H1 ρ d1 Q v1 s1 r1 w1
  cases d1 with
  |ref n=>exact⟨a9T' s1 r1,(WantG.bind w1).mono fun vs H2 zz=>ex34 zz fun μ2 S2 ds x2 s2 r2 w2=>⟨F,μ2,S2,_,ds,s2,Rep.mono x2 _ _ r1,r2,a1i' w2⟩⟩
  |_=>exact w1.elim
 cases es with
 |nil=>
  have e:cs=[]:=ZF hcs
  subst e
  refine weakE (pe_bm0 PySem.F.plainAttrs_list (a9U' m) (a9V' m) (mth_ok m) ho hbase hl) fun σ H Q zz=>ex43 zz fun F μ ρ S sk en w=>⟨F,μ,ρ,S,sk,en,(WantG.bind w).mono fun v1 H1 zz=>ex34 zz fun μ1 S1 d1 x1 s1 r1 w1=>?_⟩
  obtain⟨k1,k2⟩:=key s1 r1 w1
  exact⟨k1,k2 μ1 H1 [] .refl s1 .nil⟩
 |cons e es=>
  refine weakE (pe_bm PySem.F.plainAttrs_list (a9U' m) (a9V' m) (mth_ok m) ho ha hbase ?_ hl (a0n' (hst e Zc)) (a4o' fun x hx=>hst x (Zb _ hx))) fun σ H Q zz=>ex43 zz fun F μ ρ S sk en w=>⟨F,μ,ρ,S,sk,en,(WantG.bind w).mono fun v1 H1 zz=>ex34 zz fun μ1 S1 d1 x1 s1 r1 w1=>?_⟩
  ·rw[a9S' hst]
   have e1:(backToKw pos (keywordEach [] X.env)).all (fun x=>x.1.isSome)=true:=rfl
   rw[e1]
   simp only[Bool.true_and,decide_eq_true_eq]
   have e2:(if([]:List Keyword).isEmpty then 0 else 1)=0:=rfl
   rw[e2]
   simp only[List.length_nil]
   omega
  ·obtain⟨k1,k2⟩:=key s1 r1 w1
   exact⟨k1,F,μ1,ρ,S1,s1,en.mono x1,k2⟩
end
end Py
end
section
namespace Py
open PySem PySem.Spec PyProof.Rows L2
section
variable {prog:Program}{w:World}{A:Around}{E:Value→Shared→Prop}{s:Shared}
theorem a6o'{it t:Addr}{i:Nat}{items:Array Value}{x:Value}{Q:Value→Shared→Prop}(hit:s.heap.IsTupleIter it t i)(ht:s.heap.IsTuple t items)(hx:items[i]?=some x)
  (hQ:∀h',h'.IsTupleIter it t (i+1)→Heap.SameBut it s.heap h'→Q x {s with heap:=h'}):wpAny (model prog w) A (Builtin.SmallTypes.nextOf (.ref it)) Q E s:=by
 obtain⟨o,ho,hc,hd⟩:=id hit
 obtain⟨ol,hol,_,nl,hdl⟩:=ht
 unfold Builtin.SmallTypes.nextOf
 refine Za (Z4 (name:=Str.ofString "__next__") hit.typeIs F.slot_tuple_iterator_next (Yi F.slot_tuple_iterator_next hit.typeIs F.entry_tuple_iterator_next ?_ (F.args_tuple_iterator_next_1 _)))
 show wpAny _ _ (field (.ref it) 0>>=_) _ _ s
 refine Za (ZQ ho hd (x:=.ref t) rfl ?_)
 show wpAny _ _ (if(Value.ref t==Value.none)=true then _ else _) _ _ s
 rw[if_neg (show ¬((Value.ref t==Value.none)=true)from Bool.false_ne_true)]
 show wpAny _ _ (field (.ref it) 1>>=_) _ _ s
 refine Za (ZQ ho hd (x:=.int i 0) rfl ?_)
 show wpAny _ _ (seqItems? (.ref t)>>=_) _ _ s
 refine Za (wpAny_seqItems hol hdl ?_)
 simp only[Int.toNat_natCast,hx]
 refine Za (wpAny_setField ho hd (by simp) (Zi ⟨x,rfl,Zi (hQ _ ?_ (Heap.SameBut.update ..))⟩))
 exact⟨_,Heap.get?_update_self _ ho (Obj.isFreed_of_fields (Obj.data_mapFields hd _)),(Obj.cls_mapFields ..).trans hc,by rw[Obj.data_mapFields hd];simp[rawInt]⟩
theorem a8e'{it t:Addr}{i:Nat}{items:Array Value}{Q:Value→Shared→Prop}(hh:A.handled=none)(hit:s.heap.IsTupleIter it t i)(ht:s.heap.IsTuple t items)(hx:items[i]?=none)
  (hE:∀h' e,Heap.ExtBut it s.heap h'→(∃o,h'.get? e=some o∧o.cls=.type "StopIteration")→E (.ref e) {s with heap:=h'}):wpAny (model prog w) A (Builtin.SmallTypes.nextOf (.ref it)) Q E s:=by
 obtain⟨o,ho,hc,hd⟩:=id hit
 obtain⟨ol,hol,_,nl,hdl⟩:=ht
 unfold Builtin.SmallTypes.nextOf
 refine Za (Z4 (name:=Str.ofString "__next__") hit.typeIs F.slot_tuple_iterator_next (Yi F.slot_tuple_iterator_next hit.typeIs F.entry_tuple_iterator_next ?_ (F.args_tuple_iterator_next_1 _)))
 show wpAny _ _ (field (.ref it) 0>>=_) _ _ s
 refine Za (ZQ ho hd (x:=.ref t) rfl ?_)
 show wpAny _ _ (if(Value.ref t==Value.none)=true then _ else _) _ _ s
 rw[if_neg (show ¬((Value.ref t==Value.none)=true)from Bool.false_ne_true)]
 show wpAny _ _ (field (.ref it) 1>>=_) _ _ s
 refine Za (ZQ ho hd (x:=.int i 0) rfl ?_)
 show wpAny _ _ (seqItems? (.ref t)>>=_) _ _ s
 refine Za (wpAny_seqItems hol hdl ?_)
 simp only[Int.toNat_natCast,hx]
 refine Za (wpAny_rule (Za (wpAny_setField ho hd (by simp) ?_)))
 show wpAny _ _ (newExc (.type "StopIteration") []>>=_) _ _ _
 refine Za ?_
 simp only[newExc,newTuple]
 refine Za (Yf ?_ (by size_fits))
 refine Za (m:=firstArgMember _ _) (wpAny_of_eq (a:=Value.none) (by first|rfl| (simp only[firstArgMember];rfl)) ?_)
 refine Yf ?_ (by size_fits)
 simp only[raiseNew]
 refine Za (wpAny_handled ?_)
 first|rw[show A.in1.handled=none from hh]|rw[hh]
 refine Za (Zi (wpAny_throw ?_))
 exact hE _ _ (((Heap.SameBut.update ..).extBut.push _).push _) ⟨_,Zp _ rfl,rfl⟩
end
def IsSq(b:Bool)(h:Heap)(l:Addr)(xs:Array Value):Prop:=match b with
 |true=>h.IsList l xs
 |false=>h.IsTuple l xs
def IsIt(b:Bool)(h:Heap)(it l:Addr)(i:Nat):Prop:=match b with
 |true=>h.IsListIter it l i
 |false=>h.IsTupleIter it l i
theorem IsSq.at{b:Bool}{h h':Heap}{l:Addr}{xs:Array Value}(q:IsSq b h l xs)(k:∀o,h.get? l=some o→h'.get? l=some o):IsSq b h' l xs:=by
 cases b with
 |true=>exact Heap.IsList.at q k
 |false=>obtain⟨o,e,r⟩:=q;exact⟨o,k o e,r⟩
theorem IsIt.at{b:Bool}{h h':Heap}{it l:Addr}{i:Nat}(q:IsIt b h it l i)(k:∀o,h.get? it=some o→h'.get? it=some o):IsIt b h' it l i:=by
 cases b with
 |true=>exact Heap.IsListIter.at q k
 |false=>exact Heap.IsTupleIter.at q k
theorem IsIt.obj{b:Bool}{h:Heap}{it l:Addr}{i:Nat}(q:IsIt b h it l i):∃o,h.get? it=some o∧∀v,o.data≠.cell v:=by
 cases b with
 |true=>obtain⟨o,e,c,d⟩:=q;exact⟨o,e,fun v z=>by rw[d]at z;cases z⟩
 |false=>obtain⟨o,e,c,d⟩:=q;exact⟨o,e,fun v z=>by rw[d]at z;cases z⟩
theorem draws{prog:Program}{w:World}{A:Around}(hh:A.handled=none)(b:Bool)(it l:Addr)(hne:l≠it)(items:Array Value):
  Draws prog w A it [it,l] items.size (fun i v=>items[i]?=some v) (fun i h=>IsIt b h it l i∧IsSq b h l items):=by
 cases b with
 |true=>exact Draws.list hh it l hne items
 |false=>exact{
   live:=fun _ _ st=>let⟨o,ho,_⟩:=st.1;⟨o,ho⟩
   frame:=fun _ _ _ st hk=>⟨st.1.at fun o e=>hk it (by simp) o e,st.2.at fun o e=>hk l (by simp) o e⟩
   item:=fun i s Q E hi st hQ=>by
    refine a6o' st.1 st.2 (x:=items[i]) (by simp[hi]) fun h' hit' hs'=>?_
    exact hQ _ h' s.toks (by simp[hi]) ⟨hit',st.2.at fun o e=>hs'.extBut _ _ hne e⟩ hs'
   done:=fun s Q E st hE=>a8e' hh st.1 st.2 (by simp) hE}
end Py
end
section
namespace Py
open PySem PySem.Spec PyProof.Rows L2
structure ZApart (z TI TO i1 i2 l1 l2:Addr):Prop where
 TIz:TI≠z
 TOz:TO≠z
 i1z:i1≠z
 i2z:i2≠z
 TITO:TI≠TO
 TIi1:TI≠i1
 TIi2:TI≠i2
 TOi1:TO≠i1
 TOi2:TO≠i2
 i12:i1≠i2
 l1:l1≠z∧l1≠TO∧l1≠i1∧l1≠i2
 l2:l2≠z∧l2≠TO∧l2≠i1∧l2≠i2
theorem a4B'{prog:Program}{w:World}{A:Around}{E:Value→Shared→Prop}{s:Shared}{b:Bool}{it t:Addr}{i:Nat}{items:Array Value}{Q:Value→Shared→Prop}(hh:A.handled=none)(hit:IsIt b s.heap it t i)(ht:IsSq b s.heap t items)(hx:items[i]?=none)
  (hE:∀h' e,Heap.ExtBut it s.heap h'→(∃o,h'.get? e=some o∧o.cls=.type "StopIteration")→E (.ref e) {s with heap:=h'}):wpAny (model prog w) A (Builtin.SmallTypes.nextOf (.ref it)) Q E s:=by
 cases b with
 |true=>exact wpAny_nextOf_list_end hh hit ht hx hE
 |false=>exact a8e' hh hit ht hx hE
section
variable {prog:Program}{w:World}{A:Around}{E:Value→Shared→Prop}{s:Shared}{b1 b2:Bool}{z TI TO i1 i2 l1 l2:Addr}{k1 k2:Nat}{xs ys:Array Value}{a b:Value}
theorem zip_go(D:ZApart z TI TO i1 i2 l1 l2)(hh:A.handled=none){x y:Value}{Q:Value→Shared→Prop}
  (hz:IsZip s.heap z TI TO .none) (hTI:IsPair s.heap TI (.ref i1) (.ref i2)) (hTO:IsPair s.heap TO a b)
  (h1:IsIt b1 s.heap i1 l1 k1) (h2:IsIt b2 s.heap i2 l2 k2) (hl1:IsSq b1 s.heap l1 xs) (hl2:IsSq b2 s.heap l2 ys) (hx:xs[k1]?=some x) (hy:ys[k2]?=some y)
  (hQ:∀h',IsZip h' z TI TO (rawInt s.heap.objs.size)→IsPair h' TO x y→IsIt b1 h' i1 l1 (k1+1)→IsIt b2 h' i2 l2 (k2+1)→IsPair h' s.heap.objs.size x y→h'.objs.size=s.heap.objs.size+1→
   (∀c o,c≠z→c≠TO→c≠i1→c≠i2→s.heap.get? c=some o→h'.get? c=some o)→∀tk,Q (.ref s.heap.objs.size) {s with heap:=h',toks:=tk}):
  wpAny (model prog w) A (Builtin.«zip.__next__» ⟨[.ref z],[]⟩) (fun fin s'=>∃v,fin=.done (.ret v)∧Q v s') E s:=by
 have D1:=draws (prog:=prog) (w:=w) (A:=A) hh b1 i1 l1 D.l1.2.2.1 xs
 have D2:=draws (prog:=prog) (w:=w) (A:=A) hh b2 i2 l2 D.l2.2.2.2 ys
 have n1:k1<xs.size:=(Array.getElem?_eq_some_iff.mp hx).1
 have n2:k2<ys.size:=(Array.getElem?_eq_some_iff.mp hy).1
 show wpAny _ _ (field (.ref z) 2>>=_) _ _ _
 refine Za (ZQ hz rfl (x:=.bool false) rfl ?_)
 show wpAny _ _ (field (.ref z) 3>>=_) _ _ _
 refine Za (ZQ hz rfl (x:=.ref TI) rfl ?_)
 refine Za (wpAny_seqItems hTI rfl ?_)
 show wpAny _ _ (Builtin.SmallTypes.ownedTupleIsFree (.ref z)>>=_) _ _ _
 refine Za ?_
 unfold Builtin.SmallTypes.ownedTupleIsFree
 refine Za (ZQ hz rfl (x:=.none) rfl (Zi ?_))
 simp only[if_true]
 refine Za (wpAny_rule ?_)
 refine Za (ZQ hz rfl (x:=.ref TO) rfl ?_)
 refine Za (Z8 hz (by simp) fun h₁ hz₁ hs₁=>?_)
 replace hz₁:IsZip h₁ z TI TO .ellipsis:=hz₁
 refine Za ?_
 simp only[List.zipIdx_cons,List.zipIdx_nil,List.forIn_cons,List.forIn_nil]
 refine Za (Za (wpAny_onRaise ?_))
 show wpAny _ _ (Builtin.SmallTypes.nextOf (.ref i1)>>=_) _ _ _
 refine Za (D1.item k1 _ _ _ n1 ⟨h1.at fun o e=>hs₁.extBut _ _ D.i1z e,hl1.at fun o e=>hs₁.extBut _ _ D.l1.1 e⟩ fun x' h₂ tk hx' st₂ hs₂=>Zi ?_)
 rw[hx]at hx'
 cases hx'
 have hTO₂:IsPair h₂ TO a b:=hs₂.extBut _ _ D.TOi1 (hs₁.extBut _ _ D.TOz hTO)
 refine Za (wpAny_seqItems hTO₂ rfl ?_)
 refine Za (wpAny_updateSeq_pair hTO₂ fun h₃ hTO₃ hs₃=>?_)
 replace hTO₃:IsPair h₃ TO x b:=hTO₃
 refine Za (wpAny_letGo (Zi ?_))
 refine Za (Za (wpAny_onRaise ?_))
 show wpAny _ _ (Builtin.SmallTypes.nextOf (.ref i2)>>=_) _ _ _
 refine Za (D2.item k2 _ _ _ n2 ⟨h2.at fun o e=>hs₃.extBut _ _ D.TOi2.symm (hs₂.extBut _ _ D.i12.symm (hs₁.extBut _ _ D.i2z e)),hl2.at fun o e=>hs₃.extBut _ _ D.l2.2.1 (hs₂.extBut _ _ D.l2.2.2.1 (hs₁.extBut _ _ D.l2.1 e))⟩ fun y' h₄ tk2 hy' st₄ hs₄=>Zi ?_)
 rw[hy]at hy'
 cases hy'
 have hTO₄:IsPair h₄ TO x b:=hs₄.extBut _ _ D.TOi2 hTO₃
 refine Za (wpAny_seqItems hTO₄ rfl ?_)
 refine Za (wpAny_updateSeq_pair hTO₄ fun h₅ hTO₅ hs₅=>?_)
 replace hTO₅:IsPair h₅ TO x y:=hTO₅
 refine Za (wpAny_letGo (Zi (Zi ?_)))
 refine Za (wpAny_seqItems hTO₅ rfl ?_)
 refine Za (wpAny_newTuple ?_)
 have hsz:h₅.objs.size=s.heap.objs.size:=by rw[hs₅.1,hs₄.1,hs₃.1,hs₂.1,hs₁.1]
 have hz₅:IsZip h₅ z TI TO .ellipsis:=hs₅.extBut _ _ D.TOz.symm (hs₄.extBut _ _ D.i2z.symm (hs₃.extBut _ _ D.TOz.symm (hs₂.extBut _ _ D.i1z.symm hz₁)))
 have hk₅:∀c o,c≠z→c≠TO→c≠i1→c≠i2→s.heap.get? c=some o→h₅.get? c=some o:=fun c o c1 c2 c3 c4 e=>hs₅.extBut _ _ c2 (hs₄.extBut _ _ c4 (hs₃.extBut _ _ c2 (hs₂.extBut _ _ c3 (hs₁.extBut _ _ c1 e))))
 have g1:IsIt b1 h₅ i1 l1 (k1+1):=st₂.1.at fun o e=>hs₅.extBut _ _ D.TOi1.symm (hs₄.extBut _ _ D.i12 (hs₃.extBut _ _ D.TOi1.symm e))
 have g2:IsIt b2 h₅ i2 l2 (k2+1):=st₄.1.at fun o e=>hs₅.extBut _ _ D.TOi2.symm e
 have hzlt:z<h₅.objs.size:=Zs hz₅
 show wpAny _ _ (Builtin.SmallTypes.ownedTupleHandOut (.ref z) (.ref h₅.objs.size)>>=_) _ _ _
 refine Za ?_
 unfold Builtin.SmallTypes.ownedTupleHandOut
 have hz₆:IsZip (h₅.push {cls:=.type "tuple",data:=.seq #[x,y]}) z TI TO .ellipsis:=Zf _ hz₅
 refine Za (Z8 hz₆ (by simp) fun h₇ hz₇ hs₇=>?_)
 replace hz₇:IsZip h₇ z TI TO (rawInt h₅.objs.size):=hz₇
 refine Z8 hz₇ (by simp) fun h₈ hz₈ hs₈=>?_
 replace hz₈:IsZip h₈ z TI TO (rawInt h₅.objs.size):=hz₈
 have up:∀c o,c≠z→h₅.get? c=some o→h₈.get? c=some o:=fun c o c1 e=>hs₈.extBut _ _ c1 (hs₇.extBut _ _ c1 (Zf _ e))
 have hT₈:IsPair h₈ h₅.objs.size x y:=hs₈.extBut _ _ (Nat.ne_of_gt hzlt) (hs₇.extBut _ _ (Nat.ne_of_gt hzlt) (Zp _ rfl))
 have hz8:h₈.objs.size=h₅.objs.size+1:=by rw[hs₈.1,hs₇.1,Yh]
 rw[hsz]at hz₈ hT₈ hz8
 refine Zi ⟨_,rfl,?_⟩
 show Q (.ref h₅.objs.size) _
 rw[hsz]
 exact hQ h₈ hz₈ (up _ _ D.TOz hTO₅) (g1.at fun o e=>up _ o D.i1z e) (g2.at fun o e=>up _ o D.i2z e) hT₈ hz8 (fun c o c1 c2 c3 c4 e=>up c o c1 (hk₅ c o c1 c2 c3 c4 e)) _
theorem b3M'(D:ZApart z TI TO i1 i2 l1 l2)(hh:A.handled=none){Q:Fin→Shared→Prop}
  (hz:IsZip s.heap z TI TO .none) (hTI:IsPair s.heap TI (.ref i1) (.ref i2)) (hTO:IsPair s.heap TO a b)
  (h1:IsIt b1 s.heap i1 l1 k1) (h2:IsIt b2 s.heap i2 l2 k2) (hl1:IsSq b1 s.heap l1 xs) (hl2:IsSq b2 s.heap l2 ys) (hend:xs[k1]?=none∨ys[k2]?=none)
  (hE:∀h' e tk,(∀c o,c≠z→c≠TO→c≠i1→c≠i2→s.heap.get? c=some o→h'.get? c=some o)→(∃o,h'.get? e=some o∧o.cls=.type "StopIteration")→E (.ref e) {s with heap:=h',toks:=tk}):
  wpAny (model prog w) A (Builtin.«zip.__next__» ⟨[.ref z],[]⟩) Q E s:=by
 have D1:=draws (prog:=prog) (w:=w) (A:=A) hh b1 i1 l1 D.l1.2.2.1 xs
 have D2:=draws (prog:=prog) (w:=w) (A:=A) hh b2 i2 l2 D.l2.2.2.2 ys
 show wpAny _ _ (field (.ref z) 2>>=_) _ _ _
 refine Za (ZQ hz rfl (x:=.bool false) rfl ?_)
 show wpAny _ _ (field (.ref z) 3>>=_) _ _ _
 refine Za (ZQ hz rfl (x:=.ref TI) rfl ?_)
 refine Za (wpAny_seqItems hTI rfl ?_)
 show wpAny _ _ (Builtin.SmallTypes.ownedTupleIsFree (.ref z)>>=_) _ _ _
 refine Za ?_
 unfold Builtin.SmallTypes.ownedTupleIsFree
 refine Za (ZQ hz rfl (x:=.none) rfl (Zi ?_))
 simp only[if_true]
 refine Za (wpAny_rule ?_)
 refine Za (ZQ hz rfl (x:=.ref TO) rfl ?_)
 refine Za (Z8 hz (by simp) fun h₁ hz₁ hs₁=>?_)
 replace hz₁:IsZip h₁ z TI TO .ellipsis:=hz₁
 refine Za ?_
 simp only[List.zipIdx_cons,List.zipIdx_nil,List.forIn_cons,List.forIn_nil]
 refine Za (Za (wpAny_onRaise ?_))
 show wpAny _ _ (Builtin.SmallTypes.nextOf (.ref i1)>>=_) _ _ _
 by_cases n1:k1<xs.size
 ·have hy:ys[k2]?=none:=hend.resolve_left (by simp[n1])
  refine Za (D1.item k1 _ _ _ n1 ⟨h1.at fun o e=>hs₁.extBut _ _ D.i1z e,hl1.at fun o e=>hs₁.extBut _ _ D.l1.1 e⟩ fun x h₂ tk hx st₂ hs₂=>Zi ?_)
  have hTO₂:IsPair h₂ TO a b:=hs₂.extBut _ _ D.TOi1 (hs₁.extBut _ _ D.TOz hTO)
  refine Za (wpAny_seqItems hTO₂ rfl ?_)
  refine Za (wpAny_updateSeq_pair hTO₂ fun h₃ hTO₃ hs₃=>?_)
  refine Za (wpAny_letGo (Zi ?_))
  refine Za (Za (wpAny_onRaise ?_))
  show wpAny _ _ (Builtin.SmallTypes.nextOf (.ref i2)>>=_) _ _ _
  refine Za (a4B' hh (h2.at fun o e=>hs₃.extBut _ _ D.TOi2.symm (hs₂.extBut _ _ D.i12.symm (hs₁.extBut _ _ D.i2z e))) (hl2.at fun o e=>hs₃.extBut _ _ D.l2.2.1 (hs₂.extBut _ _ D.l2.2.2.1 (hs₁.extBut _ _ D.l2.1 e))) hy fun h₄ e hs₄ he=>?_)
  obtain⟨oe,hoe,hce⟩:=he
  have hz₄:IsZip h₄ z TI TO .ellipsis:=hs₄ _ _ D.i2z.symm (hs₃.extBut _ _ D.TOz.symm (hs₂.extBut _ _ D.i1z.symm hz₁))
  have hez:e≠z:=fun x=>by subst x;rw[hz₄]at hoe;cases hoe;simp at hce
  exact Z8 hz₄ (by simp) fun h₅ _ hs₅=>hE h₅ e _ (fun c o c1 c2 c3 c4 x=>hs₅.extBut _ _ c1 (hs₄ _ _ c4 (hs₃.extBut _ _ c2 (hs₂.extBut _ _ c3 (hs₁.extBut _ _ c1 x))))) ⟨oe,hs₅.extBut _ _ hez hoe,hce⟩
 ·have hx:xs[k1]?=none:=by simp;omega
  refine Za (a4B' hh (h1.at fun o e=>hs₁.extBut _ _ D.i1z e) (hl1.at fun o e=>hs₁.extBut _ _ D.l1.1 e) hx fun h₂ e hs₂ he=>?_)
  obtain⟨oe,hoe,hce⟩:=he
  have hz₂:IsZip h₂ z TI TO .ellipsis:=hs₂ _ _ D.i1z.symm hz₁
  have hez:e≠z:=fun x=>by subst x;rw[hz₂]at hoe;cases hoe;simp at hce
  exact Z8 hz₂ (by simp) fun h₃ _ hs₃=>hE h₃ e _ (fun c o c1 _ c3 _ x=>hs₃.extBut _ _ c1 (hs₂ _ _ c3 (hs₁.extBut _ _ c1 x))) ⟨oe,hs₃.extBut _ _ hez hoe,hce⟩
theorem a8P'(D:ZApart z TI TO i1 i2 l1 l2)(hh:A.handled=none){x y:Value}{Q:Option Value→Shared→Prop}
  (hz:IsZip s.heap z TI TO .none) (hTI:IsPair s.heap TI (.ref i1) (.ref i2)) (hTO:IsPair s.heap TO a b)
  (h1:IsIt b1 s.heap i1 l1 k1) (h2:IsIt b2 s.heap i2 l2 k2) (hl1:IsSq b1 s.heap l1 xs) (hl2:IsSq b2 s.heap l2 ys) (hx:xs[k1]?=some x) (hy:ys[k2]?=some y)
  (hQ:∀h',IsZip h' z TI TO (rawInt s.heap.objs.size)→IsPair h' TO x y→IsIt b1 h' i1 l1 (k1+1)→IsIt b2 h' i2 l2 (k2+1)→IsPair h' s.heap.objs.size x y→h'.objs.size=s.heap.objs.size+1→
   (∀c o,c≠z→c≠TO→c≠i1→c≠i2→s.heap.get? c=some o→h'.get? c=some o)→∀tk,Q (some (.ref s.heap.objs.size)) {s with heap:=h',toks:=tk}):
  wpAny (model prog w) A (pyNext (.ref z)) Q E s:=by
 have hT:s.TypeIs (.ref z) "zip":=⟨_,hz,rfl⟩
 unfold pyNext
 exact Za (wpAny_attempt (Z4 (name:=Str.ofString "__next__") hT F.slot_zip_next
  (Yi F.slot_zip_next hT F.entry_zip_next (zip_go D (show A.in1.handled=none from hh) hz hTI hTO h1 h2 hl1 hl2 hx hy fun h' a1 a2 a3 a4 a5 a6 a7 tk=>Zi (hQ h' a1 a2 a3 a4 a5 a6 a7 tk)) (F.args_zip_next_1 _))))
theorem a6p'(D:ZApart z TI TO i1 i2 l1 l2)(hh:A.handled=none){Q:Option Value→Shared→Prop}
  (hz:IsZip s.heap z TI TO .none) (hTI:IsPair s.heap TI (.ref i1) (.ref i2)) (hTO:IsPair s.heap TO a b)
  (h1:IsIt b1 s.heap i1 l1 k1) (h2:IsIt b2 s.heap i2 l2 k2) (hl1:IsSq b1 s.heap l1 xs) (hl2:IsSq b2 s.heap l2 ys) (hend:xs[k1]?=none∨ys[k2]?=none)
  (hQ:∀h' tk,(∀c o,c≠z→c≠TO→c≠i1→c≠i2→s.heap.get? c=some o→h'.get? c=some o)→Q none {s with heap:=h',toks:=tk}):wpAny (model prog w) A (pyNext (.ref z)) Q E s:=by
 have hT:s.TypeIs (.ref z) "zip":=⟨_,hz,rfl⟩
 unfold pyNext
 refine Za (wpAny_attempt (Z4 (name:=Str.ofString "__next__") hT F.slot_zip_next
  (Yi F.slot_zip_next hT F.entry_zip_next (b3M' D (show A.in1.handled=none from hh) hz hTI hTO h1 h2 hl1 hl2 hend fun h' e tk hk he=>?_) (F.args_zip_next_1 _))))
 obtain⟨o,ho,hc⟩:=he
 refine Za (wpAny_isInstance (T:="StopIteration") (b:=true) ⟨o,ho,hc⟩ isSubtype_stop ?_)
 exact Zi (hQ _ tk hk)
end
end Py
end
section
namespace Py
open PySem PySem.Spec PyProof.Rows L2
def itObj(b:Bool)(l:Addr):Obj:={cls:=.type (match b with|true=>"list_iterator"|false=>"tuple_iterator"),data:=.fields #[.ref l,.int 0 0]}
def zH1(h:Heap)(b1:Bool)(l1:Addr):Heap:=h.push (itObj b1 l1)
def zH2(h:Heap)(b1 b2:Bool)(l1 l2:Addr):Heap:=(zH1 h b1 l1).push (itObj b2 l2)
def zH3(h:Heap)(b1 b2:Bool)(l1 l2:Addr):Heap:=(zH2 h b1 b2 l1 l2).push {cls:=.type "tuple",data:=.seq #[.ref h.objs.size,.ref (zH1 h b1 l1).objs.size]}
def zH4(h:Heap)(b1 b2:Bool)(l1 l2:Addr):Heap:=(zH3 h b1 b2 l1 l2).push {cls:=.type "tuple",data:=.seq #[.none,.none]}
def zH5(h:Heap)(b1 b2:Bool)(l1 l2:Addr):Heap:=(zH4 h b1 b2 l1 l2).push {cls:=.type "zip",data:=.fields #[.none,.bool false,.bool false,.ref (zH2 h b1 b2 l1 l2).objs.size,.ref (zH3 h b1 b2 l1 l2).objs.size]}
theorem zip_new(b1 b2:Bool)(l1 l2:Addr)(xs ys:Array Value):
  Meets (Builtin.«zip.__new__» ⟨[.type "zip",.ref l1,.ref l2],[]⟩) (fun _ R s=>IsSq b1 s.heap l1 xs∧IsSq b2 s.heap l2 ys∧R (.ok (.ret (.ref (zH4 s.heap b1 b2 l1 l2).objs.size))) {s with heap:=zH5 s.heap b1 b2 l1 l2}):=
 .of_wp fun prog w A R s h=>by
  obtain⟨hp,g,d,tk,os⟩:=s;obtain⟨hl1,hl2,h⟩:=h
  have hsub:=sub_zip
  have hL2:IsSq b2 (zH1 hp b1 l1) l2 ys:=hl2.at fun o e=>Zf _ e
  cases b1 with
  |true=>
   have hL1:Heap.IsList (Shared.heap ⟨hp,g,d,tk,os⟩) l1 xs:=hl1
   cases b2 with
   |true=>
    have hL2:Heap.IsList (Shared.heap ⟨hp.push {cls:=.type "list_iterator",data:=.fields #[.ref l1,.int 0 0]},g,d,tk,os⟩) l2 ys:=hL2
    wp_walk using wpAny_pyIter_list hL1,wpAny_pyIter_list hL2
    exact⟨_,rfl,h⟩
   |false=>
    have hL2:Heap.IsTuple (Shared.heap ⟨hp.push {cls:=.type "list_iterator",data:=.fields #[.ref l1,.int 0 0]},g,d,tk,os⟩) l2 ys:=hL2
    wp_walk using wpAny_pyIter_list hL1,wpAny_pyIter_tuple hL2
    exact⟨_,rfl,h⟩
  |false=>
   have hL1:Heap.IsTuple (Shared.heap ⟨hp,g,d,tk,os⟩) l1 xs:=hl1
   cases b2 with
   |true=>
    have hL2:Heap.IsList (Shared.heap ⟨hp.push {cls:=.type "tuple_iterator",data:=.fields #[.ref l1,.int 0 0]},g,d,tk,os⟩) l2 ys:=hL2
    wp_walk using wpAny_pyIter_tuple hL1,wpAny_pyIter_list hL2
    exact⟨_,rfl,h⟩
   |false=>
    have hL2:Heap.IsTuple (Shared.heap ⟨hp.push {cls:=.type "tuple_iterator",data:=.fields #[.ref l1,.int 0 0]},g,d,tk,os⟩) l2 ys:=hL2
    wp_walk using wpAny_pyIter_tuple hL1,wpAny_pyIter_tuple hL2
    exact⟨_,rfl,h⟩
theorem a7r'{b:Bool}{h:Heap}{it l:Addr}(e:h.get? it=some (itObj b l)):IsIt b h it l 0:=by
 cases b with
 |true=>exact⟨_,e,rfl,rfl⟩
 |false=>exact⟨_,e,rfl,rfl⟩
section
variable {prog:Program}{w:World}{A:Around}{E:Value→Shared→Prop}{s:Shared}
theorem b3N'{b1 b2:Bool}{l1 l2:Addr}{xs ys:Array Value}{Q:Value→Shared→Prop}(hl1:IsSq b1 s.heap l1 xs)(hl2:IsSq b2 s.heap l2 ys)
  (h:∀h',IsZip h' (s.heap.objs.size+4) (s.heap.objs.size+2) (s.heap.objs.size+3) .none→IsPair h' (s.heap.objs.size+2) (.ref s.heap.objs.size) (.ref (s.heap.objs.size+1))→
   IsPair h' (s.heap.objs.size+3) .none .none→IsIt b1 h' s.heap.objs.size l1 0→IsIt b2 h' (s.heap.objs.size+1) l2 0→h'.objs.size=s.heap.objs.size+5→
   (∀c o,s.heap.get? c=some o→h'.get? c=some o)→Q (.ref (s.heap.objs.size+4)) {s with heap:=h'}):
  wpAny (model prog w) A (call (.type "zip") [.ref l1,.ref l2]) Q E s:=by
 refine callType_new F.called_zip (by decide) (F.typeCall_zip_2 _ _) (F.newCall_zip_2 _ _) (fun obj=>F.args_object_init_3 obj _ _) F.entry_zip_new (zip_new b1 b2 l1 l2 xs ys) ⟨hl1,hl2,?_⟩
 have z1:(zH1 s.heap b1 l1).objs.size=s.heap.objs.size+1:=Yh ..
 have z2:(zH2 s.heap b1 b2 l1 l2).objs.size=s.heap.objs.size+2:=by unfold zH2;rw[Yh,z1]
 have z3:(zH3 s.heap b1 b2 l1 l2).objs.size=s.heap.objs.size+3:=by unfold zH3;rw[Yh,z2]
 have z4:(zH4 s.heap b1 b2 l1 l2).objs.size=s.heap.objs.size+4:=by unfold zH4;rw[Yh,z3]
 have z5:(zH5 s.heap b1 b2 l1 l2).objs.size=s.heap.objs.size+5:=by unfold zH5;rw[Yh,z4]
 have g5:(zH5 s.heap b1 b2 l1 l2).get? (zH4 s.heap b1 b2 l1 l2).objs.size=some _:=Zp _ rfl
 have g4:(zH5 s.heap b1 b2 l1 l2).get? (zH3 s.heap b1 b2 l1 l2).objs.size=some _:=Zf _ (Zp _ rfl)
 have g3:(zH5 s.heap b1 b2 l1 l2).get? (zH2 s.heap b1 b2 l1 l2).objs.size=some _:=Zf _ (Zf _ (Zp _ rfl))
 have g2:(zH5 s.heap b1 b2 l1 l2).get? (zH1 s.heap b1 l1).objs.size=some (itObj b2 l2):=Zf _ (Zf _ (Zf _ (Zp _ (by cases b2<;>rfl))))
 have g1:(zH5 s.heap b1 b2 l1 l2).get? s.heap.objs.size=some (itObj b1 l1):=Zf _ (Zf _ (Zf _ (Zf _ (Zp _ (by cases b1<;>rfl)))))
 show _∧_
 rw[z2,z3,z4]at g5
 rw[z1,z2]at g3
 rw[z3]at g4
 rw[z1]at g2
 rw[z4]
 exact⟨⟨_,g5,rfl⟩,h _ g5 g3 g4 (a7r' g1) (a7r' g2) z5 fun c o x=>
  Zf _ (Zf _ (Zf _ (Zf _ (Zf _ x))))⟩
end
def SqB(b:Bool)(K:PySem.W.Frag)(H:Hp)(l:Addr)(xs:List V):Prop:=match b with
 |true=>SqL K H l xs
 |false=>SqT K H l xs
def Itz(K:PySem.W.Frag)(b1 b2:Bool)(l1 l2:Addr):It:=
 ⟨fun i H=>∃xs ys x y,SqB b1 K H l1 xs∧SqB b2 K H l2 ys∧xs[i]?=some x∧ys[i]?=some y,
  fun i H v H'=>∃T x y,v=.ref T∧H T=none∧H'=upd H T (.tup [x,y])∧(∀xs,SqB b1 K H l1 xs→xs[i]?=some x)∧(∀ys,SqB b2 K H l2 ys→ys[i]?=some y),
  fun i H=>∃xs ys,SqB b1 K H l1 xs∧SqB b2 K H l2 ys∧(xs.length≤i∨ys.length≤i)⟩
section
variable {X:Cx}{pins:List (Addr×Obj)}{σ:L2.St}{H:Hp}{s:Shared}
theorem a5G'{b:Bool}{l:Addr}{xs:List V}(I:Inv X pins σ H s)(h:SqB b X.K H l xs):∃its,Vals xs its∧IsSq b s.heap l its.toArray:=by
 cases b with
 |true=>obtain⟨its,r,p,_⟩:=I.list h;exact⟨its,r,p.isList⟩
 |false=>obtain⟨its,r,p,_⟩:=I.tuple h;exact⟨its,r,p⟩
theorem a9W'{b:Bool}{l:Addr}{xs ys:List V}(I:Inv X pins σ H s)(h:SqB b X.K H l xs)(h':SqB b X.K H l ys):xs=ys:=by
 cases b with
 |true=>exact I.list_inj h h'
 |false=>exact I.tuple_inj h h'
theorem a2I'{b:Bool}{l c:Addr}{xs:List V}(I:Inv X pins σ H s)(h:SqB b X.K H l xs)(hf:FpOk X pins H c):l≠c:=by
 have kl:∀{o:Obj},X.K.lookup l=some o→l≠c:=fun{o} e=>by
  have e1:X.base.get? l=some o:=I.mod.kin l o e
  rintro rfl
  rcases hf.2.2.2.1 with z|z
  ·exact I.ok.noex l o e1 z
  ·exact absurd (ZL (Zs e1) (ZB I.ok.bsz z)) (Nat.lt_irrefl _)
 have hl:∀{o:HO},H l=some o→l≠c:=fun{o} e=>by
  rintro rfl
  rw[hf.1]at e;cases e
 cases b with
 |true=>
  rcases h with(h| ⟨o,h⟩)| ⟨o,its,n,h,_⟩
  ·exact hl h
  ·exact hl h
  ·exact kl h
 |false=>
  rcases h with(h| ⟨o,h⟩)| ⟨o,its,n,h,_⟩
  ·exact hl h
  ·exact hl h
  ·exact kl h
end
theorem a5p'{X:Cx}{pins:List (Addr×Obj)}{σ:L2.St}{H:Hp}{s:Shared}{h':Heap}{t':Nat}{ch:List Addr}(I:Inv X pins σ H s)(k:∀b o,b∉ch→s.heap.get? b=some o→h'.get? b=some o)(hf:∀b∈ch,FpOk X pins H b):Inv X pins σ H {s with heap:=h',toks:=t'}:=by
 have nit:∀b u,H b=some u→b∉ch:=fun b u e z=>by rw[(hf b z).1]at e;cases e
 refine I.step (g':=s.gens) (d':=s.drawn) (ch:=ch) (fun b hb=>?_) (fun b o _ _ hc e _=>k b o hc e) (fun b o _ _ hc e _=>⟨o.slots,k b o hc e⟩) (fun _ _ _ _ n=>n)
  (fun b o hc e=>⟨o,k b o hc e⟩) (fun _ _ e=>e) (fun _ _ _ e=>e) (fun b ps e=>⟨#[],by rw[e];simp⟩) (fun m hm=>?_) (fun b u e=>?_) I.bare
 ·obtain⟨_,f1,_,f3,f4,f5⟩:=hf b hb
  exact⟨f3,f1,f4,f5⟩
 ·obtain⟨o,es,ep,ho,r⟩:=hm
  exact⟨o,es,ep,k _ o (fun z=>(hf _ z).2.1 rfl) ho,r⟩
 ·refine(I.hok b u e).stay (fun c v hc q=>k c v ?_ q) (fun _ q=>q) fun _ _ q=>q
  rcases hc with z|z
  ·rw[z];exact nit b u e
  ·exact nit c _ z
def ztn(b b':Bool)(z TI TO i1 i2 l1 l2:Addr)(i:Nat)(h:Heap):Prop:=IsZip h z TI TO .none∧IsPair h TI (.ref i1) (.ref i2)∧(∃a b,IsPair h TO a b)∧IsIt b h i1 l1 i∧IsIt b' h i2 l2 i
theorem b3O'{P:Program}{w:World}{K:PySem.W.Frag}{es:List Expr}{x1}{pos:Pos}(b b':Bool)(z TI TO i1 i2 l1 l2:Addr)(n1:TI≠z)(n2:TO≠z)(n3:i1≠z)(n4:i2≠z)(n5:TI≠TO)(n6:TI≠i1)(n7:TI≠i2)(n8:TO≠i1)(n9:TO≠i2)(n10:i1≠i2):
  Turn P w K (.Tuple es x1 pos) (Itz K b b' l1 l2) [z,TI,TO,i1,i2] z (ztn b b' z TI TO i1 i2 l1 l2) where
 mem:=by simp
 obj:=fun i h ⟨hz,hTI,⟨a,c,hTO⟩,h1,h2⟩ d hd=>by
  simp only[Zr,ZS,or_false]at hd
  rcases hd with rfl|rfl|rfl|rfl|rfl
  ·exact⟨_,hz,fun v q=>by have q':Data.fields _=Data.cell v:=q;cases q'⟩
  ·exact⟨_,hTI,fun v q=>by have q':Data.seq _ _=Data.cell v:=q;cases q'⟩
  ·exact⟨_,hTO,fun v q=>by have q':Data.seq _ _=Data.cell v:=q;cases q'⟩
  ·exact h1.obj
  ·exact h2.obj
 keep:=fun i h h' ⟨hz,hTI,⟨a,c,hTO⟩,h1,h2⟩ k=>⟨k z (by simp) _ hz,k TI (by simp) _ hTI,⟨a,c,k TO (by simp) _ hTO⟩,h1.at fun o e=>k i1 (by simp) o e,h2.at fun o e=>k i2 (by simp) o e⟩
 item:=by
  intro X hP hw hK hc i pins s σ H E I hf st hg
  subst hP hw hK
  obtain⟨hz,hTI,⟨a,c,hTO⟩,h1,h2⟩:=st
  obtain⟨xs,ys,x,y,q1,q2,ex,ey⟩:=hg
  obtain⟨us,r1,s1⟩:=a5G' I q1
  obtain⟨ws,r2,s2⟩:=a5G' I q2
  obtain⟨u,eu,ru⟩:=r1.get ex
  obtain⟨v,ev,rv⟩:=r2.get ey
  have Dp:ZApart z TI TO i1 i2 l1 l2:=⟨n1,n2,n3,n4,n5,n6,n7,n8,n9,n10,⟨a2I' I q1 (hf z (by simp)),a2I' I q1 (hf TO (by simp)),a2I' I q1 (hf i1 (by simp)),a2I' I q1 (hf i2 (by simp))⟩,
   ⟨a2I' I q2 (hf z (by simp)),a2I' I q2 (hf TO (by simp)),a2I' I q2 (hf i1 (by simp)),a2I' I q2 (hf i2 (by simp))⟩⟩
  refine a8P' Dp (I.ok.hd hc) hz hTI hTO h1 h2 s1 s2 (x:=u) (y:=v) (by simpa using eu) (by simpa using ev) fun h' a1 a2 a3 a4 a5 a6 kk tk=>?_
  refine⟨_,rfl,?_⟩
  refine wpAny_letOwnedTupleGo_zip (s:={s with heap:=h',toks:=tk}) a1 fun h2' b1 sb=>?_
  have hTn:H s.heap.objs.size=none:=I.hok.fresh (Zl _)
  have kk2:∀c o,c∉[z,TI,TO,i1,i2]→s.heap.get? c=some o→h2'.get? c=some o:=fun c o hc e=>by
   simp only[Zr,ZS,or_false,not_or]at hc
   exact(sb.2 c hc.1).trans (kk c o hc.1 hc.2.2.1 hc.2.2.2.1 hc.2.2.2.2 e)
  have I1:Inv X pins σ H {s with heap:=h2',toks:=tk}:=a5p' I kk2 hf
  have hTz:∀c∈[z,TI,TO,i1,i2],s.heap.objs.size≠c:=fun c hc e=>by
   obtain⟨o,q,_⟩:∃o,s.heap.get? c=some o∧True:=by
    simp only[Zr,ZS,or_false]at hc
    rcases hc with rfl|rfl|rfl|rfl|rfl
    ·exact⟨_,hz,trivial⟩
    ·exact⟨_,hTI,trivial⟩
    ·exact⟨_,hTO,trivial⟩
    ·exact⟨_,h1.obj.choose_spec.1,trivial⟩
    ·exact⟨_,h2.obj.choose_spec.1,trivial⟩
   exact absurd (Zs q) (by rw[e];exact Nat.lt_irrefl _)
  have hT2:IsPair h2' s.heap.objs.size u v:=(sb.2 _ (hTz z (by simp))).trans a5
  have I2:Inv X pins σ (upd H s.heap.objs.size (.tup [x,y])) {s with heap:=h2',toks:=tk}:=by
   have Im:Inv X pins σ (upd H s.heap.objs.size (.tup [x,y])) {s with heap:=s.heap.push {cls:=.type "tuple",data:=.seq #[u,v]},toks:=s.toks}:=
    I.laid (fun b o e=>Zf _ e) (Zl _) ⟨by show 2≤sizeLine;decide,[u,v],.cons ru (.cons rv .nil),⟨_,Zp _ rfl,rfl,_,rfl⟩,_,Zp _ rfl,rfl⟩
   refine a5p' (s:={s with heap:=s.heap.push {cls:=.type "tuple",data:=.seq #[u,v]},toks:=s.toks}) Im (ch:=[z,TI,TO,i1,i2]) (fun b o hb e=>?_) fun b hb=>?_
   ·rcases Heap.get?_push_cases e with⟨rfl,rfl⟩|e'
    ·exact hT2
    ·exact kk2 b o hb e'
   ·obtain⟨f0,f1⟩:=hf b hb
    exact⟨by rw[a0v' (fun e=>hTz b hb e.symm)];exact f0,f1⟩
  refine⟨.ref s.heap.objs.size,upd H s.heap.objs.size (.tup [x,y]),I2,rfl,⟨s.heap.objs.size,x,y,rfl,hTn,rfl,fun zs hq=>by rw[a9W' I hq q1];exact ex,fun zs hq=>by rw[a9W' I hq q2];exact ey⟩,
   ⟨b1,(sb.2 TI n1).trans (kk TI _ n1 n5 n6 n7 hTI),⟨u,v,(sb.2 TO n2).trans a2⟩,a3.at fun o e=>(sb.2 i1 n3).trans e,a4.at fun o e=>(sb.2 i2 n4).trans e⟩,fun c hc=>?_⟩
  rw[a0v' (fun e=>hTz c hc e.symm)]
  exact(hf c hc).1
 done:=by
  intro X hP hw hK hc i pins s σ H E I hf st hg
  subst hP hw hK
  obtain⟨hz,hTI,⟨a,c,hTO⟩,h1,h2⟩:=st
  obtain⟨xs,ys,q1,q2,en⟩:=hg
  obtain⟨us,r1,s1⟩:=a5G' I q1
  obtain⟨ws,r2,s2⟩:=a5G' I q2
  have hl1:=r1.length
  have hl2:=r2.length
  have Dp:ZApart z TI TO i1 i2 l1 l2:=⟨n1,n2,n3,n4,n5,n6,n7,n8,n9,n10,⟨a2I' I q1 (hf z (by simp)),a2I' I q1 (hf TO (by simp)),a2I' I q1 (hf i1 (by simp)),a2I' I q1 (hf i2 (by simp))⟩,
   ⟨a2I' I q2 (hf z (by simp)),a2I' I q2 (hf TO (by simp)),a2I' I q2 (hf i1 (by simp)),a2I' I q2 (hf i2 (by simp))⟩⟩
  refine a6p' Dp (I.ok.hd hc) hz hTI hTO h1 h2 s1 s2 (en.elim (fun en=>.inl (by simp;omega)) fun en=>.inr (by simp;omega)) fun h' tk kk=>?_
  refine⟨rfl,a5p' I (ch:=[z,TI,TO,i1,i2]) (fun c o hc e=>?_) hf⟩
  simp only[Zr,ZS,or_false,not_or]at hc
  exact kk c o hc.1 hc.2.2.1 hc.2.2.2.1 hc.2.2.2.2 e
 self:=fun _ _ _ _ _ st h=>wpAny_pyIter_zip st.1 h
end Py
end
section
namespace Py
open PySem PySem.Spec PyProof.Rows L2
section
variable {prog:Program}{w:World}{A:Around}{E:Value→Shared→Prop}{s:Shared}
end
section
variable {X:Cx}{tg:Expr}
end
end Py
end
section
namespace Py
open PySem PySem.Spec PyProof.Rows L2
def enO(it:Addr):Obj:={cls:=.type "enumerate",data:=.fields #[.none,.bool false,.ref it,rawInt 0,.none,.none]}
theorem b3P'(b:Bool)(l:Addr)(vs:Array Value)(o:Obj):
  Meets (Builtin.«enumerate.__new__» ⟨[.type "enumerate",.ref l],[]⟩) (fun _ R s=>s.heap.get? l=some o∧IsSq b s.heap l vs∧R (.ok (.ret (.ref (s.heap.push (itObj b l)).objs.size))) {s with heap:=(s.heap.push (itObj b l)).push (enO s.heap.objs.size)}):=
 .of_wp fun prog w A R s h=>by
  obtain⟨hp,g,d,tk,os⟩:=s;obtain⟨hl,hT,h⟩:=h
  have q1:=sub_enumerate
  cases b with
  |true=>
   have hT:Heap.IsList (Shared.heap ⟨hp,g,d,tk,os⟩) l vs:=hT
   wp_walk using AutoSeq1.wpAny_loadPart' hl
   refine wpAny_stack_any fun st=>Zi ?_
   split
   ·rename_i c _ _ _ _ _
    cases(c==Value.type "enumerate")<;>(wp_walk using AutoSeq1.wpAny_loadPart' hl,wpAny_pyIter_list hT)<;>exact⟨_,rfl,h⟩
   ·wp_walk using AutoSeq1.wpAny_loadPart' hl,wpAny_pyIter_list hT
    exact⟨_,rfl,h⟩
  |false=>
   have hT:Heap.IsTuple (Shared.heap ⟨hp,g,d,tk,os⟩) l vs:=hT
   wp_walk using AutoSeq1.wpAny_loadPart' hl
   refine wpAny_stack_any fun st=>Zi ?_
   split
   ·rename_i c _ _ _ _ _
    cases(c==Value.type "enumerate")<;>(wp_walk using AutoSeq1.wpAny_loadPart' hl,wpAny_pyIter_tuple hT)<;>exact⟨_,rfl,h⟩
   ·wp_walk using AutoSeq1.wpAny_loadPart' hl,wpAny_pyIter_tuple hT
    exact⟨_,rfl,h⟩
section
variable {prog:Program}{w:World}{A:Around}{E:Value→Shared→Prop}{s:Shared}
theorem b1H'{b:Bool}{l:Addr}{vs:Array Value}{Q:Value→Shared→Prop}(ht:IsSq b s.heap l vs)
  (h:∀h',IsEnum h' (s.heap.objs.size+1) s.heap.objs.size 0 .none→IsIt b h' s.heap.objs.size l 0→h'.objs.size=s.heap.objs.size+2→(∀b o,s.heap.get? b=some o→h'.get? b=some o)→Q (.ref (s.heap.objs.size+1)) {s with heap:=h'}):
  wpAny (model prog w) A (call (.type "enumerate") [.ref l]) Q E s:=by
 obtain⟨o,hl⟩:∃o,s.heap.get? l=some o:=by
  cases b with
  |true=>obtain⟨o,e,_⟩:=ht;exact⟨o,e⟩
  |false=>obtain⟨o,e,_⟩:=ht;exact⟨o,e⟩
 refine callType_new F.called_enumerate (by decide) (F.typeCall_enumerate_1 _) (F.newCall_enumerate_1 _) (fun obj=>F.args_object_init_2 obj _) F.entry_enumerate_new (b3P' b l vs o) ⟨hl,ht,?_⟩
 have hz:(s.heap.push (itObj b l)).objs.size=s.heap.objs.size+1:=Yh ..
 show _∧_
 rw[hz]
 have he:IsEnum ((s.heap.push (itObj b l)).push (enO s.heap.objs.size)) (s.heap.objs.size+1) s.heap.objs.size 0 .none:=by
  have:=Zp (s.heap.push (itObj b l)) (o:=enO s.heap.objs.size) rfl
  rw[hz]at this;exact this
 exact⟨⟨_,he,rfl⟩,h _ he (a7r' (Zf _ (Zp _ rfl))) (by rw[Yh,hz]) fun b o x=>Zf _ (Zf _ x)⟩
theorem nextIt{b:Bool}{it t:Addr}{i:Nat}{items:Array Value}{x:Value}{Q:Value→Shared→Prop}(hit:IsIt b s.heap it t i)(ht:IsSq b s.heap t items)(hx:items[i]?=some x)
  (hQ:∀h',IsIt b h' it t (i+1)→Heap.SameBut it s.heap h'→Q x {s with heap:=h'}):wpAny (model prog w) A (Builtin.SmallTypes.nextOf (.ref it)) Q E s:=by
 cases b with
 |true=>exact wpAny_nextOf_list_item hit ht hx hQ
 |false=>exact a6o' hit ht hx hQ
theorem enum_go{b:Bool}{e it l:Addr}{i:Nat}{vs:Array Value}{x old:Value}{Q:Value→Shared→Prop}(he:IsEnum s.heap e it i old)(hit:IsIt b s.heap it l i)(hl:IsSq b s.heap l vs)(hx:vs[i]?=some x)(hne:e≠it)
  (hQ:∀h',IsEnumOut h' e it ((i:Int)+1) x s.heap.objs.size→IsIt b h' it l (i+1)→h'.get? s.heap.objs.size=some {cls:=.type "tuple",data:=.seq #[.int i s.toks,x]}→h'.objs.size=s.heap.objs.size+1→
   (∀b o,b≠e→b≠it→s.heap.get? b=some o→h'.get? b=some o)→Q (.ref s.heap.objs.size) {s with heap:=h',toks:=s.toks+1}):
  wpAny (model prog w) A (Builtin.«enumerate.__next__» ⟨[.ref e],[]⟩) (fun fin s'=>∃v,fin=.done (.ret v)∧Q v s') E s:=by
 obtain⟨hp,g,d,tk,os⟩:=s
 show wpAny _ _ (field (.ref e) 2>>=_) _ _ _
 refine Za (ZQ he rfl (x:=.ref it) rfl (Za (nextIt hit hl hx fun k1 i1 s1=>?_)))
 replace s1:Heap.SameBut it hp k1:=s1
 have e1:IsEnum k1 e it i old:=(s1.2 e hne).trans he
 show wpAny _ _ (field (.ref e) 3>>=_) _ _ ⟨k1,g,d,tk,os⟩
 refine Za (ZQ e1 rfl (x:=rawInt i) rfl ?_)
 show wpAny _ _ (field (.ref e) 4>>=_) _ _ ⟨k1,g,d,tk,os⟩
 refine Za (ZQ e1 rfl (x:=.none) rfl ?_)
 show wpAny _ _ (mkInt i>>=_) _ _ ⟨k1,g,d,tk,os⟩
 refine Za (wpAny_mkInt ?_)
 show wpAny _ _ (setField (.ref e) 3 (rawInt ((i:Int)+1))>>=_) _ _ ⟨k1,g,d,tk+1,os⟩
 refine Za (Z8 e1 (by simp) fun k2 e2 s2=>?_)
 replace s2:Heap.SameBut e k1 k2:=s2
 replace e2:IsEnum k2 e it ((i:Int)+1) old:=e2
 show wpAny _ _ (setField (.ref e) 4 .none>>=_) _ _ ⟨k2,g,d,tk+1,os⟩
 refine Za (Z8 e2 (by simp) fun k3 e3 s3=>?_)
 replace s3:Heap.SameBut e k2 k3:=s3
 replace e3:IsEnum k3 e it ((i:Int)+1) old:=e3
 show wpAny _ _ (newTuple [.int i tk,x]>>=_) _ _ ⟨k3,g,d,tk+1,os⟩
 refine Za (wpAny_newTuple ?_)
 have e4:IsEnum (k3.push {cls:=.type "tuple",data:=.seq #[.int i tk,x]}) e it ((i:Int)+1) old:=Zf _ e3
 generalize q4:k3.push {cls:=.type "tuple",data:=.seq #[.int i tk,x]}=k4 at e4
 have hsz:k3.objs.size=hp.objs.size:=by rw[s3.1,s2.1,s1.1]
 have hel:e<hp.objs.size:=Zs he
 have t4:k4.get? hp.objs.size=some {cls:=.type "tuple",data:=.seq #[.int i tk,x]}:=by rw[←q4,←hsz];exact Zp _ rfl
 have z4:k4.objs.size=hp.objs.size+1:=by rw[←q4,Yh,hsz]
 have kp:∀b o,b≠e→b≠it→hp.get? b=some o→k4.get? b=some o:=fun b o hbe hbi hb=>by
  rw[←q4];exact Zf _ (s3.extBut b o hbe (s2.extBut b o hbe (s1.extBut b o hbi hb)))
 have i4:IsIt b k4 it l (i+1):=by
  rw[←q4]
  exact i1.at fun o q=>Zf _ (s3.extBut _ o (Ne.symm hne) (s2.extBut _ o (Ne.symm hne) q))
 show wpAny _ _ (Builtin.SmallTypes.ownedTupleIsFree (.ref e)>>=_) _ _ ⟨k4,g,d,tk+1,os⟩
 rw[hsz]
 clear q4 e3 s3 e2 s2 e1 s1 i1 hsz k3 k2 k1
 refine Za ?_
 unfold Builtin.SmallTypes.ownedTupleIsFree
 refine Za (ZQ e4 rfl (x:=.none) rfl (Zi ?_))
 simp only[if_true]
 refine Za (wpAny_rule (Za (ZQ e4 rfl (x:=old) rfl (Za (Z8 e4 (by simp) fun k5 e5 s5=>?_)))))
 replace s5:Heap.SameBut e k4 k5:=s5
 replace e5:IsEnum k5 e it ((i:Int)+1) x:=e5
 show wpAny _ _ (Builtin.SmallTypes.ownedTupleHandOut (.ref e) (.ref hp.objs.size)>>=_) _ _ ⟨k5,g,d,tk+1,os⟩
 refine Za ?_
 unfold Builtin.SmallTypes.ownedTupleHandOut
 refine Za (Z8 e5 (by simp) fun k6 e6 s6=>?_)
 replace s6:Heap.SameBut e k5 k6:=s6
 replace e6:IsEnumOut k6 e it ((i:Int)+1) x hp.objs.size:=e6
 refine Z8 e6 (by simp) fun k7 e7 s7=>?_
 replace s7:Heap.SameBut e k6 k7:=s7
 replace e7:IsEnumOut k7 e it ((i:Int)+1) x hp.objs.size:=e7
 have up:∀b o,b≠e→k4.get? b=some o→k7.get? b=some o:=fun b o hb q=>s7.extBut b o hb (s6.extBut b o hb (s5.extBut b o hb q))
 exact Za (wpAny_letGo (Zi ⟨_,rfl,hQ k7 e7 (i4.at fun o q=>up _ o (Ne.symm hne) q) (up _ _ (Nat.ne_of_gt hel) t4) (by rw[s7.1,s6.1,s5.1,z4]) fun b o hbe hbi hb=>up b o hbe (kp b o hbe hbi hb)⟩))
theorem a7s'{b:Bool}{e it l:Addr}{i:Nat}{vs:Array Value}{x old:Value}{Q:Option Value→Shared→Prop}(he:IsEnum s.heap e it i old)(hit:IsIt b s.heap it l i)(hl:IsSq b s.heap l vs)(hx:vs[i]?=some x)(hne:e≠it)
  (hQ:∀h',IsEnumOut h' e it ((i:Int)+1) x s.heap.objs.size→IsIt b h' it l (i+1)→h'.get? s.heap.objs.size=some {cls:=.type "tuple",data:=.seq #[.int i s.toks,x]}→h'.objs.size=s.heap.objs.size+1→
   (∀b o,b≠e→b≠it→s.heap.get? b=some o→h'.get? b=some o)→Q (some (.ref s.heap.objs.size)) {s with heap:=h',toks:=s.toks+1}):wpAny (model prog w) A (pyNext (.ref e)) Q E s:=by
 have hT:s.TypeIs (.ref e) "enumerate":=⟨_,he,rfl⟩
 unfold pyNext
 exact Za (wpAny_attempt (Z4 (name:=Str.ofString "__next__") hT F.slot_enumerate_next (Yi F.slot_enumerate_next hT F.entry_enumerate_next
   (enum_go he hit hl hx hne fun h' a b c d k=>Zi (hQ h' a b c d k)) (F.args_enumerate_next_1 _))))
theorem a5H'{b:Bool}{e it l:Addr}{i:Nat}{vs:Array Value}{old:Value}{Q:Option Value→Shared→Prop}(hh:A.handled=none)(he:IsEnum s.heap e it i old)(hit:IsIt b s.heap it l i)(hl:IsSq b s.heap l vs)(hx:vs[i]?=none)
  (hQ:∀h',Heap.ExtBut it s.heap h'→Q none {s with heap:=h'}):wpAny (model prog w) A (pyNext (.ref e)) Q E s:=by
 have hT:s.TypeIs (.ref e) "enumerate":=⟨_,he,rfl⟩
 unfold pyNext
 refine Za (wpAny_attempt (Z4 (name:=Str.ofString "__next__") hT F.slot_enumerate_next (Yi F.slot_enumerate_next hT F.entry_enumerate_next ?_ (F.args_enumerate_next_1 _))))
 show wpAny _ _ (field (.ref e) 2>>=_) _ _ _
 refine Za (ZQ he rfl (x:=.ref it) rfl (Za (a4B' hh hit hl hx fun h' y he' hx'=>?_)))
 obtain⟨o,ho,hc⟩:=hx'
 exact Za (wpAny_isInstance (T:="StopIteration") (b:=true) ⟨o,ho,hc⟩ isSubtype_stop (Zi (hQ _ he')))
end
def Ite(K:PySem.W.Frag)(b:Bool)(l:Addr):It:=
 ⟨fun i H=>∃xs x,SqB b K H l xs∧xs[i]?=some x,
  fun i H v H'=>∃T x,v=.ref T∧H T=none∧H'=upd H T (.tup [.int (i:Nat),x])∧∀xs,SqB b K H l xs→xs[i]?=some x,
  fun i H=>∃xs,SqB b K H l xs∧xs.length≤i⟩
theorem a8f'{P:Program}{w:World}{K:PySem.W.Frag}{es:List Expr}{x1}{pos:Pos}(b:Bool)(e it l:Addr)(hne:e≠it):
  Turn P w K (.Tuple es x1 pos) (Ite K b l) [e,it] e (fun i h=>(∃old,IsEnum h e it i old)∧IsIt b h it l i) where
 mem:=by simp
 obj:=fun i h ⟨⟨old,he⟩,hi⟩ d hd=>by
  simp only[Zr,ZS,or_false]at hd
  rcases hd with rfl|rfl
  ·exact⟨_,he,fun v q=>by have q':Data.fields _=Data.cell v:=q;cases q'⟩
  ·exact IsIt.obj hi
 keep:=fun i h h' ⟨⟨old,he⟩,hi⟩ k=>⟨⟨old,k e (by simp) _ he⟩,hi.at fun o q=>k it (by simp) o q⟩
 item:=by
  intro X hP hw hK hc i pins s σ H E I hf st hg
  subst hP hw hK
  obtain⟨⟨old,he⟩,hi⟩:=st
  obtain⟨xs,x,q1,ex⟩:=hg
  obtain⟨us,r1,s1⟩:=a5G' (b:=b) I q1
  obtain⟨u,eu,ru⟩:=r1.get ex
  refine a7s' he hi s1 (x:=u) (by simpa using eu) hne fun h' a1 a2 a3 a4 kk=>?_
  refine⟨_,rfl,?_⟩
  refine wpAny_letOwnedTupleGo_enum (s:={s with heap:=h',toks:=s.toks+1}) a1 fun h2' b1 sb=>?_
  have hTn:H s.heap.objs.size=none:=I.hok.fresh (Zl _)
  have kk2:∀c o,c∉[e,it]→s.heap.get? c=some o→h2'.get? c=some o:=fun c o hc q=>by
   simp only[Zr,ZS,or_false,not_or]at hc
   exact(sb.2 c hc.1).trans (kk c o hc.1 hc.2 q)
  have I1:Inv X pins σ H {s with heap:=h2',toks:=s.toks+1}:=a5p' I kk2 hf
  have hTz:∀c∈[e,it],s.heap.objs.size≠c:=fun c hc q=>by
   obtain⟨o,z⟩:∃o,s.heap.get? c=some o:=by
    simp only[Zr,ZS,or_false]at hc
    rcases hc with rfl|rfl
    ·exact⟨_,he⟩
    ·obtain⟨o,z,_⟩:=IsIt.obj hi;exact⟨o,z⟩
   exact absurd (Zs z) (by rw[q];exact Nat.lt_irrefl _)
  have hT2:h2'.get? s.heap.objs.size=some {cls:=.type "tuple",data:=.seq #[.int i s.toks,u]}:=(sb.2 _ (hTz e (by simp))).trans a3
  have I2:Inv X pins σ (upd H s.heap.objs.size (.tup [.int (i:Nat),x])) {s with heap:=h2',toks:=s.toks+1}:=by
   have Im:Inv X pins σ (upd H s.heap.objs.size (.tup [.int (i:Nat),x])) {s with heap:=s.heap.push {cls:=.type "tuple",data:=.seq #[.int i s.toks,u]},toks:=s.toks}:=
    I.laid (fun b o q=>Zf _ q) (Zl _) ⟨by show 2≤sizeLine;decide,[.int i s.toks,u],.cons ⟨_,rfl⟩ (.cons ru .nil),⟨_,Zp _ rfl,rfl,_,rfl⟩,_,Zp _ rfl,rfl⟩
   refine a5p' (s:={s with heap:=s.heap.push {cls:=.type "tuple",data:=.seq #[.int i s.toks,u]},toks:=s.toks}) Im (ch:=[e,it]) (fun b o hb q=>?_) fun b hb=>?_
   ·rcases Heap.get?_push_cases q with⟨rfl,rfl⟩|q'
    ·exact hT2
    ·exact kk2 b o hb q'
   ·obtain⟨f0,f1⟩:=hf b hb
    exact⟨by rw[a0v' (fun z=>hTz b hb z.symm)];exact f0,f1⟩
  refine⟨.ref s.heap.objs.size,upd H s.heap.objs.size (.tup [.int (i:Nat),x]),I2,rfl,⟨s.heap.objs.size,x,rfl,hTn,rfl,fun zs hq=>by rw[a9W' (b:=b) I hq q1];exact ex⟩,
   ⟨⟨u,b1⟩,a2.at fun o q=>(sb.2 it (Ne.symm hne)).trans q⟩,fun c hc=>?_⟩
  rw[a0v' (fun z=>hTz c hc z.symm)]
  exact(hf c hc).1
 done:=by
  intro X hP hw hK hc i pins s σ H E I hf st hg
  subst hP hw hK
  obtain⟨⟨old,he⟩,hi⟩:=st
  obtain⟨xs,q1,en⟩:=hg
  obtain⟨us,r1,s1⟩:=a5G' (b:=b) I q1
  have hl1:=r1.length
  refine a5H' (I.ok.hd hc) he hi s1 (by simp;omega) fun h' kk=>?_
  refine⟨rfl,a5p' (t':=s.toks) I (ch:=[e,it]) (fun c o hc q=>?_) hf⟩
  simp only[Zr,ZS,or_false,not_or]at hc
  exact kk c o hc.2 q
 self:=fun _ _ _ _ _ st h=>by
  obtain⟨⟨old,he⟩,_⟩:=st
  exact wpAny_pyIter_slot ⟨_,he,rfl⟩ F.slot_enumerate_iter (Yi F.slot_enumerate_iter ⟨_,he,rfl⟩ F.entry_enumerate_iter (Zi ⟨_,rfl,"enumerate",_,⟨_,he,rfl⟩,F.slot_enumerate_next.lookup,h⟩) (F.args_enumerate_iter_1 _))
end Py
end
section
namespace Py
open PySem PySem.Spec PyProof.Rows L2
end Py
end
section
namespace Py
open PySem PySem.Spec PyProof.Rows L2
structure Chg (K:PySem.W.Frag)(F:List Addr)(μ:List Addr)(H:Hp)(F':List Addr)(μ':List Addr)(H':Hp):Prop where
 tup:∀a vs,SqT K H a vs→SqT K H' a vs
 lst:∀a vs,H a=some (.lst vs)→a∉μ→a∉F→H' a=some (.lst vs)∧a∉μ'∧a∉F'
 frz:∀a vs,Frz K H a vs→Frz K H' a vs
 box:∀(n:Nat) a,μ[n]?=some a→μ'[n]?=some a
 dct:∀a,H a=some (.dK [])→H' a=some (.dK [])
section
variable {K:PySem.W.Frag}{mg:Str→Option Value}{F F' μ μ':List Addr}{H H':Hp}
mutual
theorem Rep.chg(x:Chg K F μ H F' μ' H'):∀(d:D) (v:V),Rep K ⟨mg,F⟩ μ H d v→Rep K ⟨mg,F'⟩ μ' H' d v
 | .non,_,h=>h
 | .bl _,_,h=>h
 | .int _,_,h=>h
 | .str _,_,h=>h
 | .tup ds,v,h=>by
  unfold Rep at h⊢
  obtain⟨a,vs,e,q,r⟩:=h
  exact⟨a,vs,e,x.tup a vs q,RepL.chg x ds vs r⟩
 | .lst ds,v,h=>by
  unfold Rep at h⊢
  obtain⟨a,vs,e,q,n,r⟩:=h
  obtain⟨h1,h2,h3⟩:=x.lst a vs q n.1 n.2
  exact⟨a,vs,e,h1,⟨h2,h3⟩,RepL.chg x ds vs r⟩
 | .scr ds,v,h=>by
  unfold Rep at h⊢
  obtain⟨a,vs,e,q,r⟩:=h
  exact⟨a,vs,e,x.frz a vs q,RepL.chg x ds vs r⟩
 | .ref n,v,h=>by
  unfold Rep at h⊢
  obtain⟨a,e,q⟩:=h
  exact⟨a,e,x.box n a q⟩
 | .fn y,v,h=>h
 | .ty y,v,h=>h
 | .dct,v,h=>by
  unfold Rep at h⊢
  obtain⟨a,e,q⟩:=h
  exact⟨a,e,x.dct a q⟩
theorem RepL.chg(x:Chg K F μ H F' μ' H'):∀(ds:List D) (vs:List V),RepL K ⟨mg,F⟩ μ H ds vs→RepL K ⟨mg,F'⟩ μ' H' ds vs
 | [],vs,h=>h
 |d::ds,vs,h=>by
  unfold RepL at h⊢
  obtain⟨w,ws,e,r,q⟩:=h
  exact⟨w,ws,e,Rep.chg x d w r,RepL.chg x ds ws q⟩
end
theorem EnvR.chg{ρ:Rho}{σ:L2.St}(x:Chg K F μ H F' μ' H')(h:EnvR K ⟨mg,F⟩ μ H ρ σ):EnvR K ⟨mg,F'⟩ μ' H' ρ σ:=
 ⟨h.1,fun i d e=>let⟨v,a,b⟩:=h.2 i d e;⟨v,a,Rep.chg x _ _ b⟩⟩
theorem Chg.start{acc:Addr}{o:HO}(h:H acc=none):Chg K F μ H (acc::F) μ (upd H acc o):=by
 have x:Ext μ H μ (upd H acc o):=.laid h
 refine⟨fun a vs q=>x.sqT q,fun a vs q h1 h2=>⟨(x.lst q h1).1,h1,fun z=>?_⟩,fun a vs q=>x.frz q,fun n a q=>q,fun a q=>x.keep _ _ q (.inl fun _ z=>by cases z)⟩
 rcases Zr.mp z with rfl|z
 ·rw[h]at q;cases q
 ·exact h2 z
theorem Chg.more{acc:Addr}{xs ys:List V}(ha:acc∈F)(h:H acc=some (.lst xs)):Chg K F μ H F μ (upd H acc (.lst ys)):=by
 have ne:∀{a:Addr} {o:HO},H a=some o→(∀zs,o≠.lst zs)→a≠acc:=fun e n z=>by subst z;rw[h]at e;cases e;exact n _ rfl
 refine⟨fun a vs q=>?_,fun a vs q h1 h2=>⟨?_,h1,h2⟩,fun a vs q=>?_,fun n a q=>q,fun a q=>?_⟩
 ·rcases q with(q| ⟨o,q⟩)|q
  ·exact .inl (.inl (by rw[a0v' (ne q fun _ z=>by cases z)];exact q))
  ·exact .inl (.inr ⟨o,by rw[a0v' (ne q fun _ z=>by cases z)];exact q⟩)
  ·exact .inr q
 ·have:a≠acc:=fun z=>by subst z;exact h2 ha
  rw[a0v' this];exact q
 ·rcases q with⟨o,q⟩|q
  ·exact .inl ⟨o,by rw[a0v' (ne q fun _ z=>by cases z)];exact q⟩
  ·exact .inr q
 ·rw[a0v' (ne q fun _ z=>by cases z)];exact q
theorem Chg.out{acc:Addr}:Chg K (acc::F) μ H F μ H:=
 ⟨fun _ _ q=>q,fun a vs q h1 h2=>⟨q,h1,fun z=>h2 (Zb _ z)⟩,fun _ _ q=>q,fun _ _ q=>q,fun _ q=>q⟩
theorem Chg.outBox{acc:Addr}:Chg K (acc::F) μ H F (μ++[acc]) H:=by
 refine⟨fun _ _ q=>q,fun a vs q h1 h2=>⟨q,fun z=>?_,fun z=>h2 (Zb _ z)⟩,fun _ _ q=>q,fun n a q=>?_,fun _ q=>q⟩
 ·rcases ZA.mp z with z|z
  ·exact h1 z
  ·have:a=acc:=by simpa using z
   subst this;exact h2 Zc
 ·rw[Zo (Zh.mp q).1];exact q
theorem SOk.start{S:Store}{acc:Addr}{o:HO}(s:SOk K ⟨mg,F⟩ μ S H)(h:H acc=none):SOk K ⟨mg,acc::F⟩ μ S (upd H acc o):=by
 have x:Ext μ H μ (upd H acc o):=.laid h
 refine⟨fun a ha=>?_,s.len,s.nd,fun n a ds h1 h2=>?_⟩
 ·rcases Zr.mp ha with rfl|ha
  ·exact⟨o,a0H'⟩
  ·obtain⟨o',q⟩:=s.live a ha;exact x.there a o' q
 ·obtain⟨vs,q,r⟩:=s.at_ n a ds h1 h2
  exact⟨vs,by rw[a0v' (a0q' q h)];exact q,RepL.chg (.start h) _ _ r⟩
theorem SOk.more{S:Store}{acc:Addr}{xs ys:List V}(s:SOk K ⟨mg,F⟩ μ S H)(ha:acc∈F)(hm:acc∉μ)(h:H acc=some (.lst xs)):SOk K ⟨mg,F⟩ μ S (upd H acc (.lst ys)):=by
 refine⟨fun a hb=>?_,s.len,s.nd,fun n a ds h1 h2=>?_⟩
 ·by_cases e:a=acc
  ·subst e;exact⟨_,a0H'⟩
  ·obtain⟨o',q⟩:=s.live a hb;exact⟨o',by rw[a0v' e];exact q⟩
 ·obtain⟨vs,q,r⟩:=s.at_ n a ds h1 h2
  have:a≠acc:=fun z=>by subst z;exact hm (Zz h1)
  exact⟨vs,by rw[a0v' this];exact q,RepL.chg (.more ha h) _ _ r⟩
theorem SOk.out{S:Store}{acc:Addr}(s:SOk K ⟨mg,acc::F⟩ μ S H):SOk K ⟨mg,F⟩ μ S H:=
 ⟨fun a ha=>s.live a (Zb _ ha),s.len,s.nd,fun n a ds h1 h2=>by obtain⟨vs,q,r⟩:=s.at_ n a ds h1 h2;exact⟨vs,q,RepL.chg .out _ _ r⟩⟩
theorem SOk.outBox{S:Store}{acc:Addr}{ys:List D}{vs:List V}(s:SOk K ⟨mg,acc::F⟩ μ S H)(hm:acc∉μ)(h:H acc=some (.lst vs))(r:RepL K ⟨mg,acc::F⟩ μ H ys vs):SOk K ⟨mg,F⟩ (μ++[acc]) (S++[ys]) H:=by
 refine⟨fun a ha=>s.live a (Zb _ ha),by simp[s.len],?_,fun n a es h1 h2=>?_⟩
 ·rw[Z6]
  exact⟨s.nd,by simp,fun a ha b hb=>by
   have:b=acc:=by simpa using hb
   subst this;intro z;subst z;exact hm ha⟩
 ·have hl:=s.len
  by_cases hn:n<μ.length
  ·rw[Zo hn]at h1
   rw[Zo (by omega)]at h2
   obtain⟨ws,q,r'⟩:=s.at_ n a es h1 h2
   exact⟨ws,q,RepL.chg .outBox _ _ r'⟩
  ·have e1:n=μ.length:=by
    have:=(Zh.mp h1).1
    simp at this;omega
   subst e1
   rw[Zw (Zl _)]at h1
   rw[Zw (by omega)]at h2
   simp[hl]at h1 h2
   subst h1;subst h2
   exact⟨vs,h,RepL.chg .outBox _ _ r⟩
theorem Ext.more{μ1:List Addr}{H1:Hp}{acc:Addr}{o:HO}(x:Ext μ H μ1 H1)(h:H acc=none):Ext μ H μ1 (upd H1 acc o):=
 ⟨x.pre,fun a u e c=>by rw[a0v' (a0q' e h)];exact x.keep a u e c,fun a u e=>by rw[a0v' (a0q' e h)];exact x.there a u e,x.fresh⟩
theorem Ext.outBox{μ1:List Addr}{H1:Hp}{acc:Addr}(x:Ext μ H μ1 H1)(h:H acc=none):Ext μ H (μ1++[acc]) H1:=by
 obtain⟨r,e⟩:=x.pre
 refine⟨⟨r++[acc],by rw[e,Zm]⟩,x.keep,x.there,fun a ha=>?_⟩
 rcases ZA.mp ha with ha|ha
 ·exact x.fresh a ha
 ·have:a=acc:=by simpa using ha
  subst this;exact .inr h
end
def getOf:Its→Store→Nat→Option (Option D)
 | .items xs=>fun _ i=>some xs[i]?
 | .live _ get=>get
def ItOk(K:PySem.W.Frag)(mg:GS)(J:It)(get:Store→Nat→Option (Option D))(μ:List Addr)(H:Hp):Prop:=
 ∀(i:Nat) μ' S' H' F',Chg K mg.F μ H F' μ' H'→SOk K ⟨mg.mg,F'⟩ μ' S' H'→
  (∀x,get S' i=some (some x)→J.go i H'∧∀y H'',J.yld i H' y H''→Ext μ' H' μ' H''∧SOk K ⟨mg.mg,F'⟩ μ' S' H''∧Rep K ⟨mg.mg,F'⟩ μ' H'' x y)∧(get S' i=some none→J.stop i H')
def tI(K:PySem.W.Frag)(mg:Str→Option Value)(E:XK)(Φ:FT)(Γ:Str→Option D)(c:CE):TI:=fun σ H R=>∃F μ ρ S,SOk K ⟨mg,F⟩ μ S H∧EnvR K ⟨mg,F⟩ μ H ρ σ∧WantG K ⟨mg,F⟩ E (fun μ' H' its J=>ItOk K ⟨mg,F⟩ J (getOf its) μ' H') μ H R (denI Φ Γ c ρ S)
theorem Chg.refl{K:PySem.W.Frag}{F μ:List Addr}{H:Hp}:Chg K F μ H F μ H:=⟨fun _ _ q=>q,fun _ _ q h1 h2=>⟨q,h1,h2⟩,fun _ _ q=>q,fun _ _ q=>q,fun _ q=>q⟩
theorem Chg.trans{K:PySem.W.Frag}{F μ F1 μ1 F2 μ2:List Addr}{H H1 H2:Hp}(a:Chg K F μ H F1 μ1 H1)(b:Chg K F1 μ1 H1 F2 μ2 H2):Chg K F μ H F2 μ2 H2:=
 ⟨fun x vs q=>b.tup x vs (a.tup x vs q),fun x vs q h1 h2=>by obtain⟨p1,p2,p3⟩:=a.lst x vs q h1 h2;exact b.lst x vs p1 p2 p3,fun x vs q=>b.frz x vs (a.frz x vs q),fun n x q=>b.box n x (a.box n x q),fun x q=>b.dct x (a.dct x q)⟩
theorem Chg.of_ext{K:PySem.W.Frag}{F F' μ μ':List Addr}{H H':Hp}(x:Ext μ H μ' H')(hF:∀a∈F',a∈F∨H a=none):Chg K F μ H F' μ' H':=by
 refine⟨fun a vs q=>x.sqT q,fun a vs q h1 h2=>⟨(x.lst q h1).1,(x.lst q h1).2,fun z=>?_⟩,fun a vs q=>x.frz q,fun n a q=>x.get q,fun a q=>x.keep _ _ q (.inl fun _ z=>by cases z)⟩
 rcases hF a z with z|z
 ·exact h2 z
 ·rw[q]at z;cases z
section
variable {X:Cx}{E:XK}{CX:CXT}{Φ:FT}{Γ:Str→Option D}{tg l:Expr}{pos:Pos}{c:CE}
theorem a5I'{pins:List (Addr×Obj)}{σ:L2.St}{H:Hp}{s:Shared}{R:It→Hp→Prop}{E':Value→Shared→Prop}{a:Addr}{xs:List V}(I:Inv X pins σ H s)(hq:SqL X.K H a xs)(q:R (Itl X.K a) H):wpAny (model X.prog X.w) X.A (pyIter (.ref a)) (PIE X pins σ tg R) E' s:=by
 obtain⟨its,rv,p,hz⟩:=I.list hq
 refine wpAny_pyIter_list p.isList ?_
 refine⟨s.heap.objs.size,[s.heap.objs.size],_,_,H,rfl,I.kept (t':=s.toks) fun b o e=>Zf _ e,b1k' a _,⟨_,Zp _ rfl,rfl,rfl⟩,fun b hb=>?_,q⟩
 have e:b=s.heap.objs.size:=by simpa using hb
 subst e
 exact I.fpOk (Zl _) (I.hok.fresh (Zl _))
theorem b3Q'{pins:List (Addr×Obj)}{σ:L2.St}{H:Hp}{s:Shared}{R:It→Hp→Prop}{E':Value→Shared→Prop}{a:Addr}{xs:List V}(I:Inv X pins σ H s)(hq:SqT X.K H a xs)(q:R (Itt X.K a) H):wpAny (model X.prog X.w) X.A (pyIter (.ref a)) (PIE X pins σ tg R) E' s:=by
 obtain⟨its,rv,p,hz⟩:=I.tuple hq
 refine wpAny_pyIter_tuple (show s.heap.IsTuple a its.toArray from p) ?_
 refine⟨s.heap.objs.size,[s.heap.objs.size],_,_,H,rfl,I.kept (t':=s.toks) fun b o e=>Zf _ e,a9q' a _,⟨_,Zp _ rfl,rfl,rfl⟩,fun b hb=>?_,q⟩
 have e:b=s.heap.objs.size:=by simpa using hb
 subst e
 exact I.fpOk (Zl _) (I.hok.fresh (Zl _))
theorem a8g'{K:PySem.W.Frag}{mg:GS}{μ:List Addr}{H:Hp}{ds:List D}{vs:List V}{S:Store}{i:Nat}(r:RepL K mg μ H ds vs)(h:getOf (.items ds) S i=some none):vs.length≤i:=by
 have h1:ds[i]?=none:=by simpa[getOf]using h
 have h2:=ZZ.mp h1
 have hl:=r.length
 omega
theorem a8h'{K:PySem.W.Frag}{mg:GS}{μ:List Addr}{H:Hp}{a:Addr}{ds:List D}{vs:List V}(hq:∀F' μ' H',Chg K mg.F μ H F' μ' H'→SqL K H' a vs)(r:RepL K mg μ H ds vs):ItOk K mg (Itl K a) (getOf (.items ds)) μ H:=by
 intro i μ' S' H' F' ch sk
 have hl:=r.length
 refine⟨fun y hy=>?_,fun hi=>⟨vs,hq _ _ _ ch,a8g' r hi⟩⟩
 have hy:ds[i]?=some y:=by simpa[getOf]using hy
 obtain⟨v,h1,h2⟩:=r.get hy
 refine⟨⟨vs,v,hq _ _ _ ch,h1⟩,fun z H'' hz=>?_⟩
 obtain⟨rfl,hz⟩:=hz
 have e:=hz vs (hq _ _ _ ch)
 rw[h1]at e;cases e
 exact⟨.refl,sk,Rep.chg ch _ _ h2⟩
theorem b3R'{K:PySem.W.Frag}{mg:GS}{μ:List Addr}{H:Hp}{a:Addr}{ds:List D}{vs:List V}(hq:SqT K H a vs)(r:RepL K mg μ H ds vs):ItOk K mg (Itt K a) (getOf (.items ds)) μ H:=by
 intro i μ' S' H' F' ch sk
 have hl:=r.length
 refine⟨fun y hy=>?_,fun hi=>⟨vs,ch.tup _ _ hq,a8g' r hi⟩⟩
 have hy:ds[i]?=some y:=by simpa[getOf]using hy
 obtain⟨v,h1,h2⟩:=r.get hy
 refine⟨⟨vs,v,ch.tup _ _ hq,h1⟩,fun z H'' hz=>?_⟩
 obtain⟨rfl,hz⟩:=hz
 have e:=hz vs (ch.tup _ _ hq)
 rw[h1]at e;cases e
 exact⟨.refl,sk,Rep.chg ch _ _ h2⟩
theorem b3S'{K:PySem.W.Frag}{mg:GS}{μ:List Addr}{H:Hp}{a:Addr}{n:Nat}(hn:μ[n]?=some a):ItOk K mg (Itl K a) (a3z' n) μ H:=by
 intro i μ' S' H' F' ch sk
 have hl:n<S'.length:=by rw[←sk.len];exact(Zh.mp (ch.box _ _ hn)).1
 have hy:S'[n]?=some S'[n]:=Zg hl
 obtain⟨vs,h1,r⟩:=sk.at_ n a _ (ch.box _ _ hn) hy
 have hl:=r.length
 refine⟨fun y hy'=>?_,fun hi=>⟨vs,.of h1,?_⟩⟩
 ·unfold a3z' at hy'
  rw[hy]at hy'
  simp only[Option.map_some,Option.some.injEq]at hy'
  obtain⟨v,h2,h3⟩:=r.get hy'
  refine⟨⟨vs,v,.of h1,h2⟩,fun z H'' hz=>?_⟩
  obtain⟨rfl,hz⟩:=hz
  have e:=hz vs (.of h1)
  rw[h2]at e;cases e
  exact⟨.refl,sk,h3⟩
 ·unfold a3z' at hi
  rw[hy]at hi
  simp only[Option.map_some,Option.some.injEq]at hi
  have:=ZZ.mp hi
  omega
theorem i_seq(ha:PE X l (tE X.K X.mg E Φ Γ c)):PI X tg l (tI X.K X.mg E Φ Γ (.seq c)):=by
 intro pins s σ H R I h
 obtain⟨F,μ,ρ,S,sk,en,w⟩:=h
 refine thn (ha pins s σ H _ I ⟨F,μ,ρ,S,sk,en,WantG.bind w⟩) fun u s1 ⟨v,H1,I1,rv,μ1,S1,d,x1,s1k,rd,w1⟩=>?_
 cases d with
 |tup ds=>
  obtain⟨a,vs,rfl,hq,r⟩:=a0y' rd
  cases rv
  exact b3Q' I1 hq (w1 μ1 H1 _ .refl s1k (b3R' hq r))
 |lst ds=>
  unfold Rep at rd
  obtain⟨a,vs,rfl,hq,hn,r⟩:=rd
  cases rv
  exact a5I' I1 (.of hq) (w1 μ1 H1 _ .refl s1k (a8h' (fun F' μ' H' ch=>.of (ch.lst a vs hq hn.1 hn.2).1) r))
 |scr ds=>
  unfold Rep at rd
  obtain⟨a,vs,rfl,hq,r⟩:=rd
  cases rv
  exact a5I' I1 hq.sq (w1 μ1 H1 _ .refl s1k (a8h' (fun F' μ' H' ch=>(ch.frz a vs hq).sq) r))
 |ref n=>
  have rd':=rd
  unfold Rep at rd
  obtain⟨a,rfl,hn⟩:=rd
  cases rv
  have hl:n<S1.length:=by rw[←s1k.len];exact(Zh.mp hn).1
  obtain⟨vs,h1,r⟩:=s1k.at_ n a _ hn (Zg hl)
  exact a5I' I1 (.of h1) (w1 μ1 H1 _ .refl s1k (b3S' hn))
 |_=>exact w1.elim
theorem a3X'(lo:Int)(n:Nat):(a3A' lo n).length=n:=by
 induction n generalizing lo with
 |zero=>rfl
 |succ n ih=>unfold a3A';rw[Zy,ih]
theorem a9X'(lo:Int)(n i:Nat)(h:i<n):(a3A' lo n)[i]?=some (.int (lo+i)):=by
 induction n generalizing lo i with
 |zero=>omega
 |succ n ih=>
  unfold a3A'
  cases i with
  |zero=>simp
  |succ i=>
   rw[Ze,ih (lo+1) i (by omega)]
   congr 2
   omega
theorem a6q'{K:PySem.W.Frag}{mg:GS}{μ:List Addr}{H:Hp}(lo:Int)(n:Nat):ItOk K mg (Itr lo n) (getOf (.items (a3A' lo n))) μ H:=by
 intro i μ' S' H' F' ch sk
 refine⟨fun y hy=>?_,fun hi=>?_⟩
 ·have hy:(a3A' lo n)[i]?=some y:=by simpa[getOf]using hy
  have hi:i<n:=by have:=(Zh.mp hy).1;rwa [a3X']at this
  rw[a9X' lo n i hi]at hy
  cases hy
  refine⟨hi,fun z H'' hz=>?_⟩
  obtain⟨rfl,rfl⟩:=hz
  exact⟨.refl,sk,a1g'⟩
 ·have:(a3A' lo n)[i]?=none:=by simpa[getOf]using hi
  have:=ZZ.mp this
  rw[a3X']at this
  exact this
variable {N:List Str}{sc:Sc}{k:Nat}{cell:Str→Bool}{p2:Pos}{es:List Expr}{cs:List CE}{a b:CE}{r:Expr}
theorem len_is{K:PySem.W.Frag}{mg:GS}{μ:List Addr}{H:Hp}{Q:List V→Hp→Prop}{ρ:Rho}{S:Store}(w:WantG K mg E (RepL K mg) μ H Q (denL Φ Γ cs ρ S)):WantG K mg E (RepL K mg) μ H (fun vs H'=>vs.length=cs.length∧Q vs H') (denL Φ Γ cs ρ S):=by
 cases e:denL Φ Γ cs ρ S with
 |ok ds S'=>
  rw[e]at w
  intro μ' H' vs x s r
  refine⟨?_,w μ' H' vs x s r⟩
  rw[←r.length,a7q' e]
 |err y S'=>rw[e]at w;exact w
 |fail=>rw[e]at w;exact w
theorem b3T'(O:XOk X cell N sc CX E Φ Γ k)(h:gloB sc "range"=true)(hn:a0D' l=true)(hcs:cs.length=1)(ha:PA X [l] (tL X.K X.mg E Φ Γ cs)):PI X tg (.Call (.Name "range" p2) [l] [] pos) (tI X.K X.mg E Φ Γ (.range cs)):=by
 obtain⟨h1,_,_⟩:=a0O' h
 intro pins s σ H R I ⟨F,μ,ρ,S,sk,en,w⟩
 refine b1l' (O.gl h1) (O.mod.bl _ (by decide+kernel)) ha (by rw[a0n' hn];rfl) pins s σ H R I ⟨F,μ,ρ,S,sk,en,(len_is (WantG.bind w)).mono fun vs H1 ⟨hl,μ1,S1,ds,x1,s1,r1,w1⟩=>?_⟩
 have hl2:=r1.length
 split at w1
 ·rename_i j
  split at w1
  ·rename_i hj
   obtain⟨v,rfl,rv⟩:=r1.one
   cases a0e' rv
   exact⟨j,rfl,hj.1,hj.2,w1 μ1 H1 _ .refl s1 (a6q' 0 j.toNat)⟩
  ·exact w1.elim
 ·simp only[Zy,List.length_nil]at hl2;omega
 ·exact w1.elim
theorem b3U'(O:XOk X cell N sc CX E Φ Γ k)(h:gloB sc "range"=true)(hn:a0D' l=true)(hn2:a0D' r=true)(hcs:cs.length=2)(ha:PA X [l,r] (tL X.K X.mg E Φ Γ cs)):PI X tg (.Call (.Name "range" p2) [l,r] [] pos) (tI X.K X.mg E Φ Γ (.range cs)):=by
 obtain⟨h1,_,_⟩:=a0O' h
 intro pins s σ H R I ⟨F,μ,ρ,S,sk,en,w⟩
 refine b1m' (O.gl h1) (O.mod.bl _ (by decide+kernel)) ha (by rw[a0n' hn,a0n' hn2];rfl) (by rw[a0n' hn2];rfl) pins s σ H R I ⟨F,μ,ρ,S,sk,en,(len_is (WantG.bind w)).mono fun vs H1 ⟨hl,μ1,S1,ds,x1,s1,r1,w1⟩=>?_⟩
 have hl2:=r1.length
 split at w1
 ·simp only[Zy,List.length_nil]at hl2;omega
 ·rename_i i j
  split at w1
  ·rename_i hj
   obtain⟨v,v',rfl,rv,rv'⟩:=r1.two
   cases a0e' rv
   cases a0e' rv'
   exact⟨i,j,rfl,hj,w1 μ1 H1 _ .refl s1 (a6q' i (j-i).toNat)⟩
  ·exact w1.elim
 ·exact w1.elim
theorem a7t'{K:PySem.W.Frag}{mg:GS}{S:Store}{μ:List Addr}{H:Hp}{d:D}{v:V}{xs:List D}(s:SOk K mg μ S H)(r:Rep K mg μ H d v)(e:seqOf S d=some xs):∃a,v=.ref a∧
  ∀μ' S' H' F',Chg K mg.F μ H F' μ' H'→SOk K ⟨mg.mg,F'⟩ μ' S' H'→∃ys vs,seqOf S' d=some ys∧SqB (isLst d) K H' a vs∧RepL K ⟨mg.mg,F'⟩ μ' H' ys vs:=by
 cases d with
 |tup ds=>
  obtain⟨a,vs,rfl,hq,q⟩:=a0y' r
  exact⟨a,rfl,fun μ' S' H' F' ch sk=>⟨ds,vs,rfl,ch.tup _ _ hq,RepL.chg ch _ _ q⟩⟩
 |lst ds=>
  unfold Rep at r
  obtain⟨a,vs,rfl,hq,hn,q⟩:=r
  exact⟨a,rfl,fun μ' S' H' F' ch sk=>⟨ds,vs,rfl,SqL.of (ch.lst a vs hq hn.1 hn.2).1,RepL.chg ch _ _ q⟩⟩
 |scr ds=>
  unfold Rep at r
  obtain⟨a,vs,rfl,hq,q⟩:=r
  exact⟨a,rfl,fun μ' S' H' F' ch sk=>⟨ds,vs,rfl,(ch.frz a vs hq).sq,RepL.chg ch _ _ q⟩⟩
 |ref n=>
  unfold Rep at r
  obtain⟨a,rfl,hn⟩:=r
  refine⟨a,rfl,fun μ' S' H' F' ch sk=>?_⟩
  have hl:n<S'.length:=by rw[←sk.len];exact(Zh.mp (ch.box _ _ hn)).1
  obtain⟨vs,h1,q⟩:=sk.at_ n a _ (ch.box _ _ hn) (Zg hl)
  exact⟨_,vs,Zg hl,SqL.of h1,q⟩
 |_=>unfold seqOf at e;cases e
theorem a1y'{d:D}{xs:List D}(h:a5e' d=some xs)(S:Store):seqOf S d=some xs:=by
 unfold a5e' at h
 split at h<;>first|exact h|cases h
theorem b1I'{S:Store}{d e:D}{its:Its}(h:zipOf S d e=some its):(∃xs ys,seqOf S d=some xs∧seqOf S e=some ys)∧∀S' i,(∃xs ys,seqOf S' d=some xs∧seqOf S' e=some ys)→getOf its S' i=a6n' d e S' i:=by
 unfold zipOf at h
 split at h
 ·rename_i xs ys e1 e2
  cases h
  refine⟨⟨xs,ys,a1y' e1 S,a1y' e2 S⟩,fun S' i _=>?_⟩
  show some (List.zipWith (fun x y=>D.tup [x,y]) xs ys)[i]?=_
  unfold a6n'
  rw[a1y' e1 S',a1y' e2 S',List.getElem?_zipWith]
  show some _=some (match xs[i]?,ys[i]? with
   |some x,some y=>some (D.tup [x,y])
   |_,_=>none)
  cases xs[i]? <;>cases ys[i]? <;>rfl
 ·split at h
  ·rename_i xs ys e1 e2
   cases h
   exact⟨⟨xs,ys,e1,e2⟩,fun S' i _=>rfl⟩
  ·cases h
theorem b3V'{K:PySem.W.Frag}{mg:GS}{μ:List Addr}{H:Hp}{S:Store}{d e:D}{v u:V}{its:Its}(sk:SOk K mg μ S H)(rd:Rep K mg μ H d v)(re:Rep K mg μ H e u)(h:zipOf S d e=some its):
  ∃a b,v=.ref a∧u=.ref b∧(∃vs,SqB (isLst d) K H a vs)∧(∃vs,SqB (isLst e) K H b vs)∧ItOk K mg (Itz K (isLst d) (isLst e) a b) (getOf its) μ H:=by
 obtain⟨⟨xs,ys,e1,e2⟩,hg⟩:=b1I' h
 obtain⟨a,rfl,ka⟩:=a7t' sk rd e1
 obtain⟨b,rfl,kb⟩:=a7t' sk re e2
 obtain⟨_,va,_,qa,_⟩:=ka μ S H mg.F .refl sk
 obtain⟨_,vb,_,qb,_⟩:=kb μ S H mg.F .refl sk
 refine⟨a,b,rfl,rfl,⟨va,qa⟩,⟨vb,qb⟩,fun i μ' S' H' F' ch sk'=>?_⟩
 obtain⟨xs',vs,f1,q1,r1⟩:=ka μ' S' H' F' ch sk'
 obtain⟨ys',ws,f2,q2,r2⟩:=kb μ' S' H' F' ch sk'
 rw[hg S' i ⟨xs',ys',f1,f2⟩]
 unfold a6n'
 rw[f1,f2]
 have l1:=r1.length
 have l2:=r2.length
 refine⟨fun y hy=>?_,fun hy=>⟨vs,ws,q1,q2,?_⟩⟩
 ·have hy:=ZY hy
  cases g1:xs'[i]? with
  |none=>rw[g1]at hy;cases hy
  |some p=>
   cases g2:ys'[i]? with
   |none=>rw[g1,g2]at hy;cases hy
   |some q=>
    rw[g1,g2]at hy
    cases hy
    obtain⟨v1,k1,rp⟩:=r1.get g1
    obtain⟨v2,k2,rq⟩:=r2.get g2
    refine⟨⟨vs,ws,v1,v2,q1,q2,k1,k2⟩,fun z H'' hz=>?_⟩
    obtain⟨T,x',y',rfl,hT,rfl,z1,z2⟩:=hz
    have e3:=z1 vs q1
    rw[k1]at e3;cases e3
    have e4:=z2 ws q2
    rw[k2]at e4;cases e4
    refine⟨.laid hT,sk'.laid hT,?_⟩
    unfold Rep
    exact⟨T,[v1,v2],rfl,SqT.of a0H',.cons (Rep.mono (.laid hT) _ _ rp) (.cons (Rep.mono (.laid hT) _ _ rq) .nil)⟩
 ·have hy:=ZY hy
  cases g1:xs'[i]? with
  |none=>exact .inl (by have:=ZZ.mp g1;omega)
  |some p=>
   cases g2:ys'[i]? with
   |none=>exact .inr (by have:=ZZ.mp g2;omega)
   |some q=>rw[g1,g2]at hy;cases hy
theorem ne5{n i j:Nat}(h:i≠j):n+i≠n+j:=fun e=>h (Nat.add_left_cancel e)
theorem ne5'{n j:Nat}(h:0≠j):n≠n+j:=fun e=>h (Nat.add_left_cancel (n:=n) (by rw[Nat.add_zero];exact e))
theorem ne5''{n j:Nat}(h:0≠j):n+j≠n:=fun e=>ne5' h e.symm
theorem b3W':bootBuiltins "zip"=some (.type "zip"):=by decide+kernel
theorem i_zip(O:XOk X cell N sc CX E Φ Γ k)(h:gloB sc "zip"=true)(ht:isTup tg=true)(hn:a0D' l=true)(hn2:a0D' r=true)(ha:PA X [l,r] (tL X.K X.mg E Φ Γ cs)):PI X tg (.Call (.Name "zip" p2) [l,r] [] pos) (tI X.K X.mg E Φ Γ (.zip cs)):=by
 obtain⟨h1,_,_⟩:=a0O' h
 intro pins s σ H R I ⟨F,μ,ρ,S,sk,en,w⟩
 refine Call_ (a6e' I (O.gl h1) (O.mod.bl _ (by decide+kernel)) b3W' (PyProof.Rows.callWith_type1 (thn (ha pos pins s σ H _ I ⟨F,μ,ρ,S,sk,en,WantG.bind w⟩) fun us s1 ⟨vs,H1,I1,rv,μ1,S1,ds,x1,s1k,r1,w1⟩=>?_) (a0n' hn) (by rw[a0n' hn2];rfl)))
 split at w1
 ·rename_i d e
  obtain⟨v,u,rfl,rd,re⟩:=r1.two
  cases ez:zipOf S1 d e with
  |none=>rw[ez]at w1;exact w1.elim
  |some its=>
   rw[ez]at w1
   obtain⟨a,b,rfl,rfl,⟨va,qa⟩,⟨vb,qb⟩,ok⟩:=b3V' s1k rd re ez
   cases rv with
   |cons p q=>
    cases q with
    |cons p' q'=>
     cases q'
     cases p
     cases p'
     obtain⟨as,ra,sa⟩:=a5G' I1 qa
     obtain⟨bs,rb,sb⟩:=a5G' I1 qb
     refine b3N' sa sb fun h' z1 z2 z3 z4 z5 z6 kk=>?_
     refine wpAny_pyIter_zip z1 ?_
     have I2:Inv X pins σ H1 {s1 with heap:=h'}:=I1.kept (t':=s1.toks) kk
     cases tg with
     |Tuple ts x1 tp=>
      refine⟨s1.heap.objs.size+4,[s1.heap.objs.size+4,s1.heap.objs.size+2,s1.heap.objs.size+3,s1.heap.objs.size,s1.heap.objs.size+1],_,_,H1,rfl,I2,
       b3O' (isLst d) (isLst e) (s1.heap.objs.size+4) (s1.heap.objs.size+2) (s1.heap.objs.size+3) s1.heap.objs.size (s1.heap.objs.size+1) a b (ne5 (by decide)) (ne5 (by decide)) (ne5' (by decide)) (ne5 (by decide)) (ne5 (by decide)) (ne5'' (by decide)) (ne5 (by decide)) (ne5'' (by decide)) (ne5 (by decide)) (ne5' (by decide)),⟨z1,z2,⟨_,_,z3⟩,z4,z5⟩,fun c hc=>?_,w1 μ1 H1 _ .refl s1k ok⟩
      have hc':s1.heap.objs.size≤c:=by
       simp only[Zr,ZS,or_false]at hc
       rcases hc with rfl|rfl|rfl|rfl|rfl
       ·exact Nat.le_add_right _ _
       ·exact Nat.le_add_right _ _
       ·exact Nat.le_add_right _ _
       ·exact Zl _
       ·exact Nat.le_add_right _ _
      exact I1.fpOk hc' (I1.hok.fresh hc')
     |_=>cases ht
 ·exact w1.elim
theorem a5J':∀(xs:List D) (k i:Nat),(enumL k xs)[i]?=(xs[i]?).map fun x=>D.tup [.int ((k+i:Nat):Int),x]
 | [],k,i=>by simp[enumL]
 |x::xs,k,0=>rfl
 |x::xs,k,i+1=>by
  have:=a5J' xs (k+1) i
  have e:(enumL k (x::xs))[i+1]?=(enumL (k+1) xs)[i]? :=rfl
  rw[e,this,Ze,show k+1+i=k+(i+1)by omega]
theorem b1J'{K:PySem.W.Frag}{mg:GS}{S:Store}{μ:List Addr}{H:Hp}{d:D}{xs:List D}{v:V}(sk:SOk K mg μ S H)(rd:Rep K mg μ H d v)(hd:a5e' d=some xs):∃a,v=.ref a∧(∃vs,SqB (isLst d) K H a vs)∧ItOk K mg (Ite K (isLst d) a) (getOf (.items (enumL 0 xs))) μ H:=by
 obtain⟨a,rfl,ka⟩:=a7t' sk rd (a1y' hd S)
 obtain⟨_,va,_,qa,_⟩:=ka μ S H mg.F .refl sk
 refine⟨a,rfl,⟨va,qa⟩,fun i μ' S' H' F' ch sk'=>?_⟩
 obtain⟨xs',vs,f1,q1,r1⟩:=ka μ' S' H' F' ch sk'
 rw[a1y' hd S']at f1
 cases f1
 have l1:=r1.length
 refine⟨fun y hy=>?_,fun hy=>⟨vs,q1,?_⟩⟩
 ·have hy:(enumL 0 xs)[i]?=some y:=by simpa[getOf]using hy
  rw[a5J']at hy
  cases g1:xs[i]? with
  |none=>rw[g1]at hy;cases hy
  |some p=>
   rw[g1]at hy
   cases hy
   obtain⟨v1,k1,rp⟩:=r1.get g1
   refine⟨⟨vs,v1,q1,k1⟩,fun z H'' hz=>?_⟩
   obtain⟨T,x',rfl,hT,rfl,z1⟩:=hz
   have e3:=z1 vs q1
   rw[k1]at e3;cases e3
   refine⟨.laid hT,sk'.laid hT,?_⟩
   unfold Rep
   refine⟨T,[.int ((i:Nat):Int),v1],rfl,SqT.of a0H',.cons ?_ (.cons (Rep.mono (.laid hT) _ _ rp) .nil)⟩
   rw[Nat.zero_add]
   exact a1g'
 ·have hy:(enumL 0 xs)[i]?=none:=by simpa[getOf]using hy
  rw[a5J',Option.map_eq_none_iff,ZZ]at hy
  omega
theorem a5K':bootBuiltins "enumerate"=some (.type "enumerate"):=by decide+kernel
theorem i_enum(O:XOk X cell N sc CX E Φ Γ k)(h:gloB sc "enumerate"=true)(ht:isTup tg=true)(hn:a0D' l=true)(ha:PA X [l] (tL X.K X.mg E Φ Γ cs)):PI X tg (.Call (.Name "enumerate" p2) [l] [] pos) (tI X.K X.mg E Φ Γ (.enum cs)):=by
 obtain⟨h1,_,_⟩:=a0O' h
 intro pins s σ H R I ⟨F,μ,ρ,S,sk,en,w⟩
 refine Call_ (a6e' I (O.gl h1) (O.mod.bl _ (by decide+kernel)) a5K' (PyProof.Rows.callWith_type1 (thn (ha pos pins s σ H _ I ⟨F,μ,ρ,S,sk,en,WantG.bind w⟩) fun us s1 ⟨vs,H1,I1,rv,μ1,S1,ds,x1,s1k,r1,w1⟩=>?_) (a0n' hn) rfl))
 split at w1
 ·rename_i d
  cases hd:a5e' d with
  |none=>rw[hd]at w1;exact w1.elim
  |some xs=>
  rw[hd]at w1
  obtain⟨v,rfl,rd⟩:=r1.one
  obtain⟨a,rfl,⟨va,qa⟩,ok⟩:=b1J' s1k rd hd
  cases rv with
  |cons p q=>
   cases q
   cases p
   obtain⟨as,ra,sa⟩:=a5G' I1 qa
   refine b1H' sa fun h' z1 z2 z3 kk=>?_
   have I2:Inv X pins σ H1 {s1 with heap:=h'}:=I1.kept (t':=s1.toks) kk
   refine(a8f' (es:=[]) (x1:=0) (pos:=⟨0,0,0,0⟩) (P:=X.prog) (w:=X.w) (K:=X.K) (isLst d) (s1.heap.objs.size+1) s1.heap.objs.size a (ne5'' (by decide))).self _ _ _ _ _ ⟨⟨.none,z1⟩,z2⟩ ?_
   cases tg with
   |Tuple ts y1 tp=>
    refine⟨s1.heap.objs.size+1,[s1.heap.objs.size+1,s1.heap.objs.size],_,_,H1,rfl,I2,a8f' (isLst d) (s1.heap.objs.size+1) s1.heap.objs.size a (ne5'' (by decide)),⟨⟨.none,z1⟩,z2⟩,fun c hc=>?_,w1 μ1 H1 _ .refl s1k ok⟩
    have hc':s1.heap.objs.size≤c:=by
     simp only[Zr,ZS,or_false]at hc
     rcases hc with rfl|rfl
     ·exact Nat.le_add_right _ _
     ·exact Zl _
    exact I1.fpOk hc' (I1.hok.fresh hc')
   |_=>cases ht
 ·exact w1.elim
theorem a3D'(lo:Int)(n:Nat):(by2L lo n).length=n:=by
 induction n generalizing lo with
 |zero=>rfl
 |succ n ih=>unfold by2L;rw[Zy,ih]
theorem a9Y'(lo:Int)(n i:Nat)(h:i<n):(by2L lo n)[i]?=some (.int (lo+i*2)):=by
 induction n generalizing i lo with
 |zero=>omega
 |succ n ih=>
  unfold by2L
  cases i with
  |zero=>rw[Zd];congr 2;omega
  |succ i=>
   rw[Ze,ih (lo+2) i (by omega)]
   congr 2
   omega
theorem b3X'{K:PySem.W.Frag}{mg:GS}{μ:List Addr}{H:Hp}(lo:Int)(n:Nat):ItOk K mg (Itr2 lo n) (getOf (.items (by2L lo n))) μ H:=by
 intro i μ' S' H' F' ch sk
 refine⟨fun y hy=>?_,fun hi=>?_⟩
 ·have hy:(by2L lo n)[i]?=some y:=by simpa[getOf]using hy
  have hi:i<n:=by have:=(Zh.mp hy).1;rwa [a3D']at this
  rw[a9Y' lo n i hi]at hy
  cases hy
  refine⟨hi,fun z H'' hz=>?_⟩
  obtain⟨rfl,rfl⟩:=hz
  exact⟨.refl,sk,a1g'⟩
 ·have:(by2L lo n)[i]?=none:=by simpa[getOf]using hi
  have:=ZZ.mp this
  rw[a3D']at this
  exact this
theorem i_by2(O:XOk X cell N sc CX E Φ Γ k){c:Expr}(h:gloB sc "range"=true)(hn:a0D' l=true)(hn2:a0D' r=true)(hn3:a0D' c=true)(ha:PA X [l,r,c] (tL X.K X.mg E Φ Γ cs)):PI X tg (.Call (.Name "range" p2) [l,r,c] [] pos) (tI X.K X.mg E Φ Γ (.by2 cs)):=by
 obtain⟨h1,_,_⟩:=a0O' h
 intro pins s σ H R I ⟨F,μ,ρ,S,sk,en,w⟩
 refine pi_by2 (O.gl h1) (O.mod.bl _ (by decide+kernel)) ha (a0n' hn) (by rw[a0n' hn2,a0n' hn3];rfl) pins s σ H R I ⟨F,μ,ρ,S,sk,en,(WantG.bind w).mono fun vs H1 ⟨μ1,S1,ds,x1,s1,r1,w1⟩=>?_⟩
 split at w1
 ·rename_i i j c
  split at w1
  ·rename_i hj
   obtain⟨rfl,hj⟩:=hj
   obtain⟨v0,ws,rfl,a,r1⟩:=r1.uncons
   obtain⟨v,v',rfl,rv,rv'⟩:=r1.two
   cases a0e' a
   cases a0e' rv
   cases a0e' rv'
   exact⟨i,j,rfl,hj,w1 μ1 H1 _ .refl s1 (b3X' i ((j-i+1)/2).toNat)⟩
  ·exact w1.elim
 ·exact w1.elim
end
end Py
end
section
namespace Py
open PySem PySem.Spec PyProof.Rows L2
def a6r'(ifs:List Expr)(env:Env):Sem Bool:=forIn ifs true (fun c r=>if r=true then do let ok ←isTrue c env (eval c env);pure (ForInStep.yield ok)else pure (ForInStep.yield r))
def cRest(elt:Expr)(gens:List Comprehension)(scope:Scope)(pos:Pos)(d:Nat)(acc:Value)(env:Env):Sem Unit:=match gens[d+1]? with
 |some g'=>do
   let x ←eval g'.iter env
   standAt g'.iter.pos
   let x ←if g'.is_async !=0 then foldedIterable g'.iter x else foldedSetIterable g'.iter env x
   let _ ←runOwn (.compStart (.ListComp elt gens scope pos) (d+1) (←holding [x] (if g'.is_async !=0 then asyncIter x else pyIter x)) acc env) env
 |none=>do let _ ←call (.builtin "list.append") [acc,←eval elt env]
theorem a3E'{elt:Expr}{gens:List Comprehension}{scope:Scope}{pos:Pos}{d:Nat}{it acc:Value}{env:Env}{t i:Expr}{fs:List Expr}(h:gens[d]?=some ⟨t,i,fs,0⟩):
  compTurn (.ListComp elt gens scope pos) d it acc env=(standAt i.pos>>=fun _=>pyNext it>>=fun r=>match r with
   |none=>pure (.done .next)
   |some v=>letOwnedTupleGo t it v>>=fun _=>assign t env v>>=fun _=>(a6r' fs env>>=fun ok=>if ok=true then cRest elt gens scope pos d acc env else pure ())>>=fun _=>
    again (.compLoop (.ListComp elt gens scope pos) d it acc env)):=by
 unfold compTurn
 simp only[h]
 show(standAt i.pos>>=fun _=>pyNext it>>=_)=_
 congr 1;funext _
 congr 1;funext r
 cases r with
 |none=>rfl
 |some v=>
  show(letOwnedTupleGo t it v>>=fun _=>assign t env v>>=fun _=>_>>=fun ok=>_)=_
  congr 1;funext _
  congr 1;funext _
  conv=>rhs;rw[bind_assoc]
  unfold a6r'
  refine congrArg (fun k=>_>>=k) (funext fun ok=>?_)
  cases ok with
  |true=>
   simp only[if_true]
   unfold cRest
   cases gens[d+1]? with
   |none=>rfl
   |some g'=>
    by_cases hb:(g'.is_async !=0)=true
    ·simp only[if_pos hb,bind_assoc,pure_bind]
    ·simp only[if_neg hb,bind_assoc,pure_bind]
  |false=>
   simp only[Zv,Z5,pure_bind]
theorem a7u'{prog:Program}{w:World}{A:Around}{R:Result→Shared→Prop}{s:Shared}{elt:Expr}{gens:List Comprehension}{scope:Scope}{pos:Pos}{d:Nat}{it acc:Value}{env:Env}{t i:Expr}{fs:List Expr}(hg:gens[d]?=some ⟨t,i,fs,0⟩)
  (h0:codeAny (model prog w) A (.compLoop (.ListComp elt gens scope pos) d it acc env) R s)
  (h:wpAny (model prog w) A (pyIter it) (fun it' s'=>codeAny (model prog w) A (.compLoop (.ListComp elt gens scope pos) d it' acc env) R s') (notedBy (model prog w) A env fun x s'=>R (.error x) s') s):
  codeAny (model prog w) A (.compStart (.ListComp elt gens scope pos) d it acc env) R s:=by
 refine codeAny_of_tree ?_
 show wpAny _ _ ((compStart (.ListComp elt gens scope pos) d it acc env).onRaise (fun x=>do noteFrame x env;standAt theWindowsPlace)) _ _ s
 refine wpAny_notedAt ?_
 unfold compStart
 have e1:(clausesOf (.ListComp elt gens scope pos))[d]?=some ⟨t,i,fs,0⟩:=hg
 rw[e1]
 show wpAny _ _ (ask>>=_) _ _ s
 refine Za (wpAny_askSetting (wpAny_ite ?_))
 split
 ·first
   |exact Za (Zi (Zi (And.intro rfl h0)))
   |exact Zi (And.intro rfl h0)
 ·first
   |exact Za (wpAny_rule (Za (wpAny_standAt (Za (wpAny_mono h (fun it' s' h'=>Zi (And.intro rfl h')) fun _ _ x=>x)))))
   | (refine Za (wpAny_rule ?_);show wpAny _ _ (standAt i.pos>>=_) _ _ s;exact Za (wpAny_standAt (Za (wpAny_mono h (fun it' s' h'=>Zi (And.intro rfl h')) fun _ _ x=>x))))
section
variable {X:Cx}{elt:Expr}{gens:List Comprehension}{scope:Scope}{pos:Pos}{d:Nat}{acc:Addr}
theorem pb_when{fs:List Expr}{ts:List TT}{tu:TU}(ht:PTs X fs ts)(hb:PB X (cRest elt gens scope pos d (.ref acc) X.env) tu):
  PB X (a6r' fs X.env>>=fun ok=>if ok=true then cRest elt gens scope pos d (.ref acc) X.env else pure ()) (tWhen ts tu):=by
 intro pins s σ H Q I h
 refine Za (thn (a9L' fs ts ht pins s σ H _ I h) fun b s1 ⟨H1,I1,q1⟩=>?_)
 cases b with
 |false=>
  rw[if_neg (by decide)]at q1
  rw[if_neg (by decide)]
  exact Zi ⟨σ,H1,I1,q1⟩
 |true=>
  rw[if_pos rfl]at q1
  rw[if_pos rfl]
  exact hb pins s1 σ H1 Q I1 q1
theorem pb_last{te:TE}(hg:gens[d+1]?=none)(he:PE X elt te):PB X (cRest elt gens scope pos d (.ref acc) X.env) (tEmit acc te):=by
 intro pins s σ H Q I h
 unfold cRest
 rw[hg]
 show wpAny _ _ (eval elt X.env>>=fun x=>call (.builtin "list.append") [.ref acc,x]>>=fun _=>pure ()) _ _ s
 refine Za (thn (he pins s σ H _ I h) fun u s2 ⟨v,H2,I2,r2,ys,ha,hz,q2⟩=>?_)
 refine Za (thn (a7W' pins s2 σ H2 (.ref acc) [v] (.ref acc) [u] (fun _ H'=>Q σ H') I2 rfl (.cons r2 .nil) ⟨acc,ys,v,rfl,rfl,ha,hz,q2⟩) fun _ s3 ⟨_,H3,I3,_,q3⟩=>?_)
 exact Zi ⟨σ,H3,I3,q3⟩
theorem b3Y'{t i:Expr}{fs:List Expr}{wi:TI}{g:TG}{tb:TU}(hx:X.xe=fun _ _=>False)(hc:X.calm=true)(hg:gens[d+1]?=some ⟨t,i,fs,0⟩)(hi:PI X t i wi)(hs:∀x,foldedSetIterable i X.env x=pure x)(hgt:PG X t g)
  (hb:PB X (a6r' fs X.env>>=fun ok=>if ok=true then cRest elt gens scope pos (d+1) (.ref acc) X.env else pure ()) tb):PB X (cRest elt gens scope pos d (.ref acc) X.env) (tInner wi g tb):=by
 intro pins s σ H Q I h
 unfold cRest
 rw[hg]
 show wpAny _ _ (eval i X.env>>=fun x=>standAt i.pos>>=fun _=>foldedSetIterable i X.env x>>=fun x=>holding [x] (pyIter x)>>=fun it=>runOwn (.compStart (.ListComp elt gens scope pos) (d+1) it (.ref acc) X.env) X.env>>=fun _=>pure ()) _ _ s
 refine Za (thn (hi pins s σ H _ I h) fun v s1 h1=>Za (wpAny_standAt (Za ?_)))
 rw[hs]
 refine Zi (Za (wpAny_holding (thn h1 fun itv s2 h2=>Za ?_)))
 obtain⟨it,fp,tn,J,H2,e,I2,T,st2,f2,W⟩:=h2
 subst e
 have loop:codeAny (model X.prog X.w) X.A (.compLoop (.ListComp elt gens scope pos) (d+1) (.ref it) (.ref acc) X.env) (fun r s'=>match r with
   | .ok f=>∃σ' H',Inv X pins σ' H' s'∧Q σ' H'
   | .error e=>cameBackBy (model X.prog X.w) X.A X.env X.xe e s') s2:=
  a8a' (Fin:=Q) hx hc (a3E' hg) T hgt hb I2 st2 f2 W fun s' σ' H' I' _ q=>⟨σ',H',I',q⟩
 refine wpAny_runOwn (h:=none) ?_
 refine codeAny_mono (R:=fun r s'=>match r with
   | .ok f=>∃σ' H',Inv X pins σ' H' s'∧Q σ' H'
   | .error e=>cameBackBy (model X.prog X.w) X.A X.env X.xe e s') (a7u' hg loop (T.self _ 0 _ _ _ st2 loop)) fun r s' q=>?_
 cases r with
 |ok f=>exact Zi q
 |error e=>exact q
end
end Py
end
section
namespace Py
open PySem PySem.Spec PyProof.Rows L2
def gVs:List CT→TGs
 | []=>gNil
 |t::ts=>match t with
  | .var i=>gCons (gName i) (gVs ts)
  | .tup _=>fun _ _ _ _=>False
def gCT(K:PySem.W.Frag):CT→TG
 | .var i=>gName i
 | .tup ts=>gTup K ts.length (gVs ts)
section
variable {X:Cx}{E:XK}{CX:CXT}{Φ:FT}{Γ:Str→Option D}{N:List Str}{sc:Sc}{k:Nat}{cell:Str→Bool}
theorem nm_ok(O:XOk X cell N sc CX E Φ Γ k){i:Nat}{p:Pos}(h:sdT cell N sc (.var i)=true):PG X (.Name (N.getD i "") p) (gName i):=by
 have h1:=(andB h).1
 have h2:=(andB h).2
 generalize N.getD i ""=x at h1 h2
 simp only[Zt,Bool.or_eq_true,beq_iff_eq]at h1 h2
 have hl:L2.Loc X.env.scope x:=by
  unfold L2.Loc
  rw[O.sc]
  rcases h2 with z|z
  ·exact .inl z
  ·exact .inr z.2
 refine pg_name (by rw[O.n];exact O.nd) (by rw[O.n];exact h1) hl ?_
 rcases h2 with z|z
 ·exact .inr (by rw[O.sc];exact z)
 ·exact .inl (O.fn x z.1)
theorem a5L'{env:Env}:∀{ts:List CT} {es:List Expr},((assignEach (emTL ts N es) env).length=ts.length∧(assignEach (emTL ts N es) env).findIdx? (·.1)=none)
 | [],_=>⟨rfl,rfl⟩
 |t::ts,es=>by
  have ih:=a5L' (env:=env) (ts:=ts) (es:=es.tail)
  have e:assignEach (emTL (t::ts) N es) env=(false,assign (emT t N (es.headD dE)) env)::assignEach (emTL ts N es.tail) env:=by cases t<;>rfl
  rw[e]
  exact⟨by rw[Zy,ih.1,Zy],by rw[List.findIdx?_cons,ih.2];rfl⟩
theorem gs_pg(O:XOk X cell N sc CX E Φ Γ k):∀{ts:List CT} {es:List Expr},sdTL cell N sc ts=true→PGs X (emTL ts N es) (gVs ts)
 | [],es,h=>pgs_nil
 |t::ts,es,h=>by
  cases t with
  |tup _=>exact fun _ _ _ _ _ _ _ _ _ z=>z.elim
  |var i=>exact b3l' (nm_ok O (andB h).1) (gs_pg O (andB h).2)
theorem g_pg(O:XOk X cell N sc CX E Φ Γ k){t:CT}{e:Expr}(h:sdT cell N sc t=true):PG X (emT t N e) (gCT X.K t):=by
 cases t with
 |var i=>exact nm_ok O h
 |tup ts=>exact pg_tup O.calm (gs_pg O h) a5L'.1 a5L'.2
theorem gs_do{F μ:List Addr}{H:Hp}{K:PySem.W.Frag}{mg:Str→Option Value}{ρ':Rho}{Q:L2.St→Hp→Prop}:∀{ts:List CT} {ds:List D} {vs:List V} {ρ:Rho} {σ:L2.St},asgVs ts ds ρ=some ρ'→RepL K ⟨mg,F⟩ μ H ds vs→EnvR K ⟨mg,F⟩ μ H ρ σ→(∀σ',EnvR K ⟨mg,F⟩ μ H ρ' σ'→Q σ' H)→gVs ts vs σ H Q
 | [],ds,vs,ρ,σ,h,r,en,q=>by
  cases ds with
  |nil=>
   cases h
   unfold RepL at r
   exact⟨r,q σ en⟩
  |cons _ _=>cases h
 |t::ts,ds,vs,ρ,σ,h,r,en,q=>by
  cases t with
  |tup _=>cases h
  |var i=>
   cases ds with
   |nil=>cases h
   |cons d ds=>
    obtain⟨v,w,rfl,r1,rl⟩:=r.uncons
    exact⟨v,w,rfl,gs_do (ts:=ts) h rl (en.set r1) q⟩
theorem a5M'{ρ':Rho}:∀{ts:List CT} {ds:List D} {ρ:Rho},asgVs ts ds ρ=some ρ'→ts.length=ds.length∧ρ'.length=ρ.length
 | [],ds,ρ,h=>by
  cases ds with
  |nil=>cases h;exact⟨rfl,rfl⟩
  |cons _ _=>cases h
 |t::ts,ds,ρ,h=>by
  cases t with
  |tup _=>cases h
  |var i=>
   cases ds with
   |nil=>cases h
   |cons d ds=>
    have:=a5M' (ts:=ts) h
    exact⟨congrArg Nat.succ this.1,by rw[this.2,List.length_set]⟩
theorem a8i'{ρ':Rho}{j:Nat}:∀{ts:List CT} {ds:List D} {ρ:Rho},asgVs ts ds ρ=some ρ'→(∀i∈a5d' ts,i≠j)→ρ'[j]?=ρ[j]?
 | [],ds,ρ,h,hj=>by
  cases ds with
  |nil=>cases h;rfl
  |cons _ _=>cases h
 |t::ts,ds,ρ,h,hj=>by
  cases t with
  |tup _=>cases h
  |var i=>
   cases ds with
   |nil=>cases h
   |cons d ds=>
    rw[a8i' (ts:=ts) h fun k hk=>hj k (Zb _ hk),List.getElem?_set_ne (hj i Zc)]
theorem g_do{F μ:List Addr}{H:Hp}{d:D}{v:V}{ρ ρ':Rho}{σ:L2.St}{Q:L2.St→Hp→Prop}{t:CT}{K:PySem.W.Frag}{mg:Str→Option Value}(h:asgCT t d ρ=some ρ')(r:Rep K ⟨mg,F⟩ μ H d v)(en:EnvR K ⟨mg,F⟩ μ H ρ σ)
  (q:∀σ',EnvR K ⟨mg,F⟩ μ H ρ' σ'→Q σ' H):gCT K t v σ H Q:=by
 cases t with
 |var i=>
  cases h
  exact q _ (en.set r)
 |tup ts=>
  cases d with
  |tup ds=>
   obtain⟨a,vs,rfl,hq,rl⟩:=a0y' r
   exact⟨a,vs,rfl,hq,by rw[←rl.length];exact(a5M' (ts:=ts) h).1.symm,gs_do (ts:=ts) h rl en q⟩
  |_=>cases h
end
theorem b1K'{ρ:Rho}{l:List Nat}{i:Nat}(h:isNew ρ l=true)(hi:i∈l):ρ[i]?=some none:=by
 unfold isNew at h
 have:=ZN.mp h i hi
 split at this
 ·assumption
 ·cases this
theorem asg_get{t:CT}{d:D}{ρ ρ':Rho}(h:asgCT t d ρ=some ρ'):ρ'.length=ρ.length∧∀j,(∀i∈slots t,i≠j)→ρ'[j]?=ρ[j]? :=by
 cases t with
 |var i=>
  cases h
  exact⟨List.length_set,fun j hj=>List.getElem?_set_ne (hj i Zc)⟩
 |tup ts=>
  cases d with
  |tup ds=>exact⟨(a5M' (ts:=ts) h).2,fun j hj=>a8i' (ts:=ts) h hj⟩
  |_=>cases h
theorem b3Z'{K:PySem.W.Frag}{mg:GS}{μ:List Addr}{H:Hp}{ρ ρ':Rho}{σ:L2.St}{t:CT}{d:D}(h:a0p' t d ρ=some ρ')(en:EnvR K mg μ H ρ' σ):EnvR K mg μ H ρ σ:=by
 unfold a0p' at h
 by_cases hn:isNew ρ (slots t)=true
 ·rw[if_pos hn]at h
  have g:=asg_get h
  refine⟨by rw[←en.1,g.1],fun j d' e=>en.2 j d' ?_⟩
  rw[g.2 j fun i hi z=>by subst z;rw[b1K' hn hi]at e;cases e]
  exact e
 ·rw[if_neg hn]at h;cases h
theorem a9Z'{t:CT}{d:D}{ρ ρ':Rho}(h:a0p' t d ρ=some ρ'):asgCT t d ρ=some ρ':=by
 unfold a0p' at h
 split at h
 ·exact h
 ·cases h
structure CSt (K:PySem.W.Frag)(mg:Str→Option Value)(F:List Addr)(acc:Addr)(B:List Addr→Hp→Prop)(μ0:List Addr)(H0:Hp)(μ:List Addr)(S:Store)(H:Hp)(ρ:Rho)(σ:L2.St)(ds:List D)(vs:List V):Prop where
 n0:H0 acc=none
 ext:Ext μ0 H0 μ H
 sok:SOk K ⟨mg,acc::F⟩ μ S H
 nin:acc∉μ
 env:EnvR K ⟨mg,acc::F⟩ μ H ρ σ
 at_:H acc=some (.lst vs)
 rep:RepL K ⟨mg,acc::F⟩ μ H ds vs
 b:B μ H
def Keep(K:PySem.W.Frag)(F:List Addr)(B:List Addr→Hp→Prop):Prop:=∀μ H μ1 H1,B μ H→Chg K F μ H F μ1 H1→B μ1 H1
def WantB(K:PySem.W.Frag)(mg:Str→Option Value)(F:List Addr)(acc:Addr)(B:List Addr→Hp→Prop)(μ0:List Addr)(H0:Hp)(ρ:Rho)(Q:L2.St→Hp→Prop):Res (List D)→Prop
 | .ok ds' S'=>∀μ' H' σ' vs',CSt K mg F acc B μ0 H0 μ' S' H' ρ σ' ds' vs'→Q σ' H'
 |_=>False
def tB(K:PySem.W.Frag)(mg:Str→Option Value)(Φ:FT)(Γ:Str→Option D)(c:CE)(acc:Addr):TU:=fun σ H Q=>∃F B μ0 H0 μ ρ S ds vs,Keep K (acc::F) B∧CSt K mg F acc B μ0 H0 μ S H ρ σ ds vs∧WantB K mg F acc B μ0 H0 ρ Q (denB Φ Γ c ρ ds S)
def stepC(Φ:FT)(Γ:Str→Option D)(ifs:List CE)(body:CE)(ρ:Rho)(ds:List D)(S:Store):Res (List D):=(denTs Φ Γ ifs ρ S).bind fun k S3=>if k=true then denB Φ Γ body ρ ds S3 else .ok ds S3
def tC(K:PySem.W.Frag)(mg:Str→Option Value)(Φ:FT)(Γ:Str→Option D)(ifs:List CE)(c:CE)(acc:Addr):TU:=fun σ H Q=>∃F B μ0 H0 μ ρ S ds vs,Keep K (acc::F) B∧CSt K mg F acc B μ0 H0 μ S H ρ σ ds vs∧WantB K mg F acc B μ0 H0 ρ Q (stepC Φ Γ ifs c ρ ds S)
section
variable {K:PySem.W.Frag}{mg:Str→Option Value}{F:List Addr}{acc:Addr}{B:List Addr→Hp→Prop}{μ0 μ μ1:List Addr}{H0 H H1:Hp}{S S1:Store}{ρ:Rho}{σ:L2.St}{ds:List D}{vs:List V}{Φ:FT}{Γ:Str→Option D}
theorem CSt.next(hB:Keep K (acc::F) B)(c:CSt K mg F acc B μ0 H0 μ S H ρ σ ds vs)(x:Ext μ H μ1 H1)(s:SOk K ⟨mg,acc::F⟩ μ1 S1 H1):CSt K mg F acc B μ0 H0 μ1 S1 H1 ρ σ ds vs where
 n0:=c.n0
 ext:=c.ext.trans x
 sok:=s
 nin:=fun z=>by
  rcases x.fresh acc z with z|z
  ·exact c.nin z
  ·rw[c.at_]at z;cases z
 env:=c.env.mono x
 at_:=x.keep acc _ c.at_ (.inr c.nin)
 rep:=RepL.mono x _ _ c.rep
 b:=hB μ H μ1 H1 c.b (.of_ext x fun _ z=>.inl z)
theorem CSt.put{d:D}{v:V}(hB:Keep K (acc::F) B)(c:CSt K mg F acc B μ0 H0 μ S H ρ σ ds vs)(r:Rep K ⟨mg,acc::F⟩ μ H d v):CSt K mg F acc B μ0 H0 μ S (upd H acc (.lst (vs++[v]))) ρ σ (ds++[d]) (vs++[v]):=by
 have ch:Chg K (acc::F) μ H (acc::F) μ (upd H acc (.lst (vs++[v]))):=.more Zc c.at_
 exact{
  n0:=c.n0
  ext:=c.ext.more c.n0
  sok:=c.sok.more Zc c.nin c.at_
  nin:=c.nin
  env:=c.env.chg ch
  at_:=a0H'
  rep:=RepL.append (RepL.chg ch _ _ c.rep) (.cons (Rep.chg ch _ _ r) .nil)
  b:=hB _ _ _ _ c.b ch}
theorem b1L'{X:Cx}{E:XK}{F μ:List Addr}{H:Hp}{S:Store}:∀{cs:List CE} {σ:L2.St} {Q:Bool→Hp→Prop},SOk X.K ⟨X.mg,F⟩ μ S H→EnvR X.K ⟨X.mg,F⟩ μ H ρ σ→WantG X.K ⟨X.mg,F⟩ E (fun _ _ a b=>a=b) μ H Q (denTs Φ Γ cs ρ S)→b1y' (cs.map (tT X.K X.mg E Φ Γ)) σ H Q:=by
 intro cs
 induction cs generalizing μ H S with
 |nil=>exact fun sk en w=>w μ H true .refl sk rfl
 |cons c cs ih=>
  intro σ Q sk en w
  unfold denTs at w
  refine⟨F,μ,ρ,S,sk,en,(WantG.bind w).mono fun k H1 zz=>ex34 zz fun μ1 S1 k' x1 s1 e1 w1=>?_⟩
  subst e1
  cases k' with
  |true=>rw[if_pos rfl]at w1⊢;exact ih s1 (en.mono x1) w1
  |false=>rw[if_neg (by decide)]at w1⊢;exact w1 μ1 H1 _ .refl s1 rfl
end
section
variable {X:Cx}{E:XK}{CX:CXT}{Φ:FT}{Γ:Str→Option D}
theorem PB.weak{body:Sem Unit}{t t':TU}(h:PB X body t)(w:∀σ H Q,t' σ H Q→t σ H Q):PB X body t':=fun pins s σ H Q I q=>h pins s σ H Q I (w σ H Q q)
theorem a8Q'{K:PySem.W.Frag}{mg:Str→Option Value}{F:List Addr}{acc:Addr}{B:List Addr→Hp→Prop}{μ0 μ:List Addr}{H0 H:Hp}{S:Store}{ρ:Rho}{σ:L2.St}{ds:List D}{vs:List V}{ifs:List CE}{c:CE}{Q:L2.St→Hp→Prop}
  (hB:Keep K (acc::F) B) (st:CSt K mg F acc B μ0 H0 μ S H ρ σ ds vs) (w:WantB K mg F acc B μ0 H0 ρ Q (stepC Φ Γ ifs c ρ ds S)):
  WantG K ⟨mg,acc::F⟩ E (fun _ _ a b=>a=b) μ H (fun b H1=>if b=true then tB K mg Φ Γ c acc σ H1 Q else Q σ H1) (denTs Φ Γ ifs ρ S):=by
 unfold stepC at w
 cases e:denTs Φ Γ ifs ρ S with
 |ok k S3=>
  rw[e]at w
  intro μ1 H1 b x s eb
  subst eb
  have st1:=st.next hB x s
  cases k with
  |true=>exact⟨F,B,μ0,H0,μ1,ρ,S3,ds,vs,hB,st1,w⟩
  |false=>exact w μ1 H1 σ vs st1
 |err y S3=>rw[e]at w;exact w.elim
 |fail=>rw[e]at w;exact w.elim
theorem b4a'{elt:Expr}{gens:List Comprehension}{scope:Scope}{pos:Pos}{d:Nat}{acc:Addr}{fs:List Expr}{ifs:List CE}{c:CE}(ht:PTs X fs (ifs.map (tT X.K X.mg E Φ Γ)))(hb:PB X (cRest elt gens scope pos d (.ref acc) X.env) (tB X.K X.mg Φ Γ c acc)):
  PB X (a6r' fs X.env>>=fun ok=>if ok=true then cRest elt gens scope pos d (.ref acc) X.env else pure ()) (tC X.K X.mg Φ Γ ifs c acc):=
 PB.weak (pb_when ht hb) fun σ H Q zz=>ex93 zz fun F B μ0 H0 μ ρ S ds vs hB st w=>b1L' st.sok st.env (a8Q' hB st w)
theorem c_emit{elt:Expr}{gens:List Comprehension}{scope:Scope}{pos:Pos}{d:Nat}{acc:Addr}{c:CE}(hg:gens[d+1]?=none)(he:PE X elt (tE X.K X.mg E Φ Γ c)):PB X (cRest elt gens scope pos d (.ref acc) X.env) (tB X.K X.mg Φ Γ (.emit c) acc):=
 PB.weak (pb_last hg he) fun σ H Q zz=>ex93 zz fun F B μ0 H0 μ ρ S ds vs hB st w=>by
  refine⟨acc::F,μ,ρ,S,st.sok,st.env,?_⟩
  simp only[denB]at w
  cases e:den Φ Γ c ρ S with
  |ok y S1=>
   rw[e]at w
   intro μ1 H1 v x s r
   have st1:=st.next hB x s
   have w':WantB X.K X.mg F acc B μ0 H0 ρ Q (if ds.length<big then .ok (ds++[y]) S1 else .fail):=w
   by_cases hl:ds.length<big
   ·rw[if_pos hl]at w'
    refine⟨vs,st1.at_,by rw[a6i',←st1.rep.length];exact hl,w' μ1 _ σ _ (st1.put hB r)⟩
   ·rw[if_neg hl]at w';exact w'.elim
  |err y S1=>rw[e]at w;exact w.elim
  |fail=>rw[e]at w;exact w.elim
end
def b0a':Its→Nat
 | .items xs=>xs.length+1
 | .live f _=>f
theorem a5q'(step:D→List D→Store→Res (List D))(xs:List D):∀(n i:Nat) (acc:List D) (S:Store),i+n=xs.length→compB step (fun _ i=>some xs[i]?) (n+1) i acc S=compD step (xs.drop i) acc S
 |0,i,acc,S,h=>by
  rw[List.drop_eq_nil_of_le (by omega)]
  unfold compB
  have:xs[i]?=none:=ZZ.mpr (by omega)
  rw[this]
  rfl
 |n+1,i,acc,S,h=>by
  have hi:i<xs.length:=by omega
  rw[List.drop_eq_getElem_cons hi]
  unfold compB
  rw[Zg hi]
  show(step xs[i] acc S).bind _=(step xs[i] acc S).bind _
  congr 1
  funext acc' S'
  exact a5q' step xs n (i+1) acc' S' (by omega)
theorem b0b'(step:D→List D→Store→Res (List D))(its:Its)(acc:List D)(S:Store):compI step its acc S=compB step (getOf its) (b0a' its) 0 acc S:=by
 cases its with
 |items xs=>exact(a5q' step xs xs.length 0 acc S (by omega)).symm
 |live f get=>rfl
def stepN(Φ:FT)(Γ:Str→Option D)(tg:CT)(ifs:List CE)(body:CE)(ρ:Rho):D→List D→Store→Res (List D):=fun x acc S2=>match a0p' tg x ρ with
 |some ρ'=>stepC Φ Γ ifs body ρ' acc S2
 |none=>.fail
section
variable {K:PySem.W.Frag}{mg:Str→Option Value}{Φ:FT}{Γ:Str→Option D}
theorem CSt.back{F:List Addr}{acc:Addr}{B B':List Addr→Hp→Prop}{μ0 μ:List Addr}{H0 H:Hp}{S:Store}{ρ ρ':Rho}{σ σ':L2.St}{ds:List D}{vs:List V}(c:CSt K mg F acc B μ0 H0 μ S H ρ σ ds vs)(b:B' μ H)(e:EnvR K ⟨mg,acc::F⟩ μ H ρ' σ'):CSt K mg F acc B' μ0 H0 μ S H ρ' σ' ds vs:=
 ⟨c.n0,c.ext,c.sok,c.nin,e,c.at_,c.rep,b⟩
theorem b0c'{tg:CT}{ifs:List CE}{body:CE}{ρ ρ':Rho}{x:D}{ds:List D}{S:Store}(h:a0p' tg x ρ=some ρ'):stepN Φ Γ tg ifs body ρ x ds S=stepC Φ Γ ifs body ρ' ds S:=by
 unfold stepN;rw[h]
theorem b0d'{tg:CT}{ifs:List CE}{body:CE}{ρ:Rho}{x:D}{ds:List D}{S:Store}(h:a0p' tg x ρ=none):stepN Φ Γ tg ifs body ρ x ds S=.fail:=by
 unfold stepN;rw[h]
theorem b2D'{Fi F:List Addr}{acc:Addr}{B:List Addr→Hp→Prop}{μi μ0:List Addr}{Hi H0:Hp}{J:It}{get:Store→Nat→Option (Option D)}{ρ:Rho}{tg:CT}{ifs:List CE}{body:CE}{Q:L2.St→Hp→Prop}(hB:Keep K (acc::F) B)(ok:ItOk K ⟨mg,Fi⟩ J get μi Hi)
  {n:Nat} {μ:List Addr} {S:Store} {H:Hp} {σ:L2.St} {ds:List D} {vs:List V} (ch:Chg K Fi μi Hi (acc::F) μ H) (st:CSt K mg F acc B μ0 H0 μ S H ρ σ ds vs) (w:WantB K mg F acc B μ0 H0 ρ Q (compB (stepN Φ Γ tg ifs body ρ) get n 0 ds S)):
  ∃W:Nat→Nat→L2.St→Hp→Prop,(∃m,W 0 m σ H)∧∀i m σ H,W i m σ H→
   (J.stop i H∧Q σ H)∨(J.go i H∧∃Nx:L2.St→Hp→Prop,(∀σ' H',Nx σ' H'→∃m',m'<m∧W (i+1) m' σ' H')∧∀x H',J.yld i H x H'→gCT K tg x σ H' fun σ2 H2=>tC K mg Φ Γ ifs body acc σ2 H2 Nx):=by
 refine⟨fun i m σ H=>∃μ S ds vs,Chg K Fi μi Hi (acc::F) μ H∧CSt K mg F acc B μ0 H0 μ S H ρ σ ds vs∧WantB K mg F acc B μ0 H0 ρ Q (compB (stepN Φ Γ tg ifs body ρ) get m i ds S),⟨n,μ,S,ds,vs,ch,st,w⟩,?_⟩
 rintro i m σ H ⟨μ,S,ds,vs,ch,st,w⟩
 cases m with
 |zero=>exact w.elim
 |succ m=>
  unfold compB at w
  obtain⟨k1,k2⟩:=ok i μ S H (acc::F) ch st.sok
  cases e:get S i with
  |none=>rw[e]at w;exact w.elim
  |some o=>
   cases o with
   |none=>rw[e]at w;exact .inl ⟨k2 e,w μ H σ vs st⟩
   |some x=>
    rw[e]at w
    obtain⟨go,yld⟩:=k1 x e
    refine .inr ⟨go,fun σ' H'=>∃μ S ds vs,Chg K Fi μi Hi (acc::F) μ H'∧CSt K mg F acc B μ0 H0 μ S H' ρ σ' ds vs∧WantB K mg F acc B μ0 H0 ρ Q (compB (stepN Φ Γ tg ifs body ρ) get m (i+1) ds S),fun σ' H' q=>⟨m,Nat.lt_succ_self m,q⟩,fun y H' hy=>?_⟩
    obtain⟨x1,s1,r1⟩:=yld y H' hy
    have st1:=st.next hB x1 s1
    have ch1:Chg K Fi μi Hi (acc::F) μ H':=ch.trans (.of_ext x1 fun _ z=>.inl z)
    have w':WantB K mg F acc B μ0 H0 ρ Q ((stepN Φ Γ tg ifs body ρ x ds S).bind fun acc' S'=>compB (stepN Φ Γ tg ifs body ρ) get m (i+1) acc' S'):=w
    cases ea:a0p' tg x ρ with
    |none=>rw[b0d' ea]at w';exact w'.elim
    |some ρ'=>
     rw[b0c' ea]at w'
     refine g_do (a9Z' ea) r1 st1.env fun σ2 en2=>?_
     refine⟨F,fun μ H=>B μ H∧Chg K Fi μi Hi (acc::F) μ H,μ0,H0,μ,ρ',S,ds,vs,fun μa Ha μb Hb q c=>⟨hB _ _ _ _ q.1 c,q.2.trans c⟩,st1.back (B':=fun μ H=>B μ H∧Chg K Fi μi Hi (acc::F) μ H) ⟨st1.b,ch1⟩ en2,?_⟩
     cases es:stepC Φ Γ ifs body ρ' ds S with
     |ok ds' S'=>
      rw[es]at w'
      intro μ' H2 σ' vs' st'
      exact⟨μ',S',ds',vs',st'.b.2,st'.back st'.b.1 (b3Z' ea st'.env),w'⟩
     |err z S'=>rw[es]at w';exact w'.elim
     |fail=>rw[es]at w';exact w'.elim
end
section
variable {X:Cx}{E:XK}{CX:CXT}{Φ:FT}{Γ:Str→Option D}
theorem c_inner{elt:Expr}{gens:List Comprehension}{scope:Scope}{pos:Pos}{d:Nat}{acc:Addr}{t i:Expr}{fs:List Expr}{tg:CT}{it:CE}{ifs:List CE}{body:CE}(hx:X.xe=fun _ _=>False)(hc:X.calm=true)(hg:gens[d+1]?=some ⟨t,i,fs,0⟩)
  (hi:PI X t i (tI X.K X.mg E Φ Γ it)) (hs:∀x,foldedSetIterable i X.env x=pure x) (hgt:PG X t (gCT X.K tg))
  (hb:PB X (a6r' fs X.env>>=fun ok=>if ok=true then cRest elt gens scope pos (d+1) (.ref acc) X.env else pure ()) (tC X.K X.mg Φ Γ ifs body acc)):PB X (cRest elt gens scope pos d (.ref acc) X.env) (tB X.K X.mg Φ Γ (.inner tg it ifs body) acc):=
 PB.weak (b3Y' hx hc hg hi hs hgt hb) fun σ H Q zz=>ex93 zz fun F B μ0 H0 μ ρ S ds vs hB st w=>by
  refine⟨acc::F,μ,ρ,S,st.sok,st.env,?_⟩
  simp only[denB]at w
  cases e:denI Φ Γ it ρ S with
  |ok its S1=>
   rw[e]at w
   intro μ1 H1 J x s ok
   have st1:=st.next hB x s
   have w':WantB X.K X.mg F acc B μ0 H0 ρ Q (compI (stepN Φ Γ tg ifs body ρ) its ds S1):=w
   rw[b0b']at w'
   exact b2D' hB ok .refl st1 w'
  |err y S1=>rw[e]at w;exact w.elim
  |fail=>rw[e]at w;exact w.elim
def csOf(fr:List (Option Nat)):L2.St→L2.St:=fun σ=>fr.map fun j=>j.bind fun j=>(σ[j]?).join
theorem env_cs{K:PySem.W.Frag}{mg:GS}{μ:List Addr}{H:Hp}{ρ:Rho}{σ:L2.St}{fr:List (Option Nat)}(en:EnvR K mg μ H ρ σ):EnvR K mg μ H (fr.map fun j=>j.bind fun j=>(ρ[j]?).join) (csOf fr σ):=by
 refine⟨by simp[csOf],fun i d e=>?_⟩
 rw[ZJ]at e
 cases e1:fr[i]? with
 |none=>rw[e1]at e;cases e
 |some o=>
  rw[e1]at e
  have e:=ZY e
  cases o with
  |none=>cases e
  |some j=>
   have e2:(ρ[j]?).join=some d:=e
   cases e3:ρ[j]? with
   |none=>rw[e3]at e2;cases e2
   |some o=>
    rw[e3]at e2
    have e4:o=some d:=e2
    subst e4
    obtain⟨v,k1,k2⟩:=en.2 j d e3
    exact⟨v,by unfold csOf;rw[ZJ,e1];show some ((σ[j]?).join)=_;rw[k1];rfl,k2⟩
theorem c_comp{tg0:Expr}{box:Bool}{N':List Str}{fr:List (Option Nat)}{tg:CT}{it:CE}{ifs:List CE}{body:CE}{σ:L2.St}{H:Hp}{Q:VK}(h:tE X.K X.mg E Φ Γ (.comp box N' fr tg it ifs body) σ H Q):
  tComp (csOf fr) (tI X.K X.mg E Φ Γ it) (gCT X.K tg) (tC X.K X.mg Φ Γ ifs body) σ H Q:=by
 obtain⟨F,μ,ρ,S,sk,en,w⟩:=h
 refine⟨F,μ,ρ,S,sk,en,?_⟩
 simp only[den]at w
 refine WantG.mono (Rel:=fun μ' H' its J=>ItOk X.K ⟨X.mg,F⟩ J (getOf its) μ' H') (WantG.bind w) fun J H1 h acc hacc=>?_
 obtain⟨μ1,S1,its,x1,s1,ok,w1⟩:=h
 have st:CSt X.K X.mg F acc (fun μ H=>Chg X.K F μ1 H1 (acc::F) μ H) μ1 H1 μ1 S1 (upd H1 acc (.lst [])) (fr.map fun j=>j.bind fun j=>(ρ[j]?).join) (csOf fr σ) [] []:={
  n0:=hacc
  ext:=.laid hacc
  sok:=s1.start hacc
  nin:=s1.notin hacc
  env:=(env_cs (en.mono x1)).chg (.start hacc)
  at_:=a0H'
  rep:=.nil
  b:=.start hacc}
 refine b2D' (Q:=fun _ H=>Q (.ref acc) H) (B:=fun μ H=>Chg X.K F μ1 H1 (acc::F) μ H) (n:=b0a' its) (fun μa Ha μb Hb q c=>q.trans c) ok (.start hacc) st ?_
 have w2:WantG X.K ⟨X.mg,F⟩ E (Rep X.K ⟨X.mg,F⟩) μ1 H1 Q ((compI (stepN Φ Γ tg ifs body (fr.map fun j=>j.bind fun j=>(ρ[j]?).join)) its [] S1).noErr.bind fun ys S5=>if box=true then .ok (.ref S5.length) (S5++[ys])else .ok (.lst ys) S5):=w1
 rw[b0b']at w2
 cases e:compB (stepN Φ Γ tg ifs body (fr.map fun j=>j.bind fun j=>(ρ[j]?).join)) (getOf its) (b0a' its) 0 [] S1 with
 |ok ys S5=>
  rw[e]at w2
  intro μ' H' σ' vs' st'
  have hF:acc∉F:=s1.notF hacc
  cases box with
  |false=>
   refine w2 μ' H' (.ref acc) st'.ext st'.sok.out ?_
   unfold Rep
   exact⟨acc,vs',rfl,st'.at_,⟨st'.nin,hF⟩,RepL.chg .out _ _ st'.rep⟩
  |true=>
   refine w2 (μ'++[acc]) H' (.ref acc) (st'.ext.outBox hacc) (st'.sok.outBox st'.nin st'.at_ st'.rep) ?_
   unfold Rep
   refine⟨acc,rfl,?_⟩
   have hl:=st'.sok.len
   rw[Zw (by omega)]
   simp[hl]
 |err y S5=>rw[e]at w2;exact w2.elim
 |fail=>rw[e]at w2;exact w2.elim
end
end Py
end
section
namespace Py
open PySem PySem.Spec PyProof.Rows L2
section
variable {prog:Program}{w:World}{A:Around}{E:Value→Shared→Prop}{s:Shared}
end
end Py
end
section
namespace Py
open PySem PySem.Spec PyProof.Rows
def setO(led:Bool):Obj:={cls:=.type "set",dict:=none,data:=.set #[] 0 (.fresh 0 0 led)}
section
variable {prog:Program}{w:World}{A:Around}{E:Value→Shared→Prop}{s:Shared}
theorem a7v'{t:Addr}{vs:Array Value}{ns:List Int}{Q:Value→Shared→Prop}(hh:A.handled=none)(ht:s.heap.IsTuple t vs)(hi:IntsAre vs.toList ns)(hb:vs.size+1<scanBound)
  (h:∀(h':Heap) (tk:Nat),h'.SetOf (intKind prog w) s.heap.objs.size (fun k'=>(firstMet (fun i=>ns.getD i 0) vs.size).any (· ==k')) (firstMet (fun i=>ns.getD i 0) vs.size).length→
   (∀b o,b<s.heap.objs.size→s.heap.get? b=some o→h'.get? b=some o)→Q (.ref s.heap.objs.size) {s with heap:=h',toks:=tk}):wpAny (model prog w) A (call (.type "set") [.ref t]) Q E s:=by
 obtain⟨c,tl,hmro⟩:=F.called_set.mro
 have hmade:=F.called_set.made
 have hsub:=F.called_set.sub
 refine wpAny_call (codeAny_of_tree ?_)
 show wpAny _ _ (callAny (.type "set") _) _ _ _
 refine Zi ⟨Code.quiet_builtin _ (by decide+kernel),codeAny_builtin F.entry_type_call ?_⟩
 rw[Around.under_plain (weight_type_call_type "set" [.ref t] []) rfl]
 have g1:=F.called_set.notType
 have g2:=F.called_set.canCreate
 have g3:=F.typeCall_set_1 (.ref t)
 repeat(any_goals (first|assumption|wp_step))
 refine codeAny_mono (code_set_new_1 (.ref t) (E:=E) (Q₁:=fun obj s₁=>∃led:Bool,obj=.ref s.heap.objs.size∧s₁={s with heap:=s.heap.push (setO led)}) fun led=>⟨led,rfl,rfl⟩) fun r s₁ hr=>?_
 cases r with
 |error e=>exact hr
 |ok fl=>
  cases fl with
  |ret obj=>
   obtain⟨led,rfl,rfl⟩:=hr
   have hS:(s.heap.push (setO led)).get? s.heap.objs.size=some (setO led):=Zp _ rfl
   have hT:Shared.TypeIs {s with heap:=s.heap.push (setO led)} (.ref s.heap.objs.size) "set":=⟨_,hS,rfl⟩
   have hli:=F.called_set.init.lookup
   have hbi:=F.called_set.init.bind (.ref s.heap.objs.size)
   repeat(any_goals (first|assumption|wp_step))
   refine codeAny_mono (codeAny_call_builtin (R:=wants (fun r s₂=>r=.none∧∃h' tk,s₂={s with heap:=h',toks:=tk}∧h'.SetOf (intKind prog w) s.heap.objs.size (fun k'=>(firstMet (fun i=>ns.getD i 0) vs.size).any (· ==k')) (firstMet (fun i=>ns.getD i 0) vs.size).length∧
     (∀b o,b<s.heap.objs.size→s.heap.get? b=some o→h'.get? b=some o)) E) F.called_set.init.plain F.entry_set_init (check_set_init_1 hT ?_)) fun r₂ s₂ hr₂=>?_
   ·obtain⟨⟨ocls,odict,odata,oslots⟩,hol,hcl,nl,hdl⟩:=ht
    simp only at hcl hdl
    subst hcl;subst hdl
    have hol':(s.heap.push (setO led)).get? t=some {cls:=.type "tuple",dict:=odict,data:=.seq vs nl,slots:=oslots}:=Zf _ hol
    have q1:=F.sub_tuple_set
    have q2:=F.sub_tuple_frozenset
    have q3:(Value.type "tuple"==Value.type "dict")=false:=by decide
    have hl1:(s.heap.push (setO led)).IsTuple t vs:=⟨_,hol',rfl,nl,rfl⟩
    unfold Builtin.«set.__init__» noKeywords Builtin.Frozenset.updateFrom
    generalize hPI:pyIter=PI
    wp_walk
    subst hPI
    refine wpAny_pyIter_tuple hl1 (Za (wpAny_runValue ?_))
    have hlS:t<s.heap.objs.size:=Zs hol
    have hh3:A.in1.in1.in1.handled=none:=by simp[hh]
    have hz:(s.heap.push (setO led)).objs.size=s.heap.objs.size+1:=Yh ..
    have hneI:t≠(s.heap.push (setO led)).objs.size:=by rw[hz];exact ZR (Nat.lt_succ_of_lt hlS)
    have hSf:s.heap.objs.size∉[(s.heap.push (setO led)).objs.size,t]:=by
     rw[hz]
     simp only[Zr,ZS,or_false,not_or]
     exact⟨ZR (Nat.lt_succ_self _),Nat.ne_of_gt hlS⟩
    refine codeAny_set_update_loopS ((Walks.tuple hh3 _ t hneI vs).toS) s.heap.objs.size hSf (fun i=>ns.getD i 0) (fun i v hv=>hi.int_at i v (by rw[ZV];exact hv)) hb (vs.size-0) 0 _ (by omega) (Nat.zero_le _) ⟨⟨_,Zp _ rfl,rfl,rfl⟩,(hl1.push _)⟩ ?hS0 ?hR
    case hS0=>exact SetOf_congr ((setObjOf_fresh (knd:=intKind prog w) led).setOf (Zf _ hS) (by unfold scanBound;omega)) (fun _=>rfl) rfl
    case hR=>
     intro s' hm hS'
     obtain⟨h',g',d',tk',os'⟩:=s'
     have eg:g'=s.gens:=hm.gens
     have ed:d'=s.drawn:=hm.drawn
     have eo:os'=s.os:=hm.os
     subst eg ed eo
     show wpAny _ _ _ _ _ _
     refine Zi ?_
     show wpAny _ _ (ret Value.none) _ _ _
     refine Zi ⟨rfl,h',tk',rfl,hS',fun b o hb e=>hm.heap b o ?_ (Zf _ (Zf _ e))⟩
     simp only[Zr,ZS,or_false,not_or]
     rw[hz]
     exact⟨ZR hb,ZR (Nat.lt_succ_of_lt hb)⟩
   ·cases r₂ with
    |error e=>exact hr₂
    |ok fl₂=>
     cases fl₂ with
     |ret r=>
      obtain⟨rfl,h',tk,rfl,hS',hk'⟩:=hr₂
      repeat(any_goals (first|assumption|wp_step))
      exact h _ _ hS' hk'
     |_=>exact hr₂.elim
  |_=>exact hr.elim
end
end Py
end
section
namespace Py
open PySem PySem.Spec PyProof.Rows L2
theorem a5r'(ns:List Int):firstMet (fun i=>ns.getD i 0) ns.length=dedI ns:=by
 unfold firstMet dedI
 congr 1
 refine List.ext_getElem (by simp) fun i h1 h2=>?_
 simp[h2]
section
variable {X:Cx}
theorem b1M'(hc:X.calm=true):CallR X (.type "set") (fun xs H Q=>∃p ns,xs=[.ref p]∧SqL X.K H p (ns.map V.int)∧ns.length+1<scanBound∧∀l S,H l=none→Q (.ref l) (upd H l (.set S (dedI ns).length))):=by
 intro pins s σ H xs us Q I r h
 obtain⟨p,ns,rfl,hq,hb,q⟩:=h
 obtain⟨u,rfl,rx⟩:=vals1 r
 cases rx
 obtain⟨its,rv,pl,_⟩:=I.list hq
 have hl:=rv.length
 simp only[Zk]at hl
 refine call_set_list (items:=its.toArray) (ns:=ns) (I.ok.hd hc) pl.isList (by simpa using a6g' rv) (by simp only[Zj];omega) fun h' tk hS hk=>?_
 have e1:its.toArray.size=ns.length:=by simp[hl]
 rw[e1,a5r']at hS
 exact⟨.ref s.heap.objs.size,_,I.laid (t':=tk) (fun b o e=>hk b o (Zs e) e) (Zl _) (show ObjOk X.prog X.w _ h' _ (.set _ _)from hS),rfl,q _ _ (I.hok.fresh (Zl _))⟩
theorem b1N'(hc:X.calm=true):CallR X (.type "set") (fun xs H Q=>∃p ns,xs=[.ref p]∧SqT X.K H p (ns.map V.int)∧ns.length+1<scanBound∧∀l S,H l=none→Q (.ref l) (upd H l (.set S (dedI ns).length))):=by
 intro pins s σ H xs us Q I r h
 obtain⟨p,ns,rfl,hq,hb,q⟩:=h
 obtain⟨u,rfl,rx⟩:=vals1 r
 cases rx
 obtain⟨its,rv,pl,_⟩:=I.tuple hq
 have hl:=rv.length
 simp only[Zk]at hl
 refine a7v' (vs:=its.toArray) (ns:=ns) (I.ok.hd hc) pl (by simpa using a6g' rv) (by simp only[Zj];omega) fun h' tk hS hk=>?_
 have e1:its.toArray.size=ns.length:=by simp[hl]
 rw[e1,a5r']at hS
 exact⟨.ref s.heap.objs.size,_,I.laid (t':=tk) (fun b o e=>hk b o (Zs e) e) (Zl _) (show ObjOk X.prog X.w _ h' _ (.set _ _)from hS),rfl,q _ _ (I.hok.fresh (Zl _))⟩
theorem b1O'(hc:X.calm=true):CallR X (.type "set") (fun xs H Q=>∃p ns,xs=[.ref p]∧(SqL X.K H p (ns.map V.int)∨SqT X.K H p (ns.map V.int))∧ns.length+1<scanBound∧∀l S,H l=none→Q (.ref l) (upd H l (.set S (dedI ns).length))):=by
 intro pins s σ H xs us Q I r h
 obtain⟨p,ns,e,hq,hb,q⟩:=h
 rcases hq with hq|hq
 ·exact b1M' hc pins s σ H xs us Q I r ⟨p,ns,e,hq,hb,q⟩
 ·exact b1N' hc pins s σ H xs us Q I r ⟨p,ns,e,hq,hb,q⟩
theorem b1P':CallR X (.builtin "len") (fun xs H Q=>∃p S n,xs=[.ref p]∧H p=some (.set S n)∧n<100000∧Q (.int n) H):=by
 intro pins s σ H xs us Q I r h
 obtain⟨p,S,n,rfl,hp,hn,q⟩:=h
 obtain⟨u,rfl,rx⟩:=vals1 r
 cases rx
 have hS:s.heap.SetOf (intKind X.prog X.w) p S n:=I.hok p _ hp
 obtain⟨o,es,ep,t,ho,hex,hd,_,_,_,hf,rfl⟩:=hS
 exact call_len_set ho hex hd hf (by omega) ⟨.int es.size,H,I.tok _,⟨_,rfl⟩,q⟩
theorem b4b':bootBuiltins "set"=some (.type "set"):=by decide+kernel
theorem dedI_le(ns:List Int):(dedI ns).length≤ns.length:=by
 have key:∀(ns acc:List Int),(ns.foldl step_dedup acc).length≤acc.length+ns.length:=by
  intro ns
  induction ns with
  |nil=>intro acc;simp
  |cons n ns ih=>
   intro acc
   refine ZB (ih (step_dedup acc n)) ?_
   unfold step_dedup
   split<;>simp<;>omega
 simpa[dedI]using key ns []
theorem b2E':∀{xs:List D},xs.all (hasTy .int)=true→xs=(xs.filterMap asInt).map D.int
 | [],_=>rfl
 |x::xs,h=>by
  simp only[List.all_cons,Zt]at h
  cases x with
  |int i=>simp only[List.filterMap_cons,asInt,ZH];rw[←b2E' h.2]
  |_=>simp[hasTy]at h
theorem b0e'{K:PySem.W.Frag}{mg:GS}{μ:List Addr}{H:Hp}:∀{ns:List Int} {vs:List V},RepL K mg μ H (ns.map D.int) vs→vs=ns.map V.int
 | [],vs,r=>by unfold RepL at r;subst r;rfl
 |n::ns,vs,r=>by
  obtain⟨v,ws,rfl,r1,r2⟩:=r.uncons
  cases a0e' r1
  rw[b0e' r2];rfl
def b4c'(K:PySem.W.Frag):List V→Hp→VK→Prop:=fun xs H Q=>∃p ns,xs=[.ref p]∧(SqL K H p (ns.map V.int)∨SqT K H p (ns.map V.int))∧ns.length+1<scanBound∧∀l S,H l=none→Q (.ref l) (upd H l (.set S (dedI ns).length))
def rLenS:List V→Hp→VK→Prop:=fun xs H Q=>∃p S n,xs=[.ref p]∧H p=some (.set S n)∧n<100000∧Q (.int n) H
theorem b1Q'{z:Expr}{p1 p2 p3 p4:Pos}{ta:TE}(hc:X.calm=true)(hg1:Gl X "len")(hg2:Gl X "set")(hm1:X.mg "len"=none)(hm2:X.mg "set"=none)(hn:a0D' z=true)(ha:PE X z ta):
  PE X (.Call (.Name "len" p1) [.Call (.Name "set" p2) [z] [] p3] [] p4) (fun σ H Q=>ta σ H fun x H1=>b4c' X.K [x] H1 fun y H2=>rLenS [y] H2 Q):=by
 have inner:PE X (.Call (.Name "set" p2) [z] [] p3) (tCB (b4c' X.K) (tCons ta tNil)):=a4m' (b1O' hc) hg2 hm2 b4b' (a9w' ha b3q' (a0n' hn)) (by decide) (by decide) (a0n' hn)
 exact a9y' (r:=rLenS) b1P' hg1 hm1 PySem.boot_len (a9w' inner b3q')
theorem b4d'{K:PySem.W.Frag}{mg:Str→Option Value}{F μ:List Addr}{H:Hp}{S:Store}{d:D}{v:V}{Q:VK}(sk:SOk K ⟨mg,F⟩ μ S H)(r:Rep K ⟨mg,F⟩ μ H d v)(w:Want K ⟨mg,F⟩ μ H Q (a8c' d S)):b4c' K [v] H fun y H2=>rLenS [y] H2 Q:=by
 unfold a8c' at w
 split at w
 ·rename_i xs e
  split at w
  ·rename_i hc
   obtain⟨a,vs,rfl,hq,rl⟩:∃a vs,v=.ref a∧(SqL K H a vs∨SqT K H a vs)∧RepL K ⟨mg,F⟩ μ H xs vs:=by
    cases d with
    |tup ds=>
     obtain⟨a,vs,e1,hq,q⟩:=a0y' r
     cases e
     exact⟨a,vs,e1,.inr hq,q⟩
    |_=>
     obtain⟨a,vs,e1,hq,q⟩:=a7m' sk r e (fun ys z=>by cases z)
     exact⟨a,vs,e1,.inl hq,q⟩
   have hxs:=b2E' hc.1
   have hlen:(xs.filterMap asInt).length<1000:=by
    have:=congrArg List.length hxs
    simp only[Zk]at this
    omega
   rw[hxs]at rl
   have hv:=b0e' rl
   subst hv
   refine⟨a,xs.filterMap asInt,rfl,hq,by unfold scanBound;omega,fun l S' hl=>⟨l,S',_,rfl,a0H',by have:=dedI_le (xs.filterMap asInt);omega,?_⟩⟩
   exact w μ _ _ (.laid hl) (sk.laid hl) a1g'
  ·exact w.elim
 ·exact w.elim
end
end Py
end
section
namespace Py
open PySem PySem.Spec PyProof.Rows L2
section
variable {X:Cx}
end
end Py
end
section
set_option autoImplicit false
namespace Srt
open PySem PyProof.Rows
def gallop':Bool→Keyed→Array Keyed→Nat→Nat→Nat→StateT SortSt Sem (Option Nat):=sortPriv%PySem.Builtin.gallop
def b4e':Array Keyed→Array Keyed→StateT SortSt Sem (Array Keyed):=sortPriv%PySem.Builtin.mergeLo
def b4f':Array Keyed→Array Keyed→StateT SortSt Sem (Array Keyed):=sortPriv%PySem.Builtin.mergeHi
def dK:Keyed:=(Value.none,Value.none)
structure Cmp (prog:Program)(w:World)(A:Around)(s:Shared)(κ:SortKind)(P:Keyed→Prop)(K:Keyed→Nat):Prop where
 lt:∀x,P x→∀y,P y→∀(Q:Bool→Shared→Prop) (E:Value→Shared→Prop),Q (decide (K x<K y)) s→wpAny (model prog w) A (keyLt' κ x.1 y.1) Q E s
def R(K:Keyed→Nat)(xs:Array Keyed)(i:Nat):Nat:=K (xs.getD i dK)
section
variable {prog:Program}{w:World}{A:Around}{E:Value→Shared→Prop}{s:Shared}{st:SortSt}{κ:SortKind}{P:Keyed→Prop}{K:Keyed→Nat}
theorem getD_of{xs:Array Keyed}{i:Nat}(h:i<xs.size):xs.getD i dK=xs[i]:=by
 unfold Array.getD;rw[dif_pos h];rfl
theorem R_of{xs:Array Keyed}{i:Nat}(h:i<xs.size):R K xs i=K xs[i]:=by unfold R;rw[getD_of h]
theorem b0f'(C:Cmp prog w A s κ P K){x y:Keyed}(hx:P x)(hy:P y)(hk:kindOf st=κ){Q:Option Bool→SortSt→Prop}(h:Q (some (decide (K x<K y))) st):wpS (model prog w) A E s (lt' x y) Q st:=by
 rw[lt'_eq]
 refine Zq (wpS_get ?_)
 rw[hk]
 refine Zq (wpS_lift (wpAny_attempt (C.lt x hx y hy _ _ ⟨rfl,?_⟩)))
 exact Zu h
theorem a0m'{xs:Array Keyed}{i:Nat}(hi:i<xs.size){Q:Keyed→SortSt→Prop}(h:Q xs[i] st):wpS (model prog w) A E s (elem' xs i) Q st:=by
 rw[elem'_eq,getElem?_pos xs i hi]
 exact Zu h
def thr(K:Keyed→Nat)(left:Bool)(key:Keyed):Nat:=if left=true then K key else K key+1
theorem a2h'(C:Cmp prog w A s κ P K){left:Bool}{key:Keyed}{arr:Array Keyed}{i:Nat}(ha:∀x∈arr.toList,P x)(hy:P key)(hk:kindOf st=κ)(hi:i<arr.size){Q:Option Bool→SortSt→Prop}(h:Q (some (decide (R K arr i<thr K left key))) st):
  wpS (model prog w) A E s (elem' arr i>>=fun x=>if left=true then lt' x key else lt' key x>>=fun r=>pure (r.map fun b=> !b)) Q st:=by
 refine Zq (a0m' hi ?_)
 have hx:P arr[i]:=ha _ (by simp)
 rw[R_of hi]at h
 cases left with
 |true=>exact b0f' C hx hy hk h
 |false=>
  refine Zq (b0f' C hy hx hk ?_)
  refine Zu ?_
  have e:(!decide (K key<K arr[i]))=decide (K arr[i]<thr K false key):=by
   rw[←decide_not]
   exact decide_eq_decide.mpr (by show ¬K key<K arr[i]↔K arr[i]<K key+1;lia)
  show Q (some (!decide (K key<K arr[i]))) st
  rw[e];exact h
theorem a1z'(C:Cmp prog w A s κ P K){left:Bool}{key:Keyed}{arr:Array Keyed}{base n hint:Nat}(ha:∀x∈arr.toList,P x)(hy:P key)(hk:kindOf st=κ)(hz:base+n≤arr.size)(hh:hint<n)
  (hs:∀i j,i≤j→j<n→R K arr (base+i)≤R K arr (base+j)) {Q:Option Nat→SortSt→Prop}
  (h:∀k,k≤n→(∀i,i<k→R K arr (base+i)<thr K left key)→(∀i,k≤i→i<n→thr K left key≤R K arr (base+i))→Q (some k) st):wpS (model prog w) A E s (gallop' left key arr base n hint) Q st:=by
 have last:∀lo hi:Nat,lo≤hi→hi≤n→(∀i,i<lo→R K arr (base+i)<thr K left key)→(∀i,hi≤i→i<n→thr K left key≤R K arr (base+i))→
   ∀{f:Nat→Option (Option Nat)×Nat×Nat→StateT SortSt Sem (ForInStep (Option (Option Nat)×Nat×Nat))} {g:Option (Option Nat)×Nat×Nat→StateT SortSt Sem (Option Nat)},
   (∀x lo hi,lo<hi→hi≤n→∀Q',(R K arr (base+(lo+(hi-lo)/2))<thr K left key→Q' (.yield (none,lo+(hi-lo)/2+1,hi)) st)→(¬R K arr (base+(lo+(hi-lo)/2))<thr K left key→Q' (.yield (none,lo,lo+(hi-lo)/2)) st)→wpS (model prog w) A E s (f x (none,lo,hi)) Q' st)→
   (∀x lo hi,hi≤lo→f x (none,lo,hi)=pure (.done (none,lo,hi)))→(∀lo hi,g (none,lo,hi)=pure (some hi))→wpS (model prog w) A E s (forIn [:n] (none,lo,hi) f>>=g) Q st:=by
  intro lo hi h1 h2 h3 h4 f g hf hd hg
  refine Zq (wpS_mono (Ye (I:=fun x c st'=>st'=st∧∃lo hi,c=(none,lo,hi)∧lo≤hi∧hi≤n∧hi-lo≤n-x∧(∀i,i<lo→R K arr (base+i)<thr K left key)∧(∀i,hi≤i→i<n→thr K left key≤R K arr (base+i)))
   (Q:=fun c st'=>st'=st∧∃hi,c=(none,hi,hi)∧hi≤n∧(∀i,i<hi→R K arr (base+i)<thr K left key)∧(∀i,hi≤i→i<n→thr K left key≤R K arr (base+i))) ?_ ?_ ⟨rfl,lo,hi,rfl,h1,h2,by lia,h3,h4⟩) ?_)
  ·rintro x c st' _ hx ⟨rfl,lo,hi,rfl,k1,k2,k3,k4,k5⟩
   by_cases hlt:hi≤lo
   ·rw[hd x lo hi hlt]
    have:lo=hi:=by lia
    subst this
    exact Zu ⟨rfl,lo,rfl,k2,k4,k5⟩
   ·refine hf x lo hi (by lia) k2 _ (fun hm=>⟨rfl,_,_,rfl,by lia,k2,by lia,fun i hi'=>?_,k5⟩) (fun hm=>⟨rfl,_,_,rfl,by lia,by lia,by lia,k4,fun i h1 h2=>?_⟩)
    ·have:=hs i (lo+(hi-lo)/2) (by lia) (by lia)
     lia
    ·have:=hs (lo+(hi-lo)/2) i (by lia) (by lia)
     lia
  ·rintro c st' ⟨rfl,lo,hi,rfl,k1,k2,k3,k4,k5⟩
   have:lo=hi:=by lia
   subst this
   exact⟨rfl,lo,rfl,k2,k4,k5⟩
  ·rintro c st' ⟨rfl,hi,rfl,k2,k4,k5⟩
   rw[hg]
   exact Zu (h hi k2 k4 k5)
 refine Zq (a2h' C ha hy hk (by lia) ?_)
 by_cases hr:R K arr (base+hint)<thr K left key
 ·rw[ZK hr]
  refine Zq (wpS_mono (Ye (I:=fun x c st'=>st'=st∧∃l o,c=(none,l,o)∧l<o∧x+1≤o∧hint+l<n∧R K arr (base+(hint+l))<thr K left key)
   (Q:=fun c st'=>st'=st∧∃l o,c=(none,l,o)∧l<o∧hint+l<n∧R K arr (base+(hint+l))<thr K left key∧(n-hint≤o∨(hint+o<n∧thr K left key≤R K arr (base+(hint+o))))) ?_ ?_ ⟨rfl,0,1,rfl,by lia,by lia,by lia,hr⟩) ?_)
  ·rintro x c st' _ hx ⟨rfl,l,o,rfl,k1,k2,k3,k4⟩
   dsimp only
   by_cases ho:o≥n-hint
   ·rw[if_pos ho]
    exact Zu ⟨rfl,l,o,rfl,k1,k3,k4,.inl ho⟩
   ·rw[if_neg ho]
    refine Zq (a2h' C ha hy hk (by lia) ?_)
    by_cases hm:R K arr (base+(hint+o))<thr K left key
    ·rw[ZK hm]
     exact Zu ⟨rfl,o,2*o+1,rfl,by lia,by lia,by lia,hm⟩
    ·rw[ZC hm]
     exact Zu ⟨rfl,l,o,rfl,k1,k3,k4,.inr ⟨by lia,by lia⟩⟩
  ·rintro c st' ⟨rfl,l,o,rfl,k1,k2,k3,k4⟩
   exact⟨rfl,l,o,rfl,k1,k3,k4,.inl (by lia)⟩
  ·rintro c st' ⟨rfl,l,o,rfl,k1,k3,k4,k5⟩
   refine last (hint+l+1) (hint+min o (n-hint)) (by lia) (by lia) (fun i hi=>?_) (fun i h1 h2=>?_) (fun x lo hi h1 h2 Q' q1 q2=>?_) (fun x lo hi h1=>if_pos h1) (fun lo hi=>rfl)
   ·have:=hs i (hint+l) (by lia) (by lia)
    lia
   ·rcases k5 with k5| ⟨k5,k6⟩
    ·lia
    ·have:=hs (hint+o) i (by lia) (by lia)
     lia
   ·dsimp only
    rw[if_neg (by lia)]
    refine Zq (a2h' C ha hy hk (by lia) ?_)
    by_cases hm:R K arr (base+(lo+(hi-lo)/2))<thr K left key
    ·rw[ZK hm];exact Zu (q1 hm)
    ·rw[ZC hm];exact Zu (q2 hm)
 ·rw[ZC hr]
  refine Zq (wpS_mono (Ye (I:=fun x c st'=>st'=st∧∃l o,c=(none,l,o)∧l<o∧x+1≤o∧l≤hint∧thr K left key≤R K arr (base+(hint-l)))
   (Q:=fun c st'=>st'=st∧∃l o,c=(none,l,o)∧l<o∧l≤hint∧thr K left key≤R K arr (base+(hint-l))∧(hint+1≤o∨(o≤hint∧R K arr (base+(hint-o))<thr K left key))) ?_ ?_ ⟨rfl,0,1,rfl,by lia,by lia,by lia,by simpa using hr⟩) ?_)
  ·rintro x c st' _ hx ⟨rfl,l,o,rfl,k1,k2,k3,k4⟩
   dsimp only
   by_cases ho:o≥hint+1
   ·rw[if_pos ho]
    exact Zu ⟨rfl,l,o,rfl,k1,k3,k4,.inl ho⟩
   ·rw[if_neg ho]
    refine Zq (a2h' C ha hy hk (by lia) ?_)
    by_cases hm:R K arr (base+(hint-o))<thr K left key
    ·rw[ZK hm]
     exact Zu ⟨rfl,l,o,rfl,k1,k3,k4,.inr ⟨by lia,hm⟩⟩
    ·rw[ZC hm]
     exact Zu ⟨rfl,o,2*o+1,rfl,by lia,by lia,by lia,by lia⟩
  ·rintro c st' ⟨rfl,l,o,rfl,k1,k2,k3,k4⟩
   exact⟨rfl,l,o,rfl,k1,k3,k4,.inl (by lia)⟩
  ·rintro c st' ⟨rfl,l,o,rfl,k1,k3,k4,k5⟩
   refine last (hint+1-min o (hint+1)) (hint-l) (by lia) (by lia) (fun i hi=>?_) (fun i h1 h2=>?_) (fun x lo hi h1 h2 Q' q1 q2=>?_) (fun x lo hi h1=>if_pos h1) (fun lo hi=>rfl)
   ·rcases k5 with k5| ⟨k5,k6⟩
    ·lia
    ·have:=hs i (hint-o) (by lia) (by lia)
     lia
   ·have:=hs (hint-l) i (by lia) (by lia)
    lia
   ·dsimp only
    rw[if_neg (by lia)]
    refine Zq (a2h' C ha hy hk (by lia) ?_)
    by_cases hm:R K arr (base+(lo+(hi-lo)/2))<thr K left key
    ·rw[ZK hm];exact Zu (q1 hm)
    ·rw[ZC hm];exact Zu (q2 hm)
end
end Srt
end
section
set_option autoImplicit false
namespace Srt
open PySem PyProof.Rows
section
variable {K:Keyed→Nat}
def LS(K:Keyed→Nat)(l:List Keyed):Prop:=l.Pairwise fun x y=>K x≤K y
def Good(K:Keyed→Nat)(tot:List Keyed)(r:Array Keyed):Prop:=r.toList.Perm tot∧LS K r.toList
structure MI (K:Keyed→Nat)(tot o ra rb:List Keyed):Prop where
 perm:(o++ra++rb).Perm tot
 so:LS K o
 sa:LS K ra
 sb:LS K rb
 oa:∀x∈o,∀y∈ra,K x≤K y
 ob:∀x∈o,∀y∈rb,K x≤K y
variable {tot o ra rb c:List Keyed}
theorem MI.stepA(h:MI K tot o (c++ra) rb)(hc:∀x∈c,∀y∈rb,K x≤K y):MI K tot (o++c) ra rb:=by
 have sa:=ZO.mp h.sa
 refine⟨?_,ZO.mpr ⟨h.so,sa.1,fun x hx y hy=>h.oa x hx y (Z7 _ hy)⟩,sa.2.1,h.sb,fun x hx y hy=>?_,fun x hx y hy=>?_⟩
 ·have:=h.perm
  rwa [←Zm]at this
 ·rcases ZA.mp hx with z|z
  ·exact h.oa x z y (ZE _ hy)
  ·exact sa.2.2 x z y hy
 ·rcases ZA.mp hx with z|z
  ·exact h.ob x z y hy
  ·exact hc x z y hy
theorem MI.stepB(h:MI K tot o ra (c++rb))(hc:∀x∈c,∀y∈ra,K x≤K y):MI K tot (o++c) ra rb:=by
 have sb:=ZO.mp h.sb
 refine⟨?_,ZO.mpr ⟨h.so,sb.1,fun x hx y hy=>h.ob x hx y (Z7 _ hy)⟩,h.sa,sb.2.1,fun x hx y hy=>?_,fun x hx y hy=>?_⟩
 ·refine List.Perm.trans ?_ h.perm
  rw[Zm,Zm,Zm]
  refine List.Perm.append_left _ ?_
  rw[←Zm,←Zm]
  exact List.Perm.append_right _ List.perm_append_comm
 ·rcases ZA.mp hx with z|z
  ·exact h.oa x z y hy
  ·exact hc x z y hy
 ·rcases ZA.mp hx with z|z
  ·exact h.ob x z y (ZE _ hy)
  ·exact sb.2.2 x z y hy
theorem MI.done(h:MI K tot o ra []):(o++ra++[]).Perm tot∧LS K (o++ra++[]):=by
 refine⟨h.perm,?_⟩
 rw[Z2]
 exact ZO.mpr ⟨h.so,h.sa,h.oa⟩
theorem MI.last(h:MI K tot o ra rb)(hb:∀y∈rb,∀z∈ra,K y≤K z):(o++rb++ra).Perm tot∧LS K (o++rb++ra):=by
 refine⟨List.Perm.trans ?_ h.perm,ZO.mpr ⟨ZO.mpr ⟨h.so,h.sb,h.ob⟩,h.sa,fun x hx y hy=>?_⟩⟩
 ·rw[Zm,Zm]
  exact List.Perm.append_left _ List.perm_append_comm
 ·rcases ZA.mp hx with z|z
  ·exact h.oa x z y hy
  ·exact hb x z y hy
theorem a5N'{a:Array Keyed}{i:Nat}:(a.extract i).toList=a.toList.drop i:=by
 rw[Array.toList_extract]
 unfold List.extract
 rw[Yb (by simp)]
theorem b0g'{a:Array Keyed}{i k:Nat}:(a.extract i (i+k)).toList=(a.toList.drop i).take k:=by
 rw[Array.toList_extract]
 unfold List.extract
 rw[Nat.add_sub_cancel_left]
theorem a8j'{a:Array Keyed}{i:Nat}(h:i<a.size):a.toList.drop i=a[i]::a.toList.drop (i+1):=by
 rw[List.drop_eq_getElem_cons (by simpa using h)]
 rfl
theorem a6s'{a:Array Keyed}{i k:Nat}:a.toList.drop i=(a.toList.drop i).take k++a.toList.drop (i+k):=by
 rw[←List.drop_drop,List.take_append_drop]
theorem LS.mono{a:Array Keyed}(h:LS K a.toList){i j:Nat}(hij:i≤j)(hj:j<a.size):R K a i≤R K a j:=by
 rw[R_of hj,R_of (show i<a.size by lia)]
 rcases Nat.lt_or_ge i j with z|z
 ·exact List.pairwise_iff_getElem.mp h i j (by simp;lia) (by simpa using hj) z
 ·have:i=j:=by lia
  subst this;exact Zl _
theorem a2i'{a:Array Keyed}{i k:Nat}{x:Keyed}(h:x∈(a.toList.drop i).take k):∃j,j<k∧i+j<a.size∧K x=R K a (i+j):=by
 obtain⟨j,hj,rfl⟩:=ZP.mp h
 simp only[Z3,Yd,ZD]at hj
 refine⟨j,by lia,by lia,?_⟩
 rw[R_of (show i+j<a.size by lia)]
 simp
theorem a7w'{a:Array Keyed}{i:Nat}{x:Keyed}(h:x∈a.toList.drop i):∃j,i≤j∧j<a.size∧K x=R K a j:=by
 obtain⟨j,hj,rfl⟩:=ZP.mp h
 simp only[Yd,ZD]at hj
 refine⟨i+j,by lia,by lia,?_⟩
 rw[R_of (show i+j<a.size by lia)]
 simp
end
def a0B'(st:SortSt)(g:Nat):SortSt:=SortSt.mk' (kindOf st) (arrOf st) (pendingOf st) g (failedOf st)
section
variable {prog:Program}{w:World}{A:Around}{E:Value→Shared→Prop}{s:Shared}{st:SortSt}{κ:SortKind}{P:Keyed→Prop}{K:Keyed→Nat}
structure ML (K:Keyed→Nat)(a b out:Array Keyed)(ia ib:Nat):Prop where
 mi:MI K (a.toList++b.toList) out.toList (a.toList.drop ia) (b.toList.drop ib)
 la:ia+1<a.size
 lb:ib<b.size
variable {a b out:Array Keyed}{ia ib:Nat}
theorem a4p'(h:MI K (a.toList++b.toList) out.toList (a.toList.drop ia) (b.toList.drop ib))(e:ib=b.size):Good K (a.toList++b.toList) (out++a.extract ia++b.extract ib):=by
 have e1:b.toList.drop ib=[]:=List.drop_eq_nil_of_le (by simp;lia)
 unfold Good
 rw[ZX,ZX,a5N',a5N',e1]
 rw[e1]at h
 exact h.done
theorem a4q'(hl:∀y∈b.toList,K y<R K a (a.size-1))(h:MI K (a.toList++b.toList) out.toList (a.toList.drop ia) (b.toList.drop ib))(e:ia+1=a.size):Good K (a.toList++b.toList) (out++b.extract ib++a.extract ia):=by
 unfold Good
 rw[ZX,ZX,a5N',a5N']
 refine h.last fun y hy z hz=>?_
 obtain⟨j,h1,h2,e2⟩:=a7w' (K:=K) hz
 have:=hl y (List.mem_of_mem_drop hy)
 rw[e2,show j=a.size-1 by lia]
 lia
theorem mi_a(h:MI K (a.toList++b.toList) out.toList (a.toList.drop ia) (b.toList.drop ib))(hi:ia<a.size)(hc:∀y∈b.toList.drop ib,K a[ia]≤K y):MI K (a.toList++b.toList) (out.push a[ia]).toList (a.toList.drop (ia+1)) (b.toList.drop ib):=by
 rw[Array.toList_push]
 refine MI.stepA (c:=[a[ia]]) ?_ fun x hx y hy=>?_
 ·rw[a8j' hi]at h;exact h
 ·rw[Z0.mp hx];exact hc y hy
theorem mi_b(h:MI K (a.toList++b.toList) out.toList (a.toList.drop ia) (b.toList.drop ib))(hi:ib<b.size)(hc:∀y∈a.toList.drop ia,K b[ib]≤K y):MI K (a.toList++b.toList) (out.push b[ib]).toList (a.toList.drop ia) (b.toList.drop (ib+1)):=by
 rw[Array.toList_push]
 refine MI.stepB (c:=[b[ib]]) ?_ fun x hx y hy=>?_
 ·rw[a8j' hi]at h;exact h
 ·rw[Z0.mp hx];exact hc y hy
theorem mi_as{k:Nat}(h:MI K (a.toList++b.toList) out.toList (a.toList.drop ia) (b.toList.drop ib))(hc:∀i,i<k→∀y∈b.toList.drop ib,R K a (ia+i)≤K y):MI K (a.toList++b.toList) (out++a.extract ia (ia+k)).toList (a.toList.drop (ia+k)) (b.toList.drop ib):=by
 rw[ZX,b0g']
 refine MI.stepA ?_ fun x hx y hy=>?_
 ·rw[←a6s'];exact h
 ·obtain⟨j,h1,h2,e⟩:=a2i' (K:=K) hx
  rw[e];exact hc j h1 y hy
theorem mi_bs{k:Nat}(h:MI K (a.toList++b.toList) out.toList (a.toList.drop ia) (b.toList.drop ib))(hc:∀i,i<k→∀y∈a.toList.drop ia,R K b (ib+i)≤K y):MI K (a.toList++b.toList) (out++b.extract ib (ib+k)).toList (a.toList.drop ia) (b.toList.drop (ib+k)):=by
 rw[ZX,b0g']
 refine MI.stepB ?_ fun x hx y hy=>?_
 ·rw[←a6s'];exact h
 ·obtain⟨j,h1,h2,e⟩:=a2i' (K:=K) hx
  rw[e];exact hc j h1 y hy
end
end Srt
end
section
set_option autoImplicit false
namespace Srt
open PySem PyProof.Rows
abbrev GS7:=Option (Array Keyed)×Array Keyed×Nat×Nat×Nat×Nat×Nat
def YG(K:Keyed→Nat)(a b:Array Keyed)(st:SortSt)(n:Nat)(c:GS7)(st':SortSt):Prop:=(∃g,st'=a0B' st g)∧∃out ja jb mg ac bc,c=(none,out,ja,jb,mg,ac,bc)∧ML K a b out ja jb∧n≤ja+jb
def DG(K:Keyed→Nat)(a b:Array Keyed)(st:SortSt)(n:Nat)(c:GS7)(st':SortSt):Prop:=(∃g,st'=a0B' st g)∧((∃r c',c=(some r,c')∧Good K (a.toList++b.toList) r)∨∃out ja jb mg ac bc,c=(none,out,ja,jb,mg,ac,bc)∧ML K a b out ja jb∧n≤ja+jb)
def Post{γ:Type}(D Y:γ→SortSt→Prop):ForInStep γ→SortSt→Prop:=fun r st'=>match r with
 | .done c=>D c st'
 | .yield c=>Y c st'
theorem sel0{X:Type _}{p:X→Prop}{c:Prop}{dc:Decidable c}{f:Nat→X}{o2:Nat}(key:∀o,p (f o)):∀o1,p (if c then f o1 else f o2):=fun o1=>by split<;>exact key _
theorem sel1{X:Type _}{p:X→Prop}{c:Prop}{c1:Nat→Prop}{dc:Decidable c}{dc1:∀j,Decidable (c1 j)}{x1 f:Array Keyed→Nat→X}{o2:Array Keyed}{j2:Nat}{C H:Array Keyed→Nat→Prop}(key:∀o j,C o j→p (f o j))(h0:¬c→C o2 j2)(h1:∀o j,H o j→c1 j→p (x1 o j))(h3:∀o j,H o j→¬c1 j→C o j):
  ∀j1 o1,H o1 j1→p (if c then(if c1 j1 then x1 o1 j1 else f o1 j1)else f o2 j2):=fun j1 o1 h=>by
 by_cases hc:c
 ·rw[if_pos hc]
  by_cases hc1:c1 j1
  ·rw[if_pos hc1];exact h1 _ _ h hc1
  ·rw[if_neg hc1];exact key _ _ (h3 _ _ h hc1)
 ·rw[if_neg hc];exact key _ _ (h0 hc)
theorem sel2{X:Type _}{p:X→Prop}{c:Prop}{c1 c2:Nat→Prop}{dc:Decidable c}{dc1:∀j,Decidable (c1 j)}{dc2:∀j,Decidable (c2 j)}{x1 x2 f:Array Keyed→Nat→X}{o2:Array Keyed}{j2:Nat}{C H:Array Keyed→Nat→Prop}(key:∀o j,C o j→p (f o j))(h0:¬c→C o2 j2)(h1:∀o j,H o j→c1 j→p (x1 o j))(h2:∀o j,H o j→¬c1 j→¬c2 j)(h3:∀o j,H o j→¬c1 j→C o j):
  ∀j1 o1,H o1 j1→p (if c then(if c1 j1 then x1 o1 j1 else if c2 j1 then x2 o1 j1 else f o1 j1)else f o2 j2):=fun j1 o1 h=>by
 by_cases hc:c
 ·rw[if_pos hc]
  by_cases hc1:c1 j1
  ·rw[if_pos hc1];exact h1 _ _ h hc1
  ·rw[if_neg hc1,if_neg (h2 _ _ h hc1)];exact key _ _ (h3 _ _ h hc1)
 ·rw[if_neg hc];exact key _ _ (h0 hc)
section
variable {prog:Program}{w:World}{A:Around}{E:Value→Shared→Prop}{s:Shared}{st:SortSt}{κ:SortKind}{P:Keyed→Prop}{K:Keyed→Nat}{a b:Array Keyed}
theorem a8R'(C:Cmp prog w A s κ P K)(hk:kindOf st=κ)(ha:∀x∈a.toList,P x)(hb:∀x∈b.toList,P x)(sa:LS K a.toList)(sb:LS K b.toList)(a1:1≤a.size)(b1:1≤b.size)
  (h0:R K b 0<R K a 0) (hl:∀y∈b.toList,K y<R K a (a.size-1)) {Q:Array Keyed→SortSt→Prop} (h:∀r g,Good K (a.toList++b.toList) r→Q r (a0B' st g)):wpS (model prog w) A E s (b4e' a b) Q st:=by
 have hB:∀{i:Nat} (hi:i<b.size),R K b i=K b[i]:=fun hi=>R_of hi
 have hA:∀{i:Nat} (hi:i<a.size),R K a i=K a[i]:=fun hi=>R_of hi
 have pA:∀{i:Nat} (hi:i<a.size),P a[i]:=fun hi=>ha _ (by simp)
 have pB:∀{i:Nat} (hi:i<b.size),P b[i]:=fun hi=>hb _ (by simp)
 have lA:∀{i j:Nat},i≤j→j<a.size→R K a i≤R K a j:=fun h1 h2=>sa.mono h1 h2
 have lB:∀{i j:Nat},i≤j→j<b.size→R K b i≤R K b j:=fun h1 h2=>sb.mono h1 h2
 have dA:∀{i:Nat} {c:Nat},(∀j,i≤j→j<a.size→c≤R K a j)→∀y∈a.toList.drop i,c≤K y:=fun hc y hy=>by
  obtain⟨j,h1,h2,e⟩:=a7w' (K:=K) hy
  rw[e];exact hc j h1 h2
 have dB:∀{i:Nat} {c:Nat},(∀j,i≤j→j<b.size→c≤R K b j)→∀y∈b.toList.drop i,c≤K y:=fun hc y hy=>by
  obtain⟨j,h1,h2,e⟩:=a7w' (K:=K) hy
  rw[e];exact hc j h1 h2
 have hlb:∀{i:Nat} (hi:i<b.size),R K b i<R K a (a.size-1):=fun hi=>by rw[hB hi];exact hl _ (by simp)
 have m0:MI K (a.toList++b.toList) #[b[0]].toList (a.toList.drop 0) (b.toList.drop 1):=by
  have m:MI K (a.toList++b.toList) (#[]:Array Keyed).toList (a.toList.drop 0) (b.toList.drop 0):=⟨.refl _,.nil,sa,sb,fun x hx=>by simp at hx,fun x hx=>by simp at hx⟩
  exact mi_b m (by lia) (dA fun j h1 h2=>by rw[←hB];have:=lA (i:=0) (j:=j) (by lia) h2;lia)
 have kg:∀g,kindOf (a0B' st g)=κ:=fun g=>hk
 have gg:∀g g',a0B' (a0B' st g) g'=a0B' st g':=fun _ _=>rfl
 refine Zq (wpS_lift (wpAny_rule ⟨rfl,?_⟩))
 refine Zq (a0m' (by lia) ?_)
 dsimp only
 by_cases e1:1=b.size
 ·rw[if_pos (by simpa using e1)]
  exact Zu (h _ (gallopOf st) (a4p' m0 e1))
 rw[if_neg (by simpa using e1)]
 by_cases e2:0+1=a.size
 ·rw[if_pos (by simpa using e2)]
  exact Zu (h _ (gallopOf st) (a4q' hl m0 e2))
 rw[if_neg (by simpa using e2)]
 refine Zq (wpS_get ?_)
 refine Zq (wpS_mono (Ye (I:=fun x c st'=>(∃g,st'=a0B' st g)∧∃out ia ib mg,c=(none,out,ia,ib,mg)∧ML K a b out ia ib∧x≤ia+ib)
  (Q:=fun c st'=>(∃g,st'=a0B' st g)∧∃r c',c=(some r,c')∧Good K (a.toList++b.toList) r) ?_ ?_ ⟨⟨gallopOf st,rfl⟩,_,_,_,_,rfl,⟨m0,by lia,by lia⟩,by lia⟩) ?_)
 case _=>
  rintro x c st' _ hx ⟨⟨g,rfl⟩,out,ia,ib,mg,rfl,m,hp⟩
  dsimp only
  refine Zq (wpS_mono (Ye (I:=fun y c st'=>st'=a0B' st g∧∃out ia' ib' ac bc,c=(none,out,ia',ib',ac,bc)∧ML K a b out ia' ib'∧ia+ib+y≤ia'+ib')
   (Q:=fun c st'=>st'=a0B' st g∧((∃r c',c=(some r,c')∧Good K (a.toList++b.toList) r)∨∃out ia' ib' ac bc,c=(none,out,ia',ib',ac,bc)∧ML K a b out ia' ib'∧ia+ib+1≤ia'+ib')) ?_ ?_ ⟨rfl,_,_,_,_,_,rfl,m,by lia⟩) ?_)
  ·rintro y c st' _ hy ⟨rfl,out,ia',ib',ac,bc,rfl,m,hp'⟩
   have la:=m.la
   have lb:=m.lb
   dsimp only
   refine Zq (a0m' lb ?_)
   refine Zq (a0m' (by lia) ?_)
   refine Zq (b0f' C (pB lb) (pA (by lia)) (kg g) ?_)
   by_cases hw:K b[ib']<K a[ia']
   ·rw[ZK hw]
    refine Zq (a0m' lb ?_)
    have m':=mi_b m.mi lb (dA fun j h1 h2=>by have:=lA h1 h2;rw[hA (show ia'<a.size by lia)]at this;lia)
    by_cases e:ib'+1=b.size
    ·rw[if_pos (by simpa using e)]
     exact Zu ⟨rfl,.inl ⟨_,_,rfl,a4p' m' e⟩⟩
    ·rw[if_neg (by simpa using e)]
     by_cases hg:bc+1≥mg
     ·rw[if_pos hg];exact Zu ⟨rfl,.inr ⟨_,_,_,_,_,rfl,⟨m',la,by lia⟩,by lia⟩⟩
     ·rw[if_neg hg];exact Zu ⟨rfl,_,_,_,_,_,rfl,⟨m',la,by lia⟩,by lia⟩
   ·rw[ZC hw]
    refine Zq (a0m' (by lia) ?_)
    have m':=mi_a m.mi (show ia'<a.size by lia) (dB fun j h1 h2=>by have:=lB h1 h2;rw[hB lb]at this;lia)
    by_cases e:ia'+1+1=a.size
    ·rw[if_pos (by simpa using e)]
     exact Zu ⟨rfl,.inl ⟨_,_,rfl,a4q' hl m' e⟩⟩
    ·rw[if_neg (by simpa using e)]
     by_cases hg:ac+1≥mg
     ·rw[if_pos hg];exact Zu ⟨rfl,.inr ⟨_,_,_,_,_,rfl,⟨m',by lia,lb⟩,by lia⟩⟩
     ·rw[if_neg hg];exact Zu ⟨rfl,_,_,_,_,_,rfl,⟨m',by lia,lb⟩,by lia⟩
  ·rintro c st' ⟨rfl,out,ia',ib',ac,bc,rfl,m,hp'⟩
   have la:=m.la
   have lb:=m.lb
   exfalso;lia
  ·rintro c st' ⟨rfl,⟨r,c',rfl,gd⟩| ⟨out,ia',ib',ac,bc,rfl,m,hp'⟩⟩
   ·exact Zu ⟨⟨g,rfl⟩,r,_,rfl,gd⟩
   ·refine Zq (wpS_lift (wpAny_rule ⟨rfl,?_⟩))
    refine Zq (wpS_mono (Ye (I:=fun y=>YG K a b st (ia'+ib'+y)) (Q:=DG K a b st (ia'+ib')) ?_ ?_ ⟨⟨g,rfl⟩,_,_,_,_,_,_,rfl,m,by dsimp only;lia⟩) ?_)
    ·rintro y c st' _ hy ⟨⟨g1,rfl⟩,out,ja,jb,mg1,ac1,bc1,rfl,m,hq⟩
     have la:=m.la
     have lb:=m.lb
     dsimp only
     show wpS (model prog w) A E s _ (Post (DG K a b st (ia'+ib')) (YG K a b st (ia'+ib'+(y+1)))) (a0B' st g1)
     generalize mg1-1=q
     revert q
     refine sel0 (p:=fun m=>wpS (model prog w) A E s m (Post (DG K a b st (ia'+ib')) (YG K a b st (ia'+ib'+(y+1)))) (a0B' st g1)) fun mg2=>?_
     refine Zq (wpS_modify (show wpS _ _ _ _ _ _ (a0B' st mg2)from ?_))
     refine Zq (a0m' lb ?_)
     refine Zq (a1z' C ha (pB lb) (kg mg2) (by lia) (by lia) (fun i j h1 h2=>lA (by lia) (by lia)) fun k k1 k2 k3=>?_)
     have t1:thr K false b[jb]=R K b jb+1:=by rw[hB lb];rfl
     rw[t1]at k2 k3
     have kn:k<a.size-ja:=by
      rcases Nat.lt_or_ge k (a.size-ja)with z|z
      ·exact z
      ·have h1:=k2 (a.size-ja-1) (by lia)
       have e:=hlb lb
       rw[show ja+(a.size-ja-1)=a.size-1 by lia]at h1
       lia
     have z0:∀j,ja+k≤j→j<a.size→R K b jb≤R K a j:=fun j h1 h2=>by
      have:=k3 (j-ja) (by lia) (by lia)
      rw[show ja+(j-ja)=j by lia]at this
      lia
     have mk:=mi_as m.mi (k:=k) fun i hi y hy=>by
      have h1:=k2 i hi
      have:=dB (i:=jb) (c:=R K b jb) (fun j h1 h2=>lB h1 h2) y hy
      lia
     dsimp only
     have H1:MI K (a.toList++b.toList) (out++a.extract ja (ja+k)).toList (a.toList.drop (ja+k)) (b.toList.drop jb)∧ja≤ja+k∧ja+k<a.size∧∀j,ja+k≤j→j<a.size→R K b jb≤R K a j:=⟨mk,by lia,by lia,z0⟩
     have c0:¬k>0→ML K a b out ja jb∧ia'+ib'+y≤ja+jb∧∀i,ja≤i→i<a.size→R K b jb≤R K a i:=fun hk0=>⟨m,hq,fun j h1 h2=>z0 j (by lia) h2⟩
     revert H1
     generalize ja+k=ja1
     generalize out++a.extract ja ja1=out1
     revert out1 ja1
     refine sel2 (p:=fun m=>wpS (model prog w) A E s m (Post (DG K a b st (ia'+ib')) (YG K a b st (ia'+ib'+(y+1)))) (a0B' st mg2)) (C:=fun o j=>ML K a b o j jb∧ia'+ib'+y≤j+jb∧∀i,j≤i→i<a.size→R K b jb≤R K a i) (H:=fun o j=>MI K (a.toList++b.toList) o.toList (a.toList.drop j) (b.toList.drop jb)∧ja≤j∧j<a.size∧∀i,j≤i→i<a.size→R K b jb≤R K a i) (fun out ja hC=>?_) c0 (fun o j hH e=>?_) (fun o j hH e=>?_) (fun o j hH e=>?_)
     rotate_left
     ·exact Zu ⟨⟨mg2,rfl⟩,.inl ⟨_,_,rfl,a4q' hl hH.1 (by simpa using e)⟩⟩
     ·have:=hH.2.2.1;simp;lia
     ·exact⟨⟨hH.1,by have:=hH.2.2.1;simp at e;lia,lb⟩,by have:=hH.2.1;lia,hH.2.2.2⟩
     clear mk z0 kn k2 k3 hq m
     obtain⟨m,hq,hge⟩:=hC
     have la:=m.la
     refine Zq (a0m' lb ?_)
     have m':=mi_b m.mi lb (dA fun j h1 h2=>by rw[←hB lb];exact hge j h1 h2)
     by_cases e:jb+1=b.size
     ·rw[if_pos (by simpa using e)]
      exact Zu ⟨⟨mg2,rfl⟩,.inl ⟨_,_,rfl,a4p' m' e⟩⟩
     rw[if_neg (by simpa using e)]
     refine Zq (a0m' (show ja<a.size by lia) ?_)
     refine Zq (a1z' C hb (pA (show ja<a.size by lia)) (kg mg2) (by lia) (by lia) (fun i j h1 h2=>lB (by lia) (by lia)) fun k' k1' k2' k3'=>?_)
     have t2:thr K true a[ja]=R K a ja:=by rw[hA (show ja<a.size by lia)];rfl
     rw[t2]at k2' k3'
     have z1:∀j,jb+1+k'≤j→j<b.size→R K a ja≤R K b j:=fun j h1 h2=>by
      have:=k3' (j-(jb+1)) (by lia) (by lia)
      rwa [show jb+1+(j-(jb+1))=j by lia]at this
     have mk:=mi_bs m' (k:=k') fun i hi y hy=>by
      have h1:=k2' i hi
      have:=dA (i:=ja) (c:=R K a ja) (fun j h1 h2=>lA h1 h2) y hy
      lia
     dsimp only
     have H2:MI K (a.toList++b.toList) (out.push b[jb]++b.extract (jb+1) (jb+1+k')).toList (a.toList.drop ja) (b.toList.drop (jb+1+k'))∧jb+1+k'≤b.size∧jb+1≤jb+1+k'∧∀j,jb+1+k'≤j→j<b.size→R K a ja≤R K b j:=⟨mk,by lia,by lia,z1⟩
     have c0:¬k'>0→MI K (a.toList++b.toList) (out.push b[jb]).toList (a.toList.drop ja) (b.toList.drop (jb+1))∧jb+1<b.size∧jb+1≤jb+1∧∀i,jb+1≤i→i<b.size→R K a ja≤R K b i:=fun hk0=>⟨m',by lia,by lia,fun j h1 h2=>z1 j (by lia) h2⟩
     revert H2
     generalize jb+1+k'=jb1
     generalize out.push b[jb]++b.extract (jb+1) jb1=out1
     revert out1 jb1
     refine sel1 (p:=fun m=>wpS (model prog w) A E s m (Post (DG K a b st (ia'+ib')) (YG K a b st (ia'+ib'+(y+1)))) (a0B' st mg2)) (C:=fun o j=>MI K (a.toList++b.toList) o.toList (a.toList.drop ja) (b.toList.drop j)∧j<b.size∧jb+1≤j∧∀i,j≤i→i<b.size→R K a ja≤R K b i) (H:=fun o j=>MI K (a.toList++b.toList) o.toList (a.toList.drop ja) (b.toList.drop j)∧j≤b.size∧jb+1≤j∧∀i,j≤i→i<b.size→R K a ja≤R K b i) (fun out jb' hC=>?_) c0 (fun o j hH e'=>?_) (fun o j hH e'=>?_)
     rotate_left
     ·exact Zu ⟨⟨mg2,rfl⟩,.inl ⟨_,_,rfl,a4p' hH.1 (by simpa using e')⟩⟩
     ·exact⟨hH.1,by have:=hH.2.1;simp at e';lia,hH.2.2.1,hH.2.2.2⟩
     obtain⟨m2,hb',hq',hge'⟩:=hC
     refine Zq (a0m' (show ja<a.size by lia) ?_)
     have m3:=mi_a m2 (show ja<a.size by lia) (dB fun j h1 h2=>by rw[←hA (show ja<a.size by lia)];exact hge' j h1 h2)
     by_cases e:ja+1+1=a.size
     ·rw[if_pos (by simpa using e)]
      exact Zu ⟨⟨mg2,rfl⟩,.inl ⟨_,_,rfl,a4q' hl m3 e⟩⟩
     rw[if_neg (by simpa using e)]
     by_cases hg:(decide (k<7)&&decide (k'<7))=true
     ·rw[if_pos hg]
      exact Zu ⟨⟨mg2,rfl⟩,.inr ⟨_,_,_,_,_,_,rfl,⟨m3,by lia,hb'⟩,by lia⟩⟩
     ·rw[if_neg hg]
      exact Zu ⟨⟨mg2,rfl⟩,_,_,_,_,_,_,rfl,⟨m3,by lia,hb'⟩,by lia⟩
    ·rintro c st' ⟨⟨g1,rfl⟩,out,ja,jb,mg1,ac1,bc1,rfl,m,hq⟩
     have la:=m.la
     have lb:=m.lb
     exfalso;lia
    ·rintro c st' ⟨⟨g1,rfl⟩,⟨r,c',rfl,gd⟩| ⟨out,ja,jb,mg1,ac1,bc1,rfl,m,hq⟩⟩
     ·exact Zu ⟨⟨g1,rfl⟩,r,_,rfl,gd⟩
     ·refine Zq (wpS_modify (?_:wpS _ _ _ _ _ _ (a0B' st (mg1+1))))
      exact Zu ⟨⟨_,rfl⟩,_,_,_,_,rfl,m,by dsimp only;lia⟩
 case _=>
  rintro c st' ⟨⟨g,rfl⟩,out,ia,ib,mg,rfl,m,hp⟩
  have la:=m.la
  have lb:=m.lb
  exfalso;lia
 case _=>
  rintro c st' ⟨⟨g,rfl⟩,r,c',rfl,gd⟩
  exact Zu (h r g gd)
end
end Srt
end
section
set_option autoImplicit false
namespace Srt
open PySem PyProof.Rows
section
variable {K:Keyed→Nat}
structure MH (K:Keyed→Nat)(tot ra rb o:List Keyed):Prop where
 perm:(ra++rb++o).Perm tot
 sa:LS K ra
 sb:LS K rb
 so:LS K o
 ao:∀x∈ra,∀y∈o,K x≤K y
 bo:∀x∈rb,∀y∈o,K x≤K y
variable {tot o ra rb c:List Keyed}
theorem MH.stepA(h:MH K tot (ra++c) rb o)(hc:∀x∈rb,∀y∈c,K x≤K y):MH K tot ra rb (c++o):=by
 have sa:=ZO.mp h.sa
 refine⟨?_,sa.1,h.sb,ZO.mpr ⟨sa.2.1,h.so,fun x hx y hy=>h.ao x (ZE _ hx) y hy⟩,fun x hx y hy=>?_,fun x hx y hy=>?_⟩
 ·refine List.Perm.trans ?_ h.perm
  rw[Zm,Zm,Zm]
  refine List.Perm.append_left _ ?_
  rw[←Zm,←Zm]
  exact List.Perm.append_right _ List.perm_append_comm
 ·rcases ZA.mp hy with z|z
  ·exact sa.2.2 x hx y z
  ·exact h.ao x (Z7 _ hx) y z
 ·rcases ZA.mp hy with z|z
  ·exact hc x hx y z
  ·exact h.bo x hx y z
theorem MH.stepB(h:MH K tot ra (rb++c) o)(hc:∀x∈ra,∀y∈c,K x≤K y):MH K tot ra rb (c++o):=by
 have sb:=ZO.mp h.sb
 refine⟨?_,h.sa,sb.1,ZO.mpr ⟨sb.2.1,h.so,fun x hx y hy=>h.bo x (ZE _ hx) y hy⟩,fun x hx y hy=>?_,fun x hx y hy=>?_⟩
 ·have:=h.perm
  rw[←Zm,Zm (ra++rb)]at this
  exact this
 ·rcases ZA.mp hy with z|z
  ·exact hc x hx y z
  ·exact h.ao x hx y z
 ·rcases ZA.mp hy with z|z
  ·exact sb.2.2 x hx y z
  ·exact h.bo x (Z7 _ hx) y z
theorem a8k'{a:Array Keyed}{i:Nat}(h:i<a.size):a.toList.take (i+1)=a.toList.take i++[a[i]]:=by
 rw[List.take_succ,Zg (by simpa using h)]
 rfl
theorem a8l'{a:Array Keyed}{i j:Nat}(h:i≤j):a.toList.take j=a.toList.take i++(a.extract i j).toList:=by
 rw[Array.toList_extract]
 unfold List.extract
 rw[←List.take_add,show i+(j-i)=j by lia]
theorem a5O'{a:Array Keyed}{j:Nat}:(a.extract 0 j).toList=a.toList.take j:=by
 rw[Array.toList_extract]
 unfold List.extract
 simp
theorem a7x'{a:Array Keyed}{i:Nat}{x:Keyed}(h:x∈a.toList.take i):∃j,j<i∧j<a.size∧K x=R K a j:=by
 obtain⟨j,hj,rfl⟩:=ZP.mp h
 simp only[Z3,ZD]at hj
 refine⟨j,by lia,by lia,?_⟩
 rw[R_of (show j<a.size by lia)]
 simp
theorem b0h'{a:Array Keyed}{i j:Nat}{x:Keyed}(h:x∈(a.extract i j).toList):∃n,i≤n∧n<j∧n<a.size∧K x=R K a n:=by
 rw[Array.toList_extract]at h
 unfold List.extract at h
 obtain⟨n,h1,h2,e⟩:=a2i' (K:=K) h
 exact⟨i+n,by lia,by lia,h2,e⟩
end
section
variable {prog:Program}{w:World}{A:Around}{E:Value→Shared→Prop}{s:Shared}{st:SortSt}{κ:SortKind}{P:Keyed→Prop}{K:Keyed→Nat}
abbrev MT(K:Keyed→Nat)(a b out:Array Keyed)(na nb:Nat):Prop:=MH K (a.toList++b.toList) (a.toList.take na) (b.toList.take nb) out.toList.reverse
structure MR (K:Keyed→Nat)(a b out:Array Keyed)(na nb:Nat):Prop where
 mt:MT K a b out na nb
 la:1≤na
 lb:2≤nb
 za:na≤a.size
 zb:nb≤b.size
variable {a b out:Array Keyed}{na nb:Nat}
theorem a3h'(h:MT K a b out na nb)(e:na=0):Good K (a.toList++b.toList) (a.extract 0 na++b.extract 0 nb++out.reverse):=by
 unfold Good
 rw[ZX,ZX,a5O',a5O',Array.toList_reverse]
 refine⟨h.perm,?_⟩
 subst e
 rw[List.take_zero,Z1]
 exact ZO.mpr ⟨h.sb,h.so,h.bo⟩
theorem a3i'(h0:∀y∈a.toList,R K b 0≤K y)(h:MT K a b out na nb)(e:nb=1):Good K (a.toList++b.toList) (b.extract 0 nb++a.extract 0 na++out.reverse):=by
 unfold Good
 rw[ZX,ZX,a5O',a5O',Array.toList_reverse]
 refine⟨List.Perm.trans (List.Perm.append_right _ List.perm_append_comm) h.perm,ZO.mpr ⟨ZO.mpr ⟨h.sb,h.sa,fun x hx y hy=>?_⟩,h.so,fun x hx y hy=>?_⟩⟩
 ·obtain⟨j,h1,h2,e2⟩:=a7x' (K:=K) hx
  rw[e2,show j=0 by lia]
  exact h0 y (List.mem_of_mem_take hy)
 ·rcases ZA.mp hx with z|z
  ·exact h.bo x z y hy
  ·exact h.ao x z y hy
theorem mt_a(h:MT K a b out (na+1) nb)(hi:na<a.size)(hc:∀x∈b.toList.take nb,K x≤R K a na):MT K a b (out.push a[na]) na nb:=by
 unfold MT at h⊢
 rw[Array.toList_push,List.reverse_append]
 rw[a8k' hi]at h
 exact h.stepA fun x hx y hy=>by rw[Z0.mp hy,←R_of (K:=K) hi];exact hc x hx
theorem mt_b(h:MT K a b out na (nb+1))(hi:nb<b.size)(hc:∀x∈a.toList.take na,K x≤R K b nb):MT K a b (out.push b[nb]) na nb:=by
 unfold MT at h⊢
 rw[Array.toList_push,List.reverse_append]
 rw[a8k' hi]at h
 exact h.stepB fun x hx y hy=>by rw[Z0.mp hy,←R_of (K:=K) hi];exact hc x hx
theorem mt_as{t:Nat}(h:MT K a b out na nb)(ht:t≤na)(hc:∀i,t≤i→i<na→i<a.size→∀x∈b.toList.take nb,K x≤R K a i):MT K a b (out++(a.extract t na).reverse) t nb:=by
 unfold MT at h⊢
 rw[ZX,Array.toList_reverse,List.reverse_append,List.reverse_reverse]
 rw[a8l' ht]at h
 exact h.stepA fun x hx y hy=>by
  obtain⟨n,h1,h2,h3,e⟩:=b0h' (K:=K) hy
  rw[e];exact hc n h1 h2 h3 x hx
theorem mt_bs{t:Nat}(h:MT K a b out na nb)(ht:t≤nb)(hc:∀i,t≤i→i<nb→i<b.size→∀x∈a.toList.take na,K x≤R K b i):MT K a b (out++(b.extract t nb).reverse) na t:=by
 unfold MT at h⊢
 rw[ZX,Array.toList_reverse,List.reverse_append,List.reverse_reverse]
 rw[a8l' ht]at h
 exact h.stepB fun x hx y hy=>by
  obtain⟨n,h1,h2,h3,e⟩:=b0h' (K:=K) hy
  rw[e];exact hc n h1 h2 h3 x hx
abbrev GH7:=Option (Array Keyed)×Nat×Nat×Array Keyed×Nat×Nat×Nat
def YH(K:Keyed→Nat)(a b:Array Keyed)(st:SortSt)(n:Nat)(c:GH7)(st':SortSt):Prop:=(∃g,st'=a0B' st g)∧∃out ja jb mg ac bc,c=(none,ja,jb,out,mg,ac,bc)∧MR K a b out ja jb∧n+ja+jb≤a.size+b.size
def DH(K:Keyed→Nat)(a b:Array Keyed)(st:SortSt)(n:Nat)(c:GH7)(st':SortSt):Prop:=(∃g,st'=a0B' st g)∧((∃r c',c=(some r,c')∧Good K (a.toList++b.toList) r)∨∃out ja jb mg ac bc,c=(none,ja,jb,out,mg,ac,bc)∧MR K a b out ja jb∧n+ja+jb≤a.size+b.size)
theorem a8S'(C:Cmp prog w A s κ P K)(hk:kindOf st=κ)(ha:∀x∈a.toList,P x)(hb:∀x∈b.toList,P x)(sa:LS K a.toList)(sb:LS K b.toList)(a1:1≤a.size)(b1:1≤b.size)
  (h0:R K b 0<R K a 0) (hl:∀y∈b.toList,K y<R K a (a.size-1)) {Q:Array Keyed→SortSt→Prop} (h:∀r g,Good K (a.toList++b.toList) r→Q r (a0B' st g)):wpS (model prog w) A E s (b4f' a b) Q st:=by
 have hB:∀{i:Nat} (hi:i<b.size),R K b i=K b[i]:=fun hi=>R_of hi
 have hA:∀{i:Nat} (hi:i<a.size),R K a i=K a[i]:=fun hi=>R_of hi
 have pA:∀{i:Nat} (hi:i<a.size),P a[i]:=fun hi=>ha _ (by simp)
 have pB:∀{i:Nat} (hi:i<b.size),P b[i]:=fun hi=>hb _ (by simp)
 have lA:∀{i j:Nat},i≤j→j<a.size→R K a i≤R K a j:=fun h1 h2=>sa.mono h1 h2
 have lB:∀{i j:Nat},i≤j→j<b.size→R K b i≤R K b j:=fun h1 h2=>sb.mono h1 h2
 have dA:∀{i:Nat} {c:Nat},(∀j,j<i→j<a.size→R K a j≤c)→∀y∈a.toList.take i,K y≤c:=fun hc y hy=>by
  obtain⟨j,h1,h2,e⟩:=a7x' (K:=K) hy
  rw[e];exact hc j h1 h2
 have dB:∀{i:Nat} {c:Nat},(∀j,j<i→j<b.size→R K b j≤c)→∀y∈b.toList.take i,K y≤c:=fun hc y hy=>by
  obtain⟨j,h1,h2,e⟩:=a7x' (K:=K) hy
  rw[e];exact hc j h1 h2
 have hf:∀y∈a.toList,R K b 0≤K y:=fun y hy=>by
  obtain⟨j,hj,rfl⟩:=ZP.mp hy
  have hj':j<a.size:=by simpa using hj
  have:=lA (i:=0) (j:=j) (by lia) hj'
  rw[hA hj']at this
  have e:a.toList[j]=a[j]:=by simp
  rw[e];lia
 obtain⟨na0,hna⟩:∃n,a.size=n+1:=⟨a.size-1,by lia⟩
 have ea:a.size-1=na0:=by lia
 have m0:MT K a b #[a[na0]] na0 b.size:=by
  have m:MT K a b #[] (na0+1) b.size:=by
   refine⟨?_,?_,?_,.nil,fun _ _ y hy=>by simp at hy,fun _ _ y hy=>by simp at hy⟩
   ·rw[Yb (by simp;lia),Yb (by simp)]
    simp
   ·rw[Yb (by simp;lia)];exact sa
   ·rw[Yb (by simp)];exact sb
  exact mt_a m (by lia) (dB fun j h1 h2=>by have:=hl b[j] (by simp);rw[hB h2];rw[ea]at this;lia)
 have kg:∀g,kindOf (a0B' st g)=κ:=fun g=>hk
 refine Zq (wpS_lift (wpAny_rule ⟨rfl,?_⟩))
 refine Zq (a0m' (by lia) ?_)
 simp only[ea]
 by_cases e1:na0=0
 ·rw[if_pos (by simpa using e1)]
  exact Zu (h _ (gallopOf st) (a3h' m0 e1))
 rw[if_neg (by simpa using e1)]
 by_cases e2:b.size=1
 ·rw[if_pos (by simpa using e2)]
  exact Zu (h _ (gallopOf st) (a3i' hf m0 e2))
 rw[if_neg (by simpa using e2)]
 refine Zq (wpS_get ?_)
 refine Zq (wpS_mono (Ye (I:=fun x c st'=>(∃g,st'=a0B' st g)∧∃out na nb mg,c=(none,na,nb,out,mg)∧MR K a b out na nb∧x+na+nb≤a.size+b.size)
  (Q:=fun c st'=>(∃g,st'=a0B' st g)∧∃r c',c=(some r,c')∧Good K (a.toList++b.toList) r) ?_ ?_ ⟨⟨gallopOf st,rfl⟩, #[a[na0]],na0,b.size,_,rfl,⟨m0,by lia,by lia,by lia,Zl _⟩,(by lia:0+na0+b.size≤a.size+b.size)⟩) ?_)
 case _=>
  rintro x c st' _ hx ⟨⟨g,rfl⟩,out,na,nb,mg,rfl,m,hp⟩
  dsimp only
  refine Zq (wpS_mono (Ye (I:=fun y c st'=>st'=a0B' st g∧∃out na' nb' ac bc,c=(none,na',nb',out,ac,bc)∧MR K a b out na' nb'∧y+na'+nb'≤na+nb)
   (Q:=fun c st'=>st'=a0B' st g∧((∃r c',c=(some r,c')∧Good K (a.toList++b.toList) r)∨∃out na' nb' ac bc,c=(none,na',nb',out,ac,bc)∧MR K a b out na' nb'∧1+na'+nb'≤na+nb)) ?_ ?_ ⟨rfl,_,_,_,_,_,rfl,m,by lia⟩) ?_)
  ·rintro y c st' _ hy ⟨rfl,out,na',nb',ac,bc,rfl,m,hp'⟩
   obtain⟨i,rfl⟩:∃i,na'=i+1:=⟨na'-1,by have:=m.la;lia⟩
   obtain⟨j,rfl⟩:∃j,nb'=j+1:=⟨nb'-1,by have:=m.lb;lia⟩
   have lb:=m.lb
   have za:=m.za
   have zb:=m.zb
   dsimp only
   simp only[Nat.add_sub_cancel]
   refine Zq (a0m' (show j<b.size by lia) ?_)
   refine Zq (a0m' (show i<a.size by lia) ?_)
   refine Zq (b0f' C (pB (by lia)) (pA (by lia)) (kg g) ?_)
   rw[←hA (show i<a.size by lia),←hB (show j<b.size by lia)]
   by_cases hw:R K b j<R K a i
   ·rw[ZK hw]
    refine Zq (a0m' (show i<a.size by lia) ?_)
    have m':=mt_a m.mt (by lia) (dB fun n h1 h2=>by have:=lB (show n≤j by lia) (by lia);lia)
    by_cases e:i=0
    ·rw[if_pos (by simpa using e)]
     exact Zu ⟨rfl,.inl ⟨_,_,rfl,a3h' m' e⟩⟩
    ·rw[if_neg (by simpa using e)]
     by_cases hg:ac+1≥mg
     ·rw[if_pos hg];exact Zu ⟨rfl,.inr ⟨_,_,_,_,_,rfl,⟨m',by lia,lb,by lia,zb⟩,by lia⟩⟩
     ·rw[if_neg hg];exact Zu ⟨rfl,_,_,_,_,_,rfl,⟨m',by lia,lb,by lia,zb⟩,by lia⟩
   ·rw[ZC hw]
    refine Zq (a0m' (show j<b.size by lia) ?_)
    have m':=mt_b m.mt (by lia) (dA fun n h1 h2=>by have:=lA (show n≤i by lia) (by lia);lia)
    by_cases e:j=1
    ·rw[if_pos (by simpa using e)]
     exact Zu ⟨rfl,.inl ⟨_,_,rfl,a3i' hf m' e⟩⟩
    ·rw[if_neg (by simpa using e)]
     by_cases hg:bc+1≥mg
     ·rw[if_pos hg];exact Zu ⟨rfl,.inr ⟨_,_,_,_,_,rfl,⟨m',by lia,by lia,za,by lia⟩,by lia⟩⟩
     ·rw[if_neg hg];exact Zu ⟨rfl,_,_,_,_,_,rfl,⟨m',by lia,by lia,za,by lia⟩,by lia⟩
  ·rintro c st' ⟨rfl,out,na',nb',ac,bc,rfl,m,hp'⟩
   have la:=m.la
   have lb:=m.lb
   exfalso;lia
  ·rintro c st' ⟨rfl,⟨r,c',rfl,gd⟩| ⟨out,na',nb',ac,bc,rfl,m,hp'⟩⟩
   ·exact Zu ⟨⟨g,rfl⟩,r,_,rfl,gd⟩
   ·refine Zq (wpS_lift (wpAny_rule ⟨rfl,?_⟩))
    refine Zq (wpS_mono (Ye (I:=fun y=>YH K a b st (x+1+y)) (Q:=DH K a b st (x+1)) ?_ ?_ ⟨⟨g,rfl⟩,_,_,_,_,_,_,rfl,m,by dsimp only;lia⟩) ?_)
    ·rintro y c st' _ hy ⟨⟨g1,rfl⟩,out,ja,jb,mg1,ac1,bc1,rfl,m,hq⟩
     have la:=m.la
     have za:=m.za
     have zb:=m.zb
     obtain⟨j,rfl⟩:∃j,jb=j+1:=⟨jb-1,by have:=m.lb;lia⟩
     have lb:=m.lb
     dsimp only
     simp only[Nat.add_sub_cancel]
     show wpS (model prog w) A E s _ (Post (DH K a b st (x+1)) (YH K a b st (x+1+(y+1)))) (a0B' st g1)
     generalize mg1-1=q
     revert q
     refine sel0 (p:=fun m=>wpS (model prog w) A E s m (Post (DH K a b st (x+1)) (YH K a b st (x+1+(y+1)))) (a0B' st g1)) fun mg2=>?_
     refine Zq (wpS_modify (show wpS _ _ _ _ _ _ (a0B' st mg2)from ?_))
     refine Zq (a0m' (show j<b.size by lia) ?_)
     refine Zq (a1z' C ha (pB (show j<b.size by lia)) (kg mg2) (by lia) (by lia) (fun i j h1 h2=>lA (by lia) (by lia)) fun t k1 k2 k3=>?_)
     simp only[Nat.zero_add]at k2 k3
     have t1:thr K false b[j]=R K b j+1:=by rw[hB (show j<b.size by lia)];rfl
     rw[t1]at k2 k3
     have mk:=mt_as m.mt k1 fun i h1 h2 h3=>dB fun n h4 h5=>by
      have:=k3 i h1 h2
      have:=lB (show n≤j by lia) (by lia)
      lia
     dsimp only
     have H1:MT K a b (out++(a.extract t ja).reverse) t (j+1)∧t≤ja∧∀i,i<t→R K a i≤R K b j:=⟨mk,k1,fun i hi=>by have:=k2 i hi;lia⟩
     generalize hkk:ja-t=k
     have c0:¬k>0→MR K a b out ja (j+1)∧x+1+y+ja+(j+1)≤a.size+b.size∧∀i,i<ja→R K a i≤R K b j:=fun hk0=>⟨m,hq,fun i hi=>by have:=k2 i (by lia);lia⟩
     revert H1
     generalize out++(a.extract t ja).reverse=out1
     generalize t=na1
     revert out1
     revert na1
     refine sel1 (p:=fun m=>wpS (model prog w) A E s m (Post (DH K a b st (x+1)) (YH K a b st (x+1+(y+1)))) (a0B' st mg2)) (C:=fun o i=>MR K a b o i (j+1)∧x+1+y+i+(j+1)≤a.size+b.size∧∀n,n<i→R K a n≤R K b j) (H:=fun o i=>MT K a b o i (j+1)∧i≤ja∧∀n,n<i→R K a n≤R K b j) (fun out ja hC=>?_) c0 (fun o i hH e=>?_) (fun o i hH e=>?_)
     rotate_left
     ·exact Zu ⟨⟨mg2,rfl⟩,.inl ⟨_,_,rfl,a3h' hH.1 (by simpa using e)⟩⟩
     ·exact⟨⟨hH.1,by simp at e;lia,lb,by have:=hH.2.1;lia,zb⟩,by have:=hH.2.1;lia,hH.2.2⟩
     clear mk k1 k2 k3 hq m hkk c0 la za
     obtain⟨m,hq,hge⟩:=hC
     obtain⟨i,rfl⟩:∃i,ja=i+1:=⟨ja-1,by have:=m.la;lia⟩
     have za:=m.za
     simp only[Nat.add_sub_cancel]
     refine Zq (a0m' (show j<b.size by lia) ?_)
     have m':=mt_b m.mt (by lia) (dA fun n h1 h2=>hge n h1)
     by_cases e:j=1
     ·rw[if_pos (by simpa using e)]
      exact Zu ⟨⟨mg2,rfl⟩,.inl ⟨_,_,rfl,a3i' hf m' e⟩⟩
     rw[if_neg (by simpa using e)]
     refine Zq (a0m' (show i<a.size by lia) ?_)
     refine Zq (a1z' C hb (pA (show i<a.size by lia)) (kg mg2) (by lia) (by lia) (fun i j h1 h2=>lB (by lia) (by lia)) fun t' k1' k2' k3'=>?_)
     simp only[Nat.zero_add]at k2' k3'
     have t2:thr K true a[i]=R K a i:=by rw[hA (show i<a.size by lia)];rfl
     rw[t2]at k2' k3'
     have t0:1≤t':=by
      rcases Nat.eq_zero_or_pos t' with z|z
      ·have h1:=k3' 0 (by lia) (by lia)
       have h2:=lA (show 0≤i by lia) (by lia)
       lia
      ·exact z
     have mk:=mt_bs m' k1' fun n h1 h2 h3=>dA fun l h4 h5=>by
      have:=k3' n h1 h2
      have:=lA (show l≤i by lia) (by lia)
      lia
     dsimp only
     have H2:MT K a b (out.push b[j]++(b.extract t' j).reverse) (i+1) t'∧1≤t'∧t'≤j∧∀n,n<t'→R K b n≤R K a i:=⟨mk,t0,k1',fun n hn=>by have:=k2' n hn;lia⟩
     generalize hkk':j-t'=k'
     have c0:¬k'>0→MT K a b (out.push b[j]) (i+1) j∧2≤j∧j≤j∧∀n,n<j→R K b n≤R K a i:=fun hk0=>⟨m',by lia,Zl _,fun n hn=>by have:=k2' n (by lia);lia⟩
     revert H2
     generalize out.push b[j]++(b.extract t' j).reverse=out1
     generalize t'=nb1
     revert out1
     revert nb1
     refine sel2 (p:=fun m=>wpS (model prog w) A E s m (Post (DH K a b st (x+1)) (YH K a b st (x+1+(y+1)))) (a0B' st mg2)) (C:=fun o n=>MT K a b o (i+1) n∧2≤n∧n≤j∧∀l,l<n→R K b l≤R K a i) (H:=fun o n=>MT K a b o (i+1) n∧1≤n∧n≤j∧∀l,l<n→R K b l≤R K a i) (fun out jb' hC=>?_) c0 (fun o n hH e'=>?_) (fun o n hH e'=>?_) (fun o n hH e'=>?_)
     rotate_left
     ·exact Zu ⟨⟨mg2,rfl⟩,.inl ⟨_,_,rfl,a3i' hf hH.1 (by simpa using e')⟩⟩
     ·have:=hH.2.1;simp;lia
     ·exact⟨hH.1,by have:=hH.2.1;simp at e';lia,hH.2.2.1,hH.2.2.2⟩
     obtain⟨m2,hb',hq',hge'⟩:=hC
     refine Zq (a0m' (show i<a.size by lia) ?_)
     have m3:=mt_a m2 (show i<a.size by lia) (dB fun n h1 h2=>hge' n h1)
     by_cases e:i=0
     ·rw[if_pos (by simpa using e)]
      exact Zu ⟨⟨mg2,rfl⟩,.inl ⟨_,_,rfl,a3h' m3 e⟩⟩
     rw[if_neg (by simpa using e)]
     by_cases hg:(decide (k<7)&&decide (k'<7))=true
     ·rw[if_pos hg]
      exact Zu ⟨⟨mg2,rfl⟩,.inr ⟨_,_,_,_,_,_,rfl,⟨m3,by lia,hb',by lia,by lia⟩,by lia⟩⟩
     ·rw[if_neg hg]
      exact Zu ⟨⟨mg2,rfl⟩,_,_,_,_,_,_,rfl,⟨m3,by lia,hb',by lia,by lia⟩,by lia⟩
    ·rintro c st' ⟨⟨g1,rfl⟩,out,ja,jb,mg1,ac1,bc1,rfl,m,hq⟩
     have la:=m.la
     have lb:=m.lb
     exfalso;lia
    ·rintro c st' ⟨⟨g1,rfl⟩,⟨r,c',rfl,gd⟩| ⟨out,ja,jb,mg1,ac1,bc1,rfl,m,hq⟩⟩
     ·exact Zu ⟨⟨g1,rfl⟩,r,_,rfl,gd⟩
     ·refine Zq (wpS_modify (?_:wpS _ _ _ _ _ _ (a0B' st (mg1+1))))
      exact Zu ⟨⟨_,rfl⟩,_,_,_,_,rfl,m,by dsimp only;lia⟩
 case _=>
  rintro c st' ⟨⟨g,rfl⟩,out,ia,ib,mg,rfl,m,hp⟩
  have la:=m.la
  have lb:=m.lb
  exfalso;lia
 case _=>
  rintro c st' ⟨⟨g,rfl⟩,r,c',rfl,gd⟩
  exact Zu (h r g gd)
end
end Srt
end
section
set_option autoImplicit false
namespace Srt
open PySem PyProof.Rows
section
variable {prog:Program}{w:World}{A:Around}{E:Value→Shared→Prop}{s:Shared}{st:SortSt}{κ:SortKind}{K:Keyed→Nat}{a0 xs ys:Array Keyed}
theorem a1r'{i j:Nat}(h:xs[i]?=ys[j]?):R K xs i=R K ys j:=by
 have e:∀(zs:Array Keyed) n,zs.getD n dK=(zs[n]?).getD dK:=fun zs n=>by simp
 unfold R;rw[e,e,h]
def SR(K:Keyed→Nat)(xs:Array Keyed)(lo hi:Nat):Prop:=∀i j,lo≤i→i≤j→j<hi→R K xs i≤R K xs j
def Fr(lo hi:Nat)(xs ys:Array Keyed):Prop:=∀i,i<lo∨hi≤i→ys[i]?=xs[i]?
theorem Fr.refl{lo hi:Nat}:Fr lo hi xs xs:=fun _ _=>rfl
theorem Fr.trans{lo hi:Nat}{zs:Array Keyed}(h:Fr lo hi xs ys)(k:Fr lo hi ys zs):Fr lo hi xs zs:=fun i hi=>(k i hi).trans (h i hi)
structure SB (a0:Array Keyed)(κ:SortKind)(st:SortSt):Prop where
 perm:(arrOf st).Perm a0
 failed:failedOf st=none
 kind:kindOf st=κ
theorem SB.size(h:SB a0 κ st):(arrOf st).size=a0.size:=h.perm.size_eq
theorem SB.arr(h:SB a0 κ st)(hp:ys.Perm (arrOf st)):SB a0 κ (setArr st ys):=⟨hp.trans h.perm,h.failed,h.kind⟩
theorem SB.all(h:SB a0 κ st):∀x∈(arrOf st).toList,x∈a0.toList:=fun x hx=>(Array.perm_iff_toList_perm.mp h.perm).mem_iff.mp hx
theorem wpS_T{α:Type}{c:Prop}{d:Decidable c}{x y:StateT SortSt Sem α}{Q:α→SortSt→Prop}(h:c)(k:wpS (model prog w) A E s x Q st):wpS (model prog w) A E s (@ite _ c d x y) Q st:=by rw[if_pos h];exact k
theorem wpS_F{α:Type}{c:Prop}{d:Decidable c}{x y:StateT SortSt Sem α}{Q:α→SortSt→Prop}(h:¬c)(k:wpS (model prog w) A E s y Q st):wpS (model prog w) A E s (@ite _ c d x y) Q st:=by rw[if_neg h];exact k
theorem selD{α:Type}{c:Prop}{d:Decidable c}{T m:StateT SortSt Sem α}{Q:α→SortSt→Prop}{C:Array Keyed→Prop}(key:∀ys,C ys→wpS (model prog w) A E s m Q (setArr st ys))(h1:c→(∀ys,C ys→wpS (model prog w) A E s m Q (setArr st ys))→wpS (model prog w) A E s T Q st)(h2:¬c→C (arrOf st)):wpS (model prog w) A E s (@ite _ c d T m) Q st:=by
 by_cases h:c
 ·rw[if_pos h];exact h1 h key
 ·rw[if_neg h];exact key _ (h2 h)
theorem a4r'(C:Cmp prog w A s κ (· ∈a0.toList) K)(hB:SB a0 κ st){i j:Nat}(hi:i<a0.size)(hj:j<a0.size){Q:Option Bool→SortSt→Prop}(h1:R K (arrOf st) i<R K (arrOf st) j→Q (some true) st)(h2:¬R K (arrOf st) i<R K (arrOf st) j→Q (some false) st):
  wpS (model prog w) A E s (ltAt' i j) Q st:=by
 rw[←hB.size]at hi hj
 rw[ltAt'_eq]
 refine Zq (wpS_get ?_)
 refine Zq (a0m' hi (Zq (a0m' hj ?_)))
 refine b0f' C (hB.all _ (by simp)) (hB.all _ (by simp)) hB.kind ?_
 rw[R_of hi,R_of hj]at h1 h2
 by_cases h:K (arrOf st)[i]<K (arrOf st)[j]
 ·rw[ZK h];exact h1 h
 ·rw[ZC h];exact h2 h
theorem a2R'{i j:Nat}(hj:j≤xs.size)(k:Nat):R K (mirror xs i j ((j-i)/2)) k=if i≤k∧k<j then R K xs (i+j-1-k)else R K xs k:=by
 have h:=getElem?_mirror_all (xs:=xs) (i:=i) hj k
 by_cases c:i≤k∧k<j
 ·rw[if_pos c]at h⊢;exact a1r' h
 ·rw[if_neg c]at h⊢;exact a1r' h
theorem a4s'{lo hi i j:Nat}(hj:j≤xs.size)(h1:lo≤i)(h2:j≤hi):Fr lo hi xs (mirror xs i j ((j-i)/2)):=fun k hk=>by
 rw[getElem?_mirror_all hj,if_neg (by lia)]
theorem a8m'{i j:Nat}{Q:Unit→SortSt→Prop}(h:Q () (setArr st (mirror (arrOf st) i j ((j-i)/2)))):wpS (model prog w) A E s (reverseSlice' i j) Q st:=by
 rw[reverseSlice'_eq]
 exact wpS_modify h
theorem b2F'{lo nrem a:Nat}{f:Nat→AscSt→StateT SortSt Sem (ForInStep AscSt)}(hf:∀x n,1≤n→n<nrem→∀Q':ForInStep AscSt→SortSt→Prop,(R K (arrOf st) (lo+n)<R K (arrOf st) (lo+n-1)→Q' (.done (none,n)) st)→(¬R K (arrOf st) (lo+n)<R K (arrOf st) (lo+n-1)→Q' (.yield (none,n+1)) st)→wpS (model prog w) A E s (f x (none,n)) Q' st)
  (h1:1≤a) (h2:a≤nrem) (hs:SR K (arrOf st) lo (lo+a)) {Q:AscSt→SortSt→Prop} (h:∀n,a≤n→n≤nrem→SR K (arrOf st) lo (lo+n)→(n=nrem∨R K (arrOf st) (lo+n)<R K (arrOf st) (lo+n-1))→Q (none,n) st):
  wpS (model prog w) A E s (forIn [a:nrem] (none,a) f) Q st:=by
 refine Ye (I:=fun x c st'=>st'=st∧c=(none,x)∧x≤nrem∧SR K (arrOf st) lo (lo+x)) ?_ ?_ ⟨rfl,rfl,h2,hs⟩
 ·rintro x c st' hx hx2 ⟨rfl,rfl,_,hs⟩
  refine hf x x (by lia) hx2 _ (fun hw=>h x hx (by lia) hs (.inr hw)) (fun hw=>⟨rfl,rfl,by lia,fun i j k1 k2 k3=>?_⟩)
  by_cases e:j=lo+x
  ·subst e
   by_cases e2:i=lo+x
   ·subst e2;exact Zl _
   ·have:=hs i (lo+x-1) k1 (by lia) (by lia)
    lia
  ·exact hs i j k1 k2 (by lia)
 ·rintro c st' ⟨rfl,rfl,hx,hs⟩
  rw[Nat.max_eq_right h2]at*
  exact h nrem h2 (Zl _) hs (.inl rfl)
theorem a6t'(C:Cmp prog w A s κ (· ∈a0.toList) K)(hB:SB a0 κ st){lo nrem:Nat}(hz:lo+nrem≤a0.size)(h1:1≤nrem){Q:Option Nat→SortSt→Prop}
  (h:∀m ys,ys.Perm (arrOf st)→Fr lo (lo+nrem) (arrOf st) ys→1≤m→m≤nrem→SR K ys lo (lo+m)→Q (some m) (setArr st ys)):wpS (model prog w) A E s (countRun' lo nrem) Q st:=by
 have asc3:∀{st':SortSt},SB a0 κ st'→∀n,1≤n→n<nrem→∀{α:Type} {Q':α→SortSt→Prop} {f:Option Bool→StateT SortSt Sem α},(R K (arrOf st') (lo+n)<R K (arrOf st') (lo+n-1)→wpS (model prog w) A E s (f (some true)) Q' st')→(¬R K (arrOf st') (lo+n)<R K (arrOf st') (lo+n-1)→wpS (model prog w) A E s (f (some false)) Q' st')→wpS (model prog w) A E s (ltAt' (lo+n) (lo+n-1)>>=f) Q' st':=fun hB' n n1 n2 α Q' f q1 q2=>Zq (a4r' C hB' (by lia) (by lia) q1 q2)
 rw[countRun'_eq]
 refine Zq (b2F' (lo:=lo) (K:=K) (fun x n n1 n2 Q' q1 q2=>asc3 hB n n1 n2 (fun hw=>wpS_T rfl (Zu (q1 hw))) (fun hw=>wpS_F (by decide) (Zu (q2 hw)))) (Zl 1) h1 (fun i j k1 k2 k3=>by have:i=j:=(by lia);subst this;exact Zl _) fun n n1 n2 hs hor=>?_)
 by_cases hnn:n=nrem
 ·exact wpS_T (by simpa using hnn) (Zu (h n _ (.refl _) .refl n1 n2 hs))
 refine wpS_F (by simpa using hnn) ?_
 have hlt:=hor.resolve_left hnn
 have hsz:=hB.size
 refine selD (C:=fun ys=>ys.Perm (arrOf st)∧Fr lo (lo+nrem) (arrOf st) ys∧∀i j,lo≤i→i≤j→j<lo+n+1→R K ys j≤R K ys i) (fun ys hC=>?_) (fun hgt key=>?_) (fun hgt=>⟨.refl _,.refl,fun i j k1 k2 k3=>?_⟩)
 ·obtain⟨hp,hF,hN⟩:=hC
  have hB1:=hB.arr hp
  have hz1:ys.size=a0.size:=hB1.size
  refine Zq (wpS_lift (wpAny_rule ⟨rfl,?_⟩))
  refine Zq (wpS_mono (Ye (I:=fun x c st'=>∃zs q,st'=setArr st zs∧c=(none,x,q)∧zs.Perm (arrOf st)∧Fr lo (lo+nrem) (arrOf st) zs∧x≤nrem∧q<x∧(∀i j,lo≤i→i≤j→j<lo+x→R K zs j≤R K zs i)∧∀k,lo+x-(q+1)≤k→k<lo+x→R K zs k=R K zs (lo+x-1))
   (Q:=fun c st'=>∃zs m q,st'=setArr st zs∧c=(none,m,q)∧zs.Perm (arrOf st)∧Fr lo (lo+nrem) (arrOf st) zs∧1≤m∧m≤nrem∧q<m∧(∀i j,lo≤i→i≤j→j<lo+m→R K zs j≤R K zs i)∧∀k,lo+m-(q+1)≤k→k<lo+m→R K zs k=R K zs (lo+m-1)) ?_ ?_ ?_) ?_)
  ·rintro x c st' hx hx2 ⟨zs,q,rfl,rfl,hp',hF',_,hq,hN',hE⟩
   have hB2:=hB.arr hp'
   have hz2:zs.size=a0.size:=hB2.size
   have up:∀ws:Array Keyed,(∀k,k≤lo+x→lo≤k→R K ws k=R K zs k)→R K zs (lo+x)≤R K zs (lo+x-1)→∀i j,lo≤i→i≤j→j<lo+(x+1)→R K ws j≤R K ws i:=fun ws hw hl i j k1 k2 k3=>by
    rw[hw i (by lia) k1,hw j (by lia) (by lia)]
    by_cases e:j=lo+x
    ·subst e
     by_cases e2:i=lo+x
     ·subst e2;exact Zl _
     ·exact ZB hl (hN' i (lo+x-1) k1 (by lia) (by lia))
    ·exact hN' i j k1 k2 (by lia)
   refine asc3 hB2 x (by lia) hx2 (fun hw=>wpS_T rfl ?_) (fun hw=>wpS_F (by decide) ?_)
   ·have hw:R K zs (lo+x)<R K zs (lo+x-1):=hw
    refine selD (st:=setArr st zs) (C:=fun ws=>ws.Perm (arrOf st)∧Fr lo (lo+nrem) (arrOf st) ws∧∀k,k≤lo+x→lo≤k→R K ws k=R K zs k) (fun ws hC=>?_) (fun hg key=>?_) (fun hg=>⟨hp',hF',fun _ _ _=>rfl⟩)
    ·refine Zu ⟨ws,0,rfl,rfl,hC.1,hC.2.1,by lia,by lia,up ws hC.2.2 (by lia),fun k k1 k2=>by rw[show k=lo+(x+1)-1 by lia]⟩
    ·refine Zq (a8m' (key _ ⟨(mirror_perm _ _ _ _).trans hp',hF'.trans (a4s' (i:=lo+x-(q+1)) (j:=lo+x) (by rw[hz2];lia) (by lia) (by lia)),fun k k1 k2=>?_⟩))
     show R K (mirror zs (lo+x-(q+1)) (lo+x) ((lo+x-(lo+x-(q+1)))/2)) k=_
     rw[a2R' (by rw[hz2];lia)]
     by_cases c:lo+x-(q+1)≤k∧k<lo+x
     ·rw[if_pos c,hE k c.1 c.2,hE _ (by lia) (by lia)]
     ·rw[if_neg c]
   ·have hw:¬R K zs (lo+x)<R K zs (lo+x-1):=hw
    refine Zq (a4r' (i:=lo+x-1) (j:=lo+x) C hB2 (by lia) (by lia) (fun hw2=>wpS_T rfl (Zu ⟨zs,x,q,rfl,rfl,hp',hF',by lia,by lia,hq,hN',hE⟩)) (fun hw2=>wpS_F (by decide) (Zu ⟨zs,q+1,rfl,rfl,hp',hF',by lia,by lia,?_,fun k k1 k2=>?_⟩)))
    ·have hw2:¬R K zs (lo+x-1)<R K zs (lo+x):=hw2
     exact up zs (fun _ _ _=>rfl) (by lia)
    ·have hw2:¬R K zs (lo+x-1)<R K zs (lo+x):=hw2
     rw[show lo+(x+1)-1=lo+x by lia]
     by_cases e:k=lo+x
     ·rw[e]
     ·rw[hE k (by lia) (by lia)];lia
  ·rintro c st' ⟨zs,q,rfl,rfl,hp',hF',hx,hq,hN',hE⟩
   exact⟨zs,_,q,rfl,rfl,hp',hF',by lia,hx,hq,hN',hE⟩
  ·exact⟨ys,0,rfl,rfl,hp,hF,by lia,by lia,fun i j k1 k2 k3=>hN i j k1 k2 (by lia),fun k k1 k2=>by rw[show k=lo+(n+1)-1 by lia]⟩
  ·rintro c st' ⟨zs,m,q,rfl,rfl,hp',hF',m1,m2,hq,hN',hE⟩
   have hB2:=hB.arr hp'
   have hz2:zs.size=a0.size:=hB2.size
   refine selD (st:=setArr st zs) (C:=fun ws=>ws.Perm (arrOf st)∧Fr lo (lo+nrem) (arrOf st) ws∧∀k,k<lo+m→lo≤k→R K ws k=R K zs k) (fun ws hC=>?_) (fun hg key=>?_) (fun hg=>⟨hp',hF',fun _ _ _=>rfl⟩)
   ·obtain⟨hp3,hF3,hE3⟩:=hC
    have hB3:=hB.arr hp3
    have hz3:ws.size=a0.size:=hB3.size
    refine Zq (a8m' ?_)
    show wpS (model prog w) A E s _ Q (setArr st (mirror ws lo (lo+m) ((lo+m-lo)/2)))
    have hp4:(mirror ws lo (lo+m) ((lo+m-lo)/2)).Perm (arrOf st):=(mirror_perm _ _ _ _).trans hp3
    have hF4:Fr lo (lo+nrem) (arrOf st) (mirror ws lo (lo+m) ((lo+m-lo)/2)):=hF3.trans (a4s' (by rw[hz3];lia) (Zl _) (by lia))
    have hs4:SR K (mirror ws lo (lo+m) ((lo+m-lo)/2)) lo (lo+m):=fun i j k1 k2 k3=>by
     rw[a2R' (by rw[hz3];lia),a2R' (by rw[hz3];lia),if_pos ⟨k1,by lia⟩,if_pos ⟨by lia,k3⟩,hE3 _ (by lia) (by lia),hE3 _ (by lia) (by lia)]
     exact hN' _ _ (by lia) (by lia) (by lia)
    revert hp4 hF4 hs4
    generalize mirror ws lo (lo+m) ((lo+m-lo)/2)=vs
    intro hp4 hF4 hs4
    refine Zq (b2F' (st:=setArr st vs) (lo:=lo) (K:=K) (fun x n n1 n2 Q' q1 q2=>asc3 (hB.arr hp4) n n1 n2 (fun hw=>wpS_T rfl (Zu (q1 hw))) (fun hw=>wpS_F (by decide) (Zu (q2 hw)))) m1 m2 hs4 fun n n1 n2 hs _=>?_)
    exact Zu (h n vs hp4 hF4 (by lia) n2 hs)
   ·refine Zq (a8m' (key _ ⟨(mirror_perm _ _ _ _).trans hp',hF'.trans (a4s' (i:=lo+m-(q+1)) (j:=lo+m) (by rw[hz2];lia) (by lia) (by lia)),fun k k1 k2=>?_⟩))
    show R K (mirror zs (lo+m-(q+1)) (lo+m) ((lo+m-(lo+m-(q+1)))/2)) k=_
    rw[a2R' (by rw[hz2];lia)]
    by_cases c:lo+m-(q+1)≤k∧k<lo+m
    ·rw[if_pos c,hE k c.1 c.2,hE _ (by lia) (by lia)]
    ·rw[if_neg c]
 ·refine Zq (a4r' C hB (by lia) (by lia) (fun hr=>wpS_T rfl (Zu (h n _ (.refl _) .refl n1 n2 hs))) (fun hr=>wpS_F (by decide) ?_))
  have hr:¬R K (arrOf st) lo<R K (arrOf st) (lo+n-1):=hr
  have hlt:R K (arrOf st) (lo+n)<R K (arrOf st) (lo+n-1):=hlt
  refine Zq (a8m' (key _ ⟨mirror_perm _ _ _ _,a4s' (by lia) (Zl _) (by lia),fun i j k1 k2 k3=>?_⟩))
  have eq:∀k,lo≤k→k<lo+n→R K (mirror (arrOf st) lo (lo+n) ((lo+n-lo)/2)) k=R K (arrOf st) lo:=fun k k1 k2=>by
   rw[a2R' (by lia),if_pos ⟨k1,k2⟩]
   have e1:=hs lo (lo+(lo+n)-1-k) (by lia) (by lia) (by lia)
   have e2:=hs (lo+(lo+n)-1-k) (lo+n-1) (by lia) (by lia) (by lia)
   lia
  show R K (mirror (arrOf st) lo (lo+n) ((lo+n-lo)/2)) j≤R K (mirror (arrOf st) lo (lo+n) ((lo+n-lo)/2)) i
  by_cases e:j<lo+n
  ·rw[eq i k1 (by lia),eq j (by lia) e];exact Zl _
  ·have e':j=lo+n:=by lia
   subst e'
   rw[a2R' (by lia) (lo+n),if_neg (by lia)]
   by_cases e2:i=lo+n
   ·subst e2;rw[a2R' (by lia) (lo+n),if_neg (by lia)];exact Zl _
   ·rw[eq i k1 (by lia)]
    have e1:=hs lo (lo+n-1) (by lia) (by lia) (by lia)
    lia
 ·have hlt:R K (arrOf st) (lo+n)<R K (arrOf st) (lo+n-1):=hlt
  have hgt:¬n>1:=hgt
  have e1:n=1:=by lia
  subst e1
  by_cases e:i=j
  ·subst e;exact Zl _
  ·rw[show i=lo+1-1 by lia,show j=lo+1 by lia];lia
end
end Srt
end
section
set_option autoImplicit false
namespace Srt
open PySem PyProof.Rows
section
variable {prog:Program}{w:World}{A:Around}{E:Value→Shared→Prop}{s:Shared}{st:SortSt}{κ:SortKind}{K:Keyed→Nat}{a0 xs ys:Array Keyed}
theorem b4g'{src d:Nat}(hs:src<xs.size)(hd:d≤src)(k:Nat):R K (bubble xs src d) k=if k=src-d then R K xs src else if src-d<k∧k≤src then R K xs (k-1)else R K xs k:=by
 have h:=getElem?_bubble hs d hd k
 by_cases c:k=src-d
 ·rw[if_pos c]at h⊢;exact a1r' h
 ·rw[if_neg c]at h⊢
  by_cases c2:src-d<k∧k≤src
  ·rw[if_pos c2]at h⊢;exact a1r' h
  ·rw[if_neg c2]at h⊢;exact a1r' h
theorem b1R'{lo hi src d:Nat}(hs:src<xs.size)(hd:d≤src)(h1:lo≤src-d)(h2:src<hi):Fr lo hi xs (bubble xs src d):=fun k hk=>by
 rw[getElem?_bubble hs d hd,if_neg (by lia),if_neg (by lia)]
theorem a5f'(C:Cmp prog w A s κ (· ∈a0.toList) K)(hB:SB a0 κ st){lo n ok:Nat}(hz:lo+n≤a0.size)(hok:ok≤n)(hs:SR K (arrOf st) lo (lo+ok)){Q:Bool→SortSt→Prop}
  (h:∀ys,ys.Perm (arrOf st)→Fr lo (lo+n) (arrOf st) ys→SR K ys lo (lo+n)→Q true (setArr st ys)):wpS (model prog w) A E s (binarySort' lo n ok) Q st:=by
 rw[binarySort'_eq]
 refine Zq (wpS_mono (Ye (I:=fun k c st'=>∃zs,st'=setArr st zs∧c=(none,())∧zs.Perm (arrOf st)∧Fr lo (lo+n) (arrOf st) zs∧SR K zs lo (lo+min k n))
  (Q:=fun c st'=>∃zs,st'=setArr st zs∧c=(none,())∧zs.Perm (arrOf st)∧Fr lo (lo+n) (arrOf st) zs∧SR K zs lo (lo+n)) ?_ ?_ ?_) ?_)
 ·rintro k c st' hk hk2 ⟨zs,rfl,rfl,hp,hF,hs'⟩
  rw[Nat.min_eq_left (by lia)]at hs'
  have hB2:=hB.arr hp
  have hz2:zs.size=a0.size:=hB2.size
  refine Zq (wpS_mono (Ye (I:=fun x c st'=>st'=setArr st zs∧∃l r,c=(none,l,r)∧l≤r∧r≤k∧r-l≤k-x∧(∀i,i<l→R K zs (lo+i)≤R K zs (lo+k))∧(∀i,r≤i→i<k→R K zs (lo+k)<R K zs (lo+i)))
   (Q:=fun c st'=>st'=setArr st zs∧∃l r,c=(none,l,r)∧l≤k∧(∀i,i<l→R K zs (lo+i)≤R K zs (lo+k))∧(∀i,l≤i→i<k→R K zs (lo+k)<R K zs (lo+i))) ?_ ?_ ⟨rfl,0,k,rfl,by lia,by lia,by lia,fun i hi=>by lia,fun i h1 h2=>by lia⟩) ?_)
  ·rintro x c st' _ hx ⟨rfl,l,r,rfl,k1,k2,k3,k4,k5⟩
   by_cases hlr:l≥r
   ·have:l=r:=by lia
    subst this
    exact wpS_T hlr (Zu ⟨rfl,l,l,rfl,k2,k4,k5⟩)
   ·refine wpS_F hlr (Zq (a4r' (i:=lo+k) (j:=lo+(l+r)/2) C hB2 (by lia) (by lia) (fun hw=>wpS_T rfl (Zu ⟨rfl,l,(l+r)/2,rfl,by lia,by lia,by lia,k4,fun i h1 h2=>?_⟩)) (fun hw=>wpS_F (by decide) (Zu ⟨rfl,(l+r)/2+1,r,rfl,by lia,k2,by lia,fun i h1=>?_,k5⟩))))
    ·have hw:R K zs (lo+k)<R K zs (lo+(l+r)/2):=hw
     have:=hs' (lo+(l+r)/2) (lo+i) (by lia) (by lia) (by lia)
     lia
    ·have hw:¬R K zs (lo+k)<R K zs (lo+(l+r)/2):=hw
     have:=hs' (lo+i) (lo+(l+r)/2) (by lia) (by lia) (by lia)
     lia
  ·rintro c st' ⟨rfl,l,r,rfl,k1,k2,k3,k4,k5⟩
   have:l=r:=by lia
   subst this
   exact⟨rfl,l,l,rfl,k2,k4,k5⟩
  ·rintro c st' ⟨rfl,l,r,rfl,k2,k4,k5⟩
   refine Zq (m:=moveDown' (lo+k) (lo+l)) ?_
   rw[moveDown'_eq]
   refine wpS_modify (Zu ⟨bubble zs (lo+k) (lo+k-(lo+l)),rfl,rfl,(bubble_perm _ _ _).trans hp,hF.trans (b1R' (by rw[hz2];lia) (by lia) (by lia) (by lia)),?_⟩)
   rw[Nat.min_eq_left (by lia)]
   have e:∀i,R K (bubble zs (lo+k) (lo+k-(lo+l))) i=if i=lo+l then R K zs (lo+k)else if lo+l<i∧i≤lo+k then R K zs (i-1)else R K zs i:=fun i=>by
    rw[b4g' (by rw[hz2];lia) (by lia),show lo+k-(lo+k-(lo+l))=lo+l by lia]
   have a1:∀i,lo≤i→i<lo+l→R K zs i≤R K zs (lo+k):=fun i h1 h2=>by have:=k4 (i-lo) (by lia);rwa [show lo+(i-lo)=i by lia]at this
   have a2:∀i,lo+l≤i→i<lo+k→R K zs (lo+k)<R K zs i:=fun i h1 h2=>by have:=k5 (i-lo) (by lia) (by lia);rwa [show lo+(i-lo)=i by lia]at this
   intro i j h1 h2 h3
   rw[e i,e j]
   by_cases c1:i=lo+l
   ·rw[if_pos c1]
    by_cases c2:j=lo+l
    ·rw[if_pos c2];exact Zl _
    ·rw[if_neg c2,if_pos ⟨by lia,by lia⟩]
     exact Nat.le_of_lt (a2 _ (by lia) (by lia))
   ·rw[if_neg c1]
    by_cases c3:lo+l<i∧i≤lo+k
    ·rw[if_pos c3,if_neg (by lia),if_pos ⟨by lia,by lia⟩]
     exact hs' _ _ (by lia) (by lia) (by lia)
    ·rw[if_neg c3]
     by_cases c2:j=lo+l
     ·rw[if_pos c2];exact a1 i h1 (by lia)
     ·rw[if_neg c2]
      by_cases c4:lo+l<j∧j≤lo+k
      ·rw[if_pos c4];exact hs' _ _ h1 (by lia) (by lia)
      ·rw[if_neg c4];exact hs' _ _ h1 h2 (by lia)
 ·rintro c st' ⟨zs,rfl,rfl,hp,hF,hs'⟩
  rw[show min (max (max ok 1) n) n=n by lia]at hs'
  exact⟨zs,rfl,rfl,hp,hF,hs'⟩
 ·refine⟨arrOf st,rfl,rfl,.refl _,.refl,fun i j h1 h2 h3=>?_⟩
  by_cases e:i=j
  ·subst e;exact Zl _
  ·exact hs i j h1 h2 (by lia)
 ·rintro c st' ⟨zs,rfl,rfl,hp,hF,hs'⟩
  exact Zu (h zs hp hF hs')
end
end Srt
end
section
set_option autoImplicit false
namespace Srt
open PySem PyProof.Rows
section
variable {prog:Program}{w:World}{A:Around}{E:Value→Shared→Prop}{s:Shared}{st:SortSt}{κ:SortKind}{K:Keyed→Nat}{a0 xs ys:Array Keyed}
theorem b0i'{base:Nat}:∀(l:List Keyed) (k:Nat) (arr:Array Keyed),base+k+l.length≤arr.size→((l.zipIdx k).foldl (fun a (x:Keyed×Nat)=>a.setIfInBounds (base+x.2) x.1) arr).toList=arr.toList.take (base+k)++l++arr.toList.drop (base+k+l.length)
 | [],k,arr,h=>by simp
 |x::l,k,arr,h=>by
  rw[Zy]at h
  rw[List.zipIdx_cons,List.foldl_cons,b0i' l (k+1) _ (by rw[Array.size_setIfInBounds];lia)]
  rw[Array.toList_setIfInBounds]
  have hl:base+k<arr.toList.length:=by rw[ZD];lia
  have e1:(arr.toList.set (base+k) x).take (base+(k+1))=arr.toList.take (base+k)++[x]:=by
   rw[show base+(k+1)=(base+k)+1 by lia,List.take_succ,List.take_set_of_le (Zl _),List.getElem?_set_self hl]
   rfl
  have e2:(arr.toList.set (base+k) x).drop (base+(k+1)+l.length)=arr.toList.drop (base+k+(x::l).length):=by
   rw[List.drop_set_of_lt (by lia),Zy,show base+(k+1)+l.length=base+k+(l.length+1)by lia]
  rw[e1,e2]
  simp
theorem b0j'{i j:Nat}(h1:i≤j)(h2:j≤xs.size):(xs.extract i j).size=j-i:=by
 rw[Array.size_extract,Nat.min_eq_left h2]
theorem R_ext{i j n:Nat}(h2:j≤xs.size)(hn:i+n<j):R K (xs.extract i j) n=R K xs (i+n):=by
 refine a1r' ?_
 rw[Array.getElem?_extract,if_pos (by lia)]
theorem LS_ext{i j:Nat}(h2:j≤xs.size)(hs:SR K xs i j):LS K (xs.extract i j).toList:=by
 refine List.pairwise_iff_getElem.mpr fun n m hn hm h=>?_
 have hm':m<(xs.extract i j).size:=by rw[←ZD];exact hm
 have hn':n<(xs.extract i j).size:=by lia
 have e:(xs.extract i j).size≤j-i:=by rw[Array.size_extract];lia
 have k1:=R_ext (K:=K) h2 (show i+n<j by lia)
 have k2:=R_ext (K:=K) h2 (show i+m<j by lia)
 have:=hs (i+n) (i+m) (by lia) (by lia) (by lia)
 rw[←k1,←k2,R_of hn',R_of hm']at this
 simpa using this
theorem b0k'{i j:Nat}(h2:j≤xs.size){x:Keyed}(h:x∈(xs.extract i j).toList):∃n,i≤n∧n<j∧K x=R K xs n:=by
 obtain⟨n,h1,h3,_,e⟩:=b0h' (K:=K) h
 exact⟨n,h1,h3,e⟩
theorem wpS_set{x:SortSt}{Q:PUnit→SortSt→Prop}(h:Q ⟨⟩ x):wpS (model prog w) A E s (set x:StateT SortSt Sem PUnit) Q st:=by
 unfold wpS;rw[StateT.run_set];exact Zi ⟨rfl,h⟩
def a8n'(st:SortSt)(p:Array (Nat×Nat×Nat)):SortSt:=SortSt.mk' (kindOf st) (arrOf st) p (gallopOf st) (failedOf st)
theorem a8T'(C:Cmp prog w A s κ (· ∈a0.toList) K)(hB:SB a0 κ st){i sa na pw nb pw':Nat}(hi:(pendingOf st)[i]?=some (sa,na,pw))(hi':(pendingOf st)[i+1]?=some (sa+na,nb,pw'))(a1:1≤na)(b1:1≤nb)(hz:sa+na+nb≤a0.size)
  (ha:SR K (arrOf st) sa (sa+na)) (hb:SR K (arrOf st) (sa+na) (sa+na+nb)) {Q:Bool→SortSt→Prop}
  (h:∀ys g,ys.Perm (arrOf st)→Fr sa (sa+na+nb) (arrOf st) ys→SR K ys sa (sa+na+nb)→Q true (a0B' (setArr (a8n' st (((pendingOf st).setIfInBounds i (sa,na+nb,pw)).eraseIdxIfInBounds (i+1))) ys) g)):wpS (model prog w) A E s (mergeAt' i) Q st:=by
 have hsz:=hB.size
 have hall:=hB.all
 have pe:∀{n:Nat} (hn:n<(arrOf st).size),(arrOf st)[n]∈a0.toList:=fun hn=>hall _ (by simp)
 refine Zq (wpS_get ?_)
 have e0:((pendingOf st)[i]?,(pendingOf st)[i+1]?)=(some (sa,na,pw),some (sa+na,nb,pw')):=by rw[hi,hi']
 rw[hi,hi']
 refine Zq (wpS_set ?_)
 show wpS (model prog w) A E s _ Q (a8n' st (((pendingOf st).setIfInBounds i (sa,na+nb,pw)).eraseIdxIfInBounds (i+1)))
 generalize((pendingOf st).setIfInBounds i (sa,na+nb,pw)).eraseIdxIfInBounds (i+1)=p' at h⊢
 have hkP:kindOf (a8n' st p')=κ:=hB.kind
 refine Zq (a0m' (show sa+na<(arrOf st).size by lia) ?_)
 refine Zq (a1z' C hall (pe (by lia)) hkP (by lia) (by lia) (fun i j k1 k2=>ha _ _ (by lia) (by lia) (by lia)) fun k k1 k2 k3=>?_)
 have t1:thr K false (arrOf st)[sa+na]=R K (arrOf st) (sa+na)+1:=by rw[R_of (show sa+na<(arrOf st).size by lia)];rfl
 rw[t1]at k2 k3
 have q2:∀n,sa≤n→n<sa+k→R K (arrOf st) n≤R K (arrOf st) (sa+na):=fun n h1 h2=>by
  have:=k2 (n-sa) (by lia)
  rw[show sa+(n-sa)=n by lia]at this
  lia
 have bb:∀n,sa+na≤n→n<sa+na+nb→R K (arrOf st) (sa+na)≤R K (arrOf st) n:=fun n h1 h2=>hb _ _ (Zl _) h1 h2
 have fin:∀c,c≤R K (arrOf st) (sa+na)→(∀n,sa≤n→n<sa+na→R K (arrOf st) n≤c)→SR K (arrOf st) sa (sa+na+nb):=fun c hc hn i j h1 h2 h3=>by
  by_cases c1:j<sa+na
  ·exact ha i j h1 h2 c1
  ·by_cases c2:i<sa+na
   ·have:=hn i h1 c2
    have:=bb j (by lia) h3
    lia
   ·exact hb i j (by lia) h2 h3
 by_cases e1:na-k=0
 ·refine wpS_T (by simpa using e1) (Zu (h _ (gallopOf st) (.refl _) .refl (fin _ (Zl _) fun n h1 h2=>q2 n h1 (by lia))))
 refine wpS_F (by simpa using e1) ?_
 have q3:R K (arrOf st) (sa+na)<R K (arrOf st) (sa+k):=by have:=k3 k (Zl _) (by lia);lia
 refine Zq (a0m' (show sa+k+(na-k)-1<(arrOf st).size by lia) ?_)
 refine Zq (a1z' C hall (pe (by lia)) hkP (by lia) (by lia) (fun i j k1 k2=>hb _ _ (by lia) (by lia) (by lia)) fun m m1 m2 m3=>?_)
 have t2:thr K true ((arrOf st)[sa+k+(na-k)-1]'(by lia))=R K (arrOf st) (sa+na-1):=by rw[show sa+na-1=sa+k+(na-k)-1 by lia,R_of (show sa+k+(na-k)-1<(arrOf st).size by lia)];rfl
 rw[t2]at m2 m3
 have q4:∀n,sa+na≤n→n<sa+na+m→R K (arrOf st) n<R K (arrOf st) (sa+na-1):=fun n h1 h2=>by
  have:=m2 (n-(sa+na)) (by lia)
  rwa [show sa+na+(n-(sa+na))=n by lia]at this
 have q5:∀n,sa+na+m≤n→n<sa+na+nb→R K (arrOf st) (sa+na-1)≤R K (arrOf st) n:=fun n h1 h2=>by
  have:=m3 (n-(sa+na)) (by lia) (by lia)
  rwa [show sa+na+(n-(sa+na))=n by lia]at this
 by_cases e2:m=0
 ·have:=q5 (sa+na) (by lia) (by lia)
  have:=ha (sa+k) (sa+na-1) (by lia) (by lia) (by lia)
  exfalso;lia
 refine wpS_F (by simpa using e2) ?_
 have hxz:((arrOf st).extract (sa+k) (sa+na)).size=na-k:=by rw[b0j' (by lia) (by lia)];lia
 have hyz:((arrOf st).extract (sa+na) (sa+na+m)).size=m:=by rw[b0j' (by lia) (by lia)];lia
 have hxl:=LS_ext (K:=K) (xs:=arrOf st) (i:=sa+k) (j:=sa+na) (by lia) (fun i j h1 h2 h3=>ha i j (by lia) h2 h3)
 have hyl:=LS_ext (K:=K) (xs:=arrOf st) (i:=sa+na) (j:=sa+na+m) (by lia) (fun i j h1 h2 h3=>hb i j (by lia) h2 (by lia))
 have hxm:∀x∈((arrOf st).extract (sa+k) (sa+na)).toList,x∈a0.toList:=fun x hx=>by
  rw[Array.toList_extract]at hx
  exact hall x (List.mem_of_mem_drop (List.mem_of_mem_take hx))
 have hym:∀x∈((arrOf st).extract (sa+na) (sa+na+m)).toList,x∈a0.toList:=fun x hx=>by
  rw[Array.toList_extract]at hx
  exact hall x (List.mem_of_mem_drop (List.mem_of_mem_take hx))
 have r0:R K ((arrOf st).extract (sa+na) (sa+na+m)) 0<R K ((arrOf st).extract (sa+k) (sa+na)) 0:=by
  rw[R_ext (by lia) (by lia),R_ext (by lia) (by lia)]
  exact q3
 have rl:∀y∈((arrOf st).extract (sa+na) (sa+na+m)).toList,K y<R K ((arrOf st).extract (sa+k) (sa+na)) (((arrOf st).extract (sa+k) (sa+na)).size-1):=fun y hy=>by
  obtain⟨n,h1,h2,e⟩:=b0k' (K:=K) (by lia) hy
  rw[e,hxz,R_ext (by lia) (by lia),show sa+k+(na-k-1)=sa+na-1 by lia]
  exact q4 n h1 h2
 have key:∀(r:Array Keyed) (g:Nat),Good K (((arrOf st).extract (sa+k) (sa+na)).toList++((arrOf st).extract (sa+na) (sa+na+m)).toList) r→Q true (a0B' (setArr (a8n' st p') ((r.toList.zipIdx).foldl (fun a (x:Keyed×Nat)=>a.setIfInBounds (sa+k+x.2) x.1) (arrOf st))) g):=fun r g gd=>by
  have hrl:r.toList.length=na-k+m:=by
   rw[gd.1.length_eq,Zn,ZD,ZD,hxz,hyz]
  have hel:∀n,n<r.toList.length→∃j,sa+k≤j∧j<sa+na+m∧R K r n=R K (arrOf st) j:=fun n hn=>by
   have hn':n<r.size:=by rwa [ZD]at hn
   have hm:r[n]∈r.toList:=by simp
   rw[R_of hn']
   rcases ZA.mp (gd.1.mem_iff.mp hm)with z|z
   ·obtain⟨j,h1,h2,e⟩:=b0k' (K:=K) (by lia) z
    exact⟨j,h1,by lia,e⟩
   ·obtain⟨j,h1,h2,e⟩:=b0k' (K:=K) (by lia) z
    exact⟨j,by lia,h2,e⟩
  have hfp:=b0i' (base:=sa+k) r.toList 0 (arrOf st) (by lia)
  generalize(r.toList.zipIdx).foldl (fun a (x:Keyed×Nat)=>a.setIfInBounds (sa+k+x.2) x.1) (arrOf st)=ys at hfp⊢
  rw[Nat.add_zero]at hfp
  have hl1:((arrOf st).toList.take (sa+k)).length=sa+k:=by rw[Z3,ZD];lia
  have o1:∀n,n<sa+k→ys[n]?=(arrOf st)[n]? :=fun n hn=>by
   rw[←ZV,hfp,Zm,Zo (by lia),List.getElem?_take_of_lt hn,ZV]
  have o2:∀n,sa+na+m≤n→ys[n]?=(arrOf st)[n]? :=fun n hn=>by
   rw[←ZV,hfp,Zw (by rw[Zn];lia),List.getElem?_drop,Zn,hl1,hrl,←ZV]
   congr 1;lia
  have o3:∀n,sa+k≤n→n<sa+na+m→ys[n]?=r[n-(sa+k)]? :=fun n h1 h2=>by
   rw[←ZV,hfp,Zm,Zw (by lia),hl1,Zo (by lia),ZV]
  refine h ys g ?_ (fun n hn=>?_) (fun i j h1 h2 h3=>?_)
  ·refine Array.perm_iff_toList_perm.mpr ?_
   rw[hfp]
   have e:(arrOf st).toList=(arrOf st).toList.take (sa+k)++(((arrOf st).extract (sa+k) (sa+na)).toList++((arrOf st).extract (sa+na) (sa+na+m)).toList)++(arrOf st).toList.drop (sa+k+r.toList.length):=by
    rw[←Zm,←a8l' (by lia),←a8l' (by lia),show sa+k+r.toList.length=sa+na+m by lia,List.take_append_drop]
   exact((List.Perm.append_left _ gd.1).append_right _).trans (List.Perm.of_eq e.symm)
  ·rcases hn with z|z
   ·exact o1 n (by lia)
   ·exact o2 n (by lia)
  ·have ri:∀n,n<sa+k→R K ys n=R K (arrOf st) n:=fun n hn=>a1r' (o1 n hn)
   have ro:∀n,sa+na+m≤n→R K ys n=R K (arrOf st) n:=fun n hn=>a1r' (o2 n hn)
   have rm:∀n,sa+k≤n→n<sa+na+m→R K ys n=R K r (n-(sa+k)):=fun n h1 h2=>a1r' (o3 n h1 h2)
   by_cases c1:j<sa+k
   ·rw[ri i (by lia),ri j c1];exact ha i j h1 h2 (by lia)
   by_cases c2:sa+na+m≤i
   ·rw[ro i c2,ro j (by lia)];exact hb i j (by lia) h2 h3
   by_cases c3:i<sa+k
   ·rw[ri i c3]
    have u1:=q2 i h1 c3
    by_cases c4:sa+na+m≤j
    ·rw[ro j c4];have:=bb j (by lia) h3;lia
    ·rw[rm j (by lia) (by lia)]
     obtain⟨n,n1,n2,e⟩:=hel (j-(sa+k)) (by lia)
     rw[e]
     by_cases c5:n<sa+na
     ·exact ha i n h1 (by lia) c5
     ·have:=bb n (by lia) (by lia);lia
   ·rw[rm i (by lia) (by lia)]
    by_cases c4:sa+na+m≤j
    ·rw[ro j c4]
     obtain⟨n,n1,n2,e⟩:=hel (i-(sa+k)) (by lia)
     rw[e]
     by_cases c5:n<sa+na
     ·have:=ha n (sa+na-1) (by lia) (by lia) (by lia)
      have:=q5 j c4 h3
      lia
     ·exact hb n j (by lia) (by lia) h3
    ·rw[rm j (by lia) (by lia)]
     exact gd.2.mono (by lia) (by rw[←ZD];lia)
 have hs1:sa+k+(na-k)=sa+na:=by lia
 by_cases e3:na-k≤m
 ·refine wpS_T e3 (Zq (a8R' C hkP hxm hym hxl hyl (by lia) (by lia) r0 rl fun r g gd=>?_))
  refine Zq (wpS_modify (Zq (wpS_get (Zu ?_))))
  have:=key r g gd
  show Q (failedOf st).isNone _
  rw[hB.failed]
  exact this
 ·refine wpS_F e3 (Zq (a8S' C hkP hxm hym hxl hyl (by lia) (by lia) r0 rl fun r g gd=>?_))
  refine Zq (wpS_modify (Zq (wpS_get (Zu ?_))))
  have:=key r g gd
  show Q (failedOf st).isNone _
  rw[hB.failed]
  exact this
end
end Srt
end
section
set_option autoImplicit false
namespace Srt
open PySem PyProof.Rows
def Ch(K:Keyed→Nat)(xs:Array Keyed):Nat→List (Nat×Nat×Nat)→Nat→Prop
 |a,[],e=>a=e
 |a,t::r,e=>t.1=a∧1≤t.2.1∧SR K xs a (a+t.2.1)∧Ch K xs (a+t.2.1) r e
section
variable {K:Keyed→Nat}{xs ys:Array Keyed}
theorem Ch.len:∀{l:List (Nat×Nat×Nat)} {a e:Nat},Ch K xs a l e→a+l.length≤e
 | [],a,e,h=>by cases h;simp
 |t::r,a,e,h=>by
  have:=Ch.len h.2.2.2
  have:=h.2.1
  rw[Zy];lia
theorem Ch.app:∀{l r:List (Nat×Nat×Nat)} {a e:Nat},Ch K xs a (l++r) e→∃m,Ch K xs a l m∧Ch K xs m r e
 | [],r,a,e,h=>⟨a,rfl,h⟩
 |t::l,r,a,e,h=>by
  obtain⟨m,h1,h2⟩:=Ch.app (l:=l) h.2.2.2
  exact⟨m,⟨h.1,h.2.1,h.2.2.1,h1⟩,h2⟩
theorem Ch.join:∀{l r:List (Nat×Nat×Nat)} {a m e:Nat},Ch K xs a l m→Ch K xs m r e→Ch K xs a (l++r) e
 | [],r,a,m,e,h,k=>by cases h;exact k
 |t::l,r,a,m,e,h,k=>⟨h.1,h.2.1,h.2.2.1,Ch.join h.2.2.2 k⟩
theorem Ch.same:∀{l:List (Nat×Nat×Nat)} {a e:Nat},(∀i,a≤i→i<e→R K ys i=R K xs i)→Ch K xs a l e→Ch K ys a l e
 | [],a,e,_,h=>h
 |t::r,a,e,hs,h=>by
  have:=h.2.2.2.len
  refine⟨h.1,h.2.1,fun i j k1 k2 k3=>?_,Ch.same (fun i k1 k2=>hs i (by lia) k2) h.2.2.2⟩
  rw[hs i k1 (by lia),hs j (by lia) (by lia)]
  exact h.2.2.1 i j k1 k2 k3
theorem Ch.modify{f:Nat×Nat×Nat→Nat×Nat×Nat}(hf:∀t,(f t).1=t.1∧(f t).2.1=t.2.1):∀{l:List (Nat×Nat×Nat)} {i a e:Nat},Ch K xs a l e→Ch K xs a (l.modify i f) e
 | [],i,a,e,h=>by rw[List.modify_nil];exact h
 |t::r,0,a,e,h=>by
  rw[List.modify_zero_cons]
  obtain⟨h1,h2,h3,h4⟩:=h
  refine⟨(hf t).1.trans h1,by rw[(hf t).2];exact h2,by rw[(hf t).2];exact h3,by rw[(hf t).2];exact h4⟩
 |t::r,i+1,a,e,h=>by
  rw[List.modify_succ_cons]
  exact⟨h.1,h.2.1,h.2.2.1,Ch.modify hf h.2.2.2⟩
theorem b1S'{L:List (Nat×Nat×Nat)}{j:Nat}(h:j+1<L.length):L=L.take j++L[j]::L[j+1]::L.drop (j+2):=by
 rw[←List.drop_eq_getElem_cons h,←List.drop_eq_getElem_cons (show j<L.length by lia),List.take_append_drop]
theorem b1T'{L:List (Nat×Nat×Nat)}{j:Nat}{x:Nat×Nat×Nat}(h:j+1<L.length):(L.set j x).eraseIdx (j+1)=L.take j++x::L.drop (j+2):=by
 rw[List.eraseIdx_eq_take_drop_succ,List.take_succ,List.take_set_of_le (Zl _),List.getElem?_set_self (by lia),List.drop_set_of_lt (by lia)]
 simp
end
section
variable {prog:Program}{w:World}{A:Around}{E:Value→Shared→Prop}{s:Shared}{st:SortSt}{κ:SortKind}{K:Keyed→Nat}{a0:Array Keyed}
structure SI (a0:Array Keyed)(κ:SortKind)(K:Keyed→Nat)(lo:Nat)(st:SortSt):Prop where
 b:SB a0 κ st
 ch:Ch K (arrOf st) 0 (pendingOf st).toList lo
 le:lo≤a0.size
theorem a6u'(C:Cmp prog w A s κ (· ∈a0.toList) K){lo j:Nat}(I:SI a0 κ K lo st)(hj:j+1<(pendingOf st).size){Q:Bool→SortSt→Prop}(h:∀st',SI a0 κ K lo st'→(pendingOf st').size+1=(pendingOf st).size→(∀i,lo≤i→(arrOf st')[i]?=(arrOf st)[i]?)→Q true st'):wpS (model prog w) A E s (mergeAt' j) Q st:=by
 have hl:j+1<(pendingOf st).toList.length:=by rwa [ZD]
 have e:=b1S' hl
 have hc:=I.ch
 rw[e]at hc
 obtain⟨m,h1,h2⟩:=hc.app
 have g1:(pendingOf st)[j]?=some ((pendingOf st).toList[j].1,(pendingOf st).toList[j].2.1,(pendingOf st).toList[j].2.2):=by
  rw[←ZV,Zg]
 have g2:(pendingOf st)[j+1]?=some ((pendingOf st).toList[j+1].1,(pendingOf st).toList[j+1].2.1,(pendingOf st).toList[j+1].2.2):=by
  rw[←ZV,Zg]
 have e2:=b1T' (L:=(pendingOf st).toList) (j:=j) (x:=((pendingOf st).toList[j].1,(pendingOf st).toList[j].2.1+(pendingOf st).toList[j+1].2.1,(pendingOf st).toList[j].2.2)) hl
 generalize(pendingOf st).toList[j]=t at*
 generalize(pendingOf st).toList[j+1]=u at*
 obtain⟨t1,t2,t3⟩:=t
 obtain⟨u1,u2,u3⟩:=u
 obtain⟨rfl,k2,k3,k4⟩:=h2
 obtain⟨rfl,k6,k7,k8⟩:=k4
 dsimp only at*
 have hle:=k8.len
 refine a8T' C I.b g1 g2 k2 k6 (by have:=I.le;lia) k3 k7 fun ys g hp hF hs=>?_
 have ep:(((pendingOf st).setIfInBounds j (t1,t2+u2,t3)).eraseIdxIfInBounds (j+1)).toList=(pendingOf st).toList.take j++(t1,t2+u2,t3)::(pendingOf st).toList.drop (j+2):=by
  rw[Array.toList_eraseIdxIfInBounds,Array.toList_setIfInBounds,e2]
 have hle1:=h1.len
 refine h _ ⟨⟨hp.trans I.b.perm,I.b.failed,I.b.kind⟩,?_,I.le⟩ ?_ fun i hi=>hF i (.inr (by lia))
 ·show Ch K ys 0 (((pendingOf st).setIfInBounds j (t1,t2+u2,t3)).eraseIdxIfInBounds (j+1)).toList lo
  rw[ep]
  refine(h1.same fun i _ hi=>a1r' (hF i (.inl hi))).join ⟨rfl,by dsimp only;lia,?_,?_⟩
  ·dsimp only;rw[←Nat.add_assoc];exact hs
  ·dsimp only;rw[←Nat.add_assoc];exact k8.same fun i hi _=>a1r' (hF i (.inr hi))
 ·show(((pendingOf st).setIfInBounds j (t1,t2+u2,t3)).eraseIdxIfInBounds (j+1)).size+1=_
  rw[←ZD,ep,←ZD]
  simp only[Zn,Z3,Zy,Yd]
  lia
end
end Srt
end
section
set_option autoImplicit false
namespace Srt
open PySem PyProof.Rows
section
variable {prog:Program}{w:World}{A:Around}{E:Value→Shared→Prop}{s:Shared}{st:SortSt}{κ:SortKind}{K:Keyed→Nat}{a0:Array Keyed}
theorem selN{α:Type}{c:Nat→Prop}{dc:∀n,Decidable (c n)}{f T:Nat→StateT SortSt Sem α}{Q:α→SortSt→Prop}{C:Nat→SortSt→Prop}{H:Nat→Prop}(key:∀n st',C n st'→wpS (model prog w) A E s (f n) Q st')(h1:∀n,H n→c n→(∀n st',C n st'→wpS (model prog w) A E s (f n) Q st')→wpS (model prog w) A E s (T n) Q st)(h2:∀n,H n→¬c n→C n st):
  ∀n,H n→wpS (model prog w) A E s (if c n then T n else f n) Q st:=fun n hn=>by
 by_cases h:c n
 ·rw[if_pos h];exact h1 n hn h key
 ·rw[if_neg h];exact key n st (h2 n hn h)
theorem a6v'(C:Cmp prog w A s κ (· ∈a0.toList) K)(hB:SB a0 κ st)(hpe:pendingOf st= #[])(h2:2≤a0.size){Q:Unit→SortSt→Prop}(h:∀st',SB a0 κ st'→SR K (arrOf st') 0 a0.size→Q () st'):wpS (model prog w) A E s sortRuns' Q st:=by
 have hsz:=hB.size
 rw[sortRuns'_eq]
 refine Zq (wpS_get ?_)
 dsimp-zeta only
 rw[hsz]
 refine Zq (wpS_mono (Ye (I:=fun x c st'=>∃lo,c=(none,lo)∧SI a0 κ K lo st'∧x≤lo) (Q:=fun c st'=>∃lo,c=(none,lo)∧SI a0 κ K lo st'∧a0.size≤lo) ?_ ?_ ⟨0,rfl,⟨hB,by rw[hpe];rfl,by lia⟩,by lia⟩) ?_)
 ·rintro x c st1 _ hx ⟨lo,rfl,I,hxl⟩
  by_cases hlo:lo≥a0.size
  ·exact wpS_T hlo (Zu ⟨lo,rfl,I,hlo⟩)
  refine wpS_F hlo (Zq (a6t' C I.b (lo:=lo) (nrem:=a0.size-lo) (by lia) (by lia) fun m ys hp hF m1 m2 hs=>?_))
  have chF:∀{zs:Array Keyed},(∀i,i<lo→zs[i]?=(arrOf st1)[i]?)→Ch K zs 0 (pendingOf st1).toList lo:=fun hz=>I.ch.same fun i _ hi=>a1r' (hz i hi)
  have H:1≤m∧m≤a0.size-lo∧SR K ys lo (lo+m):=⟨m1,m2,hs⟩
  revert H
  clear m1 m2 hs
  generalize m=m'
  revert m'
  refine selN (C:=fun n st2=>(SB a0 κ st2∧Ch K (arrOf st2) 0 (pendingOf st2).toList lo)∧SR K (arrOf st2) lo (lo+n)∧1≤n∧lo+n≤a0.size) (fun n st2 hC=>?_) (fun n hH hc key=>?_) (fun n hH hc=>⟨⟨I.b.arr hp,chF fun i hi=>hF i (.inl hi)⟩,hH.2.2,hH.1,by have:=hH.2.1;lia⟩)
  ·obtain⟨hJ,hs,n1,n2⟩:=hC
   have push:∀st3,SB a0 κ st3→Ch K (arrOf st3) 0 (pendingOf st3).toList lo→SR K (arrOf st3) lo (lo+n)→SI a0 κ K (lo+n) (setPending st3 ((pendingOf st3).push (lo,n,0))):=fun st3 b3 c3 s3=>⟨⟨b3.perm,b3.failed,b3.kind⟩,by
    show Ch K (arrOf st3) 0 ((pendingOf st3).push (lo,n,0)).toList (lo+n)
    rw[Array.toList_push]
    exact c3.join ⟨rfl,n1,s3,rfl⟩,n2⟩
   refine Zq (wpS_get ?_)
   cases hbk:(pendingOf st2).back? with
   |none=>exact Zq (wpS_modify (Zu ⟨lo+n,rfl,push st2 hJ.1 hJ.2 hs,by lia⟩))
   |some t=>
    refine Zq (wpS_mono (Ye (I:=fun y c st3=>c=(none,())∧(SB a0 κ st3∧Ch K (arrOf st3) 0 (pendingOf st3).toList lo)∧SR K (arrOf st3) lo (lo+n)) (Q:=fun c st3=>c=(none,())∧(SB a0 κ st3∧Ch K (arrOf st3) 0 (pendingOf st3).toList lo)∧SR K (arrOf st3) lo (lo+n)) ?_ ?_ ⟨rfl,hJ,hs⟩) ?_)
    ·rintro y c st3 _ hy ⟨rfl,hJ3,hs3⟩
     refine Zq (wpS_get ?_)
     dsimp only
     by_cases hp1:(pendingOf st3).size>1
     ·have e1:(if(pendingOf st3).size>1 then(pendingOf st3)[(pendingOf st3).size-2]? else none)=some ((pendingOf st3)[(pendingOf st3).size-2]'(by lia)):=by rw[if_pos hp1,getElem?_pos]
      rw[e1]
      generalize((pendingOf st3)[(pendingOf st3).size-2]'(by lia))=u
      by_cases ho:u.2.2≤power' a0.size (2*t.1+t.2.1) (2*t.1+t.2.1+t.2.1+n) a0.size
      ·exact wpS_T ho (Zu ⟨rfl,hJ3,hs3⟩)
      ·refine wpS_F ho (Zq (a6u' C ⟨hJ3.1,hJ3.2,by lia⟩ (by lia) fun st4 I4 _ hF4=>?_))
       refine wpS_F (by decide) (Zu ⟨rfl,⟨I4.b,I4.ch⟩,fun i j k1 k2 k3=>?_⟩)
       rw[a1r' (hF4 i k1),a1r' (hF4 j (by lia))]
       exact hs3 i j k1 k2 k3
     ·rw[if_neg hp1]
      exact Zu ⟨rfl,hJ3,hs3⟩
    ·rintro c st3 hh
     exact hh
    ·rintro c st3 ⟨rfl,hJ3,hs3⟩
     refine Zq (wpS_modify ?_)
     refine Zq (wpS_modify (Zu ⟨lo+n,rfl,push _ ⟨hJ3.1.perm,hJ3.1.failed,hJ3.1.kind⟩ ?_ hs3,by lia⟩))
     show Ch K (arrOf st3) 0 ((pendingOf st3).modify _ _).toList lo
     rw[Array.toList_modify]
     exact Ch.modify (f:=fun x=>(x.1,x.2.1,power' a0.size (2*t.1+t.2.1) (2*t.1+t.2.1+t.2.1+n) a0.size)) (fun _=>⟨rfl,rfl⟩) hJ3.2
  ·refine Zq (wpS_lift (wpAny_rule ⟨rfl,?_⟩))
   obtain⟨hm1,hm2,hms⟩:=hH
   have hc:n<minRun' a0.size a0.size 0:=hc
   refine Zq (a5f' C (I.b.arr hp) (lo:=lo) (by lia) (by lia) hms fun zs hp2 hF2 hs2=>?_)
   refine wpS_F (by decide) (key _ _ ⟨⟨I.b.arr (hp2.trans hp),chF fun i hi=>(hF2 i (.inl hi)).trans (hF i (.inl hi))⟩,hs2,by lia,by lia⟩)
 ·rintro c st' ⟨lo,rfl,I,hx⟩
  exact⟨lo,rfl,I,by lia⟩
 ·rintro c st1 ⟨lo,rfl,I,hx⟩
  have elo:lo=a0.size:=by have:=I.le;lia
  subst elo
  refine Zq (wpS_mono (Ye (I:=fun y c st2=>c=(none,())∧SI a0 κ K a0.size st2∧(pendingOf st2).size≤1+(a0.size-y)) (Q:=fun c st2=>c=(none,())∧SI a0 κ K a0.size st2∧(pendingOf st2).size≤1) ?_ ?_ ⟨rfl,I,?_⟩) ?_)
  ·rintro y c st2 _ hy ⟨rfl,I2,hz⟩
   refine Zq (wpS_get ?_)
   by_cases hp1:(pendingOf st2).size≤1
   ·exact wpS_T hp1 (Zu ⟨rfl,I2,hp1⟩)
   ·refine wpS_F hp1 (Zq (a6u' C I2 (by have hif:∀(c:Prop) [Decidable c] (x y:Nat),x≤y→(if c then x else y)≤y:=(fun c _ x y hxy=>by split<;>lia);exact Nat.lt_of_le_of_lt (Nat.succ_le_succ (hif _ _ _ (Nat.sub_le _ 1))) (by lia)) fun st3 I3 hz3 _=>?_))
    exact wpS_F (by decide) (Zu ⟨rfl,I3,by lia⟩)
  ·rintro c st2 ⟨rfl,I2,hz⟩
   exact⟨rfl,I2,by lia⟩
  ·have:=I.ch.len
   rw[ZD]at this
   lia
  ·rintro c st2 ⟨rfl,I2,hz⟩
   refine Zu (h st2 I2.b ?_)
   have hc:=I2.ch
   have hl:(pendingOf st2).toList.length≤1:=by rwa [ZD]
   generalize(pendingOf st2).toList=L at hc hl
   cases L with
   |nil=>exact absurd (show 0=a0.size from hc) (by lia)
   |cons t r=>
    cases r with
    |nil=>
     obtain⟨e1,e2,e3,e4⟩:=hc
     have e4:0+t.2.1=a0.size:=e4
     rw[e4]at e3
     exact e3
    |cons _ _=>simp at hl
end
end Srt
end
section
set_option autoImplicit false
namespace Py
open PySem PySem.W PySem.Spec PyProof.Rows Srt
structure SOrd (n:Nat)(c:Nat→Nat→Bool):Prop where
 irr:∀i,i<n→c i i=false
 asym:∀i j,i<n→j<n→c i j=true→c j i=false
 ntr:∀i j k,i<n→j<n→k<n→c i j=false→c j k=false→c i k=false
def rankN(n:Nat)(c:Nat→Nat→Bool)(i:Nat):Nat:=((List.range n).filter fun j=>c j i).length
theorem b4h'{f g:Nat→Bool}:∀(l:List Nat),(∀x∈l,f x=true→g x=true)→(l.filter f).length≤(l.filter g).length
 | [],_=>Zl _
 |x::l,h=>by
  have ih:=b4h' l fun y hy=>h y (Zb _ hy)
  have hx:=h x Zc
  rw[List.filter_cons,List.filter_cons]
  cases e1:f x<;>cases e2:g x
  ·exact ih
  ·exact Nat.le_succ_of_le ih
  ·rw[e1,e2]at hx;cases hx rfl
  ·exact Nat.succ_le_succ ih
theorem b4i'{f g:Nat→Bool}:∀(l:List Nat),(∀x∈l,f x=true→g x=true)→(∃x∈l,f x=false∧g x=true)→(l.filter f).length<(l.filter g).length
 | [],_,h=>by obtain⟨x,hx,_⟩:=h;cases hx
 |x::l,h,k=>by
  have hx:=h x Zc
  have hl:=fun y hy=>h y (Zb x hy)
  have le:=b4h' l hl
  rw[List.filter_cons,List.filter_cons]
  cases e1:f x<;>cases e2:g x
  ·obtain⟨y,hy,k1,k2⟩:=k
   rcases Zr.mp hy with rfl|hy
   ·rw[e2]at k2;cases k2
   ·exact b4i' l hl ⟨y,hy,k1,k2⟩
  ·exact Nat.lt_succ_of_le le
  ·rw[e1,e2]at hx;cases hx rfl
  ·obtain⟨y,hy,k1,k2⟩:=k
   rcases Zr.mp hy with rfl|hy
   ·rw[e1]at k1;cases k1
   ·exact Nat.succ_lt_succ (b4i' l hl ⟨y,hy,k1,k2⟩)
theorem b2G'{n:Nat}{c:Nat→Nat→Bool}(o:SOrd n c){i j:Nat}(hi:i<n)(hj:j<n):c i j=decide (rankN n c i<rankN n c j):=by
 cases e:c i j with
 |true=>
  refine(ZK (b4i' (f:=fun k=>c k i) (g:=fun k=>c k j) _ (fun k hk h=>?_) ⟨i,List.mem_range.mpr hi,o.irr i hi,e⟩)).symm
  have hk:=List.mem_range.mp hk
  cases e2:c k j with
  |true=>rfl
  |false=>
   have:=o.ntr k j i hk hj hi e2 (o.asym i j hi hj e)
   rw[h]at this;cases this
 |false=>
  refine(ZC (Nat.not_lt.mpr (b4h' (f:=fun k=>c k j) (g:=fun k=>c k i) _ fun k hk h=>?_))).symm
  have hk:=List.mem_range.mp hk
  cases e2:c k i with
  |true=>rfl
  |false=>
   have:=o.ntr k i j hk hi hj e2 e
   rw[h]at this;cases this
theorem a8U'{α β:Type}{f:α→β}:∀{l2 m:List β},l2.Perm m→∀l1:List α,m=l1.map f→∃l:List α,l.Perm l1∧l.map f=l2:=by
 intro l2 m p
 induction p with
 |nil=>intro l1 e;cases l1 with
  |nil=>exact⟨[],.refl _,rfl⟩
  |cons _ _=>cases e
 |cons x p ih=>
  intro l1 e
  cases l1 with
  |nil=>cases e
  |cons a l1=>
   rw[ZH]at e
   obtain⟨e1,e2⟩:=List.cons.inj e
   subst e1
   obtain⟨l,h1,h2⟩:=ih l1 e2
   exact⟨a::l,h1.cons a,by rw[ZH,h2]⟩
 |swap x y l=>
  intro l1 e
  cases l1 with
  |nil=>cases e
  |cons a l1=>
   rw[ZH]at e
   obtain⟨e1,e2⟩:=List.cons.inj e
   subst e1
   cases l1 with
   |nil=>cases e2
   |cons b l1=>
    rw[ZH]at e2
    obtain⟨e3,e4⟩:=List.cons.inj e2
    subst e3
    exact⟨b::a::l1,.swap a b l1,by rw[ZH,ZH,e4]⟩
 |trans p q ih1 ih2=>
  intro l1 e
  obtain⟨l,h1,h2⟩:=ih2 l1 e
  obtain⟨l',h3,h4⟩:=ih1 l h2.symm
  exact⟨l',h3.trans h1,h4⟩
open Classical in
def idxOf(its:List Value)(x:Keyed):Nat:=if h:∃i,i<its.length∧its.getD i Value.none=x.1 then h.choose else 0
section
variable {prog:Program}{w:World}{A:Around}{E:Value→Shared→Prop}{s:Shared}{κ:SortKind}
theorem run_any{its:List Value}{c:Nat→Nat→Bool}(o:SOrd its.length c)(same:∀i j,i<its.length→j<its.length→its.getD i Value.none=its.getD j Value.none→rankN its.length c i=rankN its.length c j)(h2:2≤its.length)
  (ask:∀i j C,i<its.length→j<its.length→C (c i j) s→kas_ask prog w A κ its i j C s) {Q:SortSt→Shared→Prop}
  (h:∀(st':SortSt) (p:List Nat),failedOf st'=none→(arrOf st').map (·.2)=List.toArray (p.map fun i=>its.getD i Value.none)→p.Perm (List.range its.length)→p.Pairwise (fun i j=>c j i=false)→Q st' s):
  wpAny (model prog w) A ((sortRuns').run (SortSt.mk' κ (its.toArray.zip its.toArray) #[] 7 none)) (fun r s'=>Q r.2 s') E s:=by
 have hidx:∀i,i<its.length→idxOf its (its.getD i Value.none,its.getD i Value.none)<its.length∧its.getD (idxOf its (its.getD i Value.none,its.getD i Value.none)) Value.none=its.getD i Value.none:=fun i hi=>by
  have hx:∃j,j<its.length∧its.getD j Value.none=its.getD i Value.none:=⟨i,hi,rfl⟩
  unfold idxOf
  rw[dif_pos hx]
  exact hx.choose_spec
 have hel:∀x∈(its.toArray.zip its.toArray).toList,∃i,i<its.length∧x=(its.getD i Value.none,its.getD i Value.none):=fun x hx=>by
  rw[Array.toList_zip]at hx
  obtain⟨i,hi,rfl⟩:=ZP.mp hx
  have hi':i<its.length:=by simp at hi;exact hi
  refine⟨i,hi',?_⟩
  have e:its.getD i Value.none=its[i]:=by simp[List.getD,hi']
  rw[e]
  simp
 have C:Cmp prog w A s κ (· ∈(its.toArray.zip its.toArray).toList) (fun x=>rankN its.length c (idxOf its x)):=⟨fun x hx y hy Q E hQ=>by
  obtain⟨i,hi,rfl⟩:=hel x hx
  obtain⟨j,hj,rfl⟩:=hel y hy
  obtain⟨i1,i2⟩:=hidx i hi
  obtain⟨j1,j2⟩:=hidx j hj
  rw[←b2G' o i1 j1]at hQ
  have:=ask _ _ Q i1 j1 hQ
  unfold kas_ask at this
  rw[i2,j2]at this
  exact wpAny_mono this (fun _ _ q=>q) fun _ _ z=>z.elim⟩
 have hz:(its.toArray.zip its.toArray).size=its.length:=by simp
 have run:=a6v' (E:=E) (st:=SortSt.mk' κ (its.toArray.zip its.toArray) #[] 7 none) C ⟨.refl _,rfl,rfl⟩ rfl (by rw[hz];exact h2) (Q:=fun _ st'=>Q st' s) fun st' B hs=>by
  have hr:(its.toArray.zip its.toArray).toList=(List.range its.length).map fun i=>(its.getD i Value.none,its.getD i Value.none):=by
   apply List.ext_getElem
   ·simp
   ·intro i h1 h2
    have hi:i<its.length:=by simpa using h2
    have e:its.getD i Value.none=its[i]:=by simp[List.getD,hi]
    simp only[List.getElem_map,List.getElem_range,e]
    simp
  obtain⟨p,p1,p2⟩:=a8U' (Array.perm_iff_toList_perm.mp B.perm) _ hr
  refine h st' p B.failed ?_ p1 ?_
  ·apply Array.toList_inj.mp
   rw[Array.toList_map,←p2,Yj]
   rfl
  ·refine List.pairwise_iff_getElem.mpr fun i j hi hj hij=>?_
   have hpl:p.length=its.length:=by rw[p1.length_eq,List.length_range]
   have pi:p[i]<its.length:=List.mem_range.mp (p1.mem_iff.mp (List.getElem_mem hi))
   have pj:p[j]<its.length:=List.mem_range.mp (p1.mem_iff.mp (List.getElem_mem hj))
   have hsz:(arrOf st').size=its.length:=by rw[B.perm.size_eq,hz]
   have:=hs i j (Nat.zero_le _) (Nat.le_of_lt hij) (by rw[hz];omega)
   have ge:∀(k:Nat) (hk:k<p.length),R (fun x=>rankN its.length c (idxOf its x)) (arrOf st') k=rankN its.length c p[k]:=fun k hk=>by
    have hk':k<(arrOf st').size:=by omega
    rw[R_of hk']
    have e:(arrOf st')[k]=(its.getD p[k] Value.none,its.getD p[k] Value.none):=by
     have e1:(arrOf st').toList[k]?=some (its.getD p[k] Value.none,its.getD p[k] Value.none):=by rw[←p2,ZJ,Zg hk];rfl
     rw[ZV,getElem?_pos (arrOf st') k hk']at e1
     exact ZY e1
    rw[e]
    have pk:p[k]<its.length:=List.mem_range.mp (p1.mem_iff.mp (List.getElem_mem hk))
    obtain⟨q1,q2⟩:=hidx p[k] pk
    exact same _ _ q1 pk q2
   rw[ge i hi,ge j hj]at this
   rw[b2G' o pj pi]
   exact ZC (by omega)
 exact wpAny_mono run (fun r s' hr=>by obtain⟨rfl,q⟩:=hr;exact q) fun _ _ e=>e
end
end Py
end
section
namespace Py
open PySem PySem.Spec PyProof.Rows L2
structure LOrd (P:D→Prop)(f:D→D→Bool):Prop where
 irr:∀x,P x→f x x=false
 asym:∀x y,P x→P y→f x y=true→f y x=false
 ntr:∀x y z,P x→P y→P z→f x y=false→f y z=false→f x z=false
 tot:∀x y,P x→P y→f x y=false→f y x=false→x=y
section
variable {P:D→Prop}{f:D→D→Bool}
theorem b2H'(o:LOrd P f):∀(xs:List D),(∀x∈xs,P x)→lexB f xs xs=false
 | [],_=>rfl
 |x::xs,h=>by
  unfold lexB
  rw[o.irr x (h x Zc)]
  simpa using b2H' o xs fun y hy=>h y (Zb _ hy)
theorem b0l'(o:LOrd P f):∀(xs ys:List D),(∀x∈xs,P x)→(∀x∈ys,P x)→lexB f xs ys=true→lexB f ys xs=false
 | [],[],_,_,h=>by cases h
 | [],_::_,_,_,_=>rfl
 |_::_,[],_,_,h=>by cases h
 |x::xs,y::ys,h1,h2,h=>by
  unfold lexB at h⊢
  have px:=h1 x Zc
  have py:=h2 y Zc
  cases e:f x y with
  |true=>rw[o.asym x y px py e];simp
  |false=>
   rw[e]at h
   cases e2:f y x with
   |true=>rw[e2]at h;simp at h
   |false=>
    rw[e2]at h
    simp only[Zv,Z5]at h⊢
    exact b0l' o xs ys (fun z hz=>h1 z (Zb _ hz)) (fun z hz=>h2 z (Zb _ hz)) h
theorem lex_tot(o:LOrd P f):∀(xs ys:List D),(∀x∈xs,P x)→(∀x∈ys,P x)→lexB f xs ys=false→lexB f ys xs=false→xs=ys
 | [],[],_,_,_,_=>rfl
 | [],_::_,_,_,h,_=>by cases h
 |_::_,[],_,_,_,h=>by cases h
 |x::xs,y::ys,h1,h2,h,h'=>by
  unfold lexB at h h'
  have px:=h1 x Zc
  have py:=h2 y Zc
  cases e:f x y with
  |true=>rw[e]at h;simp at h
  |false=>
   cases e2:f y x with
   |true=>rw[e2]at h';simp at h'
   |false=>
    rw[e,e2]at h h'
    simp only[Zv,Z5]at h h'
    rw[o.tot x y px py e e2,lex_tot o xs ys (fun z hz=>h1 z (Zb _ hz)) (fun z hz=>h2 z (Zb _ hz)) h h']
theorem b2I'(o:LOrd P f):∀(xs ys zs:List D),(∀x∈xs,P x)→(∀x∈ys,P x)→(∀x∈zs,P x)→lexB f xs ys=false→lexB f ys zs=false→lexB f xs zs=false
 | [],[],zs,_,_,_,_,h=>h
 | [],_::_,_,_,_,_,h,_=>by cases h
 |_::_,_,[],_,_,_,_,_=>rfl
 |x::xs,[],z::zs,_,_,_,_,h=>by cases h
 |x::xs,y::ys,z::zs,h1,h2,h3,ha,hb=>by
  have px:=h1 x Zc
  have py:=h2 y Zc
  have pz:=h3 z Zc
  unfold lexB at ha hb⊢
  cases e1:f x y with
  |true=>rw[e1]at ha;simp at ha
  |false=>
   cases e2:f y z with
   |true=>rw[e2]at hb;simp at hb
   |false=>
    rw[e1]at ha
    rw[e2]at hb
    simp only[Zv,Z5]at ha hb
    rw[o.ntr x y z px py pz e1 e2]
    simp only[Zv,Z5]
    cases e3:f z x with
    |true=>rfl
    |false=>
     have e4:f y x=false:=o.ntr y z x py pz px e2 e3
     have e5:f z y=false:=o.ntr z x y pz px py e3 e1
     rw[e4]at ha
     rw[e5]at hb
     simp only[Zv,Z5]at ha hb⊢
     exact b2I' o xs ys zs (fun w hw=>h1 w (Zb _ hw)) (fun w hw=>h2 w (Zb _ hw)) (fun w hw=>h3 w (Zb _ hw)) ha hb
end
theorem a2S'{d:D}(h:hasTy .int d=true):∃i,d=.int i:=by
 cases d<;>first|exact⟨_,rfl⟩| (simp[hasTy]at h)
theorem a2j'{t:KTy}{d:D}(h:hasTy (.seq t) d=true):∃xs,d=.tup xs∧∀x∈xs,hasTy t x=true:=by
 cases d with
 |tup xs=>unfold hasTy at h;exact⟨xs,rfl,fun x hx=>ZN.mp h x hx⟩
 |_=>simp[hasTy]at h
theorem lordK:∀(t:KTy),noStr t=true→LOrd (fun d=>hasTy t d=true) (ltK t)
 | .int,_=>by
  refine⟨fun x h=>?_,fun x y h1 h2 h=>?_,fun x y z h1 h2 h3 ha hb=>?_,fun x y h1 h2 ha hb=>?_⟩
  ·obtain⟨i,rfl⟩:=a2S' h;simp[ltK]
  ·obtain⟨i,rfl⟩:=a2S' h1;obtain⟨j,rfl⟩:=a2S' h2;simp[ltK]at h⊢;omega
  ·obtain⟨i,rfl⟩:=a2S' h1;obtain⟨j,rfl⟩:=a2S' h2;obtain⟨k,rfl⟩:=a2S' h3;simp[ltK]at ha hb⊢;omega
  ·obtain⟨i,rfl⟩:=a2S' h1;obtain⟨j,rfl⟩:=a2S' h2;simp[ltK]at ha hb;congr 1;omega
 | .seq t,h=>by
  have o:=lordK t h
  refine⟨fun x h=>?_,fun x y h1 h2 h=>?_,fun x y z h1 h2 h3 ha hb=>?_,fun x y h1 h2 ha hb=>?_⟩
  ·obtain⟨xs,rfl,k⟩:=a2j' h;exact b2H' o xs k
  ·obtain⟨xs,rfl,k1⟩:=a2j' h1;obtain⟨ys,rfl,k2⟩:=a2j' h2;exact b0l' o xs ys k1 k2 h
  ·obtain⟨xs,rfl,k1⟩:=a2j' h1;obtain⟨ys,rfl,k2⟩:=a2j' h2;obtain⟨zs,rfl,k3⟩:=a2j' h3;exact b2I' o xs ys zs k1 k2 k3 ha hb
  ·obtain⟨xs,rfl,k1⟩:=a2j' h1;obtain⟨ys,rfl,k2⟩:=a2j' h2;exact congrArg D.tup (lex_tot o xs ys k1 k2 ha hb)
def eqK(t:KTy)(d e:D):Bool:= !ltK t d e&& !ltK t e d
theorem b0m'{t:KTy}(hs:noStr t=true){d e:D}(h1:hasTy t d=true)(h2:hasTy t e=true)(h:eqK t d e=true):d=e:=by
 unfold eqK at h
 simp at h
 exact(lordK t hs).tot d e h1 h2 h.1 h.2
theorem a2C'{f:D→D→Bool}{x y:D}{xs ys:List D}:lexB f (x::xs) (y::ys)=if f x y=true then true else if f y x=true then false else lexB f xs ys:=rfl
theorem b2J'{t:KTy}(hs:noStr t=true):∀(xs ys:List D),(∀x∈xs,hasTy t x=true)→(∀x∈ys,hasTy t x=true)→eqK (.seq t) (.tup xs) (.tup ys)=((List.zipWith (eqK t) xs ys).all id&&xs.length==ys.length)
 | [],[],_,_=>rfl
 | [],y::ys,_,_=>by simp[eqK,ltK,lexB]
 |x::xs,[],_,_=>by simp[eqK,ltK,lexB]
 |x::xs,y::ys,h1,h2=>by
  have ih:=b2J' hs xs ys (fun w hw=>h1 w (Zb _ hw)) (fun w hw=>h2 w (Zb _ hw))
  have px:=h1 x Zc
  have py:=h2 y Zc
  cases e:ltK t x y with
  |true=>
   have:eqK t x y=false:=by simp[eqK,e]
   simp[eqK,ltK,lexB,e]
  |false=>
   cases e2:ltK t y x with
   |true=>simp[eqK,ltK,lexB,e,e2]
   |false=>
    have e3:eqK t x y=true:=by simp[eqK,e,e2]
    have e4:eqK (.seq t) (.tup (x::xs)) (.tup (y::ys))=eqK (.seq t) (.tup xs) (.tup ys):=by
     show(!lexB (ltK t) (x::xs) (y::ys)&& !lexB (ltK t) (y::ys) (x::xs))=(!lexB (ltK t) xs ys&& !lexB (ltK t) ys xs)
     rw[a2C',a2C',e,e2]
     simp
    rw[e4,ih]
    simp[e3]
theorem allO_map(f:D→D→Bool):∀(xs ys:List D) (g:D→D→Option Bool),(∀x∈xs,∀y∈ys,g x y=some (f x y))→allO (List.zipWith g xs ys)=some ((List.zipWith f xs ys).all id)
 | [],_,_,_=>rfl
 |_::_,[],_,_=>rfl
 |x::xs,y::ys,g,h=>by
  have ih:=allO_map f xs ys g fun a ha b hb=>h a (Zb _ ha) b (Zb _ hb)
  show(match g x y,allO (List.zipWith g xs ys)with
   |some b,some c=>some (b&&c)
   |_,_=>none)=_
  rw[h x Zc y Zc,ih]
  rfl
theorem b2K'{t:KTy}(hs:noStr t=true){eq lt:D→D→Option Bool}:∀(xs ys:List D),(∀x∈xs,hasTy t x=true)→(∀x∈ys,hasTy t x=true)→(∀x∈xs,∀y∈ys,eq x y=some (eqK t x y)∧lt x y=some (ltK t x y))→ltL eq lt xs ys=some (lexB (ltK t) xs ys)
 | [],[],_,_,_=>rfl
 | [],_::_,_,_,_=>rfl
 |_::_,[],_,_,_=>rfl
 |x::xs,y::ys,h1,h2,h=>by
  have ih:=b2K' hs xs ys (fun w hw=>h1 w (Zb _ hw)) (fun w hw=>h2 w (Zb _ hw)) fun a ha b hb=>h a (Zb _ ha) b (Zb _ hb)
  obtain⟨k1,k2⟩:=h x Zc y Zc
  have px:=h1 x Zc
  have py:=h2 y Zc
  unfold ltL
  rw[k1,a2C']
  cases e:ltK t x y with
  |true=>
   have e1:eqK t x y=false:=by simp[eqK,e]
   rw[e1]
   show lt x y=_
   rw[k2,e];rfl
  |false=>
   cases e2:ltK t y x with
   |true=>
    have e1:eqK t x y=false:=by simp[eqK,e,e2]
    rw[e1]
    show lt x y=_
    rw[k2,e];rfl
   |false=>
    have e1:eqK t x y=true:=by simp[eqK,e,e2]
    rw[e1]
    exact ih
theorem asK(S:Store):∀(t:KTy),noStr t=true→∀n,depth t≤n→∀d e,hasTy t d=true→hasTy t e=true→eqF S n d e=some (eqK t d e)∧ltF S n d e=some (ltK t d e)
 | .int,_,0,h,_,_,_,_=>by simp[depth]at h
 | .int,_,n+1,_,d,e,h1,h2=>by
  obtain⟨i,rfl⟩:=a2S' h1
  obtain⟨j,rfl⟩:=a2S' h2
  refine⟨?_,rfl⟩
  show some (i==j)=some (!decide (i<j)&& !decide (j<i))
  congr 1
  by_cases z:i=j
  ·subst z;simp
  ·rcases Int.lt_or_gt_of_ne z with y|y
   ·simp[z,y]
   ·have:¬i<j:=by omega
    simp[z,y]
 | .seq t,hs,0,h,_,_,_,_=>by simp[depth]at h
 | .seq t,hs,n+1,h,d,e,h1,h2=>by
  obtain⟨xs,rfl,k1⟩:=a2j' h1
  obtain⟨ys,rfl,k2⟩:=a2j' h2
  have ih:=asK S t hs n (by simpa[depth]using h)
  refine⟨?_,b2K' (t:=t) hs xs ys k1 k2 fun x hx y hy=>ih x y (k1 x hx) (k2 y hy)⟩
  show(allO (List.zipWith (eqF S n) xs ys)).map (· &&xs.length==ys.length)=_
  rw[allO_map (eqK t) xs ys _ fun x hx y hy=>(ih x y (k1 x hx) (k2 y hy)).1,b2J' (t:=t) hs xs ys k1 k2]
  rfl
theorem a5P'(f:D→D→Bool)(x:D):∀l,(insB f x l).Perm (x::l)
 | []=>.refl _
 |y::ys=>by
  unfold insB
  split
  ·exact .refl _
  ·exact((a5P' f x ys).cons y).trans (.swap _ _ _)
theorem a2k'(f:D→D→Bool)(xs:List D):(a4i' f xs).Perm xs:=by
 have key:∀(xs acc:List D),(xs.foldl (fun acc x=>insB f x acc) acc).Perm (acc++xs):=by
  intro xs
  induction xs with
  |nil=>intro acc;simp
  |cons x xs ih=>
   intro acc
   refine(ih (insB f x acc)).trans ?_
   refine((a5P' f x acc).append_right xs).trans ?_
   exact List.perm_middle.symm
 simpa[a4i']using key xs []
theorem a6w'{P:D→Prop}{f:D→D→Bool}(o:LOrd P f)(x:D)(px:P x):∀l,(∀y∈l,P y)→l.Pairwise (fun a b=>f b a=false)→(insB f x l).Pairwise (fun a b=>f b a=false)
 | [],_,_=>by simp[insB]
 |y::ys,hp,h=>by
  unfold insB
  have py:=hp y Zc
  obtain⟨h1,h2⟩:=List.pairwise_cons.mp h
  split
  ·rename_i hlt
   refine List.pairwise_cons.mpr ⟨fun z hz=>?_,h⟩
   have yx:=o.asym x y px py hlt
   rcases Zr.mp hz with rfl|hz
   ·exact yx
   ·exact o.ntr z y x (hp z (Zb _ hz)) py px (h1 z hz) yx
  ·rename_i hlt
   refine List.pairwise_cons.mpr ⟨fun z hz=>?_,a6w' o x px ys (fun w hw=>hp w (Zb _ hw)) h2⟩
   rcases Zr.mp ((a5P' f x ys).mem_iff.mp hz)with rfl|hz
   ·simpa using hlt
   ·exact h1 z hz
theorem a4C'{P:D→Prop}{f:D→D→Bool}(o:LOrd P f)(xs:List D)(hp:∀x∈xs,P x):(a4i' f xs).Pairwise (fun a b=>f b a=false):=by
 have key:∀(xs acc:List D),(∀x∈xs,P x)→(∀x∈acc,P x)→acc.Pairwise (fun a b=>f b a=false)→(xs.foldl (fun acc x=>insB f x acc) acc).Pairwise (fun a b=>f b a=false):=by
  intro xs
  induction xs with
  |nil=>intro acc _ _ h;exact h
  |cons x xs ih=>
   intro acc h1 h2 h
   have px:=h1 x Zc
   refine ih (insB f x acc) (fun y hy=>h1 y (Zb _ hy)) (fun y hy=>?_) (a6w' o x px acc h2 h)
   rcases Zr.mp ((a5P' f x acc).mem_iff.mp hy)with rfl|hy
   ·exact px
   ·exact h2 y hy
 exact key xs [] hp (by simp) .nil
theorem a4D'{t:KTy}(hs:noStr t=true){xs ys:List D}(hp:∀x∈xs,hasTy t x=true)(p:ys.Perm xs)(s:ys.Pairwise (fun a b=>ltK t b a=false)):ys=a4i' (ltK t) xs:=by
 have o:=lordK t hs
 refine List.Perm.eq_of_pairwise (le:=fun a b=>ltK t b a=false) (fun a b ha hb h1 h2=>?_) s (a4C' o xs hp) (p.trans (a2k' _ _).symm)
 exact o.tot a b (hp a (p.mem_iff.mp ha)) (hp b ((a2k' _ _).mem_iff.mp hb)) h2 h1
end Py
end
section
namespace Py
open PySem PySem.W PySem.Spec PyProof.Rows
section
variable {prog:Program}{w:World}{A:Around}{E:Value→Shared→Prop}{s:Shared}
def Outs(its:List Value)(c:Nat→Nat→Bool)(out:List Value):Prop:=∃p:List Nat,out=p.map (fun i=>its.getD i Value.none)∧p.Perm (List.range its.length)∧p.Pairwise (fun i j=>c j i=false)
theorem a7y'{a:Addr}{its:List Value}{n0:Nat}{c:Nat→Nat→Bool}{P:PySem.Fin→Shared→Prop}(ho:s.heap.get? a=some (seqObj "list" its.toArray n0))(h64:its.length≤sizeLine)
  (hk:2≤its.length→∃κ:SortKind,SOrd its.length c∧(∀i j,i<its.length→j<its.length→its.getD i Value.none=its.getD j Value.none→rankN its.length c i=rankN its.length c j)∧∀h':Heap,(∀b o,b≠a→s.heap.get? b=some o→h'.get? b=some o)→
   (∀(Q':SortKind→Shared→Prop),Q' κ {s with heap:=h'}→wpAny (model prog w) A (keyKind' its.toArray) Q' E {s with heap:=h'})∧
   ∀i j C,i<its.length→j<its.length→C (c i j) {s with heap:=h'}→kas_ask prog w A κ its i j C {s with heap:=h'})
  (hP:∀h' c2 out,(∀b o,b≠a→s.heap.get? b=some o→h'.get? b=some o)→h'.get? a=some (seqObj "list" (List.toArray out) c2)→Outs its c out→P (.done (.ret .none)) {s with heap:=h'}):
  wpAny (model prog w) A (Builtin.«list.sort» ⟨[.ref a],[]⟩) P E s:=by
 have ha:a<s.heap.objs.size:=Zs ho
 have s1:=Heap.SameBut.update s.heap a (Obj.mapSeq fun _=>(#[]:Array Value))
 obtain⟨e1,ho1⟩:∃e1,(s.heap.update a (Obj.mapSeq fun _=>(#[]:Array Value))).get? a=some (seqObj "list" #[] e1):=⟨_,get?_update_seq ho fun _=> #[]⟩
 have keep:∀b o,b≠a→s.heap.get? b=some o→(((s.heap.update a (Obj.mapSeq fun _=>(#[]:Array Value))).push (seqObj "tuple" its.toArray 0)).push (seqObj "list" #[] 0)).get? b=some o:=fun b o hb e=>
  Zf _ (Zf _ ((s1.2 b hb).trans e))
 have ho2:(((s.heap.update a (Obj.mapSeq fun _=>(#[]:Array Value))).push (seqObj "tuple" its.toArray 0)).push (seqObj "list" #[] 0)).get? a=some (seqObj "list" #[] e1):=Zf _ (Zf _ ho1)
 rw[list_sort_plain]
 refine Za (listItems_at ho rfl ?_)
 refine Za (listUpdate_at ho rfl ?_ (by rw[Zj];exact h64) (Nat.zero_le _))
 refine Za (seqEpoch_at ho1 rfl ?_)
 refine Za (wpAny_newTuple ?_ (by show its.length≤_;exact h64))
 refine Za (wpAny_newList ?_ (Nat.zero_le _))
 refine wpAny_holding ?_
 show wpAny (model prog w) A _ P E {s with heap:=((s.heap.update a (Obj.mapSeq fun _=>(#[]:Array Value))).push (seqObj "tuple" its.toArray 0)).push (seqObj "list" #[] 0)}
 generalize((s.heap.update a (Obj.mapSeq fun _=>(#[]:Array Value))).push (seqObj "tuple" its.toArray 0)).push (seqObj "list" #[] 0)=h1 at*
 have fin:∀(st':SortSt) (out:List Value),(arrOf st').map (·.2)=List.toArray out→failedOf st'=none→out.length=its.length→Outs its c out→
   wpAny (model prog w) A (do
    let touched:=(←seqEpoch a) !=e1
    Builtin.List.listUpdate (.ref a) fun _=>(arrOf st').map (·.2)
    if let some e:=failedOf st' then rule "list.sort.comparison-raised";throw e
    if touched then rule "list.sort.modified";raiseError "ValueError" "list modified during sort"
    ret .none) P E {s with heap:=h1}:=by
  intro st' out hout hf hlen hO
  have s2:=Heap.SameBut.update h1 a (Obj.mapSeq fun _=>List.toArray out)
  obtain⟨c2,hc2⟩:∃c2,(h1.update a (Obj.mapSeq fun _=>List.toArray out)).get? a=some (seqObj "list" (List.toArray out) c2):=⟨_,get?_update_seq ho2 fun _=>List.toArray out⟩
  rw[hout]
  refine Za (seqEpoch_at ho2 rfl ?_)
  refine Za (listUpdate_at ho2 rfl ?_ (Nat.zero_le _) (by rw[Zj,hlen];exact Nat.le_succ_of_le h64))
  rw[hf]
  simp only[bne_self_eq_false,Zv,Z5]
  exact Zi (hP _ c2 out (fun b o hb e=>(s2.2 b hb).trans (keep b o hb e)) hc2 hO)
 by_cases h2:2≤its.length
 ·have hn2:¬its.toArray.size<2:=by rw[Zj];omega
  rw[if_neg hn2,if_neg hn2]
  obtain⟨κ,o,same,hk⟩:=hk h2
  obtain⟨k1,k2⟩:=hk h1 keep
  refine Za (k1 _ ?_)
  have run:=run_any (E:=E) o same h2 k2 (Q:=fun st' s'=>s'={s with heap:=h1}∧failedOf st'=none∧∃out:List Value,(arrOf st').map (·.2)=List.toArray out∧out.length=its.length∧Outs its c out)
   (fun st' p hf hout hp hs=>⟨rfl,hf,_,hout,by rw[Zk,hp.length_eq,List.length_range],p,rfl,hp,hs⟩)
  refine Za (wpAny_mono run (fun r s' hr=>?_) fun _ _ e=>e)
  obtain⟨⟨⟩,st'⟩:=r
  obtain⟨rfl,hf,out,hout,hlen,hO⟩:=hr
  exact fin st' _ hout hf hlen hO
 ·have hn2:its.toArray.size<2:=by rw[Zj];omega
  rw[if_pos hn2,if_pos hn2]
  refine Za (Zi ?_)
  show wpAny (model prog w) A (do
    let touched:=(←seqEpoch a) !=e1
    Builtin.List.listUpdate (.ref a) fun _=>(arrOf (SortSt.mk' general' (its.toArray.zip its.toArray) #[] 7 none)).map (·.2)
    if let some e:=failedOf (SortSt.mk' general' (its.toArray.zip its.toArray) #[] 7 none)then rule "list.sort.comparison-raised";throw e
    if touched then rule "list.sort.modified";raiseError "ValueError" "list modified during sort"
    ret .none) P E {s with heap:=h1}
  refine fin _ its ?_ rfl rfl ⟨List.range its.length,?_,.refl _,?_⟩
  ·show(its.toArray.zip its.toArray).map (·.2)=its.toArray
   apply Array.toList_inj.mp
   rw[Array.toList_map,Array.toList_zip]
   exact List.map_snd_zip (Zl _)
  ·refine List.ext_getElem (by simp) fun i h1 h2=>?_
   simp[h1]
  ·match its,h2 with
   | [],_=>simp
   | [_],_=>simp
   |_::_::_,h2=>simp at h2
end
end Py
end
section
namespace Py
open PySem PySem.W PySem.Spec PyProof.Rows L2
section
variable {prog:Program}{w:World}{A:Around}{E:Value→Shared→Prop}{s:Shared}
theorem a8V'{b:Bool}{l:Addr}{its:List Value}{c:Nat→Nat→Bool}{Q:Value→Shared→Prop}(hl:IsSq b s.heap l its.toArray)(h64:its.length≤sizeLine)
  (hk:2≤its.length→∃κ:SortKind,SOrd its.length c∧(∀i j,i<its.length→j<its.length→its.getD i Value.none=its.getD j Value.none→rankN its.length c i=rankN its.length c j)∧∀h':Heap,(∀b o,s.heap.get? b=some o→h'.get? b=some o)→
   (∀(E':Value→Shared→Prop) (Q':SortKind→Shared→Prop),Q' κ {s with heap:=h'}→wpAny (model prog w) A.in1.in1 (keyKind' its.toArray) Q' E' {s with heap:=h'})∧
   ∀i j C,i<its.length→j<its.length→C (c i j) {s with heap:=h'}→kas_ask prog w A.in1.in1 κ its i j C {s with heap:=h'})
  (hQ:∀(h1 h':Heap) c2 out,(∀b o,s.heap.get? b=some o→h1.get? b=some o)→(∀b o,h1.get? b=some o→h'.get? b=some o)→h'.get? h1.objs.size=some (seqObj "list" (List.toArray out) c2)→Outs its c out→Q (.ref h1.objs.size) {s with heap:=h'}):
  wpAny (model prog w) A (call (.builtin "sorted") [.ref l]) Q E s:=by
 refine Calls.call_function_entry kind_sorted plain_sorted entry_sorted (args_sorted1 _) ?_
 unfold Builtin.«sorted»
 refine Za (m:=checkCount "sorted" 1 1 _) (Zi ?_)
 have hsz:its.toArray.size≤sizeLine:=by rw[Zj];exact h64
 have go:∀h1:Heap,(∀b o,s.heap.get? b=some o→h1.get? b=some o)→wpAny (model prog w) A.in1 (do
   let l ←newList its
   let _ ←holding [l] (call (.builtin "list.sort") [l])
   ret l) (fun fin s'=>∃v,fin=.done (.ret v)∧Q v s') E {s with heap:=h1}:=by
  intro h1 k1
  refine Za (wpAny_newList ?_ h64)
  have hoL:(h1.push (seqObj "list" its.toArray 0)).get? h1.objs.size=some (seqObj "list" its.toArray 0):=Zp _ rfl
  refine Za (wpAny_holding (Yi slot_list_sort ⟨_,hoL,rfl⟩ entry_list_sort ?body (args_list_sort _)))
  case body=>
   refine a7y' (c:=c) (s:={s with heap:=h1.push (seqObj "list" its.toArray 0)}) hoL h64 (fun h2=>?_) fun h' c2 out kp e O=>?_
   ·obtain⟨κ,o,same,hk⟩:=hk h2
    refine⟨κ,o,same,fun h' kp=>?_⟩
    obtain⟨q1,q2⟩:=hk h' fun b o e=>kp b o (ZR (Zs (k1 b o e))) (Zf _ (k1 b o e))
    exact⟨q1 _,q2⟩
   ·exact⟨_,rfl,Zi ⟨_,rfl,hQ h1 h' c2 out k1 (fun b o e=>kp b o (ZR (Zs e)) (Zf _ e)) e O⟩⟩
 cases b with
 |true=>
  obtain⟨o,ho,hc,n,hd⟩:=hl
  exact Za (wpAny_collect_seq l (.inl rfl) ho hc hd (fun h1 k1=>by simpa using go h1 k1) hsz)
 |false=>
  obtain⟨o,ho,hc,n,hd⟩:=hl
  exact Za (wpAny_collect_seq l (.inr rfl) ho hc hd (fun h1 k1=>by simpa using go h1 k1) hsz)
end
section
variable {X:Cx}{pins:List (Addr×Obj)}{σ:L2.St}{H:Hp}{s:Shared}{F μ:List Addr}{S:Store}
theorem cmpK(I:Inv X pins σ H s)(sk:SOk X.K ⟨X.mg,F⟩ μ S H){t:KTy}(hs:noStr t=true)(hd:depth t≤40){A:Around}(hu:A.units+40<cLine){d e:D}{v v':V}{u z:Value}(h1:hasTy t d=true)(h2:hasTy t e=true)
  (r1:Rep X.K ⟨X.mg,F⟩ μ H d v) (q1:RelV v u) (r2:Rep X.K ⟨X.mg,F⟩ μ H e v') (q2:RelV v' z):PySem.SeqAt.EqAt A s u z (eqK t d e)∧LtAt A s u z (ltK t d e):=by
 obtain⟨a1,a2⟩:=asK S t hs 40 hd d e h1 h2
 exact⟨(rcF I sk 40 A hu d e v v' u z _ r1 q1 r2 q2 a1).2.2,ltF_at I sk 40 A hu d e v v' u z _ r1 q1 r2 q2 a2⟩
theorem b0n'{prog:Program}{w:World}{A:Around}{Q:Bool→Shared→Prop}{t:KTy}{b:Bool}(hb:b=true→t=.int):∀(ds es:List D) (us zs:List Value) (i:Nat),(∀d∈ds,hasTy t d=true)→(∀e∈es,hasTy t e=true)→ds.length=us.length→es.length=zs.length→
  (∀(j:Nat) d e u z,ds[j]?=some d→es[j]?=some e→us[j]?=some u→zs[j]?=some z→PySem.SeqAt.EqAt A s u z (eqK t d e)∧LtAt A s u z (ltK t d e)∧(t=.int→∃a b ta tb,d=.int a∧e=.int b∧u=.int a ta∧z=.int b tb))→
  Q (lexB (ltK t) ds es) s→KatLex prog w A b (decide (us.length<zs.length)) Q (us.zip zs) i s
 | [],[],us,zs,i,_,_,l1,l2,_,q=>by
  have e1:us=[]:=ZF l1.symm
  have e2:zs=[]:=ZF l2.symm
  subst e1;subst e2;exact kat_nil q
 | [],e::es,us,zs,i,_,_,l1,l2,_,q=>by
  have e1:us=[]:=ZF l1.symm
  subst e1
  have:decide (([]:List Value).length<zs.length)=true:=by simp at l2⊢;omega
  rw[this,List.zip_nil_left];exact kat_nil q
 |d::ds,[],us,zs,i,_,_,l1,l2,_,q=>by
  have e1:zs=[]:=ZF l2.symm
  subst e1
  have:decide (us.length<([]:List Value).length)=false:=by simp
  rw[this,List.zip_nil_right];exact kat_nil q
 |d::ds,e::es,[],zs,i,_,_,l1,_,_,_=>by simp at l1
 |d::ds,e::es,_::_,[],i,_,_,_,l2,_,_=>by simp at l2
 |d::ds,e::es,u::us,z::zs,i,h1,h2,l1,l2,h,q=>by
  obtain⟨k1,k2,k3⟩:=h 0 d e u z rfl rfl rfl rfl
  have e0:decide ((u::us).length<(z::zs).length)=decide (us.length<zs.length):=by simp
  rw[e0,List.zip_cons_cons]
  refine kat_cons (k1 prog w _ _ ?_)
  rw[a2C']at q
  have no:∀{k:Bool},ltK t d e=k→eqK t d e=false→Q k s→KatGo prog w A b (decide (us.length<zs.length)) Q u z (us.zip zs) i false s:=fun{k} hk _ qk=>by
   clear q
   refine kat_no ?_
   cases hbi:(b&&i==0)with
   |false=>exact kat_one u z (k2 prog w _ _ (by rw[hk];exact qk))
   |true=>
    simp only[Zt]at hbi
    obtain⟨a,b',ta,tb,rfl,rfl,rfl,rfl⟩:=k3 (hb hbi.1)
    have ht:=hb hbi.1
    subst ht
    exact oneLt_int (by rw[show decide (a<b')=k from hk];exact qk)
  cases e1:ltK t d e with
  |true=>
   have ee:eqK t d e=false:=by simp[eqK,e1]
   rw[e1]at q
   rw[ee]
   exact no e1 ee (by simpa using q)
  |false=>
   cases e2:ltK t e d with
   |true=>
    have ee:eqK t d e=false:=by simp[eqK,e1,e2]
    rw[e1,e2]at q
    rw[ee]
    exact no e1 ee (by simpa using q)
   |false=>
    have ee:eqK t d e=true:=by simp[eqK,e1,e2]
    rw[e1,e2]at q
    rw[ee]
    refine kat_yes (b0n' hb ds es us zs (i+1) (fun x hx=>h1 x (Zb _ hx)) (fun x hx=>h2 x (Zb _ hx)) (by simpa using l1) (by simpa using l2) (fun j d' e' u' z' a1 a2 a3 a4=>h (j+1) d' e' u' z' a1 a2 a3 a4) (by simpa using q))
end
end Py
end
section
namespace Py
open PySem PySem.W PySem.Spec PyProof.Rows L2
section
variable {prog:Program}{w:World}{A:Around}{E:Value→Shared→Prop}{s:Shared}
theorem a8o'{α β:Type}{M:Model}{f:α→Sem β}{g:α→β}:∀(l:List α) {Q:List β→Shared→Prop},(∀v∈l,∀(Q':β→Shared→Prop),Q' (g v) s→wpAny M A (f v) Q' E s)→Q (l.map g) s→wpAny M A (l.mapM f) Q E s
 | [],_,_,h=>by rw[List.mapM_nil];exact Zi h
 |x::l,Q,hf,h=>by
  rw[List.mapM_cons]
  exact Za (hf x (.head _) _ (Za (a8o' l (Q:=fun bs s'=>wpAny M A (pure (g x::bs)) Q E s') (fun v hv=>hf v (.tail _ hv)) (Zi h))))
theorem one_tup{l b:Addr}{vs ws:List Value}{k:Bool}{Q:Bool→Shared→Prop}(hl:s.heap.IsTuple l vs.toArray)(hb:s.heap.IsTuple b ws.toArray)(hu:A.units<cLine)(hx:LexAt A.in1 s vs ws k)(h:Q k s):wpAny (model prog w) A (oneLt' true (.ref l) (.ref b)) Q E s:=by
 obtain⟨⟨cls,dd,data,sl⟩,ho,hc,n,hd⟩:=id hl
 obtain⟨⟨cls2,dd2,data2,sl2⟩,ho2,hc2,n2,hd2⟩:=id hb
 simp only at hc hd hc2 hd2
 subst hc hd hc2 hd2
 rw[oneLt'_eq]
 simp only[if_true]
 refine Za (wpAny_cRoomFor hu ?_)
 refine Za (wpAny_callSpecialIfBound?_slot ⟨_,ho,rfl⟩ PySem.F.slot_tuple_lt (call_meets PySem.F.slot_tuple_lt ⟨_,ho,rfl⟩ PySem.F.entry_tuple_lt (PySem.F.args_tuple_lt_2 _ _) (a6k' l b vs.toArray ws.toArray n n2 dd dd2 sl sl2 k) ⟨ho,ho2,by simpa using hx,?_⟩))
 exact Yl h
end
end Py
end
section
namespace Py
open PySem PySem.W PySem.Spec PyProof.Rows L2
section
variable {X:Cx}{pins:List (Addr×Obj)}{σ:L2.St}{H:Hp}{s:Shared}{F μ:List Addr}{S:Store}
def tyOf:KTy→String
 | .int=>"int"
 |_=>"tuple"
theorem looksK(I:Inv X pins σ H s){t:KTy}(hs:noStr t=true){d:D}{v:V}{u:Value}(h:hasTy t d=true)(r:Rep X.K ⟨X.mg,F⟩ μ H d v)(q:RelV v u):Looks (model X.prog X.w) s.heap (typeOf u) (.type (tyOf t)):=by
 have tup:∀xs,d=.tup xs→Looks (model X.prog X.w) s.heap (typeOf u) (.type "tuple"):=by
  rintro xs rfl
  obtain⟨a,vs,rfl,hq,_⟩:=a0y' r
  cases q
  obtain⟨its,_,p,_⟩:=I.tuple hq
  obtain⟨o,ho,hc,_⟩:=p
  have:=(show Looks (model X.prog X.w) s.heap (typeOf (.ref a)) o.cls from(Looks.ld ho).andThen .now)
  rwa [hc]at this
 cases t with
 |int=>
  obtain⟨i,rfl⟩:=a2S' h
  cases a0e' r
  obtain⟨tk,rfl⟩:=q
  exact(show Looks (model X.prog X.w) s.heap (typeOf (.int i tk)) (.type "int")from .now)
 |seq t=>obtain⟨xs,rfl,_⟩:=a2j' h;exact tup xs rfl
theorem a6x'(I:Inv X pins σ H s){t:KTy}(hs:noStr t=true):∀(ys:List D) (vs:List V) (its:List Value),(∀d∈ys,hasTy (.seq t) d=true∧d≠.tup [])→RepL X.K ⟨X.mg,F⟩ μ H ys vs→Vals vs its→
  ∃fs,KatTups s.heap its fs∧fs.length=its.length∧∀f∈fs,Looks (model X.prog X.w) s.heap (typeOf f) (.type (tyOf t))
 | [],vs,its,_,r,q=>by
  unfold RepL at r
  subst r
  cases q
  exact⟨[],KatTups.nil,rfl,fun _ h=>nomatch h⟩
 |d::ys,vs,its,h,r,q=>by
  obtain⟨v,ws,rfl,rd,rr⟩:=r.uncons
  cases q with
  |cons q1 q2=>
   rename_i u its'
   obtain⟨fs,k1,k2,k3⟩:=a6x' I hs ys ws its' (fun e he=>h e (Zb _ he)) rr q2
   obtain⟨h1,h2⟩:=h d Zc
   obtain⟨xs,rfl,hx⟩:=a2j' h1
   cases xs with
   |nil=>exact absurd rfl h2
   |cons x xs=>
    obtain⟨a,as,rfl,hq,ra⟩:=a0y' rd
    cases q1
    obtain⟨us,ru,p,_⟩:=I.tuple hq
    obtain⟨w,ws',rfl,rx,_⟩:=ra.uncons
    cases ru with
    |cons p1 p2=>
     rename_i f us'
     obtain⟨o,ho,hc,n,hd⟩:=p
     refine⟨f::fs,KatTups.cons ho hc hd (by simp) k1,by simp[k2],fun g hg=>?_⟩
     rcases Zr.mp hg with rfl|hg
     ·exact looksK I hs (hx x Zc) rx p1
     ·exact k3 g hg
theorem askK(I:Inv X pins σ H s)(sk:SOk X.K ⟨X.mg,F⟩ μ S H){t:KTy}(hs:noStr t=true)(hd:depth t≤40){A:Around}(hu:A.units+42<cLine){d e:D}{v v':V}{u z:Value}(h1:hasTy (.seq t) d=true)(h2:hasTy (.seq t) e=true)
  (r1:Rep X.K ⟨X.mg,F⟩ μ H d v) (q1:RelV v u) (r2:Rep X.K ⟨X.mg,F⟩ μ H e v') (q2:RelV v' z) {C:Bool→Shared→Prop} {E:Value→Shared→Prop} (hC:C (ltK (.seq t) d e) s):wpAny (model X.prog X.w) A (keyLt' (tuples' (Value.type (tyOf t) !=Value.type "tuple")) u z) C E s:=by
 obtain⟨xs,rfl,hx⟩:=a2j' h1
 obtain⟨ys,rfl,hy⟩:=a2j' h2
 obtain⟨a,as,rfl,ha,ra⟩:=a0y' r1
 obtain⟨b,bs,rfl,hb,rb⟩:=a0y' r2
 cases q1
 cases q2
 obtain⟨us,ru,pa,_⟩:=I.tuple ha
 obtain⟨zs,rz,pb,_⟩:=I.tuple hb
 obtain⟨oa,ea,_,na,da⟩:=pa
 obtain⟨ob,eb,_,nb,db⟩:=pb
 refine kat_lt ea da eb db ?_
 have l1:xs.length=us.length:=by rw[ra.length,ru.length]
 have l2:ys.length=zs.length:=by rw[rb.length,rz.length]
 have:=b0n' (prog:=X.prog) (w:=X.w) (A:=A) (s:=s) (Q:=C) (t:=t) (b:=(Value.type (tyOf t) !=Value.type "tuple")) (fun hb=>?_) xs ys us zs 0 hx hy l1 l2 (fun j d e u z g1 g2 g3 g4=>?_) hC
 ·simpa using this
 ·cases t with
  |int=>rfl
  |seq t=>exact absurd hb (by show ¬((Value.type "tuple" !=Value.type "tuple")=true);decide)
 ·obtain⟨w1,e1,k1⟩:=ra.get g1
  obtain⟨w2,e2,k2⟩:=rb.get g2
  obtain⟨u',e3,k3⟩:=ru.get e1
  obtain⟨z',e4,k4⟩:=rz.get e2
  rw[g3]at e3;cases e3
  rw[g4]at e4;cases e4
  obtain⟨c1,c2⟩:=cmpK I sk hs hd (A:=A) (by omega) (hx d (Zz g1)) (hy e (Zz g2)) k1 k3 k2 k4
  refine⟨c1,c2,fun ht=>?_⟩
  subst ht
  obtain⟨i,rfl⟩:=a2S' (hx d (Zz g1))
  obtain⟨j,rfl⟩:=a2S' (hy e (Zz g2))
  cases a0e' k1
  cases a0e' k2
  obtain⟨ta,rfl⟩:=k3
  obtain⟨tb,rfl⟩:=k4
  exact⟨i,j,ta,tb,rfl,rfl,rfl,rfl⟩
end
section
variable {X:Cx}{pins:List (Addr×Obj)}{σ:L2.St}{H:Hp}{s:Shared}{F μ:List Addr}{S:Store}
theorem b2L'{A:Around}{t:KTy}(hs:noStr t=true):∀(ds es:List D) (us zs:List Value),(∀d∈ds,hasTy t d=true)→(∀e∈es,hasTy t e=true)→ds.length=us.length→es.length=zs.length→(∀(j:Nat) d e u z,ds[j]?=some d→es[j]?=some e→us[j]?=some u→zs[j]?=some z→PySem.SeqAt.EqAt A s u z (eqK t d e)∧LtAt A s u z (ltK t d e))→LexAt A s us zs (lexB (ltK t) ds es)
 | [],[],us,zs,_,_,l1,l2,_=>by
  cases ZF l1.symm
  cases ZF l2.symm
  exact .nn
 | [],e::es,us,zs,_,_,l1,l2,_=>by
  cases ZF l1.symm
  cases zs with
  |nil=>cases l2
  |cons z zs=>exact .nc
 |d::ds,[],us,zs,_,_,l1,l2,_=>by
  cases ZF l2.symm
  cases us with
  |nil=>cases l1
  |cons u us=>exact .cn
 |d::ds,e::es,us,zs,h1,h2,l1,l2,hc=>by
  cases us with
  |nil=>cases l1
  |cons u us=>
   cases zs with
   |nil=>cases l2
   |cons z zs=>
    have t1:=h1 d Zc
    have t2:=h2 e Zc
    obtain⟨c1,c2⟩:=hc 0 d e u z rfl rfl rfl rfl
    have lo:=lordK t hs
    cases ek:eqK t d e with
    |true=>
     rw[ek]at c1
     have hde:=b0m' hs t1 t2 ek
     subst hde
     rw[a2C',lo.irr d t1]
     exact .eq c1 (b2L' hs ds es us zs (fun x hx=>h1 x (Zb _ hx)) (fun x hx=>h2 x (Zb _ hx)) (Nat.succ.inj l1) (Nat.succ.inj l2) fun j d e u z g1 g2 g3 g4=>hc (j+1) d e u z g1 g2 g3 g4)
    |false=>
     rw[ek]at c1
     have:lexB (ltK t) (d::ds) (e::es)=ltK t d e:=by
      rw[a2C']
      cases l:ltK t d e with
      |true=>rfl
      |false=>
       cases l':ltK t e d with
       |true=>rfl
       |false=>unfold eqK at ek;rw[l,l']at ek;cases ek
     rw[this]
     exact .lt c1 c2
theorem askK0(I:Inv X pins σ H s)(sk:SOk X.K ⟨X.mg,F⟩ μ S H){t:KTy}(hs:noStr t=true)(hd:depth t≤40){A:Around}(hu:A.units+42<cLine){d e:D}{v v':V}{u z:Value}(h1:hasTy (.seq t) d=true)(h2:hasTy (.seq t) e=true)
  (r1:Rep X.K ⟨X.mg,F⟩ μ H d v) (q1:RelV v u) (r2:Rep X.K ⟨X.mg,F⟩ μ H e v') (q2:RelV v' z) {C:Bool→Shared→Prop} {E:Value→Shared→Prop} (hC:C (ltK (.seq t) d e) s):wpAny (model X.prog X.w) A (keyLt' oneType' u z) C E s:=by
 obtain⟨xs,rfl,hx⟩:=a2j' h1
 obtain⟨ys,rfl,hy⟩:=a2j' h2
 obtain⟨a,as,rfl,ha,ra⟩:=a0y' r1
 obtain⟨b,bs,rfl,hb,rb⟩:=a0y' r2
 cases q1
 cases q2
 obtain⟨us,ru,pa,_⟩:=I.tuple ha
 obtain⟨zs,rz,pb,_⟩:=I.tuple hb
 have l1:xs.length=us.length:=by rw[ra.length,ru.length]
 have l2:ys.length=zs.length:=by rw[rb.length,rz.length]
 rw[keyLt'_oneType]
 refine one_tup pa pb (by omega) (b2L' hs xs ys us zs hx hy l1 l2 fun j d e u z g1 g2 g3 g4=>?_) hC
 obtain⟨w1,e1,k1⟩:=ra.get g1
 obtain⟨w2,e2,k2⟩:=rb.get g2
 obtain⟨u',e3,k3⟩:=ru.get e1
 obtain⟨z',e4,k4⟩:=rz.get e2
 rw[g3]at e3;cases e3
 rw[g4]at e4;cases e4
 exact cmpK I sk hs hd (A:=A.in1) (by show A.units+1+40<cLine;omega) (hx d (Zz g1)) (hy e (Zz g2)) k1 k3 k2 k4
theorem kind0(I:Inv X pins σ H s){A:Around}{E:Value→Shared→Prop}{t:KTy}{ys:List D}{vs:List V}{its:List Value}(h2:2≤its.length)(hty:∀y∈ys,hasTy (.seq t) y=true)(h0:isNil (ys.headD .non)=true)(rr:RepL X.K ⟨X.mg,F⟩ μ H ys vs)(hv:Vals vs its){Q:SortKind→Shared→Prop}(q:Q oneType' s):wpAny (model X.prog X.w) A (keyKind' its.toArray) Q E s:=by
 have tups:∀(i:Nat) (u:Value),its[i]?=some u→∃a us,u=.ref a∧IsTup s.heap a (List.toArray us)∧(i=0→us=[]):=fun i u hi=>by
  have hi':i<its.length:=(Zh.mp hi).1
  have hiy:i<ys.length:=by rw[rr.length,hv.length];exact hi'
  have e1:ys[i]?=some ys[i]:=Zg hiy
  obtain⟨v,e2,k⟩:=rr.get e1
  obtain⟨u',e3,k2⟩:=hv.get e2
  rw[hi]at e3;cases e3
  obtain⟨xs,ex,_⟩:=a2j' (hty _ (List.getElem_mem hiy))
  rw[ex]at k
  obtain⟨a,as,rfl,ha,ra⟩:=a0y' k
  cases k2
  obtain⟨us,ru,pa,_⟩:=I.tuple ha
  refine⟨a,us,rfl,pa,fun z=>?_⟩
  subst z
  have:ys.headD .non=.tup xs:=by
   cases ys with
   |nil=>cases e1
   |cons y ys=>exact ex
  rw[this]at h0
  cases xs with
  |nil=>
   have:=ra.length
   rw[ru.length]at this
   exact ZF this.symm
  |cons _ _=>cases h0
 have look:∀u∈its,Looks (model X.prog X.w) s.heap (typeOf u) (.type "tuple"):=fun u hu=>by
  obtain⟨i,hi,rfl⟩:=ZP.mp hu
  obtain⟨a,us,e,p,_⟩:=tups i _ (Zg hi)
  rw[e]
  obtain⟨o,ho,hc,_⟩:=p
  have:=(show Looks (model X.prog X.w) s.heap (typeOf (.ref a)) o.cls from(Looks.ld ho).andThen .now)
  rwa [hc]at this
 cases its with
 |nil=>simp at h2
 |cons u0 its=>
 obtain⟨a0,us0,rfl,p0,z0⟩:=tups 0 u0 rfl
 cases z0 rfl
 have fo:∀u∈Value.ref a0::its,∃o,(∀(Q':Option Value→Shared→Prop),Q' o s→wpAny (model X.prog X.w) A (firstOfTuple' u) Q' E s)∧(u=.ref a0→o=none):=fun u hu=>by
  obtain⟨i,hi,rfl⟩:=ZP.mp hu
  obtain⟨a,us,e,p,_⟩:=tups i _ (Zg hi)
  have pp:=id p
  obtain⟨o,ho,hc,n,hd⟩:=p
  refine⟨us[0]?,fun Q' hq=>?_,fun z=>?_⟩
  ·rw[e,kas_first_eq]
   refine Za (Looks.here (show Looks (model X.prog X.w) s.heap (typeOf (.ref a)) o.cls from(Looks.ld ho).andThen .now) ?_)
   rw[hc,if_neg (by first|decide|simp)]
   refine Za (listItems_at ho hd (Zi ?_))
   simpa using hq
  ·rw[e]at z
   cases z
   obtain⟨o',ho',hc',n',hd'⟩:=p0
   rw[ho]at ho'
   cases ho'
   rw[hd]at hd'
   cases hd'
   rfl
 have fo':∀u∈Value.ref a0::its,∀(Q':Option Value→Shared→Prop),Q' (open Classical in if h:u∈Value.ref a0::its then(fo u h).choose else none) s→wpAny (model X.prog X.w) A (firstOfTuple' u) Q' E s:=fun u hu Q' hq=>by
  rw[dif_pos hu]at hq
  exact(fo u hu).choose_spec.1 Q' hq
 have g0:(open Classical in if h:Value.ref a0∈Value.ref a0::its then(fo _ h).choose else none)=none:=by
  rw[dif_pos Zc]
  exact(fo _ Zc).choose_spec.2 rfl
 rw[keyKind'_eq,List.mapM_toArray,map_eq_pure_bind]
 refine Za (Za (a8o' _ fo' (Zi ?_)))
 rw[ZH,g0,if_neg (by simp),if_neg (by simp),oneTypeOnly'_eq,List.mapM_toArray,map_eq_pure_bind]
 refine Za (Za (Za (kas_mapM (r:=.type "tuple") _ (fun v hv Q' hq=>(look v hv).here hq) (Zi ?_))))
 have hall:((List.map (fun _=>Value.type "tuple") (Value.ref a0::its)).toArray.all fun x=>x==Value.type "tuple")=true:=by
  simp only[List.all_toArray,List.all_map,ZN]
  intro _ _
  exact beq_self_eq_true _
 have h0:(List.map (fun _=>Value.type "tuple") (Value.ref a0::its)).toArray[0]?=some (Value.type "tuple"):=by simp
 rw[h0]
 simp only[hall,if_true]
 exact Zi (Zi q)
end
section
variable {X:Cx}
theorem b4j'(hu:X.A.units+64<cLine)(box:Bool)(t:KTy)(hdt:depth t≤40):CallR X (.builtin "sorted") (rC X.K X.mg (a4z' box t)):=by
 intro pins s σ H xs us Q I r h
 obtain⟨F,μ,S,ds,sk,rl,w⟩:=h
 unfold a4z' at w
 split at w
 ·rename_i d
  obtain⟨v,rfl,rd⟩:=rl.one
  obtain⟨u,rfl,ru⟩:=vals1 r
  split at w
  ·rename_i ys e
   split at w
   ·rename_i hc
    obtain⟨hty,h64,hso⟩:=hc
    have hty':∀y∈ys,hasTy t y=true:=fun y hy=>ZN.mp hty y hy
    obtain⟨a,vs,rfl,hq,rr⟩:=a5j' sk rd e
    cases ru
    obtain⟨b,its,hl,hv⟩:∃b its,IsSq b s.heap a (List.toArray its)∧Vals vs its:=by
     rcases hq with hq|hq
     ·obtain⟨its,r',p,_⟩:=I.list hq;exact⟨true,its,p.isList,r'⟩
     ·obtain⟨its,r',p,_⟩:=I.tuple hq;exact⟨false,its,p,r'⟩
    have l1:ys.length=vs.length:=rr.length
    have l2:vs.length=its.length:=hv.length
    have hs:noStr t=true:=by
     cases t with
     |int=>rfl
     |seq t=>unfold a4y' at hso;simp only[Zt]at hso;exact hso.1
    have lo:=lordK t hs
    have at_:∀i,i<its.length→∃d v u,ys[i]?=some d∧vs[i]?=some v∧its[i]?=some u∧hasTy t d=true∧Rep X.K ⟨X.mg,F⟩ μ H d v∧RelV v u∧ys.getD i .non=d∧its.getD i Value.none=u:=fun i hi=>by
     have e1:ys[i]?=some ys[i]:=Zg (by omega)
     obtain⟨v,e2,k⟩:=rr.get e1
     obtain⟨u,e3,k2⟩:=hv.get e2
     exact⟨_,v,u,e1,e2,e3,hty' _ (List.getElem_mem _),k,k2,by simp[List.getD,e1],by simp[List.getD,e3]⟩
    have ord:SOrd its.length (fun i j=>ltK t (ys.getD i .non) (ys.getD j .non)):=by
     have ty:∀i,i<its.length→hasTy t (ys.getD i .non)=true:=fun i hi=>by
      obtain⟨d,v,u,e1,e2,e3,k1,k2,k3,k4,k5⟩:=at_ i hi
      rw[k4];exact k1
     exact⟨fun i hi=>lo.irr _ (ty i hi),fun i j hi hj=>lo.asym _ _ (ty i hi) (ty j hj),fun i j k hi hj hk=>lo.ntr _ _ _ (ty i hi) (ty j hj) (ty k hk)⟩
    have same:∀i j,i<its.length→j<its.length→its.getD i Value.none=its.getD j Value.none→rankN its.length (fun i j=>ltK t (ys.getD i .non) (ys.getD j .non)) i=rankN its.length (fun i j=>ltK t (ys.getD i .non) (ys.getD j .non)) j:=fun i j hi hj hij=>by
     obtain⟨d,v,u,e1,e2,e3,g1,g2,g3,g4,g5⟩:=at_ i hi
     obtain⟨d',v',u',e1',e2',e3',g1',g2',g3',g4',g5'⟩:=at_ j hj
     rw[g5,g5']at hij
     subst hij
     have ev:v=v':=g3.inj g3'
     subst ev
     have:=b2z' I sk 40 d d' v _ g2 g2' (asK S t hs 40 hdt d d' g1 g1').1
     have hde:=b0m' hs g1 g1' this
     subst hde
     unfold rankN
     simp only[g4,g4']
    refine a8V' (c:=fun i j=>ltK t (ys.getD i .non) (ys.getD j .non)) hl (by rw[sizeLine_eq];omega) (fun h2=>?_) fun h1 h' c2 out k1 k2 eo O=>?_
    ·have hu2:(X.A.in1.in1).units+42<cLine:=by
      show X.A.units+1+1+42<cLine
      omega
     cases t with
     |int=>
      refine⟨oneType',ord,same,fun h' kp=>⟨fun E' Q' q=>?_,fun i j C hi hj hC=>?_⟩⟩
      ·have I':Inv X pins σ H {s with heap:=h'}:=I.kept (t':=s.toks) kp
       refine kas_kind (T:=.type "int") h2 (fun u hu=>?_) (by decide) (by decide) q
       obtain⟨i,hi,rfl⟩:=ZP.mp hu
       obtain⟨d,v,u,e1,e2,e3,g1,g2,g3,g4,g5⟩:=at_ i hi
       rw[Zg hi]at e3
       cases e3
       exact looksK (t:=.int) I' rfl g1 g2 g3
      ·obtain⟨d,v,u,e1,e2,e3,g1,g2,g3,g4,g5⟩:=at_ i hi
       obtain⟨d',v',u',e1',e2',e3',g1',g2',g3',g4',g5'⟩:=at_ j hj
       unfold kas_ask
       rw[g5,g5']
       rw[g4,g4']at hC
       obtain⟨x,rfl⟩:=a2S' g1
       obtain⟨y,rfl⟩:=a2S' g1'
       cases a0e' g2
       cases a0e' g2'
       obtain⟨ta,rfl⟩:=g3
       obtain⟨tb,rfl⟩:=g3'
       exact kat_lt_int hC
     |seq t=>
      unfold a4y' at hso
      have hso2:=(Bool.and_eq_true_iff.mp hso).2
      rcases Bool.or_eq_true_iff.mp hso2 with hso3|hso3
      rotate_left
      ·refine⟨oneType',ord,same,fun h' kp=>⟨fun E' Q' q=>?_,fun i j C hi hj hC=>?_⟩⟩
       ·have I':Inv X pins σ H {s with heap:=h'}:=I.kept (t':=s.toks) kp
        exact kind0 I' h2 hty' hso3 rr hv q
       ·have I':Inv X pins σ H {s with heap:=h'}:=I.kept (t':=s.toks) kp
        obtain⟨d,v,u,e1,e2,e3,g1,g2,g3,g4,g5⟩:=at_ i hi
        obtain⟨d',v',u',e1',e2',e3',g1',g2',g3',g4',g5'⟩:=at_ j hj
        unfold kas_ask
        rw[g5,g5']
        rw[g4,g4']at hC
        exact askK0 (t:=t) I' sk hs (by simp[depth]at hdt;omega) hu2 g1 g1' g2 g3 g2' g3' hC
      have hne:∀y∈ys,hasTy (.seq t) y=true∧y≠.tup []:=fun y hy=>⟨hty' y hy,fun z=>by
       have:=ZN.mp hso3 y hy
       rw[z]at this
       cases this⟩
      refine⟨tuples' (Value.type (tyOf t) !=Value.type "tuple"),ord,same,fun h' kp=>⟨fun E' Q' q=>?_,fun i j C hi hj hC=>?_⟩⟩
      ·have I':Inv X pins σ H {s with heap:=h'}:=I.kept (t':=s.toks) kp
       obtain⟨fs,f1,f2,f3⟩:=a6x' (t:=t) I' hs ys vs its hne rr hv
       exact kat_kind (T:=.type (tyOf t)) f1 (by omega) f3 (by simp) q
      ·have I':Inv X pins σ H {s with heap:=h'}:=I.kept (t':=s.toks) kp
       obtain⟨d,v,u,e1,e2,e3,g1,g2,g3,g4,g5⟩:=at_ i hi
       obtain⟨d',v',u',e1',e2',e3',g1',g2',g3',g4',g5'⟩:=at_ j hj
       unfold kas_ask
       rw[g5,g5']
       rw[g4,g4']at hC
       exact askK (t:=t) I' sk hs (by simp[depth]at hdt;omega) hu2 g1 g1' g2 g3 g2' g3' hC
    ·obtain⟨p,rfl,pp,pw⟩:=O
     have hp:∀i∈p,i<its.length:=fun i hi=>by simpa using pp.mem_iff.mp hi
     have hlen:p.length=its.length:=by rw[pp.length_eq];simp
     have fin:RepL X.K ⟨X.mg,F⟩ μ H (p.map fun i=>ys.getD i .non) (p.map fun i=>vs.getD i .non):=RepL.of (by simp) fun j d v h1 h2=>by
      rw[ZJ]at h1 h2
      cases ej:p[j]? with
      |none=>rw[ej]at h1;cases h1
      |some i=>
       rw[ej]at h1 h2
       obtain⟨d',v',u',e1',e2',e3',g1',g2',g3',g4',g5'⟩:=at_ i (hp i (Zz ej))
       cases h1
       cases h2
       show Rep X.K ⟨X.mg,F⟩ μ H (ys.getD i .non) (vs.getD i .non)
       rw[g4']
       have:vs.getD i .non=v':=by simp[List.getD,e2']
       rw[this];exact g2'
     have fin2:Vals (p.map fun i=>vs.getD i .non) (p.map fun i=>its.getD i Value.none):=by
      have:∀(l:List Nat),(∀i∈l,i<its.length)→Vals (l.map fun i=>vs.getD i .non) (l.map fun i=>its.getD i Value.none):=by
       intro l
       induction l with
       |nil=>exact fun _=>.nil
       |cons i l ih=>
        intro h
        obtain⟨d',v',u',e1',e2',e3',g1',g2',g3',g4',g5'⟩:=at_ i (h i Zc)
        refine .cons ?_ (ih fun j hj=>h j (Zb _ hj))
        have:vs.getD i .non=v':=by simp[List.getD,e2']
        show RelV (vs.getD i .non) (its.getD i Value.none)
        rw[this,g5'];exact g3'
      exact this p hp
     have srt:(p.map fun i=>ys.getD i .non)=a4i' (ltK t) ys:=by
      refine a4D' hs hty' ?_ ?_
      ·have:=pp.map fun i=>ys.getD i .non
       refine this.trans (.of_eq ?_)
       refine List.ext_getElem (by simp;omega) fun i h1 h2=>?_
       simp[h2]
      ·rw[List.pairwise_map]
       exact pw
     rw[←srt]at w
     have I1:Inv X pins σ H {s with heap:=h1}:=I.kept (t':=s.toks) k1
     have I2:Inv X pins σ (upd H h1.objs.size (.lst (p.map fun i=>vs.getD i .non))) {s with heap:=h'}:=I1.laid (t':=s.toks) k2 (Zl _) ⟨by rw[Zk,hlen,sizeLine_eq];omega,_,c2,fin2,eo⟩
     have hfr:H h1.objs.size=none:=I1.hok.fresh (Zl _)
     refine⟨.ref h1.objs.size,_,I2,rfl,?_⟩
     cases box with
     |true=>exact Want.box w sk fin _ hfr
     |false=>exact Want.lst w sk fin _ hfr
   ·exact w.elim
  ·exact w.elim
 ·exact w.elim
end
end Py
end
section
namespace Py
open PySem PySem.Spec PyProof.Rows L2
section
variable {X:Cx}{E:XK}{CX:CXT}{Φ:FT}{Γ:Str→Option D}{N:List Str}{sc:Sc}{k:Nat}{cell:Str→Bool}
theorem blt_ok(O:XOk X cell N sc CX E Φ Γ k)(b:Blt)(hb:bltB b=true):CallR X (bltIs b) (rC X.K X.mg (bltD b)):=by
 cases b with
 |len=>exact len_D
 |tuple=>exact tuple_D
 |list=>cases hb
 |int=>exact int_D
 |min=>exact b3F' O.calm rfl
 |max=>exact max_any O.calm
 |isinst=>exact b3A'
 |all=>exact all_D O.calm
 |any=>exact any_D O.calm
 |sum=>cases hb
 |repr=>cases hb
 |abs=>cases hb
 |sorted box t=>exact b4j' O.room.units box t (by unfold bltB at hb;simpa using hb)
theorem a3F':∀{l:List Str},a8O' l=true→l.Nodup
 | [],_=>List.nodup_nil
 |x::r,h=>by
  unfold a8O' at h
  simp only[Zt,Bool.not_eq_true',List.contains_eq_mem,decide_eq_false_iff_not]at h
  exact List.nodup_cons.mpr ⟨h.1,a3F' h.2⟩
theorem b0o'(O:XOk X cell N sc CX E Φ Γ k){scope:Scope}(h:scB scope sc=true):CScope X scope:=by
 unfold scB at h
 simp only[Zt,beq_iff_eq]at h
 obtain⟨h1,h2⟩:=h
 have key:∀y∈scope.names,((y.2 !=NameKind.cell||scope.names.lookup y.1==some .cell)&&(y.2 !=.local||scope.names.lookup y.1==some .local)&&(y.2 !=.free||(sc.lookup y.1==some .cell||sc.lookup y.1==some .free)))=true:=fun y hy=>ZN.mp h2 y hy
 refine⟨h1,fun y hy z=>?_,fun y hy z=>?_,fun y hy z=>?_⟩
 ·have:=key y hy
  rw[z]at this
  simp at this
  exact this
 ·have:=key y hy
  rw[z]at this
  simp at this
  exact this
 ·have:=key y hy
  rw[z]at this
  simp at this
  show X.env.scope.names.lookup y.1=_∨X.env.scope.names.lookup y.1=_
  rw[O.sc]
  exact this
theorem b0p'(O:XOk X cell N sc CX E Φ Γ k){scope:Scope}{N':List Str}{fr:List (Option Nat)}(h:frB scope.names N' N fr=true):CsOk X scope N' (csOf fr):=by
 unfold frB at h
 simp only[Zt,beq_iff_eq]at h
 obtain⟨h1,h2⟩:=h
 intro σ hl
 refine⟨by simp[csOf,h1],fun i v x hx hv=>?_⟩
 have hi:i<N'.length:=(Zh.mp hx).1
 have:=ZN.mp h2 i (List.mem_range.mpr hi)
 unfold csOf at hv
 rw[ZJ]at hv
 cases e:fr[i]? with
 |none=>rw[e]at hv;cases hv
 |some o=>
  rw[e]at hv
  cases o with
  |none=>cases hv
  |some j=>
   rw[e]at this
   simp only[hx,Zt,beq_iff_eq]at this
   have hv':(σ[j]?).join=some v:=ZY hv
   refine⟨this.1,j,by rw[O.n];exact this.2,?_⟩
   cases e2:σ[j]? with
   |none=>rw[e2]at hv';cases hv'
   |some o=>rw[e2]at hv';have e3:o=some v:=hv';rw[e3]
theorem relB_eq(O:XOk X cell N sc CX E Φ Γ k){scope:Scope}:(relabel scope X.env).names=relB scope.names sc:=by
 unfold relabel relB
 show scope.names.map _=scope.names.map _
 congr 1
 funext p
 obtain⟨n,kd⟩:=p
 have e1:X.env.kindOf n=sc.lookup n:=by show X.env.scope.names.lookup n=_;rw[O.sc]
 simp only[e1,O.kd,beq_self_eq_true,Bool.and_true]
theorem b0q'(O:XOk X cell N sc CX E Φ Γ k){scope:Scope}{N':List Str}(hs:scope.kind=.function)(hn:a8O' N'=true)(C:Addr)(s0:Shared)(H0:Hp)(fp:List Addr):XOk (cxC X scope N' C s0 H0 fp) (ownB scope.names) N' (relB scope.names sc) CX E0 Φ Γ k where
 n:=rfl
 nd:=a3F' hn
 sc:=relB_eq O
 kd:=hs
 calm:=O.calm
 room:=O.room
 fn:=fun x z=>z
 mod:=O.mod
 pass:=fun _ _ _ _ _ _ _ z=>O.cx0 _ _ _ _ _ z
 cx0:=O.cx0
theorem a2D'{i:Expr}{env:Env}(h:b1F' i=true):∀x,foldedSetIterable i env x=pure x:=by
 intro x
 cases i<;>first|rfl|cases h
theorem t_val{e:Expr}{c:CE}(ha:PE X e (tE X.K X.mg E Φ Γ c))(he:∀whole,isTrue e X.env whole=(do let v ←whole;standAt e.pos;holding [v] (truthy v))){σ:L2.St}:
  PT X e (fun σ H Q=>∃F μ ρ S,SOk X.K ⟨X.mg,F⟩ μ S H∧EnvR X.K ⟨X.mg,F⟩ μ H ρ σ∧WantG X.K ⟨X.mg,F⟩ E (fun _ _ a b=>a=b) μ H Q ((den Φ Γ c ρ S).bind fun d S1=>match truD S1 d with|some k=>.ok k S1|none=>.fail)):=
 weakT (b3p' ha he) fun σ H Q zz=>ex43 zz fun F μ ρ S sk en w=>⟨F,μ,ρ,S,sk,en,(WantG.bind w).mono fun v H1 zz=>ex34 zz fun μ1 S1 d x1 s1 r1 w1=>by
  obtain⟨k,e,w2⟩:=a9Q' w1
  exact⟨k,tru_D s1 r1 e,w2 μ1 H1 k .refl s1 rfl⟩⟩
theorem b4k'(O:XOk X cell N sc CX E Φ Γ k){z:Expr}{a:CE}{p1 p2 p3 p4:Pos}(h1:gloB sc "len"=true)(h2:gloB sc "set"=true)(hn:a0D' z=true)(ha:PE X z (tE X.K X.mg E Φ Γ a)):PE X (.Call (.Name "len" p1) [.Call (.Name "set" p2) [z] [] p3] [] p4) (tE X.K X.mg E Φ Γ (.lenset a)):=
 weakE (b1Q' O.calm (O.gl (a0O' h1).1) (O.gl (a0O' h2).1) (O.mod.bl _ (by decide+kernel)) (O.mod.bl _ (by decide+kernel)) hn ha) fun σ H Q zz=>ex43 zz fun F μ ρ S sk en w=>
  ⟨F,μ,ρ,S,sk,en,(WantG.bind w).mono fun v H1 zz=>ex34 zz fun μ1 S1 d x1 s1 r1 w1=>b4d' s1 r1 (a1i' w1)⟩
end
end Py
end
section
namespace Py
open PySem PySem.Spec PyProof.Rows L2
theorem tT_fail{X:Cx}{E:XK}{Φ:FT}{Γ:Str→Option D}{c:CE}{e:Expr}(h:∀ρ S,denT Φ Γ c ρ S=.fail):PW X e (tT X.K X.mg E Φ Γ c):=fun wh pins s σ H Q I zz=>ex43 zz fun F μ ρ S sk en w=>by rw[h]at w;exact w.elim
theorem b4l'{α:Type}{l:List α}{d:Nat}{x:α}{r:List α}(h:l.drop d=x::r):l[d]?=some x:=by
 have:=congrArg (fun l=>l[0]?) h
 simpa using this
theorem b1U'{α:Type}{l:List α}{d:Nat}(h:l.drop d=[]):l[d]?=none:=by
 have:=congrArg (fun l=>l[0]?) h
 simpa using this
theorem b1V'{α:Type}{l:List α}{d:Nat}{x:α}{r:List α}(h:l.drop d=x::r):l.drop (d+1)=r:=by
 have:(l.drop d).drop 1=r:=by rw[h];rfl
 rwa [List.drop_drop]at this
section
variable {X:Cx}{E:XK}{Φ:FT}{Γ:Str→Option D}{a b:CE}{l x y:Expr}{pos:Pos}{n:Bool}
theorem em_and(ha:PE X l (tE X.K X.mg E Φ Γ a))(h1:n=true→PE X x (tE X.K X.mg E Φ Γ b))(h2:n=false→∃r rest,y=.BoolOp .And (r::rest) pos∧PE X y (tE X.K X.mg E Φ Γ b)):PE X (.BoolOp .And (l::cond n [x] (vw y).es) pos) (tE X.K X.mg E Φ Γ (.band a b)):=by
 cases n with
 |true=>exact s_and ha (pe_one (h1 rfl))
 |false=>
  obtain⟨r,rest,rfl,q⟩:=h2 rfl
  exact s_and ha q
theorem em_or(ha:PE X l (tE X.K X.mg E Φ Γ a))(h1:n=true→PE X x (tE X.K X.mg E Φ Γ b))(h2:n=false→∃r rest,y=.BoolOp .Or (r::rest) pos∧PE X y (tE X.K X.mg E Φ Γ b)):PE X (.BoolOp .Or (l::cond n [x] (vw y).es) pos) (tE X.K X.mg E Φ Γ (.bor a b)):=by
 cases n with
 |true=>exact s_or ha (pe_one (h1 rfl))
 |false=>
  obtain⟨r,rest,rfl,q⟩:=h2 rfl
  exact s_or ha q
theorem b2M'(ha:PT X l (tT X.K X.mg E Φ Γ a))(h1:n=true→PT X x (tT X.K X.mg E Φ Γ b))(h2:n=false→∃r rest,y=.BoolOp .And (r::rest) pos∧PW X y (tT X.K X.mg E Φ Γ b)):PW X (.BoolOp .And (l::cond n [x] (vw y).es) pos) (tT X.K X.mg E Φ Γ (.band a b)):=by
 cases n with
 |true=>exact t_and ha (pw_and1 (h1 rfl))
 |false=>
  obtain⟨r,rest,rfl,q⟩:=h2 rfl
  exact t_and ha q
theorem em_orT(ha:PT X l (tT X.K X.mg E Φ Γ a))(h1:n=true→PT X x (tT X.K X.mg E Φ Γ b))(h2:n=false→∃r rest,y=.BoolOp .Or (r::rest) pos∧PW X y (tT X.K X.mg E Φ Γ b)):PW X (.BoolOp .Or (l::cond n [x] (vw y).es) pos) (tT X.K X.mg E Φ Γ (.bor a b)):=by
 cases n with
 |true=>exact t_or ha (pw_or1 (h1 rfl))
 |false=>
  obtain⟨r,rest,rfl,q⟩:=h2 rfl
  exact t_or ha q
theorem b0r'{N:List Str}{es:List Expr}(h:b3L' b=true):∃r rest,emE b N (.BoolOp .And es pos)=.BoolOp .And (r::rest) pos:=by
 cases b<;>first|exact⟨_,_,rfl⟩|cases h
theorem b4m'{N:List Str}{es:List Expr}(h:isBor b=true):∃r rest,emE b N (.BoolOp .Or es pos)=.BoolOp .Or (r::rest) pos:=by
 cases b<;>first|exact⟨_,_,rfl⟩|cases h
theorem a6y'{N:List Str}{tg:CT}{e:Expr}(h:a9P' tg=true):isTup (emT tg N e)=true:=by
 cases tg with
 |var i=>cases h
 |tup ts=>rfl
theorem cond1{a b:Bool}(h:cond n a b=true)(z:n=true):a=true:=by rw[z]at h;exact h
theorem cond2{a b:Bool}(h:cond n a b=true)(z:n=false):b=true:=by rw[z]at h;exact h
end
mutual
theorem a0t'(c:CE):∀{X:Cx} {cell:Str→Bool} {N:List Str} {sc:Sc} {CX:CXT} {E:XK} {Φ:FT} {Γ:Str→Option D} {k:Nat} {e:Expr},XOk X cell N sc CX E Φ Γ k→sdE c N sc e=true→PE X (emE c N e) (tE X.K X.mg E Φ Γ c):=by
 intro X cell N sc CX E Φ Γ k e O h
 cases c with
 |var i=>exact s_var O (andB h).1 (andB (andB h).2).1 (andB (andB h).2).2
 |dct=>exact s_dct
 |odd a b c=>cases h
 |rev a b=>exact s_rev (a0t' a O (andB h).1) (a0t' b O (andB h).2)
 |lit d=>exact s_lit h
 |glob y=>exact s_glob O h
 |ty n=>exact s_ty O (andB h).1 (andB h).2
 |bin op a b=>exact s_bin (a0t' a O (andB h).1) (a0t' b O (andB h).2)
 |binB a b=>exact s_binB (a0t' a O (andB h).1) (a0t' b O (andB h).2)
 |neg a=>exact s_neg (a0t' a O h)
 |cmp op a b=>exact s_cmp O.room.units (a0t' a O (andB h).1) (a0t' b O (andB (andB h).2).1) (notB (andB (andB h).2).2)
 |chain op op' a b c=>exact s_chain O.room.units (a0t' a O (andB h).1) (a0t' b O (andB (andB h).2).1) (a0t' c O (andB (andB (andB h).2).2).1) (notB (andB (andB (andB h).2).2).2)
 |band a b=>
  exact em_and (a0t' a O (andB h).1) (fun z=>a0t' b O (cond1 (andB h).2 z)) fun z=>by
   obtain⟨r,rest,q⟩:=b0r' (pos:=(vw e).pos) (N:=N) (es:=(vw e).es.tail) (andB (cond2 (andB h).2 z)).1
   exact⟨r,rest,q,a0t' b O (andB (cond2 (andB h).2 z)).2⟩
 |bor a b=>
  exact em_or (a0t' a O (andB h).1) (fun z=>a0t' b O (cond1 (andB h).2 z)) fun z=>by
   obtain⟨r,rest,q⟩:=b4m' (pos:=(vw e).pos) (N:=N) (es:=(vw e).es.tail) (andB (cond2 (andB h).2 z)).1
   exact⟨r,rest,q,a0t' b O (andB (cond2 (andB h).2 z)).2⟩
 |bnot a=>exact s_not (a0t' a O h)
 |ite c a b=>exact s_ite (a3G' c O (andB h).1) (a0t' a O (andB (andB h).2).1) (a0t' b O (andB (andB h).2).2)
 |tup es=>exact s_tup (decB (andB h).2) (a4j' es O (andB h).1)
 |lst box es=>exact s_lst (decB (andB h).2) (a4j' es O (andB h).1)
 |idx a b=>exact s_idx (andB (andB h).2).2 (a0t' a O (andB h).1) (a0t' b O (andB (andB h).2).1)
 |sl a lo hi=>exact s_sl (a0t' a O (andB h).1) (soundP lo O (andB (andB h).2).1 (decB (andB (andB (andB (andB h).2).2).2).1)) (soundP hi O (andB (andB (andB h).2).2).1 (decB (andB (andB (andB (andB h).2).2).2).2))
 |call f es=>
  have hL:=a4j' es O (andB (andB h).2).1
  cases es with
  |nil=>cases(andB (andB h).2).2
  |cons c cs=>exact s_call O (andB h).1 (a1w' (cs:=c::cs) (andB (andB h).2).1) hL
 |blt b es=>
  have hL:=a4j' es O (andB (andB h).2).1
  cases es with
  |nil=>cases(andB (andB (andB h).2).2).1
  |cons c cs=>exact s_blt O (blt_ok O b (andB (andB (andB h).2).2).2) (andB h).1 (a1w' (cs:=c::cs) (andB (andB h).2).1) hL
 |tix o es=>cases h
 |meth m o es=>
  have h4:=(andB (andB (andB (andB h).2).2).2).1
  exact s_meth (andB h).1 (andB (andB h).2).1 (a1w' h4) (by rw[a9R'];exact decB (andB (andB (andB (andB h).2).2).2).2) a9R'.symm (a0t' o O (andB (andB (andB h).2).2).1) (a4j' es O h4)
 |lenset a=>exact b4k' O (andB h).1 (andB (andB h).2).1 (andB (andB (andB h).2).2).2 (a0t' a O (andB (andB (andB h).2).2).1)
 |rng=>cases h
 |comp box N' fr tg it ifs body=>
  obtain⟨h1,h⟩:=andB h
  obtain⟨h2,h⟩:=andB h
  obtain⟨h3,h⟩:=andB h
  obtain⟨h4,h⟩:=andB h
  obtain⟨h5,h⟩:=andB h
  obtain⟨h6,h⟩:=andB h
  obtain⟨h7,h8⟩:=andB h
  have sc1:=b0o' O h1
  refine weakE (pe_comp (N:=N') (g:=gCT X.K tg) (tb:=tC X.K X.mg Φ Γ ifs body) O.calm sc1 (b0p' O h2) (b1X' it O h5 a6y') (fun acc env=>a6r' _ env>>=fun ok=>if ok=true then cRest _ (_::_) _ _ 0 (.ref acc) env else pure ())
   (fun it acc env=>a3E' rfl) (fun C s0 H0 fp acc=>?_) (a2D' h6)) fun σ H Q q=>c_comp (tg0:=emT tg N' ((vw e).gs.headD dG).target) q
  have O':=b0q' O sc1.kind h3 C s0 H0 fp
  exact⟨g_pg O' h4,b4a' (a8p' ifs O' h7) (b4n' body O' rfl rfl h8)⟩
 |emit e=>cases h
 |inner a b c d=>cases h
 |seq a=>cases h
 |range a=>cases h
 |zip a=>cases h
 |enum a=>cases h
 |revl a=>cases h
 |by2 a=>cases h
 |down a=>cases h
theorem a3G'(c:CE):∀{X:Cx} {cell:Str→Bool} {N:List Str} {sc:Sc} {CX:CXT} {E:XK} {Φ:FT} {Γ:Str→Option D} {k:Nat} {e:Expr},XOk X cell N sc CX E Φ Γ k→sdE c N sc e=true→PT X (emE c N e) (tT X.K X.mg E Φ Γ c):=by
 intro X cell N sc CX E Φ Γ k e O h
 cases c with
 |var i=>
  refine weakT (t_val (σ:=[]) (s_var O (andB h).1 (andB (andB h).2).1 (andB (andB h).2).2) fun _=>rfl) fun σ H Q zz=>ex43 zz fun F μ ρ S sk en w=>⟨F,μ,ρ,S,sk,en,?_⟩
  cases e1:ρ[i]? with
  |none=>simp only[denT,e1]at w;exact w.elim
  |some o=>
   cases o with
   |none=>simp only[denT,e1]at w;exact w.elim
   |some d=>
    simp only[denT,e1]at w
    simp only[den,e1]
    exact w
 |lit d=>exact weakT (t_val (Φ:=Φ) (Γ:=Γ) (σ:=[]) (s_lit h) fun _=>rfl) fun σ H Q zz=>ex43 zz fun F μ ρ S sk en w=>⟨F,μ,ρ,S,sk,en,w⟩
 |call f es=>
  have hL:=a4j' es O (andB (andB h).2).1
  cases es with
  |nil=>cases(andB (andB h).2).2
  |cons c cs=>
   refine weakT (t_val (σ:=[]) (s_call O (andB h).1 (a1w' (cs:=c::cs) (andB (andB h).2).1) hL) fun _=>rfl) fun σ H Q zz=>ex43 zz fun F μ ρ S sk en w=>⟨F,μ,ρ,S,sk,en,?_⟩
   simp only[denT]at w
   simp only[den]
   cases e1:Φ f with
   |none=>rw[e1]at w;exact w
   |some φ=>
    rw[e1]at w
    show WantG _ _ _ _ _ _ _ (((denL Φ Γ (c::cs) ρ S).bind fun ds S1=>φ ds S1).bind _)
    cases e2:denL Φ Γ (c::cs) ρ S with
    |ok ds S1=>rw[e2]at w;exact w
    |err y S1=>rw[e2]at w;exact w
    |fail=>rw[e2]at w;exact w
 |blt b es=>
  have hL:=a4j' es O (andB (andB h).2).1
  cases es with
  |nil=>cases(andB (andB (andB h).2).2).1
  |cons c cs=>
   refine weakT (t_val (σ:=[]) (s_blt O (blt_ok O b (andB (andB (andB h).2).2).2) (andB h).1 (a1w' (cs:=c::cs) (andB (andB h).2).1) hL) fun _=>rfl) fun σ H Q zz=>ex43 zz fun F μ ρ S sk en w=>⟨F,μ,ρ,S,sk,en,?_⟩
   simp only[denT]at w
   simp only[den]
   cases e2:denL Φ Γ (c::cs) ρ S with
   |ok ds S1=>rw[e2]at w;exact w
   |err y S1=>rw[e2]at w;exact w
   |fail=>rw[e2]at w;exact w
 |cmp op a b=>exact t_cmp O.room.units (a0t' a O (andB h).1) (a0t' b O (andB (andB h).2).1) (notB (andB (andB h).2).2)
 |chain op op' a b c=>exact t_chain O.room.units (a0t' a O (andB h).1) (a0t' b O (andB (andB h).2).1) (a0t' c O (andB (andB (andB h).2).2).1) (notB (andB (andB (andB h).2).2).2)
 |band a b=>
  exact(b2M' (a3G' a O (andB h).1) (fun z=>a3G' b O (cond1 (andB h).2 z)) fun z=>by
   have g:=(andB (cond2 (andB h).2 z)).1
   obtain⟨r,rest,q⟩:=b0r' (pos:=(vw e).pos) (N:=N) (es:=(vw e).es.tail) g
   exact⟨r,rest,q,b1W' b O (andB (cond2 (andB h).2 z)).2 (by rw[g];rfl)⟩).pt
 |bor a b=>
  exact(em_orT (a3G' a O (andB h).1) (fun z=>a3G' b O (cond1 (andB h).2 z)) fun z=>by
   have g:=(andB (cond2 (andB h).2 z)).1
   obtain⟨r,rest,q⟩:=b4m' (pos:=(vw e).pos) (N:=N) (es:=(vw e).es.tail) g
   exact⟨r,rest,q,b1W' b O (andB (cond2 (andB h).2 z)).2 (by rw[g,Bool.or_true])⟩).pt
 |bnot a=>exact t_not (a3G' a O h)
 |_=>exact(tT_fail fun _ _=>by simp only[denT]).pt
theorem b1W'(c:CE):∀{X:Cx} {cell:Str→Bool} {N:List Str} {sc:Sc} {CX:CXT} {E:XK} {Φ:FT} {Γ:Str→Option D} {k:Nat} {e:Expr},XOk X cell N sc CX E Φ Γ k→sdE c N sc e=true→(b3L' c||isBor c)=true→PW X (emE c N e) (tT X.K X.mg E Φ Γ c):=by
 intro X cell N sc CX E Φ Γ k e O h hb
 cases c with
 |band a b=>
  exact b2M' (a3G' a O (andB h).1) (fun z=>a3G' b O (cond1 (andB h).2 z)) fun z=>by
   have g:=(andB (cond2 (andB h).2 z)).1
   obtain⟨r,rest,q⟩:=b0r' (pos:=(vw e).pos) (N:=N) (es:=(vw e).es.tail) g
   exact⟨r,rest,q,b1W' b O (andB (cond2 (andB h).2 z)).2 (by rw[g];rfl)⟩
 |bor a b=>
  exact em_orT (a3G' a O (andB h).1) (fun z=>a3G' b O (cond1 (andB h).2 z)) fun z=>by
   have g:=(andB (cond2 (andB h).2 z)).1
   obtain⟨r,rest,q⟩:=b4m' (pos:=(vw e).pos) (N:=N) (es:=(vw e).es.tail) g
   exact⟨r,rest,q,b1W' b O (andB (cond2 (andB h).2 z)).2 (by rw[g,Bool.or_true])⟩
 |_=>cases hb
theorem a4j'(cs:List CE):∀{X:Cx} {cell:Str→Bool} {N:List Str} {sc:Sc} {CX:CXT} {E:XK} {Φ:FT} {Γ:Str→Option D} {k:Nat} {es:List Expr},XOk X cell N sc CX E Φ Γ k→sdL cs N sc es=true→PA X (emL cs N es) (tL X.K X.mg E Φ Γ cs):=by
 intro X cell N sc CX E Φ Γ k es O h
 cases cs with
 |nil=>exact s_nil
 |cons c cs=>exact s_cons (andB (andB h).2).1 (a0t' c O (andB h).1) (a4j' cs O (andB (andB h).2).2)
theorem soundP(cs:List CE):∀{X:Cx} {cell:Str→Bool} {N:List Str} {sc:Sc} {CX:CXT} {E:XK} {Φ:FT} {Γ:Str→Option D} {k:Nat} {es:List Expr},XOk X cell N sc CX E Φ Γ k→sdL cs N sc es=true→cs.length<2→PO X (emL cs N es).head? (tPt X.K X.mg E Φ Γ cs):=by
 intro X cell N sc CX E Φ Γ k es O h hl
 cases cs with
 |nil=>exact s_part0
 |cons c cs=>cases cs with
  |nil=>exact s_part1 (a0t' c O (andB h).1)
  |cons _ _=>exact absurd hl (by simp)
theorem a8p'(cs:List CE):∀{X:Cx} {cell:Str→Bool} {N:List Str} {sc:Sc} {CX:CXT} {E:XK} {Φ:FT} {Γ:Str→Option D} {k:Nat} {es:List Expr},XOk X cell N sc CX E Φ Γ k→sdL cs N sc es=true→PTs X (emL cs N es) (cs.map (tT X.K X.mg E Φ Γ)):=by
 intro X cell N sc CX E Φ Γ k es O h
 cases cs with
 |nil=>trivial
 |cons c cs=>exact⟨a3G' c O (andB h).1,a8p' cs O (andB (andB h).2).2⟩
theorem b1X'(c:CE):∀{X:Cx} {cell:Str→Bool} {N:List Str} {sc:Sc} {CX:CXT} {E:XK} {Φ:FT} {Γ:Str→Option D} {k:Nat} {tg:CT} {t e:Expr},XOk X cell N sc CX E Φ Γ k→sdI c N sc tg e=true→(a9P' tg=true→isTup t=true)→PI X t (emI c N e) (tI X.K X.mg E Φ Γ c):=by
 intro X cell N sc CX E Φ Γ k tg t e O h ht
 cases c with
 |seq a=>exact i_seq (a0t' a O h)
 |range es=>
  have h2:=(andB (andB h).2).1
  have h3:=(andB (andB h).2).2
  have hs:=a1w' h2
  have hL:=a4j' es O h2
  cases es with
  |nil=>cases h3
  |cons a es=>cases es with
   |nil=>exact b3T' O (andB h).1 (hs _ Zc) rfl hL
   |cons b es=>cases es with
    |nil=>exact b3U' O (andB h).1 (hs _ Zc) (hs _ (Zb _ Zc)) rfl hL
    |cons d es=>cases h3
 |down es=>cases h
 |by2 es=>
  have h2:=(andB (andB h).2).1
  have h3:=(andB (andB h).2).2
  have hs:=a1w' h2
  have hL:=a4j' es O h2
  cases es with
  |nil=>cases h3
  |cons a es=>cases es with
   |nil=>cases h3
   |cons b es=>cases es with
    |nil=>cases h3
    |cons d es=>cases es with
     |nil=>exact i_by2 O (andB h).1 (hs _ Zc) (hs _ (Zb _ Zc)) (hs _ (Zb _ (Zb _ Zc))) hL
     |cons f es=>cases h3
 |revl es=>cases h
 |enum es=>
  have h2:=(andB (andB h).2).1
  have h3:=(andB (andB h).2).2
  have hs:=a1w' h2
  have hL:=a4j' es O h2
  cases es with
  |nil=>cases(andB h3).1
  |cons a es=>cases es with
   |nil=>exact i_enum O (andB h).1 (ht (andB h3).2) (hs _ Zc) hL
   |cons b es=>cases(andB h3).1
 |zip es=>
  have h2:=(andB (andB h).2).1
  have h3:=(andB (andB h).2).2
  have hs:=a1w' h2
  have hL:=a4j' es O h2
  cases es with
  |nil=>cases(andB h3).1
  |cons a es=>cases es with
   |nil=>cases(andB h3).1
   |cons b es=>cases es with
    |nil=>
     exact i_zip O (andB h).1 (ht (andB h3).2) (hs _ Zc) (hs _ (Zb _ Zc)) hL
    |cons d es=>cases(andB h3).1
 |_=>cases h
theorem b4n'(c:CE):∀{X:Cx} {cell:Str→Bool} {N:List Str} {sc:Sc} {CX:CXT} {E:XK} {Φ:FT} {Γ:Str→Option D} {k:Nat} {el:Expr} {gens gs:List Comprehension} {scope:Scope} {pos:Pos} {d:Nat} {acc:Addr},XOk X cell N sc CX E Φ Γ k→X.xe=(fun _ _=>False)→gens.drop (d+1)=emBg c N gs→sdB c cell N sc gs el=true→
  PB X (cRest (emBe c N el) gens scope pos d (.ref acc) X.env) (tB X.K X.mg Φ Γ c acc):=by
 intro X cell N sc CX E Φ Γ k el gens gs scope pos d acc O hx hd h
 cases c with
 |emit a=>exact c_emit (b1U' hd) (a0t' a O h)
 |inner tg it ifs body=>
  obtain⟨h4,h⟩:=andB h
  obtain⟨h5,h⟩:=andB h
  obtain⟨h6,h⟩:=andB h
  obtain⟨h7,h8⟩:=andB h
  exact c_inner hx O.calm (b4l' hd) (b1X' it O h5 a6y') (a2D' h6) (g_pg O h4) (b4a' (a8p' ifs O h7) (b4n' body O hx (b1V' hd) h8))
 |_=>cases h
end
end Py
end
section
namespace Py
open PySem PySem.Spec PyProof.Rows L2
def WantS(K:PySem.W.Frag)(mg:GS)(E:XK)(D:Ends)(μ:List Addr)(H:Hp):Res Fl→Prop
 | .ok (.next ρ') S'=>∀μ' H' σ',Ext μ H μ' H'→SOk K mg μ' S' H'→EnvR K mg μ' H' ρ' σ'→D.nx σ' H'
 | .ok (.ret d) S'=>∀μ' H' v,Ext μ H μ' H'→SOk K mg μ' S' H'→Rep K mg μ' H' d v→D.rt v H'
 | .ok (.brk ρ') S'=>∀μ' H' σ',Ext μ H μ' H'→SOk K mg μ' S' H'→EnvR K mg μ' H' ρ' σ'→D.bk σ' H'
 | .ok (.cont ρ') S'=>∀μ' H' σ',Ext μ H μ' H'→SOk K mg μ' S' H'→EnvR K mg μ' H' ρ' σ'→D.ct σ' H'
 | .err x S'=>∀μ' H',Ext μ H μ' H'→SOk K mg μ' S' H'→exOf mg.mg E x H'
 | .fail=>False
def tS(K:PySem.W.Frag)(mg:Str→Option Value)(E:XK)(Φ:FT)(Γ:Str→Option D)(c:CS):TS:=fun D σ H=>∃F μ ρ S,SOk K ⟨mg,F⟩ μ S H∧EnvR K ⟨mg,F⟩ μ H ρ σ∧WantS K ⟨mg,F⟩ E D μ H (denS Φ Γ c ρ S)
def tSs(K:PySem.W.Frag)(mg:Str→Option Value)(E:XK)(Φ:FT)(Γ:Str→Option D)(cs:List CS):TS:=fun D σ H=>∃F μ ρ S,SOk K ⟨mg,F⟩ μ S H∧EnvR K ⟨mg,F⟩ μ H ρ σ∧WantS K ⟨mg,F⟩ E D μ H (denSs Φ Γ cs ρ S)
section
variable {K:PySem.W.Frag}{mg:GS}{E:XK}{μ μ':List Addr}{H H':Hp}{D D':Ends}
theorem WantS.ext{r:Res Fl}(x:Ext μ H μ' H')(w:WantS K mg E D μ H r):WantS K mg E D μ' H' r:=by
 cases r with
 |ok f S=>
  cases f with
  |next ρ=>exact fun m h s y=>w m h s (x.trans y)
  |ret d=>exact fun m h s y=>w m h s (x.trans y)
  |brk ρ=>exact fun m h s y=>w m h s (x.trans y)
  |cont ρ=>exact fun m h s y=>w m h s (x.trans y)
 |err z S=>exact fun m h y=>w m h (x.trans y)
 |fail=>exact w
theorem WantS.bind{α β:Type}{Rel:List Addr→Hp→α→β→Prop}{r:Res α}{f:α→Store→Res Fl}(w:WantS K mg E D μ H (r.bind f)):
  WantG K mg E Rel μ H (fun b H'=>∃μ' S' a,Ext μ H μ' H'∧SOk K mg μ' S' H'∧Rel μ' H' a b∧WantS K mg E D μ' H' (f a S')) r:=by
 cases r with
 |ok a S'=>exact fun μ2 H2 b x s r=>⟨μ2,S',a,x,s,r,WantS.ext x (show WantS K mg E D μ H (f a S')from w)⟩
 |err y S'=>exact w
 |fail=>exact w
theorem WantS.seq{r:Res Fl}{f:Rho→Store→Res Fl}{N:L2.St→Hp→Prop}(w:WantS K mg E D μ H (r.bind fun fl S1=>match fl with
   | .next ρ'=>f ρ' S1
   |fl=>.ok fl S1)) (hN:∀μ' H' σ' ρ' S',Ext μ H μ' H'→SOk K mg μ' S' H'→EnvR K mg μ' H' ρ' σ'→WantS K mg E D μ' H' (f ρ' S')→N σ' H'):WantS K mg E {D with nx:=N} μ H r:=by
 cases r with
 |ok fl S=>
  cases fl with
  |next ρ=>exact fun m h s x k en=>hN m h s ρ S x k en (WantS.ext x (show WantS K mg E D μ H (f ρ S)from w))
  |ret d=>exact w
  |brk ρ=>exact w
  |cont ρ=>exact w
 |err z S=>exact w
 |fail=>exact w
end
theorem weakS{X:Cx}{st:Stmt}{t t':TS}(h:PS X st t)(w:∀D σ H,t' D σ H→t D σ H):PS X st t':=fun pins s σ H D I q=>h pins s σ H D I (w D σ H q)
theorem weakSs{X:Cx}{st:List Stmt}{t t':TS}(h:PSs X st t)(w:∀D σ H,t' D σ H→t D σ H):PSs X st t':=fun pins s σ H D I q=>h pins s σ H D I (w D σ H q)
def a3Y':Expr→Bool
 | .ListComp .. =>false
 | .SetComp .. =>false
 | .DictComp .. =>false
 |_=>true
def isComp:Expr→Bool
 | .ListComp .. =>true
 |_=>false
def locB(sc:Sc)(x:Str):Bool:=sc.lookup x==some .local||sc.lookup x==some .cell
def swB(sc:Sc)(x:Str)(p:Pos)(v:Expr):Bool:=sc.lookup x==some .local&&(p.line==(vw v).pos.line&& !((vw v).sc.names.any fun(n,k)=>n==x&&(k== .local||k== .cell)))
def dS:Stmt:=.Pass ⟨0,0,0,0⟩
structure NdS where
 e0:Expr:=dE
 e1:Expr:=dE
 a:List Stmt:=[]
 b:List Stmt:=[]
 pos:Pos:=⟨0,0,0,0⟩
def vs:Stmt→NdS
 | .Assign ts v p=>{e0:=ts.headD dE,e1:=v,pos:=p}
 | .AugAssign t _ v p=>{e0:=t,e1:=v,pos:=p}
 | .Expr v p=>{e0:=v,pos:=p}
 | .Return v p=>{e0:=v.getD dE,pos:=p}
 | .Pass p=>{pos:=p}
 | .Break p=>{pos:=p}
 | .Continue p=>{pos:=p}
 | .If t x y p=>{e0:=t,a:=x,b:=y,pos:=p}
 | .For t i x _ p=>{e0:=t,e1:=i,a:=x,pos:=p}
 | .While t x _ p=>{e0:=t,a:=x,pos:=p}
 |_=>{}
def emSub(o i:CE)(N:List Str)(e:Expr):Expr:=.Subscript (emE o N (vw e).e0) (emE i N (vw e).e1) (vw e).pos
def sdSub(o i:CE)(N:List Str)(sc:Sc)(e:Expr):Bool:=a3C' (emE i N (vw e).e1)&&(sdE o N sc (vw e).e0&&sdE i N sc (vw e).e1)
mutual
def emS:CS→List Str→Stmt→Stmt
 | .asg i e,N,st=>.Assign [.Name (N.getD i "") (vw (vs st).e0).pos] (emE e N (vs st).e1) (vs st).pos
 | .asgT t e,N,st=>.Assign [emT t N (vs st).e0] (emE e N (vs st).e1) (vs st).pos
 | .par _ _,_,st=>st
 | .aug i e,N,st=>.AugAssign (.Name (N.getD i "") (vw (vs st).e0).pos) .Add (emE e N (vs st).e1) (vs st).pos
 | .set o i v,N,st=>.Assign [emSub o i N (vs st).e0] (emE v N (vs st).e1) (vs st).pos
 | .set2 _ _ _ _ _,_,st=>st
 | .expr e,N,st=>.Expr (emE e N (vs st).e0) (vs st).pos
 | .ret e,N,st=>.Return (some (emE e N (vs st).e0)) (vs st).pos
 | .retN,_,st=>.Return none (vs st).pos
 | .pass,_,st=>.Pass (vs st).pos
 | .brk,_,st=>.Break (vs st).pos
 | .cont,_,st=>.Continue (vs st).pos
 | .ite c a b,N,st=>.If (emE c N (vs st).e0) (emSs a N (vs st).a) (emSs b N (vs st).b) (vs st).pos
 | .for_ t it body,N,st=>.For (emT t N (vs st).e0) (emI it N (vs st).e1) (emSs body N (vs st).a) [] (vs st).pos
 | .while_ _ c body,N,st=>.While (emE c N (vs st).e0) (emSs body N (vs st).a) [] (vs st).pos
 | .never,_,st=>st
def emSs:List CS→List Str→List Stmt→List Stmt
 | [],_,_=>[]
 |c::cs,N,st=>emS c N (st.headD dS)::emSs cs N st.tail
end
def foldB:Expr→Bool
 | .Tuple xs _ _=>xs.all (foldedForSure 8)
 |_=>true
mutual
def sdS:CS→List Str→Sc→Stmt→Bool
 | .asg i e,N,sc,st=>N[i]?==some (N.getD i "")&&(locB sc (N.getD i "")&&(sdE e N sc (vs st).e1&&(a3Y' (emE e N (vs st).e1)||(isCmp e&&(sc.lookup (N.getD i "")==some .cell||swB sc (N.getD i "") (vw (vs st).e0).pos (emE e N (vs st).e1))))))
 | .asgT t e,N,sc,st=>a9P' t&&(foldB (emE e N (vs st).e1)&&(a3Y' (emE e N (vs st).e1)&&(sdT (fun _=>true) N sc t&&sdE e N sc (vs st).e1)))
 | .par _ _,_,_,_=>false
 | .aug i e,N,sc,st=>N[i]?==some (N.getD i "")&&(locB sc (N.getD i "")&&sdE e N sc (vs st).e1)
 | .set o i v,N,sc,st=>sdSub o i N sc (vs st).e0&&(a3Y' (emE v N (vs st).e1)&&sdE v N sc (vs st).e1)
 | .set2 _ _ _ _ _,_,_,_=>false
 | .expr e,N,sc,st=>a3Y' (emE e N (vs st).e0)&&sdE e N sc (vs st).e0
 | .ret e,N,sc,st=>sdE e N sc (vs st).e0
 | .retN,_,_,_=>true
 | .pass,_,_,_=>true
 | .brk,_,_,_=>true
 | .cont,_,_,_=>true
 | .ite c a b,N,sc,st=>sdE c N sc (vs st).e0&&(sdSs a N sc (vs st).a&&sdSs b N sc (vs st).b)
 | .for_ t it body,N,sc,st=>sdT (fun _=>true) N sc t&&(sdI it N sc t (vs st).e1&&(b1F' (emI it N (vs st).e1)&&sdSs body N sc (vs st).a))
 | .while_ _ c body,N,sc,st=>sdE c N sc (vs st).e0&&sdSs body N sc (vs st).a
 | .never,_,_,_=>true
def sdSs:List CS→List Str→Sc→List Stmt→Bool
 | [],_,_,_=>true
 |c::cs,N,sc,st=>sdS c N sc (st.headD dS)&&sdSs cs N sc st.tail
end
section
variable {X:Cx}{E:XK}{CX:CXT}{Φ:FT}{Γ:Str→Option D}{N:List Str}{sc:Sc}{k:Nat}{cell:Str→Bool}{pos:Pos}
theorem b1Y'{v:Expr}{o:Option Expr}{line:Nat}{env:Env}(h:a3Y' v=true):swapsWith v o line env=pure false:=by
 cases v<;>first|rfl|cases h
theorem bk_fn(O:XOk X cell N sc CX E Φ Γ k):X.env.blockKind=.function:=by
 unfold Env.blockKind
 rw[O.kd]
 rfl
theorem sw_cell(O:XOk X cell N sc CX E Φ Γ k){v:Expr}{x:Str}{p:Pos}{line:Nat}(h:isComp v=true)(hx:sc.lookup x=some .cell):swapsWith v (some (.Name x p)) line X.env=pure false:=by
 have e1:X.env.kindOf x=some .cell:=by show X.env.scope.names.lookup x=_;rw[O.sc];exact hx
 cases v<;>first| (cases h;done)|skip
 rename_i el gs scope vp
 unfold swapsWith
 show(pure (X.env.blockKind== .function&&X.env.kindOf x==some .local&&p.line==vp.line&& !_):Sem Bool)=pure false
 rw[e1]
 have e2:(some NameKind.cell==some NameKind.local)=false:=by decide
 rw[e2,Bool.and_false,Bool.false_and,Bool.false_and]
theorem sw_yes(O:XOk X cell N sc CX E Φ Γ k){el:Expr}{gs:List Comprehension}{scope:Scope}{vp p:Pos}{x:Str}{line:Nat}(h:swB sc x p (.ListComp el gs scope vp)=true):swapsWith (.ListComp el gs scope vp) (some (.Name x p)) line X.env=pure true:=by
 obtain⟨h1,h⟩:=andB h
 obtain⟨h2,h3⟩:=andB h
 have e1:X.env.kindOf x=some .local:=by show X.env.scope.names.lookup x=_;rw[O.sc];exact beq_iff_eq.mp h1
 unfold swapsWith
 show(pure (X.env.blockKind== .function&&X.env.kindOf x==some .local&&p.line==vp.line&& !_):Sem Bool)=pure true
 rw[bk_fn O,e1,show(p.line==vp.line)=true from h2]
 have h3':(!(scope.names.any fun x_1=>match x_1 with| (n,k)=>n==x&&(k== .local||k== .cell)))=true:=h3
 first|rw[h3'];rfl|simp_all
theorem loc_ok(O:XOk X (fun _=>true) N sc CX E Φ Γ k){x:Str}(h:locB sc x=true):L2.Loc X.env.scope x:=by
 unfold L2.Loc
 rw[O.sc]
 unfold locB at h
 simpa using h
theorem b2N'{σ:L2.St}{H:Hp}{D:Ends}{i:Nat}{e:CE}(h:tS X.K X.mg E Φ Γ (.asg i e) D σ H):tE X.K X.mg E Φ Γ e σ H fun v H1=>D.nx (σ.set i (some v)) H1:=by
 obtain⟨F,μ,ρ,S,sk,en,w⟩:=h
 simp only[denS]at w
 exact⟨F,μ,ρ,S,sk,en,(WantS.bind w).mono fun v H1 zz=>ex34 zz fun μ1 S1 d x1 s1 r1 w1=>w1 μ1 H1 _ .refl s1 ((en.mono x1).set r1)⟩
theorem s_asg(O:XOk X (fun _=>true) N sc CX E Φ Γ k){i:Nat}{e:CE}{st:Stmt}(h:sdS (.asg i e) N sc st=true):PS X (emS (.asg i e) N st) (tS X.K X.mg E Φ Γ (.asg i e)):=by
 obtain⟨h1,h⟩:=andB h
 obtain⟨h2,h⟩:=andB h
 obtain⟨h3,h4⟩:=andB h
 have h1:=beq_iff_eq.mp h1
 have plain:swapsWith (emE e N (vs st).e1) (some (.Name (N.getD i "") (vw (vs st).e0).pos)) (vs st).pos.line X.env=pure false→PS X (emS (.asg i e) N st) (tS X.K X.mg E Φ Γ (.asg i e)):=fun hs=>
  weakS (ps_set (i:=i) (by rw[O.n];exact O.nd) (by rw[O.n];exact h1) (loc_ok O h2) (a0t' e O h3) hs (.inl (O.fn _ rfl))) fun D σ H q=>b2N' q
 rcases Bool.or_eq_true_iff.mp h4 with h4|h4
 ·exact plain (b1Y' h4)
 ·obtain⟨h4,h5⟩:=andB h4
  cases e with
  |comp box N' fr tg it ifs body=>
   rcases Bool.or_eq_true_iff.mp h5 with h5|h5
   ·exact plain (sw_cell O rfl (beq_iff_eq.mp h5))
   ·have hsw:=sw_yes O (line:=(vs st).pos.line) h5
    have hx:X.env.scope.names.lookup (N.getD i "")=some .local:=by rw[O.sc];exact beq_iff_eq.mp (andB h5).1
    obtain⟨k1,h⟩:=andB h3
    obtain⟨k2,h⟩:=andB h
    obtain⟨k3,h⟩:=andB h
    obtain⟨k4,h⟩:=andB h
    obtain⟨k5,h⟩:=andB h
    obtain⟨k6,h⟩:=andB h
    obtain⟨k7,k8⟩:=andB h
    have sc1:=b0o' O k1
    refine weakS (ps_comp (N:=N') (j:=i) (g:=gCT X.K tg) (tb:=tC X.K X.mg Φ Γ ifs body) O.calm (by rw[O.n];exact O.nd) (by rw[O.n];exact h1) hx hsw sc1 (b0p' O k2) (b1X' it O k5 a6y') (fun acc env=>a6r' _ env>>=fun ok=>if ok=true then cRest _ (_::_) _ _ 0 (.ref acc) env else pure ())
     (fun it acc env=>a3E' rfl) (fun C s0 H0 fp acc=>?_) (a2D' k6)) fun D σ H q=>c_comp (tg0:=.Name (N.getD i "") (vw (vs st).e0).pos) (b2N' q)
    have O':=b0q' O sc1.kind k3 C s0 H0 fp
    exact⟨g_pg O' k4,b4a' (a8p' ifs O' k7) (b4n' body O' rfl rfl k8)⟩
  |_=>cases h4
end
end Py
end
section
namespace Py
open PySem PySem.Spec PyProof.Rows L2
structure YOk (X:Cx)(N:List Str)(sc:Sc)(CX:CXT)(E:XK)(Φ:FT)(Γ:Str→Option D)(k:Nat):Prop where
 x:XOk X (fun _=>true) N sc CX E Φ Γ k
 own:PassesOwn (model X.prog X.w) X.A X.env X.xe
section
variable {X:Cx}{E:XK}{CX:CXT}{Φ:FT}{Γ:Str→Option D}{N:List Str}{sc:Sc}{k:Nat}{pos:Pos}
theorem sws_tup{tg v:Expr}{env:Env}(h1:isTup tg=true)(h2:foldB v=true):swappedStores [tg] v env=pure none:=by
 cases tg<;>first| (cases h1;done)|skip
 cases v<;>first|rfl|skip
 have h:(List.all _ (foldedForSure 8))=true:=h2
 unfold swappedStores
 simp only[]
 split
 ·rfl
 ·split
  ·rfl
  ·split
   ·rfl
   ·first|rfl|rw[if_pos h]
theorem b4o'{tg:Expr}{env:Env}(h1:isTup tg=true):(assignEach [tg] env).map (·.2)=[assign tg env]:=by
 cases tg<;>first|rfl|cases h1
theorem sole{t v:Expr}{line:Nat}{env:Env}(h:swapsWith v (some t) line env=pure false):swapsWithSole [t] v line env=pure false:=h
theorem asg_sub{o i:Expr}{p:Pos}{env:Env}(h:a3C' i=true):∀v,assign (.Subscript o i p) env v=(do
   let ov ←holding [v] (eval o env)
   let iv ←holding [v,ov] (eval i env)
   standAt p
   holding [v,ov,iv] (setItem ov iv v)
   release [v,ov,iv] []):=by
 intro v
 cases i<;>first|rfl|cases h
theorem s_asgT(O:XOk X (fun _=>true) N sc CX E Φ Γ k){t:CT}{e:CE}{tg v:Expr}(h1:isTup (emT t N tg)=true)(h2:foldB v=true)(h3:a3Y' v=true)(h4:sdT (fun _=>true) N sc t=true)(h5:PE X v (tE X.K X.mg E Φ Γ e)):PS X (.Assign [emT t N tg] v pos) (tS X.K X.mg E Φ Γ (.asgT t e)):=
 weakS (ps_asg h5 (g_pg O h4) (b1Y' h3) (sws_tup h1 h2) (b4o' h1)) fun D σ H zz=>ex43 zz fun F μ ρ S sk en w=>by
  simp only[denS]at w
  refine⟨F,μ,ρ,S,sk,en,(WantS.bind w).mono fun v H1 zz=>ex34 zz fun μ1 S1 d x1 s1 r1 w1=>?_⟩
  cases ea:asgCT t d ρ with
  |none=>rw[ea]at w1;exact w1.elim
  |some ρ'=>
   rw[ea]at w1
   exact g_do ea r1 (en.mono x1) fun σ' en'=>w1 μ1 H1 σ' .refl s1 en'
theorem s_aug(O:XOk X (fun _=>true) N sc CX E Φ Γ k){i:Nat}{e:CE}{v:Expr}{p:Pos}(h1:(N[i]?==some (N.getD i ""))=true)(h2:locB sc (N.getD i "")=true)(hv:PE X v (tE X.K X.mg E Φ Γ e)):PS X (.AugAssign (.Name (N.getD i "") p) .Add v pos) (tS X.K X.mg E Φ Γ (.aug i e)):=
 weakS (ps_aug (i:=i) (by rw[O.n];exact O.nd) (by rw[O.n];exact eq_of_beq h1) (loc_ok O h2) hv aug_D (.inl (O.fn _ rfl))) fun D σ H zz=>ex43 zz fun F μ ρ S sk en w=>by
  simp only[denS]at w
  cases ei:ρ[i]? with
  |none=>
   rw[ei]at w
   exact w.elim
  |some o=>
   cases o with
   |none=>
    rw[ei]at w
    exact w.elim
   |some d=>
    rw[ei]at w
    obtain⟨x,hx,rx⟩:=en.2 i d ei
    refine⟨x,hx,F,μ,ρ,S,sk,en,(WantS.bind w).mono fun vv H1 zz=>ex34 zz fun μ1 S1 f x1 s1 r1 w1=>?_⟩
    exact⟨F,μ1,S1,d,f,s1,Rep.mono x1 _ _ rx,r1,a1i' ((WantS.bind w1).mono fun z H2 zz=>ex34 zz fun μ2 S2 g x2 s2 r2 w2=>w2 μ2 H2 _ .refl s2 (((en.mono x1).mono x2).set r2))⟩
theorem s_set{o i v:CE}{eo ei ev:Expr}{p:Pos}(hn:a3C' ei=true)(h0:a3Y' ev=true)(ho:PE X eo (tE X.K X.mg E Φ Γ o))(hi:PE X ei (tE X.K X.mg E Φ Γ i))(hv:PE X ev (tE X.K X.mg E Φ Γ v)):PS X (.Assign [.Subscript eo ei p] ev pos) (tS X.K X.mg E Φ Γ (.set o i v)):=
 weakS (ps_asg hv (pg_sub ho hi set_D (asg_sub hn)) (sole (b1Y' h0)) (by cases ev<;>rfl)) fun D σ H zz=>ex43 zz fun F μ ρ S sk en w=>by
  simp only[denS]at w
  refine⟨F,μ,ρ,S,sk,en,(WantS.bind w).mono fun vv H1 zz=>ex34 zz fun μ1 S1 f x1 s1 r1 w1=>?_⟩
  refine⟨F,μ1,ρ,S1,s1,en.mono x1,(WantS.bind w1).mono fun vo H2 zz=>ex34 zz fun μ2 S2 d x2 s2 r2 w2=>?_⟩
  refine⟨F,μ2,ρ,S2,s2,(en.mono x1).mono x2,(WantS.bind w2).mono fun vi H3 zz=>ex34 zz fun μ3 S3 e x3 s3 r3 w3=>?_⟩
  cases es:setD d e f S3 with
  |none=>rw[es]at w3;exact w3.elim
  |some S4=>
   rw[es]at w3
   exact⟨F,μ3,S3,d,e,f,s3,Rep.mono x3 _ _ r2,r3,Rep.mono (x2.trans x3) _ _ r1,S4,es,fun μ4 H4 x4 s4=>w3 μ4 H4 σ x4 s4 ((((en.mono x1).mono x2).mono x3).mono x4)⟩
theorem s_expr{e:CE}{v:Expr}(h0:a3Y' v=true)(he:PE X v (tE X.K X.mg E Φ Γ e)):PS X (.Expr v pos) (tS X.K X.mg E Φ Γ (.expr e)):=
 weakS (ps_expr he (b1Y' h0)) fun D σ H zz=>ex43 zz fun F μ ρ S sk en w=>by
  simp only[denS]at w
  exact⟨F,μ,ρ,S,sk,en,(WantS.bind w).mono fun v H1 zz=>ex34 zz fun μ1 S1 d x1 s1 r1 w1=>w1 μ1 H1 σ .refl s1 (en.mono x1)⟩
theorem s_ret{e:CE}{v:Expr}(he:PE X v (tE X.K X.mg E Φ Γ e)):PS X (.Return (some v) pos) (tS X.K X.mg E Φ Γ (.ret e)):=
 weakS (ps_ret he) fun D σ H zz=>ex43 zz fun F μ ρ S sk en w=>by
  simp only[denS]at w
  exact⟨F,μ,ρ,S,sk,en,(WantS.bind w).mono fun v H1 zz=>ex34 zz fun μ1 S1 d x1 s1 r1 w1=>w1 μ1 H1 v .refl s1 r1⟩
theorem s_retN:PS X (.Return none pos) (tS X.K X.mg E Φ Γ .retN):=weakS ps_retN fun D σ H zz=>ex43 zz fun F μ ρ S sk en w=>w μ H .non .refl sk a9C'
theorem s_pass:PS X (.Pass pos) (tS X.K X.mg E Φ Γ .pass):=weakS ps_pass fun D σ H zz=>ex43 zz fun F μ ρ S sk en w=>w μ H σ .refl sk en
theorem s_brk:PS X (.Break pos) (tS X.K X.mg E Φ Γ .brk):=weakS b3k' fun D σ H zz=>ex43 zz fun F μ ρ S sk en w=>w μ H σ .refl sk en
theorem s_cont:PS X (.Continue pos) (tS X.K X.mg E Φ Γ .cont):=weakS a8J' fun D σ H zz=>ex43 zz fun F μ ρ S sk en w=>w μ H σ .refl sk en
theorem s_if{c:CE}{a b:List CS}{t:Expr}{x y:List Stmt}(hc:PT X t (tT X.K X.mg E Φ Γ c))(ha:PSs X x (tSs X.K X.mg E Φ Γ a))(hb:PSs X y (tSs X.K X.mg E Φ Γ b)):PS X (.If t x y pos) (tS X.K X.mg E Φ Γ (.ite c a b)):=
 weakS (ps_if hc ha hb) fun D σ H zz=>ex43 zz fun F μ ρ S sk en w=>by
  simp only[denS]at w
  refine⟨F,μ,ρ,S,sk,en,(WantS.bind w).mono fun k H1 zz=>ex34 zz fun μ1 S1 k' x1 s1 e1 w1=>?_⟩
  subst e1
  cases k' with
  |true=>rw[if_pos rfl]at w1⊢;exact⟨F,μ1,ρ,S1,s1,en.mono x1,w1⟩
  |false=>rw[if_neg (by decide)]at w1⊢;exact⟨F,μ1,ρ,S1,s1,en.mono x1,w1⟩
theorem s_nilS:PSs X [] (tSs X.K X.mg E Φ Γ []):=weakSs pss_nil fun D σ H zz=>ex43 zz fun F μ ρ S sk en w=>w μ H σ .refl sk en
theorem s_consS{c:CS}{cs:List CS}{s:Stmt}{st:List Stmt}(h1:PS X s (tS X.K X.mg E Φ Γ c))(h2:PSs X st (tSs X.K X.mg E Φ Γ cs)):PSs X (s::st) (tSs X.K X.mg E Φ Γ (c::cs)):=
 weakSs (b3j' h1 h2) fun D σ H zz=>ex43 zz fun F μ ρ S sk en w=>by
  simp only[denSs]at w
  exact⟨F,μ,ρ,S,sk,en,WantS.seq w fun μ' H' σ' ρ' S' x k en' w'=>⟨F,μ',ρ',S',k,en',w'⟩⟩
theorem a8q'{K:PySem.W.Frag}{mg:GS}{D:Ends}{μ:List Addr}{H:Hp}{r:Res Fl}{f:Rho→Store→Res Fl}{Nx:L2.St→Hp→Prop}(w:WantS K mg E D μ H (r.bind fun fl S'=>match fl with
   | .next ρ'=>f ρ' S'
   | .cont ρ'=>f ρ' S'
   | .brk ρ'=>.ok (.next ρ') S'
   | .ret d=>.ok (.ret d) S')) (hN:∀μ' H' σ' ρ' S',Ext μ H μ' H'→SOk K mg μ' S' H'→EnvR K mg μ' H' ρ' σ'→WantS K mg E D μ' H' (f ρ' S')→Nx σ' H'):WantS K mg E {D with nx:=Nx,ct:=Nx,bk:=D.nx} μ H r:=by
 cases r with
 |ok fl S=>
  cases fl with
  |next ρ=>exact fun m h s x k en=>hN m h s ρ S x k en (WantS.ext x (show WantS K mg E D μ H (f ρ S)from w))
  |ret d=>exact w
  |brk ρ=>exact w
  |cont ρ=>exact fun m h s x k en=>hN m h s ρ S x k en (WantS.ext x (show WantS K mg E D μ H (f ρ S)from w))
 |err z S=>exact w
 |fail=>exact w
theorem s_while{n:Nat}{c:CE}{body:List CS}{t:Expr}{x:List Stmt}(hp:PassesOwn (model X.prog X.w) X.A X.env X.xe)(hc:PT X t (tT X.K X.mg E Φ Γ c))(hb:PSs X x (tSs X.K X.mg E Φ Γ body)):PS X (.While t x [] pos) (tS X.K X.mg E Φ Γ (.while_ n c body)):=
 weakS (b3m' hp hc hb) fun D σ H zz=>ex43 zz fun F μ ρ S sk en w=>by
  simp only[denS]at w
  refine⟨fun m σ H=>∃μ ρ S,SOk X.K ⟨X.mg,F⟩ μ S H∧EnvR X.K ⟨X.mg,F⟩ μ H ρ σ∧WantS X.K ⟨X.mg,F⟩ E D μ H (a3B' (denT Φ Γ c) (denSs Φ Γ body) m ρ S),⟨n,μ,ρ,S,sk,en,w⟩,?_⟩
  rintro m σ H ⟨μ,ρ,S,sk,en,w⟩
  cases m with
  |zero=>exact w.elim
  |succ m=>
   unfold a3B' at w
   refine⟨F,μ,ρ,S,sk,en,(WantS.bind w).mono fun k H1 zz=>ex34 zz fun μ1 S1 k' x1 s1 e1 w1=>?_⟩
   subst e1
   cases k' with
   |true=>
    rw[if_pos rfl]at w1⊢
    refine⟨fun σ' H'=>∃μ ρ S,SOk X.K ⟨X.mg,F⟩ μ S H'∧EnvR X.K ⟨X.mg,F⟩ μ H' ρ σ'∧WantS X.K ⟨X.mg,F⟩ E D μ H' (a3B' (denT Φ Γ c) (denSs Φ Γ body) m ρ S),fun σ' H' q=>⟨m,Nat.lt_succ_self m,q⟩,F,μ1,ρ,S1,s1,en.mono x1,?_⟩
    exact a8q' w1 fun μ' H' σ' ρ' S' x k en' w'=>⟨μ',ρ',S',k,en',w'⟩
   |false=>
    rw[if_neg (by decide)]at w1⊢
    exact w1 μ1 H1 σ .refl s1 (en.mono x1)
end
theorem a4E'(step:D→Rho→Store→Res Fl)(xs:List D):∀(n i:Nat) (ρ:Rho) (S:Store),i+n=xs.length→forB step (fun _ i=>some xs[i]?) (n+1) i ρ S=forD step (xs.drop i) ρ S
 |0,i,ρ,S,h=>by
  rw[List.drop_eq_nil_of_le (by omega)]
  unfold forB
  have:xs[i]?=none:=ZZ.mpr (by omega)
  rw[this]
  rfl
 |n+1,i,ρ,S,h=>by
  have hi:i<xs.length:=by omega
  rw[List.drop_eq_getElem_cons hi]
  unfold forB
  rw[Zg hi]
  show(step xs[i] ρ S).bind _=(step xs[i] ρ S).bind _
  congr 1
  funext fl S'
  cases fl with
  |next ρ'=>exact a4E' step xs n (i+1) ρ' S' (by omega)
  |cont ρ'=>exact a4E' step xs n (i+1) ρ' S' (by omega)
  |brk ρ'=>rfl
  |ret d=>rfl
theorem forI_eq(step:D→Rho→Store→Res Fl)(its:Its)(ρ:Rho)(S:Store):forI step its ρ S=forB step (getOf its) (b0a' its) 0 ρ S:=by
 cases its with
 |items xs=>exact(a4E' step xs xs.length 0 ρ S (by omega)).symm
 |live f get=>rfl
def stepF(Φ:FT)(Γ:Str→Option D)(t:CT)(body:List CS):D→Rho→Store→Res Fl:=fun x ρ S=>match asgCT t x ρ with
 |some ρ'=>denSs Φ Γ body ρ' S
 |none=>.fail
section
variable {X:Cx}{E:XK}{CX:CXT}{Φ:FT}{Γ:Str→Option D}{N:List Str}{sc:Sc}{k:Nat}{pos:Pos}
theorem s_for{t:CT}{it:CE}{body:List CS}{tg i:Expr}{x:List Stmt}(hp:PassesOwn (model X.prog X.w) X.A X.env X.xe)(hc:X.calm=true)(hi:PI X tg i (tI X.K X.mg E Φ Γ it))(hg:PG X tg (gCT X.K t))(hs:∀x,foldedSetIterable i X.env x=pure x)(hb:PSs X x (tSs X.K X.mg E Φ Γ body)):
  PS X (.For tg i x [] pos) (tS X.K X.mg E Φ Γ (.for_ t it body)):=
 weakS (ps_for hp hc hi hg hb hs) fun D σ H zz=>ex43 zz fun F μ ρ S sk en w=>by
  simp only[denS]at w
  refine⟨F,μ,ρ,S,sk,en,WantG.mono (Rel:=fun μ' H' its J=>ItOk X.K ⟨X.mg,F⟩ J (getOf its) μ' H') (WantS.bind w) fun J H1 h=>?_⟩
  obtain⟨μ1,S1,its,x1,s1,ok,w1⟩:=h
  have w2:WantS X.K ⟨X.mg,F⟩ E D μ1 H1 (forI (stepF Φ Γ t body) its ρ S1):=w1
  rw[forI_eq]at w2
  refine⟨fun i m σ H=>∃μ ρ S,Chg X.K F μ1 H1 F μ H∧SOk X.K ⟨X.mg,F⟩ μ S H∧EnvR X.K ⟨X.mg,F⟩ μ H ρ σ∧WantS X.K ⟨X.mg,F⟩ E D μ H (forB (stepF Φ Γ t body) (getOf its) m i ρ S),⟨b0a' its,μ1,ρ,S1,.refl,s1,en.mono x1,w2⟩,?_⟩
  rintro i m σ H ⟨μ,ρ,S,ch,sk,en,w⟩
  cases m with
  |zero=>exact w.elim
  |succ m=>
   unfold forB at w
   obtain⟨k1,k2⟩:=ok i μ S H F ch sk
   cases e:getOf its S i with
   |none=>rw[e]at w;exact w.elim
   |some o=>
    cases o with
    |none=>rw[e]at w;exact .inl ⟨k2 e,w μ H σ .refl sk en⟩
    |some y=>
     rw[e]at w
     obtain⟨go,yld⟩:=k1 y e
     refine .inr ⟨go,fun σ' H'=>∃μ ρ S,Chg X.K F μ1 H1 F μ H'∧SOk X.K ⟨X.mg,F⟩ μ S H'∧EnvR X.K ⟨X.mg,F⟩ μ H' ρ σ'∧WantS X.K ⟨X.mg,F⟩ E D μ H' (forB (stepF Φ Γ t body) (getOf its) m (i+1) ρ S),fun σ' H' q=>⟨m,Nat.lt_succ_self m,q⟩,fun v H' hv=>?_⟩
     obtain⟨x2,s2,r2⟩:=yld v H' hv
     have ch2:Chg X.K F μ1 H1 F μ H':=ch.trans (.of_ext x2 fun _ z=>.inl z)
     have w':=WantS.ext x2 w
     have w3:WantS X.K ⟨X.mg,F⟩ E D μ H' ((stepF Φ Γ t body y ρ S).bind fun fl S'=>match fl with
      | .next ρ'=>forB (stepF Φ Γ t body) (getOf its) m (i+1) ρ' S'
      | .cont ρ'=>forB (stepF Φ Γ t body) (getOf its) m (i+1) ρ' S'
      | .brk ρ'=>.ok (.next ρ') S'
      | .ret d=>.ok (.ret d) S'):=w'
     have w4:=a8q' (f:=fun ρ' S'=>forB (stepF Φ Γ t body) (getOf its) m (i+1) ρ' S') (Nx:=fun σ' H'=>∃μ ρ S,Chg X.K F μ1 H1 F μ H'∧SOk X.K ⟨X.mg,F⟩ μ S H'∧EnvR X.K ⟨X.mg,F⟩ μ H' ρ σ'∧WantS X.K ⟨X.mg,F⟩ E D μ H' (forB (stepF Φ Γ t body) (getOf its) m (i+1) ρ S)) w3
      fun μ' H'' σ' ρ' S' x3 k en' w''=>⟨μ',ρ',S',ch2.trans (.of_ext x3 fun _ z=>.inl z),k,en',w''⟩
     unfold stepF at w4
     cases ea:asgCT t y ρ with
     |none=>simp only[ea]at w4;exact w4.elim
     |some ρ'=>
      simp only[ea]at w4
      exact g_do ea r2 (en.mono x2) fun σ2 en2=>⟨F,μ,ρ',S,s2,en2,w4⟩
end
mutual
theorem soundS(c:CS):∀{X:Cx} {N:List Str} {sc:Sc} {CX:CXT} {E:XK} {Φ:FT} {Γ:Str→Option D} {k:Nat} {st:Stmt},YOk X N sc CX E Φ Γ k→sdS c N sc st=true→PS X (emS c N st) (tS X.K X.mg E Φ Γ c):=by
 intro X N sc CX E Φ Γ k st O h
 cases c with
 |asg i e=>exact s_asg O.x h
 |asgT t e=>exact s_asgT O.x (a6y' (andB h).1) ((andB (andB h).2).1) (andB (andB (andB h).2).2).1 (andB (andB (andB (andB h).2).2).2).1 (a0t' e O.x (andB (andB (andB (andB h).2).2).2).2)
 |par=>cases h
 |aug i e=>exact s_aug O.x (andB h).1 (andB (andB h).2).1 (a0t' e O.x (andB (andB h).2).2)
 |set o i v=>exact s_set (andB (andB h).1).1 (andB (andB h).2).1 (a0t' o O.x (andB (andB (andB h).1).2).1) (a0t' i O.x (andB (andB (andB h).1).2).2) (a0t' v O.x (andB (andB h).2).2)
 |set2=>cases h
 |expr e=>exact s_expr (andB h).1 (a0t' e O.x (andB h).2)
 |ret e=>exact s_ret (a0t' e O.x h)
 |retN=>exact s_retN
 |pass=>exact s_pass
 |brk=>exact s_brk
 |cont=>exact s_cont
 |ite c a b=>exact s_if (a3G' c O.x (andB h).1) (a5s' a O (andB (andB h).2).1) (a5s' b O (andB (andB h).2).2)
 |for_ t it body=>exact s_for O.own O.x.calm (b1X' it O.x (andB (andB h).2).1 a6y') (g_pg O.x (andB h).1) (a2D' (andB (andB (andB h).2).2).1) (a5s' body O (andB (andB (andB h).2).2).2)
 |while_ n c body=>exact s_while O.own (a3G' c O.x (andB h).1) (a5s' body O (andB h).2)
 |never=>exact fun pins s σ H D I zz=>ex43 zz fun F μ ρ S sk en w=>w.elim
theorem a5s'(cs:List CS):∀{X:Cx} {N:List Str} {sc:Sc} {CX:CXT} {E:XK} {Φ:FT} {Γ:Str→Option D} {k:Nat} {st:List Stmt},YOk X N sc CX E Φ Γ k→sdSs cs N sc st=true→PSs X (emSs cs N st) (tSs X.K X.mg E Φ Γ cs):=by
 intro X N sc CX E Φ Γ k st O h
 cases cs with
 |nil=>exact s_nilS
 |cons c cs=>exact s_consS (soundS c O (andB h).1) (a5s' cs O (andB h).2)
end
end Py
end
section
namespace Py
open PySem PySem.Spec PyProof.Rows L2
mutual
def lowD(k:Nat):D→Bool
 | .tup xs=>lowL k xs
 | .lst xs=>lowL k xs
 | .scr xs=>lowL k xs
 | .ref n=>decide (n<k)
 |_=>true
def lowL(k:Nat):List D→Bool
 | []=>true
 |x::xs=>lowD k x&&lowL k xs
end
def trim(k:Nat)(d:D)(S':Store):Res D:=
 if(S'.take k).all (lowL k)=true then
  (if lowD k d=true then .ok d (S'.take k)else match d with
   | .ref n=>(match S'[n]? with
    |some xs=>if lowL k xs=true∧k≤n then .ok (.ref k) (S'.take k++[xs])else .fail
    |none=>.fail)
   |_=>.fail)
 else .fail
def runD(Φ:FT)(Γ:Str→Option D)(body:List CS)(n np:Nat)(ds:List D)(S:Store):Res D:=
 if ds.length=np then
  (match denSs Φ Γ body (ds.map some++List.replicate (n-np) none) S with
  | .ok (.ret d) S'=>trim S.length d S'
  | .ok (.next _) S'=>trim S.length .non S'
  | .err x S'=>if(S'.take S.length).all (lowL S.length)=true then .err x (S'.take S.length)else .fail
  |_=>.fail)
 else .fail
section
variable {K:PySem.W.Frag}{mg:GS}{μ μ' μ'':List Addr}{H H':Hp}{k:Nat}
mutual
theorem Rep.low(hk:∀n,n<k→μ''[n]?=μ'[n]?)(hs:∀a∈μ'',a∈μ'):∀(d:D) (v:V),lowD k d=true→Rep K mg μ' H d v→Rep K mg μ'' H d v
 | .non,_,_,h=>h
 | .bl _,_,_,h=>h
 | .int _,_,_,h=>h
 | .str _,_,_,h=>h
 | .tup ds,v,l,h=>by
  unfold Rep at h⊢
  unfold lowD at l
  obtain⟨a,vs,e,q,r⟩:=h
  exact⟨a,vs,e,q,RepL.low hk hs ds vs l r⟩
 | .lst ds,v,l,h=>by
  unfold Rep at h⊢
  unfold lowD at l
  obtain⟨a,vs,e,q,n,r⟩:=h
  exact⟨a,vs,e,q,⟨fun z=>n.1 (hs a z),n.2⟩,RepL.low hk hs ds vs l r⟩
 | .scr ds,v,l,h=>by
  unfold Rep at h⊢
  unfold lowD at l
  obtain⟨a,vs,e,q,r⟩:=h
  exact⟨a,vs,e,q,RepL.low hk hs ds vs l r⟩
 | .ref n,v,l,h=>by
  unfold Rep at h⊢
  unfold lowD at l
  obtain⟨a,e,q⟩:=h
  exact⟨a,e,by rw[hk n (by simpa using l)];exact q⟩
 | .fn y,v,_,h=>h
 | .ty y,v,_,h=>h
 | .dct,v,_,h=>h
theorem RepL.low(hk:∀n,n<k→μ''[n]?=μ'[n]?)(hs:∀a∈μ'',a∈μ'):∀(ds:List D) (vs:List V),lowL k ds=true→RepL K mg μ' H ds vs→RepL K mg μ'' H ds vs
 | [],vs,_,h=>h
 |d::ds,vs,l,h=>by
  unfold RepL at h⊢
  unfold lowL at l
  simp only[Zt]at l
  obtain⟨w,ws,e,r,q⟩:=h
  exact⟨w,ws,e,Rep.low hk hs d w l.1 r,RepL.low hk hs ds ws l.2 q⟩
end
theorem Ext.cut(x:Ext μ H μ' H'):Ext μ H μ H':=⟨⟨[],by simp⟩,x.keep,x.there,fun _ h=>.inl h⟩
theorem SOk.cut{S':Store}(x:Ext μ H μ' H')(hk:μ.length=k)(s:SOk K mg μ' S' H')(l:(S'.take k).all (lowL k)=true):SOk K mg μ (S'.take k) H':=by
 obtain⟨r,rfl⟩:=x.pre
 have hl:=s.len
 simp at hl
 refine⟨s.live,by rw[Z3];omega,(Z6.mp s.nd).1,fun n a ds h1 h2=>?_⟩
 have hn:n<k:=by rw[←hk];exact(Zh.mp h1).1
 have h2':=h2
 rw[List.getElem?_take_of_lt hn]at h2
 obtain⟨vs,q,rr⟩:=s.at_ n a ds (by rw[Zo (by omega)];exact h1) h2
 exact⟨vs,q,RepL.low (k:=k) (fun m hm=>by rw[Zo (by omega)]) (fun b hb=>Z7 _ hb) _ _ (ZN.mp l ds (Zz h2')) rr⟩
theorem b2O'{E:XK}{d:D}{v:V}{S':Store}{Q:VK}(x:Ext μ H μ' H')(hk:μ.length=k)(s:SOk K mg μ' S' H')(r:Rep K mg μ' H' d v)(w:WantG K mg E (Rep K mg) μ H Q (trim k d S')):Q v H':=by
 unfold trim at w
 split at w
 ·rename_i hl
  split at w
  ·rename_i hd
   refine w μ H' v x.cut (SOk.cut x hk s hl) ?_
   obtain⟨r',rfl⟩:=x.pre
   exact Rep.low (k:=k) (fun m hm=>by rw[Zo (by omega)]) (fun b hb=>Z7 _ hb) _ _ hd r
  ·split at w
   ·rename_i n hnl
    split at w
    ·rename_i xs hx
     split at w
     ·rename_i hxl
      unfold Rep at r
      obtain⟨a,rfl,ha⟩:=r
      obtain⟨vs,q,rr⟩:=s.at_ n a xs ha hx
      have s1:=SOk.cut x hk s hl
      obtain⟨r',rfl⟩:=x.pre
      have hnd:=Z6.mp s.nd
      have hn:μ.length≤n:=by omega
      have har:a∈r':=by
       rw[Zw hn]at ha
       exact Zz ha
      have hna:a∉μ:=fun z=>hnd.2.2 a z a har rfl
      have hfr:H a=none:=by
       rcases x.fresh a (ZE _ har)with z|z
       ·exact absurd z hna
       ·exact z
      have sub:∀b∈μ++[a],b∈μ++r':=fun b hb=>by
       rcases ZA.mp hb with z|z
       ·exact Z7 _ z
       ·have:b=a:=by simpa using z
        subst this;exact ZE _ har
      have same:∀m,m<k→(μ++[a])[m]?=(μ++r')[m]? :=fun m hm=>by rw[Zo (by omega),Zo (by omega)]
      have hl2:=s.len
      simp at hl2
      refine w (μ++[a]) H' (.ref a) ⟨⟨[a],rfl⟩,x.keep,x.there,fun b hb=>?_⟩ ⟨s.live,?_,?_,fun m b ds h1 h2=>?_⟩ ?_
      ·rcases ZA.mp hb with z|z
       ·exact .inl z
       ·have:b=a:=by simpa using z
        subst this;exact .inr hfr
      ·rw[Zn,Zn,Z3];simp;omega
      ·rw[Z6]
       exact⟨hnd.1,by simp,fun b hb c hc=>by
        have:c=a:=by simpa using hc
        subst this;intro z;subst z;exact hna hb⟩
      ·by_cases hm:m<μ.length
       ·rw[Zo hm]at h1
        rw[Zo (by rw[Z3];omega)]at h2
        have h2':=h2
        rw[List.getElem?_take_of_lt (by omega)]at h2
        obtain⟨ws,q',rr'⟩:=s.at_ m b ds (by rw[Zo hm];exact h1) h2
        exact⟨ws,q',RepL.low (k:=k) same sub _ _ (ZN.mp hl ds (Zz h2')) rr'⟩
       ·have e1:m=μ.length:=by
         have:=(Zh.mp h1).1
         simp at this;omega
        subst e1
        rw[Zw (Zl _)]at h1
        rw[Zw (by rw[Z3];omega)]at h2
        have e2:μ.length-(S'.take k).length=0:=by rw[Z3];omega
        rw[e2]at h2
        simp at h1 h2
        subst h1;subst h2
        exact⟨vs,q,RepL.low (k:=k) same sub _ _ hxl.1 rr⟩
      ·unfold Rep
       exact⟨a,rfl,by rw[←hk,Zw (Zl _)];simp⟩
     ·exact w.elim
    ·exact w.elim
   ·exact w.elim
 ·exact w.elim
end
theorem b1Z'{K:PySem.W.Frag}{mg:GS}{μ:List Addr}{H:Hp}{N:List Str}{ds:List D}{vs:List V}(r:RepL K mg μ H ds vs):EnvR K mg μ H (ds.map some++List.replicate (N.length-ds.length) none) (L2.start N vs):=by
 unfold L2.start
 have hl:=r.length
 refine⟨by simp[hl],fun i d e=>?_⟩
 by_cases hi:i<ds.length
 ·rw[Zo (by simpa using hi),ZJ]at e
  cases e1:ds[i]? with
  |none=>rw[e1]at e;cases e
  |some d'=>
   rw[e1]at e
   cases e
   obtain⟨v,h1,h2⟩:=r.get e1
   exact⟨v,by rw[Zo (by simp;omega),ZJ,h1];rfl,h2⟩
 ·rw[Zw (by simpa using hi),List.getElem?_replicate]at e
  split at e<;>cases e
section
variable {P:Program}{w:World}{K:PySem.W.Frag}{mg:Str→Option Value}{base:Heap}{Φ:FT}{Γ:Str→Option D}{k:Nat}
theorem FOk.mono{CX:CXT}{j:Nat}{f:Str}{φ:List D→Store→Res D}(F:FOk P w K mg base CX j f φ)(h:j≤k):FOk P w K mg base CX k f φ:=by
 obtain⟨fa,fd,ps,m1,m2,m3,m4,m5⟩:=F.ex
 exact⟨fa,fd,ps,m1,m2,m3,m4.mono h,m5⟩
theorem fnok{x qual:Str}{st:Stmt}{f:Addr}{fd:FuncData}{N ps:List Str}{body:List CS}(F:Fun K x qual st f fd)(S:FnScope N ps (a0s' st))(M:MOk P w K mg base CX0 Φ Γ k)(he:emSs body N (a0U' st)=a0U' st)(hc:sdSs body N (a0s' st).names (a0U' st)=true):
  FnOk P w K mg base CX0 (k+1) f fd ps (spOf K mg ps.length (runD Φ Γ body N.length ps.length)):=by
 refine F.ok S (fun vs H Q E h=>h.1) (fun cdv A outer s H vs Q E hr h=>?_)
 ·obtain⟨hl,F',μ,S0,ds,sk,r,wt⟩:=h
  have O:YOk (cxOf CX0 P w K mg base N qual (a0s' st) f cdv A outer s H E).nox N (a0s' st).names CX0 E Φ Γ k:=⟨⟨rfl,S.nd,rfl,S.kind,rfl,hr,fun _ _=>rfl,M,fun _ _ _ _ _ _ _ z=>z.elim,fun _ _ _ _ _ z=>z⟩,PassesOwn.never⟩
  refine⟨_,he▸a5s' body O hc,F',μ,ds.map some++List.replicate (N.length-ds.length) none,S0,sk,b1Z' r,?_⟩
  have hl2:ds.length=ps.length:=by rw[r.length];exact hl
  unfold runD at wt
  rw[if_pos hl2,←hl2]at wt
  have hkl:μ.length=S0.length:=sk.len
  show WantS K ⟨mg,F'⟩ E _ μ H (denSs Φ Γ body (ds.map some++List.replicate (N.length-ds.length) none) S0)
  cases e:denSs Φ Γ body (ds.map some++List.replicate (N.length-ds.length) none) S0 with
  |ok fl S'=>
   rw[e]at wt
   cases fl with
   |next ρ=>exact fun μ' H' σ' x s' _=>b2O' x hkl s' a9C' wt
   |ret d=>exact fun μ' H' v x s' r'=>b2O' x hkl s' r' wt
   |brk ρ=>exact wt.elim
   |cont ρ=>exact wt.elim
  |err y S'=>
   rw[e]at wt
   intro μ' H' x s'
   by_cases hz:(S'.take S0.length).all (lowL S0.length)=true
   ·simp only[hz,if_true]at wt
    exact wt μ H' x.cut (SOk.cut x hkl s' hz)
   ·simp only[hz]at wt
    exact wt.elim
  |fail=>rw[e]at wt;exact wt.elim
theorem fok{x qual:Str}{st:Stmt}{f:Addr}{fd:FuncData}{N ps:List Str}{body:List CS}(F:Fun K x qual st f fd)(S:FnScope N ps (a0s' st))(hm:mg x=some (.ref f))(hb:Binds K fd ps [])(M:MOk P w K mg base CX0 Φ Γ k)(he:emSs body N (a0U' st)=a0U' st)(hc:sdSs body N (a0s' st).names (a0U' st)=true):
  FOk P w K mg base CX0 (k+1) x (runD Φ Γ body N.length ps.length):=by
 refine⟨f,fd,ps,hm,F.kp,hb,fnok F S M he hc,fun ds S' hne=>?_⟩
 unfold runD at hne
 by_cases h:ds.length=ps.length
 ·exact h
 ·rw[if_neg h]at hne;exact absurd rfl hne
theorem fok0{x qual:Str}{st:Stmt}{f:Addr}{fd:FuncData}{N ps:List Str}(F:Fun K x qual st f fd)(S:FnScope N ps (a0s' st))(hm:mg x=some (.ref f))(hb:Binds K fd ps []):FOk P w K mg base CX0 k x (fun _ _=>.fail):=
 ⟨f,fd,ps,hm,F.kp,hb,⟨fun vs H Q E h=>h.1,fun A outer s H args us vs Q E _ _ _ _ h=>by obtain⟨_,_,_,_,_,_,_,z⟩:=h;exact z.elim⟩,fun _ _ h=>absurd rfl h⟩
theorem len1{P:List Value→Prop}(h:∀a,P [a]):∀us:List Value,us.length=1→P us:=fun us hl=>by
 obtain⟨a,rfl⟩:=List.length_eq_one_iff.mp hl
 exact h a
theorem len2{P:List Value→Prop}(h:∀a b,P [a,b]):∀us:List Value,us.length=2→P us:=fun us hl=>by
 cases us with
 |nil=>cases hl
 |cons a us=>exact len1 (P:=fun us=>P (a::us)) (h a) us (Nat.succ.inj hl)
theorem len3{P:List Value→Prop}(h:∀a b c,P [a,b,c]):∀us:List Value,us.length=3→P us:=fun us hl=>by
 cases us with
 |nil=>cases hl
 |cons a us=>exact len2 (P:=fun us=>P (a::us)) (h a) us (Nat.succ.inj hl)
theorem len4{P:List Value→Prop}(h:∀a b c d,P [a,b,c,d]):∀us:List Value,us.length=4→P us:=fun us hl=>by
 cases us with
 |nil=>cases hl
 |cons a us=>exact len3 (P:=fun us=>P (a::us)) (h a) us (Nat.succ.inj hl)
def tbl(l:List (Str×(List D→Store→Res D))):FT:=fun f=>l.lookup f
theorem mok{l:List (Str×(List D→Store→Res D))}(h:∀p∈l,FOk P w K mg base CX0 k p.1 p.2)(hg:∀x d,Γ x=some d→∃v u,mg x=some u∧RelV v u∧∀F μ H,Rep K ⟨mg,F⟩ μ H d v)(hb:∀x∈a2g',mg x=none):MOk P w K mg base CX0 (tbl l) Γ k:=
 ⟨fun f φ e=>h (f,φ) (ZM e),hg,hb⟩
end
end Py
end
section
namespace K32
open PySem PySem.Spec PyProof.Rows L2 Py
def G0:Str→Option D:=fun x=>[(("MOST_PLACES":Str),D.int 8)].lookup x
def a8W':List Str:=["thing"]
def a8X':List CS:=[.ret (.band (.blt .isinst [.var 0,.ty "int"]) (.bnot (.blt .isinst [.var 0,.ty "bool"])))]
def a8Y':FT:=tbl []
def a2E':List D→Store→Res D:=runD a8Y' G0 a8X' a8W'.length 1
def a2l':List Str:=["thing","low","high"]
def a2m':List CS:=[.ret (.band (.call "is_number" [.var 0]) (.chain .LtE .LtE (.var 1) (.var 0) (.var 2)))]
def a2n':FT:=tbl [("is_number",a2E')]
theorem a1p':a2n' "is_number"=some a2E':=rfl
def a0u':List D→Store→Res D:=runD a2n' G0 a2m' a2l'.length 3
def a6z':List Str:=["many","thing"]
def a6A':List CS:=[.ret (.call "is_number_from" [.var 1,.lit (.int 0),.bin .Sub (.var 0) (.lit (.int 1))])]
def a6B':FT:=tbl [("is_number_from",a0u')]
theorem a1x':a6B' "is_number_from"=some a0u':=rfl
def a3j':List D→Store→Res D:=runD a6B' G0 a6A' a6z'.length 2
def a5t':List Str:=["things"]
def a5u':List CS:=[.ret (.blt .all [.comp false ["one","other"] [none,none] (.tup [.var 0,.var 1]) (.zip [.var 0,.sl (.var 0) [.lit (.int 1)] []]) [] (.emit (.cmp .Lt (.var 0) (.var 1)))])]
def a8Z':FT:=tbl []
def a0w':List D→Store→Res D:=runD a8Z' G0 a5u' a5t'.length 1
def a4F':List Str:=["many","thing"]
def a4G':List CS:=[.ret (.band (.blt .isinst [.var 1,.ty "tuple"]) (.blt .all [.comp false ["place","many"] [none,some 0] (.var 0) (.seq (.var 1)) [] (.emit (.call "is_place" [.var 1,.var 0]))]))]
def a4H':FT:=tbl [("is_place",a3j')]
theorem a2o':a4H' "is_place"=some a3j':=rfl
def a1j':List D→Store→Res D:=runD a4H' G0 a4G' a4F'.length 2
def a4I':List Str:=["things"]
def a4J':List CS:=[.ret (.cmp .Eq (.lenset (.var 0)) (.blt .len [.var 0]))]
def a7z':FT:=tbl []
def a1J':List D→Store→Res D:=runD a7z' G0 a4J' a4I'.length 1
def b0s':List Str:=["many","thing"]
def b0t':List CS:=[.ret (.band (.call "are_places" [.var 0,.var 1]) (.band (.cmp .Eq (.blt .len [.var 1]) (.lit (.int 2))) (.call "is_rising" [.var 1])))]
def a7A':FT:=tbl [("are_places",a1j'),("is_rising",a0w')]
theorem a2T':a7A' "are_places"=some a1j':=rfl
theorem a3k':a7A' "is_rising"=some a0w':=rfl
def a3H':List D→Store→Res D:=runD a7A' G0 b0t' b0s'.length 2
def b0u':List Str:=["thing","many","ties"]
def b0v':List CS:=[.ite (.bor (.bnot (.blt .isinst [.var 0,.ty "tuple"])) (.cmp .NotEq (.blt .len [.var 0]) (.lit (.int 2)))) [.ret (.lit (.bl false))] [],.asgT (.tup [.var 1,.var 2]) (.var 0),.ite (.bor (.bnot (.call "is_number_from" [.var 1,.lit (.int 1),.glob "MOST_PLACES"])) (.bnot (.blt .isinst [.var 2,.ty "tuple"]))) [.ret (.lit (.bl false))] [],.ret (.band (.blt .all [.comp false ["tie","many"] [none,some 1] (.var 0) (.seq (.var 2)) [] (.emit (.call "is_tie" [.var 1,.var 0]))]) (.call "is_rising" [.var 2]))]
def a5Q':FT:=tbl [("is_rising",a0w'),("is_number_from",a0u'),("is_tie",a3H')]
theorem a3l':a5Q' "is_rising"=some a0w':=rfl
theorem a1K':a5Q' "is_number_from"=some a0u':=rfl
theorem a2p':a5Q' "is_tie"=some a3H':=rfl
def a5R':List D→Store→Res D:=runD a5Q' G0 b0v' b0u'.length 1
def a6C':List Str:=["web","thing"]
def a6D':List CS:=[.ite (.bnot (.blt .isinst [.var 1,.ty "tuple"])) [.ret (.lit (.bl false))] [],.ret (.band (.blt .all [.comp false ["tie","web"] [none,some 0] (.var 0) (.seq (.var 1)) [] (.emit (.band (.call "is_tie" [.idx (.var 1) (.lit (.int 0)),.var 0]) (.cmp .In (.var 0) (.idx (.var 1) (.lit (.int 1))))))]) (.call "is_rising" [.var 1]))]
def a4K':FT:=tbl [("is_rising",a0w'),("is_tie",a3H')]
theorem a2J':a4K' "is_rising"=some a0w':=rfl
theorem a3I':a4K' "is_tie"=some a3H':=rfl
def a3m':List D→Store→Res D:=runD a4K' G0 a6D' a6C'.length 2
def a3Z':List Str:=["thing"]
def a4a':List CS:=[.ite (.bnot (.call "is_web" [.var 0])) [.never] []]
def a4b':FT:=tbl [("is_web",a5R')]
theorem a2K':a4b' "is_web"=some a5R':=rfl
def a1s':List D→Store→Res D:=runD a4b' G0 a4a' a3Z'.length 1
def b0w':List Str:=["one","other"]
def b0x':List CS:=[.ret (.tup [.blt .min [.var 0,.var 1],.blt .max [.var 0,.var 1]])]
def b4p':FT:=tbl []
def a5S':List D→Store→Res D:=runD b4p' G0 b0x' b0w'.length 2
def a6E':List Str:=["web","one","other"]
def a6F':List CS:=[.ret (.cmp .In (.call "tie_of" [.var 1,.var 2]) (.idx (.var 0) (.lit (.int 1))))]
def a6G':FT:=tbl [("tie_of",a5S')]
theorem a3J':a6G' "tie_of"=some a5S':=rfl
def a0E':List D→Store→Res D:=runD a6G' G0 a6F' a6E'.length 3
def a4L':List Str:=["web","thing"]
def a4M':List CS:=[.expr (.call "must_be_web" [.var 0]),.ret (.band (.call "are_ties" [.var 0,.var 1]) (.call "are_unlike" [.comp false ["tie","place"] [none,none] (.var 0) (.seq (.var 1)) [] (.inner (.var 1) (.seq (.var 0)) [] (.emit (.var 1)))]))]
def a1L':FT:=tbl [("must_be_web",a1s'),("are_ties",a3m'),("are_unlike",a1J')]
theorem a1A':a1L' "must_be_web"=some a1s':=rfl
theorem a2q':a1L' "are_ties"=some a3m':=rfl
theorem a1M':a1L' "are_unlike"=some a1J':=rfl
def a1N':List D→Store→Res D:=runD a1L' G0 a4M' a4L'.length 2
def a1T':List Str:=["web","thing"]
def a1U':List CS:=[.ite (.bnot (.call "is_pairing" [.var 0,.var 1])) [.never] []]
def a1V':FT:=tbl [("is_pairing",a1N')]
theorem a1b':a1V' "is_pairing"=some a1N':=rfl
def a0l':List D→Store→Res D:=runD a1V' G0 a1U' a1T'.length 2
def a8r':List Str:=["pairing","place","low","high"]
def a8s':List CS:=[.for_ (.tup [.var 2,.var 3]) (.seq (.var 0)) [.ite (.cmp .Eq (.var 1) (.var 2)) [.ret (.var 3)] [],.ite (.cmp .Eq (.var 1) (.var 3)) [.ret (.var 2)] []],.ret (.lit (.non))]
def a3n':FT:=tbl []
def a1O':List D→Store→Res D:=runD a3n' G0 a8s' a8r'.length 2
def a6H':List Str:=["web","ties"]
def a6I':List CS:=[.ret (.blt .tuple [.comp false ["place","ties"] [none,some 1] (.var 0) (.range [.idx (.var 0) (.lit (.int 0))]) [.cmp .Is (.call "mate_of" [.var 1,.var 0]) (.lit (.non))] (.emit (.var 0))])]
def a6J':FT:=tbl [("mate_of",a1O')]
theorem a3o':a6J' "mate_of"=some a1O':=rfl
def a2r':List D→Store→Res D:=runD a6J' G0 a6I' a6H'.length 2
def a9a':List Str:=["web","pairing","grown","found"]
def stG:CE:=.comp false ["place"] [none] (.var 0) (.seq (.call "loose_of" [.var 0,.var 1])) [] (.emit (.tup [.var 0]))
def lsE:CE:=.idx (.var 0) (.neg (.lit (.int 1)))
def stT:CE:=.band (.cmp .NotIn (.var 1) (.var 0)) (.band (.call "have_tie" [.var 3,lsE,.var 1]) (.cmp .IsNot (.call "mate_of" [.var 2,.var 1]) (.lit (.non))))
def stE:CE:=.bin .Add (.var 0) (.tup [.var 1,.call "mate_of" [.var 2,.var 1]])
def stC:CE:=.comp false ["stem","place","pairing","web"] [none,none,some 1,some 0] (.var 0) (.seq (.var 2)) [] (.inner (.var 1) (.range [.idx (.var 3) (.lit (.int 0))]) [stT] (.emit stE))
def stB:List CS:=[.aug 3 (.var 2),.asg 2 stC]
def a3K':List CS:=[.asg 2 stG,.asg 3 (.lst true []),.while_ 12 (.var 2) stB,.ret (.var 3)]
def a0c':FT:=tbl [("loose_of",a2r'),("mate_of",a1O'),("have_tie",a0E')]
theorem a2L':a0c' "loose_of"=some a2r':=rfl
theorem a1k':a0c' "mate_of"=some a1O':=rfl
theorem a2M':a0c' "have_tie"=some a0E':=rfl
def a0S':List D→Store→Res D:=runD a0c' G0 a3K' a9a'.length 2
def a7B':List Str:=["web","pairing"]
def abS:CE:=.seq (.call "all_stems" [.var 0,.var 1])
def abI:CE:=.by2 [.lit (.int 0),.bin .Sub (.blt .len [.var 0]) (.lit (.int 2)),.lit (.int 2)]
def abT:CE:=.band (.cmp .Lt (.idx (.var 0) (.bin .Add (.var 1) (.lit (.int 1)))) lsE) (.call "have_tie" [.var 2,lsE,.idx (.var 0) (.var 1)])
def abE:CE:=.tup [.sl (.var 0) [] [.bin .Add (.var 1) (.lit (.int 1))],.sl (.var 0) [.var 1] []]
def abC:CE:=.comp false ["both","at","web"] [none,none,some 0] (.var 0) abS [] (.inner (.var 1) abI [abT] (.emit abE))
def a2U':List CS:=[.expr (.call "must_be_pairing" [.var 0,.var 1]),.ret (.blt (.sorted true (.seq (.seq .int))) [abC])]
def a0f':FT:=tbl [("must_be_pairing",a0l'),("all_stems",a0S'),("have_tie",a0E')]
theorem a1c':a0f' "must_be_pairing"=some a0l':=rfl
theorem a1Y':a0f' "all_stems"=some a0S':=rfl
theorem a2s':a0f' "have_tie"=some a0E':=rfl
def a0I':List D→Store→Res D:=runD a0f' G0 a2U' a7B'.length 2
def a2t':List Str:=["web","pairing","found"]
def a1t':List CS:=[.asg 2 (.call "all_blooms" [.var 0,.var 1]),.ret (.ite (.var 2) (.idx (.var 2) (.lit (.int 0))) (.lit (.non)))]
def a0K':FT:=tbl [("all_blooms",a0I')]
theorem a1B':a0K' "all_blooms"=some a0I':=rfl
def a0V':List D→Store→Res D:=runD a0K' G0 a1t' a2t'.length 2
def a4c':List Str:=["_law_script","_law_k"]
def a4d':List CS:=[.ite (.cmp .Lt (.var 1) (.blt .len [.var 0])) [.ret (.idx (.var 0) (.var 1))] [],.ret (.lit (.int 0))]
def a6K':FT:=tbl []
def a0L':List D→Store→Res D:=runD a6K' G0 a4d' a4c'.length 2
def b0y':List Str:=["_law_cell","_law_k","_law_number"]
def a4N':List CS:=[.asg 2 (.bin .Mod (.bin .Mult (.bin .Add (.bin .Add (.bin .Mod (.var 0) (.lit (.int 2147483647))) (.bin .Mult (.lit (.int 977)) (.var 1))) (.lit (.int 1))) (.lit (.int 48271))) (.lit (.int 2147483647))),.asg 2 (.bin .Mod (.bin .Mult (.var 2) (.var 2)) (.lit (.int 2147483629))),.asg 2 (.bin .Mod (.bin .Mult (.bin .Add (.var 2) (.bin .Mult (.lit (.int 40692)) (.bin .Add (.var 1) (.lit (.int 3))))) (.lit (.int 69621))) (.lit (.int 2147483647))),.ret (.bin .FloorDiv (.var 2) (.lit (.int 8)))]
def a6L':FT:=tbl []
def a0F':List D→Store→Res D:=runD a6L' G0 a4N' b0y'.length 2
def a5T':List Str:=["_law_cell","_law_top","_law_many","_law_left","_law_way","_law_ties","_law_b","_law_a","_law_chance","_law_rows"]
def wS1:CE:=.bin .BitAnd (.bin .RShift (.bin .FloorDiv (.var 3) (.lit (.int 6))) (.bin .Add (.bin .FloorDiv (.bin .Mult (.var 6) (.bin .Sub (.var 6) (.lit (.int 1)))) (.lit (.int 2))) (.var 7))) (.lit (.int 1))
def wSt:CE:=.call "_law_stir" [.var 0,.bin .Add (.bin .Mult (.lit (.int 8)) (.var 7)) (.var 6)]
def wS2:CE:=.bin .FloorDiv (.bin .Mod wSt (.lit (.int 3))) (.lit (.int 2))
def wS3:CE:=.bin .FloorDiv (.bin .Add (.bin .Mod wSt (.lit (.int 4))) (.lit (.int 2))) (.lit (.int 3))
def wE1:CE:=.cmp .Eq (.var 6) (.bin .Add (.var 7) (.lit (.int 1)))
def wE2:CE:=.bor (.cmp .Eq (.var 6) (.bin .Add (.var 7) (.lit (.int 1)))) (.cmp .Eq (.bin .Sub (.var 6) (.var 7)) (.bin .Sub (.var 2) (.lit (.int 1))))
def wE5:CE:=.band (.cmp .Eq (.var 6) (.bin .Add (.var 7) (.lit (.int 1)))) (.cmp .Lt (.bin .Mod (.var 7) (.lit (.int 3))) (.lit (.int 2)))
def wS4:CE:=.lst false [wE1,wE2,.cmp .Eq (.var 7) (.lit (.int 0)),.lit (.bl true),wE5]
def wS5:CE:=.blt .int [.idx (.var 9) (.bin .Mod (.bin .FloorDiv (.var 3) (.lit (.int 6))) (.lit (.int 5)))]
def wW(k:Int)(b:List CS):CS:=.ite (.cmp .Eq (.var 4) (.lit (.int k))) b []
def wB:List CS:=[.asg 8 wS1,wW 3 [.asg 8 wS2],wW 4 [.asg 8 wS3],wW 5 [.asg 9 wS4,.asg 8 wS5],.ite (.cmp .Eq (.var 8) (.lit (.int 1))) [.expr (.meth .append (.var 5) [.tup [.var 7,.var 6]])] []]
def wA:List CS:=[.for_ (.var 7) (.range [.var 6]) wB]
def a3p':List CS:=[.asg 2 (.bin .Add (.lit (.int 1)) (.bin .Mod (.var 0) (.var 1))),.asg 3 (.bin .FloorDiv (.var 0) (.var 1)),.asg 4 (.bin .Mod (.var 3) (.lit (.int 6))),.asg 5 (.lst true []),.for_ (.var 6) (.range [.lit (.int 1),.var 2]) wA,.ret (.tup [.var 2,.blt .tuple [.blt (.sorted false (.seq .int)) [.var 5]]])]
def a0j':FT:=tbl [("_law_stir",a0F')]
theorem a3q':a0j' "_law_stir"=some a0F':=rfl
def a2F':List D→Store→Res D:=runD a0j' G0 a3p' a5T'.length 2
def b0z':List Str:=["_law_tie","_law_line"]
def a4O':List CS:=[.ret (.bnot (.blt .any [.comp false ["_law_one","_law_tie"] [none,some 0] (.var 0) (.seq (.var 1)) [] (.emit (.bor (.cmp .In (.idx (.var 1) (.lit (.int 0))) (.var 0)) (.cmp .In (.idx (.var 1) (.lit (.int 1))) (.var 0))))]))]
def a2u':FT:=tbl []
def a0W':List D→Store→Res D:=runD a2u' G0 a4O' b0z'.length 2
def a2v':List Str:=["_law_web_here","_law_cell","_law_first","_law_often","_law_line","_law_k","_law_tie"]
def pgTs:CE:=.idx (.var 0) (.lit (.int 1))
def pg2:CE:=.bin .Mod (.call "_law_stir" [.var 1,.lit (.int 70)]) (.bin .Add (.blt .len [pgTs]) (.lit (.int 1)))
def pg3:CE:=.bin .Add (.lit (.int 1)) (.bin .Mod (.call "_law_stir" [.var 1,.lit (.int 69)]) (.lit (.int 5)))
def pgI:CE:=.enum [.bin .Add (.sl pgTs [.var 2] []) (.sl pgTs [] [.var 2])]
def pgT1:CE:=.cmp .Lt (.bin .Mod (.call "_law_stir" [.var 1,.bin .Add (.lit (.int 71)) (.var 5)]) (.lit (.int 6))) (.bin .Add (.var 3) (.lit (.int 1)))
def pgF:CE:=.call "_law_free" [.var 6,.var 4]
def pgB:List CS:=[.ite (.band pgT1 pgF) [.expr (.meth .append (.var 4) [.var 6])] []]
def a0X':List CS:=[.asg 2 pg2,.asg 3 pg3,.asg 4 (.lst true []),.for_ (.tup [.var 5,.var 6]) pgI pgB,.ret (.blt .tuple [.blt (.sorted false (.seq .int)) [.var 4]])]
def a0d':FT:=tbl [("_law_stir",a0F'),("_law_free",a0W')]
theorem a0x':a0d' "_law_stir"=some a0F':=rfl
theorem a1Z':a0d' "_law_free"=some a0W':=rfl
def a1u':List D→Store→Res D:=runD a0d' G0 a0X' a2v'.length 2
def a3r':List Str:=["_law_found","_law_due"]
def a0P':List CS:=[.ite (.bor (.blt .isinst [.var 1,.ty "tuple"]) (.blt .isinst [.var 1,.ty "list"])) [.ite (.bor (.cmp .NotEq (.blt .isinst [.var 0,.ty "tuple"]) (.blt .isinst [.var 1,.ty "tuple"])) (.cmp .NotEq (.blt .isinst [.var 0,.ty "list"]) (.blt .isinst [.var 1,.ty "list"]))) [.ret (.lit (.bl false))] [],.ret (.band (.cmp .Eq (.blt .len [.var 0]) (.blt .len [.var 1])) (.blt .all [.comp false ["_law_one","_law_other"] [none,none] (.tup [.var 0,.var 1]) (.zip [.var 0,.var 1]) [] (.emit (.call "_law_same" [.var 0,.var 1]))]))] [],.ite (.cmp .Is (.var 1) (.lit (.non))) [.ret (.cmp .Is (.var 0) (.lit (.non)))] [],.ret (.band (.cmp .Eq (.blt .isinst [.var 0,.ty "bool"]) (.blt .isinst [.var 1,.ty "bool"])) (.band (.blt .isinst [.var 0,.ty "int"]) (.cmp .Eq (.var 0) (.var 1))))]
def a0g':Nat→List D→Store→Res D
 |0=>fun _ _=>.fail
 |n+1=>runD (tbl [("_law_same",a0g' n)]) G0 a0P' a3r'.length 2
def a1C':List D→Store→Res D:=a0g' 6
def a9b':List Str:=["_law_web_here","_law_line","_law_found","_law_one","_law_other"]
def maZ:CE:=.binB (.lst false [.neg (.lit (.int 1))]) (.idx (.var 0) (.lit (.int 0)))
def maB:List CS:=[.set (.var 2) (.var 3) (.var 4),.set (.var 2) (.var 4) (.var 3)]
def a3L':List CS:=[.asg 2 maZ,.for_ (.tup [.var 3,.var 4]) (.seq (.var 1)) maB,.ret (.var 2)]
def a0T':FT:=tbl []
def a2G':List D→Store→Res D:=runD a0T' G0 a3L' a9b'.length 2
def b0A':List Str:=["_law_web_here","_law_one","_law_other"]
def a4P':List CS:=[.ret (.cmp .In (.tup [.blt .min [.var 1,.var 2],.blt .max [.var 1,.var 2]]) (.idx (.var 0) (.lit (.int 1))))]
def a6M':FT:=tbl []
def a1D':List D→Store→Res D:=runD a6M' G0 a4P' b0A'.length 3
def b0B':List Str:=["_law_web_here","_law_place"]
def a6N':List CS:=[.ret (.comp false ["_law_one","_law_other","_law_place"] [none,none,some 1] (.tup [.var 0,.var 1]) (.seq (.idx (.var 0) (.lit (.int 1)))) [.cmp .In (.var 2) (.tup [.var 0,.var 1])] (.emit (.bin .Sub (.bin .Add (.var 0) (.var 1)) (.var 2))))]
def a4Q':FT:=tbl []
def a1l':List D→Store→Res D:=runD a4Q' G0 a6N' b0B'.length 2
def a3M':List Str:=["_law_web_here","_law_mates_here","_law_begun","_law_barred","_law_found","_law_rows","_law_more","_law_line","_law_some"]
def tuW:CE:=.cmp .NotEq (.var 5) (.lst false [])
def tuN:CE:=.seq (.call "_law_near" [.var 0,.idx (.var 7) (.neg (.lit (.int 1)))])
def tuT:CE:=.band (.cmp .GtE (.idx (.var 1) (.var 0)) (.lit (.int 0))) (.cmp .NotIn (.var 0) (.bin .Add (.var 2) (.var 3)))
def tuS:CE:=.comp false ["_law_place","_law_mates_here","_law_line","_law_barred"] [none,some 1,some 7,some 3] (.var 0) tuN [tuT] (.emit (.var 0))
def tuU:CE:=.cmp .NotIn (.idx (.var 2) (.var 0)) (.bin .Add (.var 1) (.var 3))
def tuE:CE:=.bin .Add (.var 1) (.tup [.var 0,.idx (.var 2) (.var 0)])
def tuX:CE:=.comp false ["_law_place","_law_line","_law_mates_here","_law_barred"] [none,some 7,some 1,some 3] (.var 0) (.seq (.var 8)) [tuU] (.emit tuE)
def tuB:List CS:=[.asg 8 tuS,.expr (.meth .extend (.var 6) [tuX])]
def tuD:List CS:=[.asg 4 (.bin .Add (.var 4) (.var 5)),.asg 6 (.lst true []),.for_ (.var 7) (.seq (.var 5)) tuB,.asg 5 (.var 6)]
def a1E':List CS:=[.asg 4 (.lst false []),.asg 5 (.var 2),.while_ 12 tuW tuD,.ret (.var 4)]
def a0a':FT:=tbl [("_law_near",a1l')]
theorem a2N':a0a' "_law_near"=some a1l':=rfl
def a1e':List D→Store→Res D:=runD a0a' G0 a1E' a3M'.length 4
def a2V':List Str:=["_law_web_here","_law_line","_law_mates_here","_law_found","_law_stem","_law_loop"]
def bmG:CE:=.comp false ["_law_place","_law_mates_here"] [none,some 2] (.var 0) (.range [.idx (.var 0) (.lit (.int 0))]) [.cmp .Lt (.idx (.var 1) (.var 0)) (.lit (.int 0))] (.emit (.tup [.var 0]))
def bmA:CE:=.seq (.call "_law_turns" [.var 0,.var 2,bmG,.tup []])
def bmC:CE:=.seq (.call "_law_turns" [.var 0,.var 2,.lst false [.sl (.var 4) [.neg (.lit (.int 1))] []],.sl (.var 4) [] [.neg (.lit (.int 1))]])
def bmL:CE:=.idx (.var 5) (.neg (.lit (.int 1)))
def bmT:CE:=.band (.cmp .Gt (.blt .len [.var 5]) (.lit (.int 1))) (.band (.cmp .Lt (.idx (.var 5) (.lit (.int 1))) bmL) (.call "_law_tied" [.var 0,.idx (.var 5) (.lit (.int 0)),bmL]))
def bmP:List CS:=[.expr (.meth .append (.var 3) [.tup [.var 4,.var 5]])]
def bmI:List CS:=[.ite bmT bmP []]
def bmO:List CS:=[.for_ (.var 5) bmC bmI]
def a1m':List CS:=[.asg 2 (.call "_law_mates" [.var 0,.var 1]),.asg 3 (.lst true []),.for_ (.var 4) bmA bmO,.ret (.blt (.sorted false (.seq (.seq .int))) [.var 3])]
def a0b':FT:=tbl [("_law_mates",a2G'),("_law_turns",a1e'),("_law_tied",a1D')]
theorem a2a':a0b' "_law_mates"=some a2G':=rfl
theorem a0Q':a0b' "_law_turns"=some a1e':=rfl
theorem a2w':a0b' "_law_tied"=some a1D':=rfl
def a1n':List D→Store→Res D:=runD a0b' G0 a1m' a2V'.length 2
def a3N':List Str:=["_law_web_here","_law_line","_law_due","_law_turn","_law_found"]
def r32A:CE:=.call "_law_same" [.var 4,.var 2]
def r32F:CE:=.call "_law_same" [.call "first_bloom" [.var 0,.var 1],.idx (.bin .Add (.var 2) (.lst false [.lit (.non)])) (.lit (.int 0))]
def r32B:List CS:=[.asg 4 (.call "all_blooms" [.var 0,.var 1]),.ite (.bor (.bnot r32A) (.bnot r32F)) [.ret (.lit (.bl false))] [],.expr (.meth .append (.var 4) [.tup []])]
def a1F':List CS:=[.asg 2 (.call "_law_blooms" [.var 0,.var 1]),.for_ (.var 3) (.range [.lit (.int 2)]) r32B,.ret (.lit (.bl true))]
def a0i':FT:=tbl [("_law_blooms",a1n'),("all_blooms",a0I'),("_law_same",a1C'),("first_bloom",a0V')]
theorem a2b':a0i' "_law_blooms"=some a1n':=rfl
theorem a2c':a0i' "all_blooms"=some a0I':=rfl
theorem a0Z':a0i' "_law_same"=some a1C':=rfl
theorem a1P':a0i' "first_bloom"=some a0V':=rfl
def a1f':List D→Store→Res D:=runD a0i' G0 a1F' a3N'.length 2
def n_law:List Str:=["_law_script","_law_ringed","_law_cell","_law_web_here","_law_rows","_law_line","_law_tie","_law_one"]
def z32R:CE:=.tup [.lit (.int 5),.tup [.tup [.lit (.int 0),.lit (.int 1)],.tup [.lit (.int 0),.lit (.int 4)],.tup [.lit (.int 1),.lit (.int 2)],.tup [.lit (.int 2),.lit (.int 3)],.tup [.lit (.int 3),.lit (.int 4)]]]
def z32P:CE:=.tup [.tup [.lit (.int 0),.lit (.int 1)],.tup [.lit (.int 2),.lit (.int 3)]]
def z32T:CE:=.bor (.bnot (.call "_law_right" [.var 1,z32P])) (.bor (.bnot (.call "_law_right" [.var 1,.tup []])) (.bnot (.call "_law_right" [.tup [.lit (.int 1),.tup []],.tup []])))
def z32C:CE:=.seq (.bin .Add (.lst false [.call "_law_cell_at" [.var 0,.lit (.int 0)]]) (.sl (.var 0) [.lit (.int 1)] [.lit (.int 3)]))
def z32L:CE:=.lst false [.call "_law_pairing" [.var 3,.var 2],.call "_law_pairing" [.var 3,.bin .Add (.var 2) (.lit (.int 5))]]
def z32V:CE:=.seq (.rev (.idx (.var 3) (.lit (.int 1))) (.neg (.lit (.int 1))))
def z32G:List CS:=[.ite (.call "_law_free" [.var 6,.var 5]) [.expr (.meth .append (.var 5) [.var 6])] []]
def z32S:CE:=.seq (.bin .Add (.var 4) (.lst false [.blt .tuple [.blt (.sorted false (.seq .int)) [.var 5]]]))
def z32E:List CS:=[.ite (.bnot (.call "_law_right" [.var 3,.var 7])) [.ret (.lit (.bl false))] []]
def z32B:List CS:=[.asg 3 (.call "_law_web" [.var 2,.lit (.int 8)]),.asg 4 z32L,.asg 5 (.lst true []),.for_ (.var 6) z32V z32G,.for_ (.var 7) z32S z32E]
def c_law:List CS:=[.asg 1 z32R,.ite z32T [.ret (.lit (.bl false))] [],.for_ (.var 2) z32C z32B,.ret (.lit (.bl true))]
def t_law:FT:=tbl [("_law_web",a2F'),("_law_right",a1f'),("_law_cell_at",a0L'),("_law_pairing",a1u'),("_law_free",a0W')]
theorem a5U':t_law "_law_web"=some a2F':=rfl
theorem a2x':t_law "_law_right"=some a1f':=rfl
theorem a3O':t_law "_law_cell_at"=some a0L':=rfl
theorem a3P':t_law "_law_pairing"=some a1u':=rfl
theorem a2Q':t_law "_law_free"=some a0W':=rfl
def f_law:List D→Store→Res D:=runD t_law G0 c_law n_law.length 1
end K32
end
section
namespace K32
open PySem PySem.Spec PyProof.Rows L2 Py
def top(i:Nat):Stmt:=PySem.Challenge.pw_pairwebs_k32_all_blooms.main.body.getD i (.Pass ⟨0,0,0,0⟩)
def DefIn(K:PySem.W.Frag)(x:Str)(st:Stmt):Prop:=∃f fd,PySem.W.nsIn K mainGlobals x=some (some (.ref f))∧Fun K x x st f fd
theorem dm{K:PySem.W.Frag}{x:Str}{st:Stmt}{f:Addr}{oc:Value}{od an:Option Addr}{osl:Array (Option Value)}{kV doc pm cdv ct:Value}(a:PySem.W.nsIn K mainGlobals x=some (some (.ref f)))(l:K.lookup f=some ⟨oc,od,.func (PySem.W.fnOf x x (a4v' st) (a0U' st) (a0s' st) .none kV doc pm an cdv ct),osl⟩)
  (c:PySem.W.codeIn K cdv x=true) (k:PySem.W.keepIn K (.ref f)=true):DefIn K x st:=⟨f,_,a,fun_mk l c k⟩
def b2a'(N P:List Str)(sc:Scope):Bool:=(sc.kind== .function)&& !sc.isCoroutine&& !sc.isGenerator&&a8O' N&&(N.take P.length==P)&&P.all (fun x=>sc.names.lookup x==some .local||sc.names.lookup x==some .cell)&&sc.names.all (fun y=>y.2 !=.free)
theorem a3Q'{N P:List Str}{sc:Scope}(h:b2a' N P sc=true):FnScope N P sc:=by
 unfold b2a' at h
 simp only[Zt,beq_iff_eq,ZN,Bool.or_eq_true,bne_iff_ne,Bool.not_eq_true']at h
 obtain⟨⟨⟨⟨⟨⟨h1,h2⟩,h3⟩,h4⟩,h5⟩,h6⟩,h7⟩:=h
 exact⟨h1,h2,h3,a3F' h4,h5,h6,h7⟩
structure En (K:PySem.W.Frag)(mg:Str→Option Value)(h:Heap):Prop where
 X:K.In h
 G:h.Ns mainGlobals mg
 hg:∀x d,G0 x=some d→∃v u,mg x=some u∧RelV v u∧∀F μ H,Rep K ⟨mg,F⟩ μ H d v
 hb:∀x∈a2g',mg x=none
section
variable {P:Program}{w:World}{K:PySem.W.Frag}{mg:Str→Option Value}{base h:Heap}{Φ:FT}{Γ:Str→Option D}{k j:Nat}
theorem fe{x:Str}{st:Stmt}{N ps:List Str}{body:List CS}{l:List (Str×(List D→Store→Res D))}(E:En K mg h)(d:DefIn K x st)
  (hb:∀(kV doc pm:Value) (an:Option Addr) (cdv ct:Value) (us:List Value),us.length=ps.length→bindArgs (PySem.W.fnOf x x (a4v' st) (a0U' st) (a0s' st) .none kV doc pm an cdv ct) ⟨us,[]⟩=pure (ps.zip us))
  (H:∀p∈l,FOk P w K mg base CX0 k p.1 p.2) (he:emSs body N (a0U' st)=a0U' st) (S:(b2a' N ps (a0s' st)&&sdSs body N (a0s' st).names (a0U' st))=true):FOk P w K mg base CX0 (k+1) x (runD (tbl l) G0 body N.length ps.length):=by
 obtain⟨f,fd,a,F⟩:=d
 have S:=Bool.and_eq_true_iff.mp S
 exact fok F (a3Q' S.1) (PySem.W.mg_of E.X E.G a) (F.binds hb) (mok H E.hg E.hb) he S.2
theorem f0{x:Str}{st:Stmt}{N ps:List Str}(E:En K mg h)(d:DefIn K x st)(S:b2a' N ps (a0s' st)=true)
  (hb:∀(kV doc pm:Value) (an:Option Addr) (cdv ct:Value) (us:List Value),us.length=ps.length→bindArgs (PySem.W.fnOf x x (a4v' st) (a0U' st) (a0s' st) .none kV doc pm an cdv ct) ⟨us,[]⟩=pure (ps.zip us)):FOk P w K mg base CX0 k x (fun _ _=>.fail):=by
 obtain⟨f,fd,a,F⟩:=d
 exact fok0 F (a3Q' S) (PySem.W.mg_of E.X E.G a) (F.binds hb)
theorem an:∀p∈([]:List (Str×(List D→Store→Res D))),FOk P w K mg base CX0 k p.1 p.2:=fun p h=>(ZS h).elim
theorem ac{x:Str}{φ:List D→Store→Res D}{l:List (Str×(List D→Store→Res D))}(F:FOk P w K mg base CX0 j x φ)(hj:j≤k)(r:∀p∈l,FOk P w K mg base CX0 k p.1 p.2):∀p∈(x,φ)::l,FOk P w K mg base CX0 k p.1 p.2:=fun p hp=>by
 rcases Zr.mp hp with rfl|h
 ·exact F.mono hj
 ·exact r p h
end
structure Df (K:PySem.W.Frag):Prop where
 d_is_number:DefIn K "is_number" (top 6)
 d_is_number_from:DefIn K "is_number_from" (top 7)
 d_is_place:DefIn K "is_place" (top 8)
 d_is_rising:DefIn K "is_rising" (top 9)
 d_are_places:DefIn K "are_places" (top 10)
 d_are_unlike:DefIn K "are_unlike" (top 11)
 d_is_tie:DefIn K "is_tie" (top 12)
 d_is_web:DefIn K "is_web" (top 13)
 d_are_ties:DefIn K "are_ties" (top 14)
 d_must_be_web:DefIn K "must_be_web" (top 15)
 d_tie_of:DefIn K "tie_of" (top 16)
 d_have_tie:DefIn K "have_tie" (top 17)
 d_is_pairing:DefIn K "is_pairing" (top 19)
 d_must_be_pairing:DefIn K "must_be_pairing" (top 20)
 d_mate_of:DefIn K "mate_of" (top 21)
 d_loose_of:DefIn K "loose_of" (top 22)
 d_all_stems:DefIn K "all_stems" (top 24)
 d_all_blooms:DefIn K "all_blooms" (top 26)
 d_first_bloom:DefIn K "first_bloom" (top 27)
 d_law_cell_at:DefIn K "_law_cell_at" (top 29)
 d_law_stir:DefIn K "_law_stir" (top 30)
 d_law_web:DefIn K "_law_web" (top 31)
 d_law_free:DefIn K "_law_free" (top 32)
 d_law_pairing:DefIn K "_law_pairing" (top 33)
 d_law_same:DefIn K "_law_same" (top 34)
 d_law_mates:DefIn K "_law_mates" (top 35)
 d_law_tied:DefIn K "_law_tied" (top 36)
 d_law_near:DefIn K "_law_near" (top 37)
 d_law_turns:DefIn K "_law_turns" (top 38)
 d_law_blooms:DefIn K "_law_blooms" (top 39)
 d_law_right:DefIn K "_law_right" (top 40)
 d_law:DefIn K "law" (top 41)
section
variable {P:Program}{w:World}{K:PySem.W.Frag}{mg:Str→Option Value}{base h:Heap}(E:En K mg h)(D:Df K)
include E D
theorem a7C':FOk P w K mg base CX0 1 "is_number" a2E':=fe (ps:=["thing"]) E D.d_is_number (fun _ _ _ _ _ _=>len1 fun _=>rfl) an rfl (by decide+kernel)
theorem a1W':FOk P w K mg base CX0 2 "is_number_from" a0u':=fe (ps:=["thing","low","high"]) E D.d_is_number_from (fun _ _ _ _ _ _=>len3 fun _ _ _=>rfl) (ac (a7C' E D) (by decide) an) rfl (by decide+kernel)
theorem a9c':FOk P w K mg base CX0 3 "is_place" a3j':=fe (ps:=["many","thing"]) E D.d_is_place (fun _ _ _ _ _ _=>len2 fun _ _=>rfl) (ac (a1W' E D) (by decide) an) rfl (by decide+kernel)
theorem a2W':FOk P w K mg base CX0 1 "is_rising" a0w':=fe (ps:=["things"]) E D.d_is_rising (fun _ _ _ _ _ _=>len1 fun _=>rfl) an rfl (by decide+kernel)
theorem a6O':FOk P w K mg base CX0 4 "are_places" a1j':=fe (ps:=["many","thing"]) E D.d_are_places (fun _ _ _ _ _ _=>len2 fun _ _=>rfl) (ac (a9c' E D) (by decide) an) rfl (by decide+kernel)
theorem a6P':FOk P w K mg base CX0 1 "are_unlike" a1J':=fe (ps:=["things"]) E D.d_are_unlike (fun _ _ _ _ _ _=>len1 fun _=>rfl) an rfl (by decide+kernel)
theorem a8t':FOk P w K mg base CX0 5 "is_tie" a3H':=fe (ps:=["many","thing"]) E D.d_is_tie (fun _ _ _ _ _ _=>len2 fun _ _=>rfl) (ac (a6O' E D) (by decide) (ac (a2W' E D) (by decide) an)) rfl (by decide+kernel)
theorem b2b':FOk P w K mg base CX0 6 "is_web" a5R':=fe (ps:=["thing"]) E D.d_is_web (fun _ _ _ _ _ _=>len1 fun _=>rfl) (ac (a2W' E D) (by decide) (ac (a1W' E D) (by decide) (ac (a8t' E D) (by decide) an))) rfl (by decide+kernel)
theorem a9d':FOk P w K mg base CX0 6 "are_ties" a3m':=fe (ps:=["web","thing"]) E D.d_are_ties (fun _ _ _ _ _ _=>len2 fun _ _=>rfl) (ac (a2W' E D) (by decide) (ac (a8t' E D) (by decide) an)) rfl (by decide+kernel)
theorem a5V':FOk P w K mg base CX0 7 "must_be_web" a1s':=fe (ps:=["thing"]) E D.d_must_be_web (fun _ _ _ _ _ _=>len1 fun _=>rfl) (ac (b2b' E D) (by decide) an) rfl (by decide+kernel)
theorem b2c':FOk P w K mg base CX0 1 "tie_of" a5S':=fe (ps:=["one","other"]) E D.d_tie_of (fun _ _ _ _ _ _=>len2 fun _ _=>rfl) an rfl (by decide+kernel)
theorem a5v':FOk P w K mg base CX0 2 "have_tie" a0E':=fe (ps:=["web","one","other"]) E D.d_have_tie (fun _ _ _ _ _ _=>len3 fun _ _ _=>rfl) (ac (b2c' E D) (by decide) an) rfl (by decide+kernel)
theorem a6Q':FOk P w K mg base CX0 8 "is_pairing" a1N':=fe (ps:=["web","thing"]) E D.d_is_pairing (fun _ _ _ _ _ _=>len2 fun _ _=>rfl) (ac (a5V' E D) (by decide) (ac (a9d' E D) (by decide) (ac (a6P' E D) (by decide) an))) rfl (by decide+kernel)
theorem a3R':FOk P w K mg base CX0 9 "must_be_pairing" a0l':=fe (ps:=["web","thing"]) E D.d_must_be_pairing (fun _ _ _ _ _ _=>len2 fun _ _=>rfl) (ac (a6Q' E D) (by decide) an) rfl (by decide+kernel)
theorem a6R':FOk P w K mg base CX0 1 "mate_of" a1O':=fe (ps:=["pairing","place"]) E D.d_mate_of (fun _ _ _ _ _ _=>len2 fun _ _=>rfl) an rfl (by decide+kernel)
theorem a9e':FOk P w K mg base CX0 2 "loose_of" a2r':=fe (ps:=["web","ties"]) E D.d_loose_of (fun _ _ _ _ _ _=>len2 fun _ _=>rfl) (ac (a6R' E D) (by decide) an) rfl (by decide+kernel)
theorem a7D':FOk P w K mg base CX0 3 "all_stems" a0S':=fe (ps:=["web","pairing"]) E D.d_all_stems (fun _ _ _ _ _ _=>len2 fun _ _=>rfl) (ac (a9e' E D) (by decide) (ac (a6R' E D) (by decide) (ac (a5v' E D) (by decide) an))) rfl (by decide+kernel)
theorem a4e':FOk P w K mg base CX0 10 "all_blooms" a0I':=fe (ps:=["web","pairing"]) E D.d_all_blooms (fun _ _ _ _ _ _=>len2 fun _ _=>rfl) (ac (a3R' E D) (by decide) (ac (a7D' E D) (by decide) (ac (a5v' E D) (by decide) an))) rfl (by decide+kernel)
theorem a5W':FOk P w K mg base CX0 11 "first_bloom" a0V':=fe (ps:=["web","pairing"]) E D.d_first_bloom (fun _ _ _ _ _ _=>len2 fun _ _=>rfl) (ac (a4e' E D) (by decide) an) rfl (by decide+kernel)
theorem a3s':FOk P w K mg base CX0 1 "_law_cell_at" a0L':=fe (ps:=["_law_script","_law_k"]) E D.d_law_cell_at (fun _ _ _ _ _ _=>len2 fun _ _=>rfl) an rfl (by decide+kernel)
theorem a5w':FOk P w K mg base CX0 1 "_law_stir" a0F':=fe (ps:=["_law_cell","_law_k"]) E D.d_law_stir (fun _ _ _ _ _ _=>len2 fun _ _=>rfl) an rfl (by decide+kernel)
theorem a6S':FOk P w K mg base CX0 2 "_law_web" a2F':=fe (ps:=["_law_cell","_law_top"]) E D.d_law_web (fun _ _ _ _ _ _=>len2 fun _ _=>rfl) (ac (a5w' E D) (by decide) an) rfl (by decide+kernel)
theorem a3S':FOk P w K mg base CX0 1 "_law_free" a0W':=fe (ps:=["_law_tie","_law_line"]) E D.d_law_free (fun _ _ _ _ _ _=>len2 fun _ _=>rfl) an rfl (by decide+kernel)
theorem a3t':FOk P w K mg base CX0 2 "_law_pairing" a1u':=fe (ps:=["_law_web_here","_law_cell"]) E D.d_law_pairing (fun _ _ _ _ _ _=>len2 fun _ _=>rfl) (ac (a5w' E D) (by decide) (ac (a3S' E D) (by decide) an)) rfl (by decide+kernel)
theorem a4f':∀n,FOk P w K mg base CX0 (0+n) "_law_same" (a0g' n)
 |0=>f0 (N:=a3r') (ps:=["_law_found","_law_due"]) E D.d_law_same (by decide+kernel) (fun _ _ _ _ _ _=>len2 fun _ _=>rfl)
 |n+1=>fe (ps:=["_law_found","_law_due"]) (k:=0+n) E D.d_law_same (fun _ _ _ _ _ _=>len2 fun _ _=>rfl) (ac (a4f' n) (Zl _) an) rfl (by decide+kernel)
theorem a9f':FOk P w K mg base CX0 6 "_law_same" a1C':=a4f' E D 6
theorem a7E':FOk P w K mg base CX0 1 "_law_mates" a2G':=fe (ps:=["_law_web_here","_law_line"]) E D.d_law_mates (fun _ _ _ _ _ _=>len2 fun _ _=>rfl) an rfl (by decide+kernel)
theorem a9g':FOk P w K mg base CX0 1 "_law_tied" a1D':=fe (ps:=["_law_web_here","_law_one","_law_other"]) E D.d_law_tied (fun _ _ _ _ _ _=>len3 fun _ _ _=>rfl) an rfl (by decide+kernel)
theorem a9h':FOk P w K mg base CX0 1 "_law_near" a1l':=fe (ps:=["_law_web_here","_law_place"]) E D.d_law_near (fun _ _ _ _ _ _=>len2 fun _ _=>rfl) an rfl (by decide+kernel)
theorem a7F':FOk P w K mg base CX0 2 "_law_turns" a1e':=fe (ps:=["_law_web_here","_law_mates_here","_law_begun","_law_barred"]) E D.d_law_turns (fun _ _ _ _ _ _=>len4 fun _ _ _ _=>rfl) (ac (a9h' E D) (by decide) an) rfl (by decide+kernel)
theorem a6T':FOk P w K mg base CX0 3 "_law_blooms" a1n':=fe (ps:=["_law_web_here","_law_line"]) E D.d_law_blooms (fun _ _ _ _ _ _=>len2 fun _ _=>rfl) (ac (a7E' E D) (by decide) (ac (a7F' E D) (by decide) (ac (a9g' E D) (by decide) an))) rfl (by decide+kernel)
theorem a4R':FOk P w K mg base CX0 12 "_law_right" a1f':=fe (ps:=["_law_web_here","_law_line"]) E D.d_law_right (fun _ _ _ _ _ _=>len2 fun _ _=>rfl) (ac (a6T' E D) (by decide) (ac (a4e' E D) (by decide) (ac (a9f' E D) (by decide) (ac (a5W' E D) (by decide) an)))) rfl (by decide+kernel)
theorem ok_law:FOk P w K mg base CX0 13 "law" f_law:=fe (ps:=["_law_script"]) E D.d_law (fun _ _ _ _ _ _=>len1 fun _=>rfl) (ac (a6S' E D) (by decide) (ac (a4R' E D) (by decide) (ac (a3s' E D) (by decide) (ac (a3t' E D) (by decide) (ac (a3S' E D) (by decide) an))))) rfl (by decide+kernel)
end
def spLaw(K:PySem.W.Frag):Sp:=fun vs H Q _=>∃(a:Addr) (ns:List Int),vs=[.ref a]∧Only H∧SqL K H a (ns.map V.int)∧ns.length≤63∧∀H',Q (.bl true) H'
def Good(f:List D→Store→Res D):Prop:=∀ns:List Int,ns.length≤63→∃S',f [.scr (ns.map D.int)] []=.ok (.bl true) S'
theorem a8u'{K:PySem.W.Frag}{mg:GS}{μ:List Addr}{H:Hp}:∀ns:List Int,RepL K mg μ H (ns.map D.int) (ns.map V.int)
 | []=>.nil
 |n::ns=>.cons a1g' (a8u' ns)
theorem sp_of{K:PySem.W.Frag}{mg:Str→Option Value}{f:List D→Store→Res D}(g:Good f):∀vs H Q E,spLaw K vs H Q E→spOf K mg 1 f vs H Q E:=by
 rintro vs H Q E ⟨a,ns,rfl,ho,hs,hl,q⟩
 refine⟨rfl,[],[],[],[.scr (ns.map D.int)],⟨fun a h=>(by cases h),rfl,List.nodup_nil,fun n a ds h=>(by cases h)⟩,.cons ?_ .nil,?_⟩
 ·unfold Rep
  refine⟨a,ns.map V.int,rfl,?_,a8u' ns⟩
  rcases hs with(h| ⟨o,h⟩)|h
  ·rcases ho a with z| ⟨o,xs,z⟩<;>rw[z]at h<;>cases h
  ·exact .inl ⟨o,h⟩
  ·exact .inr h
 ·obtain⟨S',e⟩:=g ns hl
  rw[e]
  intro μ' H' b x s r
  unfold Rep at r
  rw[r]
  exact q H'
theorem all_mk{l:PySem.W.OpenLaw}{w:World}{K:PySem.W.Frag}{h:Heap}{mg:Str→Option Value}{fa:Addr}(X:K.In h)(G:h.Ns mainGlobals mg)(hfa:mg "law"=some (.ref fa))(good:Good f_law)(D:Df K)(Z:∀x∈a2g',PySem.W.nsIn K mainGlobals x=some none)
  {gi0:Tok} (mp0:PySem.W.nsIn K mainGlobals "MOST_PLACES"=some (some (.int 8 gi0))):
  ∃fd:FuncData,(∀(s:Shared) (v:Value),BindsTo s fd ⟨[v],[]⟩ [("_law_script",v)])∧∀base:Heap,K.In base→base.Ns mainGlobals mg→FnOk l.prog w K mg base CX0 13 fa fd ["_law_script"] (spLaw K):=by
 have hg:∀x d,G0 x=some d→∃v u,mg x=some u∧RelV v u∧∀F μ H,Rep K ⟨mg,F⟩ μ H d v:=fun x d e=>by
  unfold G0 at e
  rw[List.lookup_cons]at e
  split at e
  ·rename_i hx
   cases e
   have hx':x="MOST_PLACES":=by simpa using hx
   subst hx'
   exact⟨.int 8,_,PySem.W.mg_of X G mp0,⟨_,rfl⟩,fun _ _ _=>a1g'⟩
  cases e
 have E:En K mg h:=⟨X,G,hg,fun x hx=>PySem.W.mg_none_of X G (Z x hx)⟩
 obtain⟨f,fd,a,F⟩:=D.d_law
 have e:=hfa.symm.trans (PySem.W.mg_of X G a)
 cases e
 have S:FnScope n_law ["_law_script"] (a0s' (top 41)):=a3Q' (by decide+kernel)
 refine⟨fd,fun s v=>?_,fun base _ _=>?_⟩
 ·obtain⟨oc,od,kV,doc,pm,an,cdv,ct,osl,rfl,lk,hcd⟩:=F.ex
  exact .of_eq rfl
 ·exact FnOk.imp (fnok (k:=12) F S (mok (ac (a6S' E D) (by decide) (ac (a4R' E D) (by decide) (ac (a3s' E D) (by decide) (ac (a3t' E D) (by decide) (ac (a3S' E D) (by decide) an))))) hg E.hb) rfl (by decide+kernel)) (sp_of good)
end K32
end
section
namespace Py
abbrev Ti:=Int×Int
end Py
end
section
namespace K32
open PySem PySem.Spec PyProof.Rows L2 Py
mutual
theorem a8v'{k:Nat}:∀(d:D),lowD 0 d=true→lowD k d=true
 | .non,_=>rfl
 | .bl _,_=>rfl
 | .int _,_=>rfl
 | .str _,_=>rfl
 | .tup ds,h=>by unfold lowD at h⊢;exact a1Q' ds h
 | .lst ds,h=>by unfold lowD at h⊢;exact a1Q' ds h
 | .scr ds,h=>by unfold lowD at h⊢;exact a1Q' ds h
 | .ref n,h=>by unfold lowD at h;simp at h
 | .fn y,_=>rfl
 | .ty y,_=>rfl
 | .dct,_=>rfl
theorem a1Q'{k:Nat}:∀(ds:List D),lowL 0 ds=true→lowL k ds=true
 | [],_=>rfl
 |d::ds,h=>by
  unfold lowL at h⊢
  simp only[Zt]at h⊢
  exact⟨a8v' d h.1,a1Q' ds h.2⟩
end
def Flat(S:Store):Prop:=∀xs∈S,lowL 0 xs=true
theorem Flat.all{S:Store}{k:Nat}(h:Flat S):S.all (lowL k)=true:=ZN.mpr fun xs hx=>a1Q' xs (h xs hx)
theorem Flat.nil:Flat []:=fun _ h=>by cases h
theorem Flat.snoc{S:Store}{xs:List D}(h:Flat S)(hx:lowL 0 xs=true):Flat (S++[xs]):=fun ys hy=>by
 rcases ZA.mp hy with z|z
 ·exact h ys z
 ·have:ys=xs:=by simpa using z
  subst this;exact hx
theorem a1R'{k:Nat}{d:D}{S':Store}(h:Flat (S'.take k))(hd:lowD 0 d=true):trim k d S'=.ok d (S'.take k):=by
 unfold trim
 rw[if_pos h.all,if_pos (a8v' d hd)]
theorem b2d'{d:D}{S:Store}(h:Flat S)(hd:lowD 0 d=true):trim S.length d S=.ok d S:=by
 rw[a1R' (by rw[List.take_length];exact h) hd,List.take_length]
theorem b0C'{k:Nat}{d:D}{S:Store}(hk:S.length=k)(h:Flat S)(hd:lowD 0 d=true):trim k d S=.ok d S:=by
 subst hk;exact b2d' h hd
theorem a6U'{step:D→List D→Store→Res (List D)}{S:Store}(g:D→Option D):∀(xs acc:List D),(∀x∈xs,∀acc,acc.length<big→step x acc S=.ok (acc++(g x).toList) S)→acc.length+xs.length≤big→compD step xs acc S=.ok (acc++xs.filterMap g) S
 | [],acc,_,_=>by simp[compD]
 |x::xs,acc,h,hl=>by
  simp only[Zy]at hl
  unfold compD
  rw[h x Zc acc (by omega)]
  unfold Res.bind
  dsimp only
  rw[a6U' g xs _ (fun y hy=>h y (Zb _ hy)) (by
   have:(g x).toList.length≤1:=by cases g x<;>simp
   simp only[Zn];omega)]
  cases e:g x<;>simp[e]
theorem a5X'{α:Type}{l:List α}{f:α→Option Bool}(h:∀x∈l,f x=some true):allO (l.map f)=some true:=by
 induction l with
 |nil=>rfl
 |cons x l ih=>
  simp only[ZH]
  unfold allO
  rw[h x Zc,ih fun y hy=>h y (Zb _ hy)]
  rfl
theorem allO_map{α:Type}{l:List α}{f:α→Bool}:allO (l.map fun x=>some (f x))=some (l.all f):=by
 induction l with
 |nil=>rfl
 |cons x l ih=>
  simp only[ZH]
  unfold allO
  rw[ih]
  rfl
theorem b0D'{α:Type}{l:List α}{f:α→Bool}:anyO (l.map fun x=>some (f x))=some (l.any f):=by
 unfold anyO
 rw[Yj]
 have e:(fun o:Option Bool=>o.map not)∘(fun x:α=>some (f x))=fun x=>some (!f x):=rfl
 rw[e,allO_map]
 simp[List.not_all_eq_any_not]
def tieD(t:Int×Int):D:=.tup [.int t.1,.int t.2]
def tiesD(ts:List (Int×Int)):List D:=ts.map tieD
def webD(m:Int)(ts:List (Int×Int)):D:=.tup [.int m,.tup (tiesD ts)]
theorem low_tie(t:Int×Int):lowD 0 (tieD t)=true:=rfl
theorem a2X':∀(ts:List (Int×Int)),lowL 0 (tiesD ts)=true
 | []=>rfl
 |t::ts=>by
  show(lowD 0 (tieD t)&&lowL 0 (tiesD ts))=true
  rw[low_tie,a2X' ts];rfl
theorem a5Y':∀(ns:List Int),lowL 0 (ns.map D.int)=true
 | []=>rfl
 |t::ts=>by
  show(lowD 0 (.int t)&&lowL 0 (ts.map D.int))=true
  rw[a5Y' ts];rfl
theorem low_web(m:Int)(ts:List (Int×Int)):lowD 0 (webD m ts)=true:=by
 show(true&&((lowL 0 (tiesD ts))&&true))=true
 rw[a2X'];rfl
def lexlt(a b:Int×Int):Prop:=a.1<b.1∨(a.1=b.1∧a.2<b.2)
instance (a b:Int×Int):Decidable (lexlt a b):=by unfold lexlt;exact inferInstance
theorem b0E'(S:Store)(n:Nat)(a b:Int):eqF S (n+1) (.int a) (.int b)=some (a==b):=rfl
theorem eqF_tie(S:Store)(n:Nat)(a b:Int×Int):eqF S (n+2) (tieD a) (tieD b)=some (decide (a=b)):=by
 have e:eqF S (n+2) (tieD a) (tieD b)=some ((a.1==b.1&&(a.2==b.2&&true))&&true):=rfl
 rw[e]
 obtain⟨a1,a2⟩:=a
 obtain⟨b1,b2⟩:=b
 simp[Prod.ext_iff]
 by_cases h1:a1=b1<;>by_cases h2:a2=b2<;>simp[h1,h2]
theorem ltF_tie(S:Store)(n:Nat)(a b:Int×Int):ltF S (n+2) (tieD a) (tieD b)=some (decide (lexlt a b)):=by
 have e:ltF S (n+2) (tieD a) (tieD b)=(match eqF S (n+1) (.int a.1) (.int b.1)with
  |some true=>(match eqF S (n+1) (.int a.2) (.int b.2)with
   |some true=>some false
   |some false=>some (decide (a.2<b.2))
   |none=>none)
  |some false=>some (decide (a.1<b.1))
  |none=>none):=rfl
 rw[e,b0E',b0E']
 obtain⟨a1,a2⟩:=a
 obtain⟨b1,b2⟩:=b
 unfold lexlt
 dsimp only
 by_cases h1:a1=b1
 ·subst h1
  by_cases h2:a2=b2
  ·subst h2;simp
  ·have:(a2==b2)=false:=by simpa using h2
   simp[this]
 ·have:(a1==b1)=false:=by simpa using h1
  simp[this,h1]
theorem b0F'(S:Store)(t:Int×Int)(ts:List (Int×Int)):inD (tieD t) (.tup (tiesD ts)) S=some (decide (t∈ts)):=by
 have e:inD (tieD t) (.tup (tiesD ts)) S=anyO ((tiesD ts).map fun y=>eqF S deep y (tieD t)):=rfl
 rw[e]
 unfold tiesD
 rw[Yj]
 have e2:((fun y=>eqF S deep y (tieD t))∘tieD)=fun u=>some (decide (u=t)):=by
  funext u
  exact eqF_tie S 38 u t
 rw[e2,b0D']
 congr 1
 clear e e2
 induction ts with
 |nil=>rfl
 |cons u us ih=>
  rw[List.any_cons,ih]
  by_cases h:u=t
  ·subst h;simp
  ·have h':¬t=u:=fun z=>h z.symm
   by_cases h2:t∈us<;>simp[h,h',h2]
theorem in_tie(S:Store)(p:Int)(t:Int×Int):inD (.int p) (tieD t) S=some (decide (p=t.1∨p=t.2)):=by
 have e:inD (.int p) (tieD t) S=some (!((!(t.1==p))&&((!(t.2==p))&&true))):=rfl
 rw[e]
 congr 1
 by_cases h1:p=t.1
 ·subst h1;simp
 ·by_cases h2:p=t.2
  ·subst h2;simp
  ·have e1:(t.1==p)=false:=by simpa using fun z=>h1 z.symm
   have e2:(t.2==p)=false:=by simpa using fun z=>h2 z.symm
   rw[e1,e2];simp[h1,h2]
structure Web (m:Int)(ts:List (Int×Int)):Prop where
 lo:1≤m
 hi:m≤8
 ris:ts.Pairwise lexlt
 tie:∀t∈ts,0≤t.1∧t.1<t.2∧t.2<m
 few:ts.length≤28
structure Pairing (ts ps:List (Int×Int)):Prop where
 ris:ps.Pairwise lexlt
 sub:∀t∈ps,t∈ts
 un:(ps.flatMap fun t=>[t.1,t.2]).Nodup
theorem a0z'{Φ:FT}{Γ:Str→Option D}{body:List CS}{n np:Nat}{ds:List D}{S S':Store}{d:D}(hl:ds.length=np)(h:denSs Φ Γ body (ds.map some++List.replicate (n-np) none) S=.ok (.ret d) S')(hk:S'.length=S.length)(hf:Flat S')(hd:lowD 0 d=true):runD Φ Γ body n np ds S=.ok d S':=by
 unfold runD
 rw[if_pos hl,h]
 exact b0C' hk hf hd
theorem b0G'{Φ:FT}{Γ:Str→Option D}{body:List CS}{n np:Nat}{ds:List D}{S S':Store}{ρ:Rho}(hl:ds.length=np)(h:denSs Φ Γ body (ds.map some++List.replicate (n-np) none) S=.ok (.next ρ) S')(hk:S'.length=S.length)(hf:Flat S'):runD Φ Γ body n np ds S=.ok .non S':=by
 unfold runD
 rw[if_pos hl,h]
 exact b0C' hk hf rfl
theorem a6V'{S:Store}(hS:Flat S)(i:Int):a2E' [.int i] S=.ok (.bl true) S:=a0z' rfl rfl rfl hS rfl
theorem a1G'{S:Store}(hS:Flat S)(i lo hi:Int):a0u' [.int i,.int lo,.int hi] S=.ok (.bl (decide (lo≤i∧i≤hi))) S:=by
 refine a0z' rfl ?_ rfl hS rfl
 simp[a2m',a2l',denSs,denS,denT,den,denL,Res.bind,Res.noErr,onBl,a1p',a6V' hS,cmpD,leD]
 by_cases h:lo≤i<;>simp[h]
theorem a7G'{S:Store}(hS:Flat S)(m i:Int):a3j' [.int m,.int i] S=.ok (.bl (decide (0≤i∧i<m))) S:=by
 refine a0z' rfl ?_ rfl hS rfl
 have e:(i≤m-1)=(i<m):=propext (by omega)
 simp[a6A',a6z',denSs,denS,denT,den,denL,Res.bind,Res.noErr,onBl,a1x',a1G' hS,opD,subD,e]
theorem a3u'{step:D→List D→Store→Res (List D)}{S:Store}{xs:List D}(h:∀x∈xs,∀acc,acc.length<big→step x acc S=.ok (acc++[.bl true]) S)(hl:xs.length≤big):compD step xs [] S=.ok (xs.map fun _=>D.bl true) S:=by
 rw[a6U' (fun _=>some (.bl true)) xs [] (fun x hx acc ha=>h x hx acc ha) (by simpa using hl)]
 simp
theorem a5Z'{S:Store}{xs:List D}:allD [.lst (xs.map fun _=>D.bl true)] S=.ok (.bl true) S:=by
 unfold allD
 simp only[seqOf]
 rw[Yj,show allO (xs.map (asB∘fun x=>D.bl true))=some true from a5X' fun x hx=>rfl]
 rfl
theorem cut1(xs:List D):cutL xs (some 1) none=xs.drop 1:=by
 unfold cutL
 have e1:HT.sIx xs.length 0 (some 1)=min 1 xs.length:=by
  unfold HT.sIx
  simp
  try omega
 have e2:HT.sIx xs.length xs.length none=xs.length:=rfl
 rw[e1,e2]
 cases xs with
 |nil=>rfl
 |cons x r=>simp
theorem a5x'{S:Store}(hS:Flat S){xs:List D}(hl:xs.length≤1000)(h:∀(i:Nat) x y,xs[i]?=some x→xs[i+1]?=some y→ltF S deep x y=some true):a0w' [.tup xs] S=.ok (.bl true) S:=by
 refine a0z' rfl ?_ rfl hS rfl
 have hz:zipOf S (.tup xs) (.tup (xs.drop 1))=some (.items (List.zipWith (fun x y=>.tup [x,y]) xs (xs.drop 1))):=rfl
 have hc:=cut1 xs
 simp[a5u',a5t',denSs,denS,denT,den,denL,denI,Res.bind,Res.noErr,onBl,slD,optL,toOpt,bltD]
 simp only[hc,hz,compI]
 rw[a3u']
 ·simp only[Res.noErr]
  rw[a5Z']
 ·intro z hz acc ha
  obtain⟨i,hi⟩:=List.mem_iff_getElem?.mp hz
  rw[List.getElem?_zipWith]at hi
  cases e1:xs[i]? with
  |none=>rw[e1]at hi;cases hi
  |some x=>
   cases e2:(xs.drop 1)[i]? with
   |none=>rw[e1,e2]at hi;cases hi
   |some y=>
    rw[e1,e2]at hi
    cases hi
    rw[List.getElem?_drop,Nat.add_comm]at e2
    have hlt:=h i x y e1 e2
    simp[a0p',isNew,slots,a5d',asgCT,asgVs,denTs,denB,den,Res.bind,cmpD,hlt,boolR,Res.noErr]
    unfold big at ha
    omega
 ·simp;unfold big;omega
theorem a5g'{S:Store}(hS:Flat S){m:Int}{ns:List Int}(hl:ns.length≤1000)(h:∀n∈ns,0≤n∧n<m):a1j' [.int m,.tup (ns.map D.int)] S=.ok (.bl true) S:=by
 refine a0z' rfl ?_ rfl hS rfl
 have hi:a0N' [.tup (ns.map D.int),.ty "tuple"] S=.ok (.bl true) S:=rfl
 simp[a4G',a4F',denSs,denS,denT,den,denL,denI,Res.bind,Res.noErr,onBl,bltD,hi,a1h']
 simp only[compI]
 rw[a3u']
 ·simp only[Res.noErr]
  rw[a5Z']
 ·intro z hz acc ha
  obtain⟨n,hn,rfl⟩:=ZI.mp hz
  have hp:=a7G' hS m n
  have hd:decide (0≤n∧n<m)=true:=ZK (h n hn)
  rw[hd]at hp
  simp[a0p',isNew,slots,a5d',asgCT,asgVs,denTs,denB,den,denL,Res.bind,a2o',hp,Res.noErr]
  unfold big at ha
  omega
 ·simp;unfold big;omega
theorem a5y'{S:Store}(hS:Flat S){m:Int}{t:Int×Int}(h:0≤t.1∧t.1<t.2∧t.2<m):a3H' [.int m,tieD t] S=.ok (.bl true) S:=by
 refine a0z' rfl ?_ rfl hS rfl
 have h1:a1j' [.int m,tieD t] S=.ok (.bl true) S:=a5g' hS (ns:=[t.1,t.2]) (by simp) (by intro n hn;simp at hn;rcases hn with rfl|rfl<;>omega)
 have h2:a0w' [tieD t] S=.ok (.bl true) S:=a5x' hS (xs:=[.int t.1,.int t.2]) (by simp) (by
  intro i x y e1 e2
  have hi:i=0:=by
   have:=(Zh.mp e2).1
   simp at this;omega
  subst hi
  simp at e1 e2
  subst e1;subst e2
  show some (decide (t.1<t.2))=some true
  simp[h.2.1])
 have h3:bltD .len [tieD t] S=.ok (.int 2) S:=rfl
 have h4:cmpD .Eq (.int 2) (.int 2) S=.ok (.bl true) S:=rfl
 simp[b0t',b0s',denSs,denS,denT,den,denL,Res.bind,Res.noErr,onBl,a2T',a3k',h1,h2,h3,h4]
theorem b0H'{ts:List (Int×Int)}{i:Nat}{x:D}(h:(tiesD ts)[i]?=some x):∃t,ts[i]?=some t∧x=tieD t:=by
 unfold tiesD at h
 rw[ZJ]at h
 cases e:ts[i]? with
 |none=>rw[e]at h;cases h
 |some t=>rw[e]at h;cases h;exact⟨t,rfl,rfl⟩
theorem a5z'{S:Store}(hS:Flat S){ts:List (Int×Int)}(hl:ts.length≤1000)(h:ts.Pairwise lexlt):a0w' [.tup (tiesD ts)] S=.ok (.bl true) S:=
 a5x' hS (by unfold tiesD;simpa using hl) fun i x y e1 e2=>by
  obtain⟨t,f1,rfl⟩:=b0H' e1
  obtain⟨u,f2,rfl⟩:=b0H' e2
  rw[show ltF S deep (tieD t) (tieD u)=some (decide (lexlt t u))from ltF_tie S 38 t u]
  obtain⟨g1,rfl⟩:=Zh.mp f1
  obtain⟨g2,rfl⟩:=Zh.mp f2
  rw[ZK (List.pairwise_iff_getElem.mp h i (i+1) g1 g2 (by omega))]
theorem a9i'{S:Store}(hS:Flat S){m:Int}{ts:List (Int×Int)}(W:Web m ts):a5R' [webD m ts] S=.ok (.bl true) S:=by
 have hf:=W.few
 refine a0z' rfl ?_ rfl hS rfl
 have h1:a0N' [webD m ts,.ty "tuple"] S=.ok (.bl true) S:=rfl
 have h2:lenD [webD m ts] S=.ok (.int 2) S:=rfl
 have h3:cmpD .NotEq (.int 2) (.int 2) S=.ok (.bl false) S:=rfl
 have h4:=a1G' hS m 1 8
 rw[ZK (⟨W.lo,W.hi⟩:1≤m∧m≤8)]at h4
 have h5:a0N' [.tup (tiesD ts),.ty "tuple"] S=.ok (.bl true) S:=rfl
 have h6:=a5z' hS (show ts.length≤1000 by omega) W.ris
 have h7:G0 "MOST_PLACES"=some (.int 8):=rfl
 have h8:asgCT (.tup [.var 1,.var 2]) (webD m ts) [some (webD m ts),none,none]=some [some (webD m ts),some (.int m),some (.tup (tiesD ts))]:=rfl
 simp[b0v',b0u',denSs,denS,denT,den,denL,denI,Res.bind,Res.noErr,onBl,bltD,h1,h2,h3,a3l',a1K',a2p',h4,h5,truD,h6,h7,h8,a1h']
 simp only[compI]
 rw[a3u']
 ·simp only[Res.noErr]
  rw[a5Z']
  simp[h6]
 ·intro z hz acc ha
  obtain⟨t,ht,rfl⟩:=ZI.mp hz
  have hp:=a5y' hS (W.tie t ht)
  simp[a0p',isNew,slots,a5d',asgCT,asgVs,denTs,denB,den,denL,Res.bind,a2p',hp,Res.noErr]
  unfold big at ha
  omega
 ·unfold tiesD big;simp;omega
theorem a4S'{S:Store}(hS:Flat S){m:Int}{ts:List (Int×Int)}(W:Web m ts):a1s' [webD m ts] S=.ok .non S:=by
 refine b0G' (ρ:=[some (webD m ts)]) rfl ?_ rfl hS
 simp[a4a',a3Z',denSs,denS,denT,den,denL,Res.bind,a2K',a9i' hS W,truD]
theorem a0Y'{α:Type}{f e:α→D}{p:α→Bool}{step:D→List D→Store→Res (List D)}{S:Store}:∀(xs:List α) (acc:List D),(∀x∈xs,∀acc,acc.length<big→step (f x) acc S=.ok (if p x=true then acc++[e x]else acc) S)→acc.length+xs.length≤big→compD step (xs.map f) acc S=.ok (acc++(xs.filter p).map e) S
 | [],acc,_,_=>by simp[compD]
 |x::xs,acc,h,hl=>by
  simp only[Zy]at hl
  simp only[ZH]
  unfold compD
  rw[h x Zc acc (by omega)]
  unfold Res.bind
  dsimp only
  have ih:=fun a=>a0Y' (f:=f) (e:=e) (p:=p) (step:=step) xs a (fun y hy=>h y (Zb _ hy))
  by_cases hp:p x=true
  ·rw[if_pos hp,ih _ (by simp;omega)]
   simp[hp]
  ·rw[if_neg hp,ih _ (by omega)]
   simp[hp]
theorem a1S'{α:Type}{f e:α→D}{p:α→Bool}{step:D→List D→Store→Res (List D)}{S:Store}{xs:List α}(h:∀x∈xs,∀acc,acc.length<big→step (f x) acc S=.ok (if p x=true then acc++[e x]else acc) S)(hl:xs.length≤big):compD step (xs.map f) [] S=.ok ((xs.filter p).map e) S:=by
 rw[a0Y' xs [] h (by simpa using hl)]
 simp
theorem a0o'{Φ:FT}{Γ:Str→Option D}{c:CS}{cs:List CS}{ρ ρ':Rho}{S S':Store}(h:denS Φ Γ c ρ S=.ok (.next ρ') S'):denSs Φ Γ (c::cs) ρ S=denSs Φ Γ cs ρ' S':=by
 rw[denSs,h];rfl
theorem a2d'{Φ:FT}{Γ:Str→Option D}{c:CS}{cs:List CS}{ρ:Rho}{S S':Store}{d:D}(h:denS Φ Γ c ρ S=.ok (.ret d) S'):denSs Φ Γ (c::cs) ρ S=.ok (.ret d) S':=by
 rw[denSs,h];rfl
theorem a4k'{Φ:FT}{Γ:Str→Option D}{t:CT}{it:CE}{body:List CS}{ρ:Rho}{S S1:Store}{its:Its}(h:denI Φ Γ it ρ S=.ok its S1):denS Φ Γ (.for_ t it body) ρ S=forI (fun x ρ S=>match asgCT t x ρ with
   |some ρ'=>denSs Φ Γ body ρ' S
   |none=>.fail) its ρ S1:=by
 rw[denS,h];rfl
theorem a0C'{Φ:FT}{Γ:Str→Option D}{i:Nat}{e:CE}{cs:List CS}{ρ:Rho}{S S':Store}{d:D}(h:den Φ Γ e ρ S=.ok d S'):denSs Φ Γ (.asg i e::cs) ρ S=denSs Φ Γ cs (ρ.set i (some d)) S':=
 a0o' (by rw[denS,h];rfl)
def a0G'(lo:Int):Nat→List Int
 |0=>[]
 |n+1=>lo::a0G' (lo+1) n
theorem a3v'(lo:Int)(n:Nat):a3A' lo n=(a0G' lo n).map D.int:=by
 induction n generalizing lo with
 |zero=>rfl
 |succ n ih=>unfold a3A' a0G';rw[ih];rfl
theorem a1H'{lo x:Int}{n:Nat}:x∈a0G' lo n→lo≤x∧x<lo+n:=by
 induction n generalizing lo with
 |zero=>intro h;cases h
 |succ n ih=>
  intro h
  unfold a0G' at h
  rcases Zr.mp h with rfl|h
  ·omega
  ·have:=ih h;omega
theorem a0k'{lo:Int}{n:Nat}:(a0G' lo n).length=n:=by
 induction n generalizing lo with
 |zero=>rfl
 |succ n ih=>unfold a0G';simp[ih]
def hasP(p:Int)(t:Int×Int):Bool:=decide (p=t.1∨p=t.2)
def mateI:List (Int×Int)→Int→Option Int
 | [],_=>none
 |t::ts,p=>if p=t.1 then some t.2 else if p=t.2 then some t.1 else mateI ts p
def optD:Option Int→D
 |some i=>.int i
 |none=>.non
theorem low_opt(o:Option Int):lowD 0 (optD o)=true:=by cases o<;>rfl
theorem a8w'{S:Store}{step:D→Rho→Store→Res Fl}{p:Int}{P:D}
  (hs:∀(t:Int×Int) (x y:Option D),step (tieD t) [some P,some (.int p),x,y] S=.ok (if p=t.1 then .ret (.int t.2)else if p=t.2 then .ret (.int t.1)else .next [some P,some (.int p),some (.int t.1),some (.int t.2)]) S):
  ∀(ts:List (Int×Int)) (x y:Option D),(∃v,mateI ts p=some v∧forD step (tiesD ts) [some P,some (.int p),x,y] S=.ok (.ret (.int v)) S)∨(mateI ts p=none∧∃x' y',forD step (tiesD ts) [some P,some (.int p),x,y] S=.ok (.next [some P,some (.int p),x',y']) S)
 | [],x,y=>.inr ⟨rfl,x,y,rfl⟩
 |t::ts,x,y=>by
  unfold tiesD
  simp only[ZH]
  unfold forD mateI
  rw[hs]
  by_cases h1:p=t.1
  ·rw[if_pos h1,if_pos h1]
   exact .inl ⟨_,rfl,rfl⟩
  ·rw[if_neg h1,if_neg h1]
   by_cases h2:p=t.2
   ·rw[if_pos h2,if_pos h2]
    exact .inl ⟨_,rfl,rfl⟩
   ·rw[if_neg h2,if_neg h2]
    exact a8w' hs ts _ _
theorem a6W'{S:Store}(hS:Flat S)(ps:List (Int×Int))(p:Int):a1O' [.tup (tiesD ps),.int p] S=.ok (optD (mateI ps p)) S:=by
 refine a0z' rfl ?_ rfl hS (low_opt _)
 have hl:=a8w' (S:=S) (p:=p) (P:=.tup (tiesD ps)) (step:=fun x ρ S=>match asgCT (.tup [.var 2,.var 3]) x ρ with
   |some ρ'=>denSs a3n' G0 [.ite (.cmp .Eq (.var 1) (.var 2)) [.ret (.var 3)] [],.ite (.cmp .Eq (.var 1) (.var 3)) [.ret (.var 2)] []] ρ' S
   |none=>.fail) (fun t x y=>by
    simp only[tieD,asgCT,asgVs]
    by_cases h1:p=t.1
    ·simp[denSs,denS,denT,den,Res.bind,Res.noErr,cmpD,eqF,deep,sh,eqS,boolR,onBl,h1]
    ·by_cases h2:p=t.2
     ·have h1':¬t.2=t.1:=fun z=>h1 (h2.trans z)
      simp[denSs,denS,denT,den,Res.bind,Res.noErr,cmpD,eqF,deep,sh,eqS,boolR,onBl,h1,h2,h1']
      try omega
     ·simp[denSs,denS,denT,den,Res.bind,Res.noErr,cmpD,eqF,deep,sh,eqS,boolR,onBl,h1,h2]) ps none none
 have e:denSs a3n' G0 a8s' ([D.tup (tiesD ps),D.int p].map some++List.replicate (a8r'.length-2) none) S=(forD (fun x ρ S=>match asgCT (.tup [.var 2,.var 3]) x ρ with
   |some ρ'=>denSs a3n' G0 [.ite (.cmp .Eq (.var 1) (.var 2)) [.ret (.var 3)] [],.ite (.cmp .Eq (.var 1) (.var 3)) [.ret (.var 2)] []] ρ' S
   |none=>.fail) (tiesD ps) [some (.tup (tiesD ps)),some (.int p),none,none] S).bind fun f S1=>match f with
    | .next ρ'=>denSs a3n' G0 [.ret (.lit .non)] ρ' S1
    |f=>.ok f S1:=rfl
 rw[e]
 rcases hl with⟨v,h1,h2⟩| ⟨h1,x',y',h2⟩
 ·rw[h2,h1];rfl
 ·rw[h2,h1];rfl
def a4l'(m:Int)(ps:List (Int×Int)):List Int:=(a0G' 0 m.toNat).filter fun i=>(mateI ps i).isNone
theorem b2e'(o:Option Int):isNon (optD o)=o.isNone:=by cases o<;>rfl
theorem a9j'{S:Store}(hS:Flat S){m:Int}(h1:1≤m)(h2:m≤8)(ts ps:List (Int×Int)):a2r' [webD m ts,.tup (tiesD ps)] S=.ok (.tup ((a4l' m ps).map D.int)) S:=by
 refine a0z' rfl ?_ rfl hS (a5Y' _)
 have hi:idxD (webD m ts) (.int 0) S=.ok (.int m) S:=rfl
 have hr:(-4611686018427387904:Int)≤m∧m<4611686018427387904:=by omega
 simp[a6I',a6H',denSs,denS,denT,den,denL,denI,Res.bind,Res.noErr,onBl,bltD,compI,hi,hr,a3v']
 rw[a1S' (f:=D.int) (p:=fun i=>(mateI ps i).isNone) (e:=D.int)]
 ·simp[Res.noErr,a8M',seqOf,a4l']
 ·intro i hi acc ha
  have ha':acc.length<16777216:=ha
  have hq:=a6W' hS ps i
  have hn:=b2e' (mateI ps i)
  cases e:(mateI ps i).isNone<;>rw[e]at hn<;>simp[a0p',isNew,slots,a5d',asgCT,asgVs,denTs,denT,denB,den,denL,Res.bind,cmpD,isD,boolR,Res.noErr,onBl,a3o',hq,hn,ha']
 ·rw[a0k'];unfold big;omega
theorem a4T'{α:Type}{f:α→D}{g:α→List D}{c:Nat}{step:D→List D→Store→Res (List D)}{S:Store}(hg:∀x,(g x).length≤c):∀(xs:List α) (acc:List D),(∀x∈xs,∀acc,acc.length+c≤big→step (f x) acc S=.ok (acc++g x) S)→acc.length+c*xs.length≤big→compD step (xs.map f) acc S=.ok (acc++xs.flatMap g) S
 | [],acc,_,_=>by simp[compD]
 |x::xs,acc,h,hl=>by
  simp only[Zy,Nat.mul_add,Nat.mul_one]at hl
  simp only[ZH]
  unfold compD
  rw[h x Zc acc (by omega)]
  unfold Res.bind
  dsimp only
  rw[a4T' hg xs _ (fun y hy=>h y (Zb _ hy)) (by have:=hg x;simp only[Zn];omega)]
  simp
theorem a8x':∀(ns acc:List Int),(acc++ns).Nodup→ns.foldl step_dedup acc=acc++ns
 | [],acc,_=>by simp
 |n::ns,acc,h=>by
  simp only[List.foldl_cons]
  have hn:acc.any (· ==n)=false:=by
   rw[List.any_eq_false]
   intro x hx z
   have:x=n:=by simpa using z
   subst this
   have:=(Z6.mp h).2.2 x hx x Zc
   exact this rfl
  have e:step_dedup acc n=acc++[n]:=by unfold step_dedup;rw[hn];rfl
  rw[e,a8x' ns (acc++[n]) (by rw[Zm];exact h),Zm]
  rfl
theorem a9k'{S:Store}(hS:Flat S){ns:List Int}(hl:ns.length<1000)(h:ns.Nodup):a1J' [.lst (ns.map D.int)] S=.ok (.bl true) S:=by
 refine a0z' rfl ?_ rfl hS rfl
 have h1:a8c' (.lst (ns.map D.int)) S=.ok (.int ns.length) S:=by
  have e1:(ns.map D.int).all (hasTy .int)=true:=by
   rw[ZN]
   intro x hx
   obtain⟨n,_,rfl⟩:=ZI.mp hx
   rfl
  have e2:(ns.map D.int).filterMap asInt=ns:=by
   rw[List.filterMap_map]
   exact List.filterMap_some
  have e3:dedI ns=ns:=by
   unfold dedI
   have:=a8x' ns [] (by simpa using h)
   simpa using this
  show(if(ns.map D.int).all (hasTy .int)=true∧(ns.map D.int).length<1000 then Res.ok (D.int ((dedI ((ns.map D.int).filterMap asInt)).length:Nat)) S else .fail)=_
  rw[if_pos ⟨e1,by simpa using hl⟩,e2,e3]
 have h2:lenD [.lst (ns.map D.int)] S=.ok (.int ns.length) S:=by simp[lenD,seqOf]
 have h3:cmpD .Eq (.int ns.length) (.int ns.length) S=.ok (.bl true) S:=by
  have:cmpD .Eq (.int ns.length) (.int ns.length) S=.ok (.bl ((ns.length:Int)==ns.length)) S:=rfl
  rw[this];simp
 simp[a4J',a4I',denSs,denS,den,denL,Res.bind,Res.noErr,bltD,h1,h2,h3]
def a0J'(ps:List (Int×Int)):List Int:=ps.flatMap fun t=>[t.1,t.2]
theorem b4q'(ps:List (Int×Int)):ps.flatMap (fun t=>[D.int t.1,D.int t.2])=(a0J' ps).map D.int:=by
 unfold a0J'
 rw[List.map_flatMap]
 rfl
theorem a6X'(ps:List (Int×Int)):(a0J' ps).length=2*ps.length:=by
 unfold a0J'
 induction ps with
 |nil=>rfl
 |cons t ts ih=>simp only[ZG,Zn,ih,Zy];simp;omega
theorem a6Y'{S:Store}(hS:Flat S){m:Int}{ts ps:List (Int×Int)}(W:Web m ts)(P:Pairing ts ps)(hl:ps.length≤100):a3m' [webD m ts,.tup (tiesD ps)] S=.ok (.bl true) S:=by
 refine a0z' rfl ?_ rfl hS rfl
 have h0:idxD (webD m ts) (.int 0) S=.ok (.int m) S:=rfl
 have h0':idxD (webD m ts) (.int 1) S=.ok (.tup (tiesD ts)) S:=rfl
 have h2:a0N' [.tup (tiesD ps),.ty "tuple"] S=.ok (.bl true) S:=rfl
 have h3:=a5z' hS (show ps.length≤1000 by omega) P.ris
 unfold a6D'
 refine(a0o' (ρ':=[some (webD m ts),some (.tup (tiesD ps))]) (S':=S) (by simp[a6C',denS,denSs,denT,den,denL,Res.bind,Res.noErr,bltD,h2,truD])).trans ?_
 refine a2d' ?_
 simp[denS,den,denL,denI,Res.bind,Res.noErr,onBl,bltD,a1h',compI]
 rw[a3u']
 ·simp only[Res.noErr]
  rw[a5Z']
  simp[a2J',h3]
 ·intro z hz acc ha
  obtain⟨t,ht,rfl⟩:=ZI.mp hz
  have hp:=a5y' hS (W.tie t (P.sub t ht))
  have hin:=b0F' S t ts
  rw[ZK (P.sub t ht)]at hin
  have ha':acc.length<16777216:=ha
  simp[a0p',isNew,slots,a5d',asgCT,asgVs,denTs,denB,den,denL,Res.bind,a3I',hp,Res.noErr,h0,h0',cmpD,hin,boolR,onBl,ha']
 ·unfold tiesD big;simp;omega
theorem a5h'{S:Store}(hS:Flat S){m:Int}{ts ps:List (Int×Int)}(W:Web m ts)(P:Pairing ts ps)(hl:ps.length≤100):a1N' [webD m ts,.tup (tiesD ps)] S=.ok (.bl true) S:=by
 refine a0z' rfl ?_ rfl hS rfl
 have h1:=a4S' hS W
 have h3:=a6Y' hS W P hl
 have h4:=a9k' hS (ns:=a0J' ps) (by rw[a6X'];omega) P.un
 unfold a4M'
 refine(a0o' (ρ':=[some (webD m ts),some (.tup (tiesD ps))]) (S':=S) (by simp[a4L',denS,den,denL,Res.bind,a1A',h1])).trans ?_
 refine a2d' ?_
 simp[denS,den,denL,denI,Res.bind,Res.noErr,onBl,a2q',a1M',h3,a1h',compI]
 unfold tiesD
 rw[a4T' (f:=tieD) (g:=fun t=>[.int t.1,.int t.2]) (c:=2) (fun x=>by simp)]
 ·rw[b4q']
  simp[Res.noErr,h4]
 ·intro t ht acc ha
  have ha':acc.length+2≤16777216:=ha
  have e:a0p' (.var 0) (tieD t) [none,none]=some [some (tieD t),none]:=rfl
  have e2:a1h' S (tieD t)=some (.items [.int t.1,.int t.2]):=rfl
  simp[e,a0p',isNew,slots,a5d',asgCT,asgVs,denTs,denB,den,denI,Res.bind,Res.noErr,e2,compI,compD,show acc.length<16777216 by omega,show acc.length+1<16777216 by omega]
 ·unfold big;simp;omega
theorem a2Y'{S:Store}(hS:Flat S){m:Int}{ts ps:List (Int×Int)}(W:Web m ts)(P:Pairing ts ps)(hl:ps.length≤100):a0l' [webD m ts,.tup (tiesD ps)] S=.ok .non S:=by
 refine b0G' (ρ:=[some (webD m ts),some (.tup (tiesD ps))]) rfl ?_ rfl hS
 simp[a1U',a1T',denSs,denS,denT,den,denL,Res.bind,a1b',a5h' hS W P hl,truD]
def insI(x:Int×Int):List (Int×Int)→List (Int×Int)
 | []=>[x]
 |y::ys=>if lexlt x y then x::y::ys else y::insI x ys
def sortI(l:List (Int×Int)):List (Int×Int):=l.foldl (fun acc x=>insI x acc) []
theorem ltK_tie(a b:Int×Int):ltK (.seq .int) (tieD a) (tieD b)=decide (lexlt a b):=by
 have e:ltK (.seq .int) (tieD a) (tieD b)=(if decide (a.1<b.1)=true then true else if decide (b.1<a.1)=true then false else if decide (a.2<b.2)=true then true else if decide (b.2<a.2)=true then false else false):=rfl
 rw[e]
 simp only[decide_eq_true_eq]
 by_cases h:lexlt a b
 ·rw[ZK h]
  unfold lexlt at h
  repeat' split
  all_goals first|rfl|omega
 ·rw[ZC h]
  unfold lexlt at h
  repeat' split
  all_goals first|rfl|omega
theorem b0I'(x:Int×Int):∀l:List (Int×Int),insB (ltK (.seq .int)) (tieD x) (tiesD l)=tiesD (insI x l)
 | []=>rfl
 |y::ys=>by
  show(if ltK (.seq .int) (tieD x) (tieD y)=true then tieD x::tieD y::tiesD ys else tieD y::insB (ltK (.seq .int)) (tieD x) (tiesD ys))=tiesD (insI x (y::ys))
  have e:insI x (y::ys)=if lexlt x y then x::y::ys else y::insI x ys:=rfl
  rw[ltK_tie,b0I' x ys,e]
  by_cases h:lexlt x y
  ·rw[ZK h,if_pos rfl,if_pos h];rfl
  ·rw[ZC h,if_neg Bool.false_ne_true,if_neg h];rfl
theorem a8y':∀(l acc:List (Int×Int)),(tiesD l).foldl (fun acc x=>insB (ltK (.seq .int)) x acc) (tiesD acc)=tiesD (l.foldl (fun acc x=>insI x acc) acc)
 | [],acc=>rfl
 |x::l,acc=>by
  show(tiesD l).foldl (fun acc x=>insB (ltK (.seq .int)) x acc) (insB (ltK (.seq .int)) (tieD x) (tiesD acc))=_
  rw[b0I',a8y' l]
  rfl
theorem b2f'(l:List (Int×Int)):a4i' (ltK (.seq .int)) (tiesD l)=tiesD (sortI l):=a8y' l []
theorem a4t'(x:Int×Int):∀l,(insI x l).Perm (x::l)
 | []=>.refl _
 |y::ys=>by
  unfold insI
  split
  ·exact .refl _
  ·exact((a4t' x ys).cons y).trans (.swap x y ys)
theorem a6Z':∀(l acc:List (Int×Int)),(l.foldl (fun acc x=>insI x acc) acc).Perm (l++acc)
 | [],acc=>.refl _
 |x::l,acc=>by
  refine(a6Z' l (insI x acc)).trans ?_
  exact((a4t' x acc).append_left l).trans List.perm_middle
theorem a1I'(l:List (Int×Int)):(sortI l).Perm l:=by
 have:=a6Z' l []
 rw[Z2]at this
 exact this
theorem lex_tot{x y:Int×Int}(h:¬lexlt x y)(n:x≠y):lexlt y x:=by
 unfold lexlt at h⊢
 have:¬(x.1=y.1∧x.2=y.2):=fun z=>n (Prod.ext z.1 z.2)
 omega
theorem b2g'{x y z:Int×Int}(a:lexlt x y)(b:lexlt y z):lexlt x z:=by
 unfold lexlt at*
 omega
theorem a5A'(x:Int×Int):∀l,l.Pairwise lexlt→x∉l→(insI x l).Pairwise lexlt
 | [],_,_=>List.pairwise_singleton _ _
 |y::ys,h,n=>by
  obtain⟨h1,h2⟩:=List.pairwise_cons.mp h
  unfold insI
  by_cases e:lexlt x y
  ·rw[if_pos e]
   refine List.pairwise_cons.mpr ⟨fun z hz=>?_,h⟩
   rcases Zr.mp hz with rfl|hz
   ·exact e
   ·exact b2g' e (h1 z hz)
  ·rw[if_neg e]
   refine List.pairwise_cons.mpr ⟨fun z hz=>?_,a5A' x ys h2 fun z=>n (Zb _ z)⟩
   rcases Zr.mp ((a4t' x ys).mem_iff.mp hz)with rfl|hz
   ·exact lex_tot e fun z=>n (by subst z;exact Zc)
   ·exact h1 z hz
theorem a4U':∀(l acc:List (Int×Int)),acc.Pairwise lexlt→(l++acc).Nodup→(l.foldl (fun acc x=>insI x acc) acc).Pairwise lexlt
 | [],acc,h,_=>h
 |x::l,acc,h,n=>by
  have n':(x::(l++acc)).Nodup:=n
  obtain⟨n1,n2⟩:=List.nodup_cons.mp n'
  refine a4U' l (insI x acc) (a5A' x acc h fun z=>n1 (ZE _ z)) ?_
  exact(((a4t' x acc).append_left l).trans List.perm_middle).nodup_iff.mpr n'
theorem a4V'{l:List (Int×Int)}(h:l.Nodup):(sortI l).Pairwise lexlt:=a4U' l [] .nil (by simpa using h)
theorem a2Z'{S:Store}{d:D}{l:List (Int×Int)}(hd:seqOf S d=some (tiesD l))(hl:l.length<64):a4z' false (.seq .int) [d] S=.ok (.lst (tiesD (sortI l))) S:=by
 have e1:(tiesD l).all (hasTy (.seq .int))=true:=by
  rw[ZN]
  intro x hx
  obtain⟨t,_,rfl⟩:=ZI.mp hx
  rfl
 have e2:a4y' (.seq .int) (tiesD l)=true:=by
  have:((tiesD l).all fun d=> !isNil d)=true:=by
   rw[ZN]
   intro x hx
   obtain⟨t,_,rfl⟩:=ZI.mp hx
   rfl
  show(true&&(((tiesD l).all fun d=> !isNil d)||isNil ((tiesD l).headD .non)))=true
  rw[this]
  rfl
 have e3:(tiesD l).length<65536:=by unfold tiesD;rw[Zk];omega
 unfold a4z'
 simp only[hd]
 rw[if_pos ⟨e1,e3,e2⟩,b2f']
 rfl
theorem b4r'{m:Int}{l:List (Int×Int)}(h1:1≤m)(h2:m≤8)(hn:l.Nodup)(hv:∀t∈l,0≤t.1∧t.1<t.2∧t.2<m)(hl:l.length≤28):Web m (sortI l):=
 ⟨h1,h2,a4V' hn,fun t ht=>hv t ((a1I' l).mem_iff.mp ht),by rw[(a1I' l).length_eq];exact hl⟩
theorem eight{m:Int}(h1:1≤m)(h2:m≤8):m=1∨m=2∨m=3∨m=4∨m=5∨m=6∨m=7∨m=8:=by omega
theorem a7H'{lo:Int}{n:Nat}:(a0G' lo n).Nodup:=by
 induction n generalizing lo with
 |zero=>exact List.nodup_nil
 |succ n ih=>
  unfold a0G'
  refine List.nodup_cons.mpr ⟨fun h=>?_,ih⟩
  have:=a1H' h
  omega
end K32
end
section
namespace K32
open PySem PySem.Spec PyProof.Rows L2 Py
theorem a7a'{Φ:FT}{Γ:Str→Option D}{c:CE}{a b:List CS}{ρ:Rho}{S S1:Store}{k:Bool}(h:denT Φ Γ c ρ S=.ok k S1):denS Φ Γ (.ite c a b) ρ S=if k=true then denSs Φ Γ a ρ S1 else denSs Φ Γ b ρ S1:=by
 rw[denS,h];rfl
theorem a2y'{Φ:FT}{Γ:Str→Option D}{N:List Str}{fr:List (Option Nat)}{tg:CT}{it:CE}{ifs:List CE}{body:CE}{ρ:Rho}{S S1 S5:Store}{its:Its}{ys:List D}(hI:denI Φ Γ it ρ S=.ok its S1)
  (hc:compI (fun x acc S2=>match a0p' tg x (fr.map fun j=>j.bind fun j=>(ρ[j]?).join)with
    |some ρ'=>(denTs Φ Γ ifs ρ' S2).bind fun k S3=>if k=true then denB Φ Γ body ρ' acc S3 else .ok acc S3
    |none=>.fail) its [] S1=.ok ys S5):den Φ Γ (.comp false N fr tg it ifs body) ρ S=.ok (.lst ys) S5:=by
 rw[den,hI]
 exact Eq.trans (congrArg (fun r=>Res.bind (Res.noErr r) (fun ys S5=>if false=true then Res.ok (D.ref S5.length) (S5++[ys])else Res.ok (.lst ys) S5)) hc) rfl
section
variable {Φ:FT}{Γ:Str→Option D}{ρ:Rho}{S S1 S2 S3:Store}{d d2 r x y:D}{e a b:CE}
theorem den_v{i:Nat}(h:ρ[i]?=some (some d)):den Φ Γ (.var i) ρ S=.ok d S:=by rw[den,h]
theorem b0J'{k:Blt}(h:den Φ Γ e ρ S=.ok d S1)(hb:bltD k [d] S1=.ok r S2):den Φ Γ (.blt k [e]) ρ S=.ok r S2:=by simp[den,denL,h,Res.bind,hb,Res.noErr]
theorem b0K'(h1:den Φ Γ a ρ S=.ok x S1)(h2:den Φ Γ b ρ S1=.ok y S2):den Φ Γ (.tup [a,b]) ρ S=.ok (.tup [x,y]) S2:=by simp[den,denL,h1,h2,Res.bind]
theorem a6a'(h:den Φ Γ e ρ S=.ok d S1):denS Φ Γ (.ret e) ρ S=.ok (.ret d) S1:=by rw[denS,h];rfl
end
end K32
end
section
namespace K32
open PySem PySem.Spec PyProof.Rows L2 Py
section
variable {S:Store}{A B:List D}
end
def fits(t:Int×Int)(fs:List (Int×Int)):Bool:=fs.all fun o=> !hasP t.1 o&& !hasP t.2 o
end K32
end
section
namespace K32
open PySem PySem.Spec PyProof.Rows L2 Py
structure Found (ts fs:List (Int×Int)):Prop where
 sub:∀t∈fs,t∈ts
 un:(a0J' fs).Nodup
theorem a9l'(fs:List (Int×Int))(t:Int×Int):a0J' (fs++[t])=a0J' fs++[t.1,t.2]:=by
 unfold a0J'
 simp
theorem b0L'{fs:List (Int×Int)}{p:Int}(h:p∈a0J' fs):∃o∈fs,p=o.1∨p=o.2:=by
 unfold a0J' at h
 obtain⟨o,ho,h⟩:=Yc.mp h
 exact⟨o,ho,by simpa using h⟩
theorem Found.add{m:Int}{ts fs:List (Int×Int)}{t:Int×Int}(W:Web m ts)(F:Found ts fs)(ht:t∈ts)(h:fits t fs=true):Found ts (fs++[t]):=by
 have hf:∀o∈fs,¬(t.1=o.1∨t.1=o.2)∧¬(t.2=o.1∨t.2=o.2):=fun o ho=>by
  have:=ZN.mp h o ho
  simp only[Zt,Bool.not_eq_true',hasP,decide_eq_false_iff_not]at this
  exact this
 refine⟨fun u hu=>?_,?_⟩
 ·rcases ZA.mp hu with z|z
  ·exact F.sub u z
  ·have:u=t:=by simpa using z
   subst this;exact ht
 ·rw[a9l',Z6]
  have:=W.tie t ht
  refine⟨F.un,?_,fun a ha b hb=>?_⟩
  ·simp;omega
  ·obtain⟨o,ho,e⟩:=b0L' ha
   obtain⟨h1,h2⟩:=hf o ho
   simp at hb
   intro z
   subst z
   rcases hb with rfl|rfl
   ·exact h1 e
   ·exact h2 e
theorem Found.length{ts fs:List (Int×Int)}{m:Int}(W:Web m ts)(F:Found ts fs):fs.length≤28:=by
 have hn:fs.Nodup:=by
  have h:=F.un
  clear F
  induction fs with
  |nil=>exact List.nodup_nil
  |cons t fs ih=>
   have e:a0J' (t::fs)=[t.1,t.2]++a0J' fs:=rfl
   rw[e]at h
   obtain⟨h1,h2,h3⟩:=Z6.mp h
   refine List.nodup_cons.mpr ⟨fun z=>?_,ih h2⟩
   exact h3 t.1 (by simp) t.1 (by unfold a0J';exact Yc.mpr ⟨t,z,by simp⟩) rfl
 exact ZB (hn.length_le_of_subset fun t ht=>F.sub t ht) W.few
theorem Found.nodup{ts fs:List (Int×Int)}(F:Found ts fs):fs.Nodup:=by
 have h:=F.un
 clear F
 induction fs with
 |nil=>exact List.nodup_nil
 |cons t fs ih=>
  have e:a0J' (t::fs)=[t.1,t.2]++a0J' fs:=rfl
  rw[e]at h
  obtain⟨h1,h2,h3⟩:=Z6.mp h
  refine List.nodup_cons.mpr ⟨fun z=>?_,ih h2⟩
  exact h3 t.1 (by simp) t.1 (by unfold a0J';exact Yc.mpr ⟨t,z,by simp⟩) rfl
theorem Found.pairing{ts fs:List (Int×Int)}(F:Found ts fs):Pairing ts (sortI fs):=
 ⟨a4V' F.nodup,fun t ht=>F.sub t ((a1I' fs).mem_iff.mp ht),(((a1I' fs).flatMap_right _).nodup_iff).mpr F.un⟩
end K32
end
section
namespace Pc
end Pc
end
section
namespace Pc
open K32
section
variable {m:Nat}{so:List Int}{ts:List (Int×Int)}
end
end Pc
end
section
namespace K32
open PySem PySem.Spec PyProof.Rows L2 Py
theorem b2h'{S:Store}(hS:Flat S)(a b:Int):a5S' [.int a,.int b] S=.ok (tieD (min a b,max a b)) S:=by
 refine a0z' rfl ?_ rfl hS rfl
 have h1:a3y' [.int a,.int b] S=.ok (.int (min a b)) S:=by
  simp[a3y',minD]
  split<;>omega
 have h2:a5l' [.int a,.int b] S=.ok (.int (max a b)) S:=by
  simp[a5l',maxD]
  split<;>omega
 simp[b0x',b0w',denSs,denS,den,denL,Res.bind,Res.noErr,bltD,h1,h2,tieD]
def tied(ts:List (Int×Int))(a b:Int):Bool:=decide ((min a b,max a b)∈ts)
theorem a5B'{S:Store}(hS:Flat S)(m:Int)(ts:List (Int×Int))(a b:Int):a0E' [webD m ts,.int a,.int b] S=.ok (.bl (tied ts a b)) S:=by
 refine a0z' rfl ?_ rfl hS rfl
 have h1:=b2h' hS a b
 have h2:idxD (webD m ts) (.int 1) S=.ok (.tup (tiesD ts)) S:=rfl
 have h3:=K32.b0F' S (min a b,max a b) ts
 simp[a6F',a6E',denSs,denS,den,denL,Res.bind,Res.noErr,a3J',h1,h2,cmpD,h3,boolR,tied]
theorem in_ints{S:Store}{d:D}{l:List Int}(hd:seqOf S d=some (l.map D.int))(q:Int):inD (.int q) d S=some (decide (q∈l)):=by
 unfold inD
 simp only[hd]
 rw[Yj]
 have e2:((fun y=>eqF S deep y (.int q))∘D.int)=fun u=>some (u==q):=by
  funext u
  exact K32.b0E' S 39 u q
 rw[e2,K32.b0D']
 congr 1
 clear e2 hd
 induction l with
 |nil=>rfl
 |cons u us ih=>
  rw[List.any_cons,ih]
  by_cases h:u=q
  ·subst h;simp
  ·have h':¬q=u:=fun z=>h z.symm
   have:(u==q)=false:=by simpa using h
   rw[this]
   by_cases h2:q∈us<;>simp[h',h2]
end K32
end
section
namespace K32
open PySem PySem.Spec PyProof.Rows L2 Py
open Pc
theorem boxE{S:Store}{A:List D}:(S++[A])[S.length]?=some A:=by rw[Zw (Zl _)];simp
theorem setE{S:Store}{A B:List D}:(S++[A]).set S.length B=S++[B]:=by rw[List.set_append_right _ _ (Zl _)];simp
theorem b2P'{Φ:FT}{Γ:Str→Option D}{body:List CS}{n np:Nat}{ds:List D}{S:Store}{A:List D}(hl:ds.length=np)(h:denSs Φ Γ body (ds.map some++List.replicate (n-np) none) S=.ok (.ret (.ref S.length)) (S++[A]))(hS:Flat S)(hA:lowL 0 A=true):runD Φ Γ body n np ds S=.ok (.ref S.length) (S++[A]):=by
 unfold runD
 rw[if_pos hl,h]
 show trim S.length (.ref S.length) _=_
 unfold trim
 rw[List.take_left' rfl,if_pos hS.all,if_neg (by unfold lowD;simp)]
 simp only[boxE]
 rw[if_pos ⟨K32.a1Q' A hA,Zl _⟩]
theorem a4W'{step:D→Rho→Store→Res Fl}(J:Rho→Store→Prop):∀(xs:List D),(∀x∈xs,∀ρ S,J ρ S→∃ρ' S',J ρ' S'∧step x ρ S=.ok (.next ρ') S')→∀ρ S,J ρ S→∃ρ' S',J ρ' S'∧forD step xs ρ S=.ok (.next ρ') S'
 | [],_,ρ,S,j=>⟨ρ,S,j,rfl⟩
 |x::xs,h,ρ,S,j=>by
  obtain⟨ρ1,S1,j1,e1⟩:=h x Zc ρ S j
  obtain⟨ρ2,S2,j2,e2⟩:=a4W' J xs (fun y hy=>h y (Zb _ hy)) ρ1 S1 j1
  refine⟨ρ2,S2,j2,?_⟩
  unfold forD
  rw[e1]
  exact e2
theorem a4X'{T:Store}{A:List D}{d:D}(hA:A.length<big):a3e' (.ref T.length) [d] (T++[A])=.ok .non (T++[A++[d]]):=by
 unfold a3e'
 simp only[boxE]
 rw[if_pos hA,setE]
end K32
end
section
namespace K32
open PySem PySem.Spec PyProof.Rows L2 Py
theorem a2z':∀{l:List D},lowL 0 l=true↔∀x∈l,lowD 0 x=true
 | []=>by simp[lowL]
 |x::l=>by
  unfold lowL
  rw[Zt,a2z' (l:=l)]
  simp
end K32
end
section
namespace K32
open PySem PySem.Spec PyProof.Rows L2 Py
section
variable {T A:List (List D)}{m a u b:Int}{ts c:List Ti}
end
end K32
end
section
namespace K32
open PySem PySem.Spec PyProof.Rows L2 Py
theorem forB_eq{step:D→Rho→Store→Res Fl}{T:Store}{k:Nat}{xs:List D}(hk:T[k]?=some xs)(J:Nat→Rho→Store→Prop)(hJ:∀i ρ S,J i ρ S→∃A,S=T++[A])(hs:∀i x,xs[i]?=some x→∀ρ S,J i ρ S→∃ρ' S',J (i+1) ρ' S'∧step x ρ S=.ok (.next ρ') S'):
  ∀n i ρ S,i+n=xs.length→J i ρ S→forB step (a3z' k) (n+1) i ρ S=forD step (xs.drop i) ρ S:=by
 have hlt:=(Zh.mp hk).1
 have hg:∀i ρ S,J i ρ S→a3z' k S i=some xs[i]? :=fun i ρ S j=>by
  obtain⟨A,rfl⟩:=hJ i ρ S j
  unfold a3z'
  rw[Zo hlt,hk]
  rfl
 intro n
 induction n with
 |zero=>
  intro i ρ S h j
  unfold forB
  rw[hg i ρ S j,List.getElem?_eq_none (by omega),List.drop_eq_nil_of_le (by omega)]
  rfl
 |succ n ih=>
  intro i ρ S h j
  have hx:xs[i]?=some xs[i]:=Zg (by omega)
  unfold forB
  rw[hg i ρ S j,hx,List.drop_eq_getElem_cons (by omega)]
  obtain⟨ρ',S',j',e⟩:=hs i _ hx ρ S j
  unfold forD
  dsimp only
  rw[e]
  exact ih (i+1) ρ' S' (by omega) j'
end K32
end
section
namespace K32
open PySem PySem.Spec PyProof.Rows L2 Py
section
variable {T:Store}{m u a r:Int}{ts:List Ti}{ks:List Nat}
end
end K32
end
section
namespace K32
open PySem PySem.Spec PyProof.Rows L2 Py
section
variable {T:Store}{m u:Int}{ts:List Ti}{ks:List Nat}
end
end K32
end
section
namespace K32
open PySem PySem.Spec PyProof.Rows L2 Py
theorem b0M'{α:Type}{l:List α}{f:α→Bool}:anyO (l.map fun x=>some (f x))=some (l.any f):=by
 unfold anyO
 rw[Yj]
 have:allO (l.map ((fun o:Option Bool=>o.map not)∘fun x=>some (f x)))=some (l.all fun x=> !f x):=K32.allO_map (f:=fun x=> !f x)
 rw[this]
 simp[List.all_eq_not_any_not]
theorem b2Q'{S:Store}(x:Int)(s:Ti):cmpD .In (.int x) (tieD s) S=.ok (.bl (!(decide (x≠s.1)&&decide (x≠s.2)))) S:=by
 show boolR (anyO ([s.1,s.2].map fun y=>some (y==x))) S=_
 rw[b0M']
 show Res.ok (D.bl _) S=_
 congr 2
 rw[Bool.eq_iff_iff]
 simp only[List.any_cons,List.any_nil,Bool.or_false,Bool.or_eq_true,beq_iff_eq,Bool.not_eq_true',Bool.and_eq_false_iff,decide_eq_false_iff_not,Decidable.not_not]
 constructor
 ·rintro(h|h)
  ·exact .inl h.symm
  ·exact .inr h.symm
 ·rintro(h|h)
  ·exact .inl h.symm
  ·exact .inr h.symm
def frE:CE:=.bor (.cmp .In (.idx (.var 1) (.lit (.int 0))) (.var 0)) (.cmp .In (.idx (.var 1) (.lit (.int 1))) (.var 0))
def frC:CE:=.comp false ["_law_one","_law_tie"] [none,some 0] (.var 0) (.seq (.var 1)) [] (.emit frE)
def hitB(t s:Ti):Bool:= !(decide (t.1≠s.1)&&decide (t.1≠s.2))|| !(decide (t.2≠s.1)&&decide (t.2≠s.2))
end K32
end
section
namespace K32
open PySem PySem.Spec PyProof.Rows L2 Py
section
variable {S:Store}{A B C:List D}{P:List (List Ti)}
end
end K32
end
section
namespace K32
open PySem PySem.Spec PyProof.Rows L2 Py
abbrev tS(n:Nat):FT:=tbl [("_law_same",a0g' n)]
theorem uS(n:Nat):tS n "_law_same"=some (a0g' n):=rfl
theorem b4s'{S:Store}(hS:Flat S)(n:Nat)(i:Int):a0g' (n+1) [.int i,.int i] S=.ok (.bl true) S:=by
 refine a0z' rfl ?_ rfl hS rfl
 show denSs (tS n) G0 a0P' [some (.int i),some (.int i)] S=_
 have h1:a0N' [.int i,.ty "tuple"] S=.ok (.bl false) S:=rfl
 have h2:a0N' [.int i,.ty "list"] S=.ok (.bl false) S:=rfl
 have h3:a0N' [.int i,.ty "bool"] S=.ok (.bl false) S:=rfl
 have h4:a0N' [.int i,.ty "int"] S=.ok (.bl true) S:=rfl
 have h5:cmpD .Is (.int i) .non S=.ok (.bl false) S:=rfl
 have h6:cmpD .Eq (.int i) (.int i) S=.ok (.bl true) S:=by
  have:cmpD .Eq (.int i) (.int i) S=.ok (.bl (i==i)) S:=rfl
  rw[this];simp
 have h7:cmpD .Eq (.bl false) (.bl false) S=.ok (.bl true) S:=rfl
 simp[a0P',denSs,denS,denT,den,denL,Res.bind,Res.noErr,onBl,bltD,truD,h1,h2,h3,h4,h5,h6,h7]
def smC:CE:=.comp false ["_law_one","_law_other"] [none,none] (.tup [.var 0,.var 1]) (.zip [.var 0,.var 1]) [] (.emit (.call "_law_same" [.var 0,.var 1]))
theorem b0N'{S:Store}(hS:Flat S){n:Nat}{xs:List D}(hl:xs.length≤1000)(hx:∀z∈xs,a0g' n [z,z] S=.ok (.bl true) S):a0g' (n+1) [.tup xs,.tup xs] S=.ok (.bl true) S:=by
 refine a0z' rfl ?_ rfl hS rfl
 show denSs (tS n) G0 a0P' [some (.tup xs),some (.tup xs)] S=_
 have h1:a0N' [.tup xs,.ty "tuple"] S=.ok (.bl true) S:=rfl
 have h2:a0N' [.tup xs,.ty "list"] S=.ok (.bl false) S:=rfl
 have h3:cmpD .NotEq (.bl true) (.bl true) S=.ok (.bl false) S:=rfl
 have h4:cmpD .NotEq (.bl false) (.bl false) S=.ok (.bl false) S:=rfl
 have h5:lenD [.tup xs] S=.ok (.int (xs.length:Nat)) S:=rfl
 have h6:cmpD .Eq (.int (xs.length:Nat)) (.int (xs.length:Nat)) S=.ok (.bl true) S:=by
  have:cmpD .Eq (.int (xs.length:Nat)) (.int (xs.length:Nat)) S=.ok (.bl (((xs.length:Nat):Int)==((xs.length:Nat):Int))) S:=rfl
  rw[this];simp
 have hz:List.zipWith (fun x y=>D.tup [x,y]) xs xs=xs.map fun z=>D.tup [z,z]:=by
  induction xs with
  |nil=>rfl
  |cons a l ih=>
   rw[List.zipWith_cons_cons,ZH]
   congr 1
   refine ih (by simp at hl;omega) (fun z hz=>hx z (Zb _ hz)) rfl rfl rfl ?_
   have:cmpD .Eq (.int (l.length:Nat)) (.int (l.length:Nat)) S=.ok (.bl (((l.length:Nat):Int)==((l.length:Nat):Int))) S:=rfl
   rw[this];simp
 have hc:den (tS n) G0 smC [some (.tup xs),some (.tup xs)] S=.ok (.lst (xs.map fun _=>.bl true)) S:=by
  refine a2y' (its:=.items (xs.map fun z=>D.tup [z,z])) (S1:=S) (by simp[denI,den,denL,Res.bind,zipOf,a5e',hz]) ?_
  have:=a1S' (f:=fun z=>D.tup [z,z]) (p:=fun _=>true) (e:=fun _=>D.bl true) (xs:=xs) (S:=S) (step:=fun x acc S2=>match a0p' (.tup [.var 0,.var 1]) x [none,none]with
    |some ρ'=>(denTs (tS n) G0 [] ρ' S2).bind fun k S3=>if k=true then denB (tS n) G0 (.emit (.call "_law_same" [.var 0,.var 1])) ρ' acc S3 else .ok acc S3
    |none=>.fail) (fun z hz acc ha=>by
     have ha':acc.length<16777216:=ha
     have ha1:a0p' (.tup [.var 0,.var 1]) (.tup [z,z]) [none,none]=some [some z,some z]:=rfl
     rw[ha1]
     simp only[denTs,denB,den,denL,Res.bind,Ze,Zd,uS,hx z hz,if_true]
     simp[ha']) (show xs.length≤16777216 by omega)
  refine Eq.trans this ?_
  rw[List.filter_eq_self.mpr (fun _ _=>rfl)]
 have ha:allD [.lst (xs.map fun _=>.bl true)] S=.ok (.bl true) S:=by
  show boolR (allO ((xs.map fun _=>D.bl true).map asB)) S=_
  rw[Yj]
  have:allO (xs.map (asB∘fun _=>D.bl true))=some true:=K32.a5X' fun x _=>rfl
  rw[this];rfl
 have e:a0P'=[.ite (.bor (.blt .isinst [.var 1,.ty "tuple"]) (.blt .isinst [.var 1,.ty "list"])) [.ite (.bor (.cmp .NotEq (.blt .isinst [.var 0,.ty "tuple"]) (.blt .isinst [.var 1,.ty "tuple"])) (.cmp .NotEq (.blt .isinst [.var 0,.ty "list"]) (.blt .isinst [.var 1,.ty "list"]))) [.ret (.lit (.bl false))] [],.ret (.band (.cmp .Eq (.blt .len [.var 0]) (.blt .len [.var 1])) (.blt .all [smC]))] [],.ite (.cmp .Is (.var 1) (.lit (.non))) [.ret (.cmp .Is (.var 0) (.lit (.non)))] [],.ret (.band (.cmp .Eq (.blt .isinst [.var 0,.ty "bool"]) (.blt .isinst [.var 1,.ty "bool"])) (.band (.blt .isinst [.var 0,.ty "int"]) (.cmp .Eq (.var 0) (.var 1))))]:=rfl
 rw[e]
 refine a2d' ?_
 rw[a7a' (k:=true) (S1:=S) (by simp[denT,den,denL,Res.bind,Res.noErr,bltD,h1,truD]),if_pos rfl]
 rw[a0o' (ρ':=[some (.tup xs),some (.tup xs)]) (S':=S) (by
  rw[a7a' (k:=false) (S1:=S) (by simp[denT,den,denL,Res.bind,Res.noErr,onBl,bltD,h1,h2,h3,h4]),if_neg (by decide)]
  rfl)]
 refine a2d' ?_
 rw[denS,den,den]
 simp only[den,denL,Res.bind,Res.noErr,bltD,Ze,Zd,h5,h6,onBl,if_true,hc,ha]
end K32
end
section
namespace K32
open PySem PySem.Spec PyProof.Rows L2 Py
section
variable {S:Store}{m:Int}{ts:List Ti}{P:List (List Ti)}{x2 x3 x4 x5:Option D}
end
end K32
end
section
namespace K32
open PySem PySem.Spec PyProof.Rows L2 Py
section
variable {S:Store}
theorem o_add(x y:Int):opD .Add (.int x) (.int y) S=.ok (.int (x+y)) S:=rfl
theorem o_sub(x y:Int):opD .Sub (.int x) (.int y) S=.ok (.int (x-y)) S:=rfl
theorem o_mul{x y:Int}(h:(-(2^64)<x∧x<2^64)∨(-(2^64)<y∧y<2^64)):opD .Mult (.int x) (.int y) S=.ok (.int (x*y)) S:=by
 show(if(-(2^64)<x∧x<2^64)∨(-(2^64)<y∧y<2^64)then Res.ok (D.int (x*y)) S else _)=_
 rw[if_pos h]
theorem o_mod{x y:Int}(h:0<y):opD .Mod (.int x) (.int y) S=.ok (.int (x%y)) S:=by
 show(if 0<y then Res.ok (D.int (x%y)) S else .fail)=_
 rw[if_pos h]
theorem o_div{x y:Int}(h:0<y∧y<1073741824):opD .FloorDiv (.int x) (.int y) S=.ok (.int (x/y)) S:=by
 show(if 0<y∧y<1073741824 then Res.ok (D.int (x/y)) S else .fail)=_
 rw[if_pos h]
theorem o_shr{x y:Int}(h:0≤y):opD .RShift (.int x) (.int y) S=.ok (.int (x/2^y.toNat)) S:=by
 show(if 0≤y then Res.ok (D.int (x/2^y.toNat)) S else .fail)=_
 rw[if_pos h]
theorem o_and(x y:Int):opD .BitAnd (.int x) (.int y) S=.ok (.int (Builtin.bitAnd x y)) S:=rfl
theorem q_eq(x y:Int):cmpD .Eq (.int x) (.int y) S=.ok (.bl (x==y)) S:=rfl
theorem q_lt(x y:Int):cmpD .Lt (.int x) (.int y) S=.ok (.bl (decide (x<y))) S:=rfl
end
def stir1(c k:Int):Int:=(c%2147483647+977*k+1)*48271
def stir2(X:Int):Int:=X%2147483647*(X%2147483647)%2147483629
def stirV(c k:Int):Int:=(stir2 (stir1 c k)+40692*(k+3))*69621%2147483647/8
theorem b0O'{S:Store}(hS:Flat S)(c k:Int):a0F' [.int c,.int k] S=.ok (.int (stirV c k)) S:=by
 have m1:∀x:Int,opD .Mult (.int x) (.int 48271) S=.ok (.int (x*48271)) S:=fun x=>o_mul (.inr (by decide))
 have m2:∀x:Int,opD .Mult (.int 977) (.int x) S=.ok (.int (977*x)) S:=fun x=>o_mul (.inl (by decide))
 have m3:∀x:Int,opD .Mult (.int 40692) (.int x) S=.ok (.int (40692*x)) S:=fun x=>o_mul (.inl (by decide))
 have m4:∀x:Int,opD .Mult (.int x) (.int 69621) S=.ok (.int (x*69621)) S:=fun x=>o_mul (.inr (by decide))
 have d1:∀x:Int,opD .Mod (.int x) (.int 2147483647) S=.ok (.int (x%2147483647)) S:=fun x=>o_mod (by decide)
 have d2:∀x:Int,opD .Mod (.int x) (.int 2147483629) S=.ok (.int (x%2147483629)) S:=fun x=>o_mod (by decide)
 have d3:∀x:Int,opD .FloorDiv (.int x) (.int 8) S=.ok (.int (x/8)) S:=fun x=>o_div (by decide)
 refine a0z' rfl ?_ rfl hS rfl
 show denSs a6L' G0 a4N' [some (.int c),some (.int k),none] S=_
 have m5:∀x:Int,opD .Mult (.int (x%2147483647)) (.int (x%2147483647)) S=.ok (.int (x%2147483647*(x%2147483647))) S:=fun x=>o_mul (.inl (by omega))
 unfold a4N'
 rw[a0C' (S':=S) (d:=.int (stir1 c k%2147483647)) (by unfold stir1;simp only[den,Res.bind,Res.noErr,Ze,Zd,d1,m2,o_add,m1])]
 simp only[Ya,Z9]
 unfold stirV
 generalize stir1 c k=X
 rw[a0C' (S':=S) (d:=.int (stir2 X)) (by unfold stir2;simp only[den,Res.bind,Res.noErr,Ze,Zd,m5,d2])]
 simp only[Ya,Z9]
 generalize stir2 X=Y
 rw[a0C' (S':=S) (d:=.int ((Y+40692*(k+3))*69621%2147483647)) (by simp only[den,Res.bind,Res.noErr,Ze,Zd,o_add,m3,m4,d1])]
 simp only[Ya,Z9]
 refine a2d' ?_
 simp only[denS,den,Res.bind,Res.noErr,Ze,Zd,d3]
end K32
end
section
namespace K32
open PySem PySem.Spec PyProof.Rows L2 Py
theorem b4t':a3p'=[.asg 2 (.bin .Add (.lit (.int 1)) (.bin .Mod (.var 0) (.var 1))),.asg 3 (.bin .FloorDiv (.var 0) (.var 1)),.asg 4 (.bin .Mod (.var 3) (.lit (.int 6))),.asg 5 (.lst true []),.for_ (.var 6) (.range [.lit (.int 1),.var 2]) wA,.ret (.tup [.var 2,.blt .tuple [.blt (.sorted false (.seq .int)) [.var 5]]])]:=rfl
section
variable {T:Store}{c t m l w a b:Int}{n:Nat}{x8 x9:Option D}
abbrev rW(c t m l w:Int)(n:Nat)(x6 x7 x8 x9:Option D):Rho:=[some (.int c),some (.int t),some (.int m),some (.int l),some (.int w),some (.ref n),x6,x7,x8,x9]
theorem w_s1(ha:0≤a)(hb:1≤b)(hb8:b≤8):∃ch:Int,den a0j' G0 wS1 (rW c t m l w n (some (.int b)) (some (.int a)) x8 x9) T=.ok (.int ch) T:=by
 have h1:=o_div (S:=T) (x:=l) (y:=6) (by decide)
 have h2:=o_mul (S:=T) (x:=b) (y:=b-1) (.inl (by omega))
 have h3:=o_div (S:=T) (x:=b*(b-1)) (y:=2) (by decide)
 have h0:0≤b*(b-1)/2+a:=by
  have:0≤b*(b-1):=Int.mul_nonneg (by omega) (by omega)
  have:0≤b*(b-1)/2:=Int.ediv_nonneg this (by decide)
  omega
 have h4:=o_shr (S:=T) (x:=l/6) h0
 exact⟨Builtin.bitAnd (l/6/2^(b*(b-1)/2+a).toNat) 1,by simp only[wS1,den,Res.bind,Res.noErr,Ze,Zd,h1,o_sub,h2,h3,o_add,h4,o_and]⟩
theorem w_st(hT:Flat T):∃r:Int,den a0j' G0 wSt (rW c t m l w n (some (.int b)) (some (.int a)) x8 x9) T=.ok (.int r) T:=by
 have h2:=o_mul (S:=T) (x:=8) (y:=a) (.inl (by decide))
 have h3:=b0O' hT c (8*a+b)
 exact⟨stirV c (8*a+b),by simp only[wSt,den,denL,Res.bind,Res.noErr,Ze,Zd,h2,o_add,a3q',h3]⟩
theorem w_when{k:Int}{e:CE}{v8:D}(he:∃ch:Int,den a0j' G0 e (rW c t m l w n (some (.int b)) (some (.int a)) (some v8) x9) T=.ok (.int ch) T)(h8:∃i:Int,v8=.int i):
  ∃ch:Int,denS a0j' G0 (wW k [.asg 8 e]) (rW c t m l w n (some (.int b)) (some (.int a)) (some v8) x9) T=.ok (.next (rW c t m l w n (some (.int b)) (some (.int a)) (some (.int ch)) x9)) T:=by
 obtain⟨i,rfl⟩:=h8
 obtain⟨ch,he⟩:=he
 have ht:denT a0j' G0 (.cmp .Eq (.var 4) (.lit (.int k))) (rW c t m l w n (some (.int b)) (some (.int a)) (some (.int i)) x9) T=.ok (w==k) T:=by
  simp only[denT,den,Res.bind,Ze,Zd,q_eq,Res.noErr,onBl]
 unfold wW
 rw[a7a' ht]
 cases w==k
 ·exact⟨i,rfl⟩
 ·refine⟨ch,?_⟩
  rw[if_pos rfl,a0C' he]
  rfl
theorem w_s4:∃q:List Bool,q.length=5∧den a0j' G0 wS4 (rW c t m l w n (some (.int b)) (some (.int a)) x8 x9) T=.ok (.lst (q.map D.bl)) T:=by
 have h3:=o_mod (S:=T) (x:=a) (y:=3) (by decide)
 have e1:den a0j' G0 wE1 (rW c t m l w n (some (.int b)) (some (.int a)) x8 x9) T=.ok (.bl (b==a+1)) T:=by
  simp only[wE1,den,Res.bind,Res.noErr,Ze,Zd,o_add,q_eq]
 have e2:den a0j' G0 wE2 (rW c t m l w n (some (.int b)) (some (.int a)) x8 x9) T=.ok (.bl ((b==a+1)||(b-a==m-1))) T:=by
  simp only[wE2,den,Res.bind,Res.noErr,Ze,Zd,o_add,o_sub,q_eq,onBl]
  cases b==a+1<;>rfl
 have e5:den a0j' G0 wE5 (rW c t m l w n (some (.int b)) (some (.int a)) x8 x9) T=.ok (.bl ((b==a+1)&&decide (a%3<2))) T:=by
  simp only[wE5,den,Res.bind,Res.noErr,Ze,Zd,o_add,h3,q_eq,q_lt,onBl]
  cases b==a+1<;>rfl
 refine⟨[b==a+1,(b==a+1)||(b-a==m-1),a==0,true,(b==a+1)&&decide (a%3<2)],rfl,?_⟩
 simp only[wS4,den,denL,Res.bind,Res.noErr,Ze,Zd,e1,e2,e5,q_eq]
 rfl
theorem w_s5{q:List Bool}(hq:q.length=5):∃ch:Int,den a0j' G0 wS5 (rW c t m l w n (some (.int b)) (some (.int a)) x8 (some (.lst (q.map D.bl)))) T=.ok (.int ch) T:=by
 have h1:=o_div (S:=T) (x:=l) (y:=6) (by decide)
 have h2:=o_mod (S:=T) (x:=l/6) (y:=5) (by decide)
 have h0:0≤l/6%5∧l/6%5<5:=by omega
 generalize l/6%5=i at h2 h0
 obtain⟨v,hv⟩:∃v,q[i.toNat]?=some v:=⟨_,Zg (by omega)⟩
 have h3:idxD (.lst (q.map D.bl)) (.int i) T=.ok (.bl v) T:=by
  have e:atI (q.map D.bl) i=some (.bl v):=by
   have hx:ixN (q.map D.bl).length i=some i.toNat:=by
    unfold ixN
    rw[Zk,hq]
    simp[h0.1,h0.2]
   unfold atI
   rw[hx]
   show(q.map D.bl)[i.toNat]?=_
   rw[ZJ,hv]
   rfl
  unfold idxD
  simp only[seqOf,e]
 have h4:intD [.bl v] T=.ok (.int (if v=true then 1 else 0)) T:=rfl
 exact⟨if v=true then 1 else 0,by simp only[wS5,den,denL,Res.bind,Res.noErr,Ze,Zd,h1,h2,h3,bltD,h4]⟩
theorem w_five{v8:D}(h8:∃i:Int,v8=.int i):∃(ch:Int) (y9:Option D),denS a0j' G0 (wW 5 [.asg 9 wS4,.asg 8 wS5]) (rW c t m l w n (some (.int b)) (some (.int a)) (some v8) x9) T=.ok (.next (rW c t m l w n (some (.int b)) (some (.int a)) (some (.int ch)) y9)) T:=by
 obtain⟨i,rfl⟩:=h8
 obtain⟨q,hq,e4⟩:=w_s4 (T:=T) (c:=c) (t:=t) (m:=m) (l:=l) (w:=w) (n:=n) (a:=a) (b:=b) (x8:=some (.int i)) (x9:=x9)
 obtain⟨ch,e5⟩:=w_s5 (T:=T) (c:=c) (t:=t) (m:=m) (l:=l) (w:=w) (n:=n) (a:=a) (b:=b) (x8:=some (.int i)) hq
 have ht:denT a0j' G0 (.cmp .Eq (.var 4) (.lit (.int 5))) (rW c t m l w n (some (.int b)) (some (.int a)) (some (.int i)) x9) T=.ok (w==5) T:=by
  simp only[denT,den,Res.bind,Ze,Zd,q_eq,Res.noErr,onBl]
 unfold wW
 rw[a7a' ht]
 cases w==5
 ·exact⟨i,x9,rfl⟩
 ·refine⟨ch,some (.lst (q.map D.bl)),?_⟩
  rw[if_pos rfl,a0C' e4]
  simp only[Ya,Z9]
  rw[a0C' e5]
  rfl
theorem w_turn{us:List Ti}(hT:Flat T)(hu:us.length<1000)(ha:0≤a)(hb:1≤b)(hb8:b≤8):∃(k:Bool) (y8 y9:Option D),
  denSs a0j' G0 wB (rW c t m l w T.length (some (.int b)) (some (.int a)) x8 x9) (T++[tiesD us])=.ok (.next (rW c t m l w T.length (some (.int b)) (some (.int a)) y8 y9)) (T++[tiesD (if k=true then us++[(a,b)]else us)]):=by
 have hT1:Flat (T++[tiesD us]):=hT.snoc (K32.a2X' us)
 obtain⟨c1,e1⟩:=w_s1 (T:=T++[tiesD us]) (c:=c) (t:=t) (m:=m) (l:=l) (w:=w) (n:=T.length) (x8:=x8) (x9:=x9) ha hb hb8
 obtain⟨c2,e2⟩:=w_when (T:=T++[tiesD us]) (c:=c) (t:=t) (m:=m) (l:=l) (w:=w) (n:=T.length) (a:=a) (b:=b) (x9:=x9) (k:=3) (e:=wS2) (v8:=.int c1) (by
  obtain⟨r,hr⟩:=w_st (T:=T++[tiesD us]) (c:=c) (t:=t) (m:=m) (l:=l) (w:=w) (n:=T.length) (a:=a) (b:=b) (x8:=some (.int c1)) (x9:=x9) hT1
  have d1:=o_mod (S:=T++[tiesD us]) (x:=r) (y:=3) (by decide)
  have d2:=o_div (S:=T++[tiesD us]) (x:=r%3) (y:=2) (by decide)
  exact⟨r%3/2,by unfold wS2;rw[den,den,hr];simp only[den,Res.bind,Res.noErr,d1,d2]⟩) ⟨_,rfl⟩
 obtain⟨c3,e3⟩:=w_when (T:=T++[tiesD us]) (c:=c) (t:=t) (m:=m) (l:=l) (w:=w) (n:=T.length) (a:=a) (b:=b) (x9:=x9) (k:=4) (e:=wS3) (v8:=.int c2) (by
  obtain⟨r,hr⟩:=w_st (T:=T++[tiesD us]) (c:=c) (t:=t) (m:=m) (l:=l) (w:=w) (n:=T.length) (a:=a) (b:=b) (x8:=some (.int c2)) (x9:=x9) hT1
  have d1:=o_mod (S:=T++[tiesD us]) (x:=r) (y:=4) (by decide)
  have d2:=o_div (S:=T++[tiesD us]) (x:=r%4+2) (y:=3) (by decide)
  exact⟨(r%4+2)/3,by unfold wS3;rw[den,den,den,hr];simp only[den,Res.bind,Res.noErr,d1,o_add,d2]⟩) ⟨_,rfl⟩
 obtain⟨c4,y9,e4⟩:=w_five (T:=T++[tiesD us]) (c:=c) (t:=t) (m:=m) (l:=l) (w:=w) (n:=T.length) (a:=a) (b:=b) (x9:=x9) (v8:=.int c3) ⟨_,rfl⟩
 refine⟨c4==1,some (.int c4),y9,?_⟩
 unfold wB
 rw[a0C' e1]
 simp only[Ya,Z9]
 rw[a0o' e2,a0o' e3,a0o' e4]
 have ht:denT a0j' G0 (.cmp .Eq (.var 8) (.lit (.int 1))) (rW c t m l w T.length (some (.int b)) (some (.int a)) (some (.int c4)) y9) (T++[tiesD us])=.ok (c4==1) (T++[tiesD us]):=by
  simp only[denT,den,Res.bind,Ze,Zd,q_eq,Res.noErr,onBl]
 refine(a0o' (ρ':=rW c t m l w T.length (some (.int b)) (some (.int a)) (some (.int c4)) y9) ?_).trans rfl
 rw[a7a' ht]
 cases c4==1
 ·rfl
 ·rw[if_pos rfl,if_pos rfl]
  have hap:a3e' (.ref T.length) [.tup [.int a,.int b]] (T++[tiesD us])=.ok .non (T++[tiesD us++[.tup [.int a,.int b]]]):=a4X' (by unfold tiesD;rw[Zk];show _<16777216;omega)
  have e5:tiesD us++[.tup [.int a,.int b]]=tiesD (us++[(a,b)]):=by unfold tiesD;simp[tieD]
  rw[e5]at hap
  refine(a0o' (ρ':=rW c t m l w T.length (some (.int b)) (some (.int a)) (some (.int c4)) y9) (S':=T++[tiesD (us++[(a,b)])]) ?_).trans rfl
  simp only[denS,den,denL,Res.bind,Res.noErr,methD,Ze,Zd,hap]
theorem b2R'(hT:Flat T)(hb:1≤b)(hb8:b≤8):∀(as:List Int) (us:List Ti) (x7 x8 x9:Option D),(∀a∈as,0≤a)→us.length+as.length<1000→∃(vs:List Ti) (y7 y8 y9:Option D),vs.Sublist (as.map fun a=>(a,b))∧
  forD (fun x ρ S=>match asgCT (.var 7) x ρ with
   |some ρ'=>denSs a0j' G0 wB ρ' S
   |none=>.fail) (as.map D.int) (rW c t m l w T.length (some (.int b)) x7 x8 x9) (T++[tiesD us])=.ok (.next (rW c t m l w T.length (some (.int b)) y7 y8 y9)) (T++[tiesD (us++vs)])
 | [],us,x7,x8,x9,_,_=>⟨[],x7,x8,x9,.slnil,by rw[Z2];rfl⟩
 |a::as,us,x7,x8,x9,hp,hl=>by
  rw[Zy]at hl
  obtain⟨k,z8,z9,e⟩:=w_turn (c:=c) (t:=t) (m:=m) (l:=l) (w:=w) (x8:=x8) (x9:=x9) (us:=us) hT (by omega) (hp a Zc) hb hb8
  obtain⟨vs,y7,y8,y9,hs,ih⟩:=b2R' hT hb hb8 as (if k=true then us++[(a,b)]else us) (some (.int a)) z8 z9 (fun x hx=>hp x (Zb _ hx)) (by split<;>(try simp only[Zn,Zy,List.length_nil])<;>omega)
  refine⟨(if k=true then [(a,b)]else [])++vs,y7,y8,y9,?_,?_⟩
  ·rw[ZH]
   cases k
   ·exact hs.cons _
   ·exact hs.cons_cons _
  ·rw[ZH]
   unfold forD
   simp only[asgCT,Ya,Z9]
   rw[e]
   refine ih.trans ?_
   cases k<;>simp
def b0P'(bs:List Int):List Ti:=bs.flatMap fun b=>(a0G' 0 b.toNat).map fun a=>(a,b)
theorem b2S'(hT:Flat T):∀(bs:List Int) (us:List Ti) (x6 x7 x8 x9:Option D),(∀b∈bs,1≤b∧b≤8)→us.length+8*bs.length<1000→∃(vs:List Ti) (y6 y7 y8 y9:Option D),vs.Sublist (b0P' bs)∧
  forD (fun x ρ S=>match asgCT (.var 6) x ρ with
   |some ρ'=>denSs a0j' G0 wA ρ' S
   |none=>.fail) (bs.map D.int) (rW c t m l w T.length x6 x7 x8 x9) (T++[tiesD us])=.ok (.next (rW c t m l w T.length y6 y7 y8 y9)) (T++[tiesD (us++vs)])
 | [],us,x6,x7,x8,x9,_,_=>⟨[],x6,x7,x8,x9,.slnil,by rw[Z2];rfl⟩
 |b::bs,us,x6,x7,x8,x9,hp,hl=>by
  rw[Zy]at hl
  obtain⟨hb,hb8⟩:=hp b Zc
  have hlen:(a0G' 0 b.toNat).length=b.toNat:=K32.a0k'
  obtain⟨vs,z7,z8,z9,hs,e⟩:=b2R' (c:=c) (t:=t) (m:=m) (l:=l) (w:=w) hT hb hb8 (a0G' 0 b.toNat) us x7 x8 x9 (fun a ha=>(K32.a1H' ha).1) (by rw[hlen];omega)
  have hvl:vs.length≤8:=by
   have:=hs.length_le
   rw[Zk,hlen]at this
   omega
  obtain⟨ws,y6,y7,y8,y9,hs2,ih⟩:=b2S' hT bs (us++vs) (some (.int b)) z7 z8 z9 (fun x hx=>hp x (Zb _ hx)) (by rw[Zn];omega)
  refine⟨vs++ws,y6,y7,y8,y9,?_,?_⟩
  ·unfold b0P'
   rw[ZG]
   exact hs.append hs2
  ·rw[ZH]
   unfold forD
   simp only[asgCT,Ya,Z9]
   have e':denSs a0j' G0 wA (rW c t m l w T.length (some (.int b)) x7 x8 x9) (T++[tiesD us])=.ok (.next (rW c t m l w T.length (some (.int b)) z7 z8 z9)) (T++[tiesD (us++vs)]):=by
    unfold wA
    refine(a0o' (ρ':=rW c t m l w T.length (some (.int b)) z7 z8 z9) (S':=T++[tiesD (us++vs)]) ?_).trans rfl
    have hrr:(-4611686018427387904:Int)≤b∧b<4611686018427387904:=by omega
    rw[a4k' (its:=.items ((a0G' 0 b.toNat).map D.int)) (S1:=T++[tiesD us]) (by simp[denI,denL,den,Res.bind,Res.noErr,hrr,K32.a3v'])]
    exact e
   rw[e',←Zm]
   exact ih
end
theorem b4u'{m:Int}(h1:1≤m)(h2:m≤8):(b0P' (a0G' 1 (m-1).toNat)).Nodup∧(∀t∈b0P' (a0G' 1 (m-1).toNat),0≤t.1∧t.1<t.2∧t.2<m)∧(b0P' (a0G' 1 (m-1).toNat)).length≤28:=by
 rcases K32.eight h1 h2 with rfl|rfl|rfl|rfl|rfl|rfl|rfl|rfl<;>exact⟨by decide+kernel,by decide+kernel,by decide+kernel⟩
theorem web_eq{S:Store}(hS:Flat S)(c:Int):∃m ts,Web m ts∧a2F' [.int c,.int 8] S=.ok (webD m ts) S:=by
 have hm:1≤1+c%8∧1+c%8≤8:=by omega
 obtain⟨p1,p2,p3⟩:=b4u' hm.1 hm.2
 obtain⟨vs,y6,y7,y8,y9,hs,hf⟩:=b2S' (T:=S) (c:=c) (t:=8) (m:=1+c%8) (l:=c/8) (w:=c/8%6) hS (a0G' 1 (1+c%8-1).toNat) [] none none none none (fun b hb=>by have:=K32.a1H' hb;omega) (by rw[K32.a0k'];simp;omega)
 rw[Z1]at hf
 have hl:vs.length≤28:=ZB hs.length_le p3
 have W:=b4r' hm.1 hm.2 (hs.nodup p1) (fun t ht=>p2 t (hs.subset ht)) hl
 refine⟨1+c%8,sortI vs,W,?_⟩
 have d1:=o_mod (S:=S) (x:=c) (y:=8) (by decide)
 have d2:=o_div (S:=S) (x:=c) (y:=8) (by decide)
 have d3:=o_mod (S:=S) (x:=c/8) (y:=6) (by decide)
 have hso:=a2Z' (S:=S++[tiesD vs]) (d:=.ref S.length) (l:=vs) boxE (by omega)
 have htu:a8M' [.lst (tiesD (sortI vs))] (S++[tiesD vs])=.ok (.tup (tiesD (sortI vs))) (S++[tiesD vs]):=rfl
 have hd:denSs a0j' G0 a3p' [some (.int c),some (.int 8),none,none,none,none,none,none,none,none] S=.ok (.ret (webD (1+c%8) (sortI vs))) (S++[tiesD vs]):=by
  have hrr:(-4611686018427387904:Int)≤1+c%8∧1+c%8<4611686018427387904:=by omega
  rw[b4t']
  rw[a0C' (d:=.int (1+c%8)) (S':=S) (by simp only[den,Res.bind,Res.noErr,Ze,Zd,d1,o_add])]
  simp only[Ya,Z9]
  rw[a0C' (d:=.int (c/8)) (S':=S) (by simp only[den,Res.bind,Res.noErr,Ze,Zd,d2])]
  simp only[Ya,Z9]
  rw[a0C' (d:=.int (c/8%6)) (S':=S) (by simp only[den,Res.bind,Res.noErr,Ze,Zd,d3])]
  simp only[Ya,Z9]
  rw[a0C' (d:=.ref S.length) (S':=S++[tiesD []]) (by simp[den,denL,Res.bind,tiesD])]
  simp only[Ya,Z9]
  rw[a0o' (ρ':=rW c 8 (1+c%8) (c/8) (c/8%6) S.length y6 y7 y8 y9) (S':=S++[tiesD vs]) (by
   rw[a4k' (its:=.items ((a0G' 1 (1+c%8-1).toNat).map D.int)) (S1:=S++[tiesD []]) (by simp[denI,denL,den,Res.bind,Res.noErr,hrr,K32.a3v'])]
   exact hf)]
  refine a2d' ?_
  simp only[denS,den,denL,Res.bind,Res.noErr,Ze,Zd,bltD,hso,htu]
  rfl
 show runD a0j' G0 a3p' a5T'.length 2 [.int c,.int 8] S=_
 have hd':denSs a0j' G0 a3p' (([.int c,.int 8]:List D).map some++List.replicate (a5T'.length-2) none) S=_:=hd
 unfold runD
 rw[if_pos (show [D.int c,D.int 8].length=2 from rfl),hd']
 show trim S.length (webD (1+c%8) (sortI vs)) (S++[tiesD vs])=_
 rw[K32.a1R' (by rw[List.take_left' rfl];exact hS) (K32.low_web _ _),List.take_left' rfl]
end K32
end
section
namespace K32
open PySem PySem.Spec PyProof.Rows L2 Py
end K32
end
section
namespace K32
open PySem PySem.Spec PyProof.Rows L2 Py
section
variable {S:Store}
end
end K32
end
section
namespace K32
open PySem PySem.Spec PyProof.Rows L2 Py
section
variable {S:Store}{m:Int}{ts:List Ti}
end
end K32
end
section
namespace K32
open PySem PySem.Spec PyProof.Rows L2 Py
theorem cell_eq{S:Store}(hS:Flat S)(ns:List Int):∃c:Int,a0L' [.scr (ns.map D.int),.int 0] S=.ok (.int c) S:=by
 cases ns with
 |nil=>exact⟨0,a0z' rfl rfl rfl hS rfl⟩
 |cons n ns=>
  refine⟨n,a0z' rfl ?_ rfl hS rfl⟩
  have h1:lenD [.scr ((n::ns).map D.int)] S=.ok (.int ((n::ns).map D.int).length) S:=rfl
  have h2:cmpD .Lt (.int 0) (.int ((n::ns).map D.int).length) S=.ok (.bl true) S:=by
   have:cmpD .Lt (.int 0) (.int ((n::ns).map D.int).length) S=.ok (.bl (decide ((0:Int)<((n::ns).map D.int).length))) S:=rfl
   rw[this,ZK (by simp)]
  have h3:idxD (.scr ((n::ns).map D.int)) (.int 0) S=.ok (.int n) S:=by
   unfold idxD
   have:atI ((n::ns).map D.int) 0=some (.int n):=by
    unfold atI ixN
    simp
    try omega
   simp only[seqOf,this]
  generalize(n::ns).map D.int=xs at h1 h2 h3
  simp[a4d',a4c',denSs,denS,denT,den,denL,Res.bind,Res.noErr,onBl,bltD,h1,h2,h3]
end K32
end
section
namespace K32
open PySem PySem.Spec PyProof.Rows L2 Py
def ntD(ns:List Int):D:=.tup (ns.map D.int)
theorem b4v'(ns:List Int):lowD 0 (ntD ns)=true:=K32.a5Y' ns
section
variable {S:Store}{m:Int}{ts:List (Int×Int)}
theorem compAt{α:Type}{Φ:FT}{e:CE}{N:List Str}{fr:List (Option Nat)}{tg:CT}{ρ:Rho}{rs:α→Rho}{r0:Rho}{it:CE}{ds:List α}{h:α→D}{f:α→D}(hi:denI Φ G0 it ρ S=.ok (.items (ds.map h)) S)(hr:fr.map (fun j=>j.bind fun j=>(ρ[j]?).join)=r0)
  (ha:∀d∈ds,a0p' tg (h d) r0=some (rs d)) (hl:ds.length≤100000) (he:∀d∈ds,den Φ G0 e (rs d) S=.ok (f d) S):den Φ G0 (.comp false N fr tg it [] (.emit e)) ρ S=.ok (.lst (ds.map f)) S:=by
 refine a2y' hi ?_
 rw[hr]
 have:=a1S' (f:=h) (p:=fun _=>true) (e:=f) (xs:=ds) (S:=S) (step:=fun y acc S2=>match a0p' tg y r0 with
    |some ρ'=>(denTs Φ G0 [] ρ' S2).bind fun k S3=>if k=true then denB Φ G0 (.emit e) ρ' acc S3 else .ok acc S3
    |none=>.fail) (fun d hd acc hac=>by
     have ha':acc.length<16777216:=hac
     show(match a0p' tg (h d) r0 with
      |some ρ'=>(denTs Φ G0 [] ρ' S).bind fun k S3=>if k=true then denB Φ G0 (.emit e) ρ' acc S3 else .ok acc S3
      |none=>.fail)=_
     rw[ha d hd]
     simp[denTs,denB,Res.bind,he d hd,ha']) (show ds.length≤16777216 by omega)
 rw[List.filter_eq_self.mpr (fun _ _=>rfl)]at this
 exact this
theorem b2i'{Φ:FT}{b:Blt}{e:CE}{ρ:Rho}{d r:D}(h:den Φ G0 e ρ S=.ok d S)(hb:bltD b [d] S=.ok r S):den Φ G0 (.blt b [e]) ρ S=.ok r S:=by
 simp only[den,denL,h,Res.bind,hb,Res.noErr]
theorem a7I'{Φ:FT}{ρ:Rho}{e:CE}{d:D}{ds:List D}(he:den Φ G0 e ρ S=.ok d S)(hi:a1h' S d=some (.items ds)):denI Φ G0 (.seq e) ρ S=.ok (.items ds) S:=by
 rw[denI,he]
 simp only[Res.bind,hi]
theorem a0h'{Φ:FT}{ρ:Rho}{i:Nat}{d:D}(h:ρ[i]?=some (some d)):den Φ G0 (.var i) ρ S=.ok d S:=by simp only[den,h]
theorem a1d'{Φ:FT}{ρ:Rho}{d:D}:den Φ G0 (.lit d) ρ S=.ok d S:=by simp only[den]
theorem a2O'{Φ:FT}{ρ:Rho}{a b:CE}{d x e:D}{S1 S2:Store}(h1:den Φ G0 a ρ S=.ok d S1)(h2:den Φ G0 b ρ S1=.ok e S2)(h3:idxD d e S2=.ok x S2):den Φ G0 (.idx a b) ρ S=.ok x S2:=by
 simp only[den,h1,h2,Res.bind,h3,Res.noErr]
theorem a2P'{Φ:FT}{ρ:Rho}{o:Operator}{a b:CE}{d x e:D}{S1 S2:Store}(h1:den Φ G0 a ρ S=.ok d S1)(h2:den Φ G0 b ρ S1=.ok e S2)(h3:opD o d e S2=.ok x S2):den Φ G0 (.bin o a b) ρ S=.ok x S2:=by
 simp only[den,h1,h2,Res.bind,h3,Res.noErr]
theorem b0Q'{p q:List D}(h:p.length+q.length≤1000):opD .Add (.tup p) (.tup q) S=.ok (.tup (p++q)) S:=by
 have e1:opD .Add (.tup p) (.tup q) S=if p.length+q.length≤big then .ok (.tup (p++q)) S else .fail:=by simp only[opD,addD]
 rw[e1,if_pos (by show _≤16777216;omega)]
theorem add_lst{p q:List D}(h:p.length+q.length≤100000):opD .Add (.lst p) (.lst q) S=.ok (.lst (p++q)) S:=by
 have e1:opD .Add (.lst p) (.lst q) S=if p.length+q.length≤big then .ok (.lst (p++q)) S else .fail:=by simp only[opD,addD,Py.a2H']
 rw[e1,if_pos (by show _≤16777216;omega)]
theorem T_not{Φ:FT}{e:CE}{ρ:Rho}{k:Bool}(h:denT Φ G0 e ρ S=.ok k S):denT Φ G0 (.bnot e) ρ S=.ok (!k) S:=by
 simp only[denT,h,Res.bind]
end
end K32
end
section
namespace K32
open PySem PySem.Spec PyProof.Rows L2 Py
def gI(ns:List Int)(i:Nat):Int:=ns.getD i 0
def toT(a b:Int):Int×Int:=(min a b,max a b)
section
variable {S:Store}{m:Int}{ts:List (Int×Int)}
theorem b4w'{ns:List Int}{i:Nat}(h:i<ns.length):(ns.map D.int)[i]?=some (.int (gI ns i)):=by
 rw[ZJ,Zg h]
 simp[gI,List.getD,h]
theorem b4x'{Φ:FT}{c:CE}{ρ:Rho}{cs:List CS}(h:denT Φ G0 c ρ S=.ok false S):denSs Φ G0 (.ite c [.ret (.lit (.bl false))] []::cs) ρ S=denSs Φ G0 cs ρ S:=by
 refine a0o' ?_
 rw[a7a' h]
 simp only[Zv,Z5,denSs]
theorem T_or{Φ:FT}{a b:CE}{ρ:Rho}{x y:Bool}(h1:denT Φ G0 a ρ S=.ok x S)(h2:denT Φ G0 b ρ S=.ok y S):denT Φ G0 (.bor a b) ρ S=.ok (x||y) S:=by
 simp only[denT,h1,Res.bind]
 cases x
 ·simp[h2]
 ·simp
theorem T_cm{Φ:FT}{ρ:Rho}{o:CmpOp}{a b:CE}{d e:D}{k:Bool}(h1:den Φ G0 a ρ S=.ok d S)(h2:den Φ G0 b ρ S=.ok e S)(h3:cmpD o d e S=.ok (.bl k) S):denT Φ G0 (.cmp o a b) ρ S=.ok k S:=by
 simp only[denT,h1,h2,Res.bind,h3,Res.noErr,onBl]
end
end K32
end
section
namespace K32
open PySem PySem.Spec PyProof.Rows L2 Py
def InW(m:Int)(ns:List Int):Prop:=∀n∈ns,0≤n∧n<m
theorem inW_len{m:Int}{l:List Int}(h8:m≤8)(hn:l.Nodup)(hi:InW m l):l.length≤8:=by
 have h:l.length≤(a0G' 0 8).length:=hn.length_le_of_subset fun x hx=>by
  have:=hi x hx
  have hx8:x=0∨x=1∨x=2∨x=3∨x=4∨x=5∨x=6∨x=7:=by omega
  rcases hx8 with rfl|rfl|rfl|rfl|rfl|rfl|rfl|rfl<;>decide
 rw[K32.a0k']at h
 exact h
theorem a5C'(R:List (List Int)):lowL 0 (R.map ntD)=true:=a2z'.mpr fun x hx=>by
 obtain⟨p,_,rfl⟩:=ZI.mp hx
 exact b4v' p
section
variable {S:Store}{m:Int}{ts:List (Int×Int)}
theorem a7J'{d:D}{ns:List Int}(hd:seqOf S d=some (ns.map D.int))(h:1≤ns.length):idxD d (.int (-1)) S=.ok (.int (gI ns (ns.length-1))) S:=by
 have e:atI (ns.map D.int) (-1)=some (.int (gI ns (ns.length-1))):=by
  unfold atI ixN
  rw[Zk,if_neg (by omega),if_pos (by omega)]
  show(ns.map D.int)[((-1:Int)+(ns.length:Int)).toNat]?=_
  rw[show((-1:Int)+(ns.length:Int)).toNat=ns.length-1 by omega]
  exact b4w' (by omega)
 unfold idxD
 simp only[hd,e]
def Row(T:Store)(v:D)(R:List (List Int)):Prop:=v=.lst (R.map ntD)∨∃n,v=.ref n∧T[n]?=some (R.map ntD)
end
end K32
end
section
namespace K32
open PySem PySem.Spec PyProof.Rows L2 Py
section
variable {S:Store}{m:Int}{ts ps:List (Int×Int)}
def tieAt(ns:List Int)(i:Nat):Int×Int:=toT (gI ns i) (gI ns (i+1))
theorem b2j'{d:D}{ns:List Int}(hd:seqOf S d=some (ns.map D.int))(h:1≤ns.length):idxD d (.int 0) S=.ok (.int (gI ns 0)) S:=by
 have e:atI (ns.map D.int) 0=some (.int (gI ns 0)):=by
  unfold atI ixN
  rw[Zk,if_pos (by omega),if_pos (by omega)]
  exact b4w' (by omega)
 unfold idxD
 simp only[hd,e]
theorem b2k'(o:Option Int):cmpD .IsNot (optD o) .non S=.ok (.bl o.isSome) S:=by cases o<;>rfl
theorem a3w'{Φ:FT}{f:Str}{φ:List D→Store→Res D}{a b:CE}{ρ:Rho}{x y r:D}(hf:Φ f=some φ)(h1:den Φ G0 a ρ S=.ok x S)(h2:den Φ G0 b ρ S=.ok y S)(h:φ [x,y] S=.ok r S):den Φ G0 (.call f [a,b]) ρ S=.ok r S:=by
 simp only[den,denL,hf,h1,h2,Res.bind,h]
end
end K32
end
section
namespace K32
open PySem PySem.Spec PyProof.Rows L2 Py
section
variable {S:Store}{m:Int}{ts ps:List (Int×Int)}
end
end K32
end
section
namespace K32
open PySem PySem.Spec PyProof.Rows L2 Py
def lastI(p:List Int):Int:=gI p (p.length-1)
theorem b0R'{f:List Int→List (List Int)}{c:Nat}:∀{R:List (List Int)},(∀p∈R,(f p).length≤c)→(R.flatMap f).length≤R.length*c
 | [],_=>by simp
 |p::R,h=>by
  rw[ZG,Zn,Zy,Nat.succ_mul]
  have:=b0R' (R:=R) fun q hq=>h q (Zb _ hq)
  have:=h p Zc
  omega
section
variable {S T:Store}{m:Int}{ts ps:List (Int×Int)}
theorem b2T'{p q:List D}(h:p.length+q.length≤1000000):opD .Add (.lst p) (.lst q) S=.ok (.lst (p++q)) S:=by
 have e1:opD .Add (.lst p) (.lst q) S=if p.length+q.length≤big then .ok (.lst (p++q)) S else .fail:=by simp only[opD,addD,Py.a2H']
 rw[e1,if_pos (by show _≤16777216;omega)]
end
end K32
end
section
namespace K32
open PySem PySem.Spec PyProof.Rows L2 Py
abbrev Ti:=Int×Int
theorem a4Y'(a b:Int):toT a b=(a,b)∨toT a b=(b,a):=by
 unfold toT
 rcases Int.le_total a b with h|h
 ·left;rw[Int.min_eq_left h,Int.max_eq_right h]
 ·right;rw[Int.min_eq_right h,Int.max_eq_left h]
theorem a3T'(a b:Int):toT a b=toT b a:=by
 unfold toT
 rw[Int.min_comm,Int.max_comm]
theorem b2l'{a b:Int}(h:a<b):toT a b=(a,b):=by
 unfold toT
 rw[Int.min_eq_left (by omega),Int.max_eq_right (by omega)]
theorem b0S':∀{ps:List Ti},(∀t∈ps,t.1<t.2)→(a0J' ps).Nodup→∀{p q:Int},mateI ps p=some q↔(p≠q∧toT p q∈ps)
 | [],_,_,p,q=>by simp[mateI]
 |t::ps,hv,hn,p,q=>by
  have ht:=hv t Zc
  have hn':(t.1::t.2::a0J' ps).Nodup:=hn
  obtain⟨n1,n2⟩:=List.nodup_cons.mp hn'
  obtain⟨n3,n4⟩:=List.nodup_cons.mp n2
  have ih:=b0S' (fun u hu=>hv u (Zb _ hu)) n4 (p:=p) (q:=q)
  have hpl:∀{x y:Int},toT x y∈ps→x∈a0J' ps:=fun{x y} h=>by
   unfold a0J'
   rw[Yc]
   refine⟨_,h,?_⟩
   rcases a4Y' x y with e|e<;>rw[e]<;>simp
  unfold mateI
  by_cases h1:p=t.1
  ·rw[if_pos h1]
   constructor
   ·intro e
    cases e
    refine⟨by omega,?_⟩
    rw[h1,b2l' ht]
    exact Zc
   ·rintro⟨hne,h⟩
    rcases Zr.mp h with h|h
    ·have:q=t.2:=by
      rcases a4Y' p q with e|e
      ·rw[e]at h;rw[←h]
      ·rw[e]at h
       have z1:q=t.1:=by rw[←h]
       omega
     rw[this]
    ·exact absurd (Zb _ (h1▸hpl h)) n1
  ·rw[if_neg h1]
   by_cases h2:p=t.2
   ·rw[if_pos h2]
    constructor
    ·intro e
     cases e
     refine⟨by omega,?_⟩
     rw[h2,a3T',b2l' ht]
     exact Zc
    ·rintro⟨hne,h⟩
     rcases Zr.mp h with h|h
     ·have:q=t.1:=by
       rcases a4Y' p q with e|e
       ·rw[e]at h
        have z1:p=t.1:=by rw[←h]
        omega
       ·rw[e]at h;rw[←h]
      rw[this]
     ·exact absurd (h2▸hpl h) n3
   ·rw[if_neg h2,ih]
    constructor
    ·rintro⟨a,b⟩
     exact⟨a,Zb _ b⟩
    ·rintro⟨a,b⟩
     refine⟨a,?_⟩
     rcases Zr.mp b with b|b
     ·exfalso
      rcases a4Y' p q with e|e
      ·rw[e]at b
       exact h1 (by rw[←b])
      ·rw[e]at b
       exact h2 (by rw[←b])
     ·exact b
section
variable {m:Int}{ts ps:List Ti}
structure Ok2 (m:Int)(ts ps:List Ti):Prop where
 W:Web m ts
 P:Pairing ts ps
theorem Ok2.mate(O:Ok2 m ts ps){p q:Int}:mateI ps p=some q↔(p≠q∧toT p q∈ps):=b0S' (fun t ht=>(O.W.tie t (O.P.sub t ht)).2.1) O.P.un
theorem Ok2.symm(O:Ok2 m ts ps){p q:Int}(h:mateI ps p=some q):mateI ps q=some p:=by
 rw[O.mate]at h⊢
 exact⟨h.1.symm,by rw[a3T'];exact h.2⟩
theorem Ok2.inn(O:Ok2 m ts ps){p q:Int}(h:mateI ps p=some q):0≤q∧q<m:=by
 have:=(O.mate.mp h).2
 have ht:=O.W.tie _ (O.P.sub _ this)
 rcases a4Y' p q with e|e<;>rw[e]at ht
 ·have h1:0≤p∧p<q∧q<m:=ht
  omega
 ·have h1:0≤q∧q<p∧p<m:=ht
  omega
def Alt(ts ps:List Ti)(ns:List Int):Prop:=∀i,i+1<ns.length→tieAt ns i∈ts∧(tieAt ns i∈ps↔i%2=1)
structure Rwy (m:Int)(ts ps:List Ti)(ns:List Int):Prop where
 ne:1≤ns.length
 inn:InW m ns
 nod:ns.Nodup
 lo:mateI ps (gI ns 0)=none
 alt:Alt ts ps ns
theorem gI_l{s t:List Int}{i:Nat}(h:i<s.length):gI (s++t) i=gI s i:=by
 unfold gI
 rw[Zx,Zx,Zo h]
theorem gI_r{s t:List Int}{e:Int}:gI (s++e::t) s.length=e:=by
 unfold gI
 rw[Zx,Zw (Zl _)]
 simp
theorem b4y'{s:List Int}{i:Nat}(h:i<s.length):gI s i∈s:=by
 unfold gI
 rw[Zx,Zg h]
 exact List.getElem_mem _
theorem mem_gI{s:List Int}{x:Int}(h:x∈s):∃i,i<s.length∧gI s i=x:=by
 obtain⟨i,hi,e⟩:=ZP.mp h
 refine⟨i,hi,?_⟩
 unfold gI
 rw[Zx,Zg hi,e]
 rfl
theorem tie_l{s t:List Int}{i:Nat}(h:i+1<s.length):tieAt (s++t) i=tieAt s i:=by
 unfold tieAt
 rw[gI_l (by omega),gI_l h]
theorem tie_r{s t:List Int}{e:Int}(h:1≤s.length):tieAt (s++e::t) (s.length-1)=toT (lastI s) e:=by
 unfold tieAt lastI
 rw[gI_l (by omega),show s.length-1+1=s.length by omega,gI_r]
theorem Rwy.snoc{s:List Int}(h1:1≤s.length){n:Int}:Rwy m ts ps (s++[n])↔Rwy m ts ps s∧(0≤n∧n<m)∧n∉s∧toT (lastI s) n∈ts∧(toT (lastI s) n∈ps↔s.length%2=0):=by
 constructor
 ·intro h
  have hl:=h.nod
  obtain⟨a1,a2,a3⟩:=Z6.mp hl
  have ht:=h.alt (s.length-1) (by rw[Zn];simp;omega)
  rw[tie_r h1]at ht
  refine⟨⟨h1,fun x hx=>h.inn x (Z7 _ hx),a1,?_,fun i hi=>?_⟩,h.inn n (by simp),fun z=>a3 n z n (by simp) rfl,ht.1,ht.2.trans (by omega)⟩
  ·have:=h.lo
   rw[gI_l (by omega)]at this
   exact this
  ·have:=h.alt i (by rw[Zn];simp;omega)
   rw[tie_l hi]at this
   exact this
 ·rintro⟨hs,hn,hm,ht,hp⟩
  refine⟨by simp,fun x hx=>?_,Z6.mpr ⟨hs.nod,by simp,fun a ha b hb e=>?_⟩,?_,fun i hi=>?_⟩
  ·rcases ZA.mp hx with hx|hx
   ·exact hs.inn x hx
   ·rw[Z0.mp hx];exact hn
  ·rw[Z0.mp hb]at e
   exact hm (e▸ha)
  ·rw[gI_l (by omega)];exact hs.lo
  ·rw[Zn]at hi
   have hi':i+1<s.length+1:=hi
   by_cases hc:i+1<s.length
   ·rw[tie_l hc];exact hs.alt i hc
   ·have:i=s.length-1:=by omega
    subst this
    rw[tie_r h1]
    exact⟨ht,hp.trans (by omega)⟩
theorem Rwy.len8(W:Web m ts){s:List Int}(h:Rwy m ts ps s):s.length≤8:=inW_len W.hi h.nod h.inn
theorem a3x'{s:List Int}(h:1≤s.length):s=s.dropLast++[lastI s]:=by
 have hne:s≠[]:=fun z=>by rw[z]at h;simp at h
 have e:=List.dropLast_concat_getLast hne
 have e2:s.getLast hne=lastI s:=by
  unfold lastI gI
  rw[Zx,Zg (by omega),List.getLast_eq_getElem]
  rfl
 rw[e2]at e
 exact e.symm
theorem a8z'(O:Ok2 m ts ps){i:Int}:i∈a4l' m ps↔(0≤i∧i<m)∧mateI ps i=none:=by
 unfold a4l'
 rw[ZT]
 have hm:=O.W.lo
 constructor
 ·rintro⟨h1,h2⟩
  have:=K32.a1H' h1
  exact⟨by omega,by simpa using h2⟩
 ·rintro⟨h1,h2⟩
  refine⟨?_,by simp[h2]⟩
  have key:∀(n:Nat) (lo x:Int),lo≤x→x<lo+n→x∈a0G' lo n:=by
   intro n
   induction n with
   |zero=>intro lo x h1 h2;omega
   |succ n ih=>
    intro lo x h1 h2
    unfold a0G'
    by_cases e:x=lo
    ·subst e;exact Zc
    ·exact Zb _ (ih (lo+1) x (by omega) (by omega))
  exact key _ _ _ (by omega) (by omega)
theorem a8A'{x:Int}(h0:0≤x)(h1:x<m):x∈a0G' 0 m.toNat:=by
 have key:∀(n:Nat) (lo x:Int),lo≤x→x<lo+n→x∈a0G' lo n:=by
  intro n
  induction n with
  |zero=>intro lo x h1 h2;omega
  |succ n ih=>
   intro lo x h1 h2
   unfold a0G'
   by_cases e:x=lo
   ·subst e;exact Zc
   ·exact Zb _ (ih (lo+1) x (by omega) (by omega))
 exact key _ _ _ h0 (by omega)
theorem one_str(O:Ok2 m ts ps){p:List Int}:(∃i∈a4l' m ps,p=[i])↔Rwy m ts ps p∧p.length=1:=by
 constructor
 ·rintro⟨i,hi,rfl⟩
  obtain⟨h1,h2⟩:=(a8z' O).mp hi
  exact⟨⟨Zl _,fun n hn=>by rw[Z0.mp hn];exact h1,by simp,h2,fun i hi=>by simp at hi⟩,rfl⟩
 ·rintro⟨h,hl⟩
  obtain⟨i,rfl⟩:=List.length_eq_one_iff.mp hl
  exact⟨i,(a8z' O).mpr ⟨h.inn i (by simp),h.lo⟩,rfl⟩
def sKid(m:Int)(ts ps:List Ti)(s:List Int):List (List Int):=((a0G' 0 m.toNat).filter fun p=> !decide (p∈s)&&(tied ts (lastI s) p&&(mateI ps p).isSome)).map fun p=>s++[p,(mateI ps p).getD 0]
def stemN(m:Int)(ts ps:List Ti):Nat→List (List Int)
 |0=>(a4l' m ps).map fun i=>[i]
 |k+1=>(stemN m ts ps k).flatMap (sKid m ts ps)
theorem b2U'(O:Ok2 m ts ps){s:List Int}(h:Rwy m ts ps s)(ho:s.length%2=1){i:Nat}(h0:1≤i)(hi:i<s.length):∃x∈s,mateI ps (gI s i)=some x:=by
 have inj:∀{i j:Nat},i<s.length→j<s.length→gI s i=gI s j→i=j:=fun{i j} hi hj e=>by
  unfold gI at e
  rw[Zx,Zx,Zg hi,Zg hj]at e
  exact(List.getElem_inj h.nod).mp e
 rcases Nat.mod_two_eq_zero_or_one i with z|z
 ·have ht:=(h.alt (i-1) (by omega)).2.mpr (by omega)
  unfold tieAt at ht
  rw[show i-1+1=i by omega]at ht
  refine⟨gI s (i-1),b4y' (by omega),O.mate.mpr ⟨fun e=>?_,by rw[a3T'];exact ht⟩⟩
  have:=inj hi (by omega) e
  omega
 ·have ht:=(h.alt i (by omega)).2.mpr z
  unfold tieAt at ht
  refine⟨gI s (i+1),b4y' (by omega),O.mate.mpr ⟨fun e=>?_,ht⟩⟩
  have:=inj hi (by omega) e
  omega
theorem b0T'(O:Ok2 m ts ps){s q:List Int}(h1:Rwy m ts ps s)(ho:s.length%2=1):q∈sKid m ts ps s↔∃a b,q=s++[a,b]∧Rwy m ts ps q:=by
 have hne:=h1.ne
 have app:∀a b:Int,s++[a,b]=(s++[a])++[b]:=fun a b=>by simp
 have la:∀a:Int,lastI (s++[a])=a:=fun a=>by
  unfold lastI
  rw[Zn]
  show gI (s++[a]) (s.length+1-1)=a
  rw[Nat.add_sub_cancel]
  exact gI_r
 unfold sKid
 rw[ZI]
 constructor
 ·rintro⟨p,hp,rfl⟩
  obtain⟨ha,hb⟩:=ZT.mp hp
  rw[Zt,Zt]at hb
  obtain⟨hb1,hb2,hb3⟩:=hb
  have hps:p∉s:=by simpa using hb1
  have ht:toT (lastI s) p∈ts:=of_decide_eq_true hb2
  obtain⟨q,hq⟩:=Yg.mp hb3
  rw[hq]
  show ∃a b,s++[p,q]=s++[a,b]∧Rwy m ts ps (s++[p,q])
  have hr:=K32.a1H' ha
  have hm:=O.W.lo
  have hqr:=O.inn hq
  have hls:lastI s∈s:=b4y' (by omega)
  have hqs:q∉s:=fun z=>by
   obtain⟨i,hi,e⟩:=mem_gI z
   have hqp:=O.symm hq
   rcases Nat.eq_zero_or_pos i with z0|z0
   ·subst z0
    have:=h1.lo
    rw[e,hqp]at this
    cases this
   ·obtain⟨x,hx,ex⟩:=b2U' O h1 ho z0 hi
    rw[e,hqp]at ex
    cases ex
    exact hps hx
  have hpq:=(O.mate.mp hq)
  refine⟨p,q,rfl,?_⟩
  rw[app]
  have s1:Rwy m ts ps (s++[p]):=(Rwy.snoc hne).mpr ⟨h1,by omega,hps,ht,⟨fun z=>?_,fun z=>by omega⟩⟩
  ·refine(Rwy.snoc (by simp)).mpr ⟨s1,hqr,fun z=>?_,?_,?_⟩
   ·rcases ZA.mp z with z|z
    ·exact hqs z
    ·exact hpq.1 (Z0.mp z).symm
   ·rw[la]
    exact O.P.sub _ hpq.2
   ·rw[la,Zn]
    exact⟨fun _=>by show(s.length+1)%2=0;omega,fun _=>hpq.2⟩
  ·have:mateI ps p=some (lastI s):=O.mate.mpr ⟨fun e=>hps (e▸hls),by rw[a3T'];exact z⟩
   rw[hq]at this
   cases this
   exact absurd hls hqs
 ·rintro⟨a,b,rfl,hs⟩
  rw[app]at hs
  obtain⟨s1,hb1,hb2,hb3,hb4⟩:=(Rwy.snoc (by simp)).mp hs
  obtain⟨_,ha1,ha2,ha3,ha4⟩:=(Rwy.snoc hne).mp s1
  rw[la,Zn]at hb4
  rw[la]at hb3
  have hab:toT a b∈ps:=hb4.mpr (by show(s.length+1)%2=0;omega)
  have hm:mateI ps a=some b:=O.mate.mpr ⟨fun e=>hb2 (by rw[e];simp),hab⟩
  refine⟨a,ZT.mpr ⟨a8A' ha1.1 ha1.2,?_⟩,by rw[hm];rfl⟩
  rw[Zt,Zt]
  exact⟨by simpa using ha2,ZK ha3,by rw[hm];rfl⟩
theorem a3a'(O:Ok2 m ts ps):∀(k:Nat) {p:List Int},p∈stemN m ts ps k↔Rwy m ts ps p∧p.length=2*k+1
 |0,p=>by
  rw[Nat.mul_zero,Nat.zero_add,←one_str O]
  unfold stemN
  rw[ZI]
  exact⟨fun⟨i,h,e⟩=>⟨i,h,e.symm⟩,fun⟨i,h,e⟩=>⟨i,h,e.symm⟩⟩
 |k+1,p=>by
  unfold stemN
  rw[Yc]
  constructor
  ·rintro⟨s,hs,hp⟩
   obtain⟨h1,h2⟩:=(a3a' O k).mp hs
   obtain⟨a,b,rfl,hq⟩:=(b0T' O h1 (by omega)).mp hp
   refine⟨hq,?_⟩
   rw[Zn,h2]
   show 2*k+1+2=_
   omega
  ·rintro⟨h,hl⟩
   have e:=a3x' h.ne
   have hdl:p.dropLast.length=2*k+2:=by rw[List.length_dropLast,hl];omega
   have e2:=a3x' (s:=p.dropLast) (by omega)
   have hd:Rwy m ts ps p.dropLast:=((Rwy.snoc (by omega)).mp (e▸h:Rwy m ts ps (p.dropLast++[lastI p]))).1
   have hddl:p.dropLast.dropLast.length=2*k+1:=by rw[List.length_dropLast,hdl];rfl
   have hdd:Rwy m ts ps p.dropLast.dropLast:=((Rwy.snoc (by omega)).mp (e2▸hd:Rwy m ts ps (p.dropLast.dropLast++[lastI p.dropLast]))).1
   have e3:p=p.dropLast.dropLast++[lastI p.dropLast,lastI p]:=by
    have:p.dropLast.dropLast++[lastI p.dropLast,lastI p]=(p.dropLast.dropLast++[lastI p.dropLast])++[lastI p]:=by simp
    rw[this,←e2,←e]
   exact⟨p.dropLast.dropLast,(a3a' O k).mpr ⟨hdd,hddl⟩,(b0T' O hdd (by omega)).mpr ⟨_,_,e3,h⟩⟩
def stems(m:Int)(ts ps:List Ti):List (List Int):=(List.range 4).flatMap (stemN m ts ps)
theorem a4u'(O:Ok2 m ts ps){s:List Int}:s∈stems m ts ps↔Rwy m ts ps s∧s.length%2=1:=by
 unfold stems
 rw[Yc]
 constructor
 ·rintro⟨k,_,h⟩
  obtain⟨h1,h2⟩:=(a3a' O k).mp h
  exact⟨h1,by omega⟩
 ·rintro⟨h1,h2⟩
  have:=h1.len8 O.W
  exact⟨s.length/2,by rw[List.mem_range];omega,(a3a' O _).mpr ⟨h1,by omega⟩⟩
end
end K32
end
section
namespace K32
open PySem PySem.Spec PyProof.Rows L2 Py
section
variable {S:Store}{m:Int}{ts:List (Int×Int)}
theorem tied_eq(hS:Flat S)(a b:Int):a1D' [webD m ts,.int a,.int b] S=.ok (.bl (decide (toT a b∈ts))) S:=by
 refine a0z' rfl ?_ rfl hS rfl
 show denSs a6M' G0 a4P' [some (webD m ts),some (.int a),some (.int b)] S=_
 have h1:bltD .min [.int a,.int b] S=.ok (.int (min a b)) S:=by
  show a3y' [.int a,.int b] S=_
  simp[a3y',minD]
  split<;>omega
 have h2:bltD .max [.int a,.int b] S=.ok (.int (max a b)) S:=by
  show a5l' [.int a,.int b] S=_
  simp[a5l',maxD]
  split<;>omega
 have hx:idxD (webD m ts) (.int 1) S=.ok (.tup (tiesD ts)) S:=rfl
 have h3:cmpD .In (.tup [.int (min a b),.int (max a b)]) (.tup (tiesD ts)) S=.ok (.bl (decide (toT a b∈ts))) S:=by
  have:=b0F' S (toT a b) ts
  show boolR (inD (tieD (toT a b)) (.tup (tiesD ts)) S) S=_
  rw[this];rfl
 generalize webD m ts=w at*
 generalize D.tup (tiesD ts)=T at*
 simp only[a4P',denSs,denS,den,denL,Res.bind,Res.noErr,h1,h2,h3,hx,Zd,Ze]
end
end K32
end
section
namespace K32
open PySem PySem.Spec PyProof.Rows L2 Py
def nearL(ts:List (Int×Int))(p:Int):List Int:=(ts.filter fun t=>decide (p=t.1∨p=t.2)).map fun t=>t.1+t.2-p
theorem a7K'(ts:List (Int×Int))(p:Int):(nearL ts p).length≤ts.length:=by
 unfold nearL
 rw[Zk]
 exact ZU _ _
theorem b0U'{m:Int}{ts:List (Int×Int)}(W:Web m ts)(p:Int):(nearL ts p).Nodup:=by
 unfold nearL List.Nodup
 rw[List.pairwise_map]
 have h:(ts.filter fun t=>decide (p=t.1∨p=t.2)).Pairwise K32.lexlt:=W.ris.filter _
 refine h.imp_of_mem fun{a b} ha hb hab=>?_
 obtain⟨ha1,ha2⟩:=ZT.mp ha
 obtain⟨hb1,hb2⟩:=ZT.mp hb
 have ha2:=of_decide_eq_true ha2
 have hb2:=of_decide_eq_true hb2
 have:=W.tie a ha1
 have:=W.tie b hb1
 unfold K32.lexlt at hab
 omega
section
variable {S:Store}{m:Int}{ts:List (Int×Int)}
theorem comp_if{α:Type}{Φ:FT}{e c:CE}{N:List Str}{fr:List (Option Nat)}{tg:CT}{ρ:Rho}{rs:α→Rho}{r0:Rho}{it:CE}{ds:List α}{h f:α→D}{p:α→Bool}(hi:denI Φ G0 it ρ S=.ok (.items (ds.map h)) S)(hr:fr.map (fun j=>j.bind fun j=>(ρ[j]?).join)=r0)
  (ha:∀d∈ds,a0p' tg (h d) r0=some (rs d)) (hl:ds.length≤1000000) (hp:∀d∈ds,denT Φ G0 c (rs d) S=.ok (p d) S) (he:∀d∈ds,den Φ G0 e (rs d) S=.ok (f d) S):den Φ G0 (.comp false N fr tg it [c] (.emit e)) ρ S=.ok (.lst ((ds.filter p).map f)) S:=by
 refine a2y' hi ?_
 rw[hr]
 exact a1S' (f:=h) (p:=p) (e:=f) (xs:=ds) (S:=S) (step:=fun y acc S2=>match a0p' tg y r0 with
    |some ρ'=>(denTs Φ G0 [c] ρ' S2).bind fun k S3=>if k=true then denB Φ G0 (.emit e) ρ' acc S3 else .ok acc S3
    |none=>.fail) (fun d hd acc hac=>by
     have ha':acc.length<16777216:=hac
     show(match a0p' tg (h d) r0 with
      |some ρ'=>(denTs Φ G0 [c] ρ' S).bind fun k S3=>if k=true then denB Φ G0 (.emit e) ρ' acc S3 else .ok acc S3
      |none=>.fail)=_
     rw[ha d hd]
     simp only[denTs,hp d hd,Res.bind]
     cases p d with
     |true=>simp[denB,Res.bind,he d hd,ha']
     |false=>simp) (show ds.length≤16777216 by omega)
theorem near_eq(hS:Flat S)(W:Web m ts)(p:Int):a1l' [webD m ts,.int p] S=.ok (.lst ((nearL ts p).map D.int)) S:=by
 have hlow:∀l:List Int,lowD 0 (.lst (l.map D.int))=true:=fun l=>K32.a5Y' l
 refine a0z' rfl ?_ rfl hS (hlow _)
 show denSs a4Q' G0 a6N' [some (webD m ts),some (.int p)] S=_
 have hx:idxD (webD m ts) (.int 1) S=.ok (.tup (tiesD ts)) S:=rfl
 have hf:=W.few
 refine a2d' (K32.a6a' ?_)
 have h:=comp_if (S:=S) (Φ:=a4Q') (N:=["_law_one","_law_other","_law_place"]) (fr:=[none,none,some 1]) (tg:=.tup [.var 0,.var 1]) (it:=.seq (.idx (.var 0) (.lit (.int 1)))) (c:=.cmp .In (.var 2) (.tup [.var 0,.var 1])) (e:=.bin .Sub (.bin .Add (.var 0) (.var 1)) (.var 2)) (ρ:=[some (webD m ts),some (.int p)]) (ds:=ts) (h:=tieD) (r0:=[none,none,some (.int p)]) (rs:=fun t=>[some (.int t.1),some (.int t.2),some (.int p)]) (p:=fun t=>decide (p=t.1∨p=t.2)) (f:=fun t=>.int (t.1+t.2-p)) (a7I' (a2O' (a0h' (i:=0) rfl) a1d' hx) rfl) rfl (fun _ _=>rfl) (by omega) (fun t _=>by
  refine T_cm (e:=tieD t) (a0h' (i:=2) rfl) (by simp only[den,denL,Res.bind,Zd,Ze];rfl) ?_
  have:=K32.in_tie S p t
  show boolR (inD (.int p) (tieD t) S) S=_
  rw[this];rfl) (fun t _=>a2P' (a2P' (a0h' rfl) (a0h' rfl) (o_add _ _)) (a0h' rfl) (o_sub _ _))
 unfold nearL
 rw[Yj]
 exact h
end
end K32
end
section
namespace K32
open PySem PySem.Spec PyProof.Rows L2 Py
section
variable {m:Int}{ts ps:List Ti}
def mt(ps:List Ti)(p:Int):Int:=(mateI ps p).getD (-1)
def pick(ts ps:List Ti)(bar line:List Int):List Int:=((nearL ts (lastI line)).filter fun p=>decide (0≤mt ps p)&& !decide (p∈line++bar)).filter fun p=> !decide (mt ps p∈line++bar)
def lKid(ts ps:List Ti)(bar line:List Int):List (List Int):=(pick ts ps bar line).map fun p=>line++[p,mt ps p]
def lN(ts ps:List Ti)(bar:List Int)(R:List (List Int)):Nat→List (List Int)
 |0=>R
 |k+1=>(lN ts ps bar R k).flatMap (lKid ts ps bar)
theorem b2m'(W:Web m ts){p x:Int}:x∈nearL ts p↔toT p x∈ts:=by
 unfold nearL
 rw[ZI]
 constructor
 ·rintro⟨t,ht,rfl⟩
  obtain⟨hm,hp⟩:=ZT.mp ht
  have hp:=of_decide_eq_true hp
  have h1:=(W.tie t hm).2.1
  obtain⟨a,b⟩:=t
  have h1:a<b:=h1
  show toT p (a+b-p)∈ts
  rcases hp with e|e
  ·have e:p=a:=e
   rw[e,show a+b-a=b by omega,K32.b2l' h1];exact hm
  ·have e:p=b:=e
   rw[e,show a+b-b=a by omega,K32.a3T',K32.b2l' h1];exact hm
 ·intro h
  refine⟨toT p x,ZT.mpr ⟨h,?_⟩,?_⟩
  ·rcases a4Y' p x with e|e<;>rw[e]<;>simp
  ·rcases a4Y' p x with e|e<;>rw[e]<;>show _=_<;>omega
theorem b4z'{bar line:List Int}(h:line≠[]):lastI (bar++line)=lastI line:=by
 have h1:1≤line.length:=by cases line with
  |nil=>exact absurd rfl h
  |cons _ _=>simp
 unfold lastI gI
 rw[Zx,Zx,Zn,Zw (by omega)]
 congr 2
 omega
theorem b2n'(O:Ok2 m ts ps){bar line:List Int}(hl:line≠[])(h:Rwy m ts ps (bar++line))(ho:(bar++line).length%2=1):
  (pick ts ps bar line).Perm ((a0G' 0 m.toNat).filter fun p=> !decide (p∈bar++line)&&(tied ts (lastI (bar++line)) p&&(mateI ps p).isSome)):=by
 refine(List.perm_ext_iff_of_nodup ?_ ?_).mpr fun x=>?_
 ·unfold pick
  exact((b0U' O.W _).sublist List.filter_sublist).sublist List.filter_sublist
 ·exact K32.a7H'.sublist List.filter_sublist
 ·unfold pick
  rw[ZT,ZT,ZT,b2m' O.W,b4z' hl]
  have hsw:∀y:Int,(y∈line++bar)↔(y∈bar++line):=fun y=>by rw[ZA,ZA];exact Or.comm
  have hti:tied ts (lastI line) x=decide (toT (lastI line) x∈ts):=rfl
  simp only[Zt,Bool.not_eq_true',decide_eq_false_iff_not,decide_eq_true_eq,hsw,hti]
  have hmt:∀{y},mateI ps x=some y→mt ps x=y:=fun e=>by unfold mt;rw[e];rfl
  constructor
  ·rintro⟨⟨h1,h2,h3⟩,h4⟩
   have hs:(mateI ps x).isSome=true:=by
    unfold mt at h2
    cases e:mateI ps x with
    |none=>rw[e]at h2;simp at h2
    |some y=>rfl
   obtain⟨y,hy⟩:=Yg.mp hs
   have:=O.inn (O.symm hy)
   exact⟨K32.a8A' this.1 this.2,h3,h1,hs⟩
  ·rintro⟨h0,h3,h1,hs⟩
   obtain⟨y,hy⟩:=Yg.mp hs
   rw[hmt hy]
   have:=O.inn hy
   refine⟨⟨h1,this.1,h3⟩,fun hin=>?_⟩
   obtain⟨i,hi,e⟩:=mem_gI hin
   rcases Nat.eq_zero_or_pos i with z|z
   ·subst z
    have:=h.lo
    rw[e,O.symm hy]at this
    cases this
   ·obtain⟨w,hw,e2⟩:=b2U' O h ho z hi
    rw[e,O.symm hy]at e2
    cases e2
    exact h3 hw
theorem b2o'(O:Ok2 m ts ps){bar line:List Int}(hl:line≠[])(h:Rwy m ts ps (bar++line))(ho:(bar++line).length%2=1):
  (lKid ts ps bar line).Perm ((sKid m ts ps (bar++line)).map (List.drop bar.length)):=by
 unfold lKid sKid
 rw[Yj]
 refine((b2n' O hl h ho).map _).trans (.of_eq (List.map_congr_left fun x hx=>?_))
 have hs:(mateI ps x).isSome=true:=by
  have:=(ZT.mp hx).2
  simp only[Zt]at this
  exact this.2.2
 obtain⟨y,hy⟩:=Yg.mp hs
 show line++[x,mt ps x]=List.drop bar.length (bar++line++[x,(mateI ps x).getD 0])
 unfold mt
 rw[hy,Zm,List.drop_left]
 rfl
theorem a1v'{α β:Type}{f g:α→List β}:∀{l:List α},(∀x∈l,(f x).Perm (g x))→(l.flatMap f).Perm (l.flatMap g)
 | [],_=>.refl _
 |x::l,h=>by
  rw[ZG,ZG]
  exact(h x Zc).append (a1v' fun y hy=>h y (Zb _ hy))
theorem a4Z'{α β:Type}{f:α→List β}{l l':List α}(h:l.Perm l'):(l.flatMap f).Perm (l'.flatMap f):=by
 induction h with
 |nil=>exact .refl _
 |cons x _ ih=>rw[ZG,ZG];exact ih.append_left _
 |swap x y l=>
  simp only[ZG,←Zm]
  exact List.perm_append_comm.append_right _
 |trans _ _ a b=>exact a.trans b
theorem b0V'{α β:Type}{f g:α→List β}:∀{l:List α},(l.flatMap fun x=>f x++g x).Perm (l.flatMap f++l.flatMap g)
 | []=>.refl _
 |x::l=>by
  simp only[ZG]
  have ih:=b0V' (f:=f) (g:=g) (l:=l)
  refine(ih.append_left _).trans ?_
  rw[Zm,Zm]
  refine List.Perm.append_left _ ?_
  rw[←Zm,←Zm]
  exact List.perm_append_comm.append_right _
theorem a6b'{α β γ:Type}{f:α→β→List γ}{ys:List β}:∀{xs:List α},(xs.flatMap fun x=>ys.flatMap (f x)).Perm (ys.flatMap fun y=>xs.flatMap fun x=>f x y)
 | []=>by
  have:(ys.flatMap fun y=>([]:List α).flatMap fun x=>f x y)=[]:=by
   induction ys with
   |nil=>rfl
   |cons y ys ih=>rw[ZG,ih];rfl
  rw[this]
  exact .refl _
 |x::xs=>by
  rw[ZG]
  refine((a6b' (xs:=xs)).append_left _).trans ?_
  simp only[ZG]
  exact b0V'.symm
theorem b4A'(O:Ok2 m ts ps){bar:List Int}{R:List (List Int)}{E:Nat→List (List Int)}(hE:∀k,E (k+1)=(E k).flatMap (sKid m ts ps))
  (hs:∀k,∀e∈E k,(Rwy m ts ps e∧e.length%2=1)∧∃line,line≠[]∧e=bar++line) (h0:R.Perm ((E 0).map (List.drop bar.length))):∀k,(lN ts ps bar R k).Perm ((E k).map (List.drop bar.length))
 |0=>h0
 |k+1=>by
  unfold lN
  refine(a4Z' (b4A' O hE hs h0 k)).trans ?_
  rw[hE,List.map_flatMap,List.flatMap_map]
  refine a1v' fun e he=>?_
  obtain⟨⟨h1,h2⟩,line,h3,rfl⟩:=hs k e he
  rw[List.drop_left]
  exact b2o' O h3 h1 h2
def eN(m:Int)(ts ps:List Ti)(s:List Int):Nat→List (List Int)
 |0=>[s]
 |k+1=>(eN m ts ps s k).flatMap (sKid m ts ps)
theorem a7L'(i:Nat):∀j,stemN m ts ps (i+j)=(stemN m ts ps i).flatMap fun s=>eN m ts ps s j
 |0=>by
  show stemN m ts ps i=(stemN m ts ps i).flatMap fun s=>[s]
  simp
 |j+1=>by
  show(stemN m ts ps (i+j)).flatMap _=_
  rw[a7L' i j,List.flatMap_assoc]
  rfl
theorem b0W'{s:List Int}{i:Nat}(h:s∈stemN m ts ps i){j:Nat}{e:List Int}(he:e∈eN m ts ps s j):e∈stemN m ts ps (i+j):=by
 rw[a7L']
 exact Yc.mpr ⟨s,h,he⟩
theorem b4B'{s:List Int}:∀{j:Nat} {e:List Int},e∈eN m ts ps s j→∃r,e=s++r
 |0,e,h=>⟨[],by rw[Z0.mp h];simp⟩
 |j+1,e,h=>by
  obtain⟨e',h1,h2⟩:=Yc.mp h
  obtain⟨r,rfl⟩:=b4B' h1
  unfold sKid at h2
  obtain⟨p,_,rfl⟩:=ZI.mp h2
  exact⟨r++[p,(mateI ps p).getD 0],by simp⟩
theorem a1X'(O:Ok2 m ts ps){k:Nat}{e:List Int}(h:e∈stemN m ts ps k):(Rwy m ts ps e∧e.length%2=1)∧e.length=2*k+1:=by
 obtain⟨h1,h2⟩:=(a3a' O k).mp h
 exact⟨⟨h1,by omega⟩,h2⟩
theorem a8B'(l:List (List Int)):l.map (List.drop 0)=l:=(List.map_congr_left fun _ _=>rfl).trans (List.map_id l)
theorem a2A'{α β:Type}{f g:α→List β}:∀{l:List α},(∀x∈l,f x=g x)→l.flatMap f=l.flatMap g
 | [],_=>rfl
 |x::l,h=>by
  rw[ZG,ZG,h x Zc,a2A' fun y hy=>h y (Zb _ hy)]
theorem a9m'(O:Ok2 m ts ps)(k:Nat):(lN ts ps [] (stemN m ts ps 0) k).Perm (stemN m ts ps k):=by
 have:=b4A' O (bar:=[]) (R:=stemN m ts ps 0) (E:=stemN m ts ps) (fun _=>rfl) (fun k e he=>⟨(a1X' O he).1,e,fun z=>by
  have:=(a1X' O he).2
  rw[z]at this
  simp at this,rfl⟩) (.of_eq (a8B' _).symm) k
 exact this.trans (.of_eq (a8B' _))
theorem a8C'(O:Ok2 m ts ps){s:List Int}{i:Nat}(h:s∈stemN m ts ps i)(j:Nat):(lN ts ps s.dropLast [[lastI s]] j).Perm ((eN m ts ps s j).map (List.drop (2*i))):=by
 have hlen:=(a1X' O h).2
 have hsp:=a3x' (s:=s) (by omega)
 have hd:s.dropLast.length=2*i:=by rw[List.length_dropLast];omega
 have:=b4A' O (bar:=s.dropLast) (R:=[[lastI s]]) (E:=eN m ts ps s) (fun _=>rfl) (fun k e he=>⟨(a1X' O (b0W' h he)).1,by
  obtain⟨r,rfl⟩:=b4B' he
  refine⟨[lastI s]++r,by simp,?_⟩
  rw[←Zm,←hsp]⟩) (by
  show List.Perm _ [List.drop s.dropLast.length s]
  have:List.drop s.dropLast.length s=[lastI s]:=by
   have e:=congrArg (List.drop s.dropLast.length) hsp
   rw[List.drop_left]at e
   exact e
  rw[this]) j
 rw[hd]at this
 exact this
theorem a8D'(O:Ok2 m ts ps){k:Nat}(h:4≤k):stemN m ts ps k=[]:=by
 cases e:stemN m ts ps k with
 |nil=>rfl
 |cons p r=>
  have hp:p∈stemN m ts ps k:=by rw[e];exact Zc
  have h1:=a1X' O hp
  have:=h1.1.1.len8 O.W
  omega
def a1o'(ts:List Ti)(l:List Int):Bool:=decide (1<l.length)&&(decide (gI l 1<lastI l)&&decide (toT (gI l 0) (lastI l)∈ts))
def bl(ts:List Ti)(i:Nat)(e:List Int):List (List Int×List Int):=if a1o' ts (e.drop (2*i))=true then [(e.take (2*i+1),e.drop (2*i))]else []
def lRow(ts ps:List Ti)(bar:List Int)(R:List (List Int)):List (List Int):=(List.range 4).flatMap (lN ts ps bar R)
def lBl(m:Int)(ts ps:List Ti):List (List Int×List Int):=(lRow ts ps [] (stemN m ts ps 0)).flatMap fun s=>((lRow ts ps s.dropLast [[lastI s]]).filter (a1o' ts)).map fun l=>(s,l)
def pBl(m:Int)(ts ps:List Ti):List (List Int×List Int):=(stems m ts ps).flatMap fun e=>(List.range ((e.length-1)/2)).flatMap fun i=>bl ts i e
theorem b4C'(O:Ok2 m ts ps){s:List Int}{i:Nat}(h:s∈stemN m ts ps i):(((lRow ts ps s.dropLast [[lastI s]]).filter (a1o' ts)).map fun l=>(s,l)).Perm ((List.range 4).flatMap fun j=>(eN m ts ps s j).flatMap (bl ts i)):=by
 have hlen:=(a1X' O h).2
 unfold lRow
 have h1:((List.range 4).flatMap (lN ts ps s.dropLast [[lastI s]])).Perm ((List.range 4).flatMap fun j=>(eN m ts ps s j).map (List.drop (2*i))):=a1v' fun j _=>a8C' O h j
 refine((h1.filter _).map _).trans (.of_eq ?_)
 rw[List.filter_flatMap,List.map_flatMap]
 refine a2A' fun j _=>?_
 have:∀E:List (List Int),(∀e∈E,∃r,e=s++r)→List.map (fun l=>(s,l)) (List.filter (a1o' ts) (E.map (List.drop (2*i))))=E.flatMap (bl ts i):=by
  intro E hE
  induction E with
  |nil=>rfl
  |cons e E ih=>
   obtain⟨r,he⟩:=hE e Zc
   have ih:=ih fun x hx=>hE x (Zb _ hx)
   have ht:e.take (2*i+1)=s:=by rw[he,←hlen,List.take_left]
   rw[ZH,ZG,←ih]
   unfold bl
   rw[ht]
   cases hb:a1o' ts (List.drop (2*i) e)with
   |true=>rw[List.filter_cons_of_pos hb];rfl
   |false=>rw[List.filter_cons_of_neg (by rw[hb];simp)];rfl
 exact this _ fun e he=>b4B' he
def Ak(m:Int)(ts ps:List Ti)(k i:Nat):List (List Int×List Int):=(stemN m ts ps k).flatMap (bl ts i)
theorem Ak_no(O:Ok2 m ts ps){k i:Nat}(h:4≤k):Ak m ts ps k i=[]:=by unfold Ak;rw[a8D' O h];rfl
theorem a8E'(O:Ok2 m ts ps)(k:Nat):Ak m ts ps k k=[]:=by
 unfold Ak
 rw[List.flatMap_eq_nil_iff]
 intro e he
 have:=(a1X' O he).2
 unfold bl a1o'
 rw[Yd,this]
 have:decide (1<2*k+1-2*k)=false:=ZC (by omega)
 rw[this]
 rfl
theorem b4D'(O:Ok2 m ts ps):(lBl m ts ps).Perm ((List.range 4).flatMap fun i=>(List.range 4).flatMap fun j=>Ak m ts ps (i+j) i):=by
 unfold lBl
 have h1:(lRow ts ps [] (stemN m ts ps 0)).Perm ((List.range 4).flatMap (stemN m ts ps)):=a1v' fun j _=>a9m' O j
 refine(a4Z' h1).trans ?_
 rw[List.flatMap_assoc]
 refine a1v' fun i _=>?_
 refine(a1v' fun s hs=>b4C' O hs).trans ?_
 refine a6b'.trans (.of_eq (a2A' fun j _=>?_))
 unfold Ak
 rw[a7L',List.flatMap_assoc]
theorem b2p'(O:Ok2 m ts ps):(pBl m ts ps).Perm ((List.range 4).flatMap fun k=>(List.range k).flatMap fun i=>Ak m ts ps k i):=by
 unfold pBl stems
 rw[List.flatMap_assoc]
 refine a1v' fun k _=>?_
 have:((stemN m ts ps k).flatMap fun e=>(List.range ((e.length-1)/2)).flatMap fun i=>bl ts i e)=(stemN m ts ps k).flatMap fun e=>(List.range k).flatMap fun i=>bl ts i e:=a2A' fun e he=>by
  rw[(a1X' O he).2,show(2*k+1-1)/2=k by omega]
 rw[this]
 exact a6b'
theorem b2V'(O:Ok2 m ts ps):(pBl m ts ps).Perm (lBl m ts ps):=by
 refine(b2p' O).trans (.trans ?_ (b4D' O).symm)
 simp only[show List.range 4=[0,1,2,3]from rfl,show List.range 3=[0,1,2]from rfl,show List.range 2=[0,1]from rfl,show List.range 1=[0]from rfl,show List.range 0=[]from rfl,ZG,List.flatMap_nil,Nat.add_zero,Nat.zero_add,Nat.reduceAdd,Z2,Z1]
 rw[a8E' O 0,a8E' O 1,a8E' O 2,a8E' O 3,Ak_no O (k:=4) (by omega),Ak_no O (k:=4) (by omega),Ak_no O (k:=4) (by omega),Ak_no O (k:=5) (by omega),Ak_no O (k:=5) (by omega),Ak_no O (k:=6) (by omega)]
 simp only[Z2,Z1,Zm]
 refine List.Perm.append_left _ (List.Perm.append_left _ ?_)
 rw[←Zm (Ak m ts ps 2 1),←Zm (Ak m ts ps 3 0)]
 exact List.perm_append_comm.append_right _
end
end K32
end
section
namespace K32
open PySem PySem.Spec PyProof.Rows L2 Py
theorem tieAt_succ(a:Int)(l:List Int)(i:Nat):tieAt (a::l) (i+1)=tieAt l i:=rfl
section
variable {S T:Store}{m:Int}{ts ps:List (Int×Int)}{n:Nat}
theorem idx_at{d:D}{o:List Int}{i:Nat}(hd:seqOf T d=some (o.map D.int))(h:i<o.length):idxD d (.int (i:Nat)) T=.ok (.int (gI o i)) T:=by
 have e:atI (o.map D.int) ((i:Nat):Int)=some (.int (gI o i)):=by
  unfold atI ixN
  rw[Zk,if_pos (by omega),if_pos (by omega)]
  show(o.map D.int)[((i:Nat):Int).toNat]?=_
  rw[Int.toNat_natCast]
  exact b4w' h
 unfold idxD
 simp only[hd,e]
theorem rng_k{j:Int}{ρ:Rho}{es:List CE}{Φ:FT}{Γ:Str→Option D}(h0:0≤j)(h1:j≤1000)(h:denL Φ Γ es ρ S=.ok [.int j] T):denI Φ Γ (.range es) ρ S=.ok (.items (a3A' 0 j.toNat)) T:=by
 have hb:(-4611686018427387904:Int)≤j∧j<4611686018427387904:=by omega
 simp[denI,Res.bind,h,hb]
end
end K32
end
section
namespace K32
open PySem PySem.Spec PyProof.Rows L2 Py
end K32
end
section
namespace K32
open PySem PySem.Spec PyProof.Rows L2 Py
section
variable {S T:Store}{m:Int}{ts ps:List Ti}{n:Nat}
theorem T_and{Φ:FT}{a b:CE}{ρ:Rho}{x y:Bool}(h1:denT Φ G0 a ρ S=.ok x S)(h2:denT Φ G0 b ρ S=.ok y S):denT Φ G0 (.band a b) ρ S=.ok (x&&y) S:=by
 simp only[denT,h1,Res.bind]
 cases x
 ·simp
 ·simp[h2]
theorem T_c3{Φ:FT}{f:Str}{φ:List D→Store→Res D}{a b c:CE}{ρ:Rho}{x y z:D}{k:Bool}(hf:Φ f=some φ)(h1:den Φ G0 a ρ S=.ok x S)(h2:den Φ G0 b ρ S=.ok y S)(h3:den Φ G0 c ρ S=.ok z S)(h:φ [x,y,z] S=.ok (.bl k) S):denT Φ G0 (.call f [a,b,c]) ρ S=.ok k S:=by
 simp only[denT,denL,hf,h1,h2,h3,Res.bind,h,truD]
theorem b0X'{p:List Int}(h1:1≤p.length){Φ:FT}{ρ:Rho}(h0:ρ[0]?=some (some (ntD p))):den Φ G0 lsE ρ T=.ok (.int (lastI p)) T:=by
 refine a2O' (e:=.int (-1)) (a0h' h0) ?_ (a7J' (S:=T) (d:=ntD p) (ns:=p) rfl h1)
 simp only[den,Res.bind]
theorem c_st_is:a3K'=[.asg 2 stG,.asg 3 (.lst true []),.while_ 12 (.var 2) stB,.ret (.var 3)]:=rfl
theorem a7M'{p:List Int}{x:Int}:cmpD .NotIn (.int x) (ntD p) T=.ok (.bl (!decide (x∈p))) T:=by
 have:=in_ints (S:=T) (d:=ntD p) (l:=p) rfl x
 show boolR ((inD (.int x) (ntD p) T).map not) _=_
 rw[this];rfl
theorem rng_m{j:Int}{ρ:Rho}{e:CE}{Φ:FT}(h0:0≤j)(h1:j≤1000)(h:den Φ G0 e ρ T=.ok (.int j) T):denI Φ G0 (.range [e]) ρ T=.ok (.items ((a0G' 0 j.toNat).map D.int)) T:=by
 rw[←a3v']
 refine K32.rng_k h0 h1 ?_
 simp only[denL,h,Res.bind]
theorem stC_den(hT:Flat T)(W:Web m ts){G:List (List Int)}(hG:∀s∈G,1≤s.length∧s.length≤100)(hl:G.length≤100000){x3:Option D}:den a0c' G0 stC [some (webD m ts),some (.tup (tiesD ps)),some (.lst (G.map ntD)),x3] T=.ok (.lst ((G.flatMap (sKid m ts ps)).map ntD)) T:=by
 have w1:=W.lo
 have w2:=W.hi
 refine a2y' (its:=.items (G.map ntD)) (S1:=T) (a7I' (S:=T) (a0h' (i:=2) rfl) rfl) ?_
 have hk:∀s:List Int,((sKid m ts ps s).map ntD).length≤8:=fun s=>by
  rw[Zk]
  unfold sKid
  rw[Zk]
  refine ZB (ZU _ _) ?_
  rw[K32.a0k']
  omega
 have key:=a4T' (f:=ntD) (g:=fun s=>(sKid m ts ps s).map ntD) (c:=8) (S:=T) (step:=fun x acc S2=>match a0p' (.var 0) x [none,none,some (.tup (tiesD ps)),some (webD m ts)]with
    |some ρ'=>(denTs a0c' G0 [] ρ' S2).bind fun k S3=>if k=true then denB a0c' G0 (.inner (.var 1) (.range [.idx (.var 3) (.lit (.int 0))]) [stT] (.emit stE)) ρ' acc S3 else .ok acc S3
    |none=>.fail) hk G [] (fun s hs acc hac=>by
   have hac:acc.length+8≤16777216:=hac
   obtain⟨s1,s2⟩:=hG s hs
   have h1:a0p' (.var 0) (ntD s) [none,none,some (.tup (tiesD ps)),some (webD m ts)]=some [some (ntD s),none,some (.tup (tiesD ps)),some (webD m ts)]:=rfl
   have hI:denI a0c' G0 (.range [.idx (.var 3) (.lit (.int 0))]) [some (ntD s),none,some (.tup (tiesD ps)),some (webD m ts)] T=.ok (.items ((a0G' 0 m.toNat).map D.int)) T:=rng_m (by omega) (by omega) (a2O' (a0h' (i:=3) rfl) a1d' rfl)
   have hin:=a0Y' (f:=D.int) (p:=fun p=> !decide (p∈s)&&(tied ts (lastI s) p&&(mateI ps p).isSome)) (e:=fun p=>ntD (s++[p,(mateI ps p).getD 0])) (S:=T) (step:=fun x acc S2=>match a0p' (.var 1) x [some (ntD s),none,some (.tup (tiesD ps)),some (webD m ts)]with
    |some ρ'=>(denTs a0c' G0 [stT] ρ' S2).bind fun k S3=>if k=true then denB a0c' G0 (.emit stE) ρ' acc S3 else .ok acc S3
    |none=>.fail) (a0G' 0 m.toNat) acc (fun p _ acc ha=>by
     have ha':acc.length<16777216:=ha
     have h2:a0p' (.var 1) (.int p) [some (ntD s),none,some (.tup (tiesD ps)),some (webD m ts)]=some [some (ntD s),some (.int p),some (.tup (tiesD ps)),some (webD m ts)]:=rfl
     have hm:a1O' [.tup (tiesD ps),.int p] T=.ok (optD (mateI ps p)) T:=K32.a6W' hT ps p
     have hh:a0E' [webD m ts,.int (lastI s),.int p] T=.ok (.bl (tied ts (lastI s) p)) T:=K32.a5B' hT m ts _ _
     have t:denT a0c' G0 stT [some (ntD s),some (.int p),some (.tup (tiesD ps)),some (webD m ts)] T=.ok (!decide (p∈s)&&(tied ts (lastI s) p&&(mateI ps p).isSome)) T:=
      T_and (T_cm (S:=T) (a0h' (i:=1) rfl) (a0h' (i:=0) rfl) a7M') (T_and (T_c3 a2M' (a0h' (i:=3) rfl) (b0X' s1 rfl) (a0h' (i:=1) rfl) hh) (T_cm (S:=T) (a3w' a1k' (a0h' (i:=2) rfl) (a0h' (i:=1) rfl) hm) a1d' (b2k' _)))
     show(match a0p' (.var 1) (.int p) [some (ntD s),none,some (.tup (tiesD ps)),some (webD m ts)]with
      |some ρ'=>(denTs a0c' G0 [stT] ρ' T).bind fun k S3=>if k=true then denB a0c' G0 (.emit stE) ρ' acc S3 else .ok acc S3
      |none=>.fail)=_
     rw[h2]
     cases hb:(!decide (p∈s)&&(tied ts (lastI s) p&&(mateI ps p).isSome))with
     |false=>
      rw[hb]at t
      simp only[denTs,t,Res.bind,Zv,Z5]
     |true=>
      rw[hb]at t
      have hso:(mateI ps p).isSome=true:=by
       rw[Zt,Zt]at hb
       exact hb.2.2
      obtain⟨q,hq⟩:=Yg.mp hso
      rw[hq]at hm⊢
      have e:den a0c' G0 stE [some (ntD s),some (.int p),some (.tup (tiesD ps)),some (webD m ts)] T=.ok (ntD (s++[p,q])) T:=by
       refine a2P' (e:=.tup [.int p,.int q]) (a0h' (i:=0) rfl) ?_ ?_
       ·exact K32.b0K' (S1:=T) (a0h' (i:=1) rfl) (a3w' a1k' (a0h' (i:=2) rfl) (a0h' (i:=1) rfl) hm)
       ·have:=b0Q' (S:=T) (p:=s.map D.int) (q:=[.int p,.int q]) (by rw[Zk];simp;omega)
        have e9:ntD (s++[p,q])=.tup (s.map D.int++[.int p,.int q]):=by unfold ntD;rw[List.map_append];rfl
        rw[e9]
        exact this
      simp only[denTs,t,Res.bind,if_true,denB,e,ha',Option.getD_some]) (by rw[K32.a0k'];show _≤16777216;omega)
   have e2:(sKid m ts ps s).map ntD=((a0G' 0 m.toNat).filter fun p=> !decide (p∈s)&&(tied ts (lastI s) p&&(mateI ps p).isSome)).map fun p=>ntD (s++[p,(mateI ps p).getD 0]):=by
    unfold sKid
    rw[Yj]
    rfl
   show(match a0p' (.var 0) (ntD s) [none,none,some (.tup (tiesD ps)),some (webD m ts)]with
    |some ρ'=>(denTs a0c' G0 [] ρ' T).bind fun k S3=>if k=true then denB a0c' G0 (.inner (.var 1) (.range [.idx (.var 3) (.lit (.int 0))]) [stT] (.emit stE)) ρ' acc S3 else .ok acc S3
    |none=>.fail)=_
   rw[h1,e2]
   simp only[denTs,Res.bind,if_true,denB,hI]
   exact hin) (by show 0+8*G.length≤16777216;omega)
 rw[List.map_flatMap]
 exact key
theorem a3b'(W:Web m ts):∀k:Nat,(stemN m ts ps k).length≤8^(k+1)
 |0=>by
  have w1:=W.lo
  have w2:=W.hi
  unfold stemN a4l'
  rw[Zk]
  refine ZB (ZU _ _) ?_
  rw[K32.a0k']
  omega
 |k+1=>by
  have w1:=W.lo
  have w2:=W.hi
  have ih:=a3b' W k
  unfold stemN
  have:=K32.b0R' (f:=sKid m ts ps) (c:=8) (R:=stemN m ts ps k) fun p _=>by
   unfold sKid
   rw[Zk]
   refine ZB (ZU _ _) ?_
   rw[K32.a0k']
   omega
  rw[Nat.pow_succ]
  omega
theorem b4E'(O:Ok2 m ts ps):stemN m ts ps 4=[]:=by
 cases h:stemN m ts ps 4 with
 |nil=>rfl
 |cons p r=>
  have hp:p∈stemN m ts ps 4:=by rw[h];exact Zc
  obtain⟨h1,h2⟩:=(a3a' O 4).mp hp
  have:=h1.len8 O.W
  omega
theorem tru_lst(xs:List D):truD T (.lst xs)=some (!xs.isEmpty):=rfl
theorem a7b'(O:Ok2 m ts ps)(hT:Flat T):∀(f k:Nat),5≤k+f→k≤4→∃y2,a3B' (denT a0c' G0 (.var 2)) (denSs a0c' G0 stB) f [some (webD m ts),some (.tup (tiesD ps)),some (.lst ((stemN m ts ps k).map ntD)),some (.ref T.length)] (T++[((List.range k).flatMap (stemN m ts ps)).map ntD])=.ok (.next [some (webD m ts),some (.tup (tiesD ps)),y2,some (.ref T.length)]) (T++[(stems m ts ps).map ntD])
 |0,k,h,h4=>absurd h (by omega)
 |f+1,k,h,h4=>by
  have hT2:∀A:List (List Int),Flat (T++[A.map ntD]):=fun A=>hT.snoc (a5C' A)
  have tv:denT a0c' G0 (.var 2) [some (webD m ts),some (.tup (tiesD ps)),some (.lst ((stemN m ts ps k).map ntD)),some (.ref T.length)] (T++[((List.range k).flatMap (stemN m ts ps)).map ntD])=.ok (!((stemN m ts ps k).map ntD).isEmpty) (T++[((List.range k).flatMap (stemN m ts ps)).map ntD]):=by
   simp only[denT,Ze,Zd,tru_lst]
  unfold a3B'
  rw[tv]
  cases he:stemN m ts ps k with
  |nil=>
   refine⟨some (.lst (([]:List (List Int)).map ntD)),?_⟩
   have e:(List.range k).flatMap (stemN m ts ps)=stems m ts ps:=by
    have nx:∀j,stemN m ts ps (k+j)=[]:=by
     intro j
     induction j with
     |zero=>exact he
     |succ j ih=>show(stemN m ts ps (k+j)).flatMap _=[];rw[ih];rfl
    have key:∀j,(List.range (k+j)).flatMap (stemN m ts ps)=(List.range k).flatMap (stemN m ts ps):=by
     intro j
     induction j with
     |zero=>rfl
     |succ j ih=>
      rw[show k+(j+1)=k+j+1 from rfl,List.range_succ,List.flatMap_append,ih]
      simp[nx j]
    have:=key (4-k)
    rw[show k+(4-k)=4 by omega]at this
    exact this.symm
   rw[e]
   rfl
  |cons p R=>
   have hk:k≤3:=by
    rcases Nat.lt_or_ge k 4 with z|z
    ·omega
    ·have:k=4:=by omega
     subst this
     rw[b4E' O]at he
     cases he
   rw[←he]
   have hne:(!((stemN m ts ps k).map ntD).isEmpty)=true:=by rw[he];rfl
   have hlen:∀j,j≤4→(stemN m ts ps j).length≤32768:=fun j hj=>ZB (a3b' O.W j) (Nat.pow_le_pow_right (by omega) (show j+1≤5 by omega))
   have hA:((List.range k).flatMap (stemN m ts ps)).length≤200000:=by
    have:k=0∨k=1∨k=2∨k=3:=by omega
    have h0:=hlen 0 (by omega);have h1:=hlen 1 (by omega);have h2:=hlen 2 (by omega)
    rcases this with rfl|rfl|rfl|rfl<;>simp[List.range_succ,List.flatMap_append]<;>omega
   have hau:augD (.ref T.length) (.lst ((stemN m ts ps k).map ntD)) (T++[((List.range k).flatMap (stemN m ts ps)).map ntD])=.ok (.ref T.length) (T++[((List.range (k+1)).flatMap (stemN m ts ps)).map ntD]):=by
    unfold augD
    simp only[boxE,Py.a2H']
    have:=hlen k (by omega)
    rw[if_pos (by rw[Zk,Zk];show _≤16777216;omega),setE,List.range_succ,List.flatMap_append,←List.map_append]
    simp
   have eb:denSs a0c' G0 stB [some (webD m ts),some (.tup (tiesD ps)),some (.lst ((stemN m ts ps k).map ntD)),some (.ref T.length)] (T++[((List.range k).flatMap (stemN m ts ps)).map ntD])=.ok (.next [some (webD m ts),some (.tup (tiesD ps)),some (.lst ((stemN m ts ps (k+1)).map ntD)),some (.ref T.length)]) (T++[((List.range (k+1)).flatMap (stemN m ts ps)).map ntD]):=by
    have ec:=stC_den (T:=T++[((List.range (k+1)).flatMap (stemN m ts ps)).map ntD]) (ps:=ps) (hT2 _) O.W (G:=stemN m ts ps k) (fun s hs=>by
     have:=(a3a' O k).mp hs
     omega) (by have:=hlen k (by omega);omega) (x3:=some (.ref T.length))
    unfold stB
    refine(a0o' (ρ':=[some (webD m ts),some (.tup (tiesD ps)),some (.lst ((stemN m ts ps k).map ntD)),some (.ref T.length)]) (S':=T++[((List.range (k+1)).flatMap (stemN m ts ps)).map ntD]) ?_).trans ?_
    ·generalize webD m ts=w at*
     generalize(D.lst ((stemN m ts ps k).map ntD))=L at*
     simp only[denS,den,Res.bind,hau,Res.noErr,Ze,Zd]
     rfl
    ·exact(a0C' ec).trans rfl
   obtain⟨y2,ih⟩:=a7b' O hT f (k+1) (by omega) (by omega)
   refine⟨y2,?_⟩
   show(Res.bind (.ok (!((stemN m ts ps k).map ntD).isEmpty) _) fun b S1=>if b=true then Res.bind (denSs a0c' G0 stB _ S1) _ else _)=_
   rw[hne]
   show Res.bind (denSs a0c' G0 stB _ _) _=_
   rw[eb]
   exact ih
theorem b4F'(O:Ok2 m ts ps)(hS:Flat S)(hp:ps.length≤28):a0S' [webD m ts,.tup (tiesD ps)] S=.ok (.ref S.length) (S++[(stems m ts ps).map ntD]):=by
 refine K32.b2P' rfl ?_ hS (a5C' _)
 show denSs a0c' G0 a3K' [some (webD m ts),some (.tup (tiesD ps)),none,none] S=_
 have hlo:a2r' [webD m ts,.tup (tiesD ps)] S=.ok (.tup ((a4l' m ps).map D.int)) S:=K32.a9j' hS O.W.lo O.W.hi ts ps
 have hll:(a4l' m ps).length≤8:=by
  have h1:=O.W.lo
  have h2:=O.W.hi
  refine ZB (ZU _ _) ?_
  rw[K32.a0k']
  omega
 have e2:den a0c' G0 stG [some (webD m ts),some (.tup (tiesD ps)),none,none] S=.ok (.lst ((stemN m ts ps 0).map ntD)) S:=by
  have:=compAt (S:=S) (Φ:=a0c') (N:=["place"]) (fr:=[none]) (tg:=.var 0) (e:=.tup [.var 0]) (it:=.seq (.call "loose_of" [.var 0,.var 1])) (ρ:=[some (webD m ts),some (.tup (tiesD ps)),none,none]) (ds:=a4l' m ps) (h:=D.int) (r0:=[none]) (rs:=fun i=>[some (.int i)]) (f:=fun i=>ntD [i]) (a7I' (S:=S) (a3w' a2L' (a0h' (i:=0) rfl) (a0h' (i:=1) rfl) hlo) rfl) rfl (fun _ _=>rfl) (by omega) (fun i _=>by simp only[den,denL,Res.bind,Zd];rfl)
  unfold stemN
  rw[Yj]
  exact this
 obtain⟨y2,ew⟩:=a7b' O hS 12 0 (by omega) (by omega)
 rw[c_st_is]
 refine(a0C' e2).trans ?_
 show denSs a0c' G0 _ [some (webD m ts),some (.tup (tiesD ps)),some (.lst ((stemN m ts ps 0).map ntD)),none] S=_
 refine(a0C' (d:=.ref S.length) (S':=S++[([]:List (List Int)).map ntD]) (by simp only[den,denL,Res.bind,if_true];rfl)).trans ?_
 show denSs a0c' G0 _ [some (webD m ts),some (.tup (tiesD ps)),some (.lst ((stemN m ts ps 0).map ntD)),some (.ref S.length)] (S++[([]:List (List Int)).map ntD])=_
 refine(a0o' (ρ':=[some (webD m ts),some (.tup (tiesD ps)),y2,some (.ref S.length)]) (S':=S++[(stems m ts ps).map ntD]) ?_).trans (a2d' (K32.a6a' (a0h' (i:=3) rfl)))
 rw[denS]
 exact ew
end
end K32
end
section
namespace K32
open PySem PySem.Spec PyProof.Rows L2 Py
section
variable {S T:Store}{m:Int}{ts ps:List Ti}{n:Nat}
theorem a7c'{α:Type}{f:α→D}{g:α→List D}{c:Nat}{step:D→List D→Store→Res (List D)}{k:Nat}{xs:List α}(hg:∀x,(g x).length≤c)(hk:S[k]?=some (xs.map f))(h:∀x∈xs,∀acc,acc.length+c≤big→step (f x) acc S=.ok (acc++g x) S):∀n i acc,i+n=xs.length→acc.length+c*n≤big→compB step (a3z' k) (n+1) i acc S=.ok (acc++(xs.drop i).flatMap g) S:=by
 have hb:∀i,a3z' k S i=some ((xs.map f)[i]?):=fun i=>by unfold a3z';rw[hk];rfl
 intro n
 induction n with
 |zero=>
  intro i acc hi _
  unfold compB
  rw[hb,List.getElem?_eq_none (by rw[Zk];omega),List.drop_eq_nil_of_le (by omega)]
  simp
 |succ n ih=>
  intro i acc hi hl
  rw[Nat.mul_add,Nat.mul_one]at hl
  have hx:(xs.map f)[i]?=some (f xs[i]):=by rw[ZJ,Zg (by omega)];rfl
  unfold compB
  rw[hb,hx,List.drop_eq_getElem_cons (by omega)]
  dsimp only
  rw[h _ (List.getElem_mem _) acc (by omega)]
  refine(ih (i+1) (acc++g xs[i]) (by omega) (by have:=hg xs[i];rw[Zn];omega)).trans ?_
  rw[ZG,Zm]
def frD:List D→D
 | []=>.non
 |d::_=>d
theorem b0Y':Pairing ts []:=⟨.nil,fun _ h=>(by cases h),by simp⟩
end
end K32
end
section
namespace K32
open PySem PySem.Spec PyProof.Rows L2 Py
open Pc
theorem b4G'{Φ:FT}{Γ:Str→Option D}{body:List CS}{n np:Nat}{ds:List D}{S:Store}{A B:List D}(hl:ds.length=np)(h:denSs Φ Γ body (ds.map some++List.replicate (n-np) none) S=.ok (.ret (.ref (S.length+1))) (S++[A]++[B]))(hS:Flat S)(hB:lowL 0 B=true):runD Φ Γ body n np ds S=.ok (.ref S.length) (S++[B]):=by
 unfold runD
 rw[if_pos hl,h]
 show trim S.length (.ref (S.length+1)) _=_
 unfold trim
 have e1:(S++[A]++[B]).take S.length=S:=by rw[Zm,List.take_left' rfl]
 have e2:(S++[A]++[B])[S.length+1]?=some B:=by
  have:S.length+1=(S++[A]).length:=by simp
  rw[this];exact boxE
 rw[e1,if_pos hS.all,if_neg (by unfold lowD;simp)]
 simp only[e2]
 rw[if_pos ⟨K32.a1Q' B hB,by omega⟩]
end K32
end
section
namespace K32
open PySem PySem.Spec PyProof.Rows L2 Py
theorem y_all_stems:a0S'=K32.a0S':=rfl
theorem a9n':a0l'=K32.a0l':=rfl
theorem y_have_tie:a0E'=K32.a0E':=rfl
section
variable {S T:Store}{m:Int}{ts ps:List Ti}
def bD(p:List Int×List Int):D:=.tup [ntD p.1,ntD p.2]
theorem by2_map(n:Nat):by2L 0 n=(List.range n).map fun i:Nat=>D.int ((i*2:Nat):Int):=by
 refine List.ext_getElem? fun i=>?_
 rcases Nat.lt_or_ge i n with h|h
 ·rw[a9Y' 0 n i h,ZJ,List.getElem?_range h]
  simp
 ·rw[List.getElem?_eq_none (by rw[a3D'];exact h),List.getElem?_eq_none (by simp;exact h)]
theorem by2_m{j:Int}{ρ:Rho}{e:CE}{Φ:FT}(h0: -2≤j)(h1:j≤1000)(h:den Φ G0 e ρ T=.ok (.int j) T):denI Φ G0 (.by2 [.lit (.int 0),e,.lit (.int 2)]) ρ T=.ok (.items (by2L 0 ((j+1)/2).toNat)) T:=by
 simp only[denI,denL,den,h,Res.bind]
 rw[if_pos ⟨trivial,by omega,by omega,by omega,by omega⟩,show j-0+1=j+1 by omega]
theorem cut_to(e:List Int)(k:Nat):cutL (e.map D.int) none (some (k:Int))=(e.take k).map D.int:=by
 unfold cutL
 rw[HT.b2u',HT.a5D',Zk,Nat.sub_zero,List.drop_zero,←List.map_take]
 congr 1
 rcases Nat.lt_or_ge k e.length with h|h
 ·rw[Nat.min_eq_left (by omega)]
 ·rw[Nat.min_eq_right h,List.take_length,Yb h]
theorem b4H'(e:List Int)(k:Nat):cutL (e.map D.int) (some (k:Int)) none=(e.drop k).map D.int:=by
 unfold cutL
 rw[HT.b2u',HT.a5D',Zk,←List.map_drop,←List.map_take]
 congr 1
 rcases Nat.lt_or_ge k e.length with h|h
 ·rw[Nat.min_eq_left (by omega),Yb (by rw[Yd];omega)]
 ·rw[Nat.min_eq_right h,List.drop_length,List.drop_eq_nil_of_le h];simp
theorem c_ab_is:a2U'=[.expr (.call "must_be_pairing" [.var 0,.var 1]),.ret (.blt (.sorted true (.seq (.seq .int))) [abC])]:=rfl
def abP(ts:List Ti)(e:List Int)(i:Nat):Bool:=decide (gI e (i*2+1)<lastI e)&&tied ts (lastI e) (gI e (i*2))
def abL(ts:List Ti)(e:List Int):List D:=((List.range ((e.length-1)/2)).filter (abP ts e)).map fun i=>bD (e.take (i*2+1),e.drop (i*2))
theorem idx_o{e:List Int}{k:Nat}(h:k<e.length):idxD (ntD e) (.int (k:Int)) T=.ok (.int (gI e k)) T:=idx_at (T:=T) (d:=ntD e) (o:=e) rfl h
theorem b2W'{α β:Type}{p:α→Bool}{g:α→β}{f:α→List β}:∀{l:List α},(∀x∈l,f x=if p x=true then [g x]else [])→l.flatMap f=(l.filter p).map g
 | [],_=>rfl
 |x::l,h=>by
  rw[ZG,h x Zc,b2W' fun y hy=>h y (Zb _ hy)]
  cases hp:p x with
  |true=>rw[List.filter_cons_of_pos hp];rfl
  |false=>rw[List.filter_cons_of_neg (by rw[hp];simp)];rfl
theorem abL_is(e:List Int):((List.range ((e.length-1)/2)).flatMap fun i=>bl ts i e).map bD=abL ts e:=by
 rw[b2W' (p:=abP ts e) (g:=fun i=>(e.take (i*2+1),e.drop (i*2))),Yj]
 ·rfl
 ·intro i hi
  have hi:=List.mem_range.mp hi
  have h2:2*i+2<e.length+1:=by omega
  have e1:gI (e.drop (2*i)) 1=gI e (i*2+1):=by
   unfold gI
   rw[Zx,Zx,List.getElem?_drop,show 2*i+1=i*2+1 by omega]
  have e0:gI (e.drop (2*i)) 0=gI e (i*2):=by
   unfold gI
   rw[Zx,Zx,List.getElem?_drop,show 2*i+0=i*2 by omega]
  have e2:lastI (e.drop (2*i))=lastI e:=by
   unfold lastI gI
   rw[Zx,Zx,List.getElem?_drop,Yd,show 2*i+(e.length-2*i-1)=e.length-1 by omega]
  have hb:a1o' ts (e.drop (2*i))=abP ts e i:=by
   unfold a1o' abP tied
   rw[e0,e1,e2,Yd,ZK (show 1<e.length-2*i by omega),Bool.true_and,K32.a3T']
   rfl
  unfold bl
  rw[hb,show 2*i=i*2 by omega]
theorem b2X'(e:List Int)(h:e.length≤8):(abL ts e).length≤3:=by
 unfold abL
 rw[Zk]
 refine ZB (ZU _ _) ?_
 rw[List.length_range]
 omega
theorem a5a'(O:Ok2 m ts ps):(stems m ts ps).length≤4680:=by
 have h0:=a3b' (ps:=ps) O.W 0
 have h1:=a3b' (ps:=ps) O.W 1
 have h2:=a3b' (ps:=ps) O.W 2
 have h3:=a3b' (ps:=ps) O.W 3
 simp only[Nat.reduceAdd,Nat.reducePow]at h0 h1 h2 h3
 unfold stems
 simp[List.range_succ,List.flatMap_append]
 omega
theorem abC_den(O:Ok2 m ts ps)(hS:Flat S)(hp:ps.length≤28):den a0f' G0 abC [some (webD m ts),some (.tup (tiesD ps))] S=.ok (.lst ((pBl m ts ps).map bD)) (S++[(stems m ts ps).map ntD]):=by
 have hst:a0S' [webD m ts,.tup (tiesD ps)] S=_:=b4F' O hS hp
 have hT:Flat (S++[(stems m ts ps).map ntD]):=hS.snoc (a5C' _)
 have hl:=a5a' O
 have hI0:denI a0f' G0 abS [some (webD m ts),some (.tup (tiesD ps))] S=.ok (.live ((stems m ts ps).length+1) (a3z' S.length)) (S++[(stems m ts ps).map ntD]):=by
  unfold abS
  generalize webD m ts=w at*
  simp only[denI,den,denL,Res.bind,a1Y',hst,Ze,Zd,a1h',boxE,Option.getD_some,Zk]
 have hb:(S++[(stems m ts ps).map ntD])[S.length]?=some ((stems m ts ps).map ntD):=boxE
 refine a2y' hI0 ?_
 generalize S++[(stems m ts ps).map ntD]=T at*
 generalize S.length=b at*
 have key:=a7c' (f:=fun e=>ntD e) (g:=fun e=>if e.length≤8 then abL ts e else []) (c:=8) (S:=T) (k:=b) (xs:=stems m ts ps) (step:=fun x acc S2=>match a0p' (.var 0) x [none,none,some (webD m ts)]with
    |some ρ'=>(denTs a0f' G0 [] ρ' S2).bind fun k S3=>if k=true then denB a0f' G0 (.inner (.var 1) abI [abT] (.emit abE)) ρ' acc S3 else .ok acc S3
    |none=>.fail) (fun e=>by split<;>first|(rename_i h;exact ZB (b2X' e h) (by omega))|simp) hb (fun e he acc hac=>by
   have hac:acc.length+8≤16777216:=hac
   have hs1:=(a4u' O).mp he
   have s1:=hs1.1.ne
   have s8:=hs1.1.len8 O.W
   rw[if_pos s8]
   have h1:a0p' (.var 0) (ntD e) [none,none,some (webD m ts)]=some [some (ntD e),none,some (webD m ts)]:=rfl
   have hln:lenD [ntD e] T=.ok (.int (e.length:Nat)) T:=by simp[lenD,seqOf,ntD]
   have hI:denI a0f' G0 abI [some (ntD e),none,some (webD m ts)] T=.ok (.items ((List.range ((e.length-1)/2)).map fun i:Nat=>D.int ((i*2:Nat):Int))) T:=by
    rw[←by2_map]
    have:=by2_m (T:=T) (Φ:=a0f') (ρ:=[some (ntD e),none,some (webD m ts)]) (j:=(e.length:Int)-2) (e:=.bin .Sub (.blt .len [.var 0]) (.lit (.int 2))) (by omega) (by omega) (a2P' (K32.b2i' (a0h' (i:=0) rfl) hln) a1d' rfl)
    rw[show(((e.length:Int)-2+1)/2).toNat=(e.length-1)/2 by omega]at this
    exact this
   have hin:=a0Y' (f:=fun i:Nat=>D.int ((i*2:Nat):Int)) (p:=abP ts e) (e:=fun i=>bD (e.take (i*2+1),e.drop (i*2))) (S:=T) (step:=fun x acc S2=>match a0p' (.var 1) x [some (ntD e),none,some (webD m ts)]with
    |some ρ'=>(denTs a0f' G0 [abT] ρ' S2).bind fun k S3=>if k=true then denB a0f' G0 (.emit abE) ρ' acc S3 else .ok acc S3
    |none=>.fail) (List.range ((e.length-1)/2)) acc (fun i hi acc ha=>by
     have hi:=List.mem_range.mp hi
     have ha':acc.length<16777216:=ha
     have h2:a0p' (.var 1) (.int ((i*2:Nat):Int)) [some (ntD e),none,some (webD m ts)]=some [some (ntD e),some (.int ((i*2:Nat):Int)),some (webD m ts)]:=rfl
     have hadd:den a0f' G0 (.bin .Add (.var 1) (.lit (.int 1))) [some (ntD e),some (.int ((i*2:Nat):Int)),some (webD m ts)] T=.ok (.int ((i*2+1:Nat):Int)) T:=a2P' (a0h' (i:=1) rfl) a1d' rfl
     have hh:a0E' [webD m ts,.int (lastI e),.int (gI e (i*2))] T=.ok (.bl (tied ts (lastI e) (gI e (i*2)))) T:=K32.a5B' hT m ts _ _
     have t:denT a0f' G0 abT [some (ntD e),some (.int ((i*2:Nat):Int)),some (webD m ts)] T=.ok (abP ts e i) T:=
      T_and (T_cm (S:=T) (a2O' (a0h' (i:=0) rfl) hadd (idx_o (by omega))) (b0X' s1 rfl) rfl) (T_c3 a2s' (a0h' (i:=2) rfl) (b0X' s1 rfl) (a2O' (a0h' (i:=0) rfl) (a0h' (i:=1) rfl) (idx_o (by omega))) hh)
     have ee:den a0f' G0 abE [some (ntD e),some (.int ((i*2:Nat):Int)),some (webD m ts)] T=.ok (bD (e.take (i*2+1),e.drop (i*2))) T:=by
      have q1:slD (ntD e) none (some ((i*2+1:Nat):Int)) T=.ok (ntD (e.take (i*2+1))) T:=by
       show Res.ok (D.tup (cutL (e.map D.int) none (some _))) T=_
       rw[cut_to];rfl
      have q2:slD (ntD e) (some ((i*2:Nat):Int)) none T=.ok (ntD (e.drop (i*2))) T:=by
       show Res.ok (D.tup (cutL (e.map D.int) (some _) none)) T=_
       rw[b4H'];rfl
      unfold abE bD
      simp only[den,denL,Res.bind,Ze,Zd]at hadd⊢
      simp only[hadd,Res.bind,optL,toOpt,q1,q2]
      simp only[Res.noErr,q2]
     show(match a0p' (.var 1) (.int ((i*2:Nat):Int)) [some (ntD e),none,some (webD m ts)]with
      |some ρ'=>(denTs a0f' G0 [abT] ρ' T).bind fun k S3=>if k=true then denB a0f' G0 (.emit abE) ρ' acc S3 else .ok acc S3
      |none=>.fail)=_
     rw[h2]
     cases hb2:abP ts e i with
     |false=>
      rw[hb2]at t
      simp only[denTs,t,Res.bind,Zv,Z5]
     |true=>
      rw[hb2]at t
      simp only[denTs,t,Res.bind,if_true,denB,ee,ha']) (by rw[List.length_range];show _≤16777216;omega)
   show(match a0p' (.var 0) (ntD e) [none,none,some (webD m ts)]with
    |some ρ'=>(denTs a0f' G0 [] ρ' T).bind fun k S3=>if k=true then denB a0f' G0 (.inner (.var 1) abI [abT] (.emit abE)) ρ' acc S3 else .ok acc S3
    |none=>.fail)=_
   rw[h1]
   simp only[denTs,Res.bind,if_true,denB,hI]
   exact hin) (stems m ts ps).length 0 [] (by simp) (by show 0+8*(stems m ts ps).length≤16777216;omega)
 rw[Z1,List.drop_zero]at key
 have e9:(pBl m ts ps).map bD=(stems m ts ps).flatMap fun e=>if e.length≤8 then abL ts e else []:=by
  unfold pBl
  rw[List.map_flatMap]
  exact a2A' fun e he=>by rw[abL_is,if_pos (((a4u' O).mp he).1.len8 O.W)]
 rw[e9]
 exact key
theorem ty_bD(p:List Int×List Int):hasTy (.seq (.seq .int)) (bD p)=true:=by
 have h:∀l:List Int,hasTy (.seq .int) (ntD l)=true:=fun l=>by
  show(l.map D.int).all (hasTy .int)=true
  rw[ZN]
  intro y hy
  obtain⟨n,_,rfl⟩:=ZI.mp hy
  rfl
 show(hasTy (.seq .int) (ntD p.1)&&(hasTy (.seq .int) (ntD p.2)&&true))=true
 rw[h,h];rfl
theorem b2Y'{F:List (List Int×List Int)}(hl:F.length<65536)(box:Bool){d:D}(hd:seqOf S d=some (F.map bD)):a4z' box (.seq (.seq .int)) [d] S=if box=true then .ok (.ref S.length) (S++[a4i' (ltK (.seq (.seq .int))) (F.map bD)])else .ok (.lst (a4i' (ltK (.seq (.seq .int))) (F.map bD))) S:=by
 have e1:(F.map bD).all (hasTy (.seq (.seq .int)))=true:=by
  rw[ZN]
  intro x hx
  obtain⟨p,_,rfl⟩:=ZI.mp hx
  exact ty_bD p
 have e2:a4y' (.seq (.seq .int)) (F.map bD)=true:=by
  show(true&&(((F.map bD).all fun d=> !isNil d)||isNil ((F.map bD).headD .non)))=true
  have:((F.map bD).all fun d=> !isNil d)=true:=by
   rw[ZN]
   intro x hx
   obtain⟨p,hp,rfl⟩:=ZI.mp hx
   rfl
  rw[this];rfl
 unfold a4z'
 simp only[hd]
 rw[if_pos ⟨e1,by rw[Zk];exact hl,e2⟩]
def dueB(m:Int)(ts ps:List Ti):List D:=a4i' (ltK (.seq (.seq .int))) ((pBl m ts ps).map bD)
theorem b2q'(O:Ok2 m ts ps):a4i' (ltK (.seq (.seq .int))) ((lBl m ts ps).map bD)=dueB m ts ps:=by
 have hty:∀F:List (List Int×List Int),∀x∈F.map bD,hasTy (.seq (.seq .int)) x=true:=fun F x hx=>by
  obtain⟨p,_,rfl⟩:=ZI.mp hx
  exact ty_bD p
 exact a4D' rfl (hty _) ((a2k' _ _).trans ((b2V' O).symm.map bD)) (a4C' (lordK (.seq (.seq .int)) rfl) _ (hty _))
theorem low_bD(p:List Int×List Int):lowD 0 (bD p)=true:=by
 have h1:=b4v' p.1
 have h2:=b4v' p.2
 show(lowD 0 (ntD p.1)&&(lowD 0 (ntD p.2)&&true))=true
 rw[h1,h2];rfl
theorem b2Z'(F:List (List Int×List Int)):lowL 0 (F.map bD)=true:=K32.a2z'.mpr fun x hx=>by
 obtain⟨p,_,rfl⟩:=ZI.mp hx
 exact low_bD p
theorem a7N'{d:D}(h:d∈dueB m ts ps):∃p∈pBl m ts ps,d=bD p:=by
 obtain⟨p,hp,rfl⟩:=ZI.mp ((a2k' _ _).mem_iff.mp h)
 exact⟨p,hp,rfl⟩
theorem a5b':lowL 0 (dueB m ts ps)=true:=K32.a2z'.mpr fun x hx=>by
 obtain⟨p,_,rfl⟩:=a7N' hx
 exact low_bD p
theorem a2B'{α β:Type}{f:α→List β}{c:Nat}:∀{R:List α},(∀p∈R,(f p).length≤c)→(R.flatMap f).length≤R.length*c
 | [],_=>by simp
 |p::R,h=>by
  have h1:=h p Zc
  have h2:=a2B' (R:=R) fun q hq=>h q (Zb _ hq)
  rw[ZG,Zn,Zy,Nat.add_mul,Nat.one_mul]
  omega
theorem b0Z'(O:Ok2 m ts ps):(pBl m ts ps).length≤14040:=by
 have h1:=a5a' O
 unfold pBl
 have:=a2B' (f:=fun e=>(List.range ((e.length-1)/2)).flatMap fun i=>bl ts i e) (c:=3) (R:=stems m ts ps) fun e he=>by
  have h8:=((a4u' O).mp he).1.len8 O.W
  have:=b2X' (ts:=ts) e h8
  rw[←abL_is,Zk]at this
  exact this
 omega
theorem b4I'(O:Ok2 m ts ps):(dueB m ts ps).length≤14040:=by
 unfold dueB
 rw[(a2k' _ _).length_eq,Zk]
 exact b0Z' O
theorem a7d'(O:Ok2 m ts ps)(hS:Flat S)(hp:ps.length≤28):a0I' [webD m ts,.tup (tiesD ps)] S=.ok (.ref S.length) (S++[dueB m ts ps]):=by
 have hmb:a0l' [webD m ts,.tup (tiesD ps)] S=.ok .non S:=K32.a2Y' hS O.W O.P (by omega)
 have hc:=abC_den O hS hp
 have hso:=b2Y' (S:=S++[(stems m ts ps).map ntD]) (F:=pBl m ts ps) (by have:=b0Z' O;omega) true (d:=.lst ((pBl m ts ps).map bD)) rfl
 rw[if_pos rfl]at hso
 have hd:denSs a0f' G0 a2U' [some (webD m ts),some (.tup (tiesD ps))] S=.ok (.ret (.ref (S.length+1))) (S++[(stems m ts ps).map ntD]++[dueB m ts ps]):=by
  rw[c_ab_is]
  refine(a0o' (ρ':=[some (webD m ts),some (.tup (tiesD ps))]) (S':=S) ?_).trans ?_
  ·generalize webD m ts=w at*
   simp only[denS,den,denL,Res.bind,a1c',hmb,Ze,Zd]
  refine a2d' (K32.a6a' ?_)
  rw[Zn]at hso
  generalize abC=q at hc⊢
  simp only[den,denL,hc,Res.bind,bltD,hso,Res.noErr]
  rfl
 exact K32.b4G' rfl hd hS a5b'
end
end K32
end
section
namespace K32
open PySem PySem.Spec PyProof.Rows L2 Py
section
variable {S T:Store}{m:Int}{ts ps:List Ti}
theorem b3a'{r:List Int}{i v:Int}(h0:0≤i)(h1:i<r.length):setD (.ref S.length) (.int i) (.int v) (S++[r.map D.int])=some (S++[(r.set i.toNat v).map D.int]):=by
 unfold setD
 simp only[boxE]
 have e:ixN (r.map D.int).length i=some i.toNat:=by
  unfold ixN
  rw[if_pos h0,if_pos (by rw[Zk];omega)]
 rw[e]
 simp only[setE,List.map_set]
theorem mul1{k:Int}(h:0≤k∧k≤1000):mulBD (.lst [.int (-1)]) (.int k) S=.ok (.ref S.length) (S++[(List.replicate k.toNat (-1:Int)).map D.int]):=by
 have z:∀n:Nat,(List.replicate n [D.int (-1)]).flatten=(List.replicate n (-1:Int)).map D.int:=fun n=>by
  induction n with
  |zero=>rfl
  |succ n ih=>rw[ZW,ZW,List.flatten_cons,ih];rfl
 show(if-(2^63)≤k∧k<2^63∧1*k.toNat≤big then Res.ok (D.ref S.length) (S++[(List.replicate k.toNat [D.int (-1)]).flatten])else .fail)=_
 rw[if_pos ⟨by omega,by omega,by show _≤16777216;omega⟩,z]
def a0r'(m:Int)(ps:List Ti):List Int:=(List.range m.toNat).map fun i=>mt ps (i:Nat)
theorem b4J'(qs rs:List Ti)(p:Int):mateI (qs++rs) p=(mateI qs p).or (mateI rs p):=by
 induction qs with
 |nil=>rfl
 |cons t qs ih=>
  have e:∀l,mateI (t::l) p=if p=t.1 then some t.2 else if p=t.2 then some t.1 else mateI l p:=fun _=>rfl
  rw[List.cons_append,e,e]
  split
  ·rfl
  ·split
   ·rfl
   ·exact ih
theorem b3b'{x:Int}:∀{qs:List Ti},x∉a0J' qs→mateI qs x=none
 | [],_=>rfl
 |t::qs,h=>by
  have e:a0J' (t::qs)=t.1::t.2::a0J' qs:=rfl
  rw[e]at h
  simp only[Zr,not_or]at h
  show(if x=t.1 then some t.2 else if x=t.2 then some t.1 else mateI qs x)=none
  rw[if_neg h.1,if_neg h.2.1]
  exact b3b' h.2.2
theorem mt_snoc{qs:List Ti}{a b:Int}(ha:mateI qs a=none)(hb:mateI qs b=none)(p:Int):mt (qs++[(a,b)]) p=if p=b then a else if p=a then b else mt qs p:=by
 unfold mt
 rw[b4J']
 rcases Decidable.em (p=b)with e|e
 ·rw[if_pos e,e,hb]
  show(if b=a then some b else if b=b then some a else none).getD (-1)=a
  split
  ·rename_i h;rw[h];rfl
  ·rw[if_pos rfl];rfl
 ·rw[if_neg e]
  rcases Decidable.em (p=a)with e2|e2
  ·rw[if_pos e2,e2,ha]
   show(if a=a then some b else _).getD (-1)=b
   rw[if_pos rfl];rfl
  ·rw[if_neg e2]
   have:mateI [(a,b)] p=none:=by
    show(if p=a then some b else if p=b then some a else none)=none
    rw[if_neg e2,if_neg e]
   rw[this]
   cases mateI qs p<;>rfl
theorem b3c'{n a:Nat}{f:Nat→Int}{v:Int}:((List.range n).map f).set a v=(List.range n).map fun i=>if i=a then v else f i:=by
 refine List.ext_getElem? fun i=>?_
 rw[List.getElem?_set]
 rcases Nat.lt_or_ge i n with h|h
 ·rcases Decidable.em (a=i)with e|e
  ·subst e
   rw[if_pos rfl,if_pos (by simp;exact h),ZJ,List.getElem?_range h]
   simp
  ·rw[if_neg e,ZJ,ZJ,List.getElem?_range h]
   have e':¬i=a:=fun z=>e z.symm
   simp[e']
 ·have z:((List.range n).map fun i=>if i=a then v else f i)[i]?=none:=List.getElem?_eq_none (by simp;exact h)
  have z2:((List.range n).map f)[i]?=none:=List.getElem?_eq_none (by simp;exact h)
  rw[z,z2]
  split
  ·rw[if_neg (by simp;omega)]
  ·rfl
theorem b1a'{qs:List Ti}{a b:Int}(ha:mateI qs a=none)(hb:mateI qs b=none)(h0:0≤a)(h1:0≤b):((a0r' m qs).set a.toNat b).set b.toNat a=a0r' m (qs++[(a,b)]):=by
 unfold a0r'
 rw[b3c',b3c']
 refine List.map_congr_left fun i _=>?_
 rw[mt_snoc ha hb]
 have e1:(i=b.toNat)=((i:Int)=b):=propext ⟨fun _=>by omega,fun _=>by omega⟩
 have e2:(i=a.toNat)=((i:Int)=a):=propext ⟨fun _=>by omega,fun _=>by omega⟩
 simp only[e1,e2]
theorem c_ma_is:a3L'=[.asg 2 maZ,.for_ (.tup [.var 3,.var 4]) (.seq (.var 1)) maB,.ret (.var 2)]:=rfl
theorem a7e'(O:Ok2 m ts ps){w p:Option D}:∀(rs qs:List Ti) (x3 x4:Option D),ps=qs++rs→∃y3 y4,forD (fun x ρ S=>match asgCT (.tup [.var 3,.var 4]) x ρ with
   |some ρ'=>denSs a0T' G0 maB ρ' S
   |none=>.fail) (rs.map tieD) [w,p,some (.ref S.length),x3,x4] (S++[(a0r' m qs).map D.int])=.ok (.next [w,p,some (.ref S.length),y3,y4]) (S++[(a0r' m ps).map D.int])
 | [],qs,x3,x4,h=>⟨x3,x4,by rw[h,Z2];rfl⟩
 | (a,b)::rs,qs,x3,x4,h=>by
  have hm:(a,b)∈ps:=by rw[h];simp
  have ht:=O.W.tie _ (O.P.sub _ hm)
  have ht:0≤a∧a<b∧b<m:=ht
  have hlen:∀q:List Ti,(a0r' m q).length=m.toNat:=fun q=>by unfold a0r';simp
  have hun:(a0J' ps).Nodup:=O.P.un
  have hno:∀x,x=a∨x=b→mateI qs x=none:=fun x hx=>by
   have:x∉a0J' qs:=fun hin=>by
    rw[h]at hun
    have e:a0J' (qs++(a,b)::rs)=a0J' qs++a0J' ((a,b)::rs):=by simp[a0J']
    rw[e]at hun
    have:=(Z6.mp hun).2.2 x hin x (by rcases hx with rfl|rfl<;>simp[a0J'])
    exact this rfl
   exact b3b' this
  have s1:=b3a' (S:=S) (r:=a0r' m qs) (i:=a) (v:=b) (by omega) (by rw[hlen];omega)
  have s2:=b3a' (S:=S) (r:=(a0r' m qs).set a.toNat b) (i:=b) (v:=a) (by omega) (by rw[List.length_set,hlen];omega)
  rw[b1a' (hno a (.inl rfl)) (hno b (.inr rfl)) (by omega) (by omega)]at s2
  obtain⟨y3,y4,ih⟩:=a7e' O (w:=w) (p:=p) rs (qs++[(a,b)]) (some (.int a)) (some (.int b)) (by rw[h];simp)
  refine⟨y3,y4,?_⟩
  rw[ZH]
  unfold forD
  have ea:asgCT (.tup [.var 3,.var 4]) (tieD (a,b)) [w,p,some (.ref S.length),x3,x4]=some [w,p,some (.ref S.length),some (.int a),some (.int b)]:=rfl
  have eb:denSs a0T' G0 maB [w,p,some (.ref S.length),some (.int a),some (.int b)] (S++[(a0r' m qs).map D.int])=.ok (.next [w,p,some (.ref S.length),some (.int a),some (.int b)]) (S++[(a0r' m (qs++[(a,b)])).map D.int]):=by
   unfold maB
   refine(a0o' (ρ':=[w,p,some (.ref S.length),some (.int a),some (.int b)]) (S':=S++[((a0r' m qs).set a.toNat b).map D.int]) ?_).trans ?_
   ·simp only[denS,den,Res.bind,Ze,Zd,s1]
   ·refine(a0o' (ρ':=[w,p,some (.ref S.length),some (.int a),some (.int b)]) (S':=S++[(a0r' m (qs++[(a,b)])).map D.int]) ?_).trans rfl
    simp only[denS,den,Res.bind,Ze,Zd,s2]
  rw[ea]
  dsimp only
  rw[eb]
  exact ih
theorem b4K'(O:Ok2 m ts ps)(hS:Flat S):a2G' [webD m ts,.tup (tiesD ps)] S=.ok (.ref S.length) (S++[(a0r' m ps).map D.int]):=by
 have w1:=O.W.lo
 have w2:=O.W.hi
 refine K32.b2P' rfl ?_ hS (K32.a2z'.mpr fun x hx=>by obtain⟨n,_,rfl⟩:=ZI.mp hx;rfl)
 show denSs a0T' G0 a3L' [some (webD m ts),some (.tup (tiesD ps)),none,none,none] S=_
 rw[c_ma_is]
 have hz:den a0T' G0 maZ [some (webD m ts),some (.tup (tiesD ps)),none,none,none] S=.ok (.ref S.length) (S++[(a0r' m ([]:List Ti)).map D.int]):=by
  have e0:(a0r' m ([]:List Ti)).map D.int=(List.replicate m.toNat (-1:Int)).map D.int:=by
   congr 1
   unfold a0r'
   rw[show(fun i:Nat=>mt ([]:List Ti) (i:Nat))=fun _=> -1 from rfl,List.map_const',List.length_range]
  rw[e0]
  have hw:den a0T' G0 (.idx (.var 0) (.lit (.int 0))) [some (webD m ts),some (.tup (tiesD ps)),none,none,none] S=.ok (.int m) S:=a2O' (a0h' (i:=0) rfl) a1d' rfl
  have hl:den a0T' G0 (.lst false [.neg (.lit (.int 1))]) [some (webD m ts),some (.tup (tiesD ps)),none,none,none] S=.ok (.lst [.int (-1)]) S:=by simp only[den,denL,Res.bind,Zv,Z5]
  have:=mul1 (S:=S) (k:=m) (by omega)
  unfold maZ
  rw[den,hl]
  simp only[Res.bind,hw,this,Res.noErr]
 obtain⟨y3,y4,ef⟩:=a7e' (S:=S) O (w:=some (webD m ts)) (p:=some (.tup (tiesD ps))) ps [] none none rfl
 refine(a0C' hz).trans ?_
 refine(a0o' (ρ':=[some (webD m ts),some (.tup (tiesD ps)),some (.ref S.length),y3,y4]) (S':=S++[(a0r' m ps).map D.int]) ?_).trans ?_
 ·exact(a4k' (Γ:=G0) (a7I' (a0h' (i:=1) rfl) rfl)).trans ef
 ·exact a2d' (K32.a6a' (a0h' (i:=2) rfl))
end
end K32
end
section
namespace K32
open PySem PySem.Spec PyProof.Rows L2 Py
theorem y_law_near:a1l'=K32.a1l':=rfl
section
variable {S T:Store}{m:Int}{ts ps:List Ti}
theorem a6c'(W:Web m ts){p n:Int}(hn:n∈nearL ts p):0≤n∧n<m:=by
 obtain⟨t,ht,rfl⟩:=ZI.mp hn
 obtain⟨hm,hp⟩:=ZT.mp ht
 have hp:=of_decide_eq_true hp
 have:=W.tie t hm
 omega
theorem compF{α:Type}{Φ:FT}{e t:CE}{N:List Str}{fr:List (Option Nat)}{tg:CT}{ρ:Rho}{rs:α→Rho}{r0:Rho}{it:CE}{ds:List α}{h:α→D}{f:α→D}{p:α→Bool}(hi:denI Φ G0 it ρ S=.ok (.items (ds.map h)) S)(hr:fr.map (fun j=>j.bind fun j=>(ρ[j]?).join)=r0)
  (ha:∀d∈ds,a0p' tg (h d) r0=some (rs d)) (hl:ds.length≤100000) (ht:∀d∈ds,denT Φ G0 t (rs d) S=.ok (p d) S) (he:∀d∈ds,p d=true→den Φ G0 e (rs d) S=.ok (f d) S):den Φ G0 (.comp false N fr tg it [t] (.emit e)) ρ S=.ok (.lst ((ds.filter p).map f)) S:=by
 refine a2y' hi ?_
 rw[hr]
 have:=a0Y' (f:=h) (p:=p) (e:=f) (S:=S) (step:=fun y acc S2=>match a0p' tg y r0 with
    |some ρ'=>(denTs Φ G0 [t] ρ' S2).bind fun k S3=>if k=true then denB Φ G0 (.emit e) ρ' acc S3 else .ok acc S3
    |none=>.fail) ds [] (fun d hd acc hac=>by
     have ha':acc.length<16777216:=hac
     show(match a0p' tg (h d) r0 with
      |some ρ'=>(denTs Φ G0 [t] ρ' S).bind fun k S3=>if k=true then denB Φ G0 (.emit e) ρ' acc S3 else .ok acc S3
      |none=>.fail)=_
     rw[ha d hd]
     have q:=ht d hd
     cases hb:p d with
     |false=>
      rw[hb]at q
      simp only[denTs,q,Res.bind,Zv,Z5]
     |true=>
      rw[hb]at q
      simp only[denTs,q,Res.bind,if_true,denB,he d hd hb,ha']) (show 0+ds.length≤16777216 by omega)
 rw[Z1]at this
 exact this
theorem c_tu_is:a1E'=[.asg 4 (.lst false []),.asg 5 (.var 2),.while_ 12 tuW tuD,.ret (.var 4)]:=rfl
theorem a6d'{k:Nat}(hk:T[k]?=some ((a0r' m ps).map D.int)){p:Int}(h0:0≤p)(h1:p<m):idxD (.ref k) (.int p) T=.ok (.int (mt ps p)) T:=by
 have hp:p=((p.toNat:Nat):Int):=by omega
 have hg:gI (a0r' m ps) p.toNat=mt ps p:=by
  unfold gI a0r'
  rw[Zx,ZJ,List.getElem?_range (by omega)]
  show mt ps ((p.toNat:Nat):Int)=_
  rw[←hp]
 have:=idx_at (T:=T) (d:=.ref k) (o:=a0r' m ps) (i:=p.toNat) hk (by unfold a0r';simp;omega)
 rw[hg,←hp]at this
 exact this
theorem b4L'{a b:List Int}(h:a.length+b.length≤1000):opD .Add (ntD a) (ntD b) T=.ok (ntD (a++b)) T:=by
 have:=b0Q' (S:=T) (p:=a.map D.int) (q:=b.map D.int) (by rw[Zk,Zk];exact h)
 rw[←List.map_append]at this
 exact this
theorem tuS_den(O:Ok2 m ts ps)(hT:Flat T){k:Nat}(hk:T[k]?=some ((a0r' m ps).map D.int)){bar line:List Int}(h1:1≤line.length)(hl:line.length+bar.length≤20){x2 x4 x5 x6 x8:Option D}:
  den a0a' G0 tuS [some (webD m ts),some (.ref k),x2,some (ntD bar),x4,x5,x6,some (ntD line),x8] T=.ok (.lst (((nearL ts (lastI line)).filter fun p=>decide (0≤mt ps p)&& !decide (p∈line++bar)).map D.int)) T:=by
 have hn:a1l' [webD m ts,.int (lastI line)] T=.ok (.lst ((nearL ts (lastI line)).map D.int)) T:=K32.near_eq hT O.W _
 have hla:den a0a' G0 (.idx (.var 7) (.neg (.lit (.int 1)))) [some (webD m ts),some (.ref k),x2,some (ntD bar),x4,x5,x6,some (ntD line),x8] T=.ok (.int (lastI line)) T:=
  a2O' (a0h' (i:=7) rfl) (by simp only[den,Res.bind]) (K32.a7J' (S:=T) (d:=ntD line) (ns:=line) rfl h1)
 have hI:denI a0a' G0 tuN [some (webD m ts),some (.ref k),x2,some (ntD bar),x4,x5,x6,some (ntD line),x8] T=.ok (.items ((nearL ts (lastI line)).map D.int)) T:=
  a7I' (S:=T) (a3w' a2N' (a0h' (i:=0) rfl) hla hn) rfl
 refine compF (S:=T) (rs:=fun p=>[some (.int p),some (.ref k),some (ntD line),some (ntD bar)]) hI rfl (fun _ _=>rfl) (by have:=a7K' ts (lastI line);have:=O.W.few;omega) (fun p hp=>?_) fun p hp _=>a0h' (i:=0) rfl
 obtain⟨p0,p1⟩:=a6c' O.W hp
 exact T_and (T_cm (S:=T) (a2O' (a0h' (i:=1) rfl) (a0h' (i:=0) rfl) (a6d' hk p0 p1)) a1d' rfl) (T_cm (S:=T) (a0h' (i:=0) rfl) (a2P' (a0h' (i:=2) rfl) (a0h' (i:=3) rfl) (b4L' (by omega))) a7M')
theorem tuX_den(O:Ok2 m ts ps){k:Nat}(hk:T[k]?=some ((a0r' m ps).map D.int)){bar line:List Int}(hl:line.length+bar.length≤20){x0 x2 x4 x5 x6:Option D}:
  den a0a' G0 tuX [x0,some (.ref k),x2,some (ntD bar),x4,x5,x6,some (ntD line),some (.lst (((nearL ts (lastI line)).filter fun p=>decide (0≤mt ps p)&& !decide (p∈line++bar)).map D.int))] T=.ok (.lst ((lKid ts ps bar line).map ntD)) T:=by
 have e9:(lKid ts ps bar line).map ntD=(pick ts ps bar line).map fun p=>ntD (line++[p,mt ps p]):=by
  unfold lKid
  rw[Yj]
  rfl
 rw[e9]
 unfold pick
 refine compF (S:=T) (rs:=fun p=>[some (.int p),some (ntD line),some (.ref k),some (ntD bar)]) (a7I' (S:=T) (a0h' (i:=8) rfl) rfl) rfl (fun _ _=>rfl) ?_ (fun p hp=>?_) fun p hp _=>?_
 ·have:=a7K' ts (lastI line)
  have:=O.W.few
  have:=ZU (fun p=>decide (0≤mt ps p)&& !decide (p∈line++bar)) (nearL ts (lastI line))
  omega
 ·obtain⟨p0,p1⟩:=a6c' O.W (ZT.mp hp).1
  exact T_cm (S:=T) (a2O' (a0h' (i:=2) rfl) (a0h' (i:=0) rfl) (a6d' hk p0 p1)) (a2P' (a0h' (i:=1) rfl) (a0h' (i:=3) rfl) (b4L' (by omega))) a7M'
 ·obtain⟨p0,p1⟩:=a6c' O.W (ZT.mp hp).1
  have hm:=a6d' hk p0 p1
  refine a2P' (e:=ntD [p,mt ps p]) (a0h' (i:=1) rfl) ?_ (b4L' (by simp;omega))
  exact K32.b0K' (S1:=T) (a0h' (i:=0) rfl) (a2O' (a0h' (i:=2) rfl) (a0h' (i:=0) rfl) hm)
theorem a7O'(O:Ok2 m ts ps)(bar line:List Int):(lKid ts ps bar line).length≤28:=by
 unfold lKid pick
 rw[Zk]
 refine ZB (ZU _ _) (ZB (ZU _ _) (ZB (a7K' _ _) O.W.few))
end
end K32
end
section
namespace K32
open PySem PySem.Spec PyProof.Rows L2 Py
section
variable {S T:Store}{m:Int}{ts ps:List Ti}{k:Nat}{bar:List Int}
def Sh32(bar line:List Int):Prop:=1≤line.length∧line.length+bar.length≤20
theorem ext_E{A B:List D}(h:A.length+B.length≤16777216):a6l' (.ref T.length) [.lst B] (T++[A])=.ok .non (T++[A++B]):=by
 unfold a6l'
 simp only[boxE,Py.a2H']
 rw[if_pos (show A.length+B.length≤big from h),setE]
theorem b3d'(O:Ok2 m ts ps)(hT:Flat T)(hk:T[k]?=some ((a0r' m ps).map D.int)){line:List Int}(h:Sh32 bar line){A:List (List Int)}(hA:A.length+28≤16777216){x2 x4 x5 x8:Option D}:
  ∃y8,denSs a0a' G0 tuB [some (webD m ts),some (.ref k),x2,some (ntD bar),x4,x5,some (.ref T.length),some (ntD line),x8] (T++[A.map ntD])=.ok (.next [some (webD m ts),some (.ref k),x2,some (ntD bar),x4,x5,some (.ref T.length),some (ntD line),y8]) (T++[(A++lKid ts ps bar line).map ntD]):=by
 have hlt:=(Zh.mp hk).1
 have hT':Flat (T++[A.map ntD]):=hT.snoc (a5C' _)
 have hk':(T++[A.map ntD])[k]?=some ((a0r' m ps).map D.int):=by rw[Zo hlt];exact hk
 have e1:=tuS_den O hT' hk' (bar:=bar) (line:=line) h.1 h.2 (x2:=x2) (x4:=x4) (x5:=x5) (x6:=some (.ref T.length)) (x8:=x8)
 have e2:=tuX_den O hk' (bar:=bar) (line:=line) h.2 (x0:=some (webD m ts)) (x2:=x2) (x4:=x4) (x5:=x5) (x6:=some (.ref T.length))
 have e3:=ext_E (T:=T) (A:=A.map ntD) (B:=(lKid ts ps bar line).map ntD) (by
  have:=a7O' O bar line
  rw[Zk,Zk];omega)
 rw[←List.map_append]at e3
 generalize((nearL ts (lastI line)).filter fun p=>decide (0≤mt ps p)&& !decide (p∈line++bar)).map D.int=L at*
 refine⟨some (.lst L),?_⟩
 unfold tuB
 refine(a0C' e1).trans ?_
 show denSs a0a' G0 _ [some (webD m ts),some (.ref k),x2,some (ntD bar),x4,x5,some (.ref T.length),some (ntD line),some (.lst L)] _=_
 refine(a0o' (ρ':=[some (webD m ts),some (.ref k),x2,some (ntD bar),x4,x5,some (.ref T.length),some (ntD line),some (.lst L)]) (S':=T++[(A++lKid ts ps bar line).map ntD]) ?_).trans rfl
 generalize tuX=q at e2⊢
 generalize webD m ts=w at*
 simp only[denS,den,denL,Res.bind,e2,methD,e3,Res.noErr,Ze,Zd]
theorem b3e'(O:Ok2 m ts ps)(hT:Flat T)(hk:T[k]?=some ((a0r' m ps).map D.int)){x2 x4 x5:Option D}{step:D→Rho→Store→Res Fl}(hs:∀e ρ S',ρ.length=9→step e ρ S'=denSs a0a' G0 tuB (ρ.set 7 (some e)) S'):∀(R A:List (List Int)) (x7 x8:Option D),(∀l∈R,Sh32 bar l)→A.length+28*R.length≤16777216→∃y7 y8,
  forD step (R.map ntD) [some (webD m ts),some (.ref k),x2,some (ntD bar),x4,x5,some (.ref T.length),x7,x8] (T++[A.map ntD])=.ok (.next [some (webD m ts),some (.ref k),x2,some (ntD bar),x4,x5,some (.ref T.length),y7,y8]) (T++[(A++R.flatMap (lKid ts ps bar)).map ntD])
 | [],A,x7,x8,_,_=>⟨x7,x8,by rw[List.flatMap_nil,Z2];rfl⟩
 |p::R,A,x7,x8,hR,hA=>by
  rw[Zy,Nat.mul_add,Nat.mul_one]at hA
  obtain⟨y8,e⟩:=b3d' O hT hk (hR p Zc) (A:=A) (by omega) (x2:=x2) (x4:=x4) (x5:=x5) (x8:=x8)
  have hx:=a7O' O bar p
  obtain⟨z7,z8,ih⟩:=b3e' O hT hk hs R (A++lKid ts ps bar p) (some (ntD p)) y8 (fun q hq=>hR q (Zb _ hq)) (by rw[Zn];omega)
  refine⟨z7,z8,?_⟩
  rw[ZH]
  unfold forD
  rw[hs _ _ _ rfl]
  have e':denSs a0a' G0 tuB ([some (webD m ts),some (.ref k),x2,some (ntD bar),x4,x5,some (.ref T.length),x7,x8].set 7 (some (ntD p))) (T++[A.map ntD])=_:=e
  rw[e']
  rw[Zm]at ih
  exact ih
theorem add_row{F R:List (List Int)}{v:D}(hv:Row T v R)(h:F.length+R.length≤1000000):opD .Add (.lst (F.map ntD)) v T=.ok (.lst ((F++R).map ntD)) T:=by
 rcases hv with rfl| ⟨n,rfl,hn⟩
 ·rw[List.map_append]
  exact b2T' (by rw[Zk,Zk];exact h)
 ·simp only[opD,addD,Py.a2H',hn]
  rw[if_pos (by rw[Zk,Zk];show _≤16777216;omega),List.map_append]
theorem tuW_den{v:D}{R:List (List Int)}(hv:Row T v R){x0 x1 x2 x3 x4:Option D}{x:List (Option D)}:denT a0a' G0 tuW (x0::x1::x2::x3::x4::some v::x) T=.ok (!R.isEmpty) T:=by
 have hq:cmpD .NotEq v (.lst []) T=.ok (.bl (!R.isEmpty)) T:=by
  have key:∀R:List (List Int),boolR ((if(R.map ntD).length=0 then allO (List.zipWith (eqF T 39) (R.map ntD) [])else some false).map not) T=.ok (.bl (!R.isEmpty)) T:=fun R=>by
   cases R with
   |nil=>rfl
   |cons p R=>rfl
  rcases hv with rfl| ⟨n,rfl,hn⟩
  ·exact key R
  ·have e:cmpD .NotEq (.ref n) (.lst []) T=boolR ((match(T[n]?).map Sh.lst,some (Sh.lst [])with
    |some x,some y=>eqS (eqF T 39) x y
    |_,_=>none).map not) T:=rfl
   rw[e,hn]
   exact key R
 exact T_cm (S:=T) (a0h' (i:=5) rfl) (by simp only[den,denL,Res.bind,Zv,Z5]) hq
theorem tu_body(O:Ok2 m ts ps)(hT:Flat T)(hk:T[k]?=some ((a0r' m ps).map D.int)){F R:List (List Int)}{v:D}(hv:Row T v R)(hR:∀l∈R,Sh32 bar l)(hl:R.length≤500000)(hF:F.length≤500000){x2 x6 x7 x8:Option D}:
  ∃y7 y8,denSs a0a' G0 tuD [some (webD m ts),some (.ref k),x2,some (ntD bar),some (.lst (F.map ntD)),some v,x6,x7,x8] T=.ok (.next [some (webD m ts),some (.ref k),x2,some (ntD bar),some (.lst ((F++R).map ntD)),some (.ref T.length),some (.ref T.length),y7,y8]) (T++[(R.flatMap (lKid ts ps bar)).map ntD]):=by
 have e0:=a2P' (Φ:=a0a') (o:=.Add) (a0h' (ρ:=[some (webD m ts),some (.ref k),x2,some (ntD bar),some (.lst (F.map ntD)),some v,x6,x7,x8]) (S:=T) (i:=4) rfl) (a0h' (i:=5) rfl) (add_row hv (by omega))
 have e3:den a0a' G0 (.lst true []) [some (webD m ts),some (.ref k),x2,some (ntD bar),some (.lst ((F++R).map ntD)),some v,x6,x7,x8] T=.ok (.ref T.length) (T++[([]:List (List Int)).map ntD]):=by
  simp only[den,denL,Res.bind,if_true]
  rfl
 have hst:∀e ρ S',ρ.length=9→(fun(x:D) (ρ:Rho) (S:Store)=>match asgCT (.var 7) x ρ with
   |some ρ'=>denSs a0a' G0 tuB ρ' S
   |none=>.fail) e ρ S'=denSs a0a' G0 tuB (ρ.set 7 (some e)) S':=fun e ρ S' hr=>by
  have:asgCT (.var 7) e ρ=some (ρ.set 7 (some e)):=by simp[asgCT,hr]
  simp only[this]
 obtain⟨y7,y8,ef⟩:=b3e' O hT hk (x2:=x2) (x4:=some (.lst ((F++R).map ntD))) (x5:=some v) hst R [] x7 x8 hR (by simp;omega)
 rw[Z1]at ef
 refine⟨y7,y8,?_⟩
 unfold tuD
 refine(a0C' e0).trans ?_
 show denSs a0a' G0 _ [some (webD m ts),some (.ref k),x2,some (ntD bar),some (.lst ((F++R).map ntD)),some v,x6,x7,x8] T=_
 refine(a0C' e3).trans ?_
 show denSs a0a' G0 _ [some (webD m ts),some (.ref k),x2,some (ntD bar),some (.lst ((F++R).map ntD)),some v,some (.ref T.length),x7,x8] (T++[([]:List (List Int)).map ntD])=_
 generalize D.lst ((F++R).map ntD)=G at*
 have e4:denS a0a' G0 (.for_ (.var 7) (.seq (.var 5)) tuB) [some (webD m ts),some (.ref k),x2,some (ntD bar),some G,some v,some (.ref T.length),x7,x8] (T++[([]:List (List Int)).map ntD])=.ok (.next [some (webD m ts),some (.ref k),x2,some (ntD bar),some G,some v,some (.ref T.length),y7,y8]) (T++[(R.flatMap (lKid ts ps bar)).map ntD]):=by
  rcases hv with rfl| ⟨n,rfl,hn⟩
  ·exact(a4k' (Γ:=G0) (a7I' (a0h' (i:=5) rfl) rfl)).trans ef
  ·have hlt:=(Zh.mp hn).1
   have hn2:(T++[([]:List (List Int)).map ntD])[n]?=some (R.map ntD):=by rw[Zo hlt];exact hn
   rw[a4k' (its:=.live (R.length+1) (a3z' n)) (S1:=T++[([]:List (List Int)).map ntD]) (by
    have this':den a0a' G0 (.var 5) [some (webD m ts),some (.ref k),x2,some (ntD bar),some G,some (.ref n),some (.ref T.length),x7,x8] (T++[([]:List (List Int)).map ntD])=.ok (.ref n) (T++[([]:List (List Int)).map ntD]):=a0h' (i:=5) rfl
    rw[denI,this']
    simp only[Res.bind,a1h',hn2,Option.getD_some,Zk])]
   have hb:=K32.forB_eq (T:=T) (k:=n) (xs:=R.map ntD) (step:=fun x ρ S=>match asgCT (.var 7) x ρ with
    |some ρ'=>denSs a0a' G0 tuB ρ' S
    |none=>.fail) hn (fun i ρ S=>∃(A:List (List Int)) (z7 z8:Option D),ρ=[some (webD m ts),some (.ref k),x2,some (ntD bar),some G,some (.ref n),some (.ref T.length),z7,z8]∧S=T++[A.map ntD]∧A.length≤28*i) (fun i ρ S ⟨A,_,_,_,e,_⟩=>⟨A.map ntD,e⟩) (fun i x hx ρ S ⟨A,z7,z8,e1,e2,hA⟩=>by
     subst e1 e2
     obtain⟨hi,rfl⟩:=Zh.mp hx
     rw[Zk]at hi
     rw[List.getElem_map]
     obtain⟨y8,e⟩:=b3d' O hT hk (hR _ (List.getElem_mem hi)) (A:=A) (by omega) (x2:=x2) (x4:=some G) (x5:=some (.ref n)) (x8:=z8)
     refine⟨_,_,⟨A++lKid ts ps bar R[i],_,y8,rfl,rfl,?_⟩,e⟩
     have:=a7O' O bar R[i]
     rw[Zn]
     omega) R.length 0 [some (webD m ts),some (.ref k),x2,some (ntD bar),some G,some (.ref n),some (.ref T.length),x7,x8] (T++[([]:List (List Int)).map ntD]) (by rw[Zk];omega) ⟨[],x7,x8,rfl,rfl,by simp⟩
   rw[List.drop_zero]at hb
   exact hb.trans ef
 refine(a0o' e4).trans ?_
 exact(a0C' (a0h' (i:=6) rfl)).trans rfl
theorem a7f'(O:Ok2 m ts ps){R0:List (List Int)}(hSh:∀j,∀l∈lN ts ps bar R0 j,Sh32 bar l)(hlen:∀j,(lN ts ps bar R0 j).length≤100000)(hend:lN ts ps bar R0 4=[])(S:Store)(hk:S[k]?=some ((a0r' m ps).map D.int)){x2:Option D}:
  ∀(f j:Nat) (v:D) (T:Store) (x6 x7 x8:Option D),5≤j+f→j≤4→Flat T→S.length≤T.length→T.take S.length=S→Row T v (lN ts ps bar R0 j)→
  ∃(v' y6 y7 y8:Option D) (T':Store),T'.take S.length=S∧
   a3B' (denT a0a' G0 tuW) (denSs a0a' G0 tuD) f [some (webD m ts),some (.ref k),x2,some (ntD bar),some (.lst (((List.range j).flatMap (lN ts ps bar R0)).map ntD)),some v,x6,x7,x8] T=.ok (.next [some (webD m ts),some (.ref k),x2,some (ntD bar),some (.lst ((lRow ts ps bar R0).map ntD)),v',y6,y7,y8]) T'
 |0,j,v,T,x6,x7,x8,h,h4,_,_,_,_=>absurd h (by omega)
 |f+1,j,v,T,x6,x7,x8,h,h4,hT,hle,hst,hv=>by
  have hc:=tuW_den hv (x0:=some (webD m ts)) (x1:=some (.ref k)) (x2:=x2) (x3:=some (ntD bar)) (x4:=some (.lst (((List.range j).flatMap (lN ts ps bar R0)).map ntD))) (x:=[x6,x7,x8])
  have hlt:=(Zh.mp hk).1
  have hkT:T[k]?=some ((a0r' m ps).map D.int):=by
   rw[←hk,←hst,List.getElem?_take_of_lt hlt]
  cases hRe:lN ts ps bar R0 j with
  |nil=>
   have nx:∀i,lN ts ps bar R0 (j+i)=[]:=by
    intro i
    induction i with
    |zero=>exact hRe
    |succ i ih=>show(lN ts ps bar R0 (j+i)).flatMap _=[];rw[ih];rfl
   have key:∀i,(List.range (j+i)).flatMap (lN ts ps bar R0)=(List.range j).flatMap (lN ts ps bar R0):=by
    intro i
    induction i with
    |zero=>rfl
    |succ i ih=>
     rw[show j+(i+1)=j+i+1 from rfl,List.range_succ,List.flatMap_append,ih]
     simp[nx i]
   have e:=key (4-j)
   rw[show j+(4-j)=4 by omega]at e
   refine⟨some v,x6,x7,x8,T,hst,?_⟩
   unfold lRow
   rw[e]
   rw[hRe]at hc
   unfold a3B'
   rw[hc]
   rfl
  |cons p0 R1=>
   have h3:j≤3:=by
    rcases Nat.lt_or_ge j 4 with z|z
    ·omega
    ·have:j=4:=by omega
     subst this
     rw[hend]at hRe
     cases hRe
   have hF:((List.range j).flatMap (lN ts ps bar R0)).length≤400000:=by
    have:=a2B' (f:=lN ts ps bar R0) (c:=100000) (R:=List.range j) fun i _=>hlen i
    rw[List.length_range]at this
    omega
   obtain⟨y7,y8,eb⟩:=tu_body O hT hkT hv (hSh j) (by have:=hlen j;omega) (F:=(List.range j).flatMap (lN ts ps bar R0)) (by omega) (x2:=x2) (x6:=x6) (x7:=x7) (x8:=x8)
   have e9:(List.range j).flatMap (lN ts ps bar R0)++lN ts ps bar R0 j=(List.range (j+1)).flatMap (lN ts ps bar R0):=by
    rw[List.range_succ,List.flatMap_append]
    simp
   rw[e9]at eb
   have hT':Flat (T++[(lN ts ps bar R0 (j+1)).map ntD]):=hT.snoc (a5C' _)
   obtain⟨v',z6,z7,z8,T',a3,ih⟩:=a7f' O hSh hlen hend S hk (x2:=x2) f (j+1) (.ref T.length) (T++[(lN ts ps bar R0 (j+1)).map ntD]) (some (.ref T.length)) y7 y8 (by omega) (by omega) hT' (by rw[Zn];omega) (by rw[List.take_append_of_le_length hle];exact hst) (.inr ⟨T.length,rfl,boxE⟩)
   refine⟨v',z6,z7,z8,T',a3,?_⟩
   rw[hRe]at hc
   unfold a3B'
   rw[hc]
   show(Res.bind (denSs a0a' G0 tuD [some (webD m ts),some (.ref k),x2,some (ntD bar),some (.lst (((List.range j).flatMap (lN ts ps bar R0)).map ntD)),some v,x6,x7,x8] T) fun f' S'=>match f' with
    | .next ρ'=>a3B' (denT a0a' G0 tuW) (denSs a0a' G0 tuD) f ρ' S'
    | .cont ρ'=>a3B' (denT a0a' G0 tuW) (denSs a0a' G0 tuD) f ρ' S'
    | .brk ρ'=>.ok (.next ρ') S'
    | .ret d=>.ok (.ret d) S')=_
   rw[eb]
   exact ih
theorem b1b'(O:Ok2 m ts ps)(hS:Flat S)(hk:S[k]?=some ((a0r' m ps).map D.int)){R0:List (List Int)}(hSh:∀j,∀l∈lN ts ps bar R0 j,Sh32 bar l)(hlen:∀j,(lN ts ps bar R0 j).length≤100000)(hend:lN ts ps bar R0 4=[]):a1e' [webD m ts,.ref k,.lst (R0.map ntD),ntD bar] S=.ok (.lst ((lRow ts ps bar R0).map ntD)) S:=by
 obtain⟨v',y6,y7,y8,T',h1,h2⟩:=a7f' O hSh hlen hend S hk (x2:=some (.lst (R0.map ntD))) 12 0 (.lst (R0.map ntD)) S none none none (by omega) (by omega) hS (Zl _) (List.take_length) (.inl rfl)
 have hd:denSs a0a' G0 a1E' [some (webD m ts),some (.ref k),some (.lst (R0.map ntD)),some (ntD bar),none,none,none,none,none] S=.ok (.ret (.lst ((lRow ts ps bar R0).map ntD))) T':=by
  rw[c_tu_is]
  refine(a0C' (d:=.lst []) (S':=S) (by simp only[den,denL,Res.bind,Zv,Z5])).trans ?_
  show denSs a0a' G0 _ [some (webD m ts),some (.ref k),some (.lst (R0.map ntD)),some (ntD bar),some (.lst []),none,none,none,none] S=_
  refine(a0C' (a0h' (i:=2) rfl)).trans ?_
  show denSs a0a' G0 _ [some (webD m ts),some (.ref k),some (.lst (R0.map ntD)),some (ntD bar),some (.lst []),some (.lst (R0.map ntD)),none,none,none] S=_
  refine(a0o' (ρ':=[some (webD m ts),some (.ref k),some (.lst (R0.map ntD)),some (ntD bar),some (.lst ((lRow ts ps bar R0).map ntD)),v',y6,y7,y8]) (S':=T') ?_).trans ?_
  ·rw[denS]
   exact h2
  ·exact a2d' (K32.a6a' (a0h' (i:=4) rfl))
 show runD a0a' G0 a1E' a3M'.length 4 [webD m ts,.ref k,.lst (R0.map ntD),ntD bar] S=_
 have hd':denSs a0a' G0 a1E' (([webD m ts,.ref k,.lst (R0.map ntD),ntD bar]:List D).map some++List.replicate (a3M'.length-4) none) S=_:=hd
 unfold runD
 rw[if_pos (show [webD m ts,D.ref k,.lst (R0.map ntD),ntD bar].length=4 from rfl),hd']
 show trim S.length (.lst ((lRow ts ps bar R0).map ntD)) _=_
 have hlow:lowD 0 (.lst ((lRow ts ps bar R0).map ntD))=true:=a5C' _
 rw[K32.a1R' (by rw[h1];exact hS) hlow,h1]
end
end K32
end
section
namespace K32
open PySem PySem.Spec PyProof.Rows L2 Py
theorem y_law_tied:a1D'=K32.a1D':=rfl
section
variable {S T:Store}{m:Int}{ts ps:List Ti}{k:Nat}
theorem b4M'(W:Web m ts)(s:List Int):(sKid m ts ps s).length≤8:=by
 have w1:=W.lo
 have w2:=W.hi
 unfold sKid
 rw[Zk]
 refine ZB (ZU _ _) ?_
 rw[K32.a0k']
 omega
theorem eN_len(W:Web m ts)(s:List Int):∀j,(eN m ts ps s j).length≤8^j
 |0=>by simp[eN]
 |j+1=>by
  have ih:=eN_len W s j
  have:=a2B' (f:=sKid m ts ps) (c:=8) (R:=eN m ts ps s j) fun p _=>b4M' W p
  rw[Nat.pow_succ]
  unfold eN
  omega
theorem eN_no(O:Ok2 m ts ps){s:List Int}{i:Nat}(h:s∈stemN m ts ps i){j:Nat}(hj:4≤j):eN m ts ps s j=[]:=by
 cases e:eN m ts ps s j with
 |nil=>rfl
 |cons p r=>
  have hp:=b0W' h (j:=j) (e:=p) (by rw[e];exact Zc)
  rw[a8D' O (by omega)]at hp
  cases hp
theorem top_sh(O:Ok2 m ts ps)(j:Nat)(l:List Int)(h:l∈lN ts ps [] (stemN m ts ps 0) j):Sh32 [] l:=by
 have h1:=a1X' O ((a9m' O j).mem_iff.mp h)
 have:=h1.1.1.len8 O.W
 exact⟨h1.1.1.ne,by show l.length+0≤20;omega⟩
theorem top_len(O:Ok2 m ts ps)(j:Nat):(lN ts ps [] (stemN m ts ps 0) j).length≤100000:=by
 rw[(a9m' O j).length_eq]
 rcases Nat.lt_or_ge j 4 with h|h
 ·exact ZB (K32.a3b' O.W j) (ZB (Nat.pow_le_pow_right (by omega) (show j+1≤4 by omega)) (by decide))
 ·rw[a8D' O h];simp
theorem top_end(O:Ok2 m ts ps):lN ts ps [] (stemN m ts ps 0) 4=[]:=by
 have:=a9m' O 4
 rw[a8D' O (Zl 4)]at this
 exact this.eq_nil
theorem st_sh(O:Ok2 m ts ps){s:List Int}{i:Nat}(hs:s∈stemN m ts ps i)(j:Nat)(l:List Int)(h:l∈lN ts ps s.dropLast [[lastI s]] j):Sh32 s.dropLast l:=by
 have h0:=a1X' O hs
 have s8:=h0.1.1.len8 O.W
 obtain⟨e,he,rfl⟩:=ZI.mp ((a8C' O hs j).mem_iff.mp h)
 have h1:=a1X' O (b0W' hs he)
 have:=h1.1.1.len8 O.W
 refine⟨by rw[Yd];omega,by rw[Yd,List.length_dropLast];omega⟩
theorem st_len(O:Ok2 m ts ps){s:List Int}{i:Nat}(hs:s∈stemN m ts ps i)(j:Nat):(lN ts ps s.dropLast [[lastI s]] j).length≤512:=by
 rw[(a8C' O hs j).length_eq,Zk]
 rcases Nat.lt_or_ge j 4 with h|h
 ·exact ZB (eN_len O.W s j) (ZB (Nat.pow_le_pow_right (by omega) (show j≤3 by omega)) (by decide))
 ·rw[eN_no O hs h];simp
theorem st_end(O:Ok2 m ts ps){s:List Int}{i:Nat}(hs:s∈stemN m ts ps i):lN ts ps s.dropLast [[lastI s]] 4=[]:=by
 have:=a8C' O hs 4
 rw[eN_no O hs (Zl 4)]at this
 exact this.eq_nil
theorem c_bm_is:a1m'=[.asg 2 (.call "_law_mates" [.var 0,.var 1]),.asg 3 (.lst true []),.for_ (.var 4) bmA bmO,.ret (.blt (.sorted false (.seq (.seq .int))) [.var 3])]:=rfl
theorem T_and0{Φ:FT}{a b:CE}{ρ:Rho}(h1:denT Φ G0 a ρ S=.ok false S):denT Φ G0 (.band a b) ρ S=.ok false S:=by
 simp only[denT,h1,Res.bind]
 rfl
theorem bmT_den(hT:Flat T){l:List Int}(h1:1≤l.length){x1 x2 x3 x4:Option D}:denT a0b' G0 bmT [some (webD m ts),x1,x2,x3,x4,some (ntD l)] T=.ok (a1o' ts l) T:=by
 have hln:lenD [ntD l] T=.ok (.int (l.length:Nat)) T:=by simp[lenD,seqOf,ntD]
 have hL:den a0b' G0 bmL [some (webD m ts),x1,x2,x3,x4,some (ntD l)] T=.ok (.int (lastI l)) T:=
  a2O' (a0h' (i:=5) rfl) (by simp only[den,Res.bind]) (K32.a7J' (S:=T) (d:=ntD l) (ns:=l) rfl h1)
 have t1:denT a0b' G0 (.cmp .Gt (.blt .len [.var 5]) (.lit (.int 1))) [some (webD m ts),x1,x2,x3,x4,some (ntD l)] T=.ok (decide (1<l.length)) T:=by
  refine T_cm (S:=T) (b2i' (a0h' (i:=5) rfl) hln) a1d' ?_
  have:cmpD .Gt (.int (l.length:Nat)) (.int 1) T=.ok (.bl (decide ((1:Int)<(l.length:Nat)))) T:=rfl
  rw[this]
  congr 2
  exact decide_eq_decide.mpr (by omega)
 unfold bmT a1o'
 rcases Nat.lt_or_ge 1 l.length with h|h
 ·refine T_and t1 (T_and (T_cm (S:=T) (a2O' (a0h' (i:=5) rfl) a1d' (idx_o (k:=1) h)) hL rfl) (T_c3 a2w' (a0h' (i:=0) rfl) (a2O' (a0h' (i:=5) rfl) a1d' (b2j' (S:=T) (d:=ntD l) (ns:=l) rfl h1)) hL ?_))
  exact K32.tied_eq hT _ _
 ·rw[ZC (by omega)]at t1⊢
  exact T_and0 t1
theorem bm_in(hT:Flat T){s:List Int}{x1 x2:Option D}{step:D→Rho→Store→Res Fl}(hs:∀e ρ S',ρ.length=6→step e ρ S'=denSs a0b' G0 bmI (ρ.set 5 (some e)) S'):∀(L:List (List Int)) (A:List (List Int×List Int)) (x5:Option D),(∀l∈L,1≤l.length)→A.length+L.length≤16777216→∃y5,
  forD step (L.map ntD) [some (webD m ts),x1,x2,some (.ref T.length),some (ntD s),x5] (T++[A.map bD])=.ok (.next [some (webD m ts),x1,x2,some (.ref T.length),some (ntD s),y5]) (T++[(A++(L.filter (a1o' ts)).map fun l=>(s,l)).map bD])
 | [],A,x5,_,_=>⟨x5,by simp only[List.filter_nil,List.map_nil,Z2];rfl⟩
 |l::L,A,x5,hL,hA=>by
  rw[Zy]at hA
  have hT':Flat (T++[A.map bD]):=hT.snoc (b2Z' _)
  have ht:=bmT_den (ts:=ts) (m:=m) hT' (hL l Zc) (x1:=x1) (x2:=x2) (x3:=some (.ref T.length)) (x4:=some (ntD s))
  have hap:=a4X' (T:=T) (A:=A.map bD) (d:=bD (s,l)) (by rw[Zk];show _<16777216;omega)
  have eb:denSs a0b' G0 bmI [some (webD m ts),x1,x2,some (.ref T.length),some (ntD s),some (ntD l)] (T++[A.map bD])=.ok (.next [some (webD m ts),x1,x2,some (.ref T.length),some (ntD s),some (ntD l)]) (T++[(A++(if a1o' ts l=true then [(s,l)]else [])).map bD]):=by
   unfold bmI
   generalize bmT=q at ht⊢
   cases hb:a1o' ts l with
   |false=>
    rw[hb]at ht
    simp only[denSs,denS,ht,Res.bind,Zv,Z5,Z2]
   |true=>
    rw[hb]at ht
    unfold bmP
    have hap':a3e' (.ref T.length) [.tup [ntD s,ntD l]] (T++[A.map bD])=.ok .non (T++[(A++[(s,l)]).map bD]):=by rw[List.map_append];exact hap
    generalize webD m ts=w at*
    simp only[denSs,denS,ht,Res.bind,if_true,den,denL,methD,hap',Res.noErr,Ze,Zd]
  obtain⟨y5,ih⟩:=bm_in hT (s:=s) (x1:=x1) (x2:=x2) hs L (A++(if a1o' ts l=true then [(s,l)]else [])) (some (ntD l)) (fun q hq=>hL q (Zb _ hq)) (by rw[Zn];split<;>simp<;>omega)
  refine⟨y5,?_⟩
  rw[ZH]
  unfold forD
  rw[hs _ _ _ rfl]
  have e':denSs a0b' G0 bmI ([some (webD m ts),x1,x2,some (.ref T.length),some (ntD s),x5].set 5 (some (ntD l))) (T++[A.map bD])=_:=eb
  rw[e']
  have e9:A++((l::L).filter (a1o' ts)).map (fun l=>(s,l))=A++(if a1o' ts l=true then [(s,l)]else [])++(L.filter (a1o' ts)).map fun l=>(s,l):=by
   cases hb:a1o' ts l with
   |true=>rw[List.filter_cons_of_pos hb,if_pos rfl];simp
   |false=>rw[List.filter_cons_of_neg (by rw[hb];simp),if_neg (by simp)];simp
  rw[e9]
  exact ih
theorem b4N'{s:List Int}(h:1≤s.length):cutL (s.map D.int) (some (-1)) none=([lastI s]).map D.int:=by
 unfold cutL
 have e1:HT.sIx (s.map D.int).length 0 (some (-1))=s.length-1:=by
  rw[Zk]
  show(if(-1:Int)<0 then((-1:Int)+(s.length:Int)).toNat else min (-1:Int).toNat s.length)=_
  rw[if_pos (by omega)]
  omega
 rw[e1,HT.a5D',Zk,←List.map_drop,←List.map_take]
 congr 1
 have hsp:=a3x' h
 have e:=congrArg (List.drop s.dropLast.length) hsp
 rw[List.drop_left,List.length_dropLast]at e
 rw[e]
 exact Yb (by simp;omega)
theorem cut_ini{s:List Int}(h:1≤s.length):cutL (s.map D.int) none (some (-1))=s.dropLast.map D.int:=by
 unfold cutL
 have e1:HT.sIx (s.map D.int).length (s.map D.int).length (some (-1))=s.length-1:=by
  rw[Zk]
  show(if(-1:Int)<0 then((-1:Int)+(s.length:Int)).toNat else min (-1:Int).toNat s.length)=_
  rw[if_pos (by omega)]
  omega
 rw[e1,HT.a5D',Nat.sub_zero,List.drop_zero,←List.map_take,List.dropLast_eq_take]
theorem bm_st(O:Ok2 m ts ps)(hT:Flat T)(hk:T[k]?=some ((a0r' m ps).map D.int)){s:List Int}{i:Nat}(hs:s∈stemN m ts ps i){A:List (List Int×List Int)}(hA:A.length+2048≤16777216){x1 x5:Option D}:∃y5,
  denSs a0b' G0 bmO [some (webD m ts),x1,some (.ref k),some (.ref T.length),some (ntD s),x5] (T++[A.map bD])=.ok (.next [some (webD m ts),x1,some (.ref k),some (.ref T.length),some (ntD s),y5]) (T++[(A++((lRow ts ps s.dropLast [[lastI s]]).filter (a1o' ts)).map fun l=>(s,l)).map bD])∧(((lRow ts ps s.dropLast [[lastI s]]).filter (a1o' ts)).map fun l=>(s,l)).length≤2048:=by
 have hlt:=(Zh.mp hk).1
 have hT':Flat (T++[A.map bD]):=hT.snoc (b2Z' _)
 have hk':(T++[A.map bD])[k]?=some ((a0r' m ps).map D.int):=by rw[Zo hlt];exact hk
 have h0:=a1X' O hs
 have hne:=h0.1.1.ne
 have htu:=b1b' O hT' hk' (bar:=s.dropLast) (R0:=[[lastI s]]) (st_sh O hs) (fun j=>ZB (st_len O hs j) (by decide)) (st_end O hs)
 have hll:(lRow ts ps s.dropLast [[lastI s]]).length≤2048:=by
  have:=a2B' (f:=lN ts ps s.dropLast [[lastI s]]) (c:=512) (R:=List.range 4) fun j _=>st_len O hs j
  exact this
 have hl1:∀l∈lRow ts ps s.dropLast [[lastI s]],1≤l.length:=fun l hl=>by
  obtain⟨j,_,h⟩:=Yc.mp hl
  exact(st_sh O hs j l h).1
 have hst:∀e ρ S',ρ.length=6→(fun(x:D) (ρ:Rho) (S:Store)=>match asgCT (.var 5) x ρ with
   |some ρ'=>denSs a0b' G0 bmI ρ' S
   |none=>.fail) e ρ S'=denSs a0b' G0 bmI (ρ.set 5 (some e)) S':=fun e ρ S' hr=>by
  have:asgCT (.var 5) e ρ=some (ρ.set 5 (some e)):=by simp[asgCT,hr]
  simp only[this]
 generalize lRow ts ps s.dropLast [[lastI s]]=L at*
 obtain⟨y5,ef⟩:=bm_in (ts:=ts) (m:=m) hT (s:=s) (x1:=x1) (x2:=some (.ref k)) hst L A x5 hl1 (by omega)
 refine⟨y5,?_,by rw[Zk];exact ZB (ZU _ _) hll⟩
 have hI:denI a0b' G0 bmC [some (webD m ts),x1,some (.ref k),some (.ref T.length),some (ntD s),x5] (T++[A.map bD])=.ok (.items (L.map ntD)) (T++[A.map bD]):=by
  have q1:slD (ntD s) (some (-1)) none (T++[A.map bD])=.ok (ntD [lastI s]) (T++[A.map bD]):=by
   show Res.ok (D.tup (cutL (s.map D.int) (some _) none)) _=_
   rw[b4N' hne];rfl
  have q2:slD (ntD s) none (some (-1)) (T++[A.map bD])=.ok (ntD s.dropLast) (T++[A.map bD]):=by
   show Res.ok (D.tup (cutL (s.map D.int) none (some _))) _=_
   rw[cut_ini hne];rfl
  have htu:a1e' [webD m ts,.ref k,.lst [ntD [lastI s]],ntD s.dropLast] (T++[A.map bD])=_:=htu
  unfold bmC
  generalize webD m ts=w at*
  generalize T++[A.map bD]=U at*
  simp only[denI,den,denL,Res.bind,optL,toOpt,q1,q2,Ze,Zd,Zv,Z5]
  simp only[Res.noErr,q2,a0Q',htu,a1h']
 unfold bmO
 refine(a0o' (ρ':=[some (webD m ts),x1,some (.ref k),some (.ref T.length),some (ntD s),y5]) (S':=T++[(A++(L.filter (a1o' ts)).map fun l=>(s,l)).map bD]) ?_).trans rfl
 exact(a4k' (Γ:=G0) hI).trans ef
end
end K32
end
section
namespace K32
open PySem PySem.Spec PyProof.Rows L2 Py
section
variable {S T:Store}{m:Int}{ts ps:List Ti}{k:Nat}
theorem bm_out(O:Ok2 m ts ps)(hT:Flat T)(hk:T[k]?=some ((a0r' m ps).map D.int)){x1:Option D}{step:D→Rho→Store→Res Fl}(hs:∀e ρ S',ρ.length=6→step e ρ S'=denSs a0b' G0 bmO (ρ.set 4 (some e)) S'):∀(R:List (List Int)) (A:List (List Int×List Int)) (x4 x5:Option D),(∀s∈R,∃i,s∈stemN m ts ps i)→A.length+2048*R.length≤16777216→∃y4 y5,
  forD step (R.map ntD) [some (webD m ts),x1,some (.ref k),some (.ref T.length),x4,x5] (T++[A.map bD])=.ok (.next [some (webD m ts),x1,some (.ref k),some (.ref T.length),y4,y5]) (T++[(A++R.flatMap fun s=>((lRow ts ps s.dropLast [[lastI s]]).filter (a1o' ts)).map fun l=>(s,l)).map bD])
 | [],A,x4,x5,_,_=>⟨x4,x5,by rw[List.flatMap_nil,Z2];rfl⟩
 |s::R,A,x4,x5,hR,hA=>by
  rw[Zy,Nat.mul_add,Nat.mul_one]at hA
  obtain⟨i,hi⟩:=hR s Zc
  obtain⟨y5,eb,hl⟩:=bm_st O hT hk hi (A:=A) (by omega) (x1:=x1) (x5:=x5)
  obtain⟨z4,z5,ih⟩:=bm_out O hT hk (x1:=x1) hs R (A++((lRow ts ps s.dropLast [[lastI s]]).filter (a1o' ts)).map fun l=>(s,l)) (some (ntD s)) y5 (fun q hq=>hR q (Zb _ hq)) (by rw[Zn];omega)
  refine⟨z4,z5,?_⟩
  rw[ZH]
  unfold forD
  rw[hs _ _ _ rfl]
  have e':denSs a0b' G0 bmO ([some (webD m ts),x1,some (.ref k),some (.ref T.length),x4,x5].set 4 (some (ntD s))) (T++[A.map bD])=_:=eb
  rw[e']
  rw[Zm]at ih
  rw[ZG]
  exact ih
theorem b2r'(O:Ok2 m ts ps)(i:Int):decide (mt ps i<0)=(mateI ps i).isNone:=by
 unfold mt
 cases e:mateI ps i with
 |none=>rfl
 |some q=>
  have:=O.inn e
  exact ZC (by show ¬q<0;omega)
theorem bmG_den(O:Ok2 m ts ps)(hk:T[k]?=some ((a0r' m ps).map D.int)){x1:Option D}{x:List (Option D)}:den a0b' G0 bmG (some (webD m ts)::x1::some (.ref k)::x) T=.ok (.lst ((stemN m ts ps 0).map ntD)) T:=by
 have w1:=O.W.lo
 have w2:=O.W.hi
 have e9:(stemN m ts ps 0).map ntD=((a0G' 0 m.toNat).filter fun i=>decide (mt ps i<0)).map fun i=>ntD [i]:=by
  show((a4l' m ps).map fun i=>[i]).map ntD=_
  unfold a4l'
  rw[Yj,show(fun i=>(mateI ps i).isNone)=fun i=>decide (mt ps i<0)from funext fun i=>(b2r' O i).symm]
  rfl
 rw[e9]
 refine compF (S:=T) (rs:=fun i=>[some (.int i),some (.ref k)]) (rng_m (T:=T) (j:=m) (by omega) (by omega) (a2O' (a0h' (i:=0) rfl) a1d' rfl)) rfl (fun _ _=>rfl) (by rw[K32.a0k'];omega) (fun i hi=>?_) fun i hi _=>?_
 ·have:=K32.a1H' hi
  exact T_cm (S:=T) (a2O' (a0h' (i:=1) rfl) (a0h' (i:=0) rfl) (a6d' hk (by omega) (by omega))) a1d' rfl
 ·simp only[den,denL,Res.bind,Zd]
  rfl
theorem b1c'(O:Ok2 m ts ps)(hS:Flat S):a1n' [webD m ts,.tup (tiesD ps)] S=.ok (.lst (dueB m ts ps)) S:=by
 have hma:=b4K' O hS
 have hlowM:lowL 0 ((a0r' m ps).map D.int)=true:=K32.a2z'.mpr fun x hx=>by obtain⟨n,_,rfl⟩:=ZI.mp hx;rfl
 have hT:Flat (S++[(a0r' m ps).map D.int]):=hS.snoc hlowM
 have hk:(S++[(a0r' m ps).map D.int])[S.length]?=some ((a0r' m ps).map D.int):=boxE
 have htk:(S++[(a0r' m ps).map D.int]).take S.length=S:=List.take_left' rfl
 have hlT:S.length<(S++[(a0r' m ps).map D.int]).length:=by simp
 obtain⟨T,hTe⟩:∃T,S++[(a0r' m ps).map D.int]=T:=⟨_,rfl⟩
 rw[hTe]at hma hT hk htk hlT
 have hT1:Flat (T++[([]:List (List Int×List Int)).map bD]):=hT.snoc rfl
 have hk1:(T++[([]:List (List Int×List Int)).map bD])[S.length]?=some ((a0r' m ps).map D.int):=by rw[Zo hlT];exact hk
 have htu:=b1b' O hT1 hk1 (bar:=[]) (R0:=stemN m ts ps 0) (top_sh O) (top_len O) (top_end O)
 have hg:=bmG_den O hk1 (x1:=some (.tup (tiesD ps))) (x:=[some (.ref T.length),none,none])
 have hmem:∀s∈lRow ts ps [] (stemN m ts ps 0),∃i,s∈stemN m ts ps i:=fun s hs=>by
  obtain⟨j,_,h⟩:=Yc.mp hs
  exact⟨j,(a9m' O j).mem_iff.mp h⟩
 have hll:(lRow ts ps [] (stemN m ts ps 0)).length≤4680:=by
  have h1:(lRow ts ps [] (stemN m ts ps 0)).Perm (stems m ts ps):=a1v' fun j _=>a9m' O j
  rw[h1.length_eq]
  exact a5a' O
 have hst:∀e ρ S',ρ.length=6→(fun(x:D) (ρ:Rho) (S:Store)=>match asgCT (.var 4) x ρ with
   |some ρ'=>denSs a0b' G0 bmO ρ' S
   |none=>.fail) e ρ S'=denSs a0b' G0 bmO (ρ.set 4 (some e)) S':=fun e ρ S' hr=>by
  have:asgCT (.var 4) e ρ=some (ρ.set 4 (some e)):=by simp[asgCT,hr]
  simp only[this]
 obtain⟨y4,y5,ef⟩:=bm_out O hT hk (x1:=some (.tup (tiesD ps))) hst (lRow ts ps [] (stemN m ts ps 0)) [] none none hmem (by simp;omega)
 rw[Z1]at ef
 have hfew:(lBl m ts ps).length≤14040:=by rw[←(b2V' O).length_eq];exact b0Z' O
 have hso:=b2Y' (S:=T++[(lBl m ts ps).map bD]) (F:=lBl m ts ps) (by omega) false (d:=.ref T.length) boxE
 rw[if_neg (by simp),b2q' O]at hso
 have hd:denSs a0b' G0 a1m' [some (webD m ts),some (.tup (tiesD ps)),none,none,none,none] S=.ok (.ret (.lst (dueB m ts ps))) (T++[(lBl m ts ps).map bD]):=by
  rw[c_bm_is]
  refine(a0C' (d:=.ref S.length) (S':=T) ?_).trans ?_
  ·generalize webD m ts=w at*
   simp only[den,denL,Res.bind,a2a',hma,Ze,Zd]
  show denSs a0b' G0 _ [some (webD m ts),some (.tup (tiesD ps)),some (.ref S.length),none,none,none] T=_
  refine(a0C' (d:=.ref T.length) (S':=T++[([]:List (List Int×List Int)).map bD]) (by simp only[den,denL,Res.bind,if_true];rfl)).trans ?_
  show denSs a0b' G0 _ [some (webD m ts),some (.tup (tiesD ps)),some (.ref S.length),some (.ref T.length),none,none] _=_
  have hI:denI a0b' G0 bmA [some (webD m ts),some (.tup (tiesD ps)),some (.ref S.length),some (.ref T.length),none,none] (T++[([]:List (List Int×List Int)).map bD])=.ok (.items ((lRow ts ps [] (stemN m ts ps 0)).map ntD)) (T++[([]:List (List Int×List Int)).map bD]):=by
   have htu:a1e' [webD m ts,.ref S.length,.lst ((stemN m ts ps 0).map ntD),.tup []] (T++[([]:List (List Int×List Int)).map bD])=_:=htu
   unfold bmA
   generalize bmG=q at hg⊢
   generalize webD m ts=w at*
   generalize T++[([]:List (List Int×List Int)).map bD]=U at*
   simp only[denI,den,denL,Res.bind,Ze,Zd,hg,a0Q',htu,a1h']
  refine(a0o' (ρ':=[some (webD m ts),some (.tup (tiesD ps)),some (.ref S.length),some (.ref T.length),y4,y5]) (S':=T++[(lBl m ts ps).map bD]) ?_).trans ?_
  ·exact(a4k' (Γ:=G0) hI).trans ef
  ·exact a2d' (K32.a6a' (b2i' (a0h' (i:=3) rfl) hso))
 show runD a0b' G0 a1m' a2V'.length 2 [webD m ts,.tup (tiesD ps)] S=_
 have hd':denSs a0b' G0 a1m' (([webD m ts,.tup (tiesD ps)]:List D).map some++List.replicate (a2V'.length-2) none) S=_:=hd
 unfold runD
 rw[if_pos (show [webD m ts,D.tup (tiesD ps)].length=2 from rfl),hd']
 show trim S.length (.lst (dueB m ts ps)) _=_
 have hlow:lowD 0 (.lst (dueB m ts ps))=true:=a5b'
 have hts:(T++[(lBl m ts ps).map bD]).take S.length=S:=by rw[List.take_append_of_le_length (Nat.le_of_lt hlT),htk]
 rw[K32.a1R' (by rw[hts];exact hS) hlow,hts]
theorem first32(O:Ok2 m ts ps)(hS:Flat S)(hp:ps.length≤28):a0V' [webD m ts,.tup (tiesD ps)] S=.ok (frD (dueB m ts ps)) S:=by
 have ha:=a7d' O hS hp
 have hlow:=a5b' (m:=m) (ts:=ts) (ps:=ps)
 generalize dueB m ts ps=L at*
 have hlo:lowD 0 (frD L)=true:=by
  cases L with
  |nil=>rfl
  |cons d L=>
   have:(lowD 0 d&&lowL 0 L)=true:=hlow
   rw[Zt]at this
   exact this.1
 have hd:denSs a0K' G0 a1t' [some (webD m ts),some (.tup (tiesD ps)),none] S=.ok (.ret (frD L)) (S++[L]):=by
  have htr:truD (S++[L]) (.ref S.length)=some (!L.isEmpty):=by simp only[truD,seqOf,boxE];rfl
  refine(a0C' (d:=.ref S.length) (S':=S++[L]) ?_).trans ?_
  ·generalize webD m ts=w at*
   simp only[den,denL,Res.bind,a1B',ha,Ze,Zd]
  ·show denSs a0K' G0 _ [some (webD m ts),some (.tup (tiesD ps)),some (.ref S.length)] (S++[L])=_
   refine a2d' (K32.a6a' ?_)
   cases L with
   |nil=>
    simp only[den,denT,Res.bind,Ze,Zd,htr]
    rfl
   |cons d L=>
    have hi:idxD (.ref S.length) (.int 0) (S++[d::L])=.ok d (S++[d::L]):=by
     have e:atI (d::L) 0=some d:=by
      unfold atI ixN
      rw[if_pos (by omega),if_pos (by simp)]
      rfl
     unfold idxD
     simp only[seqOf,boxE,e]
    simp only[den,denT,Res.bind,Ze,Zd,htr,hi,Res.noErr]
    rfl
 show runD a0K' G0 a1t' a2t'.length 2 [webD m ts,.tup (tiesD ps)] S=_
 have hd':denSs a0K' G0 a1t' (([webD m ts,.tup (tiesD ps)]:List D).map some++List.replicate (a2t'.length-2) none) S=_:=hd
 unfold runD
 rw[if_pos (show [webD m ts,D.tup (tiesD ps)].length=2 from rfl),hd']
 show trim S.length (frD L) _=_
 rw[K32.a1R' (by rw[List.take_left' rfl];exact hS) hlo,List.take_left' rfl]
end
end K32
end
section
namespace K32
open PySem PySem.Spec PyProof.Rows L2 Py
theorem a7g':∀n,a0g' n=K32.a0g' n
 |0=>rfl
 |n+1=>by
  show runD (tbl [("_law_same",a0g' n)]) G0 a0P' a3r'.length 2=runD (tbl [("_law_same",K32.a0g' n)]) K32.G0 K32.a0P' K32.a3r'.length 2
  rw[a7g' n]<;>rfl
theorem b1d':a1C'=K32.a0g' 6:=a7g' 6
section
variable {S T:Store}{m:Int}{ts ps:List Ti}
theorem compG{step:D→List D→Store→Res (List D)}{get:Store→Nat→Option (Option D)}{ys:List D}(hg:∀i,get S i=some ys[i]?)(h:∀y∈ys,∀acc:List D,acc.length<big→step y acc S=.ok (acc++[.bl true]) S):
  ∀n i acc,i+n=ys.length→acc.length+n≤big→compB step get (n+1) i acc S=.ok (acc++List.replicate n (.bl true)) S:=by
 intro n
 induction n with
 |zero=>
  intro i acc hi _
  unfold compB
  rw[hg,List.getElem?_eq_none (by omega)]
  simp
 |succ n ih=>
  intro i acc hi hl
  unfold compB
  rw[hg,Zg (by omega)]
  dsimp only
  rw[h _ (List.getElem_mem _) acc (by omega)]
  refine(ih (i+1) (acc++[.bl true]) (by omega) (by rw[Zn];simp;omega)).trans ?_
  rw[Zm,ZW]
  rfl
theorem b4O'(hS:Flat S){n a:Nat}{xs:List D}(ha:S[a]?=some xs)(hl:xs.length≤1000000)(hx:∀z∈xs,K32.a0g' n [z,z] S=.ok (.bl true) S):K32.a0g' (n+1) [.ref a,.lst xs] S=.ok (.bl true) S:=by
 refine a0z' rfl ?_ rfl hS rfl
 show denSs (tS n) K32.G0 K32.a0P' [some (.ref a),some (.lst xs)] S=_
 have ta:b3z' S (.ref a)=some "list":=by simp[b3z',ha]
 have h1:a0N' [.ref a,.ty "tuple"] S=.ok (.bl false) S:=by simp only[a0N',ta];rfl
 have h2:a0N' [.ref a,.ty "list"] S=.ok (.bl true) S:=by simp only[a0N',ta];rfl
 have h1':a0N' [.lst xs,.ty "tuple"] S=.ok (.bl false) S:=rfl
 have h2':a0N' [.lst xs,.ty "list"] S=.ok (.bl true) S:=rfl
 have h3:cmpD .NotEq (.bl true) (.bl true) S=.ok (.bl false) S:=rfl
 have h4:cmpD .NotEq (.bl false) (.bl false) S=.ok (.bl false) S:=rfl
 have h5:lenD [.ref a] S=.ok (.int (xs.length:Nat)) S:=by simp[lenD,seqOf,ha]
 have h5':lenD [.lst xs] S=.ok (.int (xs.length:Nat)) S:=rfl
 have h6:cmpD .Eq (.int (xs.length:Nat)) (.int (xs.length:Nat)) S=.ok (.bl true) S:=by
  have:cmpD .Eq (.int (xs.length:Nat)) (.int (xs.length:Nat)) S=.ok (.bl (((xs.length:Nat):Int)==((xs.length:Nat):Int))) S:=rfl
  rw[this];simp
 have hzo:zipOf S (.ref a) (.lst xs)=some (.live (xs.length+1) (a6n' (.ref a) (.lst xs))):=by
  simp[zipOf,isLst,a5e',seqOf,ha]
 have hg:∀i,a6n' (.ref a) (.lst xs) S i=some ((xs.map fun z=>D.tup [z,z])[i]?):=fun i=>by
  unfold a6n'
  simp only[seqOf,ha]
  rw[ZJ]
  cases xs[i]? <;>rfl
 have hc:den (tS n) K32.G0 smC [some (.ref a),some (.lst xs)] S=.ok (.lst (List.replicate xs.length (.bl true))) S:=by
  refine a2y' (its:=.live (xs.length+1) (a6n' (.ref a) (.lst xs))) (S1:=S) (by simp only[denI,den,denL,Res.bind,Ze,Zd,hzo]) ?_
  have:=compG (S:=S) (step:=fun x acc S2=>match a0p' (.tup [.var 0,.var 1]) x [none,none]with
    |some ρ'=>(denTs (tS n) K32.G0 [] ρ' S2).bind fun k S3=>if k=true then denB (tS n) K32.G0 (.emit (.call "_law_same" [.var 0,.var 1])) ρ' acc S3 else .ok acc S3
    |none=>.fail) hg (fun y hy acc hac=>by
     have ha':acc.length<16777216:=hac
     obtain⟨z,hz,rfl⟩:=ZI.mp hy
     have ha1:a0p' (.tup [.var 0,.var 1]) (.tup [z,z]) [none,none]=some [some z,some z]:=rfl
     rw[ha1]
     simp only[denTs,denB,den,denL,Res.bind,Ze,Zd,uS,hx z hz,if_true]
     simp[ha']) xs.length 0 [] (by simp) (by show 0+xs.length≤16777216;omega)
  rw[Z1]at this
  exact this
 have hal:allD [.lst (List.replicate xs.length (.bl true))] S=.ok (.bl true) S:=by
  show boolR (allO ((List.replicate xs.length (D.bl true)).map asB)) S=_
  have:allO ((List.replicate xs.length (D.bl true)).map asB)=some true:=by
   rw[List.map_replicate,show List.replicate xs.length (asB (D.bl true))=xs.map fun _=>some true from(List.map_const' ..).symm]
   exact K32.a5X' fun x _=>rfl
  rw[this];rfl
 generalize D.lst xs=L at*
 unfold K32.a0P'
 refine a2d' ?_
 rw[a7a' (k:=true) (S1:=S) (by simp[denT,den,denL,Res.bind,Res.noErr,bltD,h1',h2',truD]),if_pos rfl]
 rw[a0o' (ρ':=[some (.ref a),some L]) (S':=S) (by
  rw[a7a' (k:=false) (S1:=S) (by simp[denT,den,denL,Res.bind,Res.noErr,onBl,bltD,h1,h2,h1',h2',h3,h4]),if_neg (by decide)]
  rfl)]
 refine a2d' ?_
 rw[denS,den,den]
 unfold smC at hc
 simp only[den,denL,Res.bind,Res.noErr,bltD,Ze,Zd,h5,h5',h6,onBl,if_true]at hc⊢
 simp only[hc,hal]
theorem a8F'(hS:Flat S)(n:Nat)(l:List Int)(hl:l.length≤1000):K32.a0g' (n+2) [ntD l,ntD l] S=.ok (.bl true) S:=b0N' hS (by rw[Zk];exact hl) fun z hz=>by
 obtain⟨i,_,rfl⟩:=ZI.mp hz
 exact b4s' hS n i
theorem b3f'(hS:Flat S)(n:Nat){p:List Int×List Int}(h1:p.1.length≤1000)(h2:p.2.length≤1000):K32.a0g' (n+3) [bD p,bD p] S=.ok (.bl true) S:=b0N' hS (by simp) fun z hz=>by
 rcases Zr.mp hz with rfl|hz
 ·exact a8F' hS n _ h1
 ·rw[Z0.mp hz]
  exact a8F' hS n _ h2
theorem a8G'(O:Ok2 m ts ps){p:List Int×List Int}(h:p∈pBl m ts ps):p.1.length≤1000∧p.2.length≤1000:=by
 obtain⟨e,he,h⟩:=Yc.mp h
 obtain⟨i,_,h⟩:=Yc.mp h
 have h8:=((K32.a4u' O).mp he).1.len8 O.W
 unfold bl at h
 split at h
 ·rw[Z0.mp h]
  exact⟨by rw[Z3];omega,by rw[Yd];omega⟩
 ·cases h
end
end K32
end
section
namespace K32
open PySem PySem.Spec PyProof.Rows L2 Py
section
variable {S T:Store}{m:Int}{ts ps:List Ti}
theorem b4P':a1F'=[.asg 2 (.call "_law_blooms" [.var 0,.var 1]),.for_ (.var 3) (.range [.lit (.int 2)]) r32B,.ret (.lit (.bl true))]:=rfl
theorem turn32{w p:D}{L:List D}{i x4:Option D}(hl:L.length≤14040)(ha:a0I' [w,p] S=.ok (.ref S.length) (S++[L]))(hf:a0V' [w,p] (S++[L])=.ok (frD L) (S++[L]))(hs:a1C' [.ref S.length,.lst L] (S++[L])=.ok (.bl true) (S++[L]))(hs2:a1C' [frD L,frD L] (S++[L])=.ok (.bl true) (S++[L])):
  denSs a0i' G0 r32B [some w,some p,some (.lst L),i,x4] S=.ok (.next [some w,some p,some (.lst L),i,some (.ref S.length)]) (S++[L++[.tup []]]):=by
 have hap:=a4X' (T:=S) (A:=L) (d:=.tup []) (by show _<16777216;omega)
 have hadd:=b2T' (S:=S++[L]) (p:=L) (q:=[.non]) (by simp;omega)
 have hix:idxD (.lst (L++[.non])) (.int 0) (S++[L])=.ok (frD L) (S++[L]):=by
  have e:atI (L++[.non]) 0=some (frD L):=by
   unfold atI ixN
   rw[if_pos (by omega),if_pos (by simp)]
   cases L<;>rfl
  unfold idxD
  simp only[seqOf,e]
 unfold r32B
 refine(a0C' (d:=.ref S.length) (S':=S++[L]) (by simp only[den,denL,Res.bind,a2c',ha,Ze,Zd])).trans ?_
 show denSs a0i' G0 _ [some w,some p,some (.lst L),i,some (.ref S.length)] (S++[L])=_
 refine(b4x' (T_or (x:=false) (y:=false) (T_not (k:=true) ?_) (T_not (k:=true) ?_))).trans ?_
 ·unfold r32A
  simp only[denT,denL,den,Res.bind,a0Z',hs,truD,Ze,Zd]
 ·unfold r32F
  generalize S++[L]=T at*
  simp only[denT,denL,den,Res.bind,Res.noErr,a0Z',a1P',hf,hadd,hix,hs2,truD,Ze,Zd,Zv,Z5]
 ·refine(a0o' (ρ':=[some w,some p,some (.lst L),i,some (.ref S.length)]) (S':=S++[L++[.tup []]]) ?_).trans rfl
  simp only[denS,den,denL,Res.bind,methD,hap,Res.noErr,Ze,Zd]
theorem b1e'{w p:D}{L A:List D}(hS:Flat S)(hw:a1n' [w,p] S=.ok (.lst L) S)(t1:∀i x4:Option D,denSs a0i' G0 r32B [some w,some p,some (.lst L),i,x4] S=.ok (.next [some w,some p,some (.lst L),i,some (.ref S.length)]) (S++[A]))
  (t2:∀i x4:Option D,denSs a0i' G0 r32B [some w,some p,some (.lst L),i,x4] (S++[A])=.ok (.next [some w,some p,some (.lst L),i,some (.ref (S++[A]).length)]) (S++[A]++[A])):a1f' [w,p] S=.ok (.bl true) S:=by
 have hd:denSs a0i' G0 a1F' [some w,some p,none,none,none] S=.ok (.ret (.bl true)) (S++[A]++[A]):=by
  rw[b4P']
  refine(a0C' (d:=.lst L) (S':=S) (a3w' a2b' (a0h' (i:=0) rfl) (a0h' (i:=1) rfl) hw)).trans ?_
  show denSs a0i' G0 _ [some w,some p,some (.lst L),none,none] S=_
  have hI:denI a0i' G0 (.range [.lit (.int 2)]) [some w,some p,some (.lst L),none,none] S=.ok (.items [.int 0,.int 1]) S:=rng_m (Φ:=a0i') (T:=S) (j:=2) (e:=.lit (.int 2)) (by omega) (by omega) a1d'
  have efor:denS a0i' G0 (.for_ (.var 3) (.range [.lit (.int 2)]) r32B) [some w,some p,some (.lst L),none,none] S=.ok (.next [some w,some p,some (.lst L),some (.int 1),some (.ref (S++[A]).length)]) (S++[A]++[A]):=by
   rw[a4k' hI]
   show Res.bind (denSs a0i' G0 r32B [some w,some p,some (.lst L),some (.int 0),none] S) _=_
   rw[t1]
   show Res.bind (denSs a0i' G0 r32B [some w,some p,some (.lst L),some (.int 1),some (.ref S.length)] (S++[A])) _=_
   rw[t2]
   rfl
  refine(a0o' efor).trans ?_
  exact a2d' (K32.a6a' a1d')
 show runD a0i' G0 a1F' a3N'.length 2 [w,p] S=_
 have hd':denSs a0i' G0 a1F' (([w,p]:List D).map some++List.replicate (a3N'.length-2) none) S=_:=hd
 unfold runD
 rw[if_pos (show [w,p].length=2 from rfl),hd']
 show trim S.length (.bl true) _=_
 rw[Zm,K32.a1R' (by rw[List.take_left' rfl];exact hS) rfl,List.take_left' rfl]
theorem a8H'(O:Ok2 m ts ps)(hS:Flat S)(hp:ps.length≤28):a1f' [webD m ts,.tup (tiesD ps)] S=.ok (.bl true) S:=by
 have hA:lowL 0 (dueB m ts ps++[D.tup []])=true:=K32.a2z'.mpr fun x hx=>by
  rcases ZA.mp hx with hx|hx
  ·exact K32.a2z'.mp a5b' x hx
  ·rw[Z0.mp hx];rfl
 have hS1:Flat (S++[dueB m ts ps++[D.tup []]]):=hS.snoc hA
 have hfew:=b4I' O
 have tt:∀(U:Store),Flat U→∀i x4:Option D,denSs a0i' G0 r32B [some (webD m ts),some (.tup (tiesD ps)),some (.lst (dueB m ts ps)),i,x4] U=.ok (.next [some (webD m ts),some (.tup (tiesD ps)),some (.lst (dueB m ts ps)),i,some (.ref U.length)]) (U++[dueB m ts ps++[.tup []]]):=fun U hU i x4=>by
  have hU1:Flat (U++[dueB m ts ps]):=hU.snoc a5b'
  refine turn32 hfew (a7d' O hU hp) (first32 O hU1 hp) ?_ ?_
  ·rw[b1d']
   exact b4O' hU1 boxE (by omega) fun z hz=>by
    obtain⟨p,hq,rfl⟩:=a7N' hz
    obtain⟨a,b⟩:=a8G' O hq
    exact b3f' hU1 2 a b
  ·cases e:dueB m ts ps with
   |nil=>
    show a0g' 6 [.non,.non] _=_
    unfold a0g'
    rw[e]at hU1
    exact a0z' rfl rfl rfl hU1 rfl
   |cons d L=>
    obtain⟨p,hq,rfl⟩:=a7N' (d:=d) (m:=m) (ts:=ts) (ps:=ps) (by rw[e];exact Zc)
    obtain⟨a,b⟩:=a8G' O hq
    rw[b1d']
    rw[e]at hU1
    exact b3f' hU1 3 a b
 exact b1e' hS (b1c' O hS) (tt S hS) (tt _ hS1)
end
end K32
end
section
namespace K32
open PySem PySem.Spec PyProof.Rows L2 Py
section
variable {S:Store}{m:Int}{ts ps:List (Int×Int)}{n:Nat}
theorem b3g'(l:List D)(lo hi:Option Int):(cutL l lo hi).Sublist l:=(List.take_sublist _ _).trans (List.drop_sublist _ _)
theorem cut_len(l:List D)(lo hi:Option Int):(cutL l lo hi).length≤l.length:=(b3g' l lo hi).length_le
theorem sl_tup(l:List D)(lo hi:Option Int):slD (.tup l) lo hi S=.ok (.tup (cutL l lo hi)) S:=rfl
theorem rev_eq(l:List D):revD (.tup l) (.int (-1)) S=.ok (.tup l.reverse) S:=rfl
end
end K32
end
section
namespace K32
open PySem PySem.Spec PyProof.Rows L2 Py
theorem y_law_free:a0W'=K32.a0W':=rfl
theorem y_law_stir:a0F'=K32.a0F':=rfl
section
variable {S T:Store}{m:Int}{ts ps:List Ti}
theorem b1f'(hT:Flat T)(t:Ti){b:Nat}{q:List Ti}(hb:T[b]?=some (tiesD q))(hq:q.length≤1000):a0W' [tieD t,.ref b] T=.ok (.bl (fits t q)) T:=by
 refine a0z' rfl ?_ rfl hT rfl
 show denSs a2u' G0 a4O' [some (tieD t),some (.ref b)] T=_
 have h0:idxD (tieD t) (.int 0) T=.ok (.int t.1) T:=rfl
 have h1:idxD (tieD t) (.int 1) T=.ok (.int t.2) T:=rfl
 have hc:den a2u' G0 frC [some (tieD t),some (.ref b)] T=.ok (.lst (q.map fun s=>.bl (hitB t s))) T:=by
  refine a2y' (its:=.live (q.length+1) (a3z' b)) (S1:=T) (by
   simp only[denI,den,Res.bind,Ze,Zd,a1h',hb,Option.getD_some]
   rw[show(tiesD q).length=q.length from Zk ..]) ?_
  have:=a7c' (f:=tieD) (g:=fun s=>[D.bl (hitB t s)]) (c:=1) (S:=T) (k:=b) (xs:=q) (step:=fun x acc S2=>match a0p' (.var 0) x [none,some (tieD t)]with
    |some ρ'=>(denTs a2u' G0 [] ρ' S2).bind fun k S3=>if k=true then denB a2u' G0 (.emit frE) ρ' acc S3 else .ok acc S3
    |none=>.fail) (fun _=>by simp) hb (fun s hs acc ha=>by
     have ha':acc.length<16777216:=by have:acc.length+1≤16777216:=ha;omega
     have ha1:a0p' (.var 0) (tieD s) [none,some (tieD t)]=some [some (tieD s),some (tieD t)]:=rfl
     have i0:=b2Q' (S:=T) t.1 s
     have i1:=b2Q' (S:=T) t.2 s
     rw[ha1]
     unfold hitB
     cases e: !(decide (t.1≠s.1)&&decide (t.1≠s.2))<;>rw[e]at i0<;>simp only[frE,denTs,denB,den,denL,Res.bind,h0,h1,i0,i1,Res.noErr,onBl,Ze,Zd,if_true,Bool.false_or,Bool.true_or,Zv,Z5,ha']) q.length 0 [] (by simp) (by show 0+1*q.length≤16777216;omega)
  rw[Z1,List.drop_zero]at this
  refine Eq.trans this ?_
  congr 1
  exact(List.map_eq_flatMap ..).symm
 have ha:anyD [.lst (q.map fun s=>.bl (hitB t s))] T=.ok (.bl (q.any (hitB t))) T:=by
  show boolR (anyO ((q.map fun s=>D.bl (hitB t s)).map asB)) T=_
  rw[Yj]
  have:(q.map (asB∘fun s=>D.bl (hitB t s)))=q.map fun s=>some (hitB t s):=rfl
  rw[this,b0M']
  rfl
 have hbb:(!q.any (hitB t))=fits t q:=by
  unfold fits
  rw[List.not_any_eq_all_not]
  congr 1
  funext s
  unfold hitB hasP
  by_cases a1:t.1=s.1<;>by_cases a2:t.1=s.2<;>by_cases a3:t.2=s.1<;>by_cases a4:t.2=s.2<;>simp[a1,a2,a3,a4]
 have ec:a4O'=[.ret (.bnot (.blt .any [frC]))]:=rfl
 rw[ec]
 refine a2d' ?_
 rw[←hbb]
 rw[denS,den,den,denL,hc]
 simp[denL,Res.bind,bltD,ha,truD,Res.noErr]
theorem c_pg_is:a0X'=[.asg 2 pg2,.asg 3 pg3,.asg 4 (.lst true []),.for_ (.tup [.var 5,.var 6]) pgI pgB,.ret (.blt .tuple [.blt (.sorted false (.seq .int)) [.var 4]])]:=rfl
theorem b1g'{x:D}:∀{xs:List D} {k:Nat},x∈enumL k xs→∃(i:Nat),∃y∈xs,x=.tup [.int (i:Nat),y]
 | [],k,h=>by cases h
 |y::xs,k,h=>by
  rcases Zr.mp h with rfl|h
  ·exact⟨k,y,Zc,rfl⟩
  ·obtain⟨i,z,hz,e⟩:=b1g' h
   exact⟨i,z,Zb _ hz,e⟩
theorem pg_step(W:Web m ts)(hS:Flat S){fs:List Ti}(F:Found ts fs){t:Ti}(ht:t∈ts){i:Nat}{c o:Int}{x0 x2:Option D}:∃fs',Found ts fs'∧denSs a0d' G0 pgB [x0,some (.int c),x2,some (.int o),some (.ref S.length),some (.int (i:Nat)),some (tieD t)] (S++[tiesD fs])=.ok (.next [x0,some (.int c),x2,some (.int o),some (.ref S.length),some (.int (i:Nat)),some (tieD t)]) (S++[tiesD fs']):=by
 have hl:=F.length W
 have hS1:Flat (S++[tiesD fs]):=hS.snoc (K32.a2X' fs)
 have hf:=b1f' hS1 t (b:=S.length) (q:=fs) boxE (by omega)
 have hst:a0F' [.int c,.int (71+(i:Int))] (S++[tiesD fs])=.ok (.int (stirV c (71+(i:Int)))) (S++[tiesD fs]):=K32.b0O' hS1 _ _
 have hmo:opD .Mod (.int (stirV c (71+(i:Int)))) (.int 6) (S++[tiesD fs])=.ok (.int (stirV c (71+(i:Int))%6)) (S++[tiesD fs]):=K32.o_mod (by omega)
 have hap:=a4X' (T:=S) (A:=tiesD fs) (d:=tieD t) (by unfold tiesD;rw[Zk];show _<16777216;omega)
 have hap':a3e' (.ref S.length) [tieD t] (S++[tiesD fs])=.ok .non (S++[tiesD (fs++[t])]):=by rw[hap];unfold tiesD;rw[List.map_append];rfl
 have t1:denT a0d' G0 pgT1 [x0,some (.int c),x2,some (.int o),some (.ref S.length),some (.int (i:Nat)),some (tieD t)] (S++[tiesD fs])=.ok (decide (stirV c (71+(i:Int))%6<o+1)) (S++[tiesD fs]):=
  T_cm (a2P' (a3w' a0x' (a0h' (i:=1) rfl) (a2P' a1d' (a0h' (i:=5) rfl) rfl) hst) a1d' hmo) (a2P' (a0h' (i:=3) rfl) a1d' rfl) rfl
 have t2:denT a0d' G0 pgF [x0,some (.int c),x2,some (.int o),some (.ref S.length),some (.int (i:Nat)),some (tieD t)] (S++[tiesD fs])=.ok (fits t fs) (S++[tiesD fs]):=by
  unfold pgF
  generalize tieD t=d at*
  simp only[denT,denL,den,Res.bind,a1Z',hf,truD,Ze,Zd]
 have tt:denT a0d' G0 (.band pgT1 pgF) [x0,some (.int c),x2,some (.int o),some (.ref S.length),some (.int (i:Nat)),some (tieD t)] (S++[tiesD fs])=.ok (decide (stirV c (71+(i:Int))%6<o+1)&&fits t fs) (S++[tiesD fs]):=T_and t1 t2
 unfold pgB
 generalize CE.band pgT1 pgF=q at tt⊢
 cases hk:(decide (stirV c (71+(i:Int))%6<o+1)&&fits t fs)with
 |false=>
  rw[hk]at tt
  exact⟨fs,F,by simp only[denSs,denS,tt,Res.bind,Zv,Z5]⟩
 |true=>
  rw[hk]at tt
  rw[Zt]at hk
  refine⟨fs++[t],F.add W ht hk.2,?_⟩
  generalize tieD t=d at*
  simp only[denSs,denS,tt,Res.bind,if_true,den,denL,methD,hap',Res.noErr,Ze,Zd]
theorem a8I'(W:Web m ts)(hS:Flat S)(c:Int):∃ps,Pairing ts ps∧ps.length≤28∧a1u' [webD m ts,.int c] S=.ok (.tup (tiesD ps)) S:=by
 have hlt:(tiesD ts).length≤28:=by unfold tiesD;rw[Zk];exact W.few
 have hst:∀(k:Int),a0F' [.int c,.int k] S=.ok (.int (stirV c k)) S:=fun k=>K32.b0O' hS _ _
 have hts:∀{x:List (Option D)},den a0d' G0 pgTs (some (webD m ts)::x) S=.ok (.tup (tiesD ts)) S:=a2O' (a0h' (i:=0) rfl) a1d' rfl
 have hln:lenD [.tup (tiesD ts)] S=.ok (.int ((tiesD ts).length:Nat)) S:=rfl
 have e2:den a0d' G0 pg2 [some (webD m ts),some (.int c),none,none,none,none,none] S=.ok (.int (stirV c 70%(((tiesD ts).length:Int)+1))) S:=
  a2P' (a3w' a0x' (a0h' (i:=1) rfl) a1d' (hst 70)) (a2P' (b2i' hts hln) a1d' rfl) (K32.o_mod (by omega))
 generalize stirV c 70%(((tiesD ts).length:Int)+1)=f at e2
 have e3:den a0d' G0 pg3 [some (webD m ts),some (.int c),some (.int f),none,none,none,none] S=.ok (.int (1+stirV c 69%5)) S:=
  a2P' a1d' (a2P' (a3w' a0x' (a0h' (i:=1) rfl) a1d' (hst 69)) a1d' (K32.o_mod (by omega))) rfl
 generalize 1+stirV c 69%5=o at e3
 have hS1:Flat (S++[tiesD []]):=hS.snoc rfl
 have hcl:∀lo hi,(cutL (tiesD ts) lo hi).length≤28:=fun lo hi=>ZB (cut_len _ _ _) hlt
 have hI:denI a0d' G0 pgI [some (webD m ts),some (.int c),some (.int f),some (.int o),some (.ref S.length),none,none] (S++[tiesD []])=.ok (.items (enumL 0 (cutL (tiesD ts) (some f) none++cutL (tiesD ts) none (some f)))) (S++[tiesD []]):=by
  have q0:idxD (webD m ts) (.int 1) (S++[tiesD []])=.ok (.tup (tiesD ts)) (S++[tiesD []]):=rfl
  have q1:slD (.tup (tiesD ts)) (some f) none (S++[tiesD []])=.ok (.tup (cutL (tiesD ts) (some f) none)) (S++[tiesD []]):=rfl
  have q2:slD (.tup (tiesD ts)) none (some f) (S++[tiesD []])=.ok (.tup (cutL (tiesD ts) none (some f))) (S++[tiesD []]):=rfl
  have q3:=K32.b0Q' (S:=S++[tiesD []]) (p:=cutL (tiesD ts) (some f) none) (q:=cutL (tiesD ts) none (some f)) (by have:=hcl (some f) none;have:=hcl none (some f);omega)
  unfold pgI pgTs
  generalize webD m ts=w at*
  generalize D.tup (tiesD ts)=tt at*
  generalize S++[tiesD []]=U at*
  simp only[denI,den,denL,Res.bind,q0,optL,toOpt,Res.noErr,q1,q2,q3,a5e',Ze,Zd]
 obtain⟨ρ',S',⟨fs,y5,y6,F,rfl,rfl⟩,hfor⟩:=a4W' (step:=fun x ρ S=>match asgCT (.tup [.var 5,.var 6]) x ρ with
   |some ρ'=>denSs a0d' G0 pgB ρ' S
   |none=>.fail) (fun ρ U=>∃fs x5 x6,Found ts fs∧ρ=[some (webD m ts),some (.int c),some (.int f),some (.int o),some (.ref S.length),x5,x6]∧U=S++[tiesD fs]) (enumL 0 (cutL (tiesD ts) (some f) none++cutL (tiesD ts) none (some f))) (by
    rintro x hx ρ U ⟨fs,x5,x6,F,rfl,rfl⟩
    obtain⟨i,y,hy,rfl⟩:=b1g' hx
    have hy':y∈tiesD ts:=by
     rcases ZA.mp hy with h|h<;>exact(b3g' _ _ _).subset h
    obtain⟨t,ht,rfl⟩:=ZI.mp hy'
    obtain⟨fs',F',e⟩:=pg_step W hS F ht (i:=i) (c:=c) (o:=o) (x0:=some (webD m ts)) (x2:=some (.int f))
    exact⟨_,_,⟨fs',_,_,F',rfl,rfl⟩,e⟩) [some (webD m ts),some (.int c),some (.int f),some (.int o),some (.ref S.length),none,none] (S++[tiesD []]) ⟨[],none,none,⟨fun t h=>(by cases h),List.nodup_nil⟩,rfl,rfl⟩
 have hl:=F.length W
 refine⟨sortI fs,F.pairing,by rw[(a1I' fs).length_eq];exact hl,?_⟩
 have hd:denSs a0d' G0 a0X' [some (webD m ts),some (.int c),none,none,none,none,none] S=.ok (.ret (.tup (tiesD (sortI fs)))) (S++[tiesD fs]):=by
  rw[c_pg_is]
  refine(a0C' e2).trans ?_
  show denSs a0d' G0 _ [some (webD m ts),some (.int c),some (.int f),none,none,none,none] S=_
  refine(a0C' e3).trans ?_
  show denSs a0d' G0 _ [some (webD m ts),some (.int c),some (.int f),some (.int o),none,none,none] S=_
  refine(a0C' (d:=.ref S.length) (S':=S++[tiesD []]) (by simp only[den,denL,Res.bind,if_true];rfl)).trans ?_
  show denSs a0d' G0 _ [some (webD m ts),some (.int c),some (.int f),some (.int o),some (.ref S.length),none,none] _=_
  refine(a0o' (ρ':=[some (webD m ts),some (.int c),some (.int f),some (.int o),some (.ref S.length),y5,y6]) (S':=S++[tiesD fs]) ?_).trans ?_
  ·exact(a4k' (Γ:=G0) hI).trans hfor
  ·exact a2d' (K32.a6a' (K32.b0J' (K32.b0J' (K32.den_v (i:=4) rfl) (K32.a2Z' (l:=fs) boxE (by omega))) rfl))
 show runD a0d' G0 a0X' a2v'.length 2 [webD m ts,.int c] S=_
 have hd':denSs a0d' G0 a0X' (([webD m ts,.int c]:List D).map some++List.replicate (a2v'.length-2) none) S=_:=hd
 unfold runD
 rw[if_pos (show [webD m ts,D.int c].length=2 from rfl),hd']
 show trim S.length (.tup (tiesD (sortI fs))) _=_
 have hlow:lowD 0 (.tup (tiesD (sortI fs)))=true:=K32.a2X' _
 rw[K32.a1R' (by rw[List.take_left' rfl];exact hS) hlow,List.take_left' rfl]
end
end K32
end
section
namespace K32
open PySem PySem.Spec PyProof.Rows L2 Py
theorem b2s':a2F'=K32.a2F':=rfl
theorem b1h':a0L'=K32.a0L':=rfl
section
variable {S T:Store}{m:Int}{ts ps:List Ti}
theorem b1i':c_law=[.asg 1 z32R,.ite z32T [.ret (.lit (.bl false))] [],.for_ (.var 2) z32C z32B,.ret (.lit (.bl true))]:=rfl
theorem web32:Web 5 [(0,1),(0,4),(1,2),(2,3),(3,4)]:=⟨by decide,by decide,by decide+kernel,by decide+kernel,by decide⟩
theorem pair32:Pairing [(0,1),(0,4),(1,2),(2,3),(3,4)] [(0,1),(2,3)]:=⟨by decide+kernel,by decide+kernel,by decide⟩
theorem web1_32:Web 1 []:=⟨by decide,by decide,.nil,fun t ht=>(by cases ht),by decide⟩
theorem test32{x0:Option D}{x:List (Option D)}:denT t_law G0 z32T (x0::some (webD 5 [(0,1),(0,4),(1,2),(2,3),(3,4)])::x) []=.ok false []:=by
 have r1:=a8H' (S:=[]) ⟨web32,pair32⟩ Flat.nil (by decide)
 have r2:=a8H' (S:=[]) ⟨web32,b0Y'⟩ Flat.nil (by decide)
 have r3:=a8H' (S:=[]) ⟨web1_32,b0Y'⟩ Flat.nil (by decide)
 have d1:den t_law G0 z32P (x0::some (webD 5 [(0,1),(0,4),(1,2),(2,3),(3,4)])::x) []=.ok (.tup (tiesD [(0,1),(2,3)])) []:=by simp[z32P,den,denL,Res.bind,tiesD,tieD]
 have d2:den t_law G0 (.tup []) (x0::some (webD 5 [(0,1),(0,4),(1,2),(2,3),(3,4)])::x) []=.ok (.tup (tiesD [])) []:=by simp[den,denL,Res.bind,tiesD]
 have d3:den t_law G0 (.tup [.lit (.int 1),.tup []]) (x0::some (webD 5 [(0,1),(0,4),(1,2),(2,3),(3,4)])::x) []=.ok (webD 1 []) []:=by simp[den,denL,Res.bind,webD,tiesD]
 generalize webD 5 [(0,1),(0,4),(1,2),(2,3),(3,4)]=w at*
 generalize webD 1 []=w1 at*
 generalize D.tup (tiesD [(0,1),(2,3)])=p1 at*
 generalize D.tup (tiesD [])=p2 at*
 unfold z32T
 generalize z32P=q1 at*
 generalize CE.tup [.lit (.int 1),.tup []]=q3 at*
 generalize CE.tup []=q2 at*
 have c:∀{a b:CE} {d e:D},den t_law G0 a (x0::some w::x) []=.ok d []→den t_law G0 b (x0::some w::x) []=.ok e []→a1f' [d,e] []=.ok (.bl true) []→denT t_law G0 (.call "_law_right" [a,b]) (x0::some w::x) []=.ok true []:=fun h1 h2 h=>by
  simp only[denT,denL,h1,h2,Res.bind,a2x',h,truD]
 exact T_or (x:=false) (y:=false) (T_not (k:=true) (c (a0h' (i:=1) rfl) d1 r1)) (T_or (x:=false) (y:=false) (T_not (k:=true) (c (a0h' (i:=1) rfl) d2 r2)) (T_not (k:=true) (c d3 d2 r3)))
theorem cells32{ns:List Int}(hS:Flat S)(hl:ns.length≤63){x:List (Option D)}:∃cs:List Int,denI t_law G0 z32C (some (.scr (ns.map D.int))::x) S=.ok (.items (cs.map D.int)) S:=by
 obtain⟨c,ec⟩:=K32.cell_eq hS ns
 rw[←b1h']at ec
 obtain⟨cs,hc,hcl⟩:∃cs:List Int,cutL (ns.map D.int) (some 1) (some 3)=cs.map D.int∧cs.length≤63:=by
  refine⟨(ns.drop _).take _,by unfold cutL;rw[←List.map_drop,←List.map_take],?_⟩
  simp;omega
 refine⟨c::cs,?_⟩
 have h1:slD (.scr (ns.map D.int)) (some 1) (some 3) S=.ok (.lst (cs.map D.int)) S:=by
  rw[←hc];rfl
 have h2:addD (.lst [.int c]) (.lst (cs.map D.int)) S=.ok (.lst ([.int c]++cs.map D.int)) S:=by
  show(if 1+(cs.map D.int).length≤big then Res.ok (D.lst ([.int c]++cs.map D.int)) S else .fail)=_
  rw[if_pos (by unfold big;simp;omega)]
 simp[z32C,denI,den,denL,Res.bind,Res.noErr,a3O',ec,optL,toOpt,h1,opD,h2,a1h']
theorem b4Q'(W:Web m ts)(hS:Flat S){fs:List Ti}(F:Found ts fs){t:Ti}(ht:t∈ts){x0 x1 x2 x3 x4 x7:Option D}:∃fs',Found ts fs'∧denSs t_law G0 z32G [x0,x1,x2,x3,x4,some (.ref S.length),some (tieD t),x7] (S++[tiesD fs])=.ok (.next [x0,x1,x2,x3,x4,some (.ref S.length),some (tieD t),x7]) (S++[tiesD fs']):=by
 have hl:=F.length W
 have hS1:Flat (S++[tiesD fs]):=hS.snoc (K32.a2X' fs)
 have hf:=b1f' hS1 t (b:=S.length) (q:=fs) boxE (by omega)
 have hap:=a4X' (T:=S) (A:=tiesD fs) (d:=tieD t) (by unfold tiesD;rw[Zk];show _<16777216;omega)
 have hap':a3e' (.ref S.length) [tieD t] (S++[tiesD fs])=.ok .non (S++[tiesD (fs++[t])]):=by rw[hap];unfold tiesD;rw[List.map_append];rfl
 unfold z32G
 cases hk:fits t fs with
 |false=>
  rw[hk]at hf
  refine⟨fs,F,?_⟩
  generalize tieD t=d at*
  simp only[denSs,denS,denT,denL,den,Res.bind,a2Q',hf,truD,Ze,Zd,Zv,Z5]
 |true=>
  rw[hk]at hf
  refine⟨fs++[t],F.add W ht hk,?_⟩
  generalize tieD t=d at*
  simp only[denSs,denS,denT,denL,den,Res.bind,a2Q',hf,truD,Ze,Zd,if_true,methD,hap',Res.noErr]
theorem body32{s0 x1 x3 x4 x5 x6 x7:Option D}(c:Int)(hS:Flat S):∃y3 y4 y5 y6 y7 S',Flat S'∧denSs t_law G0 z32B [s0,x1,some (.int c),x3,x4,x5,x6,x7] S=.ok (.next [s0,x1,some (.int c),y3,y4,y5,y6,y7]) S':=by
 obtain⟨m,ts,W,ew⟩:=K32.web_eq hS c
 rw[←b2s']at ew
 obtain⟨p1,P1,l1,e1⟩:=a8I' W hS c
 obtain⟨p2,P2,l2,e2⟩:=a8I' W hS (c+5)
 have hS1:Flat (S++[tiesD []]):=hS.snoc rfl
 have hI:denI t_law G0 z32V [s0,x1,some (.int c),some (webD m ts),some (.lst [.tup (tiesD p1),.tup (tiesD p2)]),some (.ref S.length),x6,x7] (S++[tiesD []])=.ok (.items ((tiesD ts).reverse)) (S++[tiesD []]):=by
  have q0:idxD (webD m ts) (.int 1) (S++[tiesD []])=.ok (.tup (tiesD ts)) (S++[tiesD []]):=rfl
  have q1:revD (.tup (tiesD ts)) (.int (-1)) (S++[tiesD []])=.ok (.tup (tiesD ts).reverse) (S++[tiesD []]):=rfl
  unfold z32V
  generalize webD m ts=w at*
  generalize S++[tiesD []]=U at*
  simp only[denI,den,denL,Res.bind,q0,Res.noErr,q1,a1h',Ze,Zd]
 obtain⟨ρ',S',⟨fs,y6,F,rfl,rfl⟩,hfor⟩:=a4W' (step:=fun x ρ S=>match asgCT (.var 6) x ρ with
   |some ρ'=>denSs t_law G0 z32G ρ' S
   |none=>.fail) (fun ρ U=>∃fs x6,Found ts fs∧ρ=[s0,x1,some (.int c),some (webD m ts),some (.lst [.tup (tiesD p1),.tup (tiesD p2)]),some (.ref S.length),x6,x7]∧U=S++[tiesD fs]) ((tiesD ts).reverse) (by
    rintro x hx ρ U ⟨fs,x6,F,rfl,rfl⟩
    obtain⟨t,ht,rfl⟩:=ZI.mp (List.mem_reverse.mp hx)
    obtain⟨fs',F',e⟩:=b4Q' W hS F ht (x0:=s0) (x1:=x1) (x2:=some (.int c)) (x3:=some (webD m ts)) (x4:=some (.lst [.tup (tiesD p1),.tup (tiesD p2)])) (x7:=x7)
    exact⟨_,_,⟨fs',_,F',rfl,rfl⟩,e⟩) [s0,x1,some (.int c),some (webD m ts),some (.lst [.tup (tiesD p1),.tup (tiesD p2)]),some (.ref S.length),x6,x7] (S++[tiesD []]) ⟨[],x6,⟨fun t h=>(by cases h),List.nodup_nil⟩,rfl,rfl⟩
 have hl:=F.length W
 have hS2:Flat (S++[tiesD fs]):=hS.snoc (K32.a2X' fs)
 have P3:=F.pairing
 have l3:(sortI fs).length≤28:=by rw[(a1I' fs).length_eq];exact hl
 have hso:=K32.a2Z' (S:=S++[tiesD fs]) (d:=.ref S.length) (l:=fs) boxE (by omega)
 have hI2:denI t_law G0 z32S [s0,x1,some (.int c),some (webD m ts),some (.lst [.tup (tiesD p1),.tup (tiesD p2)]),some (.ref S.length),y6,x7] (S++[tiesD fs])=.ok (.items [.tup (tiesD p1),.tup (tiesD p2),.tup (tiesD (sortI fs))]) (S++[tiesD fs]):=by
  have q1:a8M' [.lst (tiesD (sortI fs))] (S++[tiesD fs])=.ok (.tup (tiesD (sortI fs))) (S++[tiesD fs]):=rfl
  have q2:opD .Add (.lst [.tup (tiesD p1),.tup (tiesD p2)]) (.lst [.tup (tiesD (sortI fs))]) (S++[tiesD fs])=.ok (.lst [.tup (tiesD p1),.tup (tiesD p2),.tup (tiesD (sortI fs))]) (S++[tiesD fs]):=K32.add_lst (p:=[.tup (tiesD p1),.tup (tiesD p2)]) (q:=[.tup (tiesD (sortI fs))]) (by simp)
  unfold z32S
  generalize D.tup (tiesD p1)=d1 at*
  generalize D.tup (tiesD p2)=d2 at*
  generalize D.tup (tiesD (sortI fs))=d3 at*
  generalize S++[tiesD fs]=U at*
  simp only[denI,den,denL,Res.bind,bltD,hso,q1,Res.noErr,q2,a1h',Ze,Zd,Zv,Z5]
 obtain⟨ρ',S',⟨y7,rfl,rfl⟩,hfor2⟩:=a4W' (step:=fun x ρ S=>match asgCT (.var 7) x ρ with
   |some ρ'=>denSs t_law G0 z32E ρ' S
   |none=>.fail) (fun ρ U=>∃x7,ρ=[s0,x1,some (.int c),some (webD m ts),some (.lst [.tup (tiesD p1),.tup (tiesD p2)]),some (.ref S.length),y6,x7]∧U=S++[tiesD fs]) [.tup (tiesD p1),.tup (tiesD p2),.tup (tiesD (sortI fs))] (by
    rintro x hx ρ U ⟨x7,rfl,rfl⟩
    obtain⟨p,P,l,rfl⟩:∃p,Pairing ts p∧p.length≤28∧x=.tup (tiesD p):=by
     simp only[Zr,ZS,or_false]at hx
     rcases hx with rfl|rfl|rfl
     ·exact⟨p1,P1,l1,rfl⟩
     ·exact⟨p2,P2,l2,rfl⟩
     ·exact⟨_,P3,l3,rfl⟩
    have hr:=a8H' (S:=S++[tiesD fs]) ⟨W,P⟩ hS2 l
    refine⟨_,_,⟨some (.tup (tiesD p)),rfl,rfl⟩,?_⟩
    show denSs t_law G0 z32E [s0,x1,some (.int c),some (webD m ts),some (.lst [.tup (tiesD p1),.tup (tiesD p2)]),some (.ref S.length),y6,some (.tup (tiesD p))] (S++[tiesD fs])=_
    unfold z32E
    refine(b4x' (T_not (k:=true) ?_)).trans rfl
    generalize webD m ts=w at*
    generalize S++[tiesD fs]=U at*
    simp only[denT,denL,den,Res.bind,a2x',hr,truD,Ze,Zd]) [s0,x1,some (.int c),some (webD m ts),some (.lst [.tup (tiesD p1),.tup (tiesD p2)]),some (.ref S.length),y6,x7] (S++[tiesD fs]) ⟨x7,rfl,rfl⟩
 refine⟨some (webD m ts),some (.lst [.tup (tiesD p1),.tup (tiesD p2)]),some (.ref S.length),y6,y7,S++[tiesD fs],hS2,?_⟩
 unfold z32B
 refine(a0C' (d:=webD m ts) (S':=S) (a3w' a5U' (a0h' (i:=2) rfl) a1d' ew)).trans ?_
 show denSs t_law G0 _ [s0,x1,some (.int c),some (webD m ts),x4,x5,x6,x7] S=_
 refine(a0C' (d:=.lst [.tup (tiesD p1),.tup (tiesD p2)]) (S':=S) ?_).trans ?_
 ·have q5:opD .Add (.int c) (.int 5) S=.ok (.int (c+5)) S:=rfl
  unfold z32L
  generalize webD m ts=w at*
  generalize D.tup (tiesD p1)=d1 at*
  generalize D.tup (tiesD p2)=d2 at*
  simp only[den,denL,Res.bind,a3P',e1,q5,Res.noErr,e2,Ze,Zd,Zv,Z5]
 show denSs t_law G0 _ [s0,x1,some (.int c),some (webD m ts),some (.lst [.tup (tiesD p1),.tup (tiesD p2)]),x5,x6,x7] S=_
 refine(a0C' (d:=.ref S.length) (S':=S++[tiesD []]) (by simp only[den,denL,Res.bind,if_true];rfl)).trans ?_
 show denSs t_law G0 _ [s0,x1,some (.int c),some (webD m ts),some (.lst [.tup (tiesD p1),.tup (tiesD p2)]),some (.ref S.length),x6,x7] (S++[tiesD []])=_
 refine(a0o' (ρ':=[s0,x1,some (.int c),some (webD m ts),some (.lst [.tup (tiesD p1),.tup (tiesD p2)]),some (.ref S.length),y6,x7]) (S':=S++[tiesD fs]) ?_).trans ?_
 ·exact(a4k' (Γ:=G0) hI).trans hfor
 ·refine(a0o' (ρ':=[s0,x1,some (.int c),some (webD m ts),some (.lst [.tup (tiesD p1),.tup (tiesD p2)]),some (.ref S.length),y6,y7]) (S':=S++[tiesD fs]) ?_).trans rfl
  exact(a4k' (Γ:=G0) hI2).trans hfor2
theorem good(ns:List Int)(hl:ns.length≤63):∃S',f_law [.scr (ns.map D.int)] []=.ok (.bl true) S':=by
 obtain⟨cs,hcs⟩:=cells32 Flat.nil hl (x:=[some (webD 5 [(0,1),(0,4),(1,2),(2,3),(3,4)]),none,none,none,none,none,none])
 obtain⟨ρ',S',_,hf⟩:=a4W' (step:=fun x ρ S=>match asgCT (.var 2) x ρ with
   |some ρ'=>denSs t_law G0 z32B ρ' S
   |none=>.fail) (fun ρ S=>∃x2 x3 x4 x5 x6 x7,ρ=[some (.scr (ns.map D.int)),some (webD 5 [(0,1),(0,4),(1,2),(2,3),(3,4)]),x2,x3,x4,x5,x6,x7]∧Flat S) (cs.map D.int) (by
    rintro x hx ρ S ⟨x2,x3,x4,x5,x6,x7,rfl,hS⟩
    obtain⟨c,_,rfl⟩:=ZI.mp hx
    obtain⟨y3,y4,y5,y6,y7,S',hS',e⟩:=body32 (s0:=some (.scr (ns.map D.int))) (x1:=some (webD 5 [(0,1),(0,4),(1,2),(2,3),(3,4)])) (x3:=x3) (x4:=x4) (x5:=x5) (x6:=x6) (x7:=x7) c hS
    exact⟨_,S',⟨_,_,_,_,_,_,rfl,hS'⟩,e⟩) [some (.scr (ns.map D.int)),some (webD 5 [(0,1),(0,4),(1,2),(2,3),(3,4)]),none,none,none,none,none,none] [] ⟨none,none,none,none,none,none,rfl,Flat.nil⟩
 have hd:denSs t_law G0 c_law [some (.scr (ns.map D.int)),none,none,none,none,none,none,none] []=.ok (.ret (.bl true)) S':=by
  rw[b1i']
  refine(a0C' (d:=webD 5 [(0,1),(0,4),(1,2),(2,3),(3,4)]) (S':=[]) (by simp[z32R,den,denL,Res.bind,webD,tiesD,tieD])).trans ?_
  show denSs t_law G0 _ [some (.scr (ns.map D.int)),some (webD 5 [(0,1),(0,4),(1,2),(2,3),(3,4)]),none,none,none,none,none,none] []=_
  refine(b4x' test32).trans ?_
  show denSs t_law G0 [.for_ (.var 2) z32C z32B,.ret (.lit (.bl true))] [some (.scr (ns.map D.int)),some (webD 5 [(0,1),(0,4),(1,2),(2,3),(3,4)]),none,none,none,none,none,none] []=_
  refine(a0o' (ρ':=ρ') (S':=S') ?_).trans rfl
  rw[a4k' hcs]
  exact hf
 refine⟨[],?_⟩
 show runD t_law G0 c_law n_law.length 1 [.scr (ns.map D.int)] []=_
 unfold runD
 rw[if_pos (show [D.scr (ns.map D.int)].length=1 from rfl)]
 rw[show denSs t_law G0 c_law ([D.scr (ns.map D.int)].map some++List.replicate (n_law.length-1) none) []=_ from hd]
 rfl
end
end K32
end
section
namespace K32
open PySem PySem.Spec PyProof.Rows L2 Py
theorem walk{l:PySem.W.OpenLaw}{q:Program}{loose:List Str}{XP:(Str→Option Value)→Heap→Prop}{YP:World→Heap→Prop}{d:DefRec}{K:Params→PySem.W.Frag}(hn:l.most=some 63)(hdf:d.params.defaults=[])
  (hY:∀(w:World) (h:Heap),YP w h→(K w.params).In h)
  (F:∀(w:World) (mg:Str→Option Value) (fa:Addr) (h:Heap),(K w.params).In h→h.Ns mainGlobals mg→mg d.name=some (.ref fa)→
   ∃fd:FuncData,(∀(s:Shared) (u:Value),BindsTo s fd ⟨[u],[]⟩ [("_law_script",u)])∧∀base:Heap,(K w.params).In base→base.Ns mainGlobals mg→FnOk l.prog w (K w.params) mg base CX0 13 fa fd ["_law_script"] (spLaw (K w.params))):
  PySem.W.WalkO q loose XP YP l.row.toRowW d [] (fun f vs=>PySem.call f vs):=
 L2.walk_of (n:=63) (k:=13) (x:="_law_script") (CX:=fun _=>CX0) (sp:=fun w=>spLaw (K w.params)) hn (by decide) hdf ⟨rfl,by decide,by decide,rfl⟩ hY F (fun _ _ a ns hl hO hS=>⟨a,ns,rfl,hO,hS,hl,fun _=>rfl⟩) fun _ _ _ _ _ z=>z
end K32
namespace PySem.W.Fast
theorem tw528843072606259899:True:=⟨⟩
theorem tw12177202246542940394:True:=⟨⟩
theorem tw89797470919182182:True:=⟨⟩
theorem tw13870412481051505688:True:=⟨⟩
theorem tw11990250444835346062:True:=⟨⟩
theorem tw16275085662731011439:True:=⟨⟩
theorem tw4706248385264478542:True:=⟨⟩
theorem tw12779014944359156217:True:=⟨⟩
theorem tw15890118233441849130:True:=⟨⟩
theorem tw3361384116004994773:True:=⟨⟩
theorem tw1164695286774622227:True:=⟨⟩
theorem tw4248636571223998460:True:=⟨⟩
theorem tw1917554840171686085:True:=⟨⟩
theorem tw6817208335517105154:True:=⟨⟩
theorem tw7813666783704542041:True:=⟨⟩
theorem tw6464059556815824013:True:=⟨⟩
theorem tw1097437687439036321:True:=⟨⟩
theorem tw14889713329349091985:True:=⟨⟩
theorem tw12229332648358516357:True:=⟨⟩
theorem tw10928889964822454757:True:=⟨⟩
theorem tw15939731734508664472:True:=⟨⟩
theorem tw17213527750970850456:True:=⟨⟩
theorem tw15584851963892413370:True:=⟨⟩
theorem tw2127854832897231453:True:=⟨⟩
theorem tw1799787683168784812:True:=⟨⟩
theorem tw9241362798996847116:True:=⟨⟩
theorem tw129154460057166293:True:=⟨⟩
theorem tw18230970623055840693:True:=⟨⟩
theorem tw2332642843252306678:True:=⟨⟩
theorem tw6656558835969111993:True:=⟨⟩
theorem tw16067622306736662707:True:=⟨⟩
theorem tw4321992488025904730:True:=⟨⟩
theorem tw12808424693879128965:True:=⟨⟩
theorem tw14616237727487184275:True:=⟨⟩
theorem tw12101960980192632948:True:=⟨⟩
theorem tw14502106155091435999:True:=⟨⟩
theorem tw13407179764686077060:True:=⟨⟩
theorem tw3151946372395499491:True:=⟨⟩
theorem tw14381149009851030334:True:=⟨⟩
theorem tw14199542010678270774:True:=⟨⟩
theorem tw11747120479783998551:True:=⟨⟩
theorem tw17119902007757883255:True:=⟨⟩
theorem tw377863314681290513:True:=⟨⟩
theorem tw5249170298721386765:True:=⟨⟩
theorem tw5618954957796176357:True:=⟨⟩
theorem tw2302229892266714565:True:=⟨⟩
theorem tw6535088426276913045:True:=⟨⟩
theorem tw16358963226616880185:True:=⟨⟩
theorem tw17585392218724711111:True:=⟨⟩
theorem tw12122049665028308923:True:=⟨⟩
theorem tw17437277891331456782:True:=⟨⟩
theorem tw16917429983011076362:True:=⟨⟩
theorem tw17372816827749808984:True:=⟨⟩
theorem tw8260020070278932636:True:=⟨⟩
theorem tw18311756698094858931:True:=⟨⟩
theorem tw14995302099637728190:True:=⟨⟩
theorem tw17661526698304359030:True:=⟨⟩
theorem tw10232116605986933759:True:=⟨⟩
theorem tw17406670380865159292:True:=⟨⟩
theorem tw3536443789999121992:True:=⟨⟩
theorem tw9572208918854385671:True:=⟨⟩
theorem tw4755878376922520528:True:=⟨⟩
theorem tw5677477322241185395:True:=⟨⟩
theorem tw14867077221716930243:True:=⟨⟩
theorem tw5081522424230815448:True:=⟨⟩
theorem tw15306882166330611541:True:=⟨⟩
theorem tw1285272480583422806:True:=⟨⟩
theorem tw7831271346527366772:True:=⟨⟩
theorem tw15768500018126696572:True:=⟨⟩
theorem tw9068478988813373225:True:=⟨⟩
theorem tw11219450598210238598:True:=⟨⟩
theorem tw6317572816395506953:True:=⟨⟩
theorem tw13668490292042118985:True:=⟨⟩
theorem tw7629978486538617721:True:=⟨⟩
theorem tw1620962755546026619:True:=⟨⟩
theorem tw7311100397084890014:True:=⟨⟩
theorem tw10136692669641403597:True:=⟨⟩
theorem tw6563072759866574697:True:=⟨⟩
theorem tw2493998088394691219:True:=⟨⟩
theorem tw6614460059324409469:True:=⟨⟩
theorem tw16036583378264006686:True:=⟨⟩
theorem tw12011233537068310064:True:=⟨⟩
theorem tw12356427853276383307:True:=⟨⟩
theorem tw3176097370868319718:True:=⟨⟩
theorem tw16727709717293356988:True:=⟨⟩
theorem tw2183373486413373076:True:=⟨⟩
theorem tw11159052951900493102:True:=⟨⟩
theorem tw8444676905913390219:True:=⟨⟩
theorem tw12843180271725948457:True:=⟨⟩
theorem tw6490044541944650845:True:=⟨⟩
theorem tw1116987644754613649:True:=⟨⟩
theorem tw15817893545663277855:True:=⟨⟩
theorem tw15154591659816429859:True:=⟨⟩
theorem tw10956614035196889638:True:=⟨⟩
theorem tw14908712969130284066:True:=⟨⟩
theorem tw6208184504943622841:True:=⟨⟩
theorem tw5905740174960263890:True:=⟨⟩
theorem tw586646702436416972:True:=⟨⟩
theorem tw4173063131083419239:True:=⟨⟩
theorem tw12796659702399994831:True:=⟨⟩
theorem tw10227794917856830310:True:=⟨⟩
theorem tw1559117816913192189:True:=⟨⟩
theorem tw248627773639740570:True:=⟨⟩
theorem tw18194166977956876234:True:=⟨⟩
theorem tw940377767326082045:True:=⟨⟩
theorem tw17810478748040095034:True:=⟨⟩
theorem tw16804697451330848954:True:=⟨⟩
theorem tw15861738235747377096:True:=⟨⟩
theorem tw1005763063958864214:True:=⟨⟩
theorem tw14623308846274347373:True:=⟨⟩
theorem tw7046321987271062434:True:=⟨⟩
theorem tw5489128034635061190:True:=⟨⟩
theorem tw12408565402870776329:True:=⟨⟩
theorem tw4608088874889599140:True:=⟨⟩
theorem tw10571485339566066432:True:=⟨⟩
theorem tw16313137818296686694:True:=⟨⟩
theorem tw1791380098342345022:True:=⟨⟩
theorem tw13667293972359366776:True:=⟨⟩
theorem tw13350204380044526066:True:=⟨⟩
theorem tw7585748850805863319:True:=⟨⟩
theorem tw4035403895897455981:True:=⟨⟩
theorem tw15791980837441982685:True:=⟨⟩
theorem tw12682305591809933447:True:=⟨⟩
theorem tw15129745610415587795:True:=⟨⟩
theorem tw238757955332488812:True:=⟨⟩
theorem tw4677397472880240657:True:=⟨⟩
theorem tw15518585465837765025:True:=⟨⟩
theorem tw17551385722700800836:True:=⟨⟩
theorem tw602933101653627626:True:=⟨⟩
theorem tw10462230165415966300:True:=⟨⟩
theorem tw9841502361808934105:True:=⟨⟩
theorem tw9525525823572596929:True:=⟨⟩
theorem tw8919590752621699071:True:=⟨⟩
theorem tw7602539177008002398:True:=⟨⟩
theorem tw7444940975095447725:True:=⟨⟩
theorem tw6731035530247754519:True:=⟨⟩
theorem tw5645907990281597197:True:=⟨⟩
theorem tw18143995906409436422:True:=⟨⟩
theorem tw17597334412547149450:True:=⟨⟩
theorem tw17565867790518040543:True:=⟨⟩
theorem tw17085151869627743516:True:=⟨⟩
theorem tw17067041580248152914:True:=⟨⟩
theorem tw12746806629522566117:True:=⟨⟩
theorem tw1233644296253288575:True:=⟨⟩
theorem tw11096561892188477528:True:=⟨⟩
theorem tw10779994715592151497:True:=⟨⟩
theorem tw10487843000073162141:True:=⟨⟩
theorem tw9273561158491754860:True:=⟨⟩
theorem tw14168379757935756448:True:=⟨⟩
theorem tw12695557749039825631:True:=⟨⟩
theorem tw13983911521268718122:True:=⟨⟩
theorem tw267210179597035254:True:=⟨⟩
theorem tw17559119741468476531:True:=⟨⟩
theorem tw14833767338521788338:True:=⟨⟩
theorem tw12766082411294466129:True:=⟨⟩
theorem tw1200102109544279578:True:=⟨⟩
theorem tw3904446542916106303:True:=⟨⟩
theorem tw9099636124297892970:True:=⟨⟩
theorem tw3318481798699794023:True:=⟨⟩
theorem tw8240220236840630824:True:=⟨⟩
theorem tw5288398180883348126:True:=⟨⟩
end PySem.W.Fast
open PySem PySem.W PyProof.Rows
set_option maxRecDepth 100000 in
set_option maxHeartbeats 0 in
theorem PySem.Challenge.cw_pairwebs_k32_all_blooms_holds : PySem.Challenge.rw_pairwebs_k32_all_blooms.Holds := by
 w_on;o_law;k_head;(case hw=>w_witness2)
 k_fill
 refine K32.walk (l:=PySem.Challenge.rw_pairwebs_k32_all_blooms) rfl rfl (fun w h Y=>PySem.W.kIn_of Y) ?F
 case F=>
  intro w mg fa h KX G hmg
  refine' K32.all_mk KX G hmg K32.good ⟨K32.dm ?_ ?_ ?_ ?_,K32.dm ?_ ?_ ?_ ?_,K32.dm ?_ ?_ ?_ ?_,K32.dm ?_ ?_ ?_ ?_,K32.dm ?_ ?_ ?_ ?_,K32.dm ?_ ?_ ?_ ?_,K32.dm ?_ ?_ ?_ ?_,K32.dm ?_ ?_ ?_ ?_,K32.dm ?_ ?_ ?_ ?_,K32.dm ?_ ?_ ?_ ?_,K32.dm ?_ ?_ ?_ ?_,K32.dm ?_ ?_ ?_ ?_,K32.dm ?_ ?_ ?_ ?_,K32.dm ?_ ?_ ?_ ?_,K32.dm ?_ ?_ ?_ ?_,K32.dm ?_ ?_ ?_ ?_,K32.dm ?_ ?_ ?_ ?_,K32.dm ?_ ?_ ?_ ?_,K32.dm ?_ ?_ ?_ ?_,K32.dm ?_ ?_ ?_ ?_,K32.dm ?_ ?_ ?_ ?_,K32.dm ?_ ?_ ?_ ?_,K32.dm ?_ ?_ ?_ ?_,K32.dm ?_ ?_ ?_ ?_,K32.dm ?_ ?_ ?_ ?_,K32.dm ?_ ?_ ?_ ?_,K32.dm ?_ ?_ ?_ ?_,K32.dm ?_ ?_ ?_ ?_,K32.dm ?_ ?_ ?_ ?_,K32.dm ?_ ?_ ?_ ?_,K32.dm ?_ ?_ ?_ ?_,K32.dm ?_ ?_ ?_ ?_⟩ ?Z ?_
  case Z=>
   intro x hx
   simp only[Py.a2g',Zr,List.mem_nil_iff,or_false]at hx
   rcases hx with rfl|rfl|rfl|rfl|rfl|rfl|rfl|rfl|rfl|rfl|rfl|rfl|rfl|rfl|rfl|rfl|rfl|rfl|rfl|rfl|rfl<;>k_is
  all_goals first|k_is|skip
end
